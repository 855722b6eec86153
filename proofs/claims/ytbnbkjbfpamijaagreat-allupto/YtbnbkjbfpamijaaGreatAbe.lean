import Derived.Test.YtbnbkjbfpamijaaGreatAbc
import Derived.Test.YtbnbkjbfpamijaaGreatAbd
set_option linter.all false
set_option maxRecDepth 100000
set_option maxHeartbeats 0
namespace Go.Proofs.YtbnbkjbfpamijaaGreat
open Go.RowKit Go.Proofs.Panes
variable{ro:Option Addr}{b c g i j ob t:Nat}{m w2:World}{G k:Nat→Nat}{S:Nat→Prop}{E:hg}{o':Obj}
def mH.at {U:Nat->Prop}{w:World}{g:Value}{c:List hg}(i:mH U w g c){d:Nat}{e:hg}(h:c[d]?=some e):∃ a b f,g=.slice (some ⟨a,b,none⟩) c.length f/\a<w.heap.size/\CAt w a (b+d*8) e:=by
 obtain⟨o,f,rfl,j⟩:=i;obtain⟨a,b,rfl,p,k,l⟩:=j (by intro m;subst m;simp at h);exact⟨a,b,f,rfl,k,l d e h⟩
def KX:(Tryz.prog.info? 57).map (fun a=>(a.zero,a.size,a.bytes))=some (some (.agg #[.pointer none,.pointer none]),2,16):=by kernel_rfl
def qw2 (gq:Nat->Nat)(c e g:Nat->Prop)(l m:Nat):∃ i:Nat->Nat,(∀ a,c a->i a=l)/\(∀ a,¬c a->e a->i a=m)/\(∀ a,¬c a->¬e a->g a->i a=1)/\∀ a,¬c a->¬e a->¬g a->i a=gq a:=by
 have h:∀ a,∃ j,(c a->j=l)/\(¬c a->e a->j=m)/\(¬c a->¬e a->g a->j=1)/\(¬c a->¬e a->¬g a->j=gq a):=fun a=>by
  by_cases f:c a
  ·exact⟨l,fun _=>rfl,fun b=>absurd f b,fun b=>absurd f b,fun b=>absurd f b⟩
  ·by_cases k:e a
   ·exact⟨m,fun b=>absurd b f,fun _ _=>rfl,fun _ b=>absurd k b,fun _ b=>absurd k b⟩
   ·by_cases o:g a
    ·exact⟨1,fun b=>absurd b f,fun _ b=>absurd b k,fun _ _ _=>rfl,fun _ _ b=>absurd o b⟩
    ·exact⟨gq a,fun b=>absurd b f,fun _ b=>absurd b k,fun _ _ b=>absurd b o,fun _ _ _=>rfl⟩
 exact⟨fun d=>Classical.choose (h d),fun d=>(bS (h d)).1,fun d=>(bS (h d)).2.1,fun d=>(bS (h d)).2.2.1,fun d=>(bS (h d)).2.2.2⟩
section
variable {U:Nat->Prop}{wb:Nat}{gr gc go:Value}{C:List hg}{O:List (List gt)}{n:Nat}{w:World}{ss kr ki kf:Value}{sh:List gY}{er ei ef:List he}{gq:Nat->Nat}
def qj6 {ss kr ki kf:Value}{w:World}(a:w.heap[wb]?=some (.cells #[gr,.slice ro 0 i,go,ss,kr,ki,kf] 39))(b c d e:Int):Calls Tryz.prog 10 #[.pointer (some ⟨wb,0,none⟩),.agg #[.int .i64 b,.int .i64 c,.int .i64 d,.int .i64 e]] w fun f g=>f=.returned (.bool true)/\Below w.heap.size w g:=by
 obtain⟨-,h,-⟩:=zzc a;have j:=qh a;clear a;go_enter Tryz.func10,Tryz.ntmps10;go_wp2;go_ret;exact⟨rfl,(aa _ w).alloc (zzl _) _⟩
def mI.wE (R:mI U wb gr gc go C O n w ss kr ki kf sh er ei ef gq)(c3:ss=.slice ro sh.length i){b1:List (Option Nat)}{b2:Dv}(T:Below w.heap.size w w2)(V:qI k w2 j g b t b1 (xZ E))(W:∀ s,k s≠0->w.heap.size<=s)(X:qU S U G w2 ob (Vj E) b2 [])(Y:∀ s,S s->w.heap.size<=s)(c4:∀ s,k s≠0->¬S s)(c5:jU E=true){B:Nat}(Z:(w2.alloc o').grownBy m (Value.slice ro sh.length i).ownBlock)(a0:m.ownsRow 0 57 2 (.slice (some ⟨c,0,none⟩) (sh.length+1) B) (sh.length+1) (zE sh++[.pointer (some ⟨j,0,none⟩),.pointer (some ⟨ob,0,none⟩)]))(N:(Value.slice ro sh.length i).ownBlock=some c\/c=(w2.alloc o').heap.size):xf U wb gr gc go C O (n+1) (m.setCell ⟨wb,3,none⟩ (.slice (some ⟨c,0,none⟩) (sh.length+1) B))/\gp (fun d=>¬U d) w (m.setCell ⟨wb,3,none⟩ (.slice (some ⟨c,0,none⟩) (sh.length+1) B)):=by
 rw[<-c3] at Z N;have f:=R.mem;have d4:=T.size;have b3:=qh f.box;have a1:=fun u v=>(ab f.own u v).2;have d5:(w2.alloc o').heap.size=w2.heap.size+1:=(by show (w2.heap.push _).size=_;rw[bJ]);have J:gp (fun d=>d=wb\/ss.ownBlock=some d) w2 (m.setCell ⟨wb,3,none⟩ (.slice (some ⟨c,0,none⟩) (sh.length+1) B)):=(((gp.refl (fun d=>d=wb\/ss.ownBlock=some d) w2).alloc o').grown Z (fun l e=>.inl (.inr e))).setCell (p:=⟨wb,3,none⟩) (.inl (.inl rfl)) _;have x:=(gp.aD T).trans J;have c6:=(T.block _ b3).trans f.box;have c7:=qq f.own f.box (by decide);have b4:=zl Z (qx c6 o') c7;have c8:c≠wb:=fun e=>qq a0 b4 (by decide) (by rw[e];rfl);have a2:∀ d,(d=wb\/ss.ownBlock=some d)->gq d=1:=fun d o=>by
  rcases o with h | h
  ·rw[h];exact f.cw
  ·exact f.cs d h
 have K:∀ d,U d->¬(d=wb\/ss.ownBlock=some d):=fun d L o=>by
  have:=a2 d o;have:=(f.tL d L).1;omega
 have b5:∀ d,w.heap.size<=d->¬(d=wb\/ss.ownBlock=some d):=fun d I o=>by
  rcases o with h | h
  ·omega
  ·have:=a1 d h;omega
 obtain⟨a3,c9,c2,b6,b7⟩:=qw2 gq (fun d=>k d≠0) S (fun d=>d=c) (2*sh.length+2) (2*sh.length+3);have A:∀ d,d<w.heap.size->a3 d=gq d:=fun d o=>by
  have D:¬k d≠0:=fun e=>by have:=W d e;omega
  have F:¬S d:=fun e=>by have:=Y d e;omega
  by_cases e:d=c
  ·rw[b6 d D F e];rcases N with h | h
   ·rw[e];exact (f.cs c h).symm
   ·omega
  ·exact b7 d D F e
 have d0:a3 c=1:=by
  have D:¬k c≠0:=fun e=>by
   have:=V.lt c e;have:=W c e;rcases N with h | h
   ·have:=a1 c h;omega
   ·omega
  have F:¬S c:=fun e=>by
   have:=X.dl c e;have:=Y c e;rcases N with h | h
   ·have:=a1 c h;omega
   ·omega
  exact b6 c D F rfl
 have a4:∀ {e:TypeId}{d1:Nat}{b8:Value}{n:Nat}{d2:List Value},w.ownsRow 0 e d1 b8 n d2->39≠e->57≠e->∀ l,b8.ownBlock=some l->¬(l=wb\/ss.ownBlock=some l):=fun b9 a5 a6 l q H=>by
  rcases H with h | h
  ·exact qq b9 f.box a5 (by rw[<-h];exact q)
  ·obtain⟨a7,a8,e⟩:=qE f.own h;exact qq b9 e a6 q
 have a9:∀ (P:TypeId),39≠P->57≠P->∀ l,(l=wb\/ss.ownBlock=some l)->l<w.heap.size->∃ a7 c0 a8,w.heap[l]?=some (.cells a7 c0 a8)/\c0≠P:=fun P a5 a6 l q _=>by
  rcases q with h | h
  ·rw[h];exact⟨_,_,_,f.box,a5⟩
  ·obtain⟨a7,a8,e⟩:=qE f.own h;exact⟨_,_,_,e,a6⟩
 have c1:=x.size;refine⟨⟨.slice (some ⟨c,0,none⟩) (sh.length+1) B,kr,ki,kf,sh++[⟨j,ob,xZ E,Vj E⟩],er,ei,ef,a3,⟨?_,?_,fun y M r=>?_,fun y M r=>?_,qi f.oR x (a4 f.oR (by decide) (by decide)),qi f.oI x (a4 f.oI (by decide) (by decide)),qi f.oF x (a4 f.oF (by decide) (by decide)),
  fun e z=>⟨(f.eR e z).1.uf x (a9 _ (by decide) (by decide)),fun l q=>by rw[A l (f.uE l (by rw[(f.eR e z).2 l q];omega))];exact (f.eR e z).2 l q⟩,fun e z=>⟨(f.eI e z).1.uf x (a9 _ (by decide) (by decide)),fun l q=>by rw[A l ((f.eI e z).1.lt q)];exact (f.eI e z).2 l q⟩,fun e z=>⟨(f.eF e z).1.uf x (a9 _ (by decide) (by decide)),fun l q=>by rw[A l ((f.eF e z).1.lt q)];exact (f.eF e z).2 l q⟩,
  by rw[A wb b3];exact f.cw,fun u v=>?_,fun u v=>by rw[A u (ab f.oR u v).2];exact f.cR u v,fun u v=>by rw[A u (ab f.oI u v).2];exact f.cI u v,fun u v=>by rw[A u (ab f.oF u v).2];exact f.cF u v,fun d o=>?_,f.wo.but x K,f.uO.but x K,fun l q=>⟨by rw[A l (f.tL l q).2];exact (f.tL l q).1,zzm (f.tL l q).2 c1⟩⟩,fun M r=>?_,?_⟩,x.wide (fun d _ o L=>K d L o)⟩
 ·simpa using qp (i:=3) b4 (.slice (some ⟨c,0,none⟩) (sh.length+1) B)
 ·have:=aw a0 (a:=⟨wb,3,none⟩) (by simp[Value.ownBlock];exact c8) (.slice (some ⟨c,0,none⟩) (sh.length+1) B);rw[Xk,ae];exact this
 ·rcases cz y sh.length with h | h
  ·rw[aM h] at r;exact (f.pr y M r).but x (fun d I H o=>by have:=a2 d o;omega) (fun d I H=>by rw[A d I];exact H)
  ·rw[aq h] at r;have b0:y-sh.length=0:=by
    rcases bg (y-sh.length) with e | e
    ·exact e
    ·rw[aI (by simp;omega)] at r;cases r
   rw[b0] at r;have:=aA r;subst this;have ei:y=sh.length:=(by omega);subst ei;exact⟨k,g,b,t,b1,V.but J (fun s Q=>b5 s (W s Q)),fun d o=>c9 d o⟩
 ·rcases cz y sh.length with h | h
  ·rw[aM h] at r;exact (f.dc y M r).but x (fun d I H o=>by have:=a2 d o;omega) K (fun d I H=>by rw[A d I];exact H)
  ·rw[aq h] at r;have b0:y-sh.length=0:=by
    rcases bg (y-sh.length) with e | e
    ·exact e
    ·rw[aI (by simp;omega)] at r;cases r
   rw[b0] at r;have:=aA r;subst this;have ei:y=sh.length:=(by omega);subst ei;exact⟨S,G,b2,[],X.frame J (fun s Q=>⟨fun d3=>b5 s (Y s d3) Q,fun L=>K s L Q⟩),fun d o=>c2 d (fun e=>c4 d e o) o⟩
 ·simp only[Value.ownBlock,ac] at v;rw[<-v];exact d0
 ·by_cases D:k d≠0
  ·exact zzm (V.lt d D) J.size
  ·by_cases F:S d
   ·exact zzm (X.dl d F) J.size
   ·by_cases e:d=c
    ·rw[e];have:=(ab a0 c rfl).2;simpa[World.setCell] using this
    ·rw[b7 d D F e] at o;exact zzm (f.uE d o) c1
 ·rcases al.1 r with h | h
  ·exact (R.each M h).more
  ·rw[ay.1 h];exact tq c5 j ob (n+1)
 ·have:=R.len;rw[ae];simp only[aX,cM];omega
def qj5 (v:mI U wb gr gc go C O n w ss kr ki kf sh er ei ef gq)(E i F G:Int)(c4:-9223372036854775808<=i/\i<=9223372036854775807)(k6:n<=1100000)(e9:0<C.length/\C.length<=10000000000000):Calls Tryz.prog 10 #[.pointer (some ⟨wb,0,none⟩),.agg #[.int .i64 E,.int .i64 i,.int .i64 F,.int .i64 G]] w fun x f=>x=.returned (.bool true)/\xf U wb gr gc go C O (n+1) f/\gp (fun f0=>¬U f0) w f:=by
 have k7:=v.len.1;obtain⟨b,c5,f1⟩:=qr0 i C.length e9.1;obtain⟨L,c6⟩:∃ L,C[b]?=some L:=⟨C[b],by simp[f1]⟩;obtain⟨c,e,P,f2,y,f3⟩:=v.mem.wo.at c6;have f4:=fun f=>by
  have v:=Jp i C.length f c4 (by omega);rw[c5] at v;exact v
 have Q:=v.mem.box;rw[f2] at Q;obtain⟨-,c7,-,f5,-⟩:=zzc Q;have a6:=qh Q;obtain⟨a7,a8,a9,b0,b1,b2,b3,b4⟩:=f3;have k8:¬(C.length:Int)=0:=(by omega);have k9:(0:Int)<=(b:Int):=(by omega);have l0:(b:Int)<(C.length:Int):=(by omega);have H:=qg v;obtain⟨l,m,h,o,q,r,j,s⟩:=L;simp only at a7 a8 a9 b0 b1 b2 b3 b4;clear v Q c4 c5 c6;go_enter Tryz.func10,Tryz.ntmps10;go_wp2_with fail
 have k:Below w.heap.size w (w.alloc (.cells #[.int .i64 E,.int .i64 i,.int .i64 F,.int .i64 G] 42)):=(aa _ w).alloc (zzl _) _;have b5:(w.alloc (.cells #[.int .i64 E,.int .i64 i,.int .i64 F,.int .i64 G] 42)).heap[w.heap.size]?=some (.cells #[.int .i64 E,.int .i64 i,.int .i64 F,.int .i64 G] 42):=qt _ _ _ rfl;generalize w.alloc (.cells #[.int .i64 E,.int .i64 i,.int .i64 F,.int .i64 G] 42)=a at *;have f6:=(k.cell (p:=⟨wb,1,none⟩) a6).trans c7;obtain⟨-,f7,-⟩:=zzc b5;have f8:=(k.cell (p:=⟨c,e+b*8,none⟩) y).trans a7;have f9:=(k.cell (p:=⟨c,e+b*8+1,none⟩) y).trans a8;have g0:=(k.cell (p:=⟨c,e+b*8+2,none⟩) y).trans a9;have g1:=(k.cell (p:=⟨c,e+b*8+3,none⟩) y).trans b0;have g2:=(k.cell (p:=⟨c,e+b*8+4,none⟩) y).trans b1;have g3:=(k.cell (p:=⟨c,e+b*8+5,none⟩) y).trans b2;have g4:=(k.cell (p:=⟨c,e+b*8+6,none⟩) y).trans b3;have g5:=(k.cell (p:=⟨c,e+b*8+7,none⟩) y).trans b4;have g6:=qh b5;have l1:wb<a.heap.size:=(by omega);have l2:c<a.heap.size:=(by omega);have g7:=qg k;clear k b5 a7 a8 a9 b0 b1 b2 b3 b4 c7;rename_i g8 b6;have g9:Hid (g8 {tmps:=#[.pointer (some ⟨wb,0,none⟩),.agg #[.int .i64 E,.int .i64 i,.int .i64 F,.int .i64 G],undef,.pointer (some ⟨w.heap.size,0,none⟩),.bool false,.pointer (some ⟨a.heap.size,0,none⟩),undef,undef,undef,undef,.pointer (some ⟨wb,0,none⟩),.pointer (some ⟨wb,0,none⟩),.pointer (some ⟨wb,0,none⟩),.pointer (some ⟨wb,1,none⟩),.slice (some ⟨c,e,none⟩) C.length P,.int .i64 C.length,.bool false,.pointer (some ⟨wb,0,none⟩),.pointer (some ⟨wb,0,none⟩),.pointer (some ⟨wb,0,none⟩),.pointer (some ⟨wb,1,none⟩),.slice (some ⟨c,e,none⟩) C.length P,.pointer (some ⟨w.heap.size,1,none⟩),.int .i64 i,.pointer (some ⟨wb,0,none⟩),.pointer (some ⟨wb,0,none⟩),.pointer (some ⟨wb,0,none⟩),.pointer (some ⟨wb,1,none⟩),.slice (some ⟨c,e,none⟩) C.length P,.int .i64 C.length,.int .i64 b,.pointer (some ⟨c,e+b*8,none⟩),.agg #[.int .i64 l,.int .i64 m,.int .i64 h,.int .i64 o,.int .i64 q,.int .i64 r,.int .i64 j,.int .i64 s],undef,undef,undef,undef,undef,undef,undef,undef,undef,undef,undef,undef,undef,undef,undef,undef,undef,undef,undef,undef,undef,undef,undef,undef,undef,undef,undef,undef,undef,undef,undef,undef,undef,undef,undef],defers:=[]} (a.alloc (.cells #[.int .i64 l,.int .i64 m,.int .i64 h,.int .i64 o,.int .i64 q,.int .i64 r,.int .i64 j,.int .i64 s] 49)).drew):=by
  refine b6 _ _ ?_;have c8:Below w.heap.size w (a.alloc (.cells #[.int .i64 l,.int .i64 m,.int .i64 h,.int .i64 o,.int .i64 q,.int .i64 r,.int .i64 j,.int .i64 s] 49)).drew:=((qb g7).alloc (cA g6) _).drew;have R:(a.alloc (.cells #[.int .i64 l,.int .i64 m,.int .i64 h,.int .i64 o,.int .i64 q,.int .i64 r,.int .i64 j,.int .i64 s] 49)).drew.heap[a.heap.size]?=some (.cells #[.int .i64 l,.int .i64 m,.int .i64 h,.int .i64 o,.int .i64 q,.int .i64 r,.int .i64 j,.int .i64 s] 49):=qt _ _ _ rfl;clear f8 f9 g0 g1 g2 g3 g4 g5 f6 f7 b6;generalize (a.alloc (.cells #[.int .i64 l,.int .i64 m,.int .i64 h,.int .i64 o,.int .i64 q,.int .i64 r,.int .i64 j,.int .i64 s] 49)).drew=c9 at *;obtain⟨T,V,W,X,Y,Z,a0,a1,-⟩:=zzc R;have g:=qh R;have M:=qg c8;have l3:=qg R;have d0:=fun w=>Z4 2 w;have d1:=fun w=>Z4 0 w;clear c8 R;cases z:jU ⟨l,m,h,o,q,r,j,s⟩ with
  | false=>
   have t:=qg (Vd ⟨l,m,h,o,q,r,j,s⟩ c9 z);have u:=fun w=>qa6 _ w z;unfold vF at t u;simp only at t u;clear z d1;go_wp2_with fail
   refine (qb t).mono ?_;rintro x i0 ⟨rfl,d⟩;have d2:=(d.cell (p:=⟨a.heap.size,0,none⟩) g).trans T;have d3:=(d.cell (p:=⟨a.heap.size,1,none⟩) g).trans V;have d4:=(d.cell (p:=⟨a.heap.size,2,none⟩) g).trans W;have d5:=(d.cell (p:=⟨a.heap.size,3,none⟩) g).trans X;have d6:=(d.cell (p:=⟨a.heap.size,4,none⟩) g).trans Y;have d7:=(d.cell (p:=⟨a.heap.size,5,none⟩) g).trans Z;have d8:=(d.cell (p:=⟨a.heap.size,6,none⟩) g).trans a0;have d9:=(d.cell (p:=⟨a.heap.size,7,none⟩) g).trans a1;have I:=qg ((qb M).trans (d.mono (qb M).size));clear d t T V W X Y Z a0 a1;go_wp2_with fail
   refine ((qb u) _).mono ?_;rintro x A ⟨rfl,B⟩;have J:=qg ((qb I).trans (B.mono (qb I).size));clear B u;go_wp2_with fail
   refine ((qb d0) _).mono ?_;rintro x i1 ⟨rfl,N⟩;have b7:=N.symm;clear N;subst b7;go_wp2;go_ret;exact⟨rfl,(qb H).same (qb J),.aD (qb J)⟩
  | true=>
   have l4:1<=h/\h<=4/\1<=j/\j<=4:=(by have:=z;simp only[jU,aK,jh] at this;omega);obtain⟨a2,i2⟩:∃ a2:Nat,h=a2:=⟨h.toNat,by omega⟩;subst i2;have t:=qg (Yb ⟨l,m,a2,o,q,r,j,s⟩ c9 z a2 rfl);have u:=fun w i3=>zb1 _ w z U i3;unfold vF at t u;simp only at t u;have i4:=qg z;obtain⟨b8,b9,c0⟩:=qr (qb H).mem.own;have i5:w.cell? ⟨wb,3,none⟩=some (.slice b8 sh.length b9):=(by rw[<-c0];exact f5);have e0:=qg c0;clear z d0 c0;go_wp2_with fail
   refine (qb t).mono ?_;rintro x i0 ⟨i6,l5,l6,l7,l8,rfl,e1,i7,d⟩;have d2:=(d.cell (p:=⟨a.heap.size,0,none⟩) g).trans T;have d3:=(d.cell (p:=⟨a.heap.size,1,none⟩) g).trans V;have d4:=(d.cell (p:=⟨a.heap.size,2,none⟩) g).trans W;have d5:=(d.cell (p:=⟨a.heap.size,3,none⟩) g).trans X;have d6:=(d.cell (p:=⟨a.heap.size,4,none⟩) g).trans Y;have d7:=(d.cell (p:=⟨a.heap.size,5,none⟩) g).trans Z;have d8:=(d.cell (p:=⟨a.heap.size,6,none⟩) g).trans a0;have d9:=(d.cell (p:=⟨a.heap.size,7,none⟩) g).trans a1;have I:=qg ((qb M).trans (d.mono (qb M).size));have c1:=qg e1;have l9:=(qb M).size;have n0:=d.size;clear d e1 t T V W X Y Z a0 a1;go_wp2_with fail
   refine ((qb u) _ (fun K D=>by have:=((qb H).mem.tL K D).2;have:=(qb I).size;omega)).mono ?_;rintro x A ⟨i8,n1,rfl,e2,B⟩;have c2:=(qb I).trans (B.mono (qb I).size);have i9:=qg ((qb c1).below B);have j0:=qg (qb c1).lt;have j1:=qg e2;have j2:=(c2.cell (p:=⟨wb,3,none⟩) a6).trans i5;have J:=qg c2;have n2:=B.size;clear B u e2 c2 c1 d2 d3 d4 d5 d6 d7 d8 d9;go_wp2_with fail
   refine ((qb d1) _).mono ?_;rintro x i1 ⟨rfl,N⟩;have b7:=N.symm;clear N;subst b7;obtain⟨j3,j4,j5,j6,j7⟩:=aZ KX;have a3:=((qb J).block _ a6).trans (qb H).mem.box;have c3:A.ownsRow 0 57 2 (.slice b8 sh.length b9) sh.length (zE sh):=(by rw[<-qb e0];exact qi (S:=fun _=>False) (qb H).mem.own (.aD (qb J)) (fun _ _ L=>L));have e3:=qq c3 a3 (by decide);have a4:=qh a3;have j8:=qj a3 3;have j9:=qg c3;have e4:=qg e3;clear a3 c3 e3;go_wp2_with (
    at_builtin
    refine wpList_append_lies _ rfl _ _ 32 rfl 0 57 j3 _ 2 16 Tryz.underlying32 j4 j5 j6 j7 rfl (by decide) (.slice b8 sh.length b9) sh.length (zE sh) rfl (aR (qb j9) _) ⟨A.heap.size,0,none⟩ 1 1 [.pointer (some ⟨i6,0,none⟩),.pointer (some ⟨i8,0,none⟩)] rfl rfl (xT (qt _ _ _ rfl)) (by intro n3 e5;simp at e5;rcases e5 with rfl | rfl<;>rfl) (by decide) (by unfold maxLen;omega) (by omega) (aj _) _ rfl ?_;intro n4 gk n5 e6 a5 e7 k0;have n6:=(a5.frozen_far ⟨wb,3,none⟩ (zzm a4 (by show _<=(A.heap.push _).size;rw[bJ];omega)) (cu (qb e4))).trans ((cW (w:=A) (bH _ _ _ a4)).trans j8);have n7:=(a5.cell_far ⟨wb,3,none⟩ (zzm a4 (by show _<=(A.heap.push _).size;rw[bJ];omega)) (cu (qb e4))).trans ((aH (w:=A) (bH _ _ _ a4)).trans j2);have k1:=qg e6;have k2:=qg a5;have k3:=qg e7;clear e6 a5 e7 k0)
   go_ret;exact⟨rfl,(qb H).wE (qb e0) (qb J) (qb i9) (fun K D=>by have:=i7 K D;omega) (qb j1) (fun K D=>by have:=D.1;omega) (fun K D k4=>by have:=(qb j0) K D;have:=k4.1;omega) (qb i4) (qb k2) (qb k1) (qb k3)⟩
 clear b6;go_region_held3 (fun f=>f.cell? ⟨wb,1,none⟩=some (.slice (some ⟨c,e,none⟩) C.length P)/\f.cell? ⟨w.heap.size,1,none⟩=some (.int .i64 i)/\f.cell? ⟨c,e+b*8,none⟩=some (.int .i64 l)/\f.cell? ⟨c,e+b*8+1,none⟩=some (.int .i64 m)/\f.cell? ⟨c,e+b*8+2,none⟩=some (.int .i64 h)/\f.cell? ⟨c,e+b*8+3,none⟩=some (.int .i64 o)/\f.cell? ⟨c,e+b*8+4,none⟩=some (.int .i64 q)/\f.cell? ⟨c,e+b*8+5,none⟩=some (.int .i64 r)/\f.cell? ⟨c,e+b*8+6,none⟩=some (.int .i64 j)/\f.cell? ⟨c,e+b*8+7,none⟩=some (.int .i64 s))
  (first | (refine⟨?_,?_,?_,?_,?_,?_,?_,?_,?_,?_⟩<;>assumption) | go_keep)
  ((go_at_call 11;refine ((qb f4) _).mono ?_;rintro x f ⟨rfl,e8⟩;have k5:=e8.symm;clear e8;subst k5))
 all_goals
  simp only[Exit.then];go_simp;exact qb g9
def qq4 (h:mI U wb gr gc go C O n w ss kr ki kf sh er ei ef gq)(a b c:Int)(k:-9223372036854775808<=a/\a<=9223372036854775807)(o:n<=1100000)(p:C.length<=10000000000000):Calls Tryz.prog 7 #[.pointer (some ⟨wb,0,none⟩),.agg #[.int .i64 6,.int .i64 a,.int .i64 b,.int .i64 c]] w fun d e=>d=.returned (.bool true)/\xf U wb gr gc go C O (n+1) e/\gp (fun i=>¬U i) w e:=by
 have j:Below w.heap.size w (w.alloc (.cells #[.int .i64 6,.int .i64 a,.int .i64 b,.int .i64 c] 42)):=(aa _ w).alloc (zzl _) _;have f:mI U wb gr gc go C O n (w.alloc (.cells #[.int .i64 6,.int .i64 a,.int .i64 b,.int .i64 c] 42)) ss kr ki kf sh er ei ef gq:=⟨h.mem.below j,h.each,h.len⟩;have q:Hid (Calls Tryz.prog 10 #[.pointer (some ⟨wb,0,none⟩),.agg #[.int .i64 6,.int .i64 a,.int .i64 b,.int .i64 c]] (w.alloc (.cells #[.int .i64 6,.int .i64 a,.int .i64 b,.int .i64 c] 42)) fun d e=>d=.returned (.bool true)/\xf U wb gr gc go C O (n+1) e/\gp (fun i=>¬U i) (w.alloc (.cells #[.int .i64 6,.int .i64 a,.int .i64 b,.int .i64 c] 42)) e):=by
  show Calls _ _ _ _ _;by_cases h0:C.length=0
  ·obtain⟨v,x,d,_⟩:=f.mem.wo;rw[h0] at d;have l:=f.mem.box;rw[d] at l;exact (qj6 l 6 a b c).mono fun y e ⟨r,g⟩=>⟨r,f.same g,.aD g⟩
  ·exact qj5 f 6 a b c k o ⟨by omega,p⟩
 have s:=qg j;clear h f j k;go_enter Tryz.func7,Tryz.ntmps7;go_wp2_with (go_at_call 10;refine (qb q).mono ?_;rintro d e ⟨rfl,m,g⟩;have t:=qg m;have u:=qg g;clear m g)
 go_ret;exact⟨rfl,qb t,(gp.aD (qb s)).trans (qb u)⟩
def qg9 (b:mI U wb gr gc go C O n w ss kr ki kf sh er ei ef gq)(a f g h:Int)(j:7<=a/\a<=11)(h0:sh.length=0):Calls Tryz.prog 7 #[.pointer (some ⟨wb,0,none⟩),.agg #[.int .i64 a,.int .i64 f,.int .i64 g,.int .i64 h]] w fun k i=>k=.returned (.bool true)/\xf U wb gr gc go C O (n+1) i/\gp (fun l=>¬U l) w i:=by
 obtain⟨p,q,d⟩:=qr b.mem.own;rw[h0] at d;have c:=b.mem.box;rw[d] at c;obtain⟨r,-⟩:=zzk c 3;have s:=qh c;have t:¬a<1:=(by omega);have k2:¬11<a:=(by omega);have u:¬a<=5:=(by omega);have v:¬a=6:=(by omega);have e:Below w.heap.size w (w.alloc (.cells #[.int .i64 a,.int .i64 f,.int .i64 g,.int .i64 h] 42)):=(aa _ w).alloc (zzl _) _;have m:=qg (b.same e);have o:=qg e;clear b c e d j;go_enter Tryz.func7,Tryz.ntmps7;go_wp2;go_ret;exact⟨rfl,qb m,.aD (qb o)⟩
end
variable{pv v va vf z:Value}{b7:List he}{w:World}
section
variable {U:Nat->Prop}{wb:Nat}{gr gc go:Value}{C:List hg}{O:List (List gt)}{n:Nat}{x:gY}
def vY (U:Nat->Prop)(wb:Nat)(gr gc go:Value)(C:List hg)(O:List (List gt))(c d e f:Value)(g:List gY)(h i j:List he)(gq:Nat->Nat)(k:Nat)(l:gY)(m:Value)(o:World)(p:Ending)(a:World):Prop:=∃ b,p=.returned m/\qW U wb gr gc go C O a c d e f (g.set k l) h i j b/\iT U gq b o a
def vY.same {a:List gY}{b c:List he}{gq:Nat->Nat}{d e:gY}(g:qW U wb gr gc go C O w v z vf va a b7 b c gq)(h:a[i]?=some d)(j:e=d)(f:Below w.heap.size w w2):vY U wb gr gc go C O v z vf va a b7 b c gq i e pv w (.returned pv) w2:=by
 subst j;refine⟨gq,rfl,?_,.below f⟩;rw[vP h];exact g.below f
def ql7 (w:jz n x):∃ (r a:Int)(B:qY)(D:Dc),jz (n+1) {x with s:=B,d:=D}/\ (∀ {e:World}{g h i j:Value}{f:List gY}{k l m:List he}{gq:Nat->Nat}{o:Nat}{c:gY},qW U wb gr gc go C O e g h i j f k l m gq->f[o]?=some c->c.s=x.s->Calls Tryz.prog 12 #[.pointer (some ⟨c.xp,0,none⟩)] e (vY U wb gr gc go C O g h i j f k l m gq o {c with s:=B} (.tuple #[.int .i64 r,.int .i64 a]) e))/\ (∀ {e:World}{g h i j:Value}{f:List gY}{k l m:List he}{gq:Nat->Nat}{o:Nat}{c:gY},qW U wb gr gc go C O e g h i j f k l m gq->f[o]?=some c->c.d=x.d->Calls Tryz.prog 13 #[.pointer (some ⟨c.rp,0,none⟩)] e (vY U wb gr gc go C O g h i j f k l m gq o {c with d:=D} (.tuple #[.int .i64 r,.int .i64 a]) e)):=by
 obtain⟨E,F,G,-,-⟩:=w.vw;have y:=sg w.r;cases t:qC x.s.ks with
 | none=>
  refine⟨0,5,x.s,x.d,w.more,fun {e g h i j f k l m gq o c} p q a=>?_,fun {e g h i j f k l m gq o c} p q a=>?_⟩
  ·refine (p.wu q (by rw[a];exact E) (by rw[a];exact G)).mono ?_;rintro z A (⟨r,u,b,-⟩ | ⟨-,rfl,H⟩)
   ·rw[a,t] at b;cases b
   ·exact vY.same p q (by rw[<-a]) H
  ·refine (p.wA q (by rw[a];exact F)).mono ?_;rintro z A (⟨r,u,b,-⟩ | ⟨-,rfl,rfl⟩)
   ·rw[a,<-y,t] at b;cases b
   ·exact vY.same p q (by rw[<-a]) (aa _ _)
 | some r=>
  refine⟨(r:Int),0,{x.s with ks:=x.s.ks.set r (some (yS x.s.c))},{x.d with ks:=x.d.ks.set r (some (yS x.d.c))},(w.conn t).more,fun {e g h i j f k l m gq o c} p q a=>?_,fun {e g h i j f k l m gq o c} p q a=>?_⟩
  ·refine (p.wu q (by rw[a];exact E) (by rw[a];exact G)).mono ?_;rintro z A (⟨I,u,b,rfl,v,k2⟩ | ⟨b,-⟩)
   ·rw[a,t] at b;have:=aA b;subst this;rw[a] at v;exact⟨u,rfl,v,k2⟩
   ·rw[a,t] at b;cases b
  ·refine (p.wA q (by rw[a];exact F)).mono ?_;rintro z A (⟨I,u,b,rfl,v,k2⟩ | ⟨b,-⟩)
   ·rw[a,<-y,t] at b;have:=aA b;subst this;rw[a] at v;exact⟨u,rfl,v,k2⟩
   ·rw[a,<-y,t] at b;cases b
def ql1 (q:jz n x)(H:n<=1100000)(r:Int):∃ (B:Int)(D:qY)(E:Dc),jz (n+1) {x with s:=D,d:=E}/\ (∀ {c:World}{f g h i:Value}{e:List gY}{j k l:List he}{gq:Nat->Nat}{m:Nat}{b:gY},qW U wb gr gc go C O c f g h i e j k l gq->e[m]?=some b->b.s=x.s->Calls Tryz.prog 15 #[.pointer (some ⟨b.xp,0,none⟩),.int .i64 r] c (vY U wb gr gc go C O f g h i e j k l gq m {b with s:=D} (.int .i64 B) c))/\ (∀ {c:World}{f g h i:Value}{e:List gY}{j k l:List he}{gq:Nat->Nat}{m:Nat}{b:gY},qW U wb gr gc go C O c f g h i e j k l gq->e[m]?=some b->b.d=x.d->Calls Tryz.prog 16 #[.pointer (some ⟨b.rp,0,none⟩),.int .i64 r] c (vY U wb gr gc go C O f g h i e j k l gq m {b with d:=E} (.int .i64 B) c)):=by
 obtain⟨F,K,L,-,-⟩:=q.vw;have w:=q.wi r;cases t:jS x.s.ks r with
 | false=>
  rw[t] at w;refine⟨3,x.s,x.d,q.more,fun {c f g h i e j k l gq m b} o p a=>?_,fun {c f g h i e j k l gq m b} o p a=>?_⟩
  ·refine (o.vs p (by rw[a];exact F) r (by rw[a];exact t)).mono ?_;rintro y z ⟨rfl,I⟩;exact vY.same o p (by rw[<-a]) I
  ·refine (o.we p r (by rw[a];exact w.symm)).mono ?_;rintro y z ⟨rfl,rfl⟩;exact vY.same o p (by rw[<-a]) (aa _ _)
 | true=>
  rw[t] at w;obtain⟨u,M,J,N⟩:=VE t;subst J;have G:=q.marks H;refine⟨0,yi x.s u,yj x.d u,(q.disc t).more,fun {c f g h i e j k l gq m b} o p a=>?_,fun {c f g h i e j k l gq m b} o p a=>?_⟩
  ·refine (o.pDisc p (by rw[a];exact F) u (by rw[a];exact t) (by rw[a];exact ql2 q.ok (by omega) u)).mono ?_;rintro y z ⟨rfl,A,v,k2⟩;rw[a] at v;exact⟨A,rfl,v,k2⟩
  ·refine (o.dDisc p u (by rw[a];exact w.symm) (by rw[a];exact G.1) (by rw[a];exact G.2) (by rw[a];omega)).mono ?_;rintro y z ⟨rfl,A,v,k2⟩;rw[a] at v;exact⟨A,rfl,v,k2⟩
def qq2 (w:jz n x)(y:Int)(b:List gt)(R:b.length<=1759218604390)(F:∀ x∈b,x.px.length<=17592186043904):∃ (S:Int)(T:qY)(V:Dc),jz (n+1) {x with s:=T,d:=V}/\ (∀ {h:World}{k l m o:Value}{j:List gY}{p q r:List he}{gq:Nat->Nat}{t:Nat}{i:gY}(v:Nat->Prop)(c:Option Addr)(e:Nat),qW U wb gr gc go C O h k l m o j p q r gq->j[t]?=some i->i.s=x.s->gW v h (.slice c b.length e) b->(∀ z,v z->z<h.heap.size)->Calls Tryz.prog 22 #[.pointer (some ⟨i.xp,0,none⟩),.int .i64 y,.slice c b.length e] h (vY U wb gr gc go C O k l m o j p q r gq t {i with s:=T} (.int .i64 S) h))/\ (∀ {h:World}{k l m o:Value}{j:List gY}{p q r:List he}{gq:Nat->Nat}{t:Nat}{i:gY}(c:Option Addr)(e:Nat),qW U wb gr gc go C O h k l m o j p q r gq->j[t]?=some i->i.d=x.d->gW U h (.slice c b.length e) b->Calls Tryz.prog 24 #[.pointer (some ⟨i.rp,0,none⟩),.int .i64 y,.slice c b.length e] h (vY U wb gr gc go C O k l m o j p q r gq t {i with d:=V} (.int .i64 S) h)):=by
 obtain⟨J,a9,W,X,Y⟩:=w.vw;have G:=w.wi y;cases K:jS x.s.ks y with
 | false=>
  rw[K] at G;refine⟨3,x.s,x.d,w.more,fun {h k l m o j p q r gq t i} v c e f g a u H=>?_,fun {h k l m o j p q r gq t i} c e f g a u=>?_⟩
  ·refine (f.wC g (by rw[a];exact J) y (by rw[a];exact K) _).mono ?_;rintro A B ⟨rfl,L⟩;exact vY.same f g (by rw[<-a]) L
  ·refine (f.uZ g y c b.length e (by omega) (by rw[a,<-G];rfl)).mono ?_;rintro A B ⟨rfl,rfl⟩;exact vY.same f g (by rw[<-a]) (aa _ _)
 | true=>
  rw[K] at G;obtain⟨M,E,a4,I⟩:=VE G.symm;subst a4;obtain⟨Z,c2,a0,a1,a5⟩:=w.uL I;have a2:=a5 b;by_cases D:qL x.d.c E b=0
  ·obtain⟨a6,-,-,-⟩:=Xw D;refine⟨0,{x.s with ks:=x.s.ks.set M (some (X5 (qH E) b))},{x.d with ks:=x.d.ks.set M (some (Ji E b))},(w.subm I D).more,fun {h k l m o j p q r gq t i} v c e f g a u H=>?_,fun {h k l m o j p q r gq t i} c e f g a u=>?_⟩
   ·refine (f.pSub g (by rw[a];exact J) (by rw[a];exact Z) (by rw[a];exact⟨Y,X,W⟩) a0 v c e b u H R F).mono ?_;rw[a,a2,D];rintro A B ⟨rfl,N,-⟩;obtain⟨P,Q,k2⟩:=N rfl;exact⟨P,rfl,Q,k2⟩
   ·refine (f.dSub g (by rw[a];exact I) c2 (by rw[a];exact a1) b c e u a6 F).mono ?_;rw[a,D];rintro A B ⟨rfl,N,-⟩;obtain⟨P,Q,k2⟩:=N rfl;exact⟨P,rfl,Q,k2⟩
  ·refine⟨qL x.d.c E b,x.s,x.d,w.more,fun {h k l m o j p q r gq t i} v c e f g a u H=>?_,fun {h k l m o j p q r gq t i} c e f g a u=>?_⟩
   ·refine (f.pSub g (by rw[a];exact J) (by rw[a];exact Z) (by rw[a];exact⟨Y,X,W⟩) a0 v c e b u H R F).mono ?_;rw[a,a2];rintro A B ⟨rfl,-,z⟩;exact vY.same f g (by rw[<-a]) (z D)
   ·by_cases a7:1<=b.length/\b.length<=20
    ·refine (f.dSub g (by rw[a];exact I) c2 (by rw[a];exact a1) b c e u a7 F).mono ?_;rw[a];rintro A B ⟨rfl,-,z⟩;exact vY.same f g (by rw[<-a]) (z D)
    ·have a3:gz (b.length:Int) 1 20=false:=by
      cases L:gz (b.length:Int) 1 20 with
      | false=>rfl
      | true=>rw[jh] at L;omega
     have a8:qL x.d.c E b=3:=(by unfold qL;rw[an a3]);rw[a8];refine (f.uZ g M c b.length e (by omega) (by rw[a3,dN])).mono ?_;rintro A B ⟨rfl,rfl⟩;exact vY.same f g (by rw[<-a]) (aa _ _)
end
variable{d:TypeId}{xs:List Value}{R:List Int}{m':List (Int×Int)}{f:Array Value}
section
variable {U:Nat->Prop}{wb:Nat}{gr gc go:Value}{C:List hg}{O:List (List gt)}{n:Nat}{w w':World}{ss kr ki kf:Value}{sh:List gY}{er ei ef:List he}{gq col':Nat->Nat}{i:Nat}{x:gY}
structure tA where
 T:Int
 F:Int
 P:Int
 E:Int
 la:List Int
 lf:List (Int×Int)
 s:qY
 d:Dc
def tz (U:Nat->Prop)(wb:Nat)(gr gc go:Value)(C:List hg)(O:List (List gt))(ss kr ki kf:Value)(sh:List gY)(er ei ef:List he)(gq:Nat->Nat)(i:Nat)(x:gY)(a:tA)(w:World)(g:Ending)(w':World):Prop:=
 ∃ c d e f col',g=.returned (.tuple #[.agg #[.int .i64 a.T,.int .i64 a.F,.int .i64 a.P,.slice c a.la.length d,.slice e a.lf.length f],.int .i64 a.E])/\qW U wb gr gc go C O w' ss kr ki kf (sh.set i {x with s:=a.s}) er ei ef col'/\iT U gq col' w w'/\zh w' 0 (.slice c a.la.length d) a.la/\jM w' 0 (.slice e a.lf.length f) a.lf/\(∀ b,(Value.slice c a.la.length d).ownBlock=some b->col' b=0/\¬U b)/\∀ b,(Value.slice e a.lf.length f).ownBlock=some b->col' b=0/\¬U b
def sY (U:Nat->Prop)(wb:Nat)(gr gc go:Value)(C:List hg)(O:List (List gt))(ss kr ki kf:Value)(sh:List gY)(er ei ef:List he)(gq:Nat->Nat)(i:Nat)(x:gY)(a:tA)(w:World)(g:Ending)(w':World):Prop:=
 ∃ b c e f col',g=.returned (.tuple #[.agg #[.int .i64 a.T,.int .i64 a.F,.int .i64 a.P,.slice b a.la.length c,.slice e a.lf.length f],.int .i64 a.E])/\qW U wb gr gc go C O w' ss kr ki kf (sh.set i {x with d:=a.d}) er ei ef col'/\iT U gq col' w w'/\zh w' 0 (.slice b a.la.length c) a.la/\jM w' 0 (.slice e a.lf.length f) a.lf
def Yf {w:World}{n:Nat}(a:w.ownsRow j d g v n xs):w.ownsRow 0 d g v n xs:=
 ⟨a.1,a.2.imp id (fun ⟨b,c,e,f,k,h⟩=>⟨b,c,e,f,aj _,h⟩)⟩
def qg7 (b:jz n x)(p:n<=1100000)(f:Int)(S:f<=9223372036854775807):∃ l:tA,l.la.length<=1000/\l.lf.length<=1000000000/\jz (n+1) {x with s:=l.s,d:=l.d}/\ (∀ {w:World}{ss kr ki kf:Value}{sh:List gY}{er ei ef:List he}{gq:Nat->Nat}{i:Nat}{a:gY},qW U wb gr gc go C O w ss kr ki kf sh er ei ef gq->sh[i]?=some a->a.s=x.s->Calls Tryz.prog 48 #[.pointer (some ⟨a.xp,0,none⟩),.int .i64 f] w (tz U wb gr gc go C O ss kr ki kf sh er ei ef gq i a l w))/\ (∀ {w:World}{ss kr ki kf:Value}{sh:List gY}{er ei ef:List he}{gq:Nat->Nat}{i:Nat}{a:gY},qW U wb gr gc go C O w ss kr ki kf sh er ei ef gq->sh[i]?=some a->a.d=x.d->Calls Tryz.prog 49 #[.pointer (some ⟨a.rp,0,none⟩),.int .i64 f] w (sY U wb gr gc go C O ss kr ki kf sh er ei ef gq i a l w)):=by
 by_cases B:f<0
 ·refine⟨⟨0,0,0,3,[],[],x.s,x.d⟩,aj _,aj _,b.more,fun {w ss kr ki kf sh er ei ef gq i a} j k c=>?_,fun {w ss kr ki kf sh er ei ef gq i a} j k c=>?_⟩
  ·refine (qy3 w a.xp f B).mono ?_;rintro q w' ⟨rfl,m⟩;refine⟨none,0,none,0,gq,rfl,?_,.below m,aQ _ _ _ _,aQ _ _ _ _,fun E r=>(by cases r),fun E r=>(by cases r)⟩;have t:sh.set i {a with s:=x.s}=sh:=(by rw[<-c];exact vP k);rw[t];exact j.below m
  ·refine (VW w a.rp f B).mono ?_;rintro q w' ⟨rfl,m⟩;refine⟨none,0,none,0,gq,rfl,?_,.below m,aQ _ _ _ _,aQ _ _ _ _⟩;have t:sh.set i {a with d:=x.d}=sh:=(by rw[<-c];exact vP k);rw[t];exact j.below m
 ·obtain⟨e,F⟩:∃ e:Nat,f=e:=⟨f.toNat,by omega⟩;subst F;obtain⟨G,H⟩:=b.wI p;have D:=VV b.r b.ok (by omega) b.px e;have T:=b.vw;have I:=b.marks p;refine⟨⟨x.s.t+1,(zd x.s.f).2.1,(Je x.s e:Int),0,ZC x.s,(zd x.s.f).2.2,vZ x.s e,xS x.d e⟩,?_,?_,b.tick p e,fun {w ss kr ki kf sh er ei ef gq i a} j k c=>?_,fun {w ss kr ki kf sh er ei ef gq i a} j k c=>?_⟩
  ·show (ZC x.s).length<=1000;unfold ZC;rw[ak];omega
  ·show (zd x.s.f).2.2.length<=1000000000;rw[D.2.2.1];unfold nK;split
   ·exact I.1
   ·simp
  ·refine (j.pTick k (by rw[c];exact G) e (by omega)).mono ?_;rintro q w' ⟨J,K,col',rfl,o,k2,g,h,L,M⟩;rw[c] at o g h ⊢;obtain⟨u,v,y⟩:=qr g;obtain⟨z,A,ef⟩:=qr h;subst y;subst ef;exact⟨u,v,z,A,col',rfl,o,k2,g,h,L,M⟩
  ·refine (j.dTick k (by rw[c];exact H) e (by omega)).mono ?_;rintro q w' ⟨J,K,col',rfl,o,k2,g,h⟩;rw[c] at o g h ⊢;obtain⟨-,N,P,Q,R⟩:=D;rw[<-Q] at g;rw[<-P] at h;rw[<-N,<-R,<-b.r.t];obtain⟨u,v,y⟩:=qr g;obtain⟨z,A,ef⟩:=qr h;subst y;subst ef;exact⟨u,v,z,A,col',rfl,o,k2,Yf g,h⟩
def Y6 {m:List gY}(T:m.length<=n+1/\er.length<=n/\ei.length<=n/\ef.length<=n)(b5:n<=1100000)(G:qW U wb gr gc go C O w2 ss kr ki kf m er ei ef k)(V:∀ y∈m,jz (n+1) y)(W:zh w2 0 va R)(X:jM w2 0 vf m')(H:∀ a,va.ownBlock=some a->k a=0/\¬U a)(t:∀ a,vf.ownBlock=some a->k a=0/\¬U a)(b6:R.length<=1000)(Y:m'.length<=1000000000)(Z:w2.heap[j]?=some (.cells f 133))(I:k j=0):∀ g,Below w2.heap.size w2 g->Calls Tryz.prog 21 #[.pointer (some ⟨wb,4,none⟩),va] g fun h o=>h=.returned (.tuple #[])/\o.heap[j]?=some (.cells f 133)/\∀ u,Below o.heap.size o u->Calls Tryz.prog 51 #[.pointer (some ⟨wb,4,none⟩),vf] u fun h p=>h=.returned (.tuple #[])/\p.heap[j]?=some (.cells f 133)/\xf U wb gr gc go C O (n+1) p/\gp (fun c=>¬U c) w2 p:=by
 intro g v;have z:gp (fun _=>False) w2 g:=.aD v;have A:=qi W z (fun _ _ d=>d);have q:=qi X z (fun _ _ d=>d);have r:=z.heap Z (fun d=>d);have a0:=fun c B=>(G.tL c B).1;refine ((G.below v).wy A H (by omega) (by omega)).mono ?_;rintro h o ⟨rfl,a1,a2,a3,J,D,K⟩;have L:=qq A r (by decide);have M:∀ a,vf.ownBlock=some a->va.ownBlock≠some a:=fun a e=>by
  obtain⟨c2,b7,a4⟩:=qE q e;exact qq A a4 (by decide)
 have a5:=qi q D (fun a e l=>by
  rcases l with b | b
  ·exact b (t a e).1
  ·exact M a e b)
 have N:∀ a,vf.ownBlock=some a->a3 a=0/\¬U a:=fun a e=>⟨K a (ab q a e).2 (t a e).1 (M a e),(t a e).2⟩;have a6:=((gp.aD v:gp (fun c=>¬U c) w2 g)).step D (fun c E=>by
  rcases E with b | b
  ·exact .inl fun F=>b (a0 c F)
  ·exact .inl (H c b).2)
 have P:=D.heap r (fun l=>by
  rcases l with b | b
  ·exact b I
  ·exact L b)
 have a7:=K j (qh r) I L;refine⟨rfl,P,fun u s=>?_⟩;have a8:=(gp.aD (S:=fun _=>False) s).heap P (fun d=>d);have a9:=qq q r (by decide);have b0:=fun c B=>(J.tL c B).1;refine ((J.below s).keepF (qi a5 (gp.aD (S:=fun _=>False) s) (fun _ _ d=>d)) N (by omega) Y).mono ?_;rintro h p ⟨rfl,b1,b2,b3,b4,Q,-⟩;refine⟨rfl,Q.heap a8 (fun l=>by
  rcases l with b | b
  ·exact b a7
  ·exact a9 b),⟨ss,kr,a1,b1,m,er,ei++[a2],ef++[b2],b3,b4,V,⟨T.1,by omega,by simp;omega,by simp;omega⟩⟩,(a6.trans (gp.aD s)).step Q (fun c E=>?_)⟩
 rcases E with b | b
 ·exact .inl fun F=>b (b0 c F)
 ·exact .inl (N c b).2
def Yg {w:World}{base:Nat}(a:zh w base v R)(b:Below w.heap.size w w2):gS (fun c=>v.ownBlock=some c) w2 v R:=zh.rd (base:=base) (qi a (gp.aD (S:=fun _=>False) b) (fun _ _ a=>a))
def qg6 (c:mI U wb gr gc go C O n w ss kr ki kf sh er ei ef gq)(o:sh[i]?=some x)(W:n<=1100000)(k:Int)(d1:k<=9223372036854775807):Calls Tryz.prog 17 #[.pointer (some ⟨wb,0,none⟩),.agg #[.pointer (some ⟨x.xp,0,none⟩),.pointer (some ⟨x.rp,0,none⟩)],.int .i64 k] w fun d w'=>d=.returned (.bool true)/\xf U wb gr gc go C O (n+1) w'/\gp (fun k=>¬U k) w w':=by
 have X:=c.at o;obtain⟨a,d2,Y,Z,a0,a1⟩:=qg7 (U:=U) (wb:=wb) (gr:=gr) (gc:=gc) (go:=go) (C:=C) (O:=O) X W k d1;have d3:=(zzg o).1;have H:Below w.heap.size w (w.alloc (.cells #[.pointer (some ⟨x.xp,0,none⟩),.pointer (some ⟨x.rp,0,none⟩)] 57)):=(aa _ w).alloc (zzl _) _;have h1:=c.mem.below H;have a2:(w.alloc (.cells #[.pointer (some ⟨x.xp,0,none⟩),.pointer (some ⟨x.rp,0,none⟩)] 57)).heap[w.heap.size]?=some (.cells #[.pointer (some ⟨x.xp,0,none⟩),.pointer (some ⟨x.rp,0,none⟩)] 57):=qt _ _ _ rfl;have d4:gq w.heap.size=0:=by
  rcases bg (gq w.heap.size) with d | d
  ·exact d
  ·have:=c.mem.uE w.heap.size (by omega);omega
 have a3:=qg (a0 h1 o rfl);have I:=qg c;have f4:=qg o;have d5:=qg Z;have a4:Hid (∀ {w:World}{ss kr ki kf:Value}{sh:List gY}{er ei ef:List he}{gq:Nat->Nat}{i:Nat}{l:gY},qW U wb gr gc go C O w ss kr ki kf sh er ei ef gq->sh[i]?=some l->l.d=x.d->Calls Tryz.prog 49 #[.pointer (some ⟨l.rp,0,none⟩),.int .i64 k] w (sY U wb gr gc go C O ss kr ki kf sh er ei ef gq i l a w)):=a1;have d6:=qg a2;have d7:=qg H;have f5:=qh c.mem.box;clear a0 a1 h1 a2 H X Z o c;go_enter Tryz.func17,Tryz.ntmps17
 go_wp2_with (go_at_call 48
              refine (qb a3).mono ?_
              rintro d b ⟨q,r,t,u,J,rfl,m2,K,a5,a6,a7,a8⟩
              have L:=K.block (qb d6) d4
              obtain⟨d8,d9,-⟩:=zzc L.1
              have f6:=qh L.1
              have f7:w.heap.size≠b.heap.size:=by omega
              have a9:(sh.set i {x with s:=a.s})[i]?=some {x with s:=a.s}:=ar d3
              have e0:J b.heap.size=0:=by
                rcases bg (J b.heap.size) with d | d
                · exact d
                · have:=m2.uE b.heap.size (by omega);omega
              have v:Below b.heap.size b (b.alloc (.cells #[.int .i64 a.T,.int .i64 a.F,.int .i64 a.P,.slice q a.la.length r,.slice t a.lf.length u] 133)):=(aa _ b).alloc (zzl _) _
              have b0:=qg ((qb a4) (m2.below v) a9 rfl)
              have b1:Hid ((b.alloc (.cells #[.int .i64 a.T,.int .i64 a.F,.int .i64 a.P,.slice q a.la.length r,.slice t a.lf.length u] 133)).heap[b.heap.size]?=some (.cells #[.int .i64 a.T,.int .i64 a.F,.int .i64 a.P,.slice q a.la.length r,.slice t a.lf.length u] 133)):=qt _ _ _ rfl
              have b2:=qg (qi a5 (gp.aD (S:=fun _=>False) v) (fun _ _ c=>c))
              have b3:=qg (qi a6 (gp.aD (S:=fun _=>False) v) (fun _ _ c=>c))
              have b4:=qg (K.trans (iT.below (U:=U) (gq:=J) v))
              have M:=qg a7
              have N:=qg a8
              clear m2 K a5 a6 a7 a8 L a3 a4 v a9)
 go_wp2_with (go_at_call 49
              refine (qb b0).mono ?_
              rintro d g ⟨A,B,D,E,f8,rfl,m4,y,b5,b6⟩
              have z:=y.block (qb b1) e0
              obtain⟨e1,e2,e3,b7,b8,-⟩:=zzc z.1
              have P:=qh z.1
              have f9:b.heap.size≠g.heap.size:=by omega
              obtain⟨Q,b9⟩:=y.row (qb b2) (fun e f=>((qb M) e f).1)
              obtain⟨R,c0⟩:=y.row (qb b3) (fun e f=>((qb N) e f).1)
              have c1:=fun h j=>XA _ _ _ _ a.la h (Yg Q j) (Yg b5 j) (by omega)
              have c2:=fun h j=>Kl _ _ a.lf h (qi R (gp.aD (S:=fun _=>False) j) (fun _ _ c=>c)) (qi b6 (gp.aD (S:=fun _=>False) j) (fun _ _ c=>c)) Y
              rw[yq] at m4
              have e4:=(qb I).len
              have c3:=qg (Y6 (n:=n) (va:=.slice q a.la.length r) (vf:=.slice t a.lf.length u) (by rw[aG];omega) W m4 (fun l e5=>by
                rcases ej e5 with T | T
                · exact ((qb I).each l T).more
                · rw[T];exact qb d5) Q R (fun e f=>⟨b9 e f,((qb M) e f).2⟩) (fun e f=>⟨c0 e f,((qb N) e f).2⟩) d2 Y z.1 z.2)
              have e6:=(gp.aD (qb d7)).trans (((qb b4).trans y).toU (fun e f=>((qb I).mem.tL e f).1))
              clear m4 y b5 b6 z Q b9 R c0 b0 b1 b2 b3 b4 M N e4 d8 d9)
 have e7:(a.T == a.T)=true:=(by simp);have e8:=fun n w=>Z4 n w
 go_wp2_with (first
   | (go_at_call 20;refine ((qb c1) _ ((aa _ g).alloc (zzl _) _)).mono ?_;rintro d g0 ⟨rfl,F,e9⟩;subst e9)
   | (go_at_call 50;refine ((qb c2) _ (ax ((aa _ g).alloc (zzl _) _) _)).mono ?_;rintro d g1 ⟨rfl,G,f0⟩;subst f0)
   | (go_at_call 14;refine ((qb e8) _ _).mono ?_;rintro d w' ⟨rfl,c4⟩;have f1:=c4.symm;clear c4;subst f1))
 have m:Below g.heap.size g ((g.alloc (.cells #[.int .i64 a.T,.int .i64 a.F,.int .i64 a.P,.slice A a.la.length B,.slice D a.lf.length E] 133)).drewN (F+G)):=ax ((aa _ g).alloc (zzl _) _) _;have g2:=(m.cell (p:=⟨b.heap.size,3,none⟩) P).trans b7;have g3:=(m.cell (p:=⟨b.heap.size,4,none⟩) P).trans b8;have c5:Hid (∀ h,Below ((g.alloc (.cells #[.int .i64 a.T,.int .i64 a.F,.int .i64 a.P,.slice A a.la.length B,.slice D a.lf.length E] 133)).drewN (F+G)).heap.size ((g.alloc (.cells #[.int .i64 a.T,.int .i64 a.F,.int .i64 a.P,.slice A a.la.length B,.slice D a.lf.length E] 133)).drewN (F+G)) h->_):=fun h j=>(qb c3) h (m.trans (j.mono m.size));clear c1 c2 e7 e1 e2 e3 b7 b8 c3;have g4:=zzm P m.size;clear m;generalize (g.alloc (.cells #[.int .i64 a.T,.int .i64 a.F,.int .i64 a.P,.slice A a.la.length B,.slice D a.lf.length E] 133)).drewN (F+G)=g5 at *;go_region_held3 (fun w'=>w'.cell? ⟨b.heap.size,3,none⟩=some (.slice q a.la.length r)) (first | assumption | go_keep)
  ((go_at_call 21;refine ((qb c5) _ (by repeat (first | exact aa _ _ | refine ax ?_ _ | refine fa ?_ | refine cP ?_ (zzl _) _))).mono ?_;rintro d g6 ⟨rfl,V,c6⟩;obtain⟨g7,g8,-⟩:=zzk V 3;have g9:=qh V;have c7:=qg c6;clear V c6 c5))
 go_wp2_with fail
 go_region_held3 (fun w'=>w'.cell? ⟨b.heap.size,4,none⟩=some (.slice t a.lf.length u)) (first | assumption | go_keep)
  ((go_at_call 51;refine ((qb c7) _ (by repeat (first | exact aa _ _ | refine ax ?_ _ | refine fa ?_ | refine cP ?_ (zzl _) _))).mono ?_;rintro d i0 ⟨rfl,c8,c9,d0⟩;obtain⟨u4,-⟩:=zzk c8 4;have f2:=qg c9;have f3:=qg d0;clear c9 d0 c7 c8))
 go_wp2;go_ret;exact⟨rfl,qb f2,(qb e6).trans (qb f3)⟩
end
end Go.Proofs.YtbnbkjbfpamijaaGreat
