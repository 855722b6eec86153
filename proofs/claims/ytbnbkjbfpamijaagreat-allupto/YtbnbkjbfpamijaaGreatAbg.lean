import Derived.Test.YtbnbkjbfpamijaaGreatAbe
import Derived.Test.YtbnbkjbfpamijaaGreatAbf
set_option linter.all false
set_option maxRecDepth 100000
set_option maxHeartbeats 0
namespace Go.Proofs.YtbnbkjbfpamijaaGreat
open Go.RowKit Go.Proofs.Panes
variable{i:Nat}{v vf z:Value}{h:List gt}{w2:World}{b6:List zf}
def qi7 (e n f:Nat)(w:World):Calls Tryz.prog 23 #[.pointer (some ⟨e,0,none⟩),.slice none n f] w fun g h=>g=.returned (.slice none 0 0)/\h=w:=by
 have i:∀ (w:World)(a:Option Addr)(n b c d:Nat),(binOp .eql 53 (.slice a n b) (.slice none c d)).run Tryz.prog w=.ok (.bool a.isNone) w:=fun w a n b c d=>Lib.run_eql_slice_nil w _ _ a n b c d Tryz.underlying53;go_enter Tryz.func23,Tryz.ntmps23;go_wp2;go_ret;exact⟨rfl,rfl⟩
def VO.lent' {U:Nat->Prop}{w:World}{e:List hK}(a:VO U i v h w w2 e z b6 vf)(y:h.length+3<=maxLen)(A:∀ f∈h,f.px.length+3<=maxLen):gW (fun o=>w.heap.size<=o/\o<w2.heap.size) w2 (.slice (some ⟨w.heap.size,0,none⟩) h.length (h.length+3)) h:=by
 have B:(e++[hh,hh,hh]).length=h.length+3:=(by simp[a.len]);have p:=(ab a.own w.heap.size rfl).2;refine⟨some ⟨w.heap.size,0,none⟩,h.length+3,rfl,by omega,y,fun _=>⟨w.heap.size,0,rfl,⟨zzl _,p⟩,p,fun j f k=>?_⟩⟩;have q:=(zzg k).1;obtain⟨g,r⟩:∃ g,e[j]?=some g:=⟨e[j]'(by rw[a.len];exact q),by simp⟩;have D:(e++[hh,hh,hh])[j]?=some g:=(by rw[aM (by rw[a.len];exact q)];exact r);have b:=a.mo j f g k r;have c:=fun s E=>QM a.own B.symm D s E;rw[bA];refine⟨by rw[<-b.kind];exact c 0 (by omega),by rw[<-b.iV];exact c 1 (by omega),by rw[<-b.x];exact c 2 (by omega),by rw[<-b.y];exact c 3 (by omega),by rw[<-b.w];exact c 4 (by omega),by rw[<-b.h];exact c 5 (by omega),⟨g.pv,c 6 (by omega),?_⟩,by rw[<-b.mark];exact c 7 (by omega)⟩;rcases b.pv with ⟨l,m⟩ | ⟨d,t,l,m⟩
 ·rw[l,m];exact⟨none,0,rfl,zzl _,by simp[maxLen],fun a=>absurd rfl a⟩
 ·rw[l];have F:=a.tZ.own d t;have u:=a.tZ.lt t;have G:=A f (zzn k);refine⟨some ⟨d.g,0,none⟩,f.px.length+3,rfl,by omega,G,fun _=>⟨d.g,0,rfl,u,u.2,fun s I x=>?_⟩⟩;rw[bA];have H:(d.l++[77,77,77]).length=d.l.length+3:=(by simp);refine kP (n:=d.l.length+3) (cap:=d.l.length+3) F H.symm ?_;rw[m,aM (zzg x).1];exact x
def tC (U:Nat->Prop)(d:Nat)(e:List gt)(w:World)(f:Ending)(b:World):Prop:=
 ∃ h i,f=.returned (.slice h e.length i)/\gp (fun c=>c=d) w b/\gW (fun a=>w.heap.size<=a/\a<b.heap.size) b (.slice h e.length i) e/\
  ∀ (g:World)(j:Nat->Prop),gp j b g->(∀ a,j a->a<w.heap.size/\a≠d/\¬U a)->Calls Tryz.prog 25 #[.pointer (some ⟨d,0,none⟩)] g fun f k=>f=.returned (.bool true)/\gp (fun c=>w.heap.size<=c/\c<b.heap.size) g k
def qt1 (U:Nat->Prop)(f:Nat)(l:Option Addr)(j:Nat)(d:List gt)(w:World)(u:w.heap[f]?=some (.cells #[.slice none 0 0,.slice none 0 0,.slice none 0 0] 76))(v:gW U w (.slice l d.length j) d)(x:d.length<=1759218604390)(o:∀ p∈d,p.px.length<=17592186043904)(y:∀ a,U a->a<w.heap.size/\a≠f):Calls Tryz.prog 23 #[.pointer (some ⟨f,0,none⟩),.slice l d.length j] w fun e q=>tC U f d w e q:=by
 cases l with
 | none=>
  have D:d=[]:=by
   obtain⟨l,N,e,_,_,E⟩:=v;cases d with
   | nil=>rfl
   | cons r d=>
    obtain⟨P,Q,z,_⟩:=E (by simp);simp only[ai] at e;rw[<-e.1] at z;cases z
  subst D;refine (qi7 f _ j w).mono ?_;rintro e q ⟨rfl,rfl⟩;refine⟨none,0,rfl,gp.refl _ _,⟨none,0,rfl,zzl _,by simp[maxLen],fun b=>absurd rfl b⟩,fun s A h i=>?_⟩;have F:=h.heap u (fun c=>(i f c).2.1 rfl);refine (KS U f 0 0 (.slice none 0 0) [] s F (aQ _ _ _ _) (QA.none _ _ _) (by simp)).mono ?_;rintro e G ⟨rfl,t⟩;exact⟨rfl,t.wide (fun a _ c=>by obtain⟨r,k,_⟩:=c;simp at k)⟩
 | some B=>
  refine (qi8 U f (some B) j d w u (by simp) v x o y).mono ?_;rintro e q ⟨rfl,H,I,J,K,b⟩;refine⟨_,_,rfl,b.but,b.lent' (by unfold maxLen;omega) (fun p L=>by have:=o p L;unfold maxLen;omega),fun s A h i=>?_⟩;have m:∀ a,w.heap.size<=a->¬A a:=fun a g c=>by have:=(i a c).1;omega
  have M:=(ab b.own w.heap.size rfl).2;refine (Yq U f w.heap.size w.heap.size I K (.slice (some B) d.length j) J H d s (h.heap b.box (fun c=>(i f c).2.1 rfl)) (qi b.row h (fun a g=>m a (ab b.row a g).1)) (b.tZ.but h (fun a g c=>(i a c).2.2 g) (fun r k=>m _ (b.tZ.lt k).1)) (by have:=b.cnt;omega)
   (qi b.ops h (fun a g=>m a (ab b.ops a g).1)) (qi b.own h (fun a g=>m a (ab b.own a g).1)) b.len b.mo (b.rd.but h (fun a g c=>(i a c).2.2 g)) x o (fun c=>by have:=(y _ c).1;omega)).mono ?_
  rintro e G ⟨rfl,t⟩;refine⟨rfl,t.wide (fun a _ c=>?_)⟩;rcases c with ⟨r,k,e⟩ | e
  ·rw[e];exact b.tZ.lt k
  ·rw[e];exact⟨zzl _,M⟩
def yM.at {U:Nat->Prop}{w:World}{j:Value}{f:List (List gt)}(m:yM U w j f){g:Nat}{a:List gt}(k:f[g]?=some a):∃ b c h d e,j=.slice (some ⟨b,c,none⟩) f.length h/\b<w.heap.size/\w.cell? ⟨b,c+g,none⟩=some (.slice d a.length e)/\gW U w (.slice d a.length e) a:=by
 obtain⟨t,h,rfl,o⟩:=m;obtain⟨b,c,rfl,u,p,q⟩:=o (by intro r;subst r;simp at k);obtain⟨v,l,i⟩:=q g a k;obtain⟨d,e,s,x⟩:=id i;rw[s] at l i;exact⟨b,c,h,d,e,rfl,p,l,i⟩
section
variable {U:Nat->Prop}{wb:Nat}{gr gc go:Value}{C:List hg}{O:List (List gt)}{n:Nat}{w:World}{ss kr ki kf:Value}{sh:List gY}{er ei ef:List he}{gq:Nat->Nat}
def Kc (q:mI U wb gr gc go C O n w ss kr ki kf sh er ei ef gq)(h x l z:Int)(K:h=7\/h=8\/h=9\/h=10\/h=11)(g9:-9223372036854775808<=x/\x<=9223372036854775807)(o7:0<sh.length)(i0:n<=1100000)(o8:l<=9223372036854775807)(i1:-9223372036854775808<=z/\z<=9223372036854775807)(t7:O.length<=10000000000000)(i2:∀ y∈O,y.length<=1759218604390/\∀ o∈y,o.px.length<=17592186043904):Calls Tryz.prog 7 #[.pointer (some ⟨wb,0,none⟩),.agg #[.int .i64 h,.int .i64 x,.int .i64 l,.int .i64 z]] w fun b e=>b=.returned (.bool true)/\xf U wb gr gc go C O (n+1) e/\gp (fun c=>¬U c) w e:=by
 obtain⟨i,i3,d2⟩:=qr0 x sh.length o7;obtain⟨a,e7⟩:∃ a,sh[i]?=some a:=⟨sh[i],by simp[d2]⟩;have t8:=q.len.1;have i4:Hid (∀ e,Calls Tryz.prog 11 #[.int .i64 x,.int .i64 sh.length] e fun b e8=>b=.returned (.int .i64 i)/\e8=e):=fun e=>by
  have q:=Jp x sh.length e g9 (by omega);rw[i3] at q;exact q
 obtain⟨u,a7,i5⟩:∃ u a7,ss=.slice (some ⟨u,0,none⟩) sh.length a7:=by
  rcases q.mem.own.2 with ⟨_,b⟩ | ⟨o9,Z,t9,b,_⟩
  ·omega
  ·exact⟨o9,Z,b⟩
 have b6:=q.mem.own;rw[i5] at b6;have A:=q.mem.box;rw[i5] at A;obtain⟨i6,i7⟩:=XL sh i a e7;have i8:w.cell? ⟨u,i*2,none⟩=some (.pointer (some ⟨a.xp,0,none⟩)):=(by rw[aU b6 _ (by omega)];exact i6);have i9:w.cell? ⟨u,i*2+1,none⟩=some (.pointer (some ⟨a.rp,0,none⟩)):=(by rw[aU b6 _ (by omega)];exact i7);obtain⟨j0,-⟩:=zzk A 3;have p0:=qh A;have j1:=(ab b6 u rfl).2;have v0:¬(sh.length:Int)=0:=(by omega);have v1:(0:Int)<=(i:Int):=(by omega);have v2:(i:Int)<(sh.length:Int):=(by omega);have v3:¬h<1:=(by omega);have k2:¬11<h:=(by omega);have v4:¬h<=5:=(by omega);have v5:¬h=6:=(by omega);have r:=qg q;have B:=qg e7;have p1:=qg K;have p2:=qg i2;have p3:=qg i1;clear i2 i1;clear q A g9 i3 e7 b6 i6 i7 K;go_enter Tryz.func7,Tryz.ntmps7;go_wp2_with fail
 have b7:Below w.heap.size w (w.alloc (.cells #[.int .i64 h,.int .i64 x,.int .i64 l,.int .i64 z] 42)):=(aa _ w).alloc (zzl _) _;have d3:(w.alloc (.cells #[.int .i64 h,.int .i64 x,.int .i64 l,.int .i64 z] 42)).heap[w.heap.size]?=some (.cells #[.int .i64 h,.int .i64 x,.int .i64 l,.int .i64 z] 42):=qt _ _ _ rfl;generalize w.alloc (.cells #[.int .i64 h,.int .i64 x,.int .i64 l,.int .i64 z] 42)=f at *;have p4:=(b7.cell (p:=⟨wb,3,none⟩) p0).trans j0;obtain⟨-,p5,-⟩:=zzc d3;have p6:=(b7.cell (p:=⟨u,i*2,none⟩) j1).trans i8;have p7:=(b7.cell (p:=⟨u,i*2+1,none⟩) j1).trans i9;have j2:=qh d3;have w0:wb<f.heap.size:=(by omega);have w1:u<f.heap.size:=(by omega);have p8:=qg b7;have p9:=qg d3;clear b7 d3 i8 i9 j0;rename_i q0 e9;have q1:Hid (q0 {tmps:=#[.pointer (some ⟨wb,0,none⟩),.agg #[.int .i64 h,.int .i64 x,.int .i64 l,.int .i64 z],undef,.pointer (some ⟨w.heap.size,0,none⟩),.bool false,.pointer (some ⟨f.heap.size,0,none⟩),undef,undef,undef,undef,undef,undef,undef,undef,undef,undef,undef,undef,undef,undef,.bool false,.pointer (some ⟨w.heap.size,0,none⟩),.int .i64 h,.bool false,.bool false,.pointer (some ⟨w.heap.size,0,none⟩),.int .i64 h,.bool false,.bool false,.bool false,.pointer (some ⟨w.heap.size,0,none⟩),.int .i64 h,.bool false,undef,undef,undef,.bool false,.pointer (some ⟨w.heap.size,0,none⟩),.int .i64 h,.bool false,undef,undef,undef,.bool false,.pointer (some ⟨wb,0,none⟩),.pointer (some ⟨wb,0,none⟩),.pointer (some ⟨wb,3,none⟩),.slice (some ⟨u,0,none⟩) sh.length a7,.int .i64 sh.length,.bool false,.pointer (some ⟨wb,0,none⟩),.pointer (some ⟨wb,0,none⟩),.pointer (some ⟨wb,3,none⟩),.slice (some ⟨u,0,none⟩) sh.length a7,.pointer (some ⟨w.heap.size,1,none⟩),.int .i64 x,.pointer (some ⟨wb,0,none⟩),.pointer (some ⟨wb,0,none⟩),.pointer (some ⟨wb,3,none⟩),.slice (some ⟨u,0,none⟩) sh.length a7,.int .i64 sh.length,.int .i64 i,.pointer (some ⟨u,i*2,none⟩),.agg #[.pointer (some ⟨a.xp,0,none⟩),.pointer (some ⟨a.rp,0,none⟩)],undef,undef,undef,undef,undef,undef,undef,undef,undef,undef,undef,undef,undef,undef,undef,undef,undef,undef,undef,undef,undef,undef,undef,undef,undef,undef,undef,undef,undef,undef,undef,undef,undef,undef,undef,undef,undef,undef,undef,undef,undef,undef,undef,undef,undef,undef,undef,undef,undef,undef,undef,undef,undef,undef,undef,undef,undef,undef,undef,undef,undef,undef,undef,undef,undef,undef,undef,undef,undef,undef,undef,undef,undef,undef,undef,undef,undef,undef,undef,undef,undef,undef,undef,undef,undef,undef,undef,undef,undef,undef,undef,undef,undef,undef,undef,undef,undef,undef,undef,undef,undef,undef,undef,undef,undef,undef,undef,undef,undef,undef,undef,undef,undef],defers:=[]} (f.alloc (.cells #[.pointer (some ⟨a.xp,0,none⟩),.pointer (some ⟨a.rp,0,none⟩)] 57)).drew):=by
  refine e9 _ _ ?_;have d4:Below w.heap.size w (f.alloc (.cells #[.pointer (some ⟨a.xp,0,none⟩),.pointer (some ⟨a.rp,0,none⟩)] 57)).drew:=((qb p8).alloc (cA j2) _).drew;have d5:(f.alloc (.cells #[.pointer (some ⟨a.xp,0,none⟩),.pointer (some ⟨a.rp,0,none⟩)] 57)).drew.heap[f.heap.size]?=some (.cells #[.pointer (some ⟨a.xp,0,none⟩),.pointer (some ⟨a.rp,0,none⟩)] 57):=qt _ _ _ rfl;have d6:(f.alloc (.cells #[.pointer (some ⟨a.xp,0,none⟩),.pointer (some ⟨a.rp,0,none⟩)] 57)).drew.heap[w.heap.size]?=some (.cells #[.int .i64 h,.int .i64 x,.int .i64 l,.int .i64 z] 42):=qx (qb p9) _;clear p4 p5 p6 p7 e9;generalize (f.alloc (.cells #[.pointer (some ⟨a.xp,0,none⟩),.pointer (some ⟨a.rp,0,none⟩)] 57)).drew=j at *;have d7:=qh d5;have j3:=qh d6;obtain⟨a8,a0,-⟩:=zzc d5;obtain⟨d8,-,a9,b8,-⟩:=zzc d6;have f0:∀ c,w.heap.size<=c->gq c=0:=fun c m=>by
   rcases bg (gq c) with b | b
   ·exact b
   ·have:=(qb r).mem.uE c (by omega);omega
  have f1:=f0 f.heap.size (cA j2);have f2:=f0 w.heap.size (zzl _);have j4:=(qb r).mem.below d4;have b9:Hid (∀ e,gp (fun c=>¬U c) j e->gp (fun c=>¬U c) w e):=fun e m=>(gp.aD d4).trans m;have c0:=fun k K=>((qb r).mem.tL k K).1;have t:=qg j4;have q2:=qg d4;have f3:=qg d5;have f4:=qg d6;have f5:Hid (∀ (n:Int) w,Calls Tryz.prog 14 #[.int .i64 n] w fun b e=>b=.returned (.int .i64 n)/\e=w):=fun n w=>Z4 n w;clear d4 d5 d6 j4 f0;rcases (qb p1) with L | L | L | L | L
  focus
   subst L;obtain⟨kk,f6,M,c1,T,V,W⟩:=ql7 (U:=U) (wb:=wb) (gr:=gr) (gc:=gc) (go:=go) (C:=C) (O:=O) ((qb r).at (qb B));have d9:=qg T;have D:=qg (V (qb t) (qb B) rfl);have b0:Hid (∀ {w:World}{ss kr ki kf:Value}{sh:List gY}{er ei ef:List he}{gq:Nat->Nat}{G:Nat}{g:gY},qW U wb gr gc go C O w ss kr ki kf sh er ei ef gq->sh[G]?=some g->g.d=a.d->Calls Tryz.prog 13 #[.pointer (some ⟨g.rp,0,none⟩)] w (vY U wb gr gc go C O ss kr ki kf sh er ei ef gq G {g with d:=c1} (.tuple #[.int .i64 kk,.int .i64 f6]) w)):=W;clear T V W
   go_wp2_with (first
    | (go_at_call 12;refine (qb D).mono ?_;rintro b v ⟨q3,rfl,m3,N⟩;have X:(sh.set i {a with s:=M})[i]?=some {a with s:=M}:=ar d2;have a1:=N.block (qb f3) f1;have a2:=N.block (qb f4) f2;obtain⟨-,Y,-⟩:=zzc a1.1;have j5:=qh a1.1;have q4:=qh a2.1;obtain⟨-,-,c3,-⟩:=zzc a2.1;have P:=qg ((qb b0) m3 X rfl);have j6:=qg N;clear m3 N a1 a2 X D a8 a0 a9 b8 d8)
    | (go_at_call 13;refine (qb P).mono ?_;rintro b H ⟨q5,rfl,m4,c4⟩;have j7:=qg m4;have j8:=qg c4;clear m4 c4 P Y)
    | (go_at_call 14;refine ((qb f5) _ _).mono ?_;rintro b e ⟨rfl,I⟩;have a3:=I.symm;clear I;subst a3))
  rotate_left
  ·subst L;by_cases h0:O.length=0
   ·obtain⟨w2,q6,c5,_⟩:=(qb t).uO;have A:=(qb t).box;rw[c5,h0] at A;obtain⟨-,-,c2,-⟩:=zzc A;clear A a8 a0 a9 b8 c5;go_wp2;go_ret;exact⟨rfl,mI.same ⟨qb t,(qb r).each,(qb r).len⟩ (aa _ _),(qb b9) _ (gp.refl _ _)⟩
   ·obtain⟨c6,j9,q7⟩:=qr0 z O.length (by omega);obtain⟨y,f7⟩:∃ y,O[c6]?=some y:=⟨O[c6],by simp[q7]⟩;obtain⟨w3,w4,q6,k0,k1,c5,w5,q8,k3⟩:=(qb t).uO.at f7;have e0:=(qb p2) y (zzn f7);have A:=(qb t).box;rw[c5] at A;obtain⟨-,-,c2,-⟩:=zzc A;have k4:Hid (∀ e,Calls Tryz.prog 11 #[.int .i64 z,.int .i64 O.length] e fun b e8=>b=.returned (.int .i64 c6)/\e8=e):=fun e=>by
     have q:=Jp z O.length e (qb p3) (by omega);rw[j9] at q;exact q
    have w6:¬(O.length:Int)=0:=(by omega);have w7:(0:Int)<=(c6:Int):=(by omega);have w8:(c6:Int)<(O.length:Int):=(by omega);have k5:=qg k3;have k6:=qg e0;obtain⟨k7,M,c1,T,V,W⟩:=qq2 (U:=U) (wb:=wb) (gr:=gr) (gc:=gc) (go:=go) (C:=C) (O:=O) ((qb r).at (qb B)) l y e0.1 e0.2;have d9:=qg T;have D:Hid (∀ {w:World}{ss kr ki kf:Value}{sh:List gY}{er ei ef:List he}{gq:Nat->Nat}{G:Nat}{g:gY}(k8:Nat->Prop)(c7:Option Addr)(Z:Nat),qW U wb gr gc go C O w ss kr ki kf sh er ei ef gq->sh[G]?=some g->g.s=a.s->gW k8 w (.slice c7 y.length Z) y->(∀ c,k8 c->c<w.heap.size)->Calls Tryz.prog 22 #[.pointer (some ⟨g.xp,0,none⟩),.int .i64 l,.slice c7 y.length Z] w (vY U wb gr gc go C O ss kr ki kf sh er ei ef gq G {g with s:=M} (.int .i64 k7) w)):=V;have b0:Hid (∀ {w:World}{ss kr ki kf:Value}{sh:List gY}{er ei ef:List he}{gq:Nat->Nat}{G:Nat}{g:gY}(c7:Option Addr)(Z:Nat),qW U wb gr gc go C O w ss kr ki kf sh er ei ef gq->sh[G]?=some g->g.d=a.d->gW U w (.slice c7 y.length Z) y->Calls Tryz.prog 24 #[.pointer (some ⟨g.rp,0,none⟩),.int .i64 l,.slice c7 y.length Z] w (vY U wb gr gc go C O ss kr ki kf sh er ei ef gq G {g with d:=c1} (.int .i64 k7) w)):=W;clear A c5 k3 e0 j9 f7 i4 T V W;go_wp2_with fail
    go_quiet ((go_at_call 11;exact Calls.quiet_of_same ((qb k4) _)))
    have k9:Below j.heap.size j (j.drewN nq):=ax (aa _ _) _;have l0:(j.drewN nq).cell? ⟨f.heap.size,0,none⟩=some (.pointer (some ⟨a.xp,0,none⟩)):=a8;have Y:(j.drewN nq).cell? ⟨f.heap.size,1,none⟩=some (.pointer (some ⟨a.rp,0,none⟩)):=a0;have c3:(j.drewN nq).cell? ⟨w.heap.size,2,none⟩=some (.int .i64 l):=a9;have e1:(j.drewN nq).heap.size=j.heap.size:=rfl;clear a8 a0 d8 a9 b8 c2 q8;generalize j.drewN nq=v at *;have b1:=qg k9;clear k9;go_wp2_with fail
    have e2:Below j.heap.size j (v.alloc (.cells #[.slice none 0 0,.slice none 0 0,.slice none 0 0] 76)):=(qb b1).alloc (qb b1).size _;have l1:(v.alloc (.cells #[.slice none 0 0,.slice none 0 0,.slice none 0 0] 76)).heap[j.heap.size]?=some (.cells #[.slice none 0 0,.slice none 0 0,.slice none 0 0] 76):=qt _ _ _ e1.symm;have l2:f.heap.size<v.heap.size:=(by rw[e1];exact d7);have q9:w.heap.size<v.heap.size:=(by rw[e1];exact j3);have u0:(v.alloc (.cells #[.slice none 0 0,.slice none 0 0,.slice none 0 0] 76)).cell? ⟨f.heap.size,0,none⟩=some (.pointer (some ⟨a.xp,0,none⟩)):=(aH (w:=v) (bH _ _ _ l2)).trans l0;have u1:(v.alloc (.cells #[.slice none 0 0,.slice none 0 0,.slice none 0 0] 76)).cell? ⟨f.heap.size,1,none⟩=some (.pointer (some ⟨a.rp,0,none⟩)):=(aH (w:=v) (bH _ _ _ l2)).trans Y;have u2:(v.alloc (.cells #[.slice none 0 0,.slice none 0 0,.slice none 0 0] 76)).cell? ⟨w.heap.size,2,none⟩=some (.int .i64 l):=(aH (w:=v) (bH _ _ _ q9)).trans c3;clear l0 Y c3 b1 e1;generalize v.alloc (.cells #[.slice none 0 0,.slice none 0 0,.slice none 0 0] 76)=E at *;have w9:=e2.size;have r0:=qg ((qb k5).below e2);have b2:=qg (qt1 U j.heap.size k0 k1 y E.drew l1 ((qb r0).below (aa _ _).drew) (qb k6).1 (qb k6).2 (fun k K=>by have:=((qb t).tL k K).2;exact⟨by show k<E.heap.size;omega,by omega⟩));have r1:=qg e2;have x0:=(qb q2).size;have l3:f.heap.size<E.drew.heap.size:=(by show _<E.heap.size;omega);have r2:w.heap.size<E.drew.heap.size:=(by show _<E.heap.size;omega);have l4:¬f.heap.size=j.heap.size:=(by omega);have r3:¬w.heap.size=j.heap.size:=(by omega);clear e2 l1 k4;go_region_held3 (fun e=>e.cell? ⟨f.heap.size,0,none⟩=some (.pointer (some ⟨a.xp,0,none⟩))/\e.cell? ⟨w.heap.size,2,none⟩=some (.int .i64 l))
     (first | (refine⟨?_,?_⟩<;>assumption) | go_keep)
     (first
       | (go_at_call 23;refine (qb b2).mono ?_;rintro b H ⟨r4,r5,rfl,J,l5,l6⟩;have x1:=(aH (J.block f.heap.size l3 l4)).trans u0;have x2:=(aH (J.block f.heap.size l3 l4)).trans u1;have x3:=(aH (J.block w.heap.size r2 r3)).trans u2;have b3:=((qb r1).drew).trans (J.below (by show _<=E.heap.size;omega) (fun k b=>by rw[b];omega));have x4:E.heap.size<=H.heap.size:=J.size;have l7:=(b3.block f.heap.size d7).trans (qb f3);have l8:=(b3.block w.heap.size j3).trans (qb f4);have l9:=qg ((qb D) _ r4 r5 ((qb t).below b3) (qb B) rfl l5 (fun c m=>m.2));have r6:=qg l7;have r7:=qg l8;have r8:=qg b3;have r9:=qg l6;have s0:=qg ((qb k5).below b3);clear J l5 l6 b3 l7 l8 D)
       | (go_at_call 22;refine (qb l9).mono ?_;rintro b s1 ⟨x5,rfl,m5,c8⟩;have f8:=(c8.block (qb r6) f1).1;have f9:=(c8.block (qb r7) f2).1;obtain⟨x6,x7,-⟩:=zzc f8;obtain⟨-,-,x8,-⟩:=zzc f9;have x9:=qh f8;have y0:=qh f9;have X:(sh.set i {a with s:=M})[i]?=some {a with s:=M}:=ar d2;have n0:=qg ((qb b0) k0 k1 m5 X rfl ((qb s0).but c8.but (fun k K g0=>g0 (c0 k K))));have s2:=qg c8;clear m5 c8 f8 f9 X b0))
    clear l9 b2;go_wp2_with fail
    refine (qb n0).mono ?_;rintro b g1 ⟨s3,rfl,m6,n1⟩;rw[yq] at m6;have e3:=(qb s2).trans n1;have e4:=(qb r).mem.uE;have n2:=qg ((qb r9) g1 (fun c=>gq c≠0) e3.but (fun e5 Q=>⟨by have:=e4 e5 Q;show e5<E.heap.size;omega,by have:=e4 e5 Q;omega,fun g0=>Q (c0 e5 g0)⟩));have n3:Hid (∀ b4,gp (fun k=>E.drew.heap.size<=k/\k<H.heap.size) g1 b4->xf U wb gr gc go C O (n+1) b4/\gp (fun c=>¬U c) j b4):=fun b4 c9=>by
     have a4:∀ c,(E.drew.heap.size<=c/\c<H.heap.size)->s3 c=0/\¬U c:=fun c m=>by
      have h1:E.heap.size<=c:=m.1;have h2:gq c=0:=by
       rcases bg (gq c) with b | b
       ·exact b
       ·have:=e4 c (by omega);omega
      exact⟨e3.zero c m.2 h2,fun Q=>by have:=((qb t).tL c Q).2;omega⟩
     refine⟨(qb r).put (qb B) (m6.frame c9 (fun c m _=>a4 c m)) (qb d9),?_⟩;exact ((gp.aD (qb r8)).trans (e3.toU c0)).trans (c9.wide (fun c _ m=>(a4 c m).2))
    clear m6 n1 e3 e4 n0;go_wp2_with fail
    refine (qb n2).mono ?_;rintro b b4 ⟨rfl,c9⟩;have n4:=qg ((qb n3) b4 c9);clear c9 n2 n3;go_wp2_with (go_at_call 14;refine ((qb f5) _ _).mono ?_;rintro b e ⟨rfl,I⟩;have a3:=I.symm;clear I;subst a3)
    go_ret;exact⟨by simp,(qb n4).1,(qb b9) _ (qb n4).2⟩
  focus
   subst L;obtain⟨f6,M,c1,T,V,W⟩:=ql1 (U:=U) (wb:=wb) (gr:=gr) (gc:=gc) (go:=go) (C:=C) (O:=O) ((qb r).at (qb B)) i0 l;have d9:=qg T;have D:=qg (V (qb t) (qb B) rfl);have b0:Hid (∀ {w:World}{ss kr ki kf:Value}{sh:List gY}{er ei ef:List he}{gq:Nat->Nat}{G:Nat}{g:gY},qW U wb gr gc go C O w ss kr ki kf sh er ei ef gq->sh[G]?=some g->g.d=a.d->Calls Tryz.prog 16 #[.pointer (some ⟨g.rp,0,none⟩),.int .i64 l] w (vY U wb gr gc go C O ss kr ki kf sh er ei ef gq G {g with d:=c1} (.int .i64 f6) w)):=W;clear T V W
   go_wp2_with (first
    | (go_at_call 15;refine (qb D).mono ?_;rintro b v ⟨q3,rfl,m3,N⟩;have X:(sh.set i {a with s:=M})[i]?=some {a with s:=M}:=ar d2;have a1:=N.block (qb f3) f1;have a2:=N.block (qb f4) f2;obtain⟨-,Y,-⟩:=zzc a1.1;have j5:=qh a1.1;have q4:=qh a2.1;obtain⟨-,-,c3,-⟩:=zzc a2.1;have P:=qg ((qb b0) m3 X rfl);have j6:=qg N;clear m3 N a1 a2 X D a8 a0 a9 b8 d8)
    | (go_at_call 16;refine (qb P).mono ?_;rintro b H ⟨q5,rfl,m4,c4⟩;have j7:=qg m4;have j8:=qg c4;clear m4 c4 P Y c3)
    | (go_at_call 14;refine ((qb f5) _ _).mono ?_;rintro b e ⟨rfl,I⟩;have a3:=I.symm;clear I;subst a3))
  rotate_left
  ·subst L;have n5:=qg (qg6 (w:=j) ⟨qb t,(qb r).each,(qb r).len⟩ (qb B) i0 l o8)
   go_wp2_with (go_at_call 17;refine (qb n5).mono ?_;rintro b v ⟨rfl,b5,m⟩;have b2:=qg b5;have g2:=qg m;clear b5 m n5)
   go_ret;exact⟨rfl,qb b2,(qb b9) _ (qb g2)⟩
  ·subst L;have a5:=(qb r).at (qb B);have a4:a.s.f.front<3:=a5.ok.st.fr.fr;have s4:a.s.f.W*a.s.f.H<=256:=a5.ok.st.fr.wh;have n6:(a.s.f.b a.s.f.front).px.length=a.s.f.W*a.s.f.H:=a5.ok.st.fr.px _ a4;obtain⟨F,g3⟩:=zx ((a.s.f.b a.s.f.front).px);have D:=qg ((qb t).wD (qb B) a4 (by omega));have n7:a.d.front<3:=(by rw[a5.r.f.front];exact a4);have n8:a.d.p a.d.front=F:=(by rw[a5.r.f.front,g3];exact a5.r.f.shown.symm);rw[<-g3] at D n6;have y1:F.length<=256:=(by omega);have s5:=qg n8;have s6:=qg n7;clear a5 a4 s4 n6 g3 n8 n7
   go_wp2_with (first
    | (go_at_call 18;refine (qb D).mono ?_;rintro b v ⟨y2,rfl,g4,d0⟩;obtain⟨g5,g6,s7⟩:=qr g4;subst s7;have n9:=qg g4;have b1:=qg d0;have Y:=(d0.cell (p:=⟨f.heap.size,1,none⟩) d7).trans a0;have j5:=zzm d7 d0.size;have P:=qg (((qb t).below d0).wJ (qb B) (qb s6));rw[qb s5] at P;clear g4 d0 D a8 a0 a9 b8 d8)
    | (go_at_call 19;refine (qb P).mono ?_
       rintro b H ⟨⟨e6,rfl,J⟩,d1⟩
       have o0:=(qb b1).trans (d1.mono (qb b1).size)
       have g7:zh H 0 (.slice g5 F.length g6) F:=Yf (qi (qb n9) (gp.aD (S:=fun _=>False) d1) (fun _ _ q=>q))
       have o1:gS (fun _=>True) H (.slice (some ⟨e6,0,none⟩) F.length F.length) F:=(by refine⟨some ⟨e6,0,none⟩,F.length,rfl,zzl _,by unfold maxLen;omega,fun _=>⟨e6,0,rfl,trivial,zzm (qh J) d1.size,fun s8 y3 s9=>?_⟩⟩;rw[bA,d1.cell (p:=⟨e6,s8,none⟩) (qh J),qe J];simp[s9])
       have o2:=qg (XA _ _ _ _ F H g7.rd o1 (by omega))
       have g8:∀ k,(Value.slice g5 F.length g6).ownBlock=some k->gq k=0/\¬U k:=fun k K=>by
         have a6:=(ab (qb n9) k K).1
         refine⟨?_,fun Q=>?_⟩
         · rcases bg (gq k) with b | b
           · exact b
           · have:=(qb t).uE k (by omega);omega
         · have:=((qb t).tL k Q).2;omega
       have o3:Hid (∀ a6,Calls Tryz.prog 21 #[.pointer (some ⟨wb,4,none⟩),.slice g5 F.length g6] (H.drewN a6) fun b e=>b=.returned (.tuple #[])/\xf U wb gr gc go C O (n+1) e/\gp (fun c=>¬U c) j e):=fun a6=>by
         have o4:=ax o0 a6
         have b5:=(qb r).len
         refine (((qb t).below o4).wy (R:=F) (qi g7 (gp.aD (S:=fun _=>False) (ax (aa _ H) a6)) (fun _ _ q=>q)) g8 (by omega) (by omega)).mono ?_
         rintro b e ⟨rfl,t0,t1,t2,t3,t4,-⟩
         refine⟨rfl,⟨ss,kr,t0,kf,sh,er,ei++[t1],ef,t2,t3,fun g t5=>((qb r).each g t5).more,⟨by omega,by omega,by simp;omega,by omega⟩⟩,(gp.aD o4).step t4 (fun c t6=>?_)⟩
         rcases t6 with b | b
         · exact .inl fun Q=>b (c0 c Q)
         · exact .inl (g8 c b).2
       clear o0 g7 o1 g8 d1 J P Y)
    | (go_at_call 20;refine (qb o2).mono ?_;rintro b s1 ⟨rfl,a6,rfl⟩;have o5:=qg ((qb o3) a6);clear o2 o3)
    | (go_at_call 21;refine (qb o5).mono ?_;rintro b g1 ⟨rfl,b5,m⟩;have b2:=qg b5;have g2:=qg m;clear b5 m o5))
   go_ret;exact⟨rfl,qb b2,(qb b9) _ (qb g2)⟩
  all_goals
   go_ret;refine⟨by simp,?_,(qb b9) _ (((qb j6).trans (qb j8)).toU c0)⟩;have o6:=qb j7;rw[yq] at o6;exact (qb r).put (qb B) o6 (qb d9)
 clear e9;go_region_held3 (fun e=>e.cell? ⟨wb,3,none⟩=some (.slice (some ⟨u,0,none⟩) sh.length a7)/\e.cell? ⟨w.heap.size,1,none⟩=some (.int .i64 x)/\e.cell? ⟨u,i*2,none⟩=some (.pointer (some ⟨a.xp,0,none⟩))/\e.cell? ⟨u,i*2+1,none⟩=some (.pointer (some ⟨a.rp,0,none⟩)))
  (first | (refine⟨?_,?_,?_,?_⟩<;>assumption) | go_keep)
  ((go_at_call 11;refine ((qb i4) _).mono ?_;rintro b e ⟨rfl,I⟩;have a3:=I.symm;clear I;subst a3))
 all_goals
  simp only[Exit.then];go_simp;exact qb q1
end
end Go.Proofs.YtbnbkjbfpamijaaGreat
