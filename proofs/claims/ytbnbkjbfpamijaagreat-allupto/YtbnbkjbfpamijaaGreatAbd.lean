import Derived.Test.YtbnbkjbfpamijaaGreatAab
import Derived.Lib.SliceRun
set_option linter.all false
set_option maxRecDepth 100000
set_option maxHeartbeats 0
namespace Go.Proofs.YtbnbkjbfpamijaaGreat
open Go.RowKit Go.Proofs.Panes
variable{w:World}{g i j n:Nat}{B l:List Rc}{r:Rc}
def Kn (a:List Rc)(h d:Rc)(g:List Rc):((((qK (a++h::g)).set (a.length*4) (.int .i64 d.x)).set (a.length*4+1) (.int .i64 d.y)).set (a.length*4+2) (.int .i64 d.w)).set (a.length*4+3) (.int .i64 d.h)=qK (a++d::g):=by
 rw[zp,zp];have e:∀ (b:List Value)(f:Nat)(c:Value),(qK a++b).set (a.length*4+f) c=qK a++b.set f c:=fun b f c=>by
  rw[bG _ _ (by rw[qM];omega),qM,ez]
 have i:∀ (b:List Value)(c:Value),(qK a++b).set (a.length*4) c=qK a++b.set 0 c:=fun b c=>e b 0 c;rw[i,e,e,e];rfl
def qd4 (a:Rc)(c:gw w n (.slice (some ⟨i,0,none⟩) j g) (l++r::B))(d:j=(l++r::B).length):gw ((((w.setCell ⟨i,l.length*4,none⟩ (.int .i64 a.x)).setCell ⟨i,l.length*4+1,none⟩ (.int .i64 a.y)).setCell ⟨i,l.length*4+2,none⟩ (.int .i64 a.w)).setCell ⟨i,l.length*4+3,none⟩ (.int .i64 a.h)) n (.slice (some ⟨i,0,none⟩) j g) (l++a::B):=by
 subst d;have e:=(aT c (l.length*4) (.int .i64 a.x)).1;have f:=(aT e (l.length*4+1) (.int .i64 a.y)).1;have h:=(aT f (l.length*4+2) (.int .i64 a.w)).1;have b:=(aT h (l.length*4+3) (.int .i64 a.h)).1;rw[Kn] at b;have k:(l++a::B).length=(l++r::B).length:=(by simp);unfold gw;rw[k];exact b
def iO:Rc:=⟨77,0,0,0⟩
structure jG where
 g:Nat
 l:List Rc
 want:Value
def jG.out (a:jG):Value:=.slice (some ⟨a.g,0,none⟩) (a.l.length+3) (a.l.length+3)
def ye (a:jG):List Value:=[a.out,a.want]
def xd (a:List jG):List Value:=a.flatMap ye
def Ys (a:List jG)(b:jG):xd (a++[b])=xd a++ye b:=by simp[xd]
def qk0 (c:Nat)(d:List Rc)(e:Option Addr)(f g:Nat):∀ a∈ye ⟨c,d,.slice e f g⟩,a.oneCell'=true:=by
 intro a b;simp[ye,jG.out] at b;rcases b with rfl | rfl<;>rfl
abbrev oc (b:World)(c:Nat)(d:Value)(a:List jG):Prop:=b.ownsRow c 148 2 d a.length (xd a)
def qk4:(Tryz.prog.info? 148).map (fun a=>(a.zero,a.size,a.bytes))=some (some (.agg #[.slice none 0 0,.slice none 0 0]),2,48):=by kernel_rfl
structure rL (w w':World)(mb base:Nat)(lr li lo:Value)(ls:List jG)(v:Value)(l:List Rc)(lr':Value)(ls':List jG):Prop where
 box:w'.heap[mb]?=some (.cells #[lr',li,lo] 76)
 own:oc w' base lr' ls'
 but:gp (fun k=>k=mb\/lr.ownBlock=some k) w w'
 more:ls'=ls\/∃ x,ls'=ls++[x]/\x.l=l/\x.want=v/\w.heap.size<=x.g/\x.g<w'.heap.size/\gw w' base x.out (l++[iO,iO,iO])
def zf2 (l f:Nat)(D M N:Value)(e:List jG)(E:Value)(a:List Rc)(c:World)(u:c.heap[l]?=some (.cells #[D,M,N] 76))(m:oc c f D e)(a3:f<=c.heap.size)(O:Rd c E a)(d8:a.length<=2000000)(d9:e.length<=10):Calls Tryz.prog 30 #[.pointer (some ⟨l,0,none⟩),E] c fun d Q=>∃ R,d=.returned R/\gw Q f R a/\∃ a4 a5,rL c Q l f D M N e E a a4 a5:=by
 obtain⟨a6,a7,a8,a9,b0⟩:=aZ XI;have e0:=fun c b1 b2 n b3 b4=>Lib.run_eql_slice_nil c _ _ b1 b2 n b3 b4 Tryz.underlying47;have v:=O;obtain⟨e1,e2,rfl⟩:=qr m;obtain⟨b5,F,rfl,h1,h2,h3⟩:=O;cases b5 with
 | none=>
  have S:=qg v;have o:=qg m;have p:=qg u;have b6:=qg h3;clear v m u h3;go_enter Tryz.func30,Tryz.ntmps30;go_wp2;go_ret;refine⟨_,rfl,?_,_,e,qb p,qb o,gp.refl _ _,.inl rfl⟩;have d:a=[]:=(by apply el;intro b7;obtain⟨e3,e4,d,_⟩:=(qb b6) b7;cases d);subst d;exact za7 _
 | some G=>
  have e5:∀ q:World,(Instr.makeSlice 47 (.int .i64 ((a.length:Int)+3)) (.int .i64 ((a.length:Int)+3))).run Tryz.prog q =
   .ok (.slice (some ⟨q.heap.size,0,none⟩) (a.length+3) (a.length+3)) (q.alloc (.cells (qK (List.replicate (a.length+3) rz)).toArray 46)):=fun q=>by
   have h:=fQ (P:=Tryz.prog) q 47 46 a6 _ Tryz.underlying47 a7 a8 .i64 .i64 ((a.length:Int)+3) ((a.length:Int)+3) (by omega) (co _) (by rw[b0];omega) (by omega);have d:((a.length:Int)+3).toNat=a.length+3:=(by omega);rw[d,a9] at h;rw[<-KR];simpa[Value.cells] using h
  have S:=qg v;have o:=qg m;have p:=qg u;clear v m u h3;go_enter Tryz.func30,Tryz.ntmps30;go_wp2_with (refine qb1 rfl _ _ rfl f c.heap.size (a.length+3) (List.replicate (a.length+3) rz) a _ rfl rfl (qr2 c _ f a3 (by omega)) (by simp) ((qb S).below ((aa _ c).alloc (zzl _) _)) (by omega) ?_;intro w s i);have T:gw w f (.slice (some ⟨c.heap.size,0,none⟩) (a.length+3) (a.length+3)) (a++List.replicate 3 rz):=(by rwa[fL,show a.length+3-a.length=3 by omega] at s);have H:gp (fun _=>False) c w:=((gp.refl _ c).alloc _).grown i (fun b d=>.inr (by cases d;exact zzl _));have e6:c.heap.size<w.heap.size:=(by have:=i.size;simp at this;omega);have e7:=H;have b8:=qg H;have b9:=qg T;clear s i T H;go_wp2;go_loopw [7] (fun I wr=>∃ b:Nat,b<=3/\I=.int .i64 ((a.length:Int)+b)/\gw wr f (.slice (some ⟨c.heap.size,0,none⟩) (a.length+3) (a.length+3)) (a++(List.replicate b iO++List.replicate (3-b) rz))/\gp (fun _=>False) c wr/\w.heap.size<=wr.heap.size) (fun I _=>a.length+3-(intOf I).toNat)
  case atStart=>exact⟨0,by omega,by simp,by simpa using qb b9,qb b8,zzl _⟩
  case round=>
   obtain⟨b,e8,rfl,g,k,c0⟩:=hrel;by_cases e9:b<3
   ·have U:a++(List.replicate b iO++List.replicate (3-b) rz)=(a++List.replicate b iO)++rz::List.replicate (3-(b+1)) rz:=(by rw[show 3-b=3-(b+1)+1 by omega,bU,aN]);rw[U] at g;have J:(a++List.replicate b iO).length=a.length+b:=(by simp);have x:=qd4 iO g (by simp;omega);rw[J] at x;obtain⟨c1,c2,c3,c4⟩:=qr3 g (j:=a.length+b) (r:=rz) (by rw[<-J];simp);simp only[rz] at c1 c2 c3 c4;have f0:=xM g (by simp;omega) ((a.length+b)*4);have f1:=xM g (by simp;omega) ((a.length+b)*4+1);have f2:=xM g (by simp;omega) ((a.length+b)*4+2);have f3:=xM g (by simp;omega) ((a.length+b)*4+3);have V:(a++List.replicate b iO)++iO::List.replicate (3-(b+1)) rz=a++(List.replicate (b+1) iO++List.replicate (3-(b+1)) rz):=(by rw[cU,aN,aN];rfl);rw[V] at x;have c5:=qg x;have K:=qg k;have f4:(0:Int)<=(a.length:Int)+b:=(by omega);have f5:(a.length:Int)+b<((a.length+3:Nat):Int):=(by omega);have f6:(a.length:Int)+b<(a.length:Int)+3:=(by omega);have f7:((a.length:Int)+b).toNat=a.length+b:=(by omega);clear g k x U V J;go_wp2;go_roundw
    case rel=>
     refine⟨b+1,by omega,by go_num,qb c5,((((qb K).setCell (.inr (zzl _)) _).setCell (.inr (zzl _)) _).setCell (.inr (zzl _)) _).setCell (.inr (zzl _)) _,?_⟩;simpa[World.setCell] using c0
    case measure=>simp[intOf];omega
   ·obtain rfl:b=3:=(by omega);obtain⟨c6,c7,c8,c9,d0⟩:=aZ qk4;have d1:a++(List.replicate 3 iO++List.replicate (3-3) rz)=a++[iO,iO,iO]:=rfl;rw[d1] at g;have d2:=qg g;have K:=qg k;have f8:=qh (qb p);have W:=qq (qb o) (qb p) (by decide);have X:=qi (qb o) k (fun _ _ h=>h);have d3:=qg X;have y:=k.heap (qb p) (fun h=>h);have Y:=qg y;obtain⟨f9,-⟩:=zzc y;have g0:=qj y;clear g k X y;go_wp2_with
     (at_builtin
      refine wpList_append_lies _ rfl _ _ 72 rfl f 148 c6 _ 2 48 Tryz.underlying72 c7 c8 c9 d0 rfl (by decide) _ e.length (xd e) rfl ((qb d3).alloc _) ⟨wr.heap.size,0,none⟩ 1 1 (ye ⟨c.heap.size,a,.slice (some G) a.length F⟩) rfl rfl (xT (qt _ _ _ rfl)) (qk0 _ _ _ _ _) (by decide) (by unfold maxLen;omega) (by omega) (by simp;omega) _ rfl ?_
      intro t z d4 s i L g1
      have A:=zB (au wr _ _) i
      have C:=zl A (qb Y) W
      have Z:=ck (qb d2) A (.inr (fun d=>absurd (ab (qb o) _ d.symm).2 (by simp)))
      have a0:d4.ownsRow f 148 2 (.slice (some ⟨t,0,none⟩) (e.length+1) z) (e.length+1) (xd (e++[⟨c.heap.size,a,.slice (some G) a.length F⟩])):=by rw[Ys];exact s
      have d5:t≠l:=by
        rcases L with n | n
        · intro d;subst d;exact W n
        · have:=qh (qb Y);simp at n;omega
      have a1:=qg A
      have d6:=qg C
      have a2:=qg Z
      have d7:=qg a0
      have g2:=qg L
      obtain⟨g3,-⟩:=zzc C
      have g4:=qj C
      clear s i A C Z a0 L)
    go_ret;refine⟨_,rfl,?_,.slice (some ⟨t,0,none⟩) (e.length+1) z,e++[⟨c.heap.size,a,.slice (some G) a.length F⟩],?_⟩
    ·show gw _ f (.slice (some ⟨c.heap.size,0,none⟩) a.length (a.length+3)) a;exact qi4 (B:=[iO,iO,iO]) (aw (qb a2) (by simp[Value.ownBlock];omega) _)
    ·refine⟨?_,?_,?_,.inr ⟨_,rfl,rfl,rfl,zzl _,?_,?_⟩⟩
     ·have:=qp (i:=0) (qb d6) (.slice (some ⟨t,0,none⟩) (e.length+1) z);simpa using this
     ·have:=aw (qb d7) (a:=⟨l,0,none⟩) (by simp[Value.ownBlock];exact d5) (.slice (some ⟨t,0,none⟩) (e.length+1) z);unfold oc;rw[ae];exact this
     ·exact ((qb K).wide (fun _ _ h=>h.elim) |>.grown (qb a1) (fun b d=>.inl (.inr d))).setCell (.inl (.inl rfl)) _
     ·have:=(qb a1).size;simp[World.setCell];omega
     ·exact aw (qb a2) (by simp[Value.ownBlock];omega) _
variable{S U:Nat→Prop}{w2:World}{v:Value}
def oa.but (d:gp S w w2)(e:n<w.heap.size)(f:¬S n)(a:oa w n i r):oa w2 n i r:=by
 have b:∀ c,w2.cell? ⟨n,c,none⟩=w.cell? ⟨n,c,none⟩:=fun c=>aH (d.block n e f);exact⟨(b _).trans a.1,(b _).trans a.2.1,(b _).trans a.2.2.1,(b _).trans a.2.2.2⟩
def iG (i:Nat->Prop)(d:World)(j:Value)(a:List Rc):Prop:=
 ∃ e c,j=.slice e a.length c/\a.length<=c/\c<=maxLen/\(a≠[]->∃ b f,e=some ⟨b,f,none⟩/\i b/\b<d.heap.size/\∀ g h,a[g]?=some h->oa d b (f+g*4) h)
def iG.but {a S:Nat->Prop}{c d:World}{e:Value}{f:List Rc}(l:iG a c e f)(g:gp S c d)(m:∀ k,a k->¬S k):iG a d e f:=by
 obtain⟨n,o,b,p,q,r⟩:=l;refine⟨n,o,b,p,q,fun s=>?_⟩;obtain⟨h,t,b,i,j,u⟩:=r s;exact⟨h,t,b,i,zzm j g.size,fun v w x=>(u v w x).but g j (m h i)⟩
def iG.rd (b:iG S w v l):Rd w v l:=by
 obtain⟨c,d,a,e,f,g⟩:=b;refine⟨c,d,a,e,f,fun h=>?_⟩;obtain⟨i,j,a,_,k,m⟩:=g h;exact⟨i,j,a,k,m⟩
def rg:Rc:=⟨-5,0,0,0⟩
def jG.full (a:jG):List Rc:=a.l++[iO,iO,iO]
def jG.ui (a:jG):a.full.length=a.l.length+3:=by simp[jG.full]
def Zv:∀ (a:List jG)(b:Nat)(c:jG),a[b]?=some c->(xd a)[b*2]?=some c.out/\(xd a)[b*2+1]?=some c.want
 | [],b,c,d=>by simp at d
 | e::a,0,c,d=>by
  simp at d;subst d;show (ye e++xd a)[0]?=_/\(ye e++xd a)[1]?=_;simp[ye]
 | e::a,b+1,c,d=>by
  have i:a[b]?=some c:=(by simpa using d);have g:=Zv a b c i;have h:∀ f,(xd (e::a))[(b+1)*2+f]?=(xd a)[b*2+f]?:=by
   intro f;show (ye e++xd a)[_]?=_;rw[aq (by simp[ye];omega)];congr 1;simp[ye];omega
  refine⟨by have:=h 0;simp only[bL] at this;rw[this];exact g.1,by rw[h 1];exact g.2⟩
structure QA (U:Nat->Prop)(B:Nat)(w:World)(ls:List jG):Prop where
 len:∀ x∈ls,x.l.length<=2000000
 tL:∀ x∈ls,¬U x.g
 rd:∀ x∈ls,iG U w x.want x.l
 own:∀ x∈ls,gw w B x.out x.full
 apart:ls.Pairwise (fun x y=>x.g≠y.g)
def KS (b2:Nat->Prop)(t b3 u:Nat)(V:Value)(e:List jG)(g:World)(W:g.heap[t]?=some (.cells #[V,.slice none 0 0,.slice none 0 0] 76))(F:oc g b3 V e)(X:QA b2 u g e)(d3:e.length<=10):Calls Tryz.prog 25 #[.pointer (some ⟨t,0,none⟩)] g fun d b4=>d=.returned (.bool true)/\gp (fun c=>∃ a∈e,c=a.g) g b4:=by
 obtain⟨d4,d5,rfl⟩:=qr F;have Y:=qg W;have Z:=qg F;have n:=qg X;clear W F X;go_enter Tryz.func25,Tryz.ntmps25;go_wp2;go_loopw [3,4] (fun o i wr=>o=.bool true/\∃ c:Nat,c<=e.length/\i=.int .i64 c/\gp (fun c=>∃ a∈e,c=a.g) g wr/\∀ a∈e.drop c,gw wr u a.out a.full) (fun _ i _=>e.length-(intOf i).toNat)
 case atStart=>exact⟨rfl,0,aj _,rfl,gp.refl _ _,by simpa using (qb n).own⟩
 case round=>
  rename World=>v;obtain⟨rfl,c,d6,rfl,f,G⟩:=hrel;have w:∀ b,(∃ a∈e,b=a.g)->∃ H I,g.heap[b]?=some (.cells H 46 I):=fun b ⟨a,l,d⟩=>by
   subst d;rcases ((qb n).own a l).2 with ⟨d,_⟩ | ⟨J,b5,d7,d,_,b6,_⟩
   ·cases d
   ·simp only[jG.out,ai,ac,bz,bB] at d;obtain⟨rfl,_⟩:=d;exact⟨_,_,b6⟩
  have z:=f.heap (qb Y) (fun x=>by
   obtain⟨H,I,d⟩:=w _ x;rw[qb Y] at d;simp at d)
  have p:=qi (qb Z) f (fun b a0 x=>by
   obtain⟨H,I,d⟩:=w _ x;exact qq (qb Z) d (by decide) a0)
  obtain⟨m0,m1,m2,-⟩:=zzc z;by_cases b7:c<e.length
  ·obtain⟨a,l⟩:∃ a,e[c]?=some a:=⟨e[c],by simp[b7]⟩;obtain⟨J,b5,d,_,_⟩:=World.ownsRow.form p (by omega);simp only[ai,cj] at d;obtain⟨rfl,rfl⟩:=d;have b8:v.cell? ⟨J,c*2,none⟩=some a.out:=(by rw[aU p _ (by omega)];exact (Zv e c a l).1);have b9:v.cell? ⟨J,c*2+1,none⟩=some a.want:=(by rw[aU p _ (by omega)];exact (Zv e c a l).2);have A:=zzn l;have a1:e.drop c=a::e.drop (c+1):=(by obtain⟨K,d⟩:=zzg l;rw[bu K,d]);obtain⟨c0,wc,L,_⟩:=(qb n).rd a A;simp only[jG.out] at b8;rw[L] at b9;have q:=qg f;have a2:=qg G;have d8:=qg p;have d9:=qg z;have e0:=qg l;have c1:=qg L;have M:=qg a1;have e1:=qg w;clear f G p z l L a1 w;have e2:(0:Int)<=(c:Int):=(by omega);have e3:(c:Int)<(e.length:Int):=(by omega);have e4:=a.ui;have e5:=(qb n).len a A;go_wp2;go_loopw [3,6] (fun o i j=>o=.bool true/\∃ b:Nat,b<=a.l.length+3/\i=.int .i64 b/\gw j u a.out (List.replicate b rg++a.full.drop b)/\j.heap[v.heap.size]?=some (.cells #[.slice (some ⟨a.g,0,none⟩) (a.l.length+3) (a.l.length+3),.slice c0 a.l.length wc] 148)/\gp (fun c=>∃ a∈e,c=a.g) g j/\∀ h∈e.drop (c+1),gw j u h.out h.full) (fun _ i _=>a.l.length+3-(intOf i).toNat)
   case atStart=>
    refine⟨rfl,0,aj _,rfl,?_,qt _ _ _ rfl,(qb q).alloc _,fun h r=>aR ((qb a2) h (by rw[qb M];exact ba _ r)) _⟩;simpa using aR ((qb a2) a (by rw[qb M];simp)) _
   case round=>
    obtain⟨rfl,b,a0,rfl,k,y,f,B⟩:=hrel;obtain⟨e6,e7,-⟩:=zzc y;by_cases e8:b<a.l.length+3
    ·obtain⟨m,N⟩:∃ m,a.full[b]?=some m:=⟨a.full[b]'(by omega),by simp⟩;have a3:a.full.drop b=m::a.full.drop (b+1):=(by obtain⟨K,d⟩:=zzg N;rw[bu K,d]);rw[a3] at k;have a4:(List.replicate b rg).length=b:=(by simp);have s:a.l.length+3=(List.replicate b rg++m::a.full.drop (b+1)).length:=(by simp;omega);have O:=qd4 rg k s;obtain⟨c3,c2,c4,c5⟩:=qr3 k (j:=b) (r:=m) (by rw[aq (by omega)];simp);have e9:=xM k s (b*4);have f0:=xM k s (b*4+1);have f1:=xM k s (b*4+2);have f2:=xM k s (b*4+3);rw[a4] at O;have a5:gw ((((wr.setCell ⟨a.g,b*4,none⟩ (.int .i64 rg.x)).setCell ⟨a.g,b*4+1,none⟩ (.int .i64 rg.y)).setCell ⟨a.g,b*4+2,none⟩ (.int .i64 rg.w)).setCell ⟨a.g,b*4+3,none⟩ (.int .i64 rg.h)) u a.out (List.replicate (b+1) rg++a.full.drop (b+1)):=(by rw[cU,aN];exact O);have c6:=qg a5;have c7:=qg y;have P:=qg f;have Q:=qg B;have a6:=qg N;have C:=fun d=>by
      have:=Jr k y (by decide);simp[jG.out,Value.ownBlock] at this;exact this d
     have f3:(0:Int)<=(b:Int):=(by omega);have f4:(b:Int)<((a.l.length+3:Nat):Int):=(by omega);have f5:(b:Int)<(a.l.length:Int)+3:=(by omega);have c8:=((qb n).rd a A).but f (fun c c9 ⟨h,r,d⟩=>(qb n).tL h r (d ▸ c9));obtain⟨f6,f7,a7,_,_,R⟩:=c8;have a8:=a7.symm.trans (qb c1);simp only[ai,cj] at a8;obtain⟨rfl,rfl⟩:=a8;clear k y f B O a5 N a3 s a4 a7;by_cases S:b<a.l.length
     focus
      have a9:a.l[b]?=some m:=(by have:=qb a6;unfold jG.full at this;rwa[aM S] at this);obtain⟨f8,f9,rfl,_,g0,b0⟩:=R (by intro d;rw[d] at S;simp at S);obtain⟨g1,g2,g3,g4⟩:=b0 b m a9;have d0:(b:Int)<(a.l.length:Int):=(by omega);clear R b0 a9
     rotate_left
     focus
      have d1:m=iO:=(by have:=qb a6;unfold jG.full at this;rw[aq (by omega)] at this;have h3:=zzn this;simpa using h3);subst d1;simp only[iO] at c3 c2 c4 c5;have d0:¬(b:Int)<(a.l.length:Int):=(by omega);have g5:(a.l.length:Int)<=(b:Int):=(by omega);clear R
     rotate_left
     all_goals
      go_wp2;go_quiet (fail);go_wp2;go_roundw
      case rel=>
       refine⟨?_,b+1,by omega,by go_num,qb c6,?_,?_,fun h r=>?_⟩
       ·rfl
       ·exact qu (qu (qu (qu (qb c7) (cu C) _) (cu C) _) (cu C) _) (cu C) _
       ·have D:∀ (b:Nat)(T:Value){U:World},gp (fun c=>∃ a∈e,c=a.g) g U->gp (fun c=>∃ a∈e,c=a.g) g (U.setCell ⟨a.g,b,none⟩ T):=fun b T U x=>x.setCell (.inl ⟨a,A,rfl⟩) T;exact D _ _ (D _ _ (D _ _ (D _ _ ((qb P).drewN _))))
       ·have E:h.out.ownBlock≠some a.g:=(by have d2:=(qb n).apart;have b1:(e.drop c).Pairwise (fun a h=>a.g≠h.g):=d2.sublist (List.drop_sublist _ _);rw[qb M] at b1;have:=(bn.1 b1).1 h r;simp[jG.out,Value.ownBlock];exact fun d=>this d.symm);exact aw (aw (aw (aw ((qb Q) h r) E _) E _) E _) E _
      case measure=>simp[intOf];omega
    ·obtain rfl:b=a.l.length+3:=(by omega);have P:=qg f;have Q:=qg B;have g6:gp (fun _=>False) v v:=gp.refl _ _;have g7:=trivial;clear k y f B;go_wp2;go_roundw
     case rel=>exact⟨rfl,c+1,by omega,by go_num,qb P,qb Q⟩
     case measure=>simp[intOf];omega
  ·obtain rfl:c=e.length:=(by omega);clear G p z w;go_wp2;go_loopw [3,7] (fun o i j=>o=.bool true/\i=.int .i64 0/\j.cell? ⟨t,1,none⟩=some (.slice none 0 0)/\j.cell? ⟨t,2,none⟩=some (.slice none 0 0)/\gp (fun c=>∃ a∈e,c=a.g) g j) (fun _ _ _=>0)
   case atStart=>exact⟨rfl,rfl,m1,m2,f⟩
   case round=>
    clear m0 m1 m2 f;obtain⟨rfl,rfl,m1,m2,f⟩:=hrel;have q:=qg f;clear f;go_wp2;go_loopw [3,10] (fun o i j=>o=.bool true/\i=.int .i64 0/\j.cell? ⟨t,2,none⟩=some (.slice none 0 0)/\gp (fun c=>∃ a∈e,c=a.g) g j) (fun _ _ _=>0)
    case atStart=>exact⟨rfl,rfl,m2,qb q⟩
    case round=>
     clear m1 m2 q;obtain⟨rfl,rfl,m2,f⟩:=hrel;have q:=qg f;clear f;go_wp2;go_ret;exact⟨rfl,qb q⟩
def QA.but {d S:Nat->Prop}{g:Nat}{h i:World}{e:List jG}(b:QA d g h e)(j:gp S h i)(l:∀ f,d f->¬S f)(m:∀ a∈e,¬S a.g):QA d g i e:=
 ⟨b.len,b.tL,fun a c=>(b.rd a c).but j l,fun a c=>(b.own a c).but j (fun f k=>by simp only[jG.out,Value.ownBlock,ac] at k;subst k;exact m a c),b.apart⟩
def QA.below {b:List jG}(a:QA U n w b)(c:Below w.heap.size w w2):QA U n w2 b:=a.but (S:=fun _=>False) (.aD c) (fun _ _ a=>a) (fun _ _ a=>a)
def QA.none (a:Nat->Prop)(b:Nat)(c:World):QA a b c []:=⟨by simp,by simp,by simp,by simp,by simp⟩
def QA.lt {e:Nat->Prop}{b:Nat}{c:World}{d:List jG}(f:QA e b c d){a:jG}(g:a∈d):b<=a.g/\a.g<c.heap.size:=ab (f.own a g) a.g rfl
def QA.more {h:Nat->Prop}{i l:Nat}{e t u A:Value}{j n:List jG}{v:Value}{o:List Rc}{f w:World}(p:QA h l f j)(q:rL f w i l e t u j v o A n)(B:f.heap[i]?=some (.cells #[e,t,u] 76))(C:oc f l e j)(D:iG h f v o) (E:o.length<=2000000) (r:∀ b,h b->b<f.heap.size/\b≠i/\e.ownBlock≠some b):QA h l w n/\n.length<=j.length+1:=by
 have x:∀ b,h b->¬(b=i\/e.ownBlock=some b):=fun b y a=>a.elim (r b y).2.1 (r b y).2.2;have F:∀ k∈j,¬(k.g=i\/e.ownBlock=some k.g):=fun k G a=>by
  have z:=p.own k G;rcases a with a | a
  ·exact Jr z B (by decide) (by rw[<-a];rfl)
  ·rcases z.2 with ⟨m,_⟩ | ⟨M,N,O,m,_,H,_⟩
   ·cases m
   ·simp only[jG.out,ai,ac,bz,bB] at m;obtain⟨rfl,_⟩:=m;exact qq C H (by decide) a
 have g:=p.but q.but x F;rcases q.more with rfl | ⟨k,rfl,s,I,P,Q,J⟩
 ·exact⟨g,by omega⟩
 ·refine⟨⟨fun d c=>?_,fun d c=>?_,fun d c=>?_,fun d c=>?_,?_⟩,by simp⟩
  ·rcases al.1 c with a | a
   ·exact g.len d a
   ·rw[ay.1 a,s];exact E
  ·rcases al.1 c with a | a
   ·exact g.tL d a
   ·rw[ay.1 a];intro K;have:=(r _ K).1;omega
  ·rcases al.1 c with a | a
   ·exact g.rd d a
   ·rw[ay.1 a,s,I];exact D.but q.but x
  ·rcases al.1 c with a | a
   ·exact g.own d a
   ·rw[ay.1 a];unfold jG.full;rw[s];exact J
  ·refine bj.2 ⟨g.apart,dL _ _,fun d c R L=>?_⟩;rw[ay.1 L];have:=(p.lt c).2;omega
variable{d:TypeId}{I:Nat×Nat}{V:Nat→Prop}
section
attribute [local go_sem ↓] Go.wp_at_zero Go.wp_at_succ
def pk (a b:Int):Int:=(if a<0 then -(a+1) else a)%b
def sM (b a:Int)(c:0<a):0<=pk b a/\pk b a<a:=by
 unfold pk;exact⟨Int.emod_nonneg _ (by omega),Int.emod_lt_of_pos _ c⟩
def Jp (a b:Int)(d:World)(g:-9223372036854775808<=a/\a<=9223372036854775807)(h:0<b/\b<=100000000000000):Calls Tryz.prog 11 #[.int .i64 a,.int .i64 b] d fun c f=>c=.returned (.int .i64 (pk a b))/\f=d:=by
 by_cases e:a<0
 ·have c:pk a b=-((a+1).tmod b):=(by unfold pk;rw[an e,<-Int.neg_tmod,eY (by omega)]);rw[c];go_enter Tryz.func11,Tryz.ntmps11;go_wp2;go_ret;exact⟨rfl,rfl⟩
 ·have c:pk a b=a%b:=(by unfold pk;rw[ah e]);rw[c];go_enter Tryz.func11,Tryz.ntmps11;go_wp2;go_ret;exact⟨rfl,rfl⟩
def Z4 (a:Int)(b:World):Calls Tryz.prog 14 #[.int .i64 a] b fun c d=>c=.returned (.int .i64 a)/\d=b:=by
 go_enter Tryz.func14,Tryz.ntmps14;go_wp2;go_ret;exact⟨rfl,rfl⟩
def qr0 (b:Int)(a:Nat)(d:0<a):∃ c:Nat,pk b a=c/\c<a:=by
 have e:=sM b a (by omega);exact⟨(pk b a).toNat,by omega,by omega⟩
def iG.below (a:iG U w v l)(b:Below w.heap.size w w2):iG U w2 v l:=a.but (S:=fun _=>False) (.aD b) (fun _ _ a=>a)
def v9:List Rc:=[⟨1,0,0,0⟩,⟨2,0,1,0⟩,⟨3,0,1,0⟩,⟨4,0,1,0⟩,⟨5,0,0,0⟩,⟨6,1,0,0⟩,⟨6,0,0,0⟩,⟨9,0,0,0⟩,⟨7,0,0,0⟩,⟨8,0,1,0⟩,⟨8,0,0,0⟩,⟨10,0,1,0⟩,⟨10,0,1,0⟩,⟨10,0,1,0⟩,⟨11,0,0,0⟩]
def qi0 (f:w.heap[n]?=some (.cells (qK l).toArray d I))(g:U n)(a:Nat)(h:l.length<=a)(i:a<=maxLen):iG U w (.slice (some ⟨n,0,none⟩) l.length a) l:=by
 refine⟨some ⟨n,0,none⟩,a,rfl,h,i,fun _=>⟨n,0,rfl,g,qh f,fun j k m=>?_⟩⟩;have b:=kL l j k m;have c:∀ e,w.cell? ⟨n,e,none⟩=(qK l)[e]?:=fun e=>by rw[qe f e];simp
 rw[bA];exact⟨(c _).trans b.1,(c _).trans b.2.1,(c _).trans b.2.2.1,(c _).trans b.2.2.2⟩
def Yi (a:World):Calls Tryz.prog 6 #[] a fun e b=>∃ d,e=.returned d/\iG (fun c=>c=a.heap.size) b d v9/\a.heap.size<b.heap.size/\Below a.heap.size a b:=by
 go_enter Tryz.func6,Tryz.ntmps6;go_wp2;go_ret;refine⟨.slice (some ⟨a.heap.size,0,none⟩) 15 15,rfl,?_,by simp,(aa _ a).alloc (zzl _) _⟩;have f:(a.alloc (.cells (qK v9).toArray 42)).heap[a.heap.size]?=some (.cells (qK v9).toArray 42):=qt _ _ _ rfl;exact qi0 (U:=fun c=>c=a.heap.size) (l:=v9) f rfl 15 (by decide) (by simp[maxLen])
def qe7 (a:World)(c:Obj)(b:Nat)(d:b<a.heap.size):(a.alloc c).heap[b]?=a.heap[b]?:=bH a c b d
def iG.wide (c:iG S w v l)(d:∀ k,S k->V k):iG V w v l:=by
 obtain⟨e,f,a,g,h,i⟩:=c;refine⟨e,f,a,g,h,fun j=>?_⟩;obtain⟨b,m,a,n,o⟩:=i j;exact⟨b,m,a,d b n,o⟩
def iG.at {k:Nat->Prop}{g:World}{h:Option Addr}{i l:Nat}{d:List Rc}(m:iG k g (.slice h i l) d){e:Nat}{f:Rc}(j:d[e]?=some f):i=d.length/\∃ b c,h=some ⟨b,c,none⟩/\oa g b (c+e*4) f:=by
 obtain⟨p,q,a,r,s,n⟩:=m;simp only[ai] at a;obtain⟨rfl,rfl,rfl⟩:=a;obtain⟨b,c,a,_,_,o⟩:=n (by intro a;subst a;simp at j);exact⟨rfl,b,c,a,o e f j⟩
def Kw:∀ a∈v9,1<=a.x/\(-9223372036854775808<=a.y/\a.y<=9223372036854775807)/\(-9223372036854775808<=a.w/\a.w<=9223372036854775807):=by
 intro a b;simp only[v9,bf,dt,eW] at b;rcases b with rfl | rfl | rfl | rfl | rfl | rfl | rfl | rfl | rfl | rfl | rfl | rfl | rfl | rfl | rfl<;>decide
end
variable{F:Array Oper}{J:List Oper}{p:Oper}{s:Act}{D:Exit→Act→World→Prop}{z:Value}{f:Array Value}
def iW (c:World)(n:TypeId)(h:Nat)(i:Value)(b a:List Rc)(o:gw c h i b)(k:Nat)(A:c.heap[k]?=some (.cells (qK a).toArray 46))(B:0<a.length)(M:b.length+a.length<=1000000000)(C:h<=c.heap.size):∃ g j d,(Builtin.append_ #[47,47] n #[i,.slice (some ⟨k,0,none⟩) a.length a.length]).run Tryz.prog c=.ok (.slice (some ⟨g,0,none⟩) (b.length+a.length) j) d/\ gw d h (.slice (some ⟨g,0,none⟩) (b.length+a.length) j) (b++a)/\gw d h i b/\((i.ownBlock=some g/\(∃ D,i=.slice (some ⟨g,0,none⟩) D j)/\c.grownBy d (some g))\/(g=c.heap.size/\c.grownBy d none))/\g<d.heap.size:=by
 obtain⟨p,q,v,l,w⟩:=aZ XI;have r:=xT A;obtain⟨g,j,d,f,E,x,F,s⟩:=run_append_lies (P:=Tryz.prog) c 47 n h 46 p _ 4 32 Tryz.underlying47 q v l w rfl (by decide) i b.length (qK b) o ⟨k,0,none⟩ a.length a.length (qK a) (qM a) r (Ko a) B (by unfold maxLen;omega) (by omega) C _ rfl;have y:gw d h (.slice (some ⟨g,0,none⟩) (b.length+a.length) j) (b++a):=(by unfold gw;rw[zp,ae];exact E);refine⟨g,j,d,f,y,?_⟩;rcases o.2 with ⟨rfl,G⟩ | ⟨m,e,H,rfl,N,t,O,Q,I,R⟩
 ·have J:=bQ.1 G;subst J;refine⟨za7 _,.inr ⟨?_,x⟩,s⟩;rcases F with e | e
  ·cases e
  ·exact e
 ·by_cases K:b.length+a.length<=e
  ·have u:=run_append_room (P:=Tryz.prog) c 47 n 46 p Tryz.underlying47 q m b.length e H t ⟨k,0,none⟩ a.length a.length (qK a) (by rw[l];exact qM a) r (Ko a) K (by rw[l,qM,I];omega);rw[u] at f;simp only[fy,ai,ac,bz,bB,cj] at f;obtain⟨⟨rfl,rfl⟩,_⟩:=f;exact⟨qi4 y,.inl ⟨rfl,⟨_,rfl⟩,x⟩,s⟩
  ·have L:=dq o (g:=m) rfl;have u:=run_append_grow (P:=Tryz.prog) c 47 n 46 p _ Tryz.underlying47 q v ⟨m,0,none⟩ b.length e (qK b) (by rw[l];exact qM b) L ⟨k,0,none⟩ a.length a.length (qK a) (by rw[l];exact qM a) r (by omega) (by omega) (growslice_fits (by omega) (by rw[w];omega));rw[u] at f;simp only[fy,ai,ac,bz,bB,cj] at f;obtain⟨⟨rfl,rfl⟩,rfl⟩:=f;have z:c.grownBy (c.drew.alloc (.cells ((qK b).toArray++(qK a).toArray++Builtin.zeroCells (Value.agg #[.int .i64 0,.int .i64 0,.int .i64 0,.int .i64 0]).cells (grownCap c (b.length+a.length) e 46-(b.length+a.length))) 46)) none:=⟨rfl,rfl,rfl,by simp,fun m t _=>bH c.drew _ m t⟩;exact⟨ck o z (.inr (by simp[Value.ownBlock])),.inr ⟨rfl,z⟩,s⟩
def ni (l:p.guard=none)(j k:Operand)(m:p.op=.call {callee:=.builtin .append,args:=#[j,k],argTypes:=#[47,47]}) (f:Nat) (e:Value) (d b:List Rc) (o:s.eval j=e) (q:gw w f e d) (h i:Nat) (r:i=b.length) (t:s.eval k=.slice (some ⟨h,0,none⟩) i i)(u:w.heap[h]?=some (.cells (qK b).toArray 46)) (v:0<b.length) (x:d.length+b.length<=1000000000) (y:f<=w.heap.size)(z:∀ a g c,gw c f (.slice (some ⟨a,0,none⟩) (d.length+b.length) g) (d++b)->gw c f e d->((e.ownBlock=some a/\(∃ n,e=.slice (some ⟨a,0,none⟩) n g)/\w.grownBy c (some a))\/(a=w.heap.size/\w.grownBy c none))->a<c.heap.size->wpList Tryz.prog F D J (s.put p.dst (.slice (some ⟨a,0,none⟩) (d.length+b.length) g)) c):wpList Tryz.prog F D (p::J) s w:=by
 subst r;obtain⟨a,g,c,A,B,C,E,G⟩:=iW w p.type f e d b q h u v x y;refine eA l fun I H=>?_;unfold Oper.wp execOp;simp only[m,resolve,invoke,builtin,ee,fs,cX,List.map_toArray,aY,dr,o,t,A];exact H _ _ (z a g c B C E G)
structure ps (d:Value)(w:World)(B:Nat)(u:Value)(c:Nat)(m:Rc):Prop where
 own:gw w B u (List.replicate c m)
 shape:∀ g,d.ownBlock=some g->u.ownBlock=some g->∃ n cap,d=.slice (some ⟨g,0,none⟩) n cap/\u=.slice (some ⟨g,0,none⟩) c cap
def ps.alloc {a:Value}{b:World}{c:Nat}{d:Value}{e:Nat}{f:Rc}(g:ps a b c d e f)(h:Obj):ps a (b.alloc h) c d e f:=⟨aR g.own h,g.shape⟩
def ps.set (a:ps v w n z i r)(c:w.heap[j]?=some (.cells f d I))(e:d≠46)(g:Nat)(b:Value):ps v (w.setCell ⟨j,g,none⟩ b) n z i r:=
 ⟨aw a.own (Jr a.own c e) b,a.shape⟩
def hQ (C:p.guard=none)(o q:Operand)(E:p.op=.call {callee:=.builtin .append,args:=#[o,q],argTypes:=#[47,47]}) (e:Nat) (f:Value) (b a:Nat) (c:Rc) (j:s.eval o=f) (y:gw w e f (List.replicate b c)) (r:Nat) (G:s.eval q=.slice (some ⟨r,0,none⟩) a a)(H:w.heap[r]?=some (.cells (qK (List.replicate a c)).toArray 46)) (I:0<a) (K:b+a<=1000000000) (L:e<=w.heap.size)(M:∀ i k g,ps f g e (.slice (some ⟨i,0,none⟩) (b+a) k) (b+a) c->gw g e f (List.replicate b c)->(∀ l h,ps f w e l h c->h<=b+a->ps f g e l h c)->w.grownBy g f.ownBlock->wpList Tryz.prog F D J (s.put p.dst (.slice (some ⟨i,0,none⟩) (b+a) k)) g):wpList Tryz.prog F D (p::J) s w:=by
 refine ni C o q E e f (List.replicate b c) (List.replicate a c) j y r a (by simp) G H (by simpa using I) (by simpa using K) L ?_;intro i k g t N u R;rw[aS,aS] at t ⊢;have v:gw g e (.slice (some ⟨i,0,none⟩) (b+a) k) (List.replicate (b+a) c):=(by rw[db] at t;exact t);refine M i k g ⟨v,?_⟩ N ?_ ?_
 ·intro S m z;simp only[Value.ownBlock,ac] at z;subst z;rcases u with ⟨_,⟨A,n⟩,_⟩ | ⟨n,_⟩
  ·exact⟨A,k,n,rfl⟩
  ·have:=(ab y _ m).2;omega
 ·intro l h j T;refine⟨?_,j.shape⟩;rcases u with ⟨m,⟨A,n⟩,d⟩ | ⟨_,d⟩
  ·by_cases B:l.ownBlock=some i
   ·obtain⟨U,V,x,rfl⟩:=j.shape i m B;rw[n] at x;simp only[ai,cj] at x;obtain⟨_,rfl⟩:=x;have O:List.replicate (b+a) c=List.replicate h c++List.replicate (b+a-h) c:=(by rw[db,show h+(b+a-h)=b+a by omega]);rw[O] at v;have:=qi4 v;rwa[aS] at this
   ·exact ck j.own d (.inr B)
  ·exact ck j.own d (by cases W:l.ownBlock<;>simp)
 ·rcases u with ⟨m,_,d⟩ | ⟨_,d⟩
  ·rw[m];exact d
  ·exact⟨d.os,d.tape,d.output,d.size,fun P Q _=>d.block P Q (by simp)⟩
variable{m:World}{b t:Nat}{a3 a4 pv va vf:Value}{b7:List he}
def oQ:(Tryz.prog.info? 82).map (fun a=>(a.zero,a.size,a.bytes))=some (some (.agg #[.slice none 0 0,.slice none 0 0,.slice none 0 0,.slice none 0 0,.int .i64 0]),5,104):=by kernel_rfl
def nM (c d e f:Option Addr)(g h i j k c2 l m:Nat)(n:Int):∀ a∈xw ⟨.slice c g k,.slice d h c2,.slice e i l,.slice f j m,n⟩,a.oneCell'=true:=by
 intro a b;simp[xw] at b;rcases b with rfl | rfl | rfl | rfl | rfl<;>rfl
def mp (a:World)(b:Obj)(c:Nat)(d:c=a.heap.size):(a.alloc b).drew.heap[c]?=some b:=qt a b c d
structure pX (w w':World)(wb base B:Nat)(g0 g1 g2 g3 kr ki kf v:Value)(es:List he)(kr':Value)(en:he):Prop where
 box:w'.heap[wb]?=some (.cells #[g0,g1,g2,g3,kr',ki,kf] 39)
 own:hu w' base kr' (es++[en])
 uk:xx B w' en
 uh:∀ k,kr'.ownBlock=some k->kr.ownBlock=some k\/w.heap.size<=k
 but:gp (fun k=>k=wb\/kr.ownBlock=some k\/v.ownBlock=some k) w w'
def oP {o p q:Value}{d:Value}(G:gp (fun c=>a3.ownBlock=some c) w w2) (H:gw w2 g a3 (List.replicate l.length (mark b7.length))) (I:ps a3 w2 g o (l.length+1) (mark b7.length)) (J:ps a3 w2 g p (l.length+2) (mark b7.length)) (K:ps a3 w2 g q (l.length+3) (mark b7.length))(x:hu w2 j d b7) (s:w2.heap[n]?=some (.cells #[v,z,vf,va,d,pv,a4] 39)) (y:w2.grownBy m d.ownBlock)(A:m.ownsRow j 82 5 (.slice (some ⟨b,0,none⟩) (b7.length+1) t) (b7.length+1) (zQ b7++xw ⟨a3,o,p,q,b7.length⟩)) (L:d.ownBlock=some b\/b=w2.heap.size+1) (R:w.heap.size<=w2.heap.size) (S:0<=l.length) (T:0<=b7.length) (U:b7.length<=2000000) (V:l.length<=20000000):pX w (m.setCell ⟨n,4,none⟩ (.slice (some ⟨b,0,none⟩) (b7.length+1) t)) n j g v z vf va d pv a4 a3 b7 (.slice (some ⟨b,0,none⟩) (b7.length+1) t) ⟨a3,o,p,q,b7.length⟩:=by
 have M:=qq x s (by decide);have B:=zl y s M;have N:b≠n:=fun k=>qq A B (by decide) (by rw[k];rfl);have C:gp (fun c=>c=n\/d.ownBlock=some c) w2 (m.setCell ⟨n,4,none⟩ (.slice (some ⟨b,0,none⟩) (b7.length+1) t)):=((gp.refl _ w2).grown y (fun c k=>.inl (.inr k))).setCell (.inl (.inl rfl)) _;have O:∀ c,(c=n\/d.ownBlock=some c)->c<w2.heap.size->∃ D E F,w2.heap[c]?=some (.cells D E F)/\E≠46:=fun c f _=>by
  rcases f with rfl | f
  ·exact⟨_,_,_,s,by decide⟩
  ·obtain⟨D,F,k⟩:=hu.kind x f;exact⟨_,_,_,k,by decide⟩
 have r:∀ u h,h<=30000000->gw w2 g u (List.replicate h (mark b7.length))->jN (m.setCell ⟨n,4,none⟩ (.slice (some ⟨b,0,none⟩) (b7.length+1) t)) g u b7.length:=fun u h P e=>
  jN.uf ⟨_,e,by simpa using P,fun W Q=>(fO.1 Q).2⟩ C O
 refine⟨?_,?_,⟨by simp;omega,r a3 _ (by omega) H,r o _ (by omega) I.own,r p _ (by omega) J.own,r q _ (by omega) K.own⟩,?_,?_⟩
 ·simpa using qp (i:=4) B (.slice (some ⟨b,0,none⟩) (b7.length+1) t)
 ·have:=aw A (a:=⟨n,4,none⟩) (by simp[Value.ownBlock];exact N) (.slice (some ⟨b,0,none⟩) (b7.length+1) t);unfold hu;rw[ae,YB];exact this
 ·intro c f;simp only[Value.ownBlock,ac] at f;subst f;rcases L with h | h
  ·exact .inl h
  ·exact .inr (by omega)
 ·exact (G.wide (fun c _ e=>.inr (.inr e))).trans (C.wide (fun c _ e=>e.elim .inl (fun e=>.inr (.inl e))))
def io (w B o:Nat)(c0 c1 c3 c4 Y c5 c6 Z:Value)(d:List he)(b:List Rc)(h:World)(a0:h.heap[w]?=some (.cells #[c0,c1,c3,c4,Y,c5,c6] 39))(a1:hu h B Y d)(l6:B<=h.heap.size)(a2:gw h o Z b)(l7:o<=h.heap.size)(g3:d.length<=2000000)(g4:b.length<=20000000):Calls Tryz.prog 36 #[.pointer (some ⟨w,4,none⟩),Z] h fun f g5=>f=.returned (.tuple #[])/\∃ g6 g7,pX h g5 w B o c0 c1 c3 c4 Y c5 c6 Z d g6 g7:=by
 obtain⟨g8,g9,i0,i1,i2⟩:=aZ XI;obtain⟨a3,a4,rfl⟩:=qr a1;obtain⟨r,m,rfl⟩:=qr a2;obtain⟨i3,-⟩:=zzk a0 4;have i4:IntKind.i64.wrap (-5000-(d.length:Int))=-5000-(d.length:Int):=(by rw[af];omega);have C:=qg a0;have I:=qg a1;have D:=qg a2;clear a0 a1 a2;go_enter Tryz.func36,Tryz.ntmps36;go_wp2;go_loopw [6] (fun a5 wr=>∃ c:Nat,c<=b.length/\a5=.int .i64 c/\gw wr o (.slice r b.length m) (List.replicate c (mark d.length)++b.drop c)/\wr.heap[h.heap.size]?=some (.cells (qK [mark d.length]).toArray 46)/\h.heap.size<wr.heap.size/\gp (fun c=>(Value.slice r b.length m).ownBlock=some c) h wr) (fun a5 _=>b.length-(intOf a5).toNat)
 case atStart=>
  refine⟨0,aj _,rfl,by simpa using aR (qb D) _,qt _ _ _ rfl,by simp,(gp.refl _ _).alloc _⟩
 case round=>
  rename World=>e;obtain⟨c,l8,rfl,j,E,c7,x⟩:=hrel;obtain⟨a6,a7,a8,a9,-⟩:=zzc E;have J:=fun i y=>(ab (qb D) i y).2;by_cases i5:c<b.length
  ·obtain⟨F,c8⟩:∃ F,b[c]?=some F:=⟨b[c],by simp[i5]⟩;have c9:b.drop c=F::b.drop (c+1):=(by obtain⟨i6,f⟩:=zzg c8;rw[bu i6,f]);rw[c9] at j;have d0:(List.replicate c (mark d.length)).length=c:=(by simp);have z:b.length=(List.replicate c (mark d.length)++F::b.drop (c+1)).length:=(by simp;omega);obtain⟨n,l9,f,_,_⟩:=ld j (by simp);simp only[ai] at f;obtain⟨rfl,i7,rfl⟩:=f;clear i7;have b0:=qd4 (mark d.length) j z;obtain⟨n0,c2,n1,n2⟩:=qr3 j (j:=c) (r:=F) (by rw[aq (by omega)];simp);have n3:=xM j z (c*4);have n4:=xM j z (c*4+1);have n5:=xM j z (c*4+2);have n6:=xM j z (c*4+3);rw[d0] at b0;have d1:gw ((((e.setCell ⟨n,c*4,none⟩ (.int .i64 (mark d.length).x)).setCell ⟨n,c*4+1,none⟩ (.int .i64 (mark d.length).y)).setCell ⟨n,c*4+2,none⟩ (.int .i64 (mark d.length).w)).setCell ⟨n,c*4+3,none⟩ (.int .i64 (mark d.length).h)) o (.slice (some ⟨n,0,none⟩) b.length m) (List.replicate (c+1) (mark d.length)++b.drop (c+1)):=(by rw[cU,aN];exact b0);have d2:=J n rfl;have i8:=qg d1;have K:=qg E;have L:=qg x;have g8:(0:Int)<=(c:Int):=(by omega);have n7:(c:Int)<(b.length:Int):=(by omega);have i9:=qg c7;have n8:=qg d2;have M:h.heap.size≠n:=(by omega);clear j E x b0 d1 c8 c9 z d0 J c7 d2 i3 i4 g9 i0 i1 i2;go_wp2;go_roundw
   case rel=>
    refine⟨c+1,by omega,by go_num,qb i8,?_,by simpa[World.setCell] using qb i9,?_⟩
    ·exact qu (qu (qu (qu (qb K) M _) M _) M _) M _
    ·have N:∀ (i:Nat)(b1:Value){b2:World},gp (fun c=>(Value.slice (some ⟨n,0,none⟩) b.length m).ownBlock=some c) h b2->gp (fun c=>(Value.slice (some ⟨n,0,none⟩) b.length m).ownBlock=some c) h (b2.setCell ⟨n,i,none⟩ b1):=fun i b1 b2 j0=>j0.setCell (p:=⟨n,i,none⟩) (.inl rfl) b1;exact N _ _ (N _ _ (N _ _ (N _ _ (qb L))))
   case measure=>simp[intOf];omega
  ·obtain rfl:c=b.length:=(by omega);rw[eL,aW] at j;have d3:=j;have b3:∀ i,(Value.slice a3 d.length a4).ownBlock=some i->(Value.slice r b.length m).ownBlock≠some i:=fun i y=>by
    obtain⟨n9,o0,f⟩:=hu.kind (qb I) y;exact Jr (qb D) f (by decide)
   have d4:=qi (qb I) x b3;have b4:=x.heap (qb C) (Jr (qb D) (qb C) (by decide));obtain⟨o1,-⟩:=zzk b4 4;have L:=qg x;have K:=qg E;have d5:=qg d3;have o2:=qg d4;have o3:=qg b4;clear j d3 x E d4 b4;have o4:o<=e.heap.size:=(by omega);have d6:∀ i,h.heap.size<=i->(Value.slice r b.length m).ownBlock≠some i:=fun i y f=>by have:=J i f;omega
   have s:=qg d6;clear d6 J;go_wp2_with
    (first
     | (at_builtin
        refine hQ rfl _ _ rfl o _ b.length 1 (mark d.length) rfl (aR (aR (qb d5) _) _) (e.heap.size+1) rfl (qt _ _ _ (by simp)) (by decide) (by omega) (by simp;omega) ?_
        intro O P d7 t u v g
        have b5:=zB (au _ _ _) (zB (au _ _ _) g)
        have Q:=zl g (qx (qt _ _ _ rfl) _) ((qb s) _ (by omega))
        have b6:=zl b5 (qb K) ((qb s) _ (zzl _))
        obtain⟨-,j1,-⟩:=zzc Q
        have j2:=qj Q
        obtain⟨a6,a7,a8,a9,-⟩:=zzc b6
        have o5:e.heap.size≠h.heap.size:=by omega
        have o6:e.heap.size+1<d7.heap.size:=by have:=g.size;simp at this;omega
        have d8:=qg u
        have d9:=qg t
        have e0:=qg ((qb L).grown b5 (fun c f=>.inl f))
        have b7:=qg Q
        have e1:=qg b6
        clear d5 L K t u v g b5 Q b6)
     | (at_builtin
        refine hQ rfl _ _ rfl o _ b.length 2 (mark d.length) rfl (aR (aw (qb d8) ((qb s) _ (by simp;omega)) _) _) d7.heap.size rfl (qt _ _ _ (by simp)) (by decide) (by omega) (by simp;omega) ?_
        intro R S e2 t u v g
        have e3:=(((qb e0).setCell (p:=⟨e.heap.size,1,none⟩) (.inr (by simp;omega)) _).alloc _).grown g (fun c f=>.inl f)
        have hA2:=v _ _ (((qb d9).set (qb b7) (by decide) 1 _).alloc _) (by omega)
        have T:=zl g (qx (by simpa using qp (i:=1) (qb b7) (.slice (some ⟨O,0,none⟩) (b.length+1) P)) _) ((qb s) _ (by omega))
        have b8:=zl g (qx (qu (qb e1) (by simp;omega) _) _) ((qb s) _ (zzl _))
        obtain⟨-,-,j3,-⟩:=zzc T
        have j4:=qj T
        obtain⟨a6,a7,a8,a9,-⟩:=zzc b8
        have o7:e.heap.size+1<e2.heap.size:=by have:=g.size;simp[World.setCell] at this;omega
        have e4:=qg u
        have e5:=qg t
        have e6:=qg hA2
        have e7:=qg e3
        have U:=qg T
        have j5:=qg b8
        clear d8 d9 e0 b7 e1 t u v g hA2 e3 T b8 j1 j2)
     | (at_builtin
        refine hQ rfl _ _ rfl o _ b.length 3 (mark d.length) rfl (aR (aw (qb e4) ((qb s) _ (by simp;omega)) _) _) e2.heap.size rfl (qt _ _ _ (by simp)) (by decide) (by omega) (by simp;omega) ?_
        intro k l G t u v g
        have e8:=(((qb e7).setCell (p:=⟨e.heap.size,2,none⟩) (.inr (by simp;omega)) _).alloc _).grown g (fun c f=>.inl f)
        have hA3:=v _ _ (((qb e6).set (qb U) (by decide) 2 _).alloc _) (by omega)
        have e9:=v _ _ (((qb e5).set (qb U) (by decide) 2 _).alloc _) (by omega)
        have V:=zl g (qx (by simpa using qp (i:=2) (qb U) (.slice (some ⟨R,0,none⟩) (b.length+2) S)) _) ((qb s) _ (by omega))
        obtain⟨j6,-⟩:=zzk V 3
        have j7:=qj V
        have j8:e.heap.size+1<G.heap.size:=by have:=g.size;simp[World.setCell] at this;omega
        have f0:=qg u
        have f1:=qg t
        have f2:=qg hA3
        have f3:=qg e9
        have f4:=qg e8
        have H:=qg V
        clear e4 e6 e5 e7 U j5 t u v g hA3 e9 e8 V j3 j4 a6 a7 a8 a9))
   obtain⟨j9,y,k0,k1,k2⟩:=aZ oQ;have f5:(G.setCell ⟨e.heap.size,3,none⟩ (.slice (some ⟨k,0,none⟩) (b.length+3) l)).heap[e.heap.size]?=some (.cells #[.slice r b.length m,.slice (some ⟨O,0,none⟩) (b.length+1) P,.slice (some ⟨R,0,none⟩) (b.length+2) S,.slice (some ⟨k,0,none⟩) (b.length+3) l,.int .i64 d.length] 82):=(by simpa using qp (i:=3) (qb H) (.slice (some ⟨k,0,none⟩) (b.length+3) l));have W:gp (fun c=>(Value.slice r b.length m).ownBlock=some c) h (G.setCell ⟨e.heap.size,3,none⟩ (.slice (some ⟨k,0,none⟩) (b.length+3) l)):=(qb f4).setCell (p:=⟨e.heap.size,3,none⟩) (.inr (by simp;omega)) _;have hA4:=(qb f2).set (qb H) (by decide) 3 (.slice (some ⟨k,0,none⟩) (b.length+3) l);have f6:=(qb f3).set (qb H) (by decide) 3 (.slice (some ⟨k,0,none⟩) (b.length+3) l);have f7:=(qb f1).set (qb H) (by decide) 3 (.slice (some ⟨k,0,none⟩) (b.length+3) l);have f8:=aw (qb f0) (a:=⟨e.heap.size,3,none⟩) ((qb s) _ (by simp;omega)) (.slice (some ⟨k,0,none⟩) (b.length+3) l);have o8:e.heap.size+1<(G.setCell ⟨e.heap.size,3,none⟩ (.slice (some ⟨k,0,none⟩) (b.length+3) l)).heap.size:=(by simpa[World.setCell] using j8);clear H f4 f2 f3 f1 f0 j6 j7;generalize G.setCell ⟨e.heap.size,3,none⟩ (.slice (some ⟨k,0,none⟩) (b.length+3) l)=q at *;have b9:=qi (qb I) W b3;have A:=W.heap (qb C) (Jr (qb D) (qb C) (by decide));have f9:=qq b9 A (by decide);have g0:(Value.slice a3 d.length a4).ownBlock≠some e.heap.size:=fun f=>by have:=(ab (qb I) _ f).2;omega
   have o9:w≠e.heap.size:=fun f=>by have:=qh (qb C);omega
   obtain⟨k3,-⟩:=zzk A 4;have k4:=qj A 4;obtain⟨p0,p1,p2,p3,p4,-⟩:=zzc f5;have X:=qh A;have p5:e.heap.size<q.heap.size:=(by omega);have k5:=qg W;have k6:=qg hA4;have k7:=qg f6;have k8:=qg f7;have k9:=qg f8;have g1:=qg b9;have l0:=qg A;have g2:=qg f9;have p6:=qg g0;have l1:Hid (B<=q.heap.size):=(by show _<=_;omega);clear W hA4 f6 f7 f8 b9 A f5 b3 f9 g0;go_region_law
    ((refine step_append_lies _ (by rfl) _ _ _ (by rfl) B 82 j9 _ 5 104 Tryz.underlying33 y k0 k1 k2 rfl (by omega) (.slice a3 d.length a4) d.length (zQ d) (by rfl) (dP (aR (qb g1) _)) ⟨q.heap.size,0,none⟩ 1 1 (xw ⟨.slice r b.length m,.slice (some ⟨O,0,none⟩) (b.length+1) P,.slice (some ⟨R,0,none⟩) (b.length+2) S,.slice (some ⟨k,0,none⟩) (b.length+3) l,d.length⟩) (by rfl) (by rfl) (xT (mp _ _ _ (by simp))) (nM _ _ _ _ _ _ _ _ _ _ _ _ _) (by omega) (by unfold maxLen;omega) (by omega) (by have:=qb l1;simp;omega) (q.heap.size+1) (by simp) ?_;intro l2 gk p7 l3 g l4 p8;have p9:=(g.frozen_far ⟨w,4,none⟩ (zzm X (by show _<=(q.heap.push _).size;rw[bJ];omega)) (cu (qb g2))).trans ((cW (w:=q) (bH _ _ _ X)).trans k4);have q0:=(g.cell_far ⟨w,4,none⟩ (zzm X (by show _<=(q.heap.push _).size;rw[bJ];omega)) (cu (qb g2))).trans ((aH (w:=q) (bH _ _ _ X)).trans k3)))
   all_goals
    go_end0;refine⟨rfl,.slice (some ⟨l2,0,none⟩) (d.length+1) gk,⟨.slice r b.length m,.slice (some ⟨O,0,none⟩) (b.length+1) P,.slice (some ⟨R,0,none⟩) (b.length+2) S,.slice (some ⟨k,0,none⟩) (b.length+3) l,d.length⟩,?_⟩;have l5:=zB (au q _ _) (zB (km _ 1 _) g);exact oP (qb k5) (qb k9) (qb k6) (qb k7) (qb k8) (qb g1) (qb l0) l5 l3 l4 (by omega) (by omega) (by omega) g3 g4
end Go.Proofs.YtbnbkjbfpamijaaGreat
