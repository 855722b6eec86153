import Derived.Test.YtbnbkjbfpamijaaGreatAbj
import Derived.Test.YtbnbkjbfpamijaaGreatAbk
set_option linter.all false
set_option maxRecDepth 100000
set_option maxHeartbeats 0
namespace Go.Proofs.YtbnbkjbfpamijaaGreat
open Go.RowKit Go.Proofs.Panes
variable{B' a7 q:Int}{A B l:List Rc}
section
attribute [local go_sem ↓] Go.wp_at_zero Go.wp_at_succ
def hW (c d:Value)(b:List Rc)(a:World)(h:Rd a c b)(i:Rd a d b)(e:b.length<=100000000):Calls Tryz.prog 35 #[c,d] a fun f g=>f=.returned (.bool true)/\Below a.heap.size a g:=
 (lD c d b b a h i e e).mono fun f g ⟨j,k⟩=>⟨by rw[j];simp,k⟩
def sE (f:Int)(a b:List Rc)(c:Int)(d:List Rc):Prop:=if (gH a&&gH b)=true then c=0/\∀ e,pu (hk f) a b e->d=e else c=1/\d=[]
def pY (e:Int)(a b:List Rc)(c:Int)(d:List Rc):Prop:=if (gH a&&gH b)=true then c=0/\pu (hk e) a b d else c=1/\d=[]
def nj {c:List Rc}(b:sE q l B B' A)(a:pY q l B a7 c):A=c/\B'=a7:=by
 unfold sE at b;unfold pY at a;split at b<;>rename_i d
 ·rw[an d] at a;exact⟨b.2 c a.2,by rw[b.1,a.1]⟩
 ·rw[ah d] at a;exact⟨by rw[b.2,a.2],by rw[b.1,a.1]⟩
def lv (p:Int)(w:p=1\/p=2\/p=3\/p=4)(e f:Value)(c b:List Rc)(a:World)(m:Rd a e c)(n:Rd a f b)(x:p=1->b=[]):Calls Tryz.prog 32 #[.int .i64 p,e,f] a fun i g=>∃ h o d,i=.returned (.tuple #[h,.int .i64 o])/\sE p c b o d/\gw g a.heap.size h d/\d.length<=20000000/\Below a.heap.size a g:=by
 by_cases q:(gH c&&gH b)=true
 ·have s:gH c=true:=(by cases k:gH c;rw[k] at q;cases q;rfl);have t:gH b=true:=(by cases k:gH b;rw[k,dN] at q;cases q;rfl);have l:∀ (j:Int),Calls Tryz.prog 32 #[.int .i64 j,e,f] a (fun i g=>∃ h d,i=.returned (.tuple #[h,.int .i64 0])/\lL a g h (hk j) c b d)->Calls Tryz.prog 32 #[.int .i64 j,e,f] a fun i g=>∃ h o d,i=.returned (.tuple #[h,.int .i64 o])/\sE j c b o d/\gw g a.heap.size h d/\d.length<=20000000/\Below a.heap.size a g:=fun j k=>
   k.mono fun i g ⟨h,d,v,r⟩=>⟨h,0,d,v,by unfold sE;rw[an q];exact⟨rfl,r.only⟩,r.own,r.len,r.below⟩
  rcases w with rfl | rfl | rfl | rfl
  ·exact l 1 (nX e f c b a m n s t (x rfl))
  ·exact l 2 (nW e f c b a m n s t)
  ·exact l 3 (nV e f c b a m n s t)
  ·exact l 4 (nT e f c b a m n s t)
 ·have u:(gH c&&gH b)=false:=(by cases k:(gH c&&gH b);rfl;exact absurd k q);have l:∀ (j:Int),Calls Tryz.prog 32 #[.int .i64 j,e,f] a (fun i g=>i=.returned (.tuple #[.slice none 0 0,.int .i64 1])/\Below a.heap.size a g)->Calls Tryz.prog 32 #[.int .i64 j,e,f] a fun i g=>∃ h o d,i=.returned (.tuple #[h,.int .i64 o])/\sE j c b o d/\gw g a.heap.size h d/\d.length<=20000000/\Below a.heap.size a g:=fun j k=>
   k.mono fun i g ⟨v,r⟩=>⟨_,1,[],v,by unfold sE;rw[ah q];exact⟨rfl,rfl⟩,za7 _,by simp,r⟩
  rcases w with rfl | rfl | rfl | rfl
  ·exact l 1 (nh e f c b a m n u (x rfl))
  ·exact l 2 (ng e f c b a m n u)
  ·exact l 3 (nf e f c b a m n u)
  ·exact l 4 (nc e f c b a m n u)
def oo (g:Int)(h i:Value)(a b:List Rc)(c:World)(o:Rd c h a)(p:Rd c i b):Calls Tryz.prog 33 #[.int .i64 (hk g),h,i] c fun k e=>∃ j q l,k=.returned (.tuple #[j,.int .i64 q])/\pY g a b q l/\Rd e j l/\l.length<=20000000/\Below c.heap.size c e:=by
 by_cases d:(gH a&&gH b)=true
 ·have s:gH a=true:=(by cases f:gH a;rw[f] at d;cases d;rfl);have t:gH b=true:=(by cases f:gH b;rw[f,dN] at d;cases d;rfl);exact (ll (hk g) h i a b c o p s t).mono fun k e ⟨j,u,m,v,r,n⟩=>⟨j,0,u,m,by unfold pY;rw[an d];exact⟨rfl,r⟩,v.rd,by have:=r.len;omega,n⟩
 ·have w:(gH a&&gH b)=false:=(by cases f:(gH a&&gH b);rfl;exact absurd f d);exact (iP (hk g) h i a b c o p w).mono fun k e ⟨m,n⟩=>⟨_,1,[],m,by unfold pY;rw[ah d];exact⟨rfl,rfl⟩,(za7 (w:=e) 0).rd,by simp,n⟩
end
variable{U:Nat→Prop}{i n:Nat}{a3 a4 pv v va vf z:Value}{b7:List he}{b4:he}{b9 m w w2:World}
section
attribute [local go_sem ↓] Go.wp_at_zero Go.wp_at_succ
def hq (g:Nat->Prop)(b:World)(p:Value)(c:List (List Rc)):Prop:=
 ∃ h i,p=.slice h c.length i/\c.length<=i/\(c≠[]->∃ d j,h=some ⟨d,j,none⟩/\g d/\d<b.heap.size/\∀ (k:Nat) a,c[k]?=some a->∃ l f,b.cell? ⟨d,j+k,none⟩=some (.slice l a.length f)/\a.length<=f/\f<=maxLen/\
  (a≠[]->∃ e m,l=some ⟨e,m,none⟩/\g e/\e<b.heap.size/\∀ n o,a[n]?=some o->oa b e (m+n*4) o))
def hq.but {b S:Nat->Prop}{d e:World}{f:Value}{g:List (List Rc)}(o:hq b d f g)(a:gp S d e)(h:∀ k,b k->¬S k):hq b e f g:=by
 obtain⟨p,q,r,s,t⟩:=o;refine⟨p,q,r,s,fun u=>?_⟩;obtain⟨c,v,w,i,j,x⟩:=t u;refine⟨c,v,w,i,zzm j a.size,fun y z A=>?_⟩;obtain⟨B,C,D,E,F,G⟩:=x y z A;refine⟨B,C,(aH (a.block c j (h c i))).trans D,E,F,fun H=>?_⟩;obtain⟨l,I,J,m,n,K⟩:=G H;exact⟨l,I,J,m,zzm n a.size,fun L M N=>(K L M N).but a n (h l m)⟩
def hq.at {j:Nat->Prop}{e:World}{k:Value}{g:List (List Rc)}(m:hq j e k g){h:Nat}{a:List Rc}(l:g[h]?=some a):∃ b f i c d,k=.slice (some ⟨b,f,none⟩) g.length i/\b<e.heap.size/\e.cell? ⟨b,f+h,none⟩=some (.slice c a.length d)/\iG j e (.slice c a.length d) a:=by
 obtain⟨w,i,rfl,x,n⟩:=m;obtain⟨b,f,rfl,y,o,p⟩:=n (by intro q;subst q;simp at l);obtain⟨c,d,r,s,t,u⟩:=p h a l;refine⟨b,f,i,c,d,rfl,o,r,c,d,rfl,s,t,fun v=>?_⟩;exact u v
structure hR (base wb:Nat)(gr gc go ss kr ki kf:Value)(es:List he)(w w':World)(kr':Value)(es':List he):Prop where
 box:w'.heap[wb]?=some (.cells #[gr,gc,go,ss,kr',ki,kf] 39)
 own:hu w' base kr' es'
 ents:∀ e∈es',xx base w' e
 len:es'.length<=es.length+1
 qu0:∀ e∈es',e∈es\/xx w.heap.size w' e
 uh:∀ k,kr'.ownBlock=some k->kr.ownBlock=some k\/w.heap.size<=k
 but:gp (fun k=>k=wb\/kr.ownBlock=some k) w w'
def iM {s t:Value}{j:List jG}{u:World}(x:w.heap[i]?=some (.cells #[v,z,vf,va,pv,a4,a3] 39)) (y:hu w n pv b7) (F:∀ d∈b7,xx n w d) (K:n<=w.heap.size)(A:Below w.heap.size w w2) (B:Below w2.heap.size w2 m) (k:QA U w.heap.size b9 j) (l:∀ e∈j,e.g<w2.heap.size) (G:∀ a,t.ownBlock=some a->w2.heap.size<=a)(g:pX m b9 i n w2.heap.size v z vf va pv a4 a3 t b7 s b4) (h:gp (fun a=>∃ e∈j,a=e.g) b9 u):hR n i v z vf va pv a4 a3 b7 w u s (b7++[b4]):=by
 have L:=qh x;have M:=A.size;have N:=B.size;have H:gp (fun a=>a=i\/pv.ownBlock=some a) w m:=(gp.aD A).step (gp.aD (S:=fun _=>False) B) (fun _ b=>b.elim);have I:=H.step g.but (fun a b=>by
  rcases b with b | b | b
  ·exact .inl (.inl b)
  ·exact .inl (.inr b)
  ·have:=G a b;exact .inr (by omega))
 have C:=I.step h (fun a ⟨e,f,d⟩=>.inr (by rw[d];exact (k.lt f).1));refine⟨?_,?_,?_,by simp,?_,?_,C⟩
 ·exact h.heap g.box (fun ⟨e,f,d⟩=>by have:=(k.lt f).1;omega)
 ·refine hu.but g.own h (fun a o ⟨e,f,d⟩=>?_);have D:=(k.lt f).1;have E:=l e f;rcases g.uh a o with c | c
  ·have:=(ab y a c).2;omega
  ·omega
 ·intro d p;rcases al.1 p with c | c
  ·refine (F d c).uf C (fun a b _=>?_);rcases b with rfl | b
   ·exact⟨_,_,_,x,by decide⟩
   ·obtain⟨O,P,d⟩:=hu.kind y b;exact⟨_,_,_,d,by decide⟩
  ·rw[ay.1 c];refine (g.uk.but h (fun J a q r ⟨e,f,d⟩=>?_)).mono (by omega);have D:=(q.lt r).1;have E:=l e f;omega
 ·intro d p;rcases al.1 p with c | c
  ·exact .inl c
  ·rw[ay.1 c];refine .inr ((g.uk.but h (fun J a q r ⟨e,f,d⟩=>?_)).mono (by omega));have D:=(q.lt r).1;have E:=l e f;omega
 ·intro a o;rcases g.uh a o with c | c
  ·exact .inl c
  ·exact .inr (by omega)
def nC (D:Nat->Prop)(v w:Nat)(Y Z a0 a1 x d2 d3:Value)(r:List he)(f:List (List Rc))(g j k p:Int)(c:World)(E:c.heap[w]?=some (.cells #[Y,Z,a0,a1,x,d2,d3] 39)) (d4:hu c v x r) (d5:∀ a∈r,xx v c a) (j9:v<=c.heap.size) (F:hq D c Y f)(d6:g=2\/g=3\/g=4) (G:-9223372036854775808<=j/\j<=9223372036854775807) (a2:-9223372036854775808<=k/\k<=9223372036854775807) (o9:r.length<=1900000) (d7:0<f.length/\f.length<=2000000) (a3:∀ l∈f,l.length<=2000000) (d8:∀ d,D d->d<c.heap.size/\d≠w/\x.ownBlock≠some d):Calls Tryz.prog 9 #[.pointer (some ⟨w,0,none⟩),.agg #[.int .i64 g,.int .i64 j,.int .i64 k,.int .i64 p]] c fun a h=>a=.returned (.bool true)/\∃ a4 k0,hR v w Y Z a0 a1 x d2 d3 r c h a4 k0:=by
 obtain⟨y,d9,k1⟩:=qr0 j f.length d7.1;obtain⟨z,e0,k2⟩:=qr0 k f.length d7.1;obtain⟨n,a5⟩:∃ n,f[y]?=some n:=⟨f[y],by simp[k1]⟩;obtain⟨o,a6⟩:∃ o,f[z]?=some o:=⟨f[z],by simp[k2]⟩;obtain⟨p0,p1,p2,e1,e2,rfl,k3,p3,e3⟩:=F.at a5;obtain⟨p4,p5,p6,e4,e5,a,_,k4,e6⟩:=F.at a6;simp only[ai,ac,bz,bB,cj] at a;obtain⟨⟨rfl,rfl⟩,rfl⟩:=a;have k5:=Jp j f.length c G (by omega);have p7:¬g=5:=(by omega);have k6:¬g=1:=(by omega);obtain⟨k7,-⟩:=zzc E;have e7:=qh E;have p8:¬(f.length:Int)=0:=(by omega);have k8:Hid (∀ h,Calls Tryz.prog 11 #[.int .i64 j,.int .i64 f.length] h fun a a7=>a=.returned (.int .i64 y)/\a7=h):=fun h=>by
  have e:=Jp j f.length h G (by omega);rw[d9] at e;exact e
 have k9:Hid (∀ h,Calls Tryz.prog 11 #[.int .i64 k,.int .i64 f.length] h fun a a7=>a=.returned (.int .i64 z)/\a7=h):=fun h=>by
  have e:=Jp k f.length h a2 (by omega);rw[e0] at e;exact e
 have e8:=qg E;have a8:=qg d4;have l0:=qg d5;have p9:=qg F;have e9:=qg e3;have f0:=qg e6;have q0:=qg G;have q1:=qg a2;have q2:(0:Int)<=(y:Int):=(by omega);have q3:(y:Int)<(f.length:Int):=(by omega);have q4:(0:Int)<=(z:Int):=(by omega);have q5:(z:Int)<(f.length:Int):=(by omega);have f1:=a3 n (zzn a5);have f2:=a3 o (zzn a6);have l1:=qg d6;have s:=qg d8;clear E d4 d5 F e3 e6 G a2 a5 a6 a3 k5 d9 e0 d6 d8;go_enter Tryz.func9,Tryz.ntmps9;go_wp2;go_quiet ((go_at_call 11;exact Calls.quiet_of_same ((qb k8) _)));go_wp2;have H:Below c.heap.size c ((c.alloc (.cells #[.int .i64 g,.int .i64 j,.int .i64 k,.int .i64 p] 42)).drewN nq):=ax ((aa _ c).alloc (zzl _) _) _;have I:((c.alloc (.cells #[.int .i64 g,.int .i64 j,.int .i64 k,.int .i64 p] 42)).drewN nq).heap[c.heap.size]?=some (.cells #[.int .i64 g,.int .i64 j,.int .i64 k,.int .i64 p] 42):=qt _ _ _ rfl;generalize (c.alloc (.cells #[.int .i64 g,.int .i64 j,.int .i64 k,.int .i64 p] 42)).drewN nq=J at *;have l2:=(H.cell e7).trans k7;have l3:=(H.cell k3).trans k4;obtain⟨a9,-,f3,-⟩:=zzc I;have b0:=qh I;have b1:c.heap.size≠J.heap.size:=(by omega);have f4:=qg H;have f5:=qg I;clear H I;go_quiet ((go_at_call 11;exact Calls.quiet_of_same ((qb k9) _)));have f6:Below c.heap.size c (J.drewN nq):=ax (qb f4) _;have K:(J.drewN nq).heap[c.heap.size]?=some (.cells #[.int .i64 g,.int .i64 j,.int .i64 k,.int .i64 p] 42):=qb f5;clear f4 f5 l2 l3 a9 f3 b0 b1;generalize J.drewN nq=q at *;obtain⟨a9,-⟩:=zzc K;have b0:=qh K;have b1:c.heap.size≠q.heap.size:=(by omega);have f7:=qg f6;have f8:=qg K;clear f6 K;go_wp2;have f9:(q.alloc (.cells #[.slice none 0 0,.slice none 0 0,.slice none 0 0] 76)).heap[q.heap.size]?=some (.cells #[.slice none 0 0,.slice none 0 0,.slice none 0 0] 76):=qt _ _ _ rfl;have L:Below c.heap.size c (q.alloc (.cells #[.slice none 0 0,.slice none 0 0,.slice none 0 0] 76)):=(qb f7).alloc (by omega) _;have b2:(q.alloc (.cells #[.slice none 0 0,.slice none 0 0,.slice none 0 0] 76)).heap[c.heap.size]?=some (.cells #[.int .i64 g,.int .i64 j,.int .i64 k,.int .i64 p] 42):=qx (qb f8) _;have q6:=b0;clear f7 f8 a9 b1;generalize q.alloc (.cells #[.slice none 0 0,.slice none 0 0,.slice none 0 0] 76)=g0 at *;generalize q.heap.size=b3 at *;obtain⟨f3,-⟩:=zzc b2;have b4:=qg ((qb e9).but (S:=fun _=>False) (.aD L) (fun _ _ e=>e));have b5:=qg f9;have g1:=qg L;have g2:=qg b2;have b6:=L.size;clear f9 L b2;go_region_held3 (fun h=>h.cell? ⟨c.heap.size,0,none⟩=some (.int .i64 g))
  (first | go_keep | assumption)
  (first
    | (go_at_call 30
       (refine (zf2 b3 c.heap.size (.slice none 0 0) (.slice none 0 0) (.slice none 0 0) [] (.slice e1 n.length e2) n g0.drew (qb b5) (aQ _ _ _ _) b6 (qb b4).rd f1 (by simp)).mono ?_)
       (rintro a l4 ⟨l5,rfl,A,l6,l7,B⟩;have g3:=QA.more (QA.none D c.heap.size g0.drew) B (qb b5) (aQ _ _ _ _) (qb b4) f1 (fun d i=>⟨zzm ((qb s) d i).1 b6,by have:=((qb s) d i).1;omega,by simp[Value.ownBlock]⟩);have M:=((qb g1).drew).trans (B.but.below b6 (fun d b=>b.elim (fun a=>by omega) (fun a=>by cases a)));have b7:=B.but.heap (qb g2) (fun b=>b.elim (fun a=>by omega) (fun a=>by cases a));obtain⟨q7,-⟩:=zzc b7;have b8:=qg ((qb f0).but (S:=fun _=>False) (.aD M) (fun _ _ e=>e));have N:=qg A;have m:=qg B;have O:=qg g3;have g4:=qg M;have b9:=qg b7;have c0:=M.size;clear A B g3 M b7 b5 g1 g2 b4))
    | (go_at_call 30
       (refine (zf2 b3 c.heap.size l6 (.slice none 0 0) (.slice none 0 0) l7 (.slice e4 o.length e5) o l4 (qb m).box (qb m).own c0 (qb b8).rd f2 (by have:=(qb O).2;simp at this;omega)).mono ?_)
       (rintro a c1 ⟨l8,rfl,g5,g6,P,t⟩;have c2:=QA.more (qb O).1 t (qb m).box (qb m).own (qb b8) f2 (fun d i=>⟨zzm ((qb s) d i).1 c0,by have:=((qb s) d i).1;omega,fun a=>by have:=(ab (qb m).own d a).1;have:=((qb s) d i).1;omega⟩);have c3:=(qb g4).trans (t.but.below c0 (fun d b=>b.elim (fun a=>by omega) (fun a=>(ab (qb m).own d a).1)));have c4:=t.but.heap (qb b9) (fun b=>b.elim (fun a=>by omega) (fun a=>qq (qb m).own (qb b9) (by decide) a));obtain⟨q8,-⟩:=zzc c4;have A:=(qb N).but t.but (fun d i b=>b.elim (fun a=>Jr (qb N) (qb m).box (by decide) (a ▸ i)) (fun a=>qS (qb N) (qb m).own (by decide) i a));have q9:P.length<=2:=(by have h4:=(qb O).2;have:=c2.2;simp at h4;omega);have l9:=qg A;have n0:=qg g5;have Q:=qg t;have c5:=qg c2.1;have c6:=qg c3;have c7:=qg c4;have g7:=c3.size;clear A g5 t c2 c3 c4 N m O g4 b9 b8))
    | (go_at_call 32
       (refine (lv g (by have:=qb l1;omega) l5 l8 n o c1 (qb l9).rd (qb n0).rd (fun a=>absurd a k6)).mono ?_)
       rintro a r0 ⟨g8,r1,g9,rfl,i0,i1,n1,c8⟩
       have c9:=(c8.block _ (qh (qb c7))).trans (qb c7)
       obtain⟨r2,-⟩:=zzc c9
       have i2:=qg i0
       have i3:=qg i1
       have R:=qg c8
       have r3:=qg c9
       clear i0 i1 c8 c9 c7))
 have n2:Hid (∀ d0∈P,d0.g<c1.heap.size):=fun d0 d1=>((qb c5).lt d1).2;have i4:=qg ((qb c6).trans ((qb R).mono g7));go_wp2_with fail;refine (oe g _).mono ?_;rintro a h ⟨rfl,rfl⟩;go_wp2_with fail;refine (oo g (.slice e1 n.length e2) (.slice e4 o.length e5) n o h ((qb e9).but (S:=fun _=>False) (.aD (qb i4)) (fun _ _ e=>e)).rd ((qb f0).but (S:=fun _=>False) (.aD (qb i4)) (fun _ _ e=>e)).rd).mono ?_;rintro a n3 ⟨n4,r4,r5,rfl,i5,i6,r6,i7⟩;obtain⟨rfl,rfl⟩:=nj (qb i2) i5;have T:=qg i7;have n5:=qg i6;clear i5 i6 i7 i2;go_wp2_with fail;refine (hW g8 n4 g9 n3 ((qb i3).kept (qb T)).rd (qb n5) (by omega)).mono ?_;rintro a n6 ⟨rfl,U⟩;have V:=((qb R).trans ((qb T).mono (qb R).size)).trans (U.mono (aO (qb R).size (qb T).size));have C:=(qb c6).trans (V.mono g7);have i8:=(C.block _ e7).trans (qb e8);have i9:=hu.but (S:=fun _=>False) (qb a8) (.aD C) (fun _ _ e=>e);have j0:=((qb i3).kept (qb T)).kept U;have r7:=C.size;have r8:=V.size;have r9:=qg U;have W:=qg V;have s0:=qg C;have n7:=qg i8;have n8:=qg i9;have j1:=qg j0;clear U V C i8 i9 j0;go_wp2_with fail;refine (io w v c1.heap.size _ Z a0 a1 x _ _ g8 r g9 n6 (qb n7) (qb n8) (by omega) (qb j1) (by omega) (by omega) n1).mono ?_;rintro a j2 ⟨rfl,a4,n9,i⟩;have u:=fun d e=>(ab (qb j1) d e).1;have X:=fun d e=>(ab (qb a8) d e).2;have o0:=qh (qb Q).box;have j3:=i.but.heap (((qb W).block _ o0).trans (qb Q).box) (fun b=>by
  rcases b with b | b | b
  ·omega
  ·have:=X _ b;omega
  ·have:=u _ b;omega)
 have j4:oc j2 c.heap.size g6 P:=qi (qi (S:=fun _=>False) (qb Q).own (.aD (qb W)) (fun _ _ e=>e)) i.but (fun d o1 b=>by
  have o2:=ab (qb Q).own d o1;rcases b with b | b | b
  ·omega
  ·have:=X _ b;omega
  ·have:=u _ b;omega)
 have j5:=((qb c5).below (qb W)).but i.but (fun d o3 b=>by
  have j6:=(qb s) d o3;rcases b with b | b | b
  ·exact j6.2.1 b
  ·exact j6.2.2 b
  ·have:=u _ b;omega) (fun d0 d1 b=>by
  have o2:=(qb c5).lt d1;rcases b with b | b | b
  ·omega
  ·have:=X _ b;omega
  ·have:=u _ b;omega)
 have o4:=qg i;have o5:=qg j3;have o6:=qg j4;have j7:=qg j5;have o7:=qg u;clear i j3 j4 j5 u X;go_wp2_with fail;refine (KS D b3 c.heap.size c.heap.size g6 P j2 (qb o5) (qb o6) (qb j7) (by omega)).mono ?_;rintro a s1 ⟨rfl,j8⟩;have o8:=qg j8;clear j8;go_wp2;go_ret;exact⟨rfl,a4,r++[n9],iM (qb e8) (qb a8) (qb l0) j9 (qb c6) (qb W) (qb j7) (qb n2) (qb o7) (qb o4) (qb o8)⟩
end
section
attribute [local go_sem ↓] Go.wp_at_zero Go.wp_at_succ
def pZ (b:List Rc)(c d:Int):Prop:=if gH b=true then d=0/\∃ a,ha a/\(∀ e f,Qa a e f↔Qa b e f)/\c=hU a else d=1/\c=0
def nm (a:List Rc)(b c:Int):Prop:=if gH a=true then c=0/\∃ d,pu 1 a [] d/\b=hU d else c=1/\b=0
def oY {e:Int}(b:pZ l q B')(a:nm l a7 e):q=a7/\B'=e:=by
 unfold pZ at b;unfold nm at a;split at b<;>rename_i f
 ·rw[an f] at a;obtain⟨h,o,i,j,k⟩:=b;obtain⟨m,p,g,n⟩:=a;have:=za3 i g.right fun c d=>(j c d).trans ((lN l c d).trans (g.tO c d).symm);exact⟨by rw[k,n,this],by rw[h,m]⟩
 ·rw[ah f] at a;exact⟨by rw[b.2,a.2],by rw[b.1,a.1]⟩
def oK (c:Value)(a:List Rc)(b:World)(i:Rd b c a):Calls Tryz.prog 29 #[c] b fun e f=>∃ j k,e=.returned (.tuple #[.int .i64 j,.int .i64 k])/\pZ a j k/\Below b.heap.size b f:=by
 by_cases d:gH a=true
 ·exact (pE c a b i d).mono fun e f ⟨l,m,n,g,h⟩=>⟨_,0,g,by unfold pZ;rw[an d];exact⟨rfl,l,m,n,rfl⟩,h⟩
 ·exact (oJ c a b i (by cases o:gH a;rfl;exact absurd o d)).mono fun e f ⟨g,h⟩=>⟨_,1,g,by unfold pZ;rw[ah d];exact⟨rfl,rfl⟩,h⟩
def mX (c:Value)(a:List Rc)(b:World)(i:Rd b c a):Calls Tryz.prog 31 #[c] b fun e f=>∃ j k,e=.returned (.tuple #[.int .i64 j,.int .i64 k])/\nm a j k/\Below b.heap.size b f:=by
 by_cases d:gH a=true
 ·exact (nN c a b i d).mono fun e f ⟨l,m,g,h⟩=>⟨_,0,g,by unfold nm;rw[an d];exact⟨rfl,l,m,rfl⟩,h⟩
 ·exact (mY c a b i (by cases n:gH a;rfl;exact absurd n d)).mono fun e f ⟨g,h⟩=>⟨_,1,g,by unfold nm;rw[ah d];exact⟨rfl,rfl⟩,h⟩
def iz (d:w.heap[i]?=some (.cells #[v,z,vf,va,pv,a4,a3] 39))(e:hu w n pv b7)(f:∀ a∈b7,xx n w a)(b:Below w.heap.size w w2):hR n i v z vf va pv a4 a3 b7 w w2 pv b7:=
 ⟨(b.block _ (qh d)).trans d,hu.but (S:=fun _=>False) e (.aD b) (fun _ _ g=>g),fun a c=>(f a c).below b,by omega,fun a c=>.inl c,fun j h=>.inl h,.aD b⟩
def nD (n:Nat->Prop)(s t:Nat)(D W X Y o Z a0:Value)(p:List he)(b:List (List Rc))(d f j:Int)(a:World)(u:a.heap[t]?=some (.cells #[D,W,X,Y,o,Z,a0] 39)) (a1:hu a s o p) (a2:∀ c∈p,xx s a c) (g5:s<=a.heap.size) (v:hq n a D b)(w:-9223372036854775808<=d/\d<=9223372036854775807) (E:-9223372036854775808<=f/\f<=9223372036854775807) (g6:p.length<=1900000) (a3:0<b.length/\b.length<=2000000) (F:∀ l∈b,l.length<=2000000) (a4:∀ h,n h->h<a.heap.size/\h≠t/\o.ownBlock≠some h):Calls Tryz.prog 9 #[.pointer (some ⟨t,0,none⟩),.agg #[.int .i64 5,.int .i64 d,.int .i64 f,.int .i64 j]] a fun c g=>c=.returned (.bool true)/\∃ d3 d4,hR s t D W X Y o Z a0 p a g d3 d4:=by
 obtain⟨q,a5,d5⟩:=qr0 d b.length a3.1;obtain⟨r,a6,d6⟩:=qr0 f b.length a3.1;obtain⟨i,G⟩:∃ i,b[q]?=some i:=⟨b[q],by simp[d5]⟩;obtain⟨H,I⟩:∃ H,b[r]?=some H:=⟨b[r],by simp[d6]⟩;obtain⟨g7,g8,g9,a7,a8,rfl,d7,i0,a9⟩:=v.at G;obtain⟨i1,i2,i3,i4,i5,c,_,d8,d9⟩:=v.at I;simp only[ai,ac,bz,bB,cj] at c;obtain⟨⟨rfl,rfl⟩,rfl⟩:=c;have e0:=Jp d b.length a w (by omega);obtain⟨e1,-⟩:=zzc u;have e2:=qh u;have i6:¬(b.length:Int)=0:=(by omega);have e3:Hid (∀ g,Calls Tryz.prog 11 #[.int .i64 d,.int .i64 b.length] g fun c J=>c=.returned (.int .i64 q)/\J=g):=fun g=>by
  have e:=Jp d b.length g w (by omega);rw[a5] at e;exact e
 have e4:Hid (∀ g,Calls Tryz.prog 11 #[.int .i64 f,.int .i64 b.length] g fun c J=>c=.returned (.int .i64 r)/\J=g):=fun g=>by
  have e:=Jp f b.length g E (by omega);rw[a6] at e;exact e
 have e5:=qg u;have e6:=qg a1;have e7:=qg a2;have i7:=qg v;have b0:=qg a9;have i8:Hid (iG n a (.slice none 0 0) []):=⟨none,0,rfl,by simp,by simp[maxLen],fun e=>absurd rfl e⟩;have i9:=qg w;have j0:=qg E;have j1:(0:Int)<=(q:Int):=(by omega);have j2:(q:Int)<(b.length:Int):=(by omega);have j3:(0:Int)<=(r:Int):=(by omega);have j4:(r:Int)<(b.length:Int):=(by omega);have b1:=F i (zzn G);have j5:=F H (zzn I);have b2:=qg a4;clear u a1 a2 v a9 d9 w E G I F e0 a5 a6 a4;go_enter Tryz.func9,Tryz.ntmps9;go_wp2;go_quiet ((go_at_call 11;exact Calls.quiet_of_same ((qb e3) _)));go_wp2;have x:Below a.heap.size a ((a.alloc (.cells #[.int .i64 5,.int .i64 d,.int .i64 f,.int .i64 j] 42)).drewN nq):=ax ((aa _ a).alloc (zzl _) _) _;have y:((a.alloc (.cells #[.int .i64 5,.int .i64 d,.int .i64 f,.int .i64 j] 42)).drewN nq).heap[a.heap.size]?=some (.cells #[.int .i64 5,.int .i64 d,.int .i64 f,.int .i64 j] 42):=qt _ _ _ rfl;generalize (a.alloc (.cells #[.int .i64 5,.int .i64 d,.int .i64 f,.int .i64 j] 42)).drewN nq=z at *;have e8:=(x.cell e2).trans e1;have e9:=(x.cell d7).trans d8;obtain⟨K,-,f0,-⟩:=zzc y;have L:=qh y;have M:a.heap.size≠z.heap.size:=(by omega);have b3:=qg x;have b4:=qg y;clear x y;go_quiet ((go_at_call 11;exact Calls.quiet_of_same ((qb e4) _)));have b5:Below a.heap.size a (z.drewN nq):=ax (qb b3) _;have A:(z.drewN nq).heap[a.heap.size]?=some (.cells #[.int .i64 5,.int .i64 d,.int .i64 f,.int .i64 j] 42):=qb b4;clear b3 b4 e8 e9 K f0 L M;generalize z.drewN nq=k at *;obtain⟨K,-⟩:=zzc A;have L:=qh A;have M:a.heap.size≠k.heap.size:=(by omega);have b6:=qg b5;have b7:=qg A;clear b5 A;go_wp2_with fail;have b8:(k.alloc (.cells #[.slice none 0 0,.slice none 0 0,.slice none 0 0] 76)).heap[k.heap.size]?=some (.cells #[.slice none 0 0,.slice none 0 0,.slice none 0 0] 76):=qt _ _ _ rfl;have B:Below a.heap.size a (k.alloc (.cells #[.slice none 0 0,.slice none 0 0,.slice none 0 0] 76)):=(qb b6).alloc (by omega) _;have f1:(k.alloc (.cells #[.slice none 0 0,.slice none 0 0,.slice none 0 0] 76)).heap[a.heap.size]?=some (.cells #[.int .i64 5,.int .i64 d,.int .i64 f,.int .i64 j] 42):=qx (qb b7) _;have j6:=L;clear b6 b7 K M;generalize k.alloc (.cells #[.slice none 0 0,.slice none 0 0,.slice none 0 0] 76)=b9 at *;generalize k.heap.size=c0 at *;have N:=qg ((qb b0).but (S:=fun _=>False) (.aD B) (fun _ _ e=>e));have O:=qg b8;have c1:=qg B;have P:=B.size;clear b8 B f1;refine (zf2 c0 a.heap.size (.slice none 0 0) (.slice none 0 0) (.slice none 0 0) [] (.slice a7 i.length a8) i b9 (qb O) (aQ _ _ _ _) P (qb N).rd b1 (by simp)).mono ?_;rintro c f2 ⟨f3,rfl,c2,f4,c3,C⟩;have Q:=QA.more (QA.none n a.heap.size b9) C (qb O) (aQ _ _ _ _) (qb N) b1 (fun h c4=>⟨zzm ((qb b2) h c4).1 P,by have:=((qb b2) h c4).1;omega,by simp[Value.ownBlock]⟩);have R:=(qb c1).trans (C.but.below P (fun h f5=>f5.elim (fun c=>by omega) (fun c=>by cases c)));have j7:c3.length<=1:=(by have:=Q.2;simp at this;omega);have f6:=qg c2;have T:=qg C;have f7:=qg Q.1;have c5:=qg R;have c6:=R.size;clear c2 C Q R O c1 N;go_wp2_with fail;refine (oK f3 i f2 (qb f6).rd).mono ?_;rintro U f8 ⟨j8,j9,rfl,hA5,V⟩;have c7:=qg hA5;have c8:=qg V;have f9:=qg ((qb c5).trans (V.mono c6));clear hA5 V;go_wp2_with fail;refine (mX (.slice a7 i.length a8) i f8 ((qb b0).but (S:=fun _=>False) (.aD (qb f9)) (fun _ _ e=>e)).rd).mono ?_;rintro U g0 ⟨k0,k1,rfl,hA6,c9⟩;obtain⟨rfl,rfl⟩:=oY (qb c7) hA6;have m:=(qb c8).trans (c9.mono (qb c8).size);have k2:=qg m;have d0:=qg ((qb c5).trans (m.mono c6));have g1:=qg ((m.block _ (qh (qb T).box)).trans (qb T).box);have g2:=qg (qi (S:=fun _=>False) (qb T).own (.aD m) (fun _ _ e=>e));have d1:=qg ((qb f7).below m);clear hA6 c9 m c7;go_wp2_with fail;refine (KS n c0 a.heap.size a.heap.size f4 c3 g0 (qb g1) (qb g2) (qb d1) (by omega)).mono ?_;rintro U k3 ⟨rfl,d2⟩;have g3:=qg ((qb d0).trans (d2.below (qb d0).size (fun h ⟨U,g4,c⟩=>by rw[c];exact ((qb d1).lt g4).1)));clear d2;go_wp2_with (go_at_call 14;refine (Z4 _ _).mono ?_;rintro c g ⟨rfl,rfl⟩);go_ret;exact⟨rfl,o,p,iz (qb e5) (qb e6) (qb e7) (qb g3)⟩
def mO (t:Nat->Prop)(u v:Nat)(W X Y Z w d1 d2:Value)(p:List he)(f:List (List Rc))(i j n:Int)(c:World)(C:c.heap[v]?=some (.cells #[W,X,Y,Z,w,d1,d2] 39)) (d3:hu c u w p) (d4:∀ b∈p,xx u c b) (j3:u<=c.heap.size) (D:hq t c W f)(E:-9223372036854775808<=i/\i<=9223372036854775807) (a0:-9223372036854775808<=j/\j<=9223372036854775807) (o2:p.length<=1900000) (d5:0<f.length/\f.length<=2000000) (a1:∀ l∈f,l.length<=2000000) (d6:∀ d,t d->d<c.heap.size/\d≠v/\w.ownBlock≠some d):Calls Tryz.prog 9 #[.pointer (some ⟨v,0,none⟩),.agg #[.int .i64 1,.int .i64 i,.int .i64 j,.int .i64 n]] c fun b g=>b=.returned (.bool true)/\∃ a2 j4,hR u v W X Y Z w d1 d2 p c g a2 j4:=by
 obtain⟨x,d7,j5⟩:=qr0 i f.length d5.1;obtain⟨y,d8,j6⟩:=qr0 j f.length d5.1;obtain⟨m,a3⟩:∃ m,f[x]?=some m:=⟨f[x],by simp[j5]⟩;obtain⟨a4,a5⟩:∃ a4,f[y]?=some a4:=⟨f[y],by simp[j6]⟩;obtain⟨o3,o4,o5,d9,e0,rfl,j7,o6,e1⟩:=D.at a3;obtain⟨o7,o8,o9,p0,p1,b,_,j8,j9⟩:=D.at a5;simp only[ai,ac,bz,bB,cj] at b;obtain⟨⟨rfl,rfl⟩,rfl⟩:=b;have k0:=Jp i f.length c E (by omega);obtain⟨k1,-⟩:=zzc C;have e2:=qh C;have p2:¬(f.length:Int)=0:=(by omega);have k2:Hid (∀ g,Calls Tryz.prog 11 #[.int .i64 i,.int .i64 f.length] g fun b a6=>b=.returned (.int .i64 x)/\a6=g):=fun g=>by
  have e:=Jp i f.length g E (by omega);rw[d7] at e;exact e
 have k3:Hid (∀ g,Calls Tryz.prog 11 #[.int .i64 j,.int .i64 f.length] g fun b a6=>b=.returned (.int .i64 y)/\a6=g):=fun g=>by
  have e:=Jp j f.length g a0 (by omega);rw[d8] at e;exact e
 have e3:=qg C;have a7:=qg d3;have k4:=qg d4;have p3:=qg D;have e4:=qg e1;have e5:Hid (iG t c (.slice none 0 0) []):=⟨none,0,rfl,by simp,by simp[maxLen],fun e=>absurd rfl e⟩;have p4:=qg E;have p5:=qg a0;have p6:(0:Int)<=(x:Int):=(by omega);have p7:(x:Int)<(f.length:Int):=(by omega);have p8:(0:Int)<=(y:Int):=(by omega);have p9:(y:Int)<(f.length:Int):=(by omega);have e6:=a1 m (zzn a3);have q0:=a1 a4 (zzn a5);have q:=qg d6;clear C d3 d4 D e1 j9 E a0 a3 a5 a1 k0 d7 d8 d6;go_enter Tryz.func9,Tryz.ntmps9;go_wp2;go_quiet ((go_at_call 11;exact Calls.quiet_of_same ((qb k2) _)));go_wp2;have F:Below c.heap.size c ((c.alloc (.cells #[.int .i64 1,.int .i64 i,.int .i64 j,.int .i64 n] 42)).drewN nq):=ax ((aa _ c).alloc (zzl _) _) _;have G:((c.alloc (.cells #[.int .i64 1,.int .i64 i,.int .i64 j,.int .i64 n] 42)).drewN nq).heap[c.heap.size]?=some (.cells #[.int .i64 1,.int .i64 i,.int .i64 j,.int .i64 n] 42):=qt _ _ _ rfl;generalize (c.alloc (.cells #[.int .i64 1,.int .i64 i,.int .i64 j,.int .i64 n] 42)).drewN nq=H at *;have k5:=(F.cell e2).trans k1;have k6:=(F.cell j7).trans j8;obtain⟨a8,-,e7,-⟩:=zzc G;have a9:=qh G;have b0:c.heap.size≠H.heap.size:=(by omega);have e8:=qg F;have e9:=qg G;clear F G;go_quiet ((go_at_call 11;exact Calls.quiet_of_same ((qb k3) _)));have f0:Below c.heap.size c (H.drewN nq):=ax (qb e8) _;have I:(H.drewN nq).heap[c.heap.size]?=some (.cells #[.int .i64 1,.int .i64 i,.int .i64 j,.int .i64 n] 42):=qb e9;clear e8 e9 k5 k6 a8 e7 a9 b0;generalize H.drewN nq=o at *;obtain⟨a8,-⟩:=zzc I;have a9:=qh I;have b0:c.heap.size≠o.heap.size:=(by omega);have f1:=qg f0;have f2:=qg I;clear f0 I;go_wp2;have f3:(o.alloc (.cells #[.slice none 0 0,.slice none 0 0,.slice none 0 0] 76)).heap[o.heap.size]?=some (.cells #[.slice none 0 0,.slice none 0 0,.slice none 0 0] 76):=qt _ _ _ rfl;have J:Below c.heap.size c (o.alloc (.cells #[.slice none 0 0,.slice none 0 0,.slice none 0 0] 76)):=(qb f1).alloc (by omega) _;have b1:(o.alloc (.cells #[.slice none 0 0,.slice none 0 0,.slice none 0 0] 76)).heap[c.heap.size]?=some (.cells #[.int .i64 1,.int .i64 i,.int .i64 j,.int .i64 n] 42):=qx (qb f2) _;have q1:=a9;clear f1 f2 a8 b0;generalize o.alloc (.cells #[.slice none 0 0,.slice none 0 0,.slice none 0 0] 76)=f4 at *;generalize o.heap.size=b2 at *;obtain⟨e7,-⟩:=zzc b1;have b3:=qg ((qb e4).but (S:=fun _=>False) (.aD J) (fun _ _ e=>e));have b4:=qg f3;have f5:=qg J;have f6:=qg b1;have b5:=J.size;clear f3 J b1;go_region_held3 (fun g=>g.cell? ⟨c.heap.size,0,none⟩=some (.int .i64 1))
  (first | go_keep | assumption)
  (first
    | (go_at_call 30
       (refine (zf2 b2 c.heap.size (.slice none 0 0) (.slice none 0 0) (.slice none 0 0) [] (.slice d9 m.length e0) m f4.drew (qb b4) (aQ _ _ _ _) b5 (qb b3).rd e6 (by simp)).mono ?_)
       (rintro b k7 ⟨k8,rfl,z,k9,l0,A⟩;have f7:=QA.more (QA.none t c.heap.size f4.drew) A (qb b4) (aQ _ _ _ _) (qb b3) e6 (fun d h=>⟨zzm ((qb q) d h).1 b5,by have:=((qb q) d h).1;omega,by simp[Value.ownBlock]⟩);have K:=((qb f5).drew).trans (A.but.below b5 (fun d a=>a.elim (fun b=>by omega) (fun b=>by cases b)));have b6:=A.but.heap (qb f6) (fun a=>a.elim (fun b=>by omega) (fun b=>by cases b));obtain⟨q2,-⟩:=zzc b6;have b7:=qg ((qb e5).but (S:=fun _=>False) (.aD K) (fun _ _ e=>e));have L:=qg z;have k:=qg A;have M:=qg f7;have f8:=qg K;have b8:=qg b6;have b9:=K.size;clear z A f7 K b6 b4 f5 f6 b3))
    | (go_at_call 30
       (refine (zf2 b2 c.heap.size k9 (.slice none 0 0) (.slice none 0 0) l0 (.slice none 0 0) [] k7 (qb k).box (qb k).own b9 (qb b7).rd (by simp) (by have:=(qb M).2;simp at this;omega)).mono ?_)
       (rintro b c0 ⟨l1,rfl,f9,g0,N,r⟩;have c1:=QA.more (qb M).1 r (qb k).box (qb k).own (qb b7) (by simp) (fun d h=>⟨zzm ((qb q) d h).1 b9,by have:=((qb q) d h).1;omega,fun b=>by have:=(ab (qb k).own d b).1;have:=((qb q) d h).1;omega⟩);have c2:=(qb f8).trans (r.but.below b9 (fun d a=>a.elim (fun b=>by omega) (fun b=>(ab (qb k).own d b).1)));have c3:=r.but.heap (qb b8) (fun a=>a.elim (fun b=>by omega) (fun b=>qq (qb k).own (qb b8) (by decide) b));obtain⟨q3,-⟩:=zzc c3;have z:=(qb L).but r.but (fun d h a=>a.elim (fun b=>Jr (qb L) (qb k).box (by decide) (b ▸ h)) (fun b=>qS (qb L) (qb k).own (by decide) h b));have q4:N.length<=2:=(by have h4:=(qb M).2;have:=c1.2;simp at h4;omega);have l2:=qg z;have l3:=qg f9;have O:=qg r;have c4:=qg c1.1;have c5:=qg c2;have c6:=qg c3;have g1:=c2.size;clear z f9 r c1 c2 c3 L k M f8 b8 b7))
    | (go_at_call 32
       (refine (lv 1 (.inl rfl) k8 l1 m [] c0 (qb l2).rd (qb l3).rd (fun _=>rfl)).mono ?_)
       rintro b q5 ⟨g2,q6,g3,rfl,g4,g5,l4,c7⟩
       have c8:=(c7.block _ (qh (qb c6))).trans (qb c6)
       obtain⟨q7,-⟩:=zzc c8
       have g6:=qg g4
       have g7:=qg g5
       have P:=qg c7
       have q8:=qg c8
       clear g4 g5 c7 c8 c6))
 have l5:Hid (∀ c9∈N,c9.g<c0.heap.size):=fun c9 d0=>((qb c4).lt d0).2;have g8:=qg ((qb c5).trans ((qb P).mono g1));go_wp2_with fail;refine (oe 1 _).mono ?_;rintro b g ⟨rfl,rfl⟩;go_wp2_with fail;refine (oo 1 (.slice d9 m.length e0) (.slice none 0 0) m [] g ((qb e4).but (S:=fun _=>False) (.aD (qb g8)) (fun _ _ e=>e)).rd ((qb e5).but (S:=fun _=>False) (.aD (qb g8)) (fun _ _ e=>e)).rd).mono ?_;rintro b l6 ⟨l7,q9,r0,rfl,g9,i0,r1,i1⟩;obtain⟨rfl,rfl⟩:=nj (qb g6) g9;have Q:=qg i1;have l8:=qg i0;clear g9 i0 i1 g6;go_wp2_with fail;refine (hW g2 l7 g3 l6 ((qb g7).kept (qb Q)).rd (qb l8) (by omega)).mono ?_;rintro b l9 ⟨rfl,R⟩;have T:=((qb P).trans ((qb Q).mono (qb P).size)).trans (R.mono (aO (qb P).size (qb Q).size));have B:=(qb c5).trans (T.mono g1);have i2:=(B.block _ e2).trans (qb e3);have i3:=hu.but (S:=fun _=>False) (qb a7) (.aD B) (fun _ _ e=>e);have i4:=((qb g7).kept (qb Q)).kept R;have r2:=B.size;have r3:=T.size;have r4:=qg R;have U:=qg T;have r5:=qg B;have n0:=qg i2;have n1:=qg i3;have i5:=qg i4;clear R T B i2 i3 i4;go_wp2_with fail;refine (io v u c0.heap.size _ X Y Z w _ _ g2 p g3 l9 (qb n0) (qb n1) (by omega) (qb i5) (by omega) (by omega) l4).mono ?_;rintro b i6 ⟨rfl,a2,n2,h⟩;have s:=fun d e=>(ab (qb i5) d e).1;have V:=fun d e=>(ab (qb a7) d e).2;have n3:=qh (qb O).box;have i7:=h.but.heap (((qb U).block _ n3).trans (qb O).box) (fun a=>by
  rcases a with a | a | a
  ·omega
  ·have:=V _ a;omega
  ·have:=s _ a;omega)
 have i8:oc i6 c.heap.size g0 N:=qi (qi (S:=fun _=>False) (qb O).own (.aD (qb U)) (fun _ _ e=>e)) h.but (fun d n4 a=>by
  have n5:=ab (qb O).own d n4;rcases a with a | a | a
  ·omega
  ·have:=V _ a;omega
  ·have:=s _ a;omega)
 have i9:=((qb c4).below (qb U)).but h.but (fun d n6 a=>by
  have j0:=(qb q) d n6;rcases a with a | a | a
  ·exact j0.2.1 a
  ·exact j0.2.2 a
  ·have:=s _ a;omega) (fun c9 d0 a=>by
  have n5:=(qb c4).lt d0;rcases a with a | a | a
  ·omega
  ·have:=V _ a;omega
  ·have:=s _ a;omega)
 have n7:=qg h;have n8:=qg i7;have n9:=qg i8;have j1:=qg i9;have o0:=qg s;clear h i7 i8 i9 s V;go_wp2_with fail;refine (KS t b2 c.heap.size c.heap.size g0 N i6 (qb n8) (qb n9) (qb j1) (by omega)).mono ?_;rintro b r6 ⟨rfl,j2⟩;have o1:=qg j2;clear j2;go_wp2;go_ret;exact⟨rfl,a2,p++[n2],iM (qb e3) (qb a7) (qb k4) j3 (qb c5) (qb U) (qb j1) (qb l5) (qb o0) (qb n7) (qb o1)⟩
end
end Go.Proofs.YtbnbkjbfpamijaaGreat
