import Derived.Test.YtbnbkjbfpamijaaGreatAbg
import Derived.Test.YtbnbkjbfpamijaaGreatRows
import Derived.ProofKit
import Derived.OpenShut
import Derived.ShutString
import Derived.ChangeOld
import Derived.Below
import Derived.Lib.SmallJoins
import Derived.Deep.Slices
import Derived.JoinedCond
set_option linter.all false
set_option maxRecDepth 100000
set_option maxHeartbeats 0
namespace Go.Proofs.YtbnbkjbfpamijaaGreat
open Go.RowKit Go.Proofs.Panes
variable{w2:World}{V:Nat→Prop}{v:Value}
section
attribute [local go_sem ↓] Go.wp_at_zero Go.wp_at_succ
def Qu:List hg:=[⟨4,2,1,2,20,20,1,9⟩,⟨0,0,0,0,0,0,0,0⟩]
def yx:List (List gt):=[[⟨1,0,1,0,0,0,[],0⟩,⟨3,0,0,0,2,1,[5,0],0⟩,⟨8,0,0,0,0,0,[],77⟩]]
def ZN:yx.length<=10000000000000/\∀ a∈yx,a.length<=1759218604390/\∀ b∈a,b.px.length<=17592186043904:=by
 refine⟨by decide,fun a c=>?_⟩;simp only[yx,bf,dt,eW] at c;subst c;refine⟨by decide,fun b d=>?_⟩;simp only[bf,dt,eW] at d;rcases d with rfl | rfl | rfl<;>decide
def zb9 (c:Nat)(a:w2.heap[c]?=some (.cells #[.int .i64 4,.int .i64 2,.int .i64 1,.int .i64 2,.int .i64 20,.int .i64 20,.int .i64 1,.int .i64 9,.int .i64 0,.int .i64 0,.int .i64 0,.int .i64 0,.int .i64 0,.int .i64 0,.int .i64 0,.int .i64 0] 49)):mH (fun e=>e<w2.heap.size) w2 (.slice (some ⟨c,0,none⟩) 2 2) Qu:=by
 refine⟨some ⟨c,0,none⟩,2,rfl,fun _=>⟨c,0,rfl,qh a,qh a,fun d f b=>?_⟩⟩
 match d,b with
 | 0,b=>
  simp only[Qu,bp,ac] at b;subst b;exact⟨qe a 0,qe a 1,qe a 2,qe a 3,qe a 4,qe a 5,qe a 6,qe a 7⟩
 | 1,b=>
  simp only[Qu,bp,cD,ac] at b;subst b;exact⟨qe a 8,qe a 9,qe a 10,qe a 11,qe a 12,qe a 13,qe a 14,qe a 15⟩
 | d+2,b=>simp[Qu] at b
def zb8 (e f g:Nat)(h:w2.heap[e]?=some (.cells #[.int .i64 5,.int .i64 0] 3))(a:w2.heap[f]?=some (.cells #[.int .i64 1,.int .i64 0,.int .i64 1,.int .i64 0,.int .i64 0,.int .i64 0,.slice none 0 0,.int .i64 0,.int .i64 3,.int .i64 0,.int .i64 0,.int .i64 0,.int .i64 2,.int .i64 1,.slice (some ⟨e,0,none⟩) 2 2,.int .i64 0,.int .i64 8,.int .i64 0,.int .i64 0,.int .i64 0,.int .i64 0,.int .i64 0,.slice none 0 0,.int .i64 77] 52))(i:w2.heap[g]?=some (.cells #[.slice (some ⟨f,0,none⟩) 3 3] 53)):yM (fun j=>j<w2.heap.size) w2 (.slice (some ⟨g,0,none⟩) 1 1) yx:=by
 refine⟨some ⟨g,0,none⟩,1,rfl,fun _=>⟨g,0,rfl,qh i,qh i,fun k p d=>?_⟩⟩;have l:gS (fun j=>j<w2.heap.size) w2 (.slice none 0 0) []:=⟨none,0,rfl,zzl _,by simp[maxLen],fun a=>absurd rfl a⟩
 match k,d with
 | 0,d=>
  simp only[yx,bp,ac] at d;subst d;refine⟨_,qe i 0,some ⟨f,0,none⟩,3,rfl,by simp,by simp[maxLen],fun _=>⟨f,0,rfl,qh a,qh a,fun m q b=>?_⟩⟩
  match m,b with
  | 0,b=>
   simp only[bp,ac] at b;subst b;exact⟨qe a 0,qe a 1,qe a 2,qe a 3,qe a 4,qe a 5,⟨_,qe a 6,l⟩,qe a 7⟩
  | 1,b=>
   simp only[bp,cD,ac] at b;subst b;refine⟨qe a 8,qe a 9,qe a 10,qe a 11,qe a 12,qe a 13,⟨_,qe a 14,some ⟨e,0,none⟩,2,rfl,by simp,by simp[maxLen],fun _=>⟨e,0,rfl,qh h,qh h,fun o n c=>?_⟩⟩,qe a 15⟩
   match o,c with
   | 0,c=>
    simp only[bp,ac] at c;subst c;exact qe h 0
   | 1,c=>
    simp only[bp,cD,ac] at c;subst c;exact qe h 1
   | o+2,c=>simp at c
  | 2,b=>
   simp only[bp,cD,ac] at b;subst b;exact⟨qe a 16,qe a 17,qe a 18,qe a 19,qe a 20,qe a 21,⟨_,qe a 22,l⟩,qe a 23⟩
  | m+3,b=>simp at b
 | k+1,d=>simp[yx] at d
def yM.wide {U V:Nat->Prop}{w:World}{b:Value}{c:List (List gt)}(f:yM U w b c)(d:∀ k,U k->V k):yM V w b c:=by
 obtain⟨g,h,a,i⟩:=f;refine⟨g,h,a,fun j=>?_⟩;obtain⟨e,l,a,m,o,p⟩:=i j;refine⟨e,l,a,d e m,o,fun q r s=>?_⟩;obtain⟨t,u,v⟩:=p q r s;exact⟨t,u,v.wide d⟩
def mH.wide {U:Nat->Prop}{w:World}{b:List hg}(d:mH U w v b)(e:∀ k,U k->V k):mH V w v b:=by
 obtain⟨f,g,a,h⟩:=d;refine⟨f,g,a,fun i=>?_⟩;obtain⟨c,j,a,l,m⟩:=h i;exact⟨c,j,a,e c l,m⟩
def mH.below {U:Nat->Prop}{w w':World}{b:List hg}(a:mH U w v b)(c:Below w.heap.size w w'):mH U w' v b:=a.but (S:=fun _=>False) (.aD c) (fun _ _ a=>a)
def yM.below {U:Nat->Prop}{w w':World}{b:List (List gt)}(a:yM U w v b)(c:Below w.heap.size w w'):yM U w' v b:=a.but (S:=fun _=>False) (.aD c) (fun _ _ a=>a)
def Yj:∀ a∈v9,(-9223372036854775808<=a.h/\a.h<=9223372036854775807):=by
 intro a b;simp only[v9,bf,dt,eW] at b;rcases b with rfl | rfl | rfl | rfl | rfl | rfl | rfl | rfl | rfl | rfl | rfl | rfl | rfl | rfl | rfl<;>decide
def xf.first {U:Nat->Prop}{wb:Nat}{gr gc go:Value}{C:List hg}{O:List (List gt)}{w:World}(h:w.heap[wb]?=some (.cells #[gr,gc,go,.slice none 0 0,.slice none 0 0,.slice none 0 0,.slice none 0 0] 39))(l:mH U w gc C)(m:yM U w go O)(i:∀ b,U b->b<w.heap.size/\b≠wb):xf U wb gr gc go C O 0 w:=by
 refine⟨.slice none 0 0,.slice none 0 0,.slice none 0 0,.slice none 0 0,[],[],[],[],fun f=>if f=wb then 1 else 0,⟨h,aQ _ _ _ _,fun o j c=>by simp at c,fun o j c=>by simp at c,aQ _ _ _ _,aQ _ _ _ _,aQ _ _ _ _,fun d e=>by simp at e,fun d e=>by simp at e,fun d e=>by simp at e,an rfl,fun g a=>(by cases a),fun g a=>(by cases a),fun g a=>(by cases a),fun g a=>(by cases a),fun f p=>?_,l,m,fun b k=>⟨ah (i b k).2,(i b k).1⟩⟩,fun j c=>absurd c (dM),⟨zzl _,zzl _,zzl _,zzl _⟩⟩;by_cases d:f=wb
 ·rw[d];exact qh h
 ·exact absurd (ah d) p
section
variable {U:Nat->Prop}{wb:Nat}{gr gc go:Value}{C:List hg}{O:List (List gt)}{n:Nat}{w w':World}
def xf.more (a:xf U wb gr gc go C O n w):xf U wb gr gc go C O (n+1) w:=by
 obtain⟨b,c,d,e,f,g,h,i,gq,a⟩:=a;exact a.more
def xf.below (a:xf U wb gr gc go C O n w)(b:Below w.heap.size w w'):xf U wb gr gc go C O n w':=by
 obtain⟨c,d,e,f,g,h,i,j,gq,a⟩:=a;exact⟨c,d,e,f,g,h,i,j,gq,a.mem.below b,a.each,a.len⟩
def xf.whole (a:xf U wb gr gc go C O n w)(j:n<=2000000):Calls Tryz.prog 8 #[.pointer (some ⟨wb,4,none⟩)] w fun b w'=>b=.returned (.bool true)/\Below w.heap.size w w':=by
 obtain⟨k,d,e,f,l,g,h,i,gq,a⟩:=a;have m:=a.len;exact ze1 wb 0 d e f g h i w (qe a.mem.box 4) (qe a.mem.box 5) (qe a.mem.box 6) a.mem.oR a.mem.oI a.mem.oF (fun b c=>(a.mem.eR b c).1.areR) (fun b c=>(a.mem.eI b c).1.areI) (fun b c=>(a.mem.eF b c).1.areF) ⟨by omega,by omega,by omega⟩
def XG (d:xf U wb gr gc go C O n w)(a b e c:Int)(u:6<=a/\a<=11)(f:-9223372036854775808<=b/\b<=9223372036854775807)(h:e<=9223372036854775807)(i:-9223372036854775808<=c/\c<=9223372036854775807)(g:n<=1100000)(j:C.length<=10000000000000)(k:O.length<=10000000000000)(m:∀ l∈O,l.length<=1759218604390/\∀ o∈l,o.px.length<=17592186043904):Calls Tryz.prog 7 #[.pointer (some ⟨wb,0,none⟩),.agg #[.int .i64 a,.int .i64 b,.int .i64 e,.int .i64 c]] w fun p w'=>p=.returned (.bool true)/\xf U wb gr gc go C O (n+1) w'/\gp (fun q=>¬U q) w w':=by
 obtain⟨v,x,y,z,r,A,B,D,gq,d⟩:=d;by_cases s:a=6
 ·subst s;exact qq4 d b e c f g j
 ·by_cases t:r.length=0
  ·exact qg9 d a b e c (by omega) t
  ·exact Kc d a b e c (by omega) f (by omega) g h i k m
end
end
section
attribute [local go_sem ↓] Go.wp_at_zero Go.wp_at_succ
end
section
open Go.ChangeShapes Go.WideShapes Go.ChangeAt Go.RowKit Go.Proofs.Panes Go.Deep Go.Joins
namespace LRead
def kX:Tryz.prog.cellsOf 3=1:=by kernel_rfl
def qx0:Tryz.prog.cellsOf 42=4:=by kernel_rfl
def qm1:Tryz.prog.cellsOf 49=8:=by kernel_rfl
def qm0:Tryz.prog.cellsOf 52=8:=by kernel_rfl
def qb5:Tryz.prog.cellsOf 50=1:=by kernel_rfl
def qb4:Tryz.prog.cellsOf 53=1:=by kernel_rfl
def qx7 {b:Type}(a:DataW b):1<=Rows.uptoBulk a:=by
 cases a with
 | lit c=>cases c<;>simp[Rows.uptoBulk]
 | nil=>simp[Rows.uptoBulk]
 | ptr a=>simp[Rows.uptoBulk]
 | slice d e=>simp[Rows.uptoBulk]
 | agg f=>simp[Rows.uptoBulk]
 | iface g a=>simp[Rows.uptoBulk]
 | map h=>simp[Rows.uptoBulk]
 | held i=>simp[Rows.uptoBulk]
def JZ {c:Type}{d:DataW c}{a:List (DataW c)}(e:d∈a):Rows.uptoBulk d<=Rows.uptoBulkAll a:=by
 induction a with
 | nil=>cases e
 | cons g h f=>
  simp only[Rows.uptoBulkAll];cases bf.1 e with
  | inl b=>subst b;omega
  | inr b=>have:=f b;omega
def kH {b:Type}(a:List (DataW b)):a.length<=Rows.uptoBulkAll a:=by
 induction a with
 | nil=>simp[Rows.uptoBulkAll]
 | cons c d e=>have:=qx7 c;simp only[Rows.uptoBulkAll,aX];omega
def xe {b:Type}(a c:List (DataW b)):Rows.uptoBulkAll a<=Rows.uptoBulk (.slice a c):=by
 simp only[Rows.uptoBulk];omega
def qx8 {b:Type}(a:List (DataW b)):Rows.uptoBulkAll a<=Rows.uptoBulk (.agg a):=by
 simp only[Rows.uptoBulk];omega
def QC {A:Type}{d:TypeId×Value->A}{a:Program}{e:World}{f:Nat}{g:Nat->Bool}{h:Bool}{z:TypeId}{j k l m n o p q:Field}{C:Nat}{b:List Value}{B:DataW A×List MemPlace}(D:a.underlying z=some (.struct #[j,k,l,m,n,o,p,q]))(E:DataW.trod d a e f g h C z b=some B):∃ r s t u v w x y c,B.1=.agg [r.1,s.1,t.1,u.1,v.1,w.1,x.1,y.1]/\b.length=a.cellsOf z/\DataW.trod d a e f g h c j.type ((b.drop j.offset).take (a.cellsOf j.type))=some r/\ DataW.trod d a e f g h c k.type ((b.drop k.offset).take (a.cellsOf k.type))=some s/\DataW.trod d a e f g h c l.type ((b.drop l.offset).take (a.cellsOf l.type))=some t/\ DataW.trod d a e f g h c m.type ((b.drop m.offset).take (a.cellsOf m.type))=some u/\DataW.trod d a e f g h c n.type ((b.drop n.offset).take (a.cellsOf n.type))=some v/\ DataW.trod d a e f g h c o.type ((b.drop o.offset).take (a.cellsOf o.type))=some w/\DataW.trod d a e f g h c p.type ((b.drop p.offset).take (a.cellsOf p.type))=some x/\ DataW.trod d a e f g h c q.type ((b.drop q.offset).take (a.cellsOf q.type))=some y:=by
 obtain⟨F,c,_,rfl,G,H,i⟩:=DataW.trod_struct D E
 match F,H with
 | [r,s,t,u,v,w,x,y],_=>exact⟨r,s,t,u,v,w,x,y,c,by simp,G,by simpa using i 0 j rfl,by simpa using i 1 k rfl,by simpa using i 2 l rfl,by simpa using i 3 m rfl,by simpa using i 4 n rfl,by simpa using i 5 o rfl,by simpa using i 6 p rfl,by simpa using i 7 q rfl⟩
def ZZ {c:World}{a:Addr}{b:Nat}{d:Value}(e:b=0)(f:c.cell? (a.add b)=some d):a.spot=none:=by
 subst e;obtain⟨g,h,i⟩:=a;simpa[Addr.add] using fi f
def xN (a b c:Nat):(⟨a,b,none⟩:Addr).add c=⟨a,b+c,none⟩:=by unfold Addr.add;split<;>simp_all
def Vt {l:Type}{A:TypeId×Value->l}{c:World}{B:Nat}{C:Nat->Bool}{D:Bool}{E:Nat}{m:Value}{n:DataW l×List MemPlace}(f:DataW.trod A Tryz.prog c B C D E 50 [m]=some n):∃ o,gS (fun F=>F<c.heap.size) c m o/\o.length<=Rows.uptoBulk n.1:=by
 rcases open_slice1 Tryz.underlying50 kX f with ⟨d,_⟩ | ⟨p,a,G,q,T,H,g,U,d,V,I,J,K,L,h⟩
 ·simp only[bE,bB] at d;subst d;exact⟨[],⟨none,0,rfl,zzl _,by simp[maxLen],fun f=>absurd rfl f⟩,by simp⟩
 ·simp only[bE,bB] at d;subst d;have W:a<=q:=(by rw[K];split<;>omega);have M:∀ e,e<a->∃ i:Int,H e=.int .i64 i:=(by intro e X;obtain⟨_,j⟩:=h e (by omega);obtain⟨N,r,_,Y⟩:=bC Tryz.underlying3 j;simp at r;exact⟨N,r⟩);obtain⟨s,O⟩:=@choose_lt Int ⟨0⟩ _ _ M;refine⟨(List.range a).map s,⟨some p,G,by simp,by simpa using I,J,fun P=>?_⟩,?_⟩
  ·have Z:0<a:=by
    rcases bg a with k | k
    ·subst k;simp at P
    ·exact k
   have t:=(h 0 (by omega)).1;have u:=ZZ (by omega) t;obtain⟨v,Q,a0⟩:=p;simp only at u;subst u;have R:=aJ c _ t;have w:v<c.heap.size:=(by simpa[xN] using R);refine⟨v,Q,rfl,w,w,fun b i x=>?_⟩;have y:b<a:=(by have:=(zzg x).1;simpa using this);have S:s b=i:=(by simpa[y] using x);have z:=(h b (by omega)).1;rw[xN,O b y,S] at z;exact z
  ·rw[L];have a1:=xe ((List.range a).map g) ((List.range (q-a)).map fun b=>g (a+b));have j:=kH ((List.range a).map g);simp at j;simp only[ak,dk];omega
def Vg {x:Type}{y:TypeId×Value->x}{b:World}{z:Nat}{A:Nat->Bool}{B:Bool}{a8:Nat}{o:Value}{h:DataW x×List MemPlace}(i:DataW.trod y Tryz.prog b z A B a8 53 [o]=some h):∃ n,gW (fun j=>j<b.heap.size) b o n/\(∃ C k,o=.slice C n.length k/\(C=none->k=0))/\n.length<=Rows.uptoBulk h.1/\∀ d∈n,d.px.length<=Rows.uptoBulk h.1:=by
 rcases open_slice Tryz.underlying53 i with ⟨l,_⟩ | ⟨e,c,k,p,e7,f,e8,l,e9,a9,b0,b1,D,b2⟩
 ·simp only[bE,bB] at l;subst l;exact⟨[],⟨none,0,rfl,zzl _,by simp[maxLen],fun i=>absurd rfl i⟩,⟨none,0,rfl,fun _=>rfl⟩,by simp,fun d q=>by simp at q⟩
 ·simp only[bE,bB] at l;subst l;have f0:c<=p:=(by rw[b1];split<;>omega);have b3:∀ a,a<c->Rows.uptoBulk (f a)<=Rows.uptoBulk h.1:=fun a m=>by
   rw[D];exact aO (JZ (aC.2 ⟨a,by simpa using m,rfl⟩)) (xe ((List.range c).map f) ((List.range (p-c)).map fun g=>f (c+g)))
  have b4:∀ a,a<c->∃ d:gt,d.px.length<=Rows.uptoBulk h.1/\b.cell? (e.add (a*8))=some (.int .i64 d.kind)/\b.cell? (e.add (a*8+1))=some (.int .i64 d.iV)/\b.cell? (e.add (a*8+2))=some (.int .i64 d.x)/\b.cell? (e.add (a*8+3))=some (.int .i64 d.y)/\b.cell? (e.add (a*8+4))=some (.int .i64 d.w)/\b.cell? (e.add (a*8+5))=some (.int .i64 d.h)/\(∃ E,b.cell? (e.add (a*8+6))=some E/\gS (fun j=>j<b.heap.size) b E d.px)/\b.cell? (e.add (a*8+7))=some (.int .i64 d.mark):=by
   intro a m;obtain⟨b5,r,s⟩:=b2 a (by omega);rw[qm0] at r;obtain⟨_,b6,qF⟩:=fe r;obtain⟨b7,b8,b9,c0,c1,c3,t,c4,j,c5,_,F,G,H,I,J,K,L,M⟩:=QC Tryz.underlying52 s;simp only[kX,qb5] at F G H I J K L M
   match b5,b6 with
   | [u0,u1,u2,u3,u4,u5,u6,u7],_=>
    obtain⟨c6,N,_,_⟩:=bC Tryz.underlying3 F;obtain⟨c7,O,_,_⟩:=bC Tryz.underlying3 G;obtain⟨c8,P,_,_⟩:=bC Tryz.underlying3 H;obtain⟨c9,Q,_,_⟩:=bC Tryz.underlying3 I;obtain⟨d0,R,_,_⟩:=bC Tryz.underlying3 J;obtain⟨d1,S,_,_⟩:=bC Tryz.underlying3 K;obtain⟨d2,T,_,_⟩:=bC Tryz.underlying3 M;have d3:DataW.trod y Tryz.prog b z A B j 50 [u6]=some t:=(by simpa using L);have d4:f a=.agg [b7.1,b8.1,b9.1,c0.1,c1.1,c3.1,t.1,c4.1]:=c5;have d5:Rows.uptoBulk t.1<=Rows.uptoBulk h.1:=aO (by
     rw[d4];exact aO (JZ (by simp)) (qx8 _)) (b3 a m)
    obtain⟨d6,d7,d8⟩:=Vt d3;have d9:=aO d8 d5;simp at N O P Q R S T;subst N O P Q R S T;have U:=qF 0 (by omega);have V:=qF 1 (by omega);have c2:=qF 2 (by omega);have W:=qF 3 (by omega);have X:=qF 4 (by omega);have Y:=qF 5 (by omega);have Z:=qF 6 (by omega);have a0:=qF 7 (by omega);rw[add_add] at U V c2 W X Y Z a0;exact⟨⟨c6,c7,c8,c9,d0,d1,d6,d2⟩,d9,by simpa using U,by simpa using V,by simpa using c2,by simpa using W,by simpa using X,by simpa using Y,⟨u6,by simpa using Z,d7⟩,by simpa using a0⟩
  obtain⟨a1,u⟩:=@choose_lt gt ⟨⟨0,0,0,0,0,0,[],0⟩⟩ _ _ b4;refine⟨(List.range c).map a1,⟨some e,k,by simp,by simpa using a9,b0,fun e0=>?_⟩,⟨some e,k,by simp,fun i=>by cases i⟩,?_,fun d q=>?_⟩
  ·have e1:0<c:=by
    rcases bg c with v | v
    ·subst v;simp at e0
    ·exact v
   have a2:=(u 0 e1).2.1;have a3:=ZZ (by omega) a2;obtain⟨a4,e2,f1⟩:=e;simp only at a3;subst a3;have e3:=aJ b _ a2;have a5:a4<b.heap.size:=(by simpa[xN] using e3);refine⟨a4,e2,rfl,a5,a5,fun g e4 a6=>?_⟩;have a7:g<c:=(by have:=(zzg a6).1;simpa using this);have e5:a1 g=e4:=(by simpa[a7] using a6);have w:=(u g a7).2;rw[e5] at w;simp only[xN] at w;exact w
  ·rw[D];have r:=xe ((List.range c).map f) ((List.range (p-c)).map fun g=>f (c+g));have s:=kH ((List.range c).map f);simp at s;simp only[ak,dk];omega
  ·obtain⟨a,m,rfl⟩:=aC.1 q;have e6:a<c:=(by simpa using m);exact (u a e6).1
def qk {u:Type}{K:TypeId×Value->u}{d:World}{L:Nat}{M:Nat->Bool}{N:Bool}{O:Nat}{v:Value}{e:DataW u×List MemPlace}(l:DataW.trod K Tryz.prog d L M N O 24 [v]=some e):∃ m,yM (fun n=>n<d.heap.size) d v m/\m.length<=Rows.uptoBulk e.1/\∀ c∈m,c.length<=Rows.uptoBulk e.1/\∀ h∈c,h.px.length<=Rows.uptoBulk e.1:=by
 rcases open_slice1 Tryz.underlying24 qb4 l with ⟨i,_⟩ | ⟨w,b,j,o,a1,p,f,a2,i,a3,x,a4,P,y,q⟩
 ·simp only[bE,bB] at i;subst i;exact⟨[],⟨none,0,rfl,fun l=>absurd rfl l⟩,by simp,fun c x=>by simp at x⟩
 ·simp only[bE,bB] at i;subst i;have a5:b<=o:=(by rw[P];split<;>omega);have z:∀ a,a<b->Rows.uptoBulk (f a)<=Rows.uptoBulk e.1:=fun a g=>by
   rw[y];exact aO (JZ (aC.2 ⟨a,by simpa using g,rfl⟩)) (xe ((List.range b).map f) ((List.range (o-b)).map fun r=>f (b+r)))
  have Q:∀ a,a<b->∃ c:List gt,gW (fun n=>n<d.heap.size) d (p a) c/\(∃ A j,p a=.slice A c.length j/\(A=none->j=0))/\c.length<=Rows.uptoBulk e.1/\∀ h∈c,h.px.length<=Rows.uptoBulk e.1:=(by intro a g;obtain⟨_,s⟩:=q a (by omega);obtain⟨c,k,R,S,T⟩:=Vg s;exact⟨c,k,R,aO S (z a g),fun h U=>aO (T h U) (z a g)⟩);obtain⟨B,C⟩:=@choose_lt (List gt) ⟨[]⟩ _ _ Q;refine⟨(List.range b).map B,⟨some w,j,by simp,fun V=>?_⟩,?_,fun c W=>?_⟩
  ·have a6:0<b:=by
    rcases bg b with t | t
    ·subst t;simp at V
    ·exact t
   have D:=(q 0 (by omega)).1;have E:=ZZ (by omega) D;obtain⟨F,X,a7⟩:=w;simp only at E;subst E;have Y:=aJ d _ D;have G:F<d.heap.size:=(by simpa[xN] using Y);refine⟨F,X,rfl,G,G,fun a c H=>?_⟩;have I:a<b:=(by have:=(zzg H).1;simpa using this);have Z:B a=c:=(by simpa[I] using H);have J:=(q a (by omega)).1;rw[xN] at J;obtain⟨k,-⟩:=C a I;rw[Z] at k;exact⟨p a,J,k⟩
  ·rw[y];have a8:=xe ((List.range b).map f) ((List.range (o-b)).map fun r=>f (b+r));have s:=kH ((List.range b).map f);simp at s;simp only[ak,dk];omega
  ·obtain⟨a,g,rfl⟩:=aC.1 W;have a0:a<b:=(by simpa using g);exact (C a a0).2.2
def rr {n:Type}{Y:TypeId×Value->n}{a:World}{Z:Nat}{a0:Nat->Bool}{a1:Bool}{a2:Nat}{o:Value}{p:DataW n×List MemPlace}(h:DataW.trod Y Tryz.prog a Z a0 a1 a2 23 [o]=some p):∃ q,mH (fun r=>r<a.heap.size) a o q/\q.length<=Rows.uptoBulk p.1:=by
 rcases open_slice Tryz.underlying23 h with ⟨f,_⟩ | ⟨c,d,a3,s,c4,i,c5,f,c6,c7,c8,a4,a5,a6⟩
 ·simp only[bE,bB] at f;subst f;exact⟨[],⟨none,0,rfl,fun h=>absurd rfl h⟩,by simp⟩
 ·simp only[bE,bB] at f;subst f;have c9:d<=s:=(by rw[a4];split<;>omega);have a7:∀ b,b<d->∃ e:hg,a.cell? (c.add (b*8))=some (.int .i64 e.w)/\a.cell? (c.add (b*8+1))=some (.int .i64 e.h)/\a.cell? (c.add (b*8+2))=some (.int .i64 e.oA)/\a.cell? (c.add (b*8+3))=some (.int .i64 e.queue)/\a.cell? (c.add (b*8+4))=some (.int .i64 e.tK)/\a.cell? (c.add (b*8+5))=some (.int .i64 e.hD)/\a.cell? (c.add (b*8+6))=some (.int .i64 e.iE)/\a.cell? (c.add (b*8+7))=some (.int .i64 e.behind):=by
   intro b d0;obtain⟨a8,j,k⟩:=a6 b (by omega);rw[qm1] at j;obtain⟨_,a9,qF⟩:=fe j;obtain⟨d1,d2,d3,d4,d5,d6,d7,d8,r,_,_,t,u,v,w,x,y,z,A⟩:=QC Tryz.underlying49 k;simp only[kX] at t u v w x y z A
   match a8,a9 with
   | [u0,u1,u2,u3,u4,u5,u6,u7],_=>
    obtain⟨b0,B,_,_⟩:=bC Tryz.underlying3 t;obtain⟨b1,C,_,_⟩:=bC Tryz.underlying3 u;obtain⟨b2,D,_,_⟩:=bC Tryz.underlying3 v;obtain⟨b3,E,_,_⟩:=bC Tryz.underlying3 w;obtain⟨b4,F,_,_⟩:=bC Tryz.underlying3 x;obtain⟨b5,G,_,_⟩:=bC Tryz.underlying3 y;obtain⟨b6,H,_,_⟩:=bC Tryz.underlying3 z;obtain⟨b7,I,_,_⟩:=bC Tryz.underlying3 A;simp at B C D E F G H I;subst B C D E F G H I;have J:=qF 0 (by omega);have K:=qF 1 (by omega);have c2:=qF 2 (by omega);have L:=qF 3 (by omega);have M:=qF 4 (by omega);have N:=qF 5 (by omega);have O:=qF 6 (by omega);have P:=qF 7 (by omega);rw[add_add] at J K c2 L M N O P;exact⟨⟨b0,b1,b2,b3,b4,b5,b6,b7⟩,by simpa using J,by simpa using K,by simpa using c2,by simpa using L,by simpa using M,by simpa using N,by simpa using O,by simpa using P⟩
  obtain⟨Q,R⟩:=@choose_lt hg ⟨⟨0,0,0,0,0,0,0,0⟩⟩ _ _ a7;refine⟨(List.range d).map Q,⟨some c,a3,by simp,fun b8=>?_⟩,?_⟩
  ·have b9:0<d:=by
    rcases bg d with l | l
    ·subst l;simp at b8
    ·exact l
   have S:=(R 0 b9).1;have T:=ZZ (by omega) S;obtain⟨U,c0,d9⟩:=c;simp only at T;subst T;have c1:=aJ a _ S;have V:U<a.heap.size:=(by simpa[xN] using c1);refine⟨U,c0,rfl,V,V,fun g e W=>?_⟩;have X:g<d:=(by have:=(zzg W).1;simpa using this);have c3:Q g=e:=(by simpa[X] using W);have m:=R g X;rw[c3] at m;simp only[xN] at m;exact m
  ·rw[a5];have j:=xe ((List.range d).map i) ((List.range (s-d)).map fun g=>i (d+g));have k:=kH ((List.range d).map i);simp at k;simp only[ak,dk];omega
def tk (a:Rc):Prop:=(-9223372036854775808<=a.x/\a.x<=9223372036854775807)/\(-9223372036854775808<=a.y/\a.y<=9223372036854775807)/\(-9223372036854775808<=a.w/\a.w<=9223372036854775807)/\(-9223372036854775808<=a.h/\a.h<=9223372036854775807)
def rE {u:Type}{P:TypeId×Value->u}{c:World}{Q:Nat}{R:Nat->Bool}{S:Bool}{T:Nat}{m:Value}{v:DataW u×List MemPlace}(n:DataW.trod P Tryz.prog c Q R S T 27 [m]=some v):∃ U j k,m=.slice U k.length j/\iG (fun w=>w<c.heap.size) c m k/\(∀ a∈k,tk a)/\k.length<=Rows.uptoBulk v.1:=by
 rcases open_slice Tryz.underlying27 n with ⟨i,_⟩ | ⟨f,b,j,x,b7,o,b8,i,b9,V,W,X,Y,Z⟩
 ·simp only[bE,bB] at i;subst i;exact⟨none,0,[],rfl,⟨none,0,rfl,zzl _,by simp[maxLen],fun n=>absurd rfl n⟩,fun a g=>by simp at g,by simp⟩
 ·simp only[bE,bB] at i;subst i;have c0:b<=x:=(by rw[X];split<;>omega);have a0:∀ d,d<b->∃ a:Rc,tk a/\c.cell? (f.add (d*4))=some (.int .i64 a.x)/\c.cell? (f.add (d*4+1))=some (.int .i64 a.y)/\c.cell? (f.add (d*4+2))=some (.int .i64 a.w)/\c.cell? (f.add (d*4+3))=some (.int .i64 a.h):=by
   intro d y;obtain⟨a1,p,q⟩:=Z d (by omega);rw[qx0] at p;obtain⟨_,a2,qF⟩:=fe p;obtain⟨c1,c3,c4,c5,w,_,_,z,A,B,C⟩:=trod_struct4 Tryz.underlying42 q;simp only[kX] at z A B C
   match a1,a2 with
   | [u0,u1,u2,u3],_=>
    obtain⟨a3,D,_,a4⟩:=bC Tryz.underlying3 z;obtain⟨a5,E,_,a6⟩:=bC Tryz.underlying3 A;obtain⟨a7,F,_,a8⟩:=bC Tryz.underlying3 B;obtain⟨a9,G,_,b0⟩:=bC Tryz.underlying3 C;simp at D E F G;subst D E F G;have H:=qF 0 (by omega);have I:=qF 1 (by omega);have c2:=qF 2 (by omega);have J:=qF 3 (by omega);rw[add_add] at H I c2 J;exact⟨⟨a3,a5,a7,a9⟩,⟨bounds_i64 a4,bounds_i64 a6,bounds_i64 a8,bounds_i64 b0⟩,by simpa using H,by simpa using I,by simpa using c2,by simpa using J⟩
  obtain⟨K,r⟩:=@choose_lt Rc ⟨⟨0,0,0,0⟩⟩ _ _ a0;refine⟨some f,j,(List.range b).map K,by simp,⟨some f,j,by simp,by simpa using V,W,fun b1=>?_⟩,fun a g=>?_,?_⟩
  ·have b2:0<b:=by
    rcases bg b with s | s
    ·subst s;simp at b1
    ·exact s
   have L:=(r 0 b2).2.1;obtain⟨l,t,b3⟩:=f;have b4:b3=none:=(by simpa[Addr.add] using fi L);subst b4;have b5:=aJ c _ L;have M:∀ e,(⟨l,t,none⟩:Addr).add e=⟨l,t+e,none⟩:=fun e=>by unfold Addr.add;split<;>simp_all
   have N:l<c.heap.size:=(by simpa[M] using b5);refine⟨l,t,rfl,N,N,fun e a g=>?_⟩;have O:e<b:=(by have:=(zzg g).1;simpa using this);have b6:K e=a:=(by simpa[O] using g);have h:=r e O;rw[b6] at h;simp only[M] at h;exact⟨h.2.1,h.2.2.1,h.2.2.2.1,h.2.2.2.2⟩
  ·obtain⟨d,y,rfl⟩:=aC.1 g;exact (r d (by simpa using y)).1
  ·rw[Y];have p:=xe ((List.range b).map o) ((List.range (x-b)).map fun e=>o (b+e));have q:=kH ((List.range b).map o);simp at q;simp only[ak,dk];omega
end LRead
end
end Go.Proofs.YtbnbkjbfpamijaaGreat
