import Derived.Test.YtfnockbgkcgpkaaGreatTkcc
import Derived.Test.YtfnockbgkcgpkaaGreatRows
import Derived.ProofKit
import Derived.OpenShut
import Derived.ShutString
import Derived.ChangeOld
import Derived.Below
import Derived.Lib.SmallJoins
import Derived.Deep.Slices
import Derived.JoinedCond
set_option linter.all false
set_option maxRecDepth 100000
set_option maxHeartbeats 16000000
namespace Go.Proofs.YtfnockbgkcgpkaaGreat
open Go.RowKit Go.Proofs.Panes
section
open Go.ChangeShapes Go.WideShapes Go.ChangeAt Go.RowKit Go.Proofs.Panes Go.Deep Go.Joins
namespace LRead
theorem kX:Tryz.prog.cellsOf 3=1:=by kernel_rfl
theorem qx0:Tryz.prog.cellsOf 42=4:=by kernel_rfl
theorem qm1:Tryz.prog.cellsOf 49=8:=by kernel_rfl
theorem qm0:Tryz.prog.cellsOf 52=8:=by kernel_rfl
theorem qb5:Tryz.prog.cellsOf 50=1:=by kernel_rfl
theorem qb4:Tryz.prog.cellsOf 53=1:=by kernel_rfl
theorem qx7 {H:Type}(d:DataW H):1<=Rows.uptoBulk d:=by
 cases d with
 | lit l=>cases l<;>simp[Rows.uptoBulk]
 | nil=>simp[Rows.uptoBulk]
 | ptr d=>simp[Rows.uptoBulk]
 | slice elems spare=>simp[Rows.uptoBulk]
 | agg parts=>simp[Rows.uptoBulk]
 | iface t d=>simp[Rows.uptoBulk]
 | map entries=>simp[Rows.uptoBulk]
 | held h=>simp[Rows.uptoBulk]
theorem JZ {H:Type}{d:DataW H}{l:List (DataW H)}(h:d∈l):Rows.uptoBulk d<=Rows.uptoBulkAll l:=by
 induction l with
 | nil=>cases h
 | cons x r ih=>
  simp only[Rows.uptoBulkAll]
  cases List.mem_cons.1 h with
  | inl e=>subst e;omega
  | inr e=>have:=ih e;omega
theorem kH {H:Type}(l:List (DataW H)):l.length<=Rows.uptoBulkAll l:=by
 induction l with
 | nil=>simp[Rows.uptoBulkAll]
 | cons x r ih=>have:=qx7 x;simp only[Rows.uptoBulkAll,List.length_cons];omega
theorem xe {H:Type}(elems spare:List (DataW H)):Rows.uptoBulkAll elems<=Rows.uptoBulk (.slice elems spare):=by
 simp only[Rows.uptoBulk];omega
theorem qx8 {H:Type}(parts:List (DataW H)):Rows.uptoBulkAll parts<=Rows.uptoBulk (.agg parts):=by
 simp only[Rows.uptoBulk];omega
theorem QC {H:Type}{enc:TypeId×Value->H}{P:Program}{w:World}{base:Nat}{spare:Nat->Bool}{held:Bool}{t:TypeId}{f0 f1 f2 f3 f4 f5 f6 f7:Field}{fuel:Nat}{cs:List Value}{x:DataW H×List MemPlace}(ht:P.underlying t=some (.struct #[f0,f1,f2,f3,f4,f5,f6,f7]))(h:DataW.trod enc P w base spare held fuel t cs=some x) :
 ∃ y0 y1 y2 y3 y4 y5 y6 y7 n,x.1=.agg [y0.1,y1.1,y2.1,y3.1,y4.1,y5.1,y6.1,y7.1]/\cs.length=P.cellsOf t/\DataW.trod enc P w base spare held n f0.type ((cs.drop f0.offset).take (P.cellsOf f0.type))=some y0/\
  DataW.trod enc P w base spare held n f1.type ((cs.drop f1.offset).take (P.cellsOf f1.type))=some y1/\DataW.trod enc P w base spare held n f2.type ((cs.drop f2.offset).take (P.cellsOf f2.type))=some y2/\
  DataW.trod enc P w base spare held n f3.type ((cs.drop f3.offset).take (P.cellsOf f3.type))=some y3/\DataW.trod enc P w base spare held n f4.type ((cs.drop f4.offset).take (P.cellsOf f4.type))=some y4/\
  DataW.trod enc P w base spare held n f5.type ((cs.drop f5.offset).take (P.cellsOf f5.type))=some y5/\DataW.trod enc P w base spare held n f6.type ((cs.drop f6.offset).take (P.cellsOf f6.type))=some y6/\
  DataW.trod enc P w base spare held n f7.type ((cs.drop f7.offset).take (P.cellsOf f7.type))=some y7:=by
 obtain⟨xs,n,_,rfl,hl,hlen,hf⟩:=DataW.trod_struct ht h
 match xs,hlen with
 | [y0,y1,y2,y3,y4,y5,y6,y7],_=>exact⟨y0,y1,y2,y3,y4,y5,y6,y7,n,by simp,hl,by simpa using hf 0 f0 rfl,by simpa using hf 1 f1 rfl,by simpa using hf 2 f2 rfl,by simpa using hf 3 f3 rfl,by simpa using hf 4 f4 rfl,by simpa using hf 5 f5 rfl,by simpa using hf 6 f6 rfl,by simpa using hf 7 f7 rfl⟩
theorem ZZ {W:World}{a:Addr}{k:Nat}{u:Value}(hk:k=0)(h:W.cell? (a.add k)=some u):a.spot=none:=by
 subst hk;obtain⟨b,off,spot⟩:=a;simpa[Addr.add] using World.cell?_spot h
theorem xN (b off j:Nat):(⟨b,off,none⟩:Addr).add j=⟨b,off+j,none⟩:=by unfold Addr.add;split<;>simp_all
theorem Vt {H:Type}{enc:TypeId×Value->H}{W:World}{base:Nat}{spare:Nat->Bool}{held:Bool}{fuel:Nat}{v:Value}{x:DataW H×List MemPlace}
 (h:DataW.trod enc Tryz.prog W base spare held fuel 50 [v]=some x):∃ l,RdN (fun k=>k<W.heap.size) W v l/\l.length<=Rows.uptoBulk x.1:=by
 rcases open_slice1 Tryz.underlying50 kX h with ⟨hcs,_⟩ | ⟨a,len,cap,m,n,V,D,Pl,hcs,hb,hl,hm,hmm,hxx,hx⟩
 ·simp only[List.cons.injEq,and_true] at hcs;subst hcs;exact⟨[],⟨none,0,rfl,zzl _,by simp[maxLen],fun h=>absurd rfl h⟩,by simp⟩
 ·simp only[List.cons.injEq,and_true] at hcs;subst hcs;have hlm:len<=m:=(by rw[hmm];split<;>omega);have each:∀ i,i<len->∃ z:Int,V i=.int .i64 z:=by
   intro i hi;obtain⟨_,h2⟩:=hx i (by omega);obtain⟨n0,e0,_,q0⟩:=DataW.trod_int Tryz.underlying3 h2;simp at e0;exact⟨n0,e0⟩
  obtain⟨R,hR⟩:=@choose_lt Int ⟨0⟩ _ _ each;refine⟨(List.range len).map R,⟨some a,cap,by simp,by simpa using hl,hm,fun hne=>?_⟩,?_⟩
  ·have hpos:0<len:=by
    rcases Nat.eq_zero_or_pos len with e | e
    ·subst e;simp at hne
    ·exact e
   have hc:=(hx 0 (by omega)).1;have hspot:=ZZ (by omega) hc;obtain⟨b,off,spot⟩:=a;simp only at hspot;subst hspot;have hlt:=World.block_lt_of_cell? W _ hc;have hlt':b<W.heap.size:=(by simpa[xN] using hlt);refine⟨b,off,rfl,hlt',hlt',fun j z hj=>?_⟩;have hj':j<len:=by
    have:=(zzg hj).1;simpa using this
   have he:R j=z:=(by simpa[hj'] using hj);have h5:=(hx j (by omega)).1;rw[xN,hR j hj',he] at h5;exact h5
  ·rw[hxx];have h1:=xe ((List.range len).map D) ((List.range (m-len)).map fun j=>D (len+j));have h2:=kH ((List.range len).map D);simp at h2;simp only[List.length_map,List.length_range];omega
theorem Vg {H:Type}{enc:TypeId×Value->H}{W:World}{base:Nat}{spare:Nat->Bool}{held:Bool}{fuel:Nat}{v:Value}{x:DataW H×List MemPlace}
 (h:DataW.trod enc Tryz.prog W base spare held fuel 53 [v]=some x):∃ l,RdO (fun k=>k<W.heap.size) W v l/\(∃ ao cap,v=.slice ao l.length cap/\(ao=none->cap=0))/\l.length<=Rows.uptoBulk x.1/\∀ o∈l,o.px.length<=Rows.uptoBulk x.1:=by
 rcases open_slice Tryz.underlying53 h with ⟨hcs,_⟩ | ⟨a,len,cap,m,n,D,Pl,hcs,hb,hl,hm,hmm,hxx,hx⟩
 ·simp only[List.cons.injEq,and_true] at hcs;subst hcs;exact⟨[],⟨none,0,rfl,zzl _,by simp[maxLen],fun h=>absurd rfl h⟩,⟨none,0,rfl,fun _=>rfl⟩,by simp,fun o ho=>by simp at ho⟩
 ·simp only[List.cons.injEq,and_true] at hcs;subst hcs;have hlm:len<=m:=(by rw[hmm];split<;>omega);have hbk:∀ i,i<len->Rows.uptoBulk (D i)<=Rows.uptoBulk x.1:=fun i hi=>by
   rw[hxx];exact Nat.le_trans (JZ (List.mem_map.2 ⟨i,by simpa using hi,rfl⟩)) (xe ((List.range len).map D) ((List.range (m-len)).map fun j=>D (len+j)))
  have each:∀ i,i<len->∃ o:Opn,o.px.length<=Rows.uptoBulk x.1/\W.cell? (a.add (i*8))=some (.int .i64 o.kind)/\W.cell? (a.add (i*8+1))=some (.int .i64 o.surf)/\W.cell? (a.add (i*8+2))=some (.int .i64 o.x)/\W.cell? (a.add (i*8+3))=some (.int .i64 o.y)/\W.cell? (a.add (i*8+4))=some (.int .i64 o.w)/\W.cell? (a.add (i*8+5))=some (.int .i64 o.h)/\(∃ pv,W.cell? (a.add (i*8+6))=some pv/\RdN (fun k=>k<W.heap.size) W pv o.px)/\W.cell? (a.add (i*8+7))=some (.int .i64 o.mark):=by
   intro i hi;obtain⟨cs',h1,h2⟩:=hx i (by omega);rw[qm0] at h1;obtain⟨_,hlen,qF⟩:=World.cells?_some h1;obtain⟨y0,y1,y2,y3,y4,y5,y6,y7,k,ey,_,f0,f1,f2,f3,f4,f5,f6,f7⟩:=QC Tryz.underlying52 h2;simp only[kX,qb5] at f0 f1 f2 f3 f4 f5 f6 f7
   match cs',hlen with
   | [u0,u1,u2,u3,u4,u5,u6,u7],_=>
    obtain⟨n0,e0,_,_⟩:=DataW.trod_int Tryz.underlying3 f0;obtain⟨n1,e1,_,_⟩:=DataW.trod_int Tryz.underlying3 f1;obtain⟨n2,e2,_,_⟩:=DataW.trod_int Tryz.underlying3 f2;obtain⟨n3,e3,_,_⟩:=DataW.trod_int Tryz.underlying3 f3;obtain⟨n4,e4,_,_⟩:=DataW.trod_int Tryz.underlying3 f4;obtain⟨n5,e5,_,_⟩:=DataW.trod_int Tryz.underlying3 f5;obtain⟨n7,e7,_,_⟩:=DataW.trod_int Tryz.underlying3 f7;have f6':DataW.trod enc Tryz.prog W base spare held k 50 [u6]=some y6:=(by simpa using f6);have ey':D i=.agg [y0.1,y1.1,y2.1,y3.1,y4.1,y5.1,y6.1,y7.1]:=ey;have hw6:Rows.uptoBulk y6.1<=Rows.uptoBulk x.1:=Nat.le_trans (by
     rw[ey'];exact Nat.le_trans (JZ (by simp)) (qx8 _)) (hbk i hi)
    obtain⟨px,hpx,hpl0⟩:=Vt f6';have hpl:=Nat.le_trans hpl0 hw6;simp at e0 e1 e2 e3 e4 e5 e7;subst e0 e1 e2 e3 e4 e5 e7;have c0:=qF 0 (by omega);have c1:=qF 1 (by omega);have c2:=qF 2 (by omega);have c3:=qF 3 (by omega);have c4:=qF 4 (by omega);have c5:=qF 5 (by omega);have c6:=qF 6 (by omega);have c7:=qF 7 (by omega);rw[add_add] at c0 c1 c2 c3 c4 c5 c6 c7;exact⟨⟨n0,n1,n2,n3,n4,n5,px,n7⟩,hpl,by simpa using c0,by simpa using c1,by simpa using c2,by simpa using c3,by simpa using c4,by simpa using c5,⟨u6,by simpa using c6,hpx⟩,by simpa using c7⟩
  obtain⟨R,hR⟩:=@choose_lt Opn ⟨⟨0,0,0,0,0,0,[],0⟩⟩ _ _ each;refine⟨(List.range len).map R,⟨some a,cap,by simp,by simpa using hl,hm,fun hne=>?_⟩,⟨some a,cap,by simp,fun h=>by cases h⟩,?_,fun o ho=>?_⟩
  ·have hpos:0<len:=by
    rcases Nat.eq_zero_or_pos len with e | e
    ·subst e;simp at hne
    ·exact e
   have hc:=(hR 0 hpos).2.1;have hspot:=ZZ (by omega) hc;obtain⟨b,off,spot⟩:=a;simp only at hspot;subst hspot;have hlt:=World.block_lt_of_cell? W _ hc;have hlt':b<W.heap.size:=(by simpa[xN] using hlt);refine⟨b,off,rfl,hlt',hlt',fun j c hj=>?_⟩;have hj':j<len:=by
    have:=(zzg hj).1;simpa using this
   have he:R j=c:=(by simpa[hj'] using hj);have h8:=(hR j hj').2;rw[he] at h8;simp only[xN] at h8;exact h8
  ·rw[hxx];have h1:=xe ((List.range len).map D) ((List.range (m-len)).map fun j=>D (len+j));have h2:=kH ((List.range len).map D);simp at h2;simp only[List.length_map,List.length_range];omega
  ·obtain⟨i,hi,rfl⟩:=List.mem_map.1 ho;have hi':i<len:=(by simpa using hi);exact (hR i hi').1
theorem opnss_of_trod {H:Type}{enc:TypeId×Value->H}{W:World}{base:Nat}{spare:Nat->Bool}{held:Bool}{fuel:Nat}{v:Value}{x:DataW H×List MemPlace}
 (h:DataW.trod enc Tryz.prog W base spare held fuel 24 [v]=some x):∃ L,yM (fun k=>k<W.heap.size) W v L/\L.length<=Rows.uptoBulk x.1/\∀ l∈L,l.length<=Rows.uptoBulk x.1/\∀ o∈l,o.px.length<=Rows.uptoBulk x.1:=by
 rcases open_slice1 Tryz.underlying24 qb4 h with ⟨hcs,_⟩ | ⟨a,len,cap,m,n,V,D,Pl,hcs,hb,hl,hm,hmm,hxx,hx⟩
 ·simp only[List.cons.injEq,and_true] at hcs;subst hcs;exact⟨[],⟨none,0,rfl,fun h=>absurd rfl h⟩,by simp,fun l hl=>by simp at hl⟩
 ·simp only[List.cons.injEq,and_true] at hcs;subst hcs;have hlm:len<=m:=(by rw[hmm];split<;>omega);have hbk:∀ i,i<len->Rows.uptoBulk (D i)<=Rows.uptoBulk x.1:=fun i hi=>by
   rw[hxx];exact Nat.le_trans (JZ (List.mem_map.2 ⟨i,by simpa using hi,rfl⟩)) (xe ((List.range len).map D) ((List.range (m-len)).map fun j=>D (len+j)))
  have each:∀ i,i<len->∃ l:List Opn,RdO (fun k=>k<W.heap.size) W (V i) l/\(∃ ao cap,V i=.slice ao l.length cap/\(ao=none->cap=0))/\l.length<=Rows.uptoBulk x.1/\∀ o∈l,o.px.length<=Rows.uptoBulk x.1:=by
   intro i hi;obtain⟨_,h2⟩:=hx i (by omega);obtain⟨l,g1,g2,g3,g4⟩:=Vg h2;exact⟨l,g1,g2,Nat.le_trans g3 (hbk i hi),fun o ho=>Nat.le_trans (g4 o ho) (hbk i hi)⟩
  obtain⟨R,hR⟩:=@choose_lt (List Opn) ⟨[]⟩ _ _ each;refine⟨(List.range len).map R,⟨some a,cap,by simp,fun hne=>?_⟩,?_,fun l hl'=>?_⟩
  ·have hpos:0<len:=by
    rcases Nat.eq_zero_or_pos len with e | e
    ·subst e;simp at hne
    ·exact e
   have hc:=(hx 0 (by omega)).1;have hspot:=ZZ (by omega) hc;obtain⟨b,off,spot⟩:=a;simp only at hspot;subst hspot;have hlt:=World.block_lt_of_cell? W _ hc;have hlt':b<W.heap.size:=(by simpa[xN] using hlt);refine⟨b,off,rfl,hlt',hlt',fun i l hil=>?_⟩;have hj:i<len:=by
    have:=(zzg hil).1;simpa using this
   have he:R i=l:=(by simpa[hj] using hil);have h5:=(hx i (by omega)).1;rw[xN] at h5;obtain⟨g1,-⟩:=hR i hj;rw[he] at g1;exact⟨V i,h5,g1⟩
  ·rw[hxx];have h1:=xe ((List.range len).map D) ((List.range (m-len)).map fun j=>D (len+j));have h2:=kH ((List.range len).map D);simp at h2;simp only[List.length_map,List.length_range];omega
  ·obtain⟨i,hi,rfl⟩:=List.mem_map.1 hl';have hi':i<len:=(by simpa using hi);exact (hR i hi').2.2
theorem cfgs_of_trod {H:Type}{enc:TypeId×Value->H}{W:World}{base:Nat}{spare:Nat->Bool}{held:Bool}{fuel:Nat}{v:Value}{x:DataW H×List MemPlace}
 (h:DataW.trod enc Tryz.prog W base spare held fuel 23 [v]=some x):∃ l,RdC (fun k=>k<W.heap.size) W v l/\l.length<=Rows.uptoBulk x.1:=by
 rcases open_slice Tryz.underlying23 h with ⟨hcs,_⟩ | ⟨a,len,cap,m,n,D,Pl,hcs,hb,hl,hm,hmm,hxx,hx⟩
 ·simp only[List.cons.injEq,and_true] at hcs;subst hcs;exact⟨[],⟨none,0,rfl,fun h=>absurd rfl h⟩,by simp⟩
 ·simp only[List.cons.injEq,and_true] at hcs;subst hcs;have hlm:len<=m:=(by rw[hmm];split<;>omega);have each:∀ i,i<len->∃ c:Cfg,W.cell? (a.add (i*8))=some (.int .i64 c.w)/\W.cell? (a.add (i*8+1))=some (.int .i64 c.h)/\W.cell? (a.add (i*8+2))=some (.int .i64 c.clients)/\W.cell? (a.add (i*8+3))=some (.int .i64 c.queue)/\W.cell? (a.add (i*8+4))=some (.int .i64 c.most)/\W.cell? (a.add (i*8+5))=some (.int .i64 c.quantum)/\W.cell? (a.add (i*8+6))=some (.int .i64 c.surfaces)/\W.cell? (a.add (i*8+7))=some (.int .i64 c.behind):=by
   intro i hi;obtain⟨cs',h1,h2⟩:=hx i (by omega);rw[qm1] at h1;obtain⟨_,hlen,qF⟩:=World.cells?_some h1;obtain⟨y0,y1,y2,y3,y4,y5,y6,y7,k,_,_,f0,f1,f2,f3,f4,f5,f6,f7⟩:=QC Tryz.underlying49 h2;simp only[kX] at f0 f1 f2 f3 f4 f5 f6 f7
   match cs',hlen with
   | [u0,u1,u2,u3,u4,u5,u6,u7],_=>
    obtain⟨n0,e0,_,_⟩:=DataW.trod_int Tryz.underlying3 f0;obtain⟨n1,e1,_,_⟩:=DataW.trod_int Tryz.underlying3 f1;obtain⟨n2,e2,_,_⟩:=DataW.trod_int Tryz.underlying3 f2;obtain⟨n3,e3,_,_⟩:=DataW.trod_int Tryz.underlying3 f3;obtain⟨n4,e4,_,_⟩:=DataW.trod_int Tryz.underlying3 f4;obtain⟨n5,e5,_,_⟩:=DataW.trod_int Tryz.underlying3 f5;obtain⟨n6,e6,_,_⟩:=DataW.trod_int Tryz.underlying3 f6;obtain⟨n7,e7,_,_⟩:=DataW.trod_int Tryz.underlying3 f7;simp at e0 e1 e2 e3 e4 e5 e6 e7;subst e0 e1 e2 e3 e4 e5 e6 e7;have c0:=qF 0 (by omega);have c1:=qF 1 (by omega);have c2:=qF 2 (by omega);have c3:=qF 3 (by omega);have c4:=qF 4 (by omega);have c5:=qF 5 (by omega);have c6:=qF 6 (by omega);have c7:=qF 7 (by omega);rw[add_add] at c0 c1 c2 c3 c4 c5 c6 c7;exact⟨⟨n0,n1,n2,n3,n4,n5,n6,n7⟩,by simpa using c0,by simpa using c1,by simpa using c2,by simpa using c3,by simpa using c4,by simpa using c5,by simpa using c6,by simpa using c7⟩
  obtain⟨R,hR⟩:=@choose_lt Cfg ⟨⟨0,0,0,0,0,0,0,0⟩⟩ _ _ each;refine⟨(List.range len).map R,⟨some a,cap,by simp,fun hne=>?_⟩,?_⟩
  ·have hpos:0<len:=by
    rcases Nat.eq_zero_or_pos len with e | e
    ·subst e;simp at hne
    ·exact e
   have hc:=(hR 0 hpos).1;have hspot:=ZZ (by omega) hc;obtain⟨b,off,spot⟩:=a;simp only at hspot;subst hspot;have hlt:=World.block_lt_of_cell? W _ hc;have hlt':b<W.heap.size:=(by simpa[xN] using hlt);refine⟨b,off,rfl,hlt',hlt',fun j c hj=>?_⟩;have hj':j<len:=by
    have:=(zzg hj).1;simpa using this
   have he:R j=c:=(by simpa[hj'] using hj);have h8:=hR j hj';rw[he] at h8;simp only[xN] at h8;exact h8
  ·rw[hxx];have h1:=xe ((List.range len).map D) ((List.range (m-len)).map fun j=>D (len+j));have h2:=kH ((List.range len).map D);simp at h2;simp only[List.length_map,List.length_range];omega
def Fit (r:Rc):Prop:=(-9223372036854775808<=r.x/\r.x<=9223372036854775807)/\(-9223372036854775808<=r.y/\r.y<=9223372036854775807)/\(-9223372036854775808<=r.w/\r.w<=9223372036854775807)/\(-9223372036854775808<=r.h/\r.h<=9223372036854775807)
theorem ops_of_trod {H:Type}{enc:TypeId×Value->H}{W:World}{base:Nat}{spare:Nat->Bool}{held:Bool}{fuel:Nat}{v:Value}{x:DataW H×List MemPlace}
 (h:DataW.trod enc Tryz.prog W base spare held fuel 27 [v]=some x):∃ ao cap l,v=.slice ao l.length cap/\RdU (fun k=>k<W.heap.size) W v l/\(∀ r∈l,Fit r)/\l.length<=Rows.uptoBulk x.1:=by
 rcases open_slice Tryz.underlying27 h with ⟨hcs,_⟩ | ⟨a,len,cap,m,n,D,Pl,hcs,hb,hl,hm,hmm,hxx,hx⟩
 ·simp only[List.cons.injEq,and_true] at hcs;subst hcs;exact⟨none,0,[],rfl,⟨none,0,rfl,zzl _,by simp[maxLen],fun h=>absurd rfl h⟩,fun r hr=>by simp at hr,by simp⟩
 ·simp only[List.cons.injEq,and_true] at hcs;subst hcs;have hlm:len<=m:=(by rw[hmm];split<;>omega);have each:∀ i,i<len->∃ r:Rc,Fit r/\W.cell? (a.add (i*4))=some (.int .i64 r.x)/\W.cell? (a.add (i*4+1))=some (.int .i64 r.y)/\W.cell? (a.add (i*4+2))=some (.int .i64 r.w)/\W.cell? (a.add (i*4+3))=some (.int .i64 r.h):=by
   intro i hi;obtain⟨cs',h1,h2⟩:=hx i (by omega);rw[qx0] at h1;obtain⟨_,hlen,qF⟩:=World.cells?_some h1;obtain⟨y0,y1,y2,y3,k,_,_,f0,f1,f2,f3⟩:=trod_struct4 Tryz.underlying42 h2;simp only[kX] at f0 f1 f2 f3
   match cs',hlen with
   | [u0,u1,u2,u3],_=>
    obtain⟨n0,e0,_,q0⟩:=DataW.trod_int Tryz.underlying3 f0;obtain⟨n1,e1,_,q1⟩:=DataW.trod_int Tryz.underlying3 f1;obtain⟨n2,e2,_,q2⟩:=DataW.trod_int Tryz.underlying3 f2;obtain⟨n3,e3,_,q3⟩:=DataW.trod_int Tryz.underlying3 f3;simp at e0 e1 e2 e3;subst e0 e1 e2 e3;have c0:=qF 0 (by omega);have c1:=qF 1 (by omega);have c2:=qF 2 (by omega);have c3:=qF 3 (by omega);rw[add_add] at c0 c1 c2 c3;exact⟨⟨n0,n1,n2,n3⟩,⟨bounds_i64 q0,bounds_i64 q1,bounds_i64 q2,bounds_i64 q3⟩,by simpa using c0,by simpa using c1,by simpa using c2,by simpa using c3⟩
  obtain⟨R,hR⟩:=@choose_lt Rc ⟨⟨0,0,0,0⟩⟩ _ _ each;refine⟨some a,cap,(List.range len).map R,by simp,⟨some a,cap,by simp,by simpa using hl,hm,fun hne=>?_⟩,fun r hr=>?_,?_⟩
  ·have hpos:0<len:=by
    rcases Nat.eq_zero_or_pos len with e | e
    ·subst e;simp at hne
    ·exact e
   have hc:=(hR 0 hpos).2.1;obtain⟨b,off,spot⟩:=a;have hspot:spot=none:=(by simpa[Addr.add] using World.cell?_spot hc);subst hspot;have hlt:=World.block_lt_of_cell? W _ hc;have hadd:∀ j,(⟨b,off,none⟩:Addr).add j=⟨b,off+j,none⟩:=fun j=>by unfold Addr.add;split<;>simp_all
   have hlt':b<W.heap.size:=(by simpa[hadd] using hlt);refine⟨b,off,rfl,hlt',hlt',fun j r hr=>?_⟩;have hj:j<len:=by
    have:=(zzg hr).1;simpa using this
   have he:R j=r:=(by simpa[hj] using hr);have h4:=hR j hj;rw[he] at h4;simp only[hadd] at h4;exact⟨h4.2.1,h4.2.2.1,h4.2.2.2.1,h4.2.2.2.2⟩
  ·obtain⟨i,hi,rfl⟩:=List.mem_map.1 hr;exact (hR i (by simpa using hi)).1
  ·rw[hxx];have h1:=xe ((List.range len).map D) ((List.range (m-len)).map fun j=>D (len+j));have h2:=kH ((List.range len).map D);simp at h2;simp only[List.length_map,List.length_range];omega
end LRead
end
end Go.Proofs.YtfnockbgkcgpkaaGreat
namespace Go.Proofs.YtfnockbgkcgpkaaGreat
open Go.RowKit Go.Proofs.Panes
section
open Go.ChangeShapes Go.WideShapes Go.ChangeAt Go.RowKit Go.Proofs.Panes Go.Deep Go.Joins
namespace Shows
theorem own:ownKnob Tryz.prog.godebug=none:=by kernel_rfl
theorem QS:laidOutB Tryz.prog=true:=by kernel_rfl
theorem kG:Tryz.prog.cellsOf 26=3:=by kernel_rfl
theorem vT {H:Type}{enc:TypeId×Value->H}{W:World}{base:Nat}{spare:Nat->Bool}{held:Bool}{fuel:Nat}{t e:TypeId}{v:Value}{x:DataW H×List MemPlace}(ht:Tryz.prog.underlying t=some (.slice e))
 (h:DataW.trod enc Tryz.prog W base spare held fuel t [v]=some x):∃ ao n cap,v=.slice ao n cap:=by
 rcases open_slice ht h with ⟨hcs,_⟩ | ⟨a,len,cap,m,n,D,Pl,hcs,_⟩
 ·simp only[List.cons.injEq,and_true] at hcs;exact⟨_,_,_,hcs⟩
 ·simp only[List.cons.injEq,and_true] at hcs;exact⟨_,_,_,hcs⟩
theorem JU (H:Type)(enc:TypeId×Value->H)(W:World)(base:Nat)(args:Array Value)(ds gs:List (DataW H))(before:List MemPlace)
 (hval:∀ (j:Nat) t v,Tryz.f6.params[j]?=some t->args[j]?=some v->Value.okWide Tryz.prog W .any base t v)
 (hW:DataW.Whole enc Tryz.prog Tryz.f6.params.toList Rows.showsSpec.vars false W args.toList ds gs before) (hk:Rows.uptoSmall H (ds++gs)=true) :
 Calls Tryz.prog 6 args W fun e W'=>∃ v,e=.returned v/\Rows.showsSpec.post enc Tryz.prog Tryz.f6 false true false false W args v W':=by
 have hW':=hW;obtain⟨p,q,hA0,hV,rfl,hfz,hnd⟩:=hW;have hA:DataW.TrodAll enc Tryz.prog W 0 (fun _=>true) true Tryz.f6.params.toList args.toList ds p:=hA0;rw[Tryz.params6] at hA hval;obtain⟨v0,vs0,d0,ds0,p0,q0,hargs,rfl,rfl,h0,r0⟩:=trodAll_cons hA;obtain⟨v1,vs1,d1,ds1,p1,q1,rfl,rfl,rfl,h1,r1⟩:=trodAll_cons r0;obtain⟨rfl,rfl,rfl⟩:=trodAll_nil r1;obtain rfl:args=#[v0,v1]:=(by cases args;simp_all);obtain⟨rfl,rfl⟩:=trodVars_none hV;have k0:=h0;have k1:=h1;have lt0:∀ x∈p0,x.block<W.heap.size:=(by obtain⟨m,hm⟩:=k0;exact DataW.trod_lt m _ _ _ hm);have lt1:∀ x∈p1,x.block<W.heap.size:=(by obtain⟨m,hm⟩:=k1;exact DataW.trod_lt m _ _ _ hm);have hbulk:Rows.uptoBulkAll ([d0,d1]++([]:List (DataW H)))<=1048576:=of_decide_eq_true hk;simp only[List.append_nil,Rows.uptoBulkAll] at hbulk;obtain⟨u0,u1,u2,y0,y1,y2,n,rfl,rfl,rfl,t0,t1,t2⟩:=open_agg3 Tryz.underlying26 (by kernel_rfl) kG (hval 0 26 v0 rfl rfl) h0;simp only[Rows.uptoBulk,Rows.uptoBulkAll] at hbulk;obtain⟨ro,rn,rc,rfl⟩:=vT Tryz.underlying22 t0;obtain⟨C,hC,hCn⟩:=LRead.cfgs_of_trod t1;obtain⟨O,hO,hOn,hol⟩:=LRead.opnss_of_trod t2;obtain⟨co,cc,rfl,_⟩:=id hC;obtain⟨oo,oc,rfl,_⟩:=id hO;obtain⟨a1,len1,cap1,rfl⟩:=okWide_slice Tryz.underlying27 (hval 1 27 v1 rfl rfl);obtain⟨so,scap,ops,es,hS,hfit,hon⟩:∃ ao cap l,Value.slice a1 len1 cap1=.slice ao l.length cap/\RdU (fun k=>k<W.heap.size) W (.slice a1 len1 cap1) l/\(∀ r∈l,LRead.Fit r)/\l.length<=Rows.uptoBulk d1:=by
  obtain⟨fuel,hf⟩:=h1;exact LRead.ops_of_trod hf
 rw[es] at hS hW' k1 ⊢;clear hA0;refine (X7 ro co oo so rn rc cc oc scap C O ops W hC hO hS (by omega) (by omega) (by omega) (fun l hl=>⟨by have:=(hol l hl).1;omega,fun o ho=>by have:=(hol l hl).2 o ho;omega⟩) (fun r hr=>⟨(hfit r hr).2.1,(hfit r hr).2.2.1,(hfit r hr).2.2.2⟩)).mono fun e W' ⟨he,bel⟩=>?_;subst he;exact⟨_,rfl,_,_,_,[],_,[],hW',trodAll_mk1 (shut_bool Tryz.underlying4 _),(trodAll_cons_mk (Below.trod QS (by kernel_rfl) (of_decide_eq_true (by kernel_rfl)) k0 bel lt0) (trodAll_cons_mk (Below.trod QS (by kernel_rfl) (of_decide_eq_true (by kernel_rfl)) k1 bel lt1) trodAll_mk0)),rfl,bel.frame _,fun h=>by cases h⟩
theorem KT (os:Os)(started:os.Started)(H:Type)(enc:TypeId×Value->H)(F:Stop.Interp) :
 ReturnsInHanded {} Tryz.checked os 6 .any ((Rows.OpenSpec.upto Rows.showsSpec).pre6 enc Tryz.prog Tryz.f6 Rows.showsUptoRow.domain false) (((Rows.OpenSpec.upto Rows.showsSpec).at F).post enc Tryz.prog Tryz.f6 false true false false):=by
 refine returnsInHanded_of_cond (C:=Tryz.checked) (s:=Rows.OpenSpec.upto Rows.showsSpec) (k:=Rows.uptoSmall) rfl own started (by kernel_rfl) Tryz.func6
  (OpenSpec.witness (enc:=enc) (C:=Tryz.checked) (s:=Rows.OpenSpec.upto Rows.showsSpec) (k:=Rows.uptoSmall) rfl false ⟨#[],#[.agg #[.slice none 0 0,.slice none 0 0,.slice none 0 0],.slice none 0 0],[]⟩ 8 (by kernel_rfl) (by kernel_rfl) (by kernel_rfl)
   (x:=([.agg [.nil,.nil,.nil],.nil],[],[])) (by kernel_rfl) rfl (by kernel_rfl)) ?_
 intro W base args ds gs before hval hW _ hk _;exact JU H enc W base args ds gs before hval hW hk
theorem over:Rows.showsUptoRow.holds Tryz.pinned (Rows.OpenSpec.upto Rows.showsSpec):=
 OpenClaim.holds_of_cond 6 Tryz.f6 rfl rfl rfl rfl rfl rfl rfl ⟨rfl,rfl,rfl,rfl,rfl⟩ rfl rfl rfl rfl rfl (by kernel_rfl) Tryz.func6 (by kernel_rfl)
  (of_decide_eq_true (by kernel_rfl)) (by unfold Func.isWrapper;first | (rw[if_pos (by decide +kernel)];kernel_rfl) | (rw[if_neg (by decide +kernel)];exact⟨rfl,rfl⟩))
  (fun os started H enc _ F=>KT os started H enc F)
end Shows
theorem shows_upto_holds:Rows.ShowsUptoSaid:=Shows.over
#print axioms shows_upto_holds
end
end Go.Proofs.YtfnockbgkcgpkaaGreat
