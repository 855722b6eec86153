import Derived.Test.YtfnockbgkcgpkaaGreatTkaf
import Derived.Laws.AppendOwnNone
set_option linter.all false
set_option maxRecDepth 100000
set_option maxHeartbeats 16000000
namespace Go.Proofs.YtfnockbgkcgpkaaGreat
open Go.RowKit Go.Proofs.Panes
theorem zq {P:Program}{w:World}{ops:Array Oper}{rest:List Oper}{o:Oper}{a:Act}{Q:Exit->Act->World->Prop}(hgd:o.guard=none)(s x:Operand)(t ty:TypeId)
 (ho:o.op=.call {callee:=.builtin .append,args:=#[s,x],argTypes:=#[t,t]}) (hty:o.type=ty) (v u r:Value) (w':World) (hs:a.eval s=v) (hx:a.eval x=u) (hrun:(Builtin.append_ #[t,t] ty #[v,u]).run P w=.ok r w')
 (h:wpList P ops Q rest (a.put o.dst r) w'):wpList P ops Q (o::rest) a w:=by
 refine wpList_plain hgd fun K hK=>?_;unfold Oper.wp;simp[execOp,ho,hty,resolve,invoke,builtin,hs,hx,hrun,Result.andThen];exact hK _ _ h
theorem KV {w:World}{v:Value}{l:List P2}(hO:qN w 0 173 v l)(h1:yN l)(hl:l.length<=100000000) :
 Calls Tryz.prog 78 #[v] w fun e w'=>(∃ cv,e=.returned cv/\qN w' w.heap.size 173 cv l)/\Below w.heap.size w w':=by
 rcases hO.2 with ⟨rfl,hn⟩ | ⟨g,cap,cur,rfl,_,hg,hc,hmx,hz,ht⟩
 ·have hl0:l=[]:=List.eq_nil_of_length_eq_zero hn;subst hl0;have hen:(binOp .eql 170 (.slice none 0 0) (.slice none 0 0)).run Tryz.prog w=.ok (.bool true) w:=Lib.run_eql_slice_nil w _ _ _ _ _ _ _ Tryz.underlying170;clear hO h1 hl hn
  go_enter Tryz.func78,Tryz.ntmps78
  go_wp2;go_ret;exact⟨⟨_,rfl,⟨rfl,.inl ⟨rfl,rfl⟩⟩⟩,Below.refl _ _⟩
 ·obtain⟨w1,hw1⟩:∃ w1:World,w1=w.alloc (.cells #[] 173):=⟨_,rfl⟩;have hB1:Below w.heap.size w w1:=(by rw[hw1];exact (Below.refl _ w).alloc (zzl _) _);have hN1:w1.heap[w.heap.size]?=some (.cells #[] 173):=(by rw[hw1];exact qt _ _ _ rfl);have hO1:w1.ownsRow w.heap.size 173 2 (.slice (some ⟨w.heap.size,0,none⟩) 0 0) 0 []:=⟨rfl,.inr ⟨w.heap.size,0,_,rfl,zzl _,hN1,zzl _,Nat.zero_le _,rfl,rfl⟩⟩;obtain⟨i0',hi',hz0,hz1,hz2⟩:=info_parts QW;have hR1:w1.heap[g]?=_:=(hB1.block _ (qh hg)).trans hg;obtain⟨v',w2,hrun,hO2,hg2,_,_⟩:=run_append_own_at (P:=Tryz.prog) (w:=w1) w.heap.size 170 170 173 i0' _ 2 16 Tryz.underlying170 hi' hz0 hz1 hz2 rfl (by decide) (.slice (some ⟨w.heap.size,0,none⟩) 0 0) 0 [] hO1 ⟨g,0,none⟩ l.length cap (c2 l) (zV l) (by
   intro j u hj;have hlt:j<(c2 l).length:=(zzg hj).1;rw[Zy,Nat.zero_add,qe hR1,<-Array.getElem?_toList,<-hj,<-ht,List.getElem?_take,if_pos (by rw[zV] at hlt;exact hlt)]) h1.cells (by simp only[maxLen];omega) (by omega) hB1.size
  have hB2:Below w.heap.size w w2:=hB1.trans ((But.of_grown (S:=fun k=>k=w.heap.size) hg2 (fun k e=>(Option.some.inj e).symm)).below hB1.size (fun k e=>by rw[e];exact zzl _));have hO2':qN w2 w.heap.size 173 v' l:=(by rw[Nat.zero_add] at hO2;exact hO2);have hen:(binOp .eql 170 (.slice (some ⟨g,0,none⟩) l.length cap) (.slice none 0 0)).run Tryz.prog w=.ok (.bool false) w:=Lib.run_eql_slice_nil w _ _ _ _ _ _ _ Tryz.underlying170;rw[hw1] at hrun;have HR:=qg hrun;have HO2:=qg hO2';have HB2:=qg hB2;have HW1:=qg hw1;clear hO2 hO2' hB2 hg2 hrun hO1 hN1 hB1 hR1 hi' hz0 hz1 hz2 hg hc hmx hz ht hO hw1 h1
  go_enter Tryz.func78,Tryz.ntmps78
  go_wp2_with (at_builtin;refine zq rfl _ _ 170 170 rfl rfl _ _ _ _ rfl rfl (qb HR) ?_)
  go_ret;exact⟨⟨_,rfl,qb HO2⟩,qb HB2⟩
end Go.Proofs.YtfnockbgkcgpkaaGreat
