import Derived.Test.YtfnockbgkcgpkaaKaae
import Derived.Laws.AppendOwnNone
set_option linter.all false
namespace Go.Proofs.Ytfnockbgkcgpkaa
open Go.RowKit Go.Proofs.Panes
set_option maxRecDepth 100000

theorem wpList_append_at {P : Program} {w : World} {ops : Array Oper} {rest : List Oper} {o : Oper} {a : Act} {Q : Exit → Act → World → Prop} (hgd : o.guard = none) (s x : Operand) (t ty : TypeId)
    (ho : o.op = .call { callee := .builtin .append, args := #[s, x], argTypes := #[t, t] }) (hty : o.type = ty) (v u r : Value) (w' : World) (hs : a.eval s = v) (hx : a.eval x = u) (hrun : (Builtin.append_ #[t, t] ty #[v, u]).run P w = .ok r w')
    (h : wpList P ops Q rest (a.put o.dst r) w') : wpList P ops Q (o :: rest) a w := by
  refine wpList_plain hgd fun K hK => ?_
  unfold Oper.wp
  simp [execOp, ho, hty, resolve, invoke, builtin, hs, hx, hrun, Result.andThen]
  exact hK _ _ h
set_option maxHeartbeats 1000000 in
theorem kclone_any {w : World} {v : Value} {l : List P2} (hO : Own2 w 0 143 v l) (h1 : One2 l) (hl : l.length ≤ 100000000) :
    Calls Try.prog 86 #[v] w fun e w' => (∃ cv, e = .returned cv ∧ Own2 w' w.heap.size 143 cv l) ∧ Below w.heap.size w w' := by
  rcases hO.2 with ⟨rfl, hn⟩ | ⟨g, cap, cur, rfl, _, hg, hc, hmx, hz, ht⟩
  · have hl0 : l = [] := List.eq_nil_of_length_eq_zero hn
    subst hl0
    have hen : (binOp .eql 140 (.slice none 0 0) (.slice none 0 0)).run Try.prog w = .ok (.bool true) w := Lib.run_eql_slice_nil w _ _ _ _ _ _ _ Try.underlying140
    clear hO h1 hl hn
    go_enter Try.func86, Try.ntmps86
    go_wp2
    go_ret
    exact ⟨⟨_, rfl, ⟨rfl, .inl ⟨rfl, rfl⟩⟩⟩, Below.refl _ _⟩
  · obtain ⟨w1, hw1⟩ : ∃ w1 : World, w1 = w.alloc (.cells #[] 143) := ⟨_, rfl⟩
    have hB1 : Below w.heap.size w w1 := by rw [hw1]; exact (Below.refl _ w).alloc (Nat.le_refl _) _
    have hN1 : w1.heap[w.heap.size]? = some (.cells #[] 143) := by rw [hw1]; exact new_at _ _ _ rfl
    have hO1 : w1.ownsRow w.heap.size 143 2 (.slice (some ⟨w.heap.size, 0, none⟩) 0 0) 0 [] := ⟨rfl, .inr ⟨w.heap.size, 0, _, rfl, Nat.le_refl _, hN1, Nat.le_refl _, Nat.zero_le _, rfl, rfl⟩⟩
    obtain ⟨i0', hi', hz0, hz1, hz2⟩ := info_parts info_key
    have hR1 : w1.heap[g]? = _ := (hB1.block _ (lt_of_heap hg)).trans hg
    obtain ⟨v', w2, hrun, hO2, hg2, _, _⟩ := run_append_own_at (P := Try.prog) (w := w1) w.heap.size 140 140 143 i0' _ 2 16 Try.underlying140 hi' hz0 hz1 hz2 rfl (by decide) (.slice (some ⟨w.heap.size, 0, none⟩) 0 0) 0 [] hO1 ⟨g, 0, none⟩ l.length cap (c2 l) (c2_len l) (by
      intro j u hj
      have hlt : j < (c2 l).length := (List.getElem?_eq_some_iff.1 hj).1
      rw [add_at, Nat.zero_add, blk_cell hR1, ← Array.getElem?_toList, ← hj, ← ht, List.getElem?_take, if_pos (by rw [c2_len] at hlt; exact hlt)]) h1.cells (by simp only [maxLen]; omega) (by omega) hB1.size
    have hB2 : Below w.heap.size w w2 := hB1.trans ((But.of_grown (S := fun k => k = w.heap.size) hg2 (fun k e => (Option.some.inj e).symm)).below hB1.size (fun k e => by rw [e]; exact Nat.le_refl _))
    have hO2' : Own2 w2 w.heap.size 143 v' l := by rw [Nat.zero_add] at hO2; exact hO2
    have hen : (binOp .eql 140 (.slice (some ⟨g, 0, none⟩) l.length cap) (.slice none 0 0)).run Try.prog w = .ok (.bool false) w := Lib.run_eql_slice_nil w _ _ _ _ _ _ _ Try.underlying140
    rw [hw1] at hrun
    have HR := hide hrun
    have HO2 := hide hO2'
    have HB2 := hide hB2
    have HW1 := hide hw1
    clear hO2 hO2' hB2 hg2 hrun hO1 hN1 hB1 hR1 hi' hz0 hz1 hz2 hg hc hmx hz ht hO hw1 h1
    go_enter Try.func86, Try.ntmps86
    go_wp2_with (at_builtin; refine wpList_append_at rfl _ _ 140 140 rfl rfl _ _ _ _ rfl rfl (unhide HR) ?_)
    go_ret
    exact ⟨⟨_, rfl, unhide HO2⟩, unhide HB2⟩
end Go.Proofs.Ytfnockbgkcgpkaa
