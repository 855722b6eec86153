import Derived.Test.YtfnockbgkcgpkaaGreatQbT
import Derived.Test.YtfnockbgkcgpkaaGreatQbH
import Derived.BigRegion
import Derived.BigQuiet
import Derived.Deep.QuietTactic
set_option linter.all false
namespace Go.Proofs.YtfnockbgkcgpkaaGreat
open Go.RowKit Go.Proofs.Panes
set_option maxRecDepth 100000

theorem vstep_refused {x : List Bool} {o : Opn} (h : okOp o = false) : vstep x o = none := by
  unfold okOp at h
  have h8 : ¬ o.kind = 8 := fun e => by
    unfold okArgs at h
    rw [e] at h
    simp [inB] at h
  refine vstep_none h8 ?_
  cases hk : inB o.kind 1 7
  · rfl
  · have h18 : inB o.kind 1 8 = true := by
      unfold inB at hk ⊢
      simp only [Bool.and_eq_true, decide_eq_true_eq] at hk ⊢
      omega
    rw [h18, Bool.true_and] at h
    rw [h, Bool.and_false]
theorem vstep_far {x : List Bool} {o : Opn} (h8 : ¬ o.kind = 8) (h : inB o.surf 0 ((x.length : Int) - 1) = false) : vstep x o = none := by
  refine vstep_none h8 ?_
  rw [h]; simp
theorem vstep_taken {x : List Bool} {o : Opn} (h8 : ¬ o.kind = 8) (h : x.getD o.surf.toNat false = decide (o.kind = 1)) : vstep x o = none := by
  refine vstep_none h8 ?_
  rw [h]; simp
theorem vstep_done {x : List Bool} {o : Opn} (h8 : ¬ o.kind = 8) (hk : okOp o = true) (hs : inB o.surf 0 ((x.length : Int) - 1) = true) (h : x.getD o.surf.toNat false ≠ decide (o.kind = 1)) : vstep x o = some (x.set o.surf.toNat (decide (o.kind ≠ 2))) := by
  refine vstep_some h8 ?_
  unfold okOp at hk
  rw [Bool.and_eq_true] at hk
  have h17 : inB o.kind 1 7 = true := by
    have := hk.1
    unfold inB at this ⊢
    simp only [Bool.and_eq_true, decide_eq_true_eq] at this ⊢
    omega
  rw [h17, hs, hk.2]
  simpa using h

/-- The surfaces of a client, as they lie while a transaction is looked at. -/
structure AftI (w wr : World) (x : List Bool) : Prop where
  len : x.length = 4
  arr : wr.heap[w.heap.size]? = some (.cells (x.map Value.bool).toArray 111)
  res : wr.heap[w.heap.size + 1]? = some (.cells #[.bool false, .bool false, .bool false, .bool false] 111)
  bel : Below w.heap.size w wr

theorem AftI.below {w wr w2 : World} {x : List Bool} (h : AftI w wr x) (hb : Below wr.heap.size wr w2) : AftI w w2 x := by
  have h1 := lt_of_heap h.arr
  have h2 := lt_of_heap h.res
  exact ⟨h.len, (hb.block _ h1).trans h.arr, (hb.block _ h2).trans h.res, h.bel.trans (hb.mono h.bel.size)⟩
end Go.Proofs.YtfnockbgkcgpkaaGreat
