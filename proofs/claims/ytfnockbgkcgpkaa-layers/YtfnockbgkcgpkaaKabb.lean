import Derived.Test.YtfnockbgkcgpkaaKaau
import Derived.Conc.LoneCalls
set_option linter.all false
namespace Go.Proofs.Ytfnockbgkcgpkaa
open Go.RowKit Go.Conc Go.Proofs.Panes
set_option maxRecDepth 100000

/-- A budget: what is left, what was spent; its channel is closed when nothing is left. -/
structure Bud (w : World) (bb cb : Nat) (l s : Nat) : Prop where
  blk : w.heap[bb]? = some (.cells #[.int .i64 (l : Int), .int .i64 (s : Int), .chan (some cb)] 155 (0, 0))
  chn : w.heap[cb]? = some (.chan 0 #[] (decide (l = 0)) 0 0 false)
theorem Bud.but {S : Nat → Prop} {w w' : World} {bb cb l s : Nat} (h : Bud w bb cb l s) (hb : But S w w') (h1 : ¬ S bb) (h2 : ¬ S cb) : Bud w' bb cb l s := ⟨hb.heap h.blk h1, hb.heap h.chn h2⟩
theorem Bud.ne {w : World} {bb cb l s : Nat} (h : Bud w bb cb l s) : bb ≠ cb := fun e => by have := h.blk; rw [e, h.chn] at this; simp at this
theorem mkch (w : World) : (Instr.makeChan 153 (.int .i64 0)).run Try.prog w = .ok (.chan (some w.heap.size)) (w.alloc (.chan 0 #[] false 0 0 false)) := by
  have hi : (Try.prog.info? 164).map (fun i => i.bytes) = some 0 := by kernel_rfl
  obtain ⟨i, hi, hb⟩ := Option.map_eq_some_iff.1 hi
  simpa using run_makeChan (P := Try.prog) (w := w) Try.underlying153 hi .i64 0 (by omega) (by rw [hb]; omega)
theorem chan_put {w : World} {cb : Nat} {o o' : Obj} (h : w.heap[cb]? = some o) : ({ w with heap := w.heap.setIfInBounds cb o' } : World).heap[cb]? = some o' ∧ But (fun k => k = cb) w { w with heap := w.heap.setIfInBounds cb o' } := map_put h

set_option maxHeartbeats 1000000 in
theorem NewBudget_any (n : Nat) (w : World) : Calls Try.prog 59 #[.int .i64 (n : Int)] w fun e w' => e = .returned (.pointer (some ⟨w.heap.size + 1, 0, none⟩)) ∧ Bud w' (w.heap.size + 1) w.heap.size n 0 ∧ Below w.heap.size w w' := by
  obtain ⟨w1, hw1⟩ : ∃ w1 : World, w1 = (w.alloc (.chan 0 #[] false 0 0 false)).alloc (.cells #[.int .i64 (n : Int), .int .i64 0, .chan (some w.heap.size)] 155) := ⟨_, rfl⟩
  have hB1 : Below w.heap.size w w1 := by rw [hw1]; exact ((Below.refl _ w).alloc (Nat.le_refl _) _).alloc (by simp) _
  have h1 : w1.heap[w.heap.size + 1]? = some (.cells #[.int .i64 (n : Int), .int .i64 0, .chan (some w.heap.size)] 155 (0, 0)) := by rw [hw1]; exact new_at _ _ _ (by simp)
  have h2 : w1.heap[w.heap.size]? = some (.chan 0 #[] false 0 0 false) := by rw [hw1]; exact blk_alloc (new_at w _ _ rfl) _
  have hmc := mkch w
  by_cases h0 : n = 0
  · subst h0
    obtain ⟨w2, hw2⟩ : ∃ w2 : World, w2 = { w1 with heap := w1.heap.setIfInBounds w.heap.size (.chan 0 #[] true 0 0 false) } := ⟨_, rfl⟩
    have hcl : ∀ ats ty, (Builtin.close_ ats ty #[.chan (some w.heap.size)]).run Try.prog w1 = .ok (.tuple #[]) w2 := fun ats ty => by rw [hw2]; exact run_close_open ats ty h2
    obtain ⟨k1, k2⟩ := chan_put (o' := .chan 0 #[] true 0 0 false) h2
    rw [← hw2] at k1 k2
    have hE : Bud w2 (w.heap.size + 1) w.heap.size 0 0 := ⟨k2.heap h1 (by omega), k1⟩
    have hEB : Below w.heap.size w w2 := hB1.trans (k2.below hB1.size (fun k e => by rw [e]; exact Nat.le_refl _))
    have HE := hide hE
    have HEB := hide hEB
    rw [hw1] at hcl
    have hcl0 : ∀ ats ty, (Builtin.close_ ats ty #[.chan (some w.heap.size)]).run Try.prog ((w.alloc (.chan 0 #[] false 0 0 false)).alloc (.cells #[.int .i64 0, .int .i64 0, .chan (some w.heap.size)] 155)) = .ok (.tuple #[]) w2 := hcl
    clear hcl
    clear hE hEB k1 k2 hw2 h1 h2 hB1 hw1
    go_enter Try.func59, Try.ntmps59
    go_wp2
    go_ret
    exact ⟨rfl, unhide HE, unhide HEB⟩
  · have hE : Bud w1 (w.heap.size + 1) w.heap.size n 0 := ⟨h1, by rw [decide_eq_false h0]; exact h2⟩
    have HE := hide hE
    have HEB := hide hB1
    rw [hw1] at HE HEB
    clear hE h1 h2 hB1 hw1
    go_enter Try.func59, Try.ntmps59
    go_wp2
    go_ret
    exact ⟨rfl, unhide HE, unhide HEB⟩

set_option maxHeartbeats 1000000 in
theorem spend_any {w : World} {bb cb l s : Nat} (h : Bud w bb cb (l + 1) s) (hs : s ≤ 1000000000 ∧ l ≤ 9000000000000000000) :
    Calls Try.prog 98 #[.pointer (some ⟨bb, 0, none⟩)] w fun e w' => (∃ u, e = .returned u) ∧ Bud w' bb cb l (s + 1) ∧ But (fun k => k = bb ∨ k = cb) w w' ∧ w'.heap.size = w.heap.size := by
  have hne := h.ne
  have c0 : w.cell? ⟨bb, 0, none⟩ = some (.int .i64 ((l + 1 : Nat) : Int)) := blk_cell h.blk 0
  have c1 : w.cell? ⟨bb, 1, none⟩ = some (.int .i64 (s : Int)) := blk_cell h.blk 1
  have c2 : w.cell? ⟨bb, 2, none⟩ = some (.chan (some cb)) := blk_cell h.blk 2
  have f0 : ∀ j, w.frozen? ⟨bb, j, none⟩ = false := fun j => blk_thaw h.blk j
  have e1 : IntKind.i64.wrap (((l + 1 : Nat) : Int) - 1) = (l : Int) := by rw [IntKind.wrap_i64]; omega
  have e1' : IntKind.i64.wrap ((l : Int) + 1 - 1) = (l : Int) := by rw [IntKind.wrap_i64]; omega
  have e2 : IntKind.i64.wrap ((s : Int) + 1) = ((s + 1 : Nat) : Int) := by rw [IntKind.wrap_i64]; omega
  obtain ⟨w1, hw1⟩ : ∃ w1 : World, w1 = (w.setCell ⟨bb, 0, none⟩ (.int .i64 (l : Int))).setCell ⟨bb, 1, none⟩ (.int .i64 ((s + 1 : Nat) : Int)) := ⟨_, rfl⟩
  have hb1 : But (fun k => k = bb ∨ k = cb) w w1 := by rw [hw1]; exact ((But.refl (fun k => k = bb ∨ k = cb) w).setCell (p := ⟨bb, 0, none⟩) (.inl (.inl rfl)) _).setCell (p := ⟨bb, 1, none⟩) (.inl (.inl rfl)) _
  have h1 : w1.heap[bb]? = some (.cells #[.int .i64 (l : Int), .int .i64 ((s + 1 : Nat) : Int), .chan (some cb)] 155 (0, 0)) := by rw [hw1]; exact blk_set (i := 1) (blk_set (i := 0) h.blk _) _
  have h2 : w1.heap[cb]? = some (.chan 0 #[] false 0 0 false) := by
    rw [hw1]
    have := h.chn
    rw [decide_eq_false (by omega)] at this
    exact blk_other (blk_other this (p := ⟨bb, 0, none⟩) (fun e => hne e.symm) _) (p := ⟨bb, 1, none⟩) (fun e => hne e.symm) _
  have hsz : w1.heap.size = w.heap.size := by rw [hw1]; simp [World.setCell]
  by_cases h0 : l = 0
  · subst h0
    obtain ⟨w2, hw2⟩ : ∃ w2 : World, w2 = { w1 with heap := w1.heap.setIfInBounds cb (.chan 0 #[] true 0 0 false) } := ⟨_, rfl⟩
    have hcl : ∀ ats ty, (Builtin.close_ ats ty #[.chan (some cb)]).run Try.prog w1 = .ok (.tuple #[]) w2 := fun ats ty => by rw [hw2]; exact run_close_open ats ty h2
    obtain ⟨k1, k2⟩ := chan_put (o' := .chan 0 #[] true 0 0 false) h2
    rw [← hw2] at k1 k2
    have hE : Bud w2 bb cb 0 (s + 1) := ⟨k2.heap h1 hne, k1⟩
    have hEB : But (fun k => k = bb ∨ k = cb) w w2 := hb1.trans (k2.wide (fun k _ e => .inr e))
    have hsz2 : w2.heap.size = w.heap.size := by rw [hw2]; simp [hsz]
    have HE := hide hE
    have HEB := hide hEB
    have HSZ := hide hsz2
    rw [hw1] at hcl
    have hcl0 : ∀ ats ty, (Builtin.close_ ats ty #[.chan (some cb)]).run Try.prog ((w.setCell ⟨bb, 0, none⟩ (.int .i64 0)).setCell ⟨bb, 1, none⟩ (.int .i64 ((s : Int) + 1))) = .ok (.tuple #[]) w2 := hcl
    clear hcl hE hEB k1 k2 hw2 h1 h2 hb1 hw1 h hsz hsz2
    go_enter Try.func98, Try.ntmps98
    go_wp2
    go_end0
    exact ⟨⟨_, rfl⟩, unhide HE, unhide HEB, unhide HSZ⟩
  · have hE : Bud w1 bb cb l (s + 1) := ⟨h1, by rw [decide_eq_false h0]; exact h2⟩
    have HE := hide hE
    have HEB := hide hb1
    have HSZ := hide hsz
    rw [hw1] at HE HEB HSZ
    clear hE h1 h2 hb1 hw1 h hsz
    go_enter Try.func98, Try.ntmps98
    go_wp2
    go_end0
    exact ⟨⟨_, rfl⟩, unhide HE, unhide HEB, unhide HSZ⟩

set_option maxHeartbeats 1000000 in
theorem End_any {w : World} {bb cb l s : Nat} (h : Bud w bb cb l s) :
    Calls Try.prog 61 #[.pointer (some ⟨bb, 0, none⟩)] w fun e w' => e = .returned (.int .i64 (s : Int)) ∧ But (fun k => k = bb ∨ k = cb) w w' := by
  have hne := h.ne
  have c0 : w.cell? ⟨bb, 0, none⟩ = some (.int .i64 (l : Int)) := blk_cell h.blk 0
  have c1 : w.cell? ⟨bb, 1, none⟩ = some (.int .i64 (s : Int)) := blk_cell h.blk 1
  have c2 : w.cell? ⟨bb, 2, none⟩ = some (.chan (some cb)) := blk_cell h.blk 2
  have f0 : ∀ j, w.frozen? ⟨bb, j, none⟩ = false := fun j => blk_thaw h.blk j
  by_cases h0 : l = 0
  · subst h0
    clear h
    go_enter Try.func61, Try.ntmps61
    go_wp2
    go_ret
    exact ⟨rfl, .refl _ _⟩
  · have hl : (0 : Int) < (l : Int) := by omega
    obtain ⟨w1, hw1⟩ : ∃ w1 : World, w1 = w.setCell ⟨bb, 0, none⟩ (.int .i64 0) := ⟨_, rfl⟩
    have h1 := blk_set (i := 0) h.blk (.int .i64 0)
    rw [← hw1] at h1
    have h2 : w1.heap[cb]? = some (.chan 0 #[] false 0 0 false) := by
      rw [hw1]
      have := h.chn
      rw [decide_eq_false h0] at this
      exact blk_other this (p := ⟨bb, 0, none⟩) (fun e => hne e.symm) _
    obtain ⟨w2, hw2⟩ : ∃ w2 : World, w2 = { w1 with heap := w1.heap.setIfInBounds cb (.chan 0 #[] true 0 0 false) } := ⟨_, rfl⟩
    have hcl : ∀ ats ty, (Builtin.close_ ats ty #[.chan (some cb)]).run Try.prog w1 = .ok (.tuple #[]) w2 := fun ats ty => by rw [hw2]; exact run_close_open ats ty h2
    obtain ⟨k1, k2⟩ := chan_put (o' := .chan 0 #[] true 0 0 false) h2
    rw [← hw2] at k1 k2
    have hz2 := k2.heap h1 hne
    have d1 : w2.cell? ⟨bb, 1, none⟩ = some (.int .i64 (s : Int)) := blk_cell hz2 1
    have hEB : But (fun k => k = bb ∨ k = cb) w w2 := (by rw [hw1]; exact (But.refl (fun k => k = bb ∨ k = cb) w).setCell (p := ⟨bb, 0, none⟩) (.inl (.inl rfl)) _ : But (fun k => k = bb ∨ k = cb) w w1).trans (k2.wide (fun k _ e => .inr e))
    have HEB := hide hEB
    rw [hw1] at hcl
    clear hEB k1 k2 hw2 h1 h2 hw1 h hz2
    go_enter Try.func61, Try.ntmps61
    go_wp2
    go_ret
    exact ⟨rfl, unhide HEB⟩
end Go.Proofs.Ytfnockbgkcgpkaa
