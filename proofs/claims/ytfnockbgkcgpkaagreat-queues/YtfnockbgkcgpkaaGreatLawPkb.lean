import Derived.Test.YtfnockbgkcgpkaaGreatLawH
import Derived.Deep.DrawnRows
set_option linter.all false
namespace Go.Proofs.YtfnockbgkcgpkaaGreat
open Go.RowKit Go.Proofs.Panes
set_option maxRecDepth 100000
attribute [local go_sem ↓] Go.wp_at_zero Go.wp_at_succ

def pk (c n : Int) : Int := (if c < 0 then -(c + 1) else c) % n
theorem pk_bd (c n : Int) (hn : 0 < n) : 0 ≤ pk c n ∧ pk c n < n := by
  unfold pk; exact ⟨Int.emod_nonneg _ (by omega), Int.emod_lt_of_pos _ hn⟩

set_option maxHeartbeats 400000 in
theorem pick_any (c n : Int) (w : World) (hc : -9223372036854775808 ≤ c ∧ c ≤ 9223372036854775807) (hn : 0 < n ∧ n ≤ 100000000000000) :
    Calls Tryz.prog 14 #[.int .i64 c, .int .i64 n] w fun e w' => e = .returned (.int .i64 (pk c n)) ∧ w' = w := by
  by_cases h : c < 0
  · have e : pk c n = -((c + 1).tmod n) := by unfold pk; rw [if_pos h, ← Int.neg_tmod, Int.tmod_eq_emod_of_nonneg (by omega)]
    rw [e]
    go_enter Tryz.func14, Tryz.ntmps14
    go_wp2
    go_ret
    exact ⟨rfl, rfl⟩
  · have e : pk c n = c % n := by unfold pk; rw [if_neg h]
    rw [e]
    go_enter Tryz.func14, Tryz.ntmps14
    go_wp2
    go_ret
    exact ⟨rfl, rfl⟩


set_option maxHeartbeats 400000 in
theorem num_any (n : Int) (w : World) : Calls Tryz.prog 17 #[.int .i64 n] w fun e w' => e = .returned (.int .i64 n) ∧ w' = w := by
  go_enter Tryz.func17, Tryz.ntmps17
  go_wp2
  go_ret
  exact ⟨rfl, rfl⟩

theorem pk_at (c : Int) (n : Nat) (hn : 0 < n) : ∃ i : Nat, pk c n = i ∧ i < n := by
  have h := pk_bd c n (by omega)
  exact ⟨(pk c n).toNat, by omega, by omega⟩

theorem RdU.below {U : Nat → Prop} {w w' : World} {v : Value} {l : List Rc} (h : RdU U w v l) (hb : Below w.heap.size w w') : RdU U w' v l := h.but (S := fun _ => False) (.of_below hb) (fun _ _ h => h)
def openL : List Rc := [⟨1, 0, 0, 0⟩, ⟨2, 0, 1, 0⟩, ⟨3, 0, 1, 0⟩, ⟨4, 0, 1, 0⟩, ⟨5, 0, 0, 0⟩, ⟨6, 1, 0, 0⟩, ⟨6, 0, 0, 0⟩, ⟨9, 0, 0, 0⟩, ⟨7, 0, 0, 0⟩, ⟨8, 0, 1, 0⟩, ⟨8, 0, 0, 0⟩, ⟨10, 0, 1, 0⟩, ⟨10, 0, 1, 0⟩, ⟨10, 0, 1, 0⟩, ⟨11, 0, 0, 0⟩]

/-- A block that holds a list. -/
theorem rdu_block {U : Nat → Prop} {w : World} {b : Nat} {l : List Rc} {t : TypeId} {fz : Nat × Nat} (h : w.heap[b]? = some (.cells (rcells l).toArray t fz)) (hu : U b) (cap : Nat) (hc : l.length ≤ cap) (hm : cap ≤ maxLen) : RdU U w (.slice (some ⟨b, 0, none⟩) l.length cap) l := by
  refine ⟨some ⟨b, 0, none⟩, cap, rfl, hc, hm, fun _ => ⟨b, 0, rfl, hu, lt_of_heap h, fun j r hr => ?_⟩⟩
  have e := rcells_at l j r hr
  have c : ∀ q, w.cell? ⟨b, q, none⟩ = (rcells l)[q]? := fun q => by rw [blk_cell h q]; simp
  rw [Nat.zero_add]
  exact ⟨(c _).trans e.1, (c _).trans e.2.1, (c _).trans e.2.2.1, (c _).trans e.2.2.2⟩

set_option maxHeartbeats 4000000 in
theorem opening_any (w : World) : Calls Tryz.prog 9 #[] w fun e w' => ∃ v, e = .returned v ∧ RdU (fun k => k = w.heap.size) w' v openL ∧ w.heap.size < w'.heap.size ∧ Below w.heap.size w w' := by
  go_enter Tryz.func9, Tryz.ntmps9
  go_wp2
  go_ret
  refine ⟨.slice (some ⟨w.heap.size, 0, none⟩) 15 15, rfl, ?_, by simp, (Below.refl _ w).alloc (Nat.le_refl _) _⟩
  have h : (w.alloc (.cells (rcells openL).toArray 42)).heap[w.heap.size]? = some (.cells (rcells openL).toArray 42) := new_at _ _ _ rfl
  exact rdu_block (U := fun k => k = w.heap.size) (l := openL) h rfl 15 (by decide) (by simp [maxLen])

theorem heap_at (w : World) (o : Obj) (k : Nat) (h : k < w.heap.size) : (w.alloc o).heap[k]? = w.heap[k]? := Below.heap_alloc w o k h

theorem RdU.wide {U V : Nat → Prop} {w : World} {v : Value} {l : List Rc} (h : RdU U w v l) (hu : ∀ k, U k → V k) : RdU V w v l := by
  obtain ⟨ao, cap, e, h1, h2, h3⟩ := h
  refine ⟨ao, cap, e, h1, h2, fun hne => ?_⟩
  obtain ⟨b, off, e, hb, r⟩ := h3 hne
  exact ⟨b, off, e, hu b hb, r⟩
/-- An element of a list that reads. -/
theorem RdU.at {U : Nat → Prop} {w : World} {ao : Option Addr} {n cap : Nat} {l : List Rc} (h : RdU U w (.slice ao n cap) l) {j : Nat} {r : Rc} (hr : l[j]? = some r) : n = l.length ∧ ∃ b off, ao = some ⟨b, off, none⟩ ∧ RAt w b (off + j * 4) r := by
  obtain ⟨ao', cap', e, h1, h2, h3⟩ := h
  simp only [Value.slice.injEq] at e
  obtain ⟨rfl, rfl, rfl⟩ := e
  obtain ⟨b, off, e, _, _, hc⟩ := h3 (by intro e; subst e; simp at hr)
  exact ⟨rfl, b, off, e, hc j r hr⟩

theorem open_kinds : ∀ r ∈ openL, 1 ≤ r.x ∧ (-9223372036854775808 ≤ r.y ∧ r.y ≤ 9223372036854775807) ∧ (-9223372036854775808 ≤ r.w ∧ r.w ≤ 9223372036854775807) := by
  intro r hr
  simp only [openL, List.mem_cons, List.mem_nil_iff, or_false] at hr
  rcases hr with rfl | rfl | rfl | rfl | rfl | rfl | rfl | rfl | rfl | rfl | rfl | rfl | rfl | rfl | rfl <;> decide
end Go.Proofs.YtfnockbgkcgpkaaGreat
