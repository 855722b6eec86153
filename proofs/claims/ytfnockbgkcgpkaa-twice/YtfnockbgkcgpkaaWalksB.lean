import Derived.Test.YtfnockbgkcgpkaaBase
import Derived.BigQuiet
import Derived.Deep.QuietTactic
set_option linter.all false
namespace Go.Proofs.Ytfnockbgkcgpkaa
open Go.RowKit Go.Proofs.Panes
set_option maxRecDepth 100000

def handedB (l : List Rc) : Bool := l.all fun r => decide (r.x ≤ 1000) && decide (r.y ≤ 1000) && decide (r.w ≤ 1000) && decide (r.h ≤ 1000)

theorem handedB_take (l : List Rc) (k : Nat) (h : handedB l = true) : handedB (l.take k) = true := by
  unfold handedB at *
  rw [List.all_eq_true] at *
  exact fun r hr => h r (List.mem_of_mem_take hr)
theorem handedB_snoc {l : List Rc} {k : Nat} {r : Rc} (hr : l[k]? = some r) (h : handedB (l.take k) = true) (g1 : r.x ≤ 1000) (g2 : r.y ≤ 1000) (g3 : r.w ≤ 1000) (g4 : r.h ≤ 1000) : handedB (l.take (k + 1)) = true := by
  rw [List.take_add_one, hr]
  unfold handedB at *
  rw [List.all_append, h]
  simp [g1, g2, g3, g4]
theorem handedB_bad {l : List Rc} {k : Nat} {r : Rc} (hr : l[k]? = some r) (h : ¬ (r.x ≤ 1000 ∧ r.y ≤ 1000 ∧ r.w ≤ 1000 ∧ r.h ≤ 1000)) : handedB l = false := by
  unfold handedB
  rw [List.all_eq_false]
  exact ⟨r, List.mem_of_getElem? hr, by simp; omega⟩

set_option maxHeartbeats 1600000 in
theorem handed_any (v : Value) (l : List Rc) (w : World) (hR : Rd w v l) (hn : l.length ≤ 100000000) :
    Calls Try.prog 22 #[v] w fun e w' => e = .returned (.bool (handedB l && decide (l.length ≤ 40))) ∧ Below w.heap.size w w' := by
  obtain ⟨ao, cap, rfl, h1, h2, h3⟩ := hR
  go_enter Try.func22, Try.ntmps22
  go_wp2
  go_loopw [3] (fun i wr => ∃ k : Nat, k ≤ l.length ∧ i = .int .i64 k ∧ handedB (l.take k) = true ∧ Below w.heap.size w wr) (fun i _ => l.length - (intOf i).toNat)
  case atStart => exact ⟨0, Nat.zero_le _, rfl, rfl, Below.refl _ _⟩
  case round =>
    obtain ⟨k, hk, rfl, hh, hbel⟩ := hrel
    by_cases hlt : k < l.length
    · obtain ⟨b, off, rfl, hb, hc⟩ := h3 (by intro e; subst e; simp at hlt)
      obtain ⟨r, hr⟩ : ∃ r, l[k]? = some r := ⟨l[k], by simp [hlt]⟩
      obtain ⟨c1, c2, c3, c4⟩ := (hc k r hr).below hbel hb
      clear hc h3
      have hsplit : handedB l = true → handedB (l.take (k + 1)) = true := handedB_take l (k + 1)
      by_cases hgood : r.x ≤ 1000 ∧ r.y ≤ 1000 ∧ r.w ≤ 1000 ∧ r.h ≤ 1000
      · obtain ⟨g1, g2, g3, g4⟩ := hgood
        go_wp2
        go_roundw
        case rel => exact ⟨k + 1, by omega, by go_num, handedB_snoc hr hh g1 g2 g3 g4, hbel.alloc hbel.size _⟩
        case measure => simp [intOf]; omega
      · have hbad : handedB l = false := handedB_bad hr hgood
        have HB : Hid (handedB l = false) := hbad
        clear hbad hsplit
        go_wp2
        all_goals first
          | (exfalso; apply hgood; refine ⟨?_, ?_, ?_, ?_⟩ <;> omega)
          | (go_ret; exact ⟨by rw [HB.out]; rfl, hbel.alloc hbel.size _⟩)
    · have hkl : k = l.length := by omega
      have HB : Hid (handedB l = true) := by rw [hkl, List.take_length] at hh; exact hh
      clear hh
      go_wp2
      all_goals (go_ret; exact ⟨by rw [HB.out]; simp <;> omega, hbel⟩)
end Go.Proofs.Ytfnockbgkcgpkaa
