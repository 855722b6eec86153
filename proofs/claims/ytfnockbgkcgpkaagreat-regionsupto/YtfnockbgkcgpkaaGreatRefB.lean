import Derived.Test.YtfnockbgkcgpkaaGreatBase
import Derived.Test.YtfnockbgkcgpkaaGreatMathH
import Derived.BigQuiet
import Derived.Deep.QuietTactic
set_option linter.all false
namespace Go.Proofs.YtfnockbgkcgpkaaGreat
open Go.RowKit Go.Proofs.Panes
set_option maxRecDepth 100000

set_option maxHeartbeats 2000000 in
theorem isCovered_any (v : Value) (l : List Rc) (px py : Int) (w : World) (hR : Rd w v l) (hn : l.length ≤ 100000000) (hs : ∀ r ∈ l, May r) :
    Calls Tryz.prog 106 #[v, .int .i64 px, .int .i64 py] w fun e w' => e = .returned (.bool (covA l px py)) ∧ Below w.heap.size w w' := by
  obtain ⟨ao, cap, rfl, h1, h2, h3⟩ := hR
  go_enter Tryz.func106, Tryz.ntmps106
  go_wp2
  go_loopw [7] (fun i wr => ∃ (k : Nat), k ≤ l.length ∧ i = .int .i64 k ∧ covA (l.take k) px py = false ∧ Below w.heap.size w wr) (fun i _ => l.length - (intOf i).toNat)
  case atStart => exact ⟨0, Nat.zero_le _, rfl, rfl, Below.refl _ _⟩
  case round =>
    obtain ⟨k, hk, rfl, hc, hbel⟩ := hrel
    by_cases hlt : k < l.length
    · obtain ⟨b, off, rfl, hb, hcl⟩ := h3 (by intro e; subst e; simp at hlt)
      obtain ⟨r, hr⟩ : ∃ r, l[k]? = some r := ⟨l[k], by simp [hlt]⟩
      obtain ⟨c1, c2, c3, c4⟩ := (hcl k r hr).below hbel hb
      have hsr := hs r (List.mem_of_getElem? hr)
      unfold May at hsr
      obtain ⟨s1, s2, s3, s4⟩ := hsr
      have i0 : (0 : Int) ≤ (k : Int) := by omega
      have i1 : (k : Int) < (l.length : Int) := by omega
      have HC : Hid (covA (l.take (k + 1)) px py = covB r px py) := by
        show _ = _
        unfold covA at *
        rw [List.take_add_one, hr, List.any_append, hc]; simp
      have HL : Hid (covB r px py = true → covA l px py = true) := fun h => List.any_eq_true.2 ⟨r, List.mem_of_getElem? hr, h⟩
      have Hb := hide hbel
      clear hcl h3 hc hbel hr hs
      by_cases g1 : r.x ≤ px
      · by_cases g2 : px < r.x + r.w
        · by_cases g3 : r.y ≤ py
          · by_cases g4 : py < r.y + r.h
            · have HB : Hid (covA l px py = true) := (unhide HL) (decide_eq_true ⟨g1, g2, g3, g4⟩)
              go_wp2
              go_quiet (fail)
              go_wp2
              go_ret
              exact ⟨by rw [unhide HB]; rfl, below_drewN (unhide Hb) _⟩
            · have HB : Hid (covB r px py = false) := decide_eq_false (fun h => g4 h.2.2.2)
              have d0 : decide (py < r.y + r.h) = false := decide_eq_false g4
              go_wp2
              go_quiet (fail)
              go_wp2
              go_roundw
              case rel => exact ⟨k + 1, by omega, by go_num, by rw [unhide HC, unhide HB], below_drewN (unhide Hb) _⟩
              case measure => simp [intOf]; omega
          · have HB : Hid (covB r px py = false) := decide_eq_false (fun h => g3 h.2.2.1)
            have d0 : decide (r.y ≤ py) = false := decide_eq_false g3
            go_wp2
            go_quiet (fail)
            go_wp2
            go_roundw
            case rel => exact ⟨k + 1, by omega, by go_num, by rw [unhide HC, unhide HB], below_drewN (unhide Hb) _⟩
            case measure => simp [intOf]; omega
        · have HB : Hid (covB r px py = false) := decide_eq_false (fun h => g2 h.2.1)
          have d0 : decide (px < r.x + r.w) = false := decide_eq_false g2
          go_wp2
          go_quiet (fail)
          go_wp2
          go_roundw
          case rel => exact ⟨k + 1, by omega, by go_num, by rw [unhide HC, unhide HB], below_drewN (unhide Hb) _⟩
          case measure => simp [intOf]; omega
      · have HB : Hid (covB r px py = false) := decide_eq_false (fun h => g1 h.1)
        have d0 : decide (r.x ≤ px) = false := decide_eq_false g1
        go_wp2
        go_quiet (fail)
        go_wp2
        go_roundw
        case rel => exact ⟨k + 1, by omega, by go_num, by rw [unhide HC, unhide HB], below_drewN (unhide Hb) _⟩
        case measure => simp [intOf]; omega
    · have hkl : k = l.length := by omega
      have HC : Hid (covA l px py = false) := by rw [hkl, List.take_length] at hc; exact hc
      clear hc h3
      go_wp2
      go_ret
      exact ⟨by rw [unhide HC]; rfl, hbel⟩
end Go.Proofs.YtfnockbgkcgpkaaGreat
