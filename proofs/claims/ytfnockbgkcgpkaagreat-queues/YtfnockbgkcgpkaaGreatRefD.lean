import Derived.Test.YtfnockbgkcgpkaaGreatRefC
import Derived.Test.YtfnockbgkcgpkaaGreatMathH
import Derived.BigQuiet
import Derived.Deep.QuietTactic
import Derived.Deep.RegionHeld3
import Derived.Deep.AppendLies
import Derived.Deep.DrawnRows
set_option linter.all false
namespace Go.Proofs.YtfnockbgkcgpkaaGreat
open Go.RowKit Go.Proofs.Panes
attribute [local go_sem ↓] Go.wp_at_zero Go.wp_at_succ
set_option maxRecDepth 100000

/-- A row of bools that somebody owns. -/
abbrev OwnB (w : World) (base : Nat) (v : Value) (l : List Bool) : Prop := w.ownsRow base 4 1 v l.length (l.map Value.bool)
theorem ownB_kept {w w' : World} {base : Nat} {v : Value} {l : List Bool} (h : OwnB w base v l) (hb : Below w.heap.size w w') : OwnB w' base v l := World.ownsRow.kept h (grown_of_below hb none) (by cases hv : v.ownBlock <;> simp)
theorem ownB_slice {w : World} {base : Nat} {v : Value} {l : List Bool} (h : OwnB w base v l) : ∃ ao cap, v = .slice ao l.length cap ∧ l.length ≤ cap := by
  rcases h.2 with ⟨rfl, hn⟩ | ⟨g, cap, cur, rfl, _, _, hc, _⟩
  · exact ⟨none, 0, by rw [hn], by omega⟩
  · exact ⟨_, cap, rfl, hc⟩
theorem ownB_some {w : World} {base : Nat} {v : Value} {l : List Bool} (h : OwnB w base v l) (hne : l ≠ []) : ∃ g cap, v = .slice (some ⟨g, 0, none⟩) l.length cap ∧ base ≤ g ∧ g < w.heap.size := by
  rcases h.2 with ⟨_, hn⟩ | ⟨g, cap, cur, rfl, hb, hg, _⟩
  · exact absurd (List.length_eq_zero_iff.1 hn) hne
  · exact ⟨g, cap, rfl, hb, (Array.getElem?_eq_some_iff.1 hg).1⟩
theorem ownB_at {w : World} {base g n cap : Nat} {l : List Bool} (h : OwnB w base (.slice (some ⟨g, 0, none⟩) n cap) l) {j : Nat} {x : Bool} (hx : l[j]? = some x) : w.cell? ⟨g, j, none⟩ = some (.bool x) := by
  have := World.ownsRow.cells h (g := g) rfl j (.bool x) (by simp [hx])
  have hadd : (⟨g, 0, none⟩ : Addr).add j = ⟨g, j, none⟩ := by unfold Addr.add; split <;> simp_all
  rwa [hadd] at this

set_option maxHeartbeats 1600000 in
theorem sameB_any (ba bb : Nat) (v u : Value) (a b : List Bool) (w : World) (hA : OwnB w ba v a) (hB : OwnB w bb u b) (na : a.length ≤ 100000000) (hl : a.length = b.length) :
    Calls Tryz.prog 108 #[v, u] w fun e w' => e = .returned (.bool (decide (a = b))) ∧ Below w.heap.size w w' := by
  have HA : Hid (a ≠ [] → ∃ g, g < w.heap.size ∧ (∃ cap, v = .slice (some ⟨g, 0, none⟩) a.length cap) ∧ ∀ j x, a[j]? = some x → w.cell? ⟨g, j, none⟩ = some (.bool x)) := fun hne => by
    obtain ⟨g, cap, rfl, _, hg⟩ := ownB_some hA hne
    exact ⟨g, hg, ⟨cap, rfl⟩, fun j x hx => ownB_at hA hx⟩
  have HB : Hid (b ≠ [] → ∃ g, g < w.heap.size ∧ (∃ cap, u = .slice (some ⟨g, 0, none⟩) b.length cap) ∧ ∀ j x, b[j]? = some x → w.cell? ⟨g, j, none⟩ = some (.bool x)) := fun hne => by
    obtain ⟨g, cap, rfl, _, hg⟩ := ownB_some hB hne
    exact ⟨g, hg, ⟨cap, rfl⟩, fun j x hx => ownB_at hB hx⟩
  obtain ⟨ao, ac, ea, _⟩ := ownB_slice hA
  obtain ⟨bo, bc, eb, _⟩ := ownB_slice hB
  subst ea
  subst eb
  have HL := hide hl
  rw [← hl]
  rw [← hl] at HB
  clear hA hB hl
  go_enter Tryz.func108, Tryz.ntmps108
  go_wp2
  go_loopw [5] (fun i wr => ∃ k : Nat, k ≤ a.length ∧ i = .int .i64 k ∧ a.take k = b.take k ∧ Below w.heap.size w wr) (fun i _ => a.length - (intOf i).toNat)
  case atStart => exact ⟨0, Nat.zero_le _, rfl, rfl, Below.refl _ _⟩
  case round =>
    obtain ⟨k, hk, rfl, hh, hbel⟩ := hrel
    by_cases hlt : k < a.length
    · have hltb : k < b.length := by have := unhide HL; omega
      obtain ⟨g1, hg1, ⟨c1, e1⟩, hc1⟩ := (unhide HA) (by intro e; subst e; simp at hlt)
      obtain ⟨g2, hg2, ⟨c2, e2⟩, hc2⟩ := (unhide HB) (by intro e; subst e; simp at hltb)
      simp only [Value.slice.injEq] at e1 e2
      obtain ⟨rfl, _, rfl⟩ := e1
      obtain ⟨rfl, _, rfl⟩ := e2
      obtain ⟨p, hp⟩ : ∃ r, a[k]? = some r := ⟨a[k], by simp [hlt]⟩
      obtain ⟨q, hq⟩ : ∃ r, b[k]? = some r := ⟨b[k], by simp [hltb]⟩
      have x1 := (hbel.cell (p := ⟨g1, k, none⟩) hg1).trans (hc1 k p hp)
      have x2 := (hbel.cell (p := ⟨g2, k, none⟩) hg2).trans (hc2 k q hq)
      have i0 : (0 : Int) ≤ (k : Int) := by omega
      have i1 : (k : Int) < (a.length : Int) := by omega
      have HT : Hid (p = q → a.take (k + 1) = b.take (k + 1)) := fun e => by rw [List.take_add_one, List.take_add_one, hp, hq, hh, e]
      have HN : Hid (p ≠ q → decide (a = b) = false) := fun e => by
        rw [decide_eq_false_iff_not]; intro e'; subst e'; rw [hp] at hq; exact e (Option.some.inj hq)
      have Hb := hide hbel
      clear hc1 hc2 hh hp hq hbel HA HB
      cases p <;> cases q
      · go_wp2
        go_quiet (fail)
        go_wp2
        go_roundw
        case rel => exact ⟨k + 1, by omega, by go_num, (unhide HT) (by first | rfl | trivial), below_drewN (unhide Hb) _⟩
        case measure => simp [intOf]; omega
      · have HD := hide ((unhide HN) (by simp))
        go_wp2
        go_quiet (fail)
        go_wp2
        go_ret
        exact ⟨by rw [unhide HD]; rfl, below_drewN (unhide Hb) _⟩
      · have HD := hide ((unhide HN) (by simp))
        go_wp2
        go_quiet (fail)
        go_wp2
        go_ret
        exact ⟨by rw [unhide HD]; rfl, below_drewN (unhide Hb) _⟩
      · go_wp2
        go_quiet (fail)
        go_wp2
        go_roundw
        case rel => exact ⟨k + 1, by omega, by go_num, (unhide HT) (by first | rfl | trivial), below_drewN (unhide Hb) _⟩
        case measure => simp [intOf]; omega
    · have hkl : k = a.length := by omega
      have HD : Hid (decide (a = b) = true) := by
        refine decide_eq_true ?_
        rw [hkl, List.take_length, unhide HL, List.take_length] at hh; exact hh
      clear hh HA HB
      go_wp2
      go_ret
      exact ⟨by rw [unhide HD]; rfl, hbel⟩
end Go.Proofs.YtfnockbgkcgpkaaGreat
