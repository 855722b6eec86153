import Derived.Test.YtfnockbgkcgpkaaBase
import Derived.BigQuiet
import Derived.Deep.QuietTactic
set_option linter.all false
namespace Go.Proofs.Ytfnockbgkcgpkaa
open Go.RowKit Go.Proofs.Panes Classical
set_option maxRecDepth 100000

set_option maxHeartbeats 1600000 in
theorem same_any (v u : Value) (a b : List Rc) (w : World) (hA : Rd w v a) (hB : Rd w u b) (na : a.length ≤ 100000000) (nb : b.length ≤ 100000000) :
    Calls Try.prog 21 #[v, u] w fun e w' => e = .returned (.bool (decide (a = b))) ∧ Below w.heap.size w w' := by
  obtain ⟨ao, cap, rfl, h1, h2, h3⟩ := hA
  obtain ⟨bo, cap', rfl, g1, g2, g3⟩ := hB
  by_cases hl : a.length = b.length
  · go_enter Try.func21, Try.ntmps21
    rw [← hl]
    have hl' := hide hl
    clear hl
    go_wp2
    go_loopw [5] (fun i wr => ∃ k : Nat, k ≤ a.length ∧ i = .int .i64 k ∧ a.take k = b.take k ∧ Below w.heap.size w wr) (fun i _ => a.length - (intOf i).toNat)
    case atStart => exact ⟨0, Nat.zero_le _, rfl, rfl, Below.refl _ _⟩
    case round =>
      obtain ⟨k, hk, rfl, hh, hbel⟩ := hrel
      by_cases hlt : k < a.length
      · have hltb : k < b.length := by have := unhide hl'; omega
        obtain ⟨b1, off, rfl, hb1, hc⟩ := h3 (by intro e; subst e; simp at hlt)
        obtain ⟨b2, off2, rfl, hb2, hd⟩ := g3 (by intro e; subst e; simp at hltb)
        obtain ⟨p, hp⟩ : ∃ r, a[k]? = some r := ⟨a[k], by simp [hlt]⟩
        obtain ⟨q, hq⟩ : ∃ r, b[k]? = some r := ⟨b[k], by simp [hltb]⟩
        obtain ⟨c1, c2, c3, c4⟩ := (hc k p hp).below hbel hb1
        obtain ⟨d1, d2, d3, d4⟩ := (hd k q hq).below hbel hb2
        have i0 : (0 : Int) ≤ (k : Int) := by omega
        have i1 : (k : Int) < (a.length : Int) := by omega
        have HT : Hid (p = q → a.take (k + 1) = b.take (k + 1)) := fun e => by rw [List.take_add_one, List.take_add_one, hp, hq, hh, e]
        have HN : Hid (p ≠ q → decide (a = b) = false) := fun e => by
          rw [decide_eq_false_iff_not]; intro e'; subst e'; rw [hp] at hq; exact e (Option.some.inj hq)
        have Hb := hide hbel
        clear hc h3 hd g3 hh hp hq hbel
        obtain ⟨px, py, pw, ph⟩ := p
        obtain ⟨qx, qy, qw, qh⟩ := q
        simp only at c1 c2 c3 c4 d1 d2 d3 d4
        by_cases he : px = qx ∧ py = qy ∧ pw = qw ∧ ph = qh
        · obtain ⟨rfl, rfl, rfl, rfl⟩ := he
          have HT2 := hide ((unhide HT) rfl)
          clear HT HN
          go_wp2
          go_quiet (fail)
          go_wp2
          go_roundw
          case rel => exact ⟨k + 1, by omega, by go_num, unhide HT2, below_drewN (unhide Hb) _⟩
          case measure => simp [intOf]; omega
        · have HD : Hid (decide (a = b) = false) := (unhide HN) (by intro e; injection e with e1 e2 e3 e4; exact he ⟨e1, e2, e3, e4⟩)
          clear HT HN
          rcases (show px ≠ qx ∨ (px = qx ∧ py ≠ qy) ∨ (px = qx ∧ py = qy ∧ pw ≠ qw) ∨ (px = qx ∧ py = qy ∧ pw = qw ∧ ph ≠ qh) by omega) with h | ⟨rfl, h⟩ | ⟨rfl, rfl, h⟩ | ⟨rfl, rfl, rfl, h⟩
          all_goals
            clear he
            go_wp2
            go_quiet (fail)
            go_wp2
            go_ret
            exact ⟨by rw [HD.out]; rfl, below_drewN (unhide Hb) _⟩
      · have hkl : k = a.length := by omega
        have HB : Hid (decide (a = b) = true) := by
          rw [hkl, List.take_length, unhide hl', List.take_length] at hh; exact decide_eq_true hh
        clear hh
        go_wp2
        go_ret
        exact ⟨by rw [HB.out]; rfl, hbel⟩
  · have hno : decide (a = b) = false := by rw [decide_eq_false_iff_not]; intro e; exact hl (by rw [e])
    rw [hno]
    have hl2 : ((a.length : Int) != (b.length : Int)) = true := by rw [bne_iff_ne]; omega
    have hl3 := hide hl
    clear hl hno
    go_enter Try.func21, Try.ntmps21
    go_wp2
    all_goals (go_ret; exact ⟨rfl, Below.refl _ _⟩)
end Go.Proofs.Ytfnockbgkcgpkaa
