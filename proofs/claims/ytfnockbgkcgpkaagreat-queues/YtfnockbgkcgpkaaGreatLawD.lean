import Derived.Test.YtfnockbgkcgpkaaGreatBase
set_option linter.all false
namespace Go.Proofs.YtfnockbgkcgpkaaGreat
open Go.RowKit Go.Proofs.Panes
set_option maxRecDepth 100000

/-- The mark of the list of number n. -/
def mark (n : Int) : Rc := ⟨-5000 - n, 0, 0, 0⟩

set_option maxHeartbeats 1600000 in
theorem areRects_any (v : Value) (l : List Rc) (n : Int) (w : World) (hR : Rd w v l) (hl : l.length ≤ 100000000) (hn : 0 ≤ n ∧ n ≤ 100000000) (hm : ∀ r ∈ l, r = mark n) :
    Calls Tryz.prog 29 #[v, .int .i64 n] w fun e w' => e = .returned (.bool true) ∧ Below w.heap.size w w' := by
  obtain ⟨ao, cap, rfl, h1, h2, h3⟩ := hR
  have hw : IntKind.i64.wrap (-5000 - n) = -5000 - n := by rw [IntKind.wrap_i64]; omega
  have HM := hide hm
  clear hm
  go_enter Tryz.func29, Tryz.ntmps29
  go_wp2
  go_loopw [5] (fun i wr => ∃ k : Nat, k ≤ l.length ∧ i = .int .i64 k ∧ Below w.heap.size w wr) (fun i _ => l.length - (intOf i).toNat)
  case atStart => exact ⟨0, Nat.zero_le _, rfl, Below.refl _ _⟩
  case round =>
    obtain ⟨k, hk, rfl, hbel⟩ := hrel
    by_cases hlt : k < l.length
    · obtain ⟨b, off, rfl, hb, hc⟩ := h3 (by intro e; subst e; simp at hlt)
      obtain ⟨r, hr⟩ : ∃ r, l[k]? = some r := ⟨l[k], by simp [hlt]⟩
      obtain ⟨c1, c2, c3, c4⟩ := (hc k r hr).below hbel hb
      have e := (unhide HM) r (List.mem_of_getElem? hr)
      subst e
      simp only [mark] at c1 c2 c3 c4
      have i0 : (0 : Int) ≤ (k : Int) := by omega
      have i1 : (k : Int) < (l.length : Int) := by omega
      have Hb := hide hbel
      clear hc h3 hr hbel
      go_wp2
      go_roundw
      case rel => exact ⟨k + 1, by omega, by go_num, unhide Hb⟩
      case measure => simp [intOf]; omega
    · have Hb := hide hbel
      clear hbel h3
      go_wp2
      go_ret
      exact ⟨rfl, unhide Hb⟩
end Go.Proofs.YtfnockbgkcgpkaaGreat
