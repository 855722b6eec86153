import Derived.Test.YtfnockbgkcgpkaaGreatRefG
import Derived.Test.YtfnockbgkcgpkaaGreatWalksUA
set_option linter.all false
namespace Go.Proofs.YtfnockbgkcgpkaaGreat
open Go.RowKit Go.Proofs.Panes
attribute [local go_sem ↓] Go.wp_at_zero Go.wp_at_succ
set_option maxRecDepth 100000

/-- What the document's answer is, of lists that may be. -/
structure Doc (way : Int) (a b R : List Rc) : Prop where
  right : Right R
  cov : ∀ px py, covL R px py ↔ wayB way (covA a px py) (covA b px py) = true
  len : R.length ≤ 100000

set_option maxHeartbeats 2000000 in
theorem docCall_ok (way : Int) (va vb : Value) (a b : List Rc) (w : World) (hA : Rd w va a) (hB : Rd w vb b) (ka : okL a = true) (kb : okL b = true) :
    Calls Tryz.prog 36 #[.int .i64 way, va, vb] w fun e w' => ∃ v' R, e = .returned (.tuple #[v', .int .i64 0]) ∧ Own w' w.heap.size v' R ∧ Doc way a b R ∧ Below w.heap.size w w' := by
  have HA := hide hA
  have HB := hide hB
  have HKA := hide (okL_may ka)
  have HKB := hide (okL_may kb)
  have hca := hide (isRight_any va a w hA)
  rw [ka] at hca
  have hcb : Hid (∀ w1, Below w.heap.size w w1 → Calls Tryz.prog 68 #[vb] w1 fun e w' => e = .returned (.bool true) ∧ Below w1.heap.size w1 w') := fun w1 h1 => by
    have := isRight_any vb b w1 (hB.below h1); rw [kb] at this; exact this
  clear hA hB ka kb
  go_enter Tryz.func36, Tryz.ntmps36
  go_wp2_with fail
  refine (unhide hca).mono ?_
  rintro e w1 ⟨rfl, h1⟩
  have H1 := hide h1
  clear h1
  go_wp2_with fail
  refine ((unhide hcb) w1 (unhide H1)).mono ?_
  rintro e w2 ⟨rfl, h2⟩
  have z1 := (unhide H1).size
  have H2 := hide ((unhide H1).trans (h2.mono z1))
  clear h2
  go_wp2_with fail
  refine (together_any way va vb a b w2 ((unhide HA).below (unhide H2)) ((unhide HB).below (unhide H2)) (unhide HKA).1 (unhide HKB).1 (unhide HKA).2 (unhide HKB).2).mono ?_
  rintro e w3 ⟨v', R, rfl, o3, r3, c3, l3, b3⟩
  have z2 := (unhide H2).size
  have HR := hide (show Own w3 w.heap.size v' R ∧ Doc way a b R ∧ Below w.heap.size w w3 from ⟨o3.mono z2, ⟨r3, c3, l3⟩, (unhide H2).trans (b3.mono z2)⟩)
  clear o3 r3 c3 l3 b3
  go_wp2
  go_ret2
  exact ⟨_, R, rfl, unhide HR⟩

set_option maxHeartbeats 2000000 in
theorem docCall_err (way : Int) (va vb : Value) (a b : List Rc) (w : World) (hA : Rd w va a) (hB : Rd w vb b) (k : (okL a && okL b) = false) :
    Calls Tryz.prog 36 #[.int .i64 way, va, vb] w fun e w' => e = .returned (.tuple #[.slice none 0 0, .int .i64 1]) ∧ Below w.heap.size w w' := by
  have hca := hide (isRight_any va a w hA)
  have hcb : Hid (∀ w1, Below w.heap.size w w1 → Calls Tryz.prog 68 #[vb] w1 fun e w' => e = .returned (.bool (okL b)) ∧ Below w1.heap.size w1 w') := fun w1 h1 => isRight_any vb b w1 (hB.below h1)
  clear hA hB
  obtain ⟨p, hp⟩ : ∃ p, p = okL a := ⟨_, rfl⟩
  obtain ⟨q, hq⟩ : ∃ q, q = okL b := ⟨_, rfl⟩
  rw [← hp] at hca k
  rw [← hq] at hcb k
  clear hp hq
  go_enter Tryz.func36, Tryz.ntmps36
  go_wp2_with fail
  refine (unhide hca).mono ?_
  rintro e w1 ⟨rfl, h1⟩
  have H1 := hide h1
  clear h1
  go_wp2_with fail
  refine ((unhide hcb) w1 (unhide H1)).mono ?_
  rintro e w2 ⟨rfl, h2⟩
  have z1 := (unhide H1).size
  have H2 := hide ((unhide H1).trans (h2.mono z1))
  clear h2
  cases p
  · go_wp2
    go_ret2
    exact ⟨rfl, unhide H2⟩
  · cases q
    · go_wp2
      go_ret2
      exact ⟨rfl, unhide H2⟩
    · cases k
end Go.Proofs.YtfnockbgkcgpkaaGreat
