import Derived.Test.YtfnockbgkcgpkaaKaab
import Derived.RegionTactic
import Derived.ChangeAlike
import Derived.BigRegion
import Derived.BigQuiet
import Derived.Deep.QuietTactic
set_option linter.all false
namespace Go.Proofs.Ytfnockbgkcgpkaa
open Go.RowKit Go.Proofs.Panes
set_option maxRecDepth 100000

set_option maxHeartbeats 400000 in
theorem within_any (n a b : Int) (w : World) : Calls Try.prog 80 #[.int .i64 n, .int .i64 a, .int .i64 b] w fun e w' => e = .returned (.bool (decide (a ≤ n) && decide (n ≤ b))) ∧ w' = w := by
  go_enter Try.func80, Try.ntmps80
  go_wp2
  all_goals go_ret
  all_goals exact ⟨by simp_all <;> omega, rfl⟩

set_option maxHeartbeats 800000 in
theorem cut_any (x y wi h x' y' wi' h' : Int) (w : World)
  (b1 : -10000 ≤ x ∧ x ≤ 10000) (b2 : -10000 ≤ y ∧ y ≤ 10000) (b3 : -10000 ≤ wi ∧ wi ≤ 10000) (b4 : -10000 ≤ h ∧ h ≤ 10000)
  (c1 : -10000 ≤ x' ∧ x' ≤ 10000) (c2 : -10000 ≤ y' ∧ y' ≤ 10000) (c3 : -10000 ≤ wi' ∧ wi' ≤ 10000) (c4 : -10000 ≤ h' ∧ h' ≤ 10000) :
    Calls Try.prog 84 #[.agg #[.int .i64 x, .int .i64 y, .int .i64 wi, .int .i64 h], .agg #[.int .i64 x', .int .i64 y', .int .i64 wi', .int .i64 h']] w fun e w' =>
      e = .returned (.agg #[.int .i64 (max x x'), .int .i64 (max y y'), .int .i64 (max 0 (min (x + wi) (x' + wi') - max x x')), .int .i64 (max 0 (min (y + h) (y' + h') - max y y'))]) ∧ Below w.heap.size w w' := by
  have mx : ∀ a b : Int, (if a < b then b else a) = max a b := fun a b => by omega
  have mn : ∀ a b : Int, (if b < a then b else a) = min a b := fun a b => by omega
  have mz : ∀ a b : Int, (if b < a then a - b else 0) = max 0 (a - b) := fun a b => by omega
  go_enter Try.func84, Try.ntmps84
  go_wp2
  go_quiet (fail)
  go_wp2
  go_quiet (fail)
  go_wp2
  refine bodyPost_ret (v := .agg #[.int .i64 (max x x'), .int .i64 (max y y'), .int .i64 (max 0 (min (x + wi) (x' + wi') - max x x')), .int .i64 (max 0 (min (y + h) (y' + h') - max y y'))]) (by simp [results, Try.results84, go_sem]) rfl ⟨rfl, ?_⟩
  repeat (first | exact Below.refl _ _ | refine Below.setCell ?_ (by first | (simp; done) | (simp; omega)) _ | refine below_drewN ?_ _ | refine Below.drew ?_ | refine Below.alloc ?_ (by first | (simp; done) | (simp; omega)) _)
end Go.Proofs.Ytfnockbgkcgpkaa
