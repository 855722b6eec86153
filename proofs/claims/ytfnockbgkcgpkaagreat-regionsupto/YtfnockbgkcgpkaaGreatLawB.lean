import Derived.Test.YtfnockbgkcgpkaaGreatRefJ
import Derived.Test.YtfnockbgkcgpkaaGreatLawPk
set_option linter.all false
namespace Go.Proofs.YtfnockbgkcgpkaaGreat
open Go.RowKit Go.Proofs.Panes
set_option maxRecDepth 100000
attribute [local go_sem ↓] Go.wp_at_zero Go.wp_at_succ

/-- The document's way, of a kind. -/
def wayOf (kind : Int) : Int := if kind = 3 then 2 else if kind = 4 then 3 else 1
set_option maxHeartbeats 400000 in
theorem way_any (kind : Int) (w : World) : Calls Tryz.prog 37 #[.int .i64 kind] w fun e w' => e = .returned (.int .i64 (wayOf kind)) ∧ w' = w := by
  by_cases h3 : kind = 3
  · subst h3
    go_enter Tryz.func37, Tryz.ntmps37
    go_wp2
    go_ret
    exact ⟨rfl, rfl⟩
  · by_cases h4 : kind = 4
    · subst h4
      go_enter Tryz.func37, Tryz.ntmps37
      go_wp2
      go_ret
      exact ⟨rfl, rfl⟩
    · have HW : Hid (wayOf kind = 1) := by show _ = _; simp [wayOf, h3, h4]
      go_enter Tryz.func37, Tryz.ntmps37
      go_wp2
      go_ret
      exact ⟨by rw [unhide HW]; rfl, rfl⟩

/-- The program's answer and the document's are one list. -/
theorem agree {w w' : World} {v : Value} {way : Int} {a b R D : List Rc} {C : Int → Int → Prop} (h : Res w w' v R C) (d : Doc way a b D) (hC : ∀ px py, C px py ↔ wayB way (covA a px py) (covA b px py) = true) : R = D :=
  right_unique h.right d.right fun px py => (h.cov px py).trans ((hC px py).trans (d.cov px py).symm)
theorem way_union (a b : List Rc) (px py : Int) : (covL a px py ∨ covL b px py) ↔ wayB 1 (covA a px py) (covA b px py) = true := by
  rw [← covA_iff, ← covA_iff]; cases covA a px py <;> cases covA b px py <;> simp [wayB]
theorem way_intersect (a b : List Rc) (px py : Int) : (covL a px py ∧ covL b px py) ↔ wayB 2 (covA a px py) (covA b px py) = true := by
  rw [← covA_iff, ← covA_iff]; cases covA a px py <;> cases covA b px py <;> simp [wayB]
theorem way_subtract (a b : List Rc) (px py : Int) : (covL a px py ∧ ¬ covL b px py) ↔ wayB 3 (covA a px py) (covA b px py) = true := by
  rw [← covA_iff, ← covA_iff]; cases covA a px py <;> cases covA b px py <;> simp [wayB]
theorem way_canon (a : List Rc) (px py : Int) : covL a px py ↔ wayB 1 (covA a px py) (covA [] px py) = true := by
  rw [← covA_iff, covA_nil]; cases covA a px py <;> simp [wayB]
end Go.Proofs.YtfnockbgkcgpkaaGreat
