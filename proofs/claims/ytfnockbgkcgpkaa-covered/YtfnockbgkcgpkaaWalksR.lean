import Derived.Test.YtfnockbgkcgpkaaWalksRA
import Derived.Test.YtfnockbgkcgpkaaWalksP
import Derived.Test.YtfnockbgkcgpkaaWalksQ
import Derived.Test.YtfnockbgkcgpkaaWalksB
set_option linter.all false
namespace Go.Proofs.Ytfnockbgkcgpkaa
open Go.RowKit Go.Proofs.Panes
set_option maxRecDepth 100000

/-- What the first call of Twice tells. -/
theorem first_list (R : List Rc) (hR : Right R) (h : ∀ px py, covL R px py ↔ covL [⟨0, 0, 1, 1⟩, ⟨0, 1, 1, 1⟩] px py) : R = [⟨0, 0, 1, 2⟩] := by
  refine right_unique hR ⟨fun r hr => ?_, List.pairwise_singleton _ _, fun r hr g => ?_⟩ fun px py => (h px py).trans ?_
  · rw [List.mem_singleton.1 hr]; simp
  · rw [List.mem_singleton.1 hr] at g
    have h0 := (g 0).1 ⟨_, List.mem_singleton.2 rfl, by unfold Rc.cov; simp⟩
    obtain ⟨q, hq, e⟩ := h0
    rw [List.mem_singleton.1 hq] at e
    unfold Rc.cov at e
    simp at e
  · rw [covL_cons, covL_cons, covL_cons]
    have := covL_nil px py
    unfold Rc.cov
    simp only [this, or_false]
    omega
theorem lit_ok : okL [⟨0, 0, 1, 1⟩, ⟨0, 1, 1, 1⟩] = true := by decide
theorem tame_ok (l : List Rc) : okL ((l.take 40).map tameR) = true :=
  may_okL (by rw [List.length_map]; exact List.length_take_le _ _) fun r hr => by obtain ⟨q, _, rfl⟩ := List.mem_map.1 hr; exact tame_may q
theorem covL_rev (l : List Rc) (px py : Int) : covL l.reverse px py ↔ covL l px py := by unfold covL; simp
theorem okL_rev {l : List Rc} (h : okL l = true) : okL l.reverse = true := by
  have := okL_may h
  exact may_okL (by simpa using this.1) (by simpa using this.2)
end Go.Proofs.Ytfnockbgkcgpkaa
