import Derived.Test.YtfnockbgkcgpkaaGreatLawC
import Derived.Test.YtfnockbgkcgpkaaGreatLawA
import Derived.Test.YtfnockbgkcgpkaaGreatLawH
import Derived.Test.YtfnockbgkcgpkaaGreatLawJ
import Derived.Test.YtfnockbgkcgpkaaGreatLawK
import Derived.Deep.RegionHeld3
import Derived.BigRegion
import Derived.BigQuiet
import Derived.Deep.QuietTactic
set_option linter.all false
namespace Go.Proofs.YtfnockbgkcgpkaaGreat
open Go.RowKit Go.Proofs.Panes
set_option maxRecDepth 100000
attribute [local go_sem ↓] Go.wp_at_zero Go.wp_at_succ

theorem sameRects_self (v u : Value) (a : List Rc) (w : World) (hA : Rd w v a) (hB : Rd w u a) (na : a.length ≤ 100000000) :
    Calls Tryz.prog 38 #[v, u] w fun e w' => e = .returned (.bool true) ∧ Below w.heap.size w w' :=
  (sameRects_any v u a a w hA hB na na).mono fun e w' ⟨he, hb⟩ => ⟨by rw [he]; simp, hb⟩
/-- What the program answers, of the kinds Canon to Subtract. -/
def Ans (kind : Int) (a b : List Rc) (n : Int) (R : List Rc) : Prop := if (okL a && okL b) = true then n = 0 ∧ ∀ D, Doc (wayOf kind) a b D → R = D else n = 1 ∧ R = []
/-- What the document answers. -/
def AnsD (kind : Int) (a b : List Rc) (n : Int) (D : List Rc) : Prop := if (okL a && okL b) = true then n = 0 ∧ Doc (wayOf kind) a b D else n = 1 ∧ D = []
theorem ans_same {kind : Int} {a b : List Rc} {n m : Int} {R D : List Rc} (h : Ans kind a b n R) (g : AnsD kind a b m D) : R = D ∧ n = m := by
  unfold Ans at h
  unfold AnsD at g
  split at h <;> rename_i hc
  · rw [if_pos hc] at g
    exact ⟨h.2 D g.2, by rw [h.1, g.1]⟩
  · rw [if_neg hc] at g
    exact ⟨by rw [h.2, g.2], by rw [h.1, g.1]⟩

theorem called_any (kind : Int) (hk : kind = 1 ∨ kind = 2 ∨ kind = 3 ∨ kind = 4) (va vb : Value) (a b : List Rc) (w : World) (hA : Rd w va a) (hB : Rd w vb b) (h1 : kind = 1 → b = []) :
    Calls Tryz.prog 35 #[.int .i64 kind, va, vb] w fun e w' => ∃ v' n R, e = .returned (.tuple #[v', .int .i64 n]) ∧ Ans kind a b n R ∧ Own w' w.heap.size v' R ∧ R.length ≤ 20000000 ∧ Below w.heap.size w w' := by
  by_cases hc : (okL a && okL b) = true
  · have ka : okL a = true := by cases h : okL a; rw [h] at hc; cases hc; rfl
    have kb : okL b = true := by cases h : okL b; rw [h, Bool.and_false] at hc; cases hc; rfl
    have fin : ∀ (k : Int), Calls Tryz.prog 35 #[.int .i64 k, va, vb] w (fun e w' => ∃ v' R, e = .returned (.tuple #[v', .int .i64 0]) ∧ Fits w w' v' (wayOf k) a b R) → Calls Tryz.prog 35 #[.int .i64 k, va, vb] w fun e w' => ∃ v' n R, e = .returned (.tuple #[v', .int .i64 n]) ∧ Ans k a b n R ∧ Own w' w.heap.size v' R ∧ R.length ≤ 20000000 ∧ Below w.heap.size w w' := fun k h =>
      h.mono fun e w' ⟨v', R, he, hf⟩ => ⟨v', 0, R, he, by unfold Ans; rw [if_pos hc]; exact ⟨rfl, hf.only⟩, hf.own, hf.len, hf.below⟩
    rcases hk with rfl | rfl | rfl | rfl
    · exact fin 1 (called_ok1 va vb a b w hA hB ka kb (h1 rfl))
    · exact fin 2 (called_ok2 va vb a b w hA hB ka kb)
    · exact fin 3 (called_ok3 va vb a b w hA hB ka kb)
    · exact fin 4 (called_ok4 va vb a b w hA hB ka kb)
  · have hc' : (okL a && okL b) = false := by cases h : (okL a && okL b); rfl; exact absurd h hc
    have fin : ∀ (k : Int), Calls Tryz.prog 35 #[.int .i64 k, va, vb] w (fun e w' => e = .returned (.tuple #[.slice none 0 0, .int .i64 1]) ∧ Below w.heap.size w w') → Calls Tryz.prog 35 #[.int .i64 k, va, vb] w fun e w' => ∃ v' n R, e = .returned (.tuple #[v', .int .i64 n]) ∧ Ans k a b n R ∧ Own w' w.heap.size v' R ∧ R.length ≤ 20000000 ∧ Below w.heap.size w w' := fun k h =>
      h.mono fun e w' ⟨he, hf⟩ => ⟨_, 1, [], he, by unfold Ans; rw [if_neg hc]; exact ⟨rfl, rfl⟩, own_nil _, by simp, hf⟩
    rcases hk with rfl | rfl | rfl | rfl
    · exact fin 1 (called_err1 va vb a b w hA hB hc' (h1 rfl))
    · exact fin 2 (called_err2 va vb a b w hA hB hc')
    · exact fin 3 (called_err3 va vb a b w hA hB hc')
    · exact fin 4 (called_err4 va vb a b w hA hB hc')
theorem doc_any (kind : Int) (va vb : Value) (a b : List Rc) (w : World) (hA : Rd w va a) (hB : Rd w vb b) :
    Calls Tryz.prog 36 #[.int .i64 (wayOf kind), va, vb] w fun e w' => ∃ v' n D, e = .returned (.tuple #[v', .int .i64 n]) ∧ AnsD kind a b n D ∧ Rd w' v' D ∧ D.length ≤ 20000000 ∧ Below w.heap.size w w' := by
  by_cases hc : (okL a && okL b) = true
  · have ka : okL a = true := by cases h : okL a; rw [h] at hc; cases hc; rfl
    have kb : okL b = true := by cases h : okL b; rw [h, Bool.and_false] at hc; cases hc; rfl
    exact (docCall_ok (wayOf kind) va vb a b w hA hB ka kb).mono fun e w' ⟨v', R, he, ho, hd, hb⟩ => ⟨v', 0, R, he, by unfold AnsD; rw [if_pos hc]; exact ⟨rfl, hd⟩, ho.rd, by have := hd.len; omega, hb⟩
  · have hc' : (okL a && okL b) = false := by cases h : (okL a && okL b); rfl; exact absurd h hc
    exact (docCall_err (wayOf kind) va vb a b w hA hB hc').mono fun e w' ⟨he, hb⟩ => ⟨_, 1, [], he, by unfold AnsD; rw [if_neg hc]; exact ⟨rfl, rfl⟩, (own_nil (w := w') 0).rd, by simp, hb⟩
end Go.Proofs.YtfnockbgkcgpkaaGreat
