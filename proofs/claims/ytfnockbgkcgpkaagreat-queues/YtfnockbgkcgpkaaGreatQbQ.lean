import Derived.Test.YtfnockbgkcgpkaaGreatQbJ
import Derived.BigRegion
import Derived.BigQuiet
import Derived.Deep.QuietTactic
set_option linter.all false
namespace Go.Proofs.YtfnockbgkcgpkaaGreat
open Go.RowKit Go.Proofs.Panes
set_option maxRecDepth 100000

/-- opsOf of nil lends nothing. -/
theorem opsOf_nil (mb n cap : Nat) (w : World) :
    Calls Tryz.prog 26 #[.pointer (some ⟨mb, 0, none⟩), .slice none n cap] w fun e w' => e = .returned (.slice none 0 0) ∧ w' = w := by
  have qn : ∀ (w : World) (a : Option Addr) (n c n' c' : Nat), (binOp .eql 53 (.slice a n c) (.slice none n' c')).run Tryz.prog w = .ok (.bool a.isNone) w := fun w a n c n' c' => Lib.run_eql_slice_nil w _ _ a n c n' c' Tryz.underlying53
  go_enter Tryz.func26, Tryz.ntmps26
  go_wp2
  go_ret
  exact ⟨rfl, rfl⟩

set_option maxHeartbeats 4000000 in
/-- The program's look at a configuration. -/
theorem pallowed_any (c : Cfg) (w : World) : Calls Tryz.prog 70 #[cval c] w fun e w' => e = .returned (.bool (okCfg c)) ∧ Below w.heap.size w w' := by
  obtain ⟨a, b, d, e, f, g, h, i⟩ := c
  unfold cval okCfg
  simp only
  have hin : ∀ (n lo hi : Int) (w : World), Calls Tryz.prog 75 #[.int .i64 n, .int .i64 lo, .int .i64 hi] w fun e w' => e = .returned (.bool (inB n lo hi)) ∧ w' = w := fun n lo hi w => within_any n lo hi w
  have HIN := hide hin
  clear hin
  obtain ⟨b1, h1⟩ : ∃ b1, b1 = inB a 1 16 := ⟨_, rfl⟩
  obtain ⟨b2, h2⟩ : ∃ b1, b1 = inB b 1 16 := ⟨_, rfl⟩
  obtain ⟨b3, h3⟩ : ∃ b1, b1 = inB d 1 4 := ⟨_, rfl⟩
  obtain ⟨b4, h4⟩ : ∃ b1, b1 = inB e 1 8 := ⟨_, rfl⟩
  obtain ⟨b5, h5⟩ : ∃ b1, b1 = inB f 1 300 := ⟨_, rfl⟩
  obtain ⟨b6, h6⟩ : ∃ b1, b1 = inB g f 600 := ⟨_, rfl⟩
  obtain ⟨b7, h7⟩ : ∃ b1, b1 = inB h 1 4 := ⟨_, rfl⟩
  obtain ⟨b8, h8⟩ : ∃ b1, b1 = inB i 1 4294967295 := ⟨_, rfl⟩
  have c1 := hide ((unhide HIN) a 1 16)
  have c2 := hide ((unhide HIN) b 1 16)
  have c3 := hide ((unhide HIN) d 1 4)
  have c4 := hide ((unhide HIN) e 1 8)
  have c5 := hide ((unhide HIN) f 1 300)
  have c6 := hide ((unhide HIN) g f 600)
  have c7 := hide ((unhide HIN) h 1 4)
  have c8 := hide ((unhide HIN) i 1 4294967295)
  rw [← h1] at c1 ⊢
  rw [← h2] at c2 ⊢
  rw [← h3] at c3 ⊢
  rw [← h4] at c4 ⊢
  rw [← h5] at c5 ⊢
  rw [← h6] at c6 ⊢
  rw [← h7] at c7 ⊢
  rw [← h8] at c8 ⊢
  clear HIN h1 h2 h3 h4 h5 h6 h7 h8
  go_enter Tryz.func70, Tryz.ntmps70
  go_wp2_with (go_at_call 75; first
    | (refine ((unhide c1) _).mono ?_; rintro e w' ⟨rfl, rfl⟩; clear c1)
    | (refine ((unhide c2) _).mono ?_; rintro e w' ⟨rfl, rfl⟩; clear c2)
    | (refine ((unhide c3) _).mono ?_; rintro e w' ⟨rfl, rfl⟩; clear c3)
    | (refine ((unhide c4) _).mono ?_; rintro e w' ⟨rfl, rfl⟩; clear c4)
    | (refine ((unhide c5) _).mono ?_; rintro e w' ⟨rfl, rfl⟩; clear c5)
    | (refine ((unhide c6) _).mono ?_; rintro e w' ⟨rfl, rfl⟩; clear c6)
    | (refine ((unhide c7) _).mono ?_; rintro e w' ⟨rfl, rfl⟩; clear c7)
    | (refine ((unhide c8) _).mono ?_; rintro e w' ⟨rfl, rfl⟩; clear c8))
  all_goals go_ret
  all_goals refine ⟨by first | rfl | simp_all, ?_⟩
  all_goals repeat (first | exact Below.refl _ _ | refine Below.alloc ?_ (Nat.le_refl _) _)

theorem notPixel_any (n : Int) (w : World) : Calls Tryz.prog 145 #[.int .i64 n] w fun e w' => e = .returned (.bool (!inB n 0 4294967295)) ∧ w' = w := by
  have hin := hide (fun w => within_any n 0 4294967295 w)
  go_enter Tryz.func145, Tryz.ntmps145
  go_wp2_with (go_at_call 75; refine ((unhide hin) _).mono ?_; rintro e w' ⟨rfl, rfl⟩)
  all_goals go_ret
  all_goals exact ⟨by first | rfl | simp [inB], rfl⟩
end Go.Proofs.YtfnockbgkcgpkaaGreat
