import Derived.Test.YtfnockbgkcgpkaaKabm
import Derived.Test.YtfnockbgkcgpkaaKabn
set_option linter.all false
namespace Go.Proofs.Ytfnockbgkcgpkaa
open Go.RowKit Go.Proofs.Panes
/-- paneskeep's 'tick'. -/
theorem ktick_any {a o : Nat → Nat} {w : World} {sp xp kb sb fb : Nat} {cps : List (Option Nat)} {s : Scrn} {F : ShF} {L : ShL} {b : Nat} {marks' : List Ask} (hB : ShB a w sp xp F L) (hM : ScrM o w xp kb sb fb cps s) (hap : ∀ x, a x ≠ 0 → o x = 0) (hI : TickIn s F b marks') :
    Calls Try.prog 27 #[.pointer (some ⟨sp, 0, none⟩), .int .i64 (b : Int)] w fun e w' => (∃ u, e = .returned u) ∧ KtPostT a o w sp xp kb sb fb s F b marks' w' := by
  by_cases hb0 : (0 : Int) < (b : Int)
  · exact ktick_pos hB hM hap hI hb0
  · exact ktick_zero hB hM hap hI hb0
end Go.Proofs.Ytfnockbgkcgpkaa
