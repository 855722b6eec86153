import Derived.Test.YtfnockbgkcgpkaaGreatQbR
import Derived.BigRegion
import Derived.BigQuiet
import Derived.Deep.QuietTactic
set_option linter.all false
namespace Go.Proofs.YtfnockbgkcgpkaaGreat
open Go.RowKit Go.Proofs.Panes
set_option maxRecDepth 100000

def npx (n : Int) : Bool := !inB n 0 4294967295

set_option maxHeartbeats 1600000 in
theorem indexN_any (U : Nat → Prop) (v : Value) (l : List Int) (w : World) (hR : RdN U w v l) (hn : l.length ≤ 17592186043904) :
    Calls Tryz.prog 159 #[v, .func (.func 145) #[] #[]] w fun e w' => ∃ n : Int, e = .returned (.int .i64 n) ∧ decide (0 ≤ n) = l.any npx ∧ w' = w := by
  obtain ⟨ao, cap, rfl, h1, h2, h3⟩ := hR
  go_enter Tryz.func159, Tryz.ntmps159
  go_wp2
  go_loopw [8] (fun i wr => ∃ k : Nat, k ≤ l.length ∧ i = .int .i64 k ∧ (l.take k).any npx = false ∧ wr = w) (fun i _ => l.length - (intOf i).toNat)
  case atStart => exact ⟨0, Nat.zero_le _, rfl, rfl, rfl⟩
  case round =>
    obtain ⟨k, hk, rfl, hh, ew⟩ := hrel
    have ew2 := ew.symm
    clear ew
    subst ew2
    by_cases hlt : k < l.length
    · obtain ⟨b, off, rfl, _, hb, hc⟩ := h3 (by intro e; subst e; simp at hlt)
      obtain ⟨r, hr⟩ : ∃ r, l[k]? = some r := ⟨l[k], by simp [hlt]⟩
      have c1 := hc k r hr
      clear hc h3
      have HT : Hid ((l.take (k + 1)).any npx = npx r) := by show _ = _; rw [List.take_add_one, hr, List.any_append, hh]; simp
      have HL : Hid (npx r = true → l.any npx = true) := fun h => List.any_eq_true.2 ⟨r, List.mem_of_getElem? hr, h⟩
      clear hh
      have HNP := hide (fun w => notPixel_any r w)
      have e0 : (!inB r 0 4294967295) = npx r := rfl
      rw [e0] at HNP
      clear e0
      cases ho : npx r
      · rw [ho] at HNP
        go_wp2_with (go_at_call 145; refine ((unhide HNP) _).mono ?_; rintro e w' ⟨rfl, rfl⟩)
        go_roundw
        case rel => exact ⟨k + 1, by omega, by go_num, by rw [HT.out, ho], by trivial⟩
        case measure => simp [intOf]; omega
      · rw [ho] at HNP
        go_wp2_with (go_at_call 145; refine ((unhide HNP) _).mono ?_; rintro e w' ⟨rfl, rfl⟩)
        go_ret
        exact ⟨k, rfl, by rw [HL.out ho]; simp, rfl⟩
    · have hkl : k = l.length := by omega
      have HB : Hid (l.any npx = false) := by rw [hkl, List.take_length] at hh; exact hh
      clear hh h3
      go_wp2
      go_ret
      exact ⟨-1, rfl, by rw [HB.out]; rfl, rfl⟩

set_option maxHeartbeats 1600000 in
theorem containsN_any (U : Nat → Prop) (v : Value) (l : List Int) (w : World) (hR : RdN U w v l) (hn : l.length ≤ 17592186043904) :
    Calls Tryz.prog 144 #[v, .func (.func 145) #[] #[]] w fun e w' => e = .returned (.bool (!l.all (fun n => inB n 0 4294967295))) ∧ w' = w := by
  have HI := hide (indexN_any U v l w hR hn)
  have e0 : l.any npx = !l.all (fun n => inB n 0 4294967295) := by rw [List.not_all_eq_any_not]; rfl
  have HE := hide e0
  clear e0 hR hn
  go_enter Tryz.func144, Tryz.ntmps144
  go_wp2_with (go_at_call 159; refine (unhide HI).mono ?_; rintro e w' ⟨n, rfl, hn', rfl⟩; have HN := hide hn'; clear hn')
  go_ret
  exact ⟨by rw [← unhide HE, ← unhide HN]; rfl, rfl⟩
end Go.Proofs.YtfnockbgkcgpkaaGreat
