import Derived.Test.YtfnockbgkcgpkaaGreatQbN
set_option linter.all false
namespace Go.Proofs.YtfnockbgkcgpkaaGreat
open Go.RowKit Go.Proofs.Panes
set_option maxRecDepth 100000

set_option maxHeartbeats 2000000 in
theorem over_any (U : Nat → Prop) (v : Value) (l : List Int) (w : World) (hR : RdN U w v l) (hl : l.length ≤ 17592186044416) (h5 : ∀ x ∈ l, x = -5) :
    Calls Tryz.prog 98 #[v] w fun e w' => e = .returned (.bool true) ∧ w' = w := by
  obtain ⟨ao, cap, rfl, h1, h2, h3⟩ := hR
  have H5 := hide h5
  have H3 := hide h3
  clear h5 h3
  go_enter Tryz.func98, Tryz.ntmps98
  go_wp2
  go_loopw [2, 3] (fun r2 i wr => r2 = .bool false ∧ ∃ k : Nat, k ≤ l.length ∧ i = .int .i64 k ∧ wr = w) (fun _ i _ => l.length - (intOf i).toNat)
  case atStart => exact ⟨rfl, 0, Nat.zero_le _, rfl, rfl⟩
  case round =>
    obtain ⟨rfl, k, hk, rfl, ew⟩ := hrel
    subst ew
    by_cases hlt : k < l.length
    · obtain ⟨r, hr⟩ : ∃ r, l[k]? = some r := ⟨l[k], by simp [hlt]⟩
      obtain ⟨b, off, rfl, _, _, hc⟩ := (unhide H3) (by intro e; rw [e] at hlt; simp at hlt)
      have c1 := hc k r hr
      have e5 := (unhide H5) r (List.mem_of_getElem? hr)
      subst e5
      have i0 : (0 : Int) ≤ (k : Int) := by omega
      have i1 : (k : Int) < (l.length : Int) := by omega
      clear hc hr
      go_wp2
      go_roundw
      case rel => exact ⟨rfl, k + 1, by omega, by go_num, by first | rfl | trivial⟩
      case measure => simp [intOf]; omega
    · have i1 : ¬ (k : Int) < (l.length : Int) := by omega
      go_wp2
      go_ret
      exact ⟨rfl, rfl⟩

set_option maxHeartbeats 4000000 in
theorem sameOp_any (U : Nat → Prop) (kind surf x y ww h mark : Int) (ao bo : Option Addr) (n c c' : Nat) (px : List Int) (w : World) (hR : RdN U w (.slice ao n c) px) (hn : n ≤ 17592186044416) (h5 : ∀ x ∈ px, x = -5) :
    Calls Tryz.prog 61 #[.agg #[.int .i64 kind, .int .i64 surf, .int .i64 x, .int .i64 y, .int .i64 ww, .int .i64 h, .slice ao n c, .int .i64 mark], .agg #[.int .i64 kind, .int .i64 surf, .int .i64 x, .int .i64 y, .int .i64 ww, .int .i64 h, .slice bo n c', .int .i64 mark]] w fun e w' => e = .returned (.bool true) ∧ Below w.heap.size w w' := by
  obtain ⟨ao', c'', e, _, _, _⟩ := id hR
  simp only [Value.slice.injEq] at e
  obtain ⟨rfl, en, rfl⟩ := e
  have HV : Hid (∀ w', Below w.heap.size w w' → Calls Tryz.prog 98 #[.slice ao n c] w' fun e w'' => e = .returned (.bool true) ∧ w'' = w') := fun w' hb => over_any U (.slice ao n c) px w' (hR.below hb) (by omega) h5
  clear hR h5 en
  go_enter Tryz.func61, Tryz.ntmps61
  go_wp2_with fail
  refine ((unhide HV) _ (((Below.refl _ w).alloc (Nat.le_refl _) _).alloc (by simp) _)).mono ?_
  rintro e w' ⟨rfl, rfl⟩
  go_wp2
  go_ret
  exact ⟨rfl, ((Below.refl _ w).alloc (Nat.le_refl _) _).alloc (by simp) _⟩
end Go.Proofs.YtfnockbgkcgpkaaGreat
