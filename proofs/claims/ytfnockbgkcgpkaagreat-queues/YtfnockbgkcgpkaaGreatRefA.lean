import Derived.Test.YtfnockbgkcgpkaaGreatWalksD
set_option linter.all false
namespace Go.Proofs.YtfnockbgkcgpkaaGreat
open Go.RowKit Go.Proofs.Panes
set_option maxRecDepth 100000

set_option maxHeartbeats 400000 in
theorem in_any (n a b : Int) (w : World) : Calls Tryz.prog 58 #[.int .i64 n, .int .i64 a, .int .i64 b] w fun e w' => e = .returned (.bool (decide (a ≤ n) && decide (n ≤ b))) ∧ w' = w := by
  go_enter Tryz.func58, Tryz.ntmps58
  go_wp2
  all_goals go_ret
  all_goals exact ⟨by simp_all <;> omega, rfl⟩

/-- The way in which two lists are taken together, as the document's answer numbers it. -/
def wayB (way : Int) (p q : Bool) : Bool := if way = 1 then p || q else if way = 2 then p && q else p && !q

set_option maxHeartbeats 800000 in
theorem counts_any (way : Int) (p q : Bool) (w : World) : Calls Tryz.prog 107 #[.int .i64 way, .bool p, .bool q] w fun e w' => e = .returned (.bool (wayB way p q)) ∧ w' = w := by
  by_cases h1 : way = 1
  · subst h1
    cases p <;> cases q <;>
      (go_enter Tryz.func107, Tryz.ntmps107; go_wp2; go_ret; exact ⟨rfl, rfl⟩)
  · by_cases h2 : way = 2
    · subst h2
      cases p <;> cases q <;>
        (go_enter Tryz.func107, Tryz.ntmps107; go_wp2; go_ret; exact ⟨rfl, rfl⟩)
    · cases p <;> cases q <;>
        (go_enter Tryz.func107, Tryz.ntmps107; go_wp2; go_ret; exact ⟨by simp [wayB, h1, h2], rfl⟩)

set_option maxHeartbeats 1600000 in
theorem isRight_any (v : Value) (l : List Rc) (w : World) (hR : Rd w v l) :
    Calls Tryz.prog 68 #[v] w fun e w' => e = .returned (.bool (okL l)) ∧ Below w.heap.size w w' := by
  obtain ⟨ao, cap, rfl, h1, h2, h3⟩ := hR
  unfold maxLen at h2
  by_cases hn : l.length ≤ 40
  · have HOk : Hid (okL l = !l.any oob) := by show _ = _; simp [okL, hn]
    clear h2
    go_enter Tryz.func68, Tryz.ntmps68
    go_wp2
    go_loopw [3] (fun i wr => ∃ k : Nat, k ≤ l.length ∧ i = .int .i64 k ∧ (l.take k).any oob = false ∧ Below w.heap.size w wr) (fun i _ => l.length - (intOf i).toNat)
    case atStart => exact ⟨0, Nat.zero_le _, rfl, rfl, Below.refl _ _⟩
    case round =>
      obtain ⟨k, hk, rfl, hh, hbel⟩ := hrel
      by_cases hlt : k < l.length
      · obtain ⟨b, off, rfl, hb, hc⟩ := h3 (by intro e; subst e; simp at hlt)
        obtain ⟨r, hr⟩ : ∃ r, l[k]? = some r := ⟨l[k], by simp [hlt]⟩
        obtain ⟨c1, c2, c3, c4⟩ := (hc k r hr).below hbel hb
        have HT : Hid ((l.take (k + 1)).any oob = oob r) := by show _ = _; rw [List.take_add_one, hr, List.any_append, hh]; simp
        have HL : Hid (oob r = true → l.any oob = true) := fun h => List.any_eq_true.2 ⟨r, List.mem_of_getElem? hr, h⟩
        have Hb := hide hbel
        clear hh hc h3 hbel hr
        go_wp2_with (go_at_call 58; refine (in_any _ _ _ _).mono ?_; rintro e w' ⟨rfl, rfl⟩)
        all_goals first
          | (go_roundw
             case rel => exact ⟨k + 1, by omega, by go_num, by rw [unhide HT]; simp_all [oob] <;> omega, unhide Hb⟩
             case measure => simp [intOf]; omega)
          | (go_ret
             exact ⟨by rw [unhide HOk, (unhide HL) (by simp_all [oob] <;> omega)]; rfl, unhide Hb⟩)
      · have hkl : k = l.length := by omega
        have HB : Hid (l.any oob = false) := by rw [hkl, List.take_length] at hh; exact hh
        clear hh h3
        go_wp2
        go_ret
        exact ⟨by rw [unhide HOk, unhide HB]; rfl, hbel⟩
  · have HOk : Hid (okL l = false) := by show _ = _; simp [okL, hn]
    clear h3
    go_enter Tryz.func68, Tryz.ntmps68
    go_wp2
    go_ret
    exact ⟨by rw [unhide HOk]; rfl, Below.refl _ _⟩
end Go.Proofs.YtfnockbgkcgpkaaGreat
