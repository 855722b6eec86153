import Derived.Test.YtfnockbgkcgpkaaGreatBase
import Derived.BigQuiet
import Derived.Deep.QuietTactic
set_option linter.all false
namespace Go.Proofs.YtfnockbgkcgpkaaGreat
open Go.RowKit Go.Proofs.Panes
set_option maxRecDepth 100000

def oob (r : Rc) : Bool := !(decide (-1000 ≤ r.x) && decide (r.x ≤ 1000)) || !(decide (-1000 ≤ r.y) && decide (r.y ≤ 1000)) || !(decide (0 ≤ r.w) && decide (r.w ≤ 1000)) || !(decide (0 ≤ r.h) && decide (r.h ≤ 1000))

set_option maxHeartbeats 1600000 in
theorem oob_any (r : Rc) (w : World) : Calls Tryz.prog 100 #[.agg #[.int .i64 r.x, .int .i64 r.y, .int .i64 r.w, .int .i64 r.h]] w fun e w' => e = .returned (.bool (oob r)) ∧ Below w.heap.size w w' := by
  go_enter Tryz.func100, Tryz.ntmps100
  go_wp2
  all_goals (go_ret; exact ⟨by simp_all [oob] <;> omega, (Below.refl _ _).alloc (Nat.le_refl _) _⟩)

set_option maxHeartbeats 1600000 in
theorem index_any (v : Value) (l : List Rc) (w : World) (hR : Rd w v l) (hn : l.length ≤ 1000000) :
    Calls Tryz.prog 127 #[v, .func (.func 100) #[] #[]] w fun e w' => ∃ n : Int, e = .returned (.int .i64 n) ∧ decide (0 ≤ n) = l.any oob ∧ Below w.heap.size w w' := by
  obtain ⟨ao, cap, rfl, h1, h2, h3⟩ := hR
  go_enter Tryz.func127, Tryz.ntmps127
  go_wp2
  go_loopw [8] (fun i wr => ∃ k : Nat, k ≤ l.length ∧ i = .int .i64 k ∧ (l.take k).any oob = false ∧ Below w.heap.size w wr) (fun i _ => l.length - (intOf i).toNat)
  case atStart => exact ⟨0, Nat.zero_le _, rfl, rfl, Below.refl _ _⟩
  case round =>
    obtain ⟨k, hk, rfl, hh, hbel⟩ := hrel
    by_cases hlt : k < l.length
    · obtain ⟨b, off, rfl, hb, hc⟩ := h3 (by intro e; subst e; simp at hlt)
      obtain ⟨r, hr⟩ : ∃ r, l[k]? = some r := ⟨l[k], by simp [hlt]⟩
      obtain ⟨c1, c2, c3, c4⟩ := (hc k r hr).below hbel hb
      clear hc h3
      have HT : Hid ((l.take (k + 1)).any oob = oob r) := by show _ = _; rw [List.take_add_one, hr, List.any_append, hh]; simp
      have HL : Hid (oob r = true → l.any oob = true) := fun h => List.any_eq_true.2 ⟨r, List.mem_of_getElem? hr, h⟩
      clear hh
      cases ho : oob r
      · go_wp2_with (go_at_call 100; refine (oob_any r _).mono ?_; rintro e w' ⟨rfl, hb'⟩)
        go_roundw
        case rel => exact ⟨k + 1, by omega, by go_num, by rw [HT.out, ho], hbel.trans (hb'.mono hbel.size)⟩
        case measure => simp [intOf]; omega
      · go_wp2_with (go_at_call 100; refine (oob_any r _).mono ?_; rintro e w' ⟨rfl, hb'⟩)
        go_ret
        exact ⟨k, rfl, by rw [HL.out ho]; simp, hbel.trans (hb'.mono hbel.size)⟩
    · have hkl : k = l.length := by omega
      have HB : Hid (l.any oob = false) := by rw [hkl, List.take_length] at hh; exact hh
      clear hh
      go_wp2
      go_ret
      exact ⟨-1, rfl, by rw [HB.out]; rfl, hbel⟩

def okL (l : List Rc) : Bool := decide (l.length ≤ 40) && !l.any oob

set_option maxHeartbeats 1600000 in
theorem contains_any (v : Value) (l : List Rc) (w : World) (hR : Rd w v l) (hn : l.length ≤ 1000000) :
    Calls Tryz.prog 99 #[v, .func (.func 100) #[] #[]] w fun e w' => e = .returned (.bool (l.any oob)) ∧ Below w.heap.size w w' := by
  go_enter Tryz.func99, Tryz.ntmps99
  go_wp2_with (go_at_call 127; refine (index_any v l w hR hn).mono ?_; rintro e w' ⟨n, rfl, hn', hb'⟩; have HN := hide hn'; clear hn')
  go_ret
  exact ⟨by rw [← unhide HN]; rfl, hb'⟩

set_option maxHeartbeats 1600000 in
theorem allowed_any (v : Value) (l : List Rc) (w : World) (hR : Rd w v l) :
    Calls Tryz.prog 62 #[v] w fun e w' => e = .returned (.bool (okL l)) ∧ Below w.heap.size w w' := by
  obtain ⟨ao, cap, e, h1, h2, h3⟩ := hR
  have hR' : Rd w v l := ⟨ao, cap, e, h1, h2, h3⟩
  subst e
  clear h3
  unfold maxLen at h2
  by_cases hn : l.length ≤ 40
  · have HR := hide hR'
    clear hR'
    go_enter Tryz.func62, Tryz.ntmps62
    go_wp2_with (go_at_call 99; refine (contains_any _ l w (unhide HR) (by omega)).mono ?_; rintro e w' ⟨rfl, hb'⟩)
    go_ret
    exact ⟨by simp [okL, hn], hb'⟩
  · clear hR'
    go_enter Tryz.func62, Tryz.ntmps62
    go_wp2
    go_ret
    exact ⟨by simp [okL, hn], Below.refl _ _⟩
end Go.Proofs.YtfnockbgkcgpkaaGreat
