import Derived.Test.YtfnockbgkcgpkaaBase
import Derived.BigQuiet
import Derived.Deep.QuietTactic
import Derived.Laws.StructEq
set_option linter.all false
namespace Go.Proofs.Ytfnockbgkcgpkaa
open Go.RowKit Go.Proofs.Panes
set_option maxRecDepth 100000

/-- Does q go on below p? -/
def onB (p q : Rc) : Bool := decide (p.x = q.x ∧ p.y = q.y - p.h ∧ p.w = q.w)

set_option maxHeartbeats 1600000 in
theorem on_any (p q : Rc) (w : World) (hq : -10000 ≤ q.y ∧ q.y ≤ 10000) (hp : -10000 ≤ p.h ∧ p.h ≤ 10000) : Calls Try.prog 125 #[.agg #[.int .i64 p.x, .int .i64 p.y, .int .i64 p.w, .int .i64 p.h], .agg #[.int .i64 q.x, .int .i64 q.y, .int .i64 q.w, .int .i64 q.h]] w fun e w' => e = .returned (.bool (onB p q)) ∧ Below w.heap.size w w' := by
  go_enter Try.func125, Try.ntmps125
  go_wp2
  all_goals (go_ret; exact ⟨by simp_all [onB], ((Below.refl _ _).alloc (Nat.le_refl _) _).alloc (by simp) _⟩)

/-- Does the strip go on below the band? -/
def goesB : List Rc → List Rc → Bool
  | [], [] => true
  | p :: a, q :: b => onB p q && goesB a b
  | _, _ => false
theorem goesB_len : ∀ (a b : List Rc), goesB a b = true → a.length = b.length
  | [], [], _ => rfl
  | p :: a, q :: b, h => by simp [goesB] at h; simp [goesB_len a b h.2]
  | [], _ :: _, h => by simp [goesB] at h
  | _ :: _, [], h => by simp [goesB] at h
theorem goesB_step : ∀ (a b : List Rc) (k : Nat) (p q : Rc), a[k]? = some p → b[k]? = some q → goesB (a.take k) (b.take k) = true → goesB (a.take (k + 1)) (b.take (k + 1)) = onB p q
  | [], _, k, p, q, h, _, _ => by simp at h
  | _ :: _, [], k, p, q, _, h, _ => by simp at h
  | x :: a, y :: b, 0, p, q, h1, h2, _ => by simp at h1 h2; subst h1 h2; simp [goesB]
  | x :: a, y :: b, k + 1, p, q, h1, h2, h => by
    simp only [List.take_succ_cons, goesB, Bool.and_eq_true] at h ⊢
    rw [goesB_step a b k p q (by simpa using h1) (by simpa using h2) h.2, h.1]; simp
theorem goesB_no : ∀ (a b : List Rc) (k : Nat) (p q : Rc), a[k]? = some p → b[k]? = some q → onB p q = false → goesB a b = false
  | [], _, k, p, q, h, _, _ => by simp at h
  | _ :: _, [], k, p, q, _, h, _ => by simp at h
  | x :: a, y :: b, 0, p, q, h1, h2, h => by simp at h1 h2; subst h1 h2; simp [goesB, h]
  | x :: a, y :: b, k + 1, p, q, h1, h2, h => by simp [goesB, goesB_no a b k p q (by simpa using h1) (by simpa using h2) h]

set_option maxHeartbeats 1600000 in
theorem equal_any (v u : Value) (a b : List Rc) (w : World) (hA : Rd w v a) (hB : Rd w u b) (na : a.length ≤ 100000000) (nb : b.length ≤ 100000000)
    (ha : ∀ r ∈ a, -10000 ≤ r.h ∧ r.h ≤ 10000) (hb : ∀ r ∈ b, -10000 ≤ r.y ∧ r.y ≤ 10000) :
    Calls Try.prog 124 #[v, u, .func (.func 125) #[] #[]] w fun e w' => e = .returned (.bool (goesB a b)) ∧ Below w.heap.size w w' := by
  obtain ⟨ao, cap, rfl, h1, h2, h3⟩ := hA
  obtain ⟨bo, cap', rfl, g1, g2, g3⟩ := hB
  by_cases hl : a.length = b.length
  · go_enter Try.func124, Try.ntmps124
    rw [← hl]
    have hl' := hide hl
    clear hl
    go_wp2
    go_loopw [17] (fun i wr => ∃ k : Nat, k ≤ a.length ∧ i = .int .i64 k ∧ goesB (a.take k) (b.take k) = true ∧ Below w.heap.size w wr) (fun i _ => a.length - (intOf i).toNat)
    case atStart => exact ⟨0, Nat.zero_le _, rfl, rfl, Below.refl _ _⟩
    case round =>
      obtain ⟨k, hk, rfl, hh, hbel⟩ := hrel
      by_cases hlt : k < a.length
      · have hltb : k < b.length := by have := unhide hl'; omega
        obtain ⟨b1, off, rfl, hb1, hc⟩ := h3 (by intro e; subst e; simp at hlt)
        obtain ⟨b2, off2, rfl, hb2, hd⟩ := g3 (by intro e; subst e; simp at hltb)
        obtain ⟨p, hp⟩ : ∃ r, a[k]? = some r := ⟨a[k], by simp [hlt]⟩
        obtain ⟨q, hq⟩ : ∃ r, b[k]? = some r := ⟨b[k], by simp [hltb]⟩
        obtain ⟨c1, c2, c3, c4⟩ := (hc k p hp).below hbel hb1
        obtain ⟨d1, d2, d3, d4⟩ := (hd k q hq).below hbel hb2
        have hbw := hbel.size
        have lt1 : b1 < wr.heap.size := by omega
        have lt2 : b2 < wr.heap.size := by omega
        have ne1 : b1 ≠ wr.heap.size := by omega
        have ne2 : b2 ≠ wr.heap.size := by omega
        clear hc h3 hd g3
        have HT := hide (goesB_step a b k p q hp hq hh)
        have HL := hide (goesB_no a b k p q hp hq)
        have bq := hb q (List.mem_of_getElem? hq)
        have bp := ha p (List.mem_of_getElem? hp)
        clear hh
        cases ho : onB p q
        · go_wp2_with (go_at_call 125; refine (on_any p q _ bq bp).mono ?_; rintro e w' ⟨rfl, hb'⟩)
          go_ret
          exact ⟨by rw [unhide HL ho]; rfl, ((hbel.alloc hbel.size _).alloc (by simp; omega) _).trans (hb'.mono (by simp; omega))⟩
        · go_wp2_with (go_at_call 125; refine (on_any p q _ bq bp).mono ?_; rintro e w' ⟨rfl, hb'⟩)
          go_roundw
          case rel => exact ⟨k + 1, by omega, by go_num, by rw [unhide HT, ho], ((hbel.alloc hbel.size _).alloc (by simp; omega) _).trans (hb'.mono (by simp; omega))⟩
          case measure => simp [intOf]; omega
      · have hkl : k = a.length := by omega
        have HB : Hid (goesB a b = true) := by rw [hkl, List.take_length, unhide hl', List.take_length] at hh; exact hh
        clear hh
        go_wp2
        go_ret
        exact ⟨by rw [HB.out]; rfl, hbel⟩
  · have hno : goesB a b = false := by
      cases hg : goesB a b
      · rfl
      · exact absurd (goesB_len a b hg) hl
    rw [hno]
    have hl2 : ((a.length : Int) != (b.length : Int)) = true := by rw [bne_iff_ne]; omega
    have hl3 := hide hl
    clear hl hno
    go_enter Try.func124, Try.ntmps124
    go_wp2
    all_goals (go_ret; exact ⟨rfl, Below.refl _ _⟩)

set_option maxHeartbeats 1600000 in
theorem goesOn_any (v u : Value) (a b : List Rc) (w : World) (hA : Rd w v a) (hB : Rd w u b) (na : a.length ≤ 100000000) (nb : b.length ≤ 100000000)
    (ha : ∀ r ∈ a, -10000 ≤ r.h ∧ r.h ≤ 10000) (hb : ∀ r ∈ b, -10000 ≤ r.y ∧ r.y ≤ 10000) :
    Calls Try.prog 103 #[v, u] w fun e w' => e = .returned (.bool (goesB a b)) ∧ Below w.heap.size w w' := by
  have H := hide (equal_any v u a b w hA hB na nb ha hb)
  clear hA hB na nb ha hb
  go_enter Try.func103, Try.ntmps103
  go_wp2_with (go_at_call 124; refine (unhide H).mono ?_; rintro e w' ⟨rfl, hb'⟩)
  go_ret
  exact ⟨rfl, hb'⟩
end Go.Proofs.Ytfnockbgkcgpkaa
