import Derived.Test.YtfnockbgkcgpkaaWalksT
import Derived.BigQuiet
import Derived.Deep.QuietTactic
set_option linter.all false
namespace Go.Proofs.Ytfnockbgkcgpkaa
open Go.RowKit Go.Proofs.Panes
set_option maxRecDepth 100000

set_option maxHeartbeats 1000000 in
theorem next_any (p q : Rc) (w : World) (hp : 0 < p.h ∧ (-10000 ≤ p.x ∧ p.x ≤ 10000) ∧ (-10000 ≤ p.y ∧ p.y ≤ 10000) ∧ p.w ≤ 10000 ∧ p.h ≤ 10000 ∧ 0 < p.w) (h : PW p q) :
    Calls Try.prog 44 #[.agg #[.int .i64 p.x, .int .i64 p.y, .int .i64 p.w, .int .i64 p.h], .agg #[.int .i64 q.x, .int .i64 q.y, .int .i64 q.w, .int .i64 q.h]] w fun e w' => e = .returned (.bool true) ∧ Below w.heap.size w w' := by
  obtain ⟨px, py, pw, ph⟩ := p
  obtain ⟨qx, qy, qw, qh⟩ := q
  unfold PW at h
  simp only at h hp
  obtain ⟨h0, h1, h2, h3, h4, h5⟩ := hp
  rcases h with ⟨rfl, rfl, hg⟩ | hg
  · go_enter Try.func44, Try.ntmps44
    go_wp2
    go_ret
    exact ⟨rfl, ((Below.refl _ _).alloc (Nat.le_refl _) _).alloc (by simp) _⟩
  · have hne : (py == qy) = false := by rw [beq_eq_false_iff_ne]; omega
    go_enter Try.func44, Try.ntmps44
    go_wp2
    all_goals (go_ret; exact ⟨rfl, ((Below.refl _ _).alloc (Nat.le_refl _) _).alloc (by simp) _⟩)

/-- Bands that are not alike. -/
def unl (a b : List Rc) (p q : Rc) : Prop := p.y + p.h < q.y ∨ a.map (fun r => (r.x, r.w)) ≠ b.map (fun r => (r.x, r.w))

theorem map_take {a b : List Rc} {k : Nat} {p q : Rc} (hp : a[k]? = some p) (hq : b[k]? = some q) (h : (a.take k).map (fun r => (r.x, r.w)) = (b.take k).map (fun r => (r.x, r.w))) (hx : p.x = q.x) (hw : p.w = q.w) :
    (a.take (k + 1)).map (fun r => (r.x, r.w)) = (b.take (k + 1)).map (fun r => (r.x, r.w)) := by
  rw [List.take_add_one, List.take_add_one, hp, hq, List.map_append, List.map_append, h]
  simp [hx, hw]

set_option maxHeartbeats 4000000 in
theorem unlike_any (v u : Value) (a b : List Rc) (p q : Rc) (w : World) (hA : Rd w v a) (hB : Rd w u b) (na : a.length ≤ 100000000) (nb : b.length ≤ 100000000) (sa : Small a) (sb : Small b) (hp : a[0]? = some p) (hq : b[0]? = some q) (h : unl a b p q) :
    Calls Try.prog 45 #[v, u] w fun e w' => e = .returned (.bool true) ∧ Below w.heap.size w w' := by
  obtain ⟨ao, cap, rfl, h1, h2, h3⟩ := hA
  obtain ⟨bo, cap', rfl, g1, g2, g3⟩ := hB
  have ha0 : 0 < a.length := (List.getElem?_eq_some_iff.1 hp).1
  have hb0 : 0 < b.length := (List.getElem?_eq_some_iff.1 hq).1
  obtain ⟨b1, off, rfl, hb1, hc⟩ := h3 (by intro e; subst e; simp at ha0)
  obtain ⟨b2, off2, rfl, hb2, hd⟩ := g3 (by intro e; subst e; simp at hb0)
  have r0 := hc 0 p hp
  have r1 := hd 0 q hq
  rw [Nat.zero_mul, Nat.add_zero] at r0 r1
  obtain ⟨c1, c2, c3, c4⟩ := r0
  obtain ⟨d1, d2, d3, d4⟩ := r1
  have sp := sa p (List.mem_of_getElem? hp)
  obtain ⟨s1, s2, s3, s4⟩ := sp
  have ia : (0 : Int) < (a.length : Int) := by omega
  have ib : (0 : Int) < (b.length : Int) := by omega
  have HCa := hide hc
  have HCb := hide hd
  clear hc hd h3 g3
  by_cases hlt : p.y + p.h < q.y
  · clear h sa sb hp hq
    have hdd : decide (p.y + p.h < q.y) = true := decide_eq_true hlt
    go_enter Try.func45, Try.ntmps45
    go_wp2
    go_quiet (fail)
    go_wp2
    all_goals (go_ret; exact ⟨rfl, below_drewN (Below.refl _ _) _⟩)
  · have hm : a.map (fun r => (r.x, r.w)) ≠ b.map (fun r => (r.x, r.w)) := by
      unfold unl at h; exact h.resolve_left hlt
    have HM := hide hm
    have hdd : decide (p.y + p.h < q.y) = false := decide_eq_false hlt
    clear h hm sa sb hp hq
    by_cases hl : a.length = b.length
    · have hl2 : ((a.length : Int) != (b.length : Int)) = false := by rw [hl]; simp
      have HL := hide hl
      clear hl
      go_enter Try.func45, Try.ntmps45
      go_wp2
      go_quiet (fail)
      go_wp2
      go_loopw [5] (fun i wr => ∃ k : Nat, k ≤ a.length ∧ i = .int .i64 k ∧ (a.take k).map (fun r => (r.x, r.w)) = (b.take k).map (fun r => (r.x, r.w)) ∧ Below w.heap.size w wr) (fun i _ => a.length - (intOf i).toNat)
      case atStart => exact ⟨0, Nat.zero_le _, rfl, rfl, below_drewN (Below.refl _ _) _⟩
      case round =>
        obtain ⟨k, hk, rfl, hh, hbel⟩ := hrel
        by_cases hlt2 : k < a.length
        · have hltb : k < b.length := by have := unhide HL; omega
          obtain ⟨x, hx⟩ : ∃ r, a[k]? = some r := ⟨a[k], by simp [hlt2]⟩
          obtain ⟨y, hy⟩ : ∃ r, b[k]? = some r := ⟨b[k], by simp [hltb]⟩
          obtain ⟨x1, x2, x3, x4⟩ := ((unhide HCa) k x hx).below hbel hb1
          obtain ⟨y1, y2, y3, y4⟩ := ((unhide HCb) k y hy).below hbel hb2
          have i0 : (0 : Int) ≤ (k : Int) := by omega
          have i1 : (k : Int) < (a.length : Int) := by omega
          have i2 : (k : Int) < (b.length : Int) := by omega
          have HT := hide (map_take hx hy hh)
          have Hb := hide hbel
          clear hh hbel hx hy c1 c2 c3 c4 d1 d2 d3 d4
          by_cases e1 : x.x = y.x
          · have f1 : (x.x != y.x) = false := by rw [e1]; simp
            by_cases e2 : x.w = y.w
            · have f2 : (x.w != y.w) = false := by rw [e2]; simp
              have HT2 := hide ((unhide HT) e1 e2)
              clear e1 e2
              go_wp2
              go_quiet (fail)
              go_wp2
              go_roundw
              case rel => exact ⟨k + 1, by omega, by go_num, unhide HT2, below_drewN (unhide Hb) _⟩
              case measure => simp [intOf]; omega
            · have f2 : (x.w != y.w) = true := by rw [bne_iff_ne]; exact e2
              clear e1 e2
              go_wp2
              go_quiet (fail)
              go_wp2
              go_ret
              exact ⟨rfl, below_drewN (unhide Hb) _⟩
          · have f1 : (x.x != y.x) = true := by rw [bne_iff_ne]; exact e1
            clear e1
            go_wp2
            go_quiet (fail)
            go_wp2
            go_ret
            exact ⟨rfl, below_drewN (unhide Hb) _⟩
        · exfalso
          apply unhide HM
          have hkl : k = a.length := by omega
          rw [hkl, List.take_length, unhide HL, List.take_length] at hh
          exact hh
    · have hl2 : ((a.length : Int) != (b.length : Int)) = true := by rw [bne_iff_ne]; omega
      have HL := hide hl
      clear hl
      go_enter Try.func45, Try.ntmps45
      go_wp2
      go_quiet (fail)
      go_wp2
      all_goals (go_ret; exact ⟨rfl, below_drewN (Below.refl _ _) _⟩)
end Go.Proofs.Ytfnockbgkcgpkaa
