import Derived.Test.YtfnockbgkcgpkaaWalksC
import Derived.Test.YtfnockbgkcgpkaaMathB
import Derived.BigQuiet
import Derived.Deep.QuietTactic
set_option linter.all false
namespace Go.Proofs.Ytfnockbgkcgpkaa
open Go.RowKit Go.Proofs.Panes
set_option maxRecDepth 100000

theorem take_snoc' {l : List Rc} {k : Nat} {r : Rc} (hr : l[k]? = some r) : l.take (k + 1) = l.take k ++ [r] := by rw [List.take_add_one, hr]; rfl
theorem gap_before' {l : List Rc} (hp : l.Pairwise Gap) {k : Nat} {r : Rc} (hr : l[k]? = some r) : ∀ q ∈ l.take k, q.x + q.w < r.x := by
  intro q hq
  have h3 : (l.take k ++ l.drop k).Pairwise Gap := by rw [List.take_append_drop]; exact hp
  exact (List.pairwise_append.1 h3).2.2 q hq r (List.mem_of_getElem? (i := 0) (by rw [List.getElem?_drop]; simpa using hr))
theorem cut_at {l : List Rc} {k : Nat} {r : Rc} (hr : l[k]? = some r) : l = l.take k ++ r :: l.drop (k + 1) := by
  have hlt : k < l.length := (List.getElem?_eq_some_iff.1 hr).1
  conv => lhs; rw [← List.take_append_drop k l, List.drop_eq_getElem_cons hlt]
  congr 2
  exact (List.getElem?_eq_some_iff.1 hr).2
theorem gap_after {l : List Rc} (hp : l.Pairwise Gap) {k : Nat} {r : Rc} (hr : l[k]? = some r) : ∀ q ∈ l.drop (k + 1), r.x + r.w < q.x := by
  intro q hq
  rw [cut_at hr] at hp
  exact (List.pairwise_cons.1 (List.pairwise_append.1 hp).2.1).1 q hq

set_option maxHeartbeats 4000000 in
theorem without_any (y h : Int) (v u : Value) (a b : List Rc) (w : World) (hA : Rd w v a) (hB : Rd w u b) (sa : Strip y h a) (sb : Strip y h b) :
    Calls Try.prog 76 #[v, u] w fun e w' => ∃ v' S, e = .returned v' ∧ Own w' w.heap.size v' S ∧ Strip y h S ∧ (∀ px, col S px ↔ col a px ∧ ¬ col b px) ∧ Below w.heap.size w w' := by
  obtain ⟨ao, cap, rfl, h1, h2, h3⟩ := hA
  obtain ⟨bo, cap', rfl, g1, g2, g3⟩ := hB
  have la := sa.len
  have lb := sb.len
  have SA := hide sa
  have SB := hide sb
  clear sa sb
  have mx : ∀ a b : Int, (if a < b then b else a) = max a b := fun a b => by omega
  have mn : ∀ a b : Int, (if b < a then b else a) = min a b := fun a b => by omega
  go_enter Try.func76, Try.ntmps76
  go_wp2
  go_loopw [5, 14] (fun vf i wr => ∃ (k : Nat) (S : List Rc), k ≤ a.length ∧ i = .int .i64 k ∧ Own wr w.heap.size vf S ∧ (S = [] → vf = .slice none 0 0) ∧ WO y h (a.take k) b S ∧ Below w.heap.size w wr) (fun _ i _ => a.length - (intOf i).toNat)
  case atStart => exact ⟨0, [], Nat.zero_le _, rfl, own_nil _, fun _ => rfl, WO.start y h b, Below.refl _ _⟩
  case round =>
    obtain ⟨k, S, hk, rfl, hO, hnil, hP, hbel⟩ := hrel
    obtain ⟨wo, hwo⟩ : ∃ wo : World, wo = wr := ⟨_, rfl⟩
    subst hwo
    by_cases hlt : k < a.length
    · obtain ⟨b1, off, rfl, hb, hc⟩ := h3 (by intro e; subst e; simp at hlt)
      obtain ⟨p, hp⟩ : ∃ r, a[k]? = some r := ⟨a[k], by simp [hlt]⟩
      obtain ⟨c1, c2, c3, c4⟩ := (hc k p hp).below hbel hb
      have hbw := hbel.size
      have lt1 : b1 < wo.heap.size := by omega
      have HT := hide (take_snoc' hp)
      have BP := hide ((unhide SA).1 p (List.mem_of_getElem? hp))
      have bx : 0 < p.w ∧ -1000 ≤ p.x ∧ p.x + p.w ≤ 2000 := ⟨(unhide BP).1, (unhide BP).2.2.2.1, (unhide BP).2.2.2.2⟩
      have HN := hide (hP.begin ⟨bx.1, bx.2.2⟩ (gap_before' (unhide SA).2 hp))
      have HO := hide hO
      have Hb := hide hbel
      have HNL := hide hnil
      clear hc h3 hO hP hbel hp hnil
      go_wp2
      go_quiet (fail)
      go_wp2
      go_loopw [5, 8, 27] (fun vf xs j wr => ∃ (m : Nat) (S2 : List Rc) (x : Int), m ≤ b.length ∧ j = .int .i64 m ∧ xs = .int .i64 x ∧ Own wr w.heap.size vf S2 ∧ (S2 = [] → vf = .slice none 0 0) ∧ vf.ownBlock ≠ some wo.heap.size ∧ WN y h (a.take k) p b (b.take m) x S2 ∧ Below w.heap.size w wr ∧ wr.heap[wo.heap.size]? = some (Obj.cells #[.int .i64 p.x, .int .i64 p.y, .int .i64 p.w, .int .i64 p.h] 29)) (fun _ _ j _ => b.length - (intOf j).toNat)
      case atStart => exact ⟨0, S, p.x, Nat.zero_le _, rfl, rfl, own_drewN (own_alloc (unhide HO) _) _, unhide HNL, fun e => by have := (World.ownsRow.lt (unhide HO) _ e).2; omega, unhide HN, below_drewN ((unhide Hb).alloc hbw _) _, new_at _ _ _ rfl⟩
      case round =>
        obtain ⟨m, S2, x, hm, rfl, rfl, hO2, hnil2, hap, hN2, hbel2, hbox⟩ := hrel
        have hlo := hN2.lo
        have hbq := hbel2.size
        have ltb := lt_of_heap hbox
        have hl2 := hN2.strip.len
        obtain ⟨f1, f2, f3, f4⟩ := box_at hbox
        by_cases hltq : m < b.length
        · obtain ⟨b2, off2, rfl, hbb, hd⟩ := g3 (by intro e; subst e; simp at hltq)
          obtain ⟨q, hq⟩ : ∃ r, b[m]? = some r := ⟨b[m], by simp [hltq]⟩
          obtain ⟨d1, d2, d3, d4⟩ := (hd m q hq).below hbel2 hbb
          have lt2 : b2 < wr.heap.size := by omega
          have HTq := hide (take_snoc' hq)
          have BQ := hide ((unhide SB).1 q (List.mem_of_getElem? hq))
          have bx2 : 0 < q.w ∧ -1000 ≤ q.x ∧ q.x + q.w ≤ 2000 := ⟨(unhide BQ).1, (unhide BQ).2.2.2.1, (unhide BQ).2.2.2.2⟩
          have HW := hide (hN2.step (cut_at hq) (unhide BP) bx2 (gap_after (unhide SB).2 hq))
          have HO2 := hide hO2
          have Hb2 := hide hbel2
          have HX := hide hbox
          have HA := hide hap
          have HNL2 := hide hnil2
          clear hd g3 hO2 hN2 hbel2 hbox hap hq c1 c2 c3 c4 hnil2
          go_wp2_with (go_at_call 107; refine (addColumns_any w.heap.size _ S2 p.x p.y p.w p.h x (min q.x (p.x + p.w)) _ (own_alloc (unhide HO2) _) (unhide HNL2) (by simp; omega) (by omega) (by omega) (by omega)).mono ?_; rintro e w2 ⟨v', rfl, hO3, hnil3, hgr3, hap3⟩; have HO3 := hide hO3; have HNL3 := hide hnil3; have HA3 := hide hap3; have HGx := hide hgr3; have HG3 := hide (grown_trans (World.grownBy_alloc wr _ _) hgr3); obtain ⟨q1, q2, q3, q4⟩ : RAt w2 wr.heap.size 0 q := box_at (grown_block hgr3 (new_at wr _ _ rfl) (by intro e; have := (World.ownsRow.lt (unhide HO2) _ e).2; omega)); clear hO3 hnil3 hap3 hgr3)
          have hsz2 : wr.heap.size ≤ w2.heap.size := (unhide HG3).size
          have hbx2 := hide (grown_block (unhide HG3) (unhide HX) (unhide HA))
          go_roundw
          case rel =>
            refine ⟨m + 1, _, _, by omega, by go_num, rfl, unhide HO3, unhide HNL3, (unhide HA3) _ _ _ _ (grown_block (World.grownBy_alloc wr _ none) (unhide HX) (by simp)) rfl (unhide HA), ?_, (unhide Hb2).grown (unhide HG3) (by omega) (Own.row_ge (unhide HO2)), unhide hbx2⟩
            rw [unhide HTq]; exact unhide HW
          case measure => simp [intOf]; omega
        · have hml : m = b.length := by omega
          have HW : Hid (WO y h (a.take (k + 1)) b (S2 ++ addC p x (p.x + p.w))) := by
            show WO y h (a.take (k + 1)) b (S2 ++ addC p x (p.x + p.w))
            rw [unhide HT]; rw [hml, List.take_length] at hN2; exact hN2.finish (unhide BP)
          have HO2 := hide hO2
          have Hb2 := hide hbel2
          have HNL2 := hide hnil2
          clear hO2 hN2 hbel2 hnil2 hap hbox g3 c1 c2 c3 c4
          go_wp2_with (go_at_call 107; refine (addColumns_any w.heap.size _ S2 p.x p.y p.w p.h x (p.x + p.w) _ (unhide HO2) (unhide HNL2) (by omega) (by omega) (by omega) (by omega)).mono ?_; rintro e w2 ⟨v', rfl, hO3, hnil3, hgr3, hap3⟩; have HO3 := hide hO3; have HNL3 := hide hnil3; have HG3 := hide hgr3; clear hO3 hnil3 hap3 hgr3)
          go_roundw
          case rel => exact ⟨k + 1, _, by omega, by go_num, unhide HO3, unhide HNL3, unhide HW, (unhide Hb2).grown (unhide HG3) (by omega) (Own.row_ge (unhide HO2))⟩
          case measure => simp [intOf]; omega
    · have hkl : k = a.length := by omega
      have HO := hide hO
      have HP := hide hP
      have Hb := hide hbel
      clear hO hP hbel h3 g3 hnil
      go_wp2
      go_ret
      exact ⟨_, S, rfl, unhide HO, (unhide HP).strip, fun px => by have := (unhide HP).cols px; rw [hkl, List.take_length] at this; exact this, unhide Hb⟩
end Go.Proofs.Ytfnockbgkcgpkaa
