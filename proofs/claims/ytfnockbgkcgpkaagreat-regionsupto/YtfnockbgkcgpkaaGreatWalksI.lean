import Derived.Test.YtfnockbgkcgpkaaGreatWalksA
import Derived.Test.YtfnockbgkcgpkaaGreatMathB
set_option linter.all false
namespace Go.Proofs.YtfnockbgkcgpkaaGreat
open Go.RowKit Go.Proofs.Panes
set_option maxRecDepth 100000

theorem take_snoc {l : List Rc} {k : Nat} {r : Rc} (hr : l[k]? = some r) : l.take (k + 1) = l.take k ++ [r] := by rw [List.take_add_one, hr]; rfl
theorem gap_before {l : List Rc} (hp : l.Pairwise Gap) {k : Nat} {r : Rc} (hr : l[k]? = some r) : ∀ q ∈ l.take k, q.x + q.w < r.x := by
  intro q hq
  have h3 : (l.take k ++ l.drop k).Pairwise Gap := by rw [List.take_append_drop]; exact hp
  exact (List.pairwise_append.1 h3).2.2 q hq r (List.mem_of_getElem? (i := 0) (by rw [List.getElem?_drop]; simpa using hr))

set_option maxHeartbeats 4000000 in
theorem both_any (y h : Int) (v u : Value) (a b : List Rc) (w : World) (hA : Rd w v a) (hB : Rd w u b) (sa : Strip y h a) (sb : Strip y h b) (hh : 0 < h ∧ h ≤ 3000) (hy : -1000 ≤ y ∧ y ≤ 2000) :
    Calls Tryz.prog 130 #[v, u] w fun e w' => ∃ v' S, e = .returned v' ∧ Own w' w.heap.size v' S ∧ Strip y h S ∧ (∀ px, col S px ↔ col a px ∧ col b px) ∧ Below w.heap.size w w' := by
  obtain ⟨i0, hi, hz0, hz1, hz2⟩ := info_parts info_rect
  obtain ⟨ao, cap, rfl, h1, h2, h3⟩ := hA
  obtain ⟨bo, cap', rfl, g1, g2, g3⟩ := hB
  have la := sa.len
  have lb := sb.len
  have SA := hide sa
  have SB := hide sb
  clear sa sb
  go_enter Tryz.func130, Tryz.ntmps130
  go_wp2
  go_loopw [5, 13] (fun vf i wr => ∃ (k : Nat) (S : List Rc), k ≤ a.length ∧ i = .int .i64 k ∧ Own wr w.heap.size vf S ∧ (S = [] → vf = .slice none 0 0) ∧ BO y h (a.take k) b S ∧ Below w.heap.size w wr) (fun _ i _ => a.length - (intOf i).toNat)
  case atStart => exact ⟨0, [], Nat.zero_le _, rfl, own_nil _, fun _ => rfl, BO.start y h b, Below.refl _ _⟩
  case round =>
    obtain ⟨k, S, hk, rfl, hO, hnil, hP, hbel⟩ := hrel
    obtain ⟨wo, hwo⟩ : ∃ wo : World, wo = wr := ⟨_, rfl⟩
    subst hwo
    by_cases hlt : k < a.length
    · obtain ⟨b1, off, rfl, hb, hc⟩ := h3 (by intro e; subst e; simp at hlt)
      obtain ⟨p, hp⟩ : ∃ r, a[k]? = some r := ⟨a[k], by simp [hlt]⟩
      obtain ⟨c1, c2, c3, c4⟩ := (hc k p hp).below hbel hb
      have hbw := hbel.size
      have lt1 : b1 < wo.heap.size := by omega
      have HT := hide (take_snoc hp)
      have BP := hide ((unhide SA).1 p (List.mem_of_getElem? hp))
      have bx : 0 < p.w ∧ -1000 ≤ p.x ∧ p.x + p.w ≤ 2000 := ⟨(unhide BP).1, (unhide BP).2.2.2.1, (unhide BP).2.2.2.2⟩
      have HN := hide (hP.begin bx.1 (gap_before (unhide SA).2 hp))
      have HO := hide hO
      have Hb := hide hbel
      clear hc h3 hO hP hbel hp
      have HNL := hide hnil
      clear hnil
      go_wp2
      go_loopw [5, 19] (fun vf j wr => ∃ (m : Nat) (S2 : List Rc), m ≤ b.length ∧ j = .int .i64 m ∧ Own wr w.heap.size vf S2 ∧ (S2 = [] → vf = .slice none 0 0) ∧ vf.ownBlock ≠ some wo.heap.size ∧ BN y h (a.take k) p b (b.take m) S2 ∧ Below w.heap.size w wr ∧ wr.heap[wo.heap.size]? = some (.cells #[.int .i64 p.x, .int .i64 p.y, .int .i64 p.w, .int .i64 p.h] 46)) (fun _ j _ => b.length - (intOf j).toNat)
      case atStart => exact ⟨0, S, Nat.zero_le _, rfl, own_alloc (unhide HO) _, unhide HNL, fun e => by have := (World.ownsRow.lt (unhide HO) _ e).2; omega, unhide HN, (unhide Hb).alloc hbw _, new_at _ _ _ rfl⟩
      case round =>
        obtain ⟨m, S2, hm, rfl, hO2, hnil2, hap, hN2, hbel2, hbox⟩ := hrel
        by_cases hltq : m < b.length
        · obtain ⟨b2, off2, rfl, hbb, hd⟩ := g3 (by intro e; subst e; simp at hltq)
          obtain ⟨q, hq⟩ : ∃ r, b[m]? = some r := ⟨b[m], by simp [hltq]⟩
          obtain ⟨d1, d2, d3, d4⟩ := (hd m q hq).below hbel2 hbb
          obtain ⟨f1, f2, f3, f4⟩ := box_at hbox
          have hbq := hbel2.size
          have ltb := lt_of_heap hbox
          have lt2 : b2 < wr.heap.size := by omega
          have HTq := hide (take_snoc hq)
          have BQ := hide ((unhide SB).1 q (List.mem_of_getElem? hq))
          have HGq := hide (gap_before (unhide SB).2 hq)
          have bx2 : 0 < q.w ∧ -1000 ≤ q.x ∧ q.x + q.w ≤ 2000 := ⟨(unhide BQ).1, (unhide BQ).2.2.2.1, (unhide BQ).2.2.2.2⟩
          obtain ⟨c, hce⟩ : ∃ c : Rc, c = ⟨max p.x q.x, max p.y q.y, max 0 (min (p.x + p.w) (q.x + q.w) - max p.x q.x), max 0 (min (p.y + p.h) (q.y + q.h) - max p.y q.y)⟩ := ⟨_, rfl⟩
          have HC : Hid (∀ W, Calls Tryz.prog 76 #[.agg #[.int .i64 p.x, .int .i64 p.y, .int .i64 p.w, .int .i64 p.h], .agg #[.int .i64 q.x, .int .i64 q.y, .int .i64 q.w, .int .i64 q.h]] W fun e w' => e = .returned (.agg #[.int .i64 c.x, .int .i64 c.y, .int .i64 c.w, .int .i64 c.h]) ∧ Below W.heap.size W w') := by
            intro W; rw [hce]
            have e1 := (unhide BP).2.1; have e2 := (unhide BP).2.2.1; have e3 := (unhide BQ).2.1; have e4 := (unhide BQ).2.2.1
            exact cut_any p.x p.y p.w p.h q.x q.y q.w q.h W (by omega) (by omega) (by omega) (by omega) (by omega) (by omega) (by omega) (by omega)
          have HE := hide hce
          have HO2 := hide hO2
          have HN2 := hide hN2
          have Hb2 := hide hbel2
          have HX := hide hbox
          have HA := hide hap
          clear hce hd g3 hO2 hN2 hbel2 hbox hap hq c1 c2 c3 c4
          by_cases gw : 0 < c.w
          · by_cases hS : S2 = []
            · have hv := hnil2 hS
              subst hS
              subst hv
              clear hnil2
              try simp only [List.length_nil] at *
              go_wp2_with (first
                | (go_at_call 76; refine (unhide HC _).mono ?_; rintro e w2 ⟨rfl, hb2⟩; have hsz2 : wr.heap.size + 1 ≤ w2.heap.size := by simpa using hb2.size)
                | (at_builtin; refine wpList_append_own _ rfl _ _ 47 rfl (wo.heap.size + 1) 46 i0 (.agg #[.int .i64 0, .int .i64 0, .int .i64 0, .int .i64 0]) 4 32 Tryz.underlying47 hi hz0 hz1 hz2 rfl (by decide) _ _ _ rfl (own_alloc (own_alloc (Own.kept (own_alloc (own_nil (w := wr) (wo.heap.size + 1)) _) hb2) _) _) ⟨w2.heap.size + 1, 0, none⟩ 1 1 (rcell c) rfl rfl ?c1 ?c2 ?c3 ?c4 ?c5 ?_))
              case c1 => exact newcells (new_at _ _ _ (by simp))
              case c2 => exact rcell_one _
              case c3 => have := (unhide HN2).strip.len; first | (simp [maxLen]; done) | (simp [maxLen]; omega)
              case c4 => have := (unhide HN2).strip.len; first | (simp; done) | (simp; omega) | omega
              case c5 => simp; omega
              intro v' w3 hown hgrow _
              have HOn := hide (Own.snoc hown)
              have HGn := hide (grown_trans (grown_trans (World.grownBy_alloc wr _ _) (grown_of_below hb2 _)) (grown_trans (grown_trans (World.grownBy_alloc w2 _ _) (World.grownBy_alloc _ _ _)) hgrow))
              clear hown hgrow hb2
              go_wp2
              go_roundw
              case rel =>
                have hbx := grown_block (unhide HGn) (unhide HX) (by simp [Value.ownBlock])
                refine ⟨m + 1, [] ++ [c], by omega, by go_num, (unhide HOn).mono (by omega), fun e => by simp at e, ?_, ?_, (unhide Hb2).grown (unhide HGn) (by omega) (Own.row_ge (unhide HO2)), hbx⟩
                · exact own_far (unhide HOn) (by omega)
                · rw [unhide HTq, unhide HE]; exact BN.take (unhide HN2) hh.1 (unhide BP) (unhide BQ) (unhide HGq) (by have e := congrArg Rc.w (unhide HE); simp only at e; omega)
              case measure => simp [intOf]; omega
            · have HS2 := hide hS
              obtain ⟨so, sc, rfl, _⟩ := own_slice (unhide HO2)
              clear hnil2 hS
              go_wp2_with (first
                | (go_at_call 76; refine (unhide HC _).mono ?_; rintro e w2 ⟨rfl, hb2⟩; have hsz2 : wr.heap.size + 1 ≤ w2.heap.size := by simpa using hb2.size)
                | (at_builtin; refine wpList_append_own _ rfl _ _ 47 rfl w.heap.size 46 i0 (.agg #[.int .i64 0, .int .i64 0, .int .i64 0, .int .i64 0]) 4 32 Tryz.underlying47 hi hz0 hz1 hz2 rfl (by decide) _ _ _ rfl (own_alloc (own_alloc (Own.kept (own_alloc (unhide HO2) _) hb2) _) _) ⟨w2.heap.size + 1, 0, none⟩ 1 1 (rcell c) rfl rfl ?d1 ?d2 ?d3 ?d4 ?d5 ?_))
              case d1 => exact newcells (new_at _ _ _ (by simp))
              case d2 => exact rcell_one _
              case d3 => have := (unhide HN2).strip.len; first | (simp [maxLen]; done) | (simp [maxLen]; omega)
              case d4 => have := (unhide HN2).strip.len; first | (simp; done) | (simp; omega) | omega
              case d5 => simp; omega
              intro v' w3 hown hgrow _
              have HOn := hide (Own.snoc hown)
              have HGn := hide (grown_trans (grown_trans (World.grownBy_alloc wr _ _) (grown_of_below hb2 _)) (grown_trans (grown_trans (World.grownBy_alloc w2 _ _) (World.grownBy_alloc _ _ _)) hgrow))
              clear hown hgrow hb2
              go_wp2
              go_roundw
              case rel =>
                have hbx := grown_block (unhide HGn) (unhide HX) (unhide HA)
                refine ⟨m + 1, S2 ++ [c], by omega, by go_num, (unhide HOn).mono (by omega), fun e => by simp at e, ?_, ?_, (unhide Hb2).grown (unhide HGn) (by omega) (Own.row_ge (unhide HO2)), hbx⟩
                · exact own_apart (unhide HOn) (by have := List.length_pos_iff.2 (unhide HS2); simp; omega) hbx rfl
                · rw [unhide HTq, unhide HE]; exact BN.take (unhide HN2) hh.1 (unhide BP) (unhide BQ) (unhide HGq) (by have e := congrArg Rc.w (unhide HE); simp only at e; omega)
              case measure => simp [intOf]; omega
          · obtain ⟨so, sc, rfl, _⟩ := own_slice (unhide HO2)
            have HNL2 := hide hnil2
            clear hnil2
            go_wp2_with (go_at_call 76; refine (unhide HC _).mono ?_; rintro e w2 ⟨rfl, hb2⟩; have hsz2 : wr.heap.size + 1 ≤ w2.heap.size := by simpa using hb2.size)
            go_roundw
            case rel =>
              refine ⟨m + 1, S2, by omega, by go_num, own_alloc (Own.kept (own_alloc (unhide HO2) _) hb2) _, unhide HNL2, unhide HA, ?_, (((unhide Hb2).alloc hbq _).trans (hb2.mono (by simp; omega))).alloc (by omega) _, ?_⟩
              · rw [unhide HTq]; exact BN.skip (unhide HN2) (by have e := congrArg Rc.w (unhide HE); simp only at e; omega)
              · exact grown_block (grown_trans (grown_trans (World.grownBy_alloc wr _ none) (grown_of_below hb2 none)) (World.grownBy_alloc _ _ none)) (unhide HX) (by simp)
            case measure => simp [intOf]; omega
        · have hml : m = b.length := by omega
          have HO2 := hide hO2
          have HN2 : Hid (BO y h (a.take (k + 1)) b S2) := by
            show BO y h (a.take (k + 1)) b S2
            rw [unhide HT]; rw [hml, List.take_length] at hN2; exact hN2.finish
          have Hb2 := hide hbel2
          have HNL2 := hide hnil2
          clear hO2 hN2 hbel2 hnil2 hap hbox g3 c1 c2 c3 c4
          go_wp2
          go_roundw
          case rel => exact ⟨k + 1, S2, by omega, by go_num, unhide HO2, unhide HNL2, unhide HN2, unhide Hb2⟩
          case measure => simp [intOf]; omega
    · have hkl : k = a.length := by omega
      have HO := hide hO
      have HP := hide hP
      have Hb := hide hbel
      clear hO hP hbel h3 g3 hnil
      go_wp2
      go_ret
      exact ⟨_, S, rfl, unhide HO, (unhide HP).strip, fun px => by have := (unhide HP).cols px; rw [hkl, List.take_length] at this; exact this, unhide Hb⟩
end Go.Proofs.YtfnockbgkcgpkaaGreat
