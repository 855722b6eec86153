import Derived.Test.YtfnockbgkcgpkaaGreatBase
import Derived.Test.YtfnockbgkcgpkaaGreatMathB
import Derived.RegionTactic
import Derived.ChangeAlike
import Derived.BigRegion
import Derived.BigQuiet
import Derived.Deep.QuietTactic
set_option linter.all false
namespace Go.Proofs.YtfnockbgkcgpkaaGreat
open Go.RowKit Go.Proofs.Panes
set_option maxRecDepth 100000

def SaidSort : Prop := ∀ (base : Nat) (v : Value) (l : List Rc) (w : World) (_ : Own w base v l) (_ : l.length ≤ 1000000),
    Calls Tryz.prog 164 #[v, .func (.func 165) #[] #[]] w fun e w' => e = .returned (.tuple #[]) ∧ ∃ l', l'.Perm l ∧ l'.Pairwise (fun p q => p.x ≤ q.x) ∧ Own w' base v l' ∧ w.grownBy w' v.ownBlock

theorem col_perm {k l : List Rc} (h : k.Perm l) (px : Int) : col k px ↔ col l px :=
  ⟨fun ⟨r, hr, c⟩ => ⟨r, h.mem_iff.1 hr, c⟩, fun ⟨r, hr, c⟩ => ⟨r, h.mem_iff.2 hr, c⟩⟩

theorem own_row {w : World} {base : Nat} {v : Value} {l : List Rc} (h : Own w base v l) : ∀ k, v.ownBlock = some k → base ≤ k := Own.row_ge h

set_option maxHeartbeats 4000000 in
theorem join_any (hs : SaidSort) (y h : Int) (base : Nat) (v : Value) (l : List Rc) (w : World) (hO : Own w base v l) (hB : Bits y h l) (hn : l.length ≤ 100000) :
    Calls Tryz.prog 150 #[v] w fun e w' => ∃ v' J, e = .returned v' ∧ Own w' w.heap.size v' J ∧ Strip y h J ∧ (∀ px, col J px ↔ col l px) ∧ w.grownBy w' v.ownBlock := by
  obtain ⟨i0, hi, hz0, hz1, hz2⟩ := info_parts info_rect
  obtain ⟨ao, cap, rfl, hcap⟩ := own_slice hO
  have HO := hide hO
  clear hO
  go_enter Tryz.func150, Tryz.ntmps150
  go_wp2_with (go_at_call 164; refine (hs base _ l w (unhide HO) (by omega)).mono ?_; rintro e w1 ⟨rfl, s, hperm, hsort, hOs, hgr⟩; have HP := hide hperm; have HSo := hide hsort; have HG := hide hgr; have HL := hide hperm.length_eq; clear hperm hsort hgr)
  have hlen := unhide HL
  have hcell : s ≠ [] → ∃ b off, ao = some ⟨b, off, none⟩ ∧ b < w1.heap.size ∧ ∀ j r, s[j]? = some r → RAt w1 b (off + j * 4) r := by
    obtain ⟨ao', cap', e, _, _, h3⟩ := hOs.rd
    simp only [Value.slice.injEq] at e
    rw [e.1]; exact h3
  have hbits : ∀ r ∈ s, 0 < r.w ∧ r.y = y ∧ r.h = h ∧ -1000 ≤ r.x ∧ r.x + r.w ≤ 2000 := fun r hr => hB r ((unhide HP).mem_iff.1 hr)
  have mx : ∀ a b : Int, (if a < b then b else a) = max a b := fun a b => by omega
  go_loopw [3, 11] (fun vj i wr => ∃ (k : Nat) (J : List Rc), k ≤ l.length ∧ i = .int .i64 k ∧ Own wr w1.heap.size vj J ∧ JI y h J (s.take k) ∧ J.length ≤ k ∧ Below w1.heap.size w1 wr) (fun _ i _ => l.length - (intOf i).toNat)
  case atStart => exact ⟨0, [], Nat.zero_le _, rfl, World.ownsRow_nil _ _ _ _, JI.start y h, Nat.le_refl _, Below.refl _ _⟩
  case round =>
    obtain ⟨k, J, hk, rfl, hOj, hJ, hJk, hbel⟩ := hrel
    by_cases hlt : k < l.length
    · obtain ⟨b, off, rfl, hb, hc⟩ := hcell (by intro e; rw [e] at hlen; simp at hlen; omega)
      obtain ⟨p, hp⟩ : ∃ r, s[k]? = some r := ⟨s[k]'(by omega), by simp [hlen, hlt]⟩
      obtain ⟨c1, c2, c3, c4⟩ := (hc k p hp).below hbel hb
      have BP := hide (hbits p (List.mem_of_getElem? hp))
      have bx : 0 < p.w ∧ -1000 ≤ p.x ∧ p.x + p.w ≤ 2000 := ⟨(unhide BP).1, (unhide BP).2.2.2.1, (unhide BP).2.2.2.2⟩
      have hbw := hbel.size
      have lt1 : b < wr.heap.size := by omega
      have HT : Hid (s.take (k + 1) = s.take k ++ [p]) := by show _ = _; rw [List.take_add_one, hp]; rfl
      have HX : Hid (∀ q ∈ s.take k, q.x ≤ p.x) := by
        intro q hq
        have h2 := (unhide HSo)
        have h3 : (s.take k ++ s.drop k).Pairwise (fun p q => p.x ≤ q.x) := by rw [List.take_append_drop]; exact h2
        exact (List.pairwise_append.1 h3).2.2 q hq p (List.mem_of_getElem? (i := 0) (by rw [List.getElem?_drop]; simpa using hp))
      have HJ := hide hJ
      have HOj := hide hOj
      have Hb := hide hbel
      clear hc hcell hJ hbits hB hs hOs hp
      rcases List.eq_nil_or_concat J with rfl | ⟨J0, q, rfl⟩
      · obtain ⟨jo, jc, rfl, _⟩ := own_slice hOj
        clear hOj hbel
        simp only [List.length_nil] at *
        go_wp2
        go_quiet (fail)
        go_wp2_with (at_builtin; refine wpList_append_own _ rfl _ _ 47 rfl w1.heap.size 46 i0 (.agg #[.int .i64 0, .int .i64 0, .int .i64 0, .int .i64 0]) 4 32 Tryz.underlying47 hi hz0 hz1 hz2 rfl (by decide) _ _ _ rfl (own_drewN (own_alloc (own_alloc (unhide HOj) _) _) _) ⟨wr.heap.size + 1, 0, none⟩ 1 1 (rcell p) rfl rfl ?c1 ?c2 ?c3 ?c4 ?c5 ?_)
        case c1 => exact newcells (new_at _ _ _ (by simp))
        case c2 => exact rcell_one _
        case c3 => simp [maxLen]
        case c4 => simp
        case c5 => simp; omega
        intro v' w2 hown hgrow _
        have HOn := hide (Own.snoc hown)
        have HGn := hide (grown_trans (grown_trans (grown_trans (World.grownBy_alloc wr _ _) (grown_drewN _ _ _)) (World.grownBy_alloc _ _ _)) hgrow)
        clear hown hgrow
        go_wp2
        go_roundw
        case rel =>
          refine ⟨k + 1, [p], by omega, by go_num, unhide HOn, ?_, by simp, (unhide Hb).grown (unhide HGn) hbw (own_row (unhide HOj))⟩
          rw [unhide HT]; exact JI.first (unhide HJ) (unhide BP)
        case measure => simp [intOf]; omega
      · rw [List.concat_eq_append] at *
        obtain ⟨g, jc, rfl, hg1, hg2⟩ := own_some hOj (by simp)
        obtain ⟨d1, d2, d3, d4⟩ := own_at hOj (get_of_append (A := J0) (q := q))
        have hfz := own_thaw hOj rfl (J0.length * 4 + 2)
        rw [List.length_append, List.length_singleton] at *
        have BQ := hide ((unhide HJ).strip.1 q (by simp))
        have bq : 0 < q.w ∧ -1000 ≤ q.x ∧ q.x + q.w ≤ 2000 := ⟨(unhide BQ).1, (unhide BQ).2.2.2.1, (unhide BQ).2.2.2.2⟩
        have hd : decide ((J0.length : Int) < 0) = false := by rw [decide_eq_false_iff_not]; omega
        have ne1 : g ≠ wr.heap.size := by omega
        clear hOj hbel
        by_cases htest : q.x + q.w < p.x
        · go_wp2
          go_quiet (fail)
          go_wp2_with (at_builtin; refine wpList_append_own _ rfl _ _ 47 rfl w1.heap.size 46 i0 (.agg #[.int .i64 0, .int .i64 0, .int .i64 0, .int .i64 0]) 4 32 Tryz.underlying47 hi hz0 hz1 hz2 rfl (by decide) _ _ _ rfl (own_drewN (own_alloc (own_alloc (unhide HOj) _) _) _) ⟨wr.heap.size + 1, 0, none⟩ 1 1 (rcell p) rfl rfl ?d1 ?d2 ?d3 ?d4 ?d5 ?_)
          case d1 => exact newcells (new_at _ _ _ (by simp))
          case d2 => exact rcell_one _
          case d3 => simp [maxLen]; omega
          case d4 => simp; omega
          case d5 => simp; omega
          intro v' w2 hown hgrow _
          have HOn := hide (Own.snoc (l := J0 ++ [q]) (r := p) (by rw [List.length_append, List.length_singleton]; exact hown))
          have HGn := hide (grown_trans (grown_trans (grown_trans (World.grownBy_alloc wr _ _) (grown_drewN _ _ _)) (World.grownBy_alloc _ _ _)) hgrow)
          clear hown hgrow
          go_wp2
          go_roundw
          case rel =>
            refine ⟨k + 1, J0 ++ [q] ++ [p], by omega, by go_num, unhide HOn, ?_, by simp; omega, (unhide Hb).grown (unhide HGn) hbw (own_row (unhide HOj))⟩
            rw [unhide HT]; exact JI.apart (unhide HJ) (unhide BP) htest
          case measure => simp [intOf]; omega
        · have HX2 : Hid (q.x ≤ p.x) := by
            obtain ⟨r, hr, e⟩ := (unhide HJ).src q (by simp)
            rw [e]; exact (unhide HX) r hr
          have hdl : decide (q.x + q.w < p.x) = false := by rw [decide_eq_false_iff_not]; exact htest
          go_wp2
          go_quiet (fail)
          go_wp2
          have e1 : ((wr.alloc (Obj.cells #[Value.int IntKind.i64 p.x, Value.int IntKind.i64 p.y, Value.int IntKind.i64 p.w, Value.int IntKind.i64 p.h] 46)).drewN nq).cell? ⟨g, J0.length * 4, none⟩ = some (.int .i64 q.x) := by go_simp
          have e3 : ((wr.alloc (Obj.cells #[Value.int IntKind.i64 p.x, Value.int IntKind.i64 p.y, Value.int IntKind.i64 p.w, Value.int IntKind.i64 p.h] 46)).drewN nq).cell? ⟨g, J0.length * 4 + 2, none⟩ = some (.int .i64 q.w) := by go_simp
          have f1 : ((wr.alloc (Obj.cells #[Value.int IntKind.i64 p.x, Value.int IntKind.i64 p.y, Value.int IntKind.i64 p.w, Value.int IntKind.i64 p.h] 46)).drewN nq).cell? ⟨wr.heap.size, 0, none⟩ = some (.int .i64 p.x) := by go_simp
          have f3 : ((wr.alloc (Obj.cells #[Value.int IntKind.i64 p.x, Value.int IntKind.i64 p.y, Value.int IntKind.i64 p.w, Value.int IntKind.i64 p.h] 46)).drewN nq).cell? ⟨wr.heap.size, 2, none⟩ = some (.int .i64 p.w) := by go_simp
          have ez : ((wr.alloc (Obj.cells #[Value.int IntKind.i64 p.x, Value.int IntKind.i64 p.y, Value.int IntKind.i64 p.w, Value.int IntKind.i64 p.h] 46)).drewN nq).frozen? ⟨g, J0.length * 4 + 2, none⟩ = false := by go_simp
          generalize hwq : ((wr.alloc (Obj.cells #[Value.int IntKind.i64 p.x, Value.int IntKind.i64 p.y, Value.int IntKind.i64 p.w, Value.int IntKind.i64 p.h] 46)).drewN nq) = wq at e1 e3 f1 f3 ez ⊢
          have HS := hide (own_setW (base := w1.heap.size) (g := g) (n := J0.length + 1) (cap := jc) (A := J0) (r := q) (B := []) (max q.w (p.x + p.w - q.x)) (show Own wq w1.heap.size _ (J0 ++ q :: []) from by rw [← hwq]; exact own_drewN (own_alloc (unhide HOj) _) nq) (by simp))
          have HW := hide (show wr.grownBy wq (some g) from by rw [← hwq]; exact grown_trans (World.grownBy_alloc wr _ _) (grown_drewN _ _ _))
          clear hwq
          go_region
          go_wp2
          go_roundw
          case rel =>
            refine ⟨k + 1, J0 ++ [⟨q.x, q.y, max q.w (p.x + p.w - q.x), q.h⟩], by omega, by go_num, ?_, ?_, by simp; omega, ?_⟩
            · first
              | exact (unhide HS).1
              | exact own_drew (unhide HS).1
            · rw [unhide HT]; exact JI.touch (unhide HJ) (unhide BP) (unhide HX2) (by omega)
            · first
              | exact (unhide Hb).grown (grown_trans (unhide HW) (unhide HS).2) hbw (fun j hj => by cases hj; exact hg1)
              | exact ((unhide Hb).grown (grown_trans (unhide HW) (unhide HS).2) hbw (fun j hj => by cases hj; exact hg1)).drew
          case measure => simp [intOf]; omega
    · have hkl : k = l.length := by omega
      have HO2 := hide hOj
      have HJ := hide hJ
      have Hb := hide hbel
      clear hOj hJ hbel hcell hbits hB hs hOs
      go_wp2
      go_ret
      refine ⟨_, J, rfl, (unhide HO2).mono (unhide HG).size, (unhide HJ).strip, fun px => ?_, grown_trans (unhide HG) (grown_of_below (unhide Hb) _)⟩
      rw [(unhide HJ).cols px, hkl, ← hlen, List.take_length]
      exact col_perm (unhide HP) px
end Go.Proofs.YtfnockbgkcgpkaaGreat
