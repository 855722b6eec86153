import Derived.Test.YtfnockbgkcgpkaaWalksM
import Derived.Test.YtfnockbgkcgpkaaWalksK
import Derived.Test.YtfnockbgkcgpkaaWalksE
import Derived.Test.YtfnockbgkcgpkaaWalksF
import Derived.Test.YtfnockbgkcgpkaaMathD
import Derived.Shelf.Abstract
import Derived.BigQuiet
import Derived.Deep.QuietTactic
set_option linter.all false
namespace Go.Proofs.Ytfnockbgkcgpkaa
open Go.RowKit Go.Proofs.Panes
set_option maxRecDepth 100000

def SaidMix (f : Nat) (op : Prop → Prop → Prop) : Prop := ∀ (y h : Int) (ba bb : Nat) (va vb : Value) (a b : List Rc) (w : World) (_ : Own w ba va a) (_ : Own w bb vb b) (_ : Strip y h a) (_ : Strip y h b) (_ : 0 < h ∧ h ≤ 3000) (_ : -1000 ≤ y ∧ y ≤ 2000),
    Calls Try.prog f #[va, vb] w fun e w' => ∃ v' S, e = .returned v' ∧ Own w' w.heap.size v' S ∧ Strip y h S ∧ (∀ px, col S px ↔ op (col a px) (col b px)) ∧ Below w.heap.size w w'

/-- What is left of a row from its n-th rectangle on. -/
theorem rd_drop {w : World} {base vc n : Nat} {vo : Option Addr} {R : List Rc} (h : Own w base (.slice vo R.length vc) R) (hn : n ≤ R.length) : Rd w (.slice (Option.map (fun x => x.add (n * 4)) vo) (R.length - n) (vc - n)) (R.drop n) := by
  obtain ⟨ao, c, e, h1, h2, h3⟩ := h.rd
  simp only [Value.slice.injEq] at e
  obtain ⟨rfl, _, rfl⟩ := e
  refine ⟨_, _, by rw [List.length_drop], by rw [List.length_drop]; omega, by omega, fun hne => ?_⟩
  obtain ⟨b, off, rfl, hb, hc⟩ := h3 (by intro e; subst e; simp at hne)
  refine ⟨b, off + n * 4, ?_, hb, fun j r hr => ?_⟩
  · have hadd : (⟨b, off, none⟩ : Addr).add (n * 4) = ⟨b, off + n * 4, none⟩ := by unfold Addr.add; split <;> simp_all
    simp [hadd]
  · rw [List.getElem?_drop] at hr
    have := hc (n + j) r hr
    rwa [show off + (n + j) * 4 = off + n * 4 + j * 4 by omega] at this
theorem rd_drop' {w : World} {base vc n g : Nat} {R : List Rc} (h : Own w base (.slice (some ⟨g, 0, none⟩) R.length vc) R) (hn : n ≤ R.length) : Rd w (.slice (some ⟨g, n * 4, none⟩) (R.length - n) (vc - n)) (R.drop n) := by
  have := rd_drop h hn
  have hadd : (⟨g, 0, none⟩ : Addr).add (n * 4) = ⟨g, n * 4, none⟩ := by unfold Addr.add; split <;> simp_all
  rwa [Option.map_some, hadd] at this
theorem rd_end {w : World} {base n : Nat} {vo : Option Addr} {R : List Rc} (h : Own w base (.slice vo R.length n) R) : Rd w (.slice vo (R.length - n) 0) (R.drop n) := by
  obtain ⟨ao, c, e, h1, h2, h3⟩ := h.rd
  simp only [Value.slice.injEq] at e
  obtain ⟨rfl, _, rfl⟩ := e
  have : R.drop n = [] := List.drop_eq_nil_of_le h1
  rw [this]
  exact ⟨_, _, by rw [show R.length - n = 0 by omega]; rfl, by simp, by simp [maxLen], fun h => absurd rfl h⟩

set_option maxHeartbeats 1000000 in
/-- lengthen of nothing. -/
theorem lengthen_none (ao : Option Addr) (c2 : Nat) (d : Int) (w : World) :
    Calls Try.prog 104 #[.slice ao 0 c2, .int .i64 d] w fun e w' => e = .returned (.tuple #[]) ∧ w' = w := by
  go_enter Try.func104, Try.ntmps104
  go_wp2
  refine wp_loop_rounds 1 ?_
  rw [rounds_succ]
  go_wp2
  go_end0
  exact ⟨rfl, rfl⟩

theorem noM {op : Prop → Prop → Prop} (hop : ¬ op False False) {a b : List Rc} (px py : Int) (h : ¬ covL (a ++ b) px py) : ¬ op (covL a px py) (covL b px py) := by
  rw [covL_append] at h
  have e1 : covL a px py = False := propext ⟨fun c => h (.inl c), False.elim⟩
  have e2 : covL b px py = False := propext ⟨fun c => h (.inr c), False.elim⟩
  rw [e1, e2]; exact hop
theorem goesB_true : ∀ {a b : List Rc}, goesB a b = true → ∀ px, col a px ↔ col b px
  | [], [], _, _ => Iff.rfl
  | p :: a, q :: b, h, px => by
    simp only [goesB, Bool.and_eq_true, onB, decide_eq_true_eq] at h
    rw [col_cons, col_cons, goesB_true h.2 px]
    refine or_congr ?_ Iff.rfl
    unfold Rc.has; omega
  | [], _ :: _, h, _ => by simp [goesB] at h
  | _ :: _, [], h, _ => by simp [goesB] at h
theorem goesB_false {t : Int} : ∀ {a b : List Rc}, (∀ r ∈ a, r.y + r.h = t) → (∀ r ∈ b, r.y = t) → goesB a b = false → a.map (fun r => (r.x, r.w)) ≠ b.map (fun r => (r.x, r.w))
  | [], [], _, _, h => by simp [goesB] at h
  | p :: a, q :: b, h1, h2, h => by
    intro e
    simp only [List.map_cons, List.cons.injEq, Prod.mk.injEq] at e
    have hp := h1 p (by simp)
    have hq := h2 q (by simp)
    have hon : onB p q = true := by simp only [onB, decide_eq_true_eq]; omega
    simp only [goesB, hon, Bool.true_and] at h
    exact goesB_false (fun r hr => h1 r (List.mem_cons_of_mem _ hr)) (fun r hr => h2 r (List.mem_cons_of_mem _ hr)) h e.2
  | [], _ :: _, _, _, _ => by simp
  | _ :: _, [], _, _, _ => by simp

set_option maxHeartbeats 8000000 in
theorem combine_any (hj : SaidJoin) (f : Nat) (op : Prop → Prop → Prop) (eg : ∀ args w, (callFunc f args).run Try.prog w = .ok (.enter f args) w) (hmix : SaidMix f op) (hop : ¬ op False False)
    (va vb : Value) (a b : List Rc) (w : World) (hA : Rd w va a) (hB : Rd w vb b) (na : a.length ≤ 1000) (nb : b.length ≤ 1000) (ma : ∀ r ∈ a, May r) (mb : ∀ r ∈ b, May r) :
    Calls Try.prog 73 #[va, vb, .func (.func f) #[] #[]] w fun e w' => ∃ v' R, e = .returned v' ∧ Own w' w.heap.size v' R ∧ Right R ∧ (∀ px py, covL R px py ↔ op (covL a px py) (covL b px py)) ∧
      (∀ r ∈ R, -1000 ≤ r.x ∧ r.x + r.w ≤ 2000 ∧ -1000 ≤ r.y ∧ r.y + r.h ≤ 2000) ∧ R.length ≤ 20000000 ∧ Below w.heap.size w w' := by
  have HA := hide hA
  have HB := hide hB
  have HMA := hide ma
  have HMB := hide mb
  have HJ := hide hj
  have HX := hide hmix
  have hmab : Hid (∀ r ∈ a ++ b, May r) := fun r hr => (List.mem_append.1 hr).elim (ma r) (mb r)
  obtain ⟨ao, ca, rfl, _, _, _⟩ := hA
  obtain ⟨bo, cb, rfl, _, _, _⟩ := hB
  clear ma mb hj hmix
  go_enter Try.func73, Try.ntmps73
  go_wp2_with fail
  refine (edges_any w.heap.size _ _ a b _ (new_at _ _ _ rfl) ((unhide HA).below ((Below.refl _ w).alloc (Nat.le_refl _) _)) ((unhide HB).below ((Below.refl _ w).alloc (Nat.le_refl _) _)) na nb (unhide HMA) (unhide HMB)).mono ?_
  rintro e w1 ⟨v1, rows, rfl, hO1, hup, hmem, hrl, hb1⟩
  have HO1 := hide hO1
  have HR := hide (show EdgeRows rows (a ++ b) from ⟨hup, hmem⟩)
  have Hb1 := hide (((Below.refl _ w).alloc (Nat.le_refl _) _).trans (hb1.mono (by simp)))
  have hz1 : w.heap.size + 1 ≤ w1.heap.size := by simpa using hb1.size
  obtain ⟨ro, rc, rfl, _⟩ := ownI_slice hO1
  clear hO1 hup hmem hb1
  go_wp2
  have hrl' : rows.length ≤ 4000 := by rw [List.length_append] at hrl; omega
  clear hrl
  go_loopw [7, 8, 10] (fun v bn i wr => ∃ (k : Nat) (R : List Rc) (n : Nat) (t : Int), i = .int .i64 (k + 1 : Nat) ∧ bn = .int .i64 n ∧ (rows ≠ [] → rows[k]? = some t) ∧ (rows = [] → k = 0) ∧ t ≤ 2000 ∧ CI (fun px py => op (covL a px py) (covL b px py)) t R n ∧ Own wr w1.heap.size v R ∧ R.length ≤ 3000 * k ∧ k ≤ rows.length ∧ Below w1.heap.size w1 wr) (fun _ _ i _ => rows.length + 1 - (intOf i).toNat)
  case atStart =>
    have hnoM : ∀ px py, ¬ covL (a ++ b) px py → ¬ op (covL a px py) (covL b px py) := noM hop
    by_cases hr0 : rows = []
    · exact ⟨0, [], 0, 0, rfl, rfl, fun h => absurd hr0 h, fun _ => rfl, by omega, CI.start _ _ (fun px py _ => hnoM px py ((unhide HR).none hr0 px py)), own_nil _, by simp, Nat.zero_le _, Below.refl _ _⟩
    · obtain ⟨t, ht⟩ : ∃ t, rows[0]? = some t := ⟨rows[0]'(List.length_pos_iff.2 hr0), by simp [List.length_pos_iff.2 hr0]⟩
      exact ⟨0, [], 0, t, rfl, rfl, fun _ => ht, fun _ => rfl, ((unhide HR).bound (unhide hmab) ht).2, CI.start _ _ (fun px py h => hnoM px py ((unhide HR).before ht px py h)), own_nil _, by simp, Nat.zero_le _, Below.refl _ _⟩
  case round =>
    obtain ⟨k, R, n, t, rfl, rfl, hk, hk0, ht2, hC, hO, hRl, hkr, hbel⟩ := hrel
    by_cases hlt : k + 1 < rows.length
    · have hne : rows ≠ [] := by intro e; rw [e] at hlt; simp at hlt
      have ht := hk hne
      obtain ⟨u, hu⟩ : ∃ u, rows[k + 1]? = some u := ⟨rows[k + 1], by simp [hlt]⟩
      have bt := (unhide HR).bound (unhide hmab) ht
      have bu := (unhide HR).bound (unhide hmab) hu
      have htu := rows_lt (unhide HR).up ht hu
      obtain ⟨rg, rcap, er, hg1, hg2⟩ := ownI_some (unhide HO1) hne
      simp only [Value.slice.injEq] at er
      obtain ⟨rfl, _, rfl⟩ := er
      have ct := (hbel.cell (p := ⟨rg, k, none⟩) hg2).trans (ownI_at (unhide HO1) ht)
      have cu := (hbel.cell (p := ⟨rg, k + 1, none⟩) hg2).trans (ownI_at (unhide HO1) hu)
      have CA : Hid (∀ r ∈ a, Clear r t u) := fun r hr => (unhide HR).clear ht hu (List.mem_append.2 (.inl hr))
      have CB : Hid (∀ r ∈ b, Clear r t u) := fun r hr => (unhide HR).clear ht hu (List.mem_append.2 (.inr hr))
      have HC := hide hC
      have HO := hide hO
      have Hb := hide hbel
      have hsz := hbel.size
      have HU := hide hu
      have hnR := hC.le
      have HAw := hide ((unhide HA).below ((unhide Hb1).trans ((unhide Hb).mono (by omega))))
      have HBw := hide ((unhide HB).below ((unhide Hb1).trans ((unhide Hb).mono (by omega))))
      obtain ⟨vo, vc, rfl, hvc⟩ := own_slice hO
      clear hC hO hbel hk hk0 ht hu
      go_wp2
      go_quiet (fail)
      go_wp2_with fail
      have HAq := hide ((unhide HAw).below (below_drewN (Below.refl _ wr) nq))
      have HBq := hide ((unhide HBw).below (below_drewN (Below.refl _ wr) nq))
      refine (pieces_any (unhide HJ) _ a t u _ (unhide HAq) na (unhide HMA) (unhide CA) ⟨bt.1, htu, bu.2⟩).mono ?_
      rintro e w2 ⟨v2, S1, rfl, hOa, hSa, hca, hba⟩
      have HBq2 := hide ((unhide HBq).below hba)
      have HOa := hide hOa
      have HSa := hide hSa
      have Hca := hide hca
      have Hba := hide hba
      have z2 : wr.heap.size ≤ w2.heap.size := hba.size
      clear hOa hSa hca hba
      go_wp2_with fail
      refine (pieces_any (unhide HJ) _ b t u _ (unhide HBq2) nb (unhide HMB) (unhide CB) ⟨bt.1, htu, bu.2⟩).mono ?_
      rintro e w3 ⟨v3, S2, rfl, hOb, hSb, hcb, hbb⟩
      have HOa3 := hide (Own.kept (unhide HOa) hbb)
      have HOb := hide hOb
      have HSb := hide hSb
      have Hcb := hide hcb
      have Hbb := hide hbb
      have z3 : w2.heap.size ≤ w3.heap.size := hbb.size
      clear hOb hSb hcb hbb
      go_wp2_with fail
      refine ((unhide HX) t (u - t) _ _ _ _ S1 S2 _ (unhide HOa3) (unhide HOb) (unhide HSa) (unhide HSb) ⟨by omega, by omega⟩ ⟨by omega, by omega⟩).mono ?_
      rintro e w4 ⟨v4, S, rfl, hOs, hSs, hcs, hbs⟩
      have HOs := hide hOs
      have HSs := hide hSs
      have Hcs := hide hcs
      have z4 : w3.heap.size ≤ w4.heap.size := hbs.size
      have Hbw4 := hide (show Below wr.heap.size wr w4 from (((below_drewN (Below.refl _ wr) nq).trans (unhide Hba)).trans ((unhide Hbb).mono z2)).trans (hbs.mono (Nat.le_trans z2 z3)))
      have HO4 := hide (Own.kept (unhide HO) (unhide Hbw4))
      clear hOs hSs hcs hbs
      have dn : decide ((n : Int) ≤ (R.length : Int)) = true := by rw [decide_eq_true_iff]; omega
      have HM : Hid (∀ px py, t ≤ py → py < u → (op (covL a px py) (covL b px py) ↔ col S px)) := by
        intro px py h1 h2
        rw [(unhide Hcs) px, propext (strip_cov (unhide CA) px py h1 h2), propext (strip_cov (unhide CB) px py h1 h2), propext ((unhide Hca) px), propext ((unhide Hcb) px)]
      have HBh : Hid (∀ r ∈ R.drop n, -10000 ≤ r.h ∧ r.h ≤ 10000) := fun r hr => by
        have := (unhide HC).pos r (List.mem_of_mem_drop hr); omega
      have HSy : Hid (∀ r ∈ S, -10000 ≤ r.y ∧ r.y ≤ 10000) := fun r hr => by
        have := (unhide HSs).1 r hr; omega
      have HSl := hide (unhide HSs).len
      by_cases hdr : n < R.length
      · obtain ⟨g, vc', ev, hgb, hgl⟩ := own_some (unhide HO4) (by intro e; rw [e] at hdr; simp at hdr)
        simp only [Value.slice.injEq] at ev
        obtain ⟨rfl, _, rfl⟩ := ev
        have hvn : vc ≠ n := by omega
        have hvn2 : ¬ vc = n := hvn
        go_wp2_with fail
        refine (goesOn_any _ _ (R.drop n) S w4 (rd_drop' (unhide HO4) (by omega)) (unhide HOs).rd (by rw [List.length_drop]; omega) (by have := unhide HSl; omega) (unhide HBh) (unhide HSy)).mono ?_
        rintro e w5 ⟨rfl, hb5⟩
        have z5 := hb5.size
        have Hb5 := hide (show Below wr.heap.size wr w5 from (unhide Hbw4).trans (hb5.mono (by omega)))
        have HO5 := hide (Own.kept (unhide HO4) hb5)
        have HOs5 := hide (Own.kept (unhide HOs) hb5)
        clear hb5
        cases hgo : goesB (R.drop n) S
        · have HGo := hide hgo
          clear hgo
          go_wp2_with (at_builtin; refine append_rects rfl _ _ rfl w1.heap.size _ _ _ R S rfl (unhide HO5) rfl (unhide HOs5) (by have := unhide HSl; omega) (by omega) ?_; intro v' w6 hown hgrow; have HOn := hide hown; have HG := hide hgrow; clear hown hgrow)
          go_roundw
          case rel =>
            refine ⟨k + 1, R ++ S, R.length, u, by go_num, rfl, fun _ => unhide HU, fun e => absurd e hne, bu.2, ?_, ?_, ?_, by omega, ?_⟩
            · exact (unhide HC).more htu bt.1 (unhide HSs) (unhide HM) (goesB_false (unhide HC).new (fun r hr => ((unhide HSs).1 r hr).2.1) (unhide HGo))
            · exact unhide HOn
            · have := unhide HSl; rw [List.length_append]; omega
            · exact ((unhide Hb).trans ((unhide Hb5).mono hsz)).grown (unhide HG) (by omega) (Own.row_ge (unhide HO5))
          case measure => simp [intOf]; omega
        · have HGo := hide hgo
          clear hgo
          go_wp2_with fail
          have elen : (R.take n).length + (R.drop n).length = R.length := by rw [← List.length_append, List.take_append_drop]
          have hL := lengthen_any w1.heap.size g vc n (vc - n) (R.take n) (R.drop n) (u - t) w5 (by rw [elen, List.take_append_drop]; exact unhide HO5) (by rw [List.length_take]; omega) ⟨by omega, by omega⟩ (by rw [elen]; omega) (unhide HBh)
          rw [elen, List.length_drop] at hL
          refine hL.mono ?_
          clear hL
          rintro e w6 ⟨rfl, hO6, hg6⟩
          have HOn := hide hO6
          have HG := hide hg6
          clear hO6 hg6 elen
          go_wp2
          go_roundw
          case rel =>
            refine ⟨k + 1, R.take n ++ (R.drop n).map (tall (u - t)), n, u, by go_num, rfl, fun _ => unhide HU, fun e => absurd e hne, bu.2, ?_, ?_, ?_, by omega, ?_⟩
            · exact (unhide HC).on htu (unhide HM) (goesB_true (unhide HGo))
            · exact unhide HOn
            · rw [List.length_append, List.length_map, ← List.length_append, List.take_append_drop]; omega
            · exact ((unhide Hb).trans ((unhide Hb5).mono hsz)).grown (unhide HG) (by omega) (fun j hj => by cases hj; exact hgb)
          case measure => simp [intOf]; omega
      · go_wp2_with fail
        case inl =>
          have hvn : vc = n := by omega
          have HO4n := hide (show Own w4 w1.heap.size (.slice vo R.length n) R from by have h := unhide HO4; rw [hvn] at h; exact h)
          refine (goesOn_any _ _ (R.drop n) S w4 (rd_end (unhide HO4n)) (unhide HOs).rd (by rw [List.length_drop]; omega) (by have := unhide HSl; omega) (unhide HBh) (unhide HSy)).mono ?_
          rintro e w5 ⟨rfl, hb5⟩
          have z5 := hb5.size
          have Hb5 := hide (show Below wr.heap.size wr w5 from (unhide Hbw4).trans (hb5.mono (by omega)))
          have HO5 := hide (Own.kept (unhide HO4n) hb5)
          have HOs5 := hide (Own.kept (unhide HOs) hb5)
          clear hb5
          cases hgo : goesB (R.drop n) S
          · have HGo := hide hgo
            clear hgo
            go_wp2_with (at_builtin; refine append_rects rfl _ _ rfl w1.heap.size _ _ _ R S rfl (unhide HO5) rfl (unhide HOs5) (by have := unhide HSl; omega) (by omega) ?_; intro v' w6 hown hgrow; have HOn := hide hown; have HG := hide hgrow; clear hown hgrow)
            go_roundw
            case rel =>
              refine ⟨k + 1, R ++ S, R.length, u, by go_num, rfl, fun _ => unhide HU, fun e => absurd e hne, bu.2, ?_, ?_, ?_, by omega, ?_⟩
              · exact (unhide HC).more htu bt.1 (unhide HSs) (unhide HM) (goesB_false (unhide HC).new (fun r hr => ((unhide HSs).1 r hr).2.1) (unhide HGo))
              · exact unhide HOn
              · have := unhide HSl; rw [List.length_append]; omega
              · exact ((unhide Hb).trans ((unhide Hb5).mono hsz)).grown (unhide HG) (by omega) (Own.row_ge (unhide HO5))
            case measure => simp [intOf]; omega
          · have HGo := hide hgo
            clear hgo
            go_wp2_with fail
            all_goals
              rw [show R.length - n = 0 by omega]
              refine (lengthen_none _ _ _ _).mono ?_
              rintro e w6 ⟨rfl, rfl⟩
              go_wp2
              go_roundw
              case rel =>
                refine ⟨k + 1, R, n, u, by go_num, rfl, fun _ => unhide HU, fun e => absurd e hne, bu.2, ?_, ?_, ?_, by omega, ?_⟩
                · have h := (unhide HC).on htu (unhide HM) (goesB_true (unhide HGo))
                  rw [List.drop_eq_nil_of_le (by omega), List.map_nil, List.append_nil, List.take_of_length_le (by omega)] at h
                  exact h
                · exact unhide HO5
                · omega
                · exact (unhide Hb).trans ((unhide Hb5).mono hsz)
              case measure => simp [intOf]; omega
        case inr =>
          refine (goesOn_any _ _ (R.drop n) S w4 (rd_drop (unhide HO4) (by omega)) (unhide HOs).rd (by rw [List.length_drop]; omega) (by have := unhide HSl; omega) (unhide HBh) (unhide HSy)).mono ?_
          rintro e w5 ⟨rfl, hb5⟩
          have z5 := hb5.size
          have Hb5 := hide (show Below wr.heap.size wr w5 from (unhide Hbw4).trans (hb5.mono (by omega)))
          have HO5 := hide (Own.kept (unhide HO4) hb5)
          have HOs5 := hide (Own.kept (unhide HOs) hb5)
          clear hb5
          cases hgo : goesB (R.drop n) S
          · have HGo := hide hgo
            clear hgo
            go_wp2_with (at_builtin; refine append_rects rfl _ _ rfl w1.heap.size _ _ _ R S rfl (unhide HO5) rfl (unhide HOs5) (by have := unhide HSl; omega) (by omega) ?_; intro v' w6 hown hgrow; have HOn := hide hown; have HG := hide hgrow; clear hown hgrow)
            go_roundw
            case rel =>
              refine ⟨k + 1, R ++ S, R.length, u, by go_num, rfl, fun _ => unhide HU, fun e => absurd e hne, bu.2, ?_, ?_, ?_, by omega, ?_⟩
              · exact (unhide HC).more htu bt.1 (unhide HSs) (unhide HM) (goesB_false (unhide HC).new (fun r hr => ((unhide HSs).1 r hr).2.1) (unhide HGo))
              · exact unhide HOn
              · have := unhide HSl; rw [List.length_append]; omega
              · exact ((unhide Hb).trans ((unhide Hb5).mono hsz)).grown (unhide HG) (by omega) (Own.row_ge (unhide HO5))
            case measure => simp [intOf]; omega
          · have HGo := hide hgo
            clear hgo
            go_wp2_with fail
            all_goals
              rw [show R.length - n = 0 by omega]
              refine (lengthen_none _ _ _ _).mono ?_
              rintro e w6 ⟨rfl, rfl⟩
              go_wp2
              go_roundw
              case rel =>
                refine ⟨k + 1, R, n, u, by go_num, rfl, fun _ => unhide HU, fun e => absurd e hne, bu.2, ?_, ?_, ?_, by omega, ?_⟩
                · have h := (unhide HC).on htu (unhide HM) (goesB_true (unhide HGo))
                  rw [List.drop_eq_nil_of_le (by omega), List.map_nil, List.append_nil, List.take_of_length_le (by omega)] at h
                  exact h
                · exact unhide HO5
                · omega
                · exact (unhide Hb).trans ((unhide Hb5).mono hsz)
              case measure => simp [intOf]; omega
    · have HC := hide hC
      have HO := hide hO
      have Hb := hide hbel
      have hsz := hbel.size
      have HK : Hid (∀ px py, op (covL a px py) (covL b px py) → py < t) := by
        intro px py hM
        by_cases hc : covL (a ++ b) px py
        · by_cases hr0 : rows = []
          · exact absurd hc ((unhide HR).none hr0 px py)
          · exact (unhide HR).behind (hk hr0) (by omega) px py hc
        · exact absurd hM (noM hop px py hc)
      clear hC hO hbel hk hk0
      go_wp2
      go_ret
      refine ⟨_, R, rfl, (unhide HO).mono (by omega), (unhide HC).right, fun px py => ((unhide HC).cols px py).trans ⟨fun h => h.2, fun h => ⟨(unhide HK) px py h, h⟩⟩, fun r hr => ?_, by omega, (unhide Hb1).trans ((unhide Hb).mono (by omega))⟩
      have := (unhide HC).pos r hr
      omega
end Go.Proofs.Ytfnockbgkcgpkaa
