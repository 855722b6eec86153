import Derived.Test.YtfnockbgkcgpkaaWalksX
import Derived.Test.YtfnockbgkcgpkaaMathF
import Derived.WalkSpells
import Derived.StillTactics
import Derived.OwnWalk
import Derived.Laws.Pointers
import Derived.Deep.RegionHeld3
import Derived.Deep.DrawnRows
set_option linter.all false
namespace Go.Proofs.Ytfnockbgkcgpkaa
open Go.RowKit Go.Proofs.Panes
set_option maxRecDepth 100000
attribute [local go_sem ↓] Go.wp_at_zero Go.wp_at_succ

theorem last_mem {l X B : List Rc} {j : Nat} {p : Rc} (hp : l[j]? = some p) (h : l.take (j + 1) = X ++ B) (hB : B ≠ []) : p ∈ B := by
  rw [List.take_add_one, hp] at h
  rcases List.eq_nil_or_concat B with e | ⟨B', b, e⟩
  · exact absurd e hB
  · rw [List.concat_eq_append] at e
    rw [e, ← List.append_assoc] at h
    have := List.append_inj_right' h rfl
    simp at this
    rw [e, this]; simp
theorem pw_at {l : List Rc} (h : l.Pairwise PW) {j : Nat} {p q : Rc} (hp : l[j]? = some p) (hq : l[j + 1]? = some q) : PW p q := by
  obtain ⟨h1, e1⟩ := List.getElem?_eq_some_iff.1 hp
  obtain ⟨h2, e2⟩ := List.getElem?_eq_some_iff.1 hq
  rw [← e1, ← e2]
  exact List.pairwise_iff_getElem.1 h j (j + 1) h1 h2 (by omega)
theorem pw_y {p q : Rc} (hp : 0 < p.h) (h : PW p q) : p.y ≤ q.y := by unfold PW at h; omega
/-- Behind the last of a band all lies lower. -/
theorem behind_y {l : List Rc} (hR : Right l) {k : Nat} {x y : Rc} (hx : l[k]? = some x) (hy : l[k + 1]? = some y) (hne : y.y ≠ x.y) : ∀ r ∈ l.drop (k + 1), x.y < r.y := by
  intro r hr
  obtain ⟨i, hi, e⟩ := List.mem_iff_getElem.1 hr
  rw [List.getElem_drop] at e
  obtain ⟨h1, e1⟩ := List.getElem?_eq_some_iff.1 hx
  obtain ⟨h2, e2⟩ := List.getElem?_eq_some_iff.1 hy
  have hle : x.y ≤ y.y := pw_y (hR.pos x (List.mem_of_getElem? hx)).2 (pw_at hR.pw hx hy)
  have hge : y.y ≤ r.y := by
    by_cases e0 : i = 0
    · subst e0; rw [← e, ← e2]; exact Int.le_refl _
    · rw [← e, ← e2]
      refine pw_y (hR.pos _ (List.getElem_mem _)).2 (List.pairwise_iff_getElem.1 hR.pw (k + 1) (k + 1 + i) h2 (by simp at hi; omega) (by omega))
  omega
theorem behind_none {l : List Rc} {k : Nat} (h : k + 1 = l.length) (x : Rc) : ∀ r ∈ l.drop (k + 1), x.y < r.y := by
  intro r hr; rw [List.drop_of_length_le (by omega)] at hr; simp at hr

/-- A part of a list. -/
theorem rd_part {w : World} {b off cap n m : Nat} {l X Y Z : List Rc} (h : Rd w (.slice (some ⟨b, off, none⟩) l.length cap) l) (e : l = X ++ Y ++ Z) (hY : Y ≠ []) (hn : n = X.length) (hm : m = Y.length) : Rd w (.slice (some ⟨b, off + n * 4, none⟩) m (cap - n)) Y := by
  obtain ⟨ao, c, ee, h1, h2, h3⟩ := h
  simp only [Value.slice.injEq] at ee
  obtain ⟨rfl, _, rfl⟩ := ee
  subst hn hm
  have hl : l.length = X.length + Y.length + Z.length := by rw [e]; simp; omega
  obtain ⟨b', off', ea, hb, hc⟩ := h3 (by intro e'; rw [e'] at hl; simp at hl; exact hY (List.length_eq_zero_iff.1 (by omega)))
  simp only [Option.some.injEq, Addr.mk.injEq, and_true] at ea
  obtain ⟨rfl, rfl⟩ := ea
  refine ⟨_, _, rfl, by omega, by omega, fun _ => ⟨b, off + X.length * 4, rfl, hb, fun j r hr => ?_⟩⟩
  have hj : j < Y.length := (List.getElem?_eq_some_iff.1 hr).1
  have := hc (X.length + j) r (by rw [e, List.append_assoc, List.getElem?_append_right (by omega), List.getElem?_append_left (by omega)]; simpa using hr)
  rwa [show off + (X.length + j) * 4 = off + X.length * 4 + j * 4 by omega] at this

set_option maxHeartbeats 8000000 in
theorem right_any (v : Value) (l : List Rc) (w : World) (hA : Rd w v l) (hR : Right l) (na : l.length ≤ 100000000) (sl : Small l) :
    Calls Try.prog 16 #[v] w fun e w' => e = .returned (.bool true) ∧ Below w.heap.size w w' := by
  have HRd := hide hA
  obtain ⟨ao, cap, rfl, h1, h2, h3⟩ := hA
  have HR := hide hR
  have HSm := hide sl
  clear hR sl
  go_enter Try.func16, Try.ntmps16
  go_wp2
  go_loopw [3, 4, 5] (fun fr at' i wr => ∃ (k f a : Nat) (P A B : List Rc), k ≤ l.length ∧ i = .int .i64 k ∧ fr = .int .i64 f ∧ at' = .int .i64 a ∧ f = P.length ∧ a = (P ++ A).length ∧ l.take k = P ++ A ++ B ∧ Bands P A B ∧ (0 < k → B ≠ []) ∧ Below w.heap.size w wr) (fun _ _ i _ => l.length - (intOf i).toNat)
  case atStart => exact ⟨0, 0, 0, [], [], [], Nat.zero_le _, rfl, rfl, rfl, rfl, rfl, rfl, Bands.start, fun h => absurd h (by omega), Below.refl _ _⟩
  case round =>
    obtain ⟨k, f, a, P, A, B, hk, rfl, rfl, rfl, hf, ha, htk, hBd, hBn, hbel⟩ := hrel
    have hsz := hbel.size
    by_cases hlt : k < l.length
    · obtain ⟨b, off, rfl, hb, hc⟩ := h3 (by intro e; subst e; simp at hlt)
      obtain ⟨x, hx⟩ : ∃ r, l[k]? = some r := ⟨l[k], by simp [hlt]⟩
      obtain ⟨c1, c2, c3, c4⟩ := (hc k x hx).below hbel hb
      have hpx := (unhide HR).pos x (List.mem_of_getElem? hx)
      have sx := (unhide HSm) x (List.mem_of_getElem? hx)
      obtain ⟨sx1, sx2, sx3, sx4⟩ := sx
      have lt1 : b < wr.heap.size := by omega
      have HTx : Hid (l.take (k + 1) = l.take k ++ [x]) := by show _ = _; rw [List.take_add_one, hx]; rfl
      have HX := hide hx
      have Hb := hide hbel
      have HBd := hide hBd
      have Htk := hide htk
      have HCe := hide hc
      have hfa : f ≤ a := by rw [hf, ha]; simp
      have hak : a ≤ k := by
        have := congrArg List.length htk
        rw [List.length_take] at this
        simp only [List.length_append] at this ha
        omega
      have Hf := hide hf
      have Ha := hide ha
      have HBn := hide hBn
      clear h3 hc hbel hBd htk hf ha hBn hx
      rcases Nat.eq_zero_or_pos k with hk0 | hk0
      · have Hk0 := hide hk0
        have e0 : P ++ A ++ B = [] := by rw [← unhide Htk, hk0]; rfl
        simp only [List.append_eq_nil_iff] at e0
        obtain ⟨⟨rfl, rfl⟩, rfl⟩ := e0
        have fz : f ≤ 0 := Nat.le_of_eq (unhide Hf)
        have az : a ≤ 0 := Nat.le_of_eq (unhide Ha)
        have kz : k ≤ 0 := Nat.le_of_eq hk0
        have az' : (a : Int) ≤ 0 := by omega
        have kz' : (k : Int) ≤ 0 := by omega
        have i0 : (0 : Int) ≤ (k : Int) := by omega
        have i1 : (k : Int) < (l.length : Int) := by omega
        have Ht1 : Hid (l.take (k + 1) = [] ++ [] ++ [x]) := by show _ = _; rw [unhide HTx, hk0]; rfl
        clear HBd Htk HBn hfa hak hk0
        by_cases hend : k + 1 = l.length
        · have hE : ((k : Int) == (l.length : Int) - 1) = true := by rw [beq_iff_eq]; omega
          go_wp2
          go_quiet (fail)
          go_wp2
          go_roundw
          case rel => exact ⟨k + 1, f, a, [], [], [x], by omega, by go_num, rfl, rfl, unhide Hf, unhide Ha, unhide Ht1, Bands.first, fun _ => by simp, below_drewN (unhide Hb) _⟩
          case measure => simp [intOf]; omega
        · have hE : ((k : Int) == (l.length : Int) - 1) = false := by rw [beq_eq_false_iff_ne]; omega
          obtain ⟨z, hz⟩ : ∃ r, l[k + 1]? = some r := ⟨l[k + 1]'(by omega), by rw [List.getElem?_eq_getElem (by omega)]⟩
          obtain ⟨e1, e2, e3, e4⟩ := ((unhide HCe) (k + 1) z hz).below (unhide Hb) hb
          have i3 : (k : Int) + 1 < (l.length : Int) := by omega
          by_cases hzy : z.y = x.y
          · have hD : (z.y != x.y) = false := by rw [hzy]; simp
            clear hzy hz
            go_wp2
            go_quiet (fail)
            go_wp2
            go_roundw
            case rel => exact ⟨k + 1, f, a, [], [], [x], by omega, by go_num, rfl, rfl, unhide Hf, unhide Ha, unhide Ht1, Bands.first, fun _ => by simp, below_drewN (unhide Hb) _⟩
            case measure => simp [intOf]; omega
          · have hD : (z.y != x.y) = true := by rw [bne_iff_ne]; exact hzy
            clear hzy hz
            go_wp2
            go_quiet (fail)
            go_wp2
            go_roundw
            case rel => exact ⟨k + 1, f, a, [], [], [x], by omega, by go_num, rfl, rfl, unhide Hf, unhide Ha, unhide Ht1, Bands.first, fun _ => by simp, below_drewN (unhide Hb) _⟩
            case measure => simp [intOf]; omega
      · obtain ⟨j, rfl⟩ : ∃ j, k = j + 1 := ⟨k - 1, by omega⟩
        obtain ⟨p, hp⟩ : ∃ r, l[j]? = some r := ⟨l[j]'(by omega), by rw [List.getElem?_eq_getElem (by omega)]⟩
        obtain ⟨d1, d2, d3, d4⟩ := ((unhide HCe) j p hp).below (unhide Hb) hb
        have hpp := (unhide HR).pos p (List.mem_of_getElem? hp)
        have sp := (unhide HSm) p (List.mem_of_getElem? hp)
        obtain ⟨sp1, sp2, sp3, sp4⟩ := sp
        have HPW := hide (pw_at (unhide HR).pw hp (unhide HX))
        have hyle := pw_y hpp.2 (unhide HPW)
        have HPB := hide (last_mem hp (unhide Htk) ((unhide HBn) (by omega)))
        have i0 : (0 : Int) ≤ (j : Int) := by omega
        have i1 : (j : Int) < (l.length : Int) := by omega
        have i2 : (j : Int) + 1 < (l.length : Int) := by omega
        have HP := hide hp
        clear hp
        have hbig : b < wr.heap.size := lt1
        have hw3 : IntKind.i64.wrap (j : Int) = (j : Int) := by rw [IntKind.wrap_i64]; omega
        go_wp2
        go_region_held3 (fun w' => w'.cell? ⟨b, off + j * 4, none⟩ = some (.int .i64 p.x) ∧ w'.cell? ⟨b, off + j * 4 + 1, none⟩ = some (.int .i64 p.y) ∧ w'.cell? ⟨b, off + j * 4 + 2, none⟩ = some (.int .i64 p.w) ∧ w'.cell? ⟨b, off + j * 4 + 3, none⟩ = some (.int .i64 p.h) ∧
            w'.cell? ⟨b, off + (j + 1) * 4, none⟩ = some (.int .i64 x.x) ∧ w'.cell? ⟨b, off + (j + 1) * 4 + 1, none⟩ = some (.int .i64 x.y) ∧ w'.cell? ⟨b, off + (j + 1) * 4 + 2, none⟩ = some (.int .i64 x.w) ∧ w'.cell? ⟨b, off + (j + 1) * 4 + 3, none⟩ = some (.int .i64 x.h))
          (first
            | go_keep
            | (go_split_ands
               refine ⟨?_, ?_, ?_, ?_, ?_, ?_, ?_, ?_⟩
               · (rw [hbN.cell (p := ⟨b, _, none⟩) hbig]; assumption)
               · (rw [hbN.cell (p := ⟨b, _, none⟩) hbig]; assumption)
               · (rw [hbN.cell (p := ⟨b, _, none⟩) hbig]; assumption)
               · (rw [hbN.cell (p := ⟨b, _, none⟩) hbig]; assumption)
               · (rw [hbN.cell (p := ⟨b, _, none⟩) hbig]; assumption)
               · (rw [hbN.cell (p := ⟨b, _, none⟩) hbig]; assumption)
               · (rw [hbN.cell (p := ⟨b, _, none⟩) hbig]; assumption)
               · (rw [hbN.cell (p := ⟨b, _, none⟩) hbig]; assumption)))
          ((go_at_call 44; refine (next_any p x _ ⟨hpp.2, sp1, sp2, sp3.2, sp4.2, hpp.1⟩ (unhide HPW)).mono ?_; rintro e w1 ⟨rfl, hbN⟩))
        have G1 := hide (show Below w.heap.size w w1 from by first | exact ((unhide Hb).drew).trans (hbN.mono hsz) | exact (unhide Hb).trans (hbN.mono hsz))
        have z1 := (unhide G1).size
        clear d1 d2 d3 d4 c1 c2 c3 c4 hbN
        obtain ⟨d1, d2, d3, d4⟩ := ((unhide HCe) j p (unhide HP)).below (unhide G1) hb
        obtain ⟨c1, c2, c3, c4⟩ := ((unhide HCe) (j + 1) x (unhide HX)).below (unhide G1) hb
        have Htk2 : Hid (l.take (j + 1 + 1) = P ++ A ++ (B ++ [x])) := by show _ = _; rw [unhide HTx, unhide Htk, List.append_assoc (P ++ A)]
        have HRd1 := hide ((unhide HRd).below (unhide G1))
        have lt2 : b < w1.heap.size := by omega
        have hw4 : IntKind.i64.wrap ((j : Int) + 1 + 1) = (j : Int) + 1 + 1 := by rw [IntKind.wrap_i64]; omega
        by_cases hy : x.y = p.y
        · have hyb : (x.y != p.y) = false := by rw [hy]; simp
          have HBd2 := hide ((unhide HBd).on (unhide HPB) hy)
          clear hy
          by_cases hend : j + 1 + 1 = l.length
          · have hE : ((j : Int) + 1 == (l.length : Int) - 1) = true := by rw [beq_iff_eq]; omega
            have HQ := hide (behind_none (k := j + 1) hend x)
            by_cases hAn : A = []
            · have ha0 : a = 0 := by have := unhide Ha; rw [hAn, (unhide HBd2).pn hAn] at this; simpa using this
              subst ha0
              clear hAn
              go_wp2
              go_quiet (fail)
              go_wp2
              go_quiet (fail)
              go_wp2
              go_roundw
              case rel => exact ⟨j + 1 + 1, f, 0, P, A, B ++ [x], by omega, by go_num, rfl, rfl, unhide Hf, unhide Ha, unhide Htk2, unhide HBd2, fun _ => by simp, below_drewN (unhide G1) _⟩
              case measure => simp [intOf]; omega
            · have ha0 : 0 < a := by have := unhide Ha; rw [List.length_append] at this; have := List.length_pos_iff.2 hAn; omega
              have ha0' : (0 : Int) < (a : Int) := by omega
              have HN1 := hide hAn
              clear hAn
              have HL2 : Hid (l = P ++ A ++ (B ++ [x]) ++ l.drop (j + 1 + 1)) := by show _ = _; rw [← unhide Htk2, List.take_append_drop]
              have HL1 : Hid (l = P ++ A ++ (B ++ [x] ++ l.drop (j + 1 + 1))) := by show _ = _; rw [← List.append_assoc (P ++ A)]; exact unhide HL2
              obtain ⟨pp, hpp0⟩ : ∃ r, A[0]? = some r := ⟨A[0]'(List.length_pos_iff.2 (unhide HN1)), by rw [List.getElem?_eq_getElem]⟩
              have HN2 : Hid (B ++ [x] ≠ []) := by simp [Hid]
              obtain ⟨qq, hqq0⟩ : ∃ r, (B ++ [x])[0]? = some r := ⟨(B ++ [x])[0]'(List.length_pos_iff.2 (unhide HN2)), by rw [List.getElem?_eq_getElem]⟩
              have HU : Hid (unl A (B ++ [x]) pp qq) := by
                refine (unhide HBd2).unlike (Q := l.drop (j + 1 + 1)) (by have h := unhide HR; rw [unhide HL2] at h; exact h) (List.mem_of_getElem? hpp0) (List.mem_of_getElem? hqq0) (fun r hr => ?_)
                have h1 := (unhide HBd2).sb qq (List.mem_of_getElem? hqq0) x (by simp)
                have h2 := (unhide HQ) r hr
                omega
              have Hp0 := hide hpp0
              have Hq0 := hide hqq0
              have HS1 : Hid (Small A) := fun r hr => (unhide HSm) r (by rw [unhide HL1]; simp [hr])
              have HS2 : Hid (Small (B ++ [x])) := fun r hr => (unhide HSm) r (by rw [unhide HL2]; first | (simp at hr ⊢; simp [hr]; done) | (simp at hr; rcases hr with hr | hr <;> simp [hr]))
              have HLn1 : Hid (A.length ≤ 100000000) := by have h := congrArg List.length (unhide HL1); simp only [List.length_append] at h; show _ ≤ _; omega
              have HLn2 : Hid ((B ++ [x]).length ≤ 100000000) := by have h := congrArg List.length (unhide HL2); simp only [List.length_append] at h; show _ ≤ _; simp only [List.length_append]; omega
              clear hpp0 hqq0
              have q1 : (0 : Int) ≤ (f : Int) := by omega
              have q2 : (f : Int) ≤ (a : Int) := by omega
              have q3 : (a : Int) ≤ (l.length : Int) := by omega
              have q4 : (a : Int) ≤ (cap : Int) := by omega
              have q5 : (0 : Int) ≤ (a : Int) := by omega
              have q6 : (a : Int) ≤ (j : Int) + 1 + 1 := by omega
              have q7 : (j : Int) + 1 + 1 ≤ (cap : Int) := by omega
              have n1 : ¬ cap = f := by have h1 := unhide Ha; have h2 := unhide Hf; have h3 := List.length_pos_iff.2 (unhide HN1); rw [List.length_append] at h1; omega
              have n2 : ¬ cap = a := by omega
              go_wp2
              go_quiet (fail)
              go_wp2
              go_quiet (fail)
              go_wp2
              go_region_held3 (fun _ => True) (trivial) ((go_at_call 45; refine (unlike_any _ _ A (B ++ [x]) pp qq _ (by exact rd_part ((unhide HRd1).below (by repeat (first | exact Below.refl _ _ | refine Below.drew ?_ | refine below_drewN ?_ _))) (unhide HL1) (unhide HN1) (unhide Hf) (by have h1 := unhide Ha; have h2 := unhide Hf; rw [List.length_append] at h1; omega)) (by exact rd_part ((unhide HRd1).below (by repeat (first | exact Below.refl _ _ | refine Below.drew ?_ | refine below_drewN ?_ _))) (unhide HL2) (unhide HN2) (unhide Ha) (by have h1 := congrArg List.length (unhide Htk2); rw [List.length_take, List.length_append] at h1; have h2 := unhide Ha; omega)) (unhide HLn1) (unhide HLn2) (unhide HS1) (unhide HS2) (unhide Hp0) (unhide Hq0) (unhide HU)).mono ?_; rintro e w2 ⟨rfl, hbU⟩))
              have G2 := hide (show Below w.heap.size w w2 from by first | exact (below_drewN (unhide G1) _).trans (hbU.mono z1) | exact ((below_drewN (unhide G1) _).drew).trans (hbU.mono z1))
              clear hbU
              go_wp2
              go_roundw
              case rel => exact ⟨j + 1 + 1, f, a, P, A, B ++ [x], by omega, by go_num, rfl, rfl, unhide Hf, unhide Ha, unhide Htk2, unhide HBd2, fun _ => by simp, unhide G2⟩
              case measure => simp [intOf]; omega
          · have hE : ((j : Int) + 1 == (l.length : Int) - 1) = false := by rw [beq_eq_false_iff_ne]; omega
            obtain ⟨z, hz⟩ : ∃ r, l[j + 1 + 1]? = some r := ⟨l[j + 1 + 1]'(by omega), by rw [List.getElem?_eq_getElem (by omega)]⟩
            obtain ⟨e1, e2, e3, e4⟩ := ((unhide HCe) (j + 1 + 1) z hz).below (unhide G1) hb
            have i3 : (j : Int) + 1 + 1 < (l.length : Int) := by omega
            by_cases hzy : z.y = x.y
            · have hD : (z.y != x.y) = false := by rw [hzy]; simp
              clear hzy hz
              go_wp2
              go_quiet (fail)
              go_wp2
              go_quiet (fail)
              go_wp2
              go_roundw
              case rel => exact ⟨j + 1 + 1, f, a, P, A, B ++ [x], by omega, by go_num, rfl, rfl, unhide Hf, unhide Ha, unhide Htk2, unhide HBd2, fun _ => by simp, below_drewN (unhide G1) _⟩
              case measure => simp [intOf]; omega
            · have hD : (z.y != x.y) = true := by rw [bne_iff_ne]; exact hzy
              have HQ := hide (behind_y (unhide HR) (unhide HX) hz hzy)
              clear hzy hz
              by_cases hAn : A = []
              · have ha0 : a = 0 := by have := unhide Ha; rw [hAn, (unhide HBd2).pn hAn] at this; simpa using this
                subst ha0
                clear hAn
                go_wp2
                go_quiet (fail)
                go_wp2
                go_quiet (fail)
                go_wp2
                go_roundw
                case rel => exact ⟨j + 1 + 1, f, 0, P, A, B ++ [x], by omega, by go_num, rfl, rfl, unhide Hf, unhide Ha, unhide Htk2, unhide HBd2, fun _ => by simp, below_drewN (unhide G1) _⟩
                case measure => simp [intOf]; omega
              · have ha0 : 0 < a := by have := unhide Ha; rw [List.length_append] at this; have := List.length_pos_iff.2 hAn; omega
                have ha0' : (0 : Int) < (a : Int) := by omega
                have HN1 := hide hAn
                clear hAn
                have HL2 : Hid (l = P ++ A ++ (B ++ [x]) ++ l.drop (j + 1 + 1)) := by show _ = _; rw [← unhide Htk2, List.take_append_drop]
                have HL1 : Hid (l = P ++ A ++ (B ++ [x] ++ l.drop (j + 1 + 1))) := by show _ = _; rw [← List.append_assoc (P ++ A)]; exact unhide HL2
                obtain ⟨pp, hpp0⟩ : ∃ r, A[0]? = some r := ⟨A[0]'(List.length_pos_iff.2 (unhide HN1)), by rw [List.getElem?_eq_getElem]⟩
                have HN2 : Hid (B ++ [x] ≠ []) := by simp [Hid]
                obtain ⟨qq, hqq0⟩ : ∃ r, (B ++ [x])[0]? = some r := ⟨(B ++ [x])[0]'(List.length_pos_iff.2 (unhide HN2)), by rw [List.getElem?_eq_getElem]⟩
                have HU : Hid (unl A (B ++ [x]) pp qq) := by
                  refine (unhide HBd2).unlike (Q := l.drop (j + 1 + 1)) (by have h := unhide HR; rw [unhide HL2] at h; exact h) (List.mem_of_getElem? hpp0) (List.mem_of_getElem? hqq0) (fun r hr => ?_)
                  have h1 := (unhide HBd2).sb qq (List.mem_of_getElem? hqq0) x (by simp)
                  have h2 := (unhide HQ) r hr
                  omega
                have Hp0 := hide hpp0
                have Hq0 := hide hqq0
                have HS1 : Hid (Small A) := fun r hr => (unhide HSm) r (by rw [unhide HL1]; simp [hr])
                have HS2 : Hid (Small (B ++ [x])) := fun r hr => (unhide HSm) r (by rw [unhide HL2]; first | (simp at hr ⊢; simp [hr]; done) | (simp at hr; rcases hr with hr | hr <;> simp [hr]))
                have HLn1 : Hid (A.length ≤ 100000000) := by have h := congrArg List.length (unhide HL1); simp only [List.length_append] at h; show _ ≤ _; omega
                have HLn2 : Hid ((B ++ [x]).length ≤ 100000000) := by have h := congrArg List.length (unhide HL2); simp only [List.length_append] at h; show _ ≤ _; simp only [List.length_append]; omega
                clear hpp0 hqq0
                have q1 : (0 : Int) ≤ (f : Int) := by omega
                have q2 : (f : Int) ≤ (a : Int) := by omega
                have q3 : (a : Int) ≤ (l.length : Int) := by omega
                have q4 : (a : Int) ≤ (cap : Int) := by omega
                have q5 : (0 : Int) ≤ (a : Int) := by omega
                have q6 : (a : Int) ≤ (j : Int) + 1 + 1 := by omega
                have q7 : (j : Int) + 1 + 1 ≤ (cap : Int) := by omega
                have n1 : ¬ cap = f := by have h1 := unhide Ha; have h2 := unhide Hf; have h3 := List.length_pos_iff.2 (unhide HN1); rw [List.length_append] at h1; omega
                have n2 : ¬ cap = a := by omega
                go_wp2
                go_quiet (fail)
                go_wp2
                go_quiet (fail)
                go_wp2
                go_region_held3 (fun _ => True) (trivial) ((go_at_call 45; refine (unlike_any _ _ A (B ++ [x]) pp qq _ (by exact rd_part ((unhide HRd1).below (by repeat (first | exact Below.refl _ _ | refine Below.drew ?_ | refine below_drewN ?_ _))) (unhide HL1) (unhide HN1) (unhide Hf) (by have h1 := unhide Ha; have h2 := unhide Hf; rw [List.length_append] at h1; omega)) (by exact rd_part ((unhide HRd1).below (by repeat (first | exact Below.refl _ _ | refine Below.drew ?_ | refine below_drewN ?_ _))) (unhide HL2) (unhide HN2) (unhide Ha) (by have h1 := congrArg List.length (unhide Htk2); rw [List.length_take, List.length_append] at h1; have h2 := unhide Ha; omega)) (unhide HLn1) (unhide HLn2) (unhide HS1) (unhide HS2) (unhide Hp0) (unhide Hq0) (unhide HU)).mono ?_; rintro e w2 ⟨rfl, hbU⟩))
                have G2 := hide (show Below w.heap.size w w2 from by first | exact (below_drewN (unhide G1) _).trans (hbU.mono z1) | exact ((below_drewN (unhide G1) _).drew).trans (hbU.mono z1))
                clear hbU
                go_wp2
                go_roundw
                case rel => exact ⟨j + 1 + 1, f, a, P, A, B ++ [x], by omega, by go_num, rfl, rfl, unhide Hf, unhide Ha, unhide Htk2, unhide HBd2, fun _ => by simp, unhide G2⟩
                case measure => simp [intOf]; omega
        · have hyb : (x.y != p.y) = true := by rw [bne_iff_ne]; exact hy
          have HBd2 := hide ((unhide HBd).new (unhide HPB) (show p.y < x.y by omega))
          have Ha2 : Hid (j + 1 = (P ++ A ++ B).length) := by show _ = _; rw [← unhide Htk, List.length_take]; omega
          have Htk3 : Hid (l.take (j + 1 + 1) = P ++ A ++ B ++ [x]) := by show _ = _; rw [unhide Htk2]; simp
          clear hy
          by_cases hend : j + 1 + 1 = l.length
          · have hE : ((j : Int) + 1 == (l.length : Int) - 1) = true := by rw [beq_iff_eq]; omega
            have HQ := hide (behind_none (k := j + 1) hend x)
            have HL2 : Hid (l = P ++ A ++ B ++ [x] ++ l.drop (j + 1 + 1)) := by show _ = _; rw [← unhide Htk3, List.take_append_drop]
            have HL1 : Hid (l = P ++ A ++ B ++ ([x] ++ l.drop (j + 1 + 1))) := by show _ = _; rw [← List.append_assoc (P ++ A ++ B)]; exact unhide HL2
            have HN1 := hide (show B ≠ [] from (unhide HBn) (by omega))
            obtain ⟨pp, hpp0⟩ : ∃ r, B[0]? = some r := ⟨B[0]'(List.length_pos_iff.2 (unhide HN1)), by rw [List.getElem?_eq_getElem]⟩
            have HN2 : Hid ([x] ≠ []) := by simp [Hid]
            obtain ⟨qq, hqq0⟩ : ∃ r, [x][0]? = some r := ⟨[x][0]'(List.length_pos_iff.2 (unhide HN2)), by rw [List.getElem?_eq_getElem]⟩
            have HU : Hid (unl B [x] pp qq) := by
              refine (unhide HBd2).unlike (Q := l.drop (j + 1 + 1)) (by have h := unhide HR; rw [unhide HL2] at h; exact h) (List.mem_of_getElem? hpp0) (List.mem_of_getElem? hqq0) (fun r hr => ?_)
              have h1 := (unhide HBd2).sb qq (List.mem_of_getElem? hqq0) x (by simp)
              have h2 := (unhide HQ) r hr
              omega
            have Hp0 := hide hpp0
            have Hq0 := hide hqq0
            have HS1 : Hid (Small B) := fun r hr => (unhide HSm) r (by rw [unhide HL1]; simp [hr])
            have HS2 : Hid (Small [x]) := fun r hr => (unhide HSm) r (by rw [unhide HL2]; first | (simp at hr ⊢; simp [hr]; done) | (simp at hr; rcases hr with hr | hr <;> simp [hr]))
            have HLn1 : Hid (B.length ≤ 100000000) := by have h := congrArg List.length (unhide HL1); simp only [List.length_append] at h; show _ ≤ _; omega
            have HLn2 : Hid ([x].length ≤ 100000000) := by show _ ≤ _; simp
            clear hpp0 hqq0
            have q1 : (0 : Int) ≤ (a : Int) := by omega
            have q2 : (a : Int) ≤ (j : Int) + 1 := by omega
            have q3 : (j : Int) + 1 ≤ (l.length : Int) := by omega
            have q4 : (j : Int) + 1 ≤ (cap : Int) := by omega
            have q6 : (j : Int) + 1 ≤ (j : Int) + 1 + 1 := by omega
            have q7 : (j : Int) + 1 + 1 ≤ (cap : Int) := by omega
            have n1 : ¬ cap = a := by omega
            have n2 : ¬ cap = j + 1 := by omega
            go_wp2
            go_quiet (fail)
            go_wp2
            go_quiet (fail)
            go_wp2
            go_region_held3 (fun _ => True) (trivial) ((go_at_call 45; refine (unlike_any _ _ B [x] pp qq _ (by exact rd_part ((unhide HRd1).below (by repeat (first | exact Below.refl _ _ | refine Below.drew ?_ | refine below_drewN ?_ _))) (unhide HL1) (unhide HN1) (unhide Ha) (by have h1 := unhide Ha2; have h2 := unhide Ha; rw [List.length_append] at h1; omega)) (by exact rd_part ((unhide HRd1).below (by repeat (first | exact Below.refl _ _ | refine Below.drew ?_ | refine below_drewN ?_ _))) (unhide HL2) (unhide HN2) (unhide Ha2) (by simp; omega)) (unhide HLn1) (unhide HLn2) (unhide HS1) (unhide HS2) (unhide Hp0) (unhide Hq0) (unhide HU)).mono ?_; rintro e w2 ⟨rfl, hbU⟩))
            have G2 := hide (show Below w.heap.size w w2 from by first | exact (below_drewN (unhide G1) _).trans (hbU.mono z1) | exact ((below_drewN (unhide G1) _).drew).trans (hbU.mono z1))
            clear hbU
            go_wp2
            go_roundw
            case rel => exact ⟨j + 1 + 1, a, j + 1, P ++ A, B, [x], by omega, by go_num, rfl, by go_num, unhide Ha, unhide Ha2, unhide Htk3, unhide HBd2, fun _ => by simp, unhide G2⟩
            case measure => simp [intOf]; omega
          · have hE : ((j : Int) + 1 == (l.length : Int) - 1) = false := by rw [beq_eq_false_iff_ne]; omega
            obtain ⟨z, hz⟩ : ∃ r, l[j + 1 + 1]? = some r := ⟨l[j + 1 + 1]'(by omega), by rw [List.getElem?_eq_getElem (by omega)]⟩
            obtain ⟨e1, e2, e3, e4⟩ := ((unhide HCe) (j + 1 + 1) z hz).below (unhide G1) hb
            have i3 : (j : Int) + 1 + 1 < (l.length : Int) := by omega
            by_cases hzy : z.y = x.y
            · have hD : (z.y != x.y) = false := by rw [hzy]; simp
              clear hzy hz
              go_wp2
              go_quiet (fail)
              go_wp2
              go_quiet (fail)
              go_wp2
              go_roundw
              case rel => exact ⟨j + 1 + 1, a, j + 1, P ++ A, B, [x], by omega, by go_num, rfl, by go_num, unhide Ha, unhide Ha2, unhide Htk3, unhide HBd2, fun _ => by simp, below_drewN (unhide G1) _⟩
              case measure => simp [intOf]; omega
            · have hD : (z.y != x.y) = true := by rw [bne_iff_ne]; exact hzy
              have HQ := hide (behind_y (unhide HR) (unhide HX) hz hzy)
              clear hzy hz
              have HL2 : Hid (l = P ++ A ++ B ++ [x] ++ l.drop (j + 1 + 1)) := by show _ = _; rw [← unhide Htk3, List.take_append_drop]
              have HL1 : Hid (l = P ++ A ++ B ++ ([x] ++ l.drop (j + 1 + 1))) := by show _ = _; rw [← List.append_assoc (P ++ A ++ B)]; exact unhide HL2
              have HN1 := hide (show B ≠ [] from (unhide HBn) (by omega))
              obtain ⟨pp, hpp0⟩ : ∃ r, B[0]? = some r := ⟨B[0]'(List.length_pos_iff.2 (unhide HN1)), by rw [List.getElem?_eq_getElem]⟩
              have HN2 : Hid ([x] ≠ []) := by simp [Hid]
              obtain ⟨qq, hqq0⟩ : ∃ r, [x][0]? = some r := ⟨[x][0]'(List.length_pos_iff.2 (unhide HN2)), by rw [List.getElem?_eq_getElem]⟩
              have HU : Hid (unl B [x] pp qq) := by
                refine (unhide HBd2).unlike (Q := l.drop (j + 1 + 1)) (by have h := unhide HR; rw [unhide HL2] at h; exact h) (List.mem_of_getElem? hpp0) (List.mem_of_getElem? hqq0) (fun r hr => ?_)
                have h1 := (unhide HBd2).sb qq (List.mem_of_getElem? hqq0) x (by simp)
                have h2 := (unhide HQ) r hr
                omega
              have Hp0 := hide hpp0
              have Hq0 := hide hqq0
              have HS1 : Hid (Small B) := fun r hr => (unhide HSm) r (by rw [unhide HL1]; simp [hr])
              have HS2 : Hid (Small [x]) := fun r hr => (unhide HSm) r (by rw [unhide HL2]; first | (simp at hr ⊢; simp [hr]; done) | (simp at hr; rcases hr with hr | hr <;> simp [hr]))
              have HLn1 : Hid (B.length ≤ 100000000) := by have h := congrArg List.length (unhide HL1); simp only [List.length_append] at h; show _ ≤ _; omega
              have HLn2 : Hid ([x].length ≤ 100000000) := by show _ ≤ _; simp
              clear hpp0 hqq0
              have q1 : (0 : Int) ≤ (a : Int) := by omega
              have q2 : (a : Int) ≤ (j : Int) + 1 := by omega
              have q3 : (j : Int) + 1 ≤ (l.length : Int) := by omega
              have q4 : (j : Int) + 1 ≤ (cap : Int) := by omega
              have q6 : (j : Int) + 1 ≤ (j : Int) + 1 + 1 := by omega
              have q7 : (j : Int) + 1 + 1 ≤ (cap : Int) := by omega
              have n1 : ¬ cap = a := by omega
              have n2 : ¬ cap = j + 1 := by omega
              go_wp2
              go_quiet (fail)
              go_wp2
              go_quiet (fail)
              go_wp2
              go_region_held3 (fun _ => True) (trivial) ((go_at_call 45; refine (unlike_any _ _ B [x] pp qq _ (by exact rd_part ((unhide HRd1).below (by repeat (first | exact Below.refl _ _ | refine Below.drew ?_ | refine below_drewN ?_ _))) (unhide HL1) (unhide HN1) (unhide Ha) (by have h1 := unhide Ha2; have h2 := unhide Ha; rw [List.length_append] at h1; omega)) (by exact rd_part ((unhide HRd1).below (by repeat (first | exact Below.refl _ _ | refine Below.drew ?_ | refine below_drewN ?_ _))) (unhide HL2) (unhide HN2) (unhide Ha2) (by simp; omega)) (unhide HLn1) (unhide HLn2) (unhide HS1) (unhide HS2) (unhide Hp0) (unhide Hq0) (unhide HU)).mono ?_; rintro e w2 ⟨rfl, hbU⟩))
              have G2 := hide (show Below w.heap.size w w2 from by first | exact (below_drewN (unhide G1) _).trans (hbU.mono z1) | exact ((below_drewN (unhide G1) _).drew).trans (hbU.mono z1))
              clear hbU
              go_wp2
              go_roundw
              case rel => exact ⟨j + 1 + 1, a, j + 1, P ++ A, B, [x], by omega, by go_num, rfl, by go_num, unhide Ha, unhide Ha2, unhide Htk3, unhide HBd2, fun _ => by simp, unhide G2⟩
              case measure => simp [intOf]; omega
    · have Hb := hide hbel
      clear hbel h3 hBd htk hBn
      go_wp2
      go_ret
      exact ⟨rfl, unhide Hb⟩
end Go.Proofs.Ytfnockbgkcgpkaa
