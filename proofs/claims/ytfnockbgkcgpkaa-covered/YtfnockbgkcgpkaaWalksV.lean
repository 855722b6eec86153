import Derived.Test.YtfnockbgkcgpkaaWalksU
import Derived.Test.YtfnockbgkcgpkaaWalksY
set_option linter.all false
namespace Go.Proofs.Ytfnockbgkcgpkaa
open Go.RowKit Go.Proofs.Panes
set_option maxRecDepth 100000
attribute [local go_sem ↓] Go.wp_at_zero Go.wp_at_succ

theorem first_cov (R : List Rc) (hR : Right R) (h : ∀ px py, covL R px py ↔ covL [⟨3, 4, 2, 1⟩, ⟨4, 4, 3, 1⟩, ⟨9, 0, 0, 0⟩] px py) : R = [⟨3, 4, 4, 1⟩] := by
  refine right_unique hR ⟨fun r hr => ?_, List.pairwise_singleton _ _, fun r hr g => ?_⟩ fun px py => (h px py).trans ?_
  · rw [List.mem_singleton.1 hr]; simp
  · rw [List.mem_singleton.1 hr] at g
    have h0 := (g 3).1 ⟨_, List.mem_singleton.2 rfl, by unfold Rc.cov; simp⟩
    obtain ⟨q, hq, e⟩ := h0
    rw [List.mem_singleton.1 hq] at e
    unfold Rc.cov at e
    simp at e
  · rw [covL_cons, covL_cons, covL_cons, covL_cons]
    have := covL_nil px py
    unfold Rc.cov
    simp only [this, or_false]
    omega
theorem lit_cov_ok : okL [⟨3, 4, 2, 1⟩, ⟨4, 4, 3, 1⟩, ⟨9, 0, 0, 0⟩] = true := by decide
theorem lit_three (w : World) (g : Nat) (h : w.heap[g]? = some (Obj.cells #[.int .i64 3, .int .i64 4, .int .i64 2, .int .i64 1, .int .i64 4, .int .i64 4, .int .i64 3, .int .i64 1, .int .i64 9, .int .i64 0, .int .i64 0, .int .i64 0] 29)) : Rd w (.slice (some ⟨g, 0, none⟩) 3 3) [⟨3, 4, 2, 1⟩, ⟨4, 4, 3, 1⟩, ⟨9, 0, 0, 0⟩] := by
  have e : ∀ j, w.cell? ⟨g, j, none⟩ = (#[Value.int .i64 3, .int .i64 4, .int .i64 2, .int .i64 1, .int .i64 4, .int .i64 4, .int .i64 3, .int .i64 1, .int .i64 9, .int .i64 0, .int .i64 0, .int .i64 0] : Array Value)[j]? := fun j => by rw [cell_of_row w g j _ _ _ h]
  refine ⟨_, 3, rfl, Nat.le_refl _, by simp [maxLen], fun _ => ⟨g, 0, rfl, lt_of_heap h, fun j r hr => ?_⟩⟩
  match j, hr with
  | 0, hr => simp at hr; subst hr; exact ⟨(e 0).trans rfl, (e 1).trans rfl, (e 2).trans rfl, (e 3).trans rfl⟩
  | 1, hr => simp at hr; subst hr; exact ⟨(e 4).trans rfl, (e 5).trans rfl, (e 6).trans rfl, (e 7).trans rfl⟩
  | 2, hr => simp at hr; subst hr; exact ⟨(e 8).trans rfl, (e 9).trans rfl, (e 10).trans rfl, (e 11).trans rfl⟩
  | j + 3, hr => simp at hr
/-- A list of numbers that may be read. -/
def RdI (w : World) (v : Value) (zs : List Int) : Prop :=
  ∃ ao cap, v = .slice ao zs.length cap ∧ zs.length ≤ 9223372036854775807 ∧ (zs ≠ [] → ∃ b off, ao = some ⟨b, off, none⟩ ∧ b < w.heap.size ∧ ∀ j x, zs[j]? = some x → w.cell? ⟨b, off + j, none⟩ = some (.int .i64 x))
theorem small_may {l : List Rc} (h : ∀ r ∈ l, May r) : Small l := fun r hr => by have := h r hr; unfold May at this; omega
theorem small_in {l : List Rc} (h : ∀ r ∈ l, -1000 ≤ r.x ∧ r.x + r.w ≤ 2000 ∧ -1000 ≤ r.y ∧ r.y + r.h ≤ 2000) (hp : ∀ r ∈ l, 0 < r.w ∧ 0 < r.h) : Small l := fun r hr => by have := h r hr; have := hp r hr; omega
theorem side_in {l : List Rc} (h : ∀ r ∈ l, -1000 ≤ r.x ∧ r.x + r.w ≤ 2000 ∧ -1000 ≤ r.y ∧ r.y + r.h ≤ 2000) (hp : ∀ r ∈ l, 0 < r.w ∧ 0 < r.h) : ∀ r ∈ l, (0 < r.w ∧ r.w ≤ 3000) ∧ (0 < r.h ∧ r.h ≤ 3000) := fun r hr => by have := h r hr; have := hp r hr; omega
/-- What a call of fits tells, wherever. -/
def FitsC (w : World) (a b u n s : Value) : Prop := ∀ W, Below w.heap.size w W → ∀ px py : Int, Calls Try.prog 19 #[a, b, u, n, s, .int .i64 px, .int .i64 py] W fun e w' => e = .returned (.bool true) ∧ Below W.heap.size W w'

set_option maxHeartbeats 16000000 in
theorem covered_any (va vb vx : Value) (a b : List Rc) (zs : List Int) (w : World) (hA : Rd w va a) (hB : Rd w vb b) (hZ : RdI w vx zs) (fa : ∀ r ∈ a, Fit r) (fb : ∀ r ∈ b, Fit r) (fz : ∀ x ∈ zs, -9223372036854775808 ≤ x ∧ x ≤ 9223372036854775807) (na : a.length ≤ 9223372036854775807) (nb : b.length ≤ 9223372036854775807) :
    Calls Try.prog 3 #[va, vb, vx] w fun e w' => e = .returned (.bool true) ∧ Below w.heap.size w w' := by
  have HA := hide hA
  have HB := hide hB
  have HZ := hide hZ
  have FA := hide fa
  have FB := hide fb
  have FZ := hide fz
  have KA := hide (tame_ok a)
  have KB := hide (tame_ok b)
  obtain ⟨A, eA⟩ : ∃ A, A = (a.take 40).map tameR := ⟨_, rfl⟩
  obtain ⟨B, eB⟩ : ∃ B, B = (b.take 40).map tameR := ⟨_, rfl⟩
  have HEA := hide eA
  have HEB := hide eB
  rw [← eA] at KA
  rw [← eB] at KB
  have hAl : A.length ≤ 40 := (okL_may (unhide KA)).1
  have hBl : B.length ≤ 40 := (okL_may (unhide KB)).1
  have SA := hide (small_may (okL_may (unhide KA)).2)
  have SB := hide (small_may (okL_may (unhide KB)).2)
  clear hA hB hZ fa fb fz eA eB
  go_enter Try.func3, Try.ntmps3
  go_wp2_with fail
  refine (tame_any _ a _ (unhide HA) (unhide FA) na).mono ?_
  rintro e w1 ⟨v1, rfl, hO1, hb1⟩
  rw [← unhide HEA] at hO1
  have G := hide hb1
  have z1 := hb1.size
  have OA := hide hO1
  have LA := hide hO1.rd
  obtain ⟨o1, c1, ev1, _⟩ := own_slice hO1
  subst ev1
  have HB := hide ((unhide HB).below hb1)
  clear hO1 hb1
  go_wp2_with fail
  refine (tame_any _ b _ (unhide HB) (unhide FB) nb).mono ?_
  rintro e w2 ⟨v2, rfl, hO2, hb2⟩
  rw [← unhide HEB] at hO2
  have G := hide ((unhide G).trans (hb2.mono z1))
  have z2 := (unhide G).size
  have OA := hide (Own.kept (unhide OA) hb2)
  have LA := hide ((unhide LA).below hb2)
  have OB := hide hO2
  have LB := hide hO2.rd
  obtain ⟨o2, c2, ev2, _⟩ := own_slice hO2
  subst ev2
  clear hO2 hb2 HA HB HEA HEB
  go_wp2_with fail
  have hbl := (Below.refl _ w2).alloc (Nat.le_refl _) (Obj.cells #[.int .i64 3, .int .i64 4, .int .i64 2, .int .i64 1, .int .i64 4, .int .i64 4, .int .i64 3, .int .i64 1, .int .i64 9, .int .i64 0, .int .i64 0, .int .i64 0] 29)
  refine (canon_ok _ _ _ (lit_three _ _ (new_at w2 _ _ rfl)) lit_cov_ok).mono ?_
  rintro e w3 ⟨v3, R3, rfl, hR3⟩
  have e3 := first_cov R3 hR3.right hR3.cov
  subst e3
  obtain ⟨g3, c3, ev3, _⟩ := own_some hR3.own (by simp)
  subst ev3
  have hat3 := own_at hR3.own (j := 0) (r := ⟨3, 4, 4, 1⟩) rfl
  simp only [Nat.zero_mul, Nat.zero_add] at hat3
  obtain ⟨x1, x2, x3, x4⟩ := hat3
  simp only at x1 x2 x3 x4
  have hb3 : Below w2.heap.size w2 w3 := hbl.trans (hR3.below.mono (by simp))
  have G := hide ((unhide G).trans (hb3.mono z2))
  have z3 := (unhide G).size
  have OA := hide (Own.kept (unhide OA) hb3)
  have OB := hide (Own.kept (unhide OB) hb3)
  have LA := hide ((unhide LA).below hb3)
  have LB := hide ((unhide LB).below hb3)
  clear hbl hR3 hb3
  go_wp2_with fail
  refine (union_ok _ _ A B _ (unhide LA) (unhide LB) (unhide KA) (unhide KB)).mono ?_
  rintro e w4 ⟨v4, U, rfl, hR⟩
  have hb := hR.below
  have G := hide ((unhide G).trans (hb.mono z3))
  have z4 := (unhide G).size
  have OA := hide (Own.kept (unhide OA) hb)
  have OB := hide (Own.kept (unhide OB) hb)
  have LA := hide ((unhide LA).below hb)
  have LB := hide ((unhide LB).below hb)
  have LU := hide hR.own.rd
  have DU := hide hR.right
  have CU := hide hR.cov
  have IU := hide hR.inb
  have NU := hide hR.len
  obtain ⟨o4, c4, ev, _⟩ := own_slice hR.own
  subst ev
  clear hR hb
  clear x1 x2 x3 x4
  go_wp2_with fail
  refine (intersect_ok _ _ A B _ (unhide LA) (unhide LB) (unhide KA) (unhide KB)).mono ?_
  rintro e w5 ⟨v5, N, rfl, hR⟩
  have hb := hR.below
  have G := hide ((unhide G).trans (hb.mono z4))
  have z5 := (unhide G).size
  have OA := hide (Own.kept (unhide OA) hb)
  have OB := hide (Own.kept (unhide OB) hb)
  have LA := hide ((unhide LA).below hb)
  have LB := hide ((unhide LB).below hb)
  have LU := hide ((unhide LU).below hb)
  have LN := hide hR.own.rd
  have DN := hide hR.right
  have CN := hide hR.cov
  have IN := hide hR.inb
  have NN := hide hR.len
  obtain ⟨o5, c5, ev, _⟩ := own_slice hR.own
  subst ev
  clear hR hb
  go_wp2_with fail
  refine (subtract_ok _ _ A B _ (unhide LA) (unhide LB) (unhide KA) (unhide KB)).mono ?_
  rintro e w6 ⟨v6, S, rfl, hR⟩
  have hb := hR.below
  have G := hide ((unhide G).trans (hb.mono z5))
  have z6 := (unhide G).size
  have OA := hide (Own.kept (unhide OA) hb)
  have OB := hide (Own.kept (unhide OB) hb)
  have LA := hide ((unhide LA).below hb)
  have LB := hide ((unhide LB).below hb)
  have LU := hide ((unhide LU).below hb)
  have LN := hide ((unhide LN).below hb)
  have LS := hide hR.own.rd
  have DS := hide hR.right
  have CS := hide hR.cov
  have IS := hide hR.inb
  have NS := hide hR.len
  obtain ⟨o6, c6, ev, _⟩ := own_slice hR.own
  subst ev
  clear hR hb
  go_wp2_with fail
  refine (canon_ok _ A _ (unhide LA) (unhide KA)).mono ?_
  rintro e w7 ⟨v7, K, rfl, hR⟩
  have hb := hR.below
  have G := hide ((unhide G).trans (hb.mono z6))
  have z7 := (unhide G).size
  have OA := hide (Own.kept (unhide OA) hb)
  have OB := hide (Own.kept (unhide OB) hb)
  have LA := hide ((unhide LA).below hb)
  have LB := hide ((unhide LB).below hb)
  have LU := hide ((unhide LU).below hb)
  have LN := hide ((unhide LN).below hb)
  have LS := hide ((unhide LS).below hb)
  have LK := hide hR.own.rd
  have DK := hide hR.right
  have CK := hide hR.cov
  have IK := hide hR.inb
  have NK := hide hR.len
  obtain ⟨o7, c7, ev, _⟩ := own_slice hR.own
  subst ev
  clear hR hb
  go_wp2_with fail
  refine (right_any _ U _ (unhide LU) (unhide DU) (by have := unhide NU; omega) (small_in (unhide IU) (unhide DU).pos)).mono ?_
  rintro e w8 ⟨rfl, hb⟩
  have G := hide ((unhide G).trans (hb.mono z7))
  have z8 := (unhide G).size
  have OA := hide (Own.kept (unhide OA) hb)
  have OB := hide (Own.kept (unhide OB) hb)
  have LA := hide ((unhide LA).below hb)
  have LB := hide ((unhide LB).below hb)
  have LU := hide ((unhide LU).below hb)
  have LN := hide ((unhide LN).below hb)
  have LS := hide ((unhide LS).below hb)
  have LK := hide ((unhide LK).below hb)
  clear hb
  go_wp2_with fail
  refine (right_any _ N _ (unhide LN) (unhide DN) (by have := unhide NN; omega) (small_in (unhide IN) (unhide DN).pos)).mono ?_
  rintro e w9 ⟨rfl, hb⟩
  have G := hide ((unhide G).trans (hb.mono z8))
  have z9 := (unhide G).size
  have OA := hide (Own.kept (unhide OA) hb)
  have OB := hide (Own.kept (unhide OB) hb)
  have LA := hide ((unhide LA).below hb)
  have LB := hide ((unhide LB).below hb)
  have LU := hide ((unhide LU).below hb)
  have LN := hide ((unhide LN).below hb)
  have LS := hide ((unhide LS).below hb)
  have LK := hide ((unhide LK).below hb)
  clear hb
  go_wp2_with fail
  refine (right_any _ S _ (unhide LS) (unhide DS) (by have := unhide NS; omega) (small_in (unhide IS) (unhide DS).pos)).mono ?_
  rintro e w10 ⟨rfl, hb⟩
  have G := hide ((unhide G).trans (hb.mono z9))
  have z10 := (unhide G).size
  have OA := hide (Own.kept (unhide OA) hb)
  have OB := hide (Own.kept (unhide OB) hb)
  have LA := hide ((unhide LA).below hb)
  have LB := hide ((unhide LB).below hb)
  have LU := hide ((unhide LU).below hb)
  have LN := hide ((unhide LN).below hb)
  have LS := hide ((unhide LS).below hb)
  have LK := hide ((unhide LK).below hb)
  clear hb
  go_wp2_with fail
  refine (right_any _ K _ (unhide LK) (unhide DK) (by have := unhide NK; omega) (small_in (unhide IK) (unhide DK).pos)).mono ?_
  rintro e w11 ⟨rfl, hb⟩
  have G := hide ((unhide G).trans (hb.mono z10))
  have z11 := (unhide G).size
  have OA := hide (Own.kept (unhide OA) hb)
  have OB := hide (Own.kept (unhide OB) hb)
  have LA := hide ((unhide LA).below hb)
  have LB := hide ((unhide LB).below hb)
  have LU := hide ((unhide LU).below hb)
  have LN := hide ((unhide LN).below hb)
  have LS := hide ((unhide LS).below hb)
  have LK := hide ((unhide LK).below hb)
  clear hb
  go_wp2_with fail
  refine (parea_ok _ A _ (unhide LA) (unhide KA)).mono ?_
  rintro e w12 ⟨M, hM, hMc, rfl, hb⟩
  have eM : M = K := right_unique hM (unhide DK) fun px py => (hMc px py).trans ((unhide CK) px py).symm
  subst eM
  have G := hide ((unhide G).trans (hb.mono z11))
  have z12 := (unhide G).size
  have OA := hide (Own.kept (unhide OA) hb)
  have OB := hide (Own.kept (unhide OB) hb)
  have LA := hide ((unhide LA).below hb)
  have LB := hide ((unhide LB).below hb)
  have LU := hide ((unhide LU).below hb)
  have LN := hide ((unhide LN).below hb)
  have LS := hide ((unhide LS).below hb)
  have LK := hide ((unhide LK).below hb)
  clear hb hM hMc
  have hAr := areas_fit (unhide DU) (unhide DN) (unhide DS) (unhide DK) (unhide CU) (unhide CN) (unhide CS) (unhide CK) (unhide IU) (unhide IN) (unhide IS) (unhide IK)
  have HAr := hide hAr
  clear hAr
  have bS : 0 ≤ areaL S ∧ areaL S ≤ 200000000000000 := ⟨areaL_nonneg (unhide DS).pos, by have h := areaL_le S (side_in (unhide IS) (unhide DS).pos); have h2 := unhide NS; omega⟩
  have bN : 0 ≤ areaL N ∧ areaL N ≤ 200000000000000 := ⟨areaL_nonneg (unhide DN).pos, by have h := areaL_le N (side_in (unhide IN) (unhide DN).pos); have h2 := unhide NN; omega⟩
  have bU : 0 ≤ areaL U ∧ areaL U ≤ 200000000000000 := ⟨areaL_nonneg (unhide DU).pos, by have h := areaL_le U (side_in (unhide IU) (unhide DU).pos); have h2 := unhide NU; omega⟩
  have bK : 0 ≤ areaL M ∧ areaL M ≤ 200000000000000 := ⟨areaL_nonneg (unhide DK).pos, by have h := areaL_le M (side_in (unhide IK) (unhide DK).pos); have h2 := unhide NK; omega⟩
  have hq1 : ((areaL S + areaL N) != areaL M) = false := by rw [(unhide HAr).1]; simp
  have hq2 : areaL M ≤ areaL U := (unhide HAr).2
  go_wp2_with fail
  refine (area_any _ M _ (unhide LK) (by have := unhide NK; omega) (side_in (unhide IK) (unhide DK).pos)).mono ?_
  rintro e w13 ⟨rfl, hb⟩
  have G := hide ((unhide G).trans (hb.mono z12))
  have z13 := (unhide G).size
  have OA := hide (Own.kept (unhide OA) hb)
  have OB := hide (Own.kept (unhide OB) hb)
  have LA := hide ((unhide LA).below hb)
  have LB := hide ((unhide LB).below hb)
  have LU := hide ((unhide LU).below hb)
  have LN := hide ((unhide LN).below hb)
  have LS := hide ((unhide LS).below hb)
  have LK := hide ((unhide LK).below hb)
  clear hb
  go_wp2_with fail
  refine (area_any _ S _ (unhide LS) (by have := unhide NS; omega) (side_in (unhide IS) (unhide DS).pos)).mono ?_
  rintro e w14 ⟨rfl, hb⟩
  have G := hide ((unhide G).trans (hb.mono z13))
  have z14 := (unhide G).size
  have OA := hide (Own.kept (unhide OA) hb)
  have OB := hide (Own.kept (unhide OB) hb)
  have LA := hide ((unhide LA).below hb)
  have LB := hide ((unhide LB).below hb)
  have LU := hide ((unhide LU).below hb)
  have LN := hide ((unhide LN).below hb)
  have LS := hide ((unhide LS).below hb)
  have LK := hide ((unhide LK).below hb)
  clear hb
  go_wp2_with fail
  refine (area_any _ N _ (unhide LN) (by have := unhide NN; omega) (side_in (unhide IN) (unhide DN).pos)).mono ?_
  rintro e w15 ⟨rfl, hb⟩
  have G := hide ((unhide G).trans (hb.mono z14))
  have z15 := (unhide G).size
  have OA := hide (Own.kept (unhide OA) hb)
  have OB := hide (Own.kept (unhide OB) hb)
  have LA := hide ((unhide LA).below hb)
  have LB := hide ((unhide LB).below hb)
  have LU := hide ((unhide LU).below hb)
  have LN := hide ((unhide LN).below hb)
  have LS := hide ((unhide LS).below hb)
  have LK := hide ((unhide LK).below hb)
  clear hb
  go_wp2_with fail
  refine (area_any _ M _ (unhide LK) (by have := unhide NK; omega) (side_in (unhide IK) (unhide DK).pos)).mono ?_
  rintro e w16 ⟨rfl, hb⟩
  have G := hide ((unhide G).trans (hb.mono z15))
  have z16 := (unhide G).size
  have OA := hide (Own.kept (unhide OA) hb)
  have OB := hide (Own.kept (unhide OB) hb)
  have LA := hide ((unhide LA).below hb)
  have LB := hide ((unhide LB).below hb)
  have LU := hide ((unhide LU).below hb)
  have LN := hide ((unhide LN).below hb)
  have LS := hide ((unhide LS).below hb)
  have LK := hide ((unhide LK).below hb)
  clear hb
  go_wp2_with fail
  refine (area_any _ U _ (unhide LU) (by have := unhide NU; omega) (side_in (unhide IU) (unhide DU).pos)).mono ?_
  rintro e w17 ⟨rfl, hb⟩
  have G := hide ((unhide G).trans (hb.mono z16))
  have z17 := (unhide G).size
  have OA := hide (Own.kept (unhide OA) hb)
  have OB := hide (Own.kept (unhide OB) hb)
  have LA := hide ((unhide LA).below hb)
  have LB := hide ((unhide LB).below hb)
  have LU := hide ((unhide LU).below hb)
  have LN := hide ((unhide LN).below hb)
  have LS := hide ((unhide LS).below hb)
  have LK := hide ((unhide LK).below hb)
  clear hb
  go_wp2_with fail
  refine (area_any _ M _ (unhide LK) (by have := unhide NK; omega) (side_in (unhide IK) (unhide DK).pos)).mono ?_
  rintro e w18 ⟨rfl, hb⟩
  have G := hide ((unhide G).trans (hb.mono z17))
  have z18 := (unhide G).size
  have OA := hide (Own.kept (unhide OA) hb)
  have OB := hide (Own.kept (unhide OB) hb)
  have LA := hide ((unhide LA).below hb)
  have LB := hide ((unhide LB).below hb)
  have LU := hide ((unhide LU).below hb)
  have LN := hide ((unhide LN).below hb)
  have LS := hide ((unhide LS).below hb)
  have LK := hide ((unhide LK).below hb)
  clear hb
  go_wp2_with (first
    | (at_builtin; refine append_rects rfl (.tmp 147) (.tmp 148) rfl w18.heap.size _ _ _ [] A rfl (own_nil _) rfl (unhide OA) (by simp; omega) (Nat.le_refl _) ?_; intro vl1 wa hown hgrow; have OL1 := hide hown; have HG1 := hide hgrow; have za : w18.heap.size ≤ wa.heap.size := hgrow.size; have hba : Below w18.heap.size w18 wa := below_of_grown hgrow; have OB2 := hide (Own.kept (unhide OB) hba); clear hown hgrow)
    | (at_builtin; refine append_rects rfl (.tmp 150) (.tmp 151) rfl w18.heap.size _ _ _ ([] ++ A) B rfl (unhide OL1) rfl (unhide OB2) (by simp; omega) za ?_; intro vl2 wl hown hgrow; have OL := hide hown; have HG2 := hide hgrow; clear hown hgrow))
  have hbl : Below w18.heap.size w18 wl := hba.grown (unhide HG2) za (Own.row_ge (unhide OL1))
  have G := hide ((unhide G).trans (hbl.mono z18))
  have zl := (unhide G).size
  have OA := hide (Own.kept (unhide OA) hbl)
  have OB := hide (Own.kept (unhide OB) hbl)
  have LA := hide ((unhide LA).below hbl)
  have LB := hide ((unhide LB).below hbl)
  have LU := hide ((unhide LU).below hbl)
  have LN := hide ((unhide LN).below hbl)
  have LS := hide ((unhide LS).below hbl)
  have LK := hide ((unhide LK).below hbl)
  clear hbl hba OL1 HG1 HG2 OB2
  obtain ⟨Lst, hLst⟩ : ∃ Lst, Lst = A ++ B := ⟨_, rfl⟩
  have OL2 : Own wl w18.heap.size vl2 Lst := by rw [hLst]; have h := unhide OL; rwa [List.nil_append] at h
  have hLl : Lst.length ≤ 80 := by rw [hLst, List.length_append]; omega
  have HSm : Hid (Small Lst) := by
    intro r hr
    rw [hLst] at hr
    exact (List.mem_append.1 hr).elim ((unhide SA) r) ((unhide SB) r)
  obtain ⟨lo, lc, el, h1, h2, h3⟩ := OL2.rd
  subst el
  have HCell := hide h3
  have HF : Hid (FitsC wl (.slice o1 A.length c1) (.slice o2 B.length c2) (.slice o4 U.length c4) (.slice o5 N.length c5) (.slice o6 S.length c6)) := fun W hW px py =>
    fits_any _ _ _ _ _ A B U N S px py W ((unhide LA).below hW) ((unhide LB).below hW) ((unhide LU).below hW) ((unhide LN).below hW) ((unhide LS).below hW) (by omega) (by omega) (by have := unhide NU; omega) (by have := unhide NN; omega) (by have := unhide NS; omega)
      (unhide SA) (unhide SB) (small_in (unhide IU) (unhide DU).pos) (small_in (unhide IN) (unhide DN).pos) (small_in (unhide IS) (unhide DS).pos) (unhide DU) (unhide DN) (unhide DS) (unhide CU) (unhide CN) (unhide CS)
  have HZl : Hid (∃ ao cap, vx = .slice ao zs.length cap ∧ zs.length ≤ 9223372036854775807 ∧ (zs ≠ [] → ∃ b off, ao = some ⟨b, off, none⟩ ∧ b < wl.heap.size ∧ ∀ j x, zs[j]? = some x → wl.cell? ⟨b, off + j, none⟩ = some (.int .i64 x))) := by
    obtain ⟨ao, cap, e, hl, hz⟩ := unhide HZ
    refine ⟨ao, cap, e, hl, fun hne => ?_⟩
    obtain ⟨bz, oz, e1, e2, e3⟩ := hz hne
    exact ⟨bz, oz, e1, by omega, fun j x hx => ((unhide G).cell (p := ⟨bz, oz + j, none⟩) e2).trans (e3 j x hx)⟩
  clear h3 hLst OL OL2 LA LB LU LN LS LK OA OB SA SB KA KB DU DN DS DK CU CN CS CK IU IN IS IK NU NN NS NK HAr hq1 hq2 bS bN bU bK HZ
  clear z1 z2 z3 z4 z5 z6 z7 z8 z9 z10 z11 z12 z13 z14 z15 z16 z17 z18 za
  obtain ⟨xo, xc, ex, hxl, hxc⟩ := unhide HZl
  subst ex
  have HXc := hide hxc
  clear HZl hxc
  go_loopw [24] (fun i wr => ∃ k : Nat, k ≤ Lst.length ∧ i = .int .i64 k ∧ Below wl.heap.size wl wr) (fun i _ => Lst.length - (intOf i).toNat)
  case atStart => exact ⟨0, Nat.zero_le _, rfl, Below.refl _ _⟩
  case round =>
    obtain ⟨k, hk, rfl, hbel⟩ := hrel
    have hsz := hbel.size
    by_cases hlt : k < Lst.length
    · obtain ⟨b1, off1, rfl, hb1, hc1⟩ := (unhide HCell) (by intro e; rw [e] at hlt; simp at hlt)
      obtain ⟨r, hr⟩ : ∃ r, Lst[k]? = some r := ⟨Lst[k], by simp [hlt]⟩
      obtain ⟨s1, s2, s3, s4⟩ := (unhide HSm) r (List.mem_of_getElem? hr)
      have HAt := hide (hc1 k r hr)
      have Hb := hide hbel
      have i0 : (0 : Int) ≤ (k : Int) := by omega
      have i1 : (k : Int) < (Lst.length : Int) := by omega
      clear hr hc1 hbel
      go_wp2
      go_loopw [25] (fun z wr => (z = .int .i64 0 ∨ z = .int .i64 1 ∨ z = .int .i64 2 ∨ z = .int .i64 3 ∨ z = .int .i64 4) ∧ Below wl.heap.size wl wr) (fun z _ => 4 - (intOf z).toNat)
      case atStart => exact ⟨.inl rfl, unhide Hb⟩
      case round =>
        obtain ⟨hz, hbel⟩ := hrel
        obtain ⟨x1, x2, x3, x4⟩ := (unhide HAt).below hbel hb1
        have hsz2 := hbel.size
        have Hb2 := hide hbel
        clear hbel
        rcases hz with rfl | rfl | rfl | rfl | rfl
        · go_wp2
          go_quiet (fail)
          go_wp2
          go_quiet (fail)
          go_wp2_with fail
          refine ((unhide HF) _ (by first | exact below_drewN (unhide Hb2) _ | exact below_drewN (below_drewN (unhide Hb2) _) _) _ _).mono ?_
          rintro e y1 ⟨rfl, hy1⟩
          have G1 := hide (show Below wl.heap.size wl y1 from by first | exact (below_drewN (unhide Hb2) _).trans (hy1.mono hsz2) | exact (below_drewN (below_drewN (unhide Hb2) _) _).trans (hy1.mono hsz2))
          have zy1 := (unhide G1).size
          clear hy1
          go_wp2_with fail
          refine ((unhide HF) _ (unhide G1) _ _).mono ?_
          rintro e y2 ⟨rfl, hy2⟩
          have G2 := hide ((unhide G1).trans (hy2.mono zy1))
          clear hy2
          go_wp2
          go_roundw
          case rel => exact ⟨.inr (.inl rfl), unhide G2⟩
          case measure => simp [intOf]
        · go_wp2
          go_quiet (fail)
          go_wp2
          go_quiet (fail)
          go_wp2_with fail
          refine ((unhide HF) _ (by first | exact below_drewN (unhide Hb2) _ | exact below_drewN (below_drewN (unhide Hb2) _) _) _ _).mono ?_
          rintro e y1 ⟨rfl, hy1⟩
          have G1 := hide (show Below wl.heap.size wl y1 from by first | exact (below_drewN (unhide Hb2) _).trans (hy1.mono hsz2) | exact (below_drewN (below_drewN (unhide Hb2) _) _).trans (hy1.mono hsz2))
          have zy1 := (unhide G1).size
          clear hy1
          go_wp2_with fail
          refine ((unhide HF) _ (unhide G1) _ _).mono ?_
          rintro e y2 ⟨rfl, hy2⟩
          have G2 := hide ((unhide G1).trans (hy2.mono zy1))
          clear hy2
          go_wp2
          go_roundw
          case rel => exact ⟨.inr (.inr (.inl rfl)), unhide G2⟩
          case measure => simp [intOf]
        · go_wp2
          go_quiet (fail)
          go_wp2
          go_quiet (fail)
          go_wp2_with fail
          refine ((unhide HF) _ (by first | exact below_drewN (unhide Hb2) _ | exact below_drewN (below_drewN (unhide Hb2) _) _) _ _).mono ?_
          rintro e y1 ⟨rfl, hy1⟩
          have G1 := hide (show Below wl.heap.size wl y1 from by first | exact (below_drewN (unhide Hb2) _).trans (hy1.mono hsz2) | exact (below_drewN (below_drewN (unhide Hb2) _) _).trans (hy1.mono hsz2))
          have zy1 := (unhide G1).size
          clear hy1
          go_wp2_with fail
          refine ((unhide HF) _ (unhide G1) _ _).mono ?_
          rintro e y2 ⟨rfl, hy2⟩
          have G2 := hide ((unhide G1).trans (hy2.mono zy1))
          clear hy2
          go_wp2
          go_roundw
          case rel => exact ⟨.inr (.inr (.inr (.inl rfl))), unhide G2⟩
          case measure => simp [intOf]
        · go_wp2
          go_quiet (fail)
          go_wp2
          go_quiet (fail)
          go_wp2_with fail
          refine ((unhide HF) _ (by first | exact below_drewN (unhide Hb2) _ | exact below_drewN (below_drewN (unhide Hb2) _) _) _ _).mono ?_
          rintro e y1 ⟨rfl, hy1⟩
          have G1 := hide (show Below wl.heap.size wl y1 from by first | exact (below_drewN (unhide Hb2) _).trans (hy1.mono hsz2) | exact (below_drewN (below_drewN (unhide Hb2) _) _).trans (hy1.mono hsz2))
          have zy1 := (unhide G1).size
          clear hy1
          go_wp2_with fail
          refine ((unhide HF) _ (unhide G1) _ _).mono ?_
          rintro e y2 ⟨rfl, hy2⟩
          have G2 := hide ((unhide G1).trans (hy2.mono zy1))
          clear hy2
          go_wp2
          go_roundw
          case rel => exact ⟨.inr (.inr (.inr (.inr rfl))), unhide G2⟩
          case measure => simp [intOf]
        · go_wp2
          go_roundw
          case rel => exact ⟨k + 1, by omega, by go_num, unhide Hb2⟩
          case measure => simp [intOf]; omega
    · have Hb := hide hbel
      clear hbel HCell HSm
      go_wp2
      go_loopw [30] (fun i wr => ∃ m : Nat, m ≤ zs.length ∧ m % 2 = 0 ∧ i = .int .i64 m ∧ Below wl.heap.size wl wr) (fun i _ => zs.length - (intOf i).toNat)
      case atStart => exact ⟨0, Nat.zero_le _, rfl, rfl, unhide Hb⟩
      case round =>
        obtain ⟨m, hm, hm2, rfl, hbel⟩ := hrel
        have hsz3 := hbel.size
        have hw5 : IntKind.i64.wrap ((m : Int) + 1) = (m : Int) + 1 := by rw [IntKind.wrap_i64]; omega
        have Hm2 := hide hm2
        have HXl := hide hxl
        clear hm2 hxl
        by_cases hlt : m + 1 < zs.length
        · obtain ⟨bx, ox, rfl, hbx, hcx⟩ := (unhide HXc) (by intro e; rw [e] at hlt; simp at hlt)
          obtain ⟨p, hp⟩ : ∃ r, zs[m]? = some r := ⟨zs[m], by rw [List.getElem?_eq_getElem]⟩
          obtain ⟨q, hq⟩ : ∃ r, zs[m + 1]? = some r := ⟨zs[m + 1], by rw [List.getElem?_eq_getElem]⟩
          have cp := (hbel.cell (p := ⟨bx, ox + m, none⟩) hbx).trans (hcx m p hp)
          have cq := (hbel.cell (p := ⟨bx, ox + (m + 1), none⟩) hbx).trans (hcx (m + 1) q hq)
          have Fp := hide ((unhide FZ) p (List.mem_of_getElem? hp))
          have Fq := hide ((unhide FZ) q (List.mem_of_getElem? hq))
          have i0 : (0 : Int) ≤ (m : Int) := by omega
          have i1 : (m : Int) < (zs.length : Int) := by omega
          have i2 : (m : Int) + 1 < (zs.length : Int) := by omega
          have hw6 : IntKind.i64.wrap ((m : Int) + 2) = (m : Int) + 2 := by have := unhide HXl; rw [IntKind.wrap_i64]; omega
          have i3 : (0 : Int) ≤ (m : Int) + 1 := by omega
          have hbig : bx < wr.heap.size := by omega
          have Hb3 := hide hbel
          clear hp hq hcx hbel
          go_wp2
          go_region_held3 (fun w' => w'.cell? ⟨bx, ox + m, none⟩ = some (.int .i64 p) ∧ w'.cell? ⟨bx, ox + (m + 1), none⟩ = some (.int .i64 q))
            (first
              | go_keep
              | (go_split_ands
                 refine ⟨?_, ?_⟩
                 · (rw [hbF.cell (p := ⟨bx, _, none⟩) hbig]; assumption)
                 · (rw [hbF.cell (p := ⟨bx, _, none⟩) hbig]; assumption)))
            ((first
              | (go_at_call 20; refine (pick_any _ _ _ (by first | exact unhide Fp | exact unhide Fq) (by omega)).mono ?_; rintro e w' ⟨rfl, rfl⟩)
              | (go_at_call 19; refine ((unhide HF) _ (by repeat (first | exact unhide Hb3 | refine Below.drew ?_ | refine below_drewN ?_ _)) _ _).mono ?_; rintro e y1 ⟨rfl, hbF⟩)))
          have G3 := hide (show Below wl.heap.size wl y1 from by first | exact ((unhide Hb3).drew).trans (hbF.mono hsz3) | exact (unhide Hb3).trans (hbF.mono hsz3))
          clear hbF
          go_wp2
          go_roundw
          case rel => exact ⟨m + 2, by omega, by have := unhide Hm2; omega, by go_num, unhide G3⟩
          case measure => simp [intOf]; omega
        · have Hb3 := hide hbel
          clear hbel HXc
          go_wp2
          go_ret
          exact ⟨rfl, (unhide G).trans ((unhide Hb3).mono zl)⟩
end Go.Proofs.Ytfnockbgkcgpkaa
