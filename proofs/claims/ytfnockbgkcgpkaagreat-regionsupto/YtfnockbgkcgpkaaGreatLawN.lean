import Derived.Test.YtfnockbgkcgpkaaGreatLawM
set_option linter.all false
namespace Go.Proofs.YtfnockbgkcgpkaaGreat
open Go.RowKit Go.Proofs.Panes
set_option maxRecDepth 100000
attribute [local go_sem ↓] Go.wp_at_zero Go.wp_at_succ


/-- How many pixels, as the program says it; as the document says it. -/
def AnsA (a : List Rc) (n e : Int) : Prop := if okL a = true then e = 0 ∧ ∃ R, Right R ∧ (∀ px py, covL R px py ↔ covL a px py) ∧ n = areaL R else e = 1 ∧ n = 0
def AnsAD (a : List Rc) (n e : Int) : Prop := if okL a = true then e = 0 ∧ ∃ R, Doc 1 a [] R ∧ n = areaL R else e = 1 ∧ n = 0
theorem ansA_same {a : List Rc} {n e m f : Int} (h : AnsA a n e) (g : AnsAD a m f) : n = m ∧ e = f := by
  unfold AnsA at h
  unfold AnsAD at g
  split at h <;> rename_i hc
  · rw [if_pos hc] at g
    obtain ⟨e1, R, hr, hcov, e2⟩ := h
    obtain ⟨f1, D, hd, f2⟩ := g
    have : R = D := right_unique hr hd.right fun px py => (hcov px py).trans ((way_canon a px py).trans (hd.cov px py).symm)
    exact ⟨by rw [e2, f2, this], by rw [e1, f1]⟩
  · rw [if_neg hc] at g
    exact ⟨by rw [h.2, g.2], by rw [h.1, g.1]⟩
theorem parea_any (v : Value) (a : List Rc) (w : World) (hA : Rd w v a) :
    Calls Tryz.prog 32 #[v] w fun x w' => ∃ n e, x = .returned (.tuple #[.int .i64 n, .int .i64 e]) ∧ AnsA a n e ∧ Below w.heap.size w w' := by
  by_cases hc : okL a = true
  · exact (parea_ok v a w hA hc).mono fun x w' ⟨R, h1, h2, he, hb⟩ => ⟨_, 0, he, by unfold AnsA; rw [if_pos hc]; exact ⟨rfl, R, h1, h2, rfl⟩, hb⟩
  · exact (parea_err v a w hA (by cases h : okL a; rfl; exact absurd h hc)).mono fun x w' ⟨he, hb⟩ => ⟨_, 1, he, by unfold AnsA; rw [if_neg hc]; exact ⟨rfl, rfl⟩, hb⟩
theorem docarea_any (v : Value) (a : List Rc) (w : World) (hA : Rd w v a) :
    Calls Tryz.prog 34 #[v] w fun x w' => ∃ n e, x = .returned (.tuple #[.int .i64 n, .int .i64 e]) ∧ AnsAD a n e ∧ Below w.heap.size w w' := by
  by_cases hc : okL a = true
  · exact (docArea_ok v a w hA hc).mono fun x w' ⟨R, h1, he, hb⟩ => ⟨_, 0, he, by unfold AnsAD; rw [if_pos hc]; exact ⟨rfl, R, h1, rfl⟩, hb⟩
  · exact (docArea_err v a w hA (by cases h : okL a; rfl; exact absurd h hc)).mono fun x w' ⟨he, hb⟩ => ⟨_, 1, he, by unfold AnsAD; rw [if_neg hc]; exact ⟨rfl, rfl⟩, hb⟩

theorem stepped_same {base wb : Nat} {gr gc go ss kr : Value} {es : List Ent} {w w' : World}
    (hbx : w.heap[wb]? = some (.cells #[gr, gc, go, ss, kr, .slice none 0 0, .slice none 0 0] 39)) (hK : OwnE w base kr es) (hE : ∀ e ∈ es, EntOk base w e) (hB : Below w.heap.size w w') :
    Stepped base wb gr gc go ss kr es w w' kr es :=
  ⟨(hB.block _ (lt_of_heap hbx)).trans hbx, OwnE.but (S := fun _ => False) hK (.of_below hB) (fun _ _ h => h), fun e he => (hE e he).below hB, by omega, fun k hk => .inl hk, .of_below hB⟩
set_option maxHeartbeats 8000000 in
theorem rects_area (U : Nat → Prop) (base wb : Nat) (gr gc go ss kr : Value) (es : List Ent) (L : List (List Rc)) (oA oB oC : Int) (w : World)
    (hbx : w.heap[wb]? = some (.cells #[gr, gc, go, ss, kr, .slice none 0 0, .slice none 0 0] 39)) (hK : OwnE w base kr es) (hE : ∀ e ∈ es, EntOk base w e) (hbase : base ≤ w.heap.size) (hL : RdLL U w gr L)
    (hA : -9223372036854775808 ≤ oA ∧ oA ≤ 9223372036854775807) (hB : -9223372036854775808 ≤ oB ∧ oB ≤ 9223372036854775807) (hn : es.length ≤ 1900000) (hLn : 0 < L.length ∧ L.length ≤ 2000000) (hll : ∀ l ∈ L, l.length ≤ 2000000) (hU : ∀ k, U k → k < w.heap.size ∧ k ≠ wb ∧ kr.ownBlock ≠ some k) :
    Calls Tryz.prog 12 #[.pointer (some ⟨wb, 0, none⟩), .agg #[.int .i64 5, .int .i64 oA, .int .i64 oB, .int .i64 oC]] w fun e w' => e = .returned (.bool true) ∧ ∃ kr' es', Stepped base wb gr gc go ss kr es w w' kr' es' := by
  obtain ⟨ia, ea, hia⟩ := pk_at oA L.length hLn.1
  obtain ⟨ib, eb, hib⟩ := pk_at oB L.length hLn.1
  obtain ⟨a, ha⟩ : ∃ a, L[ia]? = some a := ⟨L[ia], by simp [hia]⟩
  obtain ⟨b, hb⟩ : ∃ b, L[ib]? = some b := ⟨L[ib], by simp [hib]⟩
  obtain ⟨gb, goff, gcap, ao, acap, rfl, hgb, hca, hRa⟩ := hL.at ha
  obtain ⟨gb', goff', gcap', bo, bcap, e, _, hcb, hRb⟩ := hL.at hb
  simp only [Value.slice.injEq, Option.some.injEq, Addr.mk.injEq, and_true, true_and] at e
  obtain ⟨⟨rfl, rfl⟩, rfl⟩ := e
  have hpa := pick_any oA L.length w hA (by omega)
  have c0 : w.cell? ⟨wb, 0, none⟩ = some (.slice (some ⟨gb, goff, none⟩) L.length gcap) := blk_cell hbx 0
  have hwb := lt_of_heap hbx
  have nL : ¬ (L.length : Int) = 0 := by omega
  have HPA : Hid (∀ w', Calls Tryz.prog 14 #[.int .i64 oA, .int .i64 L.length] w' fun e w'' => e = .returned (.int .i64 ia) ∧ w'' = w') := fun w' => by
    have h := pick_any oA L.length w' hA (by omega)
    rw [ea] at h; exact h
  have HPB : Hid (∀ w', Calls Tryz.prog 14 #[.int .i64 oB, .int .i64 L.length] w' fun e w'' => e = .returned (.int .i64 ib) ∧ w'' = w') := fun w' => by
    have h := pick_any oB L.length w' hB (by omega)
    rw [eb] at h; exact h
  have HBX := hide hbx
  have HK := hide hK
  have HE := hide hE
  have HL := hide hL
  have HRa := hide hRa
  have HRb : Hid (RdU U w (.slice none 0 0) []) := ⟨none, 0, rfl, by simp, by simp [maxLen], fun h => absurd rfl h⟩
  have HA := hide hA
  have HB := hide hB
  have i0 : (0 : Int) ≤ (ia : Int) := by omega
  have i1 : (ia : Int) < (L.length : Int) := by omega
  have j0 : (0 : Int) ≤ (ib : Int) := by omega
  have j1 : (ib : Int) < (L.length : Int) := by omega
  have hla := hll a (List.mem_of_getElem? ha)
  have hlb := hll b (List.mem_of_getElem? hb)
  have HU := hide hU
  clear hbx hK hE hL hRa hRb hA hB ha hb hll hpa ea eb hU
  go_enter Tryz.func12, Tryz.ntmps12
  go_wp2
  go_quiet ((go_at_call 14; exact Calls.quiet_of_same ((unhide HPA) _)))
  go_wp2
  have hB1 : Below w.heap.size w ((w.alloc (.cells #[.int .i64 5, .int .i64 oA, .int .i64 oB, .int .i64 oC] 42)).drewN nq) := below_drewN ((Below.refl _ w).alloc (Nat.le_refl _) _) _
  have hX1 : ((w.alloc (.cells #[.int .i64 5, .int .i64 oA, .int .i64 oB, .int .i64 oC] 42)).drewN nq).heap[w.heap.size]? = some (.cells #[.int .i64 5, .int .i64 oA, .int .i64 oB, .int .i64 oC] 42) := new_at _ _ _ rfl
  generalize (w.alloc (.cells #[.int .i64 5, .int .i64 oA, .int .i64 oB, .int .i64 oC] 42)).drewN nq = w1 at *
  have d0 : w1.cell? ⟨wb, 0, none⟩ = some (.slice (some ⟨gb, goff, none⟩) L.length gcap) := (hB1.cell hwb).trans c0
  have d1 : w1.cell? ⟨gb, goff + ib, none⟩ = some (.slice bo b.length bcap) := (hB1.cell hgb).trans hcb
  have d2 : w1.cell? ⟨w.heap.size, 0, none⟩ = some (.int .i64 5) := blk_cell hX1 0
  have d3 : w1.cell? ⟨w.heap.size, 2, none⟩ = some (.int .i64 oB) := blk_cell hX1 2
  have lx : w.heap.size < w1.heap.size := lt_of_heap hX1
  have lx' : w.heap.size ≠ w1.heap.size := by omega
  have HB1 := hide hB1
  have HX1 := hide hX1
  clear hB1 hX1
  go_quiet ((go_at_call 14; exact Calls.quiet_of_same ((unhide HPB) _)))
  have hB2 : Below w.heap.size w (w1.drewN nq) := below_drewN (unhide HB1) _
  have hX2 : (w1.drewN nq).heap[w.heap.size]? = some (.cells #[.int .i64 5, .int .i64 oA, .int .i64 oB, .int .i64 oC] 42) := unhide HX1
  clear HB1 HX1 d0 d1 d2 d3 lx lx'
  generalize w1.drewN nq = w2 at *
  have d2 : w2.cell? ⟨w.heap.size, 0, none⟩ = some (.int .i64 5) := blk_cell hX2 0
  have lx : w.heap.size < w2.heap.size := lt_of_heap hX2
  have lx' : w.heap.size ≠ w2.heap.size := by omega
  have HB2 := hide hB2
  have HX2 := hide hX2
  clear hB2 hX2
  go_wp2_with fail
  have hM3 : (w2.alloc (.cells #[.slice none 0 0, .slice none 0 0, .slice none 0 0] 76)).heap[w2.heap.size]? = some (.cells #[.slice none 0 0, .slice none 0 0, .slice none 0 0] 76) := new_at _ _ _ rfl
  have hB3 : Below w.heap.size w (w2.alloc (.cells #[.slice none 0 0, .slice none 0 0, .slice none 0 0] 76)) := (unhide HB2).alloc (by omega) _
  have hX3 : (w2.alloc (.cells #[.slice none 0 0, .slice none 0 0, .slice none 0 0] 76)).heap[w.heap.size]? = some (.cells #[.int .i64 5, .int .i64 oA, .int .i64 oB, .int .i64 oC] 42) := blk_alloc (unhide HX2) _
  have hmb : w.heap.size < w2.heap.size := lx
  clear HB2 HX2 d2 lx'
  generalize w2.alloc (.cells #[.slice none 0 0, .slice none 0 0, .slice none 0 0] 76) = w3 at *
  generalize w2.heap.size = mb at *
  have HR3a := hide ((unhide HRa).but (S := fun _ => False) (.of_below hB3) (fun _ _ h => h))
  have HM3 := hide hM3
  have HB3 := hide hB3
  have hs3 := hB3.size
  clear hM3 hB3 hX3
  refine (rectsOf_any mb w.heap.size (.slice none 0 0) (.slice none 0 0) (.slice none 0 0) [] (.slice ao a.length acap) a w3 (unhide HM3) (World.ownsRow_nil _ _ _ _) hs3 (unhide HR3a).rd hla (by simp)).mono ?_
  rintro e w4 ⟨v1, rfl, hO1, lr1, ls1, hl1⟩
  have hN4 := Lent.more (Lent.none U w.heap.size w3) hl1 (unhide HM3) (World.ownsRow_nil _ _ _ _) (unhide HR3a) hla (fun k hk => ⟨Nat.lt_of_lt_of_le ((unhide HU) k hk).1 hs3, by have := ((unhide HU) k hk).1; omega, by simp [Value.ownBlock]⟩)
  have hB4 : Below w.heap.size w w4 := (unhide HB3).trans (hl1.but.below hs3 (fun k c => c.elim (fun e => by omega) (fun e => by cases e)))
  have hlen4 : ls1.length ≤ 1 := by have := hN4.2; simp at this; omega
  have HO1 := hide hO1
  have HL1 := hide hl1
  have HN4 := hide hN4.1
  have HB4 := hide hB4
  have hs4 := hB4.size
  clear hO1 hl1 hN4 hB4 HM3 HB3 HR3a
  go_wp2_with fail
  refine (parea_any v1 a w4 (unhide HO1).rd).mono ?_
  rintro x w5 ⟨n5, e5, rfl, hA5, hb5⟩
  have HA5 := hide hA5
  have Hb5 := hide hb5
  have HB5 := hide ((unhide HB4).trans (hb5.mono hs4))
  clear hA5 hb5
  go_wp2_with fail
  refine (docarea_any (.slice ao a.length acap) a w5 ((unhide HRa).but (S := fun _ => False) (.of_below (unhide HB5)) (fun _ _ h => h)).rd).mono ?_
  rintro x w6 ⟨n6, e6, rfl, hA6, hb6⟩
  obtain ⟨rfl, rfl⟩ := ansA_same (unhide HA5) hA6
  have hT6 : Below w4.heap.size w4 w6 := (unhide Hb5).trans (hb6.mono (unhide Hb5).size)
  have HT6 := hide hT6
  have HB6 := hide ((unhide HB4).trans (hT6.mono hs4))
  have HM6 := hide ((hT6.block _ (lt_of_heap (unhide HL1).box)).trans (unhide HL1).box)
  have HL6 := hide (row_but (S := fun _ => False) (unhide HL1).own (.of_below hT6) (fun _ _ h => h))
  have HN6 := hide ((unhide HN4).below hT6)
  clear hA6 hb6 hT6 HA5
  go_wp2_with fail
  refine (lwhole_any U mb w.heap.size w.heap.size lr1 ls1 w6 (unhide HM6) (unhide HL6) (unhide HN6) (by omega)).mono ?_
  rintro x w7 ⟨rfl, hbut⟩
  have HB7 := hide ((unhide HB6).trans (hbut.below (unhide HB6).size (fun k ⟨x, hx, e⟩ => by rw [e]; exact ((unhide HN6).lt hx).1)))
  clear hbut
  go_wp2_with (go_at_call 17; refine (num_any _ _).mono ?_; rintro e w' ⟨rfl, rfl⟩)
  go_ret
  exact ⟨rfl, kr, es, stepped_same (unhide HBX) (unhide HK) (unhide HE) (unhide HB7)⟩

set_option maxHeartbeats 8000000 in
theorem rects_canon (U : Nat → Prop) (base wb : Nat) (gr gc go ss kr : Value) (es : List Ent) (L : List (List Rc)) (oA oB oC : Int) (w : World)
    (hbx : w.heap[wb]? = some (.cells #[gr, gc, go, ss, kr, .slice none 0 0, .slice none 0 0] 39)) (hK : OwnE w base kr es) (hE : ∀ e ∈ es, EntOk base w e) (hbase : base ≤ w.heap.size) (hL : RdLL U w gr L)
    (hA : -9223372036854775808 ≤ oA ∧ oA ≤ 9223372036854775807) (hB : -9223372036854775808 ≤ oB ∧ oB ≤ 9223372036854775807) (hn : es.length ≤ 1900000) (hLn : 0 < L.length ∧ L.length ≤ 2000000) (hll : ∀ l ∈ L, l.length ≤ 2000000) (hU : ∀ k, U k → k < w.heap.size ∧ k ≠ wb ∧ kr.ownBlock ≠ some k) :
    Calls Tryz.prog 12 #[.pointer (some ⟨wb, 0, none⟩), .agg #[.int .i64 1, .int .i64 oA, .int .i64 oB, .int .i64 oC]] w fun e w' => e = .returned (.bool true) ∧ ∃ kr' es', Stepped base wb gr gc go ss kr es w w' kr' es' := by
  obtain ⟨ia, ea, hia⟩ := pk_at oA L.length hLn.1
  obtain ⟨ib, eb, hib⟩ := pk_at oB L.length hLn.1
  obtain ⟨a, ha⟩ : ∃ a, L[ia]? = some a := ⟨L[ia], by simp [hia]⟩
  obtain ⟨b, hb⟩ : ∃ b, L[ib]? = some b := ⟨L[ib], by simp [hib]⟩
  obtain ⟨gb, goff, gcap, ao, acap, rfl, hgb, hca, hRa⟩ := hL.at ha
  obtain ⟨gb', goff', gcap', bo, bcap, e, _, hcb, hRb⟩ := hL.at hb
  simp only [Value.slice.injEq, Option.some.injEq, Addr.mk.injEq, and_true, true_and] at e
  obtain ⟨⟨rfl, rfl⟩, rfl⟩ := e
  have hpa := pick_any oA L.length w hA (by omega)
  have c0 : w.cell? ⟨wb, 0, none⟩ = some (.slice (some ⟨gb, goff, none⟩) L.length gcap) := blk_cell hbx 0
  have hwb := lt_of_heap hbx
  have nL : ¬ (L.length : Int) = 0 := by omega
  have HPA : Hid (∀ w', Calls Tryz.prog 14 #[.int .i64 oA, .int .i64 L.length] w' fun e w'' => e = .returned (.int .i64 ia) ∧ w'' = w') := fun w' => by
    have h := pick_any oA L.length w' hA (by omega)
    rw [ea] at h; exact h
  have HPB : Hid (∀ w', Calls Tryz.prog 14 #[.int .i64 oB, .int .i64 L.length] w' fun e w'' => e = .returned (.int .i64 ib) ∧ w'' = w') := fun w' => by
    have h := pick_any oB L.length w' hB (by omega)
    rw [eb] at h; exact h
  have HBX := hide hbx
  have HK := hide hK
  have HE := hide hE
  have HL := hide hL
  have HRa := hide hRa
  have HRb : Hid (RdU U w (.slice none 0 0) []) := ⟨none, 0, rfl, by simp, by simp [maxLen], fun h => absurd rfl h⟩
  have HA := hide hA
  have HB := hide hB
  have i0 : (0 : Int) ≤ (ia : Int) := by omega
  have i1 : (ia : Int) < (L.length : Int) := by omega
  have j0 : (0 : Int) ≤ (ib : Int) := by omega
  have j1 : (ib : Int) < (L.length : Int) := by omega
  have hla := hll a (List.mem_of_getElem? ha)
  have hlb := hll b (List.mem_of_getElem? hb)
  have HU := hide hU
  clear hbx hK hE hL hRa hRb hA hB ha hb hll hpa ea eb hU
  go_enter Tryz.func12, Tryz.ntmps12
  go_wp2
  go_quiet ((go_at_call 14; exact Calls.quiet_of_same ((unhide HPA) _)))
  go_wp2
  have hB1 : Below w.heap.size w ((w.alloc (.cells #[.int .i64 1, .int .i64 oA, .int .i64 oB, .int .i64 oC] 42)).drewN nq) := below_drewN ((Below.refl _ w).alloc (Nat.le_refl _) _) _
  have hX1 : ((w.alloc (.cells #[.int .i64 1, .int .i64 oA, .int .i64 oB, .int .i64 oC] 42)).drewN nq).heap[w.heap.size]? = some (.cells #[.int .i64 1, .int .i64 oA, .int .i64 oB, .int .i64 oC] 42) := new_at _ _ _ rfl
  generalize (w.alloc (.cells #[.int .i64 1, .int .i64 oA, .int .i64 oB, .int .i64 oC] 42)).drewN nq = w1 at *
  have d0 : w1.cell? ⟨wb, 0, none⟩ = some (.slice (some ⟨gb, goff, none⟩) L.length gcap) := (hB1.cell hwb).trans c0
  have d1 : w1.cell? ⟨gb, goff + ib, none⟩ = some (.slice bo b.length bcap) := (hB1.cell hgb).trans hcb
  have d2 : w1.cell? ⟨w.heap.size, 0, none⟩ = some (.int .i64 1) := blk_cell hX1 0
  have d3 : w1.cell? ⟨w.heap.size, 2, none⟩ = some (.int .i64 oB) := blk_cell hX1 2
  have lx : w.heap.size < w1.heap.size := lt_of_heap hX1
  have lx' : w.heap.size ≠ w1.heap.size := by omega
  have HB1 := hide hB1
  have HX1 := hide hX1
  clear hB1 hX1
  go_quiet ((go_at_call 14; exact Calls.quiet_of_same ((unhide HPB) _)))
  have hB2 : Below w.heap.size w (w1.drewN nq) := below_drewN (unhide HB1) _
  have hX2 : (w1.drewN nq).heap[w.heap.size]? = some (.cells #[.int .i64 1, .int .i64 oA, .int .i64 oB, .int .i64 oC] 42) := unhide HX1
  clear HB1 HX1 d0 d1 d2 d3 lx lx'
  generalize w1.drewN nq = w2 at *
  have d2 : w2.cell? ⟨w.heap.size, 0, none⟩ = some (.int .i64 1) := blk_cell hX2 0
  have lx : w.heap.size < w2.heap.size := lt_of_heap hX2
  have lx' : w.heap.size ≠ w2.heap.size := by omega
  have HB2 := hide hB2
  have HX2 := hide hX2
  clear hB2 hX2
  go_wp2
  have hM3 : (w2.alloc (.cells #[.slice none 0 0, .slice none 0 0, .slice none 0 0] 76)).heap[w2.heap.size]? = some (.cells #[.slice none 0 0, .slice none 0 0, .slice none 0 0] 76) := new_at _ _ _ rfl
  have hB3 : Below w.heap.size w (w2.alloc (.cells #[.slice none 0 0, .slice none 0 0, .slice none 0 0] 76)) := (unhide HB2).alloc (by omega) _
  have hX3 : (w2.alloc (.cells #[.slice none 0 0, .slice none 0 0, .slice none 0 0] 76)).heap[w.heap.size]? = some (.cells #[.int .i64 1, .int .i64 oA, .int .i64 oB, .int .i64 oC] 42) := blk_alloc (unhide HX2) _
  have hmb : w.heap.size < w2.heap.size := lx
  clear HB2 HX2 d2 lx'
  generalize w2.alloc (.cells #[.slice none 0 0, .slice none 0 0, .slice none 0 0] 76) = w3 at *
  generalize w2.heap.size = mb at *
  have d3 : w3.cell? ⟨w.heap.size, 0, none⟩ = some (.int .i64 1) := blk_cell hX3 0
  have HR3a := hide ((unhide HRa).but (S := fun _ => False) (.of_below hB3) (fun _ _ h => h))
  have HM3 := hide hM3
  have HB3 := hide hB3
  have HX3 := hide hX3
  have hs3 := hB3.size
  clear hM3 hB3 hX3
  go_region_held3 (fun w' => w'.cell? ⟨w.heap.size, 0, none⟩ = some (.int .i64 1))
    (first | go_keep | assumption)
    (first
      | (go_at_call 33
         (refine (rectsOf_any mb w.heap.size (.slice none 0 0) (.slice none 0 0) (.slice none 0 0) [] (.slice ao a.length acap) a w3.drew (unhide HM3) (World.ownsRow_nil _ _ _ _) hs3 (unhide HR3a).rd hla (by simp)).mono ?_)
         (
           rintro e w4 ⟨v1, rfl, hO1, lr1, ls1, hl1⟩
           have hN4 := Lent.more (Lent.none U w.heap.size w3.drew) hl1 (unhide HM3) (World.ownsRow_nil _ _ _ _) (unhide HR3a) hla (fun k hk => ⟨Nat.lt_of_lt_of_le ((unhide HU) k hk).1 hs3, by have := ((unhide HU) k hk).1; omega, by simp [Value.ownBlock]⟩)
           have hB4 : Below w.heap.size w w4 := ((unhide HB3).drew).trans (hl1.but.below hs3 (fun k c => c.elim (fun e => by omega) (fun e => by cases e)))
           have hX4 : w4.heap[w.heap.size]? = some (.cells #[.int .i64 1, .int .i64 oA, .int .i64 oB, .int .i64 oC] 42) := hl1.but.heap (unhide HX3) (fun c => c.elim (fun e => by omega) (fun e => by cases e))
           have d4 : w4.cell? ⟨w.heap.size, 0, none⟩ = some (.int .i64 1) := blk_cell hX4 0
           have HR4b := hide ((unhide HRb).but (S := fun _ => False) (.of_below hB4) (fun _ _ h => h))
           have HO1 := hide hO1
           have HL1 := hide hl1
           have HN4 := hide hN4
           have HB4 := hide hB4
           have HX4 := hide hX4
           have hs4 := hB4.size
           clear hO1 hl1 hN4 hB4 hX4 HM3 HB3 HX3 HR3a))
      | (go_at_call 33
         (refine (rectsOf_any mb w.heap.size lr1 (.slice none 0 0) (.slice none 0 0) ls1 (.slice none 0 0) [] w4 (unhide HL1).box (unhide HL1).own hs4 (unhide HR4b).rd (by simp) (by have := (unhide HN4).2; simp at this; omega)).mono ?_)
         (
           rintro e w5 ⟨v2, rfl, hO2, lr2, ls2, hl2⟩
           have hN5 := Lent.more (unhide HN4).1 hl2 (unhide HL1).box (unhide HL1).own (unhide HR4b) (by simp) (fun k hk => ⟨Nat.lt_of_lt_of_le ((unhide HU) k hk).1 hs4, by have := ((unhide HU) k hk).1; omega, fun e => by have := (World.ownsRow.lt (unhide HL1).own k e).1; have := ((unhide HU) k hk).1; omega⟩)
           have hB5 : Below w.heap.size w w5 := (unhide HB4).trans (hl2.but.below hs4 (fun k c => c.elim (fun e => by omega) (fun e => (World.ownsRow.lt (unhide HL1).own k e).1)))
           have hX5 : w5.heap[w.heap.size]? = some (.cells #[.int .i64 1, .int .i64 oA, .int .i64 oB, .int .i64 oC] 42) := hl2.but.heap (unhide HX4) (fun c => c.elim (fun e => by omega) (fun e => row_kind (unhide HL1).own (unhide HX4) (by decide) e))
           have d5 : w5.cell? ⟨w.heap.size, 0, none⟩ = some (.int .i64 1) := blk_cell hX5 0
           have hO1 : Own w5 w.heap.size v1 a := (unhide HO1).but hl2.but (fun k hk c => c.elim (fun e => own_kind (unhide HO1) (unhide HL1).box (by decide) (e ▸ hk)) (fun e => row_apart (unhide HO1) (unhide HL1).own (by decide) hk e))
           have hlen5 : ls2.length ≤ 2 := by have h4 := (unhide HN4).2; have := hN5.2; simp at h4; omega
           have HO5 := hide hO1
           have HO2 := hide hO2
           have HL2 := hide hl2
           have HN5 := hide hN5.1
           have HB5 := hide hB5
           have HX5 := hide hX5
           have hs5 := hB5.size
           clear hO1 hO2 hl2 hN5 hB5 hX5 HO1 HL1 HN4 HB4 HX4 HR4b))
      | (go_at_call 35
         (refine (called_any 1 (.inl rfl) v1 v2 a [] w5 (unhide HO5).rd (unhide HO2).rd (fun _ => rfl)).mono ?_)
         rintro e w6 ⟨v3, n3, R, rfl, hAns, hO3, hRl, hb6⟩
         have hX6 : w6.heap[w.heap.size]? = some (.cells #[.int .i64 1, .int .i64 oA, .int .i64 oB, .int .i64 oC] 42) := (hb6.block _ (lt_of_heap (unhide HX5))).trans (unhide HX5)
         have d6 : w6.cell? ⟨w.heap.size, 0, none⟩ = some (.int .i64 1) := blk_cell hX6 0
         have HAns := hide hAns
         have HO3 := hide hO3
         have Hb6 := hide hb6
         have HX6 := hide hX6
         clear hAns hO3 hb6 hX6 HX5))
  have hlt2 : Hid (∀ x ∈ ls2, x.g < w5.heap.size) := fun x hx => ((unhide HN5).lt hx).2
  have HB6 := hide ((unhide HB5).trans ((unhide Hb6).mono hs5))
  go_wp2_with fail
  refine (way_any 1 _).mono ?_
  rintro e w' ⟨rfl, rfl⟩
  go_wp2_with fail
  refine (doc_any 1 (.slice ao a.length acap) (.slice none 0 0) a [] w' ((unhide HRa).but (S := fun _ => False) (.of_below (unhide HB6)) (fun _ _ h => h)).rd ((unhide HRb).but (S := fun _ => False) (.of_below (unhide HB6)) (fun _ _ h => h)).rd).mono ?_
  rintro e w7 ⟨v4, n4, D, rfl, hAD, hR4, hDl, hb7⟩
  obtain ⟨rfl, rfl⟩ := ans_same (unhide HAns) hAD
  have Hb7 := hide hb7
  have HR4 := hide hR4
  clear hAD hR4 hb7 HAns
  go_wp2_with fail
  refine (sameRects_self v3 v4 R w7 ((unhide HO3).kept (unhide Hb7)).rd (unhide HR4) (by omega)).mono ?_
  rintro e w8 ⟨rfl, hb8⟩
  have hT8 : Below w5.heap.size w5 w8 := ((unhide Hb6).trans ((unhide Hb7).mono (unhide Hb6).size)).trans (hb8.mono (Nat.le_trans (unhide Hb6).size (unhide Hb7).size))
  have hB8 : Below w.heap.size w w8 := (unhide HB5).trans (hT8.mono hs5)
  have hBX8 : w8.heap[wb]? = some (.cells #[.slice (some ⟨gb, goff, none⟩) L.length gcap, gc, go, ss, kr, .slice none 0 0, .slice none 0 0] 39) := (hB8.block _ hwb).trans (unhide HBX)
  have hK8 : OwnE w8 base kr es := OwnE.but (S := fun _ => False) (unhide HK) (.of_below hB8) (fun _ _ h => h)
  have hV8 : Own w8 w5.heap.size v3 R := ((unhide HO3).kept (unhide Hb7)).kept hb8
  have hs8 := hB8.size
  have hs58 := hT8.size
  have Hb8 := hide hb8
  have HT8 := hide hT8
  have HB8 := hide hB8
  have HBX8 := hide hBX8
  have HK8 := hide hK8
  have HV8 := hide hV8
  clear hb8 hT8 hB8 hBX8 hK8 hV8
  go_wp2_with fail
  refine (keepRects_any wb base w5.heap.size _ gc go ss kr _ _ v3 es R w8 (unhide HBX8) (unhide HK8) (by omega) (unhide HV8) (by omega) (by omega) hRl).mono ?_
  rintro e w9 ⟨rfl, kr', en, hk⟩
  have hv3 : ∀ k, v3.ownBlock = some k → w5.heap.size ≤ k := fun k h => (World.ownsRow.lt (unhide HV8) k h).1
  have hkr : ∀ k, kr.ownBlock = some k → k < w.heap.size := fun k h => (World.ownsRow.lt (unhide HK) k h).2
  have hmb5 : mb < w5.heap.size := lt_of_heap (unhide HL2).box
  have hM9 : w9.heap[mb]? = some (.cells #[lr2, .slice none 0 0, .slice none 0 0] 76) := hk.but.heap (((unhide HT8).block _ hmb5).trans (unhide HL2).box) (fun c => by
    rcases c with c | c | c
    · omega
    · have := hkr _ c; omega
    · have := hv3 _ c; omega)
  have hL9 : OwnL w9 w.heap.size lr2 ls2 := row_but (row_but (S := fun _ => False) (unhide HL2).own (.of_below (unhide HT8)) (fun _ _ h => h)) hk.but (fun k hk' c => by
    have hl := World.ownsRow.lt (unhide HL2).own k hk'
    rcases c with c | c | c
    · omega
    · have := hkr _ c; omega
    · have := hv3 _ c; omega)
  have hN9 : Lent U w.heap.size w9 ls2 := ((unhide HN5).below (unhide HT8)).but hk.but (fun k hu c => by
    have hh := (unhide HU) k hu
    rcases c with c | c | c
    · exact hh.2.1 c
    · exact hh.2.2 c
    · have := hv3 _ c; omega) (fun x hx c => by
    have hl := (unhide HN5).lt hx
    rcases c with c | c | c
    · omega
    · have := hkr _ c; omega
    · have := hv3 _ c; omega)
  have Hk := hide hk
  have HM9 := hide hM9
  have HL9 := hide hL9
  have HN9 := hide hN9
  have Hv3 := hide hv3
  clear hk hM9 hL9 hN9 hv3 hkr
  go_wp2_with fail
  refine (lwhole_any U mb w.heap.size w.heap.size lr2 ls2 w9 (unhide HM9) (unhide HL9) (unhide HN9) (by omega)).mono ?_
  rintro e w10 ⟨rfl, hbut⟩
  have Hbut := hide hbut
  clear hbut
  go_wp2
  go_ret
  exact ⟨rfl, kr', es ++ [en], stepped_end (unhide HBX) (unhide HK) (unhide HE) hbase (unhide HB5) (unhide HT8) (unhide HN9) (unhide hlt2) (unhide Hv3) (unhide Hk) (unhide Hbut)⟩
end Go.Proofs.YtfnockbgkcgpkaaGreat
