import Derived.Test.YtfnockbgkcgpkaaWalksR
set_option linter.all false
namespace Go.Proofs.Ytfnockbgkcgpkaa
open Go.RowKit Go.Proofs.Panes Classical
set_option maxRecDepth 100000

theorem none_list {R : List Rc} (hR : Right R) (h : ∀ px py, ¬ covL R px py) : R = [] := by
  cases R with
  | nil => rfl
  | cons r R =>
    have := hR.pos r (by simp)
    exact absurd ⟨r, by simp, by unfold Rc.cov; omega⟩ (h r.x r.y)
theorem rev_take {l : List Rc} {m idx : Nat} {r : Rc} (h : m + idx + 1 = l.length) (hr : l[idx]? = some r) : l.reverse.take (m + 1) = l.reverse.take m ++ [r] := by
  have : l.reverse[m]? = some r := by
    rw [List.getElem?_reverse (by omega)]
    rw [show l.length - 1 - m = idx by omega]; exact hr
  rw [List.take_add_one, this]; rfl
theorem lit_two (w : World) (g : Nat) (h : w.heap[g]? = some (Obj.cells #[.int .i64 0, .int .i64 0, .int .i64 1, .int .i64 1, .int .i64 0, .int .i64 1, .int .i64 1, .int .i64 1] 29)) : Rd w (.slice (some ⟨g, 0, none⟩) 2 2) [⟨0, 0, 1, 1⟩, ⟨0, 1, 1, 1⟩] := by
  have e : ∀ j, w.cell? ⟨g, j, none⟩ = (#[Value.int .i64 0, .int .i64 0, .int .i64 1, .int .i64 1, .int .i64 0, .int .i64 1, .int .i64 1, .int .i64 1] : Array Value)[j]? := fun j => by rw [cell_of_row w g j _ _ _ h]
  refine ⟨_, 2, rfl, Nat.le_refl _, by simp [maxLen], fun _ => ⟨g, 0, rfl, lt_of_heap h, fun j r hr => ?_⟩⟩
  match j, hr with
  | 0, hr => simp at hr; subst hr; exact ⟨(e 0).trans rfl, (e 1).trans rfl, (e 2).trans rfl, (e 3).trans rfl⟩
  | 1, hr => simp at hr; subst hr; exact ⟨(e 4).trans rfl, (e 5).trans rfl, (e 6).trans rfl, (e 7).trans rfl⟩
  | j + 2, hr => simp at hr

set_option maxHeartbeats 8000000 in
theorem twice_any (va vb : Value) (a b : List Rc) (w : World) (hA : Rd w va a) (hB : Rd w vb b) (fa : ∀ r ∈ a, Fit r) (fb : ∀ r ∈ b, Fit r) (na : a.length ≤ 9223372036854775807) (nb : b.length ≤ 9223372036854775807) :
    Calls Try.prog 4 #[va, vb] w fun e w' => e = .returned (.bool true) ∧ Below w.heap.size w w' := by
  obtain ⟨i0, hi, hz0, hz1, hz2⟩ := info_parts info_rect
  have HA := hide hA
  have HB := hide hB
  have FA := hide fa
  have FB := hide fb
  have KA := hide (tame_ok a)
  have KB := hide (tame_ok b)
  obtain ⟨A, eA⟩ : ∃ A, A = (a.take 40).map tameR := ⟨_, rfl⟩
  obtain ⟨B, eB⟩ : ∃ B, B = (b.take 40).map tameR := ⟨_, rfl⟩
  have HEA := hide eA
  have HEB := hide eB
  rw [← eA] at KA
  rw [← eB] at KB
  have hAl : A.length ≤ 40 := (okL_may (unhide KA)).1
  clear hA hB fa fb eA eB
  go_enter Try.func4, Try.ntmps4
  go_wp2_with fail
  refine (tame_any _ a _ (unhide HA) (unhide FA) na).mono ?_
  rintro e w1 ⟨v1, rfl, hO1, hb1⟩
  rw [← unhide HEA] at hO1
  have G := hide hb1
  have L1 := hide hO1.rd
  obtain ⟨o1, c1, ev1, _⟩ := own_slice hO1
  subst ev1
  have z1 := hb1.size
  have HB := hide ((unhide HB).below hb1)
  clear hO1 hb1
  go_wp2_with fail
  refine (tame_any _ b _ (unhide HB) (unhide FB) nb).mono ?_
  rintro e w2 ⟨v2, rfl, hO2, hb2⟩
  rw [← unhide HEB] at hO2
  have G := hide ((unhide G).trans (hb2.mono z1))
  have z2 := (unhide G).size
  have L1 := hide ((unhide L1).below hb2)
  have L2 := hide hO2.rd
  obtain ⟨o2, c2, ev2, _⟩ := own_slice hO2
  subst ev2
  clear hO2 hb2 HA HB HEA HEB
  go_wp2_with fail
  have hbl := (Below.refl _ w2).alloc (Nat.le_refl _) (Obj.cells #[.int .i64 0, .int .i64 0, .int .i64 1, .int .i64 1, .int .i64 0, .int .i64 1, .int .i64 1, .int .i64 1] 29)
  refine (canon_ok _ _ _ (lit_two _ _ (new_at w2 _ _ rfl)) lit_ok).mono ?_
  rintro e w3 ⟨v3, R3, rfl, hR3⟩
  have e3 := first_list R3 hR3.right hR3.cov
  subst e3
  obtain ⟨g3, c3, ev3, _⟩ := own_some hR3.own (by simp)
  subst ev3
  have ch3 : w3.cell? ⟨g3, 3, none⟩ = some (.int .i64 2) := by
    have := (own_at hR3.own (j := 0) (r := ⟨0, 0, 1, 2⟩) rfl).2.2.2
    simpa using this
  have hb3 : Below w2.heap.size w2 w3 := hbl.trans (hR3.below.mono (by simp))
  have G := hide ((unhide G).trans (hb3.mono z2))
  have z3 := (unhide G).size
  have L1 := hide ((unhide L1).below hb3)
  have L2 := hide ((unhide L2).below hb3)
  clear hbl hR3 hb3
  go_wp2_with fail
  refine (union_ok _ _ A B _ (unhide L1) (unhide L2) (unhide KA) (unhide KB)).mono ?_
  rintro e w4 ⟨v4, U, rfl, hR⟩
  have hb := hR.below
  have G := hide ((unhide G).trans (hb.mono z3))
  have z4 := (unhide G).size
  have L1 := hide ((unhide L1).below hb)
  have L2 := hide ((unhide L2).below hb)
  have LU := hide hR.own.rd
  have DU := hide (And.intro hR.right (And.intro hR.cov (And.intro hR.len hR.inb)))
  obtain ⟨o4, c4, ev, _⟩ := own_slice hR.own
  subst ev
  clear hR hb
  go_wp2_with fail
  refine (union_ok _ _ B A _ (unhide L2) (unhide L1) (unhide KB) (unhide KA)).mono ?_
  rintro e w5 ⟨v5, V, rfl, hR⟩
  have hb := hR.below
  have G := hide ((unhide G).trans (hb.mono z4))
  have z5 := (unhide G).size
  have L1 := hide ((unhide L1).below hb)
  have L2 := hide ((unhide L2).below hb)
  have LU := hide ((unhide LU).below hb)
  have LV := hide hR.own.rd
  have DV := hide (And.intro hR.right (And.intro hR.cov (And.intro hR.len hR.inb)))
  obtain ⟨o5, c5, ev, _⟩ := own_slice hR.own
  subst ev
  clear hR hb
  have eUV : U = V := right_unique (unhide DU).1 (unhide DV).1 fun px py => ((unhide DU).2.1 px py).trans ((or_comm).trans ((unhide DV).2.1 px py).symm)
  have eUVd := hide (decide_eq_true eUV)
  clear eUV
  go_wp2_with fail
  have hsm := same_any _ _ U V _ (unhide LU) (unhide LV) (by have := (unhide DU).2.2.1; omega) (by have := (unhide DV).2.2.1; omega)
  rw [unhide eUVd] at hsm
  refine hsm.mono ?_
  clear hsm
  rintro e w6 ⟨rfl, hb⟩
  have G := hide ((unhide G).trans (hb.mono z5))
  have z6 := (unhide G).size
  have L1 := hide ((unhide L1).below hb)
  have L2 := hide ((unhide L2).below hb)
  have LU := hide ((unhide LU).below hb)
  have LV := hide ((unhide LV).below hb)
  clear hb
  go_wp2_with fail
  refine (canon_ok _ A _ (unhide L1) (unhide KA)).mono ?_
  rintro e w7 ⟨v7, K, rfl, hR⟩
  have hb := hR.below
  have G := hide ((unhide G).trans (hb.mono z6))
  have z7 := (unhide G).size
  have L1 := hide ((unhide L1).below hb)
  have L2 := hide ((unhide L2).below hb)
  have LU := hide ((unhide LU).below hb)
  have LV := hide ((unhide LV).below hb)
  have LK := hide hR.own.rd
  have DK := hide (And.intro hR.right (And.intro hR.cov (And.intro hR.len hR.inb)))
  obtain ⟨o7, c7, ev, _⟩ := own_slice hR.own
  subst ev
  clear hR hb
  go_wp2_with fail
  refine (subtract_ok _ _ A A _ (unhide L1) (unhide L1) (unhide KA) (unhide KA)).mono ?_
  rintro e w8 ⟨v8, S, rfl, hR⟩
  have hb := hR.below
  have G := hide ((unhide G).trans (hb.mono z7))
  have z8 := (unhide G).size
  have L1 := hide ((unhide L1).below hb)
  have L2 := hide ((unhide L2).below hb)
  have LU := hide ((unhide LU).below hb)
  have LV := hide ((unhide LV).below hb)
  have LK := hide ((unhide LK).below hb)
  have LS := hide hR.own.rd
  have DS := hide (And.intro hR.right (And.intro hR.cov (And.intro hR.len hR.inb)))
  obtain ⟨o8, c8, ev, _⟩ := own_slice hR.own
  subst ev
  clear hR hb
  have eS : S = [] := none_list (unhide DS).1 fun px py h => (((unhide DS).2.1 px py).1 h).2 (((unhide DS).2.1 px py).1 h).1
  have eSl : S.length = 0 := by rw [eS]; rfl
  have HSl := hide eSl
  clear eS eSl
  go_wp2_with fail
  refine (intersect_ok _ _ A A _ (unhide L1) (unhide L1) (unhide KA) (unhide KA)).mono ?_
  rintro e w9 ⟨v9, I, rfl, hR⟩
  have hb := hR.below
  have G := hide ((unhide G).trans (hb.mono z8))
  have z9 := (unhide G).size
  have L1 := hide ((unhide L1).below hb)
  have L2 := hide ((unhide L2).below hb)
  have LU := hide ((unhide LU).below hb)
  have LV := hide ((unhide LV).below hb)
  have LK := hide ((unhide LK).below hb)
  have LS := hide ((unhide LS).below hb)
  have LI := hide hR.own.rd
  have DI := hide (And.intro hR.right (And.intro hR.cov (And.intro hR.len hR.inb)))
  obtain ⟨o9, c9, ev, _⟩ := own_slice hR.own
  subst ev
  clear hR hb
  have eIK : I = K := right_unique (unhide DI).1 (unhide DK).1 fun px py => ((unhide DI).2.1 px py).trans ((and_self_iff).trans ((unhide DK).2.1 px py).symm)
  have eIKd := hide (decide_eq_true eIK)
  clear eIK
  go_wp2_with fail
  have hsm := same_any _ _ I K _ (unhide LI) (unhide LK) (by have := (unhide DI).2.2.1; omega) (by have := (unhide DK).2.2.1; omega)
  rw [unhide eIKd] at hsm
  refine hsm.mono ?_
  clear hsm
  rintro e w10 ⟨rfl, hb⟩
  have G := hide ((unhide G).trans (hb.mono z9))
  have z10 := (unhide G).size
  have L1 := hide ((unhide L1).below hb)
  have L2 := hide ((unhide L2).below hb)
  have LU := hide ((unhide LU).below hb)
  have LV := hide ((unhide LV).below hb)
  have LK := hide ((unhide LK).below hb)
  have LS := hide ((unhide LS).below hb)
  have LI := hide ((unhide LI).below hb)
  clear hb
  have hcell : A ≠ [] → ∃ b off, o1 = some ⟨b, off, none⟩ ∧ b < w10.heap.size ∧ ∀ j r, A[j]? = some r → RAt w10 b (off + j * 4) r := by
    obtain ⟨ao', cap', e, _, _, h3⟩ := unhide L1
    simp only [Value.slice.injEq] at e
    rw [e.1]; exact h3
  have HCell := hide hcell
  clear hcell
  go_wp2
  go_loopw [19, 20] (fun vk z wr => ∃ (m : Nat), ((∃ idx : Nat, z = .int .i64 idx ∧ m + idx + 1 = A.length) ∨ (z = .int .i64 (-1) ∧ m = A.length)) ∧ Own wr w10.heap.size vk (A.reverse.take m) ∧ Below w10.heap.size w10 wr) (fun _ z _ => (intOf z + 1).toNat)
  case atStart =>
    refine ⟨0, ?_, by rw [List.take_zero]; exact own_nil _, Below.refl _ _⟩
    by_cases hA0 : A.length = 0
    · exact .inr ⟨congrArg (Value.int .i64) (by omega), by omega⟩
    · exact .inl ⟨A.length - 1, congrArg (Value.int .i64) (by omega), by omega⟩
  case round =>
    obtain ⟨m, hz, hO, hbel⟩ := hrel
    have hsz := hbel.size
    rcases hz with ⟨idx, rfl, hm⟩ | ⟨rfl, hm⟩
    · obtain ⟨b1, off1, rfl, hb1, hc1⟩ := (unhide HCell) (by intro e; rw [e] at hm; simp at hm)
      obtain ⟨r, hr⟩ : ∃ r, A[idx]? = some r := ⟨A[idx]'(by omega), by rw [List.getElem?_eq_getElem (by omega)]⟩
      obtain ⟨x1, x2, x3, x4⟩ := (hc1 idx r hr).below hbel hb1
      have lt1 : b1 < wr.heap.size := by omega
      have i1 : (0 : Int) ≤ (idx : Int) := by omega
      have i2 : (idx : Int) < (A.length : Int) := by omega
      have HT := hide (rev_take hm hr)
      have HO := hide hO
      have Hb := hide hbel
      have HLn : Hid ((A.reverse.take m).length ≤ 40) := by show _ ≤ _; exact Nat.le_trans (List.length_take_le _ _) (by omega)
      obtain ⟨ko, kc, ek, _⟩ := own_slice hO
      have hlen : (A.reverse.take m).length = m := by rw [List.length_take, List.length_reverse]; omega
      rw [hlen] at ek
      subst ek
      have HOk : Hid (wr.ownsRow w10.heap.size 29 4 (.slice ko m kc) m (rcells (A.reverse.take m))) := by
        have h := hO; unfold Own at h; rw [hlen] at h; exact h
      have HLen := hide hlen
      clear hO hbel hr hc1 hlen
      go_wp2_with (at_builtin; refine wpList_append_own _ rfl _ _ 22 rfl w10.heap.size 29 i0 (.agg #[.int .i64 0, .int .i64 0, .int .i64 0, .int .i64 0]) 4 32 Try.underlying22 hi hz0 hz1 hz2 rfl (by decide) _ _ _ rfl ((unhide HOk).alloc _) ⟨wr.heap.size, 0, none⟩ 1 1 (rcell r) rfl rfl ?c1 ?c2 ?c3 ?c4 ?c5 ?_)
      case c1 => exact newcells (new_at _ _ _ rfl)
      case c2 => exact rcell_one _
      case c3 => unfold maxLen; omega
      case c4 => omega
      case c5 => simp; omega
      intro v' wx hown hgrow _
      have HOn := hide (Own.snoc (l := A.reverse.take m) (r := r) (by rw [unhide HLen]; exact hown))
      have HG := hide (grown_trans (World.grownBy_alloc wr _ _) hgrow)
      clear hown hgrow
      go_wp2
      go_roundw
      case rel =>
        refine ⟨m + 1, ?_, by rw [unhide HT]; exact unhide HOn, (unhide Hb).grown (unhide HG) hsz (Own.row_ge (unhide HO))⟩
        by_cases h0 : idx = 0
        · exact .inr ⟨congrArg (Value.int .i64) (by omega), by omega⟩
        · exact .inl ⟨idx - 1, congrArg (Value.int .i64) (by omega), by omega⟩
      case measure => first | (simp [intOf]; done) | (simp [intOf]; omega)
    · rw [show A.reverse.take m = A.reverse from List.take_of_length_le (by simp; omega)] at hO
      obtain ⟨ko, kc, ek, _⟩ := own_slice hO
      rw [List.length_reverse] at ek
      subst ek
      have LB := hide hO.rd
      have G := hide ((unhide G).trans (hbel.mono z10))
      have z10r := (unhide G).size
      have L1 := hide ((unhide L1).below hbel)
      have L2 := hide ((unhide L2).below hbel)
      have LU := hide ((unhide LU).below hbel)
      have LV := hide ((unhide LV).below hbel)
      have LK := hide ((unhide LK).below hbel)
      have LS := hide ((unhide LS).below hbel)
      have LI := hide ((unhide LI).below hbel)
      clear hO hbel HCell
      go_wp2_with fail
      refine (union_ok _ _ A.reverse [] _ (unhide LB) (rd_nil _) (okL_rev (unhide KA)) rfl).mono ?_
      rintro e w11 ⟨v11, T, rfl, hR⟩
      have hb := hR.below
      have G := hide ((unhide G).trans (hb.mono z10r))
      have z11 := (unhide G).size
      have L1 := hide ((unhide L1).below hb)
      have L2 := hide ((unhide L2).below hb)
      have LU := hide ((unhide LU).below hb)
      have LV := hide ((unhide LV).below hb)
      have LK := hide ((unhide LK).below hb)
      have LS := hide ((unhide LS).below hb)
      have LI := hide ((unhide LI).below hb)
      have LB := hide ((unhide LB).below hb)
      have LT := hide hR.own.rd
      have DT := hide (And.intro hR.right (And.intro hR.cov (And.intro hR.len hR.inb)))
      obtain ⟨o11, c11, ev, _⟩ := own_slice hR.own
      subst ev
      clear hR hb
      have eTK : T = K := right_unique (unhide DT).1 (unhide DK).1 fun px py => ((unhide DT).2.1 px py).trans (⟨fun h => ((unhide DK).2.1 px py).2 ((covL_rev A px py).1 (h.resolve_right (covL_nil px py))), fun h => .inl ((covL_rev A px py).2 (((unhide DK).2.1 px py).1 h))⟩)
      have eTKd := hide (decide_eq_true eTK)
      clear eTK
      go_wp2_with fail
      have hsm := same_any _ _ T K _ (unhide LT) (unhide LK) (by have := (unhide DT).2.2.1; omega) (by have := (unhide DK).2.2.1; omega)
      rw [unhide eTKd] at hsm
      refine hsm.mono ?_
      clear hsm
      rintro e w12 ⟨rfl, hb⟩
      have G := hide ((unhide G).trans (hb.mono z11))
      have z12 := (unhide G).size
      have L1 := hide ((unhide L1).below hb)
      have L2 := hide ((unhide L2).below hb)
      have LU := hide ((unhide LU).below hb)
      have LV := hide ((unhide LV).below hb)
      have LK := hide ((unhide LK).below hb)
      have LS := hide ((unhide LS).below hb)
      have LI := hide ((unhide LI).below hb)
      have LB := hide ((unhide LB).below hb)
      have LT := hide ((unhide LT).below hb)
      clear hb
      have hS0 : ((S.length : Int) == 0) = true := by rw [unhide HSl]; rfl
      go_wp2_with fail
      refine (handed_any _ K _ (unhide LK) (by have := (unhide DK).2.2.1; omega)).mono ?_
      rintro e w13 ⟨rfl, hb⟩
      have G := hide ((unhide G).trans (hb.mono z12))
      have z13 := (unhide G).size
      have LK := hide ((unhide LK).below hb)
      clear hb
      cases hh : (handedB K && decide (K.length ≤ 40))
      · go_wp2
        go_ret
        exact ⟨rfl, unhide G⟩
      · have KK : Hid (okL K = true) := by
          simp only [Bool.and_eq_true, decide_eq_true_eq] at hh
          refine may_okL hh.2 fun r hr => ?_
          have h1 := List.all_eq_true.1 hh.1 r hr
          have h2 := (unhide DK).2.2.2 r hr
          have h3 := (unhide DK).1.pos r hr
          simp only [Bool.and_eq_true, decide_eq_true_eq] at h1
          unfold May
          omega
        go_wp2_with fail
        refine (canon_ok _ K _ (unhide LK) (unhide KK)).mono ?_
        rintro e w14 ⟨v14, X, rfl, hR⟩
        have hb := hR.below
        have G := hide ((unhide G).trans (hb.mono z13))
        have z14 := (unhide G).size
        have LK := hide ((unhide LK).below hb)
        have LX := hide hR.own.rd
        have DX := hide (And.intro hR.right (And.intro hR.cov (And.intro hR.len hR.inb)))
        obtain ⟨o14, c14, ev, _⟩ := own_slice hR.own
        subst ev
        clear hR hb
        have eXK : X = K := right_unique (unhide DX).1 (unhide DK).1 (unhide DX).2.1
        have eXKd := hide (decide_eq_true eXK)
        clear eXK
        go_wp2_with fail
        have hsm := same_any _ _ X K _ (unhide LX) (unhide LK) (by have := (unhide DX).2.2.1; omega) (by have := (unhide DK).2.2.1; omega)
        rw [unhide eXKd] at hsm
        refine hsm.mono ?_
        clear hsm
        rintro e w15 ⟨rfl, hb⟩
        have G := hide ((unhide G).trans (hb.mono z14))
        have z15 := (unhide G).size
        have LK := hide ((unhide LK).below hb)
        have LX := hide ((unhide LX).below hb)
        clear hb
        go_wp2
        go_ret
        exact ⟨rfl, unhide G⟩
end Go.Proofs.Ytfnockbgkcgpkaa
