import Derived.Test.YtfnockbgkcgpkaaGreatLawP
set_option linter.all false
namespace Go.Proofs.YtfnockbgkcgpkaaGreat
open Go.RowKit Go.Proofs.Panes
set_option maxRecDepth 100000
attribute [local go_sem ↓] Go.wp_at_zero Go.wp_at_succ

theorem RdLL.wide {U V : Nat → Prop} {w : World} {v : Value} {L : List (List Rc)} (h : RdLL U w v L) (hu : ∀ k, U k → V k) : RdLL V w v L := by
  obtain ⟨ao, cap, e, hc, h1⟩ := h
  refine ⟨ao, cap, e, hc, fun hne => ?_⟩
  obtain ⟨b, off, e1, hb, hlt, h2⟩ := h1 hne
  refine ⟨b, off, e1, hu b hb, hlt, fun i l hl => ?_⟩
  obtain ⟨ao', cap', e2, g1, g2, g3⟩ := h2 i l hl
  refine ⟨ao', cap', e2, g1, g2, fun hne' => ?_⟩
  obtain ⟨b', off', e3, hb', r⟩ := g3 hne'
  exact ⟨b', off', e3, hu b' hb', r⟩
/-- The world of a script as it begins. -/
theorem St.first {U : Nat → Prop} {base wb : Nat} {gr gc go : Value} {L : List (List Rc)} {w : World} (hbx : w.heap[wb]? = some (.cells #[gr, gc, go, .slice none 0 0, .slice none 0 0, .slice none 0 0, .slice none 0 0] 39)) (h1 : base ≤ w.heap.size) (h2 : base ≤ wb) (h3 : RdLL U w gr L) (h4 : ∀ k, U k → k < w.heap.size ∧ k ≠ wb) : St U base wb gr gc go (.slice none 0 0) L w (.slice none 0 0) [] :=
  ⟨hbx, World.ownsRow_nil _ _ _ _, fun e he => by simp at he, h1, h2, h3, fun k hk => ⟨(h4 k hk).1, (h4 k hk).2, by simp [Value.ownBlock]⟩⟩

theorem known_lens : knownL.length ≤ 2000000 ∧ ∀ l ∈ knownL, l.length ≤ 2000000 := by
  refine ⟨by decide, fun l hl => ?_⟩
  simp only [knownL, List.mem_cons, List.mem_nil_iff, or_false] at hl
  rcases hl with rfl | rfl <;> decide

set_option maxHeartbeats 8000000 in
theorem plays_any (gr : Value) (co oo so : Option Addr) (cn cc on oc scap : Nat) (L : List (List Rc)) (ops : List Rc) (w : World) (hL : RdLL (fun k => k < w.heap.size) w gr L) (hS : RdU (fun k => k < w.heap.size) w (.slice so ops.length scap) ops) (hn : ops.length ≤ 1200000) (hLn : L.length ≤ 2000000) (hll : ∀ l ∈ L, l.length ≤ 2000000)
    (hops : ∀ r ∈ ops, (-9223372036854775808 ≤ r.y ∧ r.y ≤ 9223372036854775807) ∧ (-9223372036854775808 ≤ r.w ∧ r.w ≤ 9223372036854775807)) :
    Calls Tryz.prog 7 #[.agg #[gr, .slice co cn cc, .slice oo on oc], .slice so ops.length scap, .int .i64 1, .int .i64 5] w fun e w' => e = .returned (.bool true) ∧ Below w.heap.size w w' := by
  obtain ⟨gao, gcap, egr, gjunk⟩ := id hL
  subst egr
  clear gjunk
  have HL := hide hL
  have HS := hide hS
  have HLL := hide hll
  have HOps := hide hops
  clear hL hS hll hops
  go_enter Tryz.func7, Tryz.ntmps7
  go_wp2_with fail
  have hB0 : Below w.heap.size w (w.alloc (.cells #[.slice gao L.length gcap, .slice co cn cc, .slice oo on oc] 26)) := (Below.refl _ w).alloc (Nat.le_refl _) _
  have hG0 : (w.alloc (.cells #[.slice gao L.length gcap, .slice co cn cc, .slice oo on oc] 26)).heap[w.heap.size]? = some (.cells #[.slice gao L.length gcap, .slice co cn cc, .slice oo on oc] 26) := new_at _ _ _ rfl
  generalize w.alloc (.cells #[.slice gao L.length gcap, .slice co cn cc, .slice oo on oc] 26) = w0 at *
  refine (known_any w0).mono ?_
  rintro e w1 ⟨b1, b2, b3, rfl, hK1, hb1⟩
  have hG1 : w1.heap[w.heap.size]? = some (.cells #[.slice gao L.length gcap, .slice co cn cc, .slice oo on oc] 26) := (hb1.block _ (lt_of_heap hG0)).trans hG0
  have hB1 : Below w.heap.size w w1 := hB0.trans (hb1.mono hB0.size)
  have HG1 := hide hG1
  have HB1 := hide hB1
  have HK1 := hide hK1
  have hs1 := hB1.size
  clear hB0 hG0 hb1 hG1 hB1 hK1
  go_wp2_with fail
  have hX2 : (w1.alloc (.cells #[.slice (some ⟨b1, 0, none⟩) 2 2, .slice (some ⟨b2, 0, none⟩) 2 2, .slice (some ⟨b3, 0, none⟩) 1 1, .slice none 0 0, .slice none 0 0, .slice none 0 0, .slice none 0 0] 39)).heap[w1.heap.size]? = some (.cells #[.slice (some ⟨b1, 0, none⟩) 2 2, .slice (some ⟨b2, 0, none⟩) 2 2, .slice (some ⟨b3, 0, none⟩) 1 1, .slice none 0 0, .slice none 0 0, .slice none 0 0, .slice none 0 0] 39) := new_at _ _ _ rfl
  have hB2 : Below w1.heap.size w1 (w1.alloc (.cells #[.slice (some ⟨b1, 0, none⟩) 2 2, .slice (some ⟨b2, 0, none⟩) 2 2, .slice (some ⟨b3, 0, none⟩) 1 1, .slice none 0 0, .slice none 0 0, .slice none 0 0, .slice none 0 0] 39)) := (Below.refl _ w1).alloc (Nat.le_refl _) _
  generalize w1.alloc (.cells #[.slice (some ⟨b1, 0, none⟩) 2 2, .slice (some ⟨b2, 0, none⟩) 2 2, .slice (some ⟨b3, 0, none⟩) 1 1, .slice none 0 0, .slice none 0 0, .slice none 0 0, .slice none 0 0] 39) = w2 at *
  refine (opening_any w2).mono ?_
  rintro e w3 ⟨vs, rfl, hO3, hlt3, hb3⟩
  have hl2 := lt_of_heap hX2
  have hX3 := (hb3.block _ hl2).trans hX2
  have hB3 : Below w1.heap.size w1 w3 := hB2.trans (hb3.mono (by omega))
  have hSt : St (fun k => k < w1.heap.size ∨ k = w2.heap.size) w1.heap.size w1.heap.size _ _ _ _ knownL w3 _ [] := St.first hX3 (by have := hB3.size; omega) (Nat.le_refl _) (((unhide HK1).wide (fun k hk => .inl hk)).below hB3) (fun k hk => by
    have := hB3.size
    rcases hk with c | c
    · exact ⟨by omega, by omega⟩
    · exact ⟨by omega, by omega⟩)
  have hR3 : RdU (fun k => k < w1.heap.size ∨ k = w2.heap.size) w3 vs openL := hO3.wide (fun k hk => .inr hk)
  obtain ⟨vo, vcap, rfl, vjunk⟩ := id hR3
  clear vjunk
  have HSt := hide hSt
  have HR3 := hide hR3
  have HB3 := hide hB3
  clear hX2 hB2 hO3 hb3 hX3 hSt hR3 hB3
  have hol : openL.length = 15 := rfl
  rw [hol]
  rw [hol] at HR3
  clear hol
  go_wp2
  go_loopw [8, 11] (fun r8 i wr => r8 = .bool false ∧ ∃ k : Nat, k ≤ 15 ∧ i = .int .i64 k ∧ ∃ kr es, St (fun k => k < w1.heap.size ∨ k = w2.heap.size) w1.heap.size w1.heap.size (.slice (some ⟨b1, 0, none⟩) 2 2) (.slice (some ⟨b2, 0, none⟩) 2 2) (.slice (some ⟨b3, 0, none⟩) 1 1) (.slice none 0 0) knownL wr kr es ∧ es.length ≤ k ∧ Below w1.heap.size w1 wr ∧ RdU (fun k => k < w1.heap.size ∨ k = w2.heap.size) wr (.slice vo 15 vcap) openL) (fun _ i _ => 15 - (intOf i).toNat)
  case atStart => exact ⟨rfl, 0, Nat.zero_le _, rfl, _, [], unhide HSt, Nat.le_refl _, unhide HB3, unhide HR3⟩
  case round =>
    rename World => wq
    obtain ⟨rfl, k, hk, rfl, kr, es, hSt, hes, hbel, hrd⟩ := hrel
    clear HSt HR3 HB3
    by_cases hlt : k < 15
    · obtain ⟨r, hr⟩ : ∃ r, openL[k]? = some r := ⟨openL[k]'hlt, List.getElem?_eq_getElem hlt⟩
      obtain ⟨ejunk, b, off, rfl, c1, c2, c3, c4⟩ := hrd.at hr
      clear ejunk
      obtain ⟨q1, q2, q3⟩ := open_kinds r (List.mem_of_getElem? hr)
      have i0 : (0 : Int) ≤ (k : Int) := by omega
      have i1 : (k : Int) < (15 : Int) := by omega
      have HSt := hide hSt
      have Hbel := hide hbel
      have Hrd := hide hrd
      have Hq2 := hide q2
      have Hq3 := hide q3
      clear hSt hbel hrd hr q2 q3
      obtain ⟨kind, oA, oB, oC⟩ := r
      simp only at c1 c2 c3 c4 q1 Hq2 Hq3
      by_cases h5 : kind ≤ 5
      · have HC := hide (step_any (unhide HSt) kind oA oB oC ⟨q1, h5⟩ (unhide Hq2) (unhide Hq3) (by omega) known_lens.1 known_lens.2)
        go_wp2_with fail
        refine (unhide HC).mono ?_
        rintro e w4 ⟨rfl, kr', es', s1, s2, s3, s4⟩
        have H1 := hide s1
        have H3 := hide ((unhide Hbel).trans s3)
        have H4 := hide (s4 _ _ (unhide Hrd))
        clear s1 s3 s4 HC
        go_wp2
        go_roundw
        case rel => exact ⟨rfl, k + 1, by omega, by go_num, kr', es', unhide H1, by omega, unhide H3, unhide H4⟩
        case measure => simp [intOf]; omega
      · have h5' : ¬ kind ≤ 5 := h5
        go_wp2
        go_roundw
        case rel => exact ⟨rfl, k + 1, by omega, by go_num, kr, es, unhide HSt, by omega, unhide Hbel, unhide Hrd⟩
        case measure => simp [intOf]; omega
    · have i2 : ¬ (k : Int) < 15 := by omega
      have hG : wq.heap[w.heap.size]? = some (.cells #[.slice gao L.length gcap, .slice co cn cc, .slice oo on oc] 26) := (hbel.block _ (lt_of_heap (unhide HG1))).trans (unhide HG1)
      have g0 : wq.cell? ⟨w.heap.size, 0, none⟩ = some (.slice gao L.length gcap) := blk_cell hG 0
      have g1 : wq.cell? ⟨w.heap.size, 1, none⟩ = some (.slice co cn cc) := blk_cell hG 1
      have g2 : wq.cell? ⟨w.heap.size, 2, none⟩ = some (.slice oo on oc) := blk_cell hG 2
      have Hq := hide ((unhide HB1).trans (hbel.mono hs1))
      clear hSt hbel hrd hG
      go_wp2
      have hX5 : (wq.alloc (.cells #[.slice gao L.length gcap, .slice co cn cc, .slice oo on oc, .slice none 0 0, .slice none 0 0, .slice none 0 0, .slice none 0 0] 39)).heap[wq.heap.size]? = some (.cells #[.slice gao L.length gcap, .slice co cn cc, .slice oo on oc, .slice none 0 0, .slice none 0 0, .slice none 0 0, .slice none 0 0] 39) := new_at _ _ _ rfl
      have hB5 : Below w.heap.size w (wq.alloc (.cells #[.slice gao L.length gcap, .slice co cn cc, .slice oo on oc, .slice none 0 0, .slice none 0 0, .slice none 0 0, .slice none 0 0] 39)) := (unhide Hq).alloc (unhide Hq).size _
      have hsq := (unhide Hq).size
      clear g0 g1 g2 Hq
      generalize wq.alloc (.cells #[.slice gao L.length gcap, .slice co cn cc, .slice oo on oc, .slice none 0 0, .slice none 0 0, .slice none 0 0, .slice none 0 0] 39) = w5 at *
      generalize wq.heap.size = wb at *
      have hSt : St (fun k => k < w.heap.size) w.heap.size wb (.slice gao L.length gcap) (.slice co cn cc) (.slice oo on oc) (.slice none 0 0) L w5 (.slice none 0 0) [] := St.first hX5 hB5.size hsq ((unhide HL).below hB5) (fun k hk => ⟨Nat.lt_of_lt_of_le hk hB5.size, by omega⟩)
      have hR5 := (unhide HS).below hB5
      have HSt := hide hSt
      have HR5 := hide hR5
      have HB5 := hide hB5
      clear hX5 hB5 hSt hR5
      go_loopw [8, 14] (fun r8 i wr => r8 = .bool false ∧ ∃ k : Nat, k ≤ ops.length ∧ i = .int .i64 k ∧ ∃ kr es, St (fun k => k < w.heap.size) w.heap.size wb (.slice gao L.length gcap) (.slice co cn cc) (.slice oo on oc) (.slice none 0 0) L wr kr es ∧ es.length ≤ k ∧ Below w.heap.size w wr ∧ RdU (fun k => k < w.heap.size) wr (.slice so ops.length scap) ops) (fun _ i _ => ops.length - (intOf i).toNat)
      case atStart => exact ⟨rfl, 0, Nat.zero_le _, rfl, _, [], unhide HSt, Nat.le_refl _, unhide HB5, unhide HR5⟩
      case round =>
        rename World => wp
        obtain ⟨rfl, k, hk, rfl, kr', es', hSt, hes', hbel, hrd⟩ := hrel
        clear HSt HR5 HB5
        by_cases hlt : k < ops.length
        · obtain ⟨r, hr⟩ : ∃ r, ops[k]? = some r := ⟨ops[k], by simp [hlt]⟩
          obtain ⟨ejunk, b, off, rfl, c1, c2, c3, c4⟩ := hrd.at hr
          clear ejunk
          obtain ⟨q2, q3⟩ := (unhide HOps) r (List.mem_of_getElem? hr)
          have i0 : (0 : Int) ≤ (k : Int) := by omega
          have i1 : (k : Int) < (ops.length : Int) := by omega
          have HSt := hide hSt
          have Hbel := hide hbel
          have Hrd := hide hrd
          have Hq2 := hide q2
          have Hq3 := hide q3
          clear hSt hbel hrd hr q2 q3
          obtain ⟨kind, oA, oB, oC⟩ := r
          simp only at c1 c2 c3 c4 Hq2 Hq3
          by_cases h1 : kind < 1
          · go_wp2
            go_roundw
            case rel => exact ⟨rfl, k + 1, by omega, by go_num, kr', es', unhide HSt, by omega, unhide Hbel, unhide Hrd⟩
            case measure => simp [intOf]; omega
          · by_cases h5 : 5 < kind
            · go_wp2
              go_roundw
              case rel => exact ⟨rfl, k + 1, by omega, by go_num, kr', es', unhide HSt, by omega, unhide Hbel, unhide Hrd⟩
              case measure => simp [intOf]; omega
            · have HC := hide (step_any (unhide HSt) kind oA oB oC ⟨by omega, by omega⟩ (unhide Hq2) (unhide Hq3) (by omega) hLn (unhide HLL))
              go_wp2_with fail
              refine (unhide HC).mono ?_
              rintro e w6 ⟨rfl, kr2, es2, s1, s2, s3, s4⟩
              have HBw := hide (bwhole_any wb w.heap.size w.heap.size kr2 es2 w6 (blk_cell s1.box 4) (blk_cell s1.box 5) (blk_cell s1.box 6) s1.own s1.ents (by omega))
              have H1 := hide s1
              have H3 := hide ((unhide Hbel).trans s3)
              have H4 := hide (s4 _ _ (unhide Hrd))
              clear s1 s3 s4 HC
              go_wp2_with fail
              refine (unhide HBw).mono ?_
              rintro e w7 ⟨rfl, hb7⟩
              have H7 := hide hb7
              clear hb7 HBw
              go_wp2
              go_roundw
              case rel => exact ⟨rfl, k + 1, by omega, by go_num, kr2, es2, (unhide H1).below (unhide H7), by omega, (unhide H3).trans ((unhide H7).mono (unhide H3).size), (unhide H4).below (unhide H7)⟩
              case measure => simp [intOf]; omega
        · have Hbel := hide hbel
          clear hSt hbel hrd
          go_wp2
          go_ret
          exact ⟨rfl, unhide Hbel⟩

set_option maxHeartbeats 2000000 in
theorem regions_any (gr : Value) (co oo so : Option Addr) (cn cc on oc scap : Nat) (L : List (List Rc)) (ops : List Rc) (w : World) (hL : RdLL (fun k => k < w.heap.size) w gr L) (hS : RdU (fun k => k < w.heap.size) w (.slice so ops.length scap) ops) (hn : ops.length ≤ 1200000) (hLn : L.length ≤ 2000000) (hll : ∀ l ∈ L, l.length ≤ 2000000)
    (hops : ∀ r ∈ ops, (-9223372036854775808 ≤ r.y ∧ r.y ≤ 9223372036854775807) ∧ (-9223372036854775808 ≤ r.w ∧ r.w ≤ 9223372036854775807)) :
    Calls Tryz.prog 3 #[.agg #[gr, .slice co cn cc, .slice oo on oc], .slice so ops.length scap] w fun e w' => e = .returned (.bool true) ∧ Below w.heap.size w w' := by
  obtain ⟨gao, gcap, egr, gjunk⟩ := id hL
  subst egr
  clear gjunk
  have hb1 : Below w.heap.size w (w.alloc (.cells #[.slice gao L.length gcap, .slice co cn cc, .slice oo on oc] 26)) := (Below.refl _ w).alloc (Nat.le_refl _) _
  have HC := hide (plays_any (.slice gao L.length gcap) co oo so cn cc on oc scap L ops _ ((hL.below hb1).wide (fun k hk => Nat.lt_of_lt_of_le hk hb1.size)) ((hS.below hb1).wide (fun k hk => Nat.lt_of_lt_of_le hk hb1.size)) hn hLn hll hops)
  have Hb1 := hide hb1
  clear hL hS hll hops hb1
  go_enter Tryz.func3, Tryz.ntmps3
  go_wp2_with fail
  refine (unhide HC).mono ?_
  rintro e w' ⟨rfl, hb⟩
  have Hb := hide hb
  clear hb HC
  go_wp2
  go_ret
  exact ⟨rfl, (unhide Hb1).trans ((unhide Hb).mono (unhide Hb1).size)⟩
end Go.Proofs.YtfnockbgkcgpkaaGreat
