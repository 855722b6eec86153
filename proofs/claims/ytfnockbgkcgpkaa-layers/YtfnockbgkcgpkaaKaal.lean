import Derived.Test.YtfnockbgkcgpkaaKaag
import Derived.Test.YtfnockbgkcgpkaaKaak
import Derived.Deep.RegionHeld3
import Derived.Deep.RegionLaw
import Derived.Deep.AppendLies
set_option linter.all false
namespace Go.Proofs.Ytfnockbgkcgpkaa
open Go.RowKit Go.Proofs.Panes
set_option maxRecDepth 100000

theorem vstep_att {will x : List Bool} {o : Opn} (h : vstep will o = some x) (h3 : o.kind = 3) : 1 ≤ o.px.length ∧ o.px.length ≤ 64 := by
  have h8 : ¬ o.kind = 8 := by omega
  unfold vstep at h
  rw [if_neg h8] at h
  split at h
  · rename_i hh
    simp only [Bool.and_eq_true] at hh
    have ha := hh.2
    unfold okArgs at ha
    rw [if_neg (by omega), if_pos h3] at ha
    simp only [Bool.and_eq_true, inB_iff, decide_eq_true_eq] at ha
    obtain ⟨⟨⟨h1, h2⟩, hp⟩, _⟩ := ha
    have : o.w = 1 ∨ o.w = 2 ∨ o.w = 3 ∨ o.w = 4 ∨ o.w = 5 ∨ o.w = 6 ∨ o.w = 7 ∨ o.w = 8 := by omega
    rcases this with e | e | e | e | e | e | e | e <;> rw [e] at hp <;> omega
  · cases h
theorem vall_att : ∀ (l : List Opn) (will x : List Bool), vall will l = some x → ∀ o ∈ l, o.kind = 3 → 1 ≤ o.px.length ∧ o.px.length ≤ 64
  | [], _, _, _ => by simp
  | o :: l, will, x, h => by
    intro p hp
    have h' : (vstep will o).bind (fun y => vall y l) = some x := h
    cases hv : vstep will o with
    | none => rw [hv] at h'; cases h'
    | some y =>
      rw [hv] at h'
      cases List.mem_cons.1 hp with
      | inl e => subst e; exact vstep_att hv
      | inr e => exact vall_att l y x h' p e
/-- What Submit of a client leaves. -/
structure Subd (w w' : World) (cp : Nat) (pq : Value) (cr : Int) (bq m : Nat) (pq' : Value) (x : List Bool) (xs : List Value) (ops : List Opn) (ov : Value) : Prop where
  cell : w'.heap[cp]? = some (.cells ([pq', .int .i64 cr] ++ x.map Value.bool).toArray 126)
  row : w'.ownsRow bq 132 2 pq' (m + 1) (xs ++ [ov, .int .i64 (costOf ops)])
  rd : RdO (fun q => w.heap.size ≤ q ∧ pq'.ownBlock ≠ some q) w' ov (ops.map stripO)
  lies : ∀ u, pq'.ownBlock = some u → pq.ownBlock = some u ∨ w.heap.size ≤ u
  but : But (fun u => u = cp ∨ pq.ownBlock = some u) w w'
/-- What Submit of a client tells, of a transaction that is neither empty nor too long. -/
def CSub (okb : Bool) (ops : List Opn) (cm cq : Int) (cp : Nat) (pq : Value) (cr : Int) (bq m : Nat) (x : List Bool) (xs : List Value) (w : World) (e : Ending) (w' : World) : Prop :=
  (okb = false ∧ e = .returned (.int .i64 3) ∧ Below w.heap.size w w') ∨ (okb = true ∧ ((cm < costOf ops ∧ e = .returned (.int .i64 3) ∧ Below w.heap.size w w') ∨ (costOf ops ≤ cm ∧ cq ≤ (m : Int) ∧ e = .returned (.int .i64 4) ∧ Below w.heap.size w w') ∨ (costOf ops ≤ cm ∧ (m : Int) < cq ∧ e = .returned (.int .i64 0) ∧ ∃ pq' ov, Subd w w' cp pq cr bq m pq' x xs ops ov)))
/-- A transaction more waits. -/
structure Mid (w w8 : World) (cp ob : Nat) (pq q' : Value) (cr : Int) (b x : List Bool) (bq m : Nat) (xs : List Value) (ops : List Opn) (ov : Value) : Prop where
  cell : w8.heap[cp]? = some (.cells ([q', .int .i64 cr] ++ b.map Value.bool).toArray 126)
  ob : w8.heap[ob]? = some (.cells (x.map Value.bool).toArray 124)
  row : w8.ownsRow bq 132 2 q' (m + 1) (xs ++ [ov, .int .i64 (costOf ops)])
  rd : RdO (fun q => w.heap.size ≤ q ∧ q'.ownBlock ≠ some q) w8 ov (ops.map stripO)
  lcp : cp < w.heap.size
  lies : ∀ u, q'.ownBlock = some u → pq.ownBlock = some u ∨ w.heap.size ≤ u
  but : But (fun u => u = cp ∨ pq.ownBlock = some u) w w8
theorem csub_mid {w w6 w7 : World} {cp ob gg gk m bq : Nat} {pq : Value} {cr : Int} {b x : List Bool} {xs : List Value} {ops : List Opn} {ov : Value} {o7 : Obj} (hlcp : cp < w.heap.size) (hlq : ∀ u, pq.ownBlock = some u → u < w.heap.size) (hR6 : RdO (fun q => w.heap.size ≤ q) w6 ov (ops.map stripO)) (hB6 : Below w.heap.size w w6) (hcl6 : w6.heap[cp]? = some (.cells ([pq, .int .i64 cr] ++ b.map Value.bool).toArray 126)) (hO6 : w6.heap[ob]? = some (.cells (x.map Value.bool).toArray 124)) (hQ6 : w6.ownsRow bq 132 2 pq m xs)
    (hgrow : (w6.alloc o7).grownBy w7 pq.ownBlock) (hown7 : w7.ownsRow bq 132 2 (.slice (some ⟨gg, 0, none⟩) (m + 1) gk) (m + 1) (xs ++ [ov, .int .i64 (costOf ops)])) (hat : pq.ownBlock = some gg ∨ gg = w6.heap.size + 1) :
    Mid w (w7.setCell ⟨cp, 0, none⟩ (.slice (some ⟨gg, 0, none⟩) (m + 1) gk)) cp ob pq (.slice (some ⟨gg, 0, none⟩) (m + 1) gk) cr b x bq m xs ops ov := by
  have hkw : pq.ownBlock ≠ some cp := row_kind hQ6 hcl6 (by decide)
  have hko : pq.ownBlock ≠ some ob := row_kind hQ6 hO6 (by decide)
  have hB7 : But (fun u => pq.ownBlock = some u) w6 w7 := ((But.refl _ w6).alloc o7).grown hgrow (fun k e => .inl e)
  have hcl7 := hB7.heap hcl6 hkw
  have hO7 := hB7.heap hO6 hko
  have hne : ob ≠ cp := fun e => by rw [e, hcl6] at hO6; simp at hO6
  have hgc : gg ≠ cp := fun e => by
    rcases hat with c | c
    · exact hkw (e ▸ c)
    · have := lt_of_heap hcl6; omega
  refine ⟨?_, blk_other hO7 hne _, ownsRow_setCell_other hown7 (by simp [Value.ownBlock]; exact hgc) _, ?_, hlcp, fun u hu => ?_, ?_⟩
  · have := blk_set (i := 0) hcl7 (.slice (some ⟨gg, 0, none⟩) (m + 1) gk)
    simpa using this
  · have hR6' : RdO (fun q => w.heap.size ≤ q ∧ (Value.slice (some ⟨gg, 0, none⟩) (m + 1) gk).ownBlock ≠ some q) w6 ov (ops.map stripO) := hR6.lt.wide (fun q hq => ⟨hq.1, fun e => by
      simp only [Value.ownBlock, Option.some.injEq] at e
      subst e
      rcases hat with c | c
      · have := hlq gg c; omega
      · omega⟩)
    exact (hR6'.but hB7 (fun k hk e => by have := hlq k e; omega)).but (S := fun k => k = cp) ((But.refl (fun k => k = cp) w7).setCell (p := ⟨cp, 0, none⟩) (.inl rfl) _) (fun k hk e => by omega)
  · simp only [Value.ownBlock, Option.some.injEq] at hu
    subst hu
    rcases hat with c | c
    · exact .inl c
    · have := hB6.size; exact .inr (by omega)
  · exact ((But.of_below hB6).step (hB7.wide (T := fun u => u = cp ∨ pq.ownBlock = some u) (fun _ _ c => .inr c)) (fun _ c => .inl c)).setCell (p := ⟨cp, 0, none⟩) (.inl (.inl rfl)) _
theorem csub_end {w w8 : World} {cp ob m bq : Nat} {pq q' : Value} {cr : Int} {b0 b1 b2 b3 x0 x1 x2 x3 : Bool} {xs : List Value} {ops : List Opn} {ov : Value} (h : Mid w w8 cp ob pq q' cr [b0, b1, b2, b3] [x0, x1, x2, x3] bq m xs ops ov) :
    Subd w ((((w8.setCell ⟨cp, 2, none⟩ (.bool x0)).setCell ⟨cp, 3, none⟩ (.bool x1)).setCell ⟨cp, 4, none⟩ (.bool x2)).setCell ⟨cp, 5, none⟩ (.bool x3)) cp pq cr bq m q' [x0, x1, x2, x3] xs ops ov := by
  have hr := h.row
  have hk : q'.ownBlock ≠ some cp := row_kind hr h.cell (by decide)
  have hs : ∀ (i : Nat) (u : Value) {v : World}, v.ownsRow bq 132 2 q' (m + 1) (xs ++ [ov, .int .i64 (costOf ops)]) → (v.setCell ⟨cp, i, none⟩ u).ownsRow bq 132 2 q' (m + 1) (xs ++ [ov, .int .i64 (costOf ops)]) := fun i u v hv => ownsRow_setCell_other hv hk _
  have hb : ∀ (i : Nat) (u : Value) {v : World}, But (fun u => u = cp ∨ pq.ownBlock = some u) w v → But (fun u => u = cp ∨ pq.ownBlock = some u) w (v.setCell ⟨cp, i, none⟩ u) := fun i u v hv => hv.setCell (p := ⟨cp, i, none⟩) (.inl (.inl rfl)) _
  have hd : ∀ (i : Nat) (u : Value) {v : World}, RdO (fun q => w.heap.size ≤ q ∧ q'.ownBlock ≠ some q) v ov (ops.map stripO) → RdO (fun q => w.heap.size ≤ q ∧ q'.ownBlock ≠ some q) (v.setCell ⟨cp, i, none⟩ u) ov (ops.map stripO) := fun i u v hv => hv.but (S := fun k => k = cp) ((But.refl (fun k => k = cp) v).setCell (p := ⟨cp, i, none⟩) (.inl rfl) _) (fun k hk e => by have := h.lcp; omega)
  refine ⟨?_, hs _ _ (hs _ _ (hs _ _ (hs _ _ hr))), hd _ _ (hd _ _ (hd _ _ (hd _ _ h.rd))), h.lies, hb _ _ (hb _ _ (hb _ _ (hb _ _ h.but)))⟩
  have := blk_set (i := 5) (blk_set (i := 4) (blk_set (i := 3) (blk_set (i := 2) h.cell (.bool x0)) (.bool x1)) (.bool x2)) (.bool x3)
  simpa using this
set_option maxHeartbeats 1600000 in
theorem csubmit_in (U : Nat → Prop) (cp : Nat) (qo : Option Addr) (qc : Nat) (cr : Int) (b0 b1 b2 b3 x0 x1 x2 x3 okb : Bool) (bq m : Nat) (xs : List Value) (cw ch cc cq cm cu cbh : Int) (S : Nat) (ao : Option Addr) (cap : Nat) (ops : List Opn) (w : World)
    (hcl : w.heap[cp]? = some (.cells #[.slice qo m qc, .int .i64 cr, .bool b0, .bool b1, .bool b2, .bool b3] 126)) (hQ : w.ownsRow bq 132 2 (.slice qo m qc) m xs) (hbq : bq ≤ w.heap.size) (hm : m ≤ 100000)
    (hR : RdO U w (.slice ao ops.length cap) ops) (hl20 : 1 ≤ ops.length ∧ ops.length ≤ 20) (hsm : okb = true → ∀ o ∈ ops, Small o) (hat : okb = true → ∀ o ∈ ops, o.kind = 3 → 1 ≤ o.px.length ∧ o.px.length ≤ 64) (hU : ∀ k, U k → k < w.heap.size)
    (CW : Hid (∀ w, Calls Try.prog 80 #[.int .i64 ops.length, .int .i64 1, .int .i64 20] w fun e w' => e = .returned (.bool true) ∧ w' = w))
    (CA' : Hid (∀ w', Below w.heap.size w w' → Calls Try.prog 81 #[.agg #[.bool b0, .bool b1, .bool b2, .bool b3], .slice ao ops.length cap, .int .i64 (S : Int)] w' fun e w2 => e = .returned (.tuple #[.agg #[.bool x0, .bool x1, .bool x2, .bool x3], .bool okb]) ∧ Below w'.heap.size w' w2)) :
    Calls Try.prog 55 #[.pointer (some ⟨cp, 0, none⟩), .slice ao ops.length cap, .agg #[.int .i64 cw, .int .i64 ch, .int .i64 cc, .int .i64 cq, .int .i64 cm, .int .i64 cu, .int .i64 (S : Int), .int .i64 cbh]] w fun e w' => CSub okb ops cm cq cp (.slice qo m qc) cr bq m [x0, x1, x2, x3] xs w e w' := by
  have hlq : ∀ u, (Value.slice qo m qc).ownBlock = some u → u < w.heap.size := fun u hu => (World.ownsRow.lt hQ u hu).2
  have HLQ := hide hlq
  clear hlq
  have k2 : w.cell? ⟨cp, 2, none⟩ = some (.bool b0) := blk_cell hcl 2
  have k3 : w.cell? ⟨cp, 3, none⟩ = some (.bool b1) := blk_cell hcl 3
  have k4 : w.cell? ⟨cp, 4, none⟩ = some (.bool b2) := blk_cell hcl 4
  have k5 : w.cell? ⟨cp, 5, none⟩ = some (.bool b3) := blk_cell hcl 5
  have lcp := lt_of_heap hcl
  have HCL := hide hcl
  have HQ := hide hQ
  have HR := hide hR
  have HSM := hide hsm
  have HAT := hide hat
  have HU := hide hU
  clear hcl hQ hR hsm hat hU
  go_enter Try.func55, Try.ntmps55
  go_wp2_with (go_at_call 80; refine ((unhide CW) _).mono ?_; rintro e w' ⟨rfl, hw'⟩; have hw2 := hw'.symm; clear hw'; subst hw2)
  have hb1 : Below w.heap.size w (w.alloc (.cells #[.int .i64 cw, .int .i64 ch, .int .i64 cc, .int .i64 cq, .int .i64 cm, .int .i64 cu, .int .i64 (S : Int), .int .i64 cbh] 48)) := (Below.refl _ w).alloc (Nat.le_refl _) _
  have hX1 : (w.alloc (.cells #[.int .i64 cw, .int .i64 ch, .int .i64 cc, .int .i64 cq, .int .i64 cm, .int .i64 cu, .int .i64 (S : Int), .int .i64 cbh] 48)).heap[w.heap.size]? = some (.cells #[.int .i64 cw, .int .i64 ch, .int .i64 cc, .int .i64 cq, .int .i64 cm, .int .i64 cu, .int .i64 (S : Int), .int .i64 cbh] 48) := new_at _ _ _ rfl
  generalize w.alloc (.cells #[.int .i64 cw, .int .i64 ch, .int .i64 cc, .int .i64 cq, .int .i64 cm, .int .i64 cu, .int .i64 (S : Int), .int .i64 cbh] 48) = w1 at *
  have m2 : w1.cell? ⟨cp, 2, none⟩ = some (.bool b0) := (hb1.cell lcp).trans k2
  have m3 : w1.cell? ⟨cp, 3, none⟩ = some (.bool b1) := (hb1.cell lcp).trans k3
  have m4 : w1.cell? ⟨cp, 4, none⟩ = some (.bool b2) := (hb1.cell lcp).trans k4
  have m5 : w1.cell? ⟨cp, 5, none⟩ = some (.bool b3) := (hb1.cell lcp).trans k5
  have f6 : w1.cell? ⟨w.heap.size, 6, none⟩ = some (.int .i64 (S : Int)) := blk_cell hX1 6
  have l1 : w.heap.size < w1.heap.size := lt_of_heap hX1
  have l2 : cp < w1.heap.size := by omega
  have HA := hide hb1.drew
  have HBB := hide (((hb1.alloc (Nat.le_of_lt l1) (.cells #[.bool false, .bool false, .bool false, .bool false] 124)).drew))
  have HA' : Hid (∀ w2, Below w1.drew.heap.size w1.drew w2 → Below w1.heap.size w1 w2) := fun w2 h => (Below.refl _ w1).drew.trans h
  have HB' : Hid (∀ w2, Below (w1.alloc (.cells #[.bool false, .bool false, .bool false, .bool false] 124)).drew.heap.size (w1.alloc (.cells #[.bool false, .bool false, .bool false, .bool false] 124)).drew w2 → Below w1.heap.size w1 w2) := fun w2 hb2 => (((Below.refl _ w1).alloc (Nat.le_refl _) _).drew).trans (hb2.mono (by show _ ≤ (w1.heap.push _).size; rw [Array.size_push]; omega))
  have HY : Hid (∀ w2, Below (w1.alloc (.cells #[.bool false, .bool false, .bool false, .bool false] 124)).drew.heap.size (w1.alloc (.cells #[.bool false, .bool false, .bool false, .bool false] 124)).drew w2 → w2.heap[w1.heap.size]? = some (.cells #[.bool false, .bool false, .bool false, .bool false] 124)) := fun w2 hb2 => (hb2.block _ (by show _ < (w1.heap.push _).size; rw [Array.size_push]; omega)).trans (new_at_drewq _ _ _ rfl)
  have HB1 := hide hb1
  have HX1 := hide hX1
  clear k2 k3 k4 k5 hb1 hX1 CW
  rename_i K aK
  have HK : Hid (∀ (ob : Nat) (wr : World), Below w1.heap.size w1 wr → wr.heap[ob]? = some (.cells #[.bool x0, .bool x1, .bool x2, .bool x3] 124) → w1.heap.size ≤ ob → K { tmps := #[.pointer (some ⟨cp, 0, none⟩), .slice ao ops.length cap, .agg #[.int .i64 cw, .int .i64 ch, .int .i64 cc, .int .i64 cq, .int .i64 cm, .int .i64 cu, .int .i64 (S : Int), .int .i64 cbh], undef, undef, .pointer (some ⟨w.heap.size, 0, none⟩), .int .i64 0, .pointer (some ⟨ob, 0, none⟩), .bool okb, .slice ao ops.length cap, .int .i64 ops.length, .bool true, .bool false, .tuple #[.agg #[.bool x0, .bool x1, .bool x2, .bool x3], .bool okb], .pointer (some ⟨cp, 0, none⟩), .pointer (some ⟨cp, 0, none⟩), .pointer (some ⟨cp, 2, none⟩), .agg #[.bool b0, .bool b1, .bool b2, .bool b3], .slice ao ops.length cap, .pointer (some ⟨w.heap.size, 6, none⟩), .int .i64 (S : Int), .tuple #[.agg #[.bool x0, .bool x1, .bool x2, .bool x3], .bool okb], .agg #[.bool x0, .bool x1, .bool x2, .bool x3], .bool okb, undef, undef, undef, undef, undef, undef, undef, undef, undef, undef, undef, undef, undef, undef, undef, undef, undef, undef, undef, undef, undef, undef, undef, undef, undef, undef, undef, undef, undef, undef, undef, undef, undef, undef, undef], defers := [] } wr) := by
    intro ob wr hbr hob hle
    refine aK _ _ ?_
    clear aK CA' HA HBB HA' HB' HY
    cases okb with
    | false =>
      have HBr := hide ((unhide HB1).trans (hbr.mono (Nat.le_of_lt l1)))
      clear hbr hob
      go_wp2_with fail
      go_region
      go_wp2
      go_ret
      exact .inl ⟨rfl, rfl, (unhide HBr).drew⟩
    | true =>
      have HBr := hide ((unhide HB1).trans (hbr.mono (Nat.le_of_lt l1)))
      have hX := (hbr.block _ l1).trans (unhide HX1)
      have g4 : wr.cell? ⟨w.heap.size, 4, none⟩ = some (.int .i64 cm) := blk_cell hX 4
      have lr1 : w.heap.size < wr.heap.size := lt_of_heap hX
      have HC : Hid (∀ w', Below w.heap.size w w' → Calls Try.prog 82 #[.slice ao ops.length cap] w' fun e w'' => e = .returned (.int .i64 (costOf ops)) ∧ Below w'.heap.size w' w'') := fun w' hb => pcost_any U _ ops w' ((unhide HR).below hb) (by omega) ((unhide HSM) rfl)
      have HXr := hide hX
      have HOB := hide hob
      clear hbr hX hob
      go_wp2_with fail
      go_region_held3 (fun w' => w'.cell? ⟨w.heap.size, 4, none⟩ = some (.int .i64 cm))
        (first | go_keep | assumption)
        ((
          go_at_call 82
          refine ((unhide HC) wr.drew (unhide HBr).drew).mono ?_
          rintro e w3 ⟨rfl, hb3⟩
          have hX3 : w3.heap[w.heap.size]? = _ := (hb3.block _ lr1).trans (unhide HXr)
          have d4 : w3.cell? ⟨w.heap.size, 4, none⟩ = some (.int .i64 cm) := blk_cell hX3 4
          have HX3 := hide hX3
          have HB3 := hide (((unhide HBr).drew).trans (hb3.mono (Nat.le_of_lt lr1)))
          have HO3 := hide ((hb3.block _ (lt_of_heap (unhide HOB))).trans (unhide HOB))
          have HS3 := hide hb3.size
          clear hb3 hX3))
      by_cases hmost : cm < costOf ops
      · clear HC
        go_wp2
        go_ret
        exact .inr ⟨rfl, .inl ⟨hmost, rfl, unhide HB3⟩⟩
      · have hcl3 : w3.heap[cp]? = some (.cells #[.slice qo m qc, .int .i64 cr, .bool b0, .bool b1, .bool b2, .bool b3] 126) := ((unhide HB3).block _ lcp).trans (unhide HCL)
        have e0 : w3.cell? ⟨cp, 0, none⟩ = some (.slice qo m qc) := blk_cell hcl3 0
        have e3 : w3.cell? ⟨w.heap.size, 3, none⟩ = some (.int .i64 cq) := blk_cell (unhide HX3) 3
        have HCL3 := hide hcl3
        clear hcl3 g4 d4 m2 m3 m4 m5 f6
        by_cases hq : cq ≤ (m : Int)
        · clear HC
          go_wp2
          go_quiet (fail)
          go_wp2
          go_ret
          exact .inr ⟨rfl, .inr (.inl ⟨by omega, hq, rfl, below_drewN (unhide HB3) _⟩)⟩
        · go_wp2
          go_quiet (fail)
          have HB4 := hide (below_drewN (unhide HB3) nq)
          have hcl4 : (w3.drewN nq).heap[cp]? = some (.cells #[.slice qo m qc, .int .i64 cr, .bool b0, .bool b1, .bool b2, .bool b3] 126) := unhide HCL3
          have hO4 : (w3.drewN nq).heap[ob]? = some (.cells #[.bool x0, .bool x1, .bool x2, .bool x3] 124) := unhide HO3
          clear e0 e3 HCL3 HB3 HO3 HX3 HS3 HXr HOB HBr
          generalize w3.drewN nq = w4 at *
          have e0 : w4.cell? ⟨cp, 0, none⟩ = some (.slice qo m qc) := blk_cell hcl4 0
          have ez : ∀ t, w4.frozen? ⟨cp, t, none⟩ = false := blk_thaw hcl4
          have HCL4 := hide hcl4
          have HO4 := hide hO4
          clear hcl4 hO4
          have l4 : cp < w4.heap.size := lt_of_heap (unhide HCL4)
          have HCO := hide (copies_any U ao cap ops w4.drew ((unhide HR).below (unhide HB4).drew) hl20 (by have := unhide HAT; first | exact this rfl | exact this trivial) (fun k hk => Nat.lt_of_lt_of_le ((unhide HU) k hk) (unhide HB4).size))
          have hs4 := (unhide HB4).size
          obtain ⟨jj, hj, hy0, hy1, hy2⟩ := info_parts info_tr
          go_wp2_with fail
          go_region_law
            (first
              | (refine step_append_lies _ (by rfl) _ _ _ (by rfl) bq 132 jj _ 2 32 Try.underlying122 hj hy0 hy1 hy2 rfl (by omega) (.slice qo m qc) m xs (by first | rfl | go_simp) (World.ownsRow.alloc (unhide HQ6) _) ⟨w6.heap.size, 0, none⟩ 1 1 [.slice a5 n5 c5, .int .i64 (costOf ops)] (by first | rfl | go_simp) (by rfl) (newsN (new_at _ _ _ rfl)) (by intro u hu; simp at hu; rcases hu with rfl | rfl <;> rfl) (by omega) (by unfold maxLen; omega) (by omega) (by simp; omega) (w6.heap.size + 1) (by simp) ?_
                 intro gg gk w7 hown7 hgrow hat hltg
                 have qf : w7.frozen? ⟨cp, 0, none⟩ = false := (hgrow.frozen_far ⟨cp, 0, none⟩ (Nat.lt_of_lt_of_le l6 (by show _ ≤ (w6.heap.push _).size; rw [Array.size_push]; omega)) (Ne.symm (unhide HKW))).trans ((World.frozen?_of_block (w := w6) (Below.heap_alloc _ _ _ l6)).trans (blk_thaw (unhide HCL6) 0))
                 have qcc : w7.cell? ⟨cp, 0, none⟩ = some (.slice qo m qc) := (hgrow.cell_far ⟨cp, 0, none⟩ (Nat.lt_of_lt_of_le l6 (by show _ ≤ (w6.heap.push _).size; rw [Array.size_push]; omega)) (Ne.symm (unhide HKW))).trans ((World.cell?_of_block (w := w6) (Below.heap_alloc _ _ _ l6)).trans h0))
              | (go_simp
                 go_at_call 83
                 refine (unhide HCO).mono ?_
                 rintro e w5 ⟨a5, n5, c5, rfl, hr5, hb5⟩
                 have HR5 := hide (hr5.wide (V := fun q => w.heap.size ≤ q) (fun q (hq : w4.heap.size ≤ q) => by omega))
                 clear hr5
                 have hb5' : Below w4.heap.size w4 w5 := ((Below.refl _ w4).drew).trans hb5
                 have f0 : w5.cell? ⟨cp, 0, none⟩ = some (.slice qo m qc) := (hb5'.cell l4).trans e0
                 have HB5 := hide hb5'
                 have HB5w := hide ((unhide HB4).trans (hb5'.mono hs4))
                 clear hb5 hb5')
              | (go_simp
                 go_at_call 82
                 refine ((unhide HC) w5 (unhide HB5w)).mono ?_
                 rintro e w6 ⟨rfl, hb6⟩
                 have hb6' : Below w4.heap.size w4 w6 := (unhide HB5).trans (hb6.mono (unhide HB5).size)
                 have HR6 := hide ((unhide HR5).below hb6)
                 have hcl6 := (hb6'.block _ l4).trans (unhide HCL4)
                 have h0 : w6.cell? ⟨cp, 0, none⟩ = some (.slice qo m qc) := blk_cell hcl6 0
                 have hB6w : Below w.heap.size w w6 := (unhide HB5w).trans (hb6.mono (unhide HB5w).size)
                 have hQ6 : w6.ownsRow bq 132 2 (.slice qo m qc) m xs := row_but (S := fun _ => False) (unhide HQ) (.of_below hB6w) (fun _ _ c => c)
                 have hkw : (Value.slice qo m qc).ownBlock ≠ some cp := row_kind hQ6 hcl6 (by decide)
                 have l6 : cp < w6.heap.size := lt_of_heap hcl6
                 have HCL6 := hide hcl6
                 have HB6 := hide hb6'
                 have HB6w := hide hB6w
                 have HQ6 := hide hQ6
                 have HKW := hide hkw
                 have hs6 := hB6w.size
                 clear hb6 hb6' hcl6 hB6w hQ6 hkw))
          all_goals
            have hM := csub_mid (b := [b0, b1, b2, b3]) (x := [x0, x1, x2, x3]) (ob := ob) lcp (unhide HLQ) (unhide HR6) (unhide HB6w) (unhide HCL6) (((unhide HB6).block _ (lt_of_heap (unhide HO4))).trans (unhide HO4)) (unhide HQ6) hgrow hown7 hat
            have hcl8 := hM.cell
            have hO8 := hM.ob
            have HM := hide hM
            clear hM hgrow hown7 hat hltg qf qcc h0 f0 e0 ez HB6w HCL6 HB6 HQ6 HKW HB5 HB5w HCL4 HO4 HCO HC HR5 HR6
            generalize w7.setCell ⟨cp, 0, none⟩ (.slice (some ⟨gg, 0, none⟩) (m + 1) gk) = w8 at *
            have t0 : w8.cell? ⟨ob, 0, none⟩ = some (.bool x0) := blk_cell hO8 0
            have t1 : w8.cell? ⟨ob, 1, none⟩ = some (.bool x1) := blk_cell hO8 1
            have t2 : w8.cell? ⟨ob, 2, none⟩ = some (.bool x2) := blk_cell hO8 2
            have t3 : w8.cell? ⟨ob, 3, none⟩ = some (.bool x3) := blk_cell hO8 3
            have z2 : w8.cell? ⟨cp, 2, none⟩ = some (.bool b0) := blk_cell hcl8 2
            have z3 : w8.cell? ⟨cp, 3, none⟩ = some (.bool b1) := blk_cell hcl8 3
            have z4 : w8.cell? ⟨cp, 4, none⟩ = some (.bool b2) := blk_cell hcl8 4
            have z5 : w8.cell? ⟨cp, 5, none⟩ = some (.bool b3) := blk_cell hcl8 5
            have zz : ∀ t, w8.frozen? ⟨cp, t, none⟩ = false := blk_thaw hcl8
            clear hcl8 hO8
            go_wp2
            go_ret
            exact .inr ⟨rfl, .inr (.inr ⟨by omega, by omega, rfl, _, _, csub_end (unhide HM)⟩)⟩
  clear aK
  go_region_with
    (
      go_at_call 81
      refine ((unhide CA') _ (by first | exact unhide HA | exact unhide HBB)).mono ?_
      rintro e w2 ⟨rfl, hb2⟩
      have hb3 : Below w1.heap.size w1 w2 := by first | exact (unhide HA') w2 hb2 | exact (unhide HB') w2 hb2
      try
        have hY := (unhide HY) w2 hb2
        have y0 : w2.cell? ⟨w1.heap.size, 0, none⟩ = some (.bool false) := blk_cell hY 0
        have y1 : w2.cell? ⟨w1.heap.size, 1, none⟩ = some (.bool false) := blk_cell hY 1
        have y2 : w2.cell? ⟨w1.heap.size, 2, none⟩ = some (.bool false) := blk_cell hY 2
        have y3 : w2.cell? ⟨w1.heap.size, 3, none⟩ = some (.bool false) := blk_cell hY 3
        have yz : ∀ t, w2.frozen? ⟨w1.heap.size, t, none⟩ = false := blk_thaw hY
        have ylt : w1.heap.size < w2.heap.size := lt_of_heap hY
        have HYY := hide hY
        clear hY
      have HB3 := hide hb3
      clear hb2 hb3)
  all_goals
    simp only [Exit.then]
    go_simp
    first
      | exact (unhide HK) _ _ ((unhide HB3).alloc (unhide HB3).size _) (new_at _ _ _ rfl) (unhide HB3).size
      | exact (unhide HK) _ _ ((((unhide HB3).setCell (p := ⟨w1.heap.size, 0, none⟩) (Nat.le_refl _) _).setCell (p := ⟨w1.heap.size, 1, none⟩) (Nat.le_refl _) _).setCell (p := ⟨w1.heap.size, 2, none⟩) (Nat.le_refl _) _ |>.setCell (p := ⟨w1.heap.size, 3, none⟩) (Nat.le_refl _) _) (by simpa using blk_set (i := 3) (blk_set (i := 2) (blk_set (i := 1) (blk_set (i := 0) (unhide HYY) (.bool x0)) (.bool x1)) (.bool x2)) (.bool x3)) (Nat.le_refl _)
end Go.Proofs.Ytfnockbgkcgpkaa
