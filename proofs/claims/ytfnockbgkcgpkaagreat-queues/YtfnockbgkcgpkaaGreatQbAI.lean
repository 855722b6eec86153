import Derived.Test.YtfnockbgkcgpkaaGreatQbAD
import Derived.Test.YtfnockbgkcgpkaaGreatQbAE
import Derived.Test.YtfnockbgkcgpkaaGreatQbP
set_option linter.all false
namespace Go.Proofs.YtfnockbgkcgpkaaGreat
open Go.RowKit Go.Proofs.Panes
set_option maxRecDepth 100000

set_option maxHeartbeats 1600000 in
theorem csubmit_out (cp : Nat) (cw ch cc cq cm cu cs cbh : Int) (ao : Option Addr) (cap n : Nat) (w : World) (hn : n ≤ 1759218604390) (hin : inB n 1 20 = false) :
    Calls Tryz.prog 56 #[.pointer (some ⟨cp, 0, none⟩), .slice ao n cap, .agg #[.int .i64 cw, .int .i64 ch, .int .i64 cc, .int .i64 cq, .int .i64 cm, .int .i64 cu, .int .i64 cs, .int .i64 cbh]] w fun e w' => e = .returned (.int .i64 3) ∧ Below w.heap.size w w' := by
  have CW : Hid (∀ w, Calls Tryz.prog 75 #[.int .i64 n, .int .i64 1, .int .i64 20] w fun e w' => e = .returned (.bool (inB n 1 20)) ∧ w' = w) := fun w => within_any _ _ _ w
  rw [hin] at CW
  clear hin
  go_enter Tryz.func56, Tryz.ntmps56
  go_wp2_with (go_at_call 75; refine ((unhide CW) _).mono ?_; rintro e w' ⟨rfl, hw'⟩; have hw2 := hw'.symm; clear hw'; subst hw2)
  go_ret
  exact ⟨rfl, (Below.refl _ w).alloc (Nat.le_refl _) _⟩

theorem csubmit_any (U : Nat → Prop) (cp : Nat) (pq : Value) (cr : Int) (b0 b1 b2 b3 : Bool) (bq m : Nat) (xs : List Value) (c : Cfg) (S : Nat) (ao : Option Addr) (cap : Nat) (ops : List Opn) (w : World)
    (hcl : w.heap[cp]? = some (.cells #[pq, .int .i64 cr, .bool b0, .bool b1, .bool b2, .bool b3] 113)) (hQ : w.ownsRow bq 195 2 pq m xs) (hbq : bq ≤ w.heap.size) (hm : m ≤ 100000) (hS : c.surfaces = S) (hS4 : 1 ≤ S ∧ S ≤ 4)
    (hR : RdO U w (.slice ao ops.length cap) ops) (hlen : ops.length ≤ 1759218604390) (hpx : ∀ o ∈ ops, o.px.length ≤ 17592186043904) (hU : ∀ k, U k → k < w.heap.size) :
    Calls Tryz.prog 56 #[.pointer (some ⟨cp, 0, none⟩), .slice ao ops.length cap, cval c] w fun e w' => ∃ code : Int, e = .returned (.int .i64 code) ∧
      ((inB ops.length 1 20 = false ∧ code = 3 ∧ Below w.heap.size w w') ∨ (inB ops.length 1 20 = true ∧ ((vall ([b0, b1, b2, b3].take S) ops = none ∧ code = 3 ∧ Below w.heap.size w w') ∨ ∃ will', vall ([b0, b1, b2, b3].take S) ops = some will' ∧ ((c.most < costOf ops ∧ code = 3 ∧ Below w.heap.size w w') ∨ (costOf ops ≤ c.most ∧ c.queue ≤ (m : Int) ∧ code = 4 ∧ Below w.heap.size w w') ∨
        (costOf ops ≤ c.most ∧ (m : Int) < c.queue ∧ code = 0 ∧ ∃ pq' x, x.length = 4 ∧ x.take S = will' ∧ Subd w w' cp pq cr bq m pq' x))))) := by
  obtain ⟨cw, ch, cc, cq, cm, cu, cs, cbh⟩ := c
  simp only at hS
  subst hS
  unfold cval
  simp only
  obtain ⟨qo, qc, rfl⟩ := row_slice hQ
  cases hin : inB ops.length 1 20 with
  | false => exact (csubmit_out cp cw ch cc cq cm cu S cbh ao cap ops.length w hlen hin).mono fun e w' ⟨h1, h2⟩ => ⟨3, h1, .inl ⟨rfl, rfl, h2⟩⟩
  | true =>
    have hl20 : 1 ≤ ops.length ∧ ops.length ≤ 20 := by
      have hin' := hin
      unfold inB at hin'
      simp only [Bool.and_eq_true, decide_eq_true_eq] at hin'
      omega
    have CW : Hid (∀ w, Calls Tryz.prog 75 #[.int .i64 ops.length, .int .i64 1, .int .i64 20] w fun e w' => e = .returned (.bool true) ∧ w' = w) := fun w => by
      have := within_any ops.length 1 20 w
      have e : (decide ((1 : Int) ≤ (ops.length : Int)) && decide ((ops.length : Int) ≤ 20)) = true := hin
      first | (rw [e] at this; exact this) | (rw [hin] at this; exact this)
    have CA : ∀ w', Below w.heap.size w w' → Calls Tryz.prog 95 #[.agg #[.bool b0, .bool b1, .bool b2, .bool b3], .slice ao ops.length cap, .int .i64 (S : Int)] w' fun e w2 => Aft ([b0, b1, b2, b3].take S) S [b0, b1, b2, b3] ops e ∧ Below w'.heap.size w' w2 := fun w' hb => after_any U (.slice ao ops.length cap) ops b0 b1 b2 b3 S hS4 w' (hR.below hb) (by omega) hpx
    cases hv : vall ([b0, b1, b2, b3].take S) ops with
    | none =>
      refine (csubmit_in U cp qo qc cr b0 b1 b2 b3 false false false false false bq m xs cw ch cc cq cm cu cbh S ao cap ops w hcl hQ hbq hm hR hl20 (fun h => by cases h) (fun h => by cases h) hU CW (fun w' hb => (CA w' hb).mono fun e w2 ⟨h1, h2⟩ => ?_)).mono ?_
      · rcases h1 with ⟨x, _, h, _⟩ | ⟨_, h⟩
        · rw [hv] at h; cases h
        · exact ⟨h, h2⟩
      · rintro e w' (⟨_, h1, h2⟩ | ⟨h, _⟩)
        · exact ⟨3, h1, .inr ⟨rfl, .inl ⟨rfl, rfl, h2⟩⟩⟩
        · cases h
    | some will' =>
      have hwl : ∃ x0 x1 x2 x3 : Bool, ∀ x : List Bool, x.length = 4 → x.take S = will' → x.drop S = [b0, b1, b2, b3].drop S → x = [x0, x1, x2, x3] := by
        by_cases hx : ∃ x : List Bool, x.length = 4 ∧ x.take S = will' ∧ x.drop S = [b0, b1, b2, b3].drop S
        · obtain ⟨x, h1, h2, h3⟩ := hx
          match x, h1 with
          | [x0, x1, x2, x3], _ =>
            refine ⟨x0, x1, x2, x3, fun y _ hy2 hy3 => ?_⟩
            rw [← List.take_append_drop S y, hy2, hy3, ← h2, ← h3, List.take_append_drop]
        · exact ⟨false, false, false, false, fun x h1 h2 h3 => absurd ⟨x, h1, h2, h3⟩ hx⟩
      obtain ⟨x0, x1, x2, x3, hxx⟩ := hwl
      have hsm := vall_small ops _ _ hv
      have hatt := vall_att ops _ _ hv
      by_cases hx : [x0, x1, x2, x3].take S = will'
      · refine (csubmit_in U cp qo qc cr b0 b1 b2 b3 x0 x1 x2 x3 true bq m xs cw ch cc cq cm cu cbh S ao cap ops w hcl hQ hbq hm hR hl20 (fun _ => hsm) (fun _ => hatt) hU CW (fun w' hb => (CA w' hb).mono fun e w2 ⟨h1, h2⟩ => ?_)).mono ?_
        · rcases h1 with ⟨x, g1, g2, g3, g4⟩ | ⟨h, _⟩
          · rw [hv] at g2
            simp only [Option.some.injEq] at g2
            have := hxx x g1 g2.symm g3
            subst this
            exact ⟨g4, h2⟩
          · rw [hv] at h; cases h
        · rintro e w' (⟨h, _⟩ | ⟨_, h⟩)
          · cases h
          · rcases h with ⟨h1, h2, h3⟩ | ⟨h1, h2, h3, h4⟩ | ⟨h1, h2, h3, pq', h4⟩
            · exact ⟨3, h2, .inr ⟨rfl, .inr ⟨will', rfl, .inl ⟨h1, rfl, h3⟩⟩⟩⟩
            · exact ⟨4, h3, .inr ⟨rfl, .inr ⟨will', rfl, .inr (.inl ⟨h1, h2, rfl, h4⟩)⟩⟩⟩
            · exact ⟨0, h3, .inr ⟨rfl, .inr ⟨will', rfl, .inr (.inr ⟨h1, h2, rfl, pq', [x0, x1, x2, x3], rfl, hx, h4⟩)⟩⟩⟩
      · have hE : ∃ x : List Bool, x.length = 4 ∧ x.take S = will' ∧ x.drop S = [b0, b1, b2, b3].drop S := by
          have hvl : ∀ (l : List Opn) (a y : List Bool), vall a l = some y → y.length = a.length := by
            intro l
            induction l with
            | nil => intro a y h; cases h; rfl
            | cons o l ih =>
              intro a y h
              have h' : (vstep a o).bind (fun z => vall z l) = some y := h
              cases hz : vstep a o with
              | none => rw [hz] at h'; cases h'
              | some z =>
                rw [hz] at h'
                have h1 := ih z y h'
                have h2 : z.length = a.length := by
                  unfold vstep at hz
                  split at hz
                  · cases hz; rfl
                  · split at hz
                    · cases hz; simp
                    · cases hz
                omega
          have h1 := hvl ops _ _ hv
          rw [List.length_take] at h1
          simp only [List.length_cons, List.length_nil] at h1
          refine ⟨will' ++ [b0, b1, b2, b3].drop S, by rw [List.length_append, List.length_drop, h1]; simp only [List.length_cons, List.length_nil]; omega, ?_, ?_⟩
          · rw [List.take_append_of_le_length (by omega), List.take_of_length_le (by omega)]
          · rw [List.drop_append, List.drop_of_length_le (by omega), List.nil_append, show S - will'.length = 0 by omega, List.drop_zero]
        obtain ⟨x, g1, g2, g3⟩ := hE
        exact absurd (by rw [← hxx x g1 g2 g3]; exact g2) hx
end Go.Proofs.YtfnockbgkcgpkaaGreat

namespace Go.Proofs.YtfnockbgkcgpkaaGreat
open Go.RowKit Go.Proofs.Panes
set_option maxRecDepth 100000

/-- The client of a number. -/
def look (ks : List (Option Kl)) (n : Int) : Option Kl := if 0 ≤ n then (ks[n.toNat]?).join else none
theorem look_con (ks : List (Option Kl)) (n : Int) : isCon (ks.map kptr) n = (look ks n).isSome := by
  unfold isCon look
  by_cases h0 : 0 ≤ n
  · rw [List.getElem?_map, if_pos h0]
    cases ks[n.toNat]? with
    | none => simp
    | some k => cases k <;> simp [kptr, h0]
  · simp [h0]
theorem look_there (ks : List (Option Kl)) (n : Int) : isThere (ks.map kdoc) n = (look ks n).isSome := by rw [← con_same, look_con]
theorem look_at {ks : List (Option Kl)} {n : Int} {k : Kl} (h : look ks n = some k) : ∃ j : Nat, n = j ∧ ks[j]? = some (some k) := by
  unfold look at h
  by_cases h0 : 0 ≤ n
  · rw [if_pos h0] at h
    refine ⟨n.toNat, by omega, ?_⟩
    cases hq : ks[n.toNat]? with
    | none => rw [hq] at h; cases h
    | some d => rw [hq] at h; cases d with
      | none => cases h
      | some d => cases h; rfl
  · rw [if_neg h0] at h; cases h
/-- What Submit answers. -/
def subCode (c : Cfg) (S : Nat) (ok : Option Kl) (ops : List Opn) : Int :=
  match ok with
  | none => 3
  | some k => if inB ops.length 1 20 = true then (match vall (k.b.take S) ops with | none => 3 | some _ => if c.most < costOf ops then 3 else if c.queue ≤ (k.m : Int) then 4 else 0) else 3

/-- What Submit of the program leaves. -/
def PSub (s : Sh) (n : Int) (ops : List Opn) (base : Nat) (w w' : World) : Prop :=
  (subCode s.c s.S (look s.ks n) ops ≠ 0 ∧ Below w.heap.size w w') ∨ (subCode s.c s.S (look s.ks n) ops = 0 ∧ ∃ (k : Kl) (will' : List Bool) (pq' : Value) (x : List Bool), look s.ks n = some k ∧ vall (k.b.take s.S) ops = some will' ∧ x.length = 4 ∧ x.take s.S = will' ∧ Subd w w' k.cp k.pq k.cr base k.m pq' x)

set_option maxHeartbeats 4000000 in
theorem pSubmit_sh (U : Nat → Prop) {o : Nat → Nat × Nat} {i : Nat} {w : World} {base : Nat} {s : Sh} (h : ShOk o i w base s) (hbase : base ≤ w.heap.size) (n : Int) (ao : Option Addr) (cap : Nat) (ops : List Opn) (hR : RdO U w (.slice ao ops.length cap) ops) (hlen : ops.length ≤ 1759218604390) (hpx : ∀ o ∈ ops, o.px.length ≤ 17592186043904) (hU : ∀ k, U k → k < w.heap.size) :
    Calls Tryz.prog 25 #[.pointer (some ⟨s.xp, 0, none⟩), .int .i64 n, .slice ao ops.length cap] w fun e w' => e = .returned (.int .i64 (subCode s.c s.S (look s.ks n) ops)) ∧ PSub s n ops base w w' := by
  have HC := hide (connected_any h.scr (by simpa using h.len) n)
  rw [look_con] at HC
  obtain ⟨sv, fv, tk, hs⟩ := h.scr.scr
  have hsp := lt_of_heap hs
  cases hl : look s.ks n with
  | none =>
    rw [hl] at HC
    simp only [Option.isSome_none] at HC
    have HP : Hid (∀ w', Below w.heap.size w w' → PSub s n ops base w w') := fun w' hb => .inl ⟨by rw [hl]; simp [subCode], hb⟩
    have e : subCode s.c s.S none ops = 3 := rfl
    rw [e]
    clear h hR hs hl e hU
    go_enter Tryz.func25, Tryz.ntmps25
    go_wp2_with fail
    refine (unhide HC).mono ?_
    rintro e w1 ⟨rfl, hb1⟩
    have HB := hide hb1
    clear hb1 HC
    go_wp2
    go_ret
    exact ⟨rfl, (unhide HP) _ (unhide HB)⟩
  | some k =>
    rw [hl] at HC
    simp only [Option.isSome_some] at HC
    obtain ⟨j, rfl, hk⟩ := look_at hl
    have hK := h.cl j k hk
    have hsb := h.sbd
    obtain ⟨xs, hq⟩ := hK.pq
    have hpt : w.cell? ⟨s.kb, j, none⟩ = some (.pointer (some ⟨k.cp, 0, none⟩)) := h.scr.at (by rw [List.getElem?_map, hk]; rfl)
    have hb4 := hK.blen
    obtain ⟨b0, b1, b2, b3, eb⟩ : ∃ b0 b1 b2 b3, k.b = [b0, b1, b2, b3] := by
      match k.b, hb4 with
      | [b0, b1, b2, b3], _ => exact ⟨b0, b1, b2, b3, rfl⟩
    have hcell := hK.cell
    unfold kcells at hcell
    rw [eb] at hcell
    have CS : Hid (∀ w', Below w.heap.size w w' → Calls Tryz.prog 56 #[.pointer (some ⟨k.cp, 0, none⟩), .slice ao ops.length cap, cval s.c] w' fun e w2 => e = .returned (.int .i64 (subCode s.c s.S (some k) ops)) ∧ PSub s (j : Int) ops base w w2) := fun w' hb => by
      have hB : But (fun _ => False) w w' := .of_below hb
      refine (csubmit_any U k.cp k.pq k.cr b0 b1 b2 b3 base k.m xs s.c s.S ao cap ops w' (hB.heap hcell (fun c => c)) (row_but hq hB (fun _ _ c => c)) (Nat.le_trans hbase hb.size) (by have := hK.few; omega) h.sur ⟨hsb.1, hsb.2.1⟩ (hR.below hb) hlen hpx (fun k hk => Nat.lt_of_lt_of_le (hU k hk) hb.size)).mono ?_
      rintro e w2 ⟨code, rfl, hc⟩
      have ec : code = subCode s.c s.S (some k) ops ∧ ((code ≠ 0 ∧ Below w'.heap.size w' w2) ∨ (code = 0 ∧ ∃ will' pq' x, vall (k.b.take s.S) ops = some will' ∧ x.length = 4 ∧ x.take s.S = will' ∧ Subd w' w2 k.cp k.pq k.cr base k.m pq' x)) := by
        rw [← eb] at hc
        unfold subCode
        rcases hc with ⟨h1, rfl, h3⟩ | ⟨h1, hc⟩
        · simp only [h1]
          exact ⟨rfl, .inl ⟨by decide, h3⟩⟩
        · simp only [h1, if_true]
          rcases hc with ⟨h2, rfl, h3⟩ | ⟨will', h2, hc⟩
          · rw [h2]; exact ⟨rfl, .inl ⟨by decide, h3⟩⟩
          · rw [h2]
            simp only
            rcases hc with ⟨h3, rfl, h4⟩ | ⟨h3, h3', rfl, h4⟩ | ⟨h3, h3', rfl, pq', x, h4, h5, h6⟩
            · rw [if_pos h3]; exact ⟨rfl, .inl ⟨by decide, h4⟩⟩
            · rw [if_neg (by omega), if_pos h3']; exact ⟨rfl, .inl ⟨by decide, h4⟩⟩
            · rw [if_neg (by omega), if_neg (by omega)]; exact ⟨rfl, .inr ⟨rfl, will', pq', x, rfl, h4, h5, h6⟩⟩
      obtain ⟨e1, hc2⟩ := ec
      refine ⟨by rw [e1], ?_⟩
      unfold PSub
      rw [hl, ← e1]
      rcases hc2 with ⟨h1, h2⟩ | ⟨h1, will', pq', x, h2, h2a, h2b, h3⟩
      · exact .inl ⟨h1, hb.trans (h2.mono hb.size)⟩
      · refine .inr ⟨h1, k, will', pq', x, rfl, h2, h2a, h2b, h3.cell, h3.row, fun u hu => (h3.lies u hu).imp id (fun c => Nat.le_trans hb.size c), (hB.wide (fun _ _ c => c.elim)).step h3.but (fun _ c => .inl c)⟩
    unfold cval at CS
    obtain ⟨cfg, hcfg⟩ : ∃ cfg, cfg = s.c := ⟨_, rfl⟩
    obtain ⟨cw, ch, cc, cq, cm, cu, cs, cbh⟩ := cfg
    rw [← hcfg] at CS hs
    simp only at CS hs
    have c0 : w.cell? ⟨s.xp, 0, none⟩ = some (.int .i64 cw) := blk_cell hs 0
    have c1 : w.cell? ⟨s.xp, 1, none⟩ = some (.int .i64 ch) := blk_cell hs 1
    have c2 : w.cell? ⟨s.xp, 2, none⟩ = some (.int .i64 cc) := blk_cell hs 2
    have c3 : w.cell? ⟨s.xp, 3, none⟩ = some (.int .i64 cq) := blk_cell hs 3
    have c4 : w.cell? ⟨s.xp, 4, none⟩ = some (.int .i64 cm) := blk_cell hs 4
    have c5 : w.cell? ⟨s.xp, 5, none⟩ = some (.int .i64 cu) := blk_cell hs 5
    have c6 : w.cell? ⟨s.xp, 6, none⟩ = some (.int .i64 cs) := blk_cell hs 6
    have c7 : w.cell? ⟨s.xp, 7, none⟩ = some (.int .i64 cbh) := blk_cell hs 7
    have c8 : w.cell? ⟨s.xp, 8, none⟩ = some (.slice (some ⟨s.kb, 0, none⟩) (s.ks.map kptr).length (s.ks.map kptr).length) := blk_cell hs 8
    have lkb := h.lt s.kb (.inr (.inl rfl))
    have hjl : j < (s.ks.map kptr).length := by have := (List.getElem?_eq_some_iff.1 hk).1; simpa using this
    obtain ⟨nk, hnk⟩ : ∃ nk, nk = (s.ks.map kptr).length := ⟨_, rfl⟩
    rw [← hnk] at c8 hjl
    have i0 : (0 : Int) ≤ (j : Int) := by omega
    have i1 : (j : Int) < (nk : Int) := by omega
    obtain ⟨code, hcode⟩ : ∃ code, code = subCode s.c s.S (some k) ops := ⟨_, rfl⟩
    rw [← hcfg] at hcode
    rw [← hcfg]
    rw [← hcode] at CS ⊢
    clear h hR hs hl hcode hcell hq hK hk hpx hnk hcfg hb4 hU
    go_enter Tryz.func25, Tryz.ntmps25
    go_wp2_with fail
    refine (unhide HC).mono ?_
    rintro e w1 ⟨rfl, hb1⟩
    have d0 := (hb1.cell hsp).trans c0
    have d1 := (hb1.cell hsp).trans c1
    have d2 := (hb1.cell hsp).trans c2
    have d3 := (hb1.cell hsp).trans c3
    have d4 := (hb1.cell hsp).trans c4
    have d5 := (hb1.cell hsp).trans c5
    have d6 := (hb1.cell hsp).trans c6
    have d7 := (hb1.cell hsp).trans c7
    have d8 := (hb1.cell hsp).trans c8
    have dj := (hb1.cell lkb).trans hpt
    have HB := hide hb1
    clear hb1 HC c0 c1 c2 c3 c4 c5 c6 c7 c8 hpt
    have HBd := hide (unhide HB).drew
    go_wp2_with fail
    go_region_with
      (
        go_at_call 56
        refine ((unhide CS) _ (unhide HBd)).mono ?_
        rintro e w2 ⟨rfl, hP⟩
        have HP := hide hP
        clear hP)
    all_goals
      go_wp2
      go_ret
      exact ⟨rfl, unhide HP⟩
end Go.Proofs.YtfnockbgkcgpkaaGreat

namespace Go.Proofs.YtfnockbgkcgpkaaGreat
open Go.RowKit Go.Proofs.Panes
set_option maxRecDepth 100000

/-- What Submit of the document leaves. -/
structure DSubd (s : Sh) (k : Kl) (j base : Nat) (w w' : World) (will' : List Bool) (g : Nat) (q' : Value) : Prop where
  doc : DocSt w' s.sp s.cb s.c ((s.ks.map kdoc).set j ⟨true, q', k.dcr, .slice (some ⟨g, 0, none⟩) s.S s.S⟩)
  own : OwnB w' w.heap.size (.slice (some ⟨g, 0, none⟩) s.S s.S) will'
  row : ∃ xs, w'.ownsRow base 53 1 q' (k.m + 1) xs
  lies : ∀ u, q'.ownBlock = some u → k.q.ownBlock = some u ∨ w.heap.size ≤ u
  new : w.heap.size ≤ g
  but : But (fun u => u = s.cb ∨ k.q.ownBlock = some u) w w'
def DSub (s : Sh) (n : Int) (ops : List Opn) (base : Nat) (w w' : World) : Prop :=
  (subCode s.c s.S (look s.ks n) ops ≠ 0 ∧ Below w.heap.size w w') ∨ (subCode s.c s.S (look s.ks n) ops = 0 ∧ ∃ (j : Nat) (k : Kl) (will' : List Bool) (g : Nat) (q' : Value), n = j ∧ s.ks[j]? = some (some k) ∧ look s.ks n = some k ∧ vall (k.b.take s.S) ops = some will' ∧ (k.m : Int) < s.c.queue ∧ DSubd s k j base w w' will' g q')

theorem dSubmit_sh (U : Nat → Prop) {w : World} {base : Nat} {s : Sh} (hD : DocSt w s.sp s.cb s.c (s.ks.map kdoc)) (hbase : base ≤ w.heap.size) (hsur : s.c.surfaces = s.S) (hsb : 1 ≤ s.S ∧ s.S ≤ 4)
    (hcl : ∀ (j : Nat) (k : Kl), s.ks[j]? = some (some k) → k.b.length = 4 ∧ OwnB w base k.wv (k.b.take s.S) ∧ (∃ xs, w.ownsRow base 53 1 k.q k.m xs) ∧ k.m ≤ 8)
    (n : Int) (ao : Option Addr) (cap : Nat) (ops : List Opn) (hR : RdO U w (.slice ao ops.length cap) ops) (hlen : ops.length ≤ 1759218604390) (hpx : ∀ o ∈ ops, o.px.length ≤ 17592186043904) (hU : ∀ k, U k → k < w.heap.size) :
    Calls Tryz.prog 27 #[.pointer (some ⟨s.sp, 0, none⟩), .int .i64 n, .slice ao ops.length cap] w fun e w' => e = .returned (.int .i64 (subCode s.c s.S (look s.ks n) ops)) ∧ DSub s n ops base w w' := by
  cases hl : look s.ks n with
  | none =>
    refine (docSubmit_bad hD n ao ops.length cap (by omega) (by rw [look_there, hl]; rfl)).mono ?_
    rintro e w' ⟨rfl, rfl⟩
    exact ⟨rfl, .inl ⟨by rw [hl]; simp [subCode], Below.refl _ _⟩⟩
  | some k =>
    obtain ⟨j, rfl, hk⟩ := look_at hl
    cases hin : inB ops.length 1 20 with
    | false =>
      refine (docSubmit_bad hD j ao ops.length cap (by omega) (by rw [look_there, hl, hin]; rfl)).mono ?_
      rintro e w' ⟨rfl, rfl⟩
      have e : subCode s.c s.S (some k) ops = 3 := by simp [subCode, hin]
      exact ⟨by rw [e], .inl ⟨by rw [hl, e]; decide, Below.refl _ _⟩⟩
    | true =>
      obtain ⟨hb4, hW, ⟨xs, hQ⟩, hm⟩ := hcl j k hk
      have hl20 : 1 ≤ ops.length ∧ ops.length ≤ 20 := by
        unfold inB at hin
        simp only [Bool.and_eq_true, decide_eq_true_eq] at hin
        omega
      have hkd : (s.ks.map kdoc)[j]? = some ⟨true, k.q, k.dcr, k.wv⟩ := by rw [List.getElem?_map, hk]; rfl
      refine (docSubmit_main U hD j _ hkd rfl s.S hsur hsb base base k.m (k.b.take s.S) (by rw [List.length_take]; omega) hW xs hQ hbase (by omega) ops ao cap hR hl20 hpx hU).mono ?_
      rintro e w' ⟨code, rfl, hc⟩
      have ec : code = subCode s.c s.S (some k) ops ∧ ((code ≠ 0 ∧ Below w.heap.size w w') ∨ (code = 0 ∧ ∃ will' g q', vall (k.b.take s.S) ops = some will' ∧ (k.m : Int) < s.c.queue ∧ DSubd s k j base w w' will' g q')) := by
        unfold subCode
        simp only [hin, if_true]
        rcases hc with ⟨h2, rfl, h3⟩ | ⟨will', h2, hc⟩
        · rw [h2]; exact ⟨rfl, .inl ⟨by decide, h3⟩⟩
        · rw [h2]
          simp only
          rcases hc with ⟨h3, rfl, h4⟩ | ⟨h3, h3', rfl, h4⟩ | ⟨h3, h3', rfl, g, q', a1, a2, a3, a4, a5, a6⟩
          · rw [if_pos h3]; exact ⟨rfl, .inl ⟨by decide, h4⟩⟩
          · rw [if_neg (by omega), if_pos h3']; exact ⟨rfl, .inl ⟨by decide, h4⟩⟩
          · rw [if_neg (by omega), if_neg (by omega)]; exact ⟨rfl, .inr ⟨rfl, will', g, q', rfl, h3', a1, a2, a3, a4, a5, a6⟩⟩
      obtain ⟨e1, hc2⟩ := ec
      refine ⟨by rw [e1], ?_⟩
      unfold DSub
      rw [hl, ← e1]
      rcases hc2 with ⟨h1, h2⟩ | ⟨h1, will', g, q', h2, h3, h4⟩
      · exact .inl ⟨h1, h2⟩
      · exact .inr ⟨h1, j, k, will', g, q', rfl, hk, rfl, h2, h3, h4⟩

/-- Both calls of Submit, one behind the other. -/
theorem ShOk.both {o : Nat → Nat × Nat} {i : Nat} {w w2 w3 : World} {base : Nat} {s : Sh} (h : ShOk o i w base s) (hbase : base ≤ w.heap.size) {n : Int} {ops : List Opn} (hp : PSub s n ops base w w2) (hd : DSub s n ops base w2 w3) :
    ∃ s' o', s'.xp = s.xp ∧ s'.sp = s.sp ∧ ShOk o' i w3 base s' ∧ Same w o o' ∧ ∃ T : Nat → Prop, But T w w3 ∧ ∀ g, T g → base ≤ g ∧ g < w.heap.size ∧ (o g).1 = i := by
  rcases hp with ⟨h1, h2⟩ | ⟨h1, k, will', pq', x, h2, h3, h3a, h3b, h4⟩
  · rcases hd with ⟨_, h4⟩ | ⟨h3, _⟩
    · have hb : Below w.heap.size w w3 := h2.trans (h4.mono h2.size)
      have hB : But (fun _ => False) w w3 := .of_below hb
      exact ⟨s, o, rfl, rfl, h.but hB (fun _ _ => rfl) (fun _ _ _ c => c), fun _ _ => rfl, fun _ => False, hB, fun _ c => c.elim⟩
    · exact absurd h3 h1
  · rcases hd with ⟨h5, _⟩ | ⟨_, j, k', will2, g, q', rfl, hk, h6, h7, h8, h9⟩
    · exact absurd h1 h5
    · rw [h2] at h6
      cases h6
      rw [h3] at h7
      cases h7
      have hK := h.cl j k hk
      have hq8 := h.sbd.2.2
      obtain ⟨r1, r2⟩ := h.submit hbase hk h3a (by omega) h4.cell h4.row h4.lies h4.but h9.doc (by rw [h3b]; exact h9.own) h9.row h9.lies h9.new h9.but
      refine ⟨{ s with ks := s.ks.set j (some { k with pq := pq', b := x, m := k.m + 1, q := q', wv := .slice (some ⟨g, 0, none⟩) s.S s.S }) }, paint w o (i, j + 1), rfl, rfl, r1, paint_same _ _ _, _, r2, fun u hu => ?_⟩
      rcases hu with (c | c) | c | c
      · have := hK.lt u (.inl c); exact ⟨this.1, this.2, by rw [hK.col u (.inl c)]⟩
      · have := hK.lt u (.inr (.inl c)); exact ⟨this.1, this.2, by rw [hK.col u (.inr (.inl c))]⟩
      · exact ⟨h.ge u (.inr (.inr (.inr c))), h.lt u (.inr (.inr (.inr c))), by rw [h.col u (.inr (.inr (.inr c)))]⟩
      · have := hK.lt u (.inr (.inr (.inl c))); exact ⟨this.1, this.2, by rw [hK.col u (.inr (.inr (.inl c)))]⟩
/-- What the document's Submit needs, behind the program's. -/
theorem ShOk.docs {o : Nat → Nat × Nat} {i : Nat} {w w2 : World} {base : Nat} {s : Sh} (h : ShOk o i w base s) {n : Int} {ops : List Opn} (hp : PSub s n ops base w w2) :
    DocSt w2 s.sp s.cb s.c (s.ks.map kdoc) ∧ (∀ (j : Nat) (k : Kl), s.ks[j]? = some (some k) → k.b.length = 4 ∧ OwnB w2 base k.wv (k.b.take s.S) ∧ (∃ xs, w2.ownsRow base 53 1 k.q k.m xs) ∧ k.m ≤ 8) ∧ w.heap.size ≤ w2.heap.size ∧ ∃ T : Nat → Prop, But T w w2 ∧ ∀ g, T g → (base ≤ g ∧ g < w.heap.size) ∧ (o g).1 = i := by
  have hx : ∃ T : Nat → Prop, But T w w2 ∧ (∀ g, T g → base ≤ g ∧ g < w.heap.size) ∧ (∀ g, T g → ∃ (j : Nat) (k : Kl), s.ks[j]? = some (some k) ∧ (g = k.cp ∨ k.pq.ownBlock = some g)) := by
    rcases hp with ⟨_, h2⟩ | ⟨_, k, will', pq', x, h2, h3, _, _, h4⟩
    · exact ⟨fun _ => False, .of_below h2, fun _ c => c.elim, fun _ c => c.elim⟩
    · obtain ⟨j, rfl, hk⟩ := look_at h2
      have hK := h.cl j k hk
      exact ⟨_, h4.but, fun g hg => hK.lt g (hg.imp id .inl), fun g hg => ⟨j, k, hk, hg⟩⟩
  obtain ⟨T, hB, hT1, hT2⟩ := hx
  refine ⟨h.doc.but hB (fun c => ?_) (fun c => ?_), fun j k hk => ?_, hB.size, T, hB, fun g hg => ⟨hT1 g hg, by obtain ⟨j, k, hk, hc⟩ := hT2 g hg; rw [(h.cl j k hk).col g (hc.imp id .inl)]⟩⟩
  · obtain ⟨j, k, hk, hg⟩ := hT2 _ c
    have := (h.cl j k hk).col s.sp (hg.imp id .inl)
    rw [h.col s.sp (.inr (.inr (.inl rfl)))] at this; simp at this
  · obtain ⟨j, k, hk, hg⟩ := hT2 _ c
    have := (h.cl j k hk).col s.cb (hg.imp id .inl)
    rw [h.col s.cb (.inr (.inr (.inr rfl)))] at this; simp at this
  · have hK := h.cl j k hk
    obtain ⟨ys, hq⟩ := hK.q
    have hn : ∀ g, (∃ cs t fz, w.heap[g]? = some (.cells cs t fz) ∧ t ≠ 113 ∧ t ≠ 195) → ¬ T g := fun g ⟨cs, t, fz, hg, n1, n2⟩ c => by
      obtain ⟨j', k', hk', hc⟩ := hT2 _ c
      have hK' := h.cl j' k' hk'
      rcases hc with e | e
      · subst e
        rw [hK'.cell] at hg
        simp at hg
        exact n1 hg.2.1.symm
      · obtain ⟨zs, hp⟩ := hK'.pq
        exact row_kind hp hg n2 e
    refine ⟨hK.blen, row_but hK.wv hB (fun g hg => ?_), ⟨ys, row_but hq hB (fun g hg => ?_)⟩, hK.few⟩
    · obtain ⟨cs, fz, e⟩ := row_heap hK.wv hg
      exact hn g ⟨cs, _, fz, e, by decide, by decide⟩
    · obtain ⟨cs, fz, e⟩ := row_heap hq hg
      exact hn g ⟨cs, _, fz, e, by decide, by decide⟩

/-- The transaction that is lent reads as the one that was handed in. -/
theorem OpsLent.lent' {U : Nat → Prop} {mb : Nat} {v : Value} {l : List Opn} {w w' : World} {ms : List MOp} {li : Value} {ns : List NLoan} {lo : Value} (h : OpsLent U mb v l w w' ms li ns lo) (hl : l.length + 3 ≤ maxLen) (hpx : ∀ o ∈ l, o.px.length + 3 ≤ maxLen) :
    RdO (fun u => w.heap.size ≤ u ∧ u < w'.heap.size) w' (.slice (some ⟨w.heap.size, 0, none⟩) l.length (l.length + 3)) l := by
  have hml : (ms ++ [m77, m77, m77]).length = l.length + 3 := by simp [h.len]
  have hlt := (World.ownsRow.lt h.own w.heap.size rfl).2
  refine ⟨some ⟨w.heap.size, 0, none⟩, l.length + 3, rfl, by omega, hl, fun _ => ⟨w.heap.size, 0, rfl, ⟨Nat.le_refl _, hlt⟩, hlt, fun j o ho => ?_⟩⟩
  have hj := (List.getElem?_eq_some_iff.1 ho).1
  obtain ⟨m, hm⟩ : ∃ m, ms[j]? = some m := ⟨ms[j]'(by rw [h.len]; exact hj), by simp⟩
  have hm' : (ms ++ [m77, m77, m77])[j]? = some m := by rw [List.getElem?_append_left (by rw [h.len]; exact hj)]; exact hm
  have hO := h.mo j o m ho hm
  have at' := fun t ht => ownO_at h.own hml.symm hm' t ht
  rw [Nat.zero_add]
  refine ⟨by rw [← hO.kind]; exact at' 0 (by omega), by rw [← hO.surf]; exact at' 1 (by omega), by rw [← hO.x]; exact at' 2 (by omega), by rw [← hO.y]; exact at' 3 (by omega), by rw [← hO.w]; exact at' 4 (by omega), by rw [← hO.h]; exact at' 5 (by omega), ⟨m.pv, at' 6 (by omega), ?_⟩, by rw [← hO.mark]; exact at' 7 (by omega)⟩
  rcases hO.pv with ⟨e1, e2⟩ | ⟨x, hx, e1, e2⟩
  · rw [e1, e2]; exact ⟨none, 0, rfl, Nat.le_refl _, by simp [maxLen], fun h => absurd rfl h⟩
  · rw [e1]
    have hox := h.lent.own x hx
    have hxl := h.lent.lt hx
    have hpl := hpx o (List.mem_of_getElem? ho)
    refine ⟨some ⟨x.g, 0, none⟩, o.px.length + 3, rfl, by omega, hpl, fun _ => ⟨x.g, 0, rfl, hxl, hxl.2, fun t z hz => ?_⟩⟩
    rw [Nat.zero_add]
    have hfl : (x.l ++ [77, 77, 77]).length = x.l.length + 3 := by simp
    refine ownN_at (n := x.l.length + 3) (cap := x.l.length + 3) hox hfl.symm ?_
    rw [e2, List.getElem?_append_left (List.getElem?_eq_some_iff.1 hz).1]
    exact hz
end Go.Proofs.YtfnockbgkcgpkaaGreat
