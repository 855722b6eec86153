import Derived.Test.YtfnockbgkcgpkaaKabq
import Derived.Test.YtfnockbgkcgpkaaKaby
import Derived.BigQuiet
import Derived.Deep.CutBlock
import Derived.Deep.CutRange
set_option linter.all false
namespace Go.Proofs.Ytfnockbgkcgpkaa
open Go.RowKit Go.Proofs.Panes
set_option maxRecDepth 100000
def nilV : Nat → Value := fun _ => .slice none 0 0
theorem conf_ly (c : Cfg) : (confC { c with most := 299, surfaces := 3 }).most = 300 ∧ (confC { c with most := 299, surfaces := 3 }).surfaces = 4 := ⟨rfl, rfl⟩
theorem plX_succ (xs : List Int) (i m : Nat) : plX xs i (m + 1) = plX xs i m ++ [kpk (numO xs (7 * i + m)) 4] := by
  unfold plX
  rw [List.range_succ, List.map_append]
  rfl
theorem plX_len (xs : List Int) (i m : Nat) : (plX xs i m).length = m := by simp [plX]
theorem fit_ly {c : Cfg} (h : FitC c) : FitC { c with most := 299, surfaces := 3 } :=
  ⟨h.w, h.h, h.clients, h.queue, (by unfold FitI; decide : FitI 299), h.quantum, (by unfold FitI; decide : FitI 3), h.behind⟩
/-- The operations that lay a surface, in a block of their own. -/
theorem rdo_two (U : Nat → Prop) (w : World) (i : Nat) (o : Opn) (pv : Value) (hpx : RdN U (w.alloc (.cells #[.int .i64 1, .int .i64 (i : Int), .int .i64 o.x, .int .i64 o.y, .int .i64 0, .int .i64 0, .slice none 0 0, .int .i64 0, .int .i64 o.kind, .int .i64 o.surf, .int .i64 o.x, .int .i64 o.y, .int .i64 o.w, .int .i64 o.h, pv, .int .i64 o.mark] 72)) pv o.px) :
    RdO (fun x => x = w.heap.size ∨ U x) (w.alloc (.cells #[.int .i64 1, .int .i64 (i : Int), .int .i64 o.x, .int .i64 o.y, .int .i64 0, .int .i64 0, .slice none 0 0, .int .i64 0, .int .i64 o.kind, .int .i64 o.surf, .int .i64 o.x, .int .i64 o.y, .int .i64 o.w, .int .i64 o.h, pv, .int .i64 o.mark] 72)) (.slice (some ⟨w.heap.size, 0, none⟩) (adOps i o).length 2) (adOps i o) := by
  refine ⟨_, 2, rfl, by simp [adOps], by simp [maxLen], fun _ => ⟨w.heap.size, 0, rfl, .inl rfl, by simp, fun j x hj => ?_⟩⟩
  have hb := new_at w (.cells #[.int .i64 1, .int .i64 (i : Int), .int .i64 o.x, .int .i64 o.y, .int .i64 0, .int .i64 0, .slice none 0 0, .int .i64 0, .int .i64 o.kind, .int .i64 o.surf, .int .i64 o.x, .int .i64 o.y, .int .i64 o.w, .int .i64 o.h, pv, .int .i64 o.mark] 72) _ rfl
  unfold adOps at hj
  match j, hj with
  | 0, hj =>
    simp only [List.getElem?_cons_zero, Option.some.injEq] at hj
    subst hj
    exact ⟨blk_cell hb 0, blk_cell hb 1, blk_cell hb 2, blk_cell hb 3, blk_cell hb 4, blk_cell hb 5, ⟨.slice none 0 0, blk_cell hb 6, ⟨none, 0, rfl, Nat.le_refl _, by simp [maxLen], fun h => absurd rfl h⟩⟩, blk_cell hb 7⟩
  | 1, hj =>
    simp only [List.getElem?_cons_succ, List.getElem?_cons_zero, Option.some.injEq] at hj
    subst hj
    exact ⟨blk_cell hb 8, blk_cell hb 9, blk_cell hb 10, blk_cell hb 11, blk_cell hb 12, blk_cell hb 13, ⟨pv, blk_cell hb 14, hpx.wide (fun x hx => .inr hx)⟩, blk_cell hb 15⟩
  | j + 2, hj => simp at hj
set_option maxHeartbeats 8000000 in
theorem layers_any (c : Cfg) (hc : FitC c) (ps : List Int) (hps : ps.length ≤ 9223372036854775807) (hfp : ∀ z ∈ ps, FitI z) (xs : List Int) (hxs : xs.length ≤ 9223372036854775807) (hfx : ∀ z ∈ xs, FitI z) (ts : List Int) (hts : ts.length ≤ 9223372036854775807) (hft : ∀ z ∈ ts, FitI z) (w : World) (pvv xvv tvv : Value) (hP : RdN (fun k => k < w.heap.size) w pvv ps) (hX : RdN (fun k => k < w.heap.size) w xvv xs) (hT : RdN (fun k => k < w.heap.size) w tvv ts) :
    Calls Try.prog 9 #[cval c, pvv, xvv, tvv] w fun e w' => e = .returned (.bool true) ∧ Below w.heap.size w w' := by
  obtain ⟨d, hd⟩ : ∃ d, d = confC { c with most := 299, surfaces := 3 } := ⟨_, rfl⟩
  have hok : okCfg d = true := by rw [hd]; exact confC_ok _
  have hdm : d.most = 300 := by rw [hd]; exact (conf_ly c).1
  have hds : d.surfaces = 4 := by rw [hd]; exact (conf_ly c).2
  have HOP : Hid (∀ w2, Calls Try.prog 25 #[.agg #[.int .i64 c.w, .int .i64 c.h, .int .i64 c.clients, .int .i64 c.queue, .int .i64 299, .int .i64 c.quantum, .int .i64 3, .int .i64 c.behind]] w2 (OpenPost d w2)) := fun w2 => by
    rw [hd]; exact opened_any { c with most := 299, surfaces := 3 } (fit_ly hc) w2
  have HNP : Hid (∀ (j : Nat) (w2 : World), j ≤ 1000000 → Below w.heap.size w w2 → Calls Try.prog 34 #[pvv, .int .i64 (j : Int)] w2 fun e w' => e = .returned (.int .i64 (numO ps j)) ∧ w' = w2) := fun j w2 hj hb => number_any _ _ _ _ (hP.below hb) (by omega) j hj
  have HNX : Hid (∀ (j : Nat) (w2 : World), j ≤ 1000000 → Below w.heap.size w w2 → Calls Try.prog 34 #[xvv, .int .i64 (j : Int)] w2 fun e w' => e = .returned (.int .i64 (numO xs j)) ∧ w' = w2) := fun j w2 hj hb => number_any _ _ _ _ (hX.below hb) (by omega) j hj
  have HFP : Hid (∀ j, j ≤ 1000000 → FitI (numO ps j)) := fun j hj => numO_fit hfp j hj
  have HFX : Hid (∀ j, j ≤ 1000000 → FitI (numO xs j)) := fun j hj => numO_fit hfx j hj
  obtain ⟨T0, hT0⟩ : ∃ T0, T0 = ts.length := ⟨_, rfl⟩
  obtain ⟨T, hTT⟩ : ∃ T, T = min T0 30 := ⟨_, rfl⟩
  obtain ⟨tt, tc, rfl, -, -, htc⟩ := hT
  have HTC : Hid (∀ (k : Nat) (w2 : World), k < T0 → Below w.heap.size w w2 → ∃ z, ts.getD k 0 = z ∧ FitI z ∧ ∃ b off, tt = some ⟨b, off, none⟩ ∧ w2.cell? ⟨b, off + k, none⟩ = some (.int .i64 z)) := fun k w2 hk hb => by
    have hk' : k < ts.length := by omega
    have hz : ts[k]? = some ts[k] := List.getElem?_eq_getElem hk'
    obtain ⟨b, off, e, -, hlt, hcc⟩ := htc (fun e => by rw [e] at hk'; simp at hk')
    exact ⟨ts[k], by rw [List.getD_eq_getElem?_getD, hz]; rfl, hft _ (List.getElem_mem hk'), b, off, e, (hb.cell hlt).trans (hcc k _ hz)⟩
  rw [← hT0]
  have HAD : Hid (∀ k, k ≤ 4 → LyI (2 * k) (adS d ps xs k).1 (adS d ps xs k).2 (List.range k) (adA ps xs k)) := fun k hk => ad_ly hok hdm hds ps xs k hk
  have HTN : Hid (∀ k, k ≤ T → LyI (8 + 24 * k) (tnS d ps xs ts k).s (tnS d ps xs ts k).F (tnS d ps xs ts k).o (tnS d ps xs ts k).a ∧ ∀ i, i < 4 → i ∈ (tnS d ps xs ts k).o) := fun k hk => tn_ly hok hdm hds ps xs ts k (by omega)
  have HLV : Hid (∀ w2, Calls Try.prog 24 #[] w2 fun e w' => e = .returned (.bool true) ∧ Below w2.heap.size w2 w') := fun w2 => lives_any w2
  have hT9 : T ≤ 30 := by omega
  have HTT := hide hTT
  clear hc hps hfp hxs hfx hts hft hP hX htc hd hok hdm hds hT0
  unfold cval
  go_enter Try.func9, Try.ntmps9
  go_upto_block 0 with (first
    | (go_at_call 24; refine ((unhide HLV) _).mono ?_; rintro e w2 ⟨rfl, hb2⟩
       have hX2 : w2.heap[w.heap.size]? = some (.cells #[.int .i64 c.w, .int .i64 c.h, .int .i64 c.clients, .int .i64 c.queue, .int .i64 c.most, .int .i64 c.quantum, .int .i64 c.surfaces, .int .i64 c.behind] 40) := (hb2.block _ (by simp)).trans (new_at w _ _ rfl)
       have HB2 : Hid (Below w.heap.size w w2) := ((Below.refl _ w).alloc (Nat.le_refl _) _).trans (hb2.mono (by simp))
       have b0 : w2.cell? ⟨w.heap.size, 0, none⟩ = some (.int .i64 c.w) := blk_cell hX2 0
       have b1 : w2.cell? ⟨w.heap.size, 1, none⟩ = some (.int .i64 c.h) := blk_cell hX2 1
       have b2 : w2.cell? ⟨w.heap.size, 2, none⟩ = some (.int .i64 c.clients) := blk_cell hX2 2
       have b3 : w2.cell? ⟨w.heap.size, 3, none⟩ = some (.int .i64 c.queue) := blk_cell hX2 3
       have b4 : w2.cell? ⟨w.heap.size, 4, none⟩ = some (.int .i64 c.most) := blk_cell hX2 4
       have b5 : w2.cell? ⟨w.heap.size, 5, none⟩ = some (.int .i64 c.quantum) := blk_cell hX2 5
       have b6 : w2.cell? ⟨w.heap.size, 6, none⟩ = some (.int .i64 c.surfaces) := blk_cell hX2 6
       have b7 : w2.cell? ⟨w.heap.size, 7, none⟩ = some (.int .i64 c.behind) := blk_cell hX2 7
       have f4 : w2.frozen? ⟨w.heap.size, 4, none⟩ = false := blk_thaw hX2 4
       have f6 : w2.frozen? ⟨w.heap.size, 6, none⟩ = false := blk_thaw hX2 6
       clear hb2 hX2)
    | (go_at_call 25; refine ((unhide HOP) _).mono ?_; rintro e w4 ⟨sp, rfl, hS4, hb4⟩
       have HS4 := hide hS4
       have HB4 := hide hb4
       clear hS4 hb4))
  have HL0 : Hid (LyO w (w4.alloc (.cells (atc (adA ps xs 0) nilV) 77)) sp w4.heap.size (adS d ps xs 0).1 (adS d ps xs 0).2 (.slice none 0 0) (List.range 0) (adA ps xs 0) nilV) := by
    have h4 := unhide HS4
    have hb4 := unhide HB4
    have hb2 := unhide HB2
    have hzz : w2.heap.size ≤ w4.heap.size := by have := hb4.size; simpa using this
    have hb24 : Below w.heap.size w w4 := by
      have h1 : Below w.heap.size w ((w2.setCell ⟨w.heap.size, 4, none⟩ (.int .i64 299)).setCell ⟨w.heap.size, 6, none⟩ (.int .i64 3)) := (hb2.setCell (p := ⟨w.heap.size, 4, none⟩) (Nat.le_refl _) _).setCell (p := ⟨w.heap.size, 6, none⟩) (Nat.le_refl _) _
      exact h1.trans (hb4.mono h1.size)
    have hba : Below w4.heap.size w4 (w4.alloc (.cells (atc (adA ps xs 0) nilV) 77)) := (Below.refl _ w4).alloc (Nat.le_refl _) _
    have h5 := (h4.below hba).lt
    have hz1 : w.heap.size ≤ w2.heap.size := hb2.size
    refine ⟨⟨fun x => (w2.heap.size ≤ x ∧ x < w4.heap.size), fun _ => False, ?_, fun x hx => ⟨by omega, by simp; omega, fun e => e, by omega, fun e => by cases e⟩, fun _ h => h.elim, fun i _ => ⟨none, 0, rfl, Nat.le_refl _, by simp [maxLen], fun h => absurd rfl h⟩⟩, ownN_nil _, fun e => (by cases e), new_at w4 _ _ rfl, hb24.trans (hba.mono hb24.size), hb24.size⟩
    have h6 := h4.lt.below hba
    show Shop _ _ sp (openS d d.clients.toNat) (openF d d.clients.toNat)
    simpa using h6
  have HE : Hid (w4.alloc (.cells #[.int .i64 0, .int .i64 0, .int .i64 0, .int .i64 0, .int .i64 0, .int .i64 0, .slice none 0 0, .int .i64 0, .int .i64 0, .int .i64 0, .int .i64 0, .int .i64 0, .int .i64 0, .int .i64 0, .slice none 0 0, .int .i64 0, .int .i64 0, .int .i64 0, .int .i64 0, .int .i64 0, .int .i64 0, .int .i64 0, .slice none 0 0, .int .i64 0, .int .i64 0, .int .i64 0, .int .i64 0, .int .i64 0, .int .i64 0, .int .i64 0, .slice none 0 0, .int .i64 0] 77) = w4.alloc (.cells (atc (adA ps xs 0) nilV) 77)) := rfl
  rw [unhide HE]
  clear HE b0 b1 b2 b3 b4 b5 b6 b7 f4 f6 HS4 HB4 HB2 HOP HLV
  generalize w4.alloc (.cells (atc (adA ps xs 0) nilV) 77) = W5 at HL0 ⊢
  generalize w4.heap.size = ap at HL0 ⊢
  go_cut [11] from 33 to 110 (fun s11 wx => ∃ pv, LyO w wx sp ap (adS d ps xs 4).1 (adS d ps xs 4).2 s11 (List.range 4) (adA ps xs 4) pv)
  case first =>
    go_wp2
    go_loopw [11, 13] (fun x y wr => ∃ k : Nat, k ≤ 4 ∧ y = .int .i64 k ∧ ∃ pv, LyO w wr sp ap (adS d ps xs k).1 (adS d ps xs k).2 x (List.range k) (adA ps xs k) pv) (fun _ y _ => 4 - (intOf y).toNat)
    case atStart => exact ⟨0, Nat.zero_le _, rfl, nilV, unhide HL0⟩
    case round =>
      clear HL0
      obtain ⟨k, hk, rfl, pv, hY⟩ := hrel
      by_cases hlt : k < 4
      · obtain ⟨W6, hW6⟩ : ∃ W6, W6 = wr := ⟨_, rfl⟩
        subst hW6
        obtain ⟨hco, hsh, hLk⟩ := ad_step hlt ((unhide HAD) k hk)
        obtain ⟨j0, hj0⟩ : ∃ j : Nat, j = 4 * k := ⟨_, rfl⟩
        obtain ⟨j1, hj1⟩ : ∃ j : Nat, j = 4 * k + 1 := ⟨_, rfl⟩
        obtain ⟨j2, hj2⟩ : ∃ j : Nat, j = 4 * k + 2 := ⟨_, rfl⟩
        obtain ⟨j3, hj3⟩ : ∃ j : Nat, j = 4 * k + 3 := ⟨_, rfl⟩
        obtain ⟨z0, hz0⟩ : ∃ z, kpk (numO ps j0) 8 = z := ⟨_, rfl⟩
        obtain ⟨z1, hz1⟩ : ∃ z, kpk (numO ps j1) 8 = z := ⟨_, rfl⟩
        obtain ⟨z2, hz2⟩ : ∃ z, kpk (numO ps j2) 20 = z := ⟨_, rfl⟩
        obtain ⟨z3, hz3⟩ : ∃ z, kpk (numO ps j3) 20 = z := ⟨_, rfl⟩
        have q0 := kpk_bd (numO ps j0) 8 (by omega)
        have q1 := kpk_bd (numO ps j1) 8 (by omega)
        have q2 := kpk_bd (numO ps j2) 20 (by omega)
        have q3 := kpk_bd (numO ps j3) 20 (by omega)
        rw [hz0] at q0
        rw [hz1] at q1
        rw [hz2] at q2
        rw [hz3] at q3
        have P0 : Pk (numO ps j0) 8 z0 := ⟨hz0, (unhide HFP) _ (by omega), by omega⟩
        have P1 : Pk (numO ps j1) 8 z1 := ⟨hz1, (unhide HFP) _ (by omega), by omega⟩
        have P2 : Pk (numO ps j2) 20 z2 := ⟨hz2, (unhide HFP) _ (by omega), by omega⟩
        have P3 : Pk (numO ps j3) 20 z3 := ⟨hz3, (unhide HFP) _ (by omega), by omega⟩
        obtain ⟨ww, hww⟩ : ∃ z, 1 + z0 = z := ⟨_, rfl⟩
        obtain ⟨hh, hhh⟩ : ∃ z, 1 + z1 = z := ⟨_, rfl⟩
        obtain ⟨xx, hxx⟩ : ∃ z, z2 - 4 = z := ⟨_, rfl⟩
        obtain ⟨yy, hyy⟩ : ∃ z, z3 - 4 = z := ⟨_, rfl⟩
        obtain ⟨N, hN⟩ : ∃ N, (ww * hh).toNat = N := ⟨_, rfl⟩
        have hmul : 0 ≤ ww * hh ∧ ww * hh ≤ 64 := ⟨Int.mul_nonneg (by omega) (by omega), Int.le_trans (Int.mul_le_mul (show ww ≤ 8 by omega) (show hh ≤ 8 by omega) (by omega) (by omega)) (by decide)⟩
        have hN9 : N ≤ 64 := by omega
        have ho : plO ps xs k = ⟨3, (k : Int), xx, yy, ww, hh, plX xs k N, 0⟩ := by
          unfold plO
          rw [← hj1, ← hj2, ← hj3, ← hj0, hz0, hz1, hz2, hz3, hww, hhh, hxx, hyy, hN]
        have e4 : IntKind.i64.wrap (4 * (k : Int)) = (j0 : Int) := by rw [IntKind.wrap_i64]; omega
        have e41 : IntKind.i64.wrap ((j0 : Int) + 1) = (j1 : Int) := by rw [IntKind.wrap_i64]; omega
        have e42 : IntKind.i64.wrap ((j0 : Int) + 2) = (j2 : Int) := by rw [IntKind.wrap_i64]; omega
        have e43 : IntKind.i64.wrap ((j0 : Int) + 3) = (j3 : Int) := by rw [IntKind.wrap_i64]; omega
        have ew : IntKind.i64.wrap (1 + z0) = ww := by rw [IntKind.wrap_i64]; omega
        have eh : IntKind.i64.wrap (1 + z1) = hh := by rw [IntKind.wrap_i64]; omega
        have ex : IntKind.i64.wrap (z2 - 4) = xx := by rw [IntKind.wrap_i64]; omega
        have ey : IntKind.i64.wrap (z3 - 4) = yy := by rw [IntKind.wrap_i64]; omega
        have eN : IntKind.i64.wrap (ww * hh) = (N : Int) := by rw [IntKind.wrap_i64]; omega
        obtain ⟨a7, ha7⟩ : ∃ a : Nat, a = 7 * k := ⟨_, rfl⟩
        have e7 : IntKind.i64.wrap (7 * (k : Int)) = (a7 : Int) := by rw [IntKind.wrap_i64]; omega
        have k1 : (k : Int) < 4 := by omega
        have k0 : (0 : Int) ≤ (k : Int) := by omega
        have HNU : Hid (∀ j : Nat, j ≤ 1000000 → Calls Try.prog 34 #[pvv, .int .i64 (j : Int)] W6 fun e w' => e = .returned (.int .i64 (numO ps j)) ∧ w' = W6) := fun j hj => (unhide HNP) j W6 hj hY.bel
        have lj0 : j0 ≤ 1000000 := by omega
        have lj1 : j1 ≤ 1000000 := by omega
        have lj2 : j2 ≤ 1000000 := by omega
        have lj3 : j3 ≤ 1000000 := by omega
        have HY := hide hY
        have HHH := hide (And.intro hco (And.intro hsh (And.intro hLk ho)))
        have HJ := hide (And.intro ha7 hlt)
        clear hY hco hsh hLk ho hj0 hj1 hj2 hj3 hz0 hz1 hz2 hz3 q0 q1 q2 q3 hww hhh hxx hyy hN hmul ha7 HTC HTN
        go_upto_block 2 with (first
          | (go_at_call 34; refine Calls.mono ((unhide HNU) _ (by first | exact lj0 | exact lj1 | exact lj2 | exact lj3)) ?_; rintro e wz ⟨rfl, hwz⟩; have hwy := hwz.symm; clear hwz; subst hwy)
          | (go_at_call 20; refine Calls.mono (pk_any _ _ _ _ (by first | exact P0 | exact P1 | exact P2 | exact P3)) ?_; rintro e wz ⟨rfl, hwz⟩; have hwy := hwz.symm; clear hwz; subst hwy))
        go_cut [18] from 33 to 110 (fun s18 wx => OwnN wx W6.heap.size s18 (plX xs k N) ∧ Below W6.heap.size W6 wx)
        case first =>
          go_wp2
          go_loopw [18, 19] (fun x y wr => ∃ j : Nat, j ≤ N ∧ y = .int .i64 j ∧ OwnN wr W6.heap.size x (plX xs k j) ∧ Below W6.heap.size W6 wr) (fun _ y _ => N - (intOf y).toNat)
          case atStart => exact ⟨0, Nat.zero_le _, rfl, ownN_nil _, Below.refl _ _⟩
          case round =>
            obtain ⟨j, hj, rfl, hO, hb6⟩ := hrel
            by_cases hjl : j < N
            · obtain ⟨ha7, hlt⟩ := unhide HJ
              obtain ⟨aj, haj⟩ : ∃ a : Nat, a = a7 + j := ⟨_, rfl⟩
              obtain ⟨zj, hzj⟩ : ∃ z, kpk (numO xs aj) 4 = z := ⟨_, rfl⟩
              have PJ : Pk (numO xs aj) 4 zj := ⟨hzj, (unhide HFX) _ (by omega), by omega⟩
              have e8 : IntKind.i64.wrap ((a7 : Int) + (j : Int)) = (aj : Int) := by rw [IntKind.wrap_i64]; omega
              obtain ⟨g, cap, w3, hrun, hO3, hb3, -⟩ := pushT_run hO hb6.size (by rw [plX_len]; omega) zj
              have HNJ : Hid (Calls Try.prog 34 #[xvv, .int .i64 (aj : Int)] wr fun e w' => e = .returned (.int .i64 (numO xs aj)) ∧ w' = wr) := (unhide HNX) aj wr (by omega) ((unhide HY).bel.trans (hb6.mono (unhide HY).bel.size))
              have HR := hide hrun
              have HS : Hid (OwnN w3 W6.heap.size (.slice (some ⟨g, 0, none⟩) ((plX xs k j).length + 1) cap) (plX xs k (j + 1))) := by
                show OwnN w3 W6.heap.size (.slice (some ⟨g, 0, none⟩) ((plX xs k j).length + 1) cap) (plX xs k (j + 1))
                rw [plX_succ, ← ha7, ← haj, hzj]; exact hO3
              have HB : Hid (Below W6.heap.size W6 w3) := hb6.trans hb3
              generalize (plX xs k j).length = ln at HR HS
              have j1 : (j : Int) < (N : Int) := by omega
              clear hO hb6 haj hzj hrun hO3 hb3 ha7
              go_wp2_with (first
                | (go_at_call 34; refine Calls.mono (unhide HNJ) ?_; rintro e wz ⟨rfl, hwz⟩; have hwy := hwz.symm; clear hwz; subst hwy)
                | (go_at_call 20; refine Calls.mono (pk_any _ _ _ _ PJ) ?_; rintro e wz ⟨rfl, hwz⟩; have hwy := hwz.symm; clear hwz; subst hwy)
                | (at_builtin; refine wpList_append_at rfl _ _ 23 23 rfl rfl _ _ _ _ rfl rfl (unhide HR) ?_))
              go_roundw
              case rel => exact ⟨j + 1, by omega, by go_num, unhide HS, unhide HB⟩
              case measure => simp [intOf]; omega
            · have ej : j = N := by omega
              subst ej
              have j1 : ¬ (j : Int) < (j : Int) := by omega
              have HO := hide hO
              have HB := hide hb6
              clear hO hb6
              go_wp2
              go_meet
              case rel => exact ⟨unhide HO, unhide HB⟩
        case rest =>
          obtain ⟨hO, hb6⟩ := hcut
          obtain ⟨lo, lc, hlo, -⟩ := OwnN.rd hO
          rw [plX_len] at hlo
          subst hlo
          obtain ⟨hco, hsh, hLk, ho⟩ := unhide HHH
          rw [ho] at hco hsh
          have hYb := (unhide HY).below hb6
          have hblk := hYb.blk
          have hL := (unhide HY).lay hb6 (i := k) (o := ⟨3, (k : Int), xx, yy, ww, hh, plX xs k N, 0⟩) (lv := (.slice lo N lc)) hO (atSt_but wc ap k ⟨3, (k : Int), xx, yy, ww, hh, plX xs k N, 0⟩ (.slice lo N lc)) (atSt_blk hblk (by omega) _ _)
          have hz := atSt_size wc ap k ⟨3, (k : Int), xx, yy, ww, hh, plX xs k N, 0⟩ (.slice lo N lc)
          have HH : Hid (Calls Try.prog 35 #[.pointer (some ⟨sp, 0, none⟩), .slice (some ⟨wc.heap.size, 0, none⟩) 2 2] ((atSt wc ap k ⟨3, (k : Int), xx, yy, ww, hh, plX xs k N, 0⟩ (.slice lo N lc)).alloc (.cells #[.int .i64 1, .int .i64 (k : Int), .int .i64 xx, .int .i64 yy, .int .i64 0, .int .i64 0, .slice none 0 0, .int .i64 0, .int .i64 3, .int .i64 (k : Int), .int .i64 xx, .int .i64 yy, .int .i64 ww, .int .i64 hh, (.slice lo N lc), .int .i64 0] 72)) fun e w' => (∃ u, e = .returned u) ∧ LyO w w' sp ap (subS (adS d ps xs k).1 0 (adOps k ⟨3, (k : Int), xx, yy, ww, hh, plX xs k N, 0⟩)) (handF (adS d ps xs k).2 (costOf (adOps k ⟨3, (k : Int), xx, yy, ww, hh, plX xs k N, 0⟩))) u11 (List.range k) (updO (adA ps xs k) k ⟨3, (k : Int), xx, yy, ww, hh, plX xs k N, 0⟩) (updV pv k (.slice lo N lc))) := by
            have := hL.hand (n := 2 * k) (ops := adOps k ⟨3, (k : Int), xx, yy, ww, hh, plX xs k N, 0⟩) ((unhide HAD) k hk).wh.sh (by omega) (fun U hU => rdo_two U _ k ⟨3, (k : Int), xx, yy, ww, hh, plX xs k N, 0⟩ (.slice lo N lc) (by
              have h1 := hU k (by omega)
              simp only [updV, updO, if_pos] at h1
              exact h1)) (fun x hx => by
                simp only [adOps, List.mem_cons, List.not_mem_nil, or_false] at hx
                rcases hx with rfl | rfl
                · simp
                · simp only [plX_len]; omega) hco
            rw [hz] at this
            exact this
          have HFIN : Hid (∀ (w11 : World) (v : Value), LyO w w11 sp ap (tickA 400 (subS (adS d ps xs k).1 0 (adOps k ⟨3, (k : Int), xx, yy, ww, hh, plX xs k N, 0⟩), handF (adS d ps xs k).2 (costOf (adOps k ⟨3, (k : Int), xx, yy, ww, hh, plX xs k N, 0⟩)))).1 (tickA 400 (subS (adS d ps xs k).1 0 (adOps k ⟨3, (k : Int), xx, yy, ww, hh, plX xs k N, 0⟩), handF (adS d ps xs k).2 (costOf (adOps k ⟨3, (k : Int), xx, yy, ww, hh, plX xs k N, 0⟩)))).2 v (List.range k ++ [k]) (updO (adA ps xs k) k ⟨3, (k : Int), xx, yy, ww, hh, plX xs k N, 0⟩) (updV pv k (.slice lo N lc)) → LyO w w11 sp ap (adS d ps xs (k + 1)).1 (adS d ps xs (k + 1)).2 v (List.range (k + 1)) (adA ps xs (k + 1)) (updV pv k (.slice lo N lc))) := fun w11 v h => by
            rw [range_succ']
            have e1 : adS d ps xs (k + 1) = tickA 400 (subS (adS d ps xs k).1 0 (adOps k ⟨3, (k : Int), xx, yy, ww, hh, plX xs k N, 0⟩), handF (adS d ps xs k).2 (costOf (adOps k ⟨3, (k : Int), xx, yy, ww, hh, plX xs k N, 0⟩))) := by
              show tickA 400 (subS (adS d ps xs k).1 0 (adOps k (plO ps xs k)), handF (adS d ps xs k).2 (costOf (adOps k (plO ps xs k)))) = _
              rw [ho]
            have e2 : adA ps xs (k + 1) = updO (adA ps xs k) k ⟨3, (k : Int), xx, yy, ww, hh, plX xs k N, 0⟩ := by
              show updO (adA ps xs k) k (plO ps xs k) = _
              rw [ho]
            rw [e1, e2]
            exact h
          have HE : Hid (((((((((wc.setCell ⟨ap, k * 8, none⟩ (.int .i64 3)).setCell ⟨ap, k * 8 + 1, none⟩ (.int .i64 (k : Int))).setCell ⟨ap, k * 8 + 2, none⟩ (.int .i64 xx)).setCell ⟨ap, k * 8 + 3, none⟩ (.int .i64 yy)).setCell ⟨ap, k * 8 + 4, none⟩ (.int .i64 ww)).setCell ⟨ap, k * 8 + 5, none⟩ (.int .i64 hh)).setCell ⟨ap, k * 8 + 6, none⟩ ((.slice lo N lc))).setCell ⟨ap, k * 8 + 7, none⟩ (.int .i64 0)) = atSt wc ap k ⟨3, (k : Int), xx, yy, ww, hh, plX xs k N, 0⟩ (.slice lo N lc)) := rfl
          obtain ⟨-, hlt⟩ := unhide HJ
          obtain ⟨o0, c0⟩ : ∃ v, wc.cell? ⟨ap, k * 8, none⟩ = some v := ⟨_, (blk_cell hblk (k * 8 + 0)).trans (atc_at _ _ hlt (show 0 < 8 by omega))⟩
          have f0 : wc.frozen? ⟨ap, k * 8, none⟩ = false := blk_thaw hblk _
          obtain ⟨o1, c1⟩ : ∃ v, wc.cell? ⟨ap, k * 8 + 1, none⟩ = some v := ⟨_, (blk_cell hblk (k * 8 + 1)).trans (atc_at _ _ hlt (show 1 < 8 by omega))⟩
          have f1 : wc.frozen? ⟨ap, k * 8 + 1, none⟩ = false := blk_thaw hblk _
          obtain ⟨o2, c2⟩ : ∃ v, wc.cell? ⟨ap, k * 8 + 2, none⟩ = some v := ⟨_, (blk_cell hblk (k * 8 + 2)).trans (atc_at _ _ hlt (show 2 < 8 by omega))⟩
          have f2 : wc.frozen? ⟨ap, k * 8 + 2, none⟩ = false := blk_thaw hblk _
          obtain ⟨o3, c3⟩ : ∃ v, wc.cell? ⟨ap, k * 8 + 3, none⟩ = some v := ⟨_, (blk_cell hblk (k * 8 + 3)).trans (atc_at _ _ hlt (show 3 < 8 by omega))⟩
          have f3 : wc.frozen? ⟨ap, k * 8 + 3, none⟩ = false := blk_thaw hblk _
          obtain ⟨o4, c4⟩ : ∃ v, wc.cell? ⟨ap, k * 8 + 4, none⟩ = some v := ⟨_, (blk_cell hblk (k * 8 + 4)).trans (atc_at _ _ hlt (show 4 < 8 by omega))⟩
          have f4 : wc.frozen? ⟨ap, k * 8 + 4, none⟩ = false := blk_thaw hblk _
          obtain ⟨o5, c5⟩ : ∃ v, wc.cell? ⟨ap, k * 8 + 5, none⟩ = some v := ⟨_, (blk_cell hblk (k * 8 + 5)).trans (atc_at _ _ hlt (show 5 < 8 by omega))⟩
          have f5 : wc.frozen? ⟨ap, k * 8 + 5, none⟩ = false := blk_thaw hblk _
          obtain ⟨o6, c6⟩ : ∃ v, wc.cell? ⟨ap, k * 8 + 6, none⟩ = some v := ⟨_, (blk_cell hblk (k * 8 + 6)).trans (atc_at _ _ hlt (show 6 < 8 by omega))⟩
          have f6 : wc.frozen? ⟨ap, k * 8 + 6, none⟩ = false := blk_thaw hblk _
          obtain ⟨o7, c7⟩ : ∃ v, wc.cell? ⟨ap, k * 8 + 7, none⟩ = some v := ⟨_, (blk_cell hblk (k * 8 + 7)).trans (atc_at _ _ hlt (show 7 < 8 by omega))⟩
          have f7 : wc.frozen? ⟨ap, k * 8 + 7, none⟩ = false := blk_thaw hblk _
          have hap : ap < wc.heap.size := lt_of_heap hblk
          have HSH := hide hsh
          clear hco hsh hLk ho hYb hblk hL hz hO hb6 HNU HNX HNP HHH P0 P1 P2 P3
          go_wp2_with (first
            | (rw [unhide HE]; go_at_call 35; refine (unhide HH).mono ?_; rintro e w9 ⟨⟨u, rfl⟩, hY9⟩
               obtain ⟨g, cap, w10, hrun, hY10⟩ := hY9.push (by rw [List.length_range]; omega) k
               rw [List.length_range] at hrun hY10
               have HR := hide hrun
               have HTK : Hid (Calls Try.prog 27 #[.pointer (some ⟨sp, 0, none⟩), .int .i64 400] w10 fun e w' => (∃ u, e = .returned u) ∧ LyO w w' sp ap (tickA 400 (subS (adS d ps xs k).1 0 (adOps k ⟨3, (k : Int), xx, yy, ww, hh, plX xs k N, 0⟩), handF (adS d ps xs k).2 (costOf (adOps k ⟨3, (k : Int), xx, yy, ww, hh, plX xs k N, 0⟩)))).1 (tickA 400 (subS (adS d ps xs k).1 0 (adOps k ⟨3, (k : Int), xx, yy, ww, hh, plX xs k N, 0⟩), handF (adS d ps xs k).2 (costOf (adOps k ⟨3, (k : Int), xx, yy, ww, hh, plX xs k N, 0⟩)))).2 (.slice (some ⟨g, 0, none⟩) (k + 1) cap) (List.range k ++ [k]) (updO (adA ps xs k) k ⟨3, (k : Int), xx, yy, ww, hh, plX xs k N, 0⟩) (updV pv k (.slice lo N lc))) := hY10.tick (unhide HSH) (by omega) 400 (by omega)
               clear hY9 hrun hY10)
            | (at_builtin; refine wpList_append_at rfl _ _ 23 23 rfl rfl _ _ _ _ rfl rfl (unhide HR) ?_)
            | (go_at_call 27; refine (unhide HTK).mono ?_; rintro e w11 ⟨⟨u2, rfl⟩, hY11⟩
               obtain ⟨x15, lsp⟩ := hY11.fine
               have HY11 := hide hY11
               clear hY11))
          go_roundw
          case rel => exact ⟨k + 1, by omega, by go_num, updV pv k (.slice lo N lc), (unhide HFIN) _ _ (unhide HY11)⟩
          case measure => simp [intOf]; omega
      · have ek : k = 4 := by omega
        subst ek
        have HY0 := hide hY
        clear hY HNP HNX HFP HFX HAD hk hlt
        go_wp2
        go_meet
        case rel => exact ⟨pv, unhide HY0⟩
  case rest =>
    clear HL0 HNP HNX HFP HFX HAD
    obtain ⟨pv, hY⟩ := hcut
    have HY0 : Hid (Ly w wc sp ap (tnS d ps xs ts 0).s (tnS d ps xs ts 0).F u11 (tnS d ps xs ts 0).o (tnS d ps xs ts 0).a pv) := hY.ly
    clear hY
    go_upto_block 4 with fail
    go_cut [11] from 111 to 133 (fun s11 wx => ∃ k : Nat, k ≤ T ∧ Ly w wx sp ap (tnS d ps xs ts k).s (tnS d ps xs ts k).F s11 (tnS d ps xs ts k).o (tnS d ps xs ts k).a pv)
    case first =>
      go_wp2
      go_loopw [11, 20] (fun x y wr => ∃ k : Nat, k ≤ T ∧ y = .int .i64 k ∧ Ly w wr sp ap (tnS d ps xs ts k).s (tnS d ps xs ts k).F x (tnS d ps xs ts k).o (tnS d ps xs ts k).a pv) (fun _ y _ => T - (intOf y).toNat)
      case atStart => exact ⟨0, Nat.zero_le _, rfl, unhide HY0⟩
      case round =>
        clear HY0
        obtain ⟨k, hk, rfl, hY⟩ := hrel
        obtain ⟨hLn, h4⟩ := (unhide HTN) k hk
        have hTT := unhide HTT
        by_cases hlt : k < T
        · obtain ⟨z, hz, hfz, b, off, rfl, cz⟩ := (unhide HTC) k wr (by omega) hY.bel
          have hb3 := kpk_bd z 3 (by omega)
          obtain ⟨-, -, hL2⟩ := hLn.turned (by omega) z (h4 _ (tuI_lt z).1) (kpk z 3).toNat (by omega)
          have hTU := turned_any hY hLn h4 (by omega) z hfz
          have hFIN : ∀ (w3 : World) (v : Value), Ly w w3 sp ap (showS (tickA (kpk z 3).toNat (subS (tnS d ps xs ts k).s 0 [tuOp z], handF (tnS d ps xs ts k).F (costOf [tuOp z]))).1 22) (showF (tickA (kpk z 3).toNat (subS (tnS d ps xs ts k).s 0 [tuOp z], handF (tnS d ps xs ts k).F (costOf [tuOp z]))).2 22) v (tuOrd z (tnS d ps xs ts k).o) (tuAt z (tnS d ps xs ts k).a) pv → Ly w w3 sp ap (tnS d ps xs ts (k + 1)).s (tnS d ps xs ts (k + 1)).F v (tnS d ps xs ts (k + 1)).o (tnS d ps xs ts (k + 1)).a pv := fun w3 v h => by
            rw [← hz] at h
            exact h
          generalize tickA (kpk z 3).toNat (subS (tnS d ps xs ts k).s 0 [tuOp z], handF (tnS d ps xs ts k).F (costOf [tuOp z])) = y at hL2 hTU hFIN
          generalize tuAt z (tnS d ps xs ts k).a = at2 at hL2 hTU hFIN
          generalize tuOrd z (tnS d ps xs ts k).o = ord2 at hL2 hTU hFIN
          have HTU := hide hTU
          have HFIN := hide hFIN
          have HL2 := hide hL2
          have k0 : (0 : Int) ≤ (k : Int) := by omega
          have k1 : (k : Int) < (T0 : Int) := by omega
          have k2 : (k : Int) < 30 := by omega
          have n9 : 8 + 24 * k + 2 + 22 ≤ 1300000 := by omega
          clear hY hLn h4 hTT hz hfz hb3 hL2 hTU hFIN HTN HTC
          go_wp2_with (first
            | (refine wpList_load_atc rfl _ rfl rfl (unhide HBLK) ?_)
            | (go_at_call 36; refine (unhide HTU).mono ?_; rintro e w2 ⟨ov2, rfl, hY2⟩
               have hBLK := hY2.blk
               have hap : ap < w2.heap.size := lt_of_heap hBLK
               have HBLK := hide hBLK
               have HSH : Hid (Calls Try.prog 37 #[.pointer (some ⟨sp, 0, none⟩), ov2, .agg (atc at2 pv)] w2 fun e w' => e = .returned (.bool true) ∧ Ly w w' sp ap (showS y.1 22) (showF y.2 22) ov2 ord2 at2 pv) := hY2.shows (unhide HL2) n9
               clear hBLK hY2)
            | (go_at_call 37; refine (unhide HSH).mono ?_; rintro e w3 ⟨rfl, hY3⟩
               have HY3 := hide hY3
               clear hY3))
          go_roundw
          case rel => exact ⟨k + 1, by omega, by go_num, (unhide HFIN) _ _ (unhide HY3)⟩
          case measure => simp [intOf]; omega
        · have HY := hide hY
          by_cases hq : k < T0
          · have k1 : (k : Int) < (T0 : Int) := by omega
            have k2 : ¬ (k : Int) < 30 := by omega
            clear hY hLn h4 hTT HTN HTC
            go_wp2
            go_meet
            case rel => exact ⟨k, hk, unhide HY⟩
          · have k1 : ¬ (k : Int) < (T0 : Int) := by omega
            clear hY hLn h4 hTT HTN HTC
            go_wp2
            go_meet
            case rel => exact ⟨k, hk, unhide HY⟩
    case rest =>
      clear HY0
      obtain ⟨k, hk, hY⟩ := hcut
      obtain ⟨hLn, h4⟩ := (unhide HTN) k hk
      have hBLK := hY.blk
      have hap : ap < wc.heap.size := lt_of_heap hBLK
      have hSH := hY.shows hLn (by omega)
      generalize (tnS d ps xs ts k).a = at2 at hSH hBLK
      have HBLK := hide hBLK
      have HSH : Hid (Calls Try.prog 37 #[.pointer (some ⟨sp, 0, none⟩), u11, .agg (atc at2 pv)] wc fun e w' => e = .returned (.bool true) ∧ Ly w w' sp ap (showS (tnS d ps xs ts k).s 22) (showF (tnS d ps xs ts k).F 22) u11 (tnS d ps xs ts k).o at2 pv) := hSH
      clear hY hLn h4 hBLK hSH HTN HTC
      go_wp2_with (first
        | (refine wpList_load_atc rfl _ rfl rfl (unhide HBLK) ?_)
        | (go_at_call 37; refine (unhide HSH).mono ?_; rintro e w3 ⟨rfl, hY3⟩
           have HY3 := hide hY3
           clear hY3))
      go_ret
      exact ⟨rfl, (unhide HY3).bel⟩
end Go.Proofs.Ytfnockbgkcgpkaa
