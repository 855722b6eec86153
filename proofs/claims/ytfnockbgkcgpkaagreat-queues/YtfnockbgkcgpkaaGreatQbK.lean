import Derived.Test.YtfnockbgkcgpkaaGreatQbJ
import Derived.Deep.RegionHeld3
import Derived.Deep.RegionLaw
set_option linter.all false
namespace Go.Proofs.YtfnockbgkcgpkaaGreat
open Go.RowKit Go.Proofs.Panes
set_option maxRecDepth 100000
attribute [local go_sem ↓] Go.wp_at_zero Go.wp_at_succ

def dnone : DCl := ⟨false, .slice none 0 0, 0, .slice none 0 0⟩
theorem info_client : (Tryz.prog.info? 123).map (fun i => (i.zero, i.size, i.bytes)) = some (some (.agg #[.bool false, .slice none 0 0, .int .i64 0, .slice none 0 0]), 4, 64) := by kernel_rfl
theorem made_clients (n : Nat) : madeCells #[.bool false, .slice none 0 0, .int .i64 0, .slice none 0 0] (n * 4) = (dcells (List.replicate n dnone)).toArray := by
  apply Array.ext'
  apply List.ext_getElem?
  intro j
  by_cases hj : j < n * 4
  · obtain ⟨q, t, hq, ht⟩ : ∃ q t, j = q * 4 + t ∧ t < 4 := ⟨j / 4, j % 4, by omega, by omega⟩
    have hql : q < n := by omega
    have hat := dcells_at (List.replicate n dnone) q dnone (by simp [hql])
    have hm : (madeCells #[.bool false, .slice none 0 0, .int .i64 0, .slice none 0 0] (n * 4)).toList[j]? = some ((#[Value.bool false, .slice none 0 0, .int .i64 0, .slice none 0 0] : Array Value)[j % 4]!) := by simp [madeCells, hj]
    rw [hm]
    subst hq
    have e : (q * 4 + t) % 4 = t := by omega
    rw [e]
    match t, ht with
    | 0, _ => exact hat.1.symm
    | 1, _ => exact hat.2.1.symm
    | 2, _ => exact hat.2.2.1.symm
    | 3, _ => exact hat.2.2.2.symm
  · have h1 : (dcells (List.replicate n dnone)).length = n * 4 := by rw [dcells_len]; simp
    rw [List.getElem?_eq_none (by simp [size_madeCells]; omega), List.getElem?_eq_none (by simp; omega)]
theorem make_clients (n : Nat) (hn : n ≤ 1000) (u : World) : (Instr.makeSlice 114 (.int .i64 (n : Int)) (.int .i64 (n : Int))).run Tryz.prog u = .ok (.slice (some ⟨u.heap.size, 0, none⟩) n n) (u.alloc (.cells (dcells (List.replicate n dnone)).toArray 123)) := by
  obtain ⟨i0, hi, hz0, hz1, hz2⟩ := info_parts info_client
  have h := run_make (P := Tryz.prog) u 114 123 i0 _ Tryz.underlying114 hi hz0 .i64 .i64 (n : Int) (n : Int) (by omega) (Int.le_refl _) (by rw [hz2]; omega) (by omega)
  simp only [Int.toNat_natCast, hz1] at h
  rw [← made_clients]
  simpa [Value.cells] using h

set_option maxHeartbeats 2000000 in
theorem docNew_bad (c : Cfg) (w : World) (hc : okCfg c = false) :
    Calls Tryz.prog 41 #[cval c] w fun e w' => e = .returned (.tuple #[.pointer none, .int .i64 2]) ∧ Below w.heap.size w w' := by
  obtain ⟨a, b, d, e, f, g, h, i⟩ := c
  have HC : Hid (∀ w, Calls Tryz.prog 73 #[.agg #[.int .i64 a, .int .i64 b, .int .i64 d, .int .i64 e, .int .i64 f, .int .i64 g, .int .i64 h, .int .i64 i]] w fun e w' => e = .returned (.bool false) ∧ Below w.heap.size w w') := fun w => by
    have := isConfig_any ⟨a, b, d, e, f, g, h, i⟩ w
    rw [hc] at this
    exact this
  unfold cval
  simp only
  clear hc
  go_enter Tryz.func41, Tryz.ntmps41
  go_wp2_with fail
  refine ((unhide HC) _).mono ?_
  rintro e w1 ⟨rfl, hb⟩
  have HB := hide (((Below.refl _ w).alloc (Nat.le_refl _) _).trans (hb.mono (by simp)))
  clear hb HC
  go_wp2
  go_ret2
  exact ⟨rfl, unhide HB⟩

set_option maxHeartbeats 8000000 in
theorem docNew_ok (c : Cfg) (w : World) (hc : okCfg c = true) (n : Nat) (hn : c.clients = n) :
    Calls Tryz.prog 41 #[cval c] w fun e w' => ∃ sp cb, e = .returned (.tuple #[.pointer (some ⟨sp, 0, none⟩), .int .i64 0]) ∧ DocSt w' sp cb c (List.replicate n dnone) ∧ w.heap.size ≤ sp ∧ w.heap.size ≤ cb ∧ Below w.heap.size w w' := by
  have hbd : (1 ≤ c.w ∧ c.w ≤ 16) ∧ (1 ≤ c.h ∧ c.h ≤ 16) ∧ (1 ≤ c.clients ∧ c.clients ≤ 4) := by
    have := hc
    simp only [okCfg, Bool.and_eq_true, inB_iff] at this
    exact ⟨this.1.1.1.1.1.1.1, this.1.1.1.1.1.1.2, this.1.1.1.1.1.2⟩
  obtain ⟨W, hW⟩ : ∃ W : Nat, c.w = W := ⟨c.w.toNat, by omega⟩
  obtain ⟨H, hH⟩ : ∃ H : Nat, c.h = H := ⟨c.h.toNat, by omega⟩
  have HI := hide (isConfig_any c)
  rw [hc] at HI
  obtain ⟨a, b, d, e, f, g, h, i⟩ := c
  simp only at hW hH hn hbd
  subst hW hH hn
  unfold cval at HI ⊢
  simp only at HI ⊢
  have hmk := make_clients n (by omega)
  clear hc
  go_enter Tryz.func41, Tryz.ntmps41
  go_wp2_with fail
  refine ((unhide HI) _).mono ?_
  rintro x w1 ⟨rfl, hb1⟩
  have hB1 : Below w.heap.size w w1 := ((Below.refl _ w).alloc (Nat.le_refl _) _).trans (hb1.mono (by simp))
  have hX1 : w1.heap[w.heap.size]? = some (.cells #[.int .i64 W, .int .i64 H, .int .i64 n, .int .i64 e, .int .i64 f, .int .i64 g, .int .i64 h, .int .i64 i] 49) := (hb1.block _ (by simp)).trans (new_at _ _ _ rfl)
  have x0 : w1.cell? ⟨w.heap.size, 0, none⟩ = some (.int .i64 (W : Int)) := blk_cell hX1 0
  have x1 : w1.cell? ⟨w.heap.size, 1, none⟩ = some (.int .i64 (H : Int)) := blk_cell hX1 1
  have x2 : w1.cell? ⟨w.heap.size, 2, none⟩ = some (.int .i64 (n : Int)) := blk_cell hX1 2
  have x3 : w1.cell? ⟨w.heap.size, 3, none⟩ = some (.int .i64 e) := blk_cell hX1 3
  have x4 : w1.cell? ⟨w.heap.size, 4, none⟩ = some (.int .i64 f) := blk_cell hX1 4
  have x5 : w1.cell? ⟨w.heap.size, 5, none⟩ = some (.int .i64 g) := blk_cell hX1 5
  have x6 : w1.cell? ⟨w.heap.size, 6, none⟩ = some (.int .i64 h) := blk_cell hX1 6
  have x7 : w1.cell? ⟨w.heap.size, 7, none⟩ = some (.int .i64 i) := blk_cell hX1 7
  have lx : w.heap.size < w1.heap.size := lt_of_heap hX1
  have lx' : w.heap.size ≠ w1.heap.size := by omega
  have HB1 := hide hB1
  have HX1 := hide hX1
  clear hb1 hB1 hX1 HI
  go_wp2
  go_region
  have hBr : Bare (((w1.alloc (.cells (dcells (List.replicate n dnone)).toArray 123)).alloc (.cells #[Value.int .i64 W, .int .i64 H, .int .i64 n, .int .i64 e, .int .i64 f, .int .i64 g, .int .i64 h, .int .i64 i, .slice (some ⟨w1.heap.size, 0, none⟩) n n, .slice none 0 0, .slice none 0 0, .slice none 0 0, .int .i64 0, .slice none 0 0, .slice none 0 0, .int .i64 0, .slice none 0 0, .slice none 0 0, .int .i64 0, .int .i64 0, .bool false, .int .i64 0, .int .i64 0, .slice none 0 0, .slice none 0 0, .slice none 0 0, .int .i64 0, .bool false, .int .i64 0] 121)).drew) (w1.heap.size + 1) ⟨W, H, n, e, f, g, h, i⟩ (.slice (some ⟨w1.heap.size, 0, none⟩) n n) #[Value.int .i64 W, .int .i64 H, .int .i64 n, .int .i64 e, .int .i64 f, .int .i64 g, .int .i64 h, .int .i64 i, .slice (some ⟨w1.heap.size, 0, none⟩) n n, .slice none 0 0, .slice none 0 0, .slice none 0 0, .int .i64 0, .slice none 0 0, .slice none 0 0, .int .i64 0, .slice none 0 0, .slice none 0 0, .int .i64 0, .int .i64 0, .bool false, .int .i64 0, .int .i64 0, .slice none 0 0, .slice none 0 0, .slice none 0 0, .int .i64 0, .bool false, .int .i64 0] := ⟨new_at _ _ _ (by simp), rfl, rfl, rfl, rfl, rfl, rfl, rfl, rfl, rfl, rfl, rfl⟩
  have hCb : (((w1.alloc (.cells (dcells (List.replicate n dnone)).toArray 123)).alloc (.cells #[Value.int .i64 W, .int .i64 H, .int .i64 n, .int .i64 e, .int .i64 f, .int .i64 g, .int .i64 h, .int .i64 i, .slice (some ⟨w1.heap.size, 0, none⟩) n n, .slice none 0 0, .slice none 0 0, .slice none 0 0, .int .i64 0, .slice none 0 0, .slice none 0 0, .int .i64 0, .slice none 0 0, .slice none 0 0, .int .i64 0, .int .i64 0, .bool false, .int .i64 0, .int .i64 0, .slice none 0 0, .slice none 0 0, .slice none 0 0, .int .i64 0, .bool false, .int .i64 0] 121)).drew).heap[w1.heap.size]? = some (.cells (dcells (List.replicate n dnone)).toArray 123) := blk_alloc (new_at _ _ _ rfl) _
  have hB2 : Below w.heap.size w (((w1.alloc (.cells (dcells (List.replicate n dnone)).toArray 123)).alloc (.cells #[Value.int .i64 W, .int .i64 H, .int .i64 n, .int .i64 e, .int .i64 f, .int .i64 g, .int .i64 h, .int .i64 i, .slice (some ⟨w1.heap.size, 0, none⟩) n n, .slice none 0 0, .slice none 0 0, .slice none 0 0, .int .i64 0, .slice none 0 0, .slice none 0 0, .int .i64 0, .slice none 0 0, .slice none 0 0, .int .i64 0, .int .i64 0, .bool false, .int .i64 0, .int .i64 0, .slice none 0 0, .slice none 0 0, .slice none 0 0, .int .i64 0, .bool false, .int .i64 0] 121)).drew) := (((unhide HB1).alloc (by omega) _).alloc (by simp; omega) _).drew
  have hX2 : (((w1.alloc (.cells (dcells (List.replicate n dnone)).toArray 123)).alloc (.cells #[Value.int .i64 W, .int .i64 H, .int .i64 n, .int .i64 e, .int .i64 f, .int .i64 g, .int .i64 h, .int .i64 i, .slice (some ⟨w1.heap.size, 0, none⟩) n n, .slice none 0 0, .slice none 0 0, .slice none 0 0, .int .i64 0, .slice none 0 0, .slice none 0 0, .int .i64 0, .slice none 0 0, .slice none 0 0, .int .i64 0, .int .i64 0, .bool false, .int .i64 0, .int .i64 0, .slice none 0 0, .slice none 0 0, .slice none 0 0, .int .i64 0, .bool false, .int .i64 0] 121)).drew).heap[w.heap.size]? = some (.cells #[.int .i64 W, .int .i64 H, .int .i64 n, .int .i64 e, .int .i64 f, .int .i64 g, .int .i64 h, .int .i64 i] 49) := blk_alloc (blk_alloc (unhide HX1) _) _
  clear x0 x1 x2 x3 x4 x5 x6 x7 HB1 HX1 hmk lx'
  generalize ((w1.alloc (.cells (dcells (List.replicate n dnone)).toArray 123)).alloc (.cells #[Value.int .i64 W, .int .i64 H, .int .i64 n, .int .i64 e, .int .i64 f, .int .i64 g, .int .i64 h, .int .i64 i, .slice (some ⟨w1.heap.size, 0, none⟩) n n, .slice none 0 0, .slice none 0 0, .slice none 0 0, .int .i64 0, .slice none 0 0, .slice none 0 0, .int .i64 0, .slice none 0 0, .slice none 0 0, .int .i64 0, .int .i64 0, .bool false, .int .i64 0, .int .i64 0, .slice none 0 0, .slice none 0 0, .slice none 0 0, .int .i64 0, .bool false, .int .i64 0] 121)).drew = w2 at *
  obtain ⟨cs0, hcs0⟩ : ∃ cs0, cs0 = #[Value.int .i64 W, .int .i64 H, .int .i64 n, .int .i64 e, .int .i64 f, .int .i64 g, .int .i64 h, .int .i64 i, .slice (some ⟨w1.heap.size, 0, none⟩) n n, .slice none 0 0, .slice none 0 0, .slice none 0 0, .int .i64 0, .slice none 0 0, .slice none 0 0, .int .i64 0, .slice none 0 0, .slice none 0 0, .int .i64 0, .int .i64 0, .bool false, .int .i64 0, .int .i64 0, .slice none 0 0, .slice none 0 0, .slice none 0 0, .int .i64 0, .bool false, .int .i64 0] := ⟨_, rfl⟩
  rw [← hcs0] at hBr
  clear hcs0
  generalize w1.heap.size = cb at *
  have HBr := hide hBr
  have HCb := hide hCb
  have HB2 := hide hB2
  have HX2 := hide hX2
  clear hBr hCb hB2 hX2
  go_wp2
  go_loopw [6] (fun ii wr => ∃ k : Nat, k ≤ 3 ∧ ii = .int .i64 k ∧ Below w.heap.size w wr ∧ (∃ cs, Bare wr (cb + 1) ⟨W, H, n, e, f, g, h, i⟩ (.slice (some ⟨cb, 0, none⟩) n n) cs) ∧ wr.heap[cb]? = some (.cells (dcells (List.replicate n dnone)).toArray 123) ∧ wr.heap[w.heap.size]? = some (.cells #[.int .i64 W, .int .i64 H, .int .i64 n, .int .i64 e, .int .i64 f, .int .i64 g, .int .i64 h, .int .i64 i] 49)) (fun ii _ => 3 - (intOf ii).toNat)
  case atStart => exact ⟨0, by omega, rfl, unhide HB2, ⟨_, unhide HBr⟩, unhide HCb, unhide HX2⟩
  case round =>
    rename World => wq
    clear HBr HCb HB2 HX2
    obtain ⟨k, hk, rfl, hbel, ⟨cs, hBr⟩, hCb, hX⟩ := hrel
    have hpic := picture_bare (hBr.below ((Below.refl _ wq).drew)) W H rfl rfl ⟨by omega, by omega⟩
    have HP := hide hpic
    have HBr := hide hBr
    have HCb := hide hCb
    have HB := hide hbel
    have HX := hide hX
    clear hpic hBr hCb hbel hX
    have hWH : W * H ≤ 256 := by
      have := Nat.mul_le_mul (show W ≤ 16 by omega) (show H ≤ 16 by omega)
      omega
    obtain ⟨N, hN⟩ : ∃ N, N = W * H := ⟨_, rfl⟩
    have hmul : IntKind.i64.wrap ((W : Int) * (H : Int)) = (N : Int) := by
      rw [hN, IntKind.wrap_i64]
      have : ((W : Int) * (H : Int)) = ((W * H : Nat) : Int) := by simp
      rw [this]
      omega
    have hmk := make_bools N (by omega)
    clear hN hWH
    by_cases hlt : k < 3
    · have hkk : k = 0 ∨ k = 1 ∨ k = 2 := by omega
      rcases hkk with rfl | rfl | rfl
      · go_wp2_with fail
        go_region_held3 (fun _ => True) (trivial)
          ((go_at_call 74
            refine (unhide HP).mono ?_
            rintro x w3 ⟨pg, pn, rfl, hb3⟩
            have hb3' : Below wq.heap.size wq w3 := ((Below.refl _ wq).drew).trans hb3
            have hBr3 := (unhide HBr).below hb3'
            obtain ⟨u, hu⟩ : ∃ u, cs[10]? = some u := ⟨cs[10]'(by rw [hBr3.size]; omega), by simp⟩
            have fu : w3.cell? ⟨cb + 1, 10, none⟩ = some u := by rw [blk_cell hBr3.blk, hu]
            have fz : ∀ t, w3.frozen? ⟨cb + 1, t, none⟩ = false := blk_thaw hBr3.blk
            have HB3 := hide hb3'
            have HBr3 := hide hBr3
            clear hb3 hb3' hBr3 hu HP))
        have hBr4 := (unhide HBr3).put 10 (by omega) (.slice (some ⟨pg, 0, none⟩) pn pn)
        have hB4 : Below w.heap.size w (w3.setCell ⟨cb + 1, 10, none⟩ (.slice (some ⟨pg, 0, none⟩) pn pn)) := ((unhide HB).trans ((unhide HB3).mono (unhide HB).size)).setCell (by simp; omega) _
        have hC4 : (w3.setCell ⟨cb + 1, 10, none⟩ (.slice (some ⟨pg, 0, none⟩) pn pn)).heap[cb]? = some (.cells (dcells (List.replicate n dnone)).toArray 123) := blk_other (((unhide HB3).block _ (lt_of_heap (unhide HCb))).trans (unhide HCb)) (by simp) _
        have hX4 : (w3.setCell ⟨cb + 1, 10, none⟩ (.slice (some ⟨pg, 0, none⟩) pn pn)).heap[w.heap.size]? = some (.cells #[.int .i64 W, .int .i64 H, .int .i64 n, .int .i64 e, .int .i64 f, .int .i64 g, .int .i64 h, .int .i64 i] 49) := blk_other (((unhide HB3).block _ (lt_of_heap (unhide HX))).trans (unhide HX)) (by simp; omega) _
        clear HB3 HBr3 fu fz HB HBr HCb HX
        generalize w3.setCell ⟨cb + 1, 10, none⟩ (.slice (some ⟨pg, 0, none⟩) pn pn) = w4 at *
        generalize cs.setIfInBounds 10 (.slice (some ⟨pg, 0, none⟩) pn pn) = cs4 at *
        obtain ⟨u4, hu4⟩ : ∃ u, cs4[11]? = some u := ⟨cs4[11]'(by rw [hBr4.size]; omega), by simp⟩
        have fu : w4.cell? ⟨cb + 1, 11, none⟩ = some u4 := by rw [blk_cell hBr4.blk, hu4]
        have fz : ∀ t, w4.frozen? ⟨cb + 1, t, none⟩ = false := blk_thaw hBr4.blk
        have x0 : w4.cell? ⟨w.heap.size, 0, none⟩ = some (.int .i64 (W : Int)) := blk_cell hX4 0
        have x1 : w4.cell? ⟨w.heap.size, 1, none⟩ = some (.int .i64 (H : Int)) := blk_cell hX4 1
        have l4 : cb + 1 < w4.heap.size := lt_of_heap hBr4.blk
        have l5 : w.heap.size < w4.heap.size := by omega
        have HBr4 := hide hBr4
        have HB4 := hide hB4
        have HC4 := hide hC4
        have HX4 := hide hX4
        clear hBr4 hB4 hC4 hX4 hu4
        go_wp2
        go_region
        have hB5 : Below w4.heap.size w4 (w4.alloc (.cells (Array.replicate N (Value.bool false)) 4)) := (Below.refl _ w4).alloc (Nat.le_refl _) _
        go_wp2
        go_roundw
        case rel =>
          refine ⟨0 + 1, by omega, by go_num, (((unhide HB4).setCell (p := ⟨cb + 1, 11, none⟩) (by simp; omega) _).alloc (by simp [World.setCell]; omega) _).drew, ⟨_, ((unhide HBr4).put 11 (by omega) _).below (((Below.refl _ _).alloc (Nat.le_refl _) _).drew)⟩, blk_alloc (blk_other (unhide HC4) (by simp) _) _, blk_alloc (blk_other (unhide HX4) (by simp; omega) _) _⟩
        case measure => simp [intOf]
      · go_wp2_with fail
        go_region_held3 (fun _ => True) (trivial)
          ((go_at_call 74
            refine (unhide HP).mono ?_
            rintro x w3 ⟨pg, pn, rfl, hb3⟩
            have hb3' : Below wq.heap.size wq w3 := ((Below.refl _ wq).drew).trans hb3
            have hBr3 := (unhide HBr).below hb3'
            obtain ⟨u, hu⟩ : ∃ u, cs[13]? = some u := ⟨cs[13]'(by rw [hBr3.size]; omega), by simp⟩
            have fu : w3.cell? ⟨cb + 1, 13, none⟩ = some u := by rw [blk_cell hBr3.blk, hu]
            have fz : ∀ t, w3.frozen? ⟨cb + 1, t, none⟩ = false := blk_thaw hBr3.blk
            have HB3 := hide hb3'
            have HBr3 := hide hBr3
            clear hb3 hb3' hBr3 hu HP))
        have hBr4 := (unhide HBr3).put 13 (by omega) (.slice (some ⟨pg, 0, none⟩) pn pn)
        have hB4 : Below w.heap.size w (w3.setCell ⟨cb + 1, 13, none⟩ (.slice (some ⟨pg, 0, none⟩) pn pn)) := ((unhide HB).trans ((unhide HB3).mono (unhide HB).size)).setCell (by simp; omega) _
        have hC4 : (w3.setCell ⟨cb + 1, 13, none⟩ (.slice (some ⟨pg, 0, none⟩) pn pn)).heap[cb]? = some (.cells (dcells (List.replicate n dnone)).toArray 123) := blk_other (((unhide HB3).block _ (lt_of_heap (unhide HCb))).trans (unhide HCb)) (by simp) _
        have hX4 : (w3.setCell ⟨cb + 1, 13, none⟩ (.slice (some ⟨pg, 0, none⟩) pn pn)).heap[w.heap.size]? = some (.cells #[.int .i64 W, .int .i64 H, .int .i64 n, .int .i64 e, .int .i64 f, .int .i64 g, .int .i64 h, .int .i64 i] 49) := blk_other (((unhide HB3).block _ (lt_of_heap (unhide HX))).trans (unhide HX)) (by simp; omega) _
        clear HB3 HBr3 fu fz HB HBr HCb HX
        generalize w3.setCell ⟨cb + 1, 13, none⟩ (.slice (some ⟨pg, 0, none⟩) pn pn) = w4 at *
        generalize cs.setIfInBounds 13 (.slice (some ⟨pg, 0, none⟩) pn pn) = cs4 at *
        obtain ⟨u4, hu4⟩ : ∃ u, cs4[14]? = some u := ⟨cs4[14]'(by rw [hBr4.size]; omega), by simp⟩
        have fu : w4.cell? ⟨cb + 1, 14, none⟩ = some u4 := by rw [blk_cell hBr4.blk, hu4]
        have fz : ∀ t, w4.frozen? ⟨cb + 1, t, none⟩ = false := blk_thaw hBr4.blk
        have x0 : w4.cell? ⟨w.heap.size, 0, none⟩ = some (.int .i64 (W : Int)) := blk_cell hX4 0
        have x1 : w4.cell? ⟨w.heap.size, 1, none⟩ = some (.int .i64 (H : Int)) := blk_cell hX4 1
        have l4 : cb + 1 < w4.heap.size := lt_of_heap hBr4.blk
        have l5 : w.heap.size < w4.heap.size := by omega
        have HBr4 := hide hBr4
        have HB4 := hide hB4
        have HC4 := hide hC4
        have HX4 := hide hX4
        clear hBr4 hB4 hC4 hX4 hu4
        go_wp2
        go_region
        have hB5 : Below w4.heap.size w4 (w4.alloc (.cells (Array.replicate N (Value.bool false)) 4)) := (Below.refl _ w4).alloc (Nat.le_refl _) _
        go_wp2
        go_roundw
        case rel =>
          refine ⟨1 + 1, by omega, by go_num, (((unhide HB4).setCell (p := ⟨cb + 1, 14, none⟩) (by simp; omega) _).alloc (by simp [World.setCell]; omega) _).drew, ⟨_, ((unhide HBr4).put 14 (by omega) _).below (((Below.refl _ _).alloc (Nat.le_refl _) _).drew)⟩, blk_alloc (blk_other (unhide HC4) (by simp) _) _, blk_alloc (blk_other (unhide HX4) (by simp; omega) _) _⟩
        case measure => simp [intOf]
      · go_wp2_with fail
        go_region_held3 (fun _ => True) (trivial)
          ((go_at_call 74
            refine (unhide HP).mono ?_
            rintro x w3 ⟨pg, pn, rfl, hb3⟩
            have hb3' : Below wq.heap.size wq w3 := ((Below.refl _ wq).drew).trans hb3
            have hBr3 := (unhide HBr).below hb3'
            obtain ⟨u, hu⟩ : ∃ u, cs[16]? = some u := ⟨cs[16]'(by rw [hBr3.size]; omega), by simp⟩
            have fu : w3.cell? ⟨cb + 1, 16, none⟩ = some u := by rw [blk_cell hBr3.blk, hu]
            have fz : ∀ t, w3.frozen? ⟨cb + 1, t, none⟩ = false := blk_thaw hBr3.blk
            have HB3 := hide hb3'
            have HBr3 := hide hBr3
            clear hb3 hb3' hBr3 hu HP))
        have hBr4 := (unhide HBr3).put 16 (by omega) (.slice (some ⟨pg, 0, none⟩) pn pn)
        have hB4 : Below w.heap.size w (w3.setCell ⟨cb + 1, 16, none⟩ (.slice (some ⟨pg, 0, none⟩) pn pn)) := ((unhide HB).trans ((unhide HB3).mono (unhide HB).size)).setCell (by simp; omega) _
        have hC4 : (w3.setCell ⟨cb + 1, 16, none⟩ (.slice (some ⟨pg, 0, none⟩) pn pn)).heap[cb]? = some (.cells (dcells (List.replicate n dnone)).toArray 123) := blk_other (((unhide HB3).block _ (lt_of_heap (unhide HCb))).trans (unhide HCb)) (by simp) _
        have hX4 : (w3.setCell ⟨cb + 1, 16, none⟩ (.slice (some ⟨pg, 0, none⟩) pn pn)).heap[w.heap.size]? = some (.cells #[.int .i64 W, .int .i64 H, .int .i64 n, .int .i64 e, .int .i64 f, .int .i64 g, .int .i64 h, .int .i64 i] 49) := blk_other (((unhide HB3).block _ (lt_of_heap (unhide HX))).trans (unhide HX)) (by simp; omega) _
        clear HB3 HBr3 fu fz HB HBr HCb HX
        generalize w3.setCell ⟨cb + 1, 16, none⟩ (.slice (some ⟨pg, 0, none⟩) pn pn) = w4 at *
        generalize cs.setIfInBounds 16 (.slice (some ⟨pg, 0, none⟩) pn pn) = cs4 at *
        obtain ⟨u4, hu4⟩ : ∃ u, cs4[17]? = some u := ⟨cs4[17]'(by rw [hBr4.size]; omega), by simp⟩
        have fu : w4.cell? ⟨cb + 1, 17, none⟩ = some u4 := by rw [blk_cell hBr4.blk, hu4]
        have fz : ∀ t, w4.frozen? ⟨cb + 1, t, none⟩ = false := blk_thaw hBr4.blk
        have x0 : w4.cell? ⟨w.heap.size, 0, none⟩ = some (.int .i64 (W : Int)) := blk_cell hX4 0
        have x1 : w4.cell? ⟨w.heap.size, 1, none⟩ = some (.int .i64 (H : Int)) := blk_cell hX4 1
        have l4 : cb + 1 < w4.heap.size := lt_of_heap hBr4.blk
        have l5 : w.heap.size < w4.heap.size := by omega
        have HBr4 := hide hBr4
        have HB4 := hide hB4
        have HC4 := hide hC4
        have HX4 := hide hX4
        clear hBr4 hB4 hC4 hX4 hu4
        go_wp2
        go_region
        have hB5 : Below w4.heap.size w4 (w4.alloc (.cells (Array.replicate N (Value.bool false)) 4)) := (Below.refl _ w4).alloc (Nat.le_refl _) _
        go_wp2
        go_roundw
        case rel =>
          refine ⟨2 + 1, by omega, by go_num, (((unhide HB4).setCell (p := ⟨cb + 1, 17, none⟩) (by simp; omega) _).alloc (by simp [World.setCell]; omega) _).drew, ⟨_, ((unhide HBr4).put 17 (by omega) _).below (((Below.refl _ _).alloc (Nat.le_refl _) _).drew)⟩, blk_alloc (blk_other (unhide HC4) (by simp) _) _, blk_alloc (blk_other (unhide HX4) (by simp; omega) _) _⟩
        case measure => simp [intOf]
    · have i1 : ¬ (k : Int) < 3 := by omega
      go_wp2
      go_ret2
      obtain ⟨b1, b2, b3, b4, b5, b6, b7, b8, b9, b10, b11, b12⟩ := unhide HBr
      have hD : DocSt wq (cb + 1) cb ⟨W, H, n, e, f, g, h, i⟩ (List.replicate n dnone) := ⟨⟨cs, b1, b3, b4, b5, b6, b7, b8, b9, b10, by simpa using b11⟩, unhide HCb⟩
      first | exact ⟨cb + 1, cb, rfl, hD, by omega, by omega, unhide HB⟩ | exact ⟨cb + 1, rfl, cb, hD, by omega, by omega, unhide HB⟩ | exact ⟨cb + 1, rfl, ⟨cb, hD, by omega, by omega⟩, unhide HB⟩
end Go.Proofs.YtfnockbgkcgpkaaGreat
