import Derived.Test.YtfnockbgkcgpkaaGreatQbX
import Derived.Test.YtfnockbgkcgpkaaGreatQbAE
import Derived.Test.YtfnockbgkcgpkaaGreatQbK
import Derived.Test.YtfnockbgkcgpkaaGreatLawPkb
set_option linter.all false
namespace Go.Proofs.YtfnockbgkcgpkaaGreat
open Go.RowKit Go.Proofs.Panes
set_option maxRecDepth 100000

set_option maxHeartbeats 2000000 in
theorem sceneNew_any (n : Int) (w : World) : Calls Tryz.prog 71 #[.int .i64 n] w fun e w' => ∃ a, e = .returned (.pointer (some a)) ∧ Below w.heap.size w w' := by
  have hmm : ∀ w, (Instr.makeMap 174 none).run Tryz.prog w = .ok (.map (some w.heap.size)) (w.alloc (.map #[] 0)) := fun w => rfl
  go_enter Tryz.func71, Tryz.ntmps71
  go_wp2
  go_ret
  exact ⟨_, rfl, ((Below.refl _ w).alloc (Nat.le_refl _) _).alloc (by simp) _⟩

/-- The frames, while they are made. -/
structure FrI (w wr : World) (fb : Nat) : Prop where
  blk : ∃ cs, wr.heap[fb]? = some (.cells cs 169) ∧ cs.size = 17
  bel : Below w.heap.size w wr
theorem FrI.below {w wr w2 : World} {fb : Nat} (h : FrI w wr fb) (hb : Below wr.heap.size wr w2) : FrI w w2 fb := by
  obtain ⟨cs, h1, h2⟩ := h.blk
  exact ⟨⟨cs, (hb.block _ (lt_of_heap h1)).trans h1, h2⟩, h.bel.trans (hb.mono h.bel.size)⟩
theorem FrI.set {w wr : World} {fb : Nat} (h : FrI w wr fb) (hf : w.heap.size ≤ fb) (i : Nat) (u : Value) : FrI w (wr.setCell ⟨fb, i, none⟩ u) fb := by
  obtain ⟨cs, h1, h2⟩ := h.blk
  exact ⟨⟨_, blk_set (i := i) h1 u, by simp [h2]⟩, h.bel.setCell (p := ⟨fb, i, none⟩) hf _⟩
theorem FrI.cell {w wr : World} {fb : Nat} (h : FrI w wr fb) (i : Nat) (hi : i < 17) : ∃ u, wr.cell? ⟨fb, i, none⟩ = some u := by
  obtain ⟨cs, h1, h2⟩ := h.blk
  rw [blk_cell h1]
  exact ⟨cs[i]'(by omega), by simp⟩
theorem FrI.thaw {w wr : World} {fb : Nat} (h : FrI w wr fb) (i : Nat) : wr.frozen? ⟨fb, i, none⟩ = false := by
  obtain ⟨cs, h1, h2⟩ := h.blk
  exact blk_thaw h1 i

set_option maxHeartbeats 4000000 in
theorem framesNew_any (W H : Nat) (n : Int) (w : World) (hb : 1 ≤ W ∧ W ≤ 16 ∧ 1 ≤ H ∧ H ≤ 16) : Calls Tryz.prog 72 #[.int .i64 (W : Int), .int .i64 (H : Int), .int .i64 n] w fun e w' => ∃ a, e = .returned (.pointer (some a)) ∧ Below w.heap.size w w' := by
  have hWH : 1 ≤ W * H ∧ W * H ≤ 256 := by
    have := Nat.mul_le_mul (show W ≤ 16 by omega) (show H ≤ 16 by omega)
    have := Nat.mul_le_mul (show 1 ≤ W by omega) (show 1 ≤ H by omega)
    omega
  obtain ⟨N, hN⟩ : ∃ N, N = W * H := ⟨_, rfl⟩
  have hmul : IntKind.i64.wrap ((W : Int) * (H : Int)) = (N : Int) := by
    rw [hN, IntKind.wrap_i64]
    have : ((W : Int) * (H : Int)) = ((W * H : Nat) : Int) := by simp
    rw [this]
    omega
  have hmk := make_bools N (by omega)
  rw [← hN] at hWH
  have CR : Hid (∀ g w, w.cell? ⟨g, 0, none⟩ = some (.int .i64 n) → g < w.heap.size → Calls Tryz.prog 110 #[.slice (some ⟨g, 0, none⟩) 1 1, .int .i64 (N : Int)] w fun e w' => ∃ q, e = .returned (.slice (some ⟨q, 0, none⟩) N N) ∧ OwnN w' w.heap.size (.slice (some ⟨q, 0, none⟩) N N) (List.replicate N n) ∧ Below w.heap.size w w') := fun g w h1 h2 => repeat_any g N n w hWH h1 h2
  clear hN hb
  go_enter Tryz.func72, Tryz.ntmps72
  have hI0 : FrI w (w.alloc (.cells #[.int .i64 0, .int .i64 0, .int .i64 W, .int .i64 H, .slice none 0 0, .slice none 0 0, .int .i64 0, .slice none 0 0, .slice none 0 0, .int .i64 0, .slice none 0 0, .slice none 0 0, .int .i64 0, .int .i64 0, .pointer none, .bool false, .slice none 0 0] 169)) w.heap.size := ⟨⟨_, new_at _ _ _ rfl, rfl⟩, (Below.refl _ w).alloc (Nat.le_refl _) _⟩
  have HI0 := hide hI0
  clear hI0
  go_wp2
  go_loopw [14] (fun i wr => ∃ k : Nat, k ≤ 3 ∧ i = .int .i64 k ∧ FrI w wr w.heap.size) (fun i _ => 3 - (intOf i).toNat)
  case atStart => exact ⟨0, by omega, rfl, unhide HI0⟩
  case round =>
    rename World => wq
    obtain ⟨k, hk, rfl, hI⟩ := hrel
    clear HI0
    by_cases hlt : k < 3
    · have i0 : (0 : Int) ≤ (k : Int) := by omega
      have i1 : (k : Int) < 3 := by omega
      obtain ⟨u4, hu4⟩ := hI.cell (4 + k * 3) (by omega)
      obtain ⟨u5, hu5⟩ := hI.cell (4 + k * 3 + 1) (by omega)
      have hz := hI.thaw
      have lf : w.heap.size < wq.heap.size := World.block_lt_of_cell? wq _ hu4
      have HI := hide hI
      clear hI
      have lf' : w.heap.size ≠ wq.heap.size := by omega
      go_wp2_with fail
      go_region_held3 (fun _ => True) (trivial)
        ((
          go_at_call 110
          refine ((unhide CR) wq.heap.size _ (by simp) (by simp)).mono ?_
          rintro e w3 ⟨q, rfl, hq, hb3⟩
          have hb3' : Below wq.heap.size wq w3 := (((Below.refl _ wq).alloc (Nat.le_refl _) _).drew).trans (hb3.mono (by simp))
          have hI3 := (unhide HI).below hb3'
          obtain ⟨u4', hu4'⟩ := hI3.cell (4 + k * 3) (by omega)
          have hz3 := hI3.thaw
          have HI3 := hide hI3
          clear hb3 hb3' hI3 hq))
      have hI4 := (unhide HI3).set (Nat.le_refl _) (4 + k * 3) (.slice (some ⟨q, 0, none⟩) N N)
      generalize w3.setCell ⟨w.heap.size, 4 + k * 3, none⟩ (.slice (some ⟨q, 0, none⟩) N N) = w4 at *
      obtain ⟨u6, hu6⟩ := hI4.cell (4 + k * 3 + 1) (by omega)
      have hz4 := hI4.thaw
      have l4 : w.heap.size < w4.heap.size := World.block_lt_of_cell? w4 _ hu6
      have HI4 := hide hI4
      clear hI4 HI3 HI hu4' hz3 hu4 hu5 hz lf lf' CR
      go_wp2
      go_region
      go_wp2
      go_roundw
      case rel => exact ⟨k + 1, by omega, by go_num, ((unhide HI4).set (Nat.le_refl _) _ _).below (((Below.refl _ _).alloc (Nat.le_refl _) _).drew)⟩
      case measure => simp [intOf]; omega
    · have i1 : ¬ (k : Int) < 3 := by omega
      have HI := hide hI
      clear hI
      go_wp2
      go_ret
      first | exact ⟨_, rfl, (unhide HI).bel⟩ | exact (unhide HI).bel | exact ⟨⟨_, rfl⟩, (unhide HI).bel⟩

theorem info_pcl : (Tryz.prog.info? 104).map (fun i => (i.zero, i.size, i.bytes)) = some (some (.pointer none), 1, 8) := by kernel_rfl
theorem make_pcl (n : Nat) (hn : n ≤ 1000) (u : World) : (Instr.makeSlice 103 (.int .i64 (n : Int)) (.int .i64 (n : Int))).run Tryz.prog u = .ok (.slice (some ⟨u.heap.size, 0, none⟩) n n) (u.alloc (.cells ((List.replicate n (none : Option Nat)).map pptr).toArray 104)) := by
  obtain ⟨i0, hi, hz0, hz1, hz2⟩ := info_parts info_pcl
  have h := run_make (P := Tryz.prog) u 103 104 i0 _ Tryz.underlying103 hi hz0 .i64 .i64 (n : Int) (n : Int) (by omega) (Int.le_refl _) (by rw [hz2]; omega) (by omega)
  simp only [Int.toNat_natCast, hz1] at h
  have e : madeCells (Value.pointer none).cells (n * 1) = ((List.replicate n (none : Option Nat)).map pptr).toArray := by
    apply Array.ext'
    rw [show (Value.pointer none).cells = #[Value.pointer none] from rfl, toList_madeCells_one]
    simp [pptr]
  rw [← e]
  simpa [Value.cells] using h

set_option maxHeartbeats 1600000 in
theorem panesNew_bad (c : Cfg) (w : World) (hc : okCfg c = false) :
    Calls Tryz.prog 40 #[cval c] w fun e w' => e = .returned (.tuple #[.pointer none, .int .i64 2]) ∧ Below w.heap.size w w' := by
  obtain ⟨a, b, d, e, f, g, h, i⟩ := c
  have HC : Hid (∀ w, Calls Tryz.prog 70 #[.agg #[.int .i64 a, .int .i64 b, .int .i64 d, .int .i64 e, .int .i64 f, .int .i64 g, .int .i64 h, .int .i64 i]] w fun e w' => e = .returned (.bool false) ∧ Below w.heap.size w w') := fun w => by
    have := pallowed_any ⟨a, b, d, e, f, g, h, i⟩ w
    rw [hc] at this
    exact this
  unfold cval
  simp only
  clear hc
  go_enter Tryz.func40, Tryz.ntmps40
  go_wp2_with fail
  refine ((unhide HC) _).mono ?_
  rintro e w1 ⟨rfl, hb⟩
  have HB := hide (((Below.refl _ w).alloc (Nat.le_refl _) _).trans (hb.mono (by simp)))
  clear hb HC
  go_wp2
  go_ret2
  exact ⟨rfl, unhide HB⟩

theorem pnew_end {wx : World} {kb n : Nat} {c : Cfg} {sv fv tk : Value} (hk : wx.heap[kb]? = some (.cells ((List.replicate n (none : Option Nat)).map pptr).toArray 104)) :
    PScr (wx.alloc (.cells #[.int .i64 c.w, .int .i64 c.h, .int .i64 c.clients, .int .i64 c.queue, .int .i64 c.most, .int .i64 c.quantum, .int .i64 c.surfaces, .int .i64 c.behind, .slice (some ⟨kb, 0, none⟩) n n, sv, fv, tk] 108)) wx.heap.size kb c (List.replicate n none) := by
  refine ⟨⟨sv, fv, tk, ?_⟩, blk_alloc hk _⟩
  rw [List.length_replicate]
  exact new_at _ _ _ rfl
theorem pnew_out {w w' : World} {x : Ending} {xp kb : Nat} {c : Cfg} {ps : List (Option Nat)} (he : x = .returned (.tuple #[.pointer (some ⟨xp, 0, none⟩), .int .i64 0])) (hP : PScr w' xp kb c ps) (h1 : w.heap.size ≤ xp) (h2 : w.heap.size ≤ kb) (hB : Below w.heap.size w w') : ∃ xp kb, x = .returned (.tuple #[.pointer (some ⟨xp, 0, none⟩), .int .i64 0]) ∧ PScr w' xp kb c ps ∧ w.heap.size ≤ xp ∧ w.heap.size ≤ kb ∧ Below w.heap.size w w' := ⟨xp, kb, he, hP, h1, h2, hB⟩

set_option maxHeartbeats 800000 in
theorem panesNew_ok (c : Cfg) (w : World) (hc : okCfg c = true) (n : Nat) (hn : c.clients = n) :
    Calls Tryz.prog 40 #[cval c] w fun e w' => ∃ xp kb, e = .returned (.tuple #[.pointer (some ⟨xp, 0, none⟩), .int .i64 0]) ∧ PScr w' xp kb c (List.replicate n none) ∧ w.heap.size ≤ xp ∧ w.heap.size ≤ kb ∧ Below w.heap.size w w' := by
  have hbd : (1 ≤ c.w ∧ c.w ≤ 16) ∧ (1 ≤ c.h ∧ c.h ≤ 16) ∧ (1 ≤ c.clients ∧ c.clients ≤ 4) := by
    have := hc
    simp only [okCfg, Bool.and_eq_true, inB_iff] at this
    exact ⟨this.1.1.1.1.1.1.1, this.1.1.1.1.1.1.2, this.1.1.1.1.1.2⟩
  obtain ⟨W, hW⟩ : ∃ W : Nat, c.w = W := ⟨c.w.toNat, by omega⟩
  obtain ⟨H, hH⟩ : ∃ H : Nat, c.h = H := ⟨c.h.toNat, by omega⟩
  have HI := hide (pallowed_any c)
  rw [hc] at HI
  obtain ⟨a, b, d, e, f, g, h, i⟩ := c
  simp only at hW hH hn hbd
  subst hW hH hn
  unfold cval at HI ⊢
  simp only at HI ⊢
  have hmk := make_pcl n (by omega)
  obtain ⟨zc, hzc⟩ : ∃ zc, zc = ((List.replicate n (none : Option Nat)).map pptr).toArray := ⟨_, rfl⟩
  simp only [← hzc] at hmk
  have HZC := hide hzc
  clear hzc
  have HS := hide (sceneNew_any i)
  have HF : Hid (∀ w, Calls Tryz.prog 72 #[.int .i64 (W : Int), .int .i64 (H : Int), .int .i64 i] w fun e w' => ∃ a, e = .returned (.pointer (some a)) ∧ Below w.heap.size w w') := fun w => framesNew_any W H i w (by omega)
  clear hc
  go_enter Tryz.func40, Tryz.ntmps40
  go_wp2_with fail
  refine ((unhide HI) _).mono ?_
  rintro x w1 ⟨rfl, hb1⟩
  have hB1 : Below w.heap.size w w1 := ((Below.refl _ w).alloc (Nat.le_refl _) _).trans (hb1.mono (by simp))
  have hX1 : w1.heap[w.heap.size]? = some (.cells #[.int .i64 W, .int .i64 H, .int .i64 n, .int .i64 e, .int .i64 f, .int .i64 g, .int .i64 h, .int .i64 i] 49) := (hb1.block _ (by simp)).trans (new_at _ _ _ rfl)
  have x0 : w1.cell? ⟨w.heap.size, 0, none⟩ = some (.int .i64 (W : Int)) := blk_cell hX1 0
  have x1 : w1.cell? ⟨w.heap.size, 1, none⟩ = some (.int .i64 (H : Int)) := blk_cell hX1 1
  have x2 : w1.cell? ⟨w.heap.size, 2, none⟩ = some (.int .i64 (n : Int)) := blk_cell hX1 2
  have x3 : w1.cell? ⟨w.heap.size, 3, none⟩ = some (.int .i64 e) := blk_cell hX1 3
  have x4 : w1.cell? ⟨w.heap.size, 4, none⟩ = some (.int .i64 f) := blk_cell hX1 4
  have x5 : w1.cell? ⟨w.heap.size, 5, none⟩ = some (.int .i64 g) := blk_cell hX1 5
  have x6 : w1.cell? ⟨w.heap.size, 6, none⟩ = some (.int .i64 h) := blk_cell hX1 6
  have x7 : w1.cell? ⟨w.heap.size, 7, none⟩ = some (.int .i64 i) := blk_cell hX1 7
  have lx : w.heap.size < w1.heap.size := lt_of_heap hX1
  have lx' : w.heap.size ≠ w1.heap.size := by omega
  have HB1 := hide hB1
  have HX1 := hide hX1
  have HFr : Hid (∀ w', Below w1.heap.size w1 w' → ∀ q : Nat, w'.cell? ⟨w.heap.size, q, none⟩ = w1.cell? ⟨w.heap.size, q, none⟩) := fun w' hb q => hb.cell lx
  have HA1 : Hid (∀ w2, Below w1.drew.heap.size w1.drew w2 → Below w1.heap.size w1 w2) := fun w2 h => (Below.refl _ w1).drew.trans h
  have HA2 : Hid (∀ w2 : World, Below (w1.alloc (Obj.cells zc 104)).drew.heap.size (w1.alloc (Obj.cells zc 104)).drew w2 → Below w1.heap.size w1 w2) := fun w2 hb2 => (((Below.refl _ w1).alloc (Nat.le_refl _) _).drew).trans (hb2.mono (by show _ ≤ (w1.heap.push _).size; rw [Array.size_push]; omega))
  have HA3 : Hid (∀ w2 : World, Below (w1.alloc (Obj.cells zc 104)).drew.heap.size (w1.alloc (Obj.cells zc 104)).drew w2 → w2.heap[w1.heap.size]? = some (Obj.cells zc 104)) := fun w2 hb2 => (hb2.block _ (by show _ < (w1.heap.push _).size; rw [Array.size_push]; omega)).trans (new_at _ _ _ rfl)
  have HC1 : Hid (∀ w2 w3 : World, Below w1.heap.size w1 w2 → Below w2.heap.size w2 w3 → Below w1.heap.size w1 w3) := fun w2 w3 h k => h.trans (k.mono h.size)
  have HC2 : Hid (∀ w2 w3 : World, Below w1.heap.size w1 w2 → Below (w2.alloc (Obj.cells zc 104)).heap.size (w2.alloc (Obj.cells zc 104)) w3 → Below w1.heap.size w1 w3) := fun w2 w3 h k => (h.alloc h.size _).trans (k.mono (by have := h.size; show _ ≤ (w2.heap.push _).size; rw [Array.size_push]; omega))
  have HC3 : Hid (∀ w2 w3 : World, Below (w2.alloc (Obj.cells zc 104)).heap.size (w2.alloc (Obj.cells zc 104)) w3 → w3.heap[w2.heap.size]? = some (Obj.cells zc 104)) := fun w2 w3 k => (k.block _ (by show _ < (w2.heap.push _).size; rw [Array.size_push]; omega)).trans (new_at _ _ _ rfl)
  have HC4 : Hid (∀ w2 w3 : World, ∀ q, w2.heap[q]? = some (Obj.cells zc 104) → Below w2.heap.size w2 w3 → w3.heap[q]? = some (Obj.cells zc 104)) := fun w2 w3 q h k => (k.block _ (lt_of_heap h)).trans h
  clear hb1 hB1 hX1 HI
  go_wp2_with fail
  go_region_held3 (fun w' => w'.cell? ⟨w.heap.size, 0, none⟩ = some (.int .i64 (W : Int)) ∧ w'.cell? ⟨w.heap.size, 1, none⟩ = some (.int .i64 (H : Int)) ∧ w'.cell? ⟨w.heap.size, 2, none⟩ = some (.int .i64 (n : Int)) ∧ w'.cell? ⟨w.heap.size, 3, none⟩ = some (.int .i64 e) ∧ w'.cell? ⟨w.heap.size, 4, none⟩ = some (.int .i64 f) ∧ w'.cell? ⟨w.heap.size, 5, none⟩ = some (.int .i64 g) ∧ w'.cell? ⟨w.heap.size, 6, none⟩ = some (.int .i64 h) ∧ w'.cell? ⟨w.heap.size, 7, none⟩ = some (.int .i64 i))
    (first | (refine ⟨?_, ?_, ?_, ?_, ?_, ?_, ?_, ?_⟩ <;> assumption) | go_keep)
    (first
      | (go_at_call 71
         refine ((unhide HS) _).mono ?_
         rintro x w2 ⟨sa, rfl, hb2⟩
         have hb : Below w1.heap.size w1 w2 := by first | exact (unhide HA1) w2 hb2 | exact (unhide HA2) w2 hb2
         have q0 := ((unhide HFr) w2 hb 0).trans x0
         have q1 := ((unhide HFr) w2 hb 1).trans x1
         have q2 := ((unhide HFr) w2 hb 2).trans x2
         have q3 := ((unhide HFr) w2 hb 3).trans x3
         have q4 := ((unhide HFr) w2 hb 4).trans x4
         have q5 := ((unhide HFr) w2 hb 5).trans x5
         have q6 := ((unhide HFr) w2 hb 6).trans x6
         have q7 := ((unhide HFr) w2 hb 7).trans x7
         try
           have HZ2 := hide ((unhide HA3) w2 hb2)
         have HE2 := hide hb
         have hse := hb.size
         have ly : w.heap.size < w2.heap.size := by omega
         clear hb hb2)
      | (go_at_call 72
         refine ((unhide HF) _).mono ?_
         rintro x w3 ⟨fa, rfl, hb3⟩
         have hb : Below w1.heap.size w1 w3 := by first | exact (unhide HC1) w2 w3 (unhide HE2) hb3 | exact (unhide HC2) w2 w3 (unhide HE2) hb3
         have p0 := ((unhide HFr) w3 hb 0).trans x0
         have p1 := ((unhide HFr) w3 hb 1).trans x1
         have p2 := ((unhide HFr) w3 hb 2).trans x2
         have p3 := ((unhide HFr) w3 hb 3).trans x3
         have p4 := ((unhide HFr) w3 hb 4).trans x4
         have p5 := ((unhide HFr) w3 hb 5).trans x5
         have p6 := ((unhide HFr) w3 hb 6).trans x6
         have p7 := ((unhide HFr) w3 hb 7).trans x7
         try
           have HZ3 := hide ((unhide HC3) w2 w3 hb3)
         try
           have HZ3 := hide ((unhide HC4) w2 w3 _ (unhide HZ2) hb3)
         have HE3 := hide hb
         have hsf := hb.size
         have lz : w.heap.size < w3.heap.size := by omega
         clear hb hb3))
  · go_wp2
    go_ret2
    have hZ := unhide HZ3
    rw [unhide HZC] at hZ
    have hE := (unhide HB1).trans ((unhide HE3).mono (unhide HB1).size)
    have hP := pnew_end (c := ⟨W, H, n, e, f, g, h, i⟩) (sv := .pointer (some sa)) (fv := .pointer (some fa)) (tk := .int .i64 0) hZ
    exact pnew_out rfl hP (by omega) (by omega) (hE.alloc hE.size _)
  · go_wp2
    go_ret2
    have hZ := unhide HZ3
    rw [unhide HZC] at hZ
    have hE := (unhide HB1).trans ((unhide HE3).mono (unhide HB1).size)
    have hP := pnew_end (c := ⟨W, H, n, e, f, g, h, i⟩) (sv := .pointer (some sa)) (fv := .pointer (some fa)) (tk := .int .i64 0) hZ
    exact pnew_out rfl hP (by omega) (by omega) (hE.alloc hE.size _)
  · go_wp2
    go_ret2
    have hE := (unhide HB1).trans ((unhide HE3).mono (unhide HB1).size)
    have hZ : (w3.alloc (Obj.cells zc 104)).heap[w3.heap.size]? = some (.cells ((List.replicate n (none : Option Nat)).map pptr).toArray 104) := by rw [unhide HZC]; exact new_at _ _ _ rfl
    have hP := pnew_end (c := ⟨W, H, n, e, f, g, h, i⟩) (sv := .pointer (some sa)) (fv := .pointer (some fa)) (tk := .int .i64 0) hZ
    exact pnew_out (by simp) hP (by simp; omega) (by omega) ((hE.alloc hE.size _).alloc (by have := hE.size; simp; omega) _)
end Go.Proofs.YtfnockbgkcgpkaaGreat

namespace Go.Proofs.YtfnockbgkcgpkaaGreat
open Go.RowKit Go.Proofs.Panes
set_option maxRecDepth 100000

/-- What a step leaves. -/
def QNext (U : Nat → Prop) (base wb : Nat) (gr gc go : Value) (C : List Cfg) (O : List (List Opn)) (n : Nat) (w w' : World) : Prop :=
  (∃ ss' shs' o', QSt U base wb gr gc go C O w' ss' shs' o' ∧ shs'.length ≤ n + 1) ∧ But (Wr base wb) w w'
theorem QNext.same {U : Nat → Prop} {base wb : Nat} {gr gc go : Value} {C : List Cfg} {O : List (List Opn)} {w w' : World} {ss : Value} {shs : List Sh} {o : Nat → Nat × Nat} (h : QSt U base wb gr gc go C O w ss shs o) (hb : Below w.heap.size w w') : QNext U base wb gr gc go C O shs.length w w' :=
  ⟨⟨ss, shs, o, (h.below hb).1, Nat.le_succ _⟩, (h.below hb).2⟩

theorem RdC.at {U : Nat → Prop} {w : World} {v : Value} {L : List Cfg} (h : RdC U w v L) {i : Nat} {c : Cfg} (hl : L[i]? = some c) : ∃ b off cap, v = .slice (some ⟨b, off, none⟩) L.length cap ∧ b < w.heap.size ∧ CAt w b (off + i * 8) c := by
  obtain ⟨ao, cap, rfl, h1⟩ := h
  obtain ⟨b, off, rfl, hu, hlt, h2⟩ := h1 (by intro e; subst e; simp at hl)
  exact ⟨b, off, cap, rfl, hlt, h2 i c hl⟩
theorem info_shelf : (Tryz.prog.info? 57).map (fun i => (i.zero, i.size, i.bytes)) = some (some (.agg #[.pointer none, .pointer none]), 2, 16) := by kernel_rfl

set_option maxHeartbeats 1600000 in
theorem made_none {wb : Nat} {gr go ss : Value} {ao : Option Addr} {cap : Nat} {w : World} (hbx : w.heap[wb]? = some (.cells #[gr, .slice ao 0 cap, go, ss, .slice none 0 0, .slice none 0 0, .slice none 0 0] 39)) (kind oA oB oC : Int) :
    Calls Tryz.prog 13 #[.pointer (some ⟨wb, 0, none⟩), .agg #[.int .i64 kind, .int .i64 oA, .int .i64 oB, .int .i64 oC]] w fun e w' => e = .returned (.bool true) ∧ Below w.heap.size w w' := by
  have c1 : w.cell? ⟨wb, 1, none⟩ = some (.slice ao 0 cap) := blk_cell hbx 1
  have hwb := lt_of_heap hbx
  clear hbx
  go_enter Tryz.func13, Tryz.ntmps13
  go_wp2
  go_ret
  exact ⟨rfl, (Below.refl _ w).alloc (Nat.le_refl _) _⟩

theorem QSt.newEnd {U : Nat → Prop} {base wb : Nat} {gr gc go : Value} {C : List Cfg} {O : List (List Opn)} {w : World} {ss : Value} {shs : List Sh} {o : Nat → Nat × Nat} (h : QSt U base wb gr gc go C O w ss shs o) {so : Option Addr} {scap : Nat} (ess : ss = .slice so shs.length scap) {w4 w6 : World} {xp kb sp cb n : Nat} {c : Cfg} (hB4 : Below w.heap.size w w4) (hP : PScr w4 xp kb c (List.replicate n none)) (hD : DocSt w4 sp cb c (List.replicate n dnone)) (hok : okCfg c = true) (hcn : c.clients = n)
    (h1 : w.heap.size ≤ xp) (h2 : w.heap.size ≤ kb) (h3 : w.heap.size ≤ sp) (h4 : w.heap.size ≤ cb) {o7 : Obj} {gg gk : Nat} (hgrow : (w4.alloc o7).grownBy w6 (Value.slice so shs.length scap).ownBlock) (hown : w6.ownsRow base 57 2 (.slice (some ⟨gg, 0, none⟩) (shs.length + 1) gk) (shs.length + 1) (shcells shs ++ [.pointer (some ⟨xp, 0, none⟩), .pointer (some ⟨sp, 0, none⟩)])) (hat : (Value.slice so shs.length scap).ownBlock = some gg ∨ gg = (w4.alloc o7).heap.size) :
    QNext U base wb gr gc go C O shs.length w (w6.setCell ⟨wb, 3, none⟩ (.slice (some ⟨gg, 0, none⟩) (shs.length + 1) gk)) := by
  have hbd : 1 ≤ c.clients ∧ c.clients ≤ 4 ∧ 1 ≤ c.surfaces := by
    have := hok
    simp only [okCfg, Bool.and_eq_true, inB_iff] at this
    omega
  have hbl := h.base_le
  have hs4 := hB4.size
  have hsh : ShOk (paint w o (shs.length + 1, 0)) (shs.length + 1) w4 base ⟨xp, kb, sp, cb, c, c.surfaces.toNat, List.replicate n none⟩ := by
    refine ⟨?_, ?_, hok, by show c.surfaces = (c.surfaces.toNat : Int); omega, by simp; omega, fun j k hk => ?_, fun g hg => ?_, fun g hg => ?_⟩
    · show PScr w4 xp kb c ((List.replicate n (none : Option Kl)).map kptr)
      rw [List.map_replicate]; exact hP
    · show DocSt w4 sp cb c ((List.replicate n (none : Option Kl)).map kdoc)
      rw [List.map_replicate]; exact hD
    · have hk' : (List.replicate n (none : Option Kl))[j]? = some (some k) := hk
      have := List.mem_of_getElem? hk'
      rw [List.mem_replicate] at this
      cases this.2
    · rcases hg with e | e | e | e
      · have e' : g = xp := e
        omega
      · have e' : g = kb := e
        omega
      · have e' : g = sp := e
        omega
      · have e' : g = cb := e
        omega
    · refine paint_new ?_
      rcases hg with e | e | e | e
      · have e' : g = xp := e
        omega
      · have e' : g = kb := e
        omega
      · have e' : g = sp := e
        omega
      · have e' : g = cb := e
        omega
  have hg : But (fun g => ss.ownBlock = some g) w4 w6 := by
    rw [ess]
    exact ((But.refl _ w4).alloc o7).grown hgrow (fun k e => .inl e)
  have hm := h.more (s := ⟨xp, kb, sp, cb, c, c.surfaces.toNat, List.replicate n none⟩) hB4 hsh (paint_same _ _ _) hg hown (fun g hg' => by
    simp only [Value.ownBlock, Option.some.injEq] at hg'
    subst hg'
    rw [ess]
    rcases hat with c | c
    · exact .inl c
    · right; rw [c]; show _ ≤ (w4.heap.push _).size; rw [Array.size_push]; omega)
  exact ⟨⟨_, _, _, hm.1, by simp⟩, hm.2⟩

set_option maxHeartbeats 6000000 in
theorem made_some {U : Nat → Prop} {base wb : Nat} {gr gc go : Value} {C : List Cfg} {O : List (List Opn)} {w : World} {ss : Value} {shs : List Sh} {o : Nat → Nat × Nat} (h : QSt U base wb gr gc go C O w ss shs o) (kind oA oB oC : Int) (hA : -9223372036854775808 ≤ oA ∧ oA ≤ 9223372036854775807) (hn : shs.length ≤ 4398046511104) (hC : 0 < C.length ∧ C.length ≤ 10000000000000) :
    Calls Tryz.prog 13 #[.pointer (some ⟨wb, 0, none⟩), .agg #[.int .i64 kind, .int .i64 oA, .int .i64 oB, .int .i64 oC]] w fun e w' => e = .returned (.bool true) ∧ QNext U base wb gr gc go C O shs.length w w' := by
  obtain ⟨ia, ea, hia⟩ := pk_at oA C.length hC.1
  obtain ⟨c, hc⟩ : ∃ c, C[ia]? = some c := ⟨C[ia], by simp [hia]⟩
  obtain ⟨cb, coff, ccap, egc, hcb, hcat⟩ := h.rdC.at hc
  have HPA : Hid (∀ w', Calls Tryz.prog 14 #[.int .i64 oA, .int .i64 C.length] w' fun e w'' => e = .returned (.int .i64 ia) ∧ w'' = w') := fun w' => by
    have h := pick_any oA C.length w' hA (by omega)
    rw [ea] at h; exact h
  have hbx := h.box
  rw [egc] at hbx
  have c1 : w.cell? ⟨wb, 1, none⟩ = some (.slice (some ⟨cb, coff, none⟩) C.length ccap) := blk_cell hbx 1
  have c3 : w.cell? ⟨wb, 3, none⟩ = some ss := blk_cell hbx 3
  have hwb := lt_of_heap hbx
  obtain ⟨g0, g1, g2, g3, g4, g5, g6, g7⟩ := hcat
  have nC : ¬ (C.length : Int) = 0 := by omega
  have i0 : (0 : Int) ≤ (ia : Int) := by omega
  have i1 : (ia : Int) < (C.length : Int) := by omega
  have HH := hide h
  obtain ⟨cw, ch, cc, cq, cm, cu, cs, ci⟩ := c
  simp only at g0 g1 g2 g3 g4 g5 g6 g7
  clear h hbx hA ea hc
  go_enter Tryz.func13, Tryz.ntmps13
  go_wp2_with fail
  have hB1 : Below w.heap.size w (w.alloc (.cells #[.int .i64 kind, .int .i64 oA, .int .i64 oB, .int .i64 oC] 42)) := (Below.refl _ w).alloc (Nat.le_refl _) _
  have hX1 : (w.alloc (.cells #[.int .i64 kind, .int .i64 oA, .int .i64 oB, .int .i64 oC] 42)).heap[w.heap.size]? = some (.cells #[.int .i64 kind, .int .i64 oA, .int .i64 oB, .int .i64 oC] 42) := new_at _ _ _ rfl
  generalize w.alloc (.cells #[.int .i64 kind, .int .i64 oA, .int .i64 oB, .int .i64 oC] 42) = w1 at *
  have d1 := (hB1.cell (p := ⟨wb, 1, none⟩) hwb).trans c1
  have dA : w1.cell? ⟨w.heap.size, 1, none⟩ = some (.int .i64 oA) := blk_cell hX1 1
  have f0 := (hB1.cell (p := ⟨cb, coff + ia * 8, none⟩) hcb).trans g0
  have f1 := (hB1.cell (p := ⟨cb, coff + ia * 8 + 1, none⟩) hcb).trans g1
  have f2 := (hB1.cell (p := ⟨cb, coff + ia * 8 + 2, none⟩) hcb).trans g2
  have f3 := (hB1.cell (p := ⟨cb, coff + ia * 8 + 3, none⟩) hcb).trans g3
  have f4 := (hB1.cell (p := ⟨cb, coff + ia * 8 + 4, none⟩) hcb).trans g4
  have f5 := (hB1.cell (p := ⟨cb, coff + ia * 8 + 5, none⟩) hcb).trans g5
  have f6 := (hB1.cell (p := ⟨cb, coff + ia * 8 + 6, none⟩) hcb).trans g6
  have f7 := (hB1.cell (p := ⟨cb, coff + ia * 8 + 7, none⟩) hcb).trans g7
  have l1 : w.heap.size < w1.heap.size := lt_of_heap hX1
  have l2 : wb < w1.heap.size := by omega
  have l3 : cb < w1.heap.size := by omega
  have HB1 := hide hB1
  clear hB1 hX1 g0 g1 g2 g3 g4 g5 g6 g7 c1
  rename_i K aK
  have HK : Hid (K { tmps := #[.pointer (some ⟨wb, 0, none⟩), .agg #[.int .i64 kind, .int .i64 oA, .int .i64 oB, .int .i64 oC], undef, .pointer (some ⟨w.heap.size, 0, none⟩), .bool false, .pointer (some ⟨w1.heap.size, 0, none⟩), undef, undef, undef, undef, .pointer (some ⟨wb, 0, none⟩), .pointer (some ⟨wb, 0, none⟩), .pointer (some ⟨wb, 0, none⟩), .pointer (some ⟨wb, 1, none⟩), .slice (some ⟨cb, coff, none⟩) C.length ccap, .int .i64 C.length, .bool false, .pointer (some ⟨wb, 0, none⟩), .pointer (some ⟨wb, 0, none⟩), .pointer (some ⟨wb, 0, none⟩), .pointer (some ⟨wb, 1, none⟩), .slice (some ⟨cb, coff, none⟩) C.length ccap, .pointer (some ⟨w.heap.size, 1, none⟩), .int .i64 oA, .pointer (some ⟨wb, 0, none⟩), .pointer (some ⟨wb, 0, none⟩), .pointer (some ⟨wb, 0, none⟩), .pointer (some ⟨wb, 1, none⟩), .slice (some ⟨cb, coff, none⟩) C.length ccap, .int .i64 C.length, .int .i64 ia, .pointer (some ⟨cb, coff + ia * 8, none⟩), .agg #[.int .i64 cw, .int .i64 ch, .int .i64 cc, .int .i64 cq, .int .i64 cm, .int .i64 cu, .int .i64 cs, .int .i64 ci], undef, undef, undef, undef, undef, undef, undef, undef, undef, undef, undef, undef, undef, undef, undef, undef, undef, undef, undef, undef, undef, undef, undef, undef, undef, undef, undef, undef, undef, undef, undef, undef, undef, undef, undef], defers := [] } (w1.alloc (.cells #[.int .i64 cw, .int .i64 ch, .int .i64 cc, .int .i64 cq, .int .i64 cm, .int .i64 cu, .int .i64 cs, .int .i64 ci] 49)).drew) := by
    refine aK _ _ ?_
    have hB2 : Below w.heap.size w (w1.alloc (.cells #[.int .i64 cw, .int .i64 ch, .int .i64 cc, .int .i64 cq, .int .i64 cm, .int .i64 cu, .int .i64 cs, .int .i64 ci] 49)).drew := ((unhide HB1).alloc (Nat.le_of_lt l1) _).drew
    have hX2 : (w1.alloc (.cells #[.int .i64 cw, .int .i64 ch, .int .i64 cc, .int .i64 cq, .int .i64 cm, .int .i64 cu, .int .i64 cs, .int .i64 ci] 49)).drew.heap[w1.heap.size]? = some (.cells #[.int .i64 cw, .int .i64 ch, .int .i64 cc, .int .i64 cq, .int .i64 cm, .int .i64 cu, .int .i64 cs, .int .i64 ci] 49) := new_at _ _ _ rfl
    clear f0 f1 f2 f3 f4 f5 f6 f7 d1 dA aK
    generalize (w1.alloc (.cells #[.int .i64 cw, .int .i64 ch, .int .i64 cc, .int .i64 cq, .int .i64 cm, .int .i64 cu, .int .i64 cs, .int .i64 ci] 49)).drew = w2 at *
    have x0 : w2.cell? ⟨w1.heap.size, 0, none⟩ = some (.int .i64 cw) := blk_cell hX2 0
    have x1 : w2.cell? ⟨w1.heap.size, 1, none⟩ = some (.int .i64 ch) := blk_cell hX2 1
    have x2 : w2.cell? ⟨w1.heap.size, 2, none⟩ = some (.int .i64 cc) := blk_cell hX2 2
    have x3 : w2.cell? ⟨w1.heap.size, 3, none⟩ = some (.int .i64 cq) := blk_cell hX2 3
    have x4 : w2.cell? ⟨w1.heap.size, 4, none⟩ = some (.int .i64 cm) := blk_cell hX2 4
    have x5 : w2.cell? ⟨w1.heap.size, 5, none⟩ = some (.int .i64 cu) := blk_cell hX2 5
    have x6 : w2.cell? ⟨w1.heap.size, 6, none⟩ = some (.int .i64 cs) := blk_cell hX2 6
    have x7 : w2.cell? ⟨w1.heap.size, 7, none⟩ = some (.int .i64 ci) := blk_cell hX2 7
    have lx : w1.heap.size < w2.heap.size := lt_of_heap hX2
    have HB2 := hide hB2
    have HX2 := hide hX2
    have HN2 : Hid (∀ w, Calls Tryz.prog 17 #[.int .i64 2] w fun e w' => e = .returned (.int .i64 2) ∧ w' = w) := fun w => num_any 2 w
    have HN0 : Hid (∀ w, Calls Tryz.prog 17 #[.int .i64 0] w fun e w' => e = .returned (.int .i64 0) ∧ w' = w) := fun w => num_any 0 w
    clear hB2 hX2
    cases hok : okCfg ⟨cw, ch, cc, cq, cm, cu, cs, ci⟩ with
    | false =>
      have HP := hide (panesNew_bad ⟨cw, ch, cc, cq, cm, cu, cs, ci⟩ w2 hok)
      have HD : Hid (∀ w, Calls Tryz.prog 41 #[cval ⟨cw, ch, cc, cq, cm, cu, cs, ci⟩] w fun e w' => e = .returned (.tuple #[.pointer none, .int .i64 2]) ∧ Below w.heap.size w w') := fun w => docNew_bad _ w hok
      unfold cval at HP HD
      simp only at HP HD
      clear hok HN0
      go_wp2_with fail
      refine (unhide HP).mono ?_
      rintro e w3 ⟨rfl, hb3⟩
      have y0 := (hb3.cell (p := ⟨w1.heap.size, 0, none⟩) lx).trans x0
      have y1 := (hb3.cell (p := ⟨w1.heap.size, 1, none⟩) lx).trans x1
      have y2 := (hb3.cell (p := ⟨w1.heap.size, 2, none⟩) lx).trans x2
      have y3 := (hb3.cell (p := ⟨w1.heap.size, 3, none⟩) lx).trans x3
      have y4 := (hb3.cell (p := ⟨w1.heap.size, 4, none⟩) lx).trans x4
      have y5 := (hb3.cell (p := ⟨w1.heap.size, 5, none⟩) lx).trans x5
      have y6 := (hb3.cell (p := ⟨w1.heap.size, 6, none⟩) lx).trans x6
      have y7 := (hb3.cell (p := ⟨w1.heap.size, 7, none⟩) lx).trans x7
      have HB3 := hide ((unhide HB2).trans (hb3.mono (unhide HB2).size))
      clear hb3 HP x0 x1 x2 x3 x4 x5 x6 x7
      go_wp2_with fail
      refine ((unhide HD) _).mono ?_
      rintro e w4 ⟨rfl, hb4⟩
      have HB4 := hide ((unhide HB3).trans (hb4.mono (unhide HB3).size))
      clear hb4 HD
      go_wp2_with fail
      refine ((unhide HN2) _).mono ?_
      rintro e w5 ⟨rfl, hw5⟩
      have hw6 := hw5.symm
      clear hw5
      subst hw6
      go_wp2
      go_ret
      exact ⟨rfl, QNext.same (unhide HH) (unhide HB4)⟩
    | true =>
      have hbd : 1 ≤ cc ∧ cc ≤ 4 ∧ 1 ≤ cs ∧ cs ≤ 4 := by
        have := hok
        simp only [okCfg, Bool.and_eq_true, inB_iff] at this
        omega
      obtain ⟨n, hn'⟩ : ∃ n : Nat, cc = n := ⟨cc.toNat, by omega⟩
      subst hn'
      have HP := hide (panesNew_ok ⟨cw, ch, n, cq, cm, cu, cs, ci⟩ w2 hok n rfl)
      have HD : Hid (∀ w, Calls Tryz.prog 41 #[cval ⟨cw, ch, (n : Int), cq, cm, cu, cs, ci⟩] w fun e w' => ∃ sp cb, e = .returned (.tuple #[.pointer (some ⟨sp, 0, none⟩), .int .i64 0]) ∧ DocSt w' sp cb ⟨cw, ch, (n : Int), cq, cm, cu, cs, ci⟩ (List.replicate n dnone) ∧ w.heap.size ≤ sp ∧ w.heap.size ≤ cb ∧ Below w.heap.size w w') := fun w => docNew_ok _ w hok n rfl
      unfold cval at HP HD
      simp only at HP HD
      have HOK := hide hok
      obtain ⟨so, scap, ess⟩ := row_slice (unhide HH).own
      have c3' : w.cell? ⟨wb, 3, none⟩ = some (.slice so shs.length scap) := by rw [← ess]; exact c3
      have HESS := hide ess
      clear hok HN2 ess
      go_wp2_with fail
      refine (unhide HP).mono ?_
      rintro e w3 ⟨xp, kb, rfl, hP, hx1, hk1, hb3⟩
      have y0 := (hb3.cell (p := ⟨w1.heap.size, 0, none⟩) lx).trans x0
      have y1 := (hb3.cell (p := ⟨w1.heap.size, 1, none⟩) lx).trans x1
      have y2 := (hb3.cell (p := ⟨w1.heap.size, 2, none⟩) lx).trans x2
      have y3 := (hb3.cell (p := ⟨w1.heap.size, 3, none⟩) lx).trans x3
      have y4 := (hb3.cell (p := ⟨w1.heap.size, 4, none⟩) lx).trans x4
      have y5 := (hb3.cell (p := ⟨w1.heap.size, 5, none⟩) lx).trans x5
      have y6 := (hb3.cell (p := ⟨w1.heap.size, 6, none⟩) lx).trans x6
      have y7 := (hb3.cell (p := ⟨w1.heap.size, 7, none⟩) lx).trans x7
      have HB3 := hide ((unhide HB2).trans (hb3.mono (unhide HB2).size))
      have HPS := hide hP
      have hz2 := (unhide HB2).size
      have hz3 := hb3.size
      clear hb3 hP HP x0 x1 x2 x3 x4 x5 x6 x7
      go_wp2_with fail
      refine ((unhide HD) _).mono ?_
      rintro e w4 ⟨sp, cb', rfl, hD, hx2, hk2, hb4⟩
      have hB4 := (unhide HB3).trans (hb4.mono (unhide HB3).size)
      have HPS4 := hide ((unhide HPS).below hb4)
      have HDS := hide hD
      have e3 := (hB4.cell (p := ⟨wb, 3, none⟩) hwb).trans c3'
      have HB4 := hide hB4
      have hz4 := hb4.size
      clear hb4 HD hD hB4 HPS y0 y1 y2 y3 y4 y5 y6 y7
      go_wp2_with fail
      refine ((unhide HN0) _).mono ?_
      rintro e w5 ⟨rfl, hw5⟩
      have hw6 := hw5.symm
      clear hw5
      subst hw6
      obtain ⟨jj, hj, hy0, hy1, hy2⟩ := info_parts info_shelf
      have hbx4 := ((unhide HB4).block _ hwb).trans (unhide HH).box
      have hQ4 : w4.ownsRow base 57 2 (.slice so shs.length scap) shs.length (shcells shs) := by
        rw [← unhide HESS]
        exact row_but (S := fun _ => False) (unhide HH).own (.of_below (unhide HB4)) (fun _ _ c => c)
      have hkw : (Value.slice so shs.length scap).ownBlock ≠ some wb := row_kind hQ4 hbx4 (by decide)
      have hbl := Nat.le_trans (unhide HH).base_le (unhide HB4).size
      have l4 : wb < w4.heap.size := lt_of_heap hbx4
      have ez : w4.frozen? ⟨wb, 3, none⟩ = false := blk_thaw hbx4 3
      have HQ4 := hide hQ4
      have HKW := hide hkw
      clear hbx4 hQ4 hkw
      go_wp2_with (
        at_builtin
        refine wpList_append_lies _ rfl _ _ 32 rfl base 57 jj _ 2 16 Tryz.underlying32 hj hy0 hy1 hy2 rfl (by decide) (.slice so shs.length scap) shs.length (shcells shs) rfl (World.ownsRow.alloc (unhide HQ4) _) ⟨w4.heap.size, 0, none⟩ 1 1 [.pointer (some ⟨xp, 0, none⟩), .pointer (some ⟨sp, 0, none⟩)] rfl rfl (newsN (new_at _ _ _ rfl)) (by intro u hu; simp at hu; rcases hu with rfl | rfl <;> rfl) (by decide) (by unfold maxLen; omega) (by omega) (by simp; omega) _ rfl ?_
        intro gg gk w6 hown6 hgrow hat hltg
        have qf : w6.frozen? ⟨wb, 3, none⟩ = false := (hgrow.frozen_far ⟨wb, 3, none⟩ (Nat.lt_of_lt_of_le l4 (by show _ ≤ (w4.heap.push _).size; rw [Array.size_push]; omega)) (Ne.symm (unhide HKW))).trans ((World.frozen?_of_block (w := w4) (Below.heap_alloc _ _ _ l4)).trans ez)
        have qcc : w6.cell? ⟨wb, 3, none⟩ = some (.slice so shs.length scap) := (hgrow.cell_far ⟨wb, 3, none⟩ (Nat.lt_of_lt_of_le l4 (by show _ ≤ (w4.heap.push _).size; rw [Array.size_push]; omega)) (Ne.symm (unhide HKW))).trans ((World.cell?_of_block (w := w4) (Below.heap_alloc _ _ _ l4)).trans e3)
        have HO6 := hide hown6
        have HG6 := hide hgrow
        have HAT := hide hat
        clear hown6 hgrow hat hltg)
      go_ret
      exact ⟨rfl, (unhide HH).newEnd (unhide HESS) (unhide HB4) (unhide HPS4) (unhide HDS) (unhide HOK) rfl (by omega) (by omega) (by omega) (by omega) (unhide HG6) (unhide HO6) (unhide HAT)⟩
  clear aK
  go_region_held3 (fun w' => w'.cell? ⟨wb, 1, none⟩ = some (.slice (some ⟨cb, coff, none⟩) C.length ccap) ∧ w'.cell? ⟨w.heap.size, 1, none⟩ = some (.int .i64 oA) ∧ w'.cell? ⟨cb, coff + ia * 8, none⟩ = some (.int .i64 cw) ∧ w'.cell? ⟨cb, coff + ia * 8 + 1, none⟩ = some (.int .i64 ch) ∧ w'.cell? ⟨cb, coff + ia * 8 + 2, none⟩ = some (.int .i64 cc) ∧ w'.cell? ⟨cb, coff + ia * 8 + 3, none⟩ = some (.int .i64 cq) ∧ w'.cell? ⟨cb, coff + ia * 8 + 4, none⟩ = some (.int .i64 cm) ∧ w'.cell? ⟨cb, coff + ia * 8 + 5, none⟩ = some (.int .i64 cu) ∧ w'.cell? ⟨cb, coff + ia * 8 + 6, none⟩ = some (.int .i64 cs) ∧ w'.cell? ⟨cb, coff + ia * 8 + 7, none⟩ = some (.int .i64 ci))
    (first | (refine ⟨?_, ?_, ?_, ?_, ?_, ?_, ?_, ?_, ?_, ?_⟩ <;> assumption) | go_keep)
    ((go_at_call 14; refine ((unhide HPA) _).mono ?_; rintro e w' ⟨rfl, hw'⟩; have hw2 := hw'.symm; clear hw'; subst hw2))
  all_goals
    simp only [Exit.then]
    go_simp
    exact unhide HK
end Go.Proofs.YtfnockbgkcgpkaaGreat
