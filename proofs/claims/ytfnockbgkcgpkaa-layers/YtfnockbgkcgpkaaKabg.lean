import Derived.Test.YtfnockbgkcgpkaaKabf
set_option linter.all false
namespace Go.Proofs.Ytfnockbgkcgpkaa
open Go.RowKit Go.Proofs.Panes
set_option maxRecDepth 100000

/-- A screen at first. -/
def newS (c : Cfg) : Scrn := ⟨c, List.replicate c.clients.toNat none, [], newF c.w.toNat c.h.toNat c.behind, 0⟩
/-- What New leaves. -/
def NewPost (c : Cfg) (w : World) (e : Ending) (w' : World) : Prop := ∃ (xp kb sb fb : Nat) (o : Nat → Nat), e = .returned (.tuple #[.pointer (some ⟨xp, 0, none⟩), .int .i64 0]) ∧ ScrM o w' xp kb sb fb (List.replicate c.clients.toNat none) (newS c) ∧ (∀ x, o x ≠ 0 → w.heap.size ≤ x) ∧ Below w.heap.size w w'
theorem new_end {c : Cfg} {w a1 a2 b1 b2 wx : World} {kb sb fb : Nat} (h0 : w.heap.size ≤ a1.heap.size) (hA : ScNew a1 a2 c.behind sb) (hAB : Below a2.heap.size a2 b1) (hB : FrNew b1 b2 c.w.toNat c.h.toNat c.behind fb) (hBX : Below b2.heap.size b2 wx) (hWX : Below w.heap.size w wx) (hk : wx.heap[kb]? = some (.cells ((List.replicate c.clients.toNat (none : Option Nat)).map pptr).toArray 97)) (hkw : w.heap.size ≤ kb) (hka : ¬ (a1.heap.size ≤ kb ∧ kb < a2.heap.size)) (hkb : ¬ (b1.heap.size ≤ kb ∧ kb < b2.heap.size)) :
    NewPost c w (.returned (.tuple #[.pointer (some ⟨wx.heap.size, 0, none⟩), .int .i64 0])) (wx.alloc (.cells (scells c kb c.clients.toNat sb fb 0) 102)) := by
  obtain ⟨W, hW⟩ : ∃ W, W = wx.alloc (.cells (scells c kb c.clients.toNat sb fb 0) 102) := ⟨_, rfl⟩
  rw [← hW]
  have hxW : Below wx.heap.size wx W := by rw [hW]; exact (Below.refl _ wx).alloc (Nat.le_refl _) _
  have hn : W.heap[wx.heap.size]? = some (.cells (scells c kb c.clients.toNat sb fb 0) 102) := by rw [hW]; exact new_at _ _ _ rfl
  have s1 := hA.2.size
  have s2 := hAB.size
  have s3 := hB.2.size
  have s4 := hBX.size
  have hklt := lt_of_heap hk
  have hbW : Below b2.heap.size b2 W := hBX.trans (hxW.mono s4)
  have haW : Below a2.heap.size a2 W := hAB.trans ((hB.2.trans (hbW.mono s3)).mono s2)
  refine ⟨wx.heap.size, kb, sb, fb, fun x => if x = kb ∨ x = wx.heap.size then 1 else if a1.heap.size ≤ x ∧ x < a2.heap.size then 2 else if b1.heap.size ≤ x ∧ x < b2.heap.size then 3 else 0, rfl, ⟨?_, ?_, ⟨by simp [newS], fun j hj => ?_, fun j k hj => ?_⟩, ?_, ?_, by simp, by simp, fun x hx => ?_⟩, fun x hx => ?_, hWX.trans (hxW.mono hWX.size)⟩
  · rw [List.length_replicate]; exact hn
  · exact (hxW.block _ hklt).trans hk
  · simp only [newS] at hj
    rw [List.getElem?_replicate] at hj ⊢
    split at hj
    · rename_i hh; rw [if_pos hh]
    · simp at hj
  · simp only [newS] at hj
    rw [List.getElem?_replicate] at hj
    split at hj <;> simp at hj
  · refine ((hA.1 _).below haW).mono (fun x hx => ?_) (fun x hx => hx)
    have hx' : a1.heap.size ≤ x ∧ x < a2.heap.size := hx
    have n1 : ¬ (x = kb ∨ x = wx.heap.size) := by
      rintro (e | e)
      · exact hka (e ▸ hx')
      · omega
    show (if x = kb ∨ x = wx.heap.size then 1 else if a1.heap.size ≤ x ∧ x < a2.heap.size then 2 else if b1.heap.size ≤ x ∧ x < b2.heap.size then 3 else 0) = 2
    rw [if_neg n1, if_pos hx']
  · obtain ⟨⟨v, hv⟩, _⟩ := hB
    refine ⟨v, (hv.below hbW).mono (fun x hx => ?_)⟩
    have hx' : b1.heap.size ≤ x ∧ x < b2.heap.size := hx
    have n1 : ¬ (x = kb ∨ x = wx.heap.size) := by
      rintro (e | e)
      · exact hkb (e ▸ hx')
      · omega
    have n2 : ¬ (a1.heap.size ≤ x ∧ x < a2.heap.size) := by omega
    show (if x = kb ∨ x = wx.heap.size then 1 else if a1.heap.size ≤ x ∧ x < a2.heap.size then 2 else if b1.heap.size ≤ x ∧ x < b2.heap.size then 3 else 0) = 3
    rw [if_neg n1, if_neg n2, if_pos hx']
  · have hsz := lt_of_heap hn
    by_cases n1 : x = kb ∨ x = wx.heap.size
    · rcases n1 with e | e <;> omega
    · by_cases n2 : a1.heap.size ≤ x ∧ x < a2.heap.size
      · omega
      · by_cases n3 : b1.heap.size ≤ x ∧ x < b2.heap.size
        · omega
        · simp [n1, n2, n3] at hx
  · by_cases n1 : x = kb ∨ x = wx.heap.size
    · have := hWX.size
      rcases n1 with e | e <;> omega
    · by_cases n2 : a1.heap.size ≤ x ∧ x < a2.heap.size
      · omega
      · by_cases n3 : b1.heap.size ≤ x ∧ x < b2.heap.size
        · omega
        · simp [n1, n2, n3] at hx

theorem info_pcl : (Try.prog.info? 97).map (fun i => (i.zero, i.size, i.bytes)) = some (some (.pointer none), 1, 8) := by kernel_rfl
theorem make_pcl (n : Nat) (hn : n ≤ 1000) (u : World) : (Instr.makeSlice 98 (.int .i64 (n : Int)) (.int .i64 (n : Int))).run Try.prog u = .ok (.slice (some ⟨u.heap.size, 0, none⟩) n n) (u.alloc (.cells ((List.replicate n (none : Option Nat)).map pptr).toArray 97)) := by
  obtain ⟨i0, hi, hz0, hz1, hz2⟩ := info_parts info_pcl
  have h := run_make (P := Try.prog) u 98 97 i0 _ Try.underlying98 hi hz0 .i64 .i64 (n : Int) (n : Int) (by omega) (Int.le_refl _) (by rw [hz2]; omega) (by omega)
  simp only [Int.toNat_natCast, hz1] at h
  have e : madeCells (Value.pointer none).cells (n * 1) = ((List.replicate n (none : Option Nat)).map pptr).toArray := by
    apply Array.ext'
    rw [show (Value.pointer none).cells = #[Value.pointer none] from rfl, toList_madeCells_one]
    simp [pptr]
  rw [← e]
  simpa [Value.cells] using h
set_option maxHeartbeats 1600000 in
theorem panesNew_bad (c : Cfg) (w : World) (hc : okCfg c = false) :
    Calls Try.prog 38 #[cval c] w fun e w' => e = .returned (.tuple #[.pointer none, .int .i64 2]) ∧ Below w.heap.size w w' := by
  obtain ⟨a, b, d, e, f, g, h, i⟩ := c
  have HC : Hid (∀ w, Calls Try.prog 70 #[.agg #[.int .i64 a, .int .i64 b, .int .i64 d, .int .i64 e, .int .i64 f, .int .i64 g, .int .i64 h, .int .i64 i]] w fun e w' => e = .returned (.bool false) ∧ Below w.heap.size w w') := fun w => by
    have := pallowed_any ⟨a, b, d, e, f, g, h, i⟩ w
    rw [hc] at this
    exact this
  unfold cval
  simp only
  clear hc
  go_enter Try.func38, Try.ntmps38
  go_wp2_with fail
  refine ((unhide HC) _).mono ?_
  rintro e w1 ⟨rfl, hb⟩
  have HB := hide (((Below.refl _ w).alloc (Nat.le_refl _) _).trans (hb.mono (by simp)))
  clear hb HC
  go_wp2
  go_ret2
  exact ⟨rfl, unhide HB⟩
set_option maxHeartbeats 800000 in
theorem panesNew_ok (c : Cfg) (w : World) (hc : okCfg c = true) (n : Nat) (hn : c.clients = n) :
    Calls Try.prog 38 #[cval c] w (NewPost c w) := by
  have hbd : (1 ≤ c.w ∧ c.w ≤ 16) ∧ (1 ≤ c.h ∧ c.h ≤ 16) ∧ (1 ≤ c.clients ∧ c.clients ≤ 4) := by
    have := hc
    simp only [okCfg, Bool.and_eq_true, inB_iff] at this
    exact ⟨this.1.1.1.1.1.1.1, this.1.1.1.1.1.1.2, this.1.1.1.1.1.2⟩
  obtain ⟨W, hW⟩ : ∃ W : Nat, c.w = W := ⟨c.w.toNat, by omega⟩
  obtain ⟨H, hH⟩ : ∃ H : Nat, c.h = H := ⟨c.h.toNat, by omega⟩
  have HI := hide (pallowed_any c)
  rw [hc] at HI
  obtain ⟨a, b, d, e, f, g, h, i⟩ := c
  simp only at hW hH hn hbd
  subst hW hH hn
  unfold cval at HI ⊢
  simp only at HI ⊢
  have hmk := make_pcl n (by omega)
  obtain ⟨zc, hzc⟩ : ∃ zc, zc = ((List.replicate n (none : Option Nat)).map pptr).toArray := ⟨_, rfl⟩
  simp only [← hzc] at hmk
  have HZC := hide hzc
  clear hzc
  have HS := hide (sceneNew_any i)
  have HF : Hid (∀ w, Calls Try.prog 72 #[.int .i64 (W : Int), .int .i64 (H : Int), .int .i64 i] w fun e w' => ∃ fb, e = .returned (.pointer (some ⟨fb, 0, none⟩)) ∧ FrNew w w' W H i fb) := fun w => framesNew_any W H i w (by omega)
  clear hc
  go_enter Try.func38, Try.ntmps38
  go_wp2_with fail
  refine ((unhide HI) _).mono ?_
  rintro x w1 ⟨rfl, hb1⟩
  have hB1 : Below w.heap.size w w1 := ((Below.refl _ w).alloc (Nat.le_refl _) _).trans (hb1.mono (by simp))
  have hX1 : w1.heap[w.heap.size]? = some (.cells #[.int .i64 W, .int .i64 H, .int .i64 n, .int .i64 e, .int .i64 f, .int .i64 g, .int .i64 h, .int .i64 i] 48) := (hb1.block _ (by simp)).trans (new_at _ _ _ rfl)
  have x0 : w1.cell? ⟨w.heap.size, 0, none⟩ = some (.int .i64 (W : Int)) := blk_cell hX1 0
  have x1 : w1.cell? ⟨w.heap.size, 1, none⟩ = some (.int .i64 (H : Int)) := blk_cell hX1 1
  have x2 : w1.cell? ⟨w.heap.size, 2, none⟩ = some (.int .i64 (n : Int)) := blk_cell hX1 2
  have x3 : w1.cell? ⟨w.heap.size, 3, none⟩ = some (.int .i64 e) := blk_cell hX1 3
  have x4 : w1.cell? ⟨w.heap.size, 4, none⟩ = some (.int .i64 f) := blk_cell hX1 4
  have x5 : w1.cell? ⟨w.heap.size, 5, none⟩ = some (.int .i64 g) := blk_cell hX1 5
  have x6 : w1.cell? ⟨w.heap.size, 6, none⟩ = some (.int .i64 h) := blk_cell hX1 6
  have x7 : w1.cell? ⟨w.heap.size, 7, none⟩ = some (.int .i64 i) := blk_cell hX1 7
  have lx : w.heap.size < w1.heap.size := lt_of_heap hX1
  have lx' : w.heap.size ≠ w1.heap.size := by omega
  have HB1 := hide hB1
  have HX1 := hide hX1
  have HFr : Hid (∀ w', Below w1.heap.size w1 w' → ∀ q : Nat, w'.cell? ⟨w.heap.size, q, none⟩ = w1.cell? ⟨w.heap.size, q, none⟩) := fun w' hb q => hb.cell lx
  have HA1 : Hid (∀ w2, Below w1.drew.heap.size w1.drew w2 → Below w1.heap.size w1 w2) := fun w2 h => (Below.refl _ w1).drew.trans h
  have HA2 : Hid (∀ w2 : World, Below (w1.alloc (Obj.cells zc 97)).drew.heap.size (w1.alloc (Obj.cells zc 97)).drew w2 → Below w1.heap.size w1 w2) := fun w2 hb2 => (((Below.refl _ w1).alloc (Nat.le_refl _) _).drew).trans (hb2.mono (by show _ ≤ (w1.heap.push _).size; rw [Array.size_push]; omega))
  have HA3 : Hid (∀ w2 : World, Below (w1.alloc (Obj.cells zc 97)).drew.heap.size (w1.alloc (Obj.cells zc 97)).drew w2 → w2.heap[w1.heap.size]? = some (Obj.cells zc 97)) := fun w2 hb2 => (hb2.block _ (by show _ < (w1.heap.push _).size; rw [Array.size_push]; omega)).trans (new_at _ _ _ rfl)
  have HC1 : Hid (∀ w2 w3 : World, Below w1.heap.size w1 w2 → Below w2.heap.size w2 w3 → Below w1.heap.size w1 w3) := fun w2 w3 h k => h.trans (k.mono h.size)
  have HC2 : Hid (∀ w2 w3 : World, Below w1.heap.size w1 w2 → Below (w2.alloc (Obj.cells zc 97)).heap.size (w2.alloc (Obj.cells zc 97)) w3 → Below w1.heap.size w1 w3) := fun w2 w3 h k => (h.alloc h.size _).trans (k.mono (by have := h.size; show _ ≤ (w2.heap.push _).size; rw [Array.size_push]; omega))
  have HC3 : Hid (∀ w2 w3 : World, Below (w2.alloc (Obj.cells zc 97)).heap.size (w2.alloc (Obj.cells zc 97)) w3 → w3.heap[w2.heap.size]? = some (Obj.cells zc 97)) := fun w2 w3 k => (k.block _ (by show _ < (w2.heap.push _).size; rw [Array.size_push]; omega)).trans (new_at _ _ _ rfl)
  have HC4 : Hid (∀ w2 w3 : World, ∀ q, w2.heap[q]? = some (Obj.cells zc 97) → Below w2.heap.size w2 w3 → w3.heap[q]? = some (Obj.cells zc 97)) := fun w2 w3 q h k => (k.block _ (lt_of_heap h)).trans h
  clear hb1 hB1 hX1 HI
  go_wp2_with fail
  go_region_held3 (fun w' => w'.cell? ⟨w.heap.size, 0, none⟩ = some (.int .i64 (W : Int)) ∧ w'.cell? ⟨w.heap.size, 1, none⟩ = some (.int .i64 (H : Int)) ∧ w'.cell? ⟨w.heap.size, 2, none⟩ = some (.int .i64 (n : Int)) ∧ w'.cell? ⟨w.heap.size, 3, none⟩ = some (.int .i64 e) ∧ w'.cell? ⟨w.heap.size, 4, none⟩ = some (.int .i64 f) ∧ w'.cell? ⟨w.heap.size, 5, none⟩ = some (.int .i64 g) ∧ w'.cell? ⟨w.heap.size, 6, none⟩ = some (.int .i64 h) ∧ w'.cell? ⟨w.heap.size, 7, none⟩ = some (.int .i64 i))
    (first | (refine ⟨?_, ?_, ?_, ?_, ?_, ?_, ?_, ?_⟩ <;> assumption) | go_keep)
    (first
      | (go_at_call 71
         refine ((unhide HS) _).mono ?_
         rintro x w2 ⟨sa, rfl, hnw2⟩
         have hb2 := hnw2.2
         have HNW2 := hide hnw2
         clear hnw2
         have hb : Below w1.heap.size w1 w2 := by first | exact (unhide HA1) w2 hb2 | exact (unhide HA2) w2 hb2
         have q0 := ((unhide HFr) w2 hb 0).trans x0
         have q1 := ((unhide HFr) w2 hb 1).trans x1
         have q2 := ((unhide HFr) w2 hb 2).trans x2
         have q3 := ((unhide HFr) w2 hb 3).trans x3
         have q4 := ((unhide HFr) w2 hb 4).trans x4
         have q5 := ((unhide HFr) w2 hb 5).trans x5
         have q6 := ((unhide HFr) w2 hb 6).trans x6
         have q7 := ((unhide HFr) w2 hb 7).trans x7
         try
           have HZ2 := hide ((unhide HA3) w2 hb2)
         have HE2 := hide hb
         have hse := hb.size
         have ly : w.heap.size < w2.heap.size := by omega
         clear hb hb2)
      | (go_at_call 72
         refine ((unhide HF) _).mono ?_
         rintro x w3 ⟨fa, rfl, hnw3⟩
         have hb3 := hnw3.2
         have HNW3 := hide hnw3
         clear hnw3
         have hb : Below w1.heap.size w1 w3 := by first | exact (unhide HC1) w2 w3 (unhide HE2) hb3 | exact (unhide HC2) w2 w3 (unhide HE2) hb3
         have p0 := ((unhide HFr) w3 hb 0).trans x0
         have p1 := ((unhide HFr) w3 hb 1).trans x1
         have p2 := ((unhide HFr) w3 hb 2).trans x2
         have p3 := ((unhide HFr) w3 hb 3).trans x3
         have p4 := ((unhide HFr) w3 hb 4).trans x4
         have p5 := ((unhide HFr) w3 hb 5).trans x5
         have p6 := ((unhide HFr) w3 hb 6).trans x6
         have p7 := ((unhide HFr) w3 hb 7).trans x7
         try
           have HZ3 := hide ((unhide HC3) w2 w3 hb3)
         try
           have HZ3 := hide ((unhide HC4) w2 w3 _ (unhide HZ2) hb3)
         have HE3 := hide hb
         have hsf := hb.size
         have lz : w.heap.size < w3.heap.size := by omega
         clear hb hb3))
  · go_wp2
    go_ret2
    have hZ := unhide HZ3
    rw [unhide HZC] at hZ
    have hE := (unhide HB1).trans ((unhide HE3).mono (unhide HB1).size)
    have hs1 : (w1.alloc (Obj.cells zc 97)).drew.heap.size = w1.heap.size + 1 := by show (w1.heap.push _).size = _; rw [Array.size_push]
    have hs2 := (unhide HNW2).2.size
    have hP := new_end (c := ⟨W, H, n, e, f, g, h, i⟩) (w := w) (kb := w1.heap.size) (by omega) (unhide HNW2) (Below.refl _ w2) (unhide HNW3) (Below.refl _ w3) hE hZ (by omega) (by omega) (by omega)
    exact hP
  · go_wp2
    go_ret2
    have hZ := unhide HZ3
    rw [unhide HZC] at hZ
    have hE := (unhide HB1).trans ((unhide HE3).mono (unhide HB1).size)
    have hs1 : w1.drew.heap.size = w1.heap.size := rfl
    have hs2 : (w2.alloc (Obj.cells zc 97)).heap.size = w2.heap.size + 1 := by show (w2.heap.push _).size = _; rw [Array.size_push]
    have hP := new_end (c := ⟨W, H, n, e, f, g, h, i⟩) (w := w) (kb := w2.heap.size) (by omega) (unhide HNW2) ((Below.refl _ w2).alloc (Nat.le_refl _) _) (unhide HNW3) (Below.refl _ w3) hE hZ (by omega) (by omega) (by omega)
    exact hP
  · go_wp2
    go_ret2
    have hE := (unhide HB1).trans ((unhide HE3).mono (unhide HB1).size)
    have hZ : (w3.alloc (Obj.cells zc 97)).heap[w3.heap.size]? = some (.cells ((List.replicate n (none : Option Nat)).map pptr).toArray 97) := by rw [unhide HZC]; exact new_at _ _ _ rfl
    have hs1 : w1.drew.heap.size = w1.heap.size := rfl
    have hs2 := (unhide HNW3).2.size
    have hP := new_end (c := ⟨W, H, n, e, f, g, h, i⟩) (w := w) (kb := w3.heap.size) (by omega) (unhide HNW2) (Below.refl _ w2) (unhide HNW3) ((Below.refl _ w3).alloc (Nat.le_refl _) (Obj.cells zc 97)) (hE.alloc hE.size _) hZ (by omega) (by omega) (by omega)
    simpa [scells] using hP
end Go.Proofs.Ytfnockbgkcgpkaa
