import Derived.Test.YtfnockbgkcgpkaaKaav
set_option linter.all false
namespace Go.Proofs.Ytfnockbgkcgpkaa
open Go.RowKit Go.Proofs.Panes
set_option maxRecDepth 100000

/-- The frame's marks are others. -/
theorem Fr.fmarked {C : Nat → Prop} {w w' : World} {b0 : Nat} {f : Frs} {v : Fl} {g : Frm} (h : Fr C w b0 f v) (hg : f.frame = some g) {fm : Value} {ms : List (Int × Int)} (hb : But (fun k => k = v.fb ∨ v.fm.ownBlock = some k) w w')
    (hblk : w'.heap[v.fb]? = some (.cells #[.int .i64 (g.buf : Int), fm, v.fl] 152 (0, 0))) (hrow : Own2 w' 0 95 fm (ms.map k2)) (hmo : fm.ownBlock = v.fm.ownBlock) : Fr C w' b0 { f with frame := some { g with marks := ms } } { v with fm := fm } := by
  obtain ⟨h1, h2, h3, h4, h5, h6⟩ := h.fr g hg
  have hS : ∀ {k : Nat} {cs : Array Value} {t : TypeId} {fz : Nat × Nat}, w.heap[k]? = some (.cells cs t fz) → t ≠ 152 → t ≠ 95 → ¬ (k = v.fb ∨ v.fm.ownBlock = some k) := by
    rintro k cs t fz hk t1 t2 (e | e)
    · rw [e, h1] at hk; simp at hk; exact t1 hk.2.1.symm
    · exact row_kind h4 hk t2 e
  refine ⟨?_, h.cb, ?_, ?_, h.pinj, h.sinj, row_but h.mks hb ?_, h.mc, ?_⟩
  · have := hb.heap h.blk (hS h.blk (by decide) (by decide))
    rw [this]
    simp [frcells, fptr, hg]
  · intro i hi
    obtain ⟨q1, q2, q3⟩ := h.px i hi
    exact ⟨hb.heap q1 (hS q1 (by decide) (by decide)), q2, q3⟩
  · intro i hi
    obtain ⟨q1, q2, q3⟩ := h.st i hi
    exact ⟨hb.heap q1 (hS q1 (by decide) (by decide)), q2, q3⟩
  · rintro k hk (e | e)
    · exact row_kind h.mks h1 (by decide) (by rw [hk, e])
    · exact (h5 k e).2 hk
  · intro g' hg'
    simp only [Option.some.injEq] at hg'
    subst hg'
    refine ⟨hblk, h2, h3, hrow, fun k hk => h5 k (by rw [← hmo]; exact hk), ?_⟩
    obtain ⟨ao, cap, e, q1, q2, q3⟩ := h6
    refine ⟨ao, cap, e, q1, q2, fun hne => ?_⟩
    obtain ⟨b, off, cs, e, hc, hg', hcell⟩ := q3 hne
    have hbl := hb.block b (lt_of_heap hg') (hS hg' (by decide) (by decide))
    exact ⟨b, off, cs, e, hc, hbl.trans hg', fun j k hk => ⟨(World.cell?_of_block hbl).trans (hcell j k hk).1, (World.cell?_of_block hbl).trans (hcell j k hk).2⟩⟩
/-- Marks without those of a client. -/
def notOf (c : Int) (l : List (Int × Int)) : List (Int × Int) := l.filter fun k => !(k.1 == c)
def forgetF (f : Frs) (c : Int) : Frs := { f with marks := notOf c f.marks, frame := f.frame.map fun g => { g with marks := notOf c g.marks } }

set_option maxHeartbeats 4000000 in
theorem Forget_any {C : Nat → Prop} {w : World} {b0 : Nat} {f : Frs} {v : Fl} (h : Fr C w b0 f v) (hCl : ∀ k, C k → k < w.heap.size) (c : Int) (hl : f.marks.length ≤ 1000000000) (hl2 : ∀ g, f.frame = some g → g.marks.length ≤ 1000000000) :
    Calls Try.prog 58 #[.pointer (some ⟨b0, 0, none⟩), .int .i64 c] w fun e w' => (∃ u, e = .returned u) ∧ (∃ v', Fr C w' b0 (forgetF f c) v') ∧ But C w w' := by
  obtain ⟨w1, hw1⟩ : ∃ w1 : World, w1 = w.alloc (.cells #[.int .i64 c] 3) := ⟨_, rfl⟩
  have hB1 : Below w.heap.size w w1 := by rw [hw1]; exact (Below.refl _ w).alloc (Nat.le_refl _) _
  have hK1 : w1.heap[w.heap.size]? = some (.cells #[.int .i64 c] 3) := by rw [hw1]; exact new_at _ _ _ rfl
  have hF1 := h.below hB1
  have hlt : b0 < w.heap.size := hCl _ h.cb
  have hnb : ¬ v.mv.ownBlock = some b0 := row_kind h.mks h.blk (by decide)
  have c16 : w.cell? ⟨b0, 16, none⟩ = some v.mv := blk_cell h.blk 16
  have hD1 := fdelf_any hF1.mks hl (fun k => k.1 == c) w.heap.size (fun W k hb => fgt1_any (hb.heap hK1 (fun e => by have := hCl _ (h.mc _ e); omega)) k) _ rfl
  obtain ⟨ro, rc, hov⟩ := row_slice h.mks
  obtain ⟨n, hn⟩ : ∃ n, n = (f.marks.map k2).length := ⟨_, rfl⟩
  rw [← hn] at hov
  rw [hov] at hD1 c16
  have HD1 := hide hD1
  have HW1 := hide hw1
  have HF1 := hide hF1
  have HB1 := hide hB1
  have HK1 := hide hK1
  have HOV := hide hov
  have HC := hide h.cb
  have HMC := hide h.mc
  have HNB := hide hnb
  have HL2 := hide hl2
  have HEnd1 : Hid (∀ w2 r2 m2 q2, Own2 w2 0 95 (.slice r2 m2 q2) ((notOf c f.marks).map k2) → (Value.slice r2 m2 q2).ownBlock = v.mv.ownBlock → But (fun x => v.mv.ownBlock = some x) w1 w2 → Fr C (w2.setCell ⟨b0, 16, none⟩ (.slice r2 m2 q2)) b0 { f with marks := notOf c f.marks } { v with mv := .slice r2 m2 q2 } ∧ But C w (w2.setCell ⟨b0, 16, none⟩ (.slice r2 m2 q2))) := fun w2 r2 m2 q2 hO2 hv2 hb2 => by
    have hS2 := hb2.heap hF1.blk hnb
    have hb : But (fun k => k = b0 ∨ v.mv.ownBlock = some k) w1 (w2.setCell ⟨b0, 16, none⟩ (.slice r2 m2 q2)) := (hb2.wide (fun k _ e => .inr e)).setCell (p := ⟨b0, 16, none⟩) (.inl (.inl rfl)) _
    refine ⟨hF1.marked (fun _ h => h) hb (blk_set (i := 16) hS2 _) (row_but hO2 ((But.refl (fun k => k = b0) w2).setCell (p := ⟨b0, 16, none⟩) (.inl rfl) _) (fun k hk e => hnb (by rw [← hv2, hk, e]))) (fun k hk => h.mc k (by rw [← hv2]; exact hk)) (fun g hg k hk e => (((h.fr g hg).2.2.2.2.1) k hk).2 (by rw [← hv2]; exact e)), ((But.of_below hB1).trans hb).wide ?_⟩
    rintro k _ (e | e)
    · rw [e]; exact h.cb
    · exact h.mc k e
  cases hfr : f.frame with
  | none =>
    have ef : forgetF f c = { f with marks := notOf c f.marks } := by
      have e : f.frame.map (fun g => { g with marks := notOf c g.marks }) = f.frame := by rw [hfr]; rfl
      unfold forgetF
      rw [e]
    rw [ef]
    have hfp : fptr f v = .pointer none := by simp [fptr, hfr]
    have HFP := hide hfp
    clear h hD1 hw1 hF1 hB1 hK1 hov hn hnb hl hl2 hfp ef
    go_enter Try.func58, Try.ntmps58
    go_wp2_with (go_at_call 89; rw [← unhide HW1]; refine (unhide HD1).mono ?_; rintro e w2 ⟨⟨v2, rfl, hO2, hv2⟩, hb2⟩; obtain ⟨r2, q2, hv'⟩ := row_slice hO2; obtain ⟨m2, hm2⟩ : ∃ m2, m2 = (List.map k2 (List.filter (fun k => !(k.1 == c)) f.marks)).length := ⟨_, rfl⟩; rw [← hm2] at hv'; subst hv'; rw [← unhide HOV] at hv2 hb2; have hS2 : w2.heap[b0]? = some (.cells (frcells f v) 139 (0, 0)) := hb2.heap (unhide HF1).blk (unhide HNB); have p16 : w2.cell? ⟨b0, 16, none⟩ = some v.mv := blk_cell hS2 16; rw [unhide HOV] at p16; have pf : ∀ j, w2.frozen? ⟨b0, j, none⟩ = false := fun j => blk_thaw hS2 j; have p14 : w2.cell? ⟨b0, 14, none⟩ = some (fptr f v) := blk_cell hS2 14; rw [unhide HFP] at p14; have HE := hide ((unhide HEnd1) w2 r2 m2 q2 hO2 hv2 hb2); clear hO2 hv2 hS2 hb2 hm2)
    go_end0
    exact ⟨⟨_, rfl⟩, ⟨_, (unhide HE).1⟩, (unhide HE).2⟩
  | some g =>
    have ef : forgetF f c = { f with marks := notOf c f.marks, frame := some { g with marks := notOf c g.marks } } := by unfold forgetF; rw [hfr]; rfl
    rw [ef]
    have hfp : fptr f v = .pointer (some ⟨v.fb, 0, none⟩) := by simp [fptr, hfr]
    have HFP := hide hfp
    have HFR := hide hfr
    have hfbC := (h.fr g hfr).2.1
    have hfb0 : ¬ v.fb = b0 := fun e => by have := (h.fr g hfr).1; rw [e, h.blk] at this; simp at this
    obtain ⟨rf, cf, hof⟩ := row_slice (h.fr g hfr).2.2.2.1
    obtain ⟨nf, hnf⟩ : ∃ nf, nf = (g.marks.map k2).length := ⟨_, rfl⟩
    rw [← hnf] at hof
    have HOF := hide hof
    have HD2 : Hid (∀ w3 v3, Fr C w3 b0 { f with marks := notOf c f.marks } v3 → v3.fm = v.fm → w3.heap[w.heap.size]? = some (.cells #[.int .i64 c] 3) → Calls Try.prog 89 #[.slice rf nf cf, .func (.func 88) #[] #[.pointer (some ⟨w.heap.size, 0, none⟩)]] w3.drew fun e w' => (∃ v', e = .returned v' ∧ Own2 w' 0 95 v' ((notOf c g.marks).map k2) ∧ v'.ownBlock = v3.fm.ownBlock) ∧ But (fun x => v3.fm.ownBlock = some x) w3.drew w') := fun w3 v3 hF3 hfm hK3 => by
      have hm := (hF3.fr g hfr).2.2.2.1
      have hc5 := (hF3.fr g hfr).2.2.2.2.1
      have := fdelf_any (w := w3.drew) hm (hl2 g hfr) (fun k => k.1 == c) w.heap.size (fun W k hb => fgt1_any (hb.heap (w := w3.drew) hK3 (fun e => by have := hCl _ (hc5 _ e).1; omega)) k) _ rfl
      rw [hfm, hof] at this
      rw [hfm, hof]
      exact this
    have hlfb : v.fb < w.heap.size := hCl _ hfbC
    clear h hD1 hw1 hF1 hB1 hov hn hnb hl hl2 hfp ef hof hnf
    go_enter Try.func58, Try.ntmps58
    go_wp2_with (go_at_call 89; rw [← unhide HW1]; refine (unhide HD1).mono ?_; rintro e w2 ⟨⟨v2, rfl, hO2, hv2⟩, hb2⟩; obtain ⟨r2, q2, hv'⟩ := row_slice hO2; obtain ⟨m2, hm2⟩ : ∃ m2, m2 = (List.map k2 (List.filter (fun k => !(k.1 == c)) f.marks)).length := ⟨_, rfl⟩; rw [← hm2] at hv'; subst hv'; rw [← unhide HOV] at hv2 hb2; have hS2 : w2.heap[b0]? = some (.cells (frcells f v) 139 (0, 0)) := hb2.heap (unhide HF1).blk (unhide HNB); have p16 : w2.cell? ⟨b0, 16, none⟩ = some v.mv := blk_cell hS2 16; rw [unhide HOV] at p16; have pf : ∀ j, w2.frozen? ⟨b0, j, none⟩ = false := fun j => blk_thaw hS2 j; have p14 : w2.cell? ⟨b0, 14, none⟩ = some (fptr f v) := blk_cell hS2 14; rw [unhide HFP] at p14; have HE := hide ((unhide HEnd1) w2 r2 m2 q2 hO2 hv2 hb2); have hK2 : w2.heap[w.heap.size]? = some (.cells #[.int .i64 c] 3) := hb2.heap (unhide HK1) (fun e => by have := hCl _ ((unhide HMC) _ e); omega); have HK2 := hide hK2; clear hO2 hv2 hS2 hb2 hm2 hK2)
    obtain ⟨w3, hw3⟩ : ∃ w3, w3 = w2.setCell ⟨b0, 16, none⟩ (.slice r2 m2 q2) := ⟨_, rfl⟩
    rw [← hw3]
    have hE := unhide HE
    rw [← hw3] at hE
    have hK3 : w3.heap[w.heap.size]? = some (.cells #[.int .i64 c] 3) := by rw [hw3]; exact blk_other (unhide HK2) (by show w.heap.size ≠ b0; omega) _
    have hfb3 := (hE.1.fr g (unhide HFR)).1
    have t14 : w3.cell? ⟨b0, 14, none⟩ = some (.pointer (some ⟨v.fb, 0, none⟩)) := by
      have := blk_cell hE.1.blk 14
      rw [this]; simp [frcells, fptr, unhide HFR]
    have t1 : w3.cell? ⟨v.fb, 1, none⟩ = some v.fm := blk_cell hfb3 1
    rw [unhide HOF] at t1
    have HD3 := hide ((unhide HD2) w3 _ hE.1 rfl hK3)
    have HF3 := hide hE.1
    have HB3 := hide hE.2
    clear hE HE hK3 hfb3 hw3 p16 p14 pf
    go_region_with
      ((go_at_call 89
        refine (unhide HD3).mono ?_
        rintro e w4 ⟨⟨v4, rfl, hO4, hv4⟩, hb4⟩
        obtain ⟨r4, q4, hv'⟩ := row_slice hO4
        obtain ⟨m4, hm4⟩ : ∃ m4, m4 = (List.map k2 (notOf c g.marks)).length := ⟨_, rfl⟩
        rw [← hm4] at hv'
        clear hm4
        subst hv'
        have hfrm := (unhide HF3).fr g (unhide HFR)
        have hb4' : But (fun x => v.fm.ownBlock = some x) w3 w4 := (But.refl _ w3).drew.trans hb4
        have hnf : ¬ v.fm.ownBlock = some v.fb := row_kind hfrm.2.2.2.1 hfrm.1 (by decide)
        have hnb0 : ¬ v.fm.ownBlock = some b0 := row_kind hfrm.2.2.2.1 (unhide HF3).blk (by decide)
        have hfb4 : w4.heap[v.fb]? = some (.cells #[.int .i64 (g.buf : Int), v.fm, v.fl] 152 (0, 0)) := hb4'.heap hfrm.1 hnf
        have u14 : w4.cell? ⟨b0, 14, none⟩ = some (.pointer (some ⟨v.fb, 0, none⟩)) := (World.cell?_of_block (hb4'.block b0 (lt_of_heap (unhide HF3).blk) hnb0)).trans t14
        have u1 : w4.cell? ⟨v.fb, 1, none⟩ = some v.fm := blk_cell hfb4 1
        rw [unhide HOF] at u1
        have uf : ∀ j, w4.frozen? ⟨v.fb, j, none⟩ = false := fun j => blk_thaw hfb4 j
        have u14' : (w4.setCell ⟨v.fb, 1, none⟩ (.slice r4 m4 q4)).cell? ⟨b0, 14, none⟩ = some (.pointer (some ⟨v.fb, 0, none⟩)) := by
          have hbk := hb4'.heap (unhide HF3).blk hnb0
          have hbk' := blk_other hbk (p := ⟨v.fb, 1, none⟩) (fun e => hfb0 e.symm) (.slice r4 m4 q4)
          rw [blk_cell hbk', ← blk_cell hbk]; exact u14
        have hE4 : Fr C (w4.setCell ⟨v.fb, 1, none⟩ (.slice r4 m4 q4)) b0 { f with marks := notOf c f.marks, frame := some { g with marks := notOf c g.marks } } { { v with mv := .slice r2 m2 q2 } with fm := .slice r4 m4 q4 } := by
          have hb5 : But (fun k => k = v.fb ∨ v.fm.ownBlock = some k) w3 (w4.setCell ⟨v.fb, 1, none⟩ (.slice r4 m4 q4)) := (hb4'.wide (fun k _ e => .inr e)).setCell (p := ⟨v.fb, 1, none⟩) (.inl (.inl rfl)) _
          exact (unhide HF3).fmarked (g := g) (unhide HFR) hb5 (blk_set (i := 1) hfb4 _) (row_but hO4 ((But.refl (fun k => k = v.fb) w4).setCell (p := ⟨v.fb, 1, none⟩) (.inl rfl) _) (fun k hk e => hnf (by rw [← hv4, hk, e]))) hv4
        have hB5 : But C w (w4.setCell ⟨v.fb, 1, none⟩ (.slice r4 m4 q4)) := ((unhide HB3).trans (hb4'.wide (fun k _ e => (hfrm.2.2.2.2.1 k e).1))).setCell (p := ⟨v.fb, 1, none⟩) (.inl hfbC) _
        have HE4 := hide hE4
        have HB5 := hide hB5
        clear hO4 hv4 hb4 hfrm hb4' hnf hnb0 hfb4 hE4 hB5))
    all_goals
      (try simp only [Exit.then])
      (try go_simp)
      (try go_wp2)
      go_end0
      exact ⟨⟨_, rfl⟩, ⟨_, unhide HE4⟩, unhide HB5⟩
end Go.Proofs.Ytfnockbgkcgpkaa
