import Derived.Test.YtfnockbgkcgpkaaKabj
set_option linter.all false
namespace Go.Proofs.Ytfnockbgkcgpkaa
open Go.RowKit Go.Proofs.Panes
set_option maxRecDepth 100000
section
variable {a o : Nat → Nat} {w : World} {sp xp kb sb fb : Nat} {cps : List (Option Nat)} {s : Scrn} {F : ShF} {L : ShL} {b : Nat} {marks' : List Ask}

set_option maxHeartbeats 20000000 in
theorem ktick_pos (hB : ShB a w sp xp F L) (hM : ScrM o w xp kb sb fb cps s) (hap : ∀ x, a x ≠ 0 → o x = 0) (hI : TickIn s F b marks') (hb0 : (0 : Int) < (b : Int)) :
    Calls Try.prog 27 #[.pointer (some ⟨sp, 0, none⟩), .int .i64 (b : Int)] w fun e w' => (∃ u, e = .returned u) ∧ KtPostT a o w sp xp kb sb fb s F b marks' w' := by
  have c0 : w.cell? ⟨sp, 0, none⟩ = some (.pointer (some ⟨xp, 0, none⟩)) := blk_cell hB.blk 0
  have hb9 := hI.bb
  have hTk := Tick_any hM hI.fine b (by omega)
  have HT : Hid (Calls Try.prog 30 #[.pointer (some ⟨xp, 0, none⟩), .int .i64 (b : Int)] w fun e w1 => ∃ (o' : Nat → Nat) (av fv : Value), e = .returned (.tuple #[.agg #[.int .i64 (s.t + 1), .int .i64 (flipF s.f).2.1, .int .i64 (tickP s b : Int), av, fv], .int .i64 0]) ∧ TS0 a o o' w w1 sp xp kb sb fb cps (tickS s b) F L av fv (tickC s) (flipF s.f).2.2) := hTk.mono (fun e w1 h => ts_start hB hap h)
  have hpd := hI.paid
  have htk := hI.ticks
  have htf := hI.fine.t
  have e1 : IntKind.i64.wrap (F.ticks + 1) = s.t + 1 := by rw [htk, IntKind.wrap_i64]; omega
  have e2 : IntKind.i64.wrap (F.paid + 1) = F.paid + 1 := by rw [IntKind.wrap_i64]; omega
  obtain ⟨t, ht⟩ : ∃ t, t = s.t + 1 := ⟨_, rfl⟩
  obtain ⟨fl, hfl⟩ : ∃ fl, fl = (flipF s.f).2.1 := ⟨_, rfl⟩
  obtain ⟨pa, hpa⟩ : ∃ pa, pa = tickP s b := ⟨_, rfl⟩
  rw [← ht, ← hfl, ← hpa] at HT
  rw [← ht] at e1
  have HI := hide hI
  have HTT := hide ht
  have HFL := hide hfl
  have HPA := hide hpa
  clear hB hM hTk hI ht hfl hpa htk htf
  go_enter Try.func27, Try.ntmps27
  have HBZ : Hid (¬ b = 0) := by show ¬ b = 0; omega
  go_wp2_with (go_at_call 30; refine (unhide HT).mono ?_; rintro e w1 ⟨o', av, fv, rfl, hTS⟩
               obtain ⟨aa, ac, hav⟩ := row_slice hTS.ad
               obtain ⟨fa, fc, hfv⟩ := row_slice hTS.fi
               obtain ⟨an, han⟩ : ∃ an, an = (tickC s).length := ⟨_, rfl⟩
               obtain ⟨fn, hfn⟩ : ∃ fn, fn = ((flipF s.f).2.2.map k2).length := ⟨_, rfl⟩
               rw [← han] at hav
               rw [← hfn] at hfv
               subst hav hfv
               have x13 : w1.cell? ⟨sp, 13, none⟩ = some (.int .i64 F.paid) := blk_cell hTS.sh.blk 13
               have x14 : w1.cell? ⟨sp, 14, none⟩ = some (.int .i64 F.ticks) := blk_cell hTS.sh.blk 14
               have x17 : w1.cell? ⟨sp, 17, none⟩ = some (.int .i64 F.rt) := blk_cell hTS.sh.blk 17
               have x18 : w1.cell? ⟨sp, 18, none⟩ = some (.int .i64 F.rf) := blk_cell hTS.sh.blk 18
               have x19 : w1.cell? ⟨sp, 19, none⟩ = some (.int .i64 F.rp) := blk_cell hTS.sh.blk 19
               have x20 : w1.cell? ⟨sp, 20, none⟩ = some L.av := blk_cell hTS.sh.blk 20
               have x21 : w1.cell? ⟨sp, 21, none⟩ = some L.fv := blk_cell hTS.sh.blk 21
               have xz : ∀ t, w1.frozen? ⟨sp, t, none⟩ = false := fun t => blk_thaw hTS.sh.blk t
               have lsp : sp < w1.heap.size := lt_of_heap hTS.sh.blk
               have HAN := hide han
               have HFN := hide hfn
               have hTR := ts_report' (s := s) (b := b) hTS (unhide HBZ)
               rw [← unhide HTT, ← unhide HFL, ← unhide HPA] at hTR
               have hTR2 := hTR.alloc #[.int .i64 t, .int .i64 fl, .int .i64 (pa : Int), .slice aa an ac, .slice fa fn fc] (rb := w1.heap.size) (by simp [World.setCell])
               have HTS := hide hTR2
               clear hTS han hfn hTR hTR2)
  have hTS := unhide HTS
  clear HTS HT c0 x13 x14 x17 x18 x19 x20 x21 xz lsp
  obtain ⟨rb, hrb⟩ : ∃ rb, rb = w1.heap.size := ⟨_, rfl⟩
  rw [← hrb] at hTS
  rw [← hrb]
  generalize (((((((w1.setCell ⟨sp, 14, none⟩ (.int .i64 t)).setCell ⟨sp, 13, none⟩ (.int .i64 (F.paid + 1))).setCell ⟨sp, 17, none⟩ (.int .i64 t)).setCell ⟨sp, 18, none⟩ (.int .i64 fl)).setCell ⟨sp, 19, none⟩ (.int .i64 (pa : Int))).setCell ⟨sp, 20, none⟩ (.slice aa an ac)).setCell ⟨sp, 21, none⟩ (.slice fa fn fc)).alloc (.cells #[.int .i64 t, .int .i64 fl, .int .i64 (pa : Int), .slice aa an ac, .slice fa fn fc] 55) = W at *
  clear hrb
  first | simp only [show decide ((0 : Int) < (b : Int)) = true from by simp; omega] | skip
  first | simp only [show decide (0 < b) = true from by simp; omega] | skip
  have r0 : W.cell? ⟨rb, 0, none⟩ = some (.int .i64 t) := blk_cell hTS.rep 0
  have r1 : W.cell? ⟨rb, 1, none⟩ = some (.int .i64 fl) := blk_cell hTS.rep 1
  have r2 : W.cell? ⟨rb, 2, none⟩ = some (.int .i64 (pa : Int)) := blk_cell hTS.rep 2
  have r3 : W.cell? ⟨rb, 3, none⟩ = some (.slice aa an ac) := blk_cell hTS.rep 3
  have y14 : W.cell? ⟨sp, 14, none⟩ = some (.int .i64 t) := by have := blk_cell hTS.sh.blk 14; rw [unhide HTT]; exact this
  obtain ⟨n, hnn⟩ : ∃ n, n = s.ks.length := ⟨_, rfl⟩
  have hcl : F.c.clients = (n : Int) := by rw [(unhide HI).c, (unhide HI).cl, hnn]
  have hann : an = n := by rw [unhide HAN, hnn]; simp [tickC]
  have y3 : W.cell? ⟨sp, 3, none⟩ = some (.int .i64 (n : Int)) := by rw [← hcl]; exact blk_cell hTS.sh.blk 3
  have y16 : W.cell? ⟨sp, 16, none⟩ = some (.int .i64 F.flips) := blk_cell hTS.sh.blk 16
  have yz : ∀ t, W.frozen? ⟨sp, t, none⟩ = false := fun t => blk_thaw hTS.sh.blk t
  have hflb : fl = 0 ∨ fl = 1 := by rcases (unhide HI).fl with h | h <;> rw [unhide HFL] <;> omega
  have hpab : pa ≤ b := by rw [unhide HPA]; exact (unhide HI).pn
  subst hann
  have d0 : (t != t) = false := by simp
  have d1 : decide ((pa : Int) < 0) = false := by simp
  have d2 : decide (b < pa) = false := by simp; omega
  have d3 : ((an : Int) != (an : Int)) = false := by simp
  have d4 : decide (fl < 0) = false := by simp; omega
  have d5 : decide ((1 : Int) < fl) = false := by simp; omega
  have hfp := (unhide HI).flips
  have e3 : IntKind.i64.wrap (F.flips + fl) = F.flips + fl := by rw [IntKind.wrap_i64]; omega
  have hn4 : an ≤ 4 := by rw [hnn]; exact (unhide HI).n4
  have hfl0 : fl = 0 → fn = 0 := fun e => by
    rw [unhide HFN]
    rcases (unhide HI).fl with h | h
    · rw [h.2]; rfl
    · rw [unhide HFL, h] at e; omega
  have HTL : Hid (∀ q, TL a o o' w ((W.drewN q).setCell ⟨sp, 16, none⟩ (.int .i64 (F.flips + fl))) sp xp kb sb fb cps s F b rb (.slice aa an ac) (.slice fa fn fc) 0 F.had) := fun q => by
    have hTT := hTS.drewN q
    rw [unhide HTT, unhide HFL, unhide HPA] at hTT
    rw [unhide HFL]; exact tl_start hTT (unhide HI)
  have HNN := hide hnn
  clear hTS hnn hcl hfp hpab hflb
  go_quiet (fail)
  go_wp2
  go_region
  go_wp2
  go_loopw [6] (fun i wr => ∃ j : Nat, j ≤ an ∧ i = .int .i64 j ∧ TL a o o' w wr sp xp kb sb fb cps s F b rb (.slice aa an ac) (.slice fa fn fc) j (hadI s.c.quantum s.ks F.had j)) (fun i _ => an - (intOf i).toNat)
  case atStart => exact ⟨0, Nat.zero_le _, rfl, by rw [hadI_zero]; exact (unhide HTL) _⟩
  case round =>
    clear HTL r0 r1 r2 r3 y3 y14 y16 yz d0 d1 d2 d3 d4 d5 e1 e2 e3
    rename_i wq
    obtain ⟨j, hj, rfl, hL⟩ := hrel
    obtain ⟨r3, y3⟩ := hL.rep (unhide HI) (unhide HNN)
    by_cases hlt : j < an
    · obtain ⟨k, hk⟩ : ∃ k, s.ks[j]? = some k := ⟨s.ks[j]'(by have := unhide HNN; omega), by simp⟩
      obtain ⟨h0, hh0⟩ : ∃ h0, F.had[j]? = some h0 := ⟨F.had[j]'(by have := (unhide HI).hl; have := unhide HNN; omega), by simp⟩
      have hha : (hadI s.c.quantum s.ks F.had j)[j]? = some h0 := hadI_at hh0
      obtain ⟨g, gc, hb, hc, ab, ac', wo, wc, ⟨c10, c11, eav, cg, ch, ca, zg, zh⟩, hset, hoff, hcut⟩ := hL.facts (unhide HI) (unhide HNN) hk hha (by rw [hadI_len, (unhide HI).hl, ← unhide HNN])
      simp only [Value.slice.injEq, true_and] at eav
      obtain ⟨rfl, rfl⟩ := eav
      have cb := (unhide HI).cb k (List.mem_of_getElem? hk)
      have hcn := (cntN_eq s.c.quantum k).2.1
      have hps := (unhide HI).pos k (List.mem_of_getElem? hk)
      have hbh := (unhide HI).hb h0 (List.mem_of_getElem? hh0)
      obtain ⟨wl, hwl⟩ : ∃ wl, wl = (costsK k).length := ⟨_, rfl⟩
      obtain ⟨cn, hcc⟩ : ∃ cn, cn = cntN s.c.quantum k := ⟨_, rfl⟩
      have hwl9 : wl ≤ 1000 := by rw [hwl]; exact cb.1
      have hcw : cn ≤ wl := by rw [hwl, hcc]; exact hcn
      have hcp : wl = 0 ∨ 1 ≤ cn := by
        rcases Nat.eq_zero_or_pos wl with e | e
        · exact .inl e
        · exact .inr (by rw [hcc]; exact hps (fun e2 => by rw [hwl, e2] at e; simp at e))
      rw [← hwl] at cg
      rw [← hcc] at ca
      have q1 : decide ((cn : Int) < 0) = false := by simp
      have q2 : decide (wl < cn) = false := by simp; omega
      have i0 : (0 : Int) ≤ (j : Int) := by omega
      have i1 : (j : Int) < (an : Int) := by omega
      have HL := hide hL
      have HK := hide hk
      have HH0 := hide hh0
      have HCB := hide cb
      have HBH := hide hbh
      have HWL := hide hwl
      have HCC := hide hcc
      clear hL hk hh0 hha hset hoff hcut cb hcn hps hbh hwl hcc
      by_cases hw0 : wl = 0
      · have q3 : decide (0 < wl) = false := by simp; omega
        have q3' : decide ((0 : Int) < (wl : Int)) = false := by simp; omega
        have HC0 : Hid (cn = 0) := by show cn = 0; omega
        clear hcp hw0
        go_wp2
        go_quiet (fail)
        go_wp2
        go_loopw [7] (fun i wr => ∃ m : Nat, m ≤ cn ∧ i = .int .i64 m ∧ TL a o o' w wr sp xp kb sb fb cps s F b rb (.slice (some ⟨ab, 0, none⟩) an ac) (.slice fa fn fc) j (hadM s F j k h0 m)) (fun i _ => cn - (intOf i).toNat)
        case atStart => exact ⟨0, Nat.zero_le _, rfl, by rw [hadM_zero (unhide HH0)]; first | exact (unhide HL).drewN _ | exact (unhide HL).below ((Below.refl _ _).drew) | exact unhide HL⟩
        case round =>
          clear c10 c11 cg ch ca zg zh r3 y3 HL
          rename_i wr
          obtain ⟨m, hm, rfl, hL2⟩ := hrel
          obtain ⟨r3, y3⟩ := hL2.rep (unhide HI) (unhide HNN)
          obtain ⟨hs, hhs⟩ : ∃ hs, hs = h0 + ((costsK k).take m).sum := ⟨_, rfl⟩
          obtain ⟨g2, gc2, hb2, hc2, ab2, ac2, wo2, wc2, ⟨c10, c11, eav2, cg, ch, ca, zg, zh⟩, hset, hoff, hcut⟩ := hL2.facts (unhide HI) (unhide HNN) (unhide HK) (by rw [hadM_at (unhide HH0), ← hhs]) (by rw [hadM_len, (unhide HI).hl, ← unhide HNN])
          simp only [Value.slice.injEq, Option.some.injEq, Addr.mk.injEq, true_and, and_true] at eav2
          obtain ⟨rfl, rfl⟩ := eav2
          rw [← unhide HWL] at cg hoff
          rw [← unhide HCC] at ca hcut
          by_cases hmc : m < cn
          · exact absurd hmc (by have := unhide HC0; omega)
          · have em : m = cn := by omega
            subst em
            have ehd : hadM s F j k h0 m = hadI s.c.quantum s.ks F.had (j + 1) := by rw [unhide HCC]; exact hadM_last (unhide HK) (unhide HH0)
            rw [ehd] at hcut
            have m1 : ¬ (m : Int) < (m : Int) := by omega
            have m2 : (m : Int) ≤ (wl : Int) := by omega
            have m0 : (0 : Int) ≤ (m : Int) := by omega
            rcases hoff with ⟨e1, e2⟩ | ⟨wg, woff, cap, cs, ew, ew2⟩
            · simp only [Value.slice.injEq] at e1
              obtain ⟨rfl, ewl, rfl⟩ := e1
              have em0 : m = 0 := by omega
              have HSET : Hid (∀ q, TL a o o' w ((wr.drewN q).setCell ⟨g2, j, none⟩ (.slice none 0 0)) sp xp kb sb fb cps s F b rb (.slice (some ⟨ab, 0, none⟩) an ac) (.slice fa fn fc) (j + 1) (hadI s.c.quantum s.ks F.had (j + 1))) := fun q => hcut q _ (.inl ⟨rfl, by rw [e2]; simp⟩)
              clear hL2 hset hcut ehd e2
              subst em0 ewl
              go_wp2
              go_region
              go_wp2
              go_roundw
              case rel => exact ⟨j + 1, by omega, by go_num, ((unhide HSET) 0).below ((Below.refl _ _).drew)⟩
              case measure => simp [intOf]; omega
            · simp only [Value.slice.injEq] at ew
              obtain ⟨rfl, -, rfl⟩ := ew
              have hwc : wl ≤ wc2 := by rw [unhide HWL]; exact ew2.2.2.1
              have hwc2 : wc2 ≤ maxLen := ew2.2.2.2.1
              have HSET : Hid (∀ q, TL a o o' w ((wr.drewN q).setCell ⟨g2, j, none⟩ (.slice (if wc2 = m then some ⟨wg, woff, none⟩ else some ⟨wg, woff + m, none⟩) (wl - m) (wc2 - m))) sp xp kb sb fb cps s F b rb (.slice (some ⟨ab, 0, none⟩) an ac) (.slice fa fn fc) (j + 1) (hadI s.c.quantum s.ks F.had (j + 1))) := fun q => hcut q _ (by rw [unhide HWL]; exact OffN.cut (.inr ⟨wg, woff, wc2, cs, rfl, ew2⟩) m (by rw [← unhide HWL]; omega))
              clear hL2 hset hcut ehd ew2
              go_wp2
              go_region
              go_wp2
              go_roundw
              case rel =>
                exact ⟨j + 1, by omega, by go_num, ((unhide HSET) 0).below ((Below.refl _ _).drew)⟩
              case measure => simp [intOf]; omega
      · have q3 : decide (0 < wl) = true := by simp; omega
        have q3' : decide ((0 : Int) < (wl : Int)) = true := by simp; omega
        have q4 : decide (cn = 0) = false := by simp; omega
        have q4' : ((cn : Int) == 0) = false := by simp; omega
        have q4'' : decide ((cn : Int) = 0) = false := by simp; omega
        have HW0 : Hid (0 < wl) := by show 0 < wl; omega
        clear hcp hw0
        go_wp2
        go_quiet (fail)
        go_wp2
        go_loopw [7] (fun i wr => ∃ m : Nat, m ≤ cn ∧ i = .int .i64 m ∧ TL a o o' w wr sp xp kb sb fb cps s F b rb (.slice (some ⟨ab, 0, none⟩) an ac) (.slice fa fn fc) j (hadM s F j k h0 m)) (fun i _ => cn - (intOf i).toNat)
        case atStart => exact ⟨0, Nat.zero_le _, rfl, by rw [hadM_zero (unhide HH0)]; first | exact (unhide HL).drewN _ | exact (unhide HL).below ((Below.refl _ _).drew) | exact unhide HL⟩
        case round =>
          clear c10 c11 cg ch ca zg zh r3 y3 HL
          rename_i wr
          obtain ⟨m, hm, rfl, hL2⟩ := hrel
          obtain ⟨r3, y3⟩ := hL2.rep (unhide HI) (unhide HNN)
          obtain ⟨hs, hhs⟩ : ∃ hs, hs = h0 + ((costsK k).take m).sum := ⟨_, rfl⟩
          obtain ⟨g2, gc2, hb2, hc2, ab2, ac2, wo2, wc2, ⟨c10, c11, eav2, cg, ch, ca, zg, zh⟩, hset, hoff, hcut⟩ := hL2.facts (unhide HI) (unhide HNN) (unhide HK) (by rw [hadM_at (unhide HH0), ← hhs]) (by rw [hadM_len, (unhide HI).hl, ← unhide HNN])
          simp only [Value.slice.injEq, Option.some.injEq, Addr.mk.injEq, true_and, and_true] at eav2
          obtain ⟨rfl, rfl⟩ := eav2
          rw [← unhide HWL] at cg hoff
          rw [← unhide HCC] at ca hcut
          by_cases hmc : m < cn
          · obtain ⟨x, hx⟩ : ∃ x, (costsK k)[m]? = some x := ⟨(costsK k)[m]'(by have := unhide HWL; omega), by simp⟩
            rcases hoff with ⟨e1, e2⟩ | ⟨wg, woff, cap, cs, ew, -, eb, -, -, -, ec⟩
            · rw [e2] at hx; simp at hx
            · simp only [Value.slice.injEq] at ew
              obtain ⟨rfl, -, rfl⟩ := ew
              have cx : wr.cell? ⟨wg, woff + m, none⟩ = some (.int .i64 x) := (blk_cell eb (woff + m)).trans (ec m x hx)
              have hxb := (unhide HCB).2 x (List.mem_of_getElem? hx)
              have hsb := sum_bound ((costsK k).take m) (fun y hy => (unhide HCB).2 y (List.mem_of_mem_take hy))
              have hsl : (((costsK k).take m).length : Int) ≤ 1000 := by rw [List.length_take]; have := unhide HWL; omega
              have hbh := unhide HBH
              have e5 : IntKind.i64.wrap (hs + x) = hs + x := by rw [IntKind.wrap_i64]; omega
              have m0 : (0 : Int) ≤ (m : Int) := by omega
              have m1 : (m : Int) < (cn : Int) := by omega
              have m2 : (m : Int) < (wl : Int) := by omega
              have HSET : Hid (∀ q, TL a o o' w ((wr.drewN q).setCell ⟨hb2, j, none⟩ (.int .i64 (hs + x))) sp xp kb sb fb cps s F b rb (.slice (some ⟨ab, 0, none⟩) an ac) (.slice fa fn fc) j (hadM s F j k h0 (m + 1))) := fun q => by
                have := hset q (hs + x)
                rw [hhs, hadM_succ hx] at this
                rw [hhs]; exact this
              clear hL2 hset hcut hx eb ec hxb hsb hsl hbh hhs
              go_wp2
              go_region
              go_wp2
              go_roundw
              case rel => exact ⟨m + 1, by omega, by go_num, (unhide HSET) _⟩
              case measure => simp [intOf]; omega
          · have em : m = cn := by omega
            subst em
            have ehd : hadM s F j k h0 m = hadI s.c.quantum s.ks F.had (j + 1) := by rw [unhide HCC]; exact hadM_last (unhide HK) (unhide HH0)
            rw [ehd] at hcut
            have m1 : ¬ (m : Int) < (m : Int) := by omega
            have m2 : (m : Int) ≤ (wl : Int) := by omega
            have m0 : (0 : Int) ≤ (m : Int) := by omega
            rcases hoff with ⟨e1, e2⟩ | ⟨wg, woff, cap, cs, ew, ew2⟩
            · exact absurd (show (costsK k).length = 0 by rw [e2]; rfl) (by have := unhide HWL; have := unhide HW0; omega)
            · simp only [Value.slice.injEq] at ew
              obtain ⟨rfl, -, rfl⟩ := ew
              have hwc : wl ≤ wc2 := by rw [unhide HWL]; exact ew2.2.2.1
              have hwc2 : wc2 ≤ maxLen := ew2.2.2.2.1
              have HSET : Hid (∀ q, TL a o o' w ((wr.drewN q).setCell ⟨g2, j, none⟩ (.slice (if wc2 = m then some ⟨wg, woff, none⟩ else some ⟨wg, woff + m, none⟩) (wl - m) (wc2 - m))) sp xp kb sb fb cps s F b rb (.slice (some ⟨ab, 0, none⟩) an ac) (.slice fa fn fc) (j + 1) (hadI s.c.quantum s.ks F.had (j + 1))) := fun q => hcut q _ (by rw [unhide HWL]; exact OffN.cut (.inr ⟨wg, woff, wc2, cs, rfl, ew2⟩) m (by rw [← unhide HWL]; omega))
              clear hL2 hset hcut ehd ew2
              go_wp2
              go_region
              go_wp2
              go_roundw
              case rel =>
                exact ⟨j + 1, by omega, by go_num, ((unhide HSET) 0).below ((Below.refl _ _).drew)⟩
              case measure => simp [intOf]; omega
    · have ej : j = s.ks.length := by have := unhide HNN; omega
      have i1 : ¬ (j : Int) < (an : Int) := by omega
      have hTF : TF a o o' w wr sp xp kb sb fb cps s F b rb (.slice aa an ac) (.slice fa fn fc) F.marks := by rw [ej] at hL; exact hL.fires
      obtain ⟨r4, r1⟩ := hTF.rep
      rw [← unhide HFL] at r1
      have HTF := hide hTF
      have hfn9 : fn ≤ 1000000000 := by have := unhide HFN; rw [List.length_map] at this; rw [this]; exact (unhide HI).fml
      clear hL hTF ej
      by_cases hf0 : fn = 0
      · have q1 : decide (0 < fn) = false := by simp; omega
        have q1' : ¬ 0 < fn := by omega
        clear hf0
        go_wp2
        go_loopw [8] (fun i wr => ∃ q : Nat, q ≤ fn ∧ i = .int .i64 q ∧ ∃ ms, fireL F.marks ((flipF s.f).2.2.take q) = some ms ∧ TF a o o' w wr sp xp kb sb fb cps s F b rb (.slice aa an ac) (.slice fa fn fc) ms) (fun i _ => fn - (intOf i).toNat)
        case atStart => exact ⟨0, Nat.zero_le _, rfl, F.marks, rfl, unhide HTF⟩
        case round =>
          clear r1 r4 HTF r3 y3
          obtain ⟨q, hq, rfl, ms, hms, hTF⟩ := hrel
          obtain ⟨r4, -⟩ := hTF.rep
          have hfl9 : fn = (flipF s.f).2.2.length := by have := unhide HFN; rw [List.length_map] at this; exact this
          by_cases hqf : q < fn
          · exact absurd hqf (by omega)
          · have HE : Hid (KtPostT a o w sp xp kb sb fb s F b marks' wr) := by
              rw [List.take_of_length_le (by omega), (unhide HI).fire] at hms
              simp only [Option.some.injEq] at hms
              subst hms
              exact hTF.done
            have i1 : ¬ (q : Int) < (fn : Int) := by omega
            clear hms hTF hfl9
            go_wp2
            go_end0
            exact ⟨⟨_, rfl⟩, unhide HE⟩
      · have q1 : decide (0 < fn) = true := by simp; omega
        have q1' : 0 < fn := by omega
        have q2' : ¬ fl = 0 := fun e => hf0 (hfl0 e)
        have q2 : (fl == 0) = false := by simp; exact q2'
        have q3 : decide (fl = 0) = false := by simp; exact q2'
        clear hf0
        go_wp2
        go_loopw [8] (fun i wr => ∃ q : Nat, q ≤ fn ∧ i = .int .i64 q ∧ ∃ ms, fireL F.marks ((flipF s.f).2.2.take q) = some ms ∧ TF a o o' w wr sp xp kb sb fb cps s F b rb (.slice aa an ac) (.slice fa fn fc) ms) (fun i _ => fn - (intOf i).toNat)
        case atStart => exact ⟨0, Nat.zero_le _, rfl, F.marks, rfl, unhide HTF⟩
        case round =>
          clear r1 r4 HTF r3 y3
          obtain ⟨q, hq, rfl, ms, hms, hTF⟩ := hrel
          obtain ⟨r4, -⟩ := hTF.rep
          have hfl9 : fn = (flipF s.f).2.2.length := by have := unhide HFN; rw [List.length_map] at this; exact this
          by_cases hqf : q < fn
          · obtain ⟨m, hm⟩ : ∃ m, (flipF s.f).2.2[q]? = some m := ⟨(flipF s.f).2.2[q]'(by omega), by simp⟩
            obtain ⟨lk, h1, h2⟩ := fireL_take (unhide HI).fire q (by omega)
            rw [hms] at h1
            simp only [Option.some.injEq] at h1
            subst h1
            obtain ⟨l2, h3, h4⟩ := h2 m hm
            obtain ⟨g, cap, efv, m0, m1⟩ := hTF.cells hm
            simp only [Value.slice.injEq] at efv
            obtain ⟨rfl, -, rfl⟩ := efv
            have hmsl : ms.length ≤ 1000000000 := by rw [fireL_len _ _ _ hms]; exact (unhide HI).ml
            have HC := hide (hTF.call h3 hmsl)
            obtain ⟨mc, mm⟩ := m
            simp only at m0 m1 HC
            have i0 : (0 : Int) ≤ (q : Int) := by omega
            have i1 : (q : Int) < (fn : Int) := by omega
            have H4 := hide h4
            clear hms h2 h3 h4 hTF hm hmsl hfl9
            go_wp2_with (go_at_call 53; refine (unhide HC).mono ?_; rintro e w2 ⟨⟨u, rfl⟩, hT2⟩; have HT2 := hide hT2; clear hT2)
            go_roundw
            case rel => exact ⟨q + 1, by omega, by go_num, l2, unhide H4, unhide HT2⟩
            case measure => simp [intOf]; omega
          · have HE : Hid (KtPostT a o w sp xp kb sb fb s F b marks' wr) := by
              rw [List.take_of_length_le (by omega), (unhide HI).fire] at hms
              simp only [Option.some.injEq] at hms
              subst hms
              exact hTF.done
            have i1 : ¬ (q : Int) < (fn : Int) := by omega
            clear hms hTF hfl9
            go_wp2
            go_end0
            exact ⟨⟨_, rfl⟩, unhide HE⟩
end
end Go.Proofs.Ytfnockbgkcgpkaa
