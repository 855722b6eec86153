import Derived.Test.YtfnockbgkcgpkaaKabk
set_option linter.all false
namespace Go.Proofs.Ytfnockbgkcgpkaa
open Go.RowKit Go.Proofs.Panes
set_option maxRecDepth 100000
section
variable {a o : Nat → Nat} {w : World} {sp xp kb sb fb : Nat} {cps : List (Option Nat)} {s : Scrn} {F : ShF} {L : ShL} {i : Nat} {U : Nat → Prop} {raw : List Opn}
/-- The fields when k operations have been looked at. -/
def subI (F : ShF) (i : Nat) (raw : List Opn) (k : Nat) : ShF := { F with marks := F.marks ++ asksOf i F.paid (raw.take k) }
theorem asksOf_len (i : Nat) (t : Int) (l : List Opn) : (asksOf i t l).length ≤ l.length := by
  unfold asksOf; rw [List.length_map]; exact List.length_filter_le _ _
theorem subI_zero (F : ShF) (i : Nat) (raw : List Opn) : subI F i raw 0 = F := by unfold subI; simp [asksOf]
theorem subI_mark {k : Nat} {x : Opn} (hx : raw[k]? = some x) (h8 : x.kind = 8) : { subI F i raw k with marks := (subI F i raw k).marks ++ [⟨(i : Int), x.mark, F.paid, false, false⟩] } = subI F i raw (k + 1) := by
  unfold subI
  rw [List.take_add_one, hx]
  simp only [Option.toList_some, asksOf_snoc, if_pos h8, List.append_assoc]
theorem subI_skip {k : Nat} {x : Opn} (hx : raw[k]? = some x) (h8 : ¬ x.kind = 8) : subI F i raw k = subI F i raw (k + 1) := by
  unfold subI
  rw [List.take_add_one, hx]
  simp only [Option.toList_some, asksOf_snoc, if_neg h8, List.append_nil]
theorem meet {P R : Prop} (h1 : P → R) (h2 : P) : R := h1 h2
set_option maxHeartbeats 8000000 in
theorem submits_ok (hB : ShB a w sp xp F L) (hM : ScrM o w xp kb sb fb cps s) (hap : ∀ x, a x ≠ 0 → o x = 0) (hI : SubIn a o w s F i U raw) {ao : Option Addr} {cap : Nat} (hR : RdO U w (.slice ao raw.length cap) raw) (hz : ao = none → cap = 0) (hc : subCo s i (fullO F raw) = 0) :
    Calls Try.prog 49 #[.pointer (some ⟨sp, 0, none⟩), .int .i64 (i : Int), .slice ao raw.length cap] w fun e w' => (∃ u, e = .returned u) ∧ KsPost a o w sp xp kb sb fb (subS s i (fullO F raw)) (subF F i raw (costOf (fullO F raw))) w' := by
  obtain ⟨r, w1, g, c, w3, h1, h2, h3, h4, h5⟩ := submit_front hB hM hap hI hR hz
  obtain ⟨mo, mc, hmv⟩ := row_slice hB.marks
  have c12 : w1.cell? ⟨sp, 12, none⟩ = some (.slice mo F.marks.length mc) := by rw [← hmv]; exact blk_cell (hB.below h2).blk 12
  have c0 : w3.cell? ⟨sp, 0, none⟩ = some (.pointer (some ⟨xp, 0, none⟩)) := blk_cell (hB.below h4).blk 0
  obtain ⟨cl, hcl, hmo, hqu, hsm, hol⟩ := subCo_zero hc
  obtain ⟨n, hn⟩ : ∃ n, n = raw.length := ⟨_, rfl⟩
  obtain ⟨mn, hmn⟩ : ∃ mn, mn = F.marks.length := ⟨_, rfl⟩
  obtain ⟨ops, hops⟩ : ∃ ops, ops = fullO F raw := ⟨_, rfl⟩
  rw [hc] at h5
  rw [← hops] at h5 hc hmo hsm hol ⊢
  rw [← hn] at h1 h3 h5 ⊢
  rw [← hmn] at c12 h3
  obtain ⟨V, hV⟩ : ∃ V : Nat → Prop, V = fun x => U x ∨ (w.heap.size ≤ x ∧ x < w3.heap.size) := ⟨_, rfl⟩
  rw [← hV] at h5
  have hn9 : n ≤ 1000 := by
    have h0 : (fullO F raw).length = raw.length + 1 := by simp [fullO]
    rw [← hops] at h0
    omega
  have hmn9 : mn ≤ 900000000 := by rw [hmn]; exact hI.ml
  have HR1 := hide h1
  have HR2 := hide h3
  have HC := hide h5
  have HI := hide hI
  have HN := hide hn
  have HMN := hide hmn
  have HCL := hide hcl
  have HMO := hide hmo
  have HQU := hide hqu
  have HSM := hide hsm
  have HOL := hide hol
  have HOPS := hide hops
  obtain ⟨nn, hnn⟩ : ∃ nn, nn = s.ks.length := ⟨_, rfl⟩
  have hin : i < nn := by rw [hnn]; exact hI.hi
  have hi4 : nn ≤ 4 := by rw [hnn]; exact hI.n4
  have i0 : (0 : Int) ≤ (i : Int) := by omega
  have i1 : (i : Int) < (nn : Int) := by omega
  have HNN := hide hnn
  clear h1 h2 h3 h4 h5 hI hB hM hap hR hz hmv hn hmn hops hc hV hcl hmo hqu hsm hol hnn
  go_enter Try.func49, Try.ntmps49
  go_wp2_with (first
    | (at_builtin; refine wpList_append_at rfl _ _ 73 73 rfl rfl _ _ _ _ rfl rfl (unhide HR1) ?_)
    | (at_builtin; refine wpList_append_at rfl _ _ 73 73 rfl rfl _ _ _ _ rfl rfl (unhide HR2) ?_)
    | (go_at_call 28; refine (unhide HC).mono ?_; rintro e w4 ⟨rfl, hV⟩; have HV := hide hV; clear hV))
  clear HR1 HR2 HC c12 c0
  go_loopw [9] (fun x wr => ∃ k : Nat, k ≤ n ∧ x = .int .i64 k ∧ SV a o w wr sp xp kb sb fb (subS s i ops) (subI F i raw k) V (.slice ao n cap) raw (.slice (some ⟨g, 0, none⟩) (n + 1) c) ops) (fun x _ => n - (intOf x).toNat)
  case atStart => exact ⟨0, Nat.zero_le _, rfl, by rw [subI_zero]; exact unhide HV⟩
  case round =>
    clear HV
    obtain ⟨k, hk, rfl, hV⟩ := hrel
    obtain ⟨g9, c9, x9, xt⟩ := hV.thereAt (i := i) (t := true) ((unhide HI).th _ (unhide HCL))
    rw [show (subI F i raw k).there.length = nn from by rw [unhide HNN]; exact (unhide HI).tl] at x9
    by_cases hlt : k < n
    · obtain ⟨x, hx⟩ : ∃ x, raw[k]? = some x := ⟨raw[k]'(by have := unhide HN; omega), by simp⟩
      obtain ⟨ao', cap', e, -, -, hrd⟩ := hV.rr
      simp only [Value.slice.injEq] at e
      obtain ⟨rfl, -, rfl⟩ := e
      obtain ⟨b, off, rfl, -, -, hat⟩ := hrd (fun e => by rw [e] at hx; simp at hx)
      obtain ⟨t0, -, -, -, -, -, -, t7⟩ := hat k x hx
      have k0 : (0 : Int) ≤ (k : Int) := by omega
      have k1 : (k : Int) < (n : Int) := by omega
      by_cases h8 : x.kind = 8
      · have hml : (subI F i raw k).marks.length ≤ 1000000000 := by
          show (F.marks ++ asksOf i F.paid (raw.take k)).length ≤ _
          have h1 := asksOf_len i F.paid (raw.take k)
          rw [List.length_take] at h1
          rw [List.length_append, ← unhide HMN]
          have := unhide HN
          omega
        obtain ⟨mo2, mc2, g5, cap5, w5, e12, e13, f12, f13, hrun, r12, rz, hSV⟩ := hV.push hml ⟨(i : Int), x.mark, F.paid, false, false⟩
        rw [subI_mark hx h8] at hSV
        obtain ⟨ml, hmll⟩ : ∃ ml, ml = (subI F i raw k).marks.length := ⟨_, rfl⟩
        rw [← hmll] at e12 f12 hrun r12 hSV hml
        obtain ⟨pd, hpd⟩ : ∃ pd, pd = F.paid := ⟨_, rfl⟩
        have e13' : wr.cell? ⟨sp, 13, none⟩ = some (.int .i64 pd) := by rw [hpd]; exact e13
        have s12 : (wr.alloc (.cells #[.int .i64 (i : Int), .int .i64 x.mark, .int .i64 pd, .bool false, .bool false] 65)).cell? ⟨sp, 12, none⟩ = some (.slice mo2 ml mc2) := by rw [hpd]; exact f12
        have HR : Hid ((Builtin.append_ #[52, 52] 52 #[.slice mo2 ml mc2, .slice (some ⟨wr.heap.size, 0, none⟩) 1 1]).run Try.prog (wr.alloc (.cells #[.int .i64 (i : Int), .int .i64 x.mark, .int .i64 pd, .bool false, .bool false] 65)).drew = .ok (.slice (some ⟨g5, 0, none⟩) (ml + 1) cap5) w5) := by rw [hpd]; exact hrun
        have HS := hide hSV
        rw [h8] at t0
        obtain ⟨mk, hmk⟩ : ∃ mk, mk = x.mark := ⟨_, rfl⟩
        rw [← hmk] at t7 s12 HR
        have lsp : sp < wr.heap.size := (hV.base).2.2
        clear hV hx hrd hat h8 e13 f12 f13 hrun hSV hmll hpd hmk
        go_wp2
        go_region_law (refine step_append_at (by kernel_rfl) (.tmp 58) (.tmp 70) 52 52 (by kernel_rfl) (by kernel_rfl) (.slice mo2 ml mc2) (.slice (some ⟨wr.heap.size, 0, none⟩) 1 1) _ _ (by kernel_rfl) (by kernel_rfl) (unhide HR) ?_)
        all_goals
          (try simp only [Exit.then])
          (try go_simp)
          (try go_wp2)
          go_roundw
          case rel => exact ⟨k + 1, by omega, by go_num, unhide HS⟩
          case measure => simp [intOf]; omega
      · have HS : Hid (SV a o w wr sp xp kb sb fb (subS s i ops) (subI F i raw (k + 1)) V (.slice (some ⟨b, off, none⟩) n cap) raw (.slice (some ⟨g, 0, none⟩) (n + 1) c) ops) := by rw [← subI_skip hx h8]; exact hV
        obtain ⟨kd, hkd⟩ : ∃ kd, kd = x.kind := ⟨_, rfl⟩
        rw [← hkd] at t0 h8
        clear hV hx hrd hat t7 hkd
        go_wp2
        go_roundw
        case rel => exact ⟨k + 1, by omega, by go_num, unhide HS⟩
        case measure => simp [intOf]; omega
    · have ek : k = n := by omega
      subst ek
      have k1 : ¬ (k : Int) < (k : Int) := by omega
      have HV := hide hV
      clear hV
      have hml : (subI F i raw k).marks.length ≤ 1000000000 := by
        show (F.marks ++ asksOf i F.paid (raw.take k)).length ≤ _
        have h1 := asksOf_len i F.paid (raw.take k)
        rw [List.length_take] at h1
        rw [List.length_append, ← unhide HMN]
        have := unhide HN
        omega
      obtain ⟨mo2, mc2, g5, cap5, w5, e12, e13, f12, f13, hrun, r12, rz, hSV⟩ := (unhide HV).push hml ⟨(i : Int), (mn : Int), F.paid, false, false⟩
      obtain ⟨ml, hmll⟩ : ∃ ml, ml = (subI F i raw k).marks.length := ⟨_, rfl⟩
      rw [← hmll] at e12 f12 hrun r12 hSV hml
      obtain ⟨pd, hpd⟩ : ∃ pd, pd = F.paid := ⟨_, rfl⟩
      have e13' : wr.cell? ⟨sp, 13, none⟩ = some (.int .i64 pd) := by rw [hpd]; exact e13
      have s12 : (wr.alloc (.cells #[.int .i64 (i : Int), .int .i64 (mn : Int), .int .i64 pd, .bool false, .bool false] 65)).cell? ⟨sp, 12, none⟩ = some (.slice mo2 ml mc2) := by rw [hpd]; exact f12
      have HR : Hid ((Builtin.append_ #[52, 52] 52 #[.slice mo2 ml mc2, .slice (some ⟨wr.heap.size, 0, none⟩) 1 1]).run Try.prog (wr.alloc (.cells #[.int .i64 (i : Int), .int .i64 (mn : Int), .int .i64 pd, .bool false, .bool false] 65)).drew = .ok (.slice (some ⟨g5, 0, none⟩) (ml + 1) cap5) w5) := by rw [hpd]; exact hrun
      have HS := hide hSV
      have lsp : sp < wr.heap.size := ((unhide HV).base).2.2
      clear HV e13 f12 f13 hrun hSV hmll hpd x9 xt
      go_wp2
      apply meet
      · intro HK
        go_region_law (refine step_append_at (by kernel_rfl) (.tmp 78) (.tmp 86) 52 52 (by kernel_rfl) (by kernel_rfl) (.slice mo2 ml mc2) (.slice (some ⟨wr.heap.size, 0, none⟩) 1 1) _ _ (by kernel_rfl) (by kernel_rfl) (unhide HR) ?_)
        all_goals
          (try simp only [Exit.then])
          (try go_simp)
        all_goals
          have HS2 := HS
          generalize w5.setCell ⟨sp, 12, none⟩ (.slice (some ⟨g5, 0, none⟩) (ml + 1) cap5) = W at HS2 ⊢
          revert HS2
          revert W
          exact HK
      clear HS
      intro W HS
      clear HR s12 e12 e13' r12 rz
      rename_i K aK
      refine aK _ _ ?_
      go_wp2
      obtain ⟨gw, gc, vo, vc, ⟨x10, xw, lgw⟩, hrunW⟩ := (unhide HS).waitAt (i := i) ((unhide HI).wt _ (unhide HCL)) (by have := ((unhide HI).hq cl (unhide HCL)).1; simp [costsK]; omega)
      obtain ⟨ql, hql⟩ : ∃ ql, ql = (costsK (some cl)).length := ⟨_, rfl⟩
      rw [← hql] at xw hrunW
      obtain ⟨wl, hwl⟩ : ∃ wl, wl = F.wait.length := ⟨_, rfl⟩
      have x10' : W.cell? ⟨sp, 10, none⟩ = some (.slice (some ⟨gw, 0, none⟩) nn gc) := by rw [unhide HNN, ← (unhide HI).wl]; exact x10
      have HRW := hide hrunW
      have lW : sp < W.heap.size := ((unhide HS).base).2.2
      have HKC : Hid (Calls Try.prog 69 #[.slice (some ⟨g, 0, none⟩) (k + 1) c] W.drew fun e w' => e = .returned (.int .i64 (costOf ops)) ∧ Below W.heap.size W w') := by
        refine (kcost_any V _ ops _ ((unhide HS).below ((Below.refl _ W).drew)).rl (by have := unhide HOL; omega) (unhide HSM)).mono ?_
        rintro e w' ⟨h1, q, rfl⟩
        exact ⟨h1, below_drewN ((Below.refl _ W).drew) q⟩
      clear hrunW x10 hql hwl
      apply meet
      · intro HK
        go_region_law (first
            | (go_simp
               go_at_call 69
               refine (unhide HKC).mono ?_
               rintro e w6 ⟨rfl, hb6⟩
               have d10 : w6.cell? ⟨sp, 10, none⟩ = some (.slice (some ⟨gw, 0, none⟩) nn gc) := (hb6.cell lW).trans x10'
               have dw : w6.cell? ⟨gw, i, none⟩ = some (.slice vo ql vc) := (hb6.cell lgw).trans xw
               have aB : Below W.heap.size W (w6.alloc (.cells #[.int .i64 (costOf ops)] 3)) := hb6.alloc hb6.size _
               have a10 : (w6.alloc (.cells #[.int .i64 (costOf ops)] 3)).cell? ⟨sp, 10, none⟩ = some (.slice (some ⟨gw, 0, none⟩) nn gc) := (aB.cell lW).trans x10'
               have aw : (w6.alloc (.cells #[.int .i64 (costOf ops)] 3)).cell? ⟨gw, i, none⟩ = some (.slice vo ql vc) := (aB.cell lgw).trans xw
               have h9 : (w6.alloc (.cells #[.int .i64 (costOf ops)] 3)).heap[w6.heap.size]? = some (.cells #[.int .i64 (costOf ops)] 3) := new_at w6 _ _ rfl
               obtain ⟨ao2, cap2, w7, hr7, ⟨u7, c7⟩, z7, c10, hSV7⟩ := (unhide HRW) _ w6.heap.size (costOf ops) aB (blk_cell h9 0)
               have c10' : w7.cell? ⟨sp, 10, none⟩ = some (.slice (some ⟨gw, 0, none⟩) nn gc) := by rw [unhide HNN, ← (unhide HI).wl]; exact c10
               have HR7 := hide hr7
               have HS7 := hide hSV7
               clear hb6 aB h9 hr7 hSV7 c10)
            | (refine step_append_at (by kernel_rfl) (.tmp 101) (.tmp 104) 23 23 (by kernel_rfl) (by kernel_rfl) (.slice vo ql vc) (.slice (some ⟨w6.heap.size, 0, none⟩) 1 1) _ _ (by kernel_rfl) (by kernel_rfl) (unhide HR7) ?_))
        all_goals
          (try simp only [Exit.then])
          (try go_simp)
        all_goals
          clear c10' c7 z7 HR7 a10 aw
          (try clear d10 dw)
          generalize w7.setCell ⟨gw, i, none⟩ (.slice ao2 (ql + 1) cap2) = W7 at HS7 ⊢
          generalize w6.heap.size = hs
          revert HS7
          revert W7
          revert cap2
          revert ao2
          revert hs
          exact HK
      intro hs ao2 cap2 W7 HS7
      clear HRW HKC x10' xw lW lgw HS
      rename_i K2 aK2
      refine aK2 _ _ ?_
      go_wp2
      have HS8 : Hid (SV a o w W7 sp xp kb sb fb (subS s i ops) (subF F i raw (costOf ops)) V (.slice ao k cap) raw (.slice (some ⟨g, 0, none⟩) (k + 1) c) ops) := by
        have h7 := unhide HS7
        have e1 : raw.take k = raw := List.take_of_length_le (by have := unhide HN; omega)
        have e2 : F.wait.getD i [] = costsK (some cl) := by rw [List.getD_eq_getElem?_getD, (unhide HI).wt _ (unhide HCL)]; rfl
        simp only [subI] at h7
        rw [e1] at h7
        show SV a o w W7 sp xp kb sb fb (subS s i ops) (subF F i raw (costOf ops)) V (.slice ao k cap) raw (.slice (some ⟨g, 0, none⟩) (k + 1) c) ops
        unfold subF
        rw [e2, ← unhide HMN]
        exact h7
      clear HS7
      obtain ⟨cst, hcst⟩ : ∃ cst, cst = costOf ops := ⟨_, rfl⟩
      have HKC2 : Hid (∀ n, Calls Try.prog 69 #[.slice (some ⟨g, 0, none⟩) (k + 1) c] (W7.drewN n) fun e w' => e = .returned (.int .i64 cst) ∧ ∃ m, w' = (W7.drewN n).drewN m) := fun n => by
        rw [hcst]
        exact kcost_any V _ ops _ ((unhide HS8).below (below_drewN (Below.refl _ _) n)).rl (by have := unhide HOL; omega) (unhide HSM)
      obtain ⟨g9b, c9b, y9, yt⟩ := (unhide HS8).thereAt (i := i) (t := true) ((unhide HI).th _ (unhide HCL))
      rw [show (subF F i raw (costOf ops)).there.length = nn from by rw [unhide HNN]; exact (unhide HI).tl] at y9
      obtain ⟨gw2, gc2, vo2, vc2, ⟨y10, yw, -⟩, -⟩ := (unhide HS8).waitAt (i := i) (l := costsK (some cl) ++ [costOf ops]) (by
        show (F.wait.set i (F.wait.getD i [] ++ [costOf ops]))[i]? = _
        rw [List.getElem?_set_self (by rw [(unhide HI).wl]; exact (unhide HI).hi), List.getD_eq_getElem?_getD, (unhide HI).wt _ (unhide HCL)]; rfl) (by have := ((unhide HI).hq cl (unhide HCL)).1; simp [costsK]; omega)
      rw [show (subF F i raw (costOf ops)).wait.length = nn from by rw [unhide HNN, ← (unhide HI).wl]; simp [subF]] at y10
      obtain ⟨ql2, hql2⟩ : ∃ ql2, ql2 = (costsK (some cl) ++ [costOf ops]).length := ⟨_, rfl⟩
      have eq2 : ql2 = cl.q.length + 1 := by rw [hql2]; simp [costsK]
      rw [← hql2] at yw
      obtain ⟨y4, y5, -⟩ := (unhide HS8).base
      rw [show (subF F i raw (costOf ops)).c = s.c from (unhide HI).c] at y4 y5
      obtain ⟨qq, hqq⟩ : ∃ qq, qq = s.c.queue := ⟨_, rfl⟩
      obtain ⟨mm, hmm⟩ : ∃ mm, mm = s.c.most := ⟨_, rfl⟩
      rw [← hqq] at y4
      rw [← hmm] at y5
      have d1 : ¬ mm < cst := by have := unhide HMO; rw [hmm, hcst]; omega
      have d2 : ¬ qq < (ql2 : Int) := by have := unhide HQU; rw [hqq, eq2]; omega
      have d1' : decide (mm < cst) = false := by simpa using d1
      have d2' : decide (qq < (ql2 : Int)) = false := by simpa using d2
      clear eq2 hql2 hqq hmm
      have HCS := hide hcst
      clear hcst
      go_quiet ((go_at_call 69; exact Calls.quiet_of ((unhide HKC2) _)))
      go_wp2
      go_end0
      exact ⟨⟨_, rfl⟩, (unhide HS8).ks.below (below_drewN (Below.refl _ _) _)⟩
end
end Go.Proofs.Ytfnockbgkcgpkaa
