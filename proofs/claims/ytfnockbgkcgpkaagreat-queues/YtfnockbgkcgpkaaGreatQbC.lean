import Derived.Test.YtfnockbgkcgpkaaGreatQueB
set_option linter.all false
namespace Go.Proofs.YtfnockbgkcgpkaaGreat
open Go.RowKit Go.Proofs.Panes
set_option maxRecDepth 100000
attribute [local go_sem ↓] Go.wp_at_zero Go.wp_at_succ


theorem all_take_succ {l : List Int} {f : Int → Bool} {k : Nat} {r : Int} (hr : l[k]? = some r) : (l.take (k + 1)).all f = ((l.take k).all f && f r) := by
  rw [List.take_add_one, hr, List.all_append]; simp
theorem all_of_take {l : List Int} {f : Int → Bool} {k : Nat} (h : (l.take k).all f = false) : l.all f = false := by
  rw [← List.take_append_drop k l, List.all_append, h]; rfl

set_option maxHeartbeats 8000000 in
theorem valid_k3 (sp base g n cap : Nat) (will : List Bool) (x y ww h mark : Int) (po : Option Addr) (pn pc : Nat) (w : World)
    (hS : w.cell? ⟨sp, 6, none⟩ = some (.int .i64 n)) (hO : OwnB w base (.slice (some ⟨g, 0, none⟩) n cap) will) (hn : n = will.length) (h4 : 1 ≤ n ∧ n ≤ 4) (j : Nat) (hjn : j < n) (hb : will[j]? = some true) (U : Nat → Prop) (px : List Int) (hpx : RdN U w (.slice po pn pc) px) (hpl : px.length ≤ 17592186043904) :
    Calls Tryz.prog 59 #[.pointer (some ⟨sp, 0, none⟩), .agg #[.int .i64 3, .int .i64 j, .int .i64 x, .int .i64 y, .int .i64 ww, .int .i64 h, .slice po pn pc, .int .i64 mark], .slice (some ⟨g, 0, none⟩) n cap] w fun e w' => e = .returned (.bool (inB ww 1 8 && inB h 1 8 && decide ((px.length : Int) = ww * h) && px.all (fun n => inB n 0 4294967295))) ∧ OwnB w' base (.slice (some ⟨g, 0, none⟩) n cap) will ∧ But (fun k => k = g) w w' := by
  have hg := (World.ownsRow.lt hO g rfl).2
  have hsp : sp < w.heap.size := World.block_lt_of_cell? w _ hS
  have cw : w.cell? ⟨g, j, none⟩ = some (.bool true) := ownB_at hO hb
  have fw : w.frozen? ⟨g, j, none⟩ = false := by subst hn; exact World.ownsRow.frozenAt hO j
  have HO := hide hO
  have HN := hide hn
  have i0 : (0 : Int) ≤ (j : Int) := by omega
  have i1 : (j : Int) ≤ (n : Int) - 1 := by omega
  have i2 : (j : Int) < (n : Int) := by omega
  have wr : IntKind.i64.wrap ((n : Int) - 1) = (n : Int) - 1 := by rw [IntKind.wrap_i64]; omega
  clear hO hn hb
  have HPX := hide hpx
  clear hpx
  go_enter Tryz.func59, Tryz.ntmps59
  go_wp2_with (go_at_call 58; refine (in_any _ _ _ _).mono ?_; rintro e w' ⟨rfl, rfl⟩)
  go_quiet ((go_at_call 58; exact Calls.quiet_of_same (in_any _ _ _ _)))
  have hb1 : Below w.heap.size w ((w.alloc (.cells #[.int .i64 3, .int .i64 j, .int .i64 x, .int .i64 y, .int .i64 ww, .int .i64 h, .slice po pn pc, .int .i64 mark] 52)).drewN nq) := below_drewN ((Below.refl _ w).alloc (Nat.le_refl _) _) _
  have hx1 : ((w.alloc (.cells #[.int .i64 3, .int .i64 j, .int .i64 x, .int .i64 y, .int .i64 ww, .int .i64 h, .slice po pn pc, .int .i64 mark] 52)).drewN nq).heap[w.heap.size]? = some (.cells #[.int .i64 3, .int .i64 j, .int .i64 x, .int .i64 y, .int .i64 ww, .int .i64 h, .slice po pn pc, .int .i64 mark] 52) := new_at _ _ _ rfl
  generalize (w.alloc (.cells #[.int .i64 3, .int .i64 j, .int .i64 x, .int .i64 y, .int .i64 ww, .int .i64 h, .slice po pn pc, .int .i64 mark] 52)).drewN nq = w1 at *
  have d0 : w1.cell? ⟨w.heap.size, 0, none⟩ = some (.int .i64 3) := blk_cell hx1 0
  have d1 : w1.cell? ⟨w.heap.size, 1, none⟩ = some (.int .i64 j) := blk_cell hx1 1
  have d2 : w1.cell? ⟨w.heap.size, 2, none⟩ = some (.int .i64 x) := blk_cell hx1 2
  have d3 : w1.cell? ⟨w.heap.size, 3, none⟩ = some (.int .i64 y) := blk_cell hx1 3
  have d4 : w1.cell? ⟨w.heap.size, 4, none⟩ = some (.int .i64 ww) := blk_cell hx1 4
  have d5 : w1.cell? ⟨w.heap.size, 5, none⟩ = some (.int .i64 h) := blk_cell hx1 5
  have d6 : w1.cell? ⟨w.heap.size, 6, none⟩ = some (.slice po pn pc) := blk_cell hx1 6
  have dw : w1.cell? ⟨g, j, none⟩ = some (.bool true) := (hb1.cell hg).trans cw
  have df : w1.frozen? ⟨g, j, none⟩ = false := (hb1.frozen hg).trans fw
  have HB1 := hide hb1
  clear hb1 hx1 cw fw hS
  have dd : (decide ((0 : Int) ≤ (j : Int)) && decide ((j : Int) ≤ (n : Int) - 1)) = true := by simp; omega
  go_wp2_with fail
  rw [dd]
  go_quiet (fail)
  have hb2 : Below w.heap.size w (w1.drewN nq) := below_drewN (unhide HB1) _
  have e0 : (w1.drewN nq).cell? ⟨w.heap.size, 0, none⟩ = some (.int .i64 3) := d0
  have e1 : (w1.drewN nq).cell? ⟨w.heap.size, 1, none⟩ = some (.int .i64 j) := d1
  have e2 : (w1.drewN nq).cell? ⟨w.heap.size, 2, none⟩ = some (.int .i64 x) := d2
  have e3 : (w1.drewN nq).cell? ⟨w.heap.size, 3, none⟩ = some (.int .i64 y) := d3
  have e4 : (w1.drewN nq).cell? ⟨w.heap.size, 4, none⟩ = some (.int .i64 ww) := d4
  have e5 : (w1.drewN nq).cell? ⟨w.heap.size, 5, none⟩ = some (.int .i64 h) := d5
  have e6 : (w1.drewN nq).cell? ⟨w.heap.size, 6, none⟩ = some (.slice po pn pc) := d6
  have ew : (w1.drewN nq).cell? ⟨g, j, none⟩ = some (.bool true) := dw
  have ef : (w1.drewN nq).frozen? ⟨g, j, none⟩ = false := df
  clear HB1 d0 d1 d2 d3 d4 d5 d6 dw df dd
  generalize w1.drewN nq = w2 at *
  have hO2 : OwnB w2 base (.slice (some ⟨g, 0, none⟩) n cap) will := ownB_kept (unhide HO) hb2
  have HO2 := hide hO2
  have HB2 := hide hb2
  clear hb2 hO2
  obtain ⟨po', pc', epx, hp1, hp2, hp3⟩ := (unhide HPX).below (unhide HB2)
  simp only [Value.slice.injEq] at epx
  obtain ⟨rfl, rfl, rfl⟩ := epx
  clear HPX
  by_cases hwh : (inB ww 1 8 && inB h 1 8) = true
  · have hw8 : 1 ≤ ww ∧ ww ≤ 8 ∧ 1 ≤ h ∧ h ≤ 8 := by simp [inB] at hwh; omega
    obtain ⟨w1', w2', w3', w4'⟩ := hw8
    have hml : 1 ≤ ww * h ∧ ww * h ≤ 64 := by
      have : ww = 1 ∨ ww = 2 ∨ ww = 3 ∨ ww = 4 ∨ ww = 5 ∨ ww = 6 ∨ ww = 7 ∨ ww = 8 := by omega
      rcases this with e | e | e | e | e | e | e | e <;> subst e <;> omega
    have hmul : IntKind.i64.wrap (ww * h) = ww * h := by rw [IntKind.wrap_i64]; omega
    have HH := hide hwh
    clear hwh
    by_cases hpl2 : (px.length : Int) = ww * h
    · have hdec : Hid (decide ((px.length : Int) = ww * h) = true) := by show _ = _; simp [hpl2]
      have HP3 := hide hp3
      clear hp3
      go_wp2_with (go_at_call 58; refine (in_any _ _ _ _).mono ?_; rintro e w' ⟨rfl, rfl⟩)
      clear hpl2 hmul hml w1' w2' w3' w4' i0 i1 i2 wr
      go_loopw [13, 14] (fun ok i wr => ∃ k : Nat, k ≤ px.length ∧ i = .int .i64 k ∧ ok = .bool ((px.take k).all (fun n => inB n 0 4294967295)) ∧ wr.cell? ⟨w.heap.size, 6, none⟩ = some (.slice po px.length pc) ∧ OwnB wr base (.slice (some ⟨g, 0, none⟩) n cap) will ∧ Below w.heap.size w wr ∧ RdN U wr (.slice po px.length pc) px) (fun _ i _ => px.length - (intOf i).toNat)
      case atStart => exact ⟨0, Nat.zero_le _, rfl, rfl, e6, unhide HO2, unhide HB2, ⟨po, pc, rfl, hp1, hp2, unhide HP3⟩⟩
      case round =>
        rename World => wq
        clear HO2 HB2 HP3 e0 e1 e2 e3 e4 e5 e6 ew ef hp1 hp2
        obtain ⟨k, hk, rfl, rfl, q6, hO3, hB3, hR3⟩ := hrel
        have HO3 := hide hO3
        have HB3 := hide hB3
        have HR3 := hide hR3
        clear hO3 hB3 hR3
        obtain ⟨ok, hok⟩ : ∃ ok, ok = (px.take k).all (fun n => inB n 0 4294967295) := ⟨_, rfl⟩
        rw [← hok]
        have HOK := hide hok
        clear hok
        by_cases hlt : k < px.length
        · cases ok with
          | true =>
            obtain ⟨r, hr⟩ : ∃ r, px[k]? = some r := ⟨px[k], by simp [hlt]⟩
            obtain ⟨po', pc', epx, g1, g2, g3⟩ := unhide HR3
            simp only [Value.slice.injEq, true_and] at epx
            obtain ⟨rfl, rfl⟩ := epx
            obtain ⟨b, off, rfl, _, _, hc⟩ := g3 (by intro e; rw [e] at hlt; simp at hlt)
            have c1 := hc k r hr
            have i0 : (0 : Int) ≤ (k : Int) := by omega
            have i1 : (k : Int) < (px.length : Int) := by omega
            have HT := hide (all_take_succ (f := fun n => inB n 0 4294967295) hr)
            clear g1 g2 g3 hc hr
            go_wp2_with (go_at_call 58; refine (in_any _ _ _ _).mono ?_; rintro e w' ⟨rfl, rfl⟩)
            go_roundw
            case rel => exact ⟨k + 1, by omega, by go_num, by rw [unhide HT, ← unhide HOK]; rfl, q6, unhide HO3, unhide HB3, unhide HR3⟩
            case measure => simp [intOf]; omega
          | false =>
            have i1 : (k : Int) < (px.length : Int) := by omega
            have hfin := all_of_take (unhide HOK).symm
            have HF := hide hfin
            clear hfin
            go_wp2
            go_ret
            refine ⟨?_, unhide HO3, But.of_below (unhide HB3)⟩
            rw [unhide HF, Bool.and_false]; rfl
        · have hkl : k = px.length := by omega
          have hfin : ok = px.all (fun n => inB n 0 4294967295) := by rw [unhide HOK, hkl, List.take_length]
          have HF := hide hfin
          have i1 : ¬ (k : Int) < (px.length : Int) := by omega
          clear hfin hkl
          go_wp2
          go_ret
          refine ⟨?_, unhide HO3, But.of_below (unhide HB3)⟩
          rw [← unhide HF, unhide HH, unhide hdec]; rfl
    · have hdec : Hid (decide ((px.length : Int) = ww * h) = false) := by show _ = _; simp [hpl2]
      clear hp3
      go_wp2_with (go_at_call 58; refine (in_any _ _ _ _).mono ?_; rintro e w' ⟨rfl, rfl⟩)
      go_loopw [13, 14] (fun ok i wr => i = .int .i64 0 ∧ ok = .bool false ∧ wr.cell? ⟨w.heap.size, 6, none⟩ = some (.slice po px.length pc) ∧ OwnB wr base (.slice (some ⟨g, 0, none⟩) n cap) will ∧ Below w.heap.size w wr) (fun _ _ _ => 0)
      case atStart => exact ⟨rfl, by simp [hpl2], e6, unhide HO2, unhide HB2⟩
      case round =>
        rename World => wq
        clear HO2 HB2 e0 e1 e2 e3 e4 e5 e6 ew ef hp1 hp2 hmul hml hpl2
        obtain ⟨rfl, rfl, q6, hO3, hB3⟩ := hrel
        have HO3 := hide hO3
        have HB3 := hide hB3
        clear hO3 hB3
        by_cases hz : (0 : Int) < (px.length : Int)
        all_goals
          go_wp2
          go_ret
          refine ⟨?_, unhide HO3, But.of_below (unhide HB3)⟩
          rw [unhide hdec, Bool.and_false, Bool.false_and]; rfl
  · have hwf : Hid ((inB ww 1 8 && inB h 1 8) = false) := by show _ = _; simpa using hwh
    have hcases : ¬ (1 ≤ ww ∧ ww ≤ 8) ∨ ((1 ≤ ww ∧ ww ≤ 8) ∧ ¬ (1 ≤ h ∧ h ≤ 8)) := by simp [inB] at hwh; omega
    clear hp3 hwh
    rcases hcases with hA | ⟨hA, hB⟩
    all_goals
      go_wp2_with (go_at_call 58; refine (in_any _ _ _ _).mono ?_; rintro e w' ⟨rfl, rfl⟩)
      go_loopw [13, 14] (fun ok i wr => i = .int .i64 0 ∧ ok = .bool false ∧ wr.cell? ⟨w.heap.size, 6, none⟩ = some (.slice po px.length pc) ∧ OwnB wr base (.slice (some ⟨g, 0, none⟩) n cap) will ∧ Below w.heap.size w wr) (fun _ _ _ => 0)
      case atStart => exact ⟨rfl, by first | rfl | simp_all, e6, unhide HO2, unhide HB2⟩
      case round =>
        rename World => wq
        clear HO2 HB2 e0 e1 e2 e3 e4 e5 e6 ew ef hp1 hp2
        obtain ⟨rfl, rfl, q6, hO3, hB3⟩ := hrel
        have HO3 := hide hO3
        have HB3 := hide hB3
        clear hO3 hB3
        by_cases hz : (0 : Int) < (px.length : Int)
        all_goals
          go_wp2
          go_ret
          refine ⟨?_, unhide HO3, But.of_below (unhide HB3)⟩
          rw [unhide hwf, Bool.false_and, Bool.false_and]; rfl
end Go.Proofs.YtfnockbgkcgpkaaGreat
