import Derived.Test.YtfnockbgkcgpkaaKaaf
import Derived.Test.YtfnockbgkcgpkaaKaaq
import Derived.Test.YtfnockbgkcgpkaaKaau
import Derived.Laws.AppendOwnNone
set_option linter.all false
namespace Go.Proofs.Ytfnockbgkcgpkaa
open Go.RowKit Go.Proofs.Panes
set_option maxRecDepth 100000

theorem info_rect' : (Try.prog.info? 29).map (fun i => (i.zero, i.size, i.bytes)) = some (some (.agg #[.int .i64 0, .int .i64 0, .int .i64 0, .int .i64 0]), 4, 32) := by kernel_rfl
/-- Rectangles behind rectangles. -/
theorem append_rects {w : World} {base b2 : Nat} {v x : Value} {l m : List Rc} (hO : Own w base v l) (hX : Own w b2 x m) (hl : l.length + m.length ≤ 1000000000) (hb : base ≤ w.heap.size) :
    ∃ v' w', (Builtin.append_ #[22, 22] 22 #[v, x]).run Try.prog w = .ok v' w' ∧ Own w' base v' (l ++ m) ∧ But (fun k => v.ownBlock = some k) w w' ∧ (v'.ownBlock = v.ownBlock ∨ v'.ownBlock = some w.heap.size) := by
  obtain ⟨i0, hi, hz0, hz1, hz2⟩ := info_parts info_rect'
  rcases hX.2 with ⟨rfl, hm⟩ | ⟨g, cap, cur, rfl, _, hg, hc, _, hz, ht⟩
  · have hm' : m = [] := List.eq_nil_of_length_eq_zero hm
    subst hm'
    exact ⟨v, w, run_append_owned_none w base _ _ 29 i0 4 Try.underlying22 hi v _ _ hO, by rw [List.append_nil]; exact hO, .refl _ _, .inl rfl⟩
  · obtain ⟨v', w', h1, h2, h3, _, h5⟩ := run_append_own_at (P := Try.prog) (w := w) base 22 22 29 i0 _ 4 32 Try.underlying22 hi hz0 hz1 hz2 rfl (by decide) v _ _ hO ⟨g, 0, none⟩ m.length cap (rcells m) (rcells_len m) (by
      intro j u hj
      have hadd : (⟨g, 0, none⟩ : Addr).add j = ⟨g, j, none⟩ := by unfold Addr.add; split <;> simp_all
      have hlt : j < (rcells m).length := (List.getElem?_eq_some_iff.1 hj).1
      rw [hadd, blk_cell hg, ← Array.getElem?_toList, ← hj, ← ht, List.getElem?_take, if_pos (by rw [rcells_len] at hlt; exact hlt)]) (by
      intro u hu
      simp only [rcells, List.mem_flatMap] at hu
      obtain ⟨r, _, hr⟩ := hu
      simp [rcell] at hr
      rcases hr with rfl | rfl | rfl | rfl <;> rfl) (by simp only [maxLen]; omega) (by omega) hb
    refine ⟨v', w', h1, ?_, .of_grown h3 (fun k e => e), h5⟩
    rw [Own, rcells_append, List.length_append]
    exact h2

/-- What a slide's step damages. -/
def slDmg (s : Srf) : List Rc := dmgL (goB s) ⟨s.x, s.y, s.w, s.h⟩ ⟨(goS s).x, (goS s).y, (goS s).w, (goS s).h⟩
theorem goS_key (s : Srf) : skey (goS s) = skey s := by unfold goS; split <;> rfl
theorem goS_px (s : Srf) : (goS s).px = s.px := by unfold goS; split <;> rfl
/-- The surfaces behind the first i of a slide. -/
def slI (l : List Srf) (i : Nat) : List Srf := (l.take i).map goS ++ l.drop i
theorem slI_keys (l : List Srf) (i : Nat) : (slI l i).map skey = l.map skey := by
  unfold slI
  rw [List.map_append, List.map_map]
  have : (l.take i).map (skey ∘ goS) = (l.take i).map skey := List.map_congr_left fun s _ => goS_key s
  rw [this, ← List.map_append, List.take_append_drop]
theorem slI_at {l : List Srf} {i : Nat} {s : Srf} (h : l[i]? = some s) : (slI l i)[i]? = some s := by
  have hlt := (List.getElem?_eq_some_iff.1 h).1
  unfold slI
  rw [List.getElem?_append_right (by simp; omega)]
  simp [Nat.min_eq_left (Nat.le_of_lt hlt), h]
theorem slI_succ {l : List Srf} {i : Nat} {s : Srf} (hn : (l.map skey).Nodup) (h : l[i]? = some s) : slI l (i + 1) = putS (slI l i) (goS s) := by
  have hlt := (List.getElem?_eq_some_iff.1 h).1
  have he : l[i] = s := (List.getElem?_eq_some_iff.1 h).2
  have hd : l.drop i = s :: l.drop (i + 1) := by rw [← he, List.getElem_cons_drop]
  have hn' := hn
  rw [← slI_keys l i] at hn'
  unfold slI at hn' ⊢
  rw [hd, List.take_add_one, h]
  rw [hd, List.map_append, List.map_cons, List.nodup_append] at hn'
  obtain ⟨-, n2, n3⟩ := hn'
  rw [List.nodup_cons] at n2
  unfold putS
  rw [List.map_append, List.map_append, List.map_cons, List.append_assoc]
  have e1 : ((l.take i).map goS).map (fun t => if skey t = skey (goS s) then goS s else t) = (l.take i).map goS := by
    conv => rhs; rw [← List.map_id ((l.take i).map goS)]
    refine List.map_congr_left fun t ht => ?_
    rw [if_neg]
    · rfl
    · rw [goS_key]
      intro e
      exact n3 (skey t) (List.mem_map.2 ⟨t, ht, rfl⟩) (skey s) (by simp) e
  have e2 : (l.drop (i + 1)).map (fun t => if skey t = skey (goS s) then goS s else t) = l.drop (i + 1) := by
    conv => rhs; rw [← List.map_id (l.drop (i + 1))]
    refine List.map_congr_left fun t ht => ?_
    rw [if_neg]
    · rfl
    · rw [goS_key]
      intro e
      exact n2.1 (by rw [← e]; exact List.mem_map.2 ⟨t, ht, rfl⟩)
  rw [e1, e2, if_pos (goS_key s).symm]
  simp

/-- What goOn asks of a surface. -/
def SlOk (s : Srf) : Prop := (0 ≤ s.left ∧ s.left ≤ 1000) ∧ (-2000000000000000 ≤ s.x + s.dx ∧ s.x + s.dx ≤ 2000000000000000) ∧ (-2000000000000000 ≤ s.y + s.dy ∧ s.y + s.dy ≤ 2000000000000000)
theorem slDmg_len (s : Srf) : (slDmg s).length ≤ 2 := by unfold slDmg dmgL; split <;> (try split) <;> simp
theorem flat_len : ∀ l : List Srf, (l.flatMap slDmg).length ≤ 2 * l.length
  | [] => by simp
  | s :: l => by have := flat_len l; have := slDmg_len s; simp only [List.flatMap_cons, List.length_append, List.length_cons]; omega
set_option maxHeartbeats 4000000 in
theorem Slide_any {C U : Nat → Prop} {w : World} {sb : Nat} {beh : Int} {l : List Srf} {mb : Nat} {ov : Value} {L : List Ke} {clock : Nat} {bk : Int → Int → Nat} {pv : Int → Int → Value} (h : Scn C U w sb beh l mb ov L clock bk pv) (hCU : ∀ k, C k → ¬ U k) (hCl : ∀ k, C k → k < w.heap.size) (hUl : ∀ k, U k → k < w.heap.size) (hl : l.length ≤ 1000) (hok : ∀ s ∈ l, SlOk s) :
    Calls Try.prog 63 #[.pointer (some ⟨sb, 0, none⟩)] w fun e w' => (∃ v pv', e = .returned v ∧ Scn C U w' sb beh (l.map goS) mb ov L clock bk pv' ∧ Own w' w.heap.size v (l.flatMap slDmg)) ∧ But C w w' := by
  have c1 : w.cell? ⟨sb, 1, none⟩ = some ov := blk_cell h.scm.blk 1
  have l1 : sb < w.heap.size := lt_of_heap h.scm.blk
  obtain ⟨ro, rc, hov⟩ := row_slice h.row
  rw [List.length_map] at hov
  obtain ⟨n, hn⟩ : ∃ n, n = l.length := ⟨_, rfl⟩
  rw [← hn] at hov
  subst hov
  have HH := hide h
  have HN := hide hn
  have HOK := hide hok
  have hn1 : n ≤ 1000 := by omega
  clear h hn hok hl
  go_enter Try.func63, Try.ntmps63
  go_wp2
  go_loopw [3, 11] (fun a b wr => ∃ (i : Nat) (pvk : Int → Int → Value), b = .int .i64 (i : Int) ∧ i ≤ n ∧ Scn C U wr sb beh (slI l i) mb (.slice ro n rc) L clock bk pvk ∧ Own wr w.heap.size a ((l.take i).flatMap slDmg) ∧ But C w wr) (fun a b _ => n - (intOf b).toNat)
  case atStart => exact ⟨0, pv, rfl, Nat.zero_le _, by simpa [slI] using unhide HH, ⟨rfl, .inl ⟨rfl, rfl⟩⟩, .refl _ _⟩
  case round =>
    obtain ⟨i, pvk, rfl, hin, hsc, hO, hB⟩ := hrel
    by_cases hlt : i < n
    · obtain ⟨s, hs⟩ : ∃ s, l[i]? = some s := ⟨l[i]'(by rw [← unhide HN]; exact hlt), by simp⟩
      have hsI := slI_at hs
      have hsm : s ∈ slI l i := List.mem_of_getElem? hsI
      have hkr : (slI l i).map (fun s => k2 (skey s)) = (l.map skey).map k2 := by rw [← slI_keys l i, List.map_map]; rfl
      have hrow := hsc.row
      rw [hkr] at hrow
      obtain ⟨g, cap, hg⟩ := row_some hrow (by simp; rw [← unhide HN]; omega)
      simp only [Value.slice.injEq] at hg
      obtain ⟨rfl, -, -⟩ := hg
      obtain ⟨q0, q1⟩ := own2_at hrow (p := k2 (skey s)) (j := i) (by rw [List.getElem?_map, List.getElem?_map, hs]; rfl)
      simp only [k2, skey] at q0 q1
      have lg : g < wr.heap.size := (World.ownsRow.lt hrow g rfl).2
      obtain ⟨b, hbk⟩ : ∃ b, b = bk s.cl s.num := ⟨_, rfl⟩
      have hSf := (hsc.surf s hsm).1
      rw [← hbk] at hSf
      have hcb := (hsc.surf s hsm).2.1
      rw [← hbk] at hcb
      obtain ⟨w1, hw1⟩ : ∃ w1 : World, w1 = wr.alloc (.cells #[.int .i64 s.cl, .int .i64 s.num] 143) := ⟨_, rfl⟩
      have hB1 : Below wr.heap.size wr w1 := by rw [hw1]; exact (Below.refl _ wr).alloc (Nat.le_refl _) _
      have hK1 : w1.heap[wr.heap.size]? = some (.cells #[.int .i64 s.cl, .int .i64 s.num] 143) := by rw [hw1]; exact new_at _ _ _ rfl
      have hsc1 := hsc.below hB1
      have hlk : (Instr.lookup 144 (.map (some mb)) (.agg #[.int .i64 s.cl, .int .i64 s.num]) false).run Try.prog w1.drew = .ok (.pointer (some ⟨b, 0, none⟩)) w1.drew := by
        have := run_lookup_key (w := w1.drew) hsc1.scm.map s.cl s.num
        rw [hsc1.at_some hsm, ← hbk] at this
        exact this
      have hCl1 : ∀ k, k = b → k < w1.drew.heap.size := fun k e => by rw [e]; exact Nat.lt_of_lt_of_le (lt_of_heap hSf) hB1.size
      have hso := (unhide HOK) s (List.mem_of_getElem? hs)
      have HD := hide (damage_go (C := fun k => k = b) (w := w1.drew) (sb := sb) hCl1 s.cl s.num (goB s) b (covR (slI l i) s.cl s.num) (covR (slI l (i + 1)) s.cl s.num) (fun W => ∃ pv', Scn C U W sb beh (slI l (i + 1)) mb (.slice (some ⟨g, 0, none⟩) n rc) L clock bk pv')
        (fun W W' hq hb => by obtain ⟨pv', hq⟩ := hq; exact ⟨pv', hq.below hb⟩)
        (fun W hb => (hsc1.below (Below.trans ((Below.refl _ w1).drew) hb)).covered s.cl s.num)
        (fun W hq => by obtain ⟨pv', hq⟩ := hq; exact hq.covered s.cl s.num)
        (fun W hb => by
          have hW : Below w1.heap.size w1 W := Below.trans ((Below.refl _ w1).drew) hb
          have hscW := hsc1.below hW
          have hSW : SfAt W b s (pvk s.cl s.num) := by rw [hbk]; exact (hscW.surf s hsm).1
          refine (goOn_any hSW hso.1 hso.2.1 hso.2.2).mono ?_
          rintro e w' ⟨rfl, hs', hb'⟩
          refine ⟨rfl, ?_, hb'⟩
          rw [slI_succ (unhide HH).nd hs]
          exact ⟨_, hscW.upd hCU hsm (goS_key s) (v := pvk s.cl s.num) (hb'.wide (fun k _ e => e.trans hbk)) (by rw [← hbk]; exact hs') (by rw [goS_px]; exact (hscW.surf s hsm).2.2.but hb' (fun k hu e => hCU k (by rw [e]; exact hcb) hu))⟩))
      have er1 : covR (slI l i) s.cl s.num = ⟨s.x, s.y, s.w, s.h⟩ := covR_mem hsm hsc.nd
      have er2 : covR (slI l (i + 1)) s.cl s.num = ⟨(goS s).x, (goS s).y, (goS s).w, (goS s).h⟩ := by
        have hm' : goS s ∈ slI l (i + 1) := by
          rw [slI_succ (unhide HH).nd hs]
          exact List.mem_map.2 ⟨s, hsm, by rw [if_pos (goS_key s).symm]⟩
        have := covR_mem hm' (by rw [slI_keys]; exact (unhide HH).nd)
        have hk := goS_key s
        simp only [skey, Prod.mk.injEq] at hk
        rw [hk.1, hk.2] at this
        exact this
      rw [er1, er2] at HD
      unfold kval at HD
      have x0 : w1.cell? ⟨sb, 0, none⟩ = some (.map (some mb)) := blk_cell hsc1.scm.blk 0
      have y0 : w1.cell? ⟨wr.heap.size, 0, none⟩ = some (.int .i64 s.cl) := blk_cell hK1 0
      have y1 : w1.cell? ⟨wr.heap.size, 1, none⟩ = some (.int .i64 s.num) := blk_cell hK1 1
      have hcsb := hsc.csb
      have hsbb : ¬ sb = b := fun e => hsc.bk_sb hsm (by rw [← hbk, e])
      have lsb : sb < w1.heap.size := lt_of_heap hsc1.scm.blk
      have HScB := hide hsc1.scm.blk
      have hwb : ¬ wr.heap.size = b := by have := lt_of_heap hSf; omega
      have HK1 := hide hK1
      have HB1 := hide hB1
      have HW1 := hide hw1
      have HO := hide hO
      have HB := hide hB
      have HS := hide hs
      have i0 : (0 : Int) ≤ (i : Int) := by omega
      have i1 : (i : Int) < (n : Int) := by omega
      clear hsI hsm hkr hrow hSf hbk hsc hsc1 hCl1 hso er1 er2 hK1 hB1 hw1 hO hB hs
      go_wp2
      rw [← unhide HW1]
      have hcbl : b < w.heap.size := hCl b hcb
      have hlen := flat_len (l.take i)
      have hlen2 : (l.take i).length ≤ 1000 := by rw [List.length_take]; omega
      have HLen := hide (show ((l.take i).flatMap slDmg).length + (slDmg s).length ≤ 1000000000 by have := slDmg_len s; omega)
      have hu3 : ∀ k, u3.ownBlock = some k → w.heap.size ≤ k ∧ k < wr.heap.size := fun k hk => World.ownsRow.lt (unhide HO) k hk
      have HU3 := hide hu3
      clear hlen hlen2 hu3
      go_region_held3 (fun w' => w'.cell? ⟨sb, 0, none⟩ = some (.map (some mb)) ∧ w'.cell? ⟨wr.heap.size, 0, none⟩ = some (.int .i64 s.cl) ∧ w'.cell? ⟨wr.heap.size, 1, none⟩ = some (.int .i64 s.num))
        (first | (refine ⟨?_, ?_, ?_⟩ <;> assumption) | go_keep)
        (first
          | (go_at_call 90
             refine (unhide HD).mono ?_
             rintro e w2 ⟨⟨v, rfl, hq, hOv⟩, hb2⟩
             have hO2 : Own w2 w.heap.size u3 ((l.take i).flatMap slDmg) := Own.but (Own.kept (unhide HO) (unhide HB1).drew) hb2 (fun k hk e => by have := (unhide HU3) k hk; omega)
             have hsz2 : w.heap.size ≤ w2.heap.size := Nat.le_trans (unhide HB).size (Nat.le_trans (unhide HB1).size hb2.size)
             obtain ⟨v', w3, hrun, hO3, hb3, hv3⟩ := append_rects hO2 hOv (unhide HLen) hsz2
             have hS2 := hb2.heap (w := w1.drew) (unhide HScB) hsbb
             have hK2 := hb2.heap (w := w1.drew) (unhide HK1) hwb
             have hS3 := hb3.heap hS2 (fun e => by have := (unhide HU3) _ e; omega)
             have hK3 := hb3.heap hK2 (fun e => by have := (unhide HU3) _ e; omega)
             have e0 : w2.cell? ⟨sb, 0, none⟩ = some (.map (some mb)) := blk_cell hS2 0
             have e1 : w2.cell? ⟨wr.heap.size, 0, none⟩ = some (.int .i64 s.cl) := blk_cell hK2 0
             have e2 : w2.cell? ⟨wr.heap.size, 1, none⟩ = some (.int .i64 s.num) := blk_cell hK2 1
             have j0 : w3.cell? ⟨sb, 0, none⟩ = some (.map (some mb)) := blk_cell hS3 0
             have j1 : w3.cell? ⟨wr.heap.size, 0, none⟩ = some (.int .i64 s.cl) := blk_cell hK3 0
             have j2 : w3.cell? ⟨wr.heap.size, 1, none⟩ = some (.int .i64 s.num) := blk_cell hK3 1
             have hq3 : ∃ pv', Scn C U w3 sb beh (slI l (i + 1)) mb (.slice (some ⟨g, 0, none⟩) n rc) L clock bk pv' := by
               obtain ⟨pv', hq⟩ := hq
               refine ⟨pv', hq.but hb3 (fun k hk e => ?_) (fun k hu e => ?_)⟩
               · have := (unhide HU3) k e; have := hCl k hk; omega
               · have := (unhide HU3) k e; have := hUl k hu; omega
             have hB3 : But C w w3 := (((unhide HB).trans (.of_below (unhide HB1).drew)).trans (hb2.wide (fun k _ e => by rw [e]; exact hcb))).step hb3 (fun k e => .inr ((unhide HU3) k e).1)
             have HRun := hide hrun
             have HO3 := hide hO3
             have HQ3 := hide hq3
             have HB3 := hide hB3
             clear hO2 hOv hrun hO3 hb3 hv3 hS2 hK2 hS3 hK3 hq hq3 hB3 hb2 hsz2)
          | (refine step_append_at (by kernel_rfl) (.tmp 15) (.tmp 25) 22 22 (by kernel_rfl) (by kernel_rfl) u3 v _ _ (by kernel_rfl) (by kernel_rfl) (unhide HRun) ?_))
      all_goals
        (try simp only [Exit.then])
        (try go_simp)
        go_wp2
        go_roundw
        case rel =>
          obtain ⟨pv', hq⟩ := unhide HQ3
          refine ⟨i + 1, pv', by go_num, by omega, hq, ?_, unhide HB3⟩
          have : (l.take (i + 1)).flatMap slDmg = (l.take i).flatMap slDmg ++ slDmg s := by rw [List.take_add_one, unhide HS]; simp
          rw [this]
          exact unhide HO3
        case measure => simp [intOf]; omega
    · have : i = n := by omega
      subst this
      have e1 : slI l i = l.map goS := by unfold slI; rw [unhide HN]; simp
      have e2 : l.take i = l := by rw [unhide HN]; simp
      rw [e1] at hsc
      rw [e2] at hO
      have HS := hide hsc
      have HO := hide hO
      have HB := hide hB
      clear hsc hO hB
      go_wp2
      go_ret
      exact ⟨⟨_, _, rfl, unhide HS, unhide HO⟩, unhide HB⟩
end Go.Proofs.Ytfnockbgkcgpkaa
set_option linter.all false
namespace Go.Proofs.Ytfnockbgkcgpkaa
open Go.RowKit Go.Proofs.Panes
set_option maxRecDepth 100000

def rectS (s : Srf) : Rc := ⟨s.x, s.y, s.w, s.h⟩
/-- What is damaged when a surface goes. -/
def lvDmg (s : Srf) : List Rc := dmgL true (rectS s) zrc
/-- The surfaces when those of a client among the first i have gone. -/
def lvI (l : List Srf) (c : Int) (i : Nat) : List Srf := (l.take i).filter (fun s => !(s.cl == c)) ++ l.drop i
def lvD (l : List Srf) (c : Int) (i : Nat) : List Rc := ((l.take i).filter (fun s => s.cl == c)).flatMap lvDmg
theorem lvI_sub (l : List Srf) (c : Int) (i : Nat) : (lvI l c i).Sublist l := by
  unfold lvI
  conv => rhs; rw [← List.take_append_drop i l]
  exact List.Sublist.append List.filter_sublist (List.Sublist.refl _)
theorem lvI_mem {l : List Srf} {c : Int} {i : Nat} {s : Srf} (h : l[i]? = some s) : s ∈ lvI l c i := by
  have hlt := (List.getElem?_eq_some_iff.1 h).1
  have he : l[i] = s := (List.getElem?_eq_some_iff.1 h).2
  exact List.mem_append_right _ (by rw [← List.getElem_cons_drop (h := hlt), he]; simp)
theorem lvI_other {l : List Srf} {c : Int} {i : Nat} {s : Srf} (h : l[i]? = some s) (hc : ¬ s.cl = c) : lvI l c (i + 1) = lvI l c i := by
  have hlt := (List.getElem?_eq_some_iff.1 h).1
  have he : l[i] = s := (List.getElem?_eq_some_iff.1 h).2
  unfold lvI
  rw [← List.getElem_cons_drop (h := hlt), he, List.take_add_one, h, List.filter_append]
  simp [hc]
theorem lvI_own {l : List Srf} {c : Int} {i : Nat} {s : Srf} (hn : (l.map skey).Nodup) (h : l[i]? = some s) (hc : s.cl = c) : lvI l c (i + 1) = delS (lvI l c i) c s.num := by
  have hlt := (List.getElem?_eq_some_iff.1 h).1
  have he : l[i] = s := (List.getElem?_eq_some_iff.1 h).2
  have hd : l.drop i = s :: l.drop (i + 1) := by rw [← List.getElem_cons_drop (h := hlt), he]
  unfold lvI delS
  rw [hd, List.take_add_one, h, List.filter_append, List.filter_append, List.filter_cons]
  rw [show isK c s.num s = true by simp [isK, hc]]
  have h1 : ((l.take i).filter (fun s => !(s.cl == c))).filter (fun t => !isK c s.num t) = (l.take i).filter (fun s => !(s.cl == c)) := by
    rw [List.filter_eq_self]
    intro t ht
    have := (List.mem_filter.1 ht).2
    simp only [Bool.not_eq_true', beq_eq_false_iff_ne] at this
    simp [isK, this]
  have h2 : (l.drop (i + 1)).filter (fun t => !isK c s.num t) = l.drop (i + 1) := by
    rw [List.filter_eq_self]
    intro t ht
    cases hk : isK c s.num t
    · rfl
    · exfalso
      have hks := isK_iff.1 hk
      have hl2 : l = l.take i ++ s :: l.drop (i + 1) := by rw [← hd, List.take_append_drop]
      rw [hl2, List.map_append, List.map_cons, List.nodup_append] at hn
      have := (List.nodup_cons.1 hn.2.1).1
      exact this (List.mem_map.2 ⟨t, ht, by rw [hks]; simp [skey, hc]⟩)
  rw [h1, h2]
  simp [hc]
theorem lvD_other {l : List Srf} {c : Int} {i : Nat} {s : Srf} (h : l[i]? = some s) (hc : ¬ s.cl = c) : lvD l c (i + 1) = lvD l c i := by
  unfold lvD
  rw [List.take_add_one, h, List.filter_append]
  simp [hc]
theorem lvD_own {l : List Srf} {c : Int} {i : Nat} {s : Srf} (h : l[i]? = some s) (hc : s.cl = c) : lvD l c (i + 1) = lvD l c i ++ lvDmg s := by
  unfold lvD
  rw [List.take_add_one, h, List.filter_append]
  simp [hc]
theorem lvD_len (l : List Srf) (c : Int) (i : Nat) : (lvD l c i).length ≤ 2 * l.length := by
  unfold lvD
  have h1 : ∀ k : List Srf, (k.flatMap lvDmg).length ≤ 2 * k.length := by
    intro k
    induction k with
    | nil => simp
    | cons s k ih =>
      have : (lvDmg s).length ≤ 2 := by unfold lvDmg dmgL; split <;> (try split) <;> simp
      simp only [List.flatMap_cons, List.length_append, List.length_cons]; omega
  have h2 := h1 ((l.take i).filter (fun s => s.cl == c))
  have h3 : ((l.take i).filter (fun s => s.cl == c)).length ≤ l.length := Nat.le_trans (List.length_filter_le _ _) (by rw [List.length_take]; omega)
  omega
/-- Destroy of one that is there. -/
def opD (n : Int) : Opn := ⟨2, n, 0, 0, 0, 0, [], 0⟩
theorem kchg_D {l : List Srf} {s : Srf} (hs : s ∈ l) : kchg l s.cl (opD s.num) = (delS l s.cl s.num, true) := by
  obtain ⟨t, ht, _, _⟩ := key_at (l := l) (c := s.cl) (n := s.num) (List.mem_map.2 ⟨s, hs, rfl⟩)
  simp [kchg, opD, ht]
theorem dmgO_D {l : List Srf} {s : Srf} (hs : s ∈ l) (hn : (l.map skey).Nodup) : dmgO l s.cl (opD s.num) = lvDmg s := by
  unfold dmgO lvDmg
  rw [kchg_D hs]
  rw [show covR l s.cl (opD s.num).surf = rectS s from covR_mem hs hn]
  rw [show covR (delS l s.cl s.num) s.cl (opD s.num).surf = zrc from covR_not (by
    show (s.cl, s.num) ∉ _
    rw [delS_keys, List.mem_filter]
    simp)]
end Go.Proofs.Ytfnockbgkcgpkaa
set_option linter.all false
namespace Go.Proofs.Ytfnockbgkcgpkaa
open Go.RowKit Go.Proofs.Panes
set_option maxRecDepth 100000

/-- A buffer. -/
structure Buf where
  px : List Int
  st : List Bool
  begun : Int
/-- The frame that is painted. -/
structure Frm where
  buf : Nat
  marks : List (Int × Int)
  left : List (Int × Int)
/-- The three buffers, and the frame, if there is one. -/
structure Frs where
  W : Nat
  H : Nat
  b : Nat → Buf
  front : Nat
  frame : Option Frm
  due : Bool
  marks : List (Int × Int)

def pcell (b n : Nat) : Value := .slice (some ⟨b, 0, none⟩) n n
/-- Where things lie: the buffers' rows, the frame's block and its two slices, the marks that wait. -/
structure Fl where
  pb : Nat → Nat
  st : Nat → Nat
  fb : Nat
  fm : Value
  fl : Value
  mv : Value
def fptr (f : Frs) (v : Fl) : Value := match f.frame with
  | none => .pointer none
  | some _ => .pointer (some ⟨v.fb, 0, none⟩)
def frcells (f : Frs) (v : Fl) : Array Value :=
  #[.int .i64 0, .int .i64 0, .int .i64 (f.W : Int), .int .i64 (f.H : Int),
    pcell (v.pb 0) (f.W * f.H), pcell (v.st 0) (f.W * f.H), .int .i64 (f.b 0).begun,
    pcell (v.pb 1) (f.W * f.H), pcell (v.st 1) (f.W * f.H), .int .i64 (f.b 1).begun,
    pcell (v.pb 2) (f.W * f.H), pcell (v.st 2) (f.W * f.H), .int .i64 (f.b 2).begun,
    .int .i64 (f.front : Int), fptr f v, .bool f.due, v.mv]
/-- Dots that are left, in blocks of C. -/
def RdD (C : Nat → Prop) (w : World) (v : Value) (l : List (Int × Int)) : Prop :=
  ∃ ao cap, v = .slice ao l.length cap ∧ l.length ≤ cap ∧ cap ≤ maxLen ∧ (l ≠ [] → ∃ b off cs, ao = some ⟨b, off, none⟩ ∧ C b ∧ w.heap[b]? = some (.cells cs 166 (0, 0)) ∧ ∀ j k, l[j]? = some k → w.cell? ⟨b, off + j * 2, none⟩ = some (.int .i64 k.1) ∧ w.cell? ⟨b, off + j * 2 + 1, none⟩ = some (.int .i64 k.2))
theorem RdD.but {C S : Nat → Prop} {w w' : World} {v : Value} {l : List (Int × Int)} (h : RdD C w v l) (hb : But S w w') (hs : ∀ k, C k → ¬ S k) : RdD C w' v l := by
  obtain ⟨ao, cap, e, h1, h2, h3⟩ := h
  refine ⟨ao, cap, e, h1, h2, fun hne => ?_⟩
  obtain ⟨b, off, cs, e, hc, hg, hcell⟩ := h3 hne
  have hbl := hb.block b (lt_of_heap hg) (hs b hc)
  exact ⟨b, off, cs, e, hc, hbl.trans hg, fun j k hk => ⟨(World.cell?_of_block hbl).trans (hcell j k hk).1, (World.cell?_of_block hbl).trans (hcell j k hk).2⟩⟩
theorem RdD.mono {C C' : Nat → Prop} {w : World} {v : Value} {l : List (Int × Int)} (h : RdD C w v l) (hC : ∀ k, C k → C' k) : RdD C' w v l := by
  obtain ⟨ao, cap, e, h1, h2, h3⟩ := h
  refine ⟨ao, cap, e, h1, h2, fun hne => ?_⟩
  obtain ⟨b, off, cs, e, hc, hg, hcell⟩ := h3 hne
  exact ⟨b, off, cs, e, hC b hc, hg, hcell⟩

/-- The frames, in blocks of C. -/
structure Fr (C : Nat → Prop) (w : World) (b0 : Nat) (f : Frs) (v : Fl) : Prop where
  blk : w.heap[b0]? = some (.cells (frcells f v) 139 (0, 0))
  cb : C b0
  px : ∀ i, i < 3 → w.heap[v.pb i]? = some (.cells ((f.b i).px.map (Value.int .i64)).toArray 3 (0, 0)) ∧ C (v.pb i) ∧ (f.b i).px.length = f.W * f.H
  st : ∀ i, i < 3 → w.heap[v.st i]? = some (.cells ((f.b i).st.map Value.bool).toArray 4 (0, 0)) ∧ C (v.st i) ∧ (f.b i).st.length = f.W * f.H
  pinj : ∀ i j, i < 3 → j < 3 → v.pb i = v.pb j → i = j
  sinj : ∀ i j, i < 3 → j < 3 → v.st i = v.st j → i = j
  mks : Own2 w 0 95 v.mv (f.marks.map k2)
  mc : ∀ k, v.mv.ownBlock = some k → C k
  fr : ∀ g, f.frame = some g → w.heap[v.fb]? = some (.cells #[.int .i64 (g.buf : Int), v.fm, v.fl] 152 (0, 0)) ∧ C v.fb ∧ g.buf < 3 ∧ Own2 w 0 95 v.fm (g.marks.map k2) ∧ (∀ k, v.fm.ownBlock = some k → C k ∧ v.mv.ownBlock ≠ some k) ∧ RdD C w v.fl g.left
theorem Fr.but {C S : Nat → Prop} {w w' : World} {b0 : Nat} {f : Frs} {v : Fl} (h : Fr C w b0 f v) (hb : But S w w') (hS : ∀ k, C k → ¬ S k) : Fr C w' b0 f v where
  blk := hb.heap h.blk (hS _ h.cb)
  cb := h.cb
  px := fun i hi => ⟨hb.heap (h.px i hi).1 (hS _ (h.px i hi).2.1), (h.px i hi).2⟩
  st := fun i hi => ⟨hb.heap (h.st i hi).1 (hS _ (h.st i hi).2.1), (h.st i hi).2⟩
  pinj := h.pinj
  sinj := h.sinj
  mks := row_but h.mks hb (fun k hk => hS k (h.mc k hk))
  mc := h.mc
  fr := fun g hg => by
    obtain ⟨h1, h2, h3, h4, h5, h6⟩ := h.fr g hg
    exact ⟨hb.heap h1 (hS _ h2), h2, h3, row_but h4 hb (fun k hk => hS k (h5 k hk).1), h5, h6.but hb hS⟩
theorem Fr.mono {C C' : Nat → Prop} {w : World} {b0 : Nat} {f : Frs} {v : Fl} (h : Fr C w b0 f v) (hC : ∀ k, C k → C' k) : Fr C' w b0 f v where
  blk := h.blk
  cb := hC _ h.cb
  px := fun i hi => ⟨(h.px i hi).1, hC _ (h.px i hi).2.1, (h.px i hi).2.2⟩
  st := fun i hi => ⟨(h.st i hi).1, hC _ (h.st i hi).2.1, (h.st i hi).2.2⟩
  pinj := h.pinj
  sinj := h.sinj
  mks := h.mks
  mc := fun k hk => hC k (h.mc k hk)
  fr := fun g hg => by
    obtain ⟨h1, h2, h3, h4, h5, h6⟩ := h.fr g hg
    exact ⟨h1, hC _ h2, h3, h4, fun k hk => ⟨hC k (h5 k hk).1, (h5 k hk).2⟩, h6.mono hC⟩
theorem Fr.below {C : Nat → Prop} {w w' : World} {b0 : Nat} {f : Frs} {v : Fl} (h : Fr C w b0 f v) (hb : Below w.heap.size w w') : Fr C w' b0 f v := h.but (S := fun _ => False) (.of_below hb) (fun _ _ h => h)
/-- Another due, or another list of marks that wait: only the block itself has turned. -/
theorem Fr.set {C : Nat → Prop} {w w' : World} {b0 : Nat} {f : Frs} {v : Fl} (h : Fr C w b0 f v) (hb : But (fun k => k = b0) w w') (d : Bool) (hblk : w'.heap[b0]? = some (.cells (frcells { f with due := d } v) 139 (0, 0))) : Fr C w' b0 { f with due := d } v where
  blk := hblk
  cb := h.cb
  px := fun i hi => ⟨hb.heap (h.px i hi).1 (fun e => by have := (h.px i hi).1; rw [e, h.blk] at this; simp at this), (h.px i hi).2⟩
  st := fun i hi => ⟨hb.heap (h.st i hi).1 (fun e => by have := (h.st i hi).1; rw [e, h.blk] at this; simp at this), (h.st i hi).2⟩
  pinj := h.pinj
  sinj := h.sinj
  mks := row_but h.mks hb (fun k hk e => row_kind h.mks h.blk (by decide) (by rw [hk, e]))
  mc := h.mc
  fr := fun g hg => by
    obtain ⟨h1, h2, h3, h4, h5, h6⟩ := h.fr g hg
    refine ⟨hb.heap h1 (fun e => by have := h1; rw [e, h.blk] at this; simp at this), h2, h3, row_but h4 hb (fun k hk e => row_kind h4 h.blk (by decide) (by rw [hk, e])), h5, ?_⟩
    obtain ⟨ao, cap, e, q1, q2, q3⟩ := h6
    refine ⟨ao, cap, e, q1, q2, fun hne => ?_⟩
    obtain ⟨b, off, cs, e, hc, hg', hcell⟩ := q3 hne
    have hbl := hb.block b (lt_of_heap hg') (fun e => by have := hg'; rw [e, h.blk] at this; simp at this)
    exact ⟨b, off, cs, e, hc, hbl.trans hg', fun j k hk => ⟨(World.cell?_of_block hbl).trans (hcell j k hk).1, (World.cell?_of_block hbl).trans (hcell j k hk).2⟩⟩

set_option maxHeartbeats 1000000 in
theorem Request_any {C : Nat → Prop} {w : World} {b0 : Nat} {f : Frs} {v : Fl} (h : Fr C w b0 f v) :
    Calls Try.prog 118 #[.pointer (some ⟨b0, 0, none⟩)] w fun e w' => (∃ u, e = .returned u) ∧ Fr C w' b0 { f with due := true } v ∧ But (fun k => k = b0) w w' := by
  have c15 : w.cell? ⟨b0, 15, none⟩ = some (.bool f.due) := blk_cell h.blk 15
  have f0 : ∀ j, w.frozen? ⟨b0, j, none⟩ = false := fun j => blk_thaw h.blk j
  have hb : But (fun k => k = b0) w (w.setCell ⟨b0, 15, none⟩ (.bool true)) := (But.refl (fun k => k = b0) w).setCell (p := ⟨b0, 15, none⟩) (.inl rfl) _
  have HF := hide (h.set hb true (blk_set (i := 15) h.blk _))
  have HB := hide hb
  clear h hb
  go_enter Try.func118, Try.ntmps118
  go_wp2
  go_end0
  exact ⟨⟨_, rfl⟩, unhide HF, unhide HB⟩
end Go.Proofs.Ytfnockbgkcgpkaa
set_option linter.all false
namespace Go.Proofs.Ytfnockbgkcgpkaa
open Go.RowKit Go.Proofs.Panes
set_option maxRecDepth 100000

theorem info_fired : (Try.prog.info? 95).map (fun i => (i.zero, i.size, i.bytes)) = some (some (.agg #[.int .i64 0, .int .i64 0]), 2, 16) := by kernel_rfl
/-- The marks that wait are others; what is new may be theirs. -/
theorem Fr.marked {C C' : Nat → Prop} {w w' : World} {b0 : Nat} {f : Frs} {v : Fl} (h : Fr C w b0 f v) (hC : ∀ k, C k → C' k) {mv : Value} {ms : List (Int × Int)} (hb : But (fun k => k = b0 ∨ v.mv.ownBlock = some k) w w')
    (hblk : w'.heap[b0]? = some (.cells (frcells { f with marks := ms } { v with mv := mv }) 139 (0, 0))) (hrow : Own2 w' 0 95 mv (ms.map k2)) (hmc : ∀ k, mv.ownBlock = some k → C' k) (hmf : ∀ g, f.frame = some g → ∀ k, v.fm.ownBlock = some k → mv.ownBlock ≠ some k) : Fr C' w' b0 { f with marks := ms } { v with mv := mv } where
  blk := hblk
  cb := hC _ h.cb
  px := fun i hi => by
    obtain ⟨h1, h2, h3⟩ := h.px i hi
    refine ⟨hb.heap h1 ?_, hC _ h2, h3⟩
    rintro (e | e)
    · have := h1; rw [e, h.blk] at this; simp at this
    · exact row_kind h.mks h1 (by decide) e
  st := fun i hi => by
    obtain ⟨h1, h2, h3⟩ := h.st i hi
    refine ⟨hb.heap h1 ?_, hC _ h2, h3⟩
    rintro (e | e)
    · have := h1; rw [e, h.blk] at this; simp at this
    · exact row_kind h.mks h1 (by decide) e
  pinj := h.pinj
  sinj := h.sinj
  mks := hrow
  mc := hmc
  fr := fun g hg => by
    obtain ⟨h1, h2, h3, h4, h5, h6⟩ := h.fr g hg
    refine ⟨hb.heap h1 ?_, hC _ h2, h3, row_but h4 hb ?_, fun k hk => ⟨hC k (h5 k hk).1, hmf g hg k hk⟩, ?_⟩
    · rintro (e | e)
      · have := h1; rw [e, h.blk] at this; simp at this
      · exact row_kind h.mks h1 (by decide) e
    · rintro k hk (e | e)
      · exact row_kind h4 h.blk (by decide) (by rw [hk, e])
      · exact (h5 k hk).2 e
    · obtain ⟨ao, cap, e, q1, q2, q3⟩ := h6
      refine ⟨ao, cap, e, q1, q2, fun hne => ?_⟩
      obtain ⟨b, off, cs, e, hc, hg', hcell⟩ := q3 hne
      have hbl := hb.block b (lt_of_heap hg') (by
        rintro (e | e)
        · have := hg'; rw [e, h.blk] at this; simp at this
        · exact row_kind h.mks hg' (by decide) e)
      exact ⟨b, off, cs, e, hC b hc, hbl.trans hg', fun j k hk => ⟨(World.cell?_of_block hbl).trans (hcell j k hk).1, (World.cell?_of_block hbl).trans (hcell j k hk).2⟩⟩

set_option maxHeartbeats 2000000 in
theorem Ask_any {C : Nat → Prop} {w : World} {b0 : Nat} {f : Frs} {v : Fl} (h : Fr C w b0 f v) (hCl : ∀ k, C k → k < w.heap.size) (c m : Int) (hl : f.marks.length ≤ 1000000000) :
    Calls Try.prog 119 #[.pointer (some ⟨b0, 0, none⟩), .agg #[.int .i64 c, .int .i64 m]] w fun e w' => (∃ u, e = .returned u) ∧ (∃ v', Fr (grow C w w') w' b0 { f with marks := f.marks ++ [(c, m)] } v') ∧ But C w w' := by
  obtain ⟨ro, rc, hov⟩ := row_slice h.mks
  obtain ⟨n, hn⟩ : ∃ n, n = (f.marks.map k2).length := ⟨_, rfl⟩
  rw [← hn] at hov
  obtain ⟨w1, hw1⟩ : ∃ w1 : World, w1 = w.alloc (.cells #[.int .i64 c, .int .i64 m] 95) := ⟨_, rfl⟩
  have hB1 : Below w.heap.size w w1 := by rw [hw1]; exact (Below.refl _ w).alloc (Nat.le_refl _) _
  have hK1 : w1.heap[w.heap.size]? = some (.cells #[.int .i64 c, .int .i64 m] 95) := by rw [hw1]; exact new_at _ _ _ rfl
  have hF1 := h.below hB1
  obtain ⟨W4, hW4⟩ : ∃ W4 : World, W4 = (w1.alloc (.cells #[.int .i64 c, .int .i64 m] 95)).drew := ⟨_, rfl⟩
  have hB4 : Below w1.heap.size w1 W4 := by rw [hW4]; exact ((Below.refl _ w1).alloc (Nat.le_refl _) _).drew
  have hN4 : W4.heap[w1.heap.size]? = some (.cells #[.int .i64 c, .int .i64 m] 95) := by rw [hW4]; exact new_at w1 _ _ rfl
  have hF4 := hF1.below hB4
  obtain ⟨i0', hi', hz0, hz1, hz2⟩ := info_parts info_fired
  obtain ⟨v', w5, hrun, hO5, hg5, -, hv5⟩ := run_append_own_at (P := Try.prog) (w := W4) 0 53 53 95 i0' _ 2 16 Try.underlying53 hi' hz0 hz1 hz2 rfl (by decide) v.mv _ _ hF4.mks ⟨w1.heap.size, 0, none⟩ 1 1 [.int .i64 c, .int .i64 m] rfl (newsN hN4) (by simp [Value.oneCell']) (by simp; simp only [maxLen]; omega) (by simp; omega) (Nat.zero_le _)
  obtain ⟨g', cap', hv'⟩ := row_some hO5 (by omega)
  obtain ⟨m5, hm5⟩ : ∃ m5, m5 = (f.marks.map k2).length + 1 := ⟨_, rfl⟩
  rw [← hm5] at hv' hO5
  subst hv'
  have hBg : But (fun k => v.mv.ownBlock = some k) W4 w5 := .of_grown hg5 (fun k e => e)
  have hnb : ¬ v.mv.ownBlock = some b0 := row_kind h.mks h.blk (by decide)
  have hS5 := hBg.heap hF4.blk hnb
  have hlt : b0 < w.heap.size := hCl _ h.cb
  have s1 : b0 < w1.heap.size := Nat.lt_of_lt_of_le hlt hB1.size
  have s2 : w.heap.size < w1.heap.size := lt_of_heap hK1
  have c16 : w1.cell? ⟨b0, 16, none⟩ = some v.mv := blk_cell hF1.blk 16
  have y0 : w1.cell? ⟨w.heap.size, 0, none⟩ = some (.int .i64 c) := blk_cell hK1 0
  have y1 : w1.cell? ⟨w.heap.size, 1, none⟩ = some (.int .i64 m) := blk_cell hK1 1
  have s3 : (w1.alloc (.cells #[.int .i64 c, .int .i64 m] 95)).cell? ⟨b0, 16, none⟩ = some v.mv := ((Below.refl w1.heap.size w1).alloc (Nat.le_refl _) _).cell s1 |>.trans c16
  have r1 : w5.cell? ⟨b0, 16, none⟩ = some v.mv := blk_cell hS5 16
  have r2 : ∀ j, w5.frozen? ⟨b0, j, none⟩ = false := fun j => blk_thaw hS5 j
  have hE : (∃ v', Fr (grow C w (w5.setCell ⟨b0, 16, none⟩ (.slice (some ⟨g', 0, none⟩) m5 cap'))) (w5.setCell ⟨b0, 16, none⟩ (.slice (some ⟨g', 0, none⟩) m5 cap')) b0 { f with marks := f.marks ++ [(c, m)] } v') ∧ But C w (w5.setCell ⟨b0, 16, none⟩ (.slice (some ⟨g', 0, none⟩) m5 cap')) := by
    have sz1 := hB1.size
    have sz4 := hB4.size
    have sz5 := hBg.size
    have hsz : (w5.setCell ⟨b0, 16, none⟩ (.slice (some ⟨g', 0, none⟩) m5 cap')).heap.size = w5.heap.size := by simp [World.setCell]
    have hmlt : ∀ k, v.mv.ownBlock = some k → k < w.heap.size := fun k hk => hCl k (h.mc k hk)
    have hb : But (fun k => k = b0 ∨ v.mv.ownBlock = some k) w (w5.setCell ⟨b0, 16, none⟩ (.slice (some ⟨g', 0, none⟩) m5 cap')) := (((But.of_below hB1).trans (.of_below hB4)).trans (hBg.wide (fun k _ e => .inr e))).setCell (p := ⟨b0, 16, none⟩) (.inl (.inl rfl)) _
    have hOc : c2 (f.marks.map k2) ++ [.int .i64 c, .int .i64 m] = c2 ((f.marks ++ [(c, m)]).map k2) := by rw [List.map_append, c2_append]; rfl
    have hm5' : m5 = ((f.marks ++ [(c, m)]).map k2).length := by rw [hm5]; simp
    have hO5' : Own2 w5 0 95 (.slice (some ⟨g', 0, none⟩) m5 cap') ((f.marks ++ [(c, m)]).map k2) := by
      rw [hOc] at hO5
      rw [Own2, ← hm5']; exact hO5
    have hgb : ¬ g' = b0 := fun e => by
      rcases hv5 with q | q
      · exact hnb (by rw [← q, ← e]; rfl)
      · have := Option.some.inj (show some g' = some W4.heap.size from q)
        omega
    have hO6 : Own2 (w5.setCell ⟨b0, 16, none⟩ (.slice (some ⟨g', 0, none⟩) m5 cap')) 0 95 (.slice (some ⟨g', 0, none⟩) m5 cap') ((f.marks ++ [(c, m)]).map k2) := row_but hO5' ((But.refl (fun k => k = b0) w5).setCell (p := ⟨b0, 16, none⟩) (.inl rfl) _) (fun k hk e => by cases hk; exact hgb e)
    refine ⟨⟨{ v with mv := .slice (some ⟨g', 0, none⟩) m5 cap' }, h.marked grow_old hb (blk_set (i := 16) hS5 _) hO6 ?_ ?_⟩, hb.wide ?_⟩
    · intro k hk
      rcases hv5 with q | q
      · exact .inl (h.mc k (by rw [← q]; exact hk))
      · have hk' := (World.ownsRow.lt hO5' k hk).2
        rw [hk] at q
        have := Option.some.inj q
        exact .inr ⟨by omega, by rw [hsz]; exact hk'⟩
    · intro g hg k hk e
      obtain ⟨-, -, -, -, h5, -⟩ := h.fr g hg
      rcases hv5 with q | q
      · exact (h5 k hk).2 (by rw [← q]; exact e)
      · rw [e] at q
        have := Option.some.inj q
        have := hCl k (h5 k hk).1
        omega
    · rintro k _ (e | e)
      · rw [e]; exact h.cb
      · exact h.mc k e
  have HE := hide hE
  have HR := hide hrun
  have HW1 := hide hw1
  rw [hov] at c16 s3 r1 HR
  subst hW4
  clear hE hrun hw1 hB1 hF1 hB4 hN4 hF4 hi' hz0 hz1 hz2 hO5 hg5 hv5 hm5 hBg hnb hS5 h hn hov hK1
  go_enter Try.func119, Try.ntmps119
  go_wp2
  rw [← unhide HW1]
  go_region_law (refine step_append_at (by kernel_rfl) (.tmp 8) (.tmp 10) 53 53 (by kernel_rfl) (by kernel_rfl) (.slice ro n rc) (.slice (some ⟨w1.heap.size, 0, none⟩) 1 1) _ _ (by kernel_rfl) (by kernel_rfl) (unhide HR) ?_)
  all_goals
    (try simp only [Exit.then])
    (try go_simp)
    (try go_wp2)
    go_end0
    exact ⟨⟨_, rfl⟩, unhide HE⟩
end Go.Proofs.Ytfnockbgkcgpkaa
set_option linter.all false
namespace Go.Proofs.Ytfnockbgkcgpkaa
open Go.RowKit Go.Proofs.Panes
set_option maxRecDepth 100000

/-- A frame that is whole is shown. -/
def flipF (f : Frs) : Frs × Int × List (Int × Int) := match f.frame with
  | none => (f, 0, [])
  | some g => if g.left = [] then ({ f with front := g.buf, frame := none }, 1, g.marks) else (f, 0, [])
/-- Blocks without the row of a value. -/
def less (C : Nat → Prop) (v : Value) : Nat → Prop := fun k => C k ∧ v.ownBlock ≠ some k
theorem less_nil (C : Nat → Prop) : less C (.slice none 0 0) = C := by funext k; simp [less, Value.ownBlock]
/-- The frame has been taken out. -/
theorem Fr.shown {C : Nat → Prop} {w w' : World} {b0 : Nat} {f : Frs} {v : Fl} {g : Frm} (h : Fr C w b0 f v) (hg : f.frame = some g) (hb : But (fun k => k = b0) w w') (n : Nat)
    (hblk : w'.heap[b0]? = some (.cells (frcells { f with front := n, frame := none } v) 139 (0, 0))) : Fr (less C v.fm) w' b0 { f with front := n, frame := none } v := by
  obtain ⟨h1, h2, h3, h4, h5, h6⟩ := h.fr g hg
  refine ⟨hblk, ⟨h.cb, row_kind h4 h.blk (by decide)⟩, ?_, ?_, h.pinj, h.sinj, row_but h.mks hb (fun k hk e => row_kind h.mks h.blk (by decide) (by rw [hk, e])), fun k hk => ⟨h.mc k hk, fun e => (h5 k e).2 hk⟩, fun g' hg' => by simp at hg'⟩
  · intro i hi
    obtain ⟨q1, q2, q3⟩ := h.px i hi
    exact ⟨hb.heap q1 (fun e => by have := q1; rw [e, h.blk] at this; simp at this), ⟨q2, row_kind h4 q1 (by decide)⟩, q3⟩
  · intro i hi
    obtain ⟨q1, q2, q3⟩ := h.st i hi
    exact ⟨hb.heap q1 (fun e => by have := q1; rw [e, h.blk] at this; simp at this), ⟨q2, row_kind h4 q1 (by decide)⟩, q3⟩

set_option maxHeartbeats 2000000 in
theorem Flip_any {C : Nat → Prop} {w : World} {b0 : Nat} {f : Frs} {v : Fl} (h : Fr C w b0 f v) :
    Calls Try.prog 62 #[.pointer (some ⟨b0, 0, none⟩)] w fun e w' => (∃ fv, e = .returned (.tuple #[.int .i64 (flipF f).2.1, fv]) ∧ Fr (less C fv) w' b0 (flipF f).1 v ∧ Own2 w' 0 95 fv ((flipF f).2.2.map k2) ∧ ∀ k, fv.ownBlock = some k → C k) ∧ But (fun k => k = b0) w w' := by
  have c14 : w.cell? ⟨b0, 14, none⟩ = some (fptr f v) := blk_cell h.blk 14
  have c13 : w.cell? ⟨b0, 13, none⟩ = some (.int .i64 (f.front : Int)) := blk_cell h.blk 13
  have f0 : ∀ j, w.frozen? ⟨b0, j, none⟩ = false := fun j => blk_thaw h.blk j
  have lb : b0 < w.heap.size := lt_of_heap h.blk
  cases hfr : f.frame with
  | none =>
    have e1 : flipF f = (f, 0, []) := by simp [flipF, hfr]
    rw [e1]
    simp only [fptr, hfr] at c14
    have HH := hide h
    clear h e1
    go_enter Try.func62, Try.ntmps62
    go_wp2
    go_ret2
    exact ⟨⟨.slice none 0 0, rfl, by rw [less_nil]; exact unhide HH, ⟨rfl, .inl ⟨rfl, rfl⟩⟩, fun k hk => by simp [Value.ownBlock] at hk⟩, .refl _ _⟩
  | some g =>
    simp only [fptr, hfr] at c14
    obtain ⟨h1, h2, h3, h4, h5, h6⟩ := h.fr g hfr
    have d0 : w.cell? ⟨v.fb, 0, none⟩ = some (.int .i64 (g.buf : Int)) := blk_cell h1 0
    have d1 : w.cell? ⟨v.fb, 1, none⟩ = some v.fm := blk_cell h1 1
    have d2 : w.cell? ⟨v.fb, 2, none⟩ = some v.fl := blk_cell h1 2
    have hne : ¬ v.fb = b0 := fun e => by have := h1; rw [e, h.blk] at this; simp at this
    obtain ⟨ao, cap, el, q1, q2, q3⟩ := h6
    rw [el] at d2
    obtain ⟨ro, rc, em⟩ := row_slice h4
    obtain ⟨mn, hmn⟩ : ∃ mn, mn = (g.marks.map k2).length := ⟨_, rfl⟩
    rw [← hmn] at em
    rw [em] at d1
    obtain ⟨ln, hln⟩ : ∃ ln, ln = g.left.length := ⟨_, rfl⟩
    rw [← hln] at d2
    by_cases hl : g.left = []
    · have e1 : flipF f = ({ f with front := g.buf, frame := none }, 1, g.marks) := by simp [flipF, hfr, hl]
      rw [e1]
      have hb : But (fun k => k = b0) w (((w.setCell ⟨b0, 13, none⟩ (.int .i64 (g.buf : Int))).setCell ⟨b0, 14, none⟩ (.pointer none))) := ((But.refl (fun k => k = b0) w).setCell (p := ⟨b0, 13, none⟩) (.inl rfl) _).setCell (p := ⟨b0, 14, none⟩) (.inl rfl) _
      have hF := h.shown hfr hb g.buf (blk_set (i := 14) (blk_set (i := 13) h.blk _) _)
      have hO : Own2 (((w.setCell ⟨b0, 13, none⟩ (.int .i64 (g.buf : Int))).setCell ⟨b0, 14, none⟩ (.pointer none))) 0 95 v.fm (g.marks.map k2) := row_but h4 hb (fun k hk e => row_kind h4 h.blk (by decide) (by rw [hk, e]))
      have hE : (∃ fv, fv = (Value.slice ro mn rc) ∧ Fr (less C fv) ((w.setCell ⟨b0, 13, none⟩ (.int .i64 (g.buf : Int))).setCell ⟨b0, 14, none⟩ (.pointer none)) b0 { f with front := g.buf, frame := none } v ∧ Own2 ((w.setCell ⟨b0, 13, none⟩ (.int .i64 (g.buf : Int))).setCell ⟨b0, 14, none⟩ (.pointer none)) 0 95 fv (g.marks.map k2) ∧ ∀ k, fv.ownBlock = some k → C k) := ⟨_, em.symm ▸ rfl, hF, hO, fun k hk => (h5 k hk).1⟩
      have HE := hide hE
      have HB := hide hb
      have hl0 : ln = 0 := by rw [hln, hl]; rfl
      subst hl0
      clear h hF hO hE hb h1 h4 h5 q3 hmn hln el em e1
      go_enter Try.func62, Try.ntmps62
      go_wp2
      go_quiet (fail)
      go_wp2
      go_ret2
      obtain ⟨fv, hfv, hr⟩ := unhide HE
      exact ⟨⟨fv, by rw [hfv]; rfl, hr.1.below (below_drewN (Below.refl _ _) nq), hr.2⟩, (unhide HB).drewN _⟩
    · have e1 : flipF f = (f, 0, []) := by simp [flipF, hfr, hl]
      rw [e1]
      have HH := hide h
      have hl0 : 0 < ln := by rw [hln]; exact List.length_pos_iff.2 hl
      have hl1 : (0 : Int) < (ln : Int) := by omega
      clear h e1 h1 h4 h5 q3 hmn hln el em
      go_enter Try.func62, Try.ntmps62
      go_wp2
      go_ret2
      exact ⟨⟨.slice none 0 0, rfl, by rw [less_nil]; exact unhide HH, ⟨rfl, .inl ⟨rfl, rfl⟩⟩, fun k hk => by simp [Value.ownBlock] at hk⟩, .refl _ _⟩
end Go.Proofs.Ytfnockbgkcgpkaa
set_option linter.all false
namespace Go.Proofs.Ytfnockbgkcgpkaa
open Go.RowKit Go.Proofs.Panes
set_option maxRecDepth 100000

/-- The state between two rounds of Leave. -/
structure LvSt (C U : Nat → Prop) (w wr : World) (sb : Nat) (beh : Int) (l : List Srf) (c : Int) (cv dv : Value) (i : Nat) (C' : Nat → Prop) : Prop where
  gr : Gr C C' w wr
  sc : ScnX C' U wr sb beh (lvI l c i)
  cl : Own2 wr w.heap.size 143 cv ((l.map skey).map k2)
  cf : ∀ k, cv.ownBlock = some k → ¬ C' k
  dm : Own wr w.heap.size dv (lvD l c i)
  df : ∀ k, dv.ownBlock = some k → ¬ C' k
  but : But C w wr

set_option maxHeartbeats 4000000 in
theorem Leave_any {C U : Nat → Prop} {w : World} {sb : Nat} {beh : Int} {l : List Srf} (h : ScnX C U w sb beh l) (hCU : ∀ k, C k → ¬ U k) (hCl : ∀ k, C k → k < w.heap.size) (hUl : ∀ k, U k → k < w.heap.size) (hl : l.length ≤ 1000) (c : Int) :
    Calls Try.prog 57 #[.pointer (some ⟨sb, 0, none⟩), .int .i64 c] w (DmgPost C U w sb beh (l.filter fun s => !(s.cl == c)) ((l.filter fun s => s.cl == c).flatMap lvDmg)) := by
  have hnd := h.nd
  have h' := h
  obtain ⟨mb, ov, L, clock, bk, pv, hs⟩ := h
  have c1 : w.cell? ⟨sb, 1, none⟩ = some ov := blk_cell hs.scm.blk 1
  have l1 : sb < w.heap.size := lt_of_heap hs.scm.blk
  have hk2 : (l.map fun s => k2 (skey s)) = (l.map skey).map k2 := by rw [List.map_map]; rfl
  have hrow := hs.row
  rw [hk2] at hrow
  have HCl := hide (kclone_any hrow (k2_one _) (by simp; omega))
  obtain ⟨P, hP⟩ : ∃ P, P = DmgPost C U w sb beh (l.filter fun s => !(s.cl == c)) ((l.filter fun s => s.cl == c).flatMap lvDmg) := ⟨_, rfl⟩
  rw [← hP]
  have HP := hide hP
  have HH := hide h'
  have HND := hide hnd
  obtain ⟨n, hn⟩ : ∃ n, n = l.length := ⟨_, rfl⟩
  have HN := hide hn
  have hn1 : n ≤ 1000 := by omega
  clear hs h' hnd hk2 hrow hP hn hl
  go_enter Try.func57, Try.ntmps57
  go_wp2_with (go_at_call 86; refine (unhide HCl).mono ?_; rintro e w1 ⟨⟨cv, rfl, hcv⟩, hb1⟩; obtain ⟨cg, cc, hcf⟩ := row_slice hcv; rw [List.length_map, List.length_map, ← unhide HN] at hcf; subst hcf; have HCV := hide hcv; have HB1 := hide hb1; clear hcv hb1)
  go_loopw [5, 14] (fun a b wr => ∃ (i : Nat) (C' : Nat → Prop), b = .int .i64 (i : Int) ∧ i ≤ n ∧ LvSt C U w wr sb beh l c (.slice cg n cc) a i C') (fun a b _ => n - (intOf b).toNat)
  case atStart =>
    refine ⟨0, C, rfl, Nat.zero_le _, .refl _ _ _, ?_, unhide HCV, fun k hk hc => ?_, ⟨rfl, .inl ⟨rfl, rfl⟩⟩, fun k hk => by simp [Value.ownBlock] at hk, .of_below (unhide HB1)⟩
    · rw [show lvI l c 0 = l by simp [lvI]]; exact (unhide HH).below (unhide HB1)
    · have := (World.ownsRow.lt (unhide HCV) k hk).1; have := hCl k hc; omega
  case round =>
    obtain ⟨i, C', rfl, hin, st⟩ := hrel
    by_cases hlt : i < n
    · obtain ⟨s, hs⟩ : ∃ s, l[i]? = some s := ⟨l[i]'(by rw [← unhide HN]; exact hlt), by simp⟩
      obtain ⟨g, cap, hg⟩ := row_some st.cl (by simp; rw [← unhide HN]; omega)
      simp only [Value.slice.injEq] at hg
      obtain ⟨rfl, -, -⟩ := hg
      obtain ⟨q0, q1⟩ := own2_at st.cl (p := k2 (skey s)) (j := i) (by rw [List.getElem?_map, List.getElem?_map, hs]; rfl)
      simp only [k2, skey] at q0 q1
      have lg : g < wr.heap.size := (World.ownsRow.lt st.cl g rfl).2
      have i0 : (0 : Int) ≤ (i : Int) := by omega
      have i1 : (i : Int) < (n : Int) := by omega
      have ST := hide st
      have HS := hide hs
      clear st hs
      by_cases hc : s.cl = c
      · have hsm : s ∈ lvI l c i := lvI_mem (unhide HS)
        have hlen : (lvI l c i).length ≤ 1000 := Nat.le_trans (lvI_sub l c i).length_le (by rw [← unhide HN]; exact hn1)
        obtain ⟨w2, hw2⟩ : ∃ w2 : World, w2 = wr.alloc (.cells #[.int .i64 s.cl, .int .i64 s.num] 143) := ⟨_, rfl⟩
        have hB2 : Below wr.heap.size wr w2 := by rw [hw2]; exact (Below.refl _ wr).alloc (Nat.le_refl _) _
        have hCl' : ∀ k, C' k → k < wr.heap.size := (unhide ST).gr.lt hCl (unhide ST).but.size
        have hCU' : ∀ k, C' k → ¬ U k := (unhide ST).gr.apart hCU hUl
        have hnI : ((lvI l c i).map skey).Nodup := (unhide HND).sublist ((lvI_sub l c i).map skey)
        have hD := Do_any ((unhide ST).sc.below hB2) hCU' (fun k hk => Nat.lt_of_lt_of_le (hCl' k hk) hB2.size) hlen s.cl (opD s.num) none 0 0 ⟨none, 0, rfl, Nat.le_refl _, Nat.zero_le _, fun h => absurd rfl h⟩ (.inr ⟨⟨by simp [opD], by simp [opD]⟩, List.mem_map.2 ⟨s, hsm, rfl⟩⟩)
        rw [kchg_D hsm, dmgO_D hsm hnI] at hD
        unfold ovalO oval opD at hD
        simp only at hD
        have HD := hide hD
        have HW2 := hide hw2
        have HB2 := hide hB2
        have HCl' := hide hCl'
        have HCU' := hide hCU'
        obtain rfl := hc
        have HLen := hide (show (lvD l s.cl i).length + (lvDmg s).length ≤ 1000000000 by
          have h1 := lvD_len l s.cl i
          have h2 : (lvDmg s).length ≤ 2 := by unfold lvDmg dmgL; split <;> (try split) <;> simp
          have h3 := unhide HN
          omega)
        clear hD hw2 hB2 hCl' hCU' hsm hlen hnI
        go_wp2_with (first
          | (go_at_call 87
             rw [← unhide HW2]
             refine (unhide HD).mono ?_
             rintro e w3 ⟨⟨v, C'', rfl, hgr, hsc, hOv, hvf⟩, hb3⟩
             have hO3 : Own w3 w.heap.size u5 (lvD l s.cl i) := Own.but (Own.kept (unhide ST).dm (unhide HB2)) hb3 (fun k hk => (unhide ST).df k hk)
             have hsz3 : w.heap.size ≤ w3.heap.size := Nat.le_trans (unhide ST).but.size (Nat.le_trans (unhide HB2).size hb3.size)
             obtain ⟨v', w4, hrun, hO4, hb4, hv4⟩ := append_rects hO3 hOv (unhide HLen) hsz3
             have HRun := hide hrun
             have HGR := hide hgr
             have HSC := hide hsc
             have HB3 := hide hb3
             have HO3 := hide hO3
             have HO4 := hide hO4
             have HB4 := hide hb4
             have HV4 := hide hv4
             clear hgr hsc hOv hvf hb3 hO3 hrun hO4 hb4 hv4 hsz3)
          | (at_builtin; refine wpList_append_at rfl _ _ 22 22 rfl rfl _ _ _ _ rfl rfl (unhide HRun) ?_))
        go_roundw
        case rel =>
          have st := unhide ST
          have s2 := (unhide HB2).size
          have s3 := (unhide HB3).size
          have s4 := (unhide HB4).size
          have gr3 : Gr C C'' w w3 := st.gr.trans ((unhide HGR).wide s2 (Nat.le_refl _)) st.but.size (Nat.le_trans s2 s3)
          have lt3 := gr3.lt hCl (Nat.le_trans st.but.size (Nat.le_trans s2 s3))
          have hfar : ∀ k, k < wr.heap.size → ¬ C' k → ¬ C'' k := fun k hk hn hc => by
            rcases (unhide HGR).new k hc with q | q
            · exact hn q
            · omega
          have hdf : ∀ k, u5.ownBlock = some k → ¬ C'' k := fun k hk => hfar k (World.ownsRow.lt st.dm k hk).2 (st.df k hk)
          refine ⟨i + 1, C'', by go_num, by omega, gr3.wide (Nat.le_refl _) s4, ?_, ?_, ?_, ?_, ?_, ?_⟩
          · rw [lvI_own (unhide HND) (unhide HS) rfl]
            refine (unhide HSC).but (unhide HB4) (fun k hk e => hdf k e hk) (fun k hu e => ?_)
            have := (World.ownsRow.lt st.dm k e).1
            have := hUl k hu
            omega
          · refine row_but (row_but (row_but st.cl (S := fun _ => False) (.of_below (unhide HB2)) (fun _ _ h => h)) (unhide HB3) (fun k hk => st.cf k hk)) (unhide HB4) (fun k hk e => ?_)
            exact row_apart st.cl st.dm (by decide) hk e
          · exact fun k hk => hfar k (World.ownsRow.lt st.cl k hk).2 (st.cf k hk)
          · rw [lvD_own (unhide HS) rfl]; exact unhide HO4
          · intro k hk hc
            rcases unhide HV4 with q | q
            · exact hdf k (by rw [← q]; exact hk) hc
            · rw [hk] at q
              have := Option.some.inj q
              have := lt3 k hc
              omega
          · refine ((((st.but.trans (.of_below (unhide HB2))).step (unhide HB3) (fun k hk => ?_))).step (unhide HB4) (fun k hk => .inr (World.ownsRow.lt st.dm k hk).1))
            rcases st.gr.new k hk with q | q
            · exact .inl q
            · exact .inr q.1
        case measure => simp [intOf]; omega
      · have hce : (s.cl == c) = false := by simp [hc]
        go_wp2
        go_roundw
        case rel =>
          have st := unhide ST
          have hB2 : Below wr.heap.size wr (wr.alloc (.cells #[.int .i64 s.cl, .int .i64 s.num] 143)) := (Below.refl _ wr).alloc (Nat.le_refl _) _
          refine ⟨i + 1, C', by go_num, by omega, st.gr.wide (Nat.le_refl _) hB2.size, ?_, row_but st.cl (S := fun _ => False) (.of_below hB2) (fun _ _ h => h), st.cf, ?_, st.df, st.but.trans (.of_below hB2)⟩
          · rw [lvI_other (unhide HS) hc]; exact st.sc.below hB2
          · rw [lvD_other (unhide HS) hc]; exact Own.kept st.dm hB2
        case measure => simp [intOf]; omega
    · have : i = n := by omega
      subst this
      have e1 : lvI l c i = l.filter fun s => !(s.cl == c) := by unfold lvI; rw [unhide HN]; simp
      have e2 : lvD l c i = (l.filter fun s => s.cl == c).flatMap lvDmg := by unfold lvD; rw [unhide HN]; simp
      have hfin : P (.returned u5) wr := by
        rw [unhide HP, ← e1, ← e2]
        exact ⟨⟨u5, C', rfl, st.gr, st.sc, st.dm, st.df⟩, st.but⟩
      have HF := hide hfin
      clear st hfin e1 e2
      go_wp2
      exact unhide HF
end Go.Proofs.Ytfnockbgkcgpkaa
