import Derived.Test.YtfnockbgkcgpkaaGreatQbU
import Derived.Laws.ResultCell
import Derived.Laws.Rows
import Derived.BigRegion
import Derived.BigQuiet
import Derived.Deep.QuietTactic
set_option linter.all false
namespace Go.Proofs.YtfnockbgkcgpkaaGreat
open Go.RowKit Go.Proofs.Panes
set_option maxRecDepth 100000

def bagg (x : List Bool) : Value := .agg (x.map Value.bool).toArray
/-- What after tells. -/
def Aft (will : List Bool) (n : Nat) (b : List Bool) (l : List Opn) (e : Ending) : Prop :=
  (∃ x : List Bool, x.length = 4 ∧ vall will l = some (x.take n) ∧ x.drop n = b.drop n ∧ e = .returned (.tuple #[bagg x, .bool true])) ∨ (vall will l = none ∧ e = .returned (.tuple #[.agg #[.bool false, .bool false, .bool false, .bool false], .bool false]))

theorem res_after (tmps : Array Value) (w : World) (g : Nat) (cs : Array Value) (hp : tmps.getD 6 undef = .pointer (some ⟨g, 0, none⟩)) (hg : w.heap[g]? = some (.cells cs 111)) (hs : cs.size = 4) : (results Tryz.f95 tmps).run Tryz.prog w = .ok (.tuple #[.agg cs, tmps.getD 7 undef]) w := by
  rw [results_cell_tmp rfl, hp]
  have h := run_loadVar_row (P := Tryz.prog) w g 111 111 cs (0, 0) _ hg Tryz.underlying111 rfl (by rw [hs]; rfl)
  simp [asAddr, h, Result.andThen]

theorem ne_two (q : Int) : (!(q == 2)) = decide (q ≠ 2) := by by_cases h : q = 2 <;> simp [h]
theorem AftI.zero {w w2 : World} {x : List Bool} (h : AftI w w2 x) (m : Nat) : (((((w2.drewN m).setCell ⟨w.heap.size + 1, 0, none⟩ (.bool false)).setCell ⟨w.heap.size + 1, 1, none⟩ (.bool false)).setCell ⟨w.heap.size + 1, 2, none⟩ (.bool false)).setCell ⟨w.heap.size + 1, 3, none⟩ (.bool false)).heap[w.heap.size + 1]? = some (.cells #[.bool false, .bool false, .bool false, .bool false] 111) := by
  simpa using blk_set (i := 3) (blk_set (i := 2) (blk_set (i := 1) (blk_set (i := 0) (h.below (below_drewN (Below.refl _ _) m)).res (.bool false)) (.bool false)) (.bool false)) (.bool false)
theorem AftI.zeroBel {w w2 : World} {x : List Bool} (h : AftI w w2 x) (m : Nat) : Below w.heap.size w (((((w2.drewN m).setCell ⟨w.heap.size + 1, 0, none⟩ (.bool false)).setCell ⟨w.heap.size + 1, 1, none⟩ (.bool false)).setCell ⟨w.heap.size + 1, 2, none⟩ (.bool false)).setCell ⟨w.heap.size + 1, 3, none⟩ (.bool false)) :=
  ((((h.below (below_drewN (Below.refl _ _) m)).bel.setCell (p := ⟨w.heap.size + 1, 0, none⟩) (Nat.le_succ _) _).setCell (p := ⟨w.heap.size + 1, 1, none⟩) (Nat.le_succ _) _).setCell (p := ⟨w.heap.size + 1, 2, none⟩) (Nat.le_succ _) _).setCell (p := ⟨w.heap.size + 1, 3, none⟩) (Nat.le_succ _) _
theorem AftI.put {w w2 : World} {x : List Bool} (h : AftI w w2 x) (m j : Nat) (b : Bool) : AftI w ((w2.drewN m).setCell ⟨w.heap.size, j, none⟩ (.bool b)) (x.set j b) := by
  have h' := h.below (below_drewN (Below.refl _ _) m)
  refine ⟨by rw [List.length_set]; exact h'.len, ?_, blk_other h'.res (by simp) _, h'.bel.setCell (p := ⟨w.heap.size, j, none⟩) (Nat.le_refl _) _⟩
  have hst := blk_set (i := j) h'.arr (.bool b)
  rw [List.map_set]
  simpa using hst

set_option maxHeartbeats 4000000 in
theorem after_any (U : Nat → Prop) (v : Value) (l : List Opn) (b0 b1 b2 b3 : Bool) (n : Nat) (hn : 1 ≤ n ∧ n ≤ 4) (w : World) (hR : RdO U w v l) (hl : l.length ≤ 1759218604390) (hpx : ∀ o ∈ l, o.px.length ≤ 17592186043904) :
    Calls Tryz.prog 95 #[.agg #[.bool b0, .bool b1, .bool b2, .bool b3], v, .int .i64 (n : Int)] w fun e w' => Aft ([b0, b1, b2, b3].take n) n [b0, b1, b2, b3] l e ∧ Below w.heap.size w w' := by
  obtain ⟨ao, cap, rfl, h1, h2, h3⟩ := id hR
  have HR := hide hR
  have HPx := hide hpx
  clear hR hpx h3
  go_enter Tryz.func95, Tryz.ntmps95
  go_wp2
  go_loopw [12] (fun i wr => ∃ (k : Nat) (x : List Bool), k ≤ l.length ∧ i = .int .i64 k ∧ vall ([b0, b1, b2, b3].take n) (l.take k) = some (x.take n) ∧ x.drop n = [b0, b1, b2, b3].drop n ∧ AftI w wr x) (fun i _ => l.length - (intOf i).toNat)
  case atStart =>
    refine ⟨0, [b0, b1, b2, b3], Nat.zero_le _, rfl, rfl, rfl, ⟨rfl, ?_, ?_, ?_⟩⟩
    · exact heap_alloc2_old _ _ _
    · exact heap_alloc2_new _ _ _
    · exact ((Below.refl _ w).alloc (Nat.le_refl _) _).alloc (by show w.heap.size ≤ (w.heap.push _).size; rw [Array.size_push]; omega) _
  case round =>
    rename World => wq
    obtain ⟨k, x, hk, rfl, hv, hd, hI⟩ := hrel
    by_cases hlt : k < l.length
    · obtain ⟨o, ho⟩ : ∃ o, l[k]? = some o := ⟨l[k], by simp [hlt]⟩
      obtain ⟨ao', cap', e, _, _, h3⟩ := (unhide HR).below hI.bel
      simp only [Value.slice.injEq, true_and] at e
      obtain ⟨rfl, rfl⟩ := e
      obtain ⟨b, off, rfl, _, _, hc⟩ := h3 (by intro e; rw [e] at hlt; simp at hlt)
      obtain ⟨c0, c1, c2, c3, c4, c5, ⟨pv, c6, hpv⟩, c7⟩ := hc k o ho
      have hpv' := hpv
      obtain ⟨po, pc, epv, _⟩ := hpv
      rw [epv] at c6
      have hpl := (unhide HPx) o (List.mem_of_getElem? ho)
      have CA : Hid (∀ w', Below wq.heap.size wq w' → Calls Tryz.prog 125 #[oval o (.slice po o.px.length pc)] w' fun e w2 => e = .returned (.bool (okOp o)) ∧ Below w'.heap.size w' w2) := fun w' hb => callowed_any U o po pc w' (epv ▸ hpv'.below hb) hpl
      unfold oval at CA
      have HV := hide hv
      have HD := hide hd
      have HI := hide hI
      have HO := hide ho
      clear hpv' epv hpl hv hd hI ho h3 hc
      cases hok : okOp o
      · rw [hok] at CA
        go_wp2_with fail
        refine ((unhide CA) _ ((Below.refl _ _).alloc (Nat.le_refl _) _)).mono ?_
        rintro e w2 ⟨rfl, hb2⟩
        have hI2 := ((unhide HI).below ((Below.refl _ wq).alloc (Nat.le_refl _) _)).below hb2
        have r0 : w2.cell? ⟨w.heap.size + 1, 0, none⟩ = some (.bool false) := blk_cell hI2.res 0
        have r1 : w2.cell? ⟨w.heap.size + 1, 1, none⟩ = some (.bool false) := blk_cell hI2.res 1
        have r2 : w2.cell? ⟨w.heap.size + 1, 2, none⟩ = some (.bool false) := blk_cell hI2.res 2
        have r3 : w2.cell? ⟨w.heap.size + 1, 3, none⟩ = some (.bool false) := blk_cell hI2.res 3
        have rz : ∀ t, w2.frozen? ⟨w.heap.size + 1, t, none⟩ = false := blk_thaw hI2.res
        have HI2 := hide hI2
        have HB2 := hide hb2
        have HOK := hide hok
        clear CA hI2 hb2 hok
        go_wp2
        (try simp only [Exit.inBlock, Exit.then])
        refine bodyPost_ret (res_after _ _ (w.heap.size + 1) #[.bool false, .bool false, .bool false, .bool false] rfl ?_ rfl) rfl ⟨.inr ⟨vall_fail (unhide HV) (unhide HO) (vstep_refused (unhide HOK)), rfl⟩, ?_⟩
        · simpa using blk_set (i := 3) (blk_set (i := 2) (blk_set (i := 1) (blk_set (i := 0) (unhide HI2).res (.bool false)) (.bool false)) (.bool false)) (.bool false)
        · exact ((((unhide HI2).bel.setCell (p := ⟨w.heap.size + 1, 0, none⟩) (Nat.le_succ _) _).setCell (p := ⟨w.heap.size + 1, 1, none⟩) (Nat.le_succ _) _).setCell (p := ⟨w.heap.size + 1, 2, none⟩) (Nat.le_succ _) _).setCell (p := ⟨w.heap.size + 1, 3, none⟩) (Nat.le_succ _) _
      · rw [hok] at CA
        go_wp2_with fail
        refine ((unhide CA) _ ((Below.refl _ _).alloc (Nat.le_refl _) _)).mono ?_
        rintro e w2 ⟨rfl, hb2⟩
        have hI2 := ((unhide HI).below ((Below.refl _ wq).alloc (Nat.le_refl _) _)).below hb2
        have hx2 : w2.heap[wq.heap.size]? = some (.cells #[.int .i64 o.kind, .int .i64 o.surf, .int .i64 o.x, .int .i64 o.y, .int .i64 o.w, .int .i64 o.h, .slice po o.px.length pc, .int .i64 o.mark] 52) := (hb2.block _ (by show _ < (wq.heap.push _).size; rw [Array.size_push]; omega)).trans (new_at _ _ _ rfl)
        have d0 : w2.cell? ⟨wq.heap.size, 0, none⟩ = some (.int .i64 o.kind) := blk_cell hx2 0
        have d1 : w2.cell? ⟨wq.heap.size, 1, none⟩ = some (.int .i64 o.surf) := blk_cell hx2 1
        have hxl : ((x.take n).length : Int) = (n : Int) := by have := hI2.len; rw [List.length_take]; omega
        have HXL := hide hxl
        have HI2 := hide hI2
        have HOK := hide hok
        have r0 : w2.cell? ⟨w.heap.size + 1, 0, none⟩ = some (.bool false) := blk_cell hI2.res 0
        have r1 : w2.cell? ⟨w.heap.size + 1, 1, none⟩ = some (.bool false) := blk_cell hI2.res 1
        have r2 : w2.cell? ⟨w.heap.size + 1, 2, none⟩ = some (.bool false) := blk_cell hI2.res 2
        have r3 : w2.cell? ⟨w.heap.size + 1, 3, none⟩ = some (.bool false) := blk_cell hI2.res 3
        have rz : ∀ t, w2.frozen? ⟨w.heap.size + 1, t, none⟩ = false := blk_thaw hI2.res
        clear CA hok hx2 hb2 hI2 hxl
        by_cases h8 : o.kind = 8
        · have q8 : (o.kind == 8) = true := by simp [h8]
          have H8 := hide h8
          clear h8 r0 r1 r2 r3 rz
          go_wp2
          go_roundw
          case rel => exact ⟨k + 1, x, by omega, by go_num, by rw [vall_succ (unhide HV) (unhide HO)]; unfold vstep; rw [if_pos (unhide H8)], unhide HD, unhide HI2⟩
          case measure => simp [intOf]; omega
        · have q8 : (o.kind == 8) = false := by simpa using h8
          have H8 := hide h8
          clear h8
          have hw : IntKind.i64.wrap ((n : Int) - 1) = (n : Int) - 1 := by rw [IntKind.wrap_i64]; omega
          have CW : Hid (∀ w, Calls Tryz.prog 75 #[.int .i64 o.surf, .int .i64 0, .int .i64 ((n : Int) - 1)] w fun e w' => e = .returned (.bool (inB o.surf 0 ((n : Int) - 1))) ∧ w' = w) := fun w => within_any _ _ _ w
          cases hs : inB o.surf 0 ((n : Int) - 1)
          · rw [hs] at CW
            have HS := hide hs
            clear hs
            go_wp2_with fail
            go_quiet ((go_at_call 75; exact Calls.quiet_of_same ((unhide CW) _)))
            clear CW
            go_wp2
            (try simp only [Exit.inBlock, Exit.then])
            refine bodyPost_ret (res_after _ _ (w.heap.size + 1) #[.bool false, .bool false, .bool false, .bool false] rfl ?_ rfl) rfl ⟨.inr ⟨vall_fail (unhide HV) (unhide HO) (vstep_far (unhide H8) (by rw [unhide HXL]; exact unhide HS)), rfl⟩, ?_⟩
            · exact (unhide HI2).zero _
            · exact (unhide HI2).zeroBel _
          · rw [hs] at CW
            have HS := hide hs
            obtain ⟨j, hj, hjn⟩ : ∃ j : Nat, o.surf = (j : Int) ∧ j < n := by
              unfold inB at hs
              simp only [Bool.and_eq_true, decide_eq_true_eq] at hs
              exact ⟨o.surf.toNat, by omega, by omega⟩
            rw [hj] at d1 CW
            have HJ := hide hj
            clear hs hj
            have hxl4 := (unhide HI2).len
            obtain ⟨y, hy⟩ : ∃ y, x[j]? = some y := ⟨x[j]'(by omega), by simp⟩
            have aj : w2.cell? ⟨w.heap.size, j, none⟩ = some (.bool y) := by rw [blk_cell (unhide HI2).arr j]; simp [hy]
            have az : ∀ t, w2.frozen? ⟨w.heap.size, t, none⟩ = false := blk_thaw (unhide HI2).arr
            have i0 : (0 : Int) ≤ (j : Int) := by omega
            have i1 : (j : Int) < 4 := by omega
            obtain ⟨bk, hbk⟩ : ∃ bk, (o.kind == 1) = bk := ⟨_, rfl⟩
            have hgd : (x.take n).getD o.surf.toNat false = y := by
              rw [unhide HJ, Int.toNat_natCast, List.getD_eq_getElem?_getD, List.getElem?_take_of_lt hjn, hy]; rfl
            have HG := hide hgd
            have HY := hide hy
            have hdk : decide (o.kind = 1) = bk := by rw [← hbk]; rfl
            have HDK := hide hdk
            clear hgd hy hdk hxl4
            cases y <;> cases bk
            · go_wp2_with fail
              go_quiet ((go_at_call 75; exact Calls.quiet_of_same ((unhide CW) _)))
              clear CW
              go_wp2
              (try simp only [Exit.inBlock, Exit.then])
              refine bodyPost_ret (res_after _ _ (w.heap.size + 1) #[.bool false, .bool false, .bool false, .bool false] rfl ?_ rfl) rfl ⟨.inr ⟨vall_fail (unhide HV) (unhide HO) (vstep_taken (unhide H8) ((unhide HG).trans (unhide HDK).symm)), rfl⟩, ?_⟩
              · exact (unhide HI2).zero _
              · exact (unhide HI2).zeroBel _
            · go_wp2_with fail
              go_quiet ((go_at_call 75; exact Calls.quiet_of_same ((unhide CW) _)))
              clear CW
              go_wp2
              go_roundw
              case rel =>
                refine ⟨k + 1, x.set j (decide (o.kind ≠ 2)), by omega, by go_num, ?_, ?_, ?_⟩
                · rw [vall_succ (unhide HV) (unhide HO), vstep_done (unhide H8) (unhide HOK) (by rw [unhide HXL]; exact unhide HS) (by rw [unhide HG, unhide HDK]; decide), unhide HJ, Int.toNat_natCast, List.take_set]
                · rw [List.drop_set_of_lt hjn]; exact unhide HD
                · first | exact (unhide HI2).put _ j _ | (rw [← ne_two]; exact (unhide HI2).put _ j _)
              case measure => simp [intOf]; omega
            · go_wp2_with fail
              go_quiet ((go_at_call 75; exact Calls.quiet_of_same ((unhide CW) _)))
              clear CW
              go_wp2
              go_roundw
              case rel =>
                refine ⟨k + 1, x.set j (decide (o.kind ≠ 2)), by omega, by go_num, ?_, ?_, ?_⟩
                · rw [vall_succ (unhide HV) (unhide HO), vstep_done (unhide H8) (unhide HOK) (by rw [unhide HXL]; exact unhide HS) (by rw [unhide HG, unhide HDK]; decide), unhide HJ, Int.toNat_natCast, List.take_set]
                · rw [List.drop_set_of_lt hjn]; exact unhide HD
                · first | exact (unhide HI2).put _ j _ | (rw [← ne_two]; exact (unhide HI2).put _ j _)
              case measure => simp [intOf]; omega
            · go_wp2_with fail
              go_quiet ((go_at_call 75; exact Calls.quiet_of_same ((unhide CW) _)))
              clear CW
              go_wp2
              (try simp only [Exit.inBlock, Exit.then])
              refine bodyPost_ret (res_after _ _ (w.heap.size + 1) #[.bool false, .bool false, .bool false, .bool false] rfl ?_ rfl) rfl ⟨.inr ⟨vall_fail (unhide HV) (unhide HO) (vstep_taken (unhide H8) ((unhide HG).trans (unhide HDK).symm)), rfl⟩, ?_⟩
              · exact (unhide HI2).zero _
              · exact (unhide HI2).zeroBel _
    · obtain rfl : k = l.length := by omega
      rw [List.take_length] at hv
      obtain ⟨x0, x1, x2, x3, rfl⟩ : ∃ x0 x1 x2 x3, x = [x0, x1, x2, x3] := by
        have := hI.len
        match x, this with
        | [x0, x1, x2, x3], _ => exact ⟨x0, x1, x2, x3, rfl⟩
      have a0 : wq.cell? ⟨w.heap.size, 0, none⟩ = some (.bool x0) := blk_cell hI.arr 0
      have a1 : wq.cell? ⟨w.heap.size, 1, none⟩ = some (.bool x1) := blk_cell hI.arr 1
      have a2 : wq.cell? ⟨w.heap.size, 2, none⟩ = some (.bool x2) := blk_cell hI.arr 2
      have a3 : wq.cell? ⟨w.heap.size, 3, none⟩ = some (.bool x3) := blk_cell hI.arr 3
      have r0 : wq.cell? ⟨w.heap.size + 1, 0, none⟩ = some (.bool false) := blk_cell hI.res 0
      have r1 : wq.cell? ⟨w.heap.size + 1, 1, none⟩ = some (.bool false) := blk_cell hI.res 1
      have r2 : wq.cell? ⟨w.heap.size + 1, 2, none⟩ = some (.bool false) := blk_cell hI.res 2
      have r3 : wq.cell? ⟨w.heap.size + 1, 3, none⟩ = some (.bool false) := blk_cell hI.res 3
      have rz : ∀ t, wq.frozen? ⟨w.heap.size + 1, t, none⟩ = false := blk_thaw hI.res
      have HV := hide hv
      have HD := hide hd
      have HI := hide hI
      clear hv hd hI
      go_wp2
      (try simp only [Exit.inBlock, Exit.then])
      refine bodyPost_ret (res_after _ _ (w.heap.size + 1) #[.bool x0, .bool x1, .bool x2, .bool x3] rfl ?_ rfl) rfl ⟨.inl ⟨[x0, x1, x2, x3], rfl, unhide HV, unhide HD, rfl⟩, ?_⟩
      · simpa using blk_set (i := 3) (blk_set (i := 2) (blk_set (i := 1) (blk_set (i := 0) (unhide HI).res (.bool x0)) (.bool x1)) (.bool x2)) (.bool x3)
      · exact ((((unhide HI).bel.setCell (p := ⟨w.heap.size + 1, 0, none⟩) (Nat.le_succ _) _).setCell (p := ⟨w.heap.size + 1, 1, none⟩) (Nat.le_succ _) _).setCell (p := ⟨w.heap.size + 1, 2, none⟩) (Nat.le_succ _) _).setCell (p := ⟨w.heap.size + 1, 3, none⟩) (Nat.le_succ _) _
end Go.Proofs.YtfnockbgkcgpkaaGreat
