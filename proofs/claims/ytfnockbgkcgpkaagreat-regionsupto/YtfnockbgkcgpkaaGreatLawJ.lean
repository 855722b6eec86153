import Derived.Test.YtfnockbgkcgpkaaGreatLawI
import Derived.Deep.RegionHeld3
import Derived.Deep.RegionLaw
import Derived.BigRegion
import Derived.BigQuiet
import Derived.Deep.QuietTactic
set_option linter.all false
namespace Go.Proofs.YtfnockbgkcgpkaaGreat
open Go.RowKit Go.Proofs.Panes
set_option maxRecDepth 100000

theorem info_ents : (Tryz.prog.info? 82).map (fun i => (i.zero, i.size, i.bytes)) = some (some (.agg #[.slice none 0 0, .slice none 0 0, .slice none 0 0, .slice none 0 0, .int .i64 0]), 5, 104) := by kernel_rfl

theorem ecell_one (o1 o2 o3 o4 : Option Addr) (n1 n2 n3 n4 c1 c2 c3 c4 : Nat) (n : Int) : ∀ u ∈ ecell ⟨.slice o1 n1 c1, .slice o2 n2 c2, .slice o3 n3 c3, .slice o4 n4 c4, n⟩, u.oneCell' = true := by
  intro u hu
  simp [ecell] at hu
  rcases hu with rfl | rfl | rfl | rfl | rfl <;> rfl
theorem new_at_drew (w : World) (o : Obj) (n : Nat) (h : n = w.heap.size) : (w.alloc o).drew.heap[n]? = some o := new_at w o n h
/-- What keepRects leaves. -/
structure Keeps (w w' : World) (wb base B : Nat) (g0 g1 g2 g3 kr ki kf v : Value) (es : List Ent) (kr' : Value) (en : Ent) : Prop where
  box : w'.heap[wb]? = some (.cells #[g0, g1, g2, g3, kr', ki, kf] 39)
  own : OwnE w' base kr' (es ++ [en])
  ent : EntOk B w' en
  lies : ∀ k, kr'.ownBlock = some k → kr.ownBlock = some k ∨ w.heap.size ≤ k
  but : But (fun k => k = wb ∨ kr.ownBlock = some k ∨ v.ownBlock = some k) w w'

theorem keeps_end {w w4 w5 : World} {wb base B gg gk : Nat} {g0 g1 g2 g3 ki kf v va vb vc : Value} {kr : Value} {es : List Ent} {R : List Rc}
    (hB4 : But (fun k => v.ownBlock = some k) w w4) (hO4 : Own w4 B v (List.replicate R.length (mark es.length))) (hA : Sib v w4 B va (R.length + 1) (mark es.length)) (hS : Sib v w4 B vb (R.length + 2) (mark es.length)) (hC : Sib v w4 B vc (R.length + 3) (mark es.length))
    (hK : OwnE w4 base kr es) (hW : w4.heap[wb]? = some (.cells #[g0, g1, g2, g3, kr, ki, kf] 39)) (hG : w4.grownBy w5 kr.ownBlock)
    (hown : w5.ownsRow base 82 5 (.slice (some ⟨gg, 0, none⟩) (es.length + 1) gk) (es.length + 1) (ecells es ++ ecell ⟨v, va, vb, vc, es.length⟩)) (hat : kr.ownBlock = some gg ∨ gg = w4.heap.size + 1) (h1 : w.heap.size ≤ w4.heap.size) (h2 : 0 ≤ R.length) (h3 : 0 ≤ es.length) (hn : es.length ≤ 2000000) (hR : R.length ≤ 20000000) :
    Keeps w (w5.setCell ⟨wb, 4, none⟩ (.slice (some ⟨gg, 0, none⟩) (es.length + 1) gk)) wb base B g0 g1 g2 g3 kr ki kf v es (.slice (some ⟨gg, 0, none⟩) (es.length + 1) gk) ⟨v, va, vb, vc, es.length⟩ := by
  have hkw : kr.ownBlock ≠ some wb := row_kind hK hW (by decide)
  have hW5 : w5.heap[wb]? = some (.cells #[g0, g1, g2, g3, kr, ki, kf] 39) := grown_block hG hW hkw
  have hgw : gg ≠ wb := fun e => row_kind hown hW5 (by decide) (by rw [e]; rfl)
  have hB5 : But (fun k => k = wb ∨ kr.ownBlock = some k) w4 (w5.setCell ⟨wb, 4, none⟩ (.slice (some ⟨gg, 0, none⟩) (es.length + 1) gk)) := ((But.refl _ w4).grown hG (fun k e => .inl (.inr e))).setCell (.inl (.inl rfl)) _
  have hodd : ∀ k, (k = wb ∨ kr.ownBlock = some k) → k < w4.heap.size → ∃ cs t fz, w4.heap[k]? = some (.cells cs t fz) ∧ t ≠ 46 := fun k hk _ => by
    rcases hk with rfl | hk
    · exact ⟨_, _, _, hW, by decide⟩
    · obtain ⟨cs, fz, e⟩ := OwnE.kind hK hk
      exact ⟨_, _, _, e, by decide⟩
  have hmk : ∀ u c, c ≤ 30000000 → Own w4 B u (List.replicate c (mark es.length)) → Marked (w5.setCell ⟨wb, 4, none⟩ (.slice (some ⟨gg, 0, none⟩) (es.length + 1) gk)) B u es.length := fun u c hc h =>
    Marked.odd ⟨_, h, by simpa using hc, fun r hr => (List.mem_replicate.1 hr).2⟩ hB5 hodd
  refine ⟨?_, ?_, ⟨by simp; omega, hmk v _ (by omega) hO4, hmk va _ (by omega) hA.own, hmk vb _ (by omega) hS.own, hmk vc _ (by omega) hC.own⟩, ?_, ?_⟩
  · simpa using blk_set (i := 4) hW5 (.slice (some ⟨gg, 0, none⟩) (es.length + 1) gk)
  · have := ownsRow_setCell_other hown (a := ⟨wb, 4, none⟩) (by simp [Value.ownBlock]; exact hgw) (.slice (some ⟨gg, 0, none⟩) (es.length + 1) gk)
    unfold OwnE; rw [List.length_append, ecells_snoc]; exact this
  · intro k hk
    simp only [Value.ownBlock, Option.some.injEq] at hk
    subst hk
    rcases hat with c | c
    · exact .inl c
    · exact .inr (by omega)
  · exact (hB4.wide (fun k _ h => .inr (.inr h))).trans (hB5.wide (fun k _ h => h.elim .inl (fun h => .inr (.inl h))))

set_option maxHeartbeats 8000000 in
theorem keepRects_any (wb base B : Nat) (g0 g1 g2 g3 kr ki kf v : Value) (es : List Ent) (R : List Rc) (w : World) (hb : w.heap[wb]? = some (.cells #[g0, g1, g2, g3, kr, ki, kf] 39)) (hK : OwnE w base kr es) (hbase : base ≤ w.heap.size) (hV : Own w B v R) (hB : B ≤ w.heap.size) (hn : es.length ≤ 2000000) (hR : R.length ≤ 20000000) :
    Calls Tryz.prog 39 #[.pointer (some ⟨wb, 4, none⟩), v] w fun e w' => e = .returned (.tuple #[]) ∧ ∃ kr' en, Keeps w w' wb base B g0 g1 g2 g3 kr ki kf v es kr' en := by
  obtain ⟨i0, hi, hz0, hz1, hz2⟩ := info_parts info_rect
  obtain ⟨ro, rc, rfl⟩ := row_slice hK
  obtain ⟨vo, vc, rfl⟩ := row_slice hV
  have k0 : w.cell? ⟨wb, 4, none⟩ = some (.slice ro es.length rc) := blk_cell hb 4
  have hw : IntKind.i64.wrap (-5000 - (es.length : Int)) = -5000 - (es.length : Int) := by rw [IntKind.wrap_i64]; omega
  have HBX := hide hb
  have HK := hide hK
  have HV := hide hV
  clear hb hK hV
  go_enter Tryz.func39, Tryz.ntmps39
  go_wp2
  go_loopw [6] (fun i wr => ∃ k : Nat, k ≤ R.length ∧ i = .int .i64 k ∧ Own wr B (.slice vo R.length vc) (List.replicate k (mark es.length) ++ R.drop k) ∧ wr.heap[w.heap.size]? = some (.cells (rcells [mark es.length]).toArray 46) ∧ w.heap.size < wr.heap.size ∧ But (fun k => (Value.slice vo R.length vc).ownBlock = some k) w wr) (fun i _ => R.length - (intOf i).toNat)
  case atStart =>
    refine ⟨0, Nat.zero_le _, rfl, by simpa using World.ownsRow.alloc (unhide HV) _, new_at _ _ _ rfl, by simp, (But.refl _ _).alloc _⟩
  case round =>
    rename World => wq
    obtain ⟨k, hk, rfl, hO, hbx, hsz, hBut⟩ := hrel
    have b0 : wq.cell? ⟨w.heap.size, 0, none⟩ = some (.int .i64 (-5000 - (es.length : Int))) := blk_cell hbx 0
    have b1 : wq.cell? ⟨w.heap.size, 1, none⟩ = some (.int .i64 0) := blk_cell hbx 1
    have b2 : wq.cell? ⟨w.heap.size, 2, none⟩ = some (.int .i64 0) := blk_cell hbx 2
    have b3 : wq.cell? ⟨w.heap.size, 3, none⟩ = some (.int .i64 0) := blk_cell hbx 3
    have hvb : ∀ j, (Value.slice vo R.length vc).ownBlock = some j → j < w.heap.size := fun j hj => (World.ownsRow.lt (unhide HV) j hj).2
    by_cases hlt : k < R.length
    · obtain ⟨r, hr⟩ : ∃ r, R[k]? = some r := ⟨R[k], by simp [hlt]⟩
      have hdk : R.drop k = r :: R.drop (k + 1) := by
        obtain ⟨hk', e⟩ := List.getElem?_eq_some_iff.1 hr
        rw [List.drop_eq_getElem_cons hk', e]
      rw [hdk] at hO
      have hrl : (List.replicate k (mark es.length)).length = k := by simp
      have htot : R.length = (List.replicate k (mark es.length) ++ r :: R.drop (k + 1)).length := by simp; omega
      obtain ⟨g, c, e, _, _⟩ := own_some hO (by simp)
      simp only [Value.slice.injEq] at e
      obtain ⟨rfl, ejunk, rfl⟩ := e
      clear ejunk
      have hP := own_put (mark es.length) hO htot
      obtain ⟨c1, c2, c3, c4⟩ := own_at hO (j := k) (r := r) (by rw [List.getElem?_append_right (by omega)]; simp)
      have f1 := own_thaw hO htot (k * 4)
      have f2 := own_thaw hO htot (k * 4 + 1)
      have f3 := own_thaw hO htot (k * 4 + 2)
      have f4 := own_thaw hO htot (k * 4 + 3)
      rw [hrl] at hP
      have hP' : Own ((((wq.setCell ⟨g, k * 4, none⟩ (.int .i64 (mark es.length).x)).setCell ⟨g, k * 4 + 1, none⟩ (.int .i64 (mark es.length).y)).setCell ⟨g, k * 4 + 2, none⟩ (.int .i64 (mark es.length).w)).setCell ⟨g, k * 4 + 3, none⟩ (.int .i64 (mark es.length).h)) B (.slice (some ⟨g, 0, none⟩) R.length vc) (List.replicate (k + 1) (mark es.length) ++ R.drop (k + 1)) := by
        rw [List.replicate_succ', List.append_assoc]; exact hP
      have hgb : g < w.heap.size := hvb g rfl
      have HP := hide hP'
      have HBx := hide hbx
      have HBt := hide hBut
      have i0 : (0 : Int) ≤ (k : Int) := by omega
      have i1 : (k : Int) < (R.length : Int) := by omega
      have HS := hide hsz
      have HG := hide hgb
      have hne : w.heap.size ≠ g := by omega
      clear hO hbx hBut hP hP' hr hdk htot hrl hvb hsz hgb k0 hw hi hz0 hz1 hz2
      go_wp2
      go_roundw
      case rel =>
        refine ⟨k + 1, by omega, by go_num, unhide HP, ?_, by simpa [World.setCell] using unhide HS, ?_⟩
        · exact blk_other (blk_other (blk_other (blk_other (unhide HBx) hne _) hne _) hne _) hne _
        · have hS : ∀ (j : Nat) (u : Value) {x : World}, But (fun k => (Value.slice (some ⟨g, 0, none⟩) R.length vc).ownBlock = some k) w x → But (fun k => (Value.slice (some ⟨g, 0, none⟩) R.length vc).ownBlock = some k) w (x.setCell ⟨g, j, none⟩ u) := fun j u x h => h.setCell (p := ⟨g, j, none⟩) (.inl rfl) u
          exact hS _ _ (hS _ _ (hS _ _ (hS _ _ (unhide HBt))))
      case measure => simp [intOf]; omega
    · obtain rfl : k = R.length := by omega
      rw [List.drop_length, List.append_nil] at hO
      have hO' : Own wq B (.slice vo R.length vc) (List.replicate R.length (mark es.length)) := hO
      have hkne : ∀ j, (Value.slice ro es.length rc).ownBlock = some j → (Value.slice vo R.length vc).ownBlock ≠ some j := fun j hj => by
        obtain ⟨cs, fz, e⟩ := OwnE.kind (unhide HK) hj
        exact own_kind (unhide HV) e (by decide)
      have hKq : OwnE wq base (.slice ro es.length rc) es := row_but (unhide HK) hBut hkne
      have hBq : wq.heap[wb]? = some (.cells #[g0, g1, g2, g3, .slice ro es.length rc, ki, kf] 39) := hBut.heap (unhide HBX) (own_kind (unhide HV) (unhide HBX) (by decide))
      have k1 : wq.cell? ⟨wb, 4, none⟩ = some (.slice ro es.length rc) := blk_cell hBq 4
      have HBt := hide hBut
      have HBx := hide hbx
      have HO := hide hO'
      have HKq := hide hKq
      have HBq := hide hBq
      clear hO hO' hBut hbx hKq hBq
      have hBs : B ≤ wq.heap.size := by omega
      have hvx : ∀ j, w.heap.size ≤ j → (Value.slice vo R.length vc).ownBlock ≠ some j := fun j hj e => by have := hvb j e; omega
      have HV0 := hide hvx
      clear hvx hvb
      go_wp2_with
         (first
          | (at_builtin
             refine append_marks rfl _ _ rfl B _ R.length 1 (mark es.length) rfl (World.ownsRow.alloc (World.ownsRow.alloc (unhide HO) _) _) (wq.heap.size + 1) rfl (new_at _ _ _ (by simp)) (by decide) (by omega) (by simp; omega) ?_
             intro ga ca w1 ha hold hkeep hgrow
             have hG1 : wq.grownBy w1 (Value.slice vo R.length vc).ownBlock := grown_trans (World.grownBy_alloc _ _ _) (grown_trans (World.grownBy_alloc _ _ _) hgrow)
             have hx1 : w1.heap[wq.heap.size]? = some (.cells #[.slice vo R.length vc, .slice none 0 0, .slice none 0 0, .slice none 0 0, .int .i64 es.length] 82) := grown_block hgrow (blk_alloc (new_at _ _ _ rfl) _) ((unhide HV0) _ (by omega))
             have hm1 : w1.heap[w.heap.size]? = some (.cells (rcells [mark es.length]).toArray 46) := grown_block hG1 (unhide HBx) ((unhide HV0) _ (Nat.le_refl _))
             have x1 : w1.cell? ⟨wq.heap.size, 1, none⟩ = some (.slice none 0 0) := blk_cell hx1 1
             have y1 : ∀ j, w1.frozen? ⟨wq.heap.size, j, none⟩ = false := blk_thaw hx1
             have b0 : w1.cell? ⟨w.heap.size, 0, none⟩ = some (.int .i64 (-5000 - (es.length : Int))) := blk_cell hm1 0
             have b1 : w1.cell? ⟨w.heap.size, 1, none⟩ = some (.int .i64 0) := blk_cell hm1 1
             have b2 : w1.cell? ⟨w.heap.size, 2, none⟩ = some (.int .i64 0) := blk_cell hm1 2
             have b3 : w1.cell? ⟨w.heap.size, 3, none⟩ = some (.int .i64 0) := blk_cell hm1 3
             have hne1 : wq.heap.size ≠ w.heap.size := by omega
             have hsz1 : wq.heap.size + 1 < w1.heap.size := by have := hgrow.size; simp at this; omega
             have HO1 := hide hold
             have HA1 := hide ha
             have HB1 := hide ((unhide HBt).grown hG1 (fun k e => .inl e))
             have HX1 := hide hx1
             have HM1 := hide hm1
             clear HO HBt HBx ha hold hkeep hgrow hG1 hx1 hm1)
          | (at_builtin
             refine append_marks rfl _ _ rfl B _ R.length 2 (mark es.length) rfl (World.ownsRow.alloc (ownsRow_setCell_other (unhide HO1) ((unhide HV0) _ (by simp; omega)) _) _) w1.heap.size rfl (new_at _ _ _ (by simp)) (by decide) (by omega) (by simp; omega) ?_
             intro gb cb w2 ha hold hkeep hgrow
             have hB2 : But (fun k => (Value.slice vo R.length vc).ownBlock = some k) w w2 := (((unhide HB1).setCell (p := ⟨wq.heap.size, 1, none⟩) (.inr (by simp; omega)) _).alloc _).grown hgrow (fun k e => .inl e)
             have hA2 := hkeep _ _ (((unhide HA1).set (unhide HX1) (by decide) 1 _).alloc _) (by omega)
             have hx2 : w2.heap[wq.heap.size]? = some (.cells #[.slice vo R.length vc, .slice (some ⟨ga, 0, none⟩) (R.length + 1) ca, .slice none 0 0, .slice none 0 0, .int .i64 es.length] 82) := grown_block hgrow (blk_alloc (by simpa using blk_set (i := 1) (unhide HX1) (.slice (some ⟨ga, 0, none⟩) (R.length + 1) ca)) _) ((unhide HV0) _ (by omega))
             have hm2 : w2.heap[w.heap.size]? = some (.cells (rcells [mark es.length]).toArray 46) := grown_block hgrow (blk_alloc (blk_other (unhide HM1) (by simp; omega) _) _) ((unhide HV0) _ (Nat.le_refl _))
             have x2 : w2.cell? ⟨wq.heap.size, 2, none⟩ = some (.slice none 0 0) := blk_cell hx2 2
             have y2 : ∀ j, w2.frozen? ⟨wq.heap.size, j, none⟩ = false := blk_thaw hx2
             have b0 : w2.cell? ⟨w.heap.size, 0, none⟩ = some (.int .i64 (-5000 - (es.length : Int))) := blk_cell hm2 0
             have b1 : w2.cell? ⟨w.heap.size, 1, none⟩ = some (.int .i64 0) := blk_cell hm2 1
             have b2 : w2.cell? ⟨w.heap.size, 2, none⟩ = some (.int .i64 0) := blk_cell hm2 2
             have b3 : w2.cell? ⟨w.heap.size, 3, none⟩ = some (.int .i64 0) := blk_cell hm2 3
             have hsz2 : wq.heap.size + 1 < w2.heap.size := by have := hgrow.size; simp [World.setCell] at this; omega
             have HO2 := hide hold
             have HS2 := hide ha
             have HA2 := hide hA2
             have HB2 := hide hB2
             have HX2 := hide hx2
             have HM2 := hide hm2
             clear HO1 HA1 HB1 HX1 HM1 ha hold hkeep hgrow hA2 hB2 hx2 hm2 x1 y1)
          | (at_builtin
             refine append_marks rfl _ _ rfl B _ R.length 3 (mark es.length) rfl (World.ownsRow.alloc (ownsRow_setCell_other (unhide HO2) ((unhide HV0) _ (by simp; omega)) _) _) w2.heap.size rfl (new_at _ _ _ (by simp)) (by decide) (by omega) (by simp; omega) ?_
             intro gc cc w3 ha hold hkeep hgrow
             have hB3 : But (fun k => (Value.slice vo R.length vc).ownBlock = some k) w w3 := (((unhide HB2).setCell (p := ⟨wq.heap.size, 2, none⟩) (.inr (by simp; omega)) _).alloc _).grown hgrow (fun k e => .inl e)
             have hA3 := hkeep _ _ (((unhide HA2).set (unhide HX2) (by decide) 2 _).alloc _) (by omega)
             have hS3 := hkeep _ _ (((unhide HS2).set (unhide HX2) (by decide) 2 _).alloc _) (by omega)
             have hx3 : w3.heap[wq.heap.size]? = some (.cells #[.slice vo R.length vc, .slice (some ⟨ga, 0, none⟩) (R.length + 1) ca, .slice (some ⟨gb, 0, none⟩) (R.length + 2) cb, .slice none 0 0, .int .i64 es.length] 82) := grown_block hgrow (blk_alloc (by simpa using blk_set (i := 2) (unhide HX2) (.slice (some ⟨gb, 0, none⟩) (R.length + 2) cb)) _) ((unhide HV0) _ (by omega))
             have x3 : w3.cell? ⟨wq.heap.size, 3, none⟩ = some (.slice none 0 0) := blk_cell hx3 3
             have y3 : ∀ j, w3.frozen? ⟨wq.heap.size, j, none⟩ = false := blk_thaw hx3
             have hsz3 : wq.heap.size + 1 < w3.heap.size := by have := hgrow.size; simp [World.setCell] at this; omega
             have HO3 := hide hold
             have HC3 := hide ha
             have HA3 := hide hA3
             have HS3 := hide hS3
             have HB3 := hide hB3
             have HX3 := hide hx3
             clear HO2 HA2 HS2 HB2 HX2 HM2 ha hold hkeep hgrow hA3 hS3 hB3 hx3 x2 y2 b0 b1 b2 b3))
      obtain ⟨j0, hj, hy0, hy1, hy2⟩ := info_parts info_ents
      have hx4 : (w3.setCell ⟨wq.heap.size, 3, none⟩ (.slice (some ⟨gc, 0, none⟩) (R.length + 3) cc)).heap[wq.heap.size]? = some (.cells #[.slice vo R.length vc, .slice (some ⟨ga, 0, none⟩) (R.length + 1) ca, .slice (some ⟨gb, 0, none⟩) (R.length + 2) cb, .slice (some ⟨gc, 0, none⟩) (R.length + 3) cc, .int .i64 es.length] 82) := by simpa using blk_set (i := 3) (unhide HX3) (.slice (some ⟨gc, 0, none⟩) (R.length + 3) cc)
      have hB4 : But (fun k => (Value.slice vo R.length vc).ownBlock = some k) w (w3.setCell ⟨wq.heap.size, 3, none⟩ (.slice (some ⟨gc, 0, none⟩) (R.length + 3) cc)) := (unhide HB3).setCell (p := ⟨wq.heap.size, 3, none⟩) (.inr (by simp; omega)) _
      have hA4 := (unhide HA3).set (unhide HX3) (by decide) 3 (.slice (some ⟨gc, 0, none⟩) (R.length + 3) cc)
      have hS4 := (unhide HS3).set (unhide HX3) (by decide) 3 (.slice (some ⟨gc, 0, none⟩) (R.length + 3) cc)
      have hC4 := (unhide HC3).set (unhide HX3) (by decide) 3 (.slice (some ⟨gc, 0, none⟩) (R.length + 3) cc)
      have hO4 := ownsRow_setCell_other (unhide HO3) (a := ⟨wq.heap.size, 3, none⟩) ((unhide HV0) _ (by simp; omega)) (.slice (some ⟨gc, 0, none⟩) (R.length + 3) cc)
      have hz4 : wq.heap.size + 1 < (w3.setCell ⟨wq.heap.size, 3, none⟩ (.slice (some ⟨gc, 0, none⟩) (R.length + 3) cc)).heap.size := by simpa [World.setCell] using hsz3
      clear HX3 HB3 HA3 HS3 HC3 HO3 x3 y3
      generalize w3.setCell ⟨wq.heap.size, 3, none⟩ (.slice (some ⟨gc, 0, none⟩) (R.length + 3) cc) = w4 at *
      have hK4 : OwnE w4 base (.slice ro es.length rc) es := row_but (unhide HK) hB4 hkne
      have hW4 : w4.heap[wb]? = some (.cells #[g0, g1, g2, g3, .slice ro es.length rc, ki, kf] 39) := hB4.heap (unhide HBX) (own_kind (unhide HV) (unhide HBX) (by decide))
      have hkw : (Value.slice ro es.length rc).ownBlock ≠ some wb := row_kind hK4 hW4 (by decide)
      have hkx : (Value.slice ro es.length rc).ownBlock ≠ some wq.heap.size := fun e => by have := (World.ownsRow.lt (unhide HK) _ e).2; omega
      have hwx : wb ≠ wq.heap.size := fun e => by have := lt_of_heap (unhide HBX); omega
      have q0 : w4.cell? ⟨wb, 4, none⟩ = some (.slice ro es.length rc) := blk_cell hW4 4
      have q1 : w4.frozen? ⟨wb, 4, none⟩ = false := blk_thaw hW4 4
      have q2 : w4.cell? ⟨wq.heap.size, 0, none⟩ = some (.slice vo R.length vc) := blk_cell hx4 0
      have q3 : w4.cell? ⟨wq.heap.size, 1, none⟩ = some (.slice (some ⟨ga, 0, none⟩) (R.length + 1) ca) := blk_cell hx4 1
      have q4 : w4.cell? ⟨wq.heap.size, 2, none⟩ = some (.slice (some ⟨gb, 0, none⟩) (R.length + 2) cb) := blk_cell hx4 2
      have q5 : w4.cell? ⟨wq.heap.size, 3, none⟩ = some (.slice (some ⟨gc, 0, none⟩) (R.length + 3) cc) := blk_cell hx4 3
      have q6 : w4.cell? ⟨wq.heap.size, 4, none⟩ = some (.int .i64 es.length) := blk_cell hx4 4
      have lw : wb < w4.heap.size := lt_of_heap hW4
      have lx : wq.heap.size < w4.heap.size := by omega
      have HB4 := hide hB4
      have HA4 := hide hA4
      have HS4 := hide hS4
      have HC4 := hide hC4
      have HO4 := hide hO4
      have HK4 := hide hK4
      have HW4 := hide hW4
      have HKW := hide hkw
      have HKX := hide hkx
      have hcap : Hid (base ≤ w4.heap.size) := by show _ ≤ _; omega
      clear hB4 hA4 hS4 hC4 hO4 hK4 hW4 hx4 hkne hkw hkx
      go_region_law
        ((refine step_append_lies _ (by rfl) _ _ _ (by rfl) base 82 j0 _ 5 104 Tryz.underlying33 hj hy0 hy1 hy2 rfl (by omega) (.slice ro es.length rc) es.length (ecells es) (by rfl) (World.ownsRow.drew (World.ownsRow.alloc (unhide HK4) _)) ⟨w4.heap.size, 0, none⟩ 1 1 (ecell ⟨.slice vo R.length vc, .slice (some ⟨ga, 0, none⟩) (R.length + 1) ca, .slice (some ⟨gb, 0, none⟩) (R.length + 2) cb, .slice (some ⟨gc, 0, none⟩) (R.length + 3) cc, es.length⟩) (by rfl) (by rfl) (newsN (new_at_drew _ _ _ (by simp))) (ecell_one _ _ _ _ _ _ _ _ _ _ _ _ _) (by omega) (by unfold maxLen; omega) (by omega) (by have := unhide hcap; simp; omega) (w4.heap.size + 1) (by simp) ?_; intro gg gk w5 hown1 hgrow hat hltg; have qf : w5.frozen? ⟨wb, 4, none⟩ = false := (hgrow.frozen_far ⟨wb, 4, none⟩ (Nat.lt_of_lt_of_le lw (by show _ ≤ (w4.heap.push _).size; rw [Array.size_push]; omega)) (Ne.symm (unhide HKW))).trans ((World.frozen?_of_block (w := w4) (Below.heap_alloc _ _ _ lw)).trans q1); have qc : w5.cell? ⟨wb, 4, none⟩ = some (.slice ro es.length rc) := (hgrow.cell_far ⟨wb, 4, none⟩ (Nat.lt_of_lt_of_le lw (by show _ ≤ (w4.heap.push _).size; rw [Array.size_push]; omega)) (Ne.symm (unhide HKW))).trans ((World.cell?_of_block (w := w4) (Below.heap_alloc _ _ _ lw)).trans q0)))
      all_goals
        go_end0
        refine ⟨rfl, .slice (some ⟨gg, 0, none⟩) (es.length + 1) gk, ⟨.slice vo R.length vc, .slice (some ⟨ga, 0, none⟩) (R.length + 1) ca, .slice (some ⟨gb, 0, none⟩) (R.length + 2) cb, .slice (some ⟨gc, 0, none⟩) (R.length + 3) cc, es.length⟩, ?_⟩
        have hdr : w4.grownBy w5 (Value.slice ro es.length rc).ownBlock := grown_trans (World.grownBy_alloc w4 _ _) (grown_trans (grown_drewN _ 1 _) hgrow)
        exact keeps_end (unhide HB4) (unhide HO4) (unhide HA4) (unhide HS4) (unhide HC4) (unhide HK4) (unhide HW4) hdr hown1 hat (by omega) (by omega) (by omega) hn hR
end Go.Proofs.YtfnockbgkcgpkaaGreat
