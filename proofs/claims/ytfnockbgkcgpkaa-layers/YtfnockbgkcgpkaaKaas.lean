import Derived.Test.YtfnockbgkcgpkaaKaae
import Derived.Test.YtfnockbgkcgpkaaKaaq
import Derived.Test.YtfnockbgkcgpkaaKaar
set_option linter.all false
namespace Go.Proofs.Ytfnockbgkcgpkaa
open Go.RowKit Go.Proofs.Panes
set_option maxRecDepth 100000

/-- One is taken out and put in again at a place. -/
def layS (l : List Srf) (i t : Nat) (s : Srf) : List Srf := (l.take i ++ l.drop (i + 1)).take t ++ s :: (l.take i ++ l.drop (i + 1)).drop t
theorem layS_perm {l : List Srf} {i t : Nat} {s : Srf} (hi : l[i]? = some s) : (layS l i t s).Perm l := by
  have hlt : i < l.length := (List.getElem?_eq_some_iff.1 hi).1
  have he : l[i] = s := (List.getElem?_eq_some_iff.1 hi).2
  have h2 : l.take i ++ s :: l.drop (i + 1) = l := by rw [← he, List.getElem_cons_drop, List.take_append_drop]
  have h1 : (layS l i t s).Perm (s :: (l.take i ++ l.drop (i + 1))) := by
    unfold layS
    conv => rhs; rw [← List.take_append_drop t (l.take i ++ l.drop (i + 1))]
    exact List.perm_middle
  have h3 : (s :: (l.take i ++ l.drop (i + 1))).Perm (l.take i ++ s :: l.drop (i + 1)) := List.perm_middle.symm
  rw [h2] at h3
  exact h1.trans h3
set_option maxHeartbeats 2000000 in
theorem lay_any {C U : Nat → Prop} {w : World} {sb : Nat} {beh : Int} {l : List Srf} {mb : Nat} {ov : Value} {L : List Ke} {clock : Nat} {bk : Int → Int → Nat} {pv : Int → Int → Value} (h : Scn C U w sb beh l mb ov L clock bk pv) (hCU : ∀ k, C k → ¬ U k) {i : Nat} {s : Srf} (hi : l[i]? = some s) (t : Nat) (ht : t < l.length) (hl : l.length ≤ 1000) :
    Calls Try.prog 134 #[.pointer (some ⟨sb, 0, none⟩), kval s.cl s.num, .int .i64 (t : Int)] w fun e w' => e = .returned (.bool (!((i : Int) == (t : Int)))) ∧ Scn C U w' sb beh (layS l i t s) mb ov L clock bk pv ∧ But C w w' := by
  have hil : i < l.length := (List.getElem?_eq_some_iff.1 hi).1
  have hrow := h.row
  obtain ⟨g, cap, rfl⟩ := row_some hrow (by simp; omega)
  obtain ⟨ks, hks⟩ : ∃ ks, ks = l.map skey := ⟨_, rfl⟩
  have hk2 : (l.map fun s => k2 (skey s)) = ks.map k2 := by rw [hks, List.map_map]; rfl
  obtain ⟨n, hn⟩ : ∃ n, n = l.length := ⟨_, rfl⟩
  have hkl : ks.length = n := by rw [hks, hn]; simp
  have hml : (ks.map k2).length = n := by simp [hkl]
  rw [hk2] at hrow
  have hki : ks[i]? = some (s.cl, s.num) := by rw [hks, List.getElem?_map, hi]; rfl
  have hfst : ∀ j, j < i → ks[j]? ≠ some (s.cl, s.num) := by
    intro j hj e
    have hnd := h.nd
    rw [← hks] at hnd
    have := List.pairwise_iff_getElem.1 hnd j i (by omega) (by omega) hj
    rw [List.getElem?_eq_getElem (by omega)] at e hki
    exact this ((Option.some.inj e).trans (Option.some.inj hki).symm)
  have hnn : (List.map (fun s => k2 (skey s)) l).length = n := by simp [hn]
  rw [hnn] at h ⊢
  have hrow : Own2 w 0 143 (.slice (some ⟨g, 0, none⟩) n cap) (ks.map k2) := by rw [Own2, hml]; rw [Own2, hml] at hrow; exact hrow
  obtain ⟨Rr, hRr, hcl, -, -, hmx⟩ := Own2.row hrow
  have hcap : n ≤ cap := by simp at hcl; omega
  have hcells : ∀ (j : Nat) (k : Int × Int), ks[j]? = some k → w.cell? ⟨g, j * 2, none⟩ = some (.int .i64 k.1) ∧ w.cell? ⟨g, j * 2 + 1, none⟩ = some (.int .i64 k.2) := fun j k hk => own2_at hrow (p := k2 k) (by rw [List.getElem?_map, hk]; rfl)
  have lg : g < w.heap.size := (World.ownsRow.lt hrow g rfl).2
  have lsb : sb < w.heap.size := lt_of_heap h.scm.blk
  have hgsb : ¬ g = sb := fun e => h.sb_ov (by rw [← e]; rfl)
  obtain ⟨w0, hw0⟩ : ∃ w0, w0 = w.alloc (.cells #[.int .i64 s.cl, .int .i64 s.num] 143) := ⟨_, rfl⟩
  have hB0 : Below w.heap.size w w0 := by rw [hw0]; exact (Below.refl _ w).alloc (Nat.le_refl _) _
  have hN0 : w0.heap[w.heap.size]? = some (.cells #[.int .i64 s.cl, .int .i64 s.num] 143) := by rw [hw0]; exact new_at _ _ _ rfl
  obtain ⟨m, hm⟩ : ∃ m, m = n - 1 := ⟨_, rfl⟩
  obtain ⟨Rk, hRk⟩ : ∃ Rk, Rk = (ks.map k2).take i ++ (ks.map k2).drop (i + 1) := ⟨_, rfl⟩
  have hRl : Rk.length = m := by rw [hRk, List.length_append, List.length_take, List.length_drop, hml]; omega
  obtain ⟨Dk, hDk⟩ : ∃ Dk, Dk = Rk.take t ++ k2 (s.cl, s.num) :: Rk.drop t := ⟨_, rfl⟩
  have hDl : Dk.length = n := by rw [hDk, List.length_append, List.length_cons, List.length_take, List.length_drop, hRl]; omega
  have hR1 : One2 Rk := by
    intro q hq
    rw [hRk] at hq
    rcases List.mem_append.1 hq with hq | hq
    · exact k2_one ks q (List.mem_of_mem_take hq)
    · exact k2_one ks q (List.mem_of_mem_drop hq)
  have hDe : Dk = (layS l i t s).map fun s => k2 (skey s) := by
    rw [hDk, hRk, ← hk2]
    unfold layS
    simp only [List.map_append, List.map_cons, List.map_take, List.map_drop]
    rfl
  have HDel : Hid (∀ W, Below w.heap.size w W → W.heap[w.heap.size]? = some (.cells #[.int .i64 s.cl, .int .i64 s.num] 143) → Calls Try.prog 145 #[.slice (some ⟨g, 0, none⟩) n cap, .int .i64 (i : Int), .int .i64 (IntKind.i64.wrap ((i : Int) + 1))] W fun e w' => e = .returned (.slice (some ⟨g, 0, none⟩) m cap) ∧ Own2 w' 0 143 (.slice (some ⟨g, 0, none⟩) m cap) Rk ∧ But (fun k => k = g) w w' ∧ w'.heap[w.heap.size]? = some (.cells #[.int .i64 s.cl, .int .i64 s.num] 143) ∧ ∀ b ob, W.heap[b]? = some ob → b ≠ g → w'.heap[b]? = some ob) := fun W hb hbx => by
    have hO := row_but hrow (S := fun _ => False) (.of_below hb) (fun _ _ h => h)
    rw [← hml] at hO
    have := kdelete_any (w := W) (l := ks.map k2) (g := g) (cap := cap) (base := 0) hO (k2_one ks) i (i + 1) (by omega) (by omega) (by omega) Rk hRk
    rw [hml, hRl] at this
    rw [show IntKind.i64.wrap ((i : Int) + 1) = ((i + 1 : Nat) : Int) by rw [IntKind.wrap_i64]; omega]
    refine this.mono ?_
    rintro e w' ⟨h1, h2, h3⟩
    exact ⟨h1, h2, (But.of_below hb).trans h3, h3.heap hbx (by omega), fun b ob hb' hne => h3.heap hb' hne⟩
  have HIns : Hid (∀ W vb, Own2 W 0 143 (.slice (some ⟨g, 0, none⟩) m cap) Rk → W.heap[vb]? = some (.cells #[.int .i64 s.cl, .int .i64 s.num] 143) → vb ≠ g → Calls Try.prog 144 #[.slice (some ⟨g, 0, none⟩) m cap, .int .i64 (t : Int), .slice (some ⟨vb, 0, none⟩) 1 1] W fun e w' => e = .returned (.slice (some ⟨g, 0, none⟩) n cap) ∧ Own2 w' 0 143 (.slice (some ⟨g, 0, none⟩) n cap) Dk ∧ But (fun k => k = g) W w') := fun W vb hO hv hne => by
    rw [← hRl] at hO
    have := kinsert_any (w := W) (l := Rk) (p := k2 (s.cl, s.num)) (g := g) (cap := cap) (base := 0) (vb := vb) hO hR1 ⟨rfl, rfl⟩ hv hne t (by omega) (by omega) (by omega) Dk hDk
    rw [hRl, hDl] at this
    exact this
  have HIx : Hid (∀ W, Below w.heap.size w W → Calls Try.prog 143 #[.slice (some ⟨g, 0, none⟩) n cap, .agg #[.int .i64 s.cl, .int .i64 s.num]] W fun e w' => e = .returned (.int .i64 (i : Int)) ∧ Below W.heap.size W w') := fun W hb => by
    have := kindex_any (w := W) (cap := cap) (fun j k hk => ⟨(hb.cell lg).trans (hcells j k hk).1, (hb.cell lg).trans (hcells j k hk).2⟩) (fun _ => Nat.lt_of_lt_of_le lg hb.size) (by omega) s.cl s.num i hki hfst
    rw [hkl] at this
    exact this
  have c1 : w0.cell? ⟨sb, 1, none⟩ = some (.slice (some ⟨g, 0, none⟩) n cap) := (hB0.cell lsb).trans (blk_cell h.scm.blk 1)
  have b0 : w0.cell? ⟨w.heap.size, 0, none⟩ = some (.int .i64 s.cl) := blk_cell hN0 0
  have b1 : w0.cell? ⟨w.heap.size, 1, none⟩ = some (.int .i64 s.num) := blk_cell hN0 1
  have HB0 := hide hB0
  have HN0 := hide hN0
  have HW0 := hide hw0
  have HH := hide h
  have HI := hide hi
  have HN := hide hn
  unfold kval
  have hin : i < n := by omega
  have htn : t < n := by omega
  have hn1 : n ≤ 1000 := by omega
  have HM := hide hm
  have HDe := hide hDe
  have hsbx : ¬ sb = w.heap.size := by omega
  have hgx : ¬ w.heap.size = g := by omega
  clear hm hRk hRl hDk hDl hR1 hDe
  clear hB0 hN0 hw0 h hi hn hil ht hl hks hk2 hkl hml hki hfst hnn hrow hRr hcl hcells
  go_enter Try.func134, Try.ntmps134
  go_wp2
  rw [← unhide HW0]
  go_region_held3 (fun w' => w'.cell? ⟨sb, 1, none⟩ = some (.slice (some ⟨g, 0, none⟩) n cap) ∧ w'.cell? ⟨w.heap.size, 0, none⟩ = some (.int .i64 s.cl) ∧ w'.cell? ⟨w.heap.size, 1, none⟩ = some (.int .i64 s.num))
    (first | (refine ⟨?_, ?_, ?_⟩ <;> assumption) | go_keep)
    ((go_at_call 143
      refine ((unhide HIx) w0.drew (unhide HB0).drew).mono ?_
      rintro e w1 ⟨rfl, hb1⟩
      have hB1 : Below w.heap.size w w1 := ((unhide HB0).drew).trans (hb1.mono (unhide HB0).size)
      have hN1 : w1.heap[w.heap.size]? = some (.cells #[.int .i64 s.cl, .int .i64 s.num] 143) := (hb1.block _ (lt_of_heap (unhide HN0))).trans (unhide HN0)
      have d1 : w1.cell? ⟨sb, 1, none⟩ = some (.slice (some ⟨g, 0, none⟩) n cap) := (hb1.cell (Nat.lt_of_lt_of_le lsb (unhide HB0).size)).trans c1
      have e0 : w1.cell? ⟨w.heap.size, 0, none⟩ = some (.int .i64 s.cl) := blk_cell hN1 0
      have e1 : w1.cell? ⟨w.heap.size, 1, none⟩ = some (.int .i64 s.num) := blk_cell hN1 1
      have HB1 := hide hB1
      have HN1 := hide hN1
      clear hb1 hB1 hN1))
  simp only [Exit.then]
  go_simp
  go_wp2
  go_region_held3 (fun w' => w'.cell? ⟨sb, 1, none⟩ = some (.slice (some ⟨g, 0, none⟩) n cap) ∧ w'.cell? ⟨w.heap.size, 0, none⟩ = some (.int .i64 s.cl) ∧ w'.cell? ⟨w.heap.size, 1, none⟩ = some (.int .i64 s.num))
    (first | (refine ⟨?_, ?_, ?_⟩ <;> assumption) | go_keep)
    (first
      | (go_at_call 145
         refine ((unhide HDel) _ ?b1 ?b2).mono ?_
         case b1 => first | exact (unhide HB1).drew | exact ((unhide HB1).alloc (unhide HB1).size _).drew
         case b2 => first | exact unhide HN1 | exact blk_alloc (unhide HN1) _
         rintro e w2 ⟨rfl, hO2, hB2, hN2, hK2⟩
         have p1 : w2.cell? ⟨sb, 1, none⟩ = some (.slice (some ⟨g, 0, none⟩) n cap) := blk_cell (hB2.heap (unhide HH).scm.blk (fun e => hgsb e.symm)) 1
         have p2 : w2.cell? ⟨w.heap.size, 0, none⟩ = some (.int .i64 s.cl) := blk_cell hN2 0
         have p3 : w2.cell? ⟨w.heap.size, 1, none⟩ = some (.int .i64 s.num) := blk_cell hN2 1
         have lg1 : g < w1.heap.size := Nat.lt_of_lt_of_le lg (unhide HB1).size
         have lg2 : g < w2.heap.size := Nat.lt_of_lt_of_le lg hB2.size
         have HO2 := hide hO2
         have HN2 := hide hN2
         have HB2 := hide hB2
         have HK2 := hide hK2
         clear hO2 hN2 hB2 hK2)
      | (go_at_call 144
         refine ((unhide HIns) _ _ ?i1 ?i2 ?i3).mono ?_
         case i1 => first | exact row_but (unhide HO2) (S := fun _ => False) ((But.refl _ w2).alloc _) (fun _ _ h => h) | exact unhide HO2
         case i2 => first | exact new_at w2 _ _ rfl | exact (unhide HK2) w1.heap.size _ (new_at w1 _ _ rfl) (by omega)
         case i3 => omega
         rintro e w3 ⟨rfl, hO3, hb3⟩
         have hB3 : But (fun k => k = g) w w3 := by first | exact ((unhide HB2).alloc _).trans hb3 | exact (unhide HB2).trans hb3
         have hS3 : w3.heap[sb]? = some (.cells #[.map (some mb), .slice (some ⟨g, 0, none⟩) n cap, .int .i64 beh] 146 (0, 0)) := hB3.heap (unhide HH).scm.blk (fun e => hgsb e.symm)
         have hN3 : w3.heap[w.heap.size]? = some (.cells #[.int .i64 s.cl, .int .i64 s.num] 143) := by first | exact hb3.heap (blk_alloc (unhide HN2) _) hgx | exact hb3.heap (unhide HN2) hgx
         have q1 : w3.cell? ⟨sb, 1, none⟩ = some (.slice (some ⟨g, 0, none⟩) n cap) := blk_cell hS3 1
         have q2 : w3.cell? ⟨w.heap.size, 0, none⟩ = some (.int .i64 s.cl) := blk_cell hN3 0
         have q3 : w3.cell? ⟨w.heap.size, 1, none⟩ = some (.int .i64 s.num) := blk_cell hN3 1
         have qf : ∀ j, w3.frozen? ⟨sb, j, none⟩ = false := fun j => blk_thaw hS3 j
         have q4 : (w3.setCell ⟨sb, 1, none⟩ (.slice (some ⟨g, 0, none⟩) n cap)).cell? ⟨sb, 1, none⟩ = some (.slice (some ⟨g, 0, none⟩) n cap) := blk_cell (blk_set (i := 1) hS3 _) 1
         have q5 : (w3.setCell ⟨sb, 1, none⟩ (.slice (some ⟨g, 0, none⟩) n cap)).cell? ⟨w.heap.size, 0, none⟩ = some (.int .i64 s.cl) := blk_cell (blk_other hN3 (fun e => hsbx e.symm) _) 0
         have q6 : (w3.setCell ⟨sb, 1, none⟩ (.slice (some ⟨g, 0, none⟩) n cap)).cell? ⟨w.heap.size, 1, none⟩ = some (.int .i64 s.num) := blk_cell (blk_other hN3 (fun e => hsbx e.symm) _) 1
         have HO3 := hide hO3
         have HS3 := hide hS3
         have HB3 := hide hB3
         clear hO3 hS3 hB3 hb3 hN3))
  all_goals
    simp only [Exit.then]
    go_simp
    go_wp2
    go_ret
    have hS4 := blk_set (i := 1) (unhide HS3) (.slice (some ⟨g, 0, none⟩) n cap)
    have hB4 : But (fun k => k = sb ∨ k = g) w (w3.setCell ⟨sb, 1, none⟩ (.slice (some ⟨g, 0, none⟩) n cap)) := ((unhide HB3).wide (fun k _ e => .inr e)).setCell (p := ⟨sb, 1, none⟩) (.inl (.inl rfl)) _
    have hO4 : Own2 (w3.setCell ⟨sb, 1, none⟩ (.slice (some ⟨g, 0, none⟩) n cap)) 0 143 (.slice (some ⟨g, 0, none⟩) n cap) Dk := row_but (unhide HO3) ((But.refl (fun k => k = sb) w3).setCell (p := ⟨sb, 1, none⟩) (.inl rfl) _) (fun k hk e => by cases hk; exact hgsb e)
    refine ⟨rfl, (unhide HH).order (layS_perm (unhide HI)) (fun _ h => h) hB4 ?_ hCU hS4 ?_ ?_, ?_⟩
    · rintro k (rfl | rfl)
      · exact .inl rfl
      · exact .inr rfl
    · rw [← unhide HDe]; exact hO4
    · intro k hk; exact (unhide HH).cov k hk
    · refine hB4.wide ?_
      rintro k _ (rfl | rfl)
      · exact (unhide HH).csb
      · exact (unhide HH).cov _ rfl
end Go.Proofs.Ytfnockbgkcgpkaa
