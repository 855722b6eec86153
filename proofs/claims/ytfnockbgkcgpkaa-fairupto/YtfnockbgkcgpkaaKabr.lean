import Derived.Test.YtfnockbgkcgpkaaKabq
set_option linter.all false
namespace Go.Proofs.Ytfnockbgkcgpkaa
open Go.RowKit Go.Proofs.Panes
set_option maxRecDepth 100000
theorem takeN_sum : ∀ (l : List (List Opn)) (cr : Int), (takeN cr l).2 = cr - ((l.take (takeN cr l).1).map costOf).sum
  | [], cr => by simp [takeN]
  | o :: l, cr => by
    unfold takeN
    split
    · simp only [List.take_succ_cons, List.map_cons, List.sum_cons]
      rw [takeN_sum l (cr - costOf o)]
      omega
    · simp
/-- What is admitted of one that is not through. -/
theorem adm_bal {k : Cli} {q : Int} (hne : (admitC k q).2.q ≠ []) : admCost q (some k) = k.cr + q - (admitC k q).2.cr := by
  have hle := takeN_le k.q (k.cr + q)
  have hlt : (takeN (k.cr + q) k.q).1 < k.q.length := by
    rcases Nat.lt_or_ge (takeN (k.cr + q) k.q).1 k.q.length with h | h
    · exact h
    · exact absurd (List.drop_eq_nil_of_le h) hne
  have hc : cntN q (some k) = (takeN (k.cr + q) k.q).1 := by
    unfold cntN cntK
    simp only [admitC, List.length_take]
    omega
  have hcr : (admitC k q).2.cr = (takeN (k.cr + q) k.q).2 := by
    unfold admitC
    simp only
    rw [if_neg (by omega)]
  unfold admCost
  rw [hc, hcr, takeN_sum]
  simp only [costsK, List.map_take]
  omega
/-- Two that have something: how much more the first one had since. -/
def FrI (s : Scrn) (F : ShF) (a b : Nat) (fr : Int) : Prop := ∃ (ka kb : Cli) (ha hb x y : Int), s.ks[a]? = some (some ka) ∧ s.ks[b]? = some (some kb) ∧ F.had[a]? = some ha ∧ F.had[b]? = some hb ∧ (0 ≤ x ∧ x ≤ s.c.most) ∧ (0 ≤ y ∧ y ≤ s.c.most) ∧ ha - hb - fr = x - ka.cr - y + kb.cr
section
variable {n : Nat} {s : Scrn} {F : ShF} {a b : Nat} {fr : Int}
theorem FrI.bound (h : FrI s F a b fr) (hI : ShI n s F) {ha hb : Int} (h1 : F.had[a]? = some ha) (h2 : F.had[b]? = some hb) : ha - hb - fr ≤ s.c.quantum + s.c.most := by
  obtain ⟨ka, kb, ha', hb', x, y, g1, g2, g3, g4, g5, g6, g7⟩ := h
  rw [h1] at g3; rw [h2] at g4
  cases g3; cases g4
  have c1 := (hI.scr.cl a ka g1).cr
  have c2 := (hI.scr.cl b kb g2).cr
  have := (cfgB hI.scr.cfg).quantum
  omega
theorem FrI.bd (h : FrI s F a b fr) (hI : ShI n s F) {ha hb : Int} (h1 : F.had[a]? = some ha) (h2 : F.had[b]? = some hb) : -600 ≤ ha - hb - fr ∧ ha - hb - fr ≤ 600 := by
  obtain ⟨ka, kb, ha', hb', x, y, g1, g2, g3, g4, g5, g6, g7⟩ := h
  rw [h1] at g3; rw [h2] at g4
  cases g3; cases g4
  have c1 := (hI.scr.cl a ka g1).cr
  have c2 := (hI.scr.cl b kb g2).cr
  have := (cfgB hI.scr.cfg).most
  omega
theorem wait_some (hI : ShI n s F) {l : List Int} (h : F.wait[a]? = some l) (hl : l ≠ []) : ∃ k, s.ks[a]? = some (some k) ∧ l = costsK (some k) := by
  rw [hI.wait, List.getElem?_map] at h
  cases hk : s.ks[a]? with
  | none => rw [hk] at h; cases h
  | some k =>
    rw [hk] at h
    simp only [Option.map_some, Option.some.injEq] at h
    cases k with
    | none => exact absurd h.symm hl
    | some k => exact ⟨k, rfl, h.symm⟩
theorem FrI.start (hI : ShI n s F) {la lb : List Int} (h1 : F.wait[a]? = some la) (h2 : F.wait[b]? = some lb) (n1 : la ≠ []) (n2 : lb ≠ []) {ha hb : Int} (g1 : F.had[a]? = some ha) (g2 : F.had[b]? = some hb) : FrI s F a b (ha - hb) := by
  obtain ⟨ka, k1, -⟩ := wait_some hI h1 n1
  obtain ⟨kb, k2, -⟩ := wait_some hI h2 n2
  exact ⟨ka, kb, ha, hb, ka.cr, kb.cr, k1, k2, g1, g2, (hI.scr.cl a ka k1).cr, (hI.scr.cl b kb k2).cr, by omega⟩
/-- A move, where both still have something behind it. -/
theorem FrI.step (h : FrI s F a b fr) (hI : ShI n s F) (hn : n ≤ 1300000) {ops : List (List Opn)} (hO : OpsB ops) (m : Mv) {la lb : List Int} (h1 : (mv ops m (s, F)).2.wait[a]? = some la) (h2 : (mv ops m (s, F)).2.wait[b]? = some lb) (n1 : la ≠ []) (n2 : lb ≠ []) : FrI (mv ops m (s, F)).1 (mv ops m (s, F)).2 a b fr := by
  have hI' := mv_in hI hn hO m
  obtain ⟨ka', k1, -⟩ := wait_some hI' h1 n1
  obtain ⟨kb', k2, -⟩ := wait_some hI' h2 n2
  obtain ⟨ka, kb, ha, hb, x, y, g1, g2, g3, g4, g5, g6, g7⟩ := h
  have hla : la = costsK (some ka') := by
    rw [hI'.wait, List.getElem?_map, k1] at h1; simpa using h1.symm
  have hlb : lb = costsK (some kb') := by
    rw [hI'.wait, List.getElem?_map, k2] at h2; simpa using h2.symm
  clear h1 h2
  unfold mv at k1 k2 ⊢
  split at k1
  · rename_i hc
    rw [if_pos hc] at k2 ⊢
    simp only at k1 k2 ⊢
    unfold subAll at k1 k2 ⊢
    split at k1
    · rename_i h0
      rw [if_pos h0] at k2 ⊢
      simp only at k1 k2 ⊢
      have key : ∀ (j : Nat) (k k' : Cli), s.ks[j]? = some (some k) → (subS s (kpk m.a (s.ks.length : Int)).toNat (fullO F (rawOf ops m.b))).ks[j]? = some (some k') → k'.cr = k.cr := by
        intro j k k' hk hk'
        unfold subS at hk'
        split at hk'
        · rename_i cl hcl
          split at hk'
          · simp only at hk'
            rw [List.getElem?_set] at hk'
            split at hk'
            · rename_i e
              subst e
              rw [hcl] at hk
              simp only [Option.some.injEq] at hk
              subst hk
              split at hk'
              · simp only [Option.some.injEq] at hk'
                subst hk'; rfl
              · cases hk'
            · rw [hk] at hk'
              simp only [Option.some.injEq] at hk'
              subst hk'; rfl
          · rw [hk] at hk'
            simp only [Option.some.injEq] at hk'
            subst hk'; rfl
        · rw [hk] at hk'
          simp only [Option.some.injEq] at hk'
          subst hk'; rfl
      have hcc : (subS s (kpk m.a (s.ks.length : Int)).toNat (fullO F (rawOf ops m.b))).c = s.c := by
        unfold subS
        split
        · split <;> rfl
        · rfl
      refine ⟨ka', kb', ha, hb, x, y, k1, k2, g3, g4, by rw [hcc]; exact g5, by rw [hcc]; exact g6, ?_⟩
      rw [key a ka ka' g1 k1, key b kb kb' g2 k2]; exact g7
    · rename_i h0
      rw [if_neg h0] at k2 ⊢
      exact ⟨ka, kb, ha, hb, x, y, g1, g2, g3, g4, g5, g6, g7⟩
  · rename_i hc
    rw [if_neg hc] at k2 ⊢
    split at k1
    · rename_i hc2
      rw [if_pos hc2] at k2 ⊢
      simp only at k1 k2 ⊢
      have hks : ∀ b, (tickS s b).ks = s.ks.map (admK s.c.quantum) := fun b => ksI_full s.c.quantum s.ks
      rw [hks, List.getElem?_map, g1] at k1
      rw [hks, List.getElem?_map, g2] at k2
      simp only [admK, Option.map_some, Option.some.injEq] at k1 k2
      have ea := adm_bal (k := ka) (q := s.c.quantum) (by rw [k1]; intro e; exact n1 (by rw [hla]; simp [costsK, e]))
      have eb := adm_bal (k := kb) (q := s.c.quantum) (by rw [k2]; intro e; exact n2 (by rw [hlb]; simp [costsK, e]))
      rw [k1] at ea
      rw [k2] at eb
      have la' := (List.getElem?_eq_some_iff.1 g1).1
      have lb' := (List.getElem?_eq_some_iff.1 g2).1
      refine ⟨ka', kb', ha + admCost s.c.quantum (some ka), hb + admCost s.c.quantum (some kb), x, y, ?_, ?_, ?_, ?_, g5, g6, ?_⟩
      · rw [hks, List.getElem?_map, g1]; simp [admK, k1]
      · rw [hks, List.getElem?_map, g2]; simp [admK, k2]
      · show (hadI s.c.quantum s.ks F.had s.ks.length)[a]? = _
        unfold hadI
        rw [List.getElem?_mapIdx, g3]
        simp only [Option.map_some, if_pos la', List.getD_eq_getElem?_getD, g1, Option.getD_some]
      · show (hadI s.c.quantum s.ks F.had s.ks.length)[b]? = _
        unfold hadI
        rw [List.getElem?_mapIdx, g4]
        simp only [Option.map_some, if_pos lb', List.getD_eq_getElem?_getD, g2, Option.getD_some]
      · rw [ea, eb]; omega
    · rename_i hc2
      rw [if_neg hc2] at k2 ⊢
      split at k1
      · rename_i hc3
        rw [if_pos hc3] at k2 ⊢
        simp only at k1 k2 ⊢
        have key : ∀ (j : Nat) (k k' : Cli), s.ks[j]? = some (some k) → (cameS s).ks[j]? = some (some k') → k' = k := by
          intro j k k' hk hk'
          unfold cameS at hk'
          split at hk'
          · rename_i f hf
            obtain ⟨f1, f2, -⟩ := firstNone_is _ _ hf
            simp only at hk'
            rw [List.getElem?_set] at hk'
            split at hk'
            · rename_i e
              subst e
              rw [List.getElem?_map, hk] at f2
              simp at f2
            · rw [hk] at hk'
              simp only [Option.some.injEq] at hk'
              exact hk'.symm
          · rw [hk] at hk'
            simp only [Option.some.injEq] at hk'
            exact hk'.symm
        have hcc : (cameS s).c = s.c := by unfold cameS; split <;> rfl
        have hh : (cameF s F).had = F.had := by unfold cameF; split <;> rfl
        refine ⟨ka', kb', ha, hb, x, y, k1, k2, by rw [hh]; exact g3, by rw [hh]; exact g4, by rw [hcc]; exact g5, by rw [hcc]; exact g6, ?_⟩
        rw [key a ka ka' g1 k1, key b kb kb' g2 k2]; exact g7
      · rename_i hc3
        rw [if_neg hc3] at k2 ⊢
        simp only at k1 k2 ⊢
        have key : ∀ (j : Nat) (k k' : Cli), s.ks[j]? = some (some k) → (leftS s (kpk m.a (s.ks.length : Int)).toNat).ks[j]? = some (some k') → k' = k := by
          intro j k k' hk hk'
          unfold leftS at hk'
          split at hk'
          · have hk2 : (s.ks.set (kpk m.a (s.ks.length : Int)).toNat none)[j]? = some (some k') := hk'
            rw [List.getElem?_set] at hk2
            split at hk2
            · split at hk2 <;> simp at hk2
            · rw [hk] at hk2
              simp only [Option.some.injEq] at hk2
              exact hk2.symm
          · rw [hk] at hk'
            simp only [Option.some.injEq] at hk'
            exact hk'.symm
        have hcc : (leftS s (kpk m.a (s.ks.length : Int)).toNat).c = s.c := by unfold leftS; split <;> rfl
        refine ⟨ka', kb', ha, hb, x, y, k1, k2, g3, g4, by rw [hcc]; exact g5, by rw [hcc]; exact g6, ?_⟩
        rw [key a ka ka' g1 k1, key b kb kb' g2 k2]; exact g7
end
end Go.Proofs.Ytfnockbgkcgpkaa
set_option linter.all false
namespace Go.Proofs.Ytfnockbgkcgpkaa
open Go.RowKit Go.Proofs.Panes
set_option maxRecDepth 100000
/-- In 'Fair': the shop, and the two arrays. -/
structure FaS (w wr : World) (sp fb nb : Nat) (s : Scrn) (F : ShF) (fr : List Int) (sn : List Bool) : Prop where
  ex : ∃ S, Shop S wr sp s F ∧ ∀ x, S x → w.heap.size ≤ x ∧ x ≠ fb ∧ x ≠ nb ∧ x < wr.heap.size
  bf : wr.heap[fb]? = some (.cells (fr.map (Value.int .i64)).toArray 58 (0, 0))
  bn : wr.heap[nb]? = some (.cells (sn.map Value.bool).toArray 59 (0, 0))
  lf : fr.length = 16
  ln : sn.length = 16
  gf : w.heap.size ≤ fb ∧ w.heap.size ≤ nb
  ne : fb ≠ nb
  bel : Below w.heap.size w wr
section
variable {w wr w2 : World} {sp fb nb n : Nat} {s : Scrn} {F : ShF} {fr : List Int} {sn : List Bool} {ops : List (List Opn)} {m : Mv} {ov : Value}
theorem FaS.below (h : FaS w wr sp fb nb s F fr sn) (hb : Below wr.heap.size wr w2) : FaS w w2 sp fb nb s F fr sn := by
  obtain ⟨S, h1, h2⟩ := h.ex
  exact ⟨⟨S, h1.below hb, fun x hx => by have h3 := h2 x hx; have := hb.size; exact ⟨h3.1, h3.2.1, h3.2.2.1, by omega⟩⟩, (But.of_below (S := fun _ => False) hb).heap h.bf (fun h => h), (But.of_below (S := fun _ => False) hb).heap h.bn (fun h => h), h.lf, h.ln, h.gf, h.ne, h.bel.trans (hb.mono h.bel.size)⟩
theorem FaS.moves (h : FaS w wr sp fb nb s F fr sn) (hI : ShI n s F) (hn : n ≤ 1300000) (hm : FitM m) (hR : RdOO (fun k => k < w.heap.size) w ov ops) (hO : OpsB ops) :
    Calls Try.prog 26 #[.pointer (some ⟨sp, 0, none⟩), .agg #[.int .i64 m.kind, .int .i64 m.a, .int .i64 m.b], ov] wr fun e w' => (∃ u, e = .returned u) ∧ FaS w w' sp fb nb (mv ops m (s, F)).1 (mv ops m (s, F)).2 fr sn := by
  obtain ⟨S, h1, h2⟩ := h.ex
  refine (moves_any h1 hI hn hm (hR.below h.bel) (fun y hy => ⟨Nat.lt_of_lt_of_le hy h.bel.size, fun e => by have := (h2 y e).1; omega⟩) hO).mono ?_
  rintro e w' ⟨g1, g2, g3⟩
  have lf := lt_of_heap h.bf
  have ln := lt_of_heap h.bn
  refine ⟨g1, ⟨_, g2.lt, fun x hx => ?_⟩, g3.heap h.bf (fun e => (h2 fb e).2.1 rfl), g3.heap h.bn (fun e => (h2 nb e).2.2.1 rfl), h.lf, h.ln, h.gf, h.ne, h.bel.trans (g3.below h.bel.size (fun x hx => (h2 x hx).1))⟩
  rcases hx.1 with q | q
  · have := h2 x q
    exact ⟨this.1, this.2.1, this.2.2.1, hx.2⟩
  · exact ⟨Nat.le_trans h.bel.size q, by omega, by omega, hx.2⟩
theorem FaS.base (h : FaS w wr sp fb nb s F fr sn) : wr.cell? ⟨sp, 5, none⟩ = some (.int .i64 F.c.most) ∧ wr.cell? ⟨sp, 6, none⟩ = some (.int .i64 F.c.quantum) ∧ wr.cell? ⟨sp, 15, none⟩ = some (.bool true) ∧ sp < wr.heap.size ∧ sp ≠ fb ∧ sp ≠ nb := by
  obtain ⟨S, ⟨a, o, xp, kb, sb, fb', cps, L, h1, h2, h3, h4⟩, h5⟩ := h.ex
  have := h5 sp (h4 sp (.inl (by rw [h1.asp]; omega)))
  exact ⟨blk_cell h1.blk 5, blk_cell h1.blk 6, blk_cell h1.blk 15, this.2.2.2, this.2.1, this.2.2.1⟩
/-- What was had, what waits. -/
theorem FaS.rows (h : FaS w wr sp fb nb s F fr sn) (hI : ShI n s F) (N : Nat) (hN : N = s.ks.length) : ∃ g gc gw wc, (wr.cell? ⟨sp, 11, none⟩ = some (.slice (some ⟨g, 0, none⟩) N gc) ∧ wr.cell? ⟨sp, 10, none⟩ = some (.slice (some ⟨gw, 0, none⟩) N wc) ∧ g ≠ fb ∧ g < wr.heap.size) ∧ (∀ (a : Nat) (x : Int), F.had[a]? = some x → wr.cell? ⟨g, a, none⟩ = some (.int .i64 x)) ∧ ∀ (a : Nat) (l : List Int), F.wait[a]? = some l → ∃ vo vc, wr.cell? ⟨gw, a, none⟩ = some (.slice vo l.length vc) := by
  obtain ⟨S, ⟨a, o, xp, kb, sb, fb', cps, L, h1, h2, h3, h4⟩, h5⟩ := h.ex
  have hn4 := hI.n4
  have hl : F.had.length = N := by rw [hN]; exact hI.hl
  have hw : F.wait.length = N := by rw [hN, hI.wait]; simp
  obtain ⟨g, gc, hg⟩ := row_some h1.had (by omega)
  obtain ⟨gw, wc, hgw⟩ := row_some h1.wait (by omega)
  have ho := h1.had
  unfold OwnN at ho
  rw [hg] at ho
  have how := h1.wait
  rw [hgw] at how
  have hwl : L.ws.length = F.wait.length := by have := h1.wait.1; omega
  have ag : a g = 4 := h1.ahv g (by rw [hg]; rfl)
  have hgg := h5 g (h4 g (.inl (by rw [ag]; omega)))
  refine ⟨g, gc, gw, wc, ⟨?_, ?_, hgg.2.1, hgg.2.2.2⟩, fun j x hx => ?_, fun j l hjl => ?_⟩
  · rw [← hl, ← hg]; exact blk_cell h1.blk 11
  · rw [← hw, ← hgw]; exact blk_cell h1.blk 10
  · exact ownN_at (show OwnN wr 0 _ F.had from ho) rfl hx
  · have hj := (List.getElem?_eq_some_iff.1 hjl).1
    obtain ⟨v, hv⟩ : ∃ v, L.ws[j]? = some v := ⟨L.ws[j]'(by omega), by simp⟩
    obtain ⟨vo, vc, rfl, -⟩ := (h1.each j v l hv hjl).slice
    exact ⟨vo, vc, by rw [World.ownsRow.cellAt how _ (by omega), hv]⟩
theorem FaS.fromAt (h : FaS w wr sp fb nb s F fr sn) {j : Nat} {x : Int} (hj : fr[j]? = some x) : wr.cell? ⟨fb, j, none⟩ = some (.int .i64 x) ∧ wr.frozen? ⟨fb, j, none⟩ = false ∧ ∀ (q : Nat) (v : Int), FaS w ((wr.drewN q).setCell ⟨fb, j, none⟩ (.int .i64 v)) sp fb nb s F (fr.set j v) sn := by
  refine ⟨by rw [blk_cell h.bf]; simp [hj], blk_thaw h.bf j, fun q v => ?_⟩
  have k := h.below (below_drewN (Below.refl _ wr) q)
  obtain ⟨S, h1, h2⟩ := k.ex
  have hb : But (fun x => x = fb) (wr.drewN q) ((wr.drewN q).setCell ⟨fb, j, none⟩ (.int .i64 v)) := (But.refl (fun x => x = fb) _).setCell (p := ⟨fb, j, none⟩) (.inl rfl) _
  refine ⟨⟨S, h1.but hb (fun x hx e => (h2 x hx).2.1 e), fun x hx => ?_⟩, ?_, hb.heap k.bn (fun e => h.ne e.symm), by rw [List.length_set]; exact h.lf, h.ln, h.gf, h.ne, k.bel.trans (hb.below k.bel.size (fun x hx => by rw [hx]; exact h.gf.1))⟩
  · have := h2 x hx
    have := hb.size
    exact ⟨by omega, by omega, by omega, by omega⟩
  · rw [blk_set (i := j) k.bf (.int .i64 v)]
    simp [List.map_set]
theorem FaS.sinceAt (h : FaS w wr sp fb nb s F fr sn) {j : Nat} {x : Bool} (hj : sn[j]? = some x) : wr.cell? ⟨nb, j, none⟩ = some (.bool x) ∧ wr.frozen? ⟨nb, j, none⟩ = false ∧ ∀ (q : Nat) (v : Bool), FaS w ((wr.drewN q).setCell ⟨nb, j, none⟩ (.bool v)) sp fb nb s F fr (sn.set j v) := by
  refine ⟨by rw [blk_cell h.bn]; simp [hj], blk_thaw h.bn j, fun q v => ?_⟩
  have k := h.below (below_drewN (Below.refl _ wr) q)
  obtain ⟨S, h1, h2⟩ := k.ex
  have hb : But (fun x => x = nb) (wr.drewN q) ((wr.drewN q).setCell ⟨nb, j, none⟩ (.bool v)) := (But.refl (fun x => x = nb) _).setCell (p := ⟨nb, j, none⟩) (.inl rfl) _
  refine ⟨⟨S, h1.but hb (fun x hx e => (h2 x hx).2.2.1 e), fun x hx => ?_⟩, hb.heap k.bf (fun e => h.ne e), ?_, h.lf, by rw [List.length_set]; exact h.ln, h.gf, h.ne, k.bel.trans (hb.below k.bel.size (fun x hx => by rw [hx]; exact h.gf.2))⟩
  · have := h2 x hx
    have := hb.size
    exact ⟨by omega, by omega, by omega, by omega⟩
  · rw [blk_set (i := j) k.bn (.bool v)]
    simp [List.map_set]
end
/-- The pairs that have had something since. -/
def FaP (N : Nat) (s : Scrn) (F : ShF) (fr : List Int) (sn : List Bool) : Prop := ∀ a b, a < N → b < N → sn[4 * a + b]? = some true → ∃ f, fr[4 * a + b]? = some f ∧ FrI s F a b f
/-- .. the first k of them behind a move, the others ahead of it. -/
def FaM (N k : Nat) (s : Scrn) (F : ShF) (s' : Scrn) (F' : ShF) (fr : List Int) (sn : List Bool) : Prop := ∀ a b, a < N → b < N → sn[4 * a + b]? = some true → ∃ f, fr[4 * a + b]? = some f ∧ if a * N + b < k then FrI s' F' a b f else FrI s F a b f
section
variable {N n k : Nat} {s s' : Scrn} {F F' : ShF} {fr : List Int} {sn : List Bool}
theorem pair_inj {a b a' b' : Nat} (hb : b < 4) (hb' : b' < 4) (h : 4 * a + b = 4 * a' + b') : a = a' ∧ b = b' := by omega
/-- A pair is looked at ahead of a tick. -/
theorem FaP.look (h : FaP N s F fr sn) (hN : N ≤ 4) (hI : ShI n s F) (lf : fr.length = 16) (ln : sn.length = 16) {a b : Nat} (ha : a < N) (hb : b < N) {x : Bool} (hx : sn[4 * a + b]? = some x) {la lb : List Int} (h1 : F.wait[a]? = some la) (h2 : F.wait[b]? = some lb) {u v : Int} (g1 : F.had[a]? = some u) (g2 : F.had[b]? = some v) :
    FaP N s F (if x = true then fr else fr.set (4 * a + b) (u - v)) (sn.set (4 * a + b) (decide (0 < la.length) && decide (0 < lb.length))) := by
  intro a' b' ha' hb' ht
  by_cases e : 4 * a + b = 4 * a' + b'
  · obtain ⟨rfl, rfl⟩ := pair_inj (by omega) (by omega) e
    rw [List.getElem?_set_self (by omega)] at ht
    simp only [Option.some.injEq, Bool.and_eq_true, decide_eq_true_eq] at ht
    by_cases hxt : x = true
    · rw [if_pos hxt]
      rw [hxt] at hx
      exact h a b ha hb hx
    · rw [if_neg hxt]
      exact ⟨u - v, by rw [List.getElem?_set_self (by omega)], FrI.start hI h1 h2 (fun e => by rw [e] at ht; simp at ht) (fun e => by rw [e] at ht; simp at ht) g1 g2⟩
  · rw [List.getElem?_set_ne e] at ht
    obtain ⟨f, hf, hF⟩ := h a' b' ha' hb' ht
    refine ⟨f, ?_, hF⟩
    split
    · exact hf
    · rw [List.getElem?_set_ne e]; exact hf
theorem FaP.mix (h : FaP N s F fr sn) : FaM N 0 s F s' F' fr sn := fun a b ha hb ht => by
  obtain ⟨f, h1, h2⟩ := h a b ha hb ht
  exact ⟨f, h1, by rw [if_neg (by omega)]; exact h2⟩
theorem FaM.done (h : FaM N (N * N) s F s' F' fr sn) : FaP N s' F' fr sn := fun a b ha hb ht => by
  obtain ⟨f, h1, h2⟩ := h a b ha hb ht
  have : a * N + b < N * N := by
    have h3 : a * N + N ≤ N * N := by
      have := Nat.mul_le_mul_right N (show a + 1 ≤ N from ha)
      rw [Nat.add_mul, Nat.one_mul] at this
      exact this
    omega
  rw [if_pos this] at h2
  exact ⟨f, h1, h2⟩
theorem pair_of {N k a b : Nat} (hb : b < N) (e : a * N + b = k) : a = k / N ∧ b = k % N := by
  subst e
  have hN : 0 < N := by omega
  constructor
  · rw [Nat.add_comm, Nat.add_mul_div_right _ _ hN, Nat.div_eq_of_lt hb, Nat.zero_add]
  · rw [Nat.add_comm, Nat.add_mul_mod_self_right, Nat.mod_eq_of_lt hb]
/-- A pair that has nothing. -/
theorem FaM.drop (h : FaM N k s F s' F' fr sn) (hN : N ≤ 4) (ln : sn.length = 16) {a b : Nat} (ha : a < N) (hb : b < N) (e : a * N + b = k) : FaM N (k + 1) s F s' F' fr (sn.set (4 * a + b) false) := by
  intro a' b' ha' hb' ht
  by_cases e2 : 4 * a + b = 4 * a' + b'
  · rw [e2, List.getElem?_set_self (by omega)] at ht
    simp at ht
  · rw [List.getElem?_set_ne e2] at ht
    obtain ⟨f, h1, h2⟩ := h a' b' ha' hb' ht
    refine ⟨f, h1, ?_⟩
    have : a' * N + b' ≠ k := fun e3 => by
      obtain ⟨p1, p2⟩ := pair_of hb e
      obtain ⟨p3, p4⟩ := pair_of hb' e3
      exact e2 (by rw [p1, p2, p3, p4])
    by_cases e4 : a' * N + b' < k
    · rw [if_pos e4] at h2; rw [if_pos (by omega)]; exact h2
    · rw [if_neg e4] at h2; rw [if_neg (by omega)]; exact h2
/-- A pair that has something still. -/
theorem FaM.keep (h : FaM N k s F s' F' fr sn) {a b : Nat} (ha : a < N) (hb : b < N) (e : a * N + b = k) (hst : ∀ f, FrI s F a b f → FrI s' F' a b f) : FaM N (k + 1) s F s' F' fr sn := by
  intro a' b' ha' hb' ht
  obtain ⟨f, h1, h2⟩ := h a' b' ha' hb' ht
  refine ⟨f, h1, ?_⟩
  by_cases e3 : a' * N + b' = k
  · obtain ⟨p1, p2⟩ := pair_of hb e
    obtain ⟨p3, p4⟩ := pair_of hb' e3
    rw [if_neg (by omega)] at h2
    rw [if_pos (by omega)]
    have e5 : a' = a := by rw [p1, p3]
    have e6 : b' = b := by rw [p2, p4]
    subst e5 e6
    exact hst f h2
  · by_cases e4 : a' * N + b' < k
    · rw [if_pos e4] at h2; rw [if_pos (by omega)]; exact h2
    · rw [if_neg e4] at h2; rw [if_neg (by omega)]; exact h2
theorem FaM.at (h : FaM N (k + 1) s F s' F' fr sn) {a b : Nat} (ha : a < N) (hb : b < N) (e : a * N + b = k) (hs : sn[4 * a + b]? = some true) : ∃ f, fr[4 * a + b]? = some f ∧ FrI s' F' a b f := by
  obtain ⟨f, h1, h2⟩ := h a b ha hb hs
  rw [if_pos (by omega)] at h2
  exact ⟨f, h1, h2⟩
end
end Go.Proofs.Ytfnockbgkcgpkaa
