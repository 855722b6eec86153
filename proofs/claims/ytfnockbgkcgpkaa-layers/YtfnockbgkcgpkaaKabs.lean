import Derived.Test.YtfnockbgkcgpkaaKabq
import Derived.Test.YtfnockbgkcgpkaaKabr
set_option linter.all false
namespace Go.Proofs.Ytfnockbgkcgpkaa
open Go.RowKit Go.Proofs.Panes
set_option maxRecDepth 100000
/-- The same surfaces, clients, ticks; as many marks. -/
structure Same (s1 : Scrn) (F1 : ShF) (s2 : Scrn) (F2 : ShF) : Prop where
  c : s1.c = s2.c
  ks : s1.ks = s2.ks
  l : s1.l = s2.l
  t : s1.t = s2.t
  m : F1.marks.length = F2.marks.length
theorem doOps_fst (j : Nat) : ∀ (ops : List Opn) (st st' : List Srf × Frs), st.1 = st'.1 → (ops.foldl (doOp j) st).1 = (ops.foldl (doOp j) st').1
  | [], st, st', h => h
  | o :: l, st, st', h => by
    refine doOps_fst j l _ _ ?_
    unfold doOp
    split
    · exact h
    · rw [h]
theorem doAll_fst (j : Nat) : ∀ (trs : List (List Opn)) (st st' : List Srf × Frs), st.1 = st'.1 → (doAll j st trs).1 = (doAll j st' trs).1
  | [], st, st', h => h
  | t :: l, st, st', h => doAll_fst j l (doTr j st t) (doTr j st' t) (doOps_fst j t _ _ h)
theorem scAdmI_fst (q : Int) (ks : List (Option Cli)) (st st' : List Srf × Frs) (h : st.1 = st'.1) : ∀ j, (scAdmI q ks st j).1 = (scAdmI q ks st' j).1
  | 0 => h
  | j + 1 => by
    have ih := scAdmI_fst q ks st st' h j
    unfold scAdmI
    split
    · exact doAll_fst j _ _ _ ih
    · exact ih
section
variable {s1 s2 : Scrn} {F1 F2 : ShF} {n1 n2 : Nat}
theorem Same.tick (h : Same s1 F1 s2 F2) (h1 : ShI n1 s1 F1) (h2 : ShI n2 s2 F2) (hn1 : n1 ≤ 1300000) (hn2 : n2 ≤ 1300000) {b1 b2 : Nat} (hb1 : b1 ≤ 1000) (hb2 : b2 ≤ 1000) : Same (tickS s1 b1) (tickF s1 F1 b1 (firedM s1 F1)) (tickS s2 b2) (tickF s2 F2 b2 (firedM s2 F2)) := by
  obtain ⟨m1, hm1, -⟩ := tick_in h1 hn1 hb1
  obtain ⟨m2, hm2, -⟩ := tick_in h2 hn2 hb2
  have e1 : firedM s1 F1 = m1 := by unfold firedM; rw [hm1.fire]; rfl
  have e2 : firedM s2 F2 = m2 := by unfold firedM; rw [hm2.fire]; rfl
  have k1 : (tickS s1 b1).ks = s1.ks.map (admK s1.c.quantum) := ksI_full _ _
  have k2 : (tickS s2 b2).ks = s2.ks.map (admK s2.c.quantum) := ksI_full _ _
  refine ⟨h.c, by rw [k1, k2, h.ks, h.c], ?_, ?_, ?_⟩
  · show (scAdmI s1.c.quantum s1.ks ((tk3 s1).l, (tk3 s1).f) s1.ks.length).1 = (scAdmI s2.c.quantum s2.ks ((tk3 s2).l, (tk3 s2).f) s2.ks.length).1
    rw [h.c, h.ks]
    exact scAdmI_fst _ _ _ _ (by show s1.l.map goS = s2.l.map goS; rw [h.l]) _
  · show s1.t + 1 = s2.t + 1; rw [h.t]
  · rw [e1, e2]
    show m1.length = m2.length
    rw [fireL_len _ _ _ hm1.fire, fireL_len _ _ _ hm2.fire, h.m]
theorem Same.sub (h : Same s1 F1 s2 F2) (i : Nat) (raw : List Opn) : Same (subAll s1 F1 i raw).1 (subAll s1 F1 i raw).2 (subAll s2 F2 i raw).1 (subAll s2 F2 i raw).2 := by
  have ef : fullO F1 raw = fullO F2 raw := by unfold fullO; rw [h.m]
  have ec : subCo s1 i (fullO F1 raw) = subCo s2 i (fullO F2 raw) := by unfold subCo; rw [ef, h.ks, h.c]
  unfold subAll
  rw [ec]
  split
  · refine ⟨?_, ?_, ?_, ?_, ?_⟩
    · show (subS s1 i (fullO F1 raw)).c = (subS s2 i (fullO F2 raw)).c
      unfold subS
      rw [h.ks, ef, h.c]
      split
      · split <;> first | rfl | exact h.c
      · exact h.c
    · show (subS s1 i (fullO F1 raw)).ks = (subS s2 i (fullO F2 raw)).ks
      unfold subS
      rw [h.ks, ef, h.c]
      split
      · split
        · rfl
        · exact h.ks
      · exact h.ks
    · show (subS s1 i (fullO F1 raw)).l = (subS s2 i (fullO F2 raw)).l
      unfold subS
      rw [h.ks, ef, h.c]
      split
      · split <;> exact h.l
      · exact h.l
    · show (subS s1 i (fullO F1 raw)).t = (subS s2 i (fullO F2 raw)).t
      unfold subS
      rw [h.ks, ef, h.c]
      split
      · split <;> exact h.t
      · exact h.t
    · show (F1.marks ++ asksOf i F1.paid raw ++ [_]).length = (F2.marks ++ asksOf i F2.paid raw ++ [_]).length
      simp [asksOf, h.m]
  · exact h
theorem Same.leave (h : Same s1 F1 s2 F2) (i : Nat) : Same (leftS s1 i) (leftF F1 i) (leftS s2 i) (leftF F2 i) := by
  have hm : (leftF F1 i).marks.length = (leftF F2 i).marks.length := by simp [leftF, h.m]
  unfold leftS
  rw [h.ks]
  split
  · exact ⟨h.c, by simp only [discS]; rw [h.ks], by simp only [discS]; rw [h.l], h.t, hm⟩
  · exact ⟨h.c, h.ks, h.l, h.t, hm⟩
theorem Same.come (h : Same s1 F1 s2 F2) : Same (cameS s1) (cameF s1 F1) (cameS s2) (cameF s2 F2) := by
  unfold cameS cameF
  rw [h.ks]
  split
  · exact ⟨h.c, by simp only; rw [h.c], h.l, h.t, h.m⟩
  · exact h
/-- A move; another budget. -/
theorem Same.mv (h : Same s1 F1 s2 F2) (h1 : ShI n1 s1 F1) (h2 : ShI n2 s2 F2) (hn1 : n1 ≤ 1300000) (hn2 : n2 ≤ 1300000) (ops : List (List Opn)) (m : Mv) (b : Int) (hb : kpk m.kind 5 ≠ 2 → b = m.b) : Same (Go.Proofs.Ytfnockbgkcgpkaa.mv ops m (s1, F1)).1 (Go.Proofs.Ytfnockbgkcgpkaa.mv ops m (s1, F1)).2 (Go.Proofs.Ytfnockbgkcgpkaa.mv ops ⟨m.kind, m.a, b⟩ (s2, F2)).1 (Go.Proofs.Ytfnockbgkcgpkaa.mv ops ⟨m.kind, m.a, b⟩ (s2, F2)).2 := by
  have b1 := kpk_bd m.b 400 (by omega)
  have b2 := kpk_bd b 400 (by omega)
  unfold Go.Proofs.Ytfnockbgkcgpkaa.mv
  simp only
  rw [h.ks]
  split
  · rename_i hc
    rw [hb (by omega)]
    exact h.sub _ _
  · split
    · exact h.tick h1 h2 hn1 hn2 (by omega) (by omega)
    · split
      · exact h.come
      · exact h.leave _
end
end Go.Proofs.Ytfnockbgkcgpkaa
