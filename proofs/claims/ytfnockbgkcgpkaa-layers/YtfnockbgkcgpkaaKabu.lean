import Derived.Test.YtfnockbgkcgpkaaKabl
import Derived.Test.YtfnockbgkcgpkaaKabq
import Derived.Test.YtfnockbgkcgpkaaKabt
import Derived.BigQuiet
set_option linter.all false
namespace Go.Proofs.Ytfnockbgkcgpkaa
open Go.RowKit Go.Proofs.Panes
set_option maxRecDepth 100000
end Go.Proofs.Ytfnockbgkcgpkaa
set_option linter.all false
namespace Go.Proofs.Ytfnockbgkcgpkaa
open Go.RowKit Go.Proofs.Panes
set_option maxRecDepth 100000
/-- The state behind k ticks of 400. -/
def setK (st : Scrn × ShF) : Nat → Scrn × ShF
  | 0 => st
  | k + 1 => tickA 400 (setK st k)
/-- All that 'Whole' knows of a shop. -/
structure WhI (n : Nat) (s : Scrn) (F : ShF) : Prop where
  sh : ShI n s F
  px : PxI s.l s.c.behind s.f
section
variable {n : Nat} {s : Scrn} {F : ShF}
theorem WhI.tick (h : WhI n s F) (hn : n ≤ 1300000) (b : Nat) (hb : b ≤ 1000) : WhI (n + 1) (tickA b (s, F)).1 (tickA b (s, F)).2 := by
  obtain ⟨ms, hm, hI'⟩ := tick_in h.sh hn hb
  have em : firedM s F = ms := by unfold firedM; rw [hm.fire]; rfl
  refine ⟨?_, tick_px h.sh.scr (by omega) h.px b⟩
  show ShI (n + 1) (tickS s b) (tickF s F b (firedM s F))
  rw [em]; exact hI'
theorem WhI.mv (h : WhI n s F) (hn : n ≤ 1300000) {ops : List (List Opn)} (hO : OpsB ops) (m : Mv) : WhI (n + 1) (Go.Proofs.Ytfnockbgkcgpkaa.mv ops m (s, F)).1 (Go.Proofs.Ytfnockbgkcgpkaa.mv ops m (s, F)).2 := by
  refine ⟨mv_in h.sh hn hO m, ?_⟩
  unfold Go.Proofs.Ytfnockbgkcgpkaa.mv
  split
  · simp only
    unfold subAll
    split
    · show PxI (subS s _ _).l (subS s _ _).c.behind (subS s _ _).f
      unfold subS
      split
      · split <;> exact h.px
      · exact h.px
    · exact h.px
  · split
    · exact tick_px h.sh.scr (by omega) h.px _
    · split
      · show PxI (cameS s).l (cameS s).c.behind (cameS s).f
        unfold cameS
        split <;> exact h.px
      · show PxI (leftS s _).l (leftS s _).c.behind (leftS s _).f
        unfold leftS
        split
        · exact disc_px h.sh.scr h.px _
        · exact h.px
theorem open_wh {c : Cfg} (h : okCfg c = true) : WhI 0 (openS c c.clients.toNat) (openF c c.clients.toNat) := ⟨open_in h, new_px c⟩
end
section
variable {n : Nat} {st : Scrn × ShF}
theorem setK_add (st : Scrn × ShF) (a : Nat) : ∀ b, setK st (a + b) = setK (setK st a) b
  | 0 => rfl
  | b + 1 => by
    show tickA 400 (setK st (a + b)) = tickA 400 (setK (setK st a) b)
    rw [setK_add st a b]
theorem calm_of (h : WhI n st.1 st.2) (hq : noQ st.1) (hs : noSl st.1) (hn : n + 3 ≤ 1300000) : Calm (setK st 3).1 := by
  have w1 : WhI (n + 1) (setK st 1).1 (setK st 1).2 := h.tick (by omega) 400 (by omega)
  have w2 : WhI (n + 2) (setK st 2).1 (setK st 2).2 := w1.tick (by omega) 400 (by omega)
  have l1 : (setK st 1).1.l = st.1.l := (still_tick hq hs).1
  have q1 : noQ (setK st 1).1 := noQ_tick hq 400
  have s1 : noSl (setK st 1).1 := fun x hx => hs x (by rw [← l1]; exact hx)
  have l2 : (setK st 2).1.l = (setK st 1).1.l := (still_tick q1 s1).1
  have q2 : noQ (setK st 2).1 := noQ_tick q1 400
  have s2 : noSl (setK st 2).1 := fun x hx => s1 x (by rw [← l2]; exact hx)
  have l3 : (setK st 3).1.l = (setK st 2).1.l := (still_tick q2 s2).1
  have q3 : noQ (setK st 3).1 := noQ_tick q2 400
  have s3 : noSl (setK st 3).1 := fun x hx => s2 x (by rw [← l3]; exact hx)
  obtain ⟨-, -, -, a4⟩ := still_step h.sh (by omega) hq hs
  obtain ⟨b1, b2, b3, -⟩ := still_step w1.sh (by omega) q1 s1
  obtain ⟨c1, c2, c3, -⟩ := still_step w2.sh (by omega) q2 s2
  have hc : calmR (setK st 3).1 0 := by
    rcases a4 with x | x
    · rcases b3 x with y | y
      · exact c2 y
      · exact c1 y
    · exact c1 (b1 x)
  exact ⟨q3, s3, hc.1, hc.2⟩
theorem calm_on (h : Calm st.1) : ∀ k, Calm (setK st k).1 ∧ (setK st k).1.l = st.1.l
  | 0 => ⟨h, rfl⟩
  | k + 1 => by
    obtain ⟨i1, i2⟩ := calm_on h k
    obtain ⟨t1, t2, -⟩ := calm_tick i1 400
    exact ⟨t1, t2.trans i2⟩
end
end Go.Proofs.Ytfnockbgkcgpkaa
set_option linter.all false
namespace Go.Proofs.Ytfnockbgkcgpkaa
open Go.RowKit Go.Proofs.Panes
set_option maxRecDepth 100000
/-- The shop behind a transaction that was handed in without a mark. -/
def handF (F : ShF) (c : Int) : ShF := { F with wait := F.wait.set 0 (F.wait.getD 0 [] ++ [c]) }
/-- What 'Layers' lays. -/
def lySrf (i : Nat) (o : Opn) : Srf := ⟨0, (i : Int), o.x, o.y, o.w, o.h, o.px, 0, 0, 0⟩
def lyL (ord : List Nat) (at' : Nat → Opn) : List Srf := ord.map fun i => lySrf i (at' i)
/-- All that 'Layers' knows between two turns. -/
structure LyI (n : Nat) (s : Scrn) (F : ShF) (ord : List Nat) (at' : Nat → Opn) : Prop where
  wh : WhI n s F
  nm : F.marks = []
  l : s.l = lyL ord at'
  nq : noQ s
  k0 : ∃ cl, s.ks[0]? = some (some cl)
  cm : s.c.most = 300
  cs : s.c.surfaces = 4
  od : ord.Nodup
  o4 : ∀ i ∈ ord, i < 4
section
variable {n : Nat} {s : Scrn} {F : ShF} {ord : List Nat} {at' : Nat → Opn} {ops : List Opn}
theorem LyI.nsl (h : LyI n s F ord at') : noSl s := fun x hx => by
  rw [h.l] at hx
  obtain ⟨i, hi, rfl⟩ := List.mem_map.1 hx
  rfl
theorem LyI.code (h : LyI n s F ord at') (hl : 1 ≤ ops.length ∧ ops.length ≤ 20) {x : List Bool} (hv : vall (hav s.l 0 4) ops = some x) (hcst : costOf ops ≤ 300) : subCo s 0 ops = 0 := by
  obtain ⟨cl, hk⟩ := h.k0
  have hcl := h.wh.sh.scr.cl 0 cl hk
  have hq := h.nq 0 cl hk
  have ho := hcl.own
  rw [hq, h.cs] at ho
  have ho' : hav s.l 0 4 = cl.own := by
    have : some (hav s.l 0 4) = some cl.own := ho
    exact Option.some.inj this
  have hcq := (cfgB h.wh.sh.scr.cfg).queue
  unfold subCo
  rw [hk]
  simp only
  unfold subCode
  rw [if_neg (by rw [inB_iff.2 (by omega)]; simp), ← ho', hv]
  simp only
  rw [if_neg (by rw [h.cm]; omega), if_neg (by rw [hq]; simp; omega)]
theorem set_same' {α : Type} {l : List α} {i : Nat} {x : α} (h : l[i]? = some x) : l.set i x = l := by
  refine List.ext_getElem? fun j => ?_
  rw [List.getElem?_set]
  split
  · rename_i e; subst e; rw [if_pos (List.getElem?_eq_some_iff.1 h).1, h]
  · rfl
/-- A transaction is taken that asks for no mark. -/
theorem hand_in (h : ShI n s F) (ha : askM ops = []) (hc : subCo s 0 ops = 0) : ShI (n + 1) (subS s 0 ops) (handF F (costOf ops)) := by
  unfold subCo at hc
  split at hc
  case h_2 => omega
  rename_i cl hk
  have hi := (List.getElem?_eq_some_iff.1 hk).1
  have e : subS s 0 ops = { s with ks := s.ks.set 0 (some (subC cl ops)) } := by unfold subS; rw [hk]; simp only; rw [if_pos hc]
  rw [e]
  have hm := h.mono (Nat.le_succ n)
  refine ⟨sub_ok hm.scr hk hc, hm.t, h.c, ?_, ?_, h.ticks, by simp only [handF, List.length_set]; exact h.hl, hm.hb, hm.paid, hm.flips, hm.ml, fun c => ?_, fun j hj => ?_⟩
  · show F.there = _
    rw [h.there, List.map_set]
    exact (set_same' (by rw [List.getElem?_map, hk]; rfl)).symm
  · show F.wait.set 0 _ = _
    rw [List.map_set, h.wait]
    congr 1
    rw [List.getD_eq_getElem?_getD, List.getElem?_map, hk]
    simp [costsK, subC, costOf_strip]
  · show pend c F.marks = _
    rw [h.eq c]
    unfold allM
    simp only
    rw [qAsk_set hi]
    by_cases e2 : c = ((0 : Nat) : Int)
    · rw [if_pos e2, e2, qAsk_at hk]
      simp only [subC, List.flatten_append, askM_append, List.flatten_cons, List.flatten_nil, List.append_nil, askM_strip, ha]
    · rw [if_neg e2]
  · by_cases e2 : j = 0
    · subst e2
      simp only at hj
      rw [List.getElem?_set_self hi] at hj
      simp at hj
    · simp only at hj
      rw [List.getElem?_set_ne (Ne.symm e2)] at hj
      exact h.no j hj
theorem fireL_nil : ∀ (ms : List (Int × Int)) (r : List Ask), fireL [] ms = some r → r = [] ∧ ms = []
  | [], r, h => by
    have : some ([] : List Ask) = some r := h
    exact ⟨(Option.some.inj this).symm, rfl⟩
  | m :: ms, r, h => by
    have : (fire1 [] m).bind (fun l' => fireL l' ms) = some r := h
    simp [fire1] at this
theorem fired_nil (h : ShI n s F) (hn : n ≤ 1300000) (hm : F.marks = []) {b : Nat} (hb : b ≤ 1000) : firedM s F = [] ∧ (flipF s.f).2.2 = [] := by
  obtain ⟨ms, h1, -⟩ := tick_in h hn hb
  have h2 := h1.fire
  rw [hm] at h2
  obtain ⟨e1, e2⟩ := fireL_nil _ _ h2
  unfold firedM
  rw [hm, e2]
  exact ⟨rfl, rfl⟩
/-- What operations make of the surfaces. -/
def opsL (l : List Srf) (ops : List Opn) : List Srf := ops.foldl (fun l o => (kchg l 0 o).1) l
theorem doOps_l (c : Nat) (hc : c = 0) : ∀ (ops : List Opn) (st : List Srf × Frs), (∀ o ∈ ops, o.kind ≠ 8) → (ops.foldl (doOp c) st).1 = opsL st.1 ops
  | [], st, _ => rfl
  | o :: l, st, h => by
    have h1 := h o (by simp)
    show (l.foldl (doOp c) (doOp c st o)).1 = opsL ((kchg st.1 0 o).1) l
    rw [doOps_l c hc l (doOp c st o) (fun x hx => h x (by simp [hx]))]
    congr 1
    unfold doOp
    rw [if_neg h1, hc]
    rfl
/-- A tick behind a transaction of the first client alone. -/
theorem one_tick {cl : Cli} (hk : s.ks[0]? = some (some cl)) (hs : noSl s) {tr : List Opn} (hq : cl.q = [tr]) (h8 : ∀ o ∈ tr, o.kind ≠ 8) (hno : ∀ (j : Nat) (k : Cli), j ≠ 0 → s.ks[j]? = some (some k) → k.q = []) (hcl : ClOk s.c s.l 0 cl) (hc : CfgB s.c) (b : Nat) : (tickS s b).l = opsL s.l tr ∧ noQ (tickS s b) := by
  obtain ⟨e1, e2⟩ := go_idle hs
  have had : (admitC cl s.c.quantum).1 = [tr] ∧ (admitC cl s.c.quantum).2.q = [] := by
    have h1 := (admitC_cr hc hcl).2 (by rw [hq]; simp)
    obtain ⟨i, h1', h2, h3, h4⟩ := adm_n (k := cl) (q := s.c.quantum)
    have hi : 1 ≤ i := h4 (fun e => by rw [e] at h1; simp at h1)
    rw [h2, h3, hq]
    obtain ⟨i', rfl⟩ : ∃ i', i = i' + 1 := ⟨i - 1, by omega⟩
    exact ⟨by simp, by simp⟩
  have hst : ∀ (st : List Srf × Frs) (j : Nat), scAdmI s.c.quantum s.ks st (j + 1) = doAll 0 st [tr] := by
    intro st j
    induction j with
    | zero =>
      show scAdmI s.c.quantum s.ks st (0 + 1) = _
      unfold scAdmI
      rw [hk]
      simp only
      rw [had.1]
      rfl
    | succ j ih =>
      rw [scAdmI]
      split
      · rename_i k hk2
        have e : (admitC k s.c.quantum).1 = [] := by simp [admitC, hno (j + 1) k (by omega) hk2]
        rw [e, ih]
        rfl
      · exact ih
  have hlen := (List.getElem?_eq_some_iff.1 hk).1
  obtain ⟨m, hm⟩ : ∃ m, s.ks.length = m + 1 := ⟨s.ks.length - 1, by omega⟩
  constructor
  · show (scAdmI (tk3 s).c.quantum (tk3 s).ks ((tk3 s).l, (tk3 s).f) s.ks.length).1 = _
    have := hst ((tk3 s).l, (tk3 s).f) m
    rw [hm]
    show (scAdmI s.c.quantum s.ks ((tk3 s).l, (tk3 s).f) (m + 1)).1 = _
    rw [this]
    show (tr.foldl (doOp 0) _).1 = _
    rw [doOps_l 0 rfl tr _ h8]
    show opsL (s.l.map goS) tr = _
    rw [e1]
  · intro j k hk2
    have hks : (tickS s b).ks = s.ks.map (admK s.c.quantum) := ksI_full _ _
    rw [hks, List.getElem?_map] at hk2
    cases hx : s.ks[j]? with
    | none => rw [hx] at hk2; cases hk2
    | some x =>
      rw [hx] at hk2
      cases x with
      | none => simp [admK] at hk2
      | some k0 =>
        simp only [admK, Option.map_some, Option.some.injEq] at hk2
        rw [← hk2]
        by_cases e : j = 0
        · subst e
          rw [hk] at hx
          simp only [Option.some.injEq] at hx
          rw [← hx]
          exact had.2
        · show k0.q.drop _ = []
          rw [hno j k0 e hx]; rfl
theorem askM_none (h8 : ∀ o ∈ ops, o.kind ≠ 8) : askM ops = [] := by
  unfold askM
  rw [List.filter_eq_nil_iff.2 (fun x hx => by simpa using h8 x hx)]
  rfl
/-- A transaction and a tick. -/
structure TurnI (n : Nat) (s : Scrn) (F : ShF) (ops : List Opn) (b : Nat) : Prop where
  in1 : ShI (n + 1) (subS s 0 ops) (handF F (costOf ops))
  wh : WhI (n + 2) (tickA b (subS s 0 ops, handF F (costOf ops))).1 (tickA b (subS s 0 ops, handF F (costOf ops))).2
  nm : (tickA b (subS s 0 ops, handF F (costOf ops))).2.marks = []
  l : (tickA b (subS s 0 ops, handF F (costOf ops))).1.l = opsL s.l (ops.map stripO)
  nq : noQ (tickA b (subS s 0 ops, handF F (costOf ops))).1
  k0 : ∃ cl, (tickA b (subS s 0 ops, handF F (costOf ops))).1.ks[0]? = some (some cl)
  c : (tickA b (subS s 0 ops, handF F (costOf ops))).1.c = s.c
theorem LyI.turn (h : LyI n s F ord at') (hn : n + 2 ≤ 1300000) (hc : subCo s 0 ops = 0) (h8 : ∀ o ∈ ops, o.kind ≠ 8) (b : Nat) (hb : b ≤ 1000) : TurnI n s F ops b := by
  obtain ⟨cl, hk⟩ := h.k0
  have h1 := hand_in h.wh.sh (askM_none h8) hc
  have hc' : subCode s.c cl ops = 0 := by
    unfold subCo at hc
    rw [hk] at hc
    exact hc
  have e : subS s 0 ops = { s with ks := s.ks.set 0 (some (subC cl ops)) } := by unfold subS; rw [hk]; simp only; rw [if_pos hc']
  have hi := (List.getElem?_eq_some_iff.1 hk).1
  have w1 : WhI (n + 1) (subS s 0 ops) (handF F (costOf ops)) := ⟨h1, by rw [e]; exact h.wh.px⟩
  have w2 := w1.tick (by omega) b hb
  have hk1 : (subS s 0 ops).ks[0]? = some (some (subC cl ops)) := by rw [e]; exact List.getElem?_set_self hi
  have hq : (subC cl ops).q = [ops.map stripO] := by show cl.q ++ [ops.map stripO] = _; rw [h.nq 0 cl hk]; rfl
  have ho := one_tick (s := subS s 0 ops) hk1 (by rw [e]; exact h.nsl) hq (fun o ho => by
    obtain ⟨x, hx, rfl⟩ := List.mem_map.1 ho
    rw [stripO_kind]; exact h8 x hx) (fun j k hj hjk => by
    rw [e] at hjk
    simp only at hjk
    rw [List.getElem?_set_ne (Ne.symm hj)] at hjk
    exact h.nq j k hjk) (h1.scr.cl 0 _ hk1) (cfgB h1.scr.cfg) b
  refine ⟨h1, w2, ?_, ?_, ho.2, ?_, ?_⟩
  · show firedM (subS s 0 ops) (handF F (costOf ops)) = []
    exact (fired_nil h1 (by omega) h.nm hb).1
  · have := ho.1
    show (tickS (subS s 0 ops) b).l = _
    rw [this, e]
  · have hks : (tickS (subS s 0 ops) b).ks = (subS s 0 ops).ks.map (admK (subS s 0 ops).c.quantum) := ksI_full _ _
    refine ⟨(admitC (subC cl ops) (subS s 0 ops).c.quantum).2, ?_⟩
    show (tickS (subS s 0 ops) b).ks[0]? = _
    rw [hks, List.getElem?_map, hk1]
    rfl
  · show (subS s 0 ops).c = s.c
    rw [e]
end
end Go.Proofs.Ytfnockbgkcgpkaa
set_option linter.all false
namespace Go.Proofs.Ytfnockbgkcgpkaa
open Go.RowKit Go.Proofs.Panes
set_option maxRecDepth 100000
def updO (at' : Nat → Opn) (i : Nat) (o : Opn) : Nat → Opn := fun j => if j = i then o else at' j
section
variable {n : Nat} {s : Scrn} {F : ShF} {ord : List Nat} {at' : Nat → Opn} {i : Nat}
theorem lyL_keys : (lyL ord at').map skey = ord.map fun (i : Nat) => ((0 : Int), (i : Int)) := by
  unfold lyL
  rw [List.map_map]
  rfl
theorem lyL_mem : ((0 : Int), (i : Int)) ∈ (lyL ord at').map skey ↔ i ∈ ord := by
  rw [lyL_keys, List.mem_map]
  constructor
  · rintro ⟨j, hj, e⟩
    simp only [Prod.mk.injEq, true_and] at e
    have : j = i := by omega
    rw [← this]; exact hj
  · intro h; exact ⟨i, h, rfl⟩
theorem hav_ly (hi : i < 4) : (hav (lyL ord at') 0 4).getD i false = decide (i ∈ ord) := by
  rw [List.getD_eq_getElem?_getD, hav_at hi]
  simp only [Option.getD_some]
  rw [Bool.eq_iff_iff, any_isK, decide_eq_true_eq]
  exact lyL_mem
theorem ly_find (h : i ∈ ord) : (lyL ord at')[(lyL ord at').findIdx (isK 0 (i : Int))]? = some (lySrf i (at' i)) := by
  obtain ⟨x, hx, hc, hn⟩ := key_at (l := lyL ord at') (lyL_mem.2 h)
  rw [hx]
  have hm := List.mem_of_getElem? hx
  obtain ⟨j, hj, rfl⟩ := List.mem_map.1 hm
  have hn' : (j : Int) = (i : Int) := hn
  have : j = i := by omega
  rw [this]
theorem ly_put (o : Opn) : putS (lyL ord at') (lySrf i o) = lyL ord (updO at' i o) := by
  unfold putS lyL
  rw [List.map_map]
  refine List.map_congr_left fun j hj => ?_
  simp only [Function.comp, updO]
  by_cases e : j = i
  · subst e
    rw [if_pos rfl]
    exact if_pos rfl
  · rw [if_neg e, if_neg]
    intro e2
    simp only [skey, lySrf, Prod.mk.injEq, true_and] at e2
    omega
theorem findIdx_mid {α : Type} (p : α → Bool) (s : α) (hs : p s = true) : ∀ (A B : List α), (∀ x ∈ A, p x = false) → (A ++ s :: B).findIdx p = A.length
  | [], B, _ => by rw [List.nil_append, List.findIdx_cons, hs]; rfl
  | a :: A, B, h => by
    rw [List.cons_append, List.findIdx_cons, h a (by simp), findIdx_mid p s hs A B (fun x hx => h x (by simp [hx]))]
    rfl
theorem ly_split (h : i ∈ ord) (hd : ord.Nodup) : ∃ A B, ord = A ++ i :: B ∧ ord.filter (fun j => decide (j ≠ i)) = A ++ B ∧ (lyL ord at').findIdx (isK 0 (i : Int)) = A.length := by
  obtain ⟨A, B, rfl⟩ := List.append_of_mem h
  rw [List.nodup_append] at hd
  obtain ⟨h1, h2, h3⟩ := hd
  rw [List.nodup_cons] at h2
  have hA : ∀ x ∈ A, x ≠ i := fun x hx e => h3 x hx i (by simp) e
  have hB : ∀ x ∈ B, x ≠ i := fun x hx e => h2.1 (by rw [← e]; exact hx)
  refine ⟨A, B, rfl, ?_, ?_⟩
  · rw [List.filter_append, List.filter_cons]
    rw [if_neg (by simp), List.filter_eq_self.2 (fun x hx => by simpa using hA x hx), List.filter_eq_self.2 (fun x hx => by simpa using hB x hx)]
  · have e : lyL (A ++ i :: B) at' = lyL A at' ++ lySrf i (at' i) :: lyL B at' := by simp [lyL]
    rw [e, findIdx_mid (isK 0 (i : Int)) _ (isK_iff.2 rfl)]
    · simp [lyL]
    · intro x hx
      obtain ⟨j, hj, rfl⟩ := List.mem_map.1 hx
      have := hA j hj
      cases e2 : isK 0 (i : Int) (lySrf j (at' j)) with
      | false => rfl
      | true =>
        have := isK_iff.1 e2
        simp only [skey, lySrf, Prod.mk.injEq, true_and] at this
        omega
theorem ly_lay (h : i ∈ ord) (hd : ord.Nodup) : layS (lyL ord at') ((lyL ord at').findIdx (isK 0 (i : Int))) ((lyL ord at').length - 1) (lySrf i (at' i)) = lyL (ord.filter (fun j => decide (j ≠ i)) ++ [i]) at' ∧ layS (lyL ord at') ((lyL ord at').findIdx (isK 0 (i : Int))) 0 (lySrf i (at' i)) = lyL (i :: ord.filter (fun j => decide (j ≠ i))) at' := by
  obtain ⟨A, B, e1, e2, e3⟩ := ly_split (at' := at') h hd
  rw [e3, e2, e1]
  have e : lyL (A ++ i :: B) at' = lyL A at' ++ lySrf i (at' i) :: lyL B at' := by simp [lyL]
  have hl : A.length = (lyL A at').length := by simp [lyL]
  unfold layS
  have hdr : (lyL A at' ++ lySrf i (at' i) :: lyL B at').drop ((lyL A at').length + 1) = lyL B at' := by
    rw [List.drop_append, Nat.add_sub_cancel_left, List.drop_of_length_le (by omega)]
    rfl
  rw [e, hl, List.take_left, hdr]
  constructor
  · rw [List.take_of_length_le (by simp), List.drop_of_length_le (by simp)]
    simp [lyL]
  · simp [lyL]
/-- What 'turned' does. -/
def tuI (raw : Int) : Nat := (kpk raw 4).toNat
def tuK (raw : Int) : Nat := (kpk raw 12).toNat / 4
def tuOp (raw : Int) : Opn := if tuK raw = 0 then ⟨5, tuI raw, 0, 0, 0, 0, [], 0⟩ else if tuK raw = 1 then ⟨6, tuI raw, 0, 0, 0, 0, [], 0⟩ else ⟨4, tuI raw, kpk raw 23 - 5, kpk raw 17 - 5, 0, 0, [], 0⟩
def tuR (raw : Int) (ord : List Nat) : List Nat := ord.filter (fun j => decide (j ≠ tuI raw))
def tuOrd (raw : Int) (ord : List Nat) : List Nat := if tuK raw = 0 then tuR raw ord ++ [tuI raw] else if tuK raw = 1 then tuI raw :: tuR raw ord else ord
def tuAt (raw : Int) (at' : Nat → Opn) : Nat → Opn := if tuK raw = 0 then at' else if tuK raw = 1 then at' else updO at' (tuI raw) { at' (tuI raw) with x := kpk raw 23 - 5, y := kpk raw 17 - 5 }
theorem tuI_lt (raw : Int) : tuI raw < 4 ∧ (tuI raw : Int) = kpk raw 4 := by
  have := kpk_bd raw 4 (by omega)
  unfold tuI; omega
theorem tuK_lt (raw : Int) : tuK raw < 3 ∧ (tuK raw : Int) = kpk raw 12 / 4 := by
  have := kpk_bd raw 12 (by omega)
  unfold tuK; omega
theorem tuOrd_mem {raw : Int} {j : Nat} (h4 : tuI raw ∈ ord) : j ∈ tuOrd raw ord ↔ j ∈ ord := by
  have hr : ∀ j, j ∈ tuR raw ord ↔ j ∈ ord ∧ j ≠ tuI raw := fun j => by unfold tuR; rw [List.mem_filter]; simp
  unfold tuOrd
  split
  · rw [List.mem_append, hr, List.mem_singleton]
    constructor
    · rintro (h | h)
      · exact h.1
      · rw [h]; exact h4
    · intro h
      by_cases e : j = tuI raw
      · exact .inr e
      · exact .inl ⟨h, e⟩
  · split
    · rw [List.mem_cons, hr]
      constructor
      · rintro (h | h)
        · rw [h]; exact h4
        · exact h.1
      · intro h
        by_cases e : j = tuI raw
        · exact .inl e
        · exact .inr ⟨h, e⟩
    · rfl
theorem tuOrd_nd {raw : Int} (hd : ord.Nodup) : (tuOrd raw ord).Nodup := by
  have hr : (tuR raw ord).Nodup := hd.sublist List.filter_sublist
  have hn : tuI raw ∉ tuR raw ord := by unfold tuR; rw [List.mem_filter]; simp
  unfold tuOrd
  split
  · rw [List.nodup_append]
    refine ⟨hr, by simp, fun a ha b hb e => ?_⟩
    rw [List.mem_singleton] at hb
    rw [e, hb] at ha
    exact hn ha
  · split
    · rw [List.nodup_cons]; exact ⟨hn, hr⟩
    · exact hd
theorem tuOp_l {raw : Int} (h4 : tuI raw ∈ ord) (hd : ord.Nodup) : opsL (lyL ord at') ([tuOp raw].map stripO) = lyL (tuOrd raw ord) (tuAt raw at') := by
  obtain ⟨e1, e2⟩ := ly_lay (at' := at') h4 hd
  have ef := ly_find (at' := at') h4
  show (kchg (lyL ord at') 0 (stripO (tuOp raw))).1 = _
  unfold tuOp tuOrd tuAt
  split
  · show (kchg (lyL ord at') 0 ⟨5, tuI raw, 0, 0, 0, 0, [], 0⟩).1 = _
    unfold kchg
    rw [if_neg (by simp)]
    simp only [ef]
    exact e1
  · split
    · show (kchg (lyL ord at') 0 ⟨6, tuI raw, 0, 0, 0, 0, [], 0⟩).1 = _
      unfold kchg
      rw [if_neg (by simp)]
      simp only [ef]
      exact e2
    · show (kchg (lyL ord at') 0 ⟨4, tuI raw, kpk raw 23 - 5, kpk raw 17 - 5, 0, 0, [], 0⟩).1 = _
      unfold kchg
      rw [if_neg (by simp)]
      simp only [ef]
      exact ly_put (at' := at') (i := tuI raw) { at' (tuI raw) with x := kpk raw 23 - 5, y := kpk raw 17 - 5 }
theorem tuOp_fit {raw : Int} (h4 : tuI raw ∈ ord) : (∃ x, vall (hav (lyL ord at') 0 4) [tuOp raw] = some x) ∧ costOf [tuOp raw] = 1 ∧ ∀ o ∈ [tuOp raw], o.kind ≠ 8 := by
  obtain ⟨hi, hi2⟩ := tuI_lt raw
  have hh := hav_ly (ord := ord) (at' := at') hi
  rw [decide_eq_true h4] at hh
  have hp : (tuOp raw).kind = 4 ∨ (tuOp raw).kind = 5 ∨ (tuOp raw).kind = 6 := by unfold tuOp; (repeat' split) <;> simp
  have hsf : (tuOp raw).surf = (tuI raw : Int) := by unfold tuOp; (repeat' split) <;> rfl
  have hxy : okArgs (tuOp raw) = true := by
    unfold okArgs
    by_cases k : (tuOp raw).kind = 4
    · rw [if_pos (.inr k)]
      have b1 := kpk_bd raw 23 (by omega)
      have b2 := kpk_bd raw 17 (by omega)
      have hx : (tuOp raw).x = 0 ∨ (tuOp raw).x = kpk raw 23 - 5 := by unfold tuOp; (repeat' split) <;> simp
      have hy : (tuOp raw).y = 0 ∨ (tuOp raw).y = kpk raw 17 - 5 := by unfold tuOp; (repeat' split) <;> simp
      rw [Bool.and_eq_true, inB_iff, inB_iff]
      omega
    · rw [if_neg (by omega), if_neg (by omega), if_neg (by omega)]
  refine ⟨⟨(hav (lyL ord at') 0 4).set (tuOp raw).surf.toNat (decide ((tuOp raw).kind ≠ 2)), show (vstep (hav (lyL ord at') 0 4) (tuOp raw)).bind (fun x => some x) = some _ from ?_⟩, ?_, fun o ho => ?_⟩
  rotate_left
  · unfold costOf
    simp only [List.map_cons, List.map_nil, List.sum_cons, List.sum_nil, ocost]
    rw [if_neg (by omega)]
    rfl
  · rw [List.mem_singleton] at ho
    subst ho
    omega
  · unfold vstep
    rw [if_neg (by omega), if_pos]
    · rfl
    · rw [hsf, Int.toNat_natCast, hh, hxy, inB_iff.2 (by omega), inB_iff.2 (by rw [hav_len]; omega)]
      have : decide ((tuOp raw).kind = 1) = false := by simp; omega
      rw [this]
      rfl
theorem LyI.turned (h : LyI n s F ord at') (hn : n + 2 ≤ 1300000) (raw : Int) (h4 : tuI raw ∈ ord) (b : Nat) (hb : b ≤ 1000) : subCo s 0 [tuOp raw] = 0 ∧ ShI (n + 1) (subS s 0 [tuOp raw]) (handF F (costOf [tuOp raw])) ∧ LyI (n + 2) (tickA b (subS s 0 [tuOp raw], handF F (costOf [tuOp raw]))).1 (tickA b (subS s 0 [tuOp raw], handF F (costOf [tuOp raw]))).2 (tuOrd raw ord) (tuAt raw at') := by
  obtain ⟨⟨x, hx⟩, h1, h8⟩ := tuOp_fit (ord := ord) (at' := at') h4
  have hc := h.code (ops := [tuOp raw]) (by simp) (by rw [h.l]; exact hx) (by rw [h1]; omega)
  have ht := h.turn hn hc h8 b hb
  refine ⟨hc, ht.in1, ht.wh, ht.nm, ?_, ht.nq, ht.k0, by rw [ht.c]; exact h.cm, by rw [ht.c]; exact h.cs, tuOrd_nd h.od, fun i hi => h.o4 i ((tuOrd_mem h4).1 hi)⟩
  rw [ht.l, h.l]
  exact tuOp_l h4 h.od
/-- The transaction that lays a surface. -/
def adOps (i : Nat) (o : Opn) : List Opn := [⟨1, i, o.x, o.y, 0, 0, [], 0⟩, o]
theorem LyI.added (h : LyI n s F ord at') (hn : n + 2 ≤ 1300000) {o : Opn} (hi : i < 4) (hni : i ∉ ord) (ho : o.kind = 3 ∧ o.surf = (i : Int) ∧ o.mark = 0) (hxy : (-100 ≤ o.x ∧ o.x ≤ 100) ∧ (-100 ≤ o.y ∧ o.y ≤ 100)) (hwh : (1 ≤ o.w ∧ o.w ≤ 8) ∧ (1 ≤ o.h ∧ o.h ≤ 8)) (hpl : (o.px.length : Int) = o.w * o.h) (hpx : ∀ p ∈ o.px, 0 ≤ p ∧ p ≤ 4294967295) (b : Nat) (hb : b ≤ 1000) : subCo s 0 (adOps i o) = 0 ∧ ShI (n + 1) (subS s 0 (adOps i o)) (handF F (costOf (adOps i o))) ∧ LyI (n + 2) (tickA b (subS s 0 (adOps i o), handF F (costOf (adOps i o)))).1 (tickA b (subS s 0 (adOps i o), handF F (costOf (adOps i o)))).2 (ord ++ [i]) (updO at' i o) := by
  obtain ⟨k3, ks, km⟩ := ho
  have hh := hav_ly (ord := ord) (at' := at') hi
  rw [decide_eq_false hni] at hh
  have hsm : Small o := fun _ => hwh
  have hoc := ocost_bd hsm
  have hcost : costOf (adOps i o) ≤ 300 := by
    unfold costOf adOps
    simp only [List.map_cons, List.map_nil, List.sum_cons, List.sum_nil, List.length_cons, List.length_nil]
    have : ocost (⟨1, i, o.x, o.y, 0, 0, [], 0⟩ : Opn) = 0 := by simp [ocost]
    rw [this]
    omega
  have h8 : ∀ x ∈ adOps i o, x.kind ≠ 8 := fun x hx => by
    unfold adOps at hx
    simp only [List.mem_cons, List.not_mem_nil, or_false] at hx
    rcases hx with rfl | rfl
    · simp
    · omega
  have hv1 : vstep (hav s.l 0 4) ⟨1, i, o.x, o.y, 0, 0, [], 0⟩ = some ((hav s.l 0 4).set i true) := by
    unfold vstep
    rw [if_neg (by simp), if_pos]
    · simp
    · rw [h.l]
      simp only [Int.toNat_natCast]
      rw [hh, inB_iff.2 (by omega), inB_iff.2 (by rw [hav_len]; omega)]
      have : okArgs (⟨1, i, o.x, o.y, 0, 0, [], 0⟩ : Opn) = true := by
        unfold okArgs
        rw [if_pos (.inl rfl), Bool.and_eq_true, inB_iff, inB_iff]
        exact hxy
      rw [this]
      rfl
  have hv2 : vstep ((hav s.l 0 4).set i true) o = some (((hav s.l 0 4).set i true).set i true) := by
    unfold vstep
    rw [if_neg (by omega), if_pos]
    · rw [ks, Int.toNat_natCast]
      have : decide (o.kind ≠ 2) = true := by simp; omega
      rw [this]
    · rw [ks, Int.toNat_natCast, List.getD_eq_getElem?_getD, List.getElem?_set_self (by rw [hav_len]; omega), inB_iff.2 (by omega), inB_iff.2 (by rw [List.length_set, hav_len]; omega)]
      have h1 : decide (o.kind = 1) = false := by simp; omega
      have h2 : okArgs o = true := by
        unfold okArgs
        rw [if_neg (by omega), if_pos k3, Bool.and_eq_true, Bool.and_eq_true, Bool.and_eq_true, inB_iff, inB_iff, List.all_eq_true]
        exact ⟨⟨⟨hwh.1, hwh.2⟩, by simpa using hpl⟩, fun p hp => inB_iff.2 (hpx p hp)⟩
      rw [h1, h2]
      rfl
  have hv : vall (hav s.l 0 4) (adOps i o) = some (((hav s.l 0 4).set i true).set i true) := by
    show (vstep (hav s.l 0 4) ⟨1, i, o.x, o.y, 0, 0, [], 0⟩).bind (fun x => (vstep x o).bind fun y => some y) = _
    rw [hv1]
    show (vstep ((hav s.l 0 4).set i true) o).bind (fun y => some y) = _
    rw [hv2]
    rfl
  have hc := h.code (ops := adOps i o) (by simp [adOps]) hv hcost
  have ht := h.turn hn hc h8 b hb
  refine ⟨hc, ht.in1, ht.wh, ht.nm, ?_, ht.nq, ht.k0, by rw [ht.c]; exact h.cm, by rw [ht.c]; exact h.cs, ?_, fun j hj => ?_⟩
  · rw [ht.l, h.l]
    have es : (adOps i o).map stripO = adOps i o := by
      unfold adOps
      simp only [List.map_cons, List.map_nil]
      have : stripO o = o := by unfold stripO; rw [if_pos k3]
      rw [this]
      rfl
    rw [es]
    show (kchg (kchg (lyL ord at') 0 ⟨1, i, o.x, o.y, 0, 0, [], 0⟩).1 0 o).1 = _
    have e1 : (kchg (lyL ord at') 0 ⟨1, i, o.x, o.y, 0, 0, [], 0⟩).1 = lyL (ord ++ [i]) (updO at' i ⟨1, i, o.x, o.y, 0, 0, [], 0⟩) := by
      unfold kchg
      rw [if_pos rfl]
      simp only
      unfold lyL
      rw [List.map_append]
      congr 1
      · refine List.map_congr_left fun j hj => ?_
        have : j ≠ i := fun e => hni (by rw [← e]; exact hj)
        unfold updO
        rw [if_neg this]
      · simp only [List.map_cons, List.map_nil, updO, if_pos]
        rfl
    rw [e1]
    have ef := ly_find (ord := ord ++ [i]) (at' := updO at' i ⟨1, i, o.x, o.y, 0, 0, [], 0⟩) (i := i) (by simp)
    unfold kchg
    rw [if_neg (by omega), ks]
    simp only [ef]
    rw [if_neg (by omega), if_pos k3]
    simp only
    have e2 : ({ lySrf i (updO at' i ⟨1, i, o.x, o.y, 0, 0, [], 0⟩ i) with w := o.w, h := o.h, px := o.px } : Srf) = lySrf i o := by
      unfold updO lySrf
      rw [if_pos rfl]
    rw [e2, ly_put]
    congr 1
    funext j
    unfold updO
    split <;> rfl
  · rw [List.nodup_append]
    refine ⟨h.od, by simp, fun a ha c hc e => ?_⟩
    rw [List.mem_singleton] at hc
    rw [e, hc] at ha
    exact hni ha
  · rw [List.mem_append, List.mem_singleton] at hj
    rcases hj with q | q
    · exact h.o4 j q
    · rw [q]; exact hi
/-- The screen and the shop behind k ticks of 'shows'. -/
def showF (F : ShF) (k : Nat) : ShF := { F with ticks := F.ticks + (k : Int) }
def showS (s : Scrn) : Nat → Scrn
  | 0 => s
  | k + 1 => tickS (showS s k) 400
theorem noQ_costs {s : Scrn} (h : noQ s) : s.ks.map costsK = List.replicate s.ks.length [] := by
  apply List.eq_replicate_iff.2
  refine ⟨by simp, fun x hx => ?_⟩
  obtain ⟨k, hk, rfl⟩ := List.mem_map.1 hx
  cases k with
  | none => rfl
  | some k =>
    obtain ⟨j, hj⟩ := List.getElem?_of_mem hk
    simp [costsK, h j k hj]
theorem LyI.show1 (h : LyI n s F ord at') (hn : n ≤ 1300000) : LyI (n + 1) (tickS s 400) (showF F 1) ord at' := by
  have hw := h.wh.tick hn 400 (by omega)
  have hs := hw.sh
  obtain ⟨f1, -⟩ := fired_nil h.wh.sh hn h.nm (b := 400) (by omega)
  have hq2 : noQ (tickS s 400) := noQ_tick h.nq 400
  have hks : (tickS s 400).ks = s.ks.map (admK s.c.quantum) := ksI_full _ _
  have hl : (tickS s 400).ks.length = s.ks.length := by rw [hks, List.length_map]
  have hm := h.wh.sh.mono (Nat.le_succ n)
  refine ⟨⟨⟨hs.scr, hs.t, hs.c, hs.there, ?_, ?_, by rw [hl]; exact h.wh.sh.hl, hm.hb, hm.paid, hm.flips, hm.ml, fun c => ?_, hs.no⟩, hw.px⟩, h.nm, ?_, hq2, ?_, h.cm, h.cs, h.od, h.o4⟩
  · show F.wait = _
    rw [h.wh.sh.wait, noQ_costs h.nq, noQ_costs hq2, hl]
  · show F.ticks + ((1 : Nat) : Int) = s.t + 1
    rw [h.wh.sh.ticks]
    rfl
  · have h1 := hs.eq c
    have h2 : (tickA 400 (s, F)).2.marks = [] := f1
    rw [h2] at h1
    show pend c F.marks = _
    rw [h.nm]
    exact h1
  · show (tk4 s).l = _
    rw [(still_tick h.nq h.nsl).1]
    exact h.l
  · obtain ⟨cl, hk⟩ := h.k0
    refine ⟨(admitC cl s.c.quantum).2, ?_⟩
    rw [hks, List.getElem?_map, hk]
    rfl
theorem LyI.shows (h : LyI n s F ord at') : ∀ k, n + k ≤ 1300000 → LyI (n + k) (showS s k) (showF F k) ord at'
  | 0, _ => by
    have e : showF F 0 = F := by unfold showF; simp
    rw [e]; exact h
  | k + 1, hk => by
    have h1 := (h.shows k (by omega)).show1 (by omega)
    have e : showF (showF F k) 1 = showF F (k + 1) := by
      unfold showF
      simp only [ShF.mk.injEq, true_and, and_true]
      omega
    rw [e] at h1
    exact h1
theorem setK_show (s : Scrn) (F : ShF) : ∀ k, (setK (s, F) k).1 = showS s k
  | 0 => rfl
  | k + 1 => by
    show tickS (setK (s, F) k).1 400 = tickS (showS s k) 400
    rw [setK_show s F k]
theorem setK_c0 (st : Scrn × ShF) : ∀ k, (setK st k).1.c = st.1.c
  | 0 => rfl
  | k + 1 => setK_c0 st k
/-- The front behind 22 ticks. -/
theorem LyI.front (h : LyI n s F ord at') {k : Nat} (hk : 3 ≤ k) (hn : n + k ≤ 1300000) : ((showS s k).f.b (showS s k).f.front).px = (List.range (s.c.w.toNat * s.c.h.toNat)).map (picP (lyL ord at') s.c.behind s.c.w.toNat) := by
  have hc := calm_of (st := (s, F)) h.wh h.nq h.nsl (by omega)
  obtain ⟨j, rfl⟩ : ∃ j, k = 3 + j := ⟨k - 3, by omega⟩
  have h2 := (calm_on (st := setK (s, F) 3) hc j).1
  rw [← setK_add, setK_show] at h2
  have hL := h.shows (3 + j) hn
  have e := front_is hL.wh.px hL.wh.sh.scr.st.fr h2.fr h2.du
  have ec : (showS s (3 + j)).c = s.c := by rw [← setK_show s F (3 + j)]; exact setK_c0 (s, F) (3 + j)
  rw [e, hL.wh.sh.scr.W, hL.wh.sh.scr.H, ec, hL.l]
end
end Go.Proofs.Ytfnockbgkcgpkaa
set_option linter.all false
namespace Go.Proofs.Ytfnockbgkcgpkaa
open Go.RowKit Go.Proofs.Panes
set_option maxRecDepth 100000
section
variable {a o : Nat → Nat} {w : World} {sp xp kb sb fb : Nat} {cps : List (Option Nat)} {s : Scrn} {F : ShF} {L : ShL} {U : Nat → Prop} {ops : List Opn}
set_option maxHeartbeats 8000000 in
theorem hands_ok (hB : ShB a w sp xp F L) (hM : ScrM o w xp kb sb fb cps s) (hap : ∀ x, a x ≠ 0 → o x = 0) (hI : SubIn a o w s F 0 U ops) {ao : Option Addr} {cap : Nat} (hR : RdO U w (.slice ao ops.length cap) ops) (hc : subCo s 0 ops = 0) :
    Calls Try.prog 35 #[.pointer (some ⟨sp, 0, none⟩), .slice ao ops.length cap] w fun e w' => (∃ u, e = .returned u) ∧ KsPost a o w sp xp kb sb fb (subS s 0 ops) (handF F (costOf ops)) w' := by
  obtain ⟨cl, hcl, hmo, hqu, hsm, hol⟩ := subCo_zero hc
  have c0 : w.cell? ⟨sp, 0, none⟩ = some (.pointer (some ⟨xp, 0, none⟩)) := blk_cell hB.blk 0
  have hC := sub_call hB hM hap hI.n4 0 hI.hi hI.hS (fun cl hcl => by have := (hI.hq cl hcl).1; omega) U ao cap ops hR hI.lt hI.uo (by omega) hI.px
  rw [hc] at hC
  have hC2 : Calls Try.prog 28 #[.pointer (some ⟨xp, 0, none⟩), .int .i64 0, .slice ao ops.length cap] w fun e w' => e = .returned (.int .i64 0) ∧ SV a o w w' sp xp kb sb fb (subS s 0 ops) F U (.slice none 0 0) [] (.slice ao ops.length cap) ops := by
    refine hC.mono ?_
    rintro e w' ⟨g1, ⟨o', cps', L', k1, k2, k3, k4, k5⟩, g3⟩
    exact ⟨g1, ⟨a, o', cps', L', k1, k2, k3, k4, k5, fun _ _ h => h, hI.ua⟩, fun x hx => Nat.lt_of_lt_of_le (hI.lt x hx) k4.size, ⟨none, 0, rfl, Nat.le_refl _, by simp [maxLen], fun h => absurd rfl h⟩, g3⟩
  obtain ⟨n, hn⟩ : ∃ n, n = ops.length := ⟨_, rfl⟩
  rw [← hn] at hC2 ⊢
  obtain ⟨nn, hnn⟩ : ∃ nn, nn = s.ks.length := ⟨_, rfl⟩
  have hin : 0 < nn := by rw [hnn]; exact hI.hi
  have i1 : (0 : Int) < (nn : Int) := by omega
  have HC := hide hC2
  have HI := hide hI
  have HCL := hide hcl
  have HSM := hide hsm
  have HOL := hide hol
  have HNN := hide hnn
  have HN := hide hn
  clear hC hC2 hI hcl hmo hqu hsm hol hnn hn hB hM hap hR hc
  go_enter Try.func35, Try.ntmps35
  go_wp2_with (go_at_call 28; refine (unhide HC).mono ?_; rintro e W ⟨rfl, hV⟩; have HS := hide hV; clear hV HC)
  clear c0
  obtain ⟨gw, gc, vo, vc, ⟨x10, xw, lgw⟩, hrunW⟩ := (unhide HS).waitAt (i := 0) ((unhide HI).wt _ (unhide HCL)) (by have := ((unhide HI).hq cl (unhide HCL)).1; simp [costsK]; omega)
  obtain ⟨ql, hql⟩ : ∃ ql, ql = (costsK (some cl)).length := ⟨_, rfl⟩
  rw [← hql] at xw hrunW
  have x10' : W.cell? ⟨sp, 10, none⟩ = some (.slice (some ⟨gw, 0, none⟩) nn gc) := by rw [unhide HNN, ← (unhide HI).wl]; exact x10
  have HRW := hide hrunW
  have lW : sp < W.heap.size := ((unhide HS).base).2.2
  have HKC : Hid (Calls Try.prog 69 #[.slice ao n cap] W.drew fun e w' => e = .returned (.int .i64 (costOf ops)) ∧ Below W.heap.size W w') := by
    refine (kcost_any U _ ops _ (by have := ((unhide HS).below ((Below.refl _ W).drew)).rl; exact this) (by have := unhide HOL; omega) (unhide HSM)).mono ?_
    rintro e w' ⟨h1, q, rfl⟩
    exact ⟨h1, below_drewN ((Below.refl _ W).drew) q⟩
  clear hrunW x10 hql
  apply meet
  · intro HK
    go_region_law (first
        | (go_simp
           go_at_call 69
           refine (unhide HKC).mono ?_
           rintro e w6 ⟨rfl, hb6⟩
           have d10 : w6.cell? ⟨sp, 10, none⟩ = some (.slice (some ⟨gw, 0, none⟩) nn gc) := (hb6.cell lW).trans x10'
           have dw : w6.cell? ⟨gw, 0, none⟩ = some (.slice vo ql vc) := (hb6.cell lgw).trans xw
           have aB : Below W.heap.size W (w6.alloc (.cells #[.int .i64 (costOf ops)] 3)) := hb6.alloc hb6.size _
           have a10 : (w6.alloc (.cells #[.int .i64 (costOf ops)] 3)).cell? ⟨sp, 10, none⟩ = some (.slice (some ⟨gw, 0, none⟩) nn gc) := (aB.cell lW).trans x10'
           have aw : (w6.alloc (.cells #[.int .i64 (costOf ops)] 3)).cell? ⟨gw, 0, none⟩ = some (.slice vo ql vc) := (aB.cell lgw).trans xw
           have h9 : (w6.alloc (.cells #[.int .i64 (costOf ops)] 3)).heap[w6.heap.size]? = some (.cells #[.int .i64 (costOf ops)] 3) := new_at w6 _ _ rfl
           obtain ⟨ao2, cap2, w7, hr7, ⟨u7, c7⟩, z7, c10, hSV7⟩ := (unhide HRW) _ w6.heap.size (costOf ops) aB (blk_cell h9 0)
           have c10' : w7.cell? ⟨sp, 10, none⟩ = some (.slice (some ⟨gw, 0, none⟩) nn gc) := by rw [unhide HNN, ← (unhide HI).wl]; exact c10
           have HR7 := hide hr7
           have HS7 := hide hSV7
           clear hb6 aB h9 hr7 hSV7 c10)
        | (refine step_append_at (by kernel_rfl) (.tmp 25) (.tmp 28) 23 23 (by kernel_rfl) (by kernel_rfl) (.slice vo ql vc) (.slice (some ⟨w6.heap.size, 0, none⟩) 1 1) _ _ (by kernel_rfl) (by kernel_rfl) (unhide HR7) ?_))
    all_goals
      (try simp only [Exit.then])
      (try go_simp)
    all_goals
      clear c10' c7 z7 HR7 a10 aw
      (try clear d10 dw)
      generalize w7.setCell ⟨gw, 0, none⟩ (.slice ao2 (ql + 1) cap2) = W7 at HS7 ⊢
      generalize w6.heap.size = hs
      revert HS7
      revert W7
      revert cap2
      revert ao2
      revert hs
      exact HK
  intro hs ao2 cap2 W7 HS7
  have HS8 : Hid (SV a o w W7 sp xp kb sb fb (subS s 0 ops) (handF F (costOf ops)) U (.slice none 0 0) [] (.slice ao n cap) ops) := by
    have h7 := unhide HS7
    have e2 : F.wait.getD 0 [] = costsK (some cl) := by rw [List.getD_eq_getElem?_getD, (unhide HI).wt _ (unhide HCL)]; rfl
    show SV a o w W7 sp xp kb sb fb (subS s 0 ops) (handF F (costOf ops)) U (.slice none 0 0) [] (.slice ao n cap) ops
    unfold handF
    rw [e2]
    exact h7
  clear HS7
  go_end0
  exact ⟨⟨_, rfl⟩, (unhide HS8).ks⟩
end
end Go.Proofs.Ytfnockbgkcgpkaa
set_option linter.all false
namespace Go.Proofs.Ytfnockbgkcgpkaa
open Go.RowKit Go.Proofs.Panes
set_option maxRecDepth 100000
section
variable {S : Nat → Prop} {w w1 w2 : World} {sp : Nat} {s s' : Scrn} {F F' : ShF} {n : Nat}
theorem ShopTo.then (h : ShopTo S w sp s F w1) (k : ShopTo (fun x => S x ∨ w.heap.size ≤ x) w1 sp s' F' w2) : ShopTo S w sp s' F' w2 := by
  have hs := h.2.size
  refine ⟨k.1.wide (fun x hx => ?_), h.2.step k.2 (fun x hx => hx)⟩
  rcases hx with e | e
  · exact e
  · exact .inr (Nat.le_trans hs e)
theorem ShopTo.refl (h : Shop S w sp s F) : ShopTo S w sp s F w := ⟨h.wide (fun _ h => .inl h), .refl _ _⟩
theorem ShopTo.below (h : ShopTo S w sp s F w1) (hb : Below w1.heap.size w1 w2) : ShopTo S w sp s F w2 := ⟨h.1.below hb, h.2.trans (.of_below hb)⟩
theorem Shop.rep (h : Shop S w sp s F) : (w.cell? ⟨sp, 1, none⟩ = some (.int .i64 F.c.w) ∧ w.cell? ⟨sp, 2, none⟩ = some (.int .i64 F.c.h) ∧ w.cell? ⟨sp, 4, none⟩ = some (.int .i64 F.c.queue)) ∧ w.cell? ⟨sp, 15, none⟩ = some (.bool true) ∧ w.cell? ⟨sp, 18, none⟩ = some (.int .i64 F.rf) ∧ w.cell? ⟨sp, 19, none⟩ = some (.int .i64 F.rp) ∧ sp < w.heap.size := by
  obtain ⟨a, o, xp, kb, sb, fb, cps, L, h1, h2, h3, h4⟩ := h
  exact ⟨⟨blk_cell h1.blk 1, blk_cell h1.blk 2, blk_cell h1.blk 4⟩, blk_cell h1.blk 15, blk_cell h1.blk 18, blk_cell h1.blk 19, lt_of_heap h1.blk⟩
/-- How many ticks 'settled' makes. -/
def setN (c : Cfg) : Nat := c.queue.toNat + 3 * (c.w.toNat * c.h.toNat) + 36
end
end Go.Proofs.Ytfnockbgkcgpkaa
set_option linter.all false
namespace Go.Proofs.Ytfnockbgkcgpkaa
open Go.RowKit Go.Proofs.Panes
set_option maxRecDepth 100000
section
variable {S : Nat → Prop} {w w1 w' : World} {sp : Nat} {s : Scrn} {F : ShF} {n : Nat} {ops : List Opn}
/-- A transaction that must be taken. -/
theorem shop_hand (h : Shop S w sp s F) (hI : ShI n s F) (hn : n ≤ 1300000) {U : Nat → Prop} {ao : Option Addr} {cap : Nat} (hR : RdO U w (.slice ao ops.length cap) ops) (hU : ∀ y, U y → y < w.heap.size ∧ ¬ S y) (hpx : ∀ x ∈ ops, x.px.length ≤ 100000000) (hc : subCo s 0 ops = 0) :
    Calls Try.prog 35 #[.pointer (some ⟨sp, 0, none⟩), .slice ao ops.length cap] w (fun e w' => (∃ u, e = .returned u) ∧ ShopTo S w sp (subS s 0 ops) (handF F (costOf ops)) w') := by
  obtain ⟨a, o, xp, kb, sb, fb, cps, L, h1, h2, h3, h4⟩ := h
  obtain ⟨cl, hcl, hmo, hqu, hsm, hol⟩ := subCo_zero hc
  have hi := (List.getElem?_eq_some_iff.1 hcl).1
  have hcf := cfgB hI.scr.cfg
  have hcs := hcf.surfaces
  have hcq := hcf.queue
  have hn4 := hI.n4
  have hml := hI.ml
  have z0 : ∀ y, U y → o y = 0 := fun y hy => by
    rcases Nat.eq_zero_or_pos (o y) with e | e
    · exact e
    · exact absurd (h4 y (.inr (by omega))) (hU y hy).2
  have z1 : ∀ y, U y → a y = 0 := fun y hy => by
    rcases Nat.eq_zero_or_pos (a y) with e | e
    · exact e
    · exact absurd (h4 y (.inl (by omega))) (hU y hy).2
  have hS : SubIn a o w s F 0 U ops := ⟨hn4.1, hi, by omega, fun cl hcl => by have := (hI.scr.cl 0 cl hcl).ql; omega, fun k hk => by rw [hI.there, List.getElem?_map, hk]; rfl, fun k hk => by rw [hI.wait, List.getElem?_map, hk]; rfl, by rw [hI.there]; simp, by rw [hI.wait]; simp, hI.c, by omega, by omega, fun x hx => by have := hpx x hx; omega, fun y hy => (hU y hy).1, z0, z1⟩
  refine (hands_ok h1 h2 h3 hS hR hc).mono ?_
  rintro e w' ⟨g1, g2⟩
  exact ⟨g1, g2.shop h4⟩
/-- Tick of the screen itself. -/
theorem Shop.showTick (h : Shop S w sp s F) (hI : ShI n s F) (hn : n ≤ 1300000) : ∃ xp, w.cell? ⟨sp, 0, none⟩ = some (.pointer (some ⟨xp, 0, none⟩)) ∧ sp < w.heap.size ∧
    Calls Try.prog 30 #[.pointer (some ⟨xp, 0, none⟩), .int .i64 400] w fun e w' => ∃ r1 r2 a1 n1 c1 a2 n2 c2, e = .returned (.tuple #[.agg #[.int .i64 (s.t + 1), .int .i64 r1, .int .i64 r2, .slice a1 n1 c1, .slice a2 n2 c2], .int .i64 0]) ∧ ShopTo S w sp (tickS s 400) F w' := by
  obtain ⟨a, o, xp, kb, sb, fb, cps, L, h1, h2, h3, h4⟩ := h
  have ht := hI.t
  refine ⟨xp, blk_cell h1.blk 0, lt_of_heap h1.blk, (Tick_any h2 (tick_fine hI.scr (by omega) (by omega)) 400 (by omega)).mono ?_⟩
  intro e w' hT
  obtain ⟨o', av, fv, e1, hTS⟩ := ts_start h1 h3 hT
  obtain ⟨a1, c1, hg1⟩ := row_slice hTS.ad
  obtain ⟨a2, c2, hg2⟩ := row_slice hTS.fi
  refine ⟨_, _, a1, _, c1, a2, _, c2, by rw [e1, hg1, hg2], ?_⟩
  have hk : KtPost a o w sp xp kb sb fb (tickS s 400) F w' := ⟨o', cps, L, hTS.sh, hTS.sc, hTS.ap, hTS.bt, hTS.ex⟩
  exact hk.ks.shop h4
theorem Shop.setTicks (h : Shop S w sp s F) (v : Int) : Shop S (w.setCell ⟨sp, 14, none⟩ (.int .i64 v)) sp s { F with ticks := v } ∧ But S w (w.setCell ⟨sp, 14, none⟩ (.int .i64 v)) := by
  obtain ⟨a, o, xp, kb, sb, fb, cps, L, h1, h2, h3, h4⟩ := h
  have hb : But (fun x => x = sp) w (w.setCell ⟨sp, 14, none⟩ (.int .i64 v)) := (But.refl (fun x => x = sp) w).setCell (p := ⟨sp, 14, none⟩) (.inl rfl) _
  have hblk := blk_set (i := 14) h1.blk (.int .i64 v)
  obtain ⟨e1, e2⟩ := h1.cells (F' := { F with ticks := v }) (L' := L) hb (by rw [hblk]; simp [shcells]) rfl rfl rfl rfl rfl rfl rfl rfl rfl
  have ha : a sp ≠ 0 := by rw [h1.asp]; omega
  exact ⟨⟨a, o, xp, kb, sb, fb, cps, L, e1, h2.but hb (fun x hx e => by rw [e, h3 sp ha] at hx; omega), h3, h4⟩, hb.wide (fun x _ e => by rw [e]; exact h4 sp (.inl ha))⟩
theorem ShopTo.ticks (h : ShopTo S w sp s F w1) (v : Int) : ShopTo S w sp s { F with ticks := v } (w1.setCell ⟨sp, 14, none⟩ (.int .i64 v)) := by
  obtain ⟨k1, k2⟩ := h.1.setTicks v
  exact ⟨k1, h.2.step k2 (fun x hx => hx)⟩
theorem Shop.cell14 (h : Shop S w sp s F) : w.cell? ⟨sp, 14, none⟩ = some (.int .i64 F.ticks) ∧ w.frozen? ⟨sp, 14, none⟩ = false ∧ w.cell? ⟨sp, 8, none⟩ = some (.int .i64 F.c.behind) := by
  obtain ⟨a, o, xp, kb, sb, fb, cps, L, h1, h2, h3, h4⟩ := h
  exact ⟨blk_cell h1.blk 14, blk_thaw h1.blk 14, blk_cell h1.blk 8⟩
end
/-- The i-th of raw numbers. -/
def numO (l : List Int) (i : Nat) : Int := if l = [] then (i : Int) else l.getD (i % l.length) 0
theorem numO_fit {l : List Int} (hl : ∀ z ∈ l, FitI z) (i : Nat) (hi : i ≤ 1000000) : FitI (numO l i) := by
  unfold numO
  split
  · exact ⟨by omega, by omega⟩
  · rename_i h
    have h0 : 0 < l.length := List.length_pos_iff.2 h
    rw [List.getD_eq_getElem?_getD, List.getElem?_eq_getElem (Nat.mod_lt i h0)]
    exact hl _ (List.getElem_mem _)
set_option maxHeartbeats 1000000 in
theorem number_any (U : Nat → Prop) (v : Value) (l : List Int) (w : World) (h : RdN U w v l) (hl : l.length ≤ 9223372036854775807) (i : Nat) (hi : i ≤ 1000000) :
    Calls Try.prog 34 #[v, .int .i64 (i : Int)] w fun e w' => e = .returned (.int .i64 (numO l i)) ∧ w' = w := by
  obtain ⟨ao, cap, rfl, -, -, g1⟩ := h
  by_cases h0 : l = []
  · subst h0
    have e : numO [] i = (i : Int) := rfl
    rw [e]
    simp only [List.length_nil]
    clear g1
    go_enter Try.func34, Try.ntmps34
    go_wp2
    go_ret
    exact ⟨rfl, rfl⟩
  · have hn0 : 0 < l.length := List.length_pos_iff.2 h0
    obtain ⟨n, hn⟩ : ∃ n, n = l.length := ⟨_, rfl⟩
    obtain ⟨j, hj⟩ : ∃ j, j = i % n := ⟨_, rfl⟩
    have hjn : j < n := by rw [hj]; exact Nat.mod_lt _ (by omega)
    obtain ⟨z, hz⟩ : ∃ z, l[j]? = some z := ⟨l[j]'(by omega), by simp⟩
    have e : numO l i = z := by
      unfold numO
      rw [if_neg h0, ← hn, ← hj, List.getD_eq_getElem?_getD, hz]
      rfl
    obtain ⟨b, off, rfl, -, -, hc⟩ := g1 h0
    have c0 := hc j z hz
    rw [e, ← hn]
    have qm : (i : Int).tmod (n : Int) = (j : Int) := by rw [hj]; exact (Int.ofNat_tmod i n).symm
    have n0 : ¬ (n : Int) = 0 := by omega
    have n0' : ((n : Int) == 0) = false := by simpa using n0
    have j0 : (0 : Int) ≤ (j : Int) := by omega
    have j1 : (j : Int) < (n : Int) := by omega
    clear hc hz e h0 hn hj hn0 g1
    go_enter Try.func34, Try.ntmps34
    go_wp2
    go_ret
    exact ⟨rfl, rfl⟩
end Go.Proofs.Ytfnockbgkcgpkaa
