import Derived.Test.YtfnockbgkcgpkaaKabq
import Derived.Test.YtfnockbgkcgpkaaKabs
set_option linter.all false
namespace Go.Proofs.Ytfnockbgkcgpkaa
open Go.RowKit Go.Proofs.Panes
set_option maxRecDepth 100000
/-- When those that are not fired yet were asked for. -/
def pendT (c : Int) (l : List Ask) : List Int := (l.filter fun y => y.cl == c && !y.fired && !y.gone).map Ask.at'
theorem pendT_append (c : Int) (k l : List Ask) : pendT c (k ++ l) = pendT c k ++ pendT c l := by simp [pendT]
theorem pendT_len (c : Int) (l : List Ask) : (pendT c l).length = (pend c l).length := by simp [pendT, pend]
theorem pendT_cons (c : Int) (y : Ask) (l : List Ask) : pendT c (y :: l) = (if y.cl = c ∧ y.fired = false ∧ y.gone = false then [y.at'] else []) ++ pendT c l := by
  unfold pendT
  rw [List.filter_cons]
  by_cases h : y.cl = c ∧ y.fired = false ∧ y.gone = false
  · rw [if_pos h, if_pos (by obtain ⟨a, b, d⟩ := h; simp [a, b, d])]; rfl
  · rw [if_neg h, if_neg (by
      intro e
      simp only [Bool.and_eq_true, beq_iff_eq, Bool.not_eq_true'] at e
      exact h ⟨e.1.1, e.1.2, e.2⟩)]; rfl
theorem fire1_t : ∀ (ms ms' : List Ask) (c x : Int), fire1 ms (c, x) = some ms' → pendT c ms' = (pendT c ms).drop 1 ∧ ∀ d, d ≠ c → pendT d ms' = pendT d ms
  | [], ms', c, x, h => by simp [fire1] at h
  | y :: l, ms', c, x, h => by
    unfold fire1 at h
    split at h
    · rename_i hp
      simp only [Option.map_eq_some_iff] at h
      obtain ⟨l', h1, rfl⟩ := h
      obtain ⟨g1, g2⟩ := fire1_t l l' c x h1
      have hn : ¬ (y.cl = c ∧ y.fired = false ∧ y.gone = false) := by
        rintro ⟨a, b, d⟩
        rcases hp with e | e | e
        · exact e a
        · rw [b] at e; cases e
        · rw [d] at e; cases e
      refine ⟨?_, fun d hd => ?_⟩
      · rw [pendT_cons, pendT_cons, if_neg hn]; exact g1
      · rw [pendT_cons, pendT_cons, g2 d hd]
    · rename_i hp
      split at h
      · simp only [Option.some.injEq] at h
        subst h
        have hy : y.cl = c ∧ y.fired = false ∧ y.gone = false := by
          simp only [not_or, Decidable.not_not, Bool.not_eq_true] at hp
          exact hp
        refine ⟨?_, fun d hd => ?_⟩
        · rw [pendT_cons, pendT_cons, if_neg (by rintro ⟨-, e, -⟩; cases e), if_pos hy]; simp
        · rw [pendT_cons, pendT_cons, if_neg (by rintro ⟨-, e, -⟩; cases e), if_neg (by rintro ⟨e, -⟩; exact hd (e.symm.trans hy.1))]
      · cases h
theorem fireL_t : ∀ (fm : List (Int × Int)) (ms ms' : List Ask), fireL ms fm = some ms' → ∀ c, pendT c ms' = (pendT c ms).drop (ofC c fm).length
  | [], ms, ms', h, c => by simp only [fireL, Option.some.injEq] at h; subst h; simp [ofC]
  | (d, x) :: fm, ms, ms', h, c => by
    simp only [fireL, Option.bind_eq_some_iff] at h
    obtain ⟨m1, h1, h2⟩ := h
    obtain ⟨g1, g2⟩ := fire1_t ms m1 d x h1
    rw [fireL_t fm m1 ms' h2 c]
    by_cases e : c = d
    · subst e
      rw [g1, List.drop_drop]
      congr 1
      simp [ofC]; omega
    · rw [g2 c e]
      congr 1
      unfold ofC
      rw [List.filter_cons, if_neg (by simpa using fun e' => e e'.symm)]
/-- What is to be painted of the frame. -/
def leftN (f : Frs) : Nat := match f.frame with
  | none => 0
  | some g => g.left.length
/-- The asks of the first p transactions. -/
def cumN (q : List (List Opn)) (p : Nat) : Nat := (askM (q.take p).flatten).length
theorem cumN_add (q : List (List Opn)) (n p : Nat) : cumN q (n + p) = cumN q n + cumN (q.drop n) p := by
  unfold cumN
  rw [List.take_add, List.flatten_append, askM_append, List.length_append]
theorem cumN_all (q : List (List Opn)) : cumN q q.length = (askM q.flatten).length := by
  unfold cumN; rw [List.take_of_length_le (Nat.le_refl _)]
/-- How long a mark may wait. -/
def soonB (s : Scrn) : Int := s.c.queue + 2 * ((s.f.W * s.f.H : Nat) : Int)
structure SnI (s : Scrn) (F : ShF) : Prop where
  m1 : s.f.marks ≠ [] → s.f.due = true
  m2 : s.f.frame = none → s.f.marks = []
  fb : ∀ c, ∀ t ∈ pendT c F.marks, F.paid - t + (leftN s.f : Int) ≤ soonB s
  wb : ∀ c, ∀ t ∈ (pendT c F.marks).drop (ofC c (frM s.f)).length, F.paid - t + (leftN s.f : Int) + ((s.f.W * s.f.H : Nat) : Int) ≤ soonB s
  qb : ∀ (c : Nat) (k : Cli), s.ks[c]? = some (some k) → ∀ p, p < k.q.length → ∀ t ∈ (pendT c F.marks).drop ((ofC c (frM s.f)).length + (ofC c s.f.marks).length + cumN k.q p), F.paid - t + ((p : Int) + 1) + 2 * ((s.f.W * s.f.H : Nat) : Int) ≤ soonB s
theorem mem_drop_of_le {α : Type} {l : List α} {a b : Nat} (h : b ≤ a) {x : α} (hx : x ∈ l.drop a) : x ∈ l.drop b := by
  have : l.drop a = (l.drop b).drop (a - b) := by rw [List.drop_drop]; congr 1; omega
  rw [this] at hx
  exact List.mem_of_mem_drop hx
/-- What is due. -/
theorem doOps_due (j : Nat) : ∀ (ops : List Opn) (st : List Srf × Frs), st.2.due = true → (ops.foldl (doOp j) st).2.due = true
  | [], st, h => h
  | op :: l, st, h => by
    refine doOps_due j l _ ?_
    unfold doOp
    split
    · exact h
    · exact (damL_s _ _).due h
theorem doAll_due (j : Nat) : ∀ (trs : List (List Opn)) (st : List Srf × Frs), (st.2.due = true ∨ trs ≠ []) → (doAll j st trs).2.due = true
  | [], st, h => by
    rcases h with h | h
    · exact h
    · exact absurd rfl h
  | tr :: l, st, h => by
    show (doAll j (doTr j st tr) l).2.due = true
    exact doAll_due j l _ (.inl (doOps_due j tr _ rfl))
theorem scAdmI_due (q : Int) (ks : List (Option Cli)) (st : List Srf × Frs) : ∀ j : Nat, (st.2.due = true ∨ ∃ (i : Nat) (k : Cli), i < j ∧ ks[i]? = some (some k) ∧ (admitC k q).1 ≠ []) → (scAdmI q ks st j).2.due = true
  | 0, h => by
    rcases h with h | ⟨i, k, hi, -⟩
    · exact h
    · omega
  | j + 1, h => by
    have ih := scAdmI_due q ks st j
    cases hk : ks[j]? with
    | none =>
      have e : scAdmI q ks st (j + 1) = scAdmI q ks st j := by simp [scAdmI, hk]
      rw [e]
      refine ih ?_
      rcases h with h | ⟨i, k, hi, h1, h2⟩
      · exact .inl h
      · rcases Nat.lt_or_ge i j with c | c
        · exact .inr ⟨i, k, c, h1, h2⟩
        · have : i = j := by omega
          subst this; rw [hk] at h1; cases h1
    | some x =>
      cases x with
      | none =>
        have e : scAdmI q ks st (j + 1) = scAdmI q ks st j := by simp [scAdmI, hk]
        rw [e]
        refine ih ?_
        rcases h with h | ⟨i, k, hi, h1, h2⟩
        · exact .inl h
        · rcases Nat.lt_or_ge i j with c | c
          · exact .inr ⟨i, k, c, h1, h2⟩
          · have : i = j := by omega
            subst this; rw [hk] at h1; cases h1
      | some k =>
        have e : scAdmI q ks st (j + 1) = doAll j (scAdmI q ks st j) (admitC k q).1 := by simp [scAdmI, hk]
        rw [e]
        refine doAll_due j _ _ ?_
        rcases h with h | ⟨i, k', hi, h1, h2⟩
        · exact .inl (ih (.inl h))
        · rcases Nat.lt_or_ge i j with c | c
          · exact .inl (ih (.inr ⟨i, k', c, h1, h2⟩))
          · have : i = j := by omega
            subst this
            rw [hk] at h1
            cases h1
            exact .inr h2
end Go.Proofs.Ytfnockbgkcgpkaa
set_option linter.all false
namespace Go.Proofs.Ytfnockbgkcgpkaa
open Go.RowKit Go.Proofs.Panes
set_option maxRecDepth 100000
section
variable {n : Nat} {s : Scrn} {F : ShF}
theorem pend_total (h : ShI n s F) {c : Nat} {k : Cli} (hk : s.ks[c]? = some (some k)) : (pendT c F.marks).length = (ofC c (frM s.f)).length + (ofC c s.f.marks).length + cumN k.q k.q.length := by
  rw [pendT_len, h.eq, cumN_all]
  unfold allM
  rw [List.length_append, List.length_append, qAsk_at hk]
  omega
/-- No client, no marks. -/
theorem pend_none (h : ShI n s F) {c : Int} (hn : ∀ k, 0 ≤ c → s.ks[c.toNat]? = some (some k) → False) (hf : ofC c (frM s.f) = []) (hm : ofC c s.f.marks = []) : pendT c F.marks = [] := by
  have : (pendT c F.marks).length = 0 := by
    rw [pendT_len, h.eq]
    unfold allM
    rw [hf, hm]
    unfold qAsk perC
    split
    · rename_i h0
      split
      · rename_i k hk
        exact absurd hk (fun e => hn k h0 e)
      · rfl
    · rfl
  exact List.length_eq_zero_iff.1 this
theorem paint_left (f : Frs) (b : Nat) : leftN (paintF f b) = leftN f - min b (leftN f) := by
  unfold paintF leftN
  cases hf : f.frame with
  | none => simp [hf]
  | some g => simp [paintK]
theorem adm_n {k : Cli} {q : Int} : ∃ m, m ≤ k.q.length ∧ (admitC k q).1 = k.q.take m ∧ (admitC k q).2.q = k.q.drop m ∧ ((admitC k q).1 ≠ [] → 1 ≤ m) := by
  refine ⟨(takeN (k.cr + q) k.q).1, takeN_le k.q (k.cr + q), rfl, rfl, fun h => ?_⟩
  rcases Nat.eq_zero_or_pos (takeN (k.cr + q) k.q).1 with e | e
  · exact absurd (by show k.q.take _ = []; rw [e]; rfl) h
  · exact e
/-- Marks wait, then something is due; behind what is admitted. -/
theorem tk4_due (h : ShI n s F) (hS : SnI s F) : ((tk4 s).f.marks ≠ [] → (tk4 s).f.due = true) ∧ ∀ (c : Nat) (k : Cli), s.ks[c]? = some (some k) → k.q ≠ [] → (tk4 s).f.due = true := by
  have hd := damL_s (s.l.flatMap slDmg) (flipF s.f).1
  have hfd : (flipF s.f).1.due = s.f.due := by
    unfold flipF
    cases s.f.frame with
    | none => rfl
    | some g => simp only; split <;> rfl
  have hfm : (flipF s.f).1.marks = s.f.marks := (flip_m s.f 0).2
  have h3d : s.f.due = true → (tk3 s).f.due = true := fun e => hd.due (by rw [hfd]; exact e)
  have key : ∀ (c : Nat) (k : Cli), s.ks[c]? = some (some k) → (admitC k s.c.quantum).1 ≠ [] → (tk4 s).f.due = true := fun c k hk hne =>
    scAdmI_due s.c.quantum s.ks ((tk3 s).l, (tk3 s).f) s.ks.length (.inr ⟨c, k, (List.getElem?_eq_some_iff.1 hk).1, hk, hne⟩)
  refine ⟨fun hne => ?_, fun c k hk hq => ?_⟩
  · obtain ⟨x, hx⟩ := List.exists_mem_of_ne_nil _ hne
    have hx2 : x.2 ∈ ofC x.1 (tk4 s).f.marks := List.mem_map.2 ⟨x, List.mem_filter.2 ⟨hx, by simp⟩, rfl⟩
    have e := (scAdmI_m s.c.quantum s.ks ((tk3 s).l, (tk3 s).f) s.ks.length).2 x.1
    have e2 : ofC x.1 (tk4 s).f.marks = _ := e
    rw [e2] at hx2
    rcases List.mem_append.1 hx2 with q | q
    · have hm3 : (tk3 s).f.marks = s.f.marks := hd.marks.trans hfm
      have : s.f.marks ≠ [] := fun e3 => by
        rw [show ((tk3 s).l, (tk3 s).f).2.marks = s.f.marks from hm3, e3] at q
        simp [ofC] at q
      exact scAdmI_due s.c.quantum s.ks ((tk3 s).l, (tk3 s).f) s.ks.length (.inl (h3d (hS.m1 this)))
    · split at q
      · unfold perC at q
        split at q
        · split at q
          · rename_i k hk
            exact key _ k hk (fun e3 => by simp [e3, askM] at q)
          · cases q
        · cases q
      · cases q
  · have hc := cfgB h.scr.cfg
    have := (admitC_cr hc (h.scr.cl c k hk)).2 hq
    exact key c k hk (fun e => by rw [e] at this; simp at this)
theorem tk5_cases (h : ShI n s F) (hn : n ≤ 1300000) : (∃ g, s.f.frame = some g ∧ g.left ≠ [] ∧ (tk5 s).f = (tk4 s).f ∧ (tk4 s).f.frame = some g) ∨
    (((s.f.frame = none) ∨ ∃ g, s.f.frame = some g ∧ g.left = []) ∧ (tk4 s).f.frame = none ∧ (tk4 s).f.due = true ∧ (tk5 s).f.marks = [] ∧ ∃ g', (tk5 s).f.frame = some g' ∧ g'.left.length ≤ s.f.W * s.f.H) ∨
    (((s.f.frame = none) ∨ ∃ g, s.f.frame = some g ∧ g.left = []) ∧ (tk4 s).f.frame = none ∧ (tk4 s).f.due = false ∧ (tk5 s).f = (tk4 s).f) := by
  have hd := damL_s (s.l.flatMap slDmg) (flipF s.f).1
  have a1 := (scAdmI_m s.c.quantum s.ks ((tk3 s).l, (tk3 s).f) s.ks.length).1
  have hf4 : (tk4 s).f.frame = (flipF s.f).1.frame := a1.trans hd.frame
  have h4 : 4 * 160 = 640 := rfl
  have hl4 := h.n4
  have hI := admI_all h.scr (by omega) s.ks.length (Nat.le_refl _)
  have hwh : (tk4 s).f.W = s.f.W ∧ (tk4 s).f.H = s.f.H := tk4_wh s
  have rest : (flipF s.f).1.frame = none → (((tk4 s).f.frame = none ∧ (tk4 s).f.due = true ∧ (tk5 s).f.marks = [] ∧ ∃ g', (tk5 s).f.frame = some g' ∧ g'.left.length ≤ s.f.W * s.f.H) ∨ ((tk4 s).f.frame = none ∧ (tk4 s).f.due = false ∧ (tk5 s).f = (tk4 s).f)) := fun hnone => by
    rw [hnone] at hf4
    cases hdu : (tk4 s).f.due with
    | false =>
      refine .inr ⟨hf4, rfl, ?_⟩
      show beginF (tk4 s).f _ _ = _
      unfold beginF
      rw [if_pos (.inr hdu)]
    | true =>
      refine .inl ⟨hf4, rfl, ?_⟩
      have hng : ¬ ((tk4 s).f.frame.isSome = true ∨ (tk4 s).f.due = false) := by
        rintro (e | e)
        · rw [hf4] at e; cases e
        · rw [hdu] at e; cases e
      have e5 : (tk5 s).f = beginF (tk4 s).f (s.t + 1) (picS (tk4 s).l s.c.behind) := rfl
      have hb : ∀ g', (tk5 s).f.frame = some g' → g'.left.length ≤ s.f.W * s.f.H := fun g' hg' => by
        have hf := (hI.st.fr.begin (s.t + 1) (picS (tk4 s).l s.c.behind)).fm g' hg'
        have e := beginF_wh (scAdmI s.c.quantum s.ks ((tk3 s).l, (tk3 s).f) s.ks.length).2 (s.t + 1) (picS (tk4 s).l s.c.behind)
        have h5 := hf.2.2.1
        rw [e.1, e.2] at h5
        have e2 : (scAdmI s.c.quantum s.ks ((tk3 s).l, (tk3 s).f) s.ks.length).2 = (tk4 s).f := rfl
        rw [e2, hwh.1, hwh.2] at h5
        exact h5
      refine ⟨?_, ?_⟩
      · rw [e5]; unfold beginF; rw [if_neg hng]
      · have : ∃ g', (tk5 s).f.frame = some g' := by rw [e5]; unfold beginF; rw [if_neg hng]; exact ⟨_, rfl⟩
        obtain ⟨g', hg'⟩ := this
        exact ⟨g', hg', hb g' hg'⟩
  cases hf : s.f.frame with
  | none =>
    have : (flipF s.f).1.frame = none := by unfold flipF; rw [hf]; exact hf
    rcases rest this with r | r
    · exact .inr (.inl ⟨.inl rfl, r⟩)
    · exact .inr (.inr ⟨.inl rfl, r⟩)
  | some g =>
    by_cases hg : g.left = []
    · have : (flipF s.f).1.frame = none := by unfold flipF; rw [hf]; simp only; rw [if_pos hg]
      rcases rest this with r | r
      · exact .inr (.inl ⟨.inr ⟨g, rfl, hg⟩, r⟩)
      · exact .inr (.inr ⟨.inr ⟨g, rfl, hg⟩, r⟩)
    · have e : (flipF s.f).1.frame = some g := by unfold flipF; rw [hf]; simp only; rw [if_neg hg]; exact hf
      refine .inl ⟨g, rfl, hg, ?_, hf4.trans e⟩
      show beginF (tk4 s).f _ _ = _
      unfold beginF
      rw [if_pos (.inl (by rw [hf4, e]; rfl))]
/-- The marks of the frame and those that wait, ahead of a tick and behind it. -/
theorem tick_m2 (s : Scrn) (b : Nat) (c : Int) : ofC c (frM s.f) ++ (ofC c s.f.marks ++ perC s.ks (fun k => askM (admitC k s.c.quantum).1.flatten) c) = ofC c (flipF s.f).2.2 ++ (ofC c (frM (tickS s b).f) ++ ofC c (tickS s b).f.marks) := by
  have h := tick_m s b (fun d hd => qAsk_out _ _ hd) c
  have hks : (tickS s b).ks = s.ks.map (admK s.c.quantum) := ksI_full s.c.quantum s.ks
  unfold allM at h
  rw [hks, qAsk_adm s.c.quantum s.ks c] at h
  have h2 : (ofC c (frM s.f) ++ (ofC c s.f.marks ++ perC s.ks (fun k => askM (admitC k s.c.quantum).1.flatten) c)) ++ qAsk (s.ks.map (admK s.c.quantum)) c = (ofC c (flipF s.f).2.2 ++ (ofC c (frM (tickS s b).f) ++ ofC c (tickS s b).f.marks)) ++ qAsk (s.ks.map (admK s.c.quantum)) c := by
    simp only [List.append_assoc] at h ⊢
    exact h
  exact List.append_cancel_right h2
theorem SnI.q0 (h : ShI n s F) (hS : SnI s F) (c : Int) : ∀ t ∈ (pendT c F.marks).drop ((ofC c (frM s.f)).length + (ofC c s.f.marks).length), F.paid - t + 1 + 2 * ((s.f.W * s.f.H : Nat) : Int) ≤ soonB s := by
  intro t ht
  by_cases hc : ∃ k, 0 ≤ c ∧ s.ks[c.toNat]? = some (some k) ∧ k.q ≠ []
  · obtain ⟨k, h0, hk, hq⟩ := hc
    have e : ((c.toNat : Nat) : Int) = c := by omega
    have := hS.qb c.toNat k hk 0 (List.length_pos_iff.2 hq) t (by rw [e]; simpa [cumN, askM] using ht)
    omega
  · have hz : qAsk s.ks c = [] := by
      unfold qAsk perC
      split
      · rename_i h0
        split
        · rename_i k hk
          rcases Classical.em (k.q = []) with e | e
          · simp only; rw [e]; rfl
          · exact absurd ⟨k, h0, hk, e⟩ hc
        · rfl
      · rfl
    have hl : (pendT c F.marks).length = (ofC c (frM s.f)).length + (ofC c s.f.marks).length := by
      rw [pendT_len, h.eq]
      unfold allM
      rw [hz]
      simp
    rw [List.drop_eq_nil_of_le (by omega)] at ht
    simp at ht
theorem soon_tick (h : ShI n s F) (hn : n ≤ 1300000) (hS : SnI s F) (b : Nat) (hb : b ≤ 1000) : SnI (tickS s b) (tickF s F b (firedM s F)) := by
  obtain ⟨ms, hm, hI'⟩ := tick_in h hn hb
  have em : firedM s F = ms := by unfold firedM; rw [hm.fire]; rfl
  rw [em]
  have hP : ∀ c, pendT c ms = (pendT c F.marks).drop (ofC c (flipF s.f).2.2).length := fireL_t _ _ _ hm.fire
  have hks : (tickS s b).ks = s.ks.map (admK s.c.quantum) := ksI_full s.c.quantum s.ks
  obtain ⟨p1, p2⟩ := paint_m (tk5 s).f b
  have pl := paint_left (tk5 s).f b
  have pdue : (paintF (tk5 s).f b).due = (tk5 s).f.due := by unfold paintF; split <;> rfl
  have pfr : (paintF (tk5 s).f b).frame = none → (tk5 s).f.frame = none := by
    unfold paintF
    cases hf : (tk5 s).f.frame with
    | none => exact fun _ => rfl
    | some g => intro e; simp [paintK] at e
  have hwh5 := tk5_wh s
  have hpw : (paintF (tk5 s).f b).W = (tk5 s).f.W ∧ (paintF (tk5 s).f b).H = (tk5 s).f.H := by
    unfold paintF
    split <;> exact ⟨rfl, rfl⟩
  have hW : (tickS s b).f.W = s.f.W := hpw.1.trans hwh5.1
  have hH : (tickS s b).f.H = s.f.H := hpw.2.trans hwh5.2
  have hB : soonB (tickS s b) = soonB s := by unfold soonB; rw [hW, hH]; rfl
  have hWH : 1 ≤ s.f.W * s.f.H := Nat.mul_pos h.scr.st.fr.W.1 h.scr.st.fr.H.1
  have hm2 := tick_m2 s b
  have hlen : ∀ c, (ofC c (frM s.f)).length + (ofC c s.f.marks).length + (perC s.ks (fun k => askM (admitC k s.c.quantum).1.flatten) c).length = (ofC c (flipF s.f).2.2).length + (ofC c (frM (tickS s b).f)).length + (ofC c (tickS s b).f.marks).length := fun c => by
    have := congrArg List.length (hm2 c)
    simp only [List.length_append] at this
    omega
  have hfr' : frM (tickS s b).f = frM (tk5 s).f := p1
  have hmk' : (tickS s b).f.marks = (tk5 s).f.marks := p2
  have hL' : leftN (tickS s b).f = leftN (tk5 s).f - min b (leftN (tk5 s).f) := pl
  have hpaid : (tickF s F b ms).paid = if b = 0 then F.paid else F.paid + 1 := rfl
  obtain ⟨d1, d2⟩ := tk4_due h hS
  have hq0 := SnI.q0 h hS
  obtain ⟨wh, hwh⟩ : ∃ wh, wh = s.f.W * s.f.H := ⟨_, rfl⟩
  have hmks : (tickF s F b ms).marks = ms := rfl
  refine ⟨?_, ?_, fun c t ht => ?_, fun c t ht => ?_, fun c k' hk' p hp t ht => ?_⟩
  · intro hne
    rw [hmk'] at hne
    show (paintF (tk5 s).f b).due = true
    rw [pdue]
    rcases tk5_cases h hn with ⟨g, -, -, e5, -⟩ | ⟨-, -, -, e5, -⟩ | ⟨-, -, e6, e5⟩
    · rw [e5] at hne ⊢; exact d1 hne
    · exact absurd e5 hne
    · rw [e5] at hne; have := d1 hne; rw [e6] at this; cases this
  · intro hf
    have hf5 := pfr hf
    rw [hmk']
    rcases tk5_cases h hn with ⟨g, -, -, e5, e4⟩ | ⟨-, -, -, e5, -⟩ | ⟨-, -, e6, e5⟩
    · rw [e5, e4] at hf5; cases hf5
    · exact e5
    · rw [e5]
      rcases Classical.em ((tk4 s).f.marks = []) with q | q
      · exact q
      · have := d1 q; rw [e6] at this; cases this
  · rw [hmks, hP c] at ht
    rw [hB, hpaid, hL']
    rcases tk5_cases h hn with ⟨g, hg, hgl, e5, e4⟩ | ⟨hg, e4, -, -, g', hg', hgb⟩ | ⟨hg, e4, e6, e5⟩
    · have hl5 : leftN (tk5 s).f = leftN s.f := by rw [e5]; unfold leftN; rw [e4, hg]
      have hl1 : 1 ≤ leftN s.f := by unfold leftN; rw [hg]; exact List.length_pos_iff.2 hgl
      have := hS.fb c t (List.mem_of_mem_drop ht)
      rw [hl5]
      split <;> omega
    · have hl5 : leftN (tk5 s).f ≤ s.f.W * s.f.H := by unfold leftN; rw [hg']; exact hgb
      rcases hg with hg | ⟨g, hg, hgl⟩
      · have hz := hS.m2 hg
        have hfz : frM s.f = [] := by unfold frM; rw [hg]
        have := hq0 c t (by rw [hfz, hz]; simpa [ofC] using List.mem_of_mem_drop ht)
        split <;> omega
      · have hfm : (flipF s.f).2.2 = frM s.f := by unfold flipF frM; rw [hg]; simp only; rw [if_pos hgl]
        rw [hfm] at ht
        have := hS.wb c t ht
        have hl0 : leftN s.f = 0 := by unfold leftN; rw [hg]; simp [hgl]
        rw [hl0] at this
        split <;> omega
    · exfalso
      have hq : ∀ (j : Nat) (k : Cli), s.ks[j]? = some (some k) → k.q = [] := fun j k hk => by
        rcases Classical.em (k.q = []) with e | e
        · exact e
        · have := d2 j k hk e; rw [e6] at this; cases this
      have hqz : qAsk s.ks c = [] := by
        unfold qAsk perC
        split
        · split
          · rename_i k hk; simp only; rw [hq _ k hk]; rfl
          · rfl
        · rfl
      have hmz : (tk5 s).f.marks = [] := by
        rw [e5]
        rcases Classical.em ((tk4 s).f.marks = []) with q | q
        · exact q
        · have := d1 q; rw [e6] at this; cases this
      have hfz : frM (tk5 s).f = [] := by rw [e5]; unfold frM; rw [e4]
      have hl := hlen c
      rw [hfr', hmk', hmz, hfz] at hl
      have hpl : (pendT c F.marks).length = (ofC c (frM s.f)).length + (ofC c s.f.marks).length := by
        rw [pendT_len, h.eq]; unfold allM; rw [hqz]; simp
      simp only [ofC_nil, List.length_nil] at hl
      rw [List.drop_eq_nil_of_le (by omega)] at ht
      simp at ht
  · rw [hmks, hP c, List.drop_drop] at ht
    rw [hB, hpaid, hL', hW, hH]
    have hl := hlen c
    rcases tk5_cases h hn with ⟨g, hg, hgl, e5, e4⟩ | ⟨hg, e4, -, e5, g', hg', hgb⟩ | ⟨hg, e4, e6, e5⟩
    · have hl5 : leftN (tk5 s).f = leftN s.f := by rw [e5]; unfold leftN; rw [e4, hg]
      have hl1 : 1 ≤ leftN s.f := by unfold leftN; rw [hg]; exact List.length_pos_iff.2 hgl
      have hfe : frM (tickS s b).f = frM s.f := by rw [hfr', e5]; unfold frM; rw [e4, hg]
      rw [hfe] at ht
      have := hS.wb c t (mem_drop_of_le (by omega) ht)
      rw [hl5]
      split <;> omega
    · have hl5 : leftN (tk5 s).f ≤ s.f.W * s.f.H := by unfold leftN; rw [hg']; exact hgb
      have hmz : (ofC c (tickS s b).f.marks).length = 0 := by rw [hmk', e5]; rfl
      have := hq0 c t (mem_drop_of_le (by omega) ht)
      split <;> omega
    · exfalso
      have hq : ∀ (j : Nat) (k : Cli), s.ks[j]? = some (some k) → k.q = [] := fun j k hk => by
        rcases Classical.em (k.q = []) with e | e
        · exact e
        · have := d2 j k hk e; rw [e6] at this; cases this
      have hqz : qAsk s.ks c = [] := by
        unfold qAsk perC
        split
        · split
          · rename_i k hk; simp only; rw [hq _ k hk]; rfl
          · rfl
        · rfl
      have hpl : (pendT c F.marks).length = (ofC c (frM s.f)).length + (ofC c s.f.marks).length := by
        rw [pendT_len, h.eq]; unfold allM; rw [hqz]; simp
      have hmz : (tk5 s).f.marks = [] := by
        rw [e5]
        rcases Classical.em ((tk4 s).f.marks = []) with q | q
        · exact q
        · have := d1 q; rw [e6] at this; cases this
      have hmz2 : (ofC c (tickS s b).f.marks).length = 0 := by rw [hmk', hmz]; rfl
      rw [List.drop_eq_nil_of_le (by omega)] at ht
      simp at ht
  · rw [hmks, hP, List.drop_drop] at ht
    rw [hB, hpaid, hW, hH]
    rw [hks, List.getElem?_map] at hk'
    cases hk : s.ks[c]? with
    | none => rw [hk] at hk'; cases hk'
    | some x =>
      rw [hk] at hk'
      cases x with
      | none => simp [admK] at hk'
      | some k =>
        simp only [admK, Option.map_some, Option.some.injEq] at hk'
        obtain ⟨m, hm1, hm3, hm4, hm5⟩ := adm_n (k := k) (q := s.c.quantum)
        rw [← hk', hm4] at hp ht
        rw [List.length_drop] at hp
        have hq : k.q ≠ [] := fun e => by rw [e] at hp; simp at hp
        have hge := (admitC_cr (cfgB h.scr.cfg) (h.scr.cl c k hk)).2 hq
        have hm1' : 1 ≤ m := hm5 (fun e => by rw [e] at hge; simp at hge)
        have hl := hlen (c : Int)
        have hper : (perC s.ks (fun k => askM (admitC k s.c.quantum).1.flatten) (c : Int)).length = cumN k.q m := by
          unfold perC
          rw [if_pos (by omega), Int.toNat_natCast, hk]
          simp only
          rw [hm3]; rfl
        have hca := cumN_add k.q m p
        have := hS.qb c k hk (m + p) (by omega) t (mem_drop_of_le (by omega) ht)
        split <;> omega
end
end Go.Proofs.Ytfnockbgkcgpkaa
set_option linter.all false
namespace Go.Proofs.Ytfnockbgkcgpkaa
open Go.RowKit Go.Proofs.Panes
set_option maxRecDepth 100000
/-- Nothing waits; nothing slides; all is painted and shown. -/
def noQ (s : Scrn) : Prop := ∀ (j : Nat) (k : Cli), s.ks[j]? = some (some k) → k.q = []
def noSl (s : Scrn) : Prop := ∀ x ∈ s.l, x.left = 0
structure Calm (s : Scrn) : Prop where
  q : noQ s
  sl : noSl s
  fr : s.f.frame = none
  du : s.f.due = false
section
variable {n : Nat} {s : Scrn} {F : ShF}
theorem adm_idle (h : noQ s) (st : List Srf × Frs) : ∀ j, scAdmI s.c.quantum s.ks st j = st
  | 0 => rfl
  | j + 1 => by
    have ih := adm_idle h st j
    unfold scAdmI
    split
    · rename_i k hk
      have e : (admitC k s.c.quantum).1 = [] := by simp [admitC, h j k hk]
      rw [e, ih]; rfl
    · exact ih
theorem go_idle {l : List Srf} (h : ∀ x ∈ l, x.left = 0) : l.map goS = l ∧ l.flatMap slDmg = [] := by
  constructor
  · conv => rhs; rw [← List.map_id l]
    exact List.map_congr_left fun x hx => by unfold goS; rw [if_pos (h x hx)]; rfl
  · rw [List.flatMap_eq_nil_iff]
    intro x hx
    unfold slDmg goB
    rw [if_pos (h x hx)]
    rfl
/-- A tick when nothing waits and nothing slides. -/
theorem still_tick (hq : noQ s) (hs : noSl s) : (tk4 s).l = s.l ∧ (tk4 s).f = (flipF s.f).1 := by
  obtain ⟨e1, e2⟩ := go_idle hs
  have h3l : (tk3 s).l = s.l := e1
  have h3f : (tk3 s).f = (flipF s.f).1 := by
    show damL (flipF s.f).1 (s.l.flatMap slDmg) = _
    rw [e2]; rfl
  have e : scAdmI (tk3 s).c.quantum (tk3 s).ks ((tk3 s).l, (tk3 s).f) s.ks.length = ((tk3 s).l, (tk3 s).f) := adm_idle (s := s) hq _ _
  constructor
  · show (scAdmI (tk3 s).c.quantum (tk3 s).ks ((tk3 s).l, (tk3 s).f) s.ks.length).1 = _
    rw [e]; exact h3l
  · show (scAdmI (tk3 s).c.quantum (tk3 s).ks ((tk3 s).l, (tk3 s).f) s.ks.length).2 = _
    rw [e]; exact h3f
theorem noQ_tick (hq : noQ s) (b : Nat) : noQ (tickS s b) := by
  intro j k hk
  have hks : (tickS s b).ks = s.ks.map (admK s.c.quantum) := ksI_full _ _
  rw [hks, List.getElem?_map] at hk
  cases hx : s.ks[j]? with
  | none => rw [hx] at hk; cases hk
  | some x =>
    rw [hx] at hk
    cases x with
    | none => simp [admK] at hk
    | some k0 =>
      simp only [admK, Option.map_some, Option.some.injEq] at hk
      rw [← hk]
      show k0.q.drop _ = []
      rw [hq j k0 hx]; rfl
theorem calm_tick (h : Calm s) (b : Nat) : Calm (tickS s b) ∧ (tickS s b).l = s.l ∧ (flipF s.f).2.1 = 0 ∧ tickP s b = 0 := by
  obtain ⟨e1, e2⟩ := still_tick h.q h.sl
  have hf : flipF s.f = (s.f, 0, []) := by unfold flipF; rw [h.fr]
  rw [hf] at e2
  have h5 : (tk5 s).f = s.f := by
    show beginF (tk4 s).f _ _ = _
    rw [e2]
    unfold beginF
    rw [if_pos (.inr h.du)]
  have h6 : (tickS s b).f = s.f := by
    show paintF (tk5 s).f b = _
    rw [h5]
    unfold paintF
    rw [h.fr]
  have hl : (tickS s b).l = s.l := e1
  refine ⟨⟨noQ_tick h.q b, by intro x hx; rw [hl] at hx; exact h.sl x hx, by rw [h6]; exact h.fr, by rw [h6]; exact h.du⟩, hl, by rw [hf], ?_⟩
  unfold tickP paintN
  rw [h5, h.fr]
/-- Queues, slides and frames that are left; a tick takes one away. -/
def qMax (s : Scrn) (m : Nat) : Prop := ∀ (j : Nat) (k : Cli), s.ks[j]? = some (some k) → k.q.length ≤ m
def slMax (s : Scrn) (m : Nat) : Prop := ∀ x ∈ s.l, x.left ≤ (m : Int)
theorem qMax_tick (h : ShI n s F) {m : Nat} (hq : qMax s (m + 1)) (b : Nat) : qMax (tickS s b) m := by
  intro j k hk
  have hks : (tickS s b).ks = s.ks.map (admK s.c.quantum) := ksI_full _ _
  rw [hks, List.getElem?_map] at hk
  cases hx : s.ks[j]? with
  | none => rw [hx] at hk; cases hk
  | some x =>
    rw [hx] at hk
    cases x with
    | none => simp [admK] at hk
    | some k0 =>
      simp only [admK, Option.map_some, Option.some.injEq] at hk
      obtain ⟨i, h1, h2, h3, h4⟩ := adm_n (k := k0) (q := s.c.quantum)
      rw [← hk, h3, List.length_drop]
      have h5 := hq j k0 hx
      by_cases e : k0.q = []
      · rw [e]; simp
      · have := (admitC_cr (cfgB h.scr.cfg) (h.scr.cl j k0 hx)).2 e
        have := h4 (fun e2 => by rw [e2] at this; simp at this)
        omega
theorem qMax_zero (h : qMax s 0) : noQ s := fun j k hk => List.eq_nil_of_length_eq_zero (by have := h j k hk; omega)
theorem slMax_tick (hq : noQ s) {m : Nat} (h : slMax s (m + 1)) (h0 : ∀ x ∈ s.l, 0 ≤ x.left) (b : Nat) : slMax (tickS s b) m ∧ ∀ x ∈ (tickS s b).l, 0 ≤ x.left := by
  have e : (tickS s b).l = s.l.map goS := by
    show (scAdmI (tk3 s).c.quantum (tk3 s).ks ((tk3 s).l, (tk3 s).f) s.ks.length).1 = _
    have : scAdmI (tk3 s).c.quantum (tk3 s).ks ((tk3 s).l, (tk3 s).f) s.ks.length = ((tk3 s).l, (tk3 s).f) := adm_idle (s := s) hq _ _
    rw [this]; rfl
  have key : ∀ x ∈ s.l, 0 ≤ (goS x).left ∧ (goS x).left ≤ (m : Int) := fun x hx => by
    have h1 := h x hx
    have h2 := h0 x hx
    unfold goS
    split
    · omega
    · simp only; omega
  constructor
  · intro x hx
    rw [e] at hx
    obtain ⟨y, hy, rfl⟩ := List.mem_map.1 hx
    exact (key y hy).2
  · intro x hx
    rw [e] at hx
    obtain ⟨y, hy, rfl⟩ := List.mem_map.1 hx
    exact (key y hy).1
/-- How far the frames are from calm: 0 calm, .. -/
def calmR (s : Scrn) : Nat → Prop
  | 0 => s.f.frame = none ∧ s.f.due = false
  | 1 => (∃ g, s.f.frame = some g ∧ g.left = []) ∧ s.f.due = false
  | 2 => ∃ g, s.f.frame = some g ∧ g.left = []
  | _ => True
theorem still_step (h : ShI n s F) (hn : n ≤ 1300000) (hq : noQ s) (hs : noSl s) : (calmR s 0 → calmR (tickS s 400) 0) ∧ (calmR s 1 → calmR (tickS s 400) 0) ∧ (calmR s 2 → calmR (tickS s 400) 1 ∨ calmR (tickS s 400) 0) ∧ (calmR (tickS s 400) 2 ∨ calmR (tickS s 400) 0) := by
  obtain ⟨e1, e2⟩ := still_tick hq hs
  have hwh := h.scr.st.fr.wh
  simp only at hwh
  have hpd : (paintF (tk5 s).f 400).due = (tk5 s).f.due := by unfold paintF; split <;> rfl
  have done : ∀ g, (tk5 s).f.frame = some g → g.left.length ≤ 256 → ∃ g', (tickS s 400).f.frame = some g' ∧ g'.left = [] := fun g hg hl => by
    refine ⟨{ g with left := g.left.drop (min 400 g.left.length) }, ?_, ?_⟩
    · show (paintF (tk5 s).f 400).frame = _
      unfold paintF
      rw [hg]
      rfl
    · exact List.drop_eq_nil_of_le (by omega)
  have rest : (flipF s.f).1.frame = none → ((flipF s.f).1.due = false → calmR (tickS s 400) 0) ∧ ((flipF s.f).1.due = true → calmR (tickS s 400) 1) := fun hnone => by
    constructor
    · intro hd
      have h5 : (tk5 s).f = (flipF s.f).1 := by
        show beginF (tk4 s).f _ _ = _
        rw [e2]
        unfold beginF
        rw [if_pos (.inr hd)]
      have h6 : (tickS s 400).f = (flipF s.f).1 := by
        show paintF (tk5 s).f 400 = _
        rw [h5]
        unfold paintF
        rw [hnone]
      exact ⟨by rw [h6]; exact hnone, by rw [h6]; exact hd⟩
    · intro hd
      rcases tk5_cases h hn with ⟨g, hg, hgl, e5, e4⟩ | ⟨-, -, -, -, g', hg', hgb⟩ | ⟨-, -, e6, -⟩
      · rw [e2] at e4; rw [hnone] at e4; cases e4
      · refine ⟨done g' hg' (by omega), ?_⟩
        show (paintF (tk5 s).f 400).due = false
        rw [hpd]
        show (beginF (tk4 s).f _ _).due = false
        rw [e2]
        unfold beginF
        rw [if_neg (by
          rintro (x | x)
          · rw [hnone] at x; cases x
          · rw [hd] at x; cases x)]
      · rw [e2, hd] at e6; cases e6
  have fd : (flipF s.f).1.due = s.f.due := by
    unfold flipF
    cases s.f.frame with
    | none => rfl
    | some g => simp only; split <;> rfl
  have fl : ∀ g, s.f.frame = some g → g.left = [] → (flipF s.f).1.frame = none := fun g hg hl => by unfold flipF; rw [hg]; simp only; rw [if_pos hl]
  have any : ((flipF s.f).1.frame = none) → calmR (tickS s 400) 1 ∨ calmR (tickS s 400) 0 := fun hnone => by
    cases hd : (flipF s.f).1.due with
    | false => exact .inr ((rest hnone).1 hd)
    | true => exact .inl ((rest hnone).2 hd)
  refine ⟨fun hc => ?_, fun hc => ?_, fun hc => ?_, ?_⟩
  · have hf : (flipF s.f).1.frame = none := by unfold flipF; rw [hc.1]; exact hc.1
    exact (rest hf).1 (by rw [fd]; exact hc.2)
  · obtain ⟨⟨g, hg, hl⟩, hd⟩ := hc
    exact (rest (fl g hg hl)).1 (by rw [fd]; exact hd)
  · obtain ⟨g, hg, hl⟩ := hc
    exact any (fl g hg hl)
  · cases hf : s.f.frame with
    | none =>
      have hfn : (flipF s.f).1.frame = none := by unfold flipF; rw [hf]; exact hf
      rcases any hfn with r | r
      · exact .inl r.1
      · exact .inr r
    | some g =>
      by_cases hg : g.left = []
      · rcases any (fl g hf hg) with r | r
        · exact .inl r.1
        · exact .inr r
      · left
        have e : (flipF s.f).1.frame = some g := by unfold flipF; rw [hf]; simp only; rw [if_neg hg]; exact hf
        have h5 : (tk5 s).f.frame = some g := by
          show (beginF (tk4 s).f _ _).frame = _
          rw [e2]
          unfold beginF
          rw [if_pos (.inl (by rw [e]; rfl))]
          exact e
        have := (h.scr.st.fr.fm g hf).2.2.1
        simp only at this
        exact done g h5 (by omega)
end
end Go.Proofs.Ytfnockbgkcgpkaa
