import Derived.Test.YtfnockbgkcgpkaaKabq
import Derived.BigQuiet
set_option linter.all false
namespace Go.Proofs.Ytfnockbgkcgpkaa
open Go.RowKit Go.Proofs.Panes
set_option maxRecDepth 100000
/-- When those that are not fired yet were asked for. -/
def pendT (c : Int) (l : List Ask) : List Int := (l.filter fun y => y.cl == c && !y.fired && !y.gone).map Ask.at'
theorem pendT_append (c : Int) (k l : List Ask) : pendT c (k ++ l) = pendT c k ++ pendT c l := by simp [pendT]
theorem pendT_len (c : Int) (l : List Ask) : (pendT c l).length = (pend c l).length := by simp [pendT, pend]
theorem pendT_cons (c : Int) (y : Ask) (l : List Ask) : pendT c (y :: l) = (if y.cl = c ∧ y.fired = false ∧ y.gone = false then [y.at'] else []) ++ pendT c l := by
  unfold pendT
  rw [List.filter_cons]
  by_cases h : y.cl = c ∧ y.fired = false ∧ y.gone = false
  · rw [if_pos h, if_pos (by obtain ⟨a, b, d⟩ := h; simp [a, b, d])]; rfl
  · rw [if_neg h, if_neg (by
      intro e
      simp only [Bool.and_eq_true, beq_iff_eq, Bool.not_eq_true'] at e
      exact h ⟨e.1.1, e.1.2, e.2⟩)]; rfl
theorem fire1_t : ∀ (ms ms' : List Ask) (c x : Int), fire1 ms (c, x) = some ms' → pendT c ms' = (pendT c ms).drop 1 ∧ ∀ d, d ≠ c → pendT d ms' = pendT d ms
  | [], ms', c, x, h => by simp [fire1] at h
  | y :: l, ms', c, x, h => by
    unfold fire1 at h
    split at h
    · rename_i hp
      simp only [Option.map_eq_some_iff] at h
      obtain ⟨l', h1, rfl⟩ := h
      obtain ⟨g1, g2⟩ := fire1_t l l' c x h1
      have hn : ¬ (y.cl = c ∧ y.fired = false ∧ y.gone = false) := by
        rintro ⟨a, b, d⟩
        rcases hp with e | e | e
        · exact e a
        · rw [b] at e; cases e
        · rw [d] at e; cases e
      refine ⟨?_, fun d hd => ?_⟩
      · rw [pendT_cons, pendT_cons, if_neg hn]; exact g1
      · rw [pendT_cons, pendT_cons, g2 d hd]
    · rename_i hp
      split at h
      · simp only [Option.some.injEq] at h
        subst h
        have hy : y.cl = c ∧ y.fired = false ∧ y.gone = false := by
          simp only [not_or, Decidable.not_not, Bool.not_eq_true] at hp
          exact hp
        refine ⟨?_, fun d hd => ?_⟩
        · rw [pendT_cons, pendT_cons, if_neg (by rintro ⟨-, e, -⟩; cases e), if_pos hy]; simp
        · rw [pendT_cons, pendT_cons, if_neg (by rintro ⟨-, e, -⟩; cases e), if_neg (by rintro ⟨e, -⟩; exact hd (e.symm.trans hy.1))]
      · cases h
theorem fireL_t : ∀ (fm : List (Int × Int)) (ms ms' : List Ask), fireL ms fm = some ms' → ∀ c, pendT c ms' = (pendT c ms).drop (ofC c fm).length
  | [], ms, ms', h, c => by simp only [fireL, Option.some.injEq] at h; subst h; simp [ofC]
  | (d, x) :: fm, ms, ms', h, c => by
    simp only [fireL, Option.bind_eq_some_iff] at h
    obtain ⟨m1, h1, h2⟩ := h
    obtain ⟨g1, g2⟩ := fire1_t ms m1 d x h1
    rw [fireL_t fm m1 ms' h2 c]
    by_cases e : c = d
    · subst e
      rw [g1, List.drop_drop]
      congr 1
      simp [ofC]; omega
    · rw [g2 c e]
      congr 1
      unfold ofC
      rw [List.filter_cons, if_neg (by simpa using fun e' => e e'.symm)]
/-- What is to be painted of the frame. -/
def leftN (f : Frs) : Nat := match f.frame with
  | none => 0
  | some g => g.left.length
/-- The asks of the first p transactions. -/
def cumN (q : List (List Opn)) (p : Nat) : Nat := (askM (q.take p).flatten).length
theorem cumN_add (q : List (List Opn)) (n p : Nat) : cumN q (n + p) = cumN q n + cumN (q.drop n) p := by
  unfold cumN
  rw [List.take_add, List.flatten_append, askM_append, List.length_append]
theorem cumN_all (q : List (List Opn)) : cumN q q.length = (askM q.flatten).length := by
  unfold cumN; rw [List.take_of_length_le (Nat.le_refl _)]
/-- How long a mark may wait. -/
def soonB (s : Scrn) : Int := s.c.queue + 2 * ((s.f.W * s.f.H : Nat) : Int)
structure SnI (s : Scrn) (F : ShF) : Prop where
  m1 : s.f.marks ≠ [] → s.f.due = true
  m2 : s.f.frame = none → s.f.marks = []
  fb : ∀ c, ∀ t ∈ pendT c F.marks, F.paid - t + (leftN s.f : Int) ≤ soonB s
  wb : ∀ c, ∀ t ∈ (pendT c F.marks).drop (ofC c (frM s.f)).length, F.paid - t + (leftN s.f : Int) + ((s.f.W * s.f.H : Nat) : Int) ≤ soonB s
  qb : ∀ (c : Nat) (k : Cli), s.ks[c]? = some (some k) → ∀ p, p < k.q.length → ∀ t ∈ (pendT c F.marks).drop ((ofC c (frM s.f)).length + (ofC c s.f.marks).length + cumN k.q p), F.paid - t + ((p : Int) + 1) + 2 * ((s.f.W * s.f.H : Nat) : Int) ≤ soonB s
theorem mem_drop_of_le {α : Type} {l : List α} {a b : Nat} (h : b ≤ a) {x : α} (hx : x ∈ l.drop a) : x ∈ l.drop b := by
  have : l.drop a = (l.drop b).drop (a - b) := by rw [List.drop_drop]; congr 1; omega
  rw [this] at hx
  exact List.mem_of_mem_drop hx
/-- What is due. -/
theorem doOps_due (j : Nat) : ∀ (ops : List Opn) (st : List Srf × Frs), st.2.due = true → (ops.foldl (doOp j) st).2.due = true
  | [], st, h => h
  | op :: l, st, h => by
    refine doOps_due j l _ ?_
    unfold doOp
    split
    · exact h
    · exact (damL_s _ _).due h
theorem doAll_due (j : Nat) : ∀ (trs : List (List Opn)) (st : List Srf × Frs), (st.2.due = true ∨ trs ≠ []) → (doAll j st trs).2.due = true
  | [], st, h => by
    rcases h with h | h
    · exact h
    · exact absurd rfl h
  | tr :: l, st, h => by
    show (doAll j (doTr j st tr) l).2.due = true
    exact doAll_due j l _ (.inl (doOps_due j tr _ rfl))
theorem scAdmI_due (q : Int) (ks : List (Option Cli)) (st : List Srf × Frs) : ∀ j : Nat, (st.2.due = true ∨ ∃ (i : Nat) (k : Cli), i < j ∧ ks[i]? = some (some k) ∧ (admitC k q).1 ≠ []) → (scAdmI q ks st j).2.due = true
  | 0, h => by
    rcases h with h | ⟨i, k, hi, -⟩
    · exact h
    · omega
  | j + 1, h => by
    have ih := scAdmI_due q ks st j
    cases hk : ks[j]? with
    | none =>
      have e : scAdmI q ks st (j + 1) = scAdmI q ks st j := by simp [scAdmI, hk]
      rw [e]
      refine ih ?_
      rcases h with h | ⟨i, k, hi, h1, h2⟩
      · exact .inl h
      · rcases Nat.lt_or_ge i j with c | c
        · exact .inr ⟨i, k, c, h1, h2⟩
        · have : i = j := by omega
          subst this; rw [hk] at h1; cases h1
    | some x =>
      cases x with
      | none =>
        have e : scAdmI q ks st (j + 1) = scAdmI q ks st j := by simp [scAdmI, hk]
        rw [e]
        refine ih ?_
        rcases h with h | ⟨i, k, hi, h1, h2⟩
        · exact .inl h
        · rcases Nat.lt_or_ge i j with c | c
          · exact .inr ⟨i, k, c, h1, h2⟩
          · have : i = j := by omega
            subst this; rw [hk] at h1; cases h1
      | some k =>
        have e : scAdmI q ks st (j + 1) = doAll j (scAdmI q ks st j) (admitC k q).1 := by simp [scAdmI, hk]
        rw [e]
        refine doAll_due j _ _ ?_
        rcases h with h | ⟨i, k', hi, h1, h2⟩
        · exact .inl (ih (.inl h))
        · rcases Nat.lt_or_ge i j with c | c
          · exact .inl (ih (.inr ⟨i, k', c, h1, h2⟩))
          · have : i = j := by omega
            subst this
            rw [hk] at h1
            cases h1
            exact .inr h2
end Go.Proofs.Ytfnockbgkcgpkaa
set_option linter.all false
namespace Go.Proofs.Ytfnockbgkcgpkaa
open Go.RowKit Go.Proofs.Panes
set_option maxRecDepth 100000
section
variable {n : Nat} {s : Scrn} {F : ShF}
theorem pend_total (h : ShI n s F) {c : Nat} {k : Cli} (hk : s.ks[c]? = some (some k)) : (pendT c F.marks).length = (ofC c (frM s.f)).length + (ofC c s.f.marks).length + cumN k.q k.q.length := by
  rw [pendT_len, h.eq, cumN_all]
  unfold allM
  rw [List.length_append, List.length_append, qAsk_at hk]
  omega
/-- No client, no marks. -/
theorem pend_none (h : ShI n s F) {c : Int} (hn : ∀ k, 0 ≤ c → s.ks[c.toNat]? = some (some k) → False) (hf : ofC c (frM s.f) = []) (hm : ofC c s.f.marks = []) : pendT c F.marks = [] := by
  have : (pendT c F.marks).length = 0 := by
    rw [pendT_len, h.eq]
    unfold allM
    rw [hf, hm]
    unfold qAsk perC
    split
    · rename_i h0
      split
      · rename_i k hk
        exact absurd hk (fun e => hn k h0 e)
      · rfl
    · rfl
  exact List.length_eq_zero_iff.1 this
theorem paint_left (f : Frs) (b : Nat) : leftN (paintF f b) = leftN f - min b (leftN f) := by
  unfold paintF leftN
  cases hf : f.frame with
  | none => simp [hf]
  | some g => simp [paintK]
theorem adm_n {k : Cli} {q : Int} : ∃ m, m ≤ k.q.length ∧ (admitC k q).1 = k.q.take m ∧ (admitC k q).2.q = k.q.drop m ∧ ((admitC k q).1 ≠ [] → 1 ≤ m) := by
  refine ⟨(takeN (k.cr + q) k.q).1, takeN_le k.q (k.cr + q), rfl, rfl, fun h => ?_⟩
  rcases Nat.eq_zero_or_pos (takeN (k.cr + q) k.q).1 with e | e
  · exact absurd (by show k.q.take _ = []; rw [e]; rfl) h
  · exact e
/-- Marks wait, then something is due; behind what is admitted. -/
theorem tk4_due (h : ShI n s F) (hS : SnI s F) : ((tk4 s).f.marks ≠ [] → (tk4 s).f.due = true) ∧ ∀ (c : Nat) (k : Cli), s.ks[c]? = some (some k) → k.q ≠ [] → (tk4 s).f.due = true := by
  have hd := damL_s (s.l.flatMap slDmg) (flipF s.f).1
  have hfd : (flipF s.f).1.due = s.f.due := by
    unfold flipF
    cases s.f.frame with
    | none => rfl
    | some g => simp only; split <;> rfl
  have hfm : (flipF s.f).1.marks = s.f.marks := (flip_m s.f 0).2
  have h3d : s.f.due = true → (tk3 s).f.due = true := fun e => hd.due (by rw [hfd]; exact e)
  have key : ∀ (c : Nat) (k : Cli), s.ks[c]? = some (some k) → (admitC k s.c.quantum).1 ≠ [] → (tk4 s).f.due = true := fun c k hk hne =>
    scAdmI_due s.c.quantum s.ks ((tk3 s).l, (tk3 s).f) s.ks.length (.inr ⟨c, k, (List.getElem?_eq_some_iff.1 hk).1, hk, hne⟩)
  refine ⟨fun hne => ?_, fun c k hk hq => ?_⟩
  · obtain ⟨x, hx⟩ := List.exists_mem_of_ne_nil _ hne
    have hx2 : x.2 ∈ ofC x.1 (tk4 s).f.marks := List.mem_map.2 ⟨x, List.mem_filter.2 ⟨hx, by simp⟩, rfl⟩
    have e := (scAdmI_m s.c.quantum s.ks ((tk3 s).l, (tk3 s).f) s.ks.length).2 x.1
    have e2 : ofC x.1 (tk4 s).f.marks = _ := e
    rw [e2] at hx2
    rcases List.mem_append.1 hx2 with q | q
    · have hm3 : (tk3 s).f.marks = s.f.marks := hd.marks.trans hfm
      have : s.f.marks ≠ [] := fun e3 => by
        rw [show ((tk3 s).l, (tk3 s).f).2.marks = s.f.marks from hm3, e3] at q
        simp [ofC] at q
      exact scAdmI_due s.c.quantum s.ks ((tk3 s).l, (tk3 s).f) s.ks.length (.inl (h3d (hS.m1 this)))
    · split at q
      · unfold perC at q
        split at q
        · split at q
          · rename_i k hk
            exact key _ k hk (fun e3 => by simp [e3, askM] at q)
          · cases q
        · cases q
      · cases q
  · have hc := cfgB h.scr.cfg
    have := (admitC_cr hc (h.scr.cl c k hk)).2 hq
    exact key c k hk (fun e => by rw [e] at this; simp at this)
theorem tk5_cases (h : ShI n s F) (hn : n ≤ 1300000) : (∃ g, s.f.frame = some g ∧ g.left ≠ [] ∧ (tk5 s).f = (tk4 s).f ∧ (tk4 s).f.frame = some g) ∨
    (((s.f.frame = none) ∨ ∃ g, s.f.frame = some g ∧ g.left = []) ∧ (tk4 s).f.frame = none ∧ (tk4 s).f.due = true ∧ (tk5 s).f.marks = [] ∧ ∃ g', (tk5 s).f.frame = some g' ∧ g'.left.length ≤ s.f.W * s.f.H) ∨
    (((s.f.frame = none) ∨ ∃ g, s.f.frame = some g ∧ g.left = []) ∧ (tk4 s).f.frame = none ∧ (tk4 s).f.due = false ∧ (tk5 s).f = (tk4 s).f) := by
  have hd := damL_s (s.l.flatMap slDmg) (flipF s.f).1
  have a1 := (scAdmI_m s.c.quantum s.ks ((tk3 s).l, (tk3 s).f) s.ks.length).1
  have hf4 : (tk4 s).f.frame = (flipF s.f).1.frame := a1.trans hd.frame
  have h4 : 4 * 160 = 640 := rfl
  have hl4 := h.n4
  have hI := admI_all h.scr (by omega) s.ks.length (Nat.le_refl _)
  have hwh : (tk4 s).f.W = s.f.W ∧ (tk4 s).f.H = s.f.H := tk4_wh s
  have rest : (flipF s.f).1.frame = none → (((tk4 s).f.frame = none ∧ (tk4 s).f.due = true ∧ (tk5 s).f.marks = [] ∧ ∃ g', (tk5 s).f.frame = some g' ∧ g'.left.length ≤ s.f.W * s.f.H) ∨ ((tk4 s).f.frame = none ∧ (tk4 s).f.due = false ∧ (tk5 s).f = (tk4 s).f)) := fun hnone => by
    rw [hnone] at hf4
    cases hdu : (tk4 s).f.due with
    | false =>
      refine .inr ⟨hf4, rfl, ?_⟩
      show beginF (tk4 s).f _ _ = _
      unfold beginF
      rw [if_pos (.inr hdu)]
    | true =>
      refine .inl ⟨hf4, rfl, ?_⟩
      have hng : ¬ ((tk4 s).f.frame.isSome = true ∨ (tk4 s).f.due = false) := by
        rintro (e | e)
        · rw [hf4] at e; cases e
        · rw [hdu] at e; cases e
      have e5 : (tk5 s).f = beginF (tk4 s).f (s.t + 1) (picS (tk4 s).l s.c.behind) := rfl
      have hb : ∀ g', (tk5 s).f.frame = some g' → g'.left.length ≤ s.f.W * s.f.H := fun g' hg' => by
        have hf := (hI.st.fr.begin (s.t + 1) (picS (tk4 s).l s.c.behind)).fm g' hg'
        have e := beginF_wh (scAdmI s.c.quantum s.ks ((tk3 s).l, (tk3 s).f) s.ks.length).2 (s.t + 1) (picS (tk4 s).l s.c.behind)
        have h5 := hf.2.2.1
        rw [e.1, e.2] at h5
        have e2 : (scAdmI s.c.quantum s.ks ((tk3 s).l, (tk3 s).f) s.ks.length).2 = (tk4 s).f := rfl
        rw [e2, hwh.1, hwh.2] at h5
        exact h5
      refine ⟨?_, ?_⟩
      · rw [e5]; unfold beginF; rw [if_neg hng]
      · have : ∃ g', (tk5 s).f.frame = some g' := by rw [e5]; unfold beginF; rw [if_neg hng]; exact ⟨_, rfl⟩
        obtain ⟨g', hg'⟩ := this
        exact ⟨g', hg', hb g' hg'⟩
  cases hf : s.f.frame with
  | none =>
    have : (flipF s.f).1.frame = none := by unfold flipF; rw [hf]; exact hf
    rcases rest this with r | r
    · exact .inr (.inl ⟨.inl rfl, r⟩)
    · exact .inr (.inr ⟨.inl rfl, r⟩)
  | some g =>
    by_cases hg : g.left = []
    · have : (flipF s.f).1.frame = none := by unfold flipF; rw [hf]; simp only; rw [if_pos hg]
      rcases rest this with r | r
      · exact .inr (.inl ⟨.inr ⟨g, rfl, hg⟩, r⟩)
      · exact .inr (.inr ⟨.inr ⟨g, rfl, hg⟩, r⟩)
    · have e : (flipF s.f).1.frame = some g := by unfold flipF; rw [hf]; simp only; rw [if_neg hg]; exact hf
      refine .inl ⟨g, rfl, hg, ?_, hf4.trans e⟩
      show beginF (tk4 s).f _ _ = _
      unfold beginF
      rw [if_pos (.inl (by rw [hf4, e]; rfl))]
/-- The marks of the frame and those that wait, ahead of a tick and behind it. -/
theorem tick_m2 (s : Scrn) (b : Nat) (c : Int) : ofC c (frM s.f) ++ (ofC c s.f.marks ++ perC s.ks (fun k => askM (admitC k s.c.quantum).1.flatten) c) = ofC c (flipF s.f).2.2 ++ (ofC c (frM (tickS s b).f) ++ ofC c (tickS s b).f.marks) := by
  have h := tick_m s b (fun d hd => qAsk_out _ _ hd) c
  have hks : (tickS s b).ks = s.ks.map (admK s.c.quantum) := ksI_full s.c.quantum s.ks
  unfold allM at h
  rw [hks, qAsk_adm s.c.quantum s.ks c] at h
  have h2 : (ofC c (frM s.f) ++ (ofC c s.f.marks ++ perC s.ks (fun k => askM (admitC k s.c.quantum).1.flatten) c)) ++ qAsk (s.ks.map (admK s.c.quantum)) c = (ofC c (flipF s.f).2.2 ++ (ofC c (frM (tickS s b).f) ++ ofC c (tickS s b).f.marks)) ++ qAsk (s.ks.map (admK s.c.quantum)) c := by
    simp only [List.append_assoc] at h ⊢
    exact h
  exact List.append_cancel_right h2
theorem SnI.q0 (h : ShI n s F) (hS : SnI s F) (c : Int) : ∀ t ∈ (pendT c F.marks).drop ((ofC c (frM s.f)).length + (ofC c s.f.marks).length), F.paid - t + 1 + 2 * ((s.f.W * s.f.H : Nat) : Int) ≤ soonB s := by
  intro t ht
  by_cases hc : ∃ k, 0 ≤ c ∧ s.ks[c.toNat]? = some (some k) ∧ k.q ≠ []
  · obtain ⟨k, h0, hk, hq⟩ := hc
    have e : ((c.toNat : Nat) : Int) = c := by omega
    have := hS.qb c.toNat k hk 0 (List.length_pos_iff.2 hq) t (by rw [e]; simpa [cumN, askM] using ht)
    omega
  · have hz : qAsk s.ks c = [] := by
      unfold qAsk perC
      split
      · rename_i h0
        split
        · rename_i k hk
          rcases Classical.em (k.q = []) with e | e
          · simp only; rw [e]; rfl
          · exact absurd ⟨k, h0, hk, e⟩ hc
        · rfl
      · rfl
    have hl : (pendT c F.marks).length = (ofC c (frM s.f)).length + (ofC c s.f.marks).length := by
      rw [pendT_len, h.eq]
      unfold allM
      rw [hz]
      simp
    rw [List.drop_eq_nil_of_le (by omega)] at ht
    simp at ht
theorem soon_tick (h : ShI n s F) (hn : n ≤ 1300000) (hS : SnI s F) (b : Nat) (hb : b ≤ 1000) : SnI (tickS s b) (tickF s F b (firedM s F)) := by
  obtain ⟨ms, hm, hI'⟩ := tick_in h hn hb
  have em : firedM s F = ms := by unfold firedM; rw [hm.fire]; rfl
  rw [em]
  have hP : ∀ c, pendT c ms = (pendT c F.marks).drop (ofC c (flipF s.f).2.2).length := fireL_t _ _ _ hm.fire
  have hks : (tickS s b).ks = s.ks.map (admK s.c.quantum) := ksI_full s.c.quantum s.ks
  obtain ⟨p1, p2⟩ := paint_m (tk5 s).f b
  have pl := paint_left (tk5 s).f b
  have pdue : (paintF (tk5 s).f b).due = (tk5 s).f.due := by unfold paintF; split <;> rfl
  have pfr : (paintF (tk5 s).f b).frame = none → (tk5 s).f.frame = none := by
    unfold paintF
    cases hf : (tk5 s).f.frame with
    | none => exact fun _ => rfl
    | some g => intro e; simp [paintK] at e
  have hwh5 := tk5_wh s
  have hpw : (paintF (tk5 s).f b).W = (tk5 s).f.W ∧ (paintF (tk5 s).f b).H = (tk5 s).f.H := by
    unfold paintF
    split <;> exact ⟨rfl, rfl⟩
  have hW : (tickS s b).f.W = s.f.W := hpw.1.trans hwh5.1
  have hH : (tickS s b).f.H = s.f.H := hpw.2.trans hwh5.2
  have hB : soonB (tickS s b) = soonB s := by unfold soonB; rw [hW, hH]; rfl
  have hWH : 1 ≤ s.f.W * s.f.H := Nat.mul_pos h.scr.st.fr.W.1 h.scr.st.fr.H.1
  have hm2 := tick_m2 s b
  have hlen : ∀ c, (ofC c (frM s.f)).length + (ofC c s.f.marks).length + (perC s.ks (fun k => askM (admitC k s.c.quantum).1.flatten) c).length = (ofC c (flipF s.f).2.2).length + (ofC c (frM (tickS s b).f)).length + (ofC c (tickS s b).f.marks).length := fun c => by
    have := congrArg List.length (hm2 c)
    simp only [List.length_append] at this
    omega
  have hfr' : frM (tickS s b).f = frM (tk5 s).f := p1
  have hmk' : (tickS s b).f.marks = (tk5 s).f.marks := p2
  have hL' : leftN (tickS s b).f = leftN (tk5 s).f - min b (leftN (tk5 s).f) := pl
  have hpaid : (tickF s F b ms).paid = if b = 0 then F.paid else F.paid + 1 := rfl
  obtain ⟨d1, d2⟩ := tk4_due h hS
  have hq0 := SnI.q0 h hS
  obtain ⟨wh, hwh⟩ : ∃ wh, wh = s.f.W * s.f.H := ⟨_, rfl⟩
  have hmks : (tickF s F b ms).marks = ms := rfl
  refine ⟨?_, ?_, fun c t ht => ?_, fun c t ht => ?_, fun c k' hk' p hp t ht => ?_⟩
  · intro hne
    rw [hmk'] at hne
    show (paintF (tk5 s).f b).due = true
    rw [pdue]
    rcases tk5_cases h hn with ⟨g, -, -, e5, -⟩ | ⟨-, -, -, e5, -⟩ | ⟨-, -, e6, e5⟩
    · rw [e5] at hne ⊢; exact d1 hne
    · exact absurd e5 hne
    · rw [e5] at hne; have := d1 hne; rw [e6] at this; cases this
  · intro hf
    have hf5 := pfr hf
    rw [hmk']
    rcases tk5_cases h hn with ⟨g, -, -, e5, e4⟩ | ⟨-, -, -, e5, -⟩ | ⟨-, -, e6, e5⟩
    · rw [e5, e4] at hf5; cases hf5
    · exact e5
    · rw [e5]
      rcases Classical.em ((tk4 s).f.marks = []) with q | q
      · exact q
      · have := d1 q; rw [e6] at this; cases this
  · rw [hmks, hP c] at ht
    rw [hB, hpaid, hL']
    rcases tk5_cases h hn with ⟨g, hg, hgl, e5, e4⟩ | ⟨hg, e4, -, -, g', hg', hgb⟩ | ⟨hg, e4, e6, e5⟩
    · have hl5 : leftN (tk5 s).f = leftN s.f := by rw [e5]; unfold leftN; rw [e4, hg]
      have hl1 : 1 ≤ leftN s.f := by unfold leftN; rw [hg]; exact List.length_pos_iff.2 hgl
      have := hS.fb c t (List.mem_of_mem_drop ht)
      rw [hl5]
      split <;> omega
    · have hl5 : leftN (tk5 s).f ≤ s.f.W * s.f.H := by unfold leftN; rw [hg']; exact hgb
      rcases hg with hg | ⟨g, hg, hgl⟩
      · have hz := hS.m2 hg
        have hfz : frM s.f = [] := by unfold frM; rw [hg]
        have := hq0 c t (by rw [hfz, hz]; simpa [ofC] using List.mem_of_mem_drop ht)
        split <;> omega
      · have hfm : (flipF s.f).2.2 = frM s.f := by unfold flipF frM; rw [hg]; simp only; rw [if_pos hgl]
        rw [hfm] at ht
        have := hS.wb c t ht
        have hl0 : leftN s.f = 0 := by unfold leftN; rw [hg]; simp [hgl]
        rw [hl0] at this
        split <;> omega
    · exfalso
      have hq : ∀ (j : Nat) (k : Cli), s.ks[j]? = some (some k) → k.q = [] := fun j k hk => by
        rcases Classical.em (k.q = []) with e | e
        · exact e
        · have := d2 j k hk e; rw [e6] at this; cases this
      have hqz : qAsk s.ks c = [] := by
        unfold qAsk perC
        split
        · split
          · rename_i k hk; simp only; rw [hq _ k hk]; rfl
          · rfl
        · rfl
      have hmz : (tk5 s).f.marks = [] := by
        rw [e5]
        rcases Classical.em ((tk4 s).f.marks = []) with q | q
        · exact q
        · have := d1 q; rw [e6] at this; cases this
      have hfz : frM (tk5 s).f = [] := by rw [e5]; unfold frM; rw [e4]
      have hl := hlen c
      rw [hfr', hmk', hmz, hfz] at hl
      have hpl : (pendT c F.marks).length = (ofC c (frM s.f)).length + (ofC c s.f.marks).length := by
        rw [pendT_len, h.eq]; unfold allM; rw [hqz]; simp
      simp only [ofC_nil, List.length_nil] at hl
      rw [List.drop_eq_nil_of_le (by omega)] at ht
      simp at ht
  · rw [hmks, hP c, List.drop_drop] at ht
    rw [hB, hpaid, hL', hW, hH]
    have hl := hlen c
    rcases tk5_cases h hn with ⟨g, hg, hgl, e5, e4⟩ | ⟨hg, e4, -, e5, g', hg', hgb⟩ | ⟨hg, e4, e6, e5⟩
    · have hl5 : leftN (tk5 s).f = leftN s.f := by rw [e5]; unfold leftN; rw [e4, hg]
      have hl1 : 1 ≤ leftN s.f := by unfold leftN; rw [hg]; exact List.length_pos_iff.2 hgl
      have hfe : frM (tickS s b).f = frM s.f := by rw [hfr', e5]; unfold frM; rw [e4, hg]
      rw [hfe] at ht
      have := hS.wb c t (mem_drop_of_le (by omega) ht)
      rw [hl5]
      split <;> omega
    · have hl5 : leftN (tk5 s).f ≤ s.f.W * s.f.H := by unfold leftN; rw [hg']; exact hgb
      have hmz : (ofC c (tickS s b).f.marks).length = 0 := by rw [hmk', e5]; rfl
      have := hq0 c t (mem_drop_of_le (by omega) ht)
      split <;> omega
    · exfalso
      have hq : ∀ (j : Nat) (k : Cli), s.ks[j]? = some (some k) → k.q = [] := fun j k hk => by
        rcases Classical.em (k.q = []) with e | e
        · exact e
        · have := d2 j k hk e; rw [e6] at this; cases this
      have hqz : qAsk s.ks c = [] := by
        unfold qAsk perC
        split
        · split
          · rename_i k hk; simp only; rw [hq _ k hk]; rfl
          · rfl
        · rfl
      have hpl : (pendT c F.marks).length = (ofC c (frM s.f)).length + (ofC c s.f.marks).length := by
        rw [pendT_len, h.eq]; unfold allM; rw [hqz]; simp
      have hmz : (tk5 s).f.marks = [] := by
        rw [e5]
        rcases Classical.em ((tk4 s).f.marks = []) with q | q
        · exact q
        · have := d1 q; rw [e6] at this; cases this
      have hmz2 : (ofC c (tickS s b).f.marks).length = 0 := by rw [hmk', hmz]; rfl
      rw [List.drop_eq_nil_of_le (by omega)] at ht
      simp at ht
  · rw [hmks, hP, List.drop_drop] at ht
    rw [hB, hpaid, hW, hH]
    rw [hks, List.getElem?_map] at hk'
    cases hk : s.ks[c]? with
    | none => rw [hk] at hk'; cases hk'
    | some x =>
      rw [hk] at hk'
      cases x with
      | none => simp [admK] at hk'
      | some k =>
        simp only [admK, Option.map_some, Option.some.injEq] at hk'
        obtain ⟨m, hm1, hm3, hm4, hm5⟩ := adm_n (k := k) (q := s.c.quantum)
        rw [← hk', hm4] at hp ht
        rw [List.length_drop] at hp
        have hq : k.q ≠ [] := fun e => by rw [e] at hp; simp at hp
        have hge := (admitC_cr (cfgB h.scr.cfg) (h.scr.cl c k hk)).2 hq
        have hm1' : 1 ≤ m := hm5 (fun e => by rw [e] at hge; simp at hge)
        have hl := hlen (c : Int)
        have hper : (perC s.ks (fun k => askM (admitC k s.c.quantum).1.flatten) (c : Int)).length = cumN k.q m := by
          unfold perC
          rw [if_pos (by omega), Int.toNat_natCast, hk]
          simp only
          rw [hm3]; rfl
        have hca := cumN_add k.q m p
        have := hS.qb c k hk (m + p) (by omega) t (mem_drop_of_le (by omega) ht)
        split <;> omega
end
end Go.Proofs.Ytfnockbgkcgpkaa
set_option linter.all false
namespace Go.Proofs.Ytfnockbgkcgpkaa
open Go.RowKit Go.Proofs.Panes
set_option maxRecDepth 100000
section
variable {n : Nat} {s : Scrn} {F : ShF}
theorem soon_open {c : Cfg} (h : okCfg c = true) : SnI (openS c c.clients.toNat) (openF c c.clients.toNat) := by
  refine ⟨fun e => absurd rfl e, fun _ => rfl, fun c t ht => by simp [openF, pendT] at ht, fun c t ht => by simp [openF, pendT] at ht, fun c k hk p hp t ht => by simp [openF, pendT] at ht⟩
theorem pendT_asks (c : Int) (i : Nat) (t : Int) (l : List Opn) : pendT c (asksOf i t l) = if c = (i : Int) then List.replicate (askM l).length t else [] := by
  unfold asksOf askM pendT
  rw [List.filter_map, List.map_map]
  by_cases e : c = (i : Int)
  · rw [if_pos e, List.filter_eq_self.2 (fun x _ => by simp [Function.comp, e]), List.length_map]
    exact List.map_const'
  · rw [if_neg e, List.filter_eq_nil_iff.2 (fun x _ => by simp [Function.comp]; exact fun e' => e e'.symm)]
    rfl
theorem soon_sub (h : ShI n s F) (hS : SnI s F) {i : Nat} {raw : List Opn} (hc : subCo s i (fullO F raw) = 0) : SnI (subS s i (fullO F raw)) (subF F i raw (costOf (fullO F raw))) := by
  unfold subCo at hc
  split at hc
  case h_2 => omega
  rename_i cl hk
  have hi := (List.getElem?_eq_some_iff.1 hk).1
  have e : subS s i (fullO F raw) = { s with ks := s.ks.set i (some (subC cl (fullO F raw))) } := by unfold subS; rw [hk]; simp only; rw [if_pos hc]
  rw [e]
  have hql := (sub_parts hc).2.2.2
  have hB : soonB { s with ks := s.ks.set i (some (subC cl (fullO F raw))) } = soonB s := rfl
  have hfr := h.scr.st.fr.fm
  have hL : (leftN s.f : Int) ≤ ((s.f.W * s.f.H : Nat) : Int) := by
    unfold leftN
    cases hf : s.f.frame with
    | none => exact Int.natCast_nonneg _
    | some g => have := (hfr g hf).2.2.1; simp only at this ⊢; omega
  have hwh0 : (0 : Int) ≤ ((s.f.W * s.f.H : Nat) : Int) := by omega
  -- the new ones
  obtain ⟨nw, hnw⟩ : ∃ nw : Int → List Int, ∀ c, pendT c (subF F i raw (costOf (fullO F raw))).marks = pendT c F.marks ++ nw c ∧ (∀ t ∈ nw c, t = F.paid) ∧ (c ≠ (i : Int) → nw c = []) := by
    refine ⟨fun c => pendT c (asksOf i F.paid raw ++ [⟨(i : Int), (F.marks.length : Int), F.paid, false, false⟩]), fun c => ⟨?_, ?_, ?_⟩⟩
    · show pendT c (F.marks ++ asksOf i F.paid raw ++ [_]) = _
      rw [List.append_assoc, pendT_append]
    · intro t ht
      simp only at ht
      rw [pendT_append, pendT_asks] at ht
      rcases List.mem_append.1 ht with q | q
      · split at q
        · exact List.eq_of_mem_replicate q
        · cases q
      · rw [pendT_cons] at q
        split at q
        · simpa [pendT] using q
        · simp [pendT] at q
    · intro hci
      simp only
      rw [pendT_append, pendT_asks, if_neg hci, pendT_cons, if_neg (by rintro ⟨e1, -⟩; exact hci e1.symm)]
      rfl
  have hq8 : (cl.q.length : Int) + 1 ≤ s.c.queue := by omega
  have hmemF : ∀ c t, t ∈ pendT c (subF F i raw (costOf (fullO F raw))).marks → t ∈ pendT c F.marks ∨ t = F.paid := fun c t ht => by
    rw [(hnw c).1] at ht
    rcases List.mem_append.1 ht with q | q
    · exact .inl q
    · exact .inr ((hnw c).2.1 t q)
  refine ⟨hS.m1, hS.m2, fun c t ht => ?_, fun c t ht => ?_, fun c k' hk' p hp t ht => ?_⟩
  · show F.paid - t + (leftN s.f : Int) ≤ soonB s
    rcases hmemF c t ht with q | q
    · exact hS.fb c t q
    · rw [q]; unfold soonB; omega
  · show F.paid - t + (leftN s.f : Int) + ((s.f.W * s.f.H : Nat) : Int) ≤ soonB s
    have ht' : t ∈ (pendT c (subF F i raw (costOf (fullO F raw))).marks).drop (ofC c (frM s.f)).length := ht
    rw [(hnw c).1] at ht'
    rcases Nat.lt_or_ge (pendT c F.marks).length (ofC c (frM s.f)).length with q | q
    · rw [List.drop_append, List.drop_eq_nil_of_le (by omega), List.nil_append] at ht'
      rw [(hnw c).2.1 t (List.mem_of_mem_drop ht')]; unfold soonB; omega
    · rw [List.drop_append_of_le_length q] at ht'
      rcases List.mem_append.1 ht' with r | r
      · exact hS.wb c t r
      · rw [(hnw c).2.1 t r]; unfold soonB; omega
  · show F.paid - t + ((p : Int) + 1) + 2 * ((s.f.W * s.f.H : Nat) : Int) ≤ soonB s
    have ht' : t ∈ (pendT c (subF F i raw (costOf (fullO F raw))).marks).drop ((ofC c (frM s.f)).length + (ofC c s.f.marks).length + cumN k'.q p) := ht
    rw [(hnw c).1] at ht'
    by_cases e2 : c = i
    · subst e2
      have hk2 : (s.ks.set c (some (subC cl (fullO F raw))))[c]? = some (some k') := hk'
      rw [List.getElem?_set_self hi] at hk2
      simp only [Option.some.injEq] at hk2
      subst hk2
      have hpl : p ≤ cl.q.length := by simp [subC] at hp; omega
      have hcum : cumN (subC cl (fullO F raw)).q p = cumN cl.q p := by
        unfold cumN
        show (askM ((cl.q ++ [(fullO F raw).map stripO]).take p).flatten).length = _
        rw [List.take_append_of_le_length hpl]
      rw [hcum] at ht'
      have htot := pend_total h hk
      have hcl : cumN cl.q p ≤ cumN cl.q cl.q.length := by
        have := cumN_add cl.q p (cl.q.length - p)
        rw [show p + (cl.q.length - p) = cl.q.length from by omega] at this
        omega
      rw [List.drop_append_of_le_length (by omega)] at ht'
      rcases List.mem_append.1 ht' with r | r
      · rcases Nat.lt_or_ge p cl.q.length with z | z
        · exact hS.qb c cl hk p z t r
        · have : p = cl.q.length := by omega
          subst this
          rw [List.drop_eq_nil_of_le (by omega)] at r
          simp at r
      · rw [(hnw c).2.1 t r]; unfold soonB; omega
    · have hk2 : (s.ks.set i (some (subC cl (fullO F raw))))[c]? = some (some k') := hk'
      rw [List.getElem?_set_ne (Ne.symm e2)] at hk2
      rw [(hnw c).2.2 (by omega), List.append_nil] at ht'
      exact hS.qb c k' hk2 p hp t ht'
theorem pendT_gone (c : Int) (i : Nat) (l : List Ask) : pendT c (l.map (gone1 (i : Int))) = if c = (i : Int) then [] else pendT c l := by
  induction l with
  | nil => simp [pendT]
  | cons y l ih =>
    rw [List.map_cons, pendT_cons, ih, pendT_cons]
    unfold gone1
    by_cases e : c = (i : Int)
    · rw [if_pos e, if_pos e]
      by_cases h : y.cl = (i : Int)
      · rw [if_pos h]
        rw [if_neg (by rintro ⟨-, e1, e2⟩; simp only at e1 e2; rw [e1] at e2; simp at e2)]; rfl
      · rw [if_neg h, if_neg (by rintro ⟨e1, -⟩; exact h (e1.trans e))]; rfl
    · rw [if_neg e, if_neg e]
      by_cases h : y.cl = (i : Int)
      · rw [if_pos h, if_neg (by rintro ⟨e1, -⟩; exact e (e1.symm.trans h)), if_neg (by rintro ⟨e1, -⟩; exact e (e1.symm.trans h))]
      · rw [if_neg h]
theorem soon_leave (h : ShI n s F) (hS : SnI s F) {i : Nat} (hi : i < s.ks.length) : SnI (leftS s i) (leftF F i) := by
  have hmk : (leftF F i).marks = F.marks.map (gone1 (i : Int)) := rfl
  unfold leftS
  by_cases hc : conK s.ks (i : Int) = true
  · rw [if_pos hc]
    have hs := damL_s ((s.l.filter fun x => x.cl == (i : Int)).flatMap lvDmg) s.f
    have e1 : ∀ c, ofC c (frM (discS s i).f) = if c = (i : Int) then [] else ofC c (frM s.f) := fun c => by
      show ofC c (frM (forgetF _ _)) = _
      rw [frM_forget, ofC_not]
      have : frM (damL s.f ((s.l.filter fun x => x.cl == (i : Int)).flatMap lvDmg)) = frM s.f := by unfold frM; rw [hs.frame]
      rw [this]
    have e2 : ∀ c, ofC c (discS s i).f.marks = if c = (i : Int) then [] else ofC c s.f.marks := fun c => by
      show ofC c (notOf _ (damL s.f _).marks) = _
      rw [ofC_not, hs.marks]
    have hW : (discS s i).f.W = s.f.W := hs.W
    have hH : (discS s i).f.H = s.f.H := hs.H
    have hB : soonB (discS s i) = soonB s := by unfold soonB; rw [hW, hH]; rfl
    have hL : leftN (discS s i).f = leftN s.f := by
      show leftN (forgetF (damL s.f _) _) = _
      unfold leftN forgetF
      simp only
      rw [hs.frame]
      cases s.f.frame <;> rfl
    have hmm : (discS s i).f.marks ≠ [] → s.f.marks ≠ [] := fun e e3 => e (by
      show notOf _ (damL s.f _).marks = []
      rw [hs.marks, e3]; rfl)
    refine ⟨fun e => hs.due (hS.m1 (hmm e)), fun e => ?_, fun c t ht => ?_, fun c t ht => ?_, fun c k' hk' p hp t ht => ?_⟩
    · have hf : s.f.frame = none := by
        have : (forgetF (damL s.f ((s.l.filter fun x => x.cl == (i : Int)).flatMap lvDmg)) i).frame = none := e
        unfold forgetF at this
        simp only [Option.map_eq_none_iff] at this
        rw [← hs.frame]; exact this
      rcases Classical.em ((discS s i).f.marks = []) with q | q
      · exact q
      · exact absurd (hS.m2 hf) (hmm q)
    · rw [hmk, pendT_gone] at ht
      split at ht
      · cases ht
      · rw [hB, hL]; exact hS.fb c t ht
    · rw [hmk, pendT_gone, e1] at ht
      split at ht
      · simp at ht
      · rw [hB, hL, hW, hH]; exact hS.wb c t ht
    · rw [hmk, pendT_gone, e1, e2] at ht
      have hk2 : (s.ks.set i none)[c]? = some (some k') := hk'
      by_cases e : c = i
      · subst e
        rw [List.getElem?_set_self hi] at hk2
        simp at hk2
      · rw [List.getElem?_set_ne (Ne.symm e)] at hk2
        have e' : ¬ (c : Int) = (i : Int) := by omega
        rw [if_neg e', if_neg e', if_neg e'] at ht
        rw [hB, hW, hH]
        exact hS.qb c k' hk2 p hp t ht
  · rw [if_neg hc]
    refine ⟨hS.m1, hS.m2, fun c t ht => ?_, fun c t ht => ?_, fun c k' hk' p hp t ht => ?_⟩
    · rw [hmk, pendT_gone] at ht
      split at ht
      · cases ht
      · exact hS.fb c t ht
    · rw [hmk, pendT_gone] at ht
      split at ht
      · simp at ht
      · exact hS.wb c t ht
    · rw [hmk, pendT_gone] at ht
      split at ht
      · simp at ht
      · exact hS.qb c k' hk' p hp t ht
theorem soon_come (h : ShI n s F) (hS : SnI s F) : SnI (cameS s) (cameF s F) := by
  unfold cameS cameF
  cases hf : firstNone s.ks with
  | none => exact hS
  | some k =>
    obtain ⟨h1, h2, h3⟩ := firstNone_is _ _ hf
    simp only
    refine ⟨hS.m1, hS.m2, hS.fb, hS.wb, fun c k' hk' p hp t ht => ?_⟩
    by_cases e : c = k
    · subst e
      simp only at hk'
      rw [List.getElem?_set_self h1] at hk'
      simp only [Option.some.injEq] at hk'
      subst hk'
      simp [newC] at hp
    · simp only at hk'
      rw [List.getElem?_set_ne (Ne.symm e)] at hk'
      exact hS.qb c k' hk' p hp t ht
theorem soon_mv (h : ShI n s F) (hn : n ≤ 1300000) (hS : SnI s F) (ops : List (List Opn)) (m : Mv) : SnI (mv ops m (s, F)).1 (mv ops m (s, F)).2 := by
  have hn4 := h.n4
  have ha := kpk_bd m.a (s.ks.length : Int) (by omega)
  have hb := kpk_bd m.b 400 (by omega)
  unfold mv
  split
  · simp only
    unfold subAll
    split
    · rename_i h0; exact soon_sub h hS h0
    · exact hS
  · split
    · exact soon_tick h hn hS _ (by omega)
    · split
      · exact soon_come h hS
      · exact soon_leave h hS (by simp only; omega)
/-- Nothing that was asked for is too old. -/
theorem soon_young (h : ShI n s F) (hS : SnI s F) {y : Ask} (hy : y ∈ F.marks) (h1 : y.fired = false) (h2 : y.gone = false) : F.paid - y.at' ≤ soonB s := by
  have := hS.fb y.cl y.at' (List.mem_map.2 ⟨y, List.mem_filter.2 ⟨hy, by simp [h1, h2]⟩, rfl⟩)
  omega
end
end Go.Proofs.Ytfnockbgkcgpkaa
set_option linter.all false
namespace Go.Proofs.Ytfnockbgkcgpkaa
open Go.RowKit Go.Proofs.Panes
set_option maxRecDepth 100000
/-- When marks were asked for. -/
def AskI (F : ShF) : Prop := ∀ y ∈ F.marks, 0 ≤ y.at' ∧ y.at' ≤ F.paid
theorem fire1_at {P : Int → Prop} {ms ms' : List Ask} {m : Int × Int} (h : fire1 ms m = some ms') (hP : ∀ y ∈ ms, P y.at') : ∀ y ∈ ms', P y.at' := by
  obtain ⟨j, at', h1, h2, rfl⟩ := fire1_some ms m ms' h
  intro y hy
  rcases List.mem_or_eq_of_mem_set hy with q | q
  · exact hP y q
  · rw [q]; exact hP ⟨m.1, m.2, at', false, false⟩ (List.mem_of_getElem? h1)
theorem fireL_at {P : Int → Prop} : ∀ (fm : List (Int × Int)) (ms ms' : List Ask), fireL ms fm = some ms' → (∀ y ∈ ms, P y.at') → ∀ y ∈ ms', P y.at'
  | [], ms, ms', h, hP => by simp only [fireL, Option.some.injEq] at h; subst h; exact hP
  | m :: fm, ms, ms', h, hP => by
    simp only [fireL, Option.bind_eq_some_iff] at h
    obtain ⟨m1, h1, h2⟩ := h
    exact fireL_at fm m1 ms' h2 (fire1_at h1 hP)
section
variable {n : Nat} {s : Scrn} {F : ShF}
theorem at_tick (h : ShI n s F) (hn : n ≤ 1300000) (hA : AskI F) (b : Nat) (hb : b ≤ 1000) : AskI (tickF s F b (firedM s F)) ∧ F.paid ≤ (tickF s F b (firedM s F)).paid := by
  obtain ⟨ms, hm, hI'⟩ := tick_in h hn hb
  have em : firedM s F = ms := by unfold firedM; rw [hm.fire]; rfl
  rw [em]
  have hp : F.paid ≤ (tickF s F b ms).paid := by
    show F.paid ≤ if b = 0 then F.paid else F.paid + 1
    split <;> omega
  refine ⟨fun y hy => ?_, hp⟩
  have := fireL_at (P := fun t => 0 ≤ t ∧ t ≤ F.paid) _ _ _ hm.fire hA y hy
  omega
theorem at_mv (h : ShI n s F) (hn : n ≤ 1300000) (hA : AskI F) (ops : List (List Opn)) (m : Mv) : AskI (mv ops m (s, F)).2 ∧ F.paid ≤ (mv ops m (s, F)).2.paid := by
  have hb := kpk_bd m.b 400 (by omega)
  have hp := h.paid
  unfold mv
  split
  · simp only
    unfold subAll
    split
    · refine ⟨fun y hy => ?_, Int.le_refl _⟩
      have hy' : y ∈ F.marks ++ asksOf (kpk m.a (s.ks.length : Int)).toNat F.paid (rawOf ops m.b) ++ [_] := hy
      show 0 ≤ y.at' ∧ y.at' ≤ F.paid
      rcases List.mem_append.1 hy' with q | q
      · rcases List.mem_append.1 q with r | r
        · exact hA y r
        · unfold asksOf at r
          obtain ⟨x, -, rfl⟩ := List.mem_map.1 r
          simp only; omega
      · simp only [List.mem_singleton] at q
        rw [q]; simp only; omega
    · exact ⟨hA, Int.le_refl _⟩
  · split
    · exact at_tick h hn hA _ (by omega)
    · split
      · simp only
        unfold cameF
        split
        · exact ⟨hA, Int.le_refl _⟩
        · exact ⟨hA, Int.le_refl _⟩
      · refine ⟨fun y hy => ?_, Int.le_refl _⟩
        have hy' : y ∈ F.marks.map (gone1 _) := hy
        obtain ⟨x, hx, rfl⟩ := List.mem_map.1 hy'
        have := hA x hx
        show 0 ≤ (gone1 _ x).at' ∧ (gone1 _ x).at' ≤ F.paid
        unfold gone1
        split <;> exact this
end
/-- All that 'Soon' knows of a shop. -/
structure SoI (d : Cfg) (n : Nat) (s : Scrn) (F : ShF) : Prop where
  sh : ShI n s F
  sn : SnI s F
  at' : AskI F
  c : F.c = d
theorem SoI.mv {d : Cfg} {n : Nat} {s : Scrn} {F : ShF} (h : SoI d n s F) (hn : n ≤ 1300000) {ops : List (List Opn)} (hO : OpsB ops) (m : Mv) : SoI d (n + 1) (Go.Proofs.Ytfnockbgkcgpkaa.mv ops m (s, F)).1 (Go.Proofs.Ytfnockbgkcgpkaa.mv ops m (s, F)).2 ∧ F.paid ≤ (Go.Proofs.Ytfnockbgkcgpkaa.mv ops m (s, F)).2.paid := by
  obtain ⟨h1, h2⟩ := at_mv h.sh hn h.at' ops m
  exact ⟨⟨mv_in h.sh hn hO m, soon_mv h.sh hn h.sn ops m, h1, (mv_c' ops m (s, F)).trans h.c⟩, h2⟩
theorem SoI.tick {d : Cfg} {n : Nat} {s : Scrn} {F : ShF} (h : SoI d n s F) (hn : n ≤ 1300000) (b : Nat) (hb : b ≤ 1000) (hb1 : 1 ≤ b) : SoI d (n + 1) (tickA b (s, F)).1 (tickA b (s, F)).2 ∧ (tickA b (s, F)).2.paid = F.paid + 1 := by
  obtain ⟨ms, hm, hI'⟩ := tick_in h.sh hn hb
  have em : firedM s F = ms := by unfold firedM; rw [hm.fire]; rfl
  refine ⟨⟨?_, soon_tick h.sh hn h.sn b hb, (at_tick h.sh hn h.at' b hb).1, h.c⟩, ?_⟩
  · show ShI (n + 1) (tickS s b) (tickF s F b (firedM s F))
    rw [em]; exact hI'
  · show (if b = 0 then F.paid else F.paid + 1) = _
    rw [if_neg (by omega)]
theorem SoI.mono {d : Cfg} {n n' : Nat} {s : Scrn} {F : ShF} (h : SoI d n s F) (hn : n ≤ n') : SoI d n' s F := ⟨h.sh.mono hn, h.sn, h.at', h.c⟩
theorem plK_so {c : Cfg} (hc : okCfg c = true) {ops : List (List Opn)} (hO : OpsB ops) (ms : List Mv) : ∀ k, k ≤ ms.length → k ≤ 1300000 → SoI c k (plK c ops ms k).1 (plK c ops ms k).2
  | 0, _, _ => ⟨open_in hc, soon_open hc, fun y hy => by simp [plK, openF] at hy, rfl⟩
  | k + 1, hk, hn => by
    obtain ⟨m, hm⟩ : ∃ m, ms[k]? = some m := ⟨ms[k], by simp⟩
    rw [plK_succ hm]
    exact ((plK_so hc hO ms k (by omega) (by omega)).mv (by omega) hO m).1
/-- No mark is too old. -/
theorem SoI.young {d : Cfg} {n : Nat} {s : Scrn} {F : ShF} (h : SoI d n s F) {y : Ask} (hy : y ∈ F.marks) (h1 : y.fired = false) (h2 : y.gone = false) : F.paid - y.at' ≤ d.queue + 2 * ((d.w.toNat * d.h.toNat : Nat) : Int) := by
  have := soon_young h.sh h.sn hy h1 h2
  unfold soonB at this
  rw [h.sh.scr.W, h.sh.scr.H, ← h.sh.c, h.c] at this
  exact this
end Go.Proofs.Ytfnockbgkcgpkaa
set_option linter.all false
namespace Go.Proofs.Ytfnockbgkcgpkaa
open Go.RowKit Go.Proofs.Panes
set_option maxRecDepth 100000
section
variable {w wr : World} {sp : Nat} {s : Scrn} {F : ShF}
theorem ShN.more (h : ShN w wr sp s F) : wr.cell? ⟨sp, 4, none⟩ = some (.int .i64 F.c.queue) ∧ wr.cell? ⟨sp, 13, none⟩ = some (.int .i64 F.paid) := by
  obtain ⟨a, o, xp, kb, sb, fb, cps, L, h1, h2, h3, h4⟩ := h.shop
  exact ⟨blk_cell h1.blk 4, blk_cell h1.blk 13⟩
theorem ShN.marks (h : ShN w wr sp s F) : ∃ ao cap, wr.cell? ⟨sp, 12, none⟩ = some (.slice ao F.marks.length cap) ∧ ∀ (j : Nat) (y : Ask), F.marks[j]? = some y → ∃ g, ao = some ⟨g, 0, none⟩ ∧ wr.cell? ⟨g, j * 5, none⟩ = some (.int .i64 y.cl) ∧ wr.cell? ⟨g, j * 5 + 1, none⟩ = some (.int .i64 y.mark) ∧ wr.cell? ⟨g, j * 5 + 2, none⟩ = some (.int .i64 y.at') ∧ wr.cell? ⟨g, j * 5 + 3, none⟩ = some (.bool y.fired) ∧ wr.cell? ⟨g, j * 5 + 4, none⟩ = some (.bool y.gone) := by
  obtain ⟨a, o, xp, kb, sb, fb, cps, L, h1, h2, h3, h4⟩ := h.shop
  obtain ⟨ao, cap, hg⟩ := row_slice h1.marks
  refine ⟨ao, cap, by rw [← hg]; exact blk_cell h1.blk 12, fun j y hj => ?_⟩
  obtain ⟨g, cap', hg'⟩ := h1.mslice (fun e => by rw [e] at hj; simp at hj)
  have e := hg.symm.trans hg'
  simp only [Value.slice.injEq] at e
  exact ⟨g, e.1, h1.mcell hg' hj 0 (by omega), h1.mcell hg' hj 1 (by omega), h1.mcell hg' hj 2 (by omega), h1.mcell hg' hj 3 (by omega), h1.mcell hg' hj 4 (by omega)⟩
theorem ShN.moves {n : Nat} {ops : List (List Opn)} {m : Mv} {ov : Value} {w2 : World} (h : ShN w wr sp s F) (hb : Below wr.heap.size wr w2) (hI : ShI n s F) (hn : n ≤ 1300000) (hm : FitM m) (hR : RdOO (fun k => k < w.heap.size) w ov ops) (hO : OpsB ops) :
    Calls Try.prog 26 #[.pointer (some ⟨sp, 0, none⟩), .agg #[.int .i64 m.kind, .int .i64 m.a, .int .i64 m.b], ov] w2 fun e w' => (∃ u, e = .returned u) ∧ ShN w w' sp (mv ops m (s, F)).1 (mv ops m (s, F)).2 := by
  have h2 := h.below hb
  refine (moves_any h2.shop hI hn hm (hR.below h2.bel) (fun y hy => ⟨Nat.lt_of_lt_of_le hy h2.bel.size, by omega⟩) hO).mono ?_
  rintro e w' ⟨g1, g2⟩
  exact ⟨g1, h2.to g2⟩
end
/-- The ticks with a budget that a shop has counted. -/
def paidAt (sp : Nat) (w : World) : Nat := match w.cell? ⟨sp, 13, none⟩ with
  | some v => (intOf v).toNat
  | none => 0
theorem paidAt_is {sp : Nat} {w : World} {x : Int} (h : w.cell? ⟨sp, 13, none⟩ = some (.int .i64 x)) : paidAt sp w = x.toNat := by
  unfold paidAt; rw [h]; rfl
set_option maxHeartbeats 2000000 in
theorem soon_any (c : Cfg) (hc : FitC c) (ops : List (List Opn)) (hO : OpsB ops) (ms mr : List Mv) (hms : ms.length + mr.length ≤ 400000) (hfit : ∀ m ∈ ms, FitM m) (hfit2 : ∀ m ∈ mr, FitM m) (w : World) (ov mvv mrv : Value) (hR : RdOO (fun k => k < w.heap.size) w ov ops) (hM : RdMv w mvv ms) (hM2 : RdMv w mrv mr) :
    Calls Try.prog 7 #[cval c, ov, mvv, mrv] w fun e w' => e = .returned (.bool true) ∧ Below w.heap.size w w' := by
  obtain ⟨W1, hW1⟩ : ∃ W1, W1 = w.alloc (.cells #[.int .i64 c.w, .int .i64 c.h, .int .i64 c.clients, .int .i64 c.queue, .int .i64 c.most, .int .i64 c.quantum, .int .i64 c.surfaces, .int .i64 c.behind] 40) := ⟨_, rfl⟩
  have hb01 : Below w.heap.size w W1 := by rw [hW1]; exact (Below.refl _ w).alloc (Nat.le_refl _) _
  have hR1 : RdOO (fun k => k < W1.heap.size) W1 ov ops := (hR.below hb01).wide (fun x hx => Nat.lt_of_lt_of_le hx hb01.size)
  have hM1 := hM.below hb01
  obtain ⟨d, hd⟩ : ∃ d, d = confC c := ⟨_, rfl⟩
  have hok := confC_ok c
  have hpl := played_any c hc ops hO ms (by omega) hfit W1 ov mvv hR1 hM1
  rw [← hd] at hok hpl
  have hso := plK_so hok hO ms ms.length (Nat.le_refl _) (by omega)
  obtain ⟨ao0, cap0, rfl, -, -, -⟩ := id hM1
  obtain ⟨ar, capr, rfl, -, -, hcl⟩ := hM2.below hb01
  obtain ⟨n, hn⟩ : ∃ n, n = ms.length := ⟨_, rfl⟩
  obtain ⟨nr, hnr⟩ : ∃ nr, nr = mr.length := ⟨_, rfl⟩
  obtain ⟨s0, hs0⟩ : ∃ s0, s0 = (plK d ops ms ms.length).1 := ⟨_, rfl⟩
  obtain ⟨F0, hF0⟩ : ∃ F0, F0 = (plK d ops ms ms.length).2 := ⟨_, rfl⟩
  rw [← hs0, ← hF0] at hso
  have hcfg := cfgB hok
  obtain ⟨dw, hdw⟩ : ∃ dw : Nat, d.w = (dw : Int) := ⟨d.w.toNat, by have := hcfg.w; omega⟩
  obtain ⟨dh, hdh⟩ : ∃ dh : Nat, d.h = (dh : Int) := ⟨d.h.toNat, by have := hcfg.h; omega⟩
  obtain ⟨dq, hdq⟩ : ∃ dq : Nat, d.queue = (dq : Int) := ⟨d.queue.toNat, by have := hcfg.queue; omega⟩
  have hw16 : dw ≤ 16 := by have := hcfg.w; omega
  have hh16 : dh ≤ 16 := by have := hcfg.h; omega
  have hq8 : dq ≤ 8 := by have := hcfg.queue; omega
  obtain ⟨wh, hwh⟩ : ∃ wh, wh = dw * dh := ⟨_, rfl⟩
  have hwh9 : wh ≤ 256 := by rw [hwh]; exact Nat.mul_le_mul hw16 hh16
  obtain ⟨Bn, hBn⟩ : ∃ Bn, Bn = dq + 2 * wh + 3 := ⟨_, rfl⟩
  have hB9 : Bn ≤ 600 := by omega
  obtain ⟨T, hT⟩ : ∃ T, T = Bn + n + nr + 5 := ⟨_, rfl⟩
  have hT9 : n + 2 * T + 10 ≤ 1300000 := by omega
  have HYG : Hid (∀ (k : Nat) (s : Scrn) (F : ShF) (y : Ask), SoI d k s F → y ∈ F.marks → y.fired = false → y.gone = false → F.paid - y.at' < (Bn : Int)) := fun k s F y h hy h1 h2 => by
    have := h.young hy h1 h2
    rw [hdq, hdw, hdh, Int.toNat_natCast, Int.toNat_natCast, ← hwh] at this
    omega
  have HP : Hid (Calls Try.prog 23 #[.agg #[.int .i64 c.w, .int .i64 c.h, .int .i64 c.clients, .int .i64 c.queue, .int .i64 c.most, .int .i64 c.quantum, .int .i64 c.surfaces, .int .i64 c.behind], ov, .slice ao0 n cap0] W1 fun e w' => ∃ sp, e = .returned (.pointer (some ⟨sp, 0, none⟩)) ∧ ShN W1 w' sp s0 F0) := by
    rw [hs0, hF0, hn]; exact hpl
  have HSO := hide hso
  have HMV : Hid (∀ (k : Nat) (m : Mv) (sp : Nat) (wr w2 : World) (s : Scrn) (F : ShF), FitM m → ShN W1 wr sp s F → Below wr.heap.size wr w2 → SoI d k s F → k ≤ 1300000 → Calls Try.prog 26 #[.pointer (some ⟨sp, 0, none⟩), .agg #[.int .i64 m.kind, .int .i64 m.a, .int .i64 m.b], ov] w2 fun e w' => (∃ u, e = .returned u) ∧ ShN W1 w' sp (mv ops m (s, F)).1 (mv ops m (s, F)).2) := fun k m sp wr w2 s F hm h hb hi hk => h.moves hb hi.sh hk hm hR1 hO
  have HMS : Hid (∀ (k : Nat) (m : Mv) (s : Scrn) (F : ShF), SoI d k s F → k ≤ 1300000 → SoI d (k + 1) (mv ops m (s, F)).1 (mv ops m (s, F)).2 ∧ F.paid ≤ (mv ops m (s, F)).2.paid) := fun k m s F h hk => h.mv hk hO m
  have HFT : Hid (∀ m ∈ mr, FitM m) := hfit2
  have HCL : Hid (∀ (k : Nat) (m : Mv) (wr : World), mr[k]? = some m → Below W1.heap.size W1 wr → ∃ b off, ar = some ⟨b, off, none⟩ ∧ wr.cell? ⟨b, off + k * 3, none⟩ = some (.int .i64 m.kind) ∧ wr.cell? ⟨b, off + k * 3 + 1, none⟩ = some (.int .i64 m.a) ∧ wr.cell? ⟨b, off + k * 3 + 2, none⟩ = some (.int .i64 m.b)) := fun k m wr hm hb => by
    obtain ⟨b, off, e, hlt, hc⟩ := hcl (fun e => by rw [e] at hm; simp at hm)
    obtain ⟨c0, c1, c2⟩ := hc k m hm
    exact ⟨b, off, e, (hb.cell hlt).trans c0, (hb.cell hlt).trans (by rw [Nat.add_assoc]; exact c1), (hb.cell hlt).trans (by rw [Nat.add_assoc]; exact c2)⟩
  rw [← hn, ← hnr]
  have e1 : IntKind.i64.wrap (2 * (dw : Int)) = 2 * (dw : Int) := by rw [IntKind.wrap_i64]; omega
  have e2 : IntKind.i64.wrap (2 * (dw : Int) * (dh : Int)) = 2 * (wh : Int) := by
    rw [show 2 * (dw : Int) * (dh : Int) = 2 * (wh : Int) from by rw [hwh, Int.natCast_mul, Int.mul_assoc], IntKind.wrap_i64]; omega
  have e3 : IntKind.i64.wrap ((dq : Int) + 2 * (wh : Int)) = (dq : Int) + 2 * (wh : Int) := by rw [IntKind.wrap_i64]; omega
  have e4 : IntKind.i64.wrap ((dq : Int) + 2 * (wh : Int) + 3) = (Bn : Int) := by rw [IntKind.wrap_i64]; omega
  obtain ⟨T1, hT1⟩ : ∃ T1, T1 = Bn + n := ⟨_, rfl⟩
  obtain ⟨T2, hT2⟩ : ∃ T2, T2 = Bn + n + nr := ⟨_, rfl⟩
  have f1 : IntKind.i64.wrap ((Bn : Int) + (n : Int)) = (T1 : Int) := by rw [IntKind.wrap_i64]; omega
  have f2 : IntKind.i64.wrap ((T1 : Int) + (nr : Int)) = (T2 : Int) := by rw [IntKind.wrap_i64]; omega
  have f3 : IntKind.i64.wrap ((T2 : Int) + 5) = (T : Int) := by rw [IntKind.wrap_i64]; omega
  have HN := hide hn
  have HNR := hide hnr
  have HB01 := hide hb01
  have HW1 := hide hW1
  have HD := hide (And.intro hdw (And.intro hdh hdq))
  have hnr9 : nr ≤ 400000 := by omega
  clear hc hO hms hfit hfit2 hR hR1 hM hM1 hM2 hcl hd hok hn hnr hb01 hW1 hpl hso hs0 hF0 hcfg hdw hdh hdq hwh hBn hT hT1 hT2
  unfold cval
  go_enter Try.func7, Try.ntmps7
  go_wp2_with (rw [← unhide HW1]; go_at_call 23; refine (unhide HP).mono ?_; rintro e w2 ⟨sp, rfl, hN0⟩
               obtain ⟨x1, x2, -, -, lsp⟩ := hN0.cells
               obtain ⟨x4, x13⟩ := hN0.more
               rw [(unhide HSO).c, (unhide HD).1] at x1
               rw [(unhide HSO).c, (unhide HD).2.1] at x2
               rw [(unhide HSO).c, (unhide HD).2.2] at x4
               have HN0 := hide hN0
               clear hN0 HP x13)
  go_quiet (fail)
  go_wp2
  clear x1 x2 x4 lsp e1 e2 e3 e4
  have HN1 : Hid (ShN W1 (w2.drewN nq) sp s0 F0) := (unhide HN0).below (below_drewN (Below.refl _ _) nq)
  generalize w2.drewN nq = W3 at HN1 ⊢
  clear HN0
  go_loopw [11] (fun x wr => ∃ (i k : Nat) (s : Scrn) (F : ShF), x = .int .i64 i ∧ ShN W1 wr sp s F ∧ SoI d k s F ∧ k ≤ n + 2 * i ∧ (i : Int) ≤ F.paid) (fun x wr => T + 1 - paidAt sp wr)
  case atStart => exact ⟨0, ms.length, s0, F0, rfl, unhide HN1, unhide HSO, by have := unhide HN; omega, by have := (unhide HSO).sh.paid; omega⟩
  case round =>
    clear HN1 HSO
    obtain ⟨i, k, s, F, rfl, hS, hI, hk, hip⟩ := hrel
    obtain ⟨P, hP⟩ : ∃ P : Nat, F.paid = (P : Int) := ⟨F.paid.toNat, by have := hI.sh.paid; omega⟩
    have x13 := hS.more.2
    have HPA := hide (paidAt_is x13)
    rw [hP] at x13 hip HPA
    have HS := hide hS
    have HI := hide hI
    have HPE := hide hP
    clear hS hI hP
    by_cases hlt : P < T
    · have p1 : (P : Int) < (T : Int) := by omega
      have hiT : i < T := by omega
      have hzb := kpk_bd (i : Int) 2 (by omega)
      obtain ⟨zi, hzi⟩ : ∃ zi : Nat, zi = (kpk (i : Int) 2).toNat := ⟨_, rfl⟩
      have pki : Pk (i : Int) 2 (zi : Int) := ⟨by omega, ⟨by omega, by omega⟩, by omega⟩
      obtain ⟨b, hb⟩ : ∃ b, b = 1 + zi := ⟨_, rfl⟩
      have eb : IntKind.i64.wrap (1 + (zi : Int)) = (b : Int) := by rw [IntKind.wrap_i64]; omega
      have hb3 : 1 ≤ b ∧ b ≤ 2 := by omega
      clear hzb hzi hb
      by_cases hir : i < nr
      · obtain ⟨m, hm⟩ : ∃ m, mr[i]? = some m := ⟨mr[i]'(by have := unhide HNR; omega), by simp⟩
        obtain ⟨bq, off, rfl, c0, c1, c2⟩ := (unhide HCL) i m wr hm (unhide HS).bel
        have hfm := (unhide HFT) m (List.mem_of_getElem? hm)
        have i0 : (0 : Int) ≤ (i : Int) := by omega
        have i1 : (i : Int) < (nr : Int) := by omega
        have hkb := kpk_bd m.kind 2 (by omega)
        obtain ⟨z, hz⟩ : ∃ z, z = kpk m.kind 2 := ⟨_, rfl⟩
        have pkm : Pk m.kind 2 z := ⟨hz.symm, hfm.1, by omega⟩
        have hbz : Below wr.heap.size wr (wr.alloc (.cells #[.int .i64 z, .int .i64 m.a, .int .i64 m.b] 61)) := (Below.refl _ wr).alloc (Nat.le_refl _) _
        have HC := hide ((unhide HMV) k ⟨z, m.a, m.b⟩ sp wr _ s F ⟨show FitI z from ⟨by omega, by omega⟩, hfm.2.1, hfm.2.2⟩ (unhide HS) hbz (unhide HI) (by omega))
        obtain ⟨s1, hs1⟩ : ∃ s1, s1 = (mv ops ⟨z, m.a, m.b⟩ (s, F)).1 := ⟨_, rfl⟩
        obtain ⟨F1, hF1⟩ : ∃ F1, F1 = (mv ops ⟨z, m.a, m.b⟩ (s, F)).2 := ⟨_, rfl⟩
        obtain ⟨hI1, hp1⟩ := (unhide HMS) k ⟨z, m.a, m.b⟩ s F (unhide HI) (by omega)
        rw [← hs1, ← hF1] at HC hI1
        rw [← hF1] at hp1
        obtain ⟨mk, hmk⟩ : ∃ mk, mk = m.kind := ⟨_, rfl⟩
        obtain ⟨ma, hma⟩ : ∃ ma, ma = m.a := ⟨_, rfl⟩
        obtain ⟨mb, hmb⟩ : ∃ mb, mb = m.b := ⟨_, rfl⟩
        rw [← hmk] at c0 pkm
        rw [← hma] at c1 HC
        rw [← hmb] at c2 HC
        have HI1 := hide hI1
        have HP1 : Hid ((P : Int) ≤ F1.paid) := by rw [← unhide HPE]; exact hp1
        clear hm hfm hkb hz hbz hs1 hF1 hI1 hp1 hmk hma hmb
        have HI2 : Hid (SoI d (k + 1 + 1) (tickA b (s1, F1)).1 (tickA b (s1, F1)).2 ∧ (tickA b (s1, F1)).2.paid = F1.paid + 1) := (unhide HI1).tick (by omega) b (by omega) (by omega)
        have HTK : Hid (∀ V, ShN W1 V sp s1 F1 → Calls Try.prog 27 #[.pointer (some ⟨sp, 0, none⟩), .int .i64 (b : Int)] V (fun e w' => (∃ u, e = .returned u) ∧ ShN W1 w' sp (tickA b (s1, F1)).1 (tickA b (s1, F1)).2)) := fun V hV => by
          refine ((hV.tick (unhide HI1).sh (by omega) b (by omega)).1).mono ?_
          rintro e w' ⟨g1, g2, -⟩
          exact ⟨g1, g2⟩
        obtain ⟨s2, hs2⟩ : ∃ s2, s2 = (tickA b (s1, F1)).1 := ⟨_, rfl⟩
        obtain ⟨F2, hF2⟩ : ∃ F2, F2 = (tickA b (s1, F1)).2 := ⟨_, rfl⟩
        rw [← hs2, ← hF2] at HI2 HTK
        clear hs2 hF2
        go_wp2_with (first
          | (go_at_call 20; refine Calls.mono (pk_any _ _ _ _ (by first | exact pkm | exact pki)) ?_; rintro e w4 ⟨rfl, rfl⟩)
          | (go_at_call 26; refine (unhide HC).mono ?_; rintro e w4 ⟨⟨u4, rfl⟩, hN4⟩
             have HS4 := hide hN4
             clear hN4 HC)
          | (go_at_call 27; refine ((unhide HTK) _ (unhide HS4)).mono ?_; rintro e w5 ⟨⟨u5, rfl⟩, hN5⟩
             obtain ⟨-, -, z5, -, -⟩ := hN5.cells
             have HS5 := hide hN5
             clear hN5 HTK))
        clear c0 c1 c2 pkm pki z5 HS4
        obtain ⟨mn, hmn⟩ : ∃ mn, mn = F2.marks.length := ⟨_, rfl⟩
        have hmn9 : mn ≤ 100000000 := by have := (unhide HI2).1.sh.ml; omega
        have HMN := hide hmn
        obtain ⟨Q, hQ⟩ : ∃ Q : Nat, F2.paid = (Q : Int) := ⟨F2.paid.toNat, by have := (unhide HI2).1.sh.paid; omega⟩
        have hQ9 : Q ≤ 1300000 := by have := (unhide HI2).1.sh.paid; omega
        have HQ := hide hQ
        clear hmn hQ x13 HS
        go_loopw [13] (fun x wr => ∃ j : Nat, j ≤ mn ∧ x = .int .i64 j ∧ ShN W1 wr sp s2 F2) (fun x _ => mn - (intOf x).toNat)
        case atStart => exact ⟨0, Nat.zero_le _, rfl, unhide HS5⟩
        case round =>
          clear HS5
          obtain ⟨j, hj, rfl, hS⟩ := hrel
          obtain ⟨mo, mc, x12, hmk⟩ := hS.marks
          rw [← unhide HMN] at x12
          have y13 := hS.more.2
          rw [unhide HQ] at y13
          by_cases hjn : j < mn
          · obtain ⟨y, hy⟩ : ∃ y, F2.marks[j]? = some y := ⟨F2.marks[j]'(by have := unhide HMN; omega), by simp⟩
            obtain ⟨g, rfl, d0, d1, d2, d3, d4⟩ := hmk j y hy
            have hat := (unhide HI2).1.at' y (List.mem_of_getElem? hy)
            rw [unhide HQ] at hat
            have hyg := (unhide HYG) _ s2 F2 y (unhide HI2).1 (List.mem_of_getElem? hy)
            rw [unhide HQ] at hyg
            obtain ⟨lsp⟩ : Nonempty (sp < wr.heap.size) := ⟨(hS.cells).2.2.2.2⟩
            have j0 : (0 : Int) ≤ (j : Int) := by omega
            have j1 : (j : Int) < (mn : Int) := by omega
            have HS := hide hS
            obtain ⟨ycl, ymk, yat, yfi, ygo⟩ := y
            simp only at d0 d1 d2 d3 d4 hat hyg
            have ew : IntKind.i64.wrap ((Q : Int) - yat) = (Q : Int) - yat := by rw [IntKind.wrap_i64]; omega
            have hbx : Below wr.heap.size wr (wr.alloc (.cells #[.int .i64 ycl, .int .i64 ymk, .int .i64 yat, .bool yfi, .bool ygo] 65)) := (Below.refl _ wr).alloc (Nat.le_refl _) _
            have t13 : (wr.alloc (.cells #[.int .i64 ycl, .int .i64 ymk, .int .i64 yat, .bool yfi, .bool ygo] 65)).cell? ⟨sp, 13, none⟩ = some (.int .i64 (Q : Int)) := (hbx.cell lsp).trans y13
            have HN6 : Hid (ShN W1 (wr.alloc (.cells #[.int .i64 ycl, .int .i64 ymk, .int .i64 yat, .bool yfi, .bool ygo] 65)) sp s2 F2) := (unhide HS).below hbx
            clear hS hy hmk hat hbx HS y13
            cases yfi with
            | true =>
              go_wp2
              go_quiet (fail)
              go_wp2
              go_roundw
              case rel => exact ⟨j + 1, by omega, by go_num, by first | exact (unhide HN6).below (below_drewN (Below.refl _ _) _) | exact (unhide HN6).below ((Below.refl _ _).drew)⟩
              case measure => simp [intOf]; omega
            | false =>
              cases ygo with
              | true =>
                go_wp2
                go_quiet (fail)
                go_wp2
                go_roundw
                case rel => exact ⟨j + 1, by omega, by go_num, by first | exact (unhide HN6).below (below_drewN (Below.refl _ _) _) | exact (unhide HN6).below ((Below.refl _ _).drew)⟩
                case measure => simp [intOf]; omega
              | false =>
                have hlt2 := hyg rfl rfl
                have dd : decide ((Bn : Int) ≤ (Q : Int) - yat) = false := by simp; omega
                clear hyg
                go_wp2
                go_quiet (fail)
                go_wp2
                go_roundw
                case rel => exact ⟨j + 1, by omega, by go_num, by first | exact (unhide HN6).below (below_drewN (Below.refl _ _) _) | exact (unhide HN6).below ((Below.refl _ _).drew)⟩
                case measure => simp [intOf]; omega
          · have ej : j = mn := by omega
            subst ej
            have j1 : ¬ (j : Int) < (j : Int) := by omega
            have HS6 := hide hS
            have HPB := hide (paidAt_is hS.more.2)
            clear hS hmk y13
            have HLE : Hid (P + 1 ≤ Q ∧ (i : Int) + 1 ≤ F2.paid) := by
              have h1 := unhide HP1
              have h2 := (unhide HI2).2
              have h3 := unhide HQ
              exact ⟨by omega, by omega⟩
            go_wp2
            go_roundw
            case rel => exact ⟨i + 1, k + 1 + 1, s2, F2, by go_num, unhide HS6, (unhide HI2).1, by omega, by have := (unhide HLE).2; omega⟩
            case measure =>
              have h1 := unhide HPA
              have h2 := unhide HPB
              have h3 := (unhide HLE).1
              rw [unhide HQ] at h2
              simp only [Int.toNat_natCast] at h1 h2
              rw [h1, h2]
              omega
      · have i1 : ¬ (i : Int) < (nr : Int) := by omega
        have HP1 : Hid ((P : Int) ≤ F.paid) := by show (P : Int) ≤ F.paid; rw [unhide HPE]; exact Int.le_refl _
        have HI2 : Hid (SoI d (k + 1) (tickA b (s, F)).1 (tickA b (s, F)).2 ∧ (tickA b (s, F)).2.paid = F.paid + 1) := (unhide HI).tick (by omega) b (by omega) (by omega)
        have HTK : Hid (∀ V, ShN W1 V sp s F → Calls Try.prog 27 #[.pointer (some ⟨sp, 0, none⟩), .int .i64 (b : Int)] V (fun e w' => (∃ u, e = .returned u) ∧ ShN W1 w' sp (tickA b (s, F)).1 (tickA b (s, F)).2)) := fun V hV => by
          refine ((hV.tick (unhide HI).sh (by omega) b (by omega)).1).mono ?_
          rintro e w' ⟨g1, g2, -⟩
          exact ⟨g1, g2⟩
        obtain ⟨s2, hs2⟩ : ∃ s2, s2 = (tickA b (s, F)).1 := ⟨_, rfl⟩
        obtain ⟨F2, hF2⟩ : ∃ F2, F2 = (tickA b (s, F)).2 := ⟨_, rfl⟩
        rw [← hs2, ← hF2] at HI2 HTK
        clear hs2 hF2
        go_wp2_with (first
          | (go_at_call 20; refine Calls.mono (pk_any _ _ _ _ pki) ?_; rintro e w4 ⟨rfl, rfl⟩)
          | (go_at_call 27; refine ((unhide HTK) _ (unhide HS)).mono ?_; rintro e w5 ⟨⟨u5, rfl⟩, hN5⟩
             obtain ⟨-, -, z5, -, -⟩ := hN5.cells
             have HS5 := hide hN5
             clear hN5 HTK))
        clear pki z5
        obtain ⟨mn, hmn⟩ : ∃ mn, mn = F2.marks.length := ⟨_, rfl⟩
        have hmn9 : mn ≤ 100000000 := by have := (unhide HI2).1.sh.ml; omega
        have HMN := hide hmn
        obtain ⟨Q, hQ⟩ : ∃ Q : Nat, F2.paid = (Q : Int) := ⟨F2.paid.toNat, by have := (unhide HI2).1.sh.paid; omega⟩
        have hQ9 : Q ≤ 1300000 := by have := (unhide HI2).1.sh.paid; omega
        have HQ := hide hQ
        clear hmn hQ x13 HS
        go_loopw [13] (fun x wr => ∃ j : Nat, j ≤ mn ∧ x = .int .i64 j ∧ ShN W1 wr sp s2 F2) (fun x _ => mn - (intOf x).toNat)
        case atStart => exact ⟨0, Nat.zero_le _, rfl, unhide HS5⟩
        case round =>
          clear HS5
          obtain ⟨j, hj, rfl, hS⟩ := hrel
          obtain ⟨mo, mc, x12, hmk⟩ := hS.marks
          rw [← unhide HMN] at x12
          have y13 := hS.more.2
          rw [unhide HQ] at y13
          by_cases hjn : j < mn
          · obtain ⟨y, hy⟩ : ∃ y, F2.marks[j]? = some y := ⟨F2.marks[j]'(by have := unhide HMN; omega), by simp⟩
            obtain ⟨g, rfl, d0, d1, d2, d3, d4⟩ := hmk j y hy
            have hat := (unhide HI2).1.at' y (List.mem_of_getElem? hy)
            rw [unhide HQ] at hat
            have hyg := (unhide HYG) _ s2 F2 y (unhide HI2).1 (List.mem_of_getElem? hy)
            rw [unhide HQ] at hyg
            obtain ⟨lsp⟩ : Nonempty (sp < wr.heap.size) := ⟨(hS.cells).2.2.2.2⟩
            have j0 : (0 : Int) ≤ (j : Int) := by omega
            have j1 : (j : Int) < (mn : Int) := by omega
            have HS := hide hS
            obtain ⟨ycl, ymk, yat, yfi, ygo⟩ := y
            simp only at d0 d1 d2 d3 d4 hat hyg
            have ew : IntKind.i64.wrap ((Q : Int) - yat) = (Q : Int) - yat := by rw [IntKind.wrap_i64]; omega
            have hbx : Below wr.heap.size wr (wr.alloc (.cells #[.int .i64 ycl, .int .i64 ymk, .int .i64 yat, .bool yfi, .bool ygo] 65)) := (Below.refl _ wr).alloc (Nat.le_refl _) _
            have t13 : (wr.alloc (.cells #[.int .i64 ycl, .int .i64 ymk, .int .i64 yat, .bool yfi, .bool ygo] 65)).cell? ⟨sp, 13, none⟩ = some (.int .i64 (Q : Int)) := (hbx.cell lsp).trans y13
            have HN6 : Hid (ShN W1 (wr.alloc (.cells #[.int .i64 ycl, .int .i64 ymk, .int .i64 yat, .bool yfi, .bool ygo] 65)) sp s2 F2) := (unhide HS).below hbx
            clear hS hy hmk hat hbx HS y13
            cases yfi with
            | true =>
              go_wp2
              go_quiet (fail)
              go_wp2
              go_roundw
              case rel => exact ⟨j + 1, by omega, by go_num, by first | exact (unhide HN6).below (below_drewN (Below.refl _ _) _) | exact (unhide HN6).below ((Below.refl _ _).drew)⟩
              case measure => simp [intOf]; omega
            | false =>
              cases ygo with
              | true =>
                go_wp2
                go_quiet (fail)
                go_wp2
                go_roundw
                case rel => exact ⟨j + 1, by omega, by go_num, by first | exact (unhide HN6).below (below_drewN (Below.refl _ _) _) | exact (unhide HN6).below ((Below.refl _ _).drew)⟩
                case measure => simp [intOf]; omega
              | false =>
                have hlt2 := hyg rfl rfl
                have dd : decide ((Bn : Int) ≤ (Q : Int) - yat) = false := by simp; omega
                clear hyg
                go_wp2
                go_quiet (fail)
                go_wp2
                go_roundw
                case rel => exact ⟨j + 1, by omega, by go_num, by first | exact (unhide HN6).below (below_drewN (Below.refl _ _) _) | exact (unhide HN6).below ((Below.refl _ _).drew)⟩
                case measure => simp [intOf]; omega
          · have ej : j = mn := by omega
            subst ej
            have j1 : ¬ (j : Int) < (j : Int) := by omega
            have HS6 := hide hS
            have HPB := hide (paidAt_is hS.more.2)
            clear hS hmk y13
            have HLE : Hid (P + 1 ≤ Q ∧ (i : Int) + 1 ≤ F2.paid) := by
              have h1 := unhide HP1
              have h2 := (unhide HI2).2
              have h3 := unhide HQ
              exact ⟨by omega, by omega⟩
            go_wp2
            go_roundw
            case rel => exact ⟨i + 1, k + 1, s2, F2, by go_num, unhide HS6, (unhide HI2).1, by omega, by have := (unhide HLE).2; omega⟩
            case measure =>
              have h1 := unhide HPA
              have h2 := unhide HPB
              have h3 := (unhide HLE).1
              rw [unhide HQ] at h2
              simp only [Int.toNat_natCast] at h1 h2
              rw [h1, h2]
              omega
    · have p1 : ¬ (P : Int) < (T : Int) := by omega
      go_wp2
      go_ret
      exact ⟨rfl, (unhide HB01).trans ((unhide HS).bel.mono (unhide HB01).size)⟩
end Go.Proofs.Ytfnockbgkcgpkaa
