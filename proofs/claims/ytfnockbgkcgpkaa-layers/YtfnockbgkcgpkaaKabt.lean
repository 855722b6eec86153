import Derived.Test.YtfnockbgkcgpkaaKabq
import Derived.Test.YtfnockbgkcgpkaaKabs
set_option linter.all false
namespace Go.Proofs.Ytfnockbgkcgpkaa
open Go.RowKit Go.Proofs.Panes
set_option maxRecDepth 100000
/-- When those that are not fired yet were asked for. -/
def pendT (c : Int) (l : List Ask) : List Int := (l.filter fun y => y.cl == c && !y.fired && !y.gone).map Ask.at'
theorem pendT_len (c : Int) (l : List Ask) : (pendT c l).length = (pend c l).length := by simp [pendT, pend]
/-- What is to be painted of the frame. -/
def leftN (f : Frs) : Nat := match f.frame with
  | none => 0
  | some g => g.left.length
/-- The asks of the first p transactions. -/
def cumN (q : List (List Opn)) (p : Nat) : Nat := (askM (q.take p).flatten).length
/-- How long a mark may wait. -/
def soonB (s : Scrn) : Int := s.c.queue + 2 * ((s.f.W * s.f.H : Nat) : Int)
structure SnI (s : Scrn) (F : ShF) : Prop where
  m1 : s.f.marks ≠ [] → s.f.due = true
  m2 : s.f.frame = none → s.f.marks = []
  fb : ∀ c, ∀ t ∈ pendT c F.marks, F.paid - t + (leftN s.f : Int) ≤ soonB s
  wb : ∀ c, ∀ t ∈ (pendT c F.marks).drop (ofC c (frM s.f)).length, F.paid - t + (leftN s.f : Int) + ((s.f.W * s.f.H : Nat) : Int) ≤ soonB s
  qb : ∀ (c : Nat) (k : Cli), s.ks[c]? = some (some k) → ∀ p, p < k.q.length → ∀ t ∈ (pendT c F.marks).drop ((ofC c (frM s.f)).length + (ofC c s.f.marks).length + cumN k.q p), F.paid - t + ((p : Int) + 1) + 2 * ((s.f.W * s.f.H : Nat) : Int) ≤ soonB s
end Go.Proofs.Ytfnockbgkcgpkaa
set_option linter.all false
namespace Go.Proofs.Ytfnockbgkcgpkaa
open Go.RowKit Go.Proofs.Panes
set_option maxRecDepth 100000
section
variable {n : Nat} {s : Scrn} {F : ShF}
theorem adm_n {k : Cli} {q : Int} : ∃ m, m ≤ k.q.length ∧ (admitC k q).1 = k.q.take m ∧ (admitC k q).2.q = k.q.drop m ∧ ((admitC k q).1 ≠ [] → 1 ≤ m) := by
  refine ⟨(takeN (k.cr + q) k.q).1, takeN_le k.q (k.cr + q), rfl, rfl, fun h => ?_⟩
  rcases Nat.eq_zero_or_pos (takeN (k.cr + q) k.q).1 with e | e
  · exact absurd (by show k.q.take _ = []; rw [e]; rfl) h
  · exact e
theorem tk5_cases (h : ShI n s F) (hn : n ≤ 1300000) : (∃ g, s.f.frame = some g ∧ g.left ≠ [] ∧ (tk5 s).f = (tk4 s).f ∧ (tk4 s).f.frame = some g) ∨
    (((s.f.frame = none) ∨ ∃ g, s.f.frame = some g ∧ g.left = []) ∧ (tk4 s).f.frame = none ∧ (tk4 s).f.due = true ∧ (tk5 s).f.marks = [] ∧ ∃ g', (tk5 s).f.frame = some g' ∧ g'.left.length ≤ s.f.W * s.f.H) ∨
    (((s.f.frame = none) ∨ ∃ g, s.f.frame = some g ∧ g.left = []) ∧ (tk4 s).f.frame = none ∧ (tk4 s).f.due = false ∧ (tk5 s).f = (tk4 s).f) := by
  have hd := damL_s (s.l.flatMap slDmg) (flipF s.f).1
  have a1 := (scAdmI_m s.c.quantum s.ks ((tk3 s).l, (tk3 s).f) s.ks.length).1
  have hf4 : (tk4 s).f.frame = (flipF s.f).1.frame := a1.trans hd.frame
  have h4 : 4 * 160 = 640 := rfl
  have hl4 := h.n4
  have hI := admI_all h.scr (by omega) s.ks.length (Nat.le_refl _)
  have hwh : (tk4 s).f.W = s.f.W ∧ (tk4 s).f.H = s.f.H := tk4_wh s
  have rest : (flipF s.f).1.frame = none → (((tk4 s).f.frame = none ∧ (tk4 s).f.due = true ∧ (tk5 s).f.marks = [] ∧ ∃ g', (tk5 s).f.frame = some g' ∧ g'.left.length ≤ s.f.W * s.f.H) ∨ ((tk4 s).f.frame = none ∧ (tk4 s).f.due = false ∧ (tk5 s).f = (tk4 s).f)) := fun hnone => by
    rw [hnone] at hf4
    cases hdu : (tk4 s).f.due with
    | false =>
      refine .inr ⟨hf4, rfl, ?_⟩
      show beginF (tk4 s).f _ _ = _
      unfold beginF
      rw [if_pos (.inr hdu)]
    | true =>
      refine .inl ⟨hf4, rfl, ?_⟩
      have hng : ¬ ((tk4 s).f.frame.isSome = true ∨ (tk4 s).f.due = false) := by
        rintro (e | e)
        · rw [hf4] at e; cases e
        · rw [hdu] at e; cases e
      have e5 : (tk5 s).f = beginF (tk4 s).f (s.t + 1) (picS (tk4 s).l s.c.behind) := rfl
      have hb : ∀ g', (tk5 s).f.frame = some g' → g'.left.length ≤ s.f.W * s.f.H := fun g' hg' => by
        have hf := (hI.st.fr.begin (s.t + 1) (picS (tk4 s).l s.c.behind)).fm g' hg'
        have e := beginF_wh (scAdmI s.c.quantum s.ks ((tk3 s).l, (tk3 s).f) s.ks.length).2 (s.t + 1) (picS (tk4 s).l s.c.behind)
        have h5 := hf.2.2.1
        rw [e.1, e.2] at h5
        have e2 : (scAdmI s.c.quantum s.ks ((tk3 s).l, (tk3 s).f) s.ks.length).2 = (tk4 s).f := rfl
        rw [e2, hwh.1, hwh.2] at h5
        exact h5
      refine ⟨?_, ?_⟩
      · rw [e5]; unfold beginF; rw [if_neg hng]
      · have : ∃ g', (tk5 s).f.frame = some g' := by rw [e5]; unfold beginF; rw [if_neg hng]; exact ⟨_, rfl⟩
        obtain ⟨g', hg'⟩ := this
        exact ⟨g', hg', hb g' hg'⟩
  cases hf : s.f.frame with
  | none =>
    have : (flipF s.f).1.frame = none := by unfold flipF; rw [hf]; exact hf
    rcases rest this with r | r
    · exact .inr (.inl ⟨.inl rfl, r⟩)
    · exact .inr (.inr ⟨.inl rfl, r⟩)
  | some g =>
    by_cases hg : g.left = []
    · have : (flipF s.f).1.frame = none := by unfold flipF; rw [hf]; simp only; rw [if_pos hg]
      rcases rest this with r | r
      · exact .inr (.inl ⟨.inr ⟨g, rfl, hg⟩, r⟩)
      · exact .inr (.inr ⟨.inr ⟨g, rfl, hg⟩, r⟩)
    · have e : (flipF s.f).1.frame = some g := by unfold flipF; rw [hf]; simp only; rw [if_neg hg]; exact hf
      refine .inl ⟨g, rfl, hg, ?_, hf4.trans e⟩
      show beginF (tk4 s).f _ _ = _
      unfold beginF
      rw [if_pos (.inl (by rw [hf4, e]; rfl))]
theorem SnI.q0 (h : ShI n s F) (hS : SnI s F) (c : Int) : ∀ t ∈ (pendT c F.marks).drop ((ofC c (frM s.f)).length + (ofC c s.f.marks).length), F.paid - t + 1 + 2 * ((s.f.W * s.f.H : Nat) : Int) ≤ soonB s := by
  intro t ht
  by_cases hc : ∃ k, 0 ≤ c ∧ s.ks[c.toNat]? = some (some k) ∧ k.q ≠ []
  · obtain ⟨k, h0, hk, hq⟩ := hc
    have e : ((c.toNat : Nat) : Int) = c := by omega
    have := hS.qb c.toNat k hk 0 (List.length_pos_iff.2 hq) t (by rw [e]; simpa [cumN, askM] using ht)
    omega
  · have hz : qAsk s.ks c = [] := by
      unfold qAsk perC
      split
      · rename_i h0
        split
        · rename_i k hk
          rcases Classical.em (k.q = []) with e | e
          · simp only; rw [e]; rfl
          · exact absurd ⟨k, h0, hk, e⟩ hc
        · rfl
      · rfl
    have hl : (pendT c F.marks).length = (ofC c (frM s.f)).length + (ofC c s.f.marks).length := by
      rw [pendT_len, h.eq]
      unfold allM
      rw [hz]
      simp
    rw [List.drop_eq_nil_of_le (by omega)] at ht
    simp at ht
end
end Go.Proofs.Ytfnockbgkcgpkaa
set_option linter.all false
namespace Go.Proofs.Ytfnockbgkcgpkaa
open Go.RowKit Go.Proofs.Panes
set_option maxRecDepth 100000
/-- Nothing waits; nothing slides; all is painted and shown. -/
def noQ (s : Scrn) : Prop := ∀ (j : Nat) (k : Cli), s.ks[j]? = some (some k) → k.q = []
def noSl (s : Scrn) : Prop := ∀ x ∈ s.l, x.left = 0
structure Calm (s : Scrn) : Prop where
  q : noQ s
  sl : noSl s
  fr : s.f.frame = none
  du : s.f.due = false
section
variable {n : Nat} {s : Scrn} {F : ShF}
theorem adm_idle (h : noQ s) (st : List Srf × Frs) : ∀ j, scAdmI s.c.quantum s.ks st j = st
  | 0 => rfl
  | j + 1 => by
    have ih := adm_idle h st j
    unfold scAdmI
    split
    · rename_i k hk
      have e : (admitC k s.c.quantum).1 = [] := by simp [admitC, h j k hk]
      rw [e, ih]; rfl
    · exact ih
theorem go_idle {l : List Srf} (h : ∀ x ∈ l, x.left = 0) : l.map goS = l ∧ l.flatMap slDmg = [] := by
  constructor
  · conv => rhs; rw [← List.map_id l]
    exact List.map_congr_left fun x hx => by unfold goS; rw [if_pos (h x hx)]; rfl
  · rw [List.flatMap_eq_nil_iff]
    intro x hx
    unfold slDmg goB
    rw [if_pos (h x hx)]
    rfl
/-- A tick when nothing waits and nothing slides. -/
theorem still_tick (hq : noQ s) (hs : noSl s) : (tk4 s).l = s.l ∧ (tk4 s).f = (flipF s.f).1 := by
  obtain ⟨e1, e2⟩ := go_idle hs
  have h3l : (tk3 s).l = s.l := e1
  have h3f : (tk3 s).f = (flipF s.f).1 := by
    show damL (flipF s.f).1 (s.l.flatMap slDmg) = _
    rw [e2]; rfl
  have e : scAdmI (tk3 s).c.quantum (tk3 s).ks ((tk3 s).l, (tk3 s).f) s.ks.length = ((tk3 s).l, (tk3 s).f) := adm_idle (s := s) hq _ _
  constructor
  · show (scAdmI (tk3 s).c.quantum (tk3 s).ks ((tk3 s).l, (tk3 s).f) s.ks.length).1 = _
    rw [e]; exact h3l
  · show (scAdmI (tk3 s).c.quantum (tk3 s).ks ((tk3 s).l, (tk3 s).f) s.ks.length).2 = _
    rw [e]; exact h3f
theorem noQ_tick (hq : noQ s) (b : Nat) : noQ (tickS s b) := by
  intro j k hk
  have hks : (tickS s b).ks = s.ks.map (admK s.c.quantum) := ksI_full _ _
  rw [hks, List.getElem?_map] at hk
  cases hx : s.ks[j]? with
  | none => rw [hx] at hk; cases hk
  | some x =>
    rw [hx] at hk
    cases x with
    | none => simp [admK] at hk
    | some k0 =>
      simp only [admK, Option.map_some, Option.some.injEq] at hk
      rw [← hk]
      show k0.q.drop _ = []
      rw [hq j k0 hx]; rfl
theorem calm_tick (h : Calm s) (b : Nat) : Calm (tickS s b) ∧ (tickS s b).l = s.l ∧ (flipF s.f).2.1 = 0 ∧ tickP s b = 0 := by
  obtain ⟨e1, e2⟩ := still_tick h.q h.sl
  have hf : flipF s.f = (s.f, 0, []) := by unfold flipF; rw [h.fr]
  rw [hf] at e2
  have h5 : (tk5 s).f = s.f := by
    show beginF (tk4 s).f _ _ = _
    rw [e2]
    unfold beginF
    rw [if_pos (.inr h.du)]
  have h6 : (tickS s b).f = s.f := by
    show paintF (tk5 s).f b = _
    rw [h5]
    unfold paintF
    rw [h.fr]
  have hl : (tickS s b).l = s.l := e1
  refine ⟨⟨noQ_tick h.q b, by intro x hx; rw [hl] at hx; exact h.sl x hx, by rw [h6]; exact h.fr, by rw [h6]; exact h.du⟩, hl, by rw [hf], ?_⟩
  unfold tickP paintN
  rw [h5, h.fr]
/-- Queues, slides and frames that are left; a tick takes one away. -/
def qMax (s : Scrn) (m : Nat) : Prop := ∀ (j : Nat) (k : Cli), s.ks[j]? = some (some k) → k.q.length ≤ m
def slMax (s : Scrn) (m : Nat) : Prop := ∀ x ∈ s.l, x.left ≤ (m : Int)
/-- How far the frames are from calm: 0 calm, .. -/
def calmR (s : Scrn) : Nat → Prop
  | 0 => s.f.frame = none ∧ s.f.due = false
  | 1 => (∃ g, s.f.frame = some g ∧ g.left = []) ∧ s.f.due = false
  | 2 => ∃ g, s.f.frame = some g ∧ g.left = []
  | _ => True
theorem still_step (h : ShI n s F) (hn : n ≤ 1300000) (hq : noQ s) (hs : noSl s) : (calmR s 0 → calmR (tickS s 400) 0) ∧ (calmR s 1 → calmR (tickS s 400) 0) ∧ (calmR s 2 → calmR (tickS s 400) 1 ∨ calmR (tickS s 400) 0) ∧ (calmR (tickS s 400) 2 ∨ calmR (tickS s 400) 0) := by
  obtain ⟨e1, e2⟩ := still_tick hq hs
  have hwh := h.scr.st.fr.wh
  simp only at hwh
  have hpd : (paintF (tk5 s).f 400).due = (tk5 s).f.due := by unfold paintF; split <;> rfl
  have done : ∀ g, (tk5 s).f.frame = some g → g.left.length ≤ 256 → ∃ g', (tickS s 400).f.frame = some g' ∧ g'.left = [] := fun g hg hl => by
    refine ⟨{ g with left := g.left.drop (min 400 g.left.length) }, ?_, ?_⟩
    · show (paintF (tk5 s).f 400).frame = _
      unfold paintF
      rw [hg]
      rfl
    · exact List.drop_eq_nil_of_le (by omega)
  have rest : (flipF s.f).1.frame = none → ((flipF s.f).1.due = false → calmR (tickS s 400) 0) ∧ ((flipF s.f).1.due = true → calmR (tickS s 400) 1) := fun hnone => by
    constructor
    · intro hd
      have h5 : (tk5 s).f = (flipF s.f).1 := by
        show beginF (tk4 s).f _ _ = _
        rw [e2]
        unfold beginF
        rw [if_pos (.inr hd)]
      have h6 : (tickS s 400).f = (flipF s.f).1 := by
        show paintF (tk5 s).f 400 = _
        rw [h5]
        unfold paintF
        rw [hnone]
      exact ⟨by rw [h6]; exact hnone, by rw [h6]; exact hd⟩
    · intro hd
      rcases tk5_cases h hn with ⟨g, hg, hgl, e5, e4⟩ | ⟨-, -, -, -, g', hg', hgb⟩ | ⟨-, -, e6, -⟩
      · rw [e2] at e4; rw [hnone] at e4; cases e4
      · refine ⟨done g' hg' (by omega), ?_⟩
        show (paintF (tk5 s).f 400).due = false
        rw [hpd]
        show (beginF (tk4 s).f _ _).due = false
        rw [e2]
        unfold beginF
        rw [if_neg (by
          rintro (x | x)
          · rw [hnone] at x; cases x
          · rw [hd] at x; cases x)]
      · rw [e2, hd] at e6; cases e6
  have fd : (flipF s.f).1.due = s.f.due := by
    unfold flipF
    cases s.f.frame with
    | none => rfl
    | some g => simp only; split <;> rfl
  have fl : ∀ g, s.f.frame = some g → g.left = [] → (flipF s.f).1.frame = none := fun g hg hl => by unfold flipF; rw [hg]; simp only; rw [if_pos hl]
  have any : ((flipF s.f).1.frame = none) → calmR (tickS s 400) 1 ∨ calmR (tickS s 400) 0 := fun hnone => by
    cases hd : (flipF s.f).1.due with
    | false => exact .inr ((rest hnone).1 hd)
    | true => exact .inl ((rest hnone).2 hd)
  refine ⟨fun hc => ?_, fun hc => ?_, fun hc => ?_, ?_⟩
  · have hf : (flipF s.f).1.frame = none := by unfold flipF; rw [hc.1]; exact hc.1
    exact (rest hf).1 (by rw [fd]; exact hc.2)
  · obtain ⟨⟨g, hg, hl⟩, hd⟩ := hc
    exact (rest (fl g hg hl)).1 (by rw [fd]; exact hd)
  · obtain ⟨g, hg, hl⟩ := hc
    exact any (fl g hg hl)
  · cases hf : s.f.frame with
    | none =>
      have hfn : (flipF s.f).1.frame = none := by unfold flipF; rw [hf]; exact hf
      rcases any hfn with r | r
      · exact .inl r.1
      · exact .inr r
    | some g =>
      by_cases hg : g.left = []
      · rcases any (fl g hf hg) with r | r
        · exact .inl r.1
        · exact .inr r
      · left
        have e : (flipF s.f).1.frame = some g := by unfold flipF; rw [hf]; simp only; rw [if_neg hg]; exact hf
        have h5 : (tk5 s).f.frame = some g := by
          show (beginF (tk4 s).f _ _).frame = _
          rw [e2]
          unfold beginF
          rw [if_pos (.inl (by rw [e]; rfl))]
          exact e
        have := (h.scr.st.fr.fm g hf).2.2.1
        simp only at this
        exact done g h5 (by omega)
end
end Go.Proofs.Ytfnockbgkcgpkaa
