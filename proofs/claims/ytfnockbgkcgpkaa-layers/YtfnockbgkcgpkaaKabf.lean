import Derived.Test.YtfnockbgkcgpkaaKabe
import Derived.Defers
import Derived.Laws.ResultCell
import Derived.Laws.Rows
set_option linter.all false
namespace Go.Proofs.Ytfnockbgkcgpkaa
open Go.RowKit Go.Proofs.Panes
set_option maxRecDepth 100000

/-- Tick, step by step. -/
def tk1 (s : Scrn) : Scrn := { s with t := s.t + 1 }
def tk2 (s : Scrn) : Scrn := { s with t := s.t + 1, f := (flipF s.f).1 }
def tk3 (s : Scrn) : Scrn := { s with t := s.t + 1, l := s.l.map goS, f := damL (flipF s.f).1 (s.l.flatMap slDmg) }
def tk4 (s : Scrn) : Scrn := admS (tk3 s) s.ks.length
def tk5 (s : Scrn) : Scrn := { tk4 s with f := beginF (tk4 s).f (s.t + 1) (picS (tk4 s).l s.c.behind) }
/-- The screen behind a tick. -/
def tickS (s : Scrn) (b : Nat) : Scrn := { tk5 s with f := paintF (tk5 s).f b }
def tickP (s : Scrn) (b : Nat) : Nat := paintN (tk5 s).f b
def tickC (s : Scrn) : List Int := s.ks.map (cntK s.c.quantum)
/-- A tick can be done. -/
structure TickFine (s : Scrn) : Prop where
  t : 0 ≤ s.t ∧ s.t ≤ 1000000000000000000
  len : s.l.length ≤ 1000
  sl : ∀ x ∈ s.l, SlOk x
  rc : ∀ r ∈ s.l.flatMap slDmg, RcOk r
  wd : 1 ≤ s.f.W ∧ s.f.W ≤ 16
  ht : 1 ≤ s.f.H ∧ s.f.H ≤ 16
  adm : AdmFine (tk3 s)
  fr : (tk4 s).f.front < 3
  ok : ∀ x ∈ (tk4 s).l, SrfOk x
  len4 : (tk4 s).l.length ≤ 1000
  dots : ∀ g, (tk5 s).f.frame = some g → g.left.length ≤ 1000 ∧ ∀ d ∈ g.left, 0 ≤ d.1 ∧ d.1 < (((tk5 s).f.W * (tk5 s).f.H : Nat) : Int)
theorem flipF_wh (f : Frs) : (flipF f).1.W = f.W ∧ (flipF f).1.H = f.H := by
  unfold flipF
  split
  · exact ⟨rfl, rfl⟩
  · split <;> exact ⟨rfl, rfl⟩
theorem beginF_wh (f : Frs) (t : Int) (p : Int → Int → Int) : (beginF f t p).W = f.W ∧ (beginF f t p).H = f.H := by
  unfold beginF
  split <;> exact ⟨rfl, rfl⟩
theorem tk4_wh (s : Scrn) : (tk4 s).f.W = s.f.W ∧ (tk4 s).f.H = s.f.H := by
  have h1 := scAdmI_wh (tk3 s).c.quantum (tk3 s).ks ((tk3 s).l, (tk3 s).f) s.ks.length
  have h2 := damL_wh (s.l.flatMap slDmg) (flipF s.f).1
  have h3 := flipF_wh s.f
  exact ⟨h1.1.trans (h2.1.trans h3.1), h1.2.trans (h2.2.trans h3.2)⟩
theorem tk5_wh (s : Scrn) : (tk5 s).f.W = s.f.W ∧ (tk5 s).f.H = s.f.H := by
  have h1 := beginF_wh (tk4 s).f (s.t + 1) (picS (tk4 s).l s.c.behind)
  have h2 := tk4_wh s
  exact ⟨h1.1.trans h2.1, h1.2.trans h2.2⟩

section
variable {o o' : Nat → Nat} {w wr : World} {xp kb sb fb : Nat} {cps : List (Option Nat)} {s s' : Scrn}
/-- The tick's number. -/
theorem ScrM.ticks (h : ScrM o w xp kb sb fb cps s) (t : Int) : ScrM o (w.setCell ⟨xp, 11, none⟩ (.int .i64 t)) xp kb sb fb cps { s with t := t } ∧ Stp o o w (w.setCell ⟨xp, 11, none⟩ (.int .i64 t)) := by
  have hs : But (fun x => x = xp) w (w.setCell ⟨xp, 11, none⟩ (.int .i64 t)) := (But.refl (fun x => x = xp) w).setCell (p := ⟨xp, 11, none⟩) (.inl rfl) _
  refine ⟨⟨?_, hs.heap h.cls (fun e => h.xk e.symm), h.ks.but hs (fun x hx e => by rw [e, h.oxp] at hx; omega), h.scn.but hs (fun x hx e => by rw [e, h.oxp] at hx; omega) (fun x hx e => by rw [e, h.oxp] at hx; omega), ?_, h.oxp, h.okb, fun x hx => Nat.lt_of_lt_of_le (h.lt x hx) hs.size⟩, .of hs (fun x _ e => by rw [e, h.oxp]; omega) (fun _ _ h => h) (fun _ h => h)⟩
  · have := blk_set (i := 11) h.blk (.int .i64 t)
    rw [this]
    simp [scells]
  · obtain ⟨v, hv⟩ := h.frs
    exact ⟨v, hv.but hs (fun x hx e => by rw [e, h.oxp] at hx; omega)⟩

/-- Within a tick. -/
structure TkI (o : Nat → Nat) (w wr : World) (xp kb sb fb : Nat) (cps : List (Option Nat)) (s : Scrn) (rb pb bb cb l : Nat) (rep : Array Value) (av fv : Value) (cn : List Int) (fm : List (Int × Int)) (o' : Nat → Nat) : Prop where
  scr : ScrM o' wr xp kb sb fb cps s
  stp : Stp o o' w wr
  rep : wr.heap[rb]? = some (.cells rep 55 (0, 0))
  pv : wr.heap[pb]? = some (.cells #[.pointer (some ⟨bb, 0, none⟩)] 106 (0, 0))
  bud : Bud wr bb cb l 0
  z : o' rb = 0 ∧ o' pb = 0 ∧ o' bb = 0 ∧ o' cb = 0
  ge : w.heap.size ≤ rb ∧ w.heap.size ≤ bb ∧ w.heap.size ≤ cb
  adm : OwnN wr 0 av cn
  az : ∀ b, av.ownBlock = some b → o' b = 0
  fir : Own2 wr 0 95 fv (fm.map k2)
  fz : ∀ b, fv.ownBlock = some b → o' b = 0
  ag : ∀ b, av.ownBlock = some b → w.heap.size ≤ b ∨ o b ≠ 0
  fg : ∀ b, fv.ownBlock = some b → w.heap.size ≤ b ∨ o b ≠ 0
variable {rb pb bb cb l : Nat} {rep : Array Value} {av fv : Value} {cn : List Int} {fm : List (Int × Int)}
theorem TkI.step (h : TkI o w wr xp kb sb fb cps s rb pb bb cb l rep av fv cn fm o') {o2 : Nat → Nat} {w2 : World} (hM : ScrM o2 w2 xp kb sb fb cps s') (hS : Stp o' o2 wr w2) : TkI o w w2 xp kb sb fb cps s' rb pb bb cb l rep av fv cn fm o2 := by
  obtain ⟨z1, z2, z3, z4⟩ := h.z
  have h1 := hS.block h.rep z1
  have h2 := hS.block h.pv z2
  have h3 := hS.block h.bud.blk z3
  have h4 := hS.block h.bud.chn z4
  have h5 := hS.row h.adm h.az
  have h6 := hS.row h.fir h.fz
  exact ⟨hM, h.stp.trans hS, h1.1, h2.1, ⟨h3.1, h4.1⟩, ⟨h1.2, h2.2, h3.2, h4.2⟩, h.ge, h5.1, h5.2, h6.1, h6.2, h.ag, h.fg⟩
theorem TkI.drew (h : TkI o w wr xp kb sb fb cps s rb pb bb cb l rep av fv cn fm o') : TkI o w wr.drew xp kb sb fb cps s rb pb bb cb l rep av fv cn fm o' :=
  h.step (h.scr.below ((Below.refl _ wr).drew)) (Stp.below ((Below.refl _ wr).drew))
theorem TkI.set (h : TkI o w wr xp kb sb fb cps s rb pb bb cb l rep av fv cn fm o') (i : Nat) (u : Value) : TkI o w (wr.setCell ⟨rb, i, none⟩ u) xp kb sb fb cps s rb pb bb cb l (rep.setIfInBounds i u) av fv cn fm o' := by
  have hs : But (fun x => x = rb) wr (wr.setCell ⟨rb, i, none⟩ u) := (But.refl (fun x => x = rb) wr).setCell (p := ⟨rb, i, none⟩) (.inl rfl) _
  have hne : ∀ {x : Nat} {cs : Array Value} {t : TypeId} {fz : Nat × Nat}, wr.heap[x]? = some (.cells cs t fz) → t ≠ 55 → ¬ x = rb := fun hx ht e => by rw [e, h.rep] at hx; simp at hx; exact ht hx.2.1.symm
  have hc : ¬ cb = rb := fun e => by have := h.bud.chn; rw [e, h.rep] at this; simp at this
  refine ⟨h.scr.but hs (fun x hx e => hx (by rw [e]; exact h.z.1)), ⟨h.stp.but.step hs (fun x e => .inr (by rw [e]; exact h.ge.1)), h.stp.ext, h.stp.four⟩, blk_set (i := i) h.rep u, hs.heap h.pv (hne h.pv (by decide)), ⟨hs.heap h.bud.blk (hne h.bud.blk (by decide)), hs.heap h.bud.chn hc⟩, h.z, h.ge, row_but h.adm hs (fun b hb e => ?_), h.az, row_but h.fir hs (fun b hb e => ?_), h.fz, h.ag, h.fg⟩
  · obtain ⟨cs, fz, hg⟩ := row_heap h.adm hb
    exact hne hg (by decide) e
  · obtain ⟨cs, fz, hg⟩ := row_heap h.fir hb
    exact hne hg (by decide) e
end
end Go.Proofs.Ytfnockbgkcgpkaa
set_option linter.all false
namespace Go.Proofs.Ytfnockbgkcgpkaa
open Go.RowKit Go.Proofs.Panes
set_option maxRecDepth 100000

set_option maxHeartbeats 1000000 in
/-- The deferred function of Tick. -/
theorem tick1_d {w : World} {pb rb bb cb l sp : Nat} {rep : Array Value} (u : FrameMode) (hp : w.heap[pb]? = some (.cells #[.pointer (some ⟨bb, 0, none⟩)] 106 (0, 0))) (hB : Bud w bb cb l sp) (hr : w.heap[rb]? = some (.cells rep 55 (0, 0))) (h2 : 2 < rep.size) :
    CallsD Try.prog 60 #[.pointer (some ⟨pb, 0, none⟩), .pointer (some ⟨rb, 0, none⟩)] u w fun e u' w' => u' = u ∧ (e = .returned (.tuple #[]) ∧ ∃ w1, But (fun k => k = bb ∨ k = cb) w w1 ∧ w' = w1.setCell ⟨rb, 2, none⟩ (.int .i64 (sp : Int))) := by
  have c0 : w.cell? ⟨pb, 0, none⟩ = some (.pointer (some ⟨bb, 0, none⟩)) := blk_cell hp 0
  have hne : ¬ (rb = bb ∨ rb = cb) := by
    rintro (e | e)
    · have := hB.blk; rw [← e, hr] at this; simp at this
    · have := hB.chn; rw [← e, hr] at this; simp at this
  have hE := hide (End_any hB)
  have HR := hide hr
  obtain ⟨u2, hu2⟩ : ∃ u2, rep[2]? = some u2 := ⟨rep[2], by simp [h2]⟩
  clear hp hB hr h2
  go_enter_d Try.func60, Try.ntmps60
  go_wp2_with (go_at_call 61; refine (unhide hE).mono ?_; rintro e w1 ⟨rfl, hb⟩; have hr1 := hb.heap (unhide HR) hne; have r2 : w1.cell? ⟨rb, 2, none⟩ = some u2 := (blk_cell hr1 2).trans hu2; have rz : ∀ t, w1.frozen? ⟨rb, t, none⟩ = false := blk_thaw hr1; have HB := hide hb; clear hb hr1)
  go_end0
  exact ⟨rfl, w1, unhide HB, rfl⟩

section
variable {o o' : Nat → Nat} {w wr : World} {xp kb sb fb : Nat} {cps : List (Option Nat)} {s : Scrn} {rb pb bb cb l : Nat} {rep : Array Value} {av fv : Value} {cn : List Int} {fm : List (Int × Int)}
theorem tk_flip (h : TkI o w wr xp kb sb fb cps (tk1 s) rb pb bb cb l rep av fv cn fm o') : Calls Try.prog 62 #[.pointer (some ⟨fb, 0, none⟩)] wr fun e w' => ∃ fv o2, e = .returned (.tuple #[.int .i64 (flipF s.f).2.1, fv]) ∧ TkI o w w' xp kb sb fb cps (tk2 s) rb pb bb cb l rep av fv cn (flipF s.f).2.2 o2 := by
  refine (scr_flip h.scr).mono ?_
  rintro e w' ⟨fv, o2, h1, h2, h3, h4, h5⟩
  have := h.step (s' := tk2 s) h2 h5
  refine ⟨fv, o2, h1, this.scr, this.stp, this.rep, this.pv, this.bud, this.z, this.ge, this.adm, this.az, h3, fun k hk => (h4 k hk).1, this.ag, fun k hk => ?_⟩
  rcases Nat.lt_or_ge k w.heap.size with c | c
  · exact .inr (h.stp.ext k c (by rw [(h4 k hk).2]; omega))
  · exact .inl c
theorem tk_slide (h : TkI o w wr xp kb sb fb cps (tk2 s) rb pb bb cb l rep av fv cn fm o') (hF : TickFine s) : Calls Try.prog 63 #[.pointer (some ⟨sb, 0, none⟩)] wr fun e w' => ∃ v, e = .returned v ∧ (w'.cell? ⟨xp, 10, none⟩ = some (.pointer (some ⟨fb, 0, none⟩)) ∧ w'.cell? ⟨xp, 9, none⟩ = some (.pointer (some ⟨sb, 0, none⟩))) ∧ Calls Try.prog 56 #[.pointer (some ⟨fb, 0, none⟩), v] w' fun e w2 => (∃ u, e = .returned u) ∧ (w2.cell? ⟨xp, 10, none⟩ = some (.pointer (some ⟨fb, 0, none⟩)) ∧ w2.cell? ⟨xp, 9, none⟩ = some (.pointer (some ⟨sb, 0, none⟩))) ∧ TkI o w w2 xp kb sb fb cps (tk3 s) rb pb bb cb l rep av fv cn fm o' := by
  refine (scr_slide h.scr hF.len hF.sl).mono ?_
  rintro e w' ⟨v, h1, h2, h3, h4, h5⟩
  have hfl := flipF_wh s.f
  have hlen := flat_len s.l
  have hl1 := hF.len
  refine ⟨v, h1, ⟨h2.c10, h2.c9⟩, (scr_damage h2 (by show 1 ≤ (flipF s.f).1.W ∧ (flipF s.f).1.W ≤ 16; rw [hfl.1]; exact hF.wd) (by show 1 ≤ (flipF s.f).1.H ∧ (flipF s.f).1.H ≤ 16; rw [hfl.2]; exact hF.ht) h3 h4 hF.rc (by show (s.l.flatMap slDmg).length ≤ _; omega)).mono ?_⟩
  rintro e w2 ⟨g1, g2, g3⟩
  exact ⟨g1, ⟨g2.c10, g2.c9⟩, h.step (s' := tk3 s) g2 (h5.trans g3)⟩
theorem tk_admit (h : TkI o w wr xp kb sb fb cps (tk3 s) rb pb bb cb l rep av fv cn fm o') (hF : TickFine s) : Calls Try.prog 64 #[.pointer (some ⟨xp, 0, none⟩)] wr fun e w' => ∃ ao an ac o2, e = .returned (.slice ao an ac) ∧ TkI o w w' xp kb sb fb cps (tk4 s) rb pb bb cb l rep (.slice ao an ac) fv (tickC s) fm o2 := by
  refine (admit_any h.scr hF.adm).mono ?_
  rintro e w' ⟨o2, h1, h2, h3, h4, h5⟩
  have := h.step (s' := tk4 s) h2 h3
  refine ⟨_, _, _, o2, h1, this.scr, this.stp, this.rep, this.pv, this.bud, this.z, this.ge, ?_, fun b hb => by simp [Value.ownBlock] at hb; subst hb; exact h5, this.fir, this.fz, fun b hb => by simp [Value.ownBlock] at hb; subst hb; exact .inl h.stp.but.size, this.fg⟩
  refine ⟨h4.1, ?_⟩
  rcases h4.2 with q | ⟨g, c, cur, e, hg, r⟩
  · exact .inl q
  · exact .inr ⟨g, c, cur, e, Nat.zero_le _, r⟩
theorem tk_begin (h : TkI o w wr xp kb sb fb cps (tk4 s) rb pb bb cb l rep av fv cn fm o') (hF : TickFine s) : Calls Try.prog 65 #[.pointer (some ⟨fb, 0, none⟩), .int .i64 (s.t + 1), .func (.func 66) #[.pointer (some ⟨sb, 0, none⟩)] #[]] wr fun e w' => (∃ u, e = .returned u) ∧ (w'.cell? ⟨xp, 10, none⟩ = some (.pointer (some ⟨fb, 0, none⟩)) ∧ w'.cell? ⟨xp, 9, none⟩ = some (.pointer (some ⟨sb, 0, none⟩)) ∧ w'.cell? ⟨xp, 11, none⟩ = some (.int .i64 (s.t + 1))) ∧ ∃ o2, TkI o w w' xp kb sb fb cps (tk5 s) rb pb bb cb l rep av fv cn fm o2 := by
  have hwh := tk4_wh s
  refine (scr_begin h.scr hF.fr (by rw [hwh.1]; exact hF.wd) (by rw [hwh.2]; exact hF.ht) hF.ok hF.len4 (s.t + 1)).mono ?_
  rintro e w' ⟨h1, o2, h2, h3⟩
  exact ⟨h1, ⟨h2.c10, h2.c9, h2.c11⟩, o2, h.step (s' := tk5 s) h2 h3⟩
/-- Behind Paint. -/
structure TkP (o : Nat → Nat) (w wr : World) (xp kb sb fb : Nat) (cps : List (Option Nat)) (s : Scrn) (rb pb bb cb l p : Nat) (rep : Array Value) (av fv : Value) (cn : List Int) (fm : List (Int × Int)) (o' : Nat → Nat) : Prop where
  scr : ScrM o' wr xp kb sb fb cps s
  stp : Stp o o' w wr
  rep : wr.heap[rb]? = some (.cells rep 55 (0, 0))
  pv : wr.heap[pb]? = some (.cells #[.pointer (some ⟨bb, 0, none⟩)] 106 (0, 0))
  bud : Bud wr bb cb l p
  z : o' rb = 0 ∧ o' pb = 0 ∧ o' bb = 0 ∧ o' cb = 0
  ge : w.heap.size ≤ rb ∧ w.heap.size ≤ bb ∧ w.heap.size ≤ cb
  adm : OwnN wr 0 av cn
  az : ∀ b, av.ownBlock = some b → o' b = 0
  fir : Own2 wr 0 95 fv (fm.map k2)
  fz : ∀ b, fv.ownBlock = some b → o' b = 0
  ag : ∀ b, av.ownBlock = some b → w.heap.size ≤ b ∨ o b ≠ 0
  fg : ∀ b, fv.ownBlock = some b → w.heap.size ≤ b ∨ o b ≠ 0
theorem tk_paint (h : TkI o w wr xp kb sb fb cps (tk5 s) rb pb bb cb l rep av fv cn fm o') (hF : TickFine s) (hl : l ≤ 9000000000000000000) : Calls Try.prog 67 #[.pointer (some ⟨fb, 0, none⟩), .pointer (some ⟨bb, 0, none⟩)] wr fun e w' => (∃ u, e = .returned u) ∧ (w'.cell? ⟨xp, 10, none⟩ = some (.pointer (some ⟨fb, 0, none⟩)) ∧ w'.cell? ⟨pb, 0, none⟩ = some (.pointer (some ⟨bb, 0, none⟩))) ∧ TkP o w w' xp kb sb fb cps (tickS s l) rb pb bb cb (l - tickP s l) (tickP s l) rep av fv cn fm o' := by
  have hwh := tk5_wh s
  have hWH : (tk5 s).f.W * (tk5 s).f.H ≤ 1000 := by
    rw [hwh.1, hwh.2]
    have := Nat.mul_le_mul hF.wd.2 hF.ht.2
    omega
  obtain ⟨z1, z2, z3, z4⟩ := h.z
  refine (scr_paint h.scr hWH hF.dots h.bud z3 z4 hl).mono ?_
  rintro e w' ⟨h1, h2, h3, h4⟩
  have hne : ∀ {x : Nat} {cs : Array Value} {t : TypeId} {fz : Nat × Nat}, wr.heap[x]? = some (.cells cs t fz) → t ≠ 155 → o' x = 0 → ¬ (o' x = 3 ∨ x = bb ∨ x = cb) := by
    rintro x cs t fz hx ht h0 (e | e | e)
    · omega
    · have := h.bud.blk; rw [← e, hx] at this; simp at this; exact ht this.2.1
    · have := h.bud.chn; rw [← e, hx] at this; simp at this
  have hp := h4.heap h.pv (hne h.pv (by decide) z2)
  refine ⟨h1, ⟨h2.c10, blk_cell hp 0⟩, h2, ⟨h.stp.but.step h4 (fun x e => ?_), h.stp.ext, h.stp.four⟩, h4.heap h.rep (hne h.rep (by decide) z1), hp, h3, h.z, h.ge, row_but h.adm h4 (fun b hb => ?_), h.az, row_but h.fir h4 (fun b hb => ?_), h.fz, h.ag, h.fg⟩
  · rcases e with e | e | e
    · rcases Nat.lt_or_ge x w.heap.size with c | c
      · exact .inl ⟨h.stp.ext x c (by omega), fun e4 => by have := h.stp.four x e4; omega⟩
      · exact .inr c
    · exact .inr (by rw [e]; exact h.ge.2.1)
    · exact .inr (by rw [e]; exact h.ge.2.2)
  · obtain ⟨cs, fz, hg⟩ := row_heap h.adm hb
    exact hne hg (by decide) (h.az b hb)
  · obtain ⟨cs, fz, hg⟩ := row_heap h.fir hb
    exact hne hg (by decide) (h.fz b hb)
/-- What Tick leaves. -/
def TickPost (o : Nat → Nat) (w : World) (xp kb sb fb : Nat) (cps : List (Option Nat)) (s : Scrn) (b : Nat) (e : Ending) (w' : World) : Prop :=
  ∃ (o' : Nat → Nat) (av fv : Value), e = .returned (.tuple #[.agg #[.int .i64 (s.t + 1), .int .i64 (flipF s.f).2.1, .int .i64 (tickP s b : Int), av, fv], .int .i64 0]) ∧ ScrM o' w' xp kb sb fb cps (tickS s b) ∧ Stp o o' w w' ∧ OwnN w' 0 av (tickC s) ∧ (∀ k, av.ownBlock = some k → o' k = 0 ∧ (w.heap.size ≤ k ∨ o k ≠ 0)) ∧ Own2 w' 0 95 fv ((flipF s.f).2.2.map k2) ∧ (∀ k, fv.ownBlock = some k → o' k = 0 ∧ (w.heap.size ≤ k ∨ o k ≠ 0))
end
end Go.Proofs.Ytfnockbgkcgpkaa
set_option linter.all false
namespace Go.Proofs.Ytfnockbgkcgpkaa
open Go.RowKit Go.Proofs.Panes
set_option maxRecDepth 100000

section
variable {o : Nat → Nat} {w wr : World} {xp kb sb fb : Nat} {cps : List (Option Nat)} {s : Scrn} {b : Nat}
theorem TkI.begin {w1 w2 : World} (h : ScrM o w xp kb sb fb cps s) (hw1 : w1 = w.alloc (.cells #[.int .i64 0, .int .i64 0, .int .i64 0, .slice none 0 0, .slice none 0 0] 55)) (hB : Bud w2 (w1.heap.size + 1) w1.heap.size b 0) (hb : Below w1.heap.size w1 w2) :
    TkI o w (((w2.setCell ⟨xp, 11, none⟩ (.int .i64 (s.t + 1))).setCell ⟨w.heap.size, 0, none⟩ (.int .i64 (s.t + 1))).alloc (.cells #[.pointer (some ⟨w1.heap.size + 1, 0, none⟩)] 106)) xp kb sb fb cps (tk1 s) w.heap.size w2.heap.size (w1.heap.size + 1) w1.heap.size b #[.int .i64 (s.t + 1), .int .i64 0, .int .i64 0, .slice none 0 0, .slice none 0 0] (.slice none 0 0) (.slice none 0 0) [] [] o := by
  have h1 : Below w.heap.size w w1 := by rw [hw1]; exact (Below.refl _ w).alloc (Nat.le_refl _) _
  have h2 : Below w.heap.size w w2 := h1.trans (hb.mono h1.size)
  have s1 : w1.heap.size = w.heap.size + 1 := by rw [hw1]; simp
  have hr : w1.heap[w.heap.size]? = some (.cells #[.int .i64 0, .int .i64 0, .int .i64 0, .slice none 0 0, .slice none 0 0] 55) := by rw [hw1]; exact new_at _ _ _ rfl
  have hr2 : w2.heap[w.heap.size]? = _ := (hb.block _ (lt_of_heap hr)).trans hr
  have hbb := lt_of_heap hB.blk
  have lx := h.xlt
  obtain ⟨m1, m2⟩ := (h.below h2).ticks (s.t + 1)
  have z0 := h.new0 (x := w.heap.size) (Nat.le_refl _)
  obtain ⟨V1, hV1⟩ : ∃ V1, V1 = w2.setCell ⟨xp, 11, none⟩ (.int .i64 (s.t + 1)) := ⟨_, rfl⟩
  rw [← hV1] at m1 m2 ⊢
  have hs2 : But (fun x => x = w.heap.size) V1 (V1.setCell ⟨w.heap.size, 0, none⟩ (.int .i64 (s.t + 1))) := (But.refl (fun x => x = w.heap.size) V1).setCell (p := ⟨w.heap.size, 0, none⟩) (.inl rfl) _
  have hrv : V1.heap[w.heap.size]? = _ := (m2.block hr2 z0).1
  have hbv := (m2.block hB.blk (h.new0 (by omega))).1
  have hcv := (m2.block hB.chn (h.new0 (by omega))).1
  have sv : V1.heap.size = w2.heap.size := by rw [hV1]; simp [World.setCell]
  have hM2 := m1.but hs2 (fun x hx e => hx (by rw [e]; exact z0))
  have hS2 : Stp o o w (V1.setCell ⟨w.heap.size, 0, none⟩ (.int .i64 (s.t + 1))) := ⟨((Stp.below h2).trans m2).but.step hs2 (fun x e => .inr (by rw [e]; exact Nat.le_refl _)), fun _ _ h => h, fun _ h => h⟩
  have hbv2 := hs2.heap hbv (by omega)
  have hcv2 := hs2.heap hcv (by omega)
  have hrv2 := blk_set (i := 0) hrv (.int .i64 (s.t + 1))
  have sv2 : (V1.setCell ⟨w.heap.size, 0, none⟩ (.int .i64 (s.t + 1))).heap.size = w2.heap.size := by simp [World.setCell]; exact sv
  obtain ⟨V2, hV2⟩ : ∃ V2, V2 = V1.setCell ⟨w.heap.size, 0, none⟩ (.int .i64 (s.t + 1)) := ⟨_, rfl⟩
  rw [← hV2] at hM2 hS2 hbv2 hcv2 hrv2 sv2 ⊢
  have h3 : Below V2.heap.size V2 (V2.alloc (.cells #[.pointer (some ⟨w1.heap.size + 1, 0, none⟩)] 106)) := (Below.refl _ V2).alloc (Nat.le_refl _) _
  refine ⟨hM2.below h3, hS2.trans (Stp.below h3), ?_, new_at _ _ _ sv2.symm, ⟨(h3.block _ (lt_of_heap hbv2)).trans hbv2, (h3.block _ (lt_of_heap hcv2)).trans hcv2⟩, ⟨z0, h.new0 h2.size, h.new0 (by omega), h.new0 (by omega)⟩, ⟨Nat.le_refl _, by omega, by omega⟩, ⟨rfl, .inl ⟨rfl, rfl⟩⟩, fun b hb => by simp [Value.ownBlock] at hb, ⟨rfl, .inl ⟨rfl, rfl⟩⟩, fun b hb => by simp [Value.ownBlock] at hb, fun b hb => by simp [Value.ownBlock] at hb, fun b hb => by simp [Value.ownBlock] at hb⟩
  exact (h3.block _ (lt_of_heap hrv2)).trans hrv2

theorem res_tick (tmps : Array Value) (w : World) (g : Nat) (cs : Array Value) (hp : tmps.getD 4 undef = .pointer (some ⟨g, 0, none⟩)) (hg : w.heap[g]? = some (.cells cs 55)) (hs : cs.size = 5) : (results Try.f30 tmps).run Try.prog w = .ok (.tuple #[.agg cs, tmps.getD 5 undef]) w := by
  rw [results_cell_tmp rfl, hp]
  have h := run_loadVar_row (P := Try.prog) w g 55 55 cs (0, 0) _ hg Try.underlying55 rfl (by rw [hs]; rfl)
  simp [asAddr, h, Result.andThen]
variable {o' : Nat → Nat} {rb pb bb cb l p : Nat} {rep : Array Value} {av fv : Value} {cn : List Int} {fm : List (Int × Int)}
theorem TkP.set (h : TkP o w wr xp kb sb fb cps s rb pb bb cb l p rep av fv cn fm o') (i : Nat) (u : Value) : TkP o w (wr.setCell ⟨rb, i, none⟩ u) xp kb sb fb cps s rb pb bb cb l p (rep.setIfInBounds i u) av fv cn fm o' := by
  have hs : But (fun x => x = rb) wr (wr.setCell ⟨rb, i, none⟩ u) := (But.refl (fun x => x = rb) wr).setCell (p := ⟨rb, i, none⟩) (.inl rfl) _
  have hne : ∀ {x : Nat} {cs : Array Value} {t : TypeId} {fz : Nat × Nat}, wr.heap[x]? = some (.cells cs t fz) → t ≠ 55 → ¬ x = rb := fun hx ht e => by rw [e, h.rep] at hx; simp at hx; exact ht hx.2.1.symm
  have hc : ¬ cb = rb := fun e => by have := h.bud.chn; rw [e, h.rep] at this; simp at this
  refine ⟨h.scr.but hs (fun x hx e => hx (by rw [e]; exact h.z.1)), ⟨h.stp.but.step hs (fun x e => .inr (by rw [e]; exact h.ge.1)), h.stp.ext, h.stp.four⟩, blk_set (i := i) h.rep u, hs.heap h.pv (hne h.pv (by decide)), ⟨hs.heap h.bud.blk (hne h.bud.blk (by decide)), hs.heap h.bud.chn hc⟩, h.z, h.ge, row_but h.adm hs (fun b hb e => ?_), h.az, row_but h.fir hs (fun b hb e => ?_), h.fz, h.ag, h.fg⟩
  · obtain ⟨cs, fz, hg⟩ := row_heap h.adm hb
    exact hne hg (by decide) e
  · obtain ⟨cs, fz, hg⟩ := row_heap h.fir hb
    exact hne hg (by decide) e
/-- Behind the deferred call. -/
theorem TkP.end {w1 : World} (h : TkP o w wr xp kb sb fb cps s rb pb bb cb l p rep av fv cn fm o') (hb : But (fun k => k = bb ∨ k = cb) wr w1) (u : Value) :
    ScrM o' (w1.setCell ⟨rb, 2, none⟩ u) xp kb sb fb cps s ∧ Stp o o' w (w1.setCell ⟨rb, 2, none⟩ u) ∧ OwnN (w1.setCell ⟨rb, 2, none⟩ u) 0 av cn ∧ Own2 (w1.setCell ⟨rb, 2, none⟩ u) 0 95 fv (fm.map k2) ∧ (w1.setCell ⟨rb, 2, none⟩ u).heap[rb]? = some (.cells (rep.setIfInBounds 2 u) 55 (0, 0)) := by
  have hs : But (fun x => x = rb ∨ x = bb ∨ x = cb) wr (w1.setCell ⟨rb, 2, none⟩ u) := (hb.wide (fun _ _ e => .inr e)).setCell (p := ⟨rb, 2, none⟩) (.inl (.inl rfl)) _
  have hrb : ¬ (rb = bb ∨ rb = cb) := by
    rintro (e | e)
    · have := h.bud.blk; rw [← e, h.rep] at this; simp at this
    · have := h.bud.chn; rw [← e, h.rep] at this; simp at this
  have hne : ∀ {x : Nat} {cs : Array Value} {t : TypeId} {fz : Nat × Nat}, wr.heap[x]? = some (.cells cs t fz) → t ≠ 55 → t ≠ 155 → ¬ (x = rb ∨ x = bb ∨ x = cb) := by
    rintro x cs t fz hx h1 h2 (e | e | e)
    · rw [e, h.rep] at hx; simp at hx; exact h1 hx.2.1.symm
    · have := h.bud.blk; rw [← e, hx] at this; simp at this; exact h2 this.2.1
    · have := h.bud.chn; rw [← e, hx] at this; simp at this
  obtain ⟨z1, z2, z3, z4⟩ := h.z
  refine ⟨h.scr.but hs (fun x hx e => ?_), ⟨h.stp.but.step hs (fun x e => .inr ?_), h.stp.ext, h.stp.four⟩, row_but h.adm hs (fun b hb => ?_), row_but h.fir hs (fun b hb => ?_), blk_set (i := 2) (hb.heap h.rep hrb) u⟩
  · rcases e with e | e | e <;> subst e <;> contradiction
  · rcases e with e | e | e
    · rw [e]; exact h.ge.1
    · rw [e]; exact h.ge.2.1
    · rw [e]; exact h.ge.2.2
  · obtain ⟨cs, fz, hg⟩ := row_heap h.adm hb
    exact hne hg (by decide) (by decide)
  · obtain ⟨cs, fz, hg⟩ := row_heap h.fir hb
    exact hne hg (by decide) (by decide)

set_option maxHeartbeats 4000000 in
theorem Tick_any (h : ScrM o w xp kb sb fb cps s) (hF : TickFine s) (b : Nat) (hb : b ≤ 9000000000000000000) :
    Calls Try.prog 30 #[.pointer (some ⟨xp, 0, none⟩), .int .i64 (b : Int)] w (TickPost o w xp kb sb fb cps s b) := by
  have hmf : ∀ (fn : Fn) (first cap : Array Value) (w : World), (Instr.makeFunc fn first cap).run Try.prog w = .ok (.func fn first cap) w := fun _ _ _ _ => rfl
  obtain ⟨w1, hw1⟩ : ∃ w1 : World, w1 = w.alloc (.cells #[.int .i64 0, .int .i64 0, .int .i64 0, .slice none 0 0, .slice none 0 0] 55) := ⟨_, rfl⟩
  have HNB := hide (NewBudget_any b w1)
  have HW1 := hide hw1
  have HH := hide h
  have HF := hide hF
  have b0 : ¬ (b : Int) < 0 := by omega
  have ht := hF.t
  have e1 : IntKind.i64.wrap (s.t + 1) = s.t + 1 := by rw [IntKind.wrap_i64]; omega
  have hbb9 := hb
  clear h hF hw1 hb
  go_enter_defers Try.func30, Try.ntmps30
  go_wp2_with (go_at_call 59; rw [← unhide HW1]; refine (unhide HNB).mono ?_; rintro e w2 ⟨rfl, hB2, hb2⟩
               have hI := TkI.begin (unhide HH) (unhide HW1) hB2 hb2
               have hbw : Below w.heap.size w w2 := (by rw [unhide HW1]; exact (Below.refl _ w).alloc (Nat.le_refl _) _ : Below w.heap.size w w1).trans (hb2.mono (by rw [unhide HW1]; simp))
               have hM2 := (unhide HH).below hbw
               have x11 := hM2.c11
               have x10 := hM2.c10
               have xz : ∀ t, w2.frozen? ⟨xp, t, none⟩ = false := fun t => blk_thaw hM2.blk t
               have lx := hM2.xlt
               have hr2 : w2.heap[w.heap.size]? = some (.cells #[.int .i64 0, .int .i64 0, .int .i64 0, .slice none 0 0, .slice none 0 0] 55) := by
                 have h1 : w1.heap[w.heap.size]? = some (.cells #[.int .i64 0, .int .i64 0, .int .i64 0, .slice none 0 0, .slice none 0 0] 55) := by rw [unhide HW1]; exact new_at _ _ _ rfl
                 exact (hb2.block _ (lt_of_heap h1)).trans h1
               have r0 : w2.cell? ⟨w.heap.size, 0, none⟩ = some (.int .i64 0) := blk_cell hr2 0
               have rz : ∀ t, w2.frozen? ⟨w.heap.size, t, none⟩ = false := fun t => blk_thaw hr2 t
               have lr := lt_of_heap hr2
               have hxr : ¬ xp = w.heap.size := by have := (unhide HH).xlt; omega
               have HI := hide hI
               clear hB2 hb2 hI hbw hM2 hr2)
  refine (tk_flip (unhide HI)).mono ?_
  rintro e w3 ⟨fv, o3, rfl, hI3⟩
  obtain ⟨fa, fc, hfv⟩ := row_slice hI3.fir
  obtain ⟨fn, hfn⟩ : ∃ fn, fn = ((flipF s.f).2.2.map k2).length := ⟨_, rfl⟩
  rw [← hfn] at hfv
  subst hfv
  obtain ⟨rb, hrb⟩ : ∃ rb, rb = w.heap.size := ⟨_, rfl⟩
  obtain ⟨pb, hpb⟩ : ∃ pb, pb = w2.heap.size := ⟨_, rfl⟩
  obtain ⟨cb, hcb⟩ : ∃ cb, cb = w1.heap.size := ⟨_, rfl⟩
  obtain ⟨bb, hbb⟩ : ∃ bb, bb = w1.heap.size + 1 := ⟨_, rfl⟩
  rw [← hbb, ← hcb, ← hpb, ← hrb] at hI3
  rw [← hbb, ← hpb, ← hrb]
  obtain ⟨fl, hfl⟩ : ∃ fl, fl = (flipF s.f).2.1 := ⟨_, rfl⟩
  rw [← hfl]
  have y1 : w3.cell? ⟨rb, 1, none⟩ = some (.int .i64 0) := blk_cell hI3.rep 1
  have y4 : w3.cell? ⟨rb, 4, none⟩ = some (.slice none 0 0) := blk_cell hI3.rep 4
  have yz : ∀ t, w3.frozen? ⟨rb, t, none⟩ = false := fun t => blk_thaw hI3.rep t
  have HI4 := hide ((hI3.set 1 (.int .i64 fl)).set 4 (.slice fa fn fc))
  have HFN := hide hfn
  have HFL := hide hfl
  have HRB := hide hrb
  clear hI3 HI x11 x10 xz lx r0 rz lr hxr HNB HW1 HH hfn hfl hrb hpb hcb hbb
  go_wp2
  obtain ⟨W4, hW4⟩ : ∃ W4, W4 = (w3.setCell ⟨rb, 1, none⟩ (.int .i64 fl)).setCell ⟨rb, 4, none⟩ (.slice fa fn fc) := ⟨_, rfl⟩
  rw [← hW4] at HI4 ⊢
  have x10 := (unhide HI4).scr.c10
  have x9 := (unhide HI4).scr.c9
  have HSL := hide (tk_slide (unhide HI4).drew (unhide HF))
  clear hW4 y1 y4 yz
  go_region_held3 (fun w' => w'.cell? ⟨xp, 10, none⟩ = some (.pointer (some ⟨fb, 0, none⟩)) ∧ w'.cell? ⟨xp, 9, none⟩ = some (.pointer (some ⟨sb, 0, none⟩))) (first | exact unhide HY | exact unhide HX | exact ⟨x10, x9⟩ | go_keep)
    (first
      | (go_at_call 63
         refine (unhide HSL).mono ?_
         rintro e w5 ⟨v5, rfl, hx, hcd⟩
         have HX := hide hx
         have HD5 := hide hcd
         clear hx hcd)
      | (go_at_call 56
         refine (unhide HD5).mono ?_
         rintro e w6 ⟨⟨u6, rfl⟩, hy, hI6⟩
         have HY := hide hy
         have HI6 := hide hI6
         clear hy hI6))
  have HAD := hide (tk_admit (unhide HI6) (unhide HF))
  clear HSL HI4 HX HD5 x10 x9 HI6 HY
  go_wp2_with (go_at_call 64; refine (unhide HAD).mono ?_; rintro e w7 ⟨aa, an, ac, o7, rfl, hI7⟩
               have y3 : w7.cell? ⟨rb, 3, none⟩ = some (.slice none 0 0) := blk_cell hI7.rep 3
               have yz : ∀ t, w7.frozen? ⟨rb, t, none⟩ = false := fun t => blk_thaw hI7.rep t
               have HI7 := hide (hI7.set 3 (.slice aa an ac))
               clear hI7)
  obtain ⟨W8, hW8⟩ : ∃ W8, W8 = w7.setCell ⟨rb, 3, none⟩ (.slice aa an ac) := ⟨_, rfl⟩
  rw [← hW8] at HI7 ⊢
  have x10 := (unhide HI7).scr.c10
  have x9 := (unhide HI7).scr.c9
  have x11 : W8.cell? ⟨xp, 11, none⟩ = some (.int .i64 (s.t + 1)) := (unhide HI7).scr.c11
  have HBG := hide (tk_begin (unhide HI7).drew (unhide HF))
  clear hW8 y3 yz HAD
  go_region_held3 (fun w' => w'.cell? ⟨xp, 10, none⟩ = some (.pointer (some ⟨fb, 0, none⟩)) ∧ w'.cell? ⟨xp, 9, none⟩ = some (.pointer (some ⟨sb, 0, none⟩)) ∧ w'.cell? ⟨xp, 11, none⟩ = some (.int .i64 (s.t + 1))) (first | exact unhide HY | exact ⟨x10, x9, x11⟩ | go_keep)
    ((go_at_call 65
      refine (unhide HBG).mono ?_
      rintro e w9 ⟨⟨u9, rfl⟩, hy, o9, hI9⟩
      have HY := hide hy
      have HI9 := hide hI9
      clear hy hI9))
  have HPT := hide (tk_paint (unhide HI9).drew (unhide HF) hbb9)
  have z10 := (unhide HI9).scr.c10
  have zpb : w9.cell? ⟨pb, 0, none⟩ = some (.pointer (some ⟨bb, 0, none⟩)) := blk_cell (unhide HI9).pv 0
  clear HBG HI7 x10 x9 x11 HY
  go_wp2_with fail
  go_region_held3 (fun w' => w'.cell? ⟨xp, 10, none⟩ = some (.pointer (some ⟨fb, 0, none⟩)) ∧ w'.cell? ⟨pb, 0, none⟩ = some (.pointer (some ⟨bb, 0, none⟩))) (first | exact unhide HZ | exact ⟨z10, zpb⟩ | go_keep)
    ((go_at_call 67
      refine (unhide HPT).mono ?_
      rintro e wA ⟨⟨uA, rfl⟩, hz, hIA⟩
      have HZ := hide hz
      have HIA := hide hIA
      clear hz hIA))
  clear HPT HI9 z10 zpb HZ
  have hrep := (unhide HIA).rep
  have q0 : wA.cell? ⟨rb, 0, none⟩ = some (.int .i64 (s.t + 1)) := blk_cell hrep 0
  have q1 : wA.cell? ⟨rb, 1, none⟩ = some (.int .i64 fl) := blk_cell hrep 1
  have q2 : wA.cell? ⟨rb, 2, none⟩ = some (.int .i64 0) := blk_cell hrep 2
  have q3 : wA.cell? ⟨rb, 3, none⟩ = some (.slice aa an ac) := blk_cell hrep 3
  have q4 : wA.cell? ⟨rb, 4, none⟩ = some (.slice fa fn fc) := blk_cell hrep 4
  have qz : ∀ t, wA.frozen? ⟨rb, t, none⟩ = false := fun t => blk_thaw hrep t
  clear hrep
  go_wp2
  have hT := ((((((unhide HIA).set 0 (.int .i64 (s.t + 1))).set 1 (.int .i64 fl)).set 2 (.int .i64 0)).set 3 (.slice aa an ac)).set 4 (.slice fa fn fc))
  refine leaves_cons (f := 60) (args := #[.pointer (some ⟨pb, 0, none⟩), .pointer (some ⟨rb, 0, none⟩)]) (by simp) (by simp [go_sem]) ?_
  refine (tick1_d .returning hT.pv hT.bud hT.rep (by simp)).mono ?_
  rintro e u' w'' ⟨rfl, rfl, wB, hbB, rfl⟩
  obtain ⟨e1, e2, e3, e4, e5⟩ := hT.end hbB (.int .i64 (tickP s b : Int))
  refine ⟨_, res_tick _ _ rb _ (by kernel_rfl) e5 (by simp), ?_⟩
  refine ⟨_, _, _, ?_, e1, e2, e3, fun k hk => ⟨hT.az k hk, hT.ag k hk⟩, e4, fun k hk => ⟨hT.fz k hk, hT.fg k hk⟩⟩
  rw [← unhide HFL]
  kernel_rfl
end
end Go.Proofs.Ytfnockbgkcgpkaa
set_option linter.all false
namespace Go.Proofs.Ytfnockbgkcgpkaa
open Go.RowKit Go.Proofs.Panes
set_option maxRecDepth 100000

theorem run_equal_nil_ptr {P : Program} (t e : TypeId) (a : Addr) (d : Nat) (h : P.underlying t = some (.pointer e)) (u : World) : (Op.equalIn (d + 1) t (.pointer none) (.pointer (some a))).run P u = .ok false u := by
  simp [Op.equalIn, run_underlying h]
theorem run_eql_nil_ptr {P : Program} {e : TypeId} (t : TypeId) (a : Addr) (h : P.underlying t = some (.pointer e)) (u : World) : (binOp .eql t (.pointer none) (.pointer (some a))).run P u = .ok (.bool false) u := by
  have hh : (Op.equal t (.pointer none) (.pointer (some a))).run P u = .ok false u := run_equal_nil_ptr t e a 9999 h u
  simp only [binOp]
  simp [hh]
/-- The least number that none has. -/
def firstNone {α : Type} : List (Option α) → Option Nat
  | [] => none
  | none :: _ => some 0
  | some _ :: l => (firstNone l).map (· + 1)
theorem firstNone_some {α : Type} : ∀ (l : List (Option α)) (k : Nat), (∀ (i : Nat) (d : Option α), i < k → l[i]? = some d → d ≠ none) → l[k]? = some none → firstNone l = some k
  | [], k, _, h => by simp at h
  | none :: l, 0, _, h => rfl
  | some d :: l, 0, _, h => by simp at h
  | none :: l, k + 1, hb, h => absurd rfl (hb 0 none (by omega) rfl)
  | some d :: l, k + 1, hb, h => by
    have ih := firstNone_some l k (fun i x hi hx => hb (i + 1) x (by omega) (by simpa using hx)) (by simpa using h)
    simp [firstNone, ih]
theorem firstNone_none {α : Type} : ∀ (l : List (Option α)), (∀ (i : Nat) (d : Option α), l[i]? = some d → d ≠ none) → firstNone l = none
  | [], _ => rfl
  | none :: l, hb => absurd rfl (hb 0 none rfl)
  | some d :: l, hb => by
    have ih := firstNone_none l (fun i x hx => hb (i + 1) x (by simpa using hx))
    simp [firstNone, ih]
theorem firstNone_at {α : Type} : ∀ (l : List (Option α)) (k : Nat), firstNone l = some k → l[k]? = some none
  | [], k, h => by simp [firstNone] at h
  | none :: l, k, h => by simp [firstNone] at h; subst h; rfl
  | some d :: l, k, h => by
    simp only [firstNone, Option.map_eq_some_iff] at h
    obtain ⟨q, hq, rfl⟩ := h
    simpa using firstNone_at l q hq
theorem firstNone_same {α β : Type} : ∀ (l : List (Option α)) (m : List (Option β)), l.length = m.length → (∀ j : Nat, l[j]? = some none ↔ m[j]? = some none) → firstNone l = firstNone m
  | [], [], _, _ => rfl
  | [], _ :: _, h, _ => by simp at h
  | _ :: _, [], h, _ => by simp at h
  | none :: l, x :: m, h, hh => by
    have := (hh 0).1 rfl
    simp at this
    subst this
    rfl
  | some a :: l, none :: m, h, hh => by
    have := (hh 0).2 rfl
    simp at this
  | some a :: l, some b :: m, h, hh => by
    have ih := firstNone_same l m (by simpa using h) (fun j => by simpa using hh (j + 1))
    simp [firstNone, ih]
theorem KsM.none_iff {o : Nat → Nat} {w : World} {S : Nat} {cps : List (Option Nat)} {ks : List (Option Cli)} (h : KsM o w S cps ks) (j : Nat) : cps[j]? = some none ↔ ks[j]? = some none := by
  refine ⟨fun hc => ?_, h.no j⟩
  have hl := (List.getElem?_eq_some_iff.1 hc).1
  rw [h.len] at hl
  cases hk : ks[j]? with
  | none => rw [List.getElem?_eq_getElem hl] at hk; cases hk
  | some x =>
    cases x with
    | none => rfl
    | some k =>
      obtain ⟨cp, h1, _⟩ := h.yes j k hk
      rw [hc] at h1; simp at h1
theorem KsM.first {o : Nat → Nat} {w : World} {S : Nat} {cps : List (Option Nat)} {ks : List (Option Cli)} (h : KsM o w S cps ks) : firstNone cps = firstNone ks := firstNone_same cps ks h.len h.none_iff
set_option maxHeartbeats 2000000 in
theorem pindex_any (kb : Nat) (ps : List (Option Nat)) (w : World) (hc : ∀ (j : Nat) (o : Option Nat), ps[j]? = some o → w.cell? ⟨kb, j, none⟩ = some (pptr o)) (hl : ps.length ≤ 1000) :
    Calls Try.prog 79 #[.slice (some ⟨kb, 0, none⟩) ps.length ps.length, .pointer none] w fun e w' => ∃ n : Int, e = .returned (.int .i64 n) ∧ (∃ q, w' = w.drewN q) ∧ ((firstNone ps = none ∧ n = -1) ∨ ∃ k : Nat, firstNone ps = some k ∧ n = (k : Int)) := by
  have HC := hide hc
  clear hc
  go_enter Try.func79, Try.ntmps79
  go_wp2
  go_loopw [8] (fun i wr => ∃ k : Nat, k ≤ ps.length ∧ i = .int .i64 k ∧ (∃ q, wr = w.drewN q) ∧ ∀ (i : Nat) (d : Option Nat), i < k → ps[i]? = some d → d ≠ none) (fun i _ => ps.length - (intOf i).toNat)
  case atStart => exact ⟨0, Nat.zero_le _, rfl, ⟨0, rfl⟩, fun i d hi => by omega⟩
  case round =>
    obtain ⟨k, hk, rfl, ⟨q, rfl⟩, hall⟩ := hrel
    have hall' := hide hall
    clear hall
    by_cases hlt : k < ps.length
    · obtain ⟨d, hd⟩ : ∃ d, ps[k]? = some d := ⟨ps[k], by simp [hlt]⟩
      have b0 : (w.drewN q).cell? ⟨kb, k, none⟩ = some (pptr d) := (unhide HC) k d hd
      have i0 : (0 : Int) ≤ (k : Int) := by omega
      have i1 : (k : Int) < (ps.length : Int) := by omega
      have HD := hide hd
      clear hd
      cases d with
      | none =>
        unfold pptr at b0
        simp only [Option.map_none] at b0
        go_wp2
        go_ret
        exact ⟨k, rfl, ⟨q, rfl⟩, .inr ⟨k, firstNone_some ps k (unhide hall') (unhide HD), rfl⟩⟩
      | some cp =>
        unfold pptr at b0
        simp only [Option.map_some] at b0
        have qn : ∀ u : World, (binOp .eql 97 (.pointer none) (.pointer (some ⟨cp, 0, none⟩))).run Try.prog u = .ok (.bool false) u := fun u => by
          exact run_eql_nil_ptr _ _ Try.underlying97 u
        go_wp2
        go_roundw
        case rel =>
          refine ⟨k + 1, by omega, by go_num, ⟨_, rfl⟩, fun i x hi hx => ?_⟩
          rcases Nat.lt_or_ge i k with c | c
          · exact (unhide hall') i x c hx
          · have e : i = k := by omega
            subst e
            rw [unhide HD] at hx
            cases hx
            exact fun h => by cases h
        case measure => simp [intOf]; omega
    · have i1 : ¬ (k : Int) < (ps.length : Int) := by omega
      go_wp2
      go_ret
      refine ⟨-1, rfl, ⟨q, rfl⟩, .inl ⟨firstNone_none ps fun i d hd => (unhide hall') i d ?_ hd, rfl⟩⟩
      have := (List.getElem?_eq_some_iff.1 hd).1
      omega
/-- Is a client of this number connected? -/
def conK {α : Type} (ks : List (Option α)) (n : Int) : Bool := decide (0 ≤ n) && (match ks[n.toNat]? with | some (some _) => true | _ => false)
section
variable {o : Nat → Nat} {w : World} {xp kb sb fb : Nat} {cps : List (Option Nat)} {s : Scrn}
theorem KsM.con {S : Nat} {ks : List (Option Cli)} (h : KsM o w S cps ks) (n : Int) : conK cps n = conK ks n := by
  unfold conK
  congr 1
  cases hk : ks[n.toNat]? with
  | none =>
    have : cps[n.toNat]? = none := by
      rw [List.getElem?_eq_none_iff] at hk ⊢
      rw [h.len]; exact hk
    rw [this]
  | some x =>
    cases x with
    | none => rw [h.no _ hk]
    | some k => obtain ⟨cp, h1, _⟩ := h.yes _ k hk; rw [h1]
set_option maxHeartbeats 2000000 in
theorem connected_any (h : ScrM o w xp kb sb fb cps s) (hl : cps.length ≤ 4) (n : Int) :
    Calls Try.prog 54 #[.pointer (some ⟨xp, 0, none⟩), .int .i64 n] w fun e w' => e = .returned (.bool (conK s.ks n)) ∧ Below w.heap.size w w' := by
  have c8 := h.c8
  have hat : ∀ (j : Nat) (d : Option Nat), cps[j]? = some d → w.cell? ⟨kb, j, none⟩ = some (pptr d) := fun j d hd => by rw [blk_cell h.cls]; simp [hd]
  rw [← h.ks.con]
  have hw : IntKind.i64.wrap ((cps.length : Int) - 1) = (cps.length : Int) - 1 := by rw [IntKind.wrap_i64]; omega
  have CW : Hid (∀ w, Calls Try.prog 80 #[.int .i64 n, .int .i64 0, .int .i64 ((cps.length : Int) - 1)] w fun e w' => e = .returned (.bool (inB n 0 ((cps.length : Int) - 1))) ∧ w' = w) := fun w => within_any _ _ _ w
  by_cases hin : inB n 0 ((cps.length : Int) - 1) = true
  · have hb := hin
    unfold inB at hb
    simp only [Bool.and_eq_true, decide_eq_true_eq] at hb
    obtain ⟨j, rfl⟩ : ∃ j : Nat, n = j := ⟨n.toNat, by omega⟩
    obtain ⟨d, hd⟩ : ∃ d, cps[j]? = some d := ⟨cps[j]'(by omega), by simp⟩
    have a0 := hat j d hd
    have e : conK cps (j : Int) = d.isSome := by simp [conK, hd]; cases d <;> rfl
    have i0 : (0 : Int) ≤ (j : Int) := by omega
    have i1 : (j : Int) < (cps.length : Int) := by omega
    rw [hin] at CW
    rw [e]
    clear h hd e hb hin hat
    cases d with
    | none =>
      unfold pptr at a0
      simp only [Option.map_none] at a0
      go_enter Try.func54, Try.ntmps54
      go_wp2_with (go_at_call 80; refine ((unhide CW) _).mono ?_; rintro e w' ⟨rfl, rfl⟩)
      go_ret
      exact ⟨rfl, Below.refl _ _⟩
    | some cp =>
      unfold pptr at a0
      simp only [Option.map_some] at a0
      go_enter Try.func54, Try.ntmps54
      go_wp2_with (go_at_call 80; refine ((unhide CW) _).mono ?_; rintro e w' ⟨rfl, rfl⟩)
      go_ret
      exact ⟨rfl, Below.refl _ _⟩
  · have hin' : inB n 0 ((cps.length : Int) - 1) = false := by simpa using hin
    have e : conK cps n = false := by
      unfold inB at hin'
      unfold conK
      by_cases h0 : 0 ≤ n
      · have : ¬ n.toNat < cps.length := by
          intro hlt
          simp only [Bool.and_eq_false_iff, decide_eq_false_iff_not] at hin'
          omega
        rw [List.getElem?_eq_none (by omega)]
        simp
      · simp [h0]
    rw [hin'] at CW
    rw [e]
    clear h e hin hin' hat
    go_enter Try.func54, Try.ntmps54
    go_wp2_with (go_at_call 80; refine ((unhide CW) _).mono ?_; rintro e w' ⟨rfl, rfl⟩)
    go_ret
    exact ⟨rfl, Below.refl _ _⟩

set_option maxHeartbeats 2000000 in
/-- A budget below 0. -/
theorem Tick_neg (w : World) (xp : Nat) (b : Int) (hb : b < 0) :
    Calls Try.prog 30 #[.pointer (some ⟨xp, 0, none⟩), .int .i64 b] w fun e w' => e = .returned (.tuple #[.agg #[.int .i64 0, .int .i64 0, .int .i64 0, .slice none 0 0, .slice none 0 0], .int .i64 3]) ∧ Below w.heap.size w w' := by
  have hB : Below w.heap.size w (w.alloc (.cells #[.int .i64 0, .int .i64 0, .int .i64 0, .slice none 0 0, .slice none 0 0] 55)) := (Below.refl _ w).alloc (Nat.le_refl _) _
  have HB := hide hB
  clear hB
  go_enter Try.func30, Try.ntmps30
  go_wp2
  refine bodyPost_ret (res_tick _ _ w.heap.size #[.int .i64 0, .int .i64 0, .int .i64 0, .slice none 0 0, .slice none 0 0] (by kernel_rfl) ?_ rfl) rfl ⟨by kernel_rfl, ?_⟩
  · have h1 := new_at w (.cells #[.int .i64 0, .int .i64 0, .int .i64 0, .slice none 0 0, .slice none 0 0] 55) _ rfl
    first | exact h1 | simpa using blk_set (i := 4) (blk_set (i := 3) (blk_set (i := 2) (blk_set (i := 1) (blk_set (i := 0) h1 (.int .i64 0)) (.int .i64 0)) (.int .i64 0)) (.slice none 0 0)) (.slice none 0 0)
  · first | exact unhide HB | exact ((((((unhide HB).setCell (p := ⟨w.heap.size, 0, none⟩) (Nat.le_refl _) _).setCell (p := ⟨w.heap.size, 1, none⟩) (Nat.le_refl _) _).setCell (p := ⟨w.heap.size, 2, none⟩) (Nat.le_refl _) _).setCell (p := ⟨w.heap.size, 3, none⟩) (Nat.le_refl _) _).setCell (p := ⟨w.heap.size, 4, none⟩) (Nat.le_refl _) _)

set_option maxHeartbeats 2000000 in
theorem FrontS_any (h : ScrM o w xp kb sb fb cps s) (hfr : s.f.front < 3) (hn : s.f.W * s.f.H ≤ 1000) :
    Calls Try.prog 32 #[.pointer (some ⟨xp, 0, none⟩)] w (FrontPost w (s.f.b s.f.front).px) := by
  obtain ⟨v, hv⟩ := h.frs
  have a10 := h.c10
  have HF := hide (Front_any hv hfr hn)
  generalize (s.f.b s.f.front).px = px at *
  clear h hv
  go_enter Try.func32, Try.ntmps32
  go_wp2_with (go_at_call 68; refine (unhide HF).mono ?_; rintro e w' ⟨fv, rfl, hp⟩; have HP := hide hp; clear hp)
  go_ret
  exact ⟨_, rfl, unhide HP⟩
end
end Go.Proofs.Ytfnockbgkcgpkaa
set_option linter.all false
namespace Go.Proofs.Ytfnockbgkcgpkaa
open Go.RowKit Go.Proofs.Panes
set_option maxRecDepth 100000

/-- A client at first. -/
def newC (c : Cfg) : Cli := ⟨[], 0, List.replicate c.surfaces.toNat false⟩
def ccells : Array Value := #[.slice none 0 0, .int .i64 0, .bool false, .bool false, .bool false, .bool false]
section
variable {o : Nat → Nat} {w : World} {xp kb sb fb : Nat} {cps : List (Option Nat)} {s : Scrn}
theorem ScrM.connect (h : ScrM o w xp kb sb fb cps s) {k : Nat} (hk : s.ks[k]? = some none) (hS : s.c.surfaces.toNat ≤ 4) :
    ∃ o', ScrM o' ((w.setCell ⟨kb, k, none⟩ (.pointer (some ⟨w.heap.size, 0, none⟩))).alloc (.cells ccells 126)) xp kb sb fb (cps.set k (some w.heap.size)) { s with ks := s.ks.set k (some (newC s.c)) } ∧ Stp o o' w ((w.setCell ⟨kb, k, none⟩ (.pointer (some ⟨w.heap.size, 0, none⟩))).alloc (.cells ccells 126)) := by
  obtain ⟨W, hW⟩ : ∃ W, W = (w.setCell ⟨kb, k, none⟩ (.pointer (some ⟨w.heap.size, 0, none⟩))).alloc (.cells ccells 126) := ⟨_, rfl⟩
  rw [← hW]
  have hb : But (fun x => x = kb) w W := by rw [hW]; exact ((But.refl (fun x => x = kb) w).setCell (p := ⟨kb, k, none⟩) (.inl rfl) _).alloc _
  have hn : W.heap[w.heap.size]? = some (.cells ccells 126) := by rw [hW]; exact new_at _ _ _ (by simp [World.setCell])
  have hkl := (List.getElem?_eq_some_iff.1 hk).1
  have hcl : W.heap[kb]? = some (.cells ((cps.set k (some w.heap.size)).map pptr).toArray 97 (0, 0)) := by
    have := blk_alloc (blk_set (i := k) h.cls (.pointer (some ⟨w.heap.size, 0, none⟩))) (.cells ccells 126)
    rw [hW, List.map_set]
    simpa [pptr] using this
  have z0 := h.new0 (x := w.heap.size) (Nat.le_refl _)
  refine ⟨fun x => if x = w.heap.size then 5 + k else o x, ?_, .of hb (fun x _ e => by rw [e, h.okb]; omega) (fun x hx hn => ?_) (fun x hx => ?_)⟩
  · have hkeep : ∀ x, o x ≠ 0 → (if x = w.heap.size then 5 + k else o x) = o x := fun x hx => by rw [if_neg (fun e => hx (by rw [e]; exact z0))]
    refine ⟨?_, hcl, ⟨by rw [List.length_set, List.length_set]; exact h.ks.len, fun j hj => ?_, fun j c hj => ?_⟩, ?_, ?_, ?_, ?_, fun x hx => ?_⟩
    · rw [List.length_set]
      exact hb.heap h.blk (fun e => h.xk e)
    · by_cases e : j = k
      · subst e; rw [List.getElem?_set_self hkl] at hj; simp at hj
      · rw [List.getElem?_set_ne (Ne.symm e)] at hj ⊢
        exact h.ks.no j hj
    · by_cases e : j = k
      · subst e
        rw [List.getElem?_set_self hkl] at hj
        simp only [Option.some.injEq] at hj
        subst hj
        refine ⟨w.heap.size, by rw [List.getElem?_set_self (by rw [h.ks.len]; exact hkl)], .slice none 0 0, [], [false, false, false, false], ?_, ⟨rfl, .inl ⟨rfl, rfl⟩⟩, fun t ht => by simp at ht, rfl, rfl, ?_, by simp, fun g hg => by simp [Value.ownBlock] at hg⟩
        · exact hn
        · show [false, false, false, false].take s.c.surfaces.toNat = List.replicate s.c.surfaces.toNat false
          rw [show [false, false, false, false] = List.replicate 4 false from rfl, List.take_replicate, Nat.min_eq_left hS]
      · rw [List.getElem?_set_ne (Ne.symm e)] at hj ⊢
        obtain ⟨cp, q1, q2⟩ := h.ks.yes j c hj
        refine ⟨cp, q1, (q2.but hb (fun x hx e => by rw [e, h.okb] at hx; omega) (fun x hx e => by rw [e, h.okb] at hx; omega)).mono (fun x hx => ?_) (fun x hx => ?_)⟩
        · show (if x = w.heap.size then 5 + k else o x) = 5 + j
          rw [hkeep x (by omega)]; exact hx
        · show (if x = w.heap.size then 5 + k else o x) = 4
          rw [hkeep x (by omega)]; exact hx
    · refine (h.scn.but hb (fun x hx e => by rw [e, h.okb] at hx; omega) (fun x hx e => by rw [e, h.okb] at hx; omega)).mono (fun x hx => ?_) (fun x hx => ?_)
      · show (if x = w.heap.size then 5 + k else o x) = 2
        rw [hkeep x (by omega)]; exact hx
      · show (if x = w.heap.size then 5 + k else o x) = 4
        rw [hkeep x (by omega)]; exact hx
    · obtain ⟨v, hv⟩ := h.frs
      refine ⟨v, (hv.but hb (fun x hx e => by rw [e, h.okb] at hx; omega)).mono (fun x hx => ?_)⟩
      show (if x = w.heap.size then 5 + k else o x) = 3
      rw [hkeep x (by omega)]; exact hx
    · show (if xp = w.heap.size then 5 + k else o xp) = 1
      rw [hkeep xp (by rw [h.oxp]; omega)]; exact h.oxp
    · show (if kb = w.heap.size then 5 + k else o kb) = 1
      rw [hkeep kb (by rw [h.okb]; omega)]; exact h.okb
    · by_cases e : x = w.heap.size
      · rw [e]; exact lt_of_heap hn
      · simp only [e, if_false] at hx
        exact Nat.lt_of_lt_of_le (h.lt x hx) hb.size
  · have e : ¬ x = w.heap.size := by omega
    simp only [e, if_false] at hn
    exact hn
  · show (if x = w.heap.size then 5 + k else o x) = 4
    rw [if_neg (fun e => by rw [e, z0] at hx; omega)]; exact hx

/-- What Connect leaves. -/
def ConPost (o : Nat → Nat) (w : World) (xp kb sb fb : Nat) (s : Scrn) (e : Ending) (w' : World) : Prop :=
  (∃ (k : Nat) (o' : Nat → Nat) (cps' : List (Option Nat)), firstNone s.ks = some k ∧ e = .returned (.tuple #[.int .i64 (k : Int), .int .i64 0]) ∧ ScrM o' w' xp kb sb fb cps' { s with ks := s.ks.set k (some (newC s.c)) } ∧ Stp o o' w w') ∨ (firstNone s.ks = none ∧ e = .returned (.tuple #[.int .i64 0, .int .i64 5]) ∧ Below w.heap.size w w')

set_option maxHeartbeats 4000000 in
theorem Connect_any (h : ScrM o w xp kb sb fb cps s) (hl : s.ks.length ≤ 4) (hS : s.c.surfaces.toNat ≤ 4) :
    Calls Try.prog 51 #[.pointer (some ⟨xp, 0, none⟩)] w (ConPost o w xp kb sb fb s) := by
  have hcl4 : cps.length ≤ 4 := by rw [h.ks.len]; exact hl
  have c8 := h.c8
  have hfst := h.ks.first
  have hat : ∀ (j : Nat) (d : Option Nat), cps[j]? = some d → w.cell? ⟨kb, j, none⟩ = some (pptr d) := fun j d hd => by rw [blk_cell h.cls]; simp [hd]
  have HI := hide (pindex_any kb cps w hat (by omega))
  have HH := hide h
  have HFS := hide hfst
  have HAT := hide hat
  clear h hfst hat
  go_enter Try.func51, Try.ntmps51
  go_wp2_with fail
  refine (unhide HI).mono ?_
  rintro e w1 ⟨n, rfl, ⟨q, rfl⟩, hn⟩
  clear HI
  rcases hn with ⟨hn, rfl⟩ | ⟨k, hn, rfl⟩
  · have HN := hide hn
    clear hn
    go_wp2
    go_ret2
    exact .inr ⟨by rw [← unhide HFS]; exact unhide HN, rfl, below_drewN (Below.refl _ _) _⟩
  · have hat := firstNone_at cps k hn
    have hkl := (List.getElem?_eq_some_iff.1 hat).1
    have hks : s.ks[k]? = some none := (unhide HH).ks.none_iff k |>.1 hat
    have hkb := lt_of_heap (unhide HH).cls
    have a0 : (w.drewN q).cell? ⟨kb, k, none⟩ = some (.pointer none) := (unhide HAT) k _ hat
    have az : ∀ t, (w.drewN q).frozen? ⟨kb, t, none⟩ = false := blk_thaw (unhide HH).cls
    have d8 : (w.drewN q).cell? ⟨xp, 8, none⟩ = some (.slice (some ⟨kb, 0, none⟩) cps.length cps.length) := c8
    have i0 : (0 : Int) ≤ (k : Int) := by omega
    have i1 : (k : Int) < (cps.length : Int) := by omega
    have i2 : ¬ (k : Int) < 0 := by omega
    have HN := hide hn
    have HKS := hide hks
    have hkb' : kb < (w.drewN q).heap.size := hkb
    have hH1 := (unhide HH).below (below_drewN (Below.refl _ w) q)
    have hB1 : Stp o o w (w.drewN q) := Stp.below (below_drewN (Below.refl _ w) q)
    clear hn hat c8 hks
    generalize w.drewN q = w1 at *
    have az1 : ∀ (t : Nat) (ob : Obj), (w1.alloc ob).frozen? ⟨kb, t, none⟩ = false := fun t ob => (World.frozen?_of_block (w := w1) (Below.heap_alloc _ _ _ hkb')).trans (az t)
    have HH1 := hide hH1
    have HB1 := hide hB1
    clear hH1 hB1 i2
    go_wp2
    go_ret2
    obtain ⟨o', e1, e2⟩ := (unhide HH1).connect (unhide HKS) hS
    exact .inl ⟨k, o', _, by rw [← unhide HFS]; exact unhide HN, rfl, e1, (unhide HB1).trans e2⟩

/-- A client is gone. -/
theorem ScrM.gone (h : ScrM o w xp kb sb fb cps s) (k : Nat) : ScrM o (w.setCell ⟨kb, k, none⟩ (.pointer none)) xp kb sb fb (cps.set k none) { s with ks := s.ks.set k none } ∧ Stp o o w (w.setCell ⟨kb, k, none⟩ (.pointer none)) := by
  have hb : But (fun x => x = kb) w (w.setCell ⟨kb, k, none⟩ (.pointer none)) := (But.refl (fun x => x = kb) w).setCell (p := ⟨kb, k, none⟩) (.inl rfl) _
  have hne : ∀ x, o x ≠ 1 → ¬ x = kb := fun x hx e => hx (by rw [e]; exact h.okb)
  refine ⟨⟨by rw [List.length_set]; exact hb.heap h.blk (fun e => h.xk e), ?_, ⟨by rw [List.length_set, List.length_set]; exact h.ks.len, fun j hj => ?_, fun j c hj => ?_⟩, h.scn.but hb (fun x hx => hne x (by omega)) (fun x hx => hne x (by omega)), ?_, h.oxp, h.okb, fun x hx => Nat.lt_of_lt_of_le (h.lt x hx) hb.size⟩, .of hb (fun x _ e => by rw [e, h.okb]; omega) (fun _ _ h => h) (fun _ h => h)⟩
  · have := blk_set (i := k) h.cls (.pointer none)
    rw [this, List.map_set]
    simp [pptr]
  · by_cases e : j = k
    · subst e
      have hl := (List.getElem?_eq_some_iff.1 hj).1
      rw [List.length_set] at hl
      rw [List.getElem?_set_self (by rw [h.ks.len]; exact hl)]
    · rw [List.getElem?_set_ne (Ne.symm e)] at hj ⊢
      exact h.ks.no j hj
  · by_cases e : j = k
    · subst e
      have hl := (List.getElem?_eq_some_iff.1 hj).1
      rw [List.length_set] at hl
      rw [List.getElem?_set_self hl] at hj
      simp at hj
    · rw [List.getElem?_set_ne (Ne.symm e)] at hj ⊢
      obtain ⟨cp, q1, q2⟩ := h.ks.yes j c hj
      exact ⟨cp, q1, q2.but hb (fun x hx => hne x (by omega)) (fun x hx => hne x (by omega))⟩
  · obtain ⟨v, hv⟩ := h.frs
    exact ⟨v, hv.but hb (fun x hx => hne x (by omega))⟩
/-- The screen without a client. -/
def discS (s : Scrn) (k : Nat) : Scrn := { s with ks := s.ks.set k none, l := s.l.filter (fun x => !(x.cl == (k : Int))), f := forgetF (damL s.f ((s.l.filter fun x => x.cl == (k : Int)).flatMap lvDmg)) k }
structure DiscFine (s : Scrn) (k : Nat) : Prop where
  len : s.l.length ≤ 1000
  wd : 1 ≤ s.f.W ∧ s.f.W ≤ 16
  ht : 1 ≤ s.f.H ∧ s.f.H ≤ 16
  rc : ∀ r ∈ (s.l.filter fun x => x.cl == (k : Int)).flatMap lvDmg, RcOk r
  rl : ((s.l.filter fun x => x.cl == (k : Int)).flatMap lvDmg).length ≤ 1000000
  ml : (damL s.f ((s.l.filter fun x => x.cl == (k : Int)).flatMap lvDmg)).marks.length ≤ 1000000000
  fl : ∀ g, (damL s.f ((s.l.filter fun x => x.cl == (k : Int)).flatMap lvDmg)).frame = some g → g.marks.length ≤ 1000000000
def DiscPost (o : Nat → Nat) (w : World) (xp kb sb fb : Nat) (s : Scrn) (k : Nat) (e : Ending) (w' : World) : Prop := ∃ (o' : Nat → Nat) (cps' : List (Option Nat)), e = .returned (.int .i64 0) ∧ ScrM o' w' xp kb sb fb cps' (discS s k) ∧ Stp o o' w w'
set_option maxHeartbeats 4000000 in
theorem Disconnect_none (h : ScrM o w xp kb sb fb cps s) (hl : s.ks.length ≤ 4) (n : Int) (hn : conK s.ks n = false) :
    Calls Try.prog 29 #[.pointer (some ⟨xp, 0, none⟩), .int .i64 n] w fun e w' => e = .returned (.int .i64 3) ∧ Below w.heap.size w w' := by
  have hC := connected_any h (by rw [h.ks.len]; exact hl) n
  rw [hn] at hC
  have HC := hide hC
  clear h hC hn
  go_enter Try.func29, Try.ntmps29
  go_wp2_with (go_at_call 54; refine (unhide HC).mono ?_; rintro e w' ⟨rfl, hb⟩; have HB := hide hb; clear hb)
  go_ret
  exact ⟨rfl, unhide HB⟩
set_option maxHeartbeats 4000000 in
theorem Disconnect_some (h : ScrM o w xp kb sb fb cps s) (hl : s.ks.length ≤ 4) (k : Nat) (hn : conK s.ks (k : Int) = true) (hF : DiscFine s k) :
    Calls Try.prog 29 #[.pointer (some ⟨xp, 0, none⟩), .int .i64 (k : Int)] w (DiscPost o w xp kb sb fb s k) := by
  have hcl4 : cps.length ≤ 4 := by rw [h.ks.len]; exact hl
  have hkl : k < cps.length := by
    rw [← h.ks.con] at hn
    unfold conK at hn
    simp only [Int.toNat_natCast, Bool.and_eq_true] at hn
    cases hc : cps[k]? with
    | none => rw [hc] at hn; simp at hn
    | some x => exact (List.getElem?_eq_some_iff.1 hc).1
  have hC := connected_any h (by omega) (k : Int)
  rw [hn] at hC
  have HC := hide hC
  have HH := hide h
  have HF := hide hF
  have i0 : (0 : Int) ≤ (k : Int) := by omega
  have i1 : (k : Int) < (cps.length : Int) := by omega
  clear h hC hn hF
  go_enter Try.func29, Try.ntmps29
  go_wp2_with (go_at_call 54; refine (unhide HC).mono ?_; rintro e w1 ⟨rfl, hb⟩
               have hM1 := (unhide HH).below hb
               have a8 := hM1.c8
               have az : ∀ t, w1.frozen? ⟨kb, t, none⟩ = false := blk_thaw hM1.cls
               obtain ⟨pv, hpv⟩ : ∃ pv, w1.cell? ⟨kb, k, none⟩ = some pv := ⟨_, (blk_cell hM1.cls k).trans (by rw [List.getElem?_toArray, List.getElem?_map, List.getElem?_eq_getElem hkl]; rfl)⟩
               have HB := hide (Stp.below (o := o) hb)
               have HM1 := hide hM1
               clear hb hM1)
  obtain ⟨m1, m2⟩ := (unhide HM1).gone k
  have hst := (unhide HB).trans m2
  clear a8 az hpv HB HM1 HC
  generalize w1.setCell ⟨kb, k, none⟩ (.pointer none) = w2 at *
  have x10 := m1.c10
  have x9 := m1.c9
  have hLV : Calls Try.prog 57 #[.pointer (some ⟨sb, 0, none⟩), .int .i64 (k : Int)] w2.drew fun e w' => ∃ v, e = .returned v ∧ (w'.cell? ⟨xp, 10, none⟩ = some (.pointer (some ⟨fb, 0, none⟩)) ∧ w'.cell? ⟨xp, 9, none⟩ = some (.pointer (some ⟨sb, 0, none⟩))) ∧ Calls Try.prog 56 #[.pointer (some ⟨fb, 0, none⟩), v] w' fun e w3 => (∃ u, e = .returned u) ∧ (w3.cell? ⟨xp, 10, none⟩ = some (.pointer (some ⟨fb, 0, none⟩)) ∧ w3.cell? ⟨xp, 9, none⟩ = some (.pointer (some ⟨sb, 0, none⟩))) ∧ Calls Try.prog 58 #[.pointer (some ⟨fb, 0, none⟩), .int .i64 (k : Int)] w3 fun e w4 => (∃ u, e = .returned u) ∧ ∃ (o' : Nat → Nat) (cps' : List (Option Nat)), ScrM o' w4 xp kb sb fb cps' (discS s k) ∧ Stp o o' w w4 := by
    have hF := unhide HF
    have hd : Below w2.heap.size w2 w2.drew := (Below.refl _ w2).drew
    refine (scr_leave (m1.below hd) hF.len (k : Int)).mono ?_
    rintro e w' ⟨v, o2, h1, h2, h3, h4, h5⟩
    refine ⟨v, h1, ⟨h2.c10, h2.c9⟩, (scr_damage h2 hF.wd hF.ht h3 h4 hF.rc hF.rl).mono ?_⟩
    rintro e w3 ⟨g1, g2, g3⟩
    refine ⟨g1, ⟨g2.c10, g2.c9⟩, (scr_forget g2 (k : Int) hF.ml hF.fl).mono ?_⟩
    rintro e w4 ⟨q1, q2, q3⟩
    exact ⟨q1, o2, _, q2, (((hst.trans (Stp.below hd)).trans h5).trans g3).trans q3⟩
  have HLV := hide hLV
  clear hLV m1 m2 hst
  go_region_held3 (fun w' => w'.cell? ⟨xp, 10, none⟩ = some (.pointer (some ⟨fb, 0, none⟩)) ∧ w'.cell? ⟨xp, 9, none⟩ = some (.pointer (some ⟨sb, 0, none⟩))) (first | exact unhide HY | exact unhide HX | exact ⟨x10, x9⟩ | go_keep)
    (first
      | (go_at_call 57
         refine (unhide HLV).mono ?_
         rintro e w5 ⟨v5, rfl, hx, hcd⟩
         have HX := hide hx
         have HD5 := hide hcd
         clear hx hcd)
      | (go_at_call 56
         refine (unhide HD5).mono ?_
         rintro e w6 ⟨⟨u6, rfl⟩, hy, hcf⟩
         have z10 := hy.1
         have HY := hide hy
         have HD6 := hide hcf
         clear hy hcf))
  clear HLV HX HD5 x10 x9 HY
  go_wp2_with (go_at_call 58; refine (unhide HD6).mono ?_; rintro e w7 ⟨⟨u7, rfl⟩, hE⟩; have HE := hide hE; clear hE)
  go_ret
  obtain ⟨o', cps', h1, h2⟩ := unhide HE
  exact ⟨o', cps', rfl, h1, h2⟩
end
end Go.Proofs.Ytfnockbgkcgpkaa
set_option linter.all false
namespace Go.Proofs.Ytfnockbgkcgpkaa
open Go.RowKit Go.Proofs.Panes
set_option maxRecDepth 100000

/-- What Submit says to a client's transaction. -/
def subCode (c : Cfg) (k : Cli) (ops : List Opn) : Int :=
  if inB ops.length 1 20 = false then 3 else match vall k.own ops with
    | none => 3
    | some _ => if c.most < costOf ops then 3 else if c.queue ≤ (k.q.length : Int) then 4 else 0
/-- The client when it waits. -/
def subC (k : Cli) (ops : List Opn) : Cli := { k with q := k.q ++ [ops.map stripO], own := (vall k.own ops).getD k.own }
theorem costOf_strip (ops : List Opn) : costOf (ops.map stripO) = costOf ops := by
  unfold costOf
  rw [List.length_map, List.map_map]
  congr 2
  refine List.map_congr_left fun x _ => ?_
  simp only [Function.comp, ocost, stripO]
  by_cases h : x.kind = 3 <;> simp [h]
section
variable {o : Nat → Nat} {w : World} {xp kb sb fb : Nat} {cps : List (Option Nat)} {s : Scrn}
def SubPost (o : Nat → Nat) (w : World) (xp kb sb fb : Nat) (cps : List (Option Nat)) (s : Scrn) (k : Nat) (cl : Cli) (ops : List Opn) (w' : World) : Prop :=
  (subCode s.c cl ops = 0 ∧ ∃ o', ScrM o' w' xp kb sb fb cps { s with ks := s.ks.set k (some (subC cl ops)) } ∧ Stp o o' w w') ∨ (subCode s.c cl ops ≠ 0 ∧ Below w.heap.size w w')
theorem ScrM.submitted (h : ScrM o w xp kb sb fb cps s) {k cp : Nat} {cl : Cli} (hk : s.ks[k]? = some (some cl)) (hcp : cps[k]? = some (some cp)) {qv : Value} {mq : List (Value × List Opn)} {b : List Bool} (hM : KlM (fun x => o x = 5 + k) (fun x => o x = 4) w cp s.c.surfaces.toNat cl qv mq b) {w' : World} {ops : List Opn} {pq' ov : Value} {x : List Bool} (hx4 : x.length = 4) {will : List Bool} (hv : vall cl.own ops = some will) (hx : x.take s.c.surfaces.toNat = will) (hS : Subd w w' cp qv cl.cr 0 mq.length pq' x (c2 (mq.map qcell)) ops ov) :
    ∃ o', ScrM o' w' xp kb sb fb cps { s with ks := s.ks.set k (some (subC cl ops)) } ∧ Stp o o' w w' := by
  have hkl := (List.getElem?_eq_some_iff.1 hk).1
  have hwr : ∀ y, (y = cp ∨ qv.ownBlock = some y) → o y = 5 + k := by
    rintro y (e | e)
    · rw [e]; exact hM.cc
    · exact hM.cq y e
  have hT : ∀ y, o y ≠ 5 + k → ¬ (y = cp ∨ qv.ownBlock = some y) := fun y hy e => hy (hwr y e)
  obtain ⟨o', ho'⟩ : ∃ o' : Nat → Nat, o' = fun y => if o y ≠ 0 then o y else if w.heap.size ≤ y ∧ y < w'.heap.size then (if pq'.ownBlock = some y then 5 + k else 4) else 0 := ⟨_, rfl⟩
  have keep : ∀ y, o y ≠ 0 → o' y = o y := fun y hy => by rw [ho']; simp only [if_pos hy]
  have new4 : ∀ y, w.heap.size ≤ y → y < w'.heap.size → pq'.ownBlock ≠ some y → o' y = 4 := fun y h1 h2 h3 => by rw [ho']; simp only [h.new0 h1]; simp [h1, h2, h3]
  have newq : ∀ y, w.heap.size ≤ y → y < w'.heap.size → pq'.ownBlock = some y → o' y = 5 + k := fun y h1 h2 h3 => by rw [ho']; simp only [h.new0 h1]; simp [h1, h2, h3]
  have hb := hS.but
  refine ⟨o', ⟨hb.heap h.blk (hT _ (by rw [h.oxp]; omega)), hb.heap h.cls (hT _ (by rw [h.okb]; omega)), ⟨by rw [List.length_set]; exact h.ks.len, fun j hj => ?_, fun j c hj => ?_⟩, ?_, ?_, by rw [keep _ (by rw [h.oxp]; omega)]; exact h.oxp, by rw [keep _ (by rw [h.okb]; omega)]; exact h.okb, fun y hy => ?_⟩, .of hb (fun y _ e => by have := hwr y e; omega) (fun y hy hn => ?_) (fun y hy => by rw [keep y (by omega)]; exact hy)⟩
  · by_cases e : j = k
    · subst e; rw [List.getElem?_set_self hkl] at hj; simp at hj
    · rw [List.getElem?_set_ne (Ne.symm e)] at hj
      exact h.ks.no j hj
  · by_cases e : j = k
    · subst e
      rw [List.getElem?_set_self hkl] at hj
      simp only [Option.some.injEq] at hj
      subst hj
      refine ⟨cp, hcp, pq', mq ++ [(ov, ops.map stripO)], x, ?_, ?_, ?_, ?_, hx4, ?_, by rw [keep cp (by rw [hM.cc]; omega)]; exact hM.cc, fun g hg => ?_⟩
      · exact hS.cell
      · have := hS.row
        have e2 : (mq ++ [(ov, ops.map stripO)]).map qcell = mq.map qcell ++ [(ov, .int .i64 (costOf ops))] := by simp [qcell, costOf_strip]
        rw [e2]
        unfold Own2
        rw [c2_append]
        simpa [c2] using this
      · intro t ht
        rcases List.mem_append.1 ht with ht | ht
        · exact ((hM.ops t ht).but hb (fun y hy => hT y (by omega))).wide (fun y hy => by show o' y = 4; rw [keep y (by omega)]; exact hy)
        · simp at ht
          subst ht
          exact hS.rd.lt.wide (fun y hy => new4 y hy.1.1 hy.2 hy.1.2)
      · rw [List.map_append, hM.q]; rfl
      · show x.take _ = (vall cl.own ops).getD cl.own
        rw [hv]; exact hx
      · have hlt := (World.ownsRow.lt hS.row g hg).2
        rcases hS.lies g hg with e | e
        · rw [keep g (by rw [hM.cq g e]; omega)]; exact hM.cq g e
        · exact newq g e hlt hg
    · rw [List.getElem?_set_ne (Ne.symm e)] at hj
      obtain ⟨cp2, q1, q2⟩ := h.ks.yes j c hj
      exact ⟨cp2, q1, (q2.but hb (fun y hy => hT y (by omega)) (fun y hy => hT y (by omega))).mono (fun y hy => by show o' y = 5 + j; rw [keep y (by omega)]; exact hy) (fun y hy => by show o' y = 4; rw [keep y (by omega)]; exact hy)⟩
  · exact (h.scn.but hb (fun y hy => hT y (by omega)) (fun y hy => hT y (by omega))).mono (fun y hy => by show o' y = 2; rw [keep y (by omega)]; exact hy) (fun y hy => by show o' y = 4; rw [keep y (by omega)]; exact hy)
  · obtain ⟨v, hv⟩ := h.frs
    exact ⟨v, (hv.but hb (fun y hy => hT y (by omega))).mono (fun y hy => by show o' y = 3; rw [keep y (by omega)]; exact hy)⟩
  · by_cases e : o y ≠ 0
    · exact Nat.lt_of_lt_of_le (h.lt y e) hb.size
    · rw [ho'] at hy
      simp only [if_neg e] at hy
      by_cases e2 : w.heap.size ≤ y ∧ y < w'.heap.size
      · exact e2.2
      · simp [e2] at hy
  · by_cases e : o y ≠ 0
    · exact e
    · rw [ho'] at hn
      simp only [if_neg e] at hn
      have : ¬ (w.heap.size ≤ y ∧ y < w'.heap.size) := by omega
      simp [this] at hn

theorem scr_submit (h : ScrM o w xp kb sb fb cps s) {k cp : Nat} {cl : Cli} (hk : s.ks[k]? = some (some cl)) (hcp : cps[k]? = some (some cp)) (hS : (s.c.surfaces.toNat : Int) = s.c.surfaces ∧ 1 ≤ s.c.surfaces.toNat ∧ s.c.surfaces.toNat ≤ 4) (hq : cl.q.length ≤ 100000) (U : Nat → Prop) (ao : Option Addr) (cap : Nat) (ops : List Opn) (hR : RdO U w (.slice ao ops.length cap) ops) (hU : ∀ y, U y → y < w.heap.size) (hlen : ops.length ≤ 1759218604390) (hpx : ∀ x ∈ ops, x.px.length ≤ 17592186043904) :
    Calls Try.prog 55 #[.pointer (some ⟨cp, 0, none⟩), .slice ao ops.length cap, cval s.c] w fun e w' => e = .returned (.int .i64 (subCode s.c cl ops)) ∧ SubPost o w xp kb sb fb cps s k cl ops w' := by
  obtain ⟨cp', q1, qv, mq, b, hM⟩ := h.ks.yes k cl hk
  rw [hcp] at q1
  simp only [Option.some.injEq] at q1
  subst q1
  have hml : mq.length = cl.q.length := by rw [← hM.q]; simp
  match b, hM.bl with
  | [b0, b1, b2, b3], _ =>
    have hrow := hM.row
    unfold Own2 at hrow
    rw [List.length_map] at hrow
    have hown : [b0, b1, b2, b3].take s.c.surfaces.toNat = cl.own := hM.own
    refine (csubmit_any U cp qv cl.cr b0 b1 b2 b3 0 mq.length (c2 (mq.map qcell)) s.c s.c.surfaces.toNat ao cap ops w hM.cell hrow (Nat.zero_le _) (by omega) hS.1.symm hS.2 hR hlen hpx hU).mono ?_
    rintro e w' ⟨code, rfl, hh⟩
    rw [hown] at hh
    rcases hh with ⟨h1, rfl, h3⟩ | ⟨h1, ⟨h2, rfl, h3⟩ | ⟨will, h2, ⟨h3, rfl, h4⟩ | ⟨h3, h4, rfl, h5⟩ | ⟨h3, h4, rfl, pq', x, ov, h5, h6, h7⟩⟩⟩
    · have e : subCode s.c cl ops = 3 := by simp [subCode, h1]
      exact ⟨by rw [e], .inr ⟨by rw [e]; omega, h3⟩⟩
    · have e : subCode s.c cl ops = 3 := by simp [subCode, h1, h2]
      exact ⟨by rw [e], .inr ⟨by rw [e]; omega, h3⟩⟩
    · have e : subCode s.c cl ops = 3 := by simp [subCode, h1, h2, h3]
      exact ⟨by rw [e], .inr ⟨by rw [e]; omega, h4⟩⟩
    · rw [hml] at h4
      have e : subCode s.c cl ops = 4 := by simp [subCode, h1, h2, h4]; omega
      exact ⟨by rw [e], .inr ⟨by rw [e]; omega, h5⟩⟩
    · rw [hml] at h4
      have e : subCode s.c cl ops = 0 := by simp [subCode, h1, h2]; omega
      exact ⟨by rw [e], .inl ⟨e, h.submitted hk hcp hM h5 h2 h6 h7⟩⟩
end
end Go.Proofs.Ytfnockbgkcgpkaa
set_option linter.all false
namespace Go.Proofs.Ytfnockbgkcgpkaa
open Go.RowKit Go.Proofs.Panes
set_option maxRecDepth 100000

section
variable {o : Nat → Nat} {w : World} {xp kb sb fb : Nat} {cps : List (Option Nat)} {s : Scrn}
theorem con_of {ks : List (Option Cli)} {k : Nat} {cl : Cli} (h : ks[k]? = some (some cl)) : conK ks (k : Int) = true := by simp [conK, h]
theorem con_not {ks : List (Option Cli)} {n : Int} (h : conK ks n = true) : ∃ (k : Nat) (cl : Cli), n = k ∧ ks[k]? = some (some cl) := by
  unfold conK at h
  simp only [Bool.and_eq_true, decide_eq_true_eq] at h
  refine ⟨n.toNat, ?_⟩
  cases hk : ks[n.toNat]? with
  | none => rw [hk] at h; simp at h
  | some x =>
    cases x with
    | none => rw [hk] at h; simp at h
    | some cl => exact ⟨cl, by omega, rfl⟩
set_option maxHeartbeats 4000000 in
theorem Submit_none (h : ScrM o w xp kb sb fb cps s) (hl : s.ks.length ≤ 4) (n : Int) (hn : conK s.ks n = false) (v : Value) :
    Calls Try.prog 28 #[.pointer (some ⟨xp, 0, none⟩), .int .i64 n, v] w fun e w' => e = .returned (.int .i64 3) ∧ Below w.heap.size w w' := by
  have hC := connected_any h (by rw [h.ks.len]; exact hl) n
  rw [hn] at hC
  have HC := hide hC
  clear h hC hn
  go_enter Try.func28, Try.ntmps28
  go_wp2_with (go_at_call 54; refine (unhide HC).mono ?_; rintro e w' ⟨rfl, hb⟩; have HB := hide hb; clear hb)
  go_ret
  exact ⟨rfl, unhide HB⟩
theorem ScrM.subcells (h : ScrM o w xp kb sb fb cps s) {k cp : Nat} (hcp : cps[k]? = some (some cp)) : w.cell? ⟨xp, 0, none⟩ = some (.int .i64 s.c.w) ∧ w.cell? ⟨xp, 1, none⟩ = some (.int .i64 s.c.h) ∧ w.cell? ⟨xp, 2, none⟩ = some (.int .i64 s.c.clients) ∧ w.cell? ⟨xp, 3, none⟩ = some (.int .i64 s.c.queue) ∧ w.cell? ⟨xp, 4, none⟩ = some (.int .i64 s.c.most) ∧ w.cell? ⟨xp, 5, none⟩ = some (.int .i64 s.c.quantum) ∧ w.cell? ⟨xp, 6, none⟩ = some (.int .i64 s.c.surfaces) ∧ w.cell? ⟨xp, 7, none⟩ = some (.int .i64 s.c.behind) ∧ w.cell? ⟨xp, 8, none⟩ = some (.slice (some ⟨kb, 0, none⟩) cps.length cps.length) ∧ w.cell? ⟨kb, k, none⟩ = some (.pointer (some ⟨cp, 0, none⟩)) := by
  refine ⟨blk_cell h.blk 0, blk_cell h.blk 1, blk_cell h.blk 2, blk_cell h.blk 3, blk_cell h.blk 4, blk_cell h.blk 5, blk_cell h.blk 6, blk_cell h.blk 7, h.c8, ?_⟩
  rw [blk_cell h.cls]
  simp [hcp, pptr]
set_option maxHeartbeats 4000000 in
theorem Submit_some (h : ScrM o w xp kb sb fb cps s) (hl : s.ks.length ≤ 4) {k : Nat} {cl : Cli} (hk : s.ks[k]? = some (some cl)) (hS : (s.c.surfaces.toNat : Int) = s.c.surfaces ∧ 1 ≤ s.c.surfaces.toNat ∧ s.c.surfaces.toNat ≤ 4) (hq : cl.q.length ≤ 100000) (U : Nat → Prop) (ao : Option Addr) (cap : Nat) (ops : List Opn) (hR : RdO U w (.slice ao ops.length cap) ops) (hU : ∀ y, U y → y < w.heap.size) (hlen : ops.length ≤ 1759218604390) (hpx : ∀ x ∈ ops, x.px.length ≤ 17592186043904) :
    Calls Try.prog 28 #[.pointer (some ⟨xp, 0, none⟩), .int .i64 (k : Int), .slice ao ops.length cap] w fun e w' => e = .returned (.int .i64 (subCode s.c cl ops)) ∧ SubPost o w xp kb sb fb cps s k cl ops w' := by
  have hC := connected_any h (by rw [h.ks.len]; exact hl) (k : Int)
  rw [con_of hk] at hC
  obtain ⟨cp, hcp, _⟩ := h.ks.yes k cl hk
  have hkl := (List.getElem?_eq_some_iff.1 hcp).1
  have hSub : ∀ W : World, Below w.heap.size w W → Calls Try.prog 55 #[.pointer (some ⟨cp, 0, none⟩), .slice ao ops.length cap, cval s.c] W fun e w' => e = .returned (.int .i64 (subCode s.c cl ops)) ∧ SubPost o w xp kb sb fb cps s k cl ops w' ∧ w'.cell? ⟨xp, 0, none⟩ = some (.int .i64 s.c.w) ∧ w'.cell? ⟨xp, 1, none⟩ = some (.int .i64 s.c.h) ∧ w'.cell? ⟨xp, 2, none⟩ = some (.int .i64 s.c.clients) ∧ w'.cell? ⟨xp, 3, none⟩ = some (.int .i64 s.c.queue) ∧ w'.cell? ⟨xp, 4, none⟩ = some (.int .i64 s.c.most) ∧ w'.cell? ⟨xp, 5, none⟩ = some (.int .i64 s.c.quantum) ∧ w'.cell? ⟨xp, 6, none⟩ = some (.int .i64 s.c.surfaces) ∧ w'.cell? ⟨xp, 7, none⟩ = some (.int .i64 s.c.behind) ∧ w'.cell? ⟨xp, 8, none⟩ = some (.slice (some ⟨kb, 0, none⟩) cps.length cps.length) ∧ w'.cell? ⟨kb, k, none⟩ = some (.pointer (some ⟨cp, 0, none⟩)) := fun W hb => by
    refine (scr_submit (h.below hb) hk hcp hS hq U ao cap ops (hR.below hb) (fun y hy => Nat.lt_of_lt_of_le (hU y hy) hb.size) hlen hpx).mono ?_
    rintro e w' ⟨h1, h2⟩
    rcases h2 with ⟨e0, o', g1, g2⟩ | ⟨e0, g1⟩
    · exact ⟨h1, .inl ⟨e0, o', g1, (Stp.below hb).trans g2⟩, g1.subcells hcp⟩
    · exact ⟨h1, .inr ⟨e0, hb.trans (g1.mono hb.size)⟩, ((h.below hb).below g1).subcells hcp⟩
  have hcel : ∀ W : World, Below w.heap.size w W → W.cell? ⟨xp, 0, none⟩ = some (.int .i64 s.c.w) ∧ W.cell? ⟨xp, 1, none⟩ = some (.int .i64 s.c.h) ∧ W.cell? ⟨xp, 2, none⟩ = some (.int .i64 s.c.clients) ∧ W.cell? ⟨xp, 3, none⟩ = some (.int .i64 s.c.queue) ∧ W.cell? ⟨xp, 4, none⟩ = some (.int .i64 s.c.most) ∧ W.cell? ⟨xp, 5, none⟩ = some (.int .i64 s.c.quantum) ∧ W.cell? ⟨xp, 6, none⟩ = some (.int .i64 s.c.surfaces) ∧ W.cell? ⟨xp, 7, none⟩ = some (.int .i64 s.c.behind) ∧ W.cell? ⟨xp, 8, none⟩ = some (.slice (some ⟨kb, 0, none⟩) cps.length cps.length) ∧ W.cell? ⟨kb, k, none⟩ = some (.pointer (some ⟨cp, 0, none⟩)) := fun W hb => (h.below hb).subcells hcp
  unfold cval at hSub
  obtain ⟨code, hcode⟩ : ∃ code, code = subCode s.c cl ops := ⟨_, rfl⟩
  rw [← hcode] at hSub ⊢
  have HC := hide hC
  have HSub := hide hSub
  have HCel := hide hcel
  have i0 : (0 : Int) ≤ (k : Int) := by omega
  have i1 : (k : Int) < (cps.length : Int) := by omega
  clear h hC hSub hcel hR hk hcp hcode
  go_enter Try.func28, Try.ntmps28
  go_wp2_with (go_at_call 54; refine (unhide HC).mono ?_; rintro e w1 ⟨rfl, hb⟩
               have HX := hide ((unhide HCel) w1.drew hb.drew)
               have HB := hide hb
               clear hb)
  go_region_held3 (fun w' => w'.cell? ⟨xp, 0, none⟩ = some (.int .i64 s.c.w) ∧ w'.cell? ⟨xp, 1, none⟩ = some (.int .i64 s.c.h) ∧ w'.cell? ⟨xp, 2, none⟩ = some (.int .i64 s.c.clients) ∧ w'.cell? ⟨xp, 3, none⟩ = some (.int .i64 s.c.queue) ∧ w'.cell? ⟨xp, 4, none⟩ = some (.int .i64 s.c.most) ∧ w'.cell? ⟨xp, 5, none⟩ = some (.int .i64 s.c.quantum) ∧ w'.cell? ⟨xp, 6, none⟩ = some (.int .i64 s.c.surfaces) ∧ w'.cell? ⟨xp, 7, none⟩ = some (.int .i64 s.c.behind) ∧ w'.cell? ⟨xp, 8, none⟩ = some (.slice (some ⟨kb, 0, none⟩) cps.length cps.length) ∧ w'.cell? ⟨kb, k, none⟩ = some (.pointer (some ⟨cp, 0, none⟩))) (first | exact unhide HY | exact unhide HX | go_keep)
    ((go_at_call 55
      refine ((unhide HSub) w1.drew (unhide HB).drew).mono ?_
      rintro e w2 ⟨rfl, hp, hy⟩
      have HY := hide hy
      have HP := hide hp
      clear hy hp))
  go_wp2
  go_ret
  exact ⟨rfl, unhide HP⟩
end
end Go.Proofs.Ytfnockbgkcgpkaa
set_option linter.all false
namespace Go.Proofs.Ytfnockbgkcgpkaa
open Go.RowKit Go.Proofs.Panes
set_option maxRecDepth 100000

/-- A surface is within its bounds, as far as B. -/
structure SrfB (B : Int) (s : Srf) : Prop where
  w0 : 0 ≤ s.w ∧ s.w ≤ 8
  h0 : 0 ≤ s.h ∧ s.h ≤ 8
  px : (s.px.length : Int) = s.w * s.h
  lf : 0 ≤ s.left ∧ s.left ≤ 20
  dd : (-4 ≤ s.dx ∧ s.dx ≤ 4) ∧ (-4 ≤ s.dy ∧ s.dy ≤ 4)
  xb : -B ≤ s.x - 4 * s.left ∧ s.x + 4 * s.left ≤ B
  yb : -B ≤ s.y - 4 * s.left ∧ s.y + 4 * s.left ≤ B
theorem SrfB.mono {B B' : Int} {s : Srf} (h : SrfB B s) (hB : B ≤ B') : SrfB B' s := by
  have := h.xb; have := h.yb
  exact ⟨h.w0, h.h0, h.px, h.lf, h.dd, by omega, by omega⟩
theorem SrfB.ok {B : Int} {s : Srf} (h : SrfB B s) (hB : B ≤ 100000000000000) : SrfOk s := by
  have := h.xb; have := h.yb; have := h.lf
  exact ⟨h.w0.1, h.w0.2, h.h0.1, h.h0.2, h.px, by omega, by omega⟩
theorem SrfB.sl {B : Int} {s : Srf} (h : SrfB B s) (hB : B ≤ 100000000000000) : SlOk s := by
  have := h.xb; have := h.yb; have := h.lf; have := h.dd
  exact ⟨by omega, by omega, by omega⟩
theorem SrfB.rc {B : Int} {s : Srf} (h : SrfB B s) (hB : B ≤ 100000000000000) : RcOk ⟨s.x, s.y, s.w, s.h⟩ := by
  have := h.xb; have := h.yb; have := h.lf
  exact ⟨by simp only; omega, by simp only; omega, h.w0, h.h0⟩
theorem SrfB.go {B : Int} {s : Srf} (h : SrfB B s) : SrfB B (goS s) := by
  unfold goS
  split
  · exact h
  · rename_i hl
    have := h.xb; have := h.yb; have := h.lf; have := h.dd
    exact ⟨h.w0, h.h0, h.px, by simp only; omega, h.dd, by simp only; omega, by simp only; omega⟩
theorem zrc_ok : RcOk zrc := by unfold RcOk zrc; simp

/-- Different numbers below m are not more than m. -/
theorem nodup_lt : ∀ (m : Nat) (l : List Nat), l.Nodup → (∀ x ∈ l, x < m) → l.length ≤ m
  | 0, l, _, h => by
    cases l with
    | nil => simp
    | cons a l => have := h a (by simp); omega
  | m + 1, l, hn, h => by
    have h1 : (l.erase m).length ≤ m := nodup_lt m (l.erase m) (hn.sublist List.erase_sublist) (fun x hx => by
      have h2 := h x (List.mem_of_mem_erase hx)
      have h3 : x ≠ m := fun e => by subst e; exact (hn.not_mem_erase) hx
      omega)
    by_cases hm : m ∈ l
    · rw [List.length_erase_of_mem hm] at h1; omega
    · rw [List.erase_of_not_mem hm] at h1; omega
/-- The scene is within its bounds. -/
structure ScOk (K S : Nat) (B : Int) (l : List Srf) : Prop where
  nd : (l.map skey).Nodup
  ky : ∀ s ∈ l, (0 ≤ s.cl ∧ s.cl < (K : Int)) ∧ (0 ≤ s.num ∧ s.num < (S : Int))
  sf : ∀ s ∈ l, SrfB B s
theorem ScOk.len {K S : Nat} {B : Int} {l : List Srf} (h : ScOk K S B l) : l.length ≤ K * S := by
  have h1 := nodup_lt (K * S) ((l.map skey).map fun k => k.1.toNat * S + k.2.toNat) ?_ ?_
  · simpa using h1
  · rw [List.map_map, List.nodup_iff_pairwise_ne, List.pairwise_map]
    have hp := h.nd
    rw [List.nodup_iff_pairwise_ne, List.pairwise_map] at hp
    refine List.Pairwise.imp_of_mem (fun {a b} ha hb hne => ?_) hp
    have ka := h.ky a ha
    have kb := h.ky b hb
    intro e
    apply hne
    simp only [Function.comp, skey] at e ⊢
    have e1 : a.num.toNat < S := by omega
    have e2 : b.num.toNat < S := by omega
    have q1 : a.cl.toNat = b.cl.toNat := by
      have : (a.cl.toNat * S + a.num.toNat) / S = (b.cl.toNat * S + b.num.toNat) / S := by rw [e]
      rw [Nat.mul_comm, Nat.mul_add_div (by omega), Nat.div_eq_of_lt e1, Nat.mul_comm b.cl.toNat, Nat.mul_add_div (by omega), Nat.div_eq_of_lt e2] at this
      omega
    rw [q1] at e
    have q2 : a.num.toNat = b.num.toNat := by omega
    exact Prod.ext (by simp only; omega) (by simp only; omega)
  · intro x hx
    rw [List.map_map] at hx
    obtain ⟨s, hs, rfl⟩ := List.mem_map.1 hx
    have ks := h.ky s hs
    simp only [Function.comp, skey]
    have e1 : s.num.toNat < S := by omega
    have e2 : s.cl.toNat + 1 ≤ K := by omega
    have := Nat.mul_le_mul_right S e2
    rw [Nat.add_mul, Nat.one_mul] at this
    omega
theorem ScOk.mono {K S : Nat} {B B' : Int} {l : List Srf} (h : ScOk K S B l) (hB : B ≤ B') : ScOk K S B' l := ⟨h.nd, h.ky, fun s hs => (h.sf s hs).mono hB⟩
theorem ScOk.go {K S : Nat} {B : Int} {l : List Srf} (h : ScOk K S B l) : ScOk K S B (l.map goS) := by
  have e : (l.map goS).map skey = l.map skey := by rw [List.map_map]; exact List.map_congr_left fun s _ => goS_key s
  refine ⟨by rw [e]; exact h.nd, fun s hs => ?_, fun s hs => ?_⟩
  · obtain ⟨t, ht, rfl⟩ := List.mem_map.1 hs
    have hk := goS_key t
    simp only [skey, Prod.mk.injEq] at hk
    rw [hk.1, hk.2]; exact h.ky t ht
  · obtain ⟨t, ht, rfl⟩ := List.mem_map.1 hs
    exact (h.sf t ht).go
theorem ScOk.sub {K S : Nat} {B : Int} {l m : List Srf} (h : ScOk K S B l) (hm : m.Sublist l) : ScOk K S B m := ⟨h.nd.sublist (hm.map skey), fun s hs => h.ky s (hm.subset hs), fun s hs => h.sf s (hm.subset hs)⟩
theorem ScOk.perm {K S : Nat} {B : Int} {l m : List Srf} (h : ScOk K S B l) (hm : m.Perm l) : ScOk K S B m := ⟨(hm.map skey).nodup_iff.2 h.nd, fun s hs => h.ky s (hm.mem_iff.1 hs), fun s hs => h.sf s (hm.mem_iff.1 hs)⟩
theorem ScOk.put {K S : Nat} {B : Int} {l : List Srf} (h : ScOk K S B l) {s u : Srf} (hs : s ∈ l) (hk : skey u = skey s) (hu : SrfB B u) : ScOk K S B (putS l u) := by
  refine ⟨by rw [putS_keys]; exact h.nd, fun t ht => ?_, fun t ht => ?_⟩
  · rcases putS_mem ht with rfl | ⟨ht, _⟩
    · simp only [skey, Prod.mk.injEq] at hk
      rw [hk.1, hk.2]; exact h.ky s hs
    · exact h.ky t ht
  · rcases putS_mem ht with rfl | ⟨ht, _⟩
    · exact hu
    · exact h.sf t ht

/-- What okArgs says. -/
theorem okArgs_pos {o : Opn} (h : okArgs o = true) (hk : o.kind = 1 ∨ o.kind = 4) : (-100 ≤ o.x ∧ o.x ≤ 100) ∧ (-100 ≤ o.y ∧ o.y ≤ 100) := by
  unfold okArgs at h
  rw [if_pos hk] at h
  simp only [Bool.and_eq_true, inB_iff] at h
  exact h
theorem okArgs_att {o : Opn} (h : okArgs o = true) (hk : o.kind = 3) : (1 ≤ o.w ∧ o.w ≤ 8) ∧ (1 ≤ o.h ∧ o.h ≤ 8) ∧ (o.px.length : Int) = o.w * o.h := by
  unfold okArgs at h
  rw [if_neg (by omega), if_pos hk] at h
  simp only [Bool.and_eq_true, inB_iff, decide_eq_true_eq] at h
  exact ⟨h.1.1.1, h.1.1.2, h.1.2⟩
theorem okArgs_sl {o : Opn} (h : okArgs o = true) (hk : o.kind = 7) : (1 ≤ o.w ∧ o.w ≤ 20) ∧ (-4 ≤ o.x ∧ o.x ≤ 4) ∧ (-4 ≤ o.y ∧ o.y ≤ 4) := by
  unfold okArgs at h
  rw [if_neg (by omega), if_neg (by omega), if_pos hk] at h
  simp only [Bool.and_eq_true, inB_iff, decide_eq_true_eq] at h
  exact ⟨h.1.1, h.1.2, h.2⟩
/-- The scene when an operation has been done. -/
theorem kchg_ok {K S : Nat} {B : Int} {l : List Srf} (h : ScOk K S B l) (hB : 100 ≤ B) {c : Nat} (hc : c < K) {o : Opn} (hf : kfit l c o) (hs : 0 ≤ o.surf ∧ o.surf < (S : Int)) (ha : okArgs o = true) : ScOk K S (B + 80) (kchg l c o).1 := by
  have h8 := h.mono (B' := B + 80) (by omega)
  rcases hf with ⟨hk, hn⟩ | ⟨hk, hm⟩
  · have hp := okArgs_pos ha (.inl hk)
    unfold kchg
    rw [if_pos hk]
    refine ⟨?_, fun s hs' => ?_, fun s hs' => ?_⟩
    · rw [List.map_append, List.nodup_append]
      refine ⟨h.nd, by simp, fun a ha b hb e => ?_⟩
      simp [skey] at hb
      subst hb e
      exact hn ha
    · rcases List.mem_append.1 hs' with q | q
      · exact h.ky s q
      · simp at q; subst q; exact ⟨by simp only; omega, hs⟩
    · rcases List.mem_append.1 hs' with q | q
      · exact h8.sf s q
      · simp at q; subst q; exact ⟨by simp, by simp, by simp, by simp, by simp, by simp only; omega, by simp only; omega⟩
  · obtain ⟨s, hsi, hc', hn'⟩ := key_at hm
    have hsm := List.mem_of_getElem? hsi
    have hb := h8.sf s hsm
    have hb0 := h.sf s hsm
    have k1 : ¬ o.kind = 1 := by omega
    unfold kchg
    rw [if_neg k1, hsi]
    simp only
    split
    · exact h8.sub List.filter_sublist
    · split
      · rename_i k3
        have hp := okArgs_att ha k3
        exact h8.put hsm rfl ⟨by simp only; omega, by simp only; omega, hp.2.2, hb.lf, hb.dd, hb.xb, hb.yb⟩
      · split
        · rename_i k4
          have hp := okArgs_pos ha (.inr k4)
          exact h8.put hsm rfl ⟨hb.w0, hb.h0, hb.px, by simp, by simp, by simp only; omega, by simp only; omega⟩
        · split
          · exact h8.perm (layS_perm hsi)
          · split
            · exact h8.perm (layS_perm hsi)
            · rename_i k2 k3 k4 k5 k6
              have k7 : o.kind = 7 := by omega
              have hp := okArgs_sl ha k7
              have hx := hb0.xb
              have hy := hb0.yb
              have hl := hb0.lf
              exact h8.put hsm rfl ⟨hb.w0, hb.h0, hb.px, by simp only; omega, hp.2, by simp only; omega, by simp only; omega⟩
/-- Which surfaces there are then. -/
theorem kchg_mem {l : List Srf} {c : Int} {o : Opn} (hf : kfit l c o) (q : Int × Int) : q ∈ (kchg l c o).1.map skey ↔ if q = (c, o.surf) then o.kind ≠ 2 else q ∈ l.map skey := by
  rcases hf with ⟨hk, hn⟩ | ⟨hk, hm⟩
  · unfold kchg
    rw [if_pos hk, List.map_append]
    by_cases e : q = (c, o.surf)
    · subst e; simp [skey, hk]
    · rw [if_neg e]
      simp only [List.mem_append, List.map_cons, List.map_nil, List.mem_singleton]
      constructor
      · rintro (h | h)
        · exact h
        · exact absurd h e
      · exact .inl
  · obtain ⟨s, hsi, hc', hn'⟩ := key_at hm
    have k1 : ¬ o.kind = 1 := by omega
    have same : ∀ m : List Srf, (∀ q, q ∈ m.map skey ↔ q ∈ l.map skey) → o.kind ≠ 2 → (q ∈ m.map skey ↔ if q = (c, o.surf) then o.kind ≠ 2 else q ∈ l.map skey) := fun m hmm h2 => by
      by_cases e : q = (c, o.surf)
      · rw [if_pos e, hmm q, e]
        exact ⟨fun _ => h2, fun _ => hm⟩
      · rw [if_neg e]; exact hmm q
    unfold kchg
    rw [if_neg k1, hsi]
    simp only
    split
    · rename_i k2
      rw [delS_keys, List.mem_filter]
      by_cases e : q = (c, o.surf)
      · simp [e, k2]
      · rw [if_neg e]
        have : (!(q == (c, o.surf))) = true := by simpa using e
        simp [this]
    · rename_i k2
      split
      · exact same _ (fun q => by rw [putS_keys]) k2
      · split
        · exact same _ (fun q => by rw [putS_keys]) k2
        · split
          · exact same _ (fun q => ((layS_perm hsi).map skey).mem_iff) k2
          · split
            · exact same _ (fun q => ((layS_perm hsi).map skey).mem_iff) k2
            · exact same _ (fun q => by rw [putS_keys]) k2
/-- The surfaces that a client has. -/
def hav (l : List Srf) (j S : Nat) : List Bool := (List.range S).map fun (n : Nat) => l.any (isK (j : Int) (n : Int))
theorem any_isK {l : List Srf} {c n : Int} : l.any (isK c n) = true ↔ (c, n) ∈ l.map skey := by
  rw [List.any_eq_true, List.mem_map]
  constructor
  · rintro ⟨s, hs, h⟩; exact ⟨s, hs, isK_iff.1 h⟩
  · rintro ⟨s, hs, h⟩; exact ⟨s, hs, isK_iff.2 h⟩
theorem hav_len (l : List Srf) (j S : Nat) : (hav l j S).length = S := by simp [hav]
theorem hav_at {l : List Srf} {j S n : Nat} (hn : n < S) : (hav l j S)[n]? = some (l.any (isK (j : Int) (n : Int))) := by simp [hav, hn]
/-- An operation that may be, on what a client has. -/
theorem vstep_fit {l : List Srf} {j S : Nat} {o : Opn} {x : List Bool} (h8 : ¬ o.kind = 8) (h : vstep (hav l j S) o = some x) : kfit l j o ∧ (0 ≤ o.surf ∧ o.surf < (S : Int)) ∧ okArgs o = true ∧ x = hav (kchg l j o).1 j S ∧ ∀ i : Nat, i ≠ j → hav (kchg l j o).1 i S = hav l i S := by
  unfold vstep at h
  rw [if_neg h8] at h
  split at h
  · rename_i hh
    simp only [Option.some.injEq] at h
    simp only [Bool.and_eq_true, inB_iff, hav_len, bne_iff_ne, ne_eq] at hh
    obtain ⟨⟨⟨hk, hs⟩, hg⟩, ha⟩ := hh
    have hs' : 0 ≤ o.surf ∧ o.surf < (S : Int) := by omega
    have hget : (hav l j S).getD o.surf.toNat false = l.any (isK (j : Int) o.surf) := by
      rw [List.getD_eq_getElem?_getD, hav_at (by omega)]
      simp [Int.toNat_of_nonneg hs'.1]
    rw [hget] at hg
    have hf : kfit l j o := by
      by_cases k1 : o.kind = 1
      · refine .inl ⟨k1, fun hm => hg ?_⟩
        rw [any_isK.2 hm]; simp [k1]
      · refine .inr ⟨by omega, ?_⟩
        rw [← any_isK]
        cases hq : l.any (isK (j : Int) o.surf) with
        | true => rfl
        | false => rw [hq] at hg; simp [k1] at hg
    have hany : ∀ (c n : Int), (kchg l j o).1.any (isK c n) = if (c, n) = ((j : Int), o.surf) then decide (o.kind ≠ 2) else l.any (isK c n) := fun c n => by
      rw [Bool.eq_iff_iff, any_isK, kchg_mem hf]
      split
      · simp
      · rw [any_isK]
    refine ⟨hf, hs', ha, ?_, fun i hi => ?_⟩
    · rw [← h]
      apply List.ext_getElem?
      intro n
      by_cases hn : n < S
      · rw [hav_at hn, hany, List.getElem?_set]
        by_cases e : o.surf.toNat = n
        · have e2 : ((j : Int), (n : Int)) = ((j : Int), o.surf) := by rw [Prod.mk.injEq]; exact ⟨rfl, by omega⟩
          rw [if_pos e2, if_pos e, if_pos (by rw [hav_len]; omega)]
        · have e2 : ¬ ((j : Int), (n : Int)) = ((j : Int), o.surf) := by rw [Prod.mk.injEq]; intro q; exact e (by omega)
          rw [if_neg e2, if_neg e, hav_at hn]
      · rw [List.getElem?_eq_none (by rw [List.length_set, hav_len]; omega), List.getElem?_eq_none (by rw [hav_len]; omega)]
    · apply List.ext_getElem?
      intro n
      by_cases hn : n < S
      · rw [hav_at hn, hav_at hn, hany]
        have e2 : ¬ ((i : Int), (n : Int)) = ((j : Int), o.surf) := by rw [Prod.mk.injEq]; intro q; omega
        rw [if_neg e2]
      · rw [List.getElem?_eq_none (by rw [hav_len]; omega), List.getElem?_eq_none (by rw [hav_len]; omega)]
  · cases h
end Go.Proofs.Ytfnockbgkcgpkaa
set_option linter.all false
namespace Go.Proofs.Ytfnockbgkcgpkaa
open Go.RowKit Go.Proofs.Panes
set_option maxRecDepth 100000

/-- What damage leaves as it was. -/
structure DamS (f f' : Frs) : Prop where
  W : f'.W = f.W
  H : f'.H = f.H
  front : f'.front = f.front
  frame : f'.frame = f.frame
  marks : f'.marks = f.marks
  px : ∀ i, (f'.b i).px = (f.b i).px
  begun : ∀ i, (f'.b i).begun = (f.b i).begun
  len : ∀ i, (f'.b i).st.length = (f.b i).st.length
  due : f.due = true → f'.due = true
theorem DamS.refl (f : Frs) : DamS f f := ⟨rfl, rfl, rfl, rfl, rfl, fun _ => rfl, fun _ => rfl, fun _ => rfl, fun h => h⟩
theorem DamS.trans {f g h : Frs} (a : DamS f g) (b : DamS g h) : DamS f h :=
  ⟨b.W.trans a.W, b.H.trans a.H, b.front.trans a.front, b.frame.trans a.frame, b.marks.trans a.marks, fun i => (b.px i).trans (a.px i), fun i => (b.begun i).trans (a.begun i), fun i => (b.len i).trans (a.len i), fun h => b.due (a.due h)⟩
theorem damF_s (f : Frs) (p : Nat) : DamS f (damF f p) := by
  refine ⟨rfl, rfl, rfl, rfl, rfl, fun i => ?_, fun i => ?_, fun i => ?_, fun _ => rfl⟩
  all_goals
    simp only [damF, damK]
    split <;> simp
theorem damC_s (f : Frs) (c : Rc) (k : Nat) : DamS f (damC f c k) := by
  induction k with
  | zero => exact .refl f
  | succ k ih => rw [damC_succ]; exact ih.trans (damF_s _ _)
theorem damR_s (f : Frs) (r : Rc) : DamS f (damR f r) := damC_s _ _ _
theorem damL_s (l : List Rc) : ∀ f : Frs, DamS f (damL f l) := by
  induction l with
  | nil => intro f; exact .refl f
  | cons r l ih => intro f; exact (damR_s f r).trans (ih _)
/-- Is a pixel covered? -/
def covP (r : Rc) (x y : Int) : Bool := decide (r.x ≤ x) && decide (x < r.x + r.w) && decide (r.y ≤ y) && decide (y < r.y + r.h)
theorem damC_st (f : Frs) (c : Rc) (i : Nat) (hi : i < 3) (p : Nat) (hp : p < (f.b i).st.length) : ∀ k, ((damC f c k).b i).st[p]? = some ((f.b i).st[p] || (List.range k).any fun t => posC f c t == p) := by
  intro k
  induction k with
  | zero => simp [damC]
  | succ k ih =>
    rw [damC_succ]
    have : ((damF (damC f c k) (posC f c k)).b i).st = ((damC f c k).b i).st.set (posC f c k) true := by simp [damF, damK, hi]
    rw [this, List.getElem?_set]
    have hl := (damC_s f c k).len i
    rw [List.range_succ, List.any_append]
    by_cases e : posC f c k = p
    · rw [if_pos e, if_pos (by rw [e, hl]; exact hp)]
      simp [e]
    · rw [if_neg e, ih]
      have e' : (posC f c k == p) = false := by simpa using e
      simp [e']
theorem divmod {W X Y : Nat} (hW : 0 < W) (hX : X < W) : (Y * W + X) / W = Y ∧ (Y * W + X) % W = X := by
  constructor
  · rw [Nat.mul_comm, Nat.mul_add_div hW, Nat.div_eq_of_lt hX, Nat.add_zero]
  · rw [Nat.mul_comm, Nat.mul_add_mod, Nat.mod_eq_of_lt hX]
theorem pos_any (f : Frs) (r : Rc) (hW : 1 ≤ f.W) (p : Nat) (hp : p < f.W * f.H) : ((List.range ((cutR f r).w * (cutR f r).h).toNat).any fun t => posC f (cutR f r) t == p) = covP r ((p % f.W : Nat) : Int) ((p / f.W : Nat) : Int) := by
  obtain ⟨x, hx⟩ : ∃ x, x = p % f.W := ⟨_, rfl⟩
  obtain ⟨y, hy⟩ : ∃ y, y = p / f.W := ⟨_, rfl⟩
  have hxW : x < f.W := by rw [hx]; exact Nat.mod_lt _ (by omega)
  have hyH : y < f.H := by rw [hy]; exact Nat.div_lt_of_lt_mul hp
  have hpe : p = y * f.W + x := by rw [hx, hy, Nat.mul_comm]; exact (Nat.div_add_mod p f.W).symm
  rw [← hx, ← hy]
  rw [Bool.eq_iff_iff, List.any_eq_true]
  simp only [List.mem_range, beq_iff_eq, covP, Bool.and_eq_true, decide_eq_true_eq]
  obtain ⟨c, hc⟩ : ∃ c, c = cutR f r := ⟨_, rfl⟩
  have c1 : c.x = max r.x 0 := by rw [hc]; rfl
  have c2 : c.y = max r.y 0 := by rw [hc]; rfl
  have c3 : c.w = max 0 (min (r.x + r.w) (0 + (f.W : Int)) - max r.x 0) := by rw [hc]; rfl
  have c4 : c.h = max 0 (min (r.y + r.h) (0 + (f.H : Int)) - max r.y 0) := by rw [hc]; rfl
  rw [← hc]
  constructor
  · rintro ⟨t, ht, he⟩
    have w0 : 0 ≤ c.w := by omega
    have h0 : 0 ≤ c.h := by omega
    obtain ⟨cw, hcw⟩ : ∃ cw : Nat, c.w = cw := ⟨c.w.toNat, by omega⟩
    obtain ⟨ch, hch⟩ : ∃ ch : Nat, c.h = ch := ⟨c.h.toNat, by omega⟩
    have ht' : t < cw * ch := by
      rw [hcw, hch] at ht
      have : ((cw : Int) * (ch : Int)).toNat = cw * ch := by rw [← Int.natCast_mul]; exact Int.toNat_natCast _
      omega
    have cw1 : 0 < cw := by
      rcases Nat.eq_zero_or_pos cw with e | e
      · rw [e] at ht'; simp at ht'
      · exact e
    have hd : t / cw < ch := Nat.div_lt_of_lt_mul ht'
    have hm : t % cw < cw := Nat.mod_lt _ cw1
    obtain ⟨cx, hcx⟩ : ∃ cx : Nat, c.x = cx := ⟨c.x.toNat, by omega⟩
    obtain ⟨cy, hcy⟩ : ∃ cy : Nat, c.y = cy := ⟨c.y.toNat, by omega⟩
    have hpos : posC f c t = (cy + t / cw) * f.W + (cx + t % cw) := by
      unfold posC
      rw [hcy, hcx, hcw]
      have e1 : ((t : Int) / (cw : Int)) = ((t / cw : Nat) : Int) := rfl
      have e2 : ((t : Int) % (cw : Int)) = ((t % cw : Nat) : Int) := rfl
      rw [e1, e2]
      have e3 : ((cy : Int) + ((t / cw : Nat) : Int)) * (f.W : Int) + (cx : Int) + ((t % cw : Nat) : Int) = (((cy + t / cw) * f.W + (cx + t % cw) : Nat) : Int) := by
        simp only [Int.natCast_add, Int.natCast_mul]; omega
      rw [e3]; exact Int.toNat_natCast _
    rw [hpos] at he
    have hxx : cx + t % cw < f.W := by omega
    obtain ⟨q1, q2⟩ := divmod (W := f.W) (X := cx + t % cw) (Y := cy + t / cw) (by omega) hxx
    obtain ⟨q3, q4⟩ := divmod (W := f.W) (X := x) (Y := y) (by omega) hxW
    rw [he, hpe] at q1 q2
    have ey : y = cy + t / cw := by omega
    have ex : x = cx + t % cw := by omega
    obtain ⟨d, hd'⟩ : ∃ d, d = t / cw := ⟨_, rfl⟩
    obtain ⟨m, hm'⟩ : ∃ m, m = t % cw := ⟨_, rfl⟩
    rw [← hd'] at ey hd
    rw [← hm'] at ex hm
    clear q1 q2 q3 q4 he hpos hpe hx hy ht ht' hxx hp hd' hm' hc
    omega
  · rintro ⟨⟨⟨h1, h2⟩, h3⟩, h4⟩
    obtain ⟨cw, hcw⟩ : ∃ cw : Nat, c.w = cw := ⟨c.w.toNat, by omega⟩
    obtain ⟨ch, hch⟩ : ∃ ch : Nat, c.h = ch := ⟨c.h.toNat, by omega⟩
    obtain ⟨cx, hcx⟩ : ∃ cx : Nat, c.x = cx := ⟨c.x.toNat, by omega⟩
    obtain ⟨cy, hcy⟩ : ∃ cy : Nat, c.y = cy := ⟨c.y.toNat, by omega⟩
    have a1 : cx ≤ x ∧ x < cx + cw := by omega
    have a2 : cy ≤ y ∧ y < cy + ch := by omega
    obtain ⟨d1, d2⟩ := divmod (W := cw) (X := x - cx) (Y := y - cy) (by omega) (by omega)
    refine ⟨(y - cy) * cw + (x - cx), ?_, ?_⟩
    · rw [hcw, hch]
      have : ((cw : Int) * (ch : Int)).toNat = cw * ch := by rw [← Int.natCast_mul]; exact Int.toNat_natCast _
      rw [this]
      have h5 : (y - cy) + 1 ≤ ch := by omega
      have := Nat.mul_le_mul_right cw h5
      rw [Nat.add_mul, Nat.one_mul, Nat.mul_comm ch] at this
      omega
    · unfold posC
      rw [hcy, hcx, hcw]
      have e1 : ((((y - cy) * cw + (x - cx) : Nat) : Int) / (cw : Int)) = ((y - cy : Nat) : Int) := by
        have : ((((y - cy) * cw + (x - cx) : Nat) : Int) / (cw : Int)) = ((((y - cy) * cw + (x - cx)) / cw : Nat) : Int) := rfl
        rw [this, d1]
      have e2 : ((((y - cy) * cw + (x - cx) : Nat) : Int) % (cw : Int)) = ((x - cx : Nat) : Int) := by
        have : ((((y - cy) * cw + (x - cx) : Nat) : Int) % (cw : Int)) = ((((y - cy) * cw + (x - cx)) % cw : Nat) : Int) := rfl
        rw [this, d2]
      rw [e1, e2]
      have e3 : ((cy : Int) + ((y - cy : Nat) : Int)) * (f.W : Int) + (cx : Int) + ((x - cx : Nat) : Int) = ((y * f.W + x : Nat) : Int) := by
        have e4 : ((cy : Int) + ((y - cy : Nat) : Int)) = (y : Int) := by omega
        rw [e4]
        simp only [Int.natCast_add, Int.natCast_mul]
        omega
      rw [e3, hpe]; exact Int.toNat_natCast _
/-- What is stale behind damage. -/
theorem damL_st (l : List Rc) : ∀ (f : Frs), 1 ≤ f.W → ∀ (i : Nat), i < 3 → (f.b i).st.length = f.W * f.H → ∀ (p : Nat), p < f.W * f.H → ((damL f l).b i).st[p]? = some ((f.b i).st.getD p false || l.any fun r => covP r ((p % f.W : Nat) : Int) ((p / f.W : Nat) : Int)) := by
  induction l with
  | nil =>
    intro f hW i hi hl p hp
    show (f.b i).st[p]? = _
    rw [List.getD_eq_getElem?_getD, List.getElem?_eq_getElem (by omega)]
    simp
  | cons r l ih =>
    intro f hW i hi hl p hp
    have hs := damR_s f r
    show ((damL (damR f r) l).b i).st[p]? = _
    have h1 := ih (damR f r) (by rw [hs.W]; exact hW) i hi (by rw [hs.len, hs.W, hs.H]; exact hl) p (by rw [hs.W, hs.H]; exact hp)
    rw [h1, hs.W]
    have h2 : ((damR f r).b i).st[p]? = some ((f.b i).st[p] || covP r ((p % f.W : Nat) : Int) ((p / f.W : Nat) : Int)) := by
      have := damC_st f (cutR f r) i hi p (by omega) ((cutR f r).w * (cutR f r).h).toNat
      rw [pos_any f r hW p hp] at this
      exact this
    rw [List.getD_eq_getElem?_getD, h2, List.getD_eq_getElem?_getD, List.getElem?_eq_getElem (by omega)]
    simp [Bool.or_assoc]
theorem damC_due (f : Frs) (c : Rc) (k : Nat) : (damC f c k).due = (f.due || decide (0 < k)) := by
  cases k with
  | zero => simp [damC]
  | succ k => rw [damC_succ]; simp [damF, damK]
/-- Is one of them in the output? -/
def inOut (W H : Nat) (r : Rc) : Bool := (List.range (W * H)).any fun p => covP r ((p % W : Nat) : Int) ((p / W : Nat) : Int)
theorem pos_lt {W H cx cw cy ch t : Nat} (h1 : cx + cw ≤ W) (h2 : cy + ch ≤ H) (ht : t < cw * ch) : (cy + t / cw) * W + (cx + t % cw) < W * H := by
  have cw1 : 0 < cw := by
    rcases Nat.eq_zero_or_pos cw with e | e
    · rw [e] at ht; simp at ht
    · exact e
  have hd : t / cw < ch := Nat.div_lt_of_lt_mul ht
  have hm : t % cw < cw := Nat.mod_lt _ cw1
  have h5 : (cy + t / cw) + 1 ≤ H := by omega
  have := Nat.mul_le_mul_right W h5
  rw [Nat.add_mul, Nat.one_mul, Nat.mul_comm H] at this
  omega
theorem cut_pos (f : Frs) (r : Rc) (hW : 1 ≤ f.W) : decide (0 < ((cutR f r).w * (cutR f r).h).toNat) = inOut f.W f.H r := by
  unfold inOut
  rw [Bool.eq_iff_iff, decide_eq_true_eq, List.any_eq_true]
  obtain ⟨c, hc⟩ : ∃ c, c = cutR f r := ⟨_, rfl⟩
  have c1 : c.x = max r.x 0 := by rw [hc]; rfl
  have c2 : c.y = max r.y 0 := by rw [hc]; rfl
  have c3 : c.w = max 0 (min (r.x + r.w) (0 + (f.W : Int)) - max r.x 0) := by rw [hc]; rfl
  have c4 : c.h = max 0 (min (r.y + r.h) (0 + (f.H : Int)) - max r.y 0) := by rw [hc]; rfl
  rw [← hc]
  obtain ⟨cw, hcw⟩ : ∃ cw : Nat, c.w = cw := ⟨c.w.toNat, by omega⟩
  obtain ⟨ch, hch⟩ : ∃ ch : Nat, c.h = ch := ⟨c.h.toNat, by omega⟩
  obtain ⟨cx, hcx⟩ : ∃ cx : Nat, c.x = cx := ⟨c.x.toNat, by omega⟩
  obtain ⟨cy, hcy⟩ : ∃ cy : Nat, c.y = cy := ⟨c.y.toNat, by omega⟩
  have hm : (c.w * c.h).toNat = cw * ch := by rw [hcw, hch, ← Int.natCast_mul]; exact Int.toNat_natCast _
  rw [hm]
  constructor
  · intro h0
    have cw1 : 0 < cw := by
      rcases Nat.eq_zero_or_pos cw with e | e
      · rw [e] at h0; simp at h0
      · exact e
    have ch1 : 0 < ch := by
      rcases Nat.eq_zero_or_pos ch with e | e
      · rw [e] at h0; simp at h0
      · exact e
    have hlt : cy * f.W + cx < f.W * f.H := by
      have := pos_lt (W := f.W) (H := f.H) (cx := cx) (cw := cw) (cy := cy) (ch := ch) (t := 0) (by omega) (by omega) h0
      simpa using this
    obtain ⟨q1, q2⟩ := divmod (W := f.W) (X := cx) (Y := cy) (by omega) (by omega)
    refine ⟨cy * f.W + cx, by simpa using hlt, ?_⟩
    rw [q1, q2]
    simp only [covP, Bool.and_eq_true, decide_eq_true_eq]
    omega
  · rintro ⟨p, hp, hcv⟩
    simp only [List.mem_range] at hp
    have := pos_any f r hW p hp
    rw [hcv, ← hc, hm] at this
    rw [List.any_eq_true] at this
    obtain ⟨t, ht, _⟩ := this
    simp only [List.mem_range] at ht
    omega
theorem damL_due (l : List Rc) : ∀ f : Frs, 1 ≤ f.W → (damL f l).due = (f.due || l.any (inOut f.W f.H)) := by
  induction l with
  | nil => intro f _; simp [damL]
  | cons r l ih =>
    intro f hW
    have hs := damR_s f r
    show (damL (damR f r) l).due = _
    rw [ih _ (by rw [hs.W]; exact hW), hs.W, hs.H]
    have : (damR f r).due = (f.due || inOut f.W f.H r) := by
      unfold damR
      rw [damC_due, cut_pos f r hW]
    rw [this]
    simp [Bool.or_assoc]
end Go.Proofs.Ytfnockbgkcgpkaa
set_option linter.all false
namespace Go.Proofs.Ytfnockbgkcgpkaa
open Go.RowKit Go.Proofs.Panes
set_option maxRecDepth 100000

theorem next3 (f : Frs) (hf : f.front < 3) : (nextK f 3).getD 0 < 3 ∧ (nextK f 3).getD 0 ≠ f.front := by
  obtain ⟨j, hj, h1, h2⟩ := nextK_some f hf
  rw [hj]
  exact ⟨h1, h2⟩
theorem dotsI_mem (st : List Bool) (W : Nat) (pic : Int → Int → Int) : ∀ (n : Nat) (d : Int × Int), d ∈ dotsI st W pic n → 0 ≤ d.1 ∧ d.1 < (n : Int)
  | 0, d, h => by simp [dotsI] at h
  | n + 1, d, h => by
    unfold dotsI at h
    rcases List.mem_append.1 h with h | h
    · have := dotsI_mem st W pic n d h; omega
    · split at h
      · simp at h; subst h; simp only; omega
      · simp at h
/-- The frames are within their bounds; not more than D marks. -/
structure FrB (D : Nat) (f : Frs) : Prop where
  W : 1 ≤ f.W ∧ f.W ≤ 16
  H : 1 ≤ f.H ∧ f.H ≤ 16
  fr : f.front < 3
  px : ∀ i, i < 3 → (f.b i).px.length = f.W * f.H
  st : ∀ i, i < 3 → (f.b i).st.length = f.W * f.H
  fm : ∀ g, f.frame = some g → g.buf < 3 ∧ g.buf ≠ f.front ∧ g.left.length ≤ f.W * f.H ∧ (∀ d ∈ g.left, 0 ≤ d.1 ∧ d.1 < ((f.W * f.H : Nat) : Int)) ∧ g.marks.length ≤ D
  mks : f.marks.length ≤ D
theorem FrB.mono {D D' : Nat} {f : Frs} (h : FrB D f) (hD : D ≤ D') : FrB D' f := ⟨h.W, h.H, h.fr, h.px, h.st, fun g hg => by have := h.fm g hg; exact ⟨this.1, this.2.1, this.2.2.1, this.2.2.2.1, Nat.le_trans this.2.2.2.2 hD⟩, Nat.le_trans h.mks hD⟩
theorem FrB.wh {D : Nat} {f : Frs} (h : FrB D f) : f.W * f.H ≤ 256 := Nat.mul_le_mul h.W.2 h.H.2
theorem FrB.dam {D : Nat} {f f' : Frs} (h : FrB D f) (hs : DamS f f') : FrB D f' := by
  refine ⟨by rw [hs.W]; exact h.W, by rw [hs.H]; exact h.H, by rw [hs.front]; exact h.fr, fun i hi => by rw [hs.px, hs.W, hs.H]; exact h.px i hi, fun i hi => by rw [hs.len, hs.W, hs.H]; exact h.st i hi, fun g hg => ?_, by rw [hs.marks]; exact h.mks⟩
  rw [hs.frame] at hg
  rw [hs.front, hs.W, hs.H]
  exact h.fm g hg
theorem FrB.due {D : Nat} {f : Frs} (h : FrB D f) (d : Bool) : FrB D { f with due := d } := ⟨h.W, h.H, h.fr, h.px, h.st, h.fm, h.mks⟩
theorem FrB.ask {D : Nat} {f : Frs} (h : FrB D f) (m : Int × Int) : FrB (D + 1) { f with marks := f.marks ++ [m] } := by
  have h1 := h.mono (D' := D + 1) (by omega)
  exact ⟨h.W, h.H, h.fr, h.px, h.st, h1.fm, by simp only [List.length_append, List.length_cons, List.length_nil]; have := h.mks; omega⟩
theorem FrB.flip {D : Nat} {f : Frs} (h : FrB D f) : FrB D (flipF f).1 := by
  unfold flipF
  split
  · exact h
  · rename_i g hg
    split
    · exact ⟨h.W, h.H, (h.fm g hg).1, h.px, h.st, fun g' hg' => by simp at hg', h.mks⟩
    · exact h
theorem FrB.begin {D : Nat} {f : Frs} (h : FrB D f) (t : Int) (pic : Int → Int → Int) : FrB D (beginF f t pic) := by
  unfold beginF
  split
  · exact h
  · obtain ⟨n1, n2⟩ := next3 f h.fr
    refine ⟨h.W, h.H, h.fr, fun i hi => ?_, fun i hi => ?_, fun g hg => ?_, by simp⟩
    · simp only; split
      · exact h.px i hi
      · exact h.px i hi
    · simp only; split
      · simp
      · exact h.st i hi
    · simp only [Option.some.injEq] at hg
      subst hg
      exact ⟨n1, n2, dotsI_len _ _ _ _, dotsI_mem _ _ _ _, h.mks⟩
theorem FrB.paint {D : Nat} {f : Frs} (h : FrB D f) (b : Nat) : FrB D (paintF f b) := by
  unfold paintF
  split
  · exact h
  · rename_i g hg
    obtain ⟨a1, a2, a3, a4, a5⟩ := h.fm g hg
    refine ⟨h.W, h.H, h.fr, fun i hi => ?_, fun i hi => ?_, fun g' hg' => ?_, h.mks⟩
    · simp only [paintK]; split
      · rw [paintL_len]; exact h.px i hi
      · exact h.px i hi
    · simp only [paintK]; split
      · exact h.st i hi
      · exact h.st i hi
    · simp only [paintK, Option.some.injEq] at hg'
      subst hg'
      exact ⟨a1, a2, by simp only [paintK, List.length_drop]; omega, fun d hd => a4 d (List.mem_of_mem_drop hd), a5⟩
theorem FrB.forget {D : Nat} {f : Frs} (h : FrB D f) (c : Int) : FrB D (forgetF f c) := by
  refine ⟨h.W, h.H, h.fr, h.px, h.st, fun g hg => ?_, Nat.le_trans (List.length_filter_le _ _) h.mks⟩
  simp only [forgetF, Option.map_eq_some_iff] at hg
  obtain ⟨g0, h0, rfl⟩ := hg
  obtain ⟨a1, a2, a3, a4, a5⟩ := h.fm g0 h0
  exact ⟨a1, a2, a3, a4, Nat.le_trans (List.length_filter_le _ _) a5⟩

theorem covR_ok {K S : Nat} {B : Int} {l : List Srf} (h : ScOk K S B l) (hB : B ≤ 100000000000000) (c n : Int) : RcOk (covR l c n) := by
  unfold covR
  split
  · exact zrc_ok
  · rename_i s hs
    exact (h.sf s (List.mem_of_find?_eq_some hs)).rc hB
theorem dmgL_ok {ch : Bool} {a b : Rc} (ha : RcOk a) (hb : RcOk b) : (∀ r ∈ dmgL ch a b, RcOk r) ∧ (dmgL ch a b).length ≤ 2 := by
  unfold dmgL
  split
  · simp
  · split
    · simp; exact ha
    · simp; exact ⟨ha, hb⟩
/-- The scene and the frames, within their bounds. -/
structure StOk (K S D : Nat) (st : List Srf × Frs) : Prop where
  sc : ScOk K S (100 + 80 * (D : Int)) st.1
  fr : FrB D st.2
theorem StOk.mono {K S D D' : Nat} {st : List Srf × Frs} (h : StOk K S D st) (hD : D ≤ D') : StOk K S D' st := ⟨h.sc.mono (by omega), h.fr.mono hD⟩
theorem doOp_ok {K S D j : Nat} {st : List Srf × Frs} {op : Opn} {x : List Bool} (h : StOk K S D st) (hKS : K * S ≤ 1000) (hj : j < K) (hD : D ≤ 900000000) (hv : vstep (hav st.1 j S) op = some x) :
    OpFine j st op ∧ StOk K S (D + 1) (doOp j st op) ∧ hav (doOp j st op).1 j S = x ∧ ∀ i, i ≠ j → hav (doOp j st op).1 i S = hav st.1 i S := by
  by_cases h8 : op.kind = 8
  · have e : doOp j st op = (st.1, { st.2 with marks := st.2.marks ++ [((j : Int), op.mark)] }) := by simp [doOp, h8]
    have ex : hav st.1 j S = x := by simp [vstep, h8] at hv; exact hv
    rw [e]
    exact ⟨⟨fun _ => by have := h.fr.mks; omega, fun hn => absurd h8 hn⟩, ⟨h.sc.mono (by omega), h.fr.ask _⟩, ex, fun _ _ => rfl⟩
  · obtain ⟨hf, hs, ha, hx, ho⟩ := vstep_fit h8 hv
    have e : doOp j st op = ((kchg st.1 j op).1, damL st.2 (dmgO st.1 j op)) := by simp [doOp, h8]
    have hk := kchg_ok h.sc (by omega) hj hf hs ha
    have hk' : ScOk K S (100 + 80 * ((D + 1 : Nat) : Int)) (kchg st.1 j op).1 := by
      have : (100 : Int) + 80 * (D : Int) + 80 = 100 + 80 * ((D + 1 : Nat) : Int) := by omega
      rw [← this]; exact hk
    have hl := h.sc.len
    have hr := dmgL_ok (ch := (kchg st.1 j op).2) (covR_ok h.sc (by omega) j op.surf) (covR_ok hk (by omega) j op.surf)
    rw [e]
    exact ⟨⟨fun h => absurd h h8, fun _ => ⟨hf, by omega, hr.1, Nat.le_trans hr.2 (by omega)⟩⟩, ⟨hk', (h.fr.dam (damL_s _ _)).mono (by omega)⟩, hx.symm, ho⟩
theorem ops_ok {K S j : Nat} (hKS : K * S ≤ 1000) (hj : j < K) : ∀ (ops : List Opn) (D : Nat) (st : List Srf × Frs) (x : List Bool), StOk K S D st → D + ops.length ≤ 900000000 → vall (hav st.1 j S) ops = some x →
    DoFine j st ops ∧ StOk K S (D + ops.length) (ops.foldl (doOp j) st) ∧ hav (ops.foldl (doOp j) st).1 j S = x ∧ ∀ i, i ≠ j → hav (ops.foldl (doOp j) st).1 i S = hav st.1 i S
  | [], D, st, x, h, _, hv => ⟨trivial, h, by simp [vall] at hv; exact hv, fun _ _ => rfl⟩
  | o :: l, D, st, x, h, hD, hv => by
    have hv' : (vstep (hav st.1 j S) o).bind (fun y => vall y l) = some x := hv
    cases hs : vstep (hav st.1 j S) o with
    | none => rw [hs] at hv'; cases hv'
    | some y =>
      rw [hs] at hv'
      have hv2 : vall y l = some x := hv'
      simp only [List.length_cons] at hD
      obtain ⟨h1, h2, h3, h4⟩ := doOp_ok h hKS hj (by omega) hs
      rw [← h3] at hv2
      obtain ⟨g1, g2, g3, g4⟩ := ops_ok hKS hj l (D + 1) (doOp j st o) x h2 (by omega) hv2
      refine ⟨⟨h1, g1⟩, ?_, g3, fun i hi => (g4 i hi).trans (h4 i hi)⟩
      have e : D + (o :: l).length = D + 1 + l.length := by simp only [List.length_cons]; omega
      rw [e]; exact g2
theorem tr_ok {K S j : Nat} (hKS : K * S ≤ 1000) (hj : j < K) {ops : List Opn} {D : Nat} {st : List Srf × Frs} {x : List Bool} (h : StOk K S D st) (hl : ops.length ≤ 20) (hD : D + 20 ≤ 900000000) (hv : vall (hav st.1 j S) ops = some x) :
    DoFine j (st.1, { st.2 with due := true }) ops ∧ StOk K S (D + 20) (doTr j st ops) ∧ hav (doTr j st ops).1 j S = x ∧ ∀ i, i ≠ j → hav (doTr j st ops).1 i S = hav st.1 i S := by
  obtain ⟨g1, g2, g3, g4⟩ := ops_ok hKS hj ops D (st.1, { st.2 with due := true }) x ⟨h.sc, h.fr.due true⟩ (by omega) hv
  exact ⟨g1, g2.mono (by omega), g3, g4⟩
theorem trs_ok {K S j : Nat} (hKS : K * S ≤ 1000) (hj : j < K) : ∀ (trs : List (List Opn)) (D : Nat) (st : List Srf × Frs) (x : List Bool), StOk K S D st → (∀ tr ∈ trs, tr.length ≤ 20) → D + 20 * trs.length ≤ 900000000 → vall (hav st.1 j S) trs.flatten = some x →
    (∀ (m : Nat) (tr : List Opn), trs[m]? = some tr → DoFine j ((doAll j st (trs.take m)).1, { (doAll j st (trs.take m)).2 with due := true }) tr) ∧ StOk K S (D + 20 * trs.length) (doAll j st trs) ∧ hav (doAll j st trs).1 j S = x ∧ ∀ i, i ≠ j → hav (doAll j st trs).1 i S = hav st.1 i S
  | [], D, st, x, h, _, _, hv => ⟨fun m tr hm => by simp at hm, h, by simp [vall] at hv; exact hv, fun _ _ => rfl⟩
  | t :: l, D, st, x, h, ht, hD, hv => by
    rw [List.flatten_cons, vall_append] at hv
    simp only [List.length_cons] at hD
    cases hs : vall (hav st.1 j S) t with
    | none => rw [hs] at hv; cases hv
    | some y =>
      rw [hs] at hv
      have hv2 : vall y l.flatten = some x := hv
      obtain ⟨h1, h2, h3, h4⟩ := tr_ok hKS hj h (ht t (by simp)) (by omega) hs
      rw [← h3] at hv2
      obtain ⟨g1, g2, g3, g4⟩ := trs_ok hKS hj l (D + 20) (doTr j st t) x h2 (fun tr htr => ht tr (by simp [htr])) (by omega) hv2
      refine ⟨fun m tr hm => ?_, ?_, g3, fun i hi => (g4 i hi).trans (h4 i hi)⟩
      · cases m with
        | zero => simp at hm; subst hm; exact h1
        | succ m => exact g1 m tr (by simpa using hm)
      · have e : D + 20 * (t :: l).length = D + 20 + 20 * l.length := by simp only [List.length_cons]; omega
        rw [e]; exact g2
end Go.Proofs.Ytfnockbgkcgpkaa
