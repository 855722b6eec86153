import Derived.Test.YtfnockbgkcgpkaaKaao
import Derived.Test.YtfnockbgkcgpkaaKaav
import Derived.Test.YtfnockbgkcgpkaaKaaw
import Derived.Test.YtfnockbgkcgpkaaKabc
import Derived.Test.YtfnockbgkcgpkaaKabd
set_option linter.all false
namespace Go.Proofs.Ytfnockbgkcgpkaa
open Go.RowKit Go.Proofs.Panes
set_option maxRecDepth 100000

/-- A screen. -/
structure Scrn where
  c : Cfg
  ks : List (Option Cli)
  l : List Srf
  f : Frs
  t : Int
def pptr (o : Option Nat) : Value := .pointer (o.map fun cp => ⟨cp, 0, none⟩)
def scells (c : Cfg) (kb n sb fb : Nat) (t : Int) : Array Value := #[.int .i64 c.w, .int .i64 c.h, .int .i64 c.clients, .int .i64 c.queue, .int .i64 c.most, .int .i64 c.quantum, .int .i64 c.surfaces, .int .i64 c.behind, .slice (some ⟨kb, 0, none⟩) n n, .pointer (some ⟨sb, 0, none⟩), .pointer (some ⟨fb, 0, none⟩), .int .i64 t]
/-- The clients in memory: client j's own blocks bear the colour 5 + j, what waits the colour 4. -/
structure KsM (o : Nat → Nat) (w : World) (S : Nat) (cps : List (Option Nat)) (ks : List (Option Cli)) : Prop where
  len : cps.length = ks.length
  no : ∀ j : Nat, ks[j]? = some none → cps[j]? = some none
  yes : ∀ (j : Nat) (k : Cli), ks[j]? = some (some k) → ∃ cp, cps[j]? = some (some cp) ∧ KlAt (fun x => o x = 5 + j) (fun x => o x = 4) w cp S k
/-- A screen in memory; the colours of its blocks: 1 the screen itself, 2 the scene, 3 the frames, 4 what waits and pixels, 5 + j client j; 0: none of its. -/
structure ScrM (o : Nat → Nat) (w : World) (xp kb sb fb : Nat) (cps : List (Option Nat)) (s : Scrn) : Prop where
  blk : w.heap[xp]? = some (.cells (scells s.c kb cps.length sb fb s.t) 102 (0, 0))
  cls : w.heap[kb]? = some (.cells (cps.map pptr).toArray 97 (0, 0))
  ks : KsM o w s.c.surfaces.toNat cps s.ks
  scn : ScnX (fun x => o x = 2) (fun x => o x = 4) w sb s.c.behind s.l
  frs : ∃ v, Fr (fun x => o x = 3) w fb s.f v
  oxp : o xp = 1
  okb : o kb = 1
  lt : ∀ x, o x ≠ 0 → x < w.heap.size
/-- A call on a screen: what is written is its own, and not what waits; its new blocks are new. -/
structure Stp (o o' : Nat → Nat) (w w' : World) : Prop where
  but : But (fun x => o x ≠ 0 ∧ o x ≠ 4) w w'
  ext : ∀ x, x < w.heap.size → o' x ≠ 0 → o x ≠ 0
  four : ∀ x, o x = 4 → o' x = 4
theorem Stp.refl (o : Nat → Nat) (w : World) : Stp o o w w := ⟨.refl _ _, fun _ _ h => h, fun _ h => h⟩
theorem Stp.trans {o o' o'' : Nat → Nat} {w w' w'' : World} (h : Stp o o' w w') (k : Stp o' o'' w' w'') : Stp o o'' w w'' :=
  ⟨h.but.step k.but (fun x hx => by
    rcases Nat.lt_or_ge x w.heap.size with c | c
    · exact .inl ⟨h.ext x c hx.1, fun e => hx.2 (h.four x e)⟩
    · exact .inr c), fun x hx hc => h.ext x hx (k.ext x (Nat.lt_of_lt_of_le hx h.but.size) hc), fun x hx => k.four x (h.four x hx)⟩
theorem Stp.below {o : Nat → Nat} {w w' : World} (h : Below w.heap.size w w') : Stp o o w w' := ⟨.of_below h, fun _ _ h => h, fun _ h => h⟩
theorem Stp.of {o o' : Nat → Nat} {w w' : World} {T : Nat → Prop} (hb : But T w w') (hT : ∀ x, x < w.heap.size → T x → o x ≠ 0 ∧ o x ≠ 4) (he : ∀ x, x < w.heap.size → o' x ≠ 0 → o x ≠ 0) (h4 : ∀ x, o x = 4 → o' x = 4) : Stp o o' w w' := ⟨hb.wide hT, he, h4⟩
theorem Stp.rdO {o o' : Nat → Nat} {w w' : World} (h : Stp o o' w w') {v : Value} {l : List Opn} (hr : RdO (fun x => o x = 4) w v l) : RdO (fun x => o' x = 4) w' v l := (hr.but h.but (fun k hk e => e.2 hk)).wide h.four
/-- A row that is not the screen's. -/
theorem Stp.row {o o' : Nat → Nat} {w w' : World} (h : Stp o o' w w') {base : Nat} {e : TypeId} {size : Nat} {v : Value} {n : Nat} {xs : List Value} (hr : w.ownsRow base e size v n xs) (hv : ∀ k, v.ownBlock = some k → o k = 0) : w'.ownsRow base e size v n xs ∧ ∀ k, v.ownBlock = some k → o' k = 0 :=
  ⟨row_but hr h.but (fun k hk c => c.1 (hv k hk)), fun k hk => by
    rcases Nat.eq_zero_or_pos (o' k) with e | e
    · exact e
    · exact absurd (hv k hk) (h.ext k (World.ownsRow.lt hr k hk).2 (by omega))⟩
theorem Stp.block {o o' : Nat → Nat} {w w' : World} (h : Stp o o' w w') {k : Nat} {b : Obj} (hk : w.heap[k]? = some b) (ho : o k = 0) : w'.heap[k]? = some b ∧ o' k = 0 :=
  ⟨h.but.heap hk (fun c => c.1 ho), by
    rcases Nat.eq_zero_or_pos (o' k) with e | e
    · exact e
    · exact absurd ho (h.ext k (lt_of_heap hk) (by omega))⟩
theorem KsM.but {o : Nat → Nat} {w w' : World} {S : Nat} {cps : List (Option Nat)} {ks : List (Option Cli)} {T : Nat → Prop} (h : KsM o w S cps ks) (hb : But T w w') (hT : ∀ x, 4 ≤ o x → ¬ T x) : KsM o w' S cps ks :=
  ⟨h.len, h.no, fun j k hk => by
    obtain ⟨cp, h1, h2⟩ := h.yes j k hk
    exact ⟨cp, h1, h2.but hb (fun x hx => hT x (by omega)) (fun x hx => hT x (by omega))⟩⟩
theorem KsM.recol {o o' : Nat → Nat} {w : World} {S : Nat} {cps : List (Option Nat)} {ks : List (Option Cli)} (h : KsM o w S cps ks) (ho : ∀ x, 4 ≤ o x → o' x = o x) : KsM o' w S cps ks :=
  ⟨h.len, h.no, fun j k hk => by
    obtain ⟨cp, h1, h2⟩ := h.yes j k hk
    exact ⟨cp, h1, h2.mono (fun x (hx : o x = 5 + j) => by show o' x = 5 + j; rw [ho x (by omega)]; exact hx) (fun x (hx : o x = 4) => by show o' x = 4; rw [ho x (by omega)]; exact hx)⟩⟩
section
variable {o o' : Nat → Nat} {w w' : World} {xp kb sb fb : Nat} {cps : List (Option Nat)} {s : Scrn}
theorem ScrM.xk (h : ScrM o w xp kb sb fb cps s) : xp ≠ kb := fun e => by
  have := h.cls
  rw [← e, h.blk] at this
  simp at this
/-- Nothing of the screen was written. -/
theorem ScrM.but {T : Nat → Prop} (h : ScrM o w xp kb sb fb cps s) (hb : But T w w') (hT : ∀ x, o x ≠ 0 → ¬ T x) : ScrM o w' xp kb sb fb cps s where
  blk := hb.heap h.blk (hT _ (by rw [h.oxp]; omega))
  cls := hb.heap h.cls (hT _ (by rw [h.okb]; omega))
  ks := h.ks.but hb (fun x hx => hT x (by omega))
  scn := h.scn.but hb (fun x hx => hT x (by omega)) (fun x hx => hT x (by omega))
  frs := by obtain ⟨v, hv⟩ := h.frs; exact ⟨v, hv.but hb (fun x hx => hT x (by omega))⟩
  oxp := h.oxp
  okb := h.okb
  lt := fun x hx => Nat.lt_of_lt_of_le (h.lt x hx) hb.size
theorem ScrM.below (h : ScrM o w xp kb sb fb cps s) (hb : Below w.heap.size w w') : ScrM o w' xp kb sb fb cps s := h.but (T := fun _ => False) (.of_below hb) (fun _ _ h => h)
/-- The frames have changed. -/
theorem ScrM.frames {T : Nat → Prop} (h : ScrM o w xp kb sb fb cps s) (hb : But T w w') (hT : ∀ x, o x ≠ 0 → o x ≠ 3 → ¬ T x) (hK : ∀ x, o x ≠ 0 → o x ≠ 3 → o' x = o x) (hL : ∀ x, o' x ≠ 0 → x < w'.heap.size) {f' : Frs} (hF : ∃ v, Fr (fun x => o' x = 3) w' fb f' v) : ScrM o' w' xp kb sb fb cps { s with f := f' } where
  blk := hb.heap h.blk (hT _ (by rw [h.oxp]; omega) (by rw [h.oxp]; omega))
  cls := hb.heap h.cls (hT _ (by rw [h.okb]; omega) (by rw [h.okb]; omega))
  ks := (h.ks.but hb (fun x hx => hT x (by omega) (by omega))).recol (fun x hx => hK x (by omega) (by omega))
  scn := (h.scn.but hb (fun x hx => hT x (by omega) (by omega)) (fun x hx => hT x (by omega) (by omega))).mono (fun x hx => by show o' x = 2; rw [hK x (by omega) (by omega)]; exact hx) (fun x hx => by show o' x = 4; rw [hK x (by omega) (by omega)]; exact hx)
  frs := hF
  oxp := by rw [hK _ (by rw [h.oxp]; omega) (by rw [h.oxp]; omega)]; exact h.oxp
  okb := by rw [hK _ (by rw [h.okb]; omega) (by rw [h.okb]; omega)]; exact h.okb
  lt := hL
/-- The scene has changed. -/
theorem ScrM.scene {T : Nat → Prop} (h : ScrM o w xp kb sb fb cps s) (hb : But T w w') (hT : ∀ x, o x ≠ 0 → o x ≠ 2 → ¬ T x) (hK : ∀ x, o x ≠ 0 → o x ≠ 2 → o' x = o x) (hL : ∀ x, o' x ≠ 0 → x < w'.heap.size) {l' : List Srf} (hS : ScnX (fun x => o' x = 2) (fun x => o' x = 4) w' sb s.c.behind l') : ScrM o' w' xp kb sb fb cps { s with l := l' } where
  blk := hb.heap h.blk (hT _ (by rw [h.oxp]; omega) (by rw [h.oxp]; omega))
  cls := hb.heap h.cls (hT _ (by rw [h.okb]; omega) (by rw [h.okb]; omega))
  ks := (h.ks.but hb (fun x hx => hT x (by omega) (by omega))).recol (fun x hx => hK x (by omega) (by omega))
  scn := hS
  frs := by obtain ⟨v, hv⟩ := h.frs; exact ⟨v, (hv.but hb (fun x hx => hT x (by omega) (by omega))).mono (fun x hx => by show o' x = 3; rw [hK x (by omega) (by omega)]; exact hx)⟩
  oxp := by rw [hK _ (by rw [h.oxp]; omega) (by rw [h.oxp]; omega)]; exact h.oxp
  okb := by rw [hK _ (by rw [h.okb]; omega) (by rw [h.okb]; omega)]; exact h.okb
  lt := hL
/-- Its blocks apart from those of another colour. -/
theorem ScrM.cl (h : ScrM o w xp kb sb fb cps s) (q : Nat) (hq : q ≠ 0) : ∀ x, o x = q → x < w.heap.size := fun x hx => h.lt x (by omega)
end
/-- Other colours: q for the set C, and for nothing else. -/
structure Col (o o' : Nat → Nat) (C : Nat → Prop) (q : Nat) (w w' : World) : Prop where
  in' : ∀ x, C x → o' x = q
  off : ∀ x, ¬ C x → o x = q → o' x = 0
  out : ∀ x, ¬ C x → o x ≠ q → o' x = o x
  new : ∀ x, C x → o x = q ∨ (w.heap.size ≤ x ∧ x < w'.heap.size)
theorem col_any {o : Nat → Nat} {C : Nat → Prop} {q : Nat} {w w' : World} (h : ∀ x, C x → o x = q ∨ (w.heap.size ≤ x ∧ x < w'.heap.size)) : ∃ o', Col o o' C q w w' := by
  have hx : ∀ x, ∃ r, (C x → r = q) ∧ (¬ C x → o x = q → r = 0) ∧ (¬ C x → o x ≠ q → r = o x) := by
    intro x
    by_cases hc : C x
    · exact ⟨q, fun _ => rfl, fun h => absurd hc h, fun h => absurd hc h⟩
    · by_cases e : o x = q
      · exact ⟨0, fun h => absurd h hc, fun _ _ => rfl, fun _ h => absurd e h⟩
      · exact ⟨o x, fun h => absurd h hc, fun _ h => absurd h e, fun _ _ => rfl⟩
  exact ⟨fun x => Classical.choose (hx x), fun x hc => (Classical.choose_spec (hx x)).1 hc, fun x hc => (Classical.choose_spec (hx x)).2.1 hc, fun x hc => (Classical.choose_spec (hx x)).2.2 hc, h⟩
section
variable {o o' : Nat → Nat} {q : Nat} {C : Nat → Prop} {w w' : World}
theorem Col.keep (h : Col o o' C q w w') (hl : ∀ x, o x ≠ 0 → x < w.heap.size) : ∀ x, o x ≠ 0 → o x ≠ q → o' x = o x := fun x h0 hq => h.out x (fun hc => by
  rcases h.new x hc with e | e
  · exact hq e
  · have := hl x h0; omega) hq
theorem Col.lt (h : Col o o' C q w w') (hl : ∀ x, o x ≠ 0 → x < w.heap.size) (hs : w.heap.size ≤ w'.heap.size) (hq : q ≠ 0) : ∀ x, o' x ≠ 0 → x < w'.heap.size := fun x hx => by
  by_cases hc : C x
  · rcases h.new x hc with e | e
    · have := hl x (by omega); omega
    · exact e.2
  · by_cases e : o x = q
    · exact absurd (h.off x hc e) hx
    · rw [h.out x hc e] at hx; have := hl x hx; omega
theorem Col.ext (h : Col o o' C q w w') (hq : q ≠ 0) : ∀ x, x < w.heap.size → o' x ≠ 0 → o x ≠ 0 := fun x hx hn => by
  by_cases hc : C x
  · rcases h.new x hc with e | e
    · omega
    · omega
  · by_cases e : o x = q
    · omega
    · rw [h.out x hc e] at hn; exact hn
theorem Col.eq (h : Col o o' C q w w') (hq : q ≠ 0) : (fun x => o' x = q) = C := by
  funext x
  refine propext ⟨fun e => ?_, h.in' x⟩
  by_cases hc : C x
  · exact hc
  · by_cases e' : o x = q
    · rw [h.off x hc e'] at e; omega
    · rw [h.out x hc e'] at e; exact absurd e e'
theorem Col.same (h : Col o o' C q w w') (hl : ∀ x, o x ≠ 0 → x < w.heap.size) {r : Nat} (hr : r ≠ 0) (hq : r ≠ q) : (fun x => o' x = r) = fun x => o x = r := by
  funext x
  refine propext ⟨fun e => ?_, fun e => (h.keep hl x (by omega) (by omega)).trans e⟩
  by_cases hc : C x
  · rw [h.in' x hc] at e; omega
  · by_cases e' : o x = q
    · rw [h.off x hc e'] at e; omega
    · rw [h.out x hc e'] at e; exact e
/-- What is of no colour, stays so where the set does not have it. -/
theorem Col.zero (h : Col o o' C q w w') {x : Nat} (hx : ¬ C x) (ho : o x = 0 ∨ o x = q) : o' x = 0 := by
  rcases ho with e | e
  · by_cases e' : o x = q
    · exact h.off x hx e'
    · rw [h.out x hx e']; exact e
  · exact h.off x hx e
end
end Go.Proofs.Ytfnockbgkcgpkaa
set_option linter.all false
namespace Go.Proofs.Ytfnockbgkcgpkaa
open Go.RowKit Go.Proofs.Panes
set_option maxRecDepth 100000

section
variable {o : Nat → Nat} {w : World} {xp kb sb fb : Nat} {cps : List (Option Nat)} {s : Scrn}
theorem ScrM.new0 (h : ScrM o w xp kb sb fb cps s) {x : Nat} (hx : w.heap.size ≤ x) : o x = 0 := by
  rcases Nat.eq_zero_or_pos (o x) with e | e
  · exact e
  · have := h.lt x (by omega); omega
/-- The frames have changed, in place. -/
theorem ScrM.frames0 (h : ScrM o w xp kb sb fb cps s) {w' : World} (hb : But (fun x => o x = 3) w w') {f' : Frs} (hF : ∃ v, Fr (fun x => o x = 3) w' fb f' v) : ScrM o w' xp kb sb fb cps { s with f := f' } ∧ Stp o o w w' :=
  ⟨h.frames hb (fun x h0 h3 e => h3 e) (fun _ _ _ => rfl) (fun x hx => Nat.lt_of_lt_of_le (h.lt x hx) hb.size) hF, .of hb (fun x _ e => by omega) (fun _ _ h => h) (fun _ h => h)⟩
/-- The frames have changed, and their blocks. -/
theorem ScrM.frames1 (h : ScrM o w xp kb sb fb cps s) {w' : World} (hb : But (fun x => o x = 3) w w') {C : Nat → Prop} (hn : ∀ x, C x → o x = 3 ∨ (w.heap.size ≤ x ∧ x < w'.heap.size)) {f' : Frs} (hF : ∃ v, Fr C w' fb f' v) : ∃ o', ScrM o' w' xp kb sb fb cps { s with f := f' } ∧ Stp o o' w w' ∧ Col o o' C 3 w w' := by
  obtain ⟨o', hc⟩ := col_any hn
  refine ⟨o', h.frames hb (fun x h0 h3 e => h3 e) (hc.keep h.lt) (hc.lt h.lt hb.size (by omega)) (by rw [hc.eq (by omega)]; exact hF), .of hb (fun x _ e => by omega) (hc.ext (by omega)) (fun x hx => (hc.keep h.lt x (by omega) (by omega)).trans hx), hc⟩
/-- The scene has changed, and its blocks. -/
theorem ScrM.scene1 (h : ScrM o w xp kb sb fb cps s) {w' : World} (hb : But (fun x => o x = 2) w w') {C : Nat → Prop} (hn : ∀ x, C x → o x = 2 ∨ (w.heap.size ≤ x ∧ x < w'.heap.size)) {l' : List Srf} (hS : ScnX C (fun x => o x = 4) w' sb s.c.behind l') : ∃ o', ScrM o' w' xp kb sb fb cps { s with l := l' } ∧ Stp o o' w w' ∧ Col o o' C 2 w w' := by
  obtain ⟨o', hc⟩ := col_any hn
  refine ⟨o', h.scene hb (fun x h0 h3 e => h3 e) (hc.keep h.lt) (hc.lt h.lt hb.size (by omega)) (by rw [hc.eq (by omega), hc.same h.lt (by omega) (by omega)]; exact hS), .of hb (fun x _ e => by omega) (hc.ext (by omega)) (fun x hx => (hc.keep h.lt x (by omega) (by omega)).trans hx), hc⟩

theorem scr_request (h : ScrM o w xp kb sb fb cps s) : Calls Try.prog 118 #[.pointer (some ⟨fb, 0, none⟩)] w fun e w' => (∃ u, e = .returned u) ∧ ScrM o w' xp kb sb fb cps { s with f := { s.f with due := true } } ∧ Stp o o w w' := by
  obtain ⟨v, hv⟩ := h.frs
  refine (Request_any hv).mono ?_
  rintro e w' ⟨h1, h2, h3⟩
  exact ⟨h1, h.frames0 (h3.wide (fun x _ e => by rw [e]; exact hv.cb)) ⟨v, h2⟩⟩
theorem scr_ask (h : ScrM o w xp kb sb fb cps s) (c m : Int) (hl : s.f.marks.length ≤ 1000000000) : Calls Try.prog 119 #[.pointer (some ⟨fb, 0, none⟩), .agg #[.int .i64 c, .int .i64 m]] w fun e w' => (∃ u, e = .returned u) ∧ ∃ o', ScrM o' w' xp kb sb fb cps { s with f := { s.f with marks := s.f.marks ++ [(c, m)] } } ∧ Stp o o' w w' := by
  obtain ⟨v, hv⟩ := h.frs
  refine (Ask_any hv (h.cl 3 (by omega)) c m hl).mono ?_
  rintro e w' ⟨h1, h2, h3⟩
  obtain ⟨o', q1, q2, _⟩ := h.frames1 h3 (fun x hx => hx) h2
  exact ⟨h1, o', q1, q2⟩
theorem scr_damage (h : ScrM o w xp kb sb fb cps s) (hW : 1 ≤ s.f.W ∧ s.f.W ≤ 16) (hH : 1 ≤ s.f.H ∧ s.f.H ≤ 16) {base : Nat} {lv : Value} {rs : List Rc} (hO : Own w base lv rs) (hlv : ∀ k, lv.ownBlock = some k → o k = 0) (hok : ∀ r ∈ rs, RcOk r) (hl : rs.length ≤ 1000000) :
    Calls Try.prog 56 #[.pointer (some ⟨fb, 0, none⟩), lv] w fun e w' => (∃ u, e = .returned u) ∧ ScrM o w' xp kb sb fb cps { s with f := damL s.f rs } ∧ Stp o o w w' := by
  obtain ⟨v, hv⟩ := h.frs
  refine (Damage_any hv (h.cl 3 (by omega)) hW hH hO (fun k hk e => by have := hlv k hk; omega) hok hl).mono ?_
  rintro e w' ⟨h1, h2, h3⟩
  exact ⟨h1, h.frames0 h3 ⟨v, h2⟩⟩
theorem scr_flip (h : ScrM o w xp kb sb fb cps s) : Calls Try.prog 62 #[.pointer (some ⟨fb, 0, none⟩)] w fun e w' => ∃ fv o', e = .returned (.tuple #[.int .i64 (flipF s.f).2.1, fv]) ∧ ScrM o' w' xp kb sb fb cps { s with f := (flipF s.f).1 } ∧ Own2 w' 0 95 fv ((flipF s.f).2.2.map k2) ∧ (∀ k, fv.ownBlock = some k → o' k = 0 ∧ o k = 3) ∧ Stp o o' w w' := by
  obtain ⟨v, hv⟩ := h.frs
  refine (Flip_any hv).mono ?_
  rintro e w' ⟨⟨fv, h1, h2, h3, h4⟩, h5⟩
  obtain ⟨o', q1, q2, q3⟩ := h.frames1 (h5.wide (fun x _ e => by rw [e]; exact hv.cb)) (C := less (fun x => o x = 3) fv) (fun x hx => .inl hx.1) ⟨v, h2⟩
  exact ⟨fv, o', h1, q1, h3, fun k hk => ⟨q3.zero (fun hc => hc.2 hk) (.inr (h4 k hk)), h4 k hk⟩, q2⟩
theorem scr_begin (h : ScrM o w xp kb sb fb cps s) (hfr : s.f.front < 3) (hW : 1 ≤ s.f.W ∧ s.f.W ≤ 16) (hH : 1 ≤ s.f.H ∧ s.f.H ≤ 16) (hok : ∀ x ∈ s.l, SrfOk x) (hl : s.l.length ≤ 1000) (t : Int) :
    Calls Try.prog 65 #[.pointer (some ⟨fb, 0, none⟩), .int .i64 t, .func (.func 66) #[.pointer (some ⟨sb, 0, none⟩)] #[]] w fun e w' => (∃ u, e = .returned u) ∧ ∃ o', ScrM o' w' xp kb sb fb cps { s with f := beginF s.f t (picS s.l s.c.behind) } ∧ Stp o o' w w' := by
  obtain ⟨v, hv⟩ := h.frs
  refine (Begin_any hv (h.cl 3 (by omega)) hfr hW hH t sb (picS s.l s.c.behind) (fun W x y hb hx hy => At_any (h.scn.below hb) hok hl _ _ (by omega) (by omega))).mono ?_
  rintro e w' ⟨h1, h2, h3⟩
  obtain ⟨o', q1, q2, _⟩ := h.frames1 h3 (fun x hx => hx) h2
  exact ⟨h1, o', q1, q2⟩
theorem scr_paint (h : ScrM o w xp kb sb fb cps s) (hn : s.f.W * s.f.H ≤ 1000) (hd : ∀ g, s.f.frame = some g → g.left.length ≤ 1000 ∧ ∀ d ∈ g.left, 0 ≤ d.1 ∧ d.1 < ((s.f.W * s.f.H : Nat) : Int)) {bb cb l : Nat} (hB : Bud w bb cb l 0) (hbb : o bb = 0) (hcb : o cb = 0) (hs : l ≤ 9000000000000000000) :
    Calls Try.prog 67 #[.pointer (some ⟨fb, 0, none⟩), .pointer (some ⟨bb, 0, none⟩)] w fun e w' => (∃ u, e = .returned u) ∧ ScrM o w' xp kb sb fb cps { s with f := paintF s.f l } ∧ Bud w' bb cb (l - paintN s.f l) (paintN s.f l) ∧ But (fun x => o x = 3 ∨ x = bb ∨ x = cb) w w' := by
  obtain ⟨v, hv⟩ := h.frs
  refine (Paint_any hv (h.cl 3 (by omega)) hn hd hB (by omega) (by omega) ⟨by omega, hs⟩).mono ?_
  rintro e w' ⟨h1, h2, h3, h4⟩
  refine ⟨h1, h.frames h4 (fun x h0 h3 e => ?_) (fun _ _ _ => rfl) (fun x hx => Nat.lt_of_lt_of_le (h.lt x hx) h4.size) h2, by rw [Nat.zero_add] at h3; exact h3, h4⟩
  rcases e with e | e | e
  · exact h3 e
  · rw [e] at h0; exact h0 hbb
  · rw [e] at h0; exact h0 hcb
theorem scr_forget (h : ScrM o w xp kb sb fb cps s) (c : Int) (hl : s.f.marks.length ≤ 1000000000) (hl2 : ∀ g, s.f.frame = some g → g.marks.length ≤ 1000000000) :
    Calls Try.prog 58 #[.pointer (some ⟨fb, 0, none⟩), .int .i64 c] w fun e w' => (∃ u, e = .returned u) ∧ ScrM o w' xp kb sb fb cps { s with f := forgetF s.f c } ∧ Stp o o w w' := by
  obtain ⟨v, hv⟩ := h.frs
  refine (Forget_any hv (h.cl 3 (by omega)) c hl hl2).mono ?_
  rintro e w' ⟨h1, h2, h3⟩
  exact ⟨h1, h.frames0 h3 h2⟩
theorem scr_slide (h : ScrM o w xp kb sb fb cps s) (hl : s.l.length ≤ 1000) (hok : ∀ x ∈ s.l, SlOk x) :
    Calls Try.prog 63 #[.pointer (some ⟨sb, 0, none⟩)] w fun e w' => ∃ v, e = .returned v ∧ ScrM o w' xp kb sb fb cps { s with l := s.l.map goS } ∧ Own w' w.heap.size v (s.l.flatMap slDmg) ∧ (∀ k, v.ownBlock = some k → o k = 0) ∧ Stp o o w w' := by
  obtain ⟨mb, ov, L, clock, bk, pv, hs⟩ := h.scn
  refine (Slide_any hs (fun k (h2 : o k = 2) (h4 : o k = 4) => by omega) (h.cl 2 (by omega)) (h.cl 4 (by omega)) hl hok).mono ?_
  rintro e w' ⟨⟨v, pv', h1, h2, h3⟩, h4⟩
  exact ⟨v, h1, h.scene h4 (fun x h0 h3 e => h3 e) (fun _ _ _ => rfl) (fun x hx => Nat.lt_of_lt_of_le (h.lt x hx) h4.size) ⟨_, _, _, _, _, _, h2⟩, h3, fun k hk => h.new0 (World.ownsRow.lt h3 k hk).1, .of h4 (fun x _ e => by omega) (fun _ _ h => h) (fun _ h => h)⟩
/-- What a call leaves that changes the scene and tells what that damages. -/
def DmgScr (o : Nat → Nat) (w : World) (xp kb sb fb : Nat) (cps : List (Option Nat)) (s : Scrn) (rs : List Rc) (e : Ending) (w' : World) : Prop := ∃ v o', e = .returned v ∧ ScrM o' w' xp kb sb fb cps s ∧ Own w' w.heap.size v rs ∧ (∀ k, v.ownBlock = some k → o' k = 0) ∧ Stp o o' w w'
theorem dmg_scr (h : ScrM o w xp kb sb fb cps s) {l' : List Srf} {rs : List Rc} {e : Ending} {w' : World} (hp : DmgPost (fun x => o x = 2) (fun x => o x = 4) w sb s.c.behind l' rs e w') : DmgScr o w xp kb sb fb cps { s with l := l' } rs e w' := by
  obtain ⟨⟨v, C', h1, h2, h3, h4, h5⟩, h6⟩ := hp
  obtain ⟨o', q1, q2, q3⟩ := h.scene1 h6 h2.new h3
  exact ⟨v, o', h1, q1, h4, fun k hk => q3.zero (h5 k hk) (.inl (h.new0 (World.ownsRow.lt h4 k hk).1)), q2⟩
theorem scr_do (h : ScrM o w xp kb sb fb cps s) (hl : s.l.length ≤ 1000) (c : Int) (op : Opn) (po : Option Addr) (pn pc : Nat) (hR : RdN (fun x => o x = 4) w (.slice po pn pc) op.px) (hf : kfit s.l c op) :
    Calls Try.prog 87 #[.pointer (some ⟨sb, 0, none⟩), .int .i64 c, ovalO op (.slice po pn pc)] w (DmgScr o w xp kb sb fb cps { s with l := (kchg s.l c op).1 } (dmgO s.l c op)) :=
  (Do_any h.scn (fun k (h2 : o k = 2) (h4 : o k = 4) => by omega) (h.cl 2 (by omega)) hl c op po pn pc hR hf).mono fun e w' hp => dmg_scr h hp
theorem scr_leave (h : ScrM o w xp kb sb fb cps s) (hl : s.l.length ≤ 1000) (c : Int) :
    Calls Try.prog 57 #[.pointer (some ⟨sb, 0, none⟩), .int .i64 c] w (DmgScr o w xp kb sb fb cps { s with l := s.l.filter fun x => !(x.cl == c) } ((s.l.filter fun x => x.cl == c).flatMap lvDmg)) :=
  (Leave_any h.scn (fun k (h2 : o k = 2) (h4 : o k = 4) => by omega) (h.cl 2 (by omega)) (h.cl 4 (by omega)) hl c).mono fun e w' hp => dmg_scr h hp
end
end Go.Proofs.Ytfnockbgkcgpkaa
set_option linter.all false
namespace Go.Proofs.Ytfnockbgkcgpkaa
open Go.RowKit Go.Proofs.Panes
set_option maxRecDepth 100000

/-- An operation of a client is done. -/
def doOp (c : Nat) (st : List Srf × Frs) (op : Opn) : List Srf × Frs :=
  if op.kind = 8 then (st.1, { st.2 with marks := st.2.marks ++ [((c : Int), op.mark)] }) else ((kchg st.1 c op).1, damL st.2 (dmgO st.1 c op))
def doTr (c : Nat) (st : List Srf × Frs) (ops : List Opn) : List Srf × Frs := ops.foldl (doOp c) (st.1, { st.2 with due := true })
def doAll (c : Nat) (st : List Srf × Frs) (trs : List (List Opn)) : List Srf × Frs := trs.foldl (doTr c) st
/-- An operation can be done. -/
structure OpFine (c : Nat) (st : List Srf × Frs) (op : Opn) : Prop where
  ask : op.kind = 8 → st.2.marks.length ≤ 1000000000
  fit : op.kind ≠ 8 → kfit st.1 c op ∧ st.1.length ≤ 1000 ∧ (∀ r ∈ dmgO st.1 c op, RcOk r) ∧ (dmgO st.1 c op).length ≤ 1000000
def DoFine (c : Nat) : List Srf × Frs → List Opn → Prop
  | _, [] => True
  | st, op :: l => OpFine c st op ∧ DoFine c (doOp c st op) l
theorem damC_wh (f : Frs) (c : Rc) (k : Nat) : (damC f c k).W = f.W ∧ (damC f c k).H = f.H := damC_W f c k
theorem damL_wh (l : List Rc) : ∀ f : Frs, (damL f l).W = f.W ∧ (damL f l).H = f.H := by
  induction l with
  | nil => intro f; exact ⟨rfl, rfl⟩
  | cons r l ih =>
    intro f
    have h1 := ih (damR f r)
    have h2 := damC_W f (cutR f r) ((cutR f r).w * (cutR f r).h).toNat
    exact ⟨h1.1.trans h2.1, h1.2.trans h2.2⟩
theorem doOp_wh (c : Nat) (st : List Srf × Frs) (op : Opn) : (doOp c st op).2.W = st.2.W ∧ (doOp c st op).2.H = st.2.H := by
  unfold doOp
  split
  · exact ⟨rfl, rfl⟩
  · exact damL_wh _ _
theorem doOps_wh (c : Nat) (ops : List Opn) : ∀ st : List Srf × Frs, (ops.foldl (doOp c) st).2.W = st.2.W ∧ (ops.foldl (doOp c) st).2.H = st.2.H := by
  induction ops with
  | nil => intro st; exact ⟨rfl, rfl⟩
  | cons a l ih => intro st; have h1 := ih (doOp c st a); have h2 := doOp_wh c st a; exact ⟨h1.1.trans h2.1, h1.2.trans h2.2⟩
theorem DoFine.at {c : Nat} : ∀ {ops : List Opn} {st : List Srf × Frs} (_ : DoFine c st ops) (k : Nat) (op : Opn), ops[k]? = some op → OpFine c ((ops.take k).foldl (doOp c) st) op
  | [], _, _, k, op, h => by simp at h
  | a :: l, st, hf, 0, op, h => by simp at h; subst h; exact hf.1
  | a :: l, st, hf, k + 1, op, h => by
    have := DoFine.at hf.2 k op (by simpa using h)
    simpa using this
/-- The screen, its scene and frames others. -/
def scrWith (s : Scrn) (st : List Srf × Frs) : Scrn := { s with l := st.1, f := st.2 }
/-- What a call that changes a screen leaves. -/
def ScrGo (o : Nat → Nat) (w : World) (xp kb sb fb : Nat) (cps : List (Option Nat)) (s : Scrn) (w' : World) : Prop := ∃ o', ScrM o' w' xp kb sb fb cps s ∧ Stp o o' w w'
section
variable {o : Nat → Nat} {w : World} {xp kb sb fb : Nat} {cps : List (Option Nat)} {s : Scrn}
theorem ScrM.c10 (h : ScrM o w xp kb sb fb cps s) : w.cell? ⟨xp, 10, none⟩ = some (.pointer (some ⟨fb, 0, none⟩)) := blk_cell h.blk 10
theorem ScrM.c9 (h : ScrM o w xp kb sb fb cps s) : w.cell? ⟨xp, 9, none⟩ = some (.pointer (some ⟨sb, 0, none⟩)) := blk_cell h.blk 9
theorem ScrM.c8 (h : ScrM o w xp kb sb fb cps s) : w.cell? ⟨xp, 8, none⟩ = some (.slice (some ⟨kb, 0, none⟩) cps.length cps.length) := blk_cell h.blk 8
theorem ScrM.c11 (h : ScrM o w xp kb sb fb cps s) : w.cell? ⟨xp, 11, none⟩ = some (.int .i64 s.t) := blk_cell h.blk 11
theorem ScrM.xlt (h : ScrM o w xp kb sb fb cps s) : xp < w.heap.size := lt_of_heap h.blk

/-- Between two operations of 'do'. -/
structure DoI (o : Nat → Nat) (w wr : World) (xp kb sb fb : Nat) (cps : List (Option Nat)) (s : Scrn) (c : Nat) (v : Value) (ops : List Opn) (k : Nat) : Prop where
  go : ∃ o', ScrM o' wr xp kb sb fb cps (scrWith s ((ops.take k).foldl (doOp c) (s.l, { s.f with due := true }))) ∧ Stp o o' w wr ∧ RdO (fun x => o' x = 4) wr v ops

set_option maxHeartbeats 4000000 in
theorem do_any (h : ScrM o w xp kb sb fb cps s) (c : Nat) (hc : c ≤ 1000) {v : Value} {ops : List Opn} (hR : RdO (fun x => o x = 4) w v ops) (hlen : ops.length ≤ 1000) (hW : 1 ≤ s.f.W ∧ s.f.W ≤ 16) (hH : 1 ≤ s.f.H ∧ s.f.H ≤ 16) (hF : DoFine c (s.l, { s.f with due := true }) ops) :
    Calls Try.prog 93 #[.pointer (some ⟨xp, 0, none⟩), .int .i64 (c : Int), v] w fun e w' => (∃ u, e = .returned u) ∧ ScrGo o w xp kb sb fb cps (scrWith s (doTr c (s.l, s.f) ops)) w' := by
  have a10 := h.c10
  have HRq := hide (scr_request h)
  obtain ⟨ao, cap, rfl, hcap1, hcap2, -⟩ := id hR
  have HR := hide hR
  have HF := hide hF
  clear h hR hF
  obtain ⟨n, hn⟩ : ∃ n, n = ops.length := ⟨_, rfl⟩
  rw [← hn] at HR hlen hcap1 ⊢
  have HN := hide hn
  clear hn
  go_enter Try.func93, Try.ntmps93
  go_wp2_with (go_at_call 118; refine (unhide HRq).mono ?_; rintro e w1 ⟨⟨u, rfl⟩, h1, hs1⟩)
  have hI0 : DoI o w w1 xp kb sb fb cps s c (.slice ao n cap) ops 0 := ⟨o, h1, hs1, hs1.rdO (unhide HR)⟩
  have HI0 := hide hI0
  clear h1 hs1 hI0 HRq a10
  go_loopw [15] (fun i wr => ∃ k : Nat, k ≤ n ∧ i = .int .i64 k ∧ DoI o w wr xp kb sb fb cps s c (.slice ao n cap) ops k) (fun i _ => n - (intOf i).toNat)
  case atStart => exact ⟨0, Nat.zero_le _, rfl, unhide HI0⟩
  case round =>
    rename World => wq
    obtain ⟨k, hk, rfl, hI⟩ := hrel
    clear HI0
    obtain ⟨o', hM, hS, hR⟩ := hI.go
    clear hI
    by_cases hlt : k < n
    · obtain ⟨op, hop⟩ : ∃ op, ops[k]? = some op := ⟨ops[k]'(by have := unhide HN; omega), by simp⟩
      have hfine := (unhide HF).at k op hop
      have hstep : (ops.take (k + 1)).foldl (doOp c) (s.l, { s.f with due := true }) = doOp c ((ops.take k).foldl (doOp c) (s.l, { s.f with due := true })) op := by rw [List.take_add_one, hop, List.foldl_append]; rfl
      have hwh := doOps_wh c (ops.take k) (s.l, { s.f with due := true })
      obtain ⟨st, hst⟩ : ∃ st, st = (ops.take k).foldl (doOp c) (s.l, { s.f with due := true }) := ⟨_, rfl⟩
      rw [← hst] at hM hfine hstep hwh
      obtain ⟨ao', cap', e, -, -, hr3⟩ := id hR
      simp only [Value.slice.injEq] at e
      obtain ⟨e1, e2, e3⟩ := e
      obtain ⟨b, off, e4, hb4, hbl, hcs⟩ := hr3 (by intro e; rw [e] at hop; simp at hop)
      obtain ⟨c0, c1, c2, c3, c4, c5, ⟨pv, c6, hpv⟩, c7⟩ := hcs k op hop
      rw [e4] at e1
      subst e1
      clear e2 e3 e4 hr3 hcs
      have hpv' := hpv
      obtain ⟨po, pc, epv, -⟩ := hpv
      rw [epv] at c6 hpv'
      obtain ⟨pn, hpn⟩ : ∃ pn, pn = op.px.length := ⟨_, rfl⟩
      rw [← hpn] at c6 hpv'
      have i0 : (0 : Int) ≤ (k : Int) := by omega
      have i1 : (k : Int) < (n : Int) := by omega
      have a10 := hM.c10
      have a9 := hM.c9
      have lx := hM.xlt
      obtain ⟨W1, hW1⟩ : ∃ W1 : World, W1 = wq.alloc (.cells #[.int .i64 op.kind, .int .i64 op.surf, .int .i64 op.x, .int .i64 op.y, .int .i64 op.w, .int .i64 op.h, .slice po pn pc, .int .i64 op.mark] 72) := ⟨_, rfl⟩
      have hB1 : Below wq.heap.size wq W1 := by rw [hW1]; exact (Below.refl _ wq).alloc (Nat.le_refl _) _
      have hN1 : W1.heap[wq.heap.size]? = some (.cells #[.int .i64 op.kind, .int .i64 op.surf, .int .i64 op.x, .int .i64 op.y, .int .i64 op.w, .int .i64 op.h, .slice po pn pc, .int .i64 op.mark] 72) := by rw [hW1]; exact new_at _ _ _ rfl
      have HW1 := hide hW1
      have o0 : o' wq.heap.size = 0 := hM.new0 (Nat.le_refl _)
      by_cases h8 : op.kind = 8
      · have hE : scrWith s ((ops.take (k + 1)).foldl (doOp c) (s.l, { s.f with due := true })) = { scrWith s st with f := { (scrWith s st).f with marks := (scrWith s st).f.marks ++ [((c : Int), op.mark)] } } := by rw [hstep]; simp [doOp, h8, scrWith]
        have hA : Calls Try.prog 119 #[.pointer (some ⟨fb, 0, none⟩), .agg #[.int .i64 (c : Int), .int .i64 op.mark]] W1.drew fun e w' => (∃ u, e = .returned u) ∧ DoI o w w' xp kb sb fb cps s c (.slice (some ⟨b, off, none⟩) n cap) ops (k + 1) ∧ w'.cell? ⟨xp, 10, none⟩ = some (.pointer (some ⟨fb, 0, none⟩)) ∧ w'.cell? ⟨wq.heap.size, 7, none⟩ = some (.int .i64 op.mark) := by
          have hb : Below wq.heap.size wq W1.drew := hB1.drew
          refine (scr_ask (hM.below hb) c op.mark (hfine.ask h8)).mono ?_
          rintro e w' ⟨h1, o2, h2, h3⟩
          refine ⟨h1, ⟨o2, ?_, (hS.trans (Stp.below hb)).trans h3, ?_⟩, h2.c10, ?_⟩
          · rw [hE]; exact h2
          · exact h3.rdO (hR.below hb)
          · exact blk_cell (h3.block (w := W1.drew) hN1 o0).1 7
        have HA := hide hA
        have g10 : W1.cell? ⟨xp, 10, none⟩ = some (.pointer (some ⟨fb, 0, none⟩)) := (hB1.cell lx).trans a10
        have g7 : W1.cell? ⟨wq.heap.size, 7, none⟩ = some (.int .i64 op.mark) := blk_cell hN1 7
        have q8 : (op.kind == 8) = true := by simp [h8]
        rw [h8] at HW1 c0
        clear hM hS hR hA hE hB1 hN1 hW1 hfine hstep hwh hst epv hpv' hop hpn hb4 a9 h8 q8
        go_wp2_with fail
        rw [← unhide HW1]
        go_region_held3 (fun w' => w'.cell? ⟨xp, 10, none⟩ = some (.pointer (some ⟨fb, 0, none⟩)) ∧ w'.cell? ⟨wq.heap.size, 7, none⟩ = some (.int .i64 op.mark)) (first | go_keep | exact ⟨g10, g7⟩ | exact unhide HX)
          ((go_at_call 119
            refine (unhide HA).mono ?_
            rintro e w2 ⟨⟨u, rfl⟩, hd, hx⟩
            have HX := hide hx
            have HD := hide hd
            clear hd hx))
        go_wp2
        go_roundw
        case rel => exact ⟨k + 1, by omega, by go_num, unhide HD⟩
        case measure => simp [intOf]; omega
      · obtain ⟨hfit, hl, hrc, hrl⟩ := hfine.fit h8
        have hE : scrWith s ((ops.take (k + 1)).foldl (doOp c) (s.l, { s.f with due := true })) = { ({ scrWith s st with l := (kchg (scrWith s st).l c op).1 } : Scrn) with f := damL (scrWith s st).f (dmgO st.1 c op) } := by rw [hstep]; simp [doOp, h8, scrWith]
        have hb : Below wq.heap.size wq W1.drew := hB1.drew
        have hD1 : Calls Try.prog 87 #[.pointer (some ⟨sb, 0, none⟩), .int .i64 (c : Int), ovalO op (.slice po pn pc)] W1.drew fun e w' => ∃ v2, e = .returned v2 ∧ (w'.cell? ⟨xp, 10, none⟩ = some (.pointer (some ⟨fb, 0, none⟩)) ∧ w'.cell? ⟨xp, 9, none⟩ = some (.pointer (some ⟨sb, 0, none⟩)) ∧ w'.heap[wq.heap.size]? = some (.cells #[.int .i64 op.kind, .int .i64 op.surf, .int .i64 op.x, .int .i64 op.y, .int .i64 op.w, .int .i64 op.h, .slice po pn pc, .int .i64 op.mark] 72)) ∧ Calls Try.prog 56 #[.pointer (some ⟨fb, 0, none⟩), v2] w' fun e w' => (∃ u, e = .returned u) ∧ DoI o w w' xp kb sb fb cps s c (.slice (some ⟨b, off, none⟩) n cap) ops (k + 1) ∧ w'.cell? ⟨xp, 10, none⟩ = some (.pointer (some ⟨fb, 0, none⟩)) ∧ w'.cell? ⟨xp, 9, none⟩ = some (.pointer (some ⟨sb, 0, none⟩)) ∧ w'.heap[wq.heap.size]? = some (.cells #[.int .i64 op.kind, .int .i64 op.surf, .int .i64 op.x, .int .i64 op.y, .int .i64 op.w, .int .i64 op.h, .slice po pn pc, .int .i64 op.mark] 72) := by
          refine (scr_do (hM.below hb) hl c op po pn pc (hpv'.below hb) hfit).mono ?_
          rintro e w' ⟨v2, o2, h1, h2, h3, h4, h5⟩
          have hn2 := h5.block (w := W1.drew) hN1 o0
          refine ⟨v2, h1, ⟨h2.c10, h2.c9, hn2.1⟩, (scr_damage h2 (by show 1 ≤ st.2.W ∧ st.2.W ≤ 16; rw [hwh.1]; exact hW) (by show 1 ≤ st.2.H ∧ st.2.H ≤ 16; rw [hwh.2]; exact hH) h3 h4 hrc hrl).mono ?_⟩
          rintro e w3 ⟨g1, g2, g3⟩
          refine ⟨g1, ⟨o2, ?_, ((hS.trans (Stp.below hb)).trans h5).trans g3, g3.rdO (h5.rdO (hR.below hb))⟩, g2.c10, g2.c9, (g3.block hn2.1 hn2.2).1⟩
          rw [hE]; exact g2
        unfold ovalO oval at hD1
        have HD1 := hide hD1
        have g10 : W1.cell? ⟨xp, 10, none⟩ = some (.pointer (some ⟨fb, 0, none⟩)) := (hB1.cell lx).trans a10
        have g9 : W1.cell? ⟨xp, 9, none⟩ = some (.pointer (some ⟨sb, 0, none⟩)) := (hB1.cell lx).trans a9
        have q8 : (op.kind == 8) = false := by simpa using h8
        have HG : Hid (W1.cell? ⟨xp, 10, none⟩ = some (.pointer (some ⟨fb, 0, none⟩)) ∧ W1.cell? ⟨xp, 9, none⟩ = some (.pointer (some ⟨sb, 0, none⟩)) ∧ W1.heap[wq.heap.size]? = some (.cells #[.int .i64 op.kind, .int .i64 op.surf, .int .i64 op.x, .int .i64 op.y, .int .i64 op.w, .int .i64 op.h, .slice po pn pc, .int .i64 op.mark] 72)) := ⟨g10, g9, hN1⟩
        clear hM hS hR hD1 hE hB1 hN1 hW1 hfine hstep hwh hst epv hpv' hop hpn hb4 hb hfit hl hrc hrl g10 g9
        go_wp2_with fail
        rw [← unhide HW1]
        have HC : Hid (∀ W : World, (W.cell? ⟨xp, 10, none⟩ = some (.pointer (some ⟨fb, 0, none⟩)) ∧ W.cell? ⟨xp, 9, none⟩ = some (.pointer (some ⟨sb, 0, none⟩)) ∧ W.heap[wq.heap.size]? = some (.cells #[.int .i64 op.kind, .int .i64 op.surf, .int .i64 op.x, .int .i64 op.y, .int .i64 op.w, .int .i64 op.h, .slice po pn pc, .int .i64 op.mark] 72)) → (W.cell? ⟨xp, 10, none⟩ = some (.pointer (some ⟨fb, 0, none⟩)) ∧ W.cell? ⟨xp, 9, none⟩ = some (.pointer (some ⟨sb, 0, none⟩)) ∧ W.cell? ⟨wq.heap.size, 0, none⟩ = some (.int .i64 op.kind) ∧ W.cell? ⟨wq.heap.size, 1, none⟩ = some (.int .i64 op.surf) ∧ W.cell? ⟨wq.heap.size, 2, none⟩ = some (.int .i64 op.x) ∧ W.cell? ⟨wq.heap.size, 3, none⟩ = some (.int .i64 op.y) ∧ W.cell? ⟨wq.heap.size, 4, none⟩ = some (.int .i64 op.w) ∧ W.cell? ⟨wq.heap.size, 5, none⟩ = some (.int .i64 op.h) ∧ W.cell? ⟨wq.heap.size, 6, none⟩ = some (.slice po pn pc) ∧ W.cell? ⟨wq.heap.size, 7, none⟩ = some (.int .i64 op.mark))) := fun W ⟨q1, q2, q3⟩ => ⟨q1, q2, blk_cell q3 0, blk_cell q3 1, blk_cell q3 2, blk_cell q3 3, blk_cell q3 4, blk_cell q3 5, blk_cell q3 6, blk_cell q3 7⟩
        have HG1 := hide ((unhide HC) W1.drew (unhide HG))
        go_region_held3 (fun w' => w'.cell? ⟨xp, 10, none⟩ = some (.pointer (some ⟨fb, 0, none⟩)) ∧ w'.cell? ⟨xp, 9, none⟩ = some (.pointer (some ⟨sb, 0, none⟩)) ∧ w'.cell? ⟨wq.heap.size, 0, none⟩ = some (.int .i64 op.kind) ∧ w'.cell? ⟨wq.heap.size, 1, none⟩ = some (.int .i64 op.surf) ∧ w'.cell? ⟨wq.heap.size, 2, none⟩ = some (.int .i64 op.x) ∧ w'.cell? ⟨wq.heap.size, 3, none⟩ = some (.int .i64 op.y) ∧ w'.cell? ⟨wq.heap.size, 4, none⟩ = some (.int .i64 op.w) ∧ w'.cell? ⟨wq.heap.size, 5, none⟩ = some (.int .i64 op.h) ∧ w'.cell? ⟨wq.heap.size, 6, none⟩ = some (.slice po pn pc) ∧ w'.cell? ⟨wq.heap.size, 7, none⟩ = some (.int .i64 op.mark)) (first | exact unhide HY | exact unhide HX | exact unhide HG1 | go_keep)
          (first
            | (go_at_call 87
               refine (unhide HD1).mono ?_
               rintro e w2 ⟨v2, rfl, hx, hcd⟩
               have HX := hide ((unhide HC) _ hx)
               have HD2 := hide hcd
               clear hx hcd)
            | (go_at_call 56
               refine (unhide HD2).mono ?_
               rintro e w3 ⟨⟨u, rfl⟩, hd, hy⟩
               have HY := hide ((unhide HC) _ hy)
               have HD := hide hd
               clear hd hy))
        go_wp2
        go_roundw
        case rel => exact ⟨k + 1, by omega, by go_num, unhide HD⟩
        case measure => simp [intOf]; omega
    · have e : k = n := by omega
      have hE : ScrGo o w xp kb sb fb cps (scrWith s (doTr c (s.l, s.f) ops)) wq := by
        refine ⟨o', ?_, hS⟩
        have e2 : (ops.take k) = ops := List.take_of_length_le (by have := unhide HN; omega)
        rw [e2] at hM
        exact hM
      have HE := hide hE
      clear hE hM hS hR e
      go_wp2
      go_end0
      exact ⟨⟨_, rfl⟩, unhide HE⟩
end
end Go.Proofs.Ytfnockbgkcgpkaa
set_option linter.all false
namespace Go.Proofs.Ytfnockbgkcgpkaa
open Go.RowKit Go.Proofs.Panes
set_option maxRecDepth 100000

section
variable {o : Nat → Nat} {w w' : World} {xp kb sb fb : Nat} {cps : List (Option Nat)} {s : Scrn}
/-- A client has changed, in place. -/
theorem ScrM.client (h : ScrM o w xp kb sb fb cps s) {j cp : Nat} {k k' : Cli} (hk : s.ks[j]? = some (some k)) (hcp : cps[j]? = some (some cp)) (hb : But (fun x => o x = 5 + j) w w') (hK : KlAt (fun x => o x = 5 + j) (fun x => o x = 4) w' cp s.c.surfaces.toNat k') : ScrM o w' xp kb sb fb cps { s with ks := s.ks.set j (some k') } ∧ Stp o o w w' := by
  have hjl := (List.getElem?_eq_some_iff.1 hk).1
  refine ⟨⟨hb.heap h.blk (fun e => by rw [h.oxp] at e; omega), hb.heap h.cls (fun e => by rw [h.okb] at e; omega), ⟨by rw [List.length_set]; exact h.ks.len, fun i hi => ?_, fun i k2 hi => ?_⟩, h.scn.but hb (fun x hx e => by omega) (fun x hx e => by omega), ?_, h.oxp, h.okb, fun x hx => Nat.lt_of_lt_of_le (h.lt x hx) hb.size⟩, .of hb (fun x _ e => by omega) (fun _ _ h => h) (fun _ h => h)⟩
  · by_cases e : i = j
    · subst e
      rw [List.getElem?_set_self hjl] at hi
      simp at hi
    · rw [List.getElem?_set_ne (Ne.symm e)] at hi
      exact h.ks.no i hi
  · by_cases e : i = j
    · subst e
      rw [List.getElem?_set_self hjl] at hi
      simp only [Option.some.injEq] at hi
      subst hi
      exact ⟨cp, hcp, hK⟩
    · rw [List.getElem?_set_ne (Ne.symm e)] at hi
      obtain ⟨cp2, q1, q2⟩ := h.ks.yes i k2 hi
      exact ⟨cp2, q1, q2.but hb (fun x hx c => by omega) (fun x hx c => by omega)⟩
  · obtain ⟨v, hv⟩ := h.frs
    exact ⟨v, hv.but hb (fun x hx c => by omega)⟩
/-- What Admit of a client leaves of the screen. -/
def AdmScr (o : Nat → Nat) (w : World) (xp kb sb fb : Nat) (cps : List (Option Nat)) (s : Scrn) (trs : List (List Opn)) (e : Ending) (w' : World) : Prop :=
  ∃ (av : Value) (ma : List (Value × List Opn)), e = .returned av ∧ ScrM o w' xp kb sb fb cps s ∧ Own2 w' w.heap.size 132 av (ma.map qcell) ∧ (∀ b, av.ownBlock = some b → o b = 0) ∧ ma.map Prod.snd = trs ∧ (∀ t ∈ ma, RdO (fun x => o x = 4) w' t.1 t.2) ∧ Stp o o w w'
theorem scr_admit (h : ScrM o w xp kb sb fb cps s) {j cp : Nat} {k : Cli} (hk : s.ks[j]? = some (some k)) (hcp : cps[j]? = some (some cp)) (qn : Int) (hl : k.q.length ≤ 1000) (hq : 0 ≤ qn ∧ qn ≤ 1000000) (hcr : 0 ≤ k.cr ∧ k.cr ≤ 1000000) (hco : ∀ x ∈ k.q, 0 ≤ costOf x ∧ costOf x ≤ 1000000) :
    Calls Try.prog 92 #[.pointer (some ⟨cp, 0, none⟩), .int .i64 qn] w (AdmScr o w xp kb sb fb cps { s with ks := s.ks.set j (some (admitC k qn).2) } (admitC k qn).1) := by
  obtain ⟨cp', q1, q2⟩ := h.ks.yes j k hk
  rw [hcp] at q1
  simp only [Option.some.injEq] at q1
  subst q1
  refine (Admit_any q2 (fun x hx => h.lt x (by omega)) (fun x h1 h2 => by omega) qn hl hq hcr hco).mono ?_
  rintro e w' ⟨⟨av, ma, h1, h2, h3, h4, h5⟩, h6⟩
  obtain ⟨g1, g2⟩ := h.client hk hcp h6 h5
  exact ⟨av, ma, h1, g1, h2, fun b hb => h.new0 (World.ownsRow.lt h2 b hb).1, h3, h4, g2⟩
end

/-- The scene and the frames when the first j clients have had theirs. -/
def scAdmI (q : Int) (ks : List (Option Cli)) (st : List Srf × Frs) : Nat → List Srf × Frs
  | 0 => st
  | j + 1 => match ks[j]? with
    | some (some k) => doAll j (scAdmI q ks st j) (admitC k q).1
    | _ => scAdmI q ks st j
def admK (q : Int) (k : Option Cli) : Option Cli := k.map fun k => (admitC k q).2
def ksI (q : Int) (ks : List (Option Cli)) (j : Nat) : List (Option Cli) := (ks.take j).map (admK q) ++ ks.drop j
def cntK (q : Int) (k : Option Cli) : Int := match k with
  | none => 0
  | some k => ((admitC k q).1.length : Int)
def cntI (q : Int) (ks : List (Option Cli)) (j : Nat) : List Int := (ks.take j).map (cntK q) ++ List.replicate (ks.length - j) 0
def admS (s : Scrn) (j : Nat) : Scrn := { s with ks := ksI s.c.quantum s.ks j, l := (scAdmI s.c.quantum s.ks (s.l, s.f) j).1, f := (scAdmI s.c.quantum s.ks (s.l, s.f) j).2 }
theorem ksI_at {q : Int} {ks : List (Option Cli)} {j : Nat} (hj : j < ks.length) : (ksI q ks j)[j]? = ks[j]? := by
  unfold ksI
  rw [List.getElem?_append_right (by simp; omega)]
  simp [Nat.min_eq_left (Nat.le_of_lt hj)]
theorem ksI_len (q : Int) (ks : List (Option Cli)) (j : Nat) : (ksI q ks j).length = ks.length := by
  unfold ksI
  simp
  omega
theorem ksI_succ {q : Int} {ks : List (Option Cli)} {j : Nat} {k : Option Cli} (hj : ks[j]? = some k) : ksI q ks (j + 1) = (ksI q ks j).set j (admK q k) := by
  have hl := (List.getElem?_eq_some_iff.1 hj).1
  have hd : ks.drop j = k :: ks.drop (j + 1) := by
    rw [← List.getElem_cons_drop (h := hl)]
    congr 1
    exact (List.getElem?_eq_some_iff.1 hj).2
  unfold ksI
  rw [hd, List.take_add_one, hj, List.map_append, List.set_append_right _ _ (by simp; omega)]
  simp [Nat.min_eq_left (Nat.le_of_lt hl)]
theorem cntI_len (q : Int) (ks : List (Option Cli)) (j : Nat) (hj : j ≤ ks.length) : (cntI q ks j).length = ks.length := by
  unfold cntI
  simp
  omega
theorem cntI_succ {q : Int} {ks : List (Option Cli)} {j : Nat} {k : Option Cli} (hj : ks[j]? = some k) : cntI q ks (j + 1) = (cntI q ks j).set j (cntK q k) := by
  have hl := (List.getElem?_eq_some_iff.1 hj).1
  unfold cntI
  rw [List.take_add_one, hj, List.map_append, List.set_append_right _ _ (by simp; omega)]
  rw [show ks.length - j = (ks.length - (j + 1)) + 1 by omega, List.replicate_succ]
  simp [Nat.min_eq_left (Nat.le_of_lt hl)]
theorem cntI_at {q : Int} {ks : List (Option Cli)} {j : Nat} (hl : j < ks.length) : (cntI q ks j)[j]? = some 0 := by
  unfold cntI
  rw [List.getElem?_append_right (by simp; omega), List.getElem?_replicate, if_pos (by simp; omega)]
theorem doTr_wh (c : Nat) (st : List Srf × Frs) (ops : List Opn) : (doTr c st ops).2.W = st.2.W ∧ (doTr c st ops).2.H = st.2.H := doOps_wh c ops (st.1, { st.2 with due := true })
theorem doAll_wh (c : Nat) (trs : List (List Opn)) : ∀ st : List Srf × Frs, (doAll c st trs).2.W = st.2.W ∧ (doAll c st trs).2.H = st.2.H := by
  induction trs with
  | nil => intro st; exact ⟨rfl, rfl⟩
  | cons a l ih => intro st; have h1 := ih (doTr c st a); have h2 := doTr_wh c st a; exact ⟨h1.1.trans h2.1, h1.2.trans h2.2⟩
theorem scAdmI_wh (q : Int) (ks : List (Option Cli)) (st : List Srf × Frs) : ∀ j, (scAdmI q ks st j).2.W = st.2.W ∧ (scAdmI q ks st j).2.H = st.2.H
  | 0 => ⟨rfl, rfl⟩
  | j + 1 => by
    have ih := scAdmI_wh q ks st j
    unfold scAdmI
    split
    · rename_i k _
      have h1 := doAll_wh j (admitC k q).1 (scAdmI q ks st j)
      exact ⟨h1.1.trans ih.1, h1.2.trans ih.2⟩
    · exact ih
/-- All that the clients' credit is enough for can be done. -/
structure AdmFine (s : Scrn) : Prop where
  len : s.ks.length ≤ 4
  qn : 0 ≤ s.c.quantum ∧ s.c.quantum ≤ 1000000
  cl : ∀ (j : Nat) (k : Cli), s.ks[j]? = some (some k) → k.q.length ≤ 1000 ∧ (0 ≤ k.cr ∧ k.cr ≤ 1000000) ∧ ∀ x ∈ k.q, (0 ≤ costOf x ∧ costOf x ≤ 1000000) ∧ x.length ≤ 1000
  fine : ∀ (j : Nat) (k : Cli) (m : Nat) (tr : List Opn), s.ks[j]? = some (some k) → (admitC k s.c.quantum).1[m]? = some tr → DoFine j ((doAll j (scAdmI s.c.quantum s.ks (s.l, s.f) j) ((admitC k s.c.quantum).1.take m)).1, { (doAll j (scAdmI s.c.quantum s.ks (s.l, s.f) j) ((admitC k s.c.quantum).1.take m)).2 with due := true }) tr
  wd : 1 ≤ s.f.W ∧ s.f.W ≤ 16
  ht : 1 ≤ s.f.H ∧ s.f.H ≤ 16
end Go.Proofs.Ytfnockbgkcgpkaa
set_option linter.all false
namespace Go.Proofs.Ytfnockbgkcgpkaa
open Go.RowKit Go.Proofs.Panes
set_option maxRecDepth 100000

section
variable {o : Nat → Nat} {w wr : World} {xp kb sb fb : Nat} {cps : List (Option Nat)} {s : Scrn} {n j : Nat}
/-- Between two clients of 'admit'. -/
structure AdO (o : Nat → Nat) (w wr : World) (xp kb sb fb : Nat) (cps : List (Option Nat)) (s : Scrn) (n j : Nat) : Prop where
  go : ∃ o', ScrM o' wr xp kb sb fb cps (admS s j) ∧ Stp o o' w wr ∧ OwnN wr w.heap.size (.slice (some ⟨w.heap.size, 0, none⟩) n n) (cntI s.c.quantum s.ks j) ∧ o' w.heap.size = 0
def adNs (s : Scrn) (j : Nat) (k : Cli) (m : Nat) : Scrn := scrWith { admS s j with ks := (ksI s.c.quantum s.ks j).set j (some (admitC k s.c.quantum).2) } (doAll j (scAdmI s.c.quantum s.ks (s.l, s.f) j) ((admitC k s.c.quantum).1.take m))
/-- Between two transactions of a client: m are done, c of them are counted. -/
structure AdN (o : Nat → Nat) (w wr : World) (xp kb sb fb : Nat) (cps : List (Option Nat)) (s : Scrn) (n j : Nat) (k : Cli) (av : Value) (ma : List (Value × List Opn)) (m c : Nat) : Prop where
  go : ∃ o', ScrM o' wr xp kb sb fb cps (adNs s j k m) ∧ Stp o o' w wr ∧ OwnN wr w.heap.size (.slice (some ⟨w.heap.size, 0, none⟩) n n) ((cntI s.c.quantum s.ks j).set j (c : Int)) ∧ o' w.heap.size = 0 ∧ Own2 wr 0 132 av (ma.map qcell) ∧ (∀ b, av.ownBlock = some b → o' b = 0) ∧ ∀ t ∈ ma, RdO (fun x => o' x = 4) wr t.1 t.2
theorem doAll_snoc (c : Nat) (st : List Srf × Frs) (l : List (List Opn)) (m : Nat) (tr : List Opn) (h : l[m]? = some tr) : doAll c st (l.take (m + 1)) = doTr c (doAll c st (l.take m)) tr := by
  unfold doAll
  rw [List.take_add_one, h, List.foldl_append]
  rfl
theorem ownN_set {w : World} {base g n : Nat} {l : List Int} (h : OwnN w base (.slice (some ⟨g, 0, none⟩) n n) l) (hl : l.length = n) (j : Nat) (z : Int) : OwnN (w.setCell ⟨g, j, none⟩ (.int .i64 z)) base (.slice (some ⟨g, 0, none⟩) n n) (l.set j z) := by
  subst hl
  have := (World.ownsRow.stored h j (.int .i64 z)).1
  unfold OwnN
  rw [List.length_set, List.map_set]
  exact this
theorem AdO.start (h : ScrM o w xp kb sb fb cps s) (hn : n = s.ks.length) (hn4 : n ≤ 4) : AdO o w (w.alloc (.cells (Array.replicate n (Value.int .i64 0)) 3)) xp kb sb fb cps s n 0 := by
  have hb : Below w.heap.size w (w.alloc (.cells (Array.replicate n (Value.int .i64 0)) 3)) := (Below.refl _ w).alloc (Nat.le_refl _) _
  refine ⟨o, ?_, Stp.below hb, ?_, h.new0 (Nat.le_refl _)⟩
  · have : admS s 0 = s := by simp [admS, ksI, scAdmI]
    rw [this]; exact h.below hb
  · have : cntI s.c.quantum s.ks 0 = List.replicate n 0 := by simp [cntI, hn]
    rw [this]
    exact own_intsq w n w.heap.size (Nat.le_refl _) (by omega)
theorem AdO.below (h : AdO o w wr xp kb sb fb cps s n j) {W : World} (hb : Below wr.heap.size wr W) : AdO o w W xp kb sb fb cps s n j := by
  obtain ⟨o', h1, h2, h3, h4⟩ := h.go
  exact ⟨o', h1.below hb, h2.trans (Stp.below hb), row_but (S := fun _ => False) h3 (.of_below hb) (fun _ _ h => h), h4⟩
theorem AdO.skip (h : AdO o w wr xp kb sb fb cps s n j) (hk : s.ks[j]? = some none) : AdO o w wr xp kb sb fb cps s n (j + 1) := by
  have hl := (List.getElem?_eq_some_iff.1 hk).1
  obtain ⟨o', h1, h2, h3, h4⟩ := h.go
  have e1 : admS s (j + 1) = admS s j := by
    unfold admS
    rw [ksI_succ hk]
    have : (ksI s.c.quantum s.ks j).set j (admK s.c.quantum none) = ksI s.c.quantum s.ks j := by
      have := ksI_at (q := s.c.quantum) hl
      rw [hk] at this
      exact List.ext_getElem? fun i => by
        rw [List.getElem?_set]
        split
        · rename_i e; subst e; rw [if_pos (by rw [ksI_len]; exact hl), this]; rfl
        · rfl
    rw [this]
    simp [scAdmI, hk]
  have e2 : cntI s.c.quantum s.ks (j + 1) = cntI s.c.quantum s.ks j := by
    rw [cntI_succ hk]
    have := cntI_at (q := s.c.quantum) hl
    exact List.ext_getElem? fun i => by
      rw [List.getElem?_set]
      split
      · rename_i e; subst e; rw [if_pos (by rw [cntI_len _ _ _ (Nat.le_of_lt hl)]; exact hl), this]; rfl
      · rfl
  exact ⟨o', by rw [e1]; exact h1, h2, by rw [e2]; exact h3, h4⟩
theorem adm_call (h : AdO o w wr xp kb sb fb cps s n j) {k : Cli} {cp : Nat} (hk : s.ks[j]? = some (some k)) (hcp : cps[j]? = some (some cp)) (hF : AdmFine s) {W : World} (hb : Below wr.heap.size wr W) :
    Calls Try.prog 92 #[.pointer (some ⟨cp, 0, none⟩), .int .i64 s.c.quantum] W fun e w' => ∃ (av : Value) (ma : List (Value × List Opn)), e = .returned av ∧ AdN o w w' xp kb sb fb cps s n j k av ma 0 0 ∧ ma.map Prod.snd = (admitC k s.c.quantum).1 := by
  have hl := (List.getElem?_eq_some_iff.1 hk).1
  obtain ⟨o', h1, h2, h3, h4⟩ := (h.below hb).go
  obtain ⟨b1, b2, b3⟩ := hF.cl j k hk
  refine (scr_admit h1 (j := j) (by show (ksI _ _ _)[j]? = _; rw [ksI_at hl]; exact hk) hcp s.c.quantum b1 hF.qn b2 (fun x hx => (b3 x hx).1)).mono ?_
  rintro e w' ⟨av, ma, g1, g2, g3, g4, g5, g6, g7⟩
  have hr := g7.row h3 (fun b hb => by simp [Value.ownBlock] at hb; subst hb; exact h4)
  refine ⟨av, ma, g1, ⟨o', g2, h2.trans g7, ?_, h4, own2_mono g3 (Nat.zero_le _), g4, g6⟩, g5⟩
  have e : (cntI s.c.quantum s.ks j).set j ((0 : Nat) : Int) = cntI s.c.quantum s.ks j := by
    have := cntI_at (q := s.c.quantum) hl
    exact List.ext_getElem? fun i => by
      rw [List.getElem?_set]
      split
      · rename_i e; subst e; rw [if_pos (by rw [cntI_len _ _ _ (Nat.le_of_lt hl)]; exact hl), this]; rfl
      · rfl
  rw [e]
  exact hr.1
theorem AdN.below {k : Cli} {av : Value} {ma : List (Value × List Opn)} {m c : Nat} (h : AdN o w wr xp kb sb fb cps s n j k av ma m c) {W : World} (hb : Below wr.heap.size wr W) : AdN o w W xp kb sb fb cps s n j k av ma m c := by
  obtain ⟨o', h1, h2, h3, h4, h5, h6, h7⟩ := h.go
  exact ⟨o', h1.below hb, h2.trans (Stp.below hb), row_but (S := fun _ => False) h3 (.of_below hb) (fun _ _ h => h), h4, row_but (S := fun _ => False) h5 (.of_below hb) (fun _ _ h => h), h6, fun t ht => (h7 t ht).below hb⟩
theorem do_call {k : Cli} {av : Value} {ma : List (Value × List Opn)} {m c : Nat} (h : AdN o w wr xp kb sb fb cps s n j k av ma m c) (hk : s.ks[j]? = some (some k)) (hma : ma.map Prod.snd = (admitC k s.c.quantum).1) {t : Value × List Opn} (ht : ma[m]? = some t) (hF : AdmFine s) {W : World} (hb : Below wr.heap.size wr W) :
    Calls Try.prog 93 #[.pointer (some ⟨xp, 0, none⟩), .int .i64 (j : Int), t.1] W fun e w' => (∃ u, e = .returned u) ∧ AdN o w w' xp kb sb fb cps s n j k av ma (m + 1) c := by
  have hl := (List.getElem?_eq_some_iff.1 hk).1
  obtain ⟨o', h1, h2, h3, h4, h5, h6, h7⟩ := (h.below hb).go
  have htr : (admitC k s.c.quantum).1[m]? = some t.2 := by rw [← hma, List.getElem?_map, ht]; rfl
  have hmem : t.2 ∈ k.q := List.mem_of_mem_take (List.mem_of_getElem? htr)
  have hwh1 := doAll_wh j ((admitC k s.c.quantum).1.take m) (scAdmI s.c.quantum s.ks (s.l, s.f) j)
  have hwh2 := scAdmI_wh s.c.quantum s.ks (s.l, s.f) j
  have eW : (adNs s j k m).f.W = s.f.W := hwh1.1.trans hwh2.1
  have eH : (adNs s j k m).f.H = s.f.H := hwh1.2.trans hwh2.2
  have hl4 := hF.len
  refine (do_any h1 j (by omega) (h7 t (List.mem_of_getElem? ht)) ((hF.cl j k hk).2.2 _ hmem).2 (by rw [eW]; exact hF.wd) (by rw [eH]; exact hF.ht) (hF.fine j k m t.2 hk htr)).mono ?_
  rintro e w' ⟨g1, o2, g2, g3⟩
  have hr := g3.row h3 (fun b hb => by simp [Value.ownBlock] at hb; subst hb; exact h4)
  have hr2 := g3.row h5 h6
  refine ⟨g1, ⟨o2, ?_, h2.trans g3, hr.1, hr.2 _ rfl, hr2.1, hr2.2, fun t ht => g3.rdO (h7 t ht)⟩⟩
  unfold adNs
  rw [doAll_snoc _ _ _ _ _ htr]
  exact g2
theorem AdN.count {k : Cli} {av : Value} {ma : List (Value × List Opn)} {m c : Nat} (h : AdN o w wr xp kb sb fb cps s n j k av ma m c) (hn : n = s.ks.length) (hj : j ≤ s.ks.length) (c' : Nat) : AdN o w (wr.setCell ⟨w.heap.size, j, none⟩ (.int .i64 (c' : Int))) xp kb sb fb cps s n j k av ma m c' := by
  obtain ⟨o', h1, h2, h3, h4, h5, h6, h7⟩ := h.go
  have hs : But (fun x => x = w.heap.size) wr (wr.setCell ⟨w.heap.size, j, none⟩ (.int .i64 (c' : Int))) := (But.refl (fun x => x = w.heap.size) wr).setCell (p := ⟨w.heap.size, j, none⟩) (.inl rfl) _
  have hS : Stp o o' w (wr.setCell ⟨w.heap.size, j, none⟩ (.int .i64 (c' : Int))) := ⟨h2.but.step hs (fun x e => .inr (by rw [e]; exact Nat.le_refl _)), h2.ext, h2.four⟩
  have hne : ∀ b, av.ownBlock = some b → ¬ b = w.heap.size := fun b hb e => by
    obtain ⟨cs, fz, hg⟩ := row_heap h3 (k := w.heap.size) rfl
    exact row_kind h5 hg (by decide) (by rw [hb, e])
  refine ⟨o', h1.but hs (fun x hx e => hx (by rw [e]; exact h4)), hS, ?_, h4, row_but h5 hs hne, h6, fun t ht => (h7 t ht).but hs (fun x (hx : o' x = 4) e => by rw [e, h4] at hx; omega)⟩
  have := ownN_set h3 (by rw [List.length_set, cntI_len _ _ _ hj, hn]) j (c' : Int)
  rw [List.set_set] at this
  exact this
theorem AdN.done {k : Cli} {av : Value} {ma : List (Value × List Opn)} {m : Nat} (h : AdN o w wr xp kb sb fb cps s n j k av ma m m) (hk : s.ks[j]? = some (some k)) (hma : ma.map Prod.snd = (admitC k s.c.quantum).1) (hm : m = ma.length) : AdO o w wr xp kb sb fb cps s n (j + 1) := by
  have hl := (List.getElem?_eq_some_iff.1 hk).1
  obtain ⟨o', h1, h2, h3, h4, h5, h6, h7⟩ := h.go
  have hml : m = (admitC k s.c.quantum).1.length := by rw [← hma, List.length_map]; exact hm
  refine ⟨o', ?_, h2, ?_, h4⟩
  · have : admS s (j + 1) = adNs s j k m := by
      unfold admS adNs scrWith
      rw [ksI_succ hk, hml, List.take_of_length_le (Nat.le_refl _)]
      simp [scAdmI, hk, admK, admS]
    rw [this]; exact h1
  · rw [cntI_succ hk]
    have : cntK s.c.quantum (some k) = (m : Int) := by rw [hml]; rfl
    rw [this]; exact h3
end
end Go.Proofs.Ytfnockbgkcgpkaa
set_option linter.all false
namespace Go.Proofs.Ytfnockbgkcgpkaa
open Go.RowKit Go.Proofs.Panes
set_option maxRecDepth 100000

section
variable {o : Nat → Nat} {w wr : World} {xp kb sb fb : Nat} {cps : List (Option Nat)} {s : Scrn} {n j : Nat}
theorem AdO.facts (h : AdO o w wr xp kb sb fb cps s n j) : wr.cell? ⟨xp, 5, none⟩ = some (.int .i64 s.c.quantum) ∧ (∀ (i : Nat) (c : Option Nat), cps[i]? = some c → wr.cell? ⟨kb, i, none⟩ = some (pptr c)) ∧ cps.length = s.ks.length := by
  obtain ⟨o', h1, h2, h3, h4⟩ := h.go
  refine ⟨blk_cell h1.blk 5, fun i c hc => ?_, by rw [h1.ks.len]; exact ksI_len _ _ _⟩
  rw [blk_cell h1.cls]
  simp [hc]
theorem AdO.kind (h : AdO o w wr xp kb sb fb cps s n j) (hj : j < s.ks.length) : (s.ks[j]? = some none ∧ cps[j]? = some none) ∨ ∃ k cp, s.ks[j]? = some (some k) ∧ cps[j]? = some (some cp) := by
  obtain ⟨o', h1, h2, h3, h4⟩ := h.go
  cases hk : s.ks[j]? with
  | none => rw [List.getElem?_eq_getElem hj] at hk; cases hk
  | some x =>
    cases x with
    | none => exact .inl ⟨rfl, h1.ks.no j (by show (ksI _ _ _)[j]? = _; rw [ksI_at hj]; exact hk)⟩
    | some k =>
      obtain ⟨cp, hc, _⟩ := h1.ks.yes j k (by show (ksI _ _ _)[j]? = _; rw [ksI_at hj]; exact hk)
      exact .inr ⟨k, cp, rfl, hc⟩
theorem AdN.slice {k : Cli} {av : Value} {ma : List (Value × List Opn)} {m c : Nat} (h : AdN o w wr xp kb sb fb cps s n j k av ma m c) : ∃ ao cap, av = .slice ao ma.length cap := by
  obtain ⟨o', h1, h2, h3, h4, h5, h6, h7⟩ := h.go
  obtain ⟨ro, rc, e⟩ := row_slice h5
  rw [List.length_map] at e
  exact ⟨ro, rc, e⟩
theorem AdN.facts {k : Cli} {ao : Option Addr} {cap : Nat} {ma : List (Value × List Opn)} {m c q : Nat} (h : AdN o w wr xp kb sb fb cps s n j k (.slice ao q cap) ma m c) (hn : n = s.ks.length) (hj : j < s.ks.length) {t : Value × List Opn} (ht : ma[m]? = some t) :
    (∃ ag, ao = some ⟨ag, 0, none⟩ ∧ wr.cell? ⟨ag, m * 2, none⟩ = some t.1 ∧ wr.cell? ⟨ag, m * 2 + 1, none⟩ = some (.int .i64 (costOf t.2))) ∧ (∃ oo l cc, t.1 = .slice oo l cc) := by
  obtain ⟨o', h1, h2, h3, h4, h5, h6, h7⟩ := h.go
  have htm := List.mem_of_getElem? ht
  obtain ⟨oo, cc, e, _⟩ := h7 t htm
  refine ⟨?_, oo, _, cc, e⟩
  rcases h5.2 with ⟨e, hl⟩ | ⟨g, cp, cur, e, _⟩
  · have : ma = [] := by simpa using hl
    rw [this] at ht; simp at ht
  · simp only [Value.slice.injEq] at e
    obtain ⟨rfl, _, rfl⟩ := e
    obtain ⟨R, hR, _⟩ := h5.row
    have hq : (ma.map qcell)[m]? = some (qcell t) := by rw [List.getElem?_map, ht]; rfl
    have hc := c2_at _ m _ hq
    have hlt := (List.getElem?_eq_some_iff.1 hc.2).1
    refine ⟨g, rfl, ?_, ?_⟩
    · rw [blk_cell hR, List.getElem?_toArray, c2_append, List.getElem?_append_left (by omega), hc.1]; rfl
    · rw [blk_cell hR, List.getElem?_toArray, c2_append, List.getElem?_append_left hlt, hc.2]; rfl
theorem AdN.cell {k : Cli} {av : Value} {ma : List (Value × List Opn)} {m c : Nat} (h : AdN o w wr xp kb sb fb cps s n j k av ma m c) (hn : n = s.ks.length) (hj : j < s.ks.length) : wr.cell? ⟨w.heap.size, j, none⟩ = some (.int .i64 (c : Int)) ∧ ∀ i, wr.frozen? ⟨w.heap.size, i, none⟩ = false := by
  obtain ⟨o', h1, h2, h3, h4, h5, h6, h7⟩ := h.go
  have hl : ((cntI s.c.quantum s.ks j).set j (c : Int)).length = n := by rw [List.length_set, cntI_len _ _ _ (Nat.le_of_lt hj), hn]
  refine ⟨ownN_at h3 hl.symm (by rw [List.getElem?_set_self (by rw [cntI_len _ _ _ (Nat.le_of_lt hj)]; exact hj)]), fun i => ownN_thaw h3 hl.symm i⟩

/-- What admit leaves. -/
def AdmitPost (o : Nat → Nat) (w : World) (xp kb sb fb : Nat) (cps : List (Option Nat)) (s : Scrn) (e : Ending) (w' : World) : Prop :=
  ∃ o', e = .returned (.slice (some ⟨w.heap.size, 0, none⟩) s.ks.length s.ks.length) ∧ ScrM o' w' xp kb sb fb cps (admS s s.ks.length) ∧ Stp o o' w w' ∧ OwnN w' w.heap.size (.slice (some ⟨w.heap.size, 0, none⟩) s.ks.length s.ks.length) (s.ks.map (cntK s.c.quantum)) ∧ o' w.heap.size = 0
theorem AdO.post (h : AdO o w wr xp kb sb fb cps s n s.ks.length) (hn : n = s.ks.length) : AdmitPost o w xp kb sb fb cps s (.returned (.slice (some ⟨w.heap.size, 0, none⟩) n n)) wr := by
  subst hn
  obtain ⟨o', h1, h2, h3, h4⟩ := h.go
  refine ⟨o', rfl, h1, h2, ?_, h4⟩
  have : cntI s.c.quantum s.ks s.ks.length = s.ks.map (cntK s.c.quantum) := by simp [cntI]
  rw [← this]; exact h3

set_option maxHeartbeats 4000000 in
theorem admit_any (h : ScrM o w xp kb sb fb cps s) (hF : AdmFine s) :
    Calls Try.prog 64 #[.pointer (some ⟨xp, 0, none⟩)] w (AdmitPost o w xp kb sb fb cps s) := by
  obtain ⟨n, hn⟩ : ∃ n, n = s.ks.length := ⟨_, rfl⟩
  have hn4 : n ≤ 4 := by have := hF.len; omega
  have hcl : cps.length = n := by rw [h.ks.len, hn]
  have a8 := h.c8
  rw [hcl] at a8
  have hmk := make_intsq n (by omega)
  have hI0 := AdO.start h hn hn4
  have a8' : (w.alloc (.cells (Array.replicate n (Value.int .i64 0)) 3)).cell? ⟨xp, 8, none⟩ = some (.slice (some ⟨kb, 0, none⟩) n n) := (((Below.refl _ w).alloc (Nat.le_refl _) _).cell h.xlt).trans a8
  have HI0 := hide hI0
  have HF := hide hF
  have HN := hide hn
  clear h hI0 hF hcl hn
  go_enter Try.func64, Try.ntmps64
  go_wp2
  go_loopw [19] (fun i wr => ∃ j : Nat, j ≤ n ∧ i = .int .i64 j ∧ AdO o w wr xp kb sb fb cps s n j) (fun i _ => n - (intOf i).toNat)
  case atStart => exact ⟨0, Nat.zero_le _, rfl, unhide HI0⟩
  case round =>
    rename World => wq
    obtain ⟨j, hj, rfl, hI⟩ := hrel
    clear HI0 a8 a8' hmk
    by_cases hlt : j < n
    · have hjl : j < s.ks.length := by have := unhide HN; omega
      obtain ⟨f5, fk, -⟩ := hI.facts
      have i0 : (0 : Int) ≤ (j : Int) := by omega
      have i1 : (j : Int) < (n : Int) := by omega
      rcases hI.kind hjl with ⟨hk, hc⟩ | ⟨k, cp, hk, hc⟩
      · have fj := fk j _ hc
        unfold pptr at fj
        simp only [Option.map_none] at fj
        have HS := hide (hI.skip hk)
        clear hI fk hk hc hjl
        go_wp2
        go_roundw
        case rel => exact ⟨j + 1, by omega, by go_num, unhide HS⟩
        case measure => simp [intOf]; omega
      · have fj := fk j _ hc
        unfold pptr at fj
        simp only [Option.map_some] at fj
        have HA := hide (adm_call hI hk hc (unhide HF) (Below.refl _ wq))
        have HK := hide hk
        have HJ := hide hjl
        obtain ⟨qn, hqn⟩ : ∃ qn, qn = s.c.quantum := ⟨_, rfl⟩
        rw [← hqn] at f5 HA
        have HQN := hide hqn
        clear hI fk hk hc hjl hqn
        go_wp2_with (go_at_call 92; refine (unhide HA).mono ?_; rintro e w1 ⟨av, ma, rfl, hN, hma⟩; obtain ⟨ao, cap, hav⟩ := hN.slice; rw [hav] at hN; obtain ⟨q, hq⟩ : ∃ q, q = ma.length := ⟨_, rfl⟩; rw [← hq] at hav hN; have HQ := hide hq; have HN1 := hide hN; have HMA := hide hma; clear hN hma hq; subst hav)
        obtain ⟨wo, hwo⟩ : ∃ wo, wo = wq := ⟨_, rfl⟩
        subst hwo
        have hq1000 : q ≤ 1000 := by
          have h1 := unhide HQ
          have h2 := congrArg List.length (unhide HMA)
          rw [unhide HQN] at h2
          have h3 := ((unhide HF).cl j k (unhide HK)).1
          simp only [List.length_map, admitC, List.length_take] at h2
          omega
        go_loopw [34] (fun i wr => ∃ m : Nat, m ≤ q ∧ i = .int .i64 m ∧ AdN o w wr xp kb sb fb cps s n j k (.slice ao q cap) ma m m) (fun i _ => q - (intOf i).toNat)
        case atStart => exact ⟨0, Nat.zero_le _, rfl, unhide HN1⟩
        case round =>
          rename_i wr
          obtain ⟨m, hm, rfl, hN⟩ := hrel
          clear HN1
          have hma : ma.map Prod.snd = (admitC k s.c.quantum).1 := by rw [← unhide HQN]; exact unhide HMA
          by_cases hmq : m < q
          · obtain ⟨t, ht⟩ : ∃ t, ma[m]? = some t := ⟨ma[m]'(by have := unhide HQ; omega), by simp⟩
            obtain ⟨⟨ag, hag, y0, y1⟩, oo, ol, oc, hto⟩ := hN.facts (unhide HN) (unhide HJ) ht
            subst hag
            obtain ⟨co, hco⟩ : ∃ co, co = costOf t.2 := ⟨_, rfl⟩
            rw [← hco] at y1
            have m0 : (0 : Int) ≤ (m : Int) := by omega
            have m1 : (m : Int) < (q : Int) := by omega
            have hD := do_call hN (unhide HK) hma ht (unhide HF) ((Below.refl _ wr).alloc (Nat.le_refl _) (.cells #[t.1, .int .i64 co] 132))
            rw [hto] at hD y0
            have HD := hide hD
            have HN2 := hide hN
            clear hN hD ht hto hco hma
            go_wp2_with (go_at_call 93; refine (unhide HD).mono ?_; rintro e w2 ⟨⟨u, rfl⟩, hN3⟩; obtain ⟨z0, zz⟩ := hN3.cell (unhide HN) (unhide HJ); have HN3 := hide hN3; clear hN3)
            go_roundw
            case rel => exact ⟨m + 1, by omega, by go_num, (unhide HN3).count (unhide HN) (Nat.le_of_lt (unhide HJ)) (m + 1)⟩
            case measure => simp [intOf]; omega
          · have e : m = q := by omega
            have HO := hide (hN.done (unhide HK) hma (by rw [e]; exact unhide HQ))
            have m1 : ¬ (m : Int) < (q : Int) := by omega
            clear hN hma e
            go_wp2
            go_roundw
            case rel => exact ⟨j + 1, by omega, by go_num, unhide HO⟩
            case measure => simp [intOf]; omega
    · have e : j = s.ks.length := by have := unhide HN; omega
      have HP : Hid (AdmitPost o w xp kb sb fb cps s (.returned (.slice (some ⟨w.heap.size, 0, none⟩) n n)) wq) := by rw [e] at hI; exact hI.post (unhide HN)
      clear hI e
      go_wp2
      go_ret
      exact unhide HP
end
end Go.Proofs.Ytfnockbgkcgpkaa
