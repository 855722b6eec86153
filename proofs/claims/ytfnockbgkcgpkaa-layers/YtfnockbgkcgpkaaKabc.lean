import Derived.Test.YtfnockbgkcgpkaaKaba
import Derived.Test.YtfnockbgkcgpkaaKabb
import Derived.Conc.LoneSelect
set_option linter.all false
namespace Go.Proofs.Ytfnockbgkcgpkaa
open Go.RowKit Go.Conc Go.Proofs.Panes
set_option maxRecDepth 100000

/-- As Code.wp, for a frame that may communicate. -/
def wpN (P : Program) (c : Code) (Q : Exit → Act → World → Prop) (a : Act) (w : World) : Prop :=
  ∀ (b : Frame) (k : List Item) (cs : List Frame), b.kind ≠ .early → ∃ e a' w', Q e a' w' ∧ Arrives P (lone (b.at a (.code c :: k)) cs w) b k cs e a' w'
section
variable {P : Program} {Q : Exit → Act → World → Prop} {a : Act} {w : World}
theorem wpN_of {c : Code} (h : c.wp P Q a w) : wpN P c Q a w := fun b k cs _ => h b k cs
theorem wpN_seq {x y : Code} (h : wpN P x (Exit.then (wpN P y Q) Q) a w) : wpN P (.seq x y) Q a w := by
  intro b k cs hb
  obtain ⟨e, a₁, w₁, hq, harr⟩ := h b (.code y :: k) cs hb
  cases e with
  | normal =>
    obtain ⟨e₂, a₂, w₂, hq₂, harr₂⟩ := hq b k cs hb
    exact ⟨e₂, a₂, w₂, hq₂, .of_steps (.head step_seq harr) harr₂⟩
  | _ => exact ⟨_, a₁, w₁, hq, .of_steps (.one step_seq) (.pass (x := .code y) rfl (fun _ _ => .inl (by simp)) harr)⟩
theorem wpN_seq_k {x y : Code} (h : ∀ K : Act → World → Prop, (∀ a w, wpN P y Q a w → K a w) → wpN P x (Exit.then K Q) a w) : wpN P (.seq x y) Q a w := wpN_seq (h _ fun _ _ h => h)
theorem wpN_cond {c : Operand} {x y : Code} {t : Bool} (hc : a.eval c = .bool t) (h : wpN P (if t then x else y) Q a w) : wpN P (.cond c x y) Q a w :=
  fun b k cs hb => let ⟨e, a', w', q, r⟩ := h b k cs hb; ⟨e, a', w', q, .of_steps (.one (step_cond hc)) r⟩
theorem wpN_block {id : Nat} {c : Code} (h : wpN P c (Exit.inBlock id Q) a w) : wpN P (.block id c) Q a w := by
  intro b k cs hb
  obtain ⟨e, a₁, w₁, hq, harr⟩ := h b (.inBlock id :: k) cs hb
  cases e with
  | normal => exact ⟨.normal, a₁, w₁, hq, .head step_block (Steps.trans harr (.one step_inBlock))⟩
  | exit id' =>
    by_cases hid : id' = id
    · simp only [Exit.inBlock, hid, if_true] at hq
      exact ⟨.normal, a₁, w₁, hq, .head step_block (harr k (by simp [exitTo, hid]))⟩
    · simp only [Exit.inBlock, hid, if_false] at hq
      refine ⟨.exit id', a₁, w₁, hq, fun k' hk => .head step_block (harr k' ?_)⟩
      have : (id == id') = false := by simp; exact fun h => hid h.symm
      simp [exitTo, this, hk]
  | goto l => exact ⟨_, a₁, w₁, hq, fun k' hk => .head step_block (harr k' (by simp [gotoIn, hk]))⟩
  | ret => exact ⟨_, a₁, w₁, hq, .of_steps (.one step_block) harr⟩
  | panic ch => exact ⟨_, a₁, w₁, hq, .of_steps (.one step_block) harr⟩
  | outgrown => exact ⟨_, a₁, w₁, hq, .of_steps (b := b) (k := k) (cs := cs) (e := .outgrown) (.one step_block) harr⟩
theorem wpN_loop {c : Code} (I : Act → World → Prop) (μ : Act → World → Nat) (h₀ : I a w)
    (round : ∀ a w, I a w → wpN P c (Exit.then (fun a' w' => I a' w' ∧ μ a' w' < μ a w) Q) a w) : wpN P (.loop c) Q a w := by
  intro b k cs hb
  have key : ∀ n a w, μ a w = n → I a w → ∃ e a' w', Q e a' w' ∧ Arrives P (lone (b.at a (.code c :: .inLoop c :: k)) cs w) b k cs e a' w' := by
    intro n
    induction n using Nat.strongRecOn with
    | _ n ih =>
      intro a w hn hI
      obtain ⟨e, a₁, w₁, hq, harr⟩ := round a w hI b (.inLoop c :: k) cs hb
      cases e with
      | normal =>
        obtain ⟨hI₁, hlt⟩ := hq
        obtain ⟨e₂, a₂, w₂, hq₂, harr₂⟩ := ih (μ a₁ w₁) (hn ▸ hlt) a₁ w₁ rfl hI₁
        exact ⟨e₂, a₂, w₂, hq₂, .of_steps (Steps.trans harr (.one step_inLoop)) harr₂⟩
      | _ => exact ⟨_, a₁, w₁, hq, .pass (x := .inLoop c) rfl (fun _ _ => .inl (by simp)) harr⟩
  obtain ⟨e, a', w', hq, harr⟩ := key _ a w rfl h₀
  exact ⟨e, a', w', hq, .of_steps (.one step_loop) harr⟩
/-- A region that opens with a select of one receive, with a default. -/
theorem wpN_select {id : Nat} {o : Oper} {rest : List Oper} {cb : Nat} {cl : Bool} {z : Value} (hg : o.guard = none) (hr : (execOp a.eval o).run P w = .ok (.comm #[rcase cb z] false .select) w) (hc : w.heap[cb]? = some (.chan 0 #[] cl 0 0 false))
    (h : wpList P (o :: rest).toArray Q rest (a.put o.dst (.tuple #[goInt (if cl then 0 else -1), .bool false, z])) w) : wpN P (.region id (o :: rest).toArray false) Q a w := by
  intro b k cs hb
  have hw : Region.wanted o (yielded (o :: rest).toArray a.tmps) = true := by simp [Region.wanted, hg]
  have hl : List.range (o :: rest).toArray.size = 0 :: List.range' 1 rest.length := by
    rw [List.range_eq_range']; simp [List.range'_succ]
  have hst := step_region (P := P) (b := b) (a := a) (ops := (o :: rest).toArray) (k := k) (cs := cs) (w := w) (id := id)
  rw [hl] at hst
  have hcomm := stepG_comm (P := P) (b := b) (a := a) (k := k) (cs := cs) (w := w) (main := true) (ops := (o :: rest).toArray) (i := 0) (rest := List.range' 1 rest.length) (o := o) (cases := #[rcase cb z]) (blocking := false) (shape := .select) (w' := w) (by simp) hw hb hr
  have hstep : step P (lone (b.at a (.inRegion (o :: rest).toArray (0 :: List.range' 1 rest.length) :: k)) cs w) = .next (lone (b.at (a.put o.dst (.tuple #[goInt (if cl then 0 else -1), .bool false, z])) (.inRegion (o :: rest).toArray (List.range' 1 rest.length) :: k)) cs w) := by
    rw [lone_eq_solo, lone_eq_solo]
    cases cl with
    | false =>
      rw [step_lone_select_default hcomm hc, Frame.finish_at]
      simp
    | true =>
      rw [step_lone_select_recv_shut hcomm hc, Frame.finish_at]
      simp
  have hops : wpOps P (o :: rest).toArray Q (List.range' 1 rest.length) (a.put o.dst (.tuple #[goInt (if cl then 0 else -1), .bool false, z])) w := by
    rw [wpOps_eq_wpList rest 1 (fun j => by simp [Nat.add_comm])]
    exact h
  obtain ⟨e, a', w', q, r⟩ := wp_ops _ _ _ hops b k cs
  exact ⟨e, a', w', q, .of_steps (Steps.trans (.one hst) (.one hstep)) r⟩
end
end Go.Proofs.Ytfnockbgkcgpkaa
set_option linter.all false
namespace Go.Proofs.Ytfnockbgkcgpkaa
open Go.RowKit Go.Conc Go.Proofs.Panes
set_option maxRecDepth 100000

theorem calls_of_wpN {P : Program} {f : FuncId} {fn : Func} {c : Code} {args : Array Value} {w : World} {R : Ending → World → Prop} (hf : P.funcs[f]? = some fn) (hb : fn.body = some c)
    (h : wpN P c (bodyPost P fn R) { tmps := args ++ Array.replicate (fn.ntmps - args.size) undef, defers := [] } w) : Calls P f args w R := by
  intro cs
  let b : Frame := { (default : Frame) with fn := f, kind := .normal }
  have henter : Frame.enter P f args .normal = b.at { tmps := args ++ Array.replicate (fn.ntmps - args.size) undef, defers := [] } [.code c] := by simp [Frame.enter, Frame.at, hf, hb, b]
  obtain ⟨e, a', w', hq, harr⟩ := h b [] cs (by simp [b])
  rw [← henter] at harr
  cases e with
  | normal =>
    obtain ⟨hd, v, hr, hR⟩ := hq
    exact ⟨.returned v, w', _, hR, Steps.trans harr (.one step_end), rfl, rfl, hd, rfl, fn, hf, hr⟩
  | ret =>
    obtain ⟨hd, v, hr, hR⟩ := hq
    obtain ⟨todo, hs⟩ := harr
    exact ⟨.returned v, w', _, hR, hs, rfl, rfl, hd, rfl, fn, hf, hr⟩
  | panic chain =>
    obtain ⟨hd, hR⟩ := hq
    obtain ⟨todo, hs⟩ := harr
    exact ⟨.panicked chain, w', _, hR, hs, rfl, rfl, hd, fn, hf⟩
  | exit id => exact hq.elim
  | goto l => exact hq.elim
  | outgrown => exact ⟨.outgrown, w', b, hq, harr.resolve_left (by simp [b]), rfl, trivial⟩

/-- The pixels behind some dots. -/
def paintL (px : List Int) (ds : List (Int × Int)) : List Int := ds.foldl (fun px d => px.set d.1.toNat d.2) px
theorem paintL_snoc (px : List Int) (ds : List (Int × Int)) (d : Int × Int) : paintL px (ds ++ [d]) = (paintL px ds).set d.1.toNat d.2 := by simp [paintL]
theorem paintL_len (ds : List (Int × Int)) : ∀ px : List Int, (paintL px ds).length = px.length := by
  induction ds with
  | nil => intro px; rfl
  | cons d ds ih => intro px; exact (ih _).trans (by simp)
/-- The frame when j of its dots have been painted. -/
def paintK (f : Frs) (g : Frm) (j : Nat) : Frs := { f with frame := some { g with left := g.left.drop j }, b := fun i => if i = g.buf then { f.b i with px := paintL (f.b i).px (g.left.take j) } else f.b i }
def paintF (f : Frs) (l : Nat) : Frs := match f.frame with
  | none => f
  | some g => paintK f g (min l g.left.length)
def paintN (f : Frs) (l : Nat) : Nat := match f.frame with
  | none => 0
  | some g => min l g.left.length
theorem map_setI (l : List Int) (p : Nat) (z : Int) : (l.set p z).map (Value.int .i64) = (l.map (Value.int .i64)).set p (.int .i64 z) := by
  induction l generalizing p with
  | nil => rfl
  | cons a l ih => cases p with
    | zero => rfl
    | succ p => simp [ih]
/-- A dot has been painted. -/
theorem Fr.dot {C : Nat → Prop} {w w' : World} {b0 : Nat} {f : Frs} {v : Fl} {g : Frm} (h : Fr C w b0 f v) (hg : f.frame = some g) {d : Int × Int} {ds : List (Int × Int)} {fl : Value} {px : List Int} (hb : But (fun x => x = v.pb g.buf ∨ x = v.fb) w w')
    (hpx : w'.heap[v.pb g.buf]? = some (.cells (px.map (Value.int .i64)).toArray 3 (0, 0))) (hpl : px.length = f.W * f.H) (hfb : w'.heap[v.fb]? = some (.cells #[.int .i64 (g.buf : Int), v.fm, fl] 152 (0, 0))) (hfl : RdD C w fl ds) :
    Fr C w' b0 { f with frame := some { g with left := ds }, b := fun i => if i = g.buf then { f.b i with px := px } else f.b i } { v with fl := fl } := by
  obtain ⟨h1, h2, h3, h4, h5, h6⟩ := h.fr g hg
  have hS : ∀ {x : Nat} {cs : Array Value} {ty : TypeId} {fz : Nat × Nat}, w.heap[x]? = some (.cells cs ty fz) → ty ≠ 3 → ty ≠ 152 → ¬ (x = v.pb g.buf ∨ x = v.fb) := by
    rintro x cs ty fz hx t1 t2 (e | e)
    · have := (h.px g.buf h3).1; rw [← e, hx] at this; simp at this; exact t1 this.2.1
    · rw [e, h1] at hx; simp at hx; exact t2 hx.2.1.symm
  have hbe : ∀ i, (if i = g.buf then ({ f.b i with px := px } : Buf) else f.b i).begun = (f.b i).begun := fun i => by split <;> rfl
  refine ⟨?_, h.cb, ?_, ?_, h.pinj, h.sinj, row_but h.mks hb (fun k hk => ?_), h.mc, ?_⟩
  · have := hb.heap h.blk (hS h.blk (by decide) (by decide))
    rw [this]
    simp [frcells, fptr, hg, hbe]
  · intro i hi
    by_cases e : i = g.buf
    · subst e
      simp only [if_pos]
      exact ⟨hpx, (h.px g.buf h3).2.1, hpl⟩
    · obtain ⟨q1, q2, q3⟩ := h.px i hi
      simp only [if_neg e]
      refine ⟨hb.heap q1 ?_, q2, q3⟩
      rintro (e' | e')
      · exact e (h.pinj i g.buf hi h3 e')
      · rw [e', h1] at q1; simp at q1
  · intro i hi
    obtain ⟨q1, q2, q3⟩ := h.st i hi
    have e : (if i = g.buf then ({ f.b i with px := px } : Buf) else f.b i).st = (f.b i).st := by split <;> rfl
    show w'.heap[v.st i]? = some (.cells (((if i = g.buf then ({ f.b i with px := px } : Buf) else f.b i).st).map Value.bool).toArray 4 (0, 0)) ∧ C (v.st i) ∧ (if i = g.buf then ({ f.b i with px := px } : Buf) else f.b i).st.length = f.W * f.H
    rw [e]
    exact ⟨hb.heap q1 (hS q1 (by decide) (by decide)), q2, q3⟩
  · rintro (e | e)
    · exact row_kind h.mks (h.px g.buf h3).1 (by decide) (by rw [hk, e])
    · exact row_kind h.mks h1 (by decide) (by rw [hk, e])
  · intro g' hg'
    simp only [Option.some.injEq] at hg'
    subst hg'
    refine ⟨hfb, h2, h3, row_but h4 hb (fun k hk => ?_), h5, ?_⟩
    · rintro (e | e)
      · exact row_kind h4 (h.px g.buf h3).1 (by decide) (by rw [hk, e])
      · exact row_kind h4 h1 (by decide) (by rw [hk, e])
    · obtain ⟨ao, cap, e, q1, q2, q3⟩ := hfl
      refine ⟨ao, cap, e, q1, q2, fun hne => ?_⟩
      obtain ⟨x, off, cs, e, hc, hg', hcell⟩ := q3 hne
      have hbl := hb.block x (lt_of_heap hg') (hS hg' (by decide) (by decide))
      exact ⟨x, off, cs, e, hc, hbl.trans hg', fun j k hk => ⟨(World.cell?_of_block hbl).trans (hcell j k hk).1, (World.cell?_of_block hbl).trans (hcell j k hk).2⟩⟩
/-- Without the first one. -/
theorem RdD.tail {C : Nat → Prop} {w : World} {b off cap : Nat} {d : Int × Int} {ds : List (Int × Int)} (h : RdD C w (.slice (some ⟨b, off, none⟩) (ds.length + 1) cap) (d :: ds)) : RdD C w (.slice (if cap = 1 then some ⟨b, off, none⟩ else some ⟨b, off + 2, none⟩) ds.length (cap - 1)) ds := by
  obtain ⟨ao, cap', e, q1, q2, q3⟩ := h
  simp only [Value.slice.injEq] at e
  obtain ⟨rfl, -, rfl⟩ := e
  obtain ⟨x, off', cs, e, hc, hg, hcell⟩ := q3 (by simp)
  simp only [Option.some.injEq, Addr.mk.injEq, and_true] at e
  obtain ⟨rfl, rfl⟩ := e
  refine ⟨_, _, rfl, by simp at q1; omega, by omega, fun hne => ?_⟩
  have hl : 0 < ds.length := List.length_pos_iff.2 hne
  have hc1 : ¬ cap = 1 := by simp at q1; omega
  rw [if_neg hc1]
  refine ⟨b, off + 2, cs, rfl, hc, hg, fun j k hk => ?_⟩
  have := hcell (j + 1) k (by simpa using hk)
  rw [show off + (j + 1) * 2 = off + 2 + j * 2 by omega] at this
  exact this
end Go.Proofs.Ytfnockbgkcgpkaa
set_option linter.all false
namespace Go.Proofs.Ytfnockbgkcgpkaa
open Go.RowKit Go.Conc Go.Proofs.Panes
set_option maxRecDepth 100000

def mkA (x0 x1 x4 : Value) (us : Nat → Value) : Act := { tmps := #[x0, x1, us 2, us 3, x4, us 5, us 6, us 7, us 8, us 9, us 10, us 11, us 12, us 13, us 14, us 15, us 16, us 17, us 18, us 19, us 20, us 21, us 22, us 23, us 24, us 25, us 26, us 27, us 28, us 29, us 30, us 31, us 32, us 33, us 34, us 35, us 36, us 37, us 38, us 39, us 40, us 41, us 42, us 43, us 44, us 45, us 46, us 47, us 48, us 49, us 50, us 51, us 52, us 53, us 54, us 55, us 56, us 57, us 58, us 59, us 60, us 61, us 62, us 63, us 64, us 65, us 66, us 67, us 68, us 69, us 70], defers := [] }
theorem ex_mkA {ts : Array Value} {x0 x1 x4 : Value} {p : Nat → Value → Prop} (he : ({ tmps := ts, defers := [] } : Act) = mkA x0 x1 x4 (fun i => ts.getD i undef)) (hp : ∃ j fl, p j fl) : ∃ us j fl, ({ tmps := ts, defers := [] } : Act) = mkA x0 x1 x4 us ∧ p j fl := by
  obtain ⟨j, fl, h⟩ := hp
  exact ⟨_, j, fl, he, h⟩
/-- How many dots are left, read off the world. -/
def leftOf (fb : Nat) (w : World) : Nat := match w.cell? ⟨fb, 2, none⟩ with
  | some (.slice _ n _) => n
  | _ => 0
/-- The state between two rounds of Paint. -/
structure PaI (C : Nat → Prop) (w wr : World) (b0 bb cb : Nat) (f : Frs) (v : Fl) (g : Frm) (l s j : Nat) (fl : Value) : Prop where
  jl : j ≤ l
  jn : j ≤ g.left.length
  fr : Fr C wr b0 (paintK f g j) { v with fl := fl }
  bd : Bud wr bb cb (l - j) (s + j)
  but : But (fun k => C k ∨ k = bb ∨ k = cb) w wr

theorem paintK_succ {f : Frs} {g : Frm} {j e : Nat} {d2 : Int} {ds : List (Int × Int)} (hds : g.left.drop j = ((e : Int), d2) :: ds) :
    ({ paintK f g j with frame := some { ({ g with left := g.left.drop j } : Frm) with left := ds }, b := fun i => if i = g.buf then { (paintK f g j).b i with px := (((paintK f g j).b g.buf).px).set e d2 } else (paintK f g j).b i } : Frs) = paintK f g (j + 1) := by
  have hj : j < g.left.length := by
    have := congrArg List.length hds
    simp at this
    omega
  have h0 : g.left[j] = ((e : Int), d2) := by
    have := List.getElem_drop (xs := g.left) (i := j) (j := 0) (h := by simp; omega)
    simp only [hds, List.getElem_cons_zero, Nat.add_zero] at this
    exact this.symm
  have h1 : g.left.drop (j + 1) = ds := by
    rw [← List.drop_drop (i := 1) (j := j), hds]; rfl
  have h2 : g.left.take (j + 1) = g.left.take j ++ [((e : Int), d2)] := by
    rw [List.take_add_one, List.getElem?_eq_getElem hj, h0]; rfl
  unfold paintK
  simp only [h1, h2, paintL_snoc]
  congr 1
  funext i
  by_cases hi : i = g.buf
  · subst hi; simp
  · simp [hi]

theorem dot_round {C : Nat → Prop} {w wr w6 : World} {b0 bb cb : Nat} {f : Frs} {v : Fl} {g : Frm} {l s j e : Nat} {fl fl' : Value} {d2 : Int} {ds : List (Int × Int)} (hF : Fr C wr b0 (paintK f g j) { v with fl := fl }) (hBd : Bud wr bb cb (l - j) (s + j)) (hBt : But (fun k => C k ∨ k = bb ∨ k = cb) w wr) (hb3 : g.buf < 3) (hbb : ¬ C bb) (hcb : ¬ C cb) (hs : s ≤ 1000000 ∧ l ≤ 9000000000000000000) (hlj : j < l) (hds : g.left.drop j = ((e : Int), d2) :: ds) (hle : g.left.length ≤ 1000) (hen : e < f.W * f.H)
    (hB6 : But (fun k => k = v.pb g.buf) wr w6) (hP6 : w6.heap[v.pb g.buf]? = some (.cells (((((paintK f g j).b g.buf).px).set e d2).map (Value.int .i64)).toArray 3 (0, 0))) (hK6 : w6.heap[v.fb]? = some (.cells #[.int .i64 (g.buf : Int), v.fm, fl] 152 (0, 0))) {o : Option Addr} {c : Nat} (hfl : fl' = .slice o ds.length c) (hR : RdD C wr fl' ds) :
    Calls Try.prog 98 #[.pointer (some ⟨bb, 0, none⟩)] (w6.setCell ⟨v.fb, 2, none⟩ fl').drew fun e w' => (∃ u, e = .returned u) ∧ PaI C w w' b0 bb cb f v g l s (j + 1) fl' ∧ leftOf v.fb w' = ds.length := by
  have hj : j < g.left.length := by
    have := congrArg List.length hds
    simp at this
    omega
  obtain ⟨k1, k2, k3, k4, k5, k6⟩ := hF.fr _ rfl
  have p2 := (hF.px g.buf hb3).2.1
  have hB7 : But (fun x => x = v.pb g.buf ∨ x = v.fb) wr (w6.setCell ⟨v.fb, 2, none⟩ fl').drew := ((hB6.wide (fun _ _ e => .inl e)).setCell (p := ⟨v.fb, 2, none⟩) (.inl (.inr rfl)) _).drew
  have hpf : ¬ v.pb g.buf = v.fb := fun e => by
    have h2 := hP6
    rw [e, hK6] at h2
    simp at h2
  have hK7 : (w6.setCell ⟨v.fb, 2, none⟩ fl').drew.heap[v.fb]? = some (.cells #[.int .i64 (g.buf : Int), v.fm, fl'] 152 (0, 0)) := by
    have := blk_set (i := 2) hK6 fl'
    exact this
  have hP7 : (w6.setCell ⟨v.fb, 2, none⟩ fl').drew.heap[v.pb g.buf]? = _ := blk_other hP6 (p := ⟨v.fb, 2, none⟩) hpf fl'
  have hF7 := hF.dot (d := (0, 0)) rfl hB7 hP7 (by rw [List.length_set]; exact (hF.px g.buf hb3).2.2) hK7 hR
  rw [paintK_succ hds] at hF7
  have hSb : ¬ (bb = v.pb g.buf ∨ bb = v.fb) := by
    rintro (e | e)
    · exact hbb (by rw [e]; exact p2)
    · exact hbb (by rw [e]; exact k2)
  have hSc : ¬ (cb = v.pb g.buf ∨ cb = v.fb) := by
    rintro (e | e)
    · exact hcb (by rw [e]; exact p2)
    · exact hcb (by rw [e]; exact k2)
  have hBd7 := hBd.but hB7 hSb hSc
  rw [show l - j = (l - (j + 1)) + 1 by omega] at hBd7
  refine (spend_any hBd7 (by omega)).mono ?_
  rintro e' w' ⟨he, hb8, hbt8, -⟩
  have hF8 := hF7.but hbt8 (fun k hk => by rintro (e | e) <;> subst e <;> contradiction)
  refine ⟨he, ⟨hlj, hj, hF8, by rw [show s + (j + 1) = s + j + 1 by omega]; exact hb8, ?_⟩, ?_⟩
  · refine hBt.trans ((hB7.wide (fun k _ e => ?_)).trans (hbt8.wide (fun k _ e => .inr e)))
    rcases e with e | e
    · exact .inl (by rw [e]; exact p2)
    · exact .inl (by rw [e]; exact k2)
  · obtain ⟨k1', -⟩ := hF8.fr _ rfl
    have e2 := blk_cell k1' 2
    simp only at e2
    simp [leftOf, e2, hfl]

def paInv (C : Nat → Prop) (w : World) (b0 bb cb : Nat) (f : Frs) (v : Fl) (g : Frm) (l s n : Nat) (a : Act) (wr : World) : Prop := ∃ us j fl, a = mkA (.pointer (some ⟨b0, 0, none⟩)) (.pointer (some ⟨bb, 0, none⟩)) (.slice (some ⟨v.pb g.buf, 0, none⟩) n n) us ∧ PaI C w wr b0 bb cb f v g l s j fl

set_option maxHeartbeats 4000000 in
theorem Paint_any {C : Nat → Prop} {w : World} {b0 bb cb : Nat} {f : Frs} {v : Fl} {l s : Nat} (h : Fr C w b0 f v) (hCl : ∀ k, C k → k < w.heap.size) (hn : f.W * f.H ≤ 1000) (hd : ∀ g, f.frame = some g → g.left.length ≤ 1000 ∧ ∀ d ∈ g.left, 0 ≤ d.1 ∧ d.1 < ((f.W * f.H : Nat) : Int)) (hB : Bud w bb cb l s) (hbb : ¬ C bb) (hcb : ¬ C cb) (hs : s ≤ 1000000 ∧ l ≤ 9000000000000000000) :
    Calls Try.prog 67 #[.pointer (some ⟨b0, 0, none⟩), .pointer (some ⟨bb, 0, none⟩)] w fun e w' => (∃ u, e = .returned u) ∧ (∃ v', Fr C w' b0 (paintF f l) v') ∧ Bud w' bb cb (l - paintN f l) (s + paintN f l) ∧ But (fun k => C k ∨ k = bb ∨ k = cb) w w' := by
  have c14 : w.cell? ⟨b0, 14, none⟩ = some (fptr f v) := blk_cell h.blk 14
  refine calls_of_wpN Try.func67 rfl ?_
  simp only [Try.ntmps67, List.size_toArray, List.length_cons, List.length_nil, Nat.reduceAdd, Nat.reduceSub, Array.replicate_succ, Array.replicate_zero, List.push_toArray, List.append_toArray, List.nil_append, List.cons_append]
  cases hfr : f.frame with
  | none =>
    have e1 : paintF f l = f := by simp [paintF, hfr]
    have e2 : paintN f l = 0 := by simp [paintN, hfr]
    simp only [fptr, hfr] at c14
    rw [e1, e2]
    have HH := hide h
    have HBd := hide hB
    clear h hB e1 e2
    refine wpN_seq_k (fun K1 hK1 => ?_)
    refine wpN_of ?_
    go_wp2
    refine bodyPost_ret (results_none rfl _ _ _) rfl ?_
    exact ⟨⟨_, rfl⟩, ⟨v, unhide HH⟩, by simpa using unhide HBd, .refl _ _⟩
  | some g =>
    have e1 : paintF f l = paintK f g (min l g.left.length) := by simp [paintF, hfr]
    have e2 : paintN f l = min l g.left.length := by simp [paintN, hfr]
    simp only [fptr, hfr] at c14
    rw [e1, e2]
    obtain ⟨h1, h2, h3, h4, h5, h6⟩ := h.fr g hfr
    have d0 : w.cell? ⟨v.fb, 0, none⟩ = some (.int .i64 (g.buf : Int)) := blk_cell h1 0
    obtain ⟨n, hnn⟩ : ∃ n, n = f.W * f.H := ⟨_, rfl⟩
    have cp : w.cell? ⟨b0, 4 + g.buf * 3, none⟩ = some (.slice (some ⟨v.pb g.buf, 0, none⟩) n n) := by
      rw [blk_cell h.blk, hnn]
      have : g.buf = 0 ∨ g.buf = 1 ∨ g.buf = 2 := by omega
      rcases this with e | e | e <;> rw [e] <;> rfl
    have j0 : (0 : Int) ≤ (g.buf : Int) := by omega
    have j1 : (g.buf : Int) < 3 := by omega
    have hK0 : paintK f g 0 = f := by
      unfold paintK
      have e : (fun i => if i = g.buf then ({ f.b i with px := paintL (f.b i).px (g.left.take 0) } : Buf) else f.b i) = f.b := by
        funext i
        split
        · simp [paintL]
        · rfl
      rw [e, List.drop_zero]
      cases f
      simp at hfr
      simp [hfr]
    have hP0 : PaI C w w b0 bb cb f v g l s 0 v.fl := ⟨Nat.zero_le _, Nat.zero_le _, by rw [hK0]; exact h, by simpa using hB, .refl _ _⟩
    have HP0 := hide hP0
    have HD := hide (hd g hfr)
    have HNN := hide hnn
    have hn1 : n ≤ 1000 := by omega
    have hb3 := h3
    clear h hB e1 e2 h1 h2 h4 h5 h6 hK0 hP0 hd hnn
    refine wpN_seq_k (fun K1 hK1 => ?_)
    refine wpN_of ?_
    go_wp2
    refine wpN_seq_k (fun K2 hK2 => ?_)
    refine wpN_of ?_
    go_quiet (fail)
    go_wp2
    refine wpN_block ?_
    refine wpN_loop (paInv C w b0 bb cb f v g l s n) (fun _ wr => leftOf v.fb wr) ?start ?round
    case start =>
      refine ex_mkA (p := fun j fl => PaI C w (w.drewN nq) b0 bb cb f v g l s j fl) (by kernel_rfl) ⟨0, v.fl, ?_⟩
      obtain ⟨q1, q2, q3, q4, q5⟩ := unhide HP0
      exact ⟨q1, q2, q3.below (below_drewN (Below.refl _ w) nq), ⟨q4.blk, q4.chn⟩, q5.drewN nq⟩
    case round =>
      rintro a wr ⟨us, j, fl, rfl, hP⟩
      obtain ⟨jl, jn, hF, hBd, hBt⟩ := hP
      have hfrj : (paintK f g j).frame = some { g with left := g.left.drop j } := rfl
      obtain ⟨k1, k2, k3, k4, k5, k6⟩ := hF.fr _ hfrj
      have e14 : wr.cell? ⟨b0, 14, none⟩ = some (.pointer (some ⟨v.fb, 0, none⟩)) := blk_cell hF.blk 14
      have e2 : wr.cell? ⟨v.fb, 2, none⟩ = some fl := blk_cell k1 2
      have eb2 : wr.cell? ⟨bb, 2, none⟩ = some (.chan (some cb)) := blk_cell hBd.blk 2
      have efz : ∀ t, wr.frozen? ⟨v.fb, t, none⟩ = false := fun t => blk_thaw k1 t
      obtain ⟨ao, cap, hfl, r1, r2, r3⟩ := k6
      have hlen : (g.left.drop j).length = g.left.length - j := by simp
      obtain ⟨m, hm⟩ : ∃ m, m = g.left.length - j := ⟨_, rfl⟩
      simp only [hlen, ← hm] at hfl r1
      subst hfl
      have hlf : leftOf v.fb wr = m := by simp [leftOf, e2]
      have HLF := hide hlf
      have HM := hide hm
      by_cases h0 : m = 0
      · have hmin : min l g.left.length = j := by omega
        have HE : Hid ((∃ v', Fr C wr b0 (paintK f g (min l g.left.length)) v') ∧ Bud wr bb cb (l - min l g.left.length) (s + min l g.left.length) ∧ But (fun k => C k ∨ k = bb ∨ k = cb) w wr) := by rw [hmin]; exact ⟨⟨_, hF⟩, hBd, hBt⟩
        subst h0
        clear hF hBd hBt k1 k2 k4 k5 r3 hm hlen hlf hmin hfrj
        rw [show mkA (.pointer (some ⟨b0, 0, none⟩)) (.pointer (some ⟨bb, 0, none⟩)) (.slice (some ⟨v.pb g.buf, 0, none⟩) n n) us = _ from rfl]
        unfold mkA
        refine wpN_seq_k (fun K3 hK3 => ?_)
        refine wpN_of ?_
        go_wp2
        go_end0
        exact ⟨⟨_, rfl⟩, unhide HE⟩
      · obtain ⟨hd1, hd2⟩ := unhide HD
        obtain ⟨x, off, cs, hao, hcx, hgx, hcell⟩ := r3 (by intro e; have e' : g.left.drop j = [] := e; rw [e'] at hlen; simp at hlen; omega)
        subst hao
        obtain ⟨d, ds, hds⟩ : ∃ d ds, g.left.drop j = d :: ds := by
          cases hq : g.left.drop j with
          | nil => rw [hq] at hlen; simp at hlen; omega
          | cons d ds => exact ⟨d, ds, rfl⟩
        have hdm : d ∈ g.left := List.mem_of_mem_drop (i := j) (by rw [hds]; simp)
        obtain ⟨dx0, dx1⟩ := hd2 d hdm
        have q01 := hcell 0 d (by simp [hds])
        obtain ⟨d1, d2⟩ := d
        simp only [Nat.zero_mul, Nat.add_zero] at q01 dx0 dx1
        obtain ⟨q0, q1⟩ := q01
        obtain ⟨e, rfl⟩ : ∃ e : Nat, d1 = (e : Int) := ⟨d1.toNat, by omega⟩
        have hen : e < f.W * f.H := by omega
        have hmds : m = ds.length + 1 := by rw [hm, ← hlen, hds]; rfl
        have hm0 : (0 : Int) < (m : Int) := by omega
        have hm1 : (1 : Int) ≤ (m : Int) := by omega
        have hen0 : (0 : Int) ≤ (e : Int) := by omega
        have hen1 : (e : Int) < (n : Int) := by have := unhide HNN; omega
        obtain ⟨p1, p2, p3⟩ := hF.px g.buf hb3
        have epf : ∀ t, wr.frozen? ⟨v.pb g.buf, t, none⟩ = false := fun t => blk_thaw p1 t
        obtain ⟨px, hpx⟩ : ∃ px, px = ((paintK f g j).b g.buf).px := ⟨_, rfl⟩
        rw [← hpx] at p1 p3
        have epx : wr.cell? ⟨v.pb g.buf, e, none⟩ = some (.int .i64 (px.getD e 0)) := by
          have h1 : e < px.length := by rw [p3]; exact hen
          have := blk_cell p1 e
          rw [this]
          simp [h1]
        have lx : x < wr.heap.size := lt_of_heap hgx
        have lp : v.pb g.buf < wr.heap.size := lt_of_heap p1
        have lf : v.fb < wr.heap.size := lt_of_heap k1
        have lb : b0 < wr.heap.size := lt_of_heap hF.blk
        have hpf : ¬ v.pb g.buf = v.fb := fun e => by
          have h1 := k1
          simp only at h1
          rw [← e] at h1
          have h2 := p1
          simp only at h2
          rw [h1] at h2
          simp at h2
        have hpb : ¬ v.pb g.buf = b0 := fun e => by
          have h1 := hF.blk
          rw [← e] at h1
          have h2 := p1
          simp only at h2
          rw [h1] at h2
          simp at h2
        have HF := hide hF
        have HBd := hide hBd
        have HBt := hide hBt
        have HK1 := hide k1
        have HP1 := hide p1
        have HP3 := hide p3
        have HDS := hide hds
        have HPX := hide hpx
        have HMDS := hide hmds
        have HCELL := hide hcell
        have HGX := hide hgx
        have hchn := hBd.chn
        clear hF hBt k1 k2 k4 k5 r3 hm hlen hlf hfrj p1 p3 hds hpx hdm hd1 hd2 hmds dx0 dx1 hen hcell hgx
        rw [show mkA (.pointer (some ⟨b0, 0, none⟩)) (.pointer (some ⟨bb, 0, none⟩)) (.slice (some ⟨v.pb g.buf, 0, none⟩) n n) us = _ from rfl]
        unfold mkA
        refine wpN_seq_k (fun K3 hK3 => ?_)
        refine wpN_of ?_
        go_wp2
        refine wpN_block ?_
        refine wpN_seq_k (fun K4 hK4 => ?_)
        refine wpN_of ?_
        go_wp2
        refine wpN_seq_k (fun K5 hK5 => ?_)
        refine wpN_select (z := .agg #[]) rfl (by simp [go_sem, execOp, rcase, Act.eval]) hchn ?_
        by_cases hlj : l = j
        · have hmin : min l g.left.length = j := by omega
          have HE : Hid ((∃ v', Fr C wr b0 (paintK f g (min l g.left.length)) v') ∧ Bud wr bb cb (l - min l g.left.length) (s + min l g.left.length) ∧ But (fun k => C k ∨ k = bb ∨ k = cb) w wr) := by rw [hmin]; exact ⟨⟨_, unhide HF⟩, unhide HBd, unhide HBt⟩
          have e0 : decide (l - j = 0) = true := by simp; omega
          rw [e0]
          simp only [if_true]
          clear hBd hchn hmin e0
          go_wp2
          refine wpN_block ?_
          refine wpN_cond (t := true) rfl ?_
          refine wpN_of ?_
          simp only [if_true]
          go_wp2
          refine bodyPost_ret (results_none rfl _ _ _) rfl ?_
          exact ⟨⟨_, rfl⟩, unhide HE⟩
        · have e0 : decide (l - j = 0) = false := by simp; omega
          rw [e0]
          simp only [Bool.false_eq_true, if_false]
          clear hBd hchn e0
          go_wp2
          refine wpN_block ?_
          refine wpN_cond (t := false) rfl ?_
          simp only [Bool.false_eq_true, if_false]
          refine wpN_seq_k (fun K6 hK6 => ?_)
          refine wpN_of ?_
          go_wp2
          refine wpN_seq_k (fun K7 hK7 => ?_)
          refine wpN_of ?_
          go_wp2
          obtain ⟨w6, hw6⟩ : ∃ w6 : World, w6 = (wr.setCell ⟨v.pb g.buf, e, none⟩ (.int .i64 d2)).alloc (.cells #[.int .i64 (e : Int), .int .i64 d2] 166) := ⟨_, rfl⟩
          rw [← hw6]
          have hB6 : But (fun k => k = v.pb g.buf) wr w6 := by rw [hw6]; exact ((But.refl (fun k => k = v.pb g.buf) wr).setCell (p := ⟨v.pb g.buf, e, none⟩) (.inl rfl) _).alloc _
          have hP6 : w6.heap[v.pb g.buf]? = some (.cells ((px.set e d2).map (Value.int .i64)).toArray 3 (0, 0)) := by
            rw [hw6, map_setI]
            have := blk_alloc (blk_set (i := e) (unhide HP1) (.int .i64 d2)) (.cells #[.int .i64 (e : Int), .int .i64 d2] 166)
            simpa using this
          have hK6b := hB6.heap (unhide HK1) (fun e => hpf e.symm)
          have hF6 := hB6.heap (unhide HF).blk (fun e => hpb e.symm)
          have g14 : w6.cell? ⟨b0, 14, none⟩ = some (.pointer (some ⟨v.fb, 0, none⟩)) := blk_cell hF6 14
          have g2 : w6.cell? ⟨v.fb, 2, none⟩ = some (.slice (some ⟨x, off, none⟩) m cap) := blk_cell hK6b 2
          have gz : ∀ t, w6.frozen? ⟨v.fb, t, none⟩ = false := fun t => blk_thaw hK6b t
          have hRT : RdD C wr (.slice (if cap = 1 then some ⟨x, off, none⟩ else some ⟨x, off + 2, none⟩) (m - 1) (cap - 1)) ds := by
            obtain ⟨-, -, -, -, -, k6⟩ := (unhide HF).fr _ rfl
            simp only at k6
            rw [unhide HDS, unhide HMDS] at k6
            rw [unhide HMDS]
            exact k6.tail
          have HR1 : Hid (cap = 1 → RdD C wr (.slice (some ⟨x, off, none⟩) (m - 1) 0) ds) := fun e => by rw [e] at hRT; exact hRT
          have HR2 : Hid (¬ cap = 1 → RdD C wr (.slice (some ⟨x, off + 2, none⟩) (m - 1) (cap - 1)) ds) := fun e => by rw [if_neg e] at hRT; exact hRT
          have hSP : ∀ o c, RdD C wr (.slice o (m - 1) c) ds → Calls Try.prog 98 #[.pointer (some ⟨bb, 0, none⟩)] (w6.setCell ⟨v.fb, 2, none⟩ (.slice o (m - 1) c)).drew fun e w' => (∃ u, e = .returned u) ∧ PaI C w w' b0 bb cb f v g l s (j + 1) (.slice o (m - 1) c) ∧ leftOf v.fb w' < leftOf v.fb wr := fun o c hR => by
            refine (dot_round (unhide HF) (unhide HBd) (unhide HBt) hb3 hbb hcb hs (by omega) (unhide HDS) (unhide HD).1 (by have := unhide HNN; omega) hB6 (by rw [← unhide HPX]; exact hP6) hK6b (by rw [unhide HMDS]; rfl) hR).mono ?_
            rintro e w' ⟨h1, h2, h3⟩
            exact ⟨h1, h2, by rw [h3, unhide HLF, unhide HMDS]; omega⟩
          have HSP := hide hSP
          clear hRT hSP
          have HB6 := hide hB6
          have HP6 := hide hP6
          have HK6 := hide hK6b
          clear hB6 hP6 hK6b hF6 hw6
          refine wpN_seq_k (fun K8 hK8 => ?_)
          refine wpN_of ?_
          go_region
          go_wp2
          all_goals
            refine wpN_of ?_
            go_wp2_with (go_at_call 98; (first | refine ((unhide HSP) _ _ ((unhide HR1) (by assumption))).mono ?_ | refine ((unhide HSP) _ _ ((unhide HR2) (by assumption))).mono ?_); rintro e w7 ⟨⟨u, rfl⟩, hp7, hl7⟩)
            refine ⟨ex_mkA (p := fun j fl => PaI C w w7 b0 bb cb f v g l s j fl) (by kernel_rfl) ⟨_, _, hp7⟩, hl7⟩
end Go.Proofs.Ytfnockbgkcgpkaa
