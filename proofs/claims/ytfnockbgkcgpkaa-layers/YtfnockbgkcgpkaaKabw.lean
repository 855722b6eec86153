import Derived.Test.YtfnockbgkcgpkaaKabk
import Derived.Test.YtfnockbgkcgpkaaKabv
import Derived.Laws.OwnMore
set_option linter.all false
namespace Go.Proofs.Ytfnockbgkcgpkaa
open Go.RowKit Go.Proofs.Panes
set_option maxRecDepth 100000
def ordI (ord : List Nat) : List Int := ord.map fun (i : Nat) => (i : Int)
/-- One more number behind a row of its own. -/
theorem pushN_run {w : World} {base : Nat} {v : Value} {l : List Int} (hO : OwnN w base v l) (hb : base ≤ w.heap.size) (hl : l.length ≤ 1000000) (n : Int) (t : Nat) (ht : w.cell? ⟨t, 0, none⟩ = some (.int .i64 n)) :
    ∃ g cap w', (Builtin.append_ #[23, 23] 23 #[v, .slice (some ⟨t, 0, none⟩) 1 1]).run Try.prog w = .ok (.slice (some ⟨g, 0, none⟩) (l.length + 1) cap) w' ∧ OwnN w' base (.slice (some ⟨g, 0, none⟩) (l.length + 1) cap) (l ++ [n]) ∧ Below base w w' ∧ But (fun k => v.ownBlock = some k) w w' ∧ (v.ownBlock = some g ∨ g = w.heap.size) := by
  obtain ⟨i0, hi, hz0, hz1, hz2⟩ := info_parts info_int9
  obtain ⟨g, cap, w', hrun, hO2, hgr, hat, hlt⟩ := run_append_lies (P := Try.prog) w 23 23 base 3 i0 _ 1 8 Try.underlying23 hi hz0 hz1 hz2 rfl (by omega) v l.length _ hO ⟨t, 0, none⟩ 1 1 [Value.int .i64 n] rfl (fun j u hj => by
    have : (⟨t, 0, none⟩ : Addr).add j = ⟨t, j, none⟩ := by unfold Addr.add; split <;> simp_all
    rw [this]
    cases j with
    | zero => simp at hj; rw [ht]; exact congrArg some hj
    | succ j => simp at hj) (by
    intro u hu
    simp only [List.mem_cons, List.mem_nil_iff, or_false] at hu
    subst hu; rfl) (by omega) (by unfold maxLen; omega) (by omega) hb w.heap.size rfl
  refine ⟨g, cap, w', hrun, ?_, (But.of_grown (S := fun k => v.ownBlock = some k) hgr (fun k e => e)).below hb (fun k e => (World.ownsRow.lt hO k e).1), But.of_grown hgr (fun k e => e), hat⟩
  unfold OwnN
  rw [List.map_append, List.length_append]
  exact hO2
/-- A row behind a row. -/
theorem catN_run {w : World} {base : Nat} {v u : Value} {l m : List Int} (hO : OwnN w base v l) (hR : OwnN w base u m) (hb : base ≤ w.heap.size) (hl : l.length ≤ 1000000) (hm : m.length ≤ 1000000) :
    ∃ v' w', (Builtin.append_ #[23, 23] 23 #[v, u]).run Try.prog w = .ok v' w' ∧ OwnN w' base v' (l ++ m) ∧ Below base w w' ∧ But (fun k => v.ownBlock = some k) w w' := by
  obtain ⟨i0, hi, hz0, hz1, hz2⟩ := info_parts info_int9
  rcases hR.2 with ⟨rfl, h0⟩ | ⟨g, cap, cur, rfl, hbg, hk, hc, hmx, hz, ht⟩
  · have hm0 : m = [] := List.eq_nil_of_length_eq_zero h0
    subst hm0
    refine ⟨v, w, run_append_owned_none (P := Try.prog) (w := w) base 23 23 3 i0 1 Try.underlying23 hi v l.length _ hO, ?_, Below.refl _ _, But.refl _ _⟩
    rw [List.append_nil]
    exact hO
  · obtain ⟨v', w', hrun, hO2, hgr, -, -⟩ := run_append_own_at (P := Try.prog) (w := w) base 23 23 3 i0 _ 1 8 Try.underlying23 hi hz0 hz1 hz2 rfl (by omega) v l.length _ hO ⟨g, 0, none⟩ m.length cap (m.map (Value.int .i64)) (by simp) (fun j u hj => by
      have : (⟨g, 0, none⟩ : Addr).add j = ⟨g, j, none⟩ := by unfold Addr.add; split <;> simp_all
      rw [this]
      rw [List.getElem?_map] at hj
      cases hx : m[j]? with
      | none => rw [hx] at hj; cases hj
      | some x =>
        rw [hx] at hj
        simp only [Option.map_some, Option.some.injEq] at hj
        subst hj
        exact ownN_at hR rfl hx) (by
      intro u hu
      obtain ⟨x, -, rfl⟩ := List.mem_map.1 hu
      rfl) (by unfold maxLen; omega) (by omega) hb
    refine ⟨v', w', hrun, ?_, (But.of_grown (S := fun k => v.ownBlock = some k) hgr (fun k e => e)).below hb (fun k e => (World.ownsRow.lt hO k e).1), But.of_grown hgr (fun k e => e)⟩
    unfold OwnN
    rw [List.map_append, List.length_append]
    exact hO2
/-- The shop of 'Layers', the order, the array of operations. -/
structure Ly (w wr : World) (sp ap : Nat) (s : Scrn) (F : ShF) (ov : Value) (ord : List Nat) (at' : Nat → Opn) (pv : Nat → Value) : Prop where
  ex : ∃ (S U : Nat → Prop), Shop S wr sp s F ∧ (∀ x, S x → w.heap.size ≤ x ∧ x < wr.heap.size ∧ ¬ U x ∧ x ≠ ap) ∧ (∀ x, U x → x < wr.heap.size ∧ x ≠ ap) ∧ RdN U wr ov (ordI ord) ∧ (∀ i, i < 4 → RdN U wr (pv i) (at' i).px)
  blk : wr.heap[ap]? = some (.cells (atc at' pv) 77)
  bel : Below w.heap.size w wr
  apl : w.heap.size ≤ ap
section
variable {w wr w2 : World} {sp ap n : Nat} {s s' : Scrn} {F F' : ShF} {ov ov' : Value} {ord ord' : List Nat} {at' : Nat → Opn} {pv : Nat → Value}
theorem Ly.below (h : Ly w wr sp ap s F ov ord at' pv) (hb : Below wr.heap.size wr w2) : Ly w w2 sp ap s F ov ord at' pv := by
  obtain ⟨S, U, h1, h2, h3, h4, h5⟩ := h.ex
  have hz := hb.size
  exact ⟨⟨S, U, h1.below hb, fun x hx => ⟨(h2 x hx).1, by have := (h2 x hx).2.1; omega, (h2 x hx).2.2⟩, fun x hx => ⟨by have := (h3 x hx).1; omega, (h3 x hx).2⟩, h4.below hb, fun i hi => (h5 i hi).below hb⟩, (But.of_below (S := fun _ => False) hb).heap h.blk (fun e => e), h.bel.trans (hb.mono h.bel.size), h.apl⟩
/-- Another order. -/
theorem Ly.order (h : Ly w wr sp ap s F ov ord at' pv) (hb : Below wr.heap.size wr w2) (hO : OwnN w2 wr.heap.size ov' (ordI ord')) : Ly w w2 sp ap s F ov' ord' at' pv := by
  have h0 := h.below hb
  obtain ⟨S, U, h1, h2, h3, h4, h5⟩ := h.ex
  have hz := hb.size
  have hap := lt_of_heap h.blk
  refine ⟨⟨S, fun x => U x ∨ (wr.heap.size ≤ x ∧ x < w2.heap.size), h1.below hb, fun x hx => ⟨(h2 x hx).1, by have := (h2 x hx).2.1; omega, fun e => ?_, (h2 x hx).2.2.2⟩, fun x hx => ?_, hO.rdv (fun k e => .inr (World.ownsRow.lt hO k e)), fun i hi => ((h5 i hi).below hb).wide (fun x hx => .inl hx)⟩, h0.blk, h0.bel, h.apl⟩
  · rcases e with e | e
    · exact (h2 x hx).2.2.1 e
    · have := (h2 x hx).2.1; omega
  · rcases hx with e | e
    · exact ⟨by have := (h3 x e).1; omega, (h3 x e).2⟩
    · exact ⟨e.2, by omega⟩
/-- A place in the array is another one. -/
theorem atc_x (at' : Nat → Opn) (pv : Nat → Value) {i : Nat} (hi : i < 4) (x : Int) : (atc at' pv).setIfInBounds (i * 8 + 2) (.int .i64 x) = atc (updO at' i { at' i with x := x }) pv := by
  rcases (show i = 0 ∨ i = 1 ∨ i = 2 ∨ i = 3 by omega) with rfl | rfl | rfl | rfl <;> rfl
theorem atc_y (at' : Nat → Opn) (pv : Nat → Value) {i : Nat} (hi : i < 4) (y : Int) : (atc at' pv).setIfInBounds (i * 8 + 3) (.int .i64 y) = atc (updO at' i { at' i with y := y }) pv := by
  rcases (show i = 0 ∨ i = 1 ∨ i = 2 ∨ i = 3 by omega) with rfl | rfl | rfl | rfl <;> rfl
theorem Ly.put (h : Ly w wr sp ap s F ov ord at' pv) {at2 : Nat → Opn} {pv2 : Nat → Value} (hb : But (fun x => x = ap) wr w2) (hblk : w2.heap[ap]? = some (.cells (atc at2 pv2) 77)) (hp : ∀ i, i < 4 → pv2 i = pv i ∧ (at2 i).px = (at' i).px) : Ly w w2 sp ap s F ov ord at2 pv2 := by
  obtain ⟨S, U, h1, h2, h3, h4, h5⟩ := h.ex
  have hz := hb.size
  refine ⟨⟨S, U, h1.but hb (fun x hx e => (h2 x hx).2.2.2 e), fun x hx => ⟨(h2 x hx).1, by have := (h2 x hx).2.1; omega, (h2 x hx).2.2⟩, fun x hx => ⟨by have := (h3 x hx).1; omega, (h3 x hx).2⟩, h4.but hb (fun x hx e => (h3 x hx).2 e), fun i hi => ?_⟩, hblk, h.bel.trans (hb.below h.bel.size (fun x e => by rw [e]; exact h.apl)), h.apl⟩
  rw [(hp i hi).1, (hp i hi).2]
  exact (h5 i hi).but hb (fun x hx e => (h3 x hx).2 e)
theorem Ly.setX (h : Ly w wr sp ap s F ov ord at' pv) {i : Nat} (hi : i < 4) (x : Int) : Ly w (wr.setCell ⟨ap, i * 8 + 2, none⟩ (.int .i64 x)) sp ap s F ov ord (updO at' i { at' i with x := x }) pv := by
  refine h.put ((But.refl (fun x => x = ap) wr).setCell (p := ⟨ap, i * 8 + 2, none⟩) (.inl rfl) _) ?_ (fun j _ => ⟨rfl, ?_⟩)
  · rw [blk_set h.blk, atc_x at' pv hi]
  · unfold updO
    split
    · rename_i e; rw [e]
    · rfl
theorem Ly.setY (h : Ly w wr sp ap s F ov ord at' pv) {i : Nat} (hi : i < 4) (y : Int) : Ly w (wr.setCell ⟨ap, i * 8 + 3, none⟩ (.int .i64 y)) sp ap s F ov ord (updO at' i { at' i with y := y }) pv := by
  refine h.put ((But.refl (fun x => x = ap) wr).setCell (p := ⟨ap, i * 8 + 3, none⟩) (.inl rfl) _) ?_ (fun j _ => ⟨rfl, ?_⟩)
  · rw [blk_set h.blk, atc_y at' pv hi]
  · unfold updO
    split
    · rename_i e; rw [e]
    · rfl
/-- A call on the shop. -/
theorem Ly.to (h : Ly w wr sp ap s F ov ord at' pv) {f : FuncId} {args : Array Value} {Q : Ending → Prop} (hc : ∀ S U, Shop S wr sp s F → (∀ x, U x → x < wr.heap.size ∧ ¬ S x) → RdN U wr ov (ordI ord) → (∀ i, i < 4 → RdN U wr (pv i) (at' i).px) → Calls Try.prog f args wr (fun e w' => Q e ∧ ShopTo S wr sp s' F' w')) : Calls Try.prog f args wr (fun e w' => Q e ∧ Ly w w' sp ap s' F' ov ord at' pv) := by
  obtain ⟨S, U, h1, h2, h3, h4, h5⟩ := h.ex
  have hap := lt_of_heap h.blk
  have hsz := h.bel.size
  refine (hc S U h1 (fun x hx => ⟨(h3 x hx).1, fun e => (h2 x e).2.2.1 hx⟩) h4 h5).mono ?_
  rintro e w' ⟨g1, g2, g3⟩
  have hz := g3.size
  refine ⟨g1, ⟨fun x => (S x ∨ wr.heap.size ≤ x) ∧ x < w'.heap.size, U, g2.lt, fun x hx => ⟨?_, hx.2, fun e => ?_, fun e => ?_⟩, fun x hx => ⟨by have := (h3 x hx).1; omega, (h3 x hx).2⟩, h4.but g3 (fun x hx e => (h2 x e).2.2.1 hx), fun i hi => (h5 i hi).but g3 (fun x hx e => (h2 x e).2.2.1 hx)⟩, g3.heap h.blk (fun e => (h2 ap e).2.2.2 rfl), h.bel.trans (g3.below hsz (fun x hx => (h2 x hx).1)), h.apl⟩
  · rcases hx.1 with q | q
    · exact (h2 x q).1
    · omega
  · rcases hx.1 with q | q
    · exact (h2 x q).2.2.1 e
    · have := (h3 x e).1; omega
  · rcases hx.1 with q | q
    · exact (h2 x q).2.2.2 e
    · omega
theorem Ly.tick (h : Ly w wr sp ap s F ov ord at' pv) (hI : ShI n s F) (hn : n ≤ 1300000) (b : Nat) (hb : b ≤ 1000) : Calls Try.prog 27 #[.pointer (some ⟨sp, 0, none⟩), .int .i64 (b : Int)] wr fun e w' => (∃ u, e = .returned u) ∧ Ly w w' sp ap (tickA b (s, F)).1 (tickA b (s, F)).2 ov ord at' pv := by
  refine h.to (fun S U h1 _ _ _ => ?_)
  refine ((shop_tick h1 hI hn b hb).1).mono ?_
  rintro e w' ⟨g1, g2, -⟩
  exact ⟨g1, g2⟩
theorem Ly.shows (h : Ly w wr sp ap s F ov ord at' pv) (hL : LyI n s F ord at') (hn : n + 22 ≤ 1300000) : Calls Try.prog 37 #[.pointer (some ⟨sp, 0, none⟩), ov, .agg (atc at' pv)] wr fun e w' => e = .returned (.bool true) ∧ Ly w w' sp ap (showS s 22) (showF F 22) ov ord at' pv :=
  h.to (fun S U h1 hU h4 h5 => shows_any h1 hL hn hU h4 pv h5)
/-- A transaction in a block of its own. -/
theorem Ly.hand (h : Ly w wr sp ap s F ov ord at' pv) (hI : ShI n s F) (hn : n ≤ 1300000) {ops : List Opn} {o : Obj} {ao : Option Addr} {cap : Nat} (hR : ∀ U, (∀ i, i < 4 → RdN U (wr.alloc o) (pv i) (at' i).px) → RdO (fun x => x = wr.heap.size ∨ U x) (wr.alloc o) (.slice ao ops.length cap) ops) (hpx : ∀ x ∈ ops, x.px.length ≤ 100000000) (hc : subCo s 0 ops = 0) : Calls Try.prog 35 #[.pointer (some ⟨sp, 0, none⟩), .slice ao ops.length cap] (wr.alloc o) fun e w' => (∃ u, e = .returned u) ∧ Ly w w' sp ap (subS s 0 ops) (handF F (costOf ops)) ov ord at' pv := by
  have hba : Below wr.heap.size wr (wr.alloc o) := (Below.refl _ wr).alloc (Nat.le_refl _) _
  have hlt : wr.heap.size < (wr.alloc o).heap.size := by simp
  obtain ⟨S, U, h1, h2, h3, h4, h5⟩ := h.ex
  have h0 : Ly w (wr.alloc o) sp ap s F ov ord at' pv := h.below hba
  have h6 : ∃ (S U : Nat → Prop), Shop S (wr.alloc o) sp s F ∧ (∀ x, S x → w.heap.size ≤ x ∧ x < wr.heap.size ∧ ¬ U x ∧ x ≠ ap) ∧ (∀ x, U x → x < (wr.alloc o).heap.size ∧ x ≠ ap) ∧ RdN U (wr.alloc o) ov (ordI ord) ∧ (∀ i, i < 4 → RdN U (wr.alloc o) (pv i) (at' i).px) := ⟨S, U, h1.below hba, h2, fun x hx => ⟨by have := (h3 x hx).1; omega, (h3 x hx).2⟩, h4.below hba, fun i hi => (h5 i hi).below hba⟩
  obtain ⟨S, U, h1, h2, h3, h4, h5⟩ := h6
  have hap := lt_of_heap h.blk
  have hsz := h.bel.size
  refine (shop_hand h1 hI hn (hR U h5) (fun y hy => ?_) hpx hc).mono ?_
  · rcases hy with e | e
    · rw [e]
      exact ⟨hlt, fun q => by have := (h2 _ q).2.1; omega⟩
    · exact ⟨(h3 y e).1, fun q => (h2 y q).2.2.1 e⟩
  · rintro e w' ⟨g1, g2, g3⟩
    have hz := g3.size
    refine ⟨g1, ⟨fun x => (S x ∨ (wr.alloc o).heap.size ≤ x) ∧ x < w'.heap.size, U, g2.lt, fun x hx => ⟨?_, hx.2, fun e => ?_, fun e => ?_⟩, fun x hx => ⟨by have := (h3 x hx).1; omega, (h3 x hx).2⟩, h4.but g3 (fun x hx e => (h2 x e).2.2.1 hx), fun i hi => (h5 i hi).but g3 (fun x hx e => (h2 x e).2.2.1 hx)⟩, g3.heap h0.blk (fun e => (h2 ap e).2.2.2 rfl), h0.bel.trans (g3.below (by omega) (fun x hx => (h2 x hx).1)), h.apl⟩
    · rcases hx.1 with q | q
      · exact (h2 x q).1
      · omega
    · rcases hx.1 with q | q
      · exact (h2 x q).2.2.1 e
      · have := (h3 x e).1; omega
    · rcases hx.1 with q | q
      · exact (h2 x q).2.2.2 e
      · omega
end
end Go.Proofs.Ytfnockbgkcgpkaa
