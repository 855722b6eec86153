import Derived.Test.YtfnockbgkcgpkaaGreatLawN
set_option linter.all false
namespace Go.Proofs.YtfnockbgkcgpkaaGreat
open Go.RowKit Go.Proofs.Panes
set_option maxRecDepth 100000
attribute [local go_sem ↓] Go.wp_at_zero Go.wp_at_succ

/-- The world of a script, between its steps. -/
structure St (U : Nat → Prop) (base wb : Nat) (gr gc go ss : Value) (L : List (List Rc)) (w : World) (kr : Value) (es : List Ent) : Prop where
  box : w.heap[wb]? = some (.cells #[gr, gc, go, ss, kr, .slice none 0 0, .slice none 0 0] 39)
  own : OwnE w base kr es
  ents : ∀ e ∈ es, EntOk base w e
  base_le : base ≤ w.heap.size
  ge : base ≤ wb
  rd : RdLL U w gr L
  far : ∀ k, U k → k < w.heap.size ∧ k ≠ wb ∧ kr.ownBlock ≠ some k
theorem RdLL.below {U : Nat → Prop} {w w' : World} {v : Value} {L : List (List Rc)} (h : RdLL U w v L) (hb : Below w.heap.size w w') : RdLL U w' v L := h.but (S := fun _ => False) (.of_below hb) (fun _ _ h => h)
theorem St.below {U : Nat → Prop} {base wb : Nat} {gr gc go ss : Value} {L : List (List Rc)} {w w' : World} {kr : Value} {es : List Ent} (h : St U base wb gr gc go ss L w kr es) (hb : Below w.heap.size w w') : St U base wb gr gc go ss L w' kr es :=
  ⟨(hb.block _ (lt_of_heap h.box)).trans h.box, OwnE.but (S := fun _ => False) h.own (.of_below hb) (fun _ _ h => h), fun e he => (h.ents e he).below hb, Nat.le_trans h.base_le hb.size, h.ge, h.rd.below hb, fun k hk => ⟨Nat.lt_of_lt_of_le (h.far k hk).1 hb.size, (h.far k hk).2⟩⟩
theorem St.step {U : Nat → Prop} {base wb : Nat} {gr gc go ss : Value} {L : List (List Rc)} {w w' : World} {kr kr' : Value} {es es' : List Ent} (h : St U base wb gr gc go ss L w kr es) (k : Stepped base wb gr gc go ss kr es w w' kr' es') :
    St U base wb gr gc go ss L w' kr' es' ∧ Below base w w' ∧ (∀ v l, RdU U w v l → RdU U w' v l) := by
  have hS : ∀ j, U j → ¬ (j = wb ∨ kr.ownBlock = some j) := fun j hj c => c.elim (h.far j hj).2.1 (h.far j hj).2.2
  refine ⟨⟨k.box, k.own, k.ents, Nat.le_trans h.base_le k.but.size, h.ge, h.rd.but k.but hS, fun j hj => ?_⟩, ?_, fun v l hv => hv.but k.but hS⟩
  · have hf := h.far j hj
    refine ⟨Nat.lt_of_lt_of_le hf.1 k.but.size, hf.2.1, fun e => ?_⟩
    rcases k.lies j e with c | c
    · exact hf.2.2 c
    · omega
  · refine k.but.below h.base_le (fun j hj => ?_)
    rcases hj with rfl | c
    · exact h.ge
    · exact (World.ownsRow.lt h.own j c).1

set_option maxHeartbeats 2000000 in
theorem rects_none (wb : Nat) (gr gc go ss kr ki kf : Value) (v : Value) (w : World) (ao : Option Addr) (cap : Nat) (hg : gr = .slice ao 0 cap)
    (hbx : w.heap[wb]? = some (.cells #[gr, gc, go, ss, kr, ki, kf] 39)) (kind oA oB oC : Int) :
    Calls Tryz.prog 12 #[.pointer (some ⟨wb, 0, none⟩), .agg #[.int .i64 kind, .int .i64 oA, .int .i64 oB, .int .i64 oC]] w fun e w' => e = .returned (.bool true) ∧ Below w.heap.size w w' := by
  subst hg
  have c0 : w.cell? ⟨wb, 0, none⟩ = some (.slice ao 0 cap) := blk_cell hbx 0
  have hwb := lt_of_heap hbx
  clear hbx
  go_enter Tryz.func12, Tryz.ntmps12
  go_wp2
  go_ret
  exact ⟨rfl, (Below.refl _ w).alloc (Nat.le_refl _) _⟩

/-- A step of rectangles. -/
theorem rects_any {U : Nat → Prop} {base wb : Nat} {gr gc go ss : Value} {L : List (List Rc)} {w : World} {kr : Value} {es : List Ent} (h : St U base wb gr gc go ss L w kr es) (kind oA oB oC : Int) (hk : 1 ≤ kind ∧ kind ≤ 5)
    (hA : -9223372036854775808 ≤ oA ∧ oA ≤ 9223372036854775807) (hB : -9223372036854775808 ≤ oB ∧ oB ≤ 9223372036854775807) (hn : es.length ≤ 1900000) (hLn : L.length ≤ 2000000) (hll : ∀ l ∈ L, l.length ≤ 2000000) :
    Calls Tryz.prog 12 #[.pointer (some ⟨wb, 0, none⟩), .agg #[.int .i64 kind, .int .i64 oA, .int .i64 oB, .int .i64 oC]] w fun e w' => e = .returned (.bool true) ∧ ∃ kr' es', Stepped base wb gr gc go ss kr es w w' kr' es' := by
  by_cases h0 : L.length = 0
  · obtain ⟨ao, cap, e, _⟩ := h.rd
    rw [h0] at e
    exact (rects_none wb gr gc go ss kr _ _ gr w ao cap e h.box kind oA oB oC).mono fun x w' ⟨hx, hb⟩ => ⟨hx, kr, es, stepped_same h.box h.own h.ents hb⟩
  · by_cases h5 : kind = 5
    · subst h5
      exact rects_area U base wb gr gc go ss kr es L oA oB oC w h.box h.own h.ents h.base_le h.rd hA hB hn ⟨by omega, hLn⟩ hll h.far
    · by_cases h1 : kind = 1
      · subst h1
        exact rects_canon U base wb gr gc go ss kr es L oA oB oC w h.box h.own h.ents h.base_le h.rd hA hB hn ⟨by omega, hLn⟩ hll h.far
      · exact rects_list U base wb gr gc go ss kr es L kind oA oB oC w h.box h.own h.ents h.base_le h.rd (by omega) hA hB hn ⟨by omega, hLn⟩ hll h.far

set_option maxHeartbeats 4000000 in
theorem step_any {U : Nat → Prop} {base wb : Nat} {gr gc go ss : Value} {L : List (List Rc)} {w : World} {kr : Value} {es : List Ent} (h : St U base wb gr gc go ss L w kr es) (kind oA oB oC : Int) (hk : 1 ≤ kind ∧ kind ≤ 5)
    (hA : -9223372036854775808 ≤ oA ∧ oA ≤ 9223372036854775807) (hB : -9223372036854775808 ≤ oB ∧ oB ≤ 9223372036854775807) (hn : es.length ≤ 1900000) (hLn : L.length ≤ 2000000) (hll : ∀ l ∈ L, l.length ≤ 2000000) :
    Calls Tryz.prog 10 #[.pointer (some ⟨wb, 0, none⟩), .agg #[.int .i64 kind, .int .i64 oA, .int .i64 oB, .int .i64 oC]] w fun e w' => e = .returned (.bool true) ∧ ∃ kr' es', St U base wb gr gc go ss L w' kr' es' ∧ es'.length ≤ es.length + 1 ∧ Below base w w' ∧ (∀ v l, RdU U w v l → RdU U w' v l) := by
  have hb1 : Below w.heap.size w (w.alloc (.cells #[.int .i64 kind, .int .i64 oA, .int .i64 oB, .int .i64 oC] 42)) := (Below.refl _ w).alloc (Nat.le_refl _) _
  have H1 := hide (h.below hb1)
  have HR := hide (rects_any (h.below hb1) kind oA oB oC hk hA hB hn hLn hll)
  have HH := hide h
  have Hb1 := hide hb1
  have k1 : ¬ kind < 1 := by omega
  have k2 : ¬ 11 < kind := by omega
  have k3 : kind ≤ 5 := hk.2
  clear h hb1 hA hB hll hk
  go_enter Tryz.func10, Tryz.ntmps10
  go_wp2_with fail
  refine (unhide HR).mono ?_
  rintro e w' ⟨rfl, kr', es', hS⟩
  have HS := hide hS
  clear hS
  go_wp2
  go_ret
  have hq := (unhide H1).step (unhide HS)
  exact ⟨rfl, kr', es', hq.1, (unhide HS).len, ((unhide Hb1).mono (unhide HH).base_le).trans hq.2.1, fun v l hv => hq.2.2 v l (hv.below (unhide Hb1))⟩

def knownL : List (List Rc) := [[⟨0, 0, 2, 2⟩, ⟨1, 1, 2, 2⟩], [⟨1, 1, 1, 1⟩]]
theorem knownLL {W : World} (h : Nat) (hs : h + 4 ≤ W.heap.size) (h1 : W.heap[h + 1]? = some (.cells (rcells [⟨0, 0, 2, 2⟩, ⟨1, 1, 2, 2⟩]).toArray 46)) (h2 : W.heap[h + 1 + 1]? = some (.cells (rcells [⟨1, 1, 1, 1⟩]).toArray 46))
    (h3 : W.heap[h + 1 + 1 + 1]? = some (.cells #[.slice (some ⟨h + 1, 0, none⟩) 2 2, .slice (some ⟨h + 1 + 1, 0, none⟩) 1 1] 47)) : RdLL (fun k => k < W.heap.size) W (.slice (some ⟨h + 1 + 1 + 1, 0, none⟩) 2 2) knownL := by
  refine ⟨some ⟨h + 1 + 1 + 1, 0, none⟩, 2, rfl, by decide, fun _ => ⟨h + 1 + 1 + 1, 0, rfl, lt_of_heap h3, lt_of_heap h3, fun i l hl => ?_⟩⟩
  match i, hl with
  | 0, hl =>
    simp only [knownL, List.getElem?_cons_zero, Option.some.injEq] at hl
    subst hl
    obtain ⟨ao, cap, e, g1, g2, g3⟩ := rdu_block (U := fun k => k < W.heap.size) h1 (lt_of_heap h1) 2 (by simp) (by simp [maxLen])
    exact ⟨ao, cap, by rw [← e]; exact blk_cell h3 0, g1, g2, g3⟩
  | 1, hl =>
    simp only [knownL, List.getElem?_cons_zero, List.getElem?_cons_succ, Option.some.injEq] at hl
    subst hl
    obtain ⟨ao, cap, e, g1, g2, g3⟩ := rdu_block (U := fun k => k < W.heap.size) h2 (lt_of_heap h2) 1 (by simp) (by simp [maxLen])
    exact ⟨ao, cap, by rw [← e]; exact blk_cell h3 1, g1, g2, g3⟩
  | i + 2, hl => simp [knownL] at hl

set_option maxHeartbeats 4000000 in
theorem known_any (w : World) : Calls Tryz.prog 8 #[] w fun e w' => ∃ b1 b2 b3, e = .returned (.agg #[.slice (some ⟨b1, 0, none⟩) 2 2, .slice (some ⟨b2, 0, none⟩) 2 2, .slice (some ⟨b3, 0, none⟩) 1 1]) ∧ RdLL (fun k => k < w'.heap.size) w' (.slice (some ⟨b1, 0, none⟩) 2 2) knownL ∧ Below w.heap.size w w' := by
  go_enter Tryz.func8, Tryz.ntmps8
  go_wp2
  refine bodyPost_ret (v := .agg #[.slice (some ⟨w.heap.size + 1 + 1 + 1, 0, none⟩) 2 2, .slice (some ⟨w.heap.size + 1 + 1 + 1 + 1, 0, none⟩) 2 2, .slice (some ⟨w.heap.size + 1 + 1 + 1 + 1 + 1 + 1 + 1, 0, none⟩) 1 1]) (by simp [results, Tryz.results8, go_sem]) rfl ⟨_, _, _, rfl, ?_, ?_⟩
  · refine knownLL w.heap.size (by simp) ?_ ?_ ?_
    all_goals repeat (first | exact new_at _ _ _ (by simp) | rw [heap_at _ _ _ (by first | (simp; done) | (simp; omega))])
  · repeat (first | exact Below.refl _ _ | refine Below.setCell ?_ (by first | (simp; done) | (simp; omega)) _ | refine below_drewN ?_ _ | refine Below.drew ?_ | refine Below.alloc ?_ (by first | (simp; done) | (simp; omega)) _)
end Go.Proofs.YtfnockbgkcgpkaaGreat
