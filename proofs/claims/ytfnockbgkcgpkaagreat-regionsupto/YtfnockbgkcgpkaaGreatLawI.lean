import Derived.Test.YtfnockbgkcgpkaaGreatLawG
set_option linter.all false
namespace Go.Proofs.YtfnockbgkcgpkaaGreat
open Go.RowKit Go.Proofs.Panes
set_option maxRecDepth 100000

/-- append onto a row of rectangles: where the new one lies, and that the old one is still there. -/
theorem run_append_both (w : World) (ty : TypeId) (B : Nat) (d : Value) (L N : List Rc) (hO : Own w B d L) (g0 : Nat) (hN : w.heap[g0]? = some (.cells (rcells N).toArray 46)) (hpos : 0 < N.length) (hn : L.length + N.length ≤ 1000000000) (hB : B ≤ w.heap.size) :
    ∃ g cap w', (Builtin.append_ #[47, 47] ty #[d, .slice (some ⟨g0, 0, none⟩) N.length N.length]).run Tryz.prog w = .ok (.slice (some ⟨g, 0, none⟩) (L.length + N.length) cap) w' ∧
      Own w' B (.slice (some ⟨g, 0, none⟩) (L.length + N.length) cap) (L ++ N) ∧ Own w' B d L ∧ ((d.ownBlock = some g ∧ (∃ n, d = .slice (some ⟨g, 0, none⟩) n cap) ∧ w.grownBy w' (some g)) ∨ (g = w.heap.size ∧ w.grownBy w' none)) ∧ g < w'.heap.size := by
  obtain ⟨i0, hi, hz0, hz1, hz2⟩ := info_parts info_rect
  have hnews : ∀ j u, (rcells N)[j]? = some u → w.cell? ((⟨g0, 0, none⟩ : Addr).add j) = some u := newsN hN
  obtain ⟨g, cap, w', hr, h2, h3, h4, h5⟩ := run_append_lies (P := Tryz.prog) w 47 ty B 46 i0 _ 4 32 Tryz.underlying47 hi hz0 hz1 hz2 rfl (by decide) d L.length (rcells L) hO ⟨g0, 0, none⟩ N.length N.length (rcells N) (rcells_len N) hnews (rcells_one N) hpos (by unfold maxLen; omega) (by omega) hB _ rfl
  have hJ : Own w' B (.slice (some ⟨g, 0, none⟩) (L.length + N.length) cap) (L ++ N) := by
    unfold Own; rw [rcells_append, List.length_append]; exact h2
  refine ⟨g, cap, w', hr, hJ, ?_⟩
  rcases hO.2 with ⟨rfl, hl⟩ | ⟨k, c, cur, rfl, hbk, hk, hc, hm, hz, ht⟩
  · have e : L = [] := List.length_eq_zero_iff.1 hl
    subst e
    refine ⟨own_nil _, .inr ⟨?_, h3⟩, h5⟩
    rcases h4 with c | c
    · cases c
    · exact c
  · by_cases hroom : L.length + N.length ≤ c
    · have hr2 := run_append_room (P := Tryz.prog) w 47 ty 46 i0 Tryz.underlying47 hi k L.length c cur hk ⟨g0, 0, none⟩ N.length N.length (rcells N) (by rw [hz1]; exact rcells_len N) hnews (rcells_one N) hroom (by rw [hz1, rcells_len, hz]; omega)
      rw [hr2] at hr
      simp only [Result.ok.injEq, Value.slice.injEq, Option.some.injEq, Addr.mk.injEq, and_true, true_and] at hr
      obtain ⟨⟨rfl, rfl⟩, _⟩ := hr
      exact ⟨own_front hJ, .inl ⟨rfl, ⟨_, rfl⟩, h3⟩, h5⟩
    · have holds : ∀ j u, (rcells L)[j]? = some u → w.cell? ((⟨k, 0, none⟩ : Addr).add j) = some u := World.ownsRow.cells hO (g := k) rfl
      have hr2 := run_append_grow (P := Tryz.prog) w 47 ty 46 i0 _ Tryz.underlying47 hi hz0 ⟨k, 0, none⟩ L.length c (rcells L) (by rw [hz1]; exact rcells_len L) holds ⟨g0, 0, none⟩ N.length N.length (rcells N) (by rw [hz1]; exact rcells_len N) hnews (by omega) (by omega) (growslice_fits (by omega) (by rw [hz2]; omega))
      rw [hr2] at hr
      simp only [Result.ok.injEq, Value.slice.injEq, Option.some.injEq, Addr.mk.injEq, and_true, true_and] at hr
      obtain ⟨⟨rfl, rfl⟩, rfl⟩ := hr
      have hg : w.grownBy (w.drew.alloc (.cells ((rcells L).toArray ++ (rcells N).toArray ++ Builtin.zeroCells (Value.agg #[.int .i64 0, .int .i64 0, .int .i64 0, .int .i64 0]).cells (grownCap w (L.length + N.length) c 46 - (L.length + N.length))) 46)) none := ⟨rfl, rfl, rfl, by simp, fun k hk _ => Below.heap_alloc w.drew _ k hk⟩
      exact ⟨World.ownsRow.kept hO hg (.inr (by simp [Value.ownBlock])), .inr ⟨rfl, hg⟩, h5⟩

/-- The same, for the walk. -/
theorem append_both {w : World} {ops : Array Oper} {rest : List Oper} {o : Oper} {a : Act} {Q : Exit → Act → World → Prop} (hgd : o.guard = none) (s x : Operand)
    (ho : o.op = .call { callee := .builtin .append, args := #[s, x], argTypes := #[47, 47] }) (B : Nat) (d : Value) (L N : List Rc) (hs : a.eval s = d) (hO : Own w B d L) (g0 m : Nat) (hm : m = N.length) (hx : a.eval x = .slice (some ⟨g0, 0, none⟩) m m)
    (hN : w.heap[g0]? = some (.cells (rcells N).toArray 46)) (hpos : 0 < N.length) (hn : L.length + N.length ≤ 1000000000) (hB : B ≤ w.heap.size)
    (h : ∀ g cap w', Own w' B (.slice (some ⟨g, 0, none⟩) (L.length + N.length) cap) (L ++ N) → Own w' B d L → ((d.ownBlock = some g ∧ (∃ n, d = .slice (some ⟨g, 0, none⟩) n cap) ∧ w.grownBy w' (some g)) ∨ (g = w.heap.size ∧ w.grownBy w' none)) → g < w'.heap.size → wpList Tryz.prog ops Q rest (a.put o.dst (.slice (some ⟨g, 0, none⟩) (L.length + N.length) cap)) w') : wpList Tryz.prog ops Q (o :: rest) a w := by
  subst hm
  obtain ⟨g, cap, w', hr, h2, h3, h4, h5⟩ := run_append_both w o.type B d L N hO g0 hN hpos hn hB
  refine wpList_plain hgd fun K hK => ?_
  unfold Oper.wp execOp
  simp only [ho, resolve, invoke, builtin, Sem.run_bind, Sem.run_pure, Result.andThen_ok, List.map_toArray, List.map_cons, List.map_nil, hs, hx, hr]
  exact hK _ _ (h g cap w' h2 h3 h4 h5)

/-- A list of marks that was appended to d: it may lie in d's row. -/
structure Sib (d : Value) (w : World) (B : Nat) (u : Value) (c : Nat) (m : Rc) : Prop where
  own : Own w B u (List.replicate c m)
  shape : ∀ g, d.ownBlock = some g → u.ownBlock = some g → ∃ n cap, d = .slice (some ⟨g, 0, none⟩) n cap ∧ u = .slice (some ⟨g, 0, none⟩) c cap
theorem Sib.alloc {d : Value} {w : World} {B : Nat} {u : Value} {c : Nat} {m : Rc} (h : Sib d w B u c m) (o : Obj) : Sib d (w.alloc o) B u c m := ⟨World.ownsRow.alloc h.own o, h.shape⟩
theorem Sib.set {d : Value} {w : World} {B : Nat} {u : Value} {c : Nat} {m : Rc} (h : Sib d w B u c m) {x : Nat} {cs : Array Value} {t : TypeId} {fz : Nat × Nat} (hx : w.heap[x]? = some (.cells cs t fz)) (ht : t ≠ 46) (i : Nat) (v : Value) : Sib d (w.setCell ⟨x, i, none⟩ v) B u c m :=
  ⟨ownsRow_setCell_other h.own (own_kind h.own hx ht) v, h.shape⟩
/-- A mark more (or several) is appended to d. -/
theorem append_marks {w : World} {ops : Array Oper} {rest : List Oper} {o : Oper} {a : Act} {Q : Exit → Act → World → Prop} (hgd : o.guard = none) (s x : Operand)
    (ho : o.op = .call { callee := .builtin .append, args := #[s, x], argTypes := #[47, 47] }) (B : Nat) (d : Value) (n j : Nat) (m : Rc) (hs : a.eval s = d) (hO : Own w B d (List.replicate n m)) (g0 : Nat) (hx : a.eval x = .slice (some ⟨g0, 0, none⟩) j j)
    (hN : w.heap[g0]? = some (.cells (rcells (List.replicate j m)).toArray 46)) (hpos : 0 < j) (hn : n + j ≤ 1000000000) (hB : B ≤ w.heap.size)
    (h : ∀ g cap w', Sib d w' B (.slice (some ⟨g, 0, none⟩) (n + j) cap) (n + j) m → Own w' B d (List.replicate n m) → (∀ u c, Sib d w B u c m → c ≤ n + j → Sib d w' B u c m) → w.grownBy w' d.ownBlock → wpList Tryz.prog ops Q rest (a.put o.dst (.slice (some ⟨g, 0, none⟩) (n + j) cap)) w') : wpList Tryz.prog ops Q (o :: rest) a w := by
  refine append_both hgd s x ho B d (List.replicate n m) (List.replicate j m) hs hO g0 j (by simp) hx hN (by simpa using hpos) (by simpa using hn) hB ?_
  intro g cap w' hnew hold hat hlt
  rw [List.length_replicate, List.length_replicate] at hnew ⊢
  have hnew' : Own w' B (.slice (some ⟨g, 0, none⟩) (n + j) cap) (List.replicate (n + j) m) := by rw [List.replicate_append_replicate] at hnew; exact hnew
  refine h g cap w' ⟨hnew', ?_⟩ hold ?_ ?_
  · intro g1 e1 e2
    simp only [Value.ownBlock, Option.some.injEq] at e2
    subst e2
    rcases hat with ⟨_, ⟨n', e⟩, _⟩ | ⟨e, _⟩
    · exact ⟨n', cap, e, rfl⟩
    · have := (World.ownsRow.lt hO _ e1).2
      omega
  · intro u c hs hc
    refine ⟨?_, hs.shape⟩
    rcases hat with ⟨e1, ⟨n', e⟩, hg⟩ | ⟨_, hg⟩
    · by_cases hu : u.ownBlock = some g
      · obtain ⟨n2, cap2, e3, rfl⟩ := hs.shape g e1 hu
        rw [e] at e3
        simp only [Value.slice.injEq, true_and] at e3
        obtain ⟨_, rfl⟩ := e3
        have e4 : List.replicate (n + j) m = List.replicate c m ++ List.replicate (n + j - c) m := by rw [List.replicate_append_replicate, show c + (n + j - c) = n + j by omega]
        rw [e4] at hnew'
        have := own_front hnew'
        rwa [List.length_replicate] at this
      · exact World.ownsRow.kept hs.own hg (.inr hu)
    · exact World.ownsRow.kept hs.own hg (by cases hv : u.ownBlock <;> simp)
  · rcases hat with ⟨e1, _, hg⟩ | ⟨_, hg⟩
    · rw [e1]; exact hg
    · exact ⟨hg.os, hg.tape, hg.output, hg.size, fun k hk _ => hg.block k hk (by simp)⟩
end Go.Proofs.YtfnockbgkcgpkaaGreat
