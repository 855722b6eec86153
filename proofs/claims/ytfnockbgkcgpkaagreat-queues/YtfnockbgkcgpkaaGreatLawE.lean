import Derived.Test.YtfnockbgkcgpkaaGreatLawD
import Derived.Maps.AppendAt
import Derived.OneCell
set_option linter.all false
namespace Go.Proofs.YtfnockbgkcgpkaaGreat
open Go.RowKit Go.Proofs.Panes
set_option maxRecDepth 100000

/-- All blocks that were there, but those of S, are as they were. -/
structure But (S : Nat → Prop) (w w' : World) : Prop where
  os : w'.os = w.os
  tape : w'.tape = w.tape
  output : w'.output = w.output
  size : w.heap.size ≤ w'.heap.size
  block : ∀ k, k < w.heap.size → ¬ S k → w'.heap[k]? = w.heap[k]?
theorem But.refl (S : Nat → Prop) (w : World) : But S w w := ⟨rfl, rfl, rfl, Nat.le_refl _, fun _ _ _ => rfl⟩
theorem But.trans {S : Nat → Prop} {a b c : World} (h : But S a b) (k : But S b c) : But S a c :=
  ⟨k.os.trans h.os, k.tape.trans h.tape, k.output.trans h.output, Nat.le_trans h.size k.size, fun i hi hs => (k.block i (Nat.lt_of_lt_of_le hi h.size) hs).trans (h.block i hi hs)⟩
theorem But.wide {S T : Nat → Prop} {w w' : World} (h : But S w w') (hT : ∀ k, k < w.heap.size → S k → T k) : But T w w' :=
  ⟨h.os, h.tape, h.output, h.size, fun k hk ht => h.block k hk (fun hs => ht (hT k hk hs))⟩
theorem But.of_below {S : Nat → Prop} {w w' : World} (h : Below w.heap.size w w') : But S w w' := ⟨h.os, h.tape, h.output, h.size, fun k hk _ => h.block k hk⟩
theorem But.of_grown {S : Nat → Prop} {w w' : World} {row : Option Nat} (h : w.grownBy w' row) (hr : ∀ k, row = some k → S k) : But S w w' :=
  ⟨h.os, h.tape, h.output, h.size, fun k hk hs => h.block k hk (fun e => hs (hr k e.symm))⟩
theorem But.below {S : Nat → Prop} {w w' : World} {B : Nat} (h : But S w w') (hB : B ≤ w.heap.size) (hS : ∀ k, S k → B ≤ k) : Below B w w' :=
  ⟨h.os, h.tape, h.output, h.size, fun k hk => h.block k (by omega) (fun hs => by have := hS k hs; omega)⟩
theorem But.setCell {S : Nat → Prop} {a w : World} (h : But S a w) {p : Addr} (hp : S p.block ∨ a.heap.size ≤ p.block) (u : Value) : But S a (w.setCell p u) :=
  ⟨h.os, h.tape, h.output, by simpa [World.setCell] using h.size, fun k hk hs => (Below.heap_setCell _ _ _ _ (fun e => by subst e; rcases hp with c | c; exact hs c; omega)).trans (h.block k hk hs)⟩
theorem But.alloc {S : Nat → Prop} {a w : World} (h : But S a w) (o : Obj) : But S a (w.alloc o) :=
  ⟨h.os, h.tape, h.output, by have := h.size; simp; omega, fun k hk hs => (Below.heap_alloc _ _ _ (by have := h.size; omega)).trans (h.block k hk hs)⟩
theorem But.drew {S : Nat → Prop} {a w : World} (h : But S a w) : But S a w.drew := ⟨h.os, h.tape, h.output, h.size, h.block⟩
theorem But.drewN {S : Nat → Prop} {a w : World} (h : But S a w) (n : Nat) : But S a (w.drewN n) := ⟨h.os, h.tape, h.output, h.size, h.block⟩
theorem But.grown {S : Nat → Prop} {a w w' : World} {row : Option Nat} (h : But S a w) (hg : w.grownBy w' row) (hr : ∀ k, row = some k → S k ∨ a.heap.size ≤ k) : But S a w' :=
  ⟨hg.os.trans h.os, hg.tape.trans h.tape, hg.output.trans h.output, Nat.le_trans h.size hg.size, fun k hk hs => (hg.block k (Nat.lt_of_lt_of_le hk h.size) (fun e => by rcases hr k e.symm with c | c; exact hs c; omega)).trans (h.block k hk hs)⟩
theorem But.then {S : Nat → Prop} {a w w' : World} (h : But S a w) (hb : Below w.heap.size w w') : But S a w' := h.trans (.of_below hb)
/-- A step more, that writes what may be written, or what is new. -/
theorem But.step {S T : Nat → Prop} {w w1 w2 : World} (h : But T w w1) (k : But S w1 w2) (hS : ∀ k, S k → T k ∨ w.heap.size ≤ k) : But T w w2 :=
  ⟨k.os.trans h.os, k.tape.trans h.tape, k.output.trans h.output, Nat.le_trans h.size k.size, fun i hi hs => (k.block i (Nat.lt_of_lt_of_le hi h.size) (fun c => by rcases hS i c with d | d; exact hs d; omega)).trans (h.block i hi hs)⟩
theorem But.heap {S : Nat → Prop} {w w' : World} (h : But S w w') {k : Nat} {o : Obj} (hk : w.heap[k]? = some o) (hs : ¬ S k) : w'.heap[k]? = some o := (h.block k (lt_of_heap hk) hs).trans hk

/-- What a block holds behind a store. -/
theorem blk_set {w : World} {b i : Nat} {cs : Array Value} {t : TypeId} {fz : Nat × Nat} (h : w.heap[b]? = some (.cells cs t fz)) (u : Value) : (w.setCell ⟨b, i, none⟩ u).heap[b]? = some (.cells (cs.setIfInBounds i u) t fz) := by
  have hlt := lt_of_heap h
  have h' : w.heap[b] = .cells cs t fz := by simpa [Array.getElem?_eq_getElem hlt] using h
  show (w.heap.modify b _)[b]? = _
  rw [Array.getElem?_eq_getElem (by simpa using hlt), Array.getElem_modify_self, h']
  rfl
theorem blk_other {w : World} {b : Nat} {p : Addr} {o : Obj} (h : w.heap[b]? = some o) (hne : b ≠ p.block) (u : Value) : (w.setCell p u).heap[b]? = some o := (Below.heap_setCell _ _ _ _ hne).trans h
theorem blk_alloc {w : World} {b : Nat} {o : Obj} (h : w.heap[b]? = some o) (x : Obj) : (w.alloc x).heap[b]? = some o := (Below.heap_alloc _ _ _ (lt_of_heap h)).trans h

/-- Rows of different kinds are different blocks. -/
theorem row_kind {w : World} {base : Nat} {e : TypeId} {size : Nat} {v : Value} {n : Nat} {xs : List Value} (h : w.ownsRow base e size v n xs) {g : Nat} {cs : Array Value} {t : TypeId} {fz : Nat × Nat} (hg : w.heap[g]? = some (.cells cs t fz)) (ht : t ≠ e) : v.ownBlock ≠ some g := by
  rcases h.2 with ⟨rfl, _⟩ | ⟨k, cap, cur, rfl, _, hk, _⟩
  · simp [Value.ownBlock]
  · intro e
    simp [Value.ownBlock] at e
    subst e
    rw [hk] at hg
    simp at hg
    exact ht hg.2.1.symm
theorem row_heap {w : World} {base : Nat} {e : TypeId} {size : Nat} {v : Value} {n : Nat} {xs : List Value} (h : w.ownsRow base e size v n xs) {k : Nat} (hk : v.ownBlock = some k) : ∃ cs fz, w.heap[k]? = some (.cells cs e fz) := by
  rcases h.2 with ⟨rfl, _⟩ | ⟨g, cap, cur, rfl, _, hgg, _⟩
  · simp [Value.ownBlock] at hk
  · simp [Value.ownBlock] at hk; subst hk; exact ⟨_, _, hgg⟩
/-- Two rows of different kinds. -/
theorem row_apart {w : World} {base base' : Nat} {e e' : TypeId} {size size' : Nat} {v v' : Value} {n n' : Nat} {xs xs' : List Value} (h : w.ownsRow base e size v n xs) (h' : w.ownsRow base' e' size' v' n' xs') (hne : e ≠ e') {k : Nat} (hk : v.ownBlock = some k) (hk' : v'.ownBlock = some k) : False := by
  obtain ⟨cs, fz, hg⟩ := row_heap h hk
  exact row_kind h' hg hne hk'
theorem row_but {S : Nat → Prop} {w w' : World} {base : Nat} {e : TypeId} {size : Nat} {v : Value} {n : Nat} {xs : List Value} (h : w.ownsRow base e size v n xs) (hb : But S w w') (hs : ∀ k, v.ownBlock = some k → ¬ S k) : w'.ownsRow base e size v n xs := by
  refine ⟨h.1, ?_⟩
  rcases h.2 with hn | ⟨g, cap, cur, rfl, hg, hgg, rest⟩
  · exact .inl hn
  · exact .inr ⟨g, cap, cur, rfl, hg, hb.heap hgg (hs g rfl), rest⟩
theorem row_slice {w : World} {base : Nat} {e : TypeId} {size : Nat} {v : Value} {n : Nat} {xs : List Value} (h : w.ownsRow base e size v n xs) : ∃ ro rc, v = .slice ro n rc := by
  rcases h.2 with ⟨rfl, rfl⟩ | ⟨g, cap, cur, rfl, _⟩
  · exact ⟨_, _, rfl⟩
  · exact ⟨_, _, rfl⟩
theorem row_free {w : World} {base : Nat} {e : TypeId} {size : Nat} {v : Value} {n : Nat} {xs : List Value} (h : w.ownsRow base e size v n xs) (S : Nat → Prop) (hS : ∀ k, v.ownBlock = some k → k < w.heap.size → ¬ S k) : ∀ k, v.ownBlock = some k → ¬ S k := fun k hk => hS k hk (World.ownsRow.lt h k hk).2
theorem blk_cell {w : World} {b : Nat} {cs : Array Value} {t : TypeId} {fz : Nat × Nat} (h : w.heap[b]? = some (.cells cs t fz)) (j : Nat) : w.cell? ⟨b, j, none⟩ = cs[j]? := by rw [cell_of_row w b j cs t fz h]
theorem blk_thaw {w : World} {b : Nat} {cs : Array Value} {t : TypeId} (h : w.heap[b]? = some (.cells cs t (0, 0))) (j : Nat) : w.frozen? ⟨b, j, none⟩ = false := by simp [World.frozen?, h]
theorem own_kind {w : World} {base : Nat} {v : Value} {l : List Rc} (h : Own w base v l) {g : Nat} {cs : Array Value} {t : TypeId} {fz : Nat × Nat} (hg : w.heap[g]? = some (.cells cs t fz)) (ht : t ≠ 46) : v.ownBlock ≠ some g := by
  rcases h.2 with ⟨rfl, _⟩ | ⟨k, cap, cur, rfl, _, hk, _⟩
  · simp [Value.ownBlock]
  · intro e
    simp [Value.ownBlock] at e
    subst e
    rw [hk] at hg
    simp at hg
    exact ht hg.2.1.symm
theorem Own.but {S : Nat → Prop} {w w' : World} {base : Nat} {v : Value} {l : List Rc} (h : Own w base v l) (hb : But S w w') (hs : ∀ k, v.ownBlock = some k → ¬ S k) : Own w' base v l := by
  refine ⟨h.1, ?_⟩
  rcases h.2 with hn | ⟨g, cap, cur, rfl, hg, hgg, rest⟩
  · exact .inl hn
  · exact .inr ⟨g, cap, cur, rfl, hg, hb.heap hgg (hs g rfl), rest⟩
/-- The first elements of a row are a row. -/
theorem own_front {w : World} {base g n cap : Nat} {A B : List Rc} (h : Own w base (.slice (some ⟨g, 0, none⟩) n cap) (A ++ B)) : Own w base (.slice (some ⟨g, 0, none⟩) A.length cap) A := by
  rcases h.2 with ⟨e, _⟩ | ⟨k, c, cur, e, hb, hk, hc, hm, hz, ht⟩
  · cases e
  · simp only [Value.slice.injEq, Option.some.injEq, Addr.mk.injEq, and_true] at e
    obtain ⟨rfl, e, rfl⟩ := e
    refine ⟨rcells_len A, .inr ⟨g, cap, cur, rfl, hb, hk, by simp at hc; omega, hm, hz, ?_⟩⟩
    have := congrArg (List.take (A.length * 4)) ht
    rw [List.take_take, rcells_append, List.take_append_of_le_length (by rw [rcells_len]; omega), Nat.min_eq_left (by simp; omega)] at this
    rw [this, List.take_of_length_le (by rw [rcells_len]; omega)]

theorem newsN {w : World} {g : Nat} {cs : List Value} {t : TypeId} {fz : Nat × Nat} (h : w.heap[g]? = some (.cells cs.toArray t fz)) : ∀ j u, cs[j]? = some u → w.cell? ((⟨g, 0, none⟩ : Addr).add j) = some u := by
  intro j u hj
  have hadd : (⟨g, 0, none⟩ : Addr).add j = ⟨g, j, none⟩ := by unfold Addr.add; split <;> simp_all
  rw [hadd, cell_of_row w g j _ _ _ h]
  simpa using hj
/-- A list that came out, and what it was appended to, with its number. -/
structure Ent where
  l : Value
  a : Value
  b : Value
  c : Value
  n : Int
def ecell (e : Ent) : List Value := [e.l, e.a, e.b, e.c, .int .i64 e.n]
def ecells (l : List Ent) : List Value := l.flatMap ecell
theorem ecells_len (l : List Ent) : (ecells l).length = l.length * 5 := by
  induction l with
  | nil => rfl
  | cons r l ih => show (ecell r ++ ecells l).length = _; rw [List.length_append, ih]; simp [ecell]; omega
theorem ecells_snoc (l : List Ent) (e : Ent) : ecells (l ++ [e]) = ecells l ++ ecell e := by simp [ecells]
theorem ecells_at : ∀ (l : List Ent) (j : Nat) (r : Ent), l[j]? = some r →
    (ecells l)[j * 5]? = some r.l ∧ (ecells l)[j * 5 + 1]? = some r.a ∧ (ecells l)[j * 5 + 2]? = some r.b ∧ (ecells l)[j * 5 + 3]? = some r.c ∧ (ecells l)[j * 5 + 4]? = some (.int .i64 r.n)
  | [], j, r, h => by simp at h
  | q :: l, 0, r, h => by
    simp at h; subst h
    show (ecell q ++ ecells l)[0]? = _ ∧ (ecell q ++ ecells l)[1]? = _ ∧ (ecell q ++ ecells l)[2]? = _ ∧ (ecell q ++ ecells l)[3]? = _ ∧ (ecell q ++ ecells l)[4]? = _
    simp [ecell]
  | q :: l, j + 1, r, h => by
    have h' : l[j]? = some r := by simpa using h
    have ih := ecells_at l j r h'
    have e : ∀ t, (ecells (q :: l))[(j + 1) * 5 + t]? = (ecells l)[j * 5 + t]? := by
      intro t
      show (ecell q ++ ecells l)[_]? = _
      rw [List.getElem?_append_right (by simp [ecell]; omega)]
      congr 1
      simp [ecell]; omega
    refine ⟨by have := e 0; simp only [Nat.add_zero] at this; rw [this]; exact ih.1, by rw [e 1]; exact ih.2.1, by rw [e 2]; exact ih.2.2.1, by rw [e 3]; exact ih.2.2.2.1, by rw [e 4]; exact ih.2.2.2.2⟩

/-- A list of the mark of n, that somebody owns. -/
def Marked (w : World) (base : Nat) (v : Value) (n : Int) : Prop := ∃ l, Own w base v l ∧ l.length ≤ 30000000 ∧ ∀ r ∈ l, r = mark n
structure EntOk (base : Nat) (w : World) (e : Ent) : Prop where
  num : 0 ≤ e.n ∧ e.n ≤ 4000000
  l : Marked w base e.l e.n
  a : Marked w base e.a e.n
  b : Marked w base e.b e.n
  c : Marked w base e.c e.n
theorem Marked.but {S : Nat → Prop} {w w' : World} {base : Nat} {v : Value} {n : Int} (h : Marked w base v n) (hb : But S w w') (hs : ∀ k, v.ownBlock = some k → ¬ S k) : Marked w' base v n := by
  obtain ⟨l, h1, h2⟩ := h
  exact ⟨l, h1.but hb hs, h2⟩
/-- Blocks of another kind may be written. -/
theorem Marked.odd {S : Nat → Prop} {w w' : World} {base : Nat} {v : Value} {n : Int} (h : Marked w base v n) (hb : But S w w') (hs : ∀ k, S k → k < w.heap.size → ∃ cs t fz, w.heap[k]? = some (.cells cs t fz) ∧ t ≠ 46) : Marked w' base v n := by
  obtain ⟨l, h1, h2⟩ := h
  refine ⟨l, h1.but hb fun k hk hS => ?_, h2⟩
  obtain ⟨cs, t, fz, hg, ht⟩ := hs k hS (World.ownsRow.lt h1 k hk).2
  exact own_kind h1 hg ht hk
theorem EntOk.odd {S : Nat → Prop} {w w' : World} {base : Nat} {e : Ent} (h : EntOk base w e) (hb : But S w w') (hs : ∀ k, S k → k < w.heap.size → ∃ cs t fz, w.heap[k]? = some (.cells cs t fz) ∧ t ≠ 46) : EntOk base w' e :=
  ⟨h.num, h.l.odd hb hs, h.a.odd hb hs, h.b.odd hb hs, h.c.odd hb hs⟩
theorem EntOk.but {S : Nat → Prop} {w w' : World} {base : Nat} {e : Ent} (h : EntOk base w e) (hb : But S w w') (hs : ∀ v k, Marked w base v e.n → v.ownBlock = some k → ¬ S k) : EntOk base w' e :=
  ⟨h.num, h.l.but hb (fun k => hs _ k h.l), h.a.but hb (fun k => hs _ k h.a), h.b.but hb (fun k => hs _ k h.b), h.c.but hb (fun k => hs _ k h.c)⟩
theorem Marked.mono {w : World} {base base' : Nat} {v : Value} {n : Int} (h : Marked w base v n) (hb : base' ≤ base) : Marked w base' v n := by
  obtain ⟨l, h1, h2⟩ := h
  exact ⟨l, h1.mono hb, h2⟩
theorem EntOk.mono {w : World} {base base' : Nat} {e : Ent} (h : EntOk base w e) (hb : base' ≤ base) : EntOk base' w e := ⟨h.num, h.l.mono hb, h.a.mono hb, h.b.mono hb, h.c.mono hb⟩
theorem Marked.lt {w : World} {base : Nat} {v : Value} {n : Int} (h : Marked w base v n) {k : Nat} (hk : v.ownBlock = some k) : base ≤ k ∧ k < w.heap.size := by
  obtain ⟨l, h1, _⟩ := h
  exact World.ownsRow.lt h1 k hk
theorem EntOk.below {w w' : World} {base : Nat} {e : Ent} (h : EntOk base w e) (hb : Below w.heap.size w w') : EntOk base w' e := h.odd (S := fun _ => False) (.of_below hb) (fun _ h => h.elim)

/-- The books' own row. -/
abbrev OwnE (w : World) (base : Nat) (v : Value) (es : List Ent) : Prop := w.ownsRow base 82 5 v es.length (ecells es)
theorem OwnE.but {S : Nat → Prop} {w w' : World} {base : Nat} {v : Value} {es : List Ent} (h : OwnE w base v es) (hb : But S w w') (hs : ∀ k, v.ownBlock = some k → ¬ S k) : OwnE w' base v es := by
  refine ⟨h.1, ?_⟩
  rcases h.2 with hn | ⟨g, cap, cur, rfl, hg, hgg, rest⟩
  · exact .inl hn
  · exact .inr ⟨g, cap, cur, rfl, hg, hb.heap hgg (hs g rfl), rest⟩
theorem OwnE.kind {w : World} {base : Nat} {v : Value} {es : List Ent} (h : OwnE w base v es) {k : Nat} (hk : v.ownBlock = some k) : ∃ cs fz, w.heap[k]? = some (.cells cs 82 fz) := by
  rcases h.2 with ⟨rfl, _⟩ | ⟨g, cap, cur, rfl, _, hgg, _⟩
  · simp [Value.ownBlock] at hk
  · simp [Value.ownBlock] at hk; subst hk; exact ⟨_, _, hgg⟩
end Go.Proofs.YtfnockbgkcgpkaaGreat
