import Derived.Test.YtfnockbgkcgpkaaKaab
import Derived.Maps.AppendAt
import Derived.OneCell
set_option linter.all false
namespace Go.Proofs.Ytfnockbgkcgpkaa
open Go.RowKit Go.Proofs.Panes
set_option maxRecDepth 100000

/-- All blocks that were there, but those of S, are as they were. -/
structure But (S : Nat → Prop) (w w' : World) : Prop where
  os : w'.os = w.os
  tape : w'.tape = w.tape
  output : w'.output = w.output
  size : w.heap.size ≤ w'.heap.size
  block : ∀ k, k < w.heap.size → ¬ S k → w'.heap[k]? = w.heap[k]?
theorem But.refl (S : Nat → Prop) (w : World) : But S w w := ⟨rfl, rfl, rfl, Nat.le_refl _, fun _ _ _ => rfl⟩
theorem But.trans {S : Nat → Prop} {a b c : World} (h : But S a b) (k : But S b c) : But S a c :=
  ⟨k.os.trans h.os, k.tape.trans h.tape, k.output.trans h.output, Nat.le_trans h.size k.size, fun i hi hs => (k.block i (Nat.lt_of_lt_of_le hi h.size) hs).trans (h.block i hi hs)⟩
theorem But.wide {S T : Nat → Prop} {w w' : World} (h : But S w w') (hT : ∀ k, k < w.heap.size → S k → T k) : But T w w' :=
  ⟨h.os, h.tape, h.output, h.size, fun k hk ht => h.block k hk (fun hs => ht (hT k hk hs))⟩
theorem But.of_below {S : Nat → Prop} {w w' : World} (h : Below w.heap.size w w') : But S w w' := ⟨h.os, h.tape, h.output, h.size, fun k hk _ => h.block k hk⟩
theorem But.of_grown {S : Nat → Prop} {w w' : World} {row : Option Nat} (h : w.grownBy w' row) (hr : ∀ k, row = some k → S k) : But S w w' :=
  ⟨h.os, h.tape, h.output, h.size, fun k hk hs => h.block k hk (fun e => hs (hr k e.symm))⟩
theorem But.below {S : Nat → Prop} {w w' : World} {B : Nat} (h : But S w w') (hB : B ≤ w.heap.size) (hS : ∀ k, S k → B ≤ k) : Below B w w' :=
  ⟨h.os, h.tape, h.output, h.size, fun k hk => h.block k (by omega) (fun hs => by have := hS k hs; omega)⟩
theorem But.setCell {S : Nat → Prop} {a w : World} (h : But S a w) {p : Addr} (hp : S p.block ∨ a.heap.size ≤ p.block) (u : Value) : But S a (w.setCell p u) :=
  ⟨h.os, h.tape, h.output, by simpa [World.setCell] using h.size, fun k hk hs => (Below.heap_setCell _ _ _ _ (fun e => by subst e; rcases hp with c | c; exact hs c; omega)).trans (h.block k hk hs)⟩
theorem But.alloc {S : Nat → Prop} {a w : World} (h : But S a w) (o : Obj) : But S a (w.alloc o) :=
  ⟨h.os, h.tape, h.output, by have := h.size; simp; omega, fun k hk hs => (Below.heap_alloc _ _ _ (by have := h.size; omega)).trans (h.block k hk hs)⟩
theorem But.drew {S : Nat → Prop} {a w : World} (h : But S a w) : But S a w.drew := ⟨h.os, h.tape, h.output, h.size, h.block⟩
theorem But.drewN {S : Nat → Prop} {a w : World} (h : But S a w) (n : Nat) : But S a (w.drewN n) := ⟨h.os, h.tape, h.output, h.size, h.block⟩
theorem But.grown {S : Nat → Prop} {a w w' : World} {row : Option Nat} (h : But S a w) (hg : w.grownBy w' row) (hr : ∀ k, row = some k → S k ∨ a.heap.size ≤ k) : But S a w' :=
  ⟨hg.os.trans h.os, hg.tape.trans h.tape, hg.output.trans h.output, Nat.le_trans h.size hg.size, fun k hk hs => (hg.block k (Nat.lt_of_lt_of_le hk h.size) (fun e => by rcases hr k e.symm with c | c; exact hs c; omega)).trans (h.block k hk hs)⟩
theorem But.then {S : Nat → Prop} {a w w' : World} (h : But S a w) (hb : Below w.heap.size w w') : But S a w' := h.trans (.of_below hb)
/-- A step more, that writes what may be written, or what is new. -/
theorem But.step {S T : Nat → Prop} {w w1 w2 : World} (h : But T w w1) (k : But S w1 w2) (hS : ∀ k, S k → T k ∨ w.heap.size ≤ k) : But T w w2 :=
  ⟨k.os.trans h.os, k.tape.trans h.tape, k.output.trans h.output, Nat.le_trans h.size k.size, fun i hi hs => (k.block i (Nat.lt_of_lt_of_le hi h.size) (fun c => by rcases hS i c with d | d; exact hs d; omega)).trans (h.block i hi hs)⟩
theorem But.heap {S : Nat → Prop} {w w' : World} (h : But S w w') {k : Nat} {o : Obj} (hk : w.heap[k]? = some o) (hs : ¬ S k) : w'.heap[k]? = some o := (h.block k (lt_of_heap hk) hs).trans hk

/-- What a block holds behind a store. -/
theorem blk_set {w : World} {b i : Nat} {cs : Array Value} {t : TypeId} {fz : Nat × Nat} (h : w.heap[b]? = some (.cells cs t fz)) (u : Value) : (w.setCell ⟨b, i, none⟩ u).heap[b]? = some (.cells (cs.setIfInBounds i u) t fz) := by
  have hlt := lt_of_heap h
  have h' : w.heap[b] = .cells cs t fz := by simpa [Array.getElem?_eq_getElem hlt] using h
  show (w.heap.modify b _)[b]? = _
  rw [Array.getElem?_eq_getElem (by simpa using hlt), Array.getElem_modify_self, h']
  rfl
theorem blk_other {w : World} {b : Nat} {p : Addr} {o : Obj} (h : w.heap[b]? = some o) (hne : b ≠ p.block) (u : Value) : (w.setCell p u).heap[b]? = some o := (Below.heap_setCell _ _ _ _ hne).trans h
theorem blk_alloc {w : World} {b : Nat} {o : Obj} (h : w.heap[b]? = some o) (x : Obj) : (w.alloc x).heap[b]? = some o := (Below.heap_alloc _ _ _ (lt_of_heap h)).trans h

/-- Rows of different kinds are different blocks. -/
theorem row_kind {w : World} {base : Nat} {e : TypeId} {size : Nat} {v : Value} {n : Nat} {xs : List Value} (h : w.ownsRow base e size v n xs) {g : Nat} {cs : Array Value} {t : TypeId} {fz : Nat × Nat} (hg : w.heap[g]? = some (.cells cs t fz)) (ht : t ≠ e) : v.ownBlock ≠ some g := by
  rcases h.2 with ⟨rfl, _⟩ | ⟨k, cap, cur, rfl, _, hk, _⟩
  · simp [Value.ownBlock]
  · intro e
    simp [Value.ownBlock] at e
    subst e
    rw [hk] at hg
    simp at hg
    exact ht hg.2.1.symm
theorem row_heap {w : World} {base : Nat} {e : TypeId} {size : Nat} {v : Value} {n : Nat} {xs : List Value} (h : w.ownsRow base e size v n xs) {k : Nat} (hk : v.ownBlock = some k) : ∃ cs fz, w.heap[k]? = some (.cells cs e fz) := by
  rcases h.2 with ⟨rfl, _⟩ | ⟨g, cap, cur, rfl, _, hgg, _⟩
  · simp [Value.ownBlock] at hk
  · simp [Value.ownBlock] at hk; subst hk; exact ⟨_, _, hgg⟩
/-- Two rows of different kinds. -/
theorem row_apart {w : World} {base base' : Nat} {e e' : TypeId} {size size' : Nat} {v v' : Value} {n n' : Nat} {xs xs' : List Value} (h : w.ownsRow base e size v n xs) (h' : w.ownsRow base' e' size' v' n' xs') (hne : e ≠ e') {k : Nat} (hk : v.ownBlock = some k) (hk' : v'.ownBlock = some k) : False := by
  obtain ⟨cs, fz, hg⟩ := row_heap h hk
  exact row_kind h' hg hne hk'
theorem row_but {S : Nat → Prop} {w w' : World} {base : Nat} {e : TypeId} {size : Nat} {v : Value} {n : Nat} {xs : List Value} (h : w.ownsRow base e size v n xs) (hb : But S w w') (hs : ∀ k, v.ownBlock = some k → ¬ S k) : w'.ownsRow base e size v n xs := by
  refine ⟨h.1, ?_⟩
  rcases h.2 with hn | ⟨g, cap, cur, rfl, hg, hgg, rest⟩
  · exact .inl hn
  · exact .inr ⟨g, cap, cur, rfl, hg, hb.heap hgg (hs g rfl), rest⟩
theorem row_slice {w : World} {base : Nat} {e : TypeId} {size : Nat} {v : Value} {n : Nat} {xs : List Value} (h : w.ownsRow base e size v n xs) : ∃ ro rc, v = .slice ro n rc := by
  rcases h.2 with ⟨rfl, rfl⟩ | ⟨g, cap, cur, rfl, _⟩
  · exact ⟨_, _, rfl⟩
  · exact ⟨_, _, rfl⟩
theorem row_free {w : World} {base : Nat} {e : TypeId} {size : Nat} {v : Value} {n : Nat} {xs : List Value} (h : w.ownsRow base e size v n xs) (S : Nat → Prop) (hS : ∀ k, v.ownBlock = some k → k < w.heap.size → ¬ S k) : ∀ k, v.ownBlock = some k → ¬ S k := fun k hk => hS k hk (World.ownsRow.lt h k hk).2
theorem blk_cell {w : World} {b : Nat} {cs : Array Value} {t : TypeId} {fz : Nat × Nat} (h : w.heap[b]? = some (.cells cs t fz)) (j : Nat) : w.cell? ⟨b, j, none⟩ = cs[j]? := by rw [cell_of_row w b j cs t fz h]
theorem blk_thaw {w : World} {b : Nat} {cs : Array Value} {t : TypeId} (h : w.heap[b]? = some (.cells cs t (0, 0))) (j : Nat) : w.frozen? ⟨b, j, none⟩ = false := by simp [World.frozen?, h]
theorem own_kind {w : World} {base : Nat} {v : Value} {l : List Rc} (h : Own w base v l) {g : Nat} {cs : Array Value} {t : TypeId} {fz : Nat × Nat} (hg : w.heap[g]? = some (.cells cs t fz)) (ht : t ≠ 29) : v.ownBlock ≠ some g := by
  rcases h.2 with ⟨rfl, _⟩ | ⟨k, cap, cur, rfl, _, hk, _⟩
  · simp [Value.ownBlock]
  · intro e
    simp [Value.ownBlock] at e
    subst e
    rw [hk] at hg
    simp at hg
    exact ht hg.2.1.symm
theorem Own.but {S : Nat → Prop} {w w' : World} {base : Nat} {v : Value} {l : List Rc} (h : Own w base v l) (hb : But S w w') (hs : ∀ k, v.ownBlock = some k → ¬ S k) : Own w' base v l := by
  refine ⟨h.1, ?_⟩
  rcases h.2 with hn | ⟨g, cap, cur, rfl, hg, hgg, rest⟩
  · exact .inl hn
  · exact .inr ⟨g, cap, cur, rfl, hg, hb.heap hgg (hs g rfl), rest⟩
/-- The first elements of a row are a row. -/
theorem own_front {w : World} {base g n cap : Nat} {A B : List Rc} (h : Own w base (.slice (some ⟨g, 0, none⟩) n cap) (A ++ B)) : Own w base (.slice (some ⟨g, 0, none⟩) A.length cap) A := by
  rcases h.2 with ⟨e, _⟩ | ⟨k, c, cur, e, hb, hk, hc, hm, hz, ht⟩
  · cases e
  · simp only [Value.slice.injEq, Option.some.injEq, Addr.mk.injEq, and_true] at e
    obtain ⟨rfl, e, rfl⟩ := e
    refine ⟨rcells_len A, .inr ⟨g, cap, cur, rfl, hb, hk, by simp at hc; omega, hm, hz, ?_⟩⟩
    have := congrArg (List.take (A.length * 4)) ht
    rw [List.take_take, rcells_append, List.take_append_of_le_length (by rw [rcells_len]; omega), Nat.min_eq_left (by simp; omega)] at this
    rw [this, List.take_of_length_le (by rw [rcells_len]; omega)]

theorem newsN {w : World} {g : Nat} {cs : List Value} {t : TypeId} {fz : Nat × Nat} (h : w.heap[g]? = some (.cells cs.toArray t fz)) : ∀ j u, cs[j]? = some u → w.cell? ((⟨g, 0, none⟩ : Addr).add j) = some u := by
  intro j u hj
  have hadd : (⟨g, 0, none⟩ : Addr).add j = ⟨g, j, none⟩ := by unfold Addr.add; split <;> simp_all
  rw [hadd, cell_of_row w g j _ _ _ h]
  simpa using hj
/-- An operation of a transaction. -/
structure Opn where
  kind : Int
  surf : Int
  x : Int
  y : Int
  w : Int
  h : Int
  px : List Int
  mark : Int
def inB (n lo hi : Int) : Bool := decide (lo ≤ n) && decide (n ≤ hi)
/-- What its kind has, may be. -/
def okArgs (o : Opn) : Bool :=
  if o.kind = 1 ∨ o.kind = 4 then inB o.x (-100) 100 && inB o.y (-100) 100
  else if o.kind = 3 then inB o.w 1 8 && inB o.h 1 8 && decide ((o.px.length : Int) = o.w * o.h) && o.px.all (fun n => inB n 0 4294967295)
  else if o.kind = 7 then inB o.w 1 20 && inB o.x (-4) 4 && inB o.y (-4) 4
  else true
/-- An operation, done to the surfaces that a client will have; none: it may not be. -/
def vstep (will : List Bool) (o : Opn) : Option (List Bool) :=
  if o.kind = 8 then some will
  else if (inB o.kind 1 7 && inB o.surf 0 ((will.length : Int) - 1) && (will.getD o.surf.toNat false != decide (o.kind = 1)) && okArgs o) = true then some (will.set o.surf.toNat (decide (o.kind ≠ 2))) else none

/-- A list of numbers, in blocks of U. -/
def RdN (U : Nat → Prop) (w : World) (v : Value) (l : List Int) : Prop :=
  ∃ ao cap, v = .slice ao l.length cap ∧ l.length ≤ cap ∧ cap ≤ maxLen ∧ (l ≠ [] → ∃ b off, ao = some ⟨b, off, none⟩ ∧ U b ∧ b < w.heap.size ∧ ∀ j n, l[j]? = some n → w.cell? ⟨b, off + j, none⟩ = some (.int .i64 n))
theorem RdN.but {U S : Nat → Prop} {w w' : World} {v : Value} {l : List Int} (h : RdN U w v l) (hb : But S w w') (hs : ∀ k, U k → ¬ S k) : RdN U w' v l := by
  obtain ⟨ao, cap, e, h1, h2, h3⟩ := h
  refine ⟨ao, cap, e, h1, h2, fun hne => ?_⟩
  obtain ⟨b, off, e, hu, hlt, hc⟩ := h3 hne
  exact ⟨b, off, e, hu, Nat.lt_of_lt_of_le hlt hb.size, fun j r hr => (World.cell?_of_block (hb.block b hlt (hs b hu))).trans (hc j r hr)⟩
theorem RdN.below {U : Nat → Prop} {w w' : World} {v : Value} {l : List Int} (h : RdN U w v l) (hb : Below w.heap.size w w') : RdN U w' v l := h.but (S := fun _ => False) (.of_below hb) (fun _ _ h => h)

/-- A surface. -/
structure Srf where
  cl : Int
  num : Int
  x : Int
  y : Int
  w : Int
  h : Int
  px : List Int
  dx : Int
  dy : Int
  left : Int
/-- Is it within its bounds? Either no buffer, or one of 1 to 8 by 1 to 8. -/
structure SrfOk (s : Srf) : Prop where
  w0 : 0 ≤ s.w
  w8 : s.w ≤ 8
  h0 : 0 ≤ s.h
  h8 : s.h ≤ 8
  px : (s.px.length : Int) = s.w * s.h
  xb : -1000000000000000 ≤ s.x ∧ s.x ≤ 1000000000000000
  yb : -1000000000000000 ≤ s.y ∧ s.y ≤ 1000000000000000
/-- Does its buffer cover a pixel? -/
def covS (s : Srf) (c r : Int) : Bool := decide (0 ≤ c - s.x) && decide (0 ≤ r - s.y) && decide (c - s.x < s.w) && decide (r - s.y < s.h)
/-- Its pixel there; 0: none. -/
def pixS (s : Srf) (c r : Int) : Int := if covS s c r = true then s.px.getD ((r - s.y) * s.w + (c - s.x)).toNat 0 else 0

theorem mul8 {a b w h : Int} (h1 : 0 ≤ a) (h2 : a < h) (h3 : 0 ≤ b) (h4 : b < w) (h8 : h ≤ 8) (w8 : w ≤ 8) : 0 ≤ a * w + b ∧ a * w + b < w * h ∧ 0 ≤ a * w ∧ a * w ≤ 56 := by
  have hh : h = 1 ∨ h = 2 ∨ h = 3 ∨ h = 4 ∨ h = 5 ∨ h = 6 ∨ h = 7 ∨ h = 8 := by omega
  have ha : a = 0 ∨ a = 1 ∨ a = 2 ∨ a = 3 ∨ a = 4 ∨ a = 5 ∨ a = 6 ∨ a = 7 := by omega
  rcases hh with e | e | e | e | e | e | e | e <;> subst e <;> rcases ha with e | e | e | e | e | e | e | e <;> subst e <;> omega

end Go.Proofs.Ytfnockbgkcgpkaa
