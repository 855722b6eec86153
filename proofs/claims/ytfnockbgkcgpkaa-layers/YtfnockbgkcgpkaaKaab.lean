import Derived.Test.YtfnockbgkcgpkaaKaaa
import Derived.Test.YtfnockbgkcgpkaaProg
import Derived.WalkKit
import Derived.WalkSmall
import Derived.KernelRfl
set_option linter.all false
namespace Go.Proofs.Ytfnockbgkcgpkaa
open Go.RowKit Go.Proofs.Panes

theorem hide {p : Prop} (h : p) : Hid p := h
theorem unhide {p : Prop} (h : Hid p) : p := h

def rcell (r : Rc) : List Value := [.int .i64 r.x, .int .i64 r.y, .int .i64 r.w, .int .i64 r.h]
def rcells (l : List Rc) : List Value := l.flatMap rcell

theorem rcells_nil : rcells [] = [] := rfl
theorem rcells_cons (r : Rc) (l : List Rc) : rcells (r :: l) = rcell r ++ rcells l := rfl
theorem rcells_append (k l : List Rc) : rcells (k ++ l) = rcells k ++ rcells l := by simp [rcells]
theorem rcells_len (l : List Rc) : (rcells l).length = l.length * 4 := by
  induction l with
  | nil => rfl
  | cons r l ih => rw [rcells_cons, List.length_append, ih]; simp [rcell]; omega

theorem rcells_at : ∀ (l : List Rc) (j : Nat) (r : Rc), l[j]? = some r →
    (rcells l)[j * 4]? = some (.int .i64 r.x) ∧ (rcells l)[j * 4 + 1]? = some (.int .i64 r.y) ∧ (rcells l)[j * 4 + 2]? = some (.int .i64 r.w) ∧ (rcells l)[j * 4 + 3]? = some (.int .i64 r.h)
  | [], j, r, h => by simp at h
  | q :: l, 0, r, h => by
    simp at h; subst h; simp [rcells_cons, rcell]
  | q :: l, j + 1, r, h => by
    have h' : l[j]? = some r := by simpa using h
    have ih := rcells_at l j r h'
    rw [rcells_cons]
    have e : ∀ t, (rcell q ++ rcells l)[(j + 1) * 4 + t]? = (rcells l)[j * 4 + t]? := by
      intro t
      rw [List.getElem?_append_right (by simp [rcell]; omega)]
      congr 1
      simp [rcell]; omega
    refine ⟨by have := e 0; simp only [Nat.add_zero] at this; rw [this]; exact ih.1, by rw [e 1]; exact ih.2.1, by rw [e 2]; exact ih.2.2.1, by rw [e 3]; exact ih.2.2.2⟩

theorem rcells_one (l : List Rc) : ∀ u ∈ rcells l, u.oneCell' = true := by
  intro u hu
  simp only [rcells, List.mem_flatMap, rcell] at hu
  obtain ⟨r, _, h⟩ := hu
  simp at h
  rcases h with rfl | rfl | rfl | rfl <;> rfl

theorem get_of_append {A : List Rc} {q : Rc} : (A ++ [q])[A.length]? = some q := by simp

/-- A rectangle lies at an address. -/
def RAt (w : World) (b off : Nat) (r : Rc) : Prop :=
  w.cell? ⟨b, off, none⟩ = some (.int .i64 r.x) ∧ w.cell? ⟨b, off + 1, none⟩ = some (.int .i64 r.y) ∧ w.cell? ⟨b, off + 2, none⟩ = some (.int .i64 r.w) ∧ w.cell? ⟨b, off + 3, none⟩ = some (.int .i64 r.h)

/-- A slice that reads as a list of rectangles. -/
def Rd (w : World) (v : Value) (l : List Rc) : Prop :=
  ∃ ao cap, v = .slice ao l.length cap ∧ l.length ≤ cap ∧ cap ≤ maxLen ∧ (l ≠ [] → ∃ b off, ao = some ⟨b, off, none⟩ ∧ b < w.heap.size ∧ ∀ j r, l[j]? = some r → RAt w b (off + j * 4) r)

abbrev Own (w : World) (base : Nat) (v : Value) (l : List Rc) : Prop := w.ownsRow base 29 4 v l.length (rcells l)

theorem Own.rd {w : World} {base : Nat} {v : Value} {l : List Rc} (h : Own w base v l) : Rd w v l := by
  rcases h.2 with ⟨rfl, hn⟩ | ⟨g, cap, cur, rfl, hb, hg, hc, hm, hs, ht⟩
  · have : l = [] := List.length_eq_zero_iff.1 hn
    subst this
    exact ⟨none, 0, rfl, by simp, by simp [maxLen], fun h => absurd rfl h⟩
  · refine ⟨some ⟨g, 0, none⟩, cap, rfl, hc, hm, fun _ => ⟨g, 0, rfl, (Array.getElem?_eq_some_iff.1 hg).1, fun j r hr => ?_⟩⟩
    have hat := rcells_at l j r hr
    have e : ∀ t u, (rcells l)[t]? = some u → w.cell? ⟨g, t, none⟩ = some u := by
      intro t u hu
      have := h.cells (g := g) rfl t u hu
      have hadd : (⟨g, 0, none⟩ : Addr).add t = ⟨g, t, none⟩ := by unfold Addr.add; split <;> simp_all
      rwa [hadd] at this
    simp only [Nat.zero_add]
    exact ⟨e _ _ hat.1, e _ _ hat.2.1, e _ _ hat.2.2.1, e _ _ hat.2.2.2⟩

theorem RAt.below {B : Nat} {w w' : World} (hb : Below B w w') {b off : Nat} {r : Rc} (hlt : b < B) (h : RAt w b off r) : RAt w' b off r :=
  ⟨(hb.cell (p := ⟨b, _, none⟩) hlt).trans h.1, (hb.cell (p := ⟨b, _, none⟩) hlt).trans h.2.1, (hb.cell (p := ⟨b, _, none⟩) hlt).trans h.2.2.1, (hb.cell (p := ⟨b, _, none⟩) hlt).trans h.2.2.2⟩

theorem Rd.below {w w' : World} {v : Value} {l : List Rc} (h : Rd w v l) (hb : Below w.heap.size w w') : Rd w' v l := by
  obtain ⟨ao, cap, rfl, h1, h2, h3⟩ := h
  refine ⟨ao, cap, rfl, h1, h2, fun hne => ?_⟩
  obtain ⟨b, off, rfl, hlt, hc⟩ := h3 hne
  exact ⟨b, off, rfl, Nat.lt_of_lt_of_le hlt hb.size, fun j r hr => (hc j r hr).below hb hlt⟩

theorem grown_trans {a b c : World} {row : Option Nat} (h : a.grownBy b row) (k : b.grownBy c row) : a.grownBy c row :=
  ⟨k.os.trans h.os, k.tape.trans h.tape, k.output.trans h.output, Nat.le_trans h.size k.size, fun i hi hne => (k.block i (Nat.lt_of_lt_of_le hi h.size) hne).trans (h.block i hi hne)⟩
theorem grown_drewN (w : World) (n : Nat) (row : Option Nat) : w.grownBy (w.drewN n) row := ⟨rfl, rfl, rfl, Nat.le_refl _, fun _ _ _ => rfl⟩
theorem grown_of_below {w w' : World} (h : Below w.heap.size w w') (row : Option Nat) : w.grownBy w' row := ⟨h.os, h.tape, h.output, h.size, fun k hk _ => h.block k hk⟩
theorem below_of_grown {w w' : World} (h : w.grownBy w' none) : Below w.heap.size w w' := ⟨h.os, h.tape, h.output, h.size, fun k hk => h.block k hk (by simp)⟩
theorem Own.kept {w w' : World} {base : Nat} {v : Value} {l : List Rc} (h : Own w base v l) (hb : Below w.heap.size w w') : Own w' base v l := World.ownsRow.kept h (grown_of_below hb none) (by cases hv : v.ownBlock <;> simp)
theorem Own.mono {w : World} {base base' : Nat} {v : Value} {l : List Rc} (h : Own w base v l) (hb : base' ≤ base) : Own w base' v l :=
  ⟨h.1, h.2.imp id fun ⟨g, cap, cur, h1, h2, h3⟩ => ⟨g, cap, cur, h1, Nat.le_trans hb h2, h3⟩⟩
theorem Own.row_ge {w : World} {base : Nat} {v : Value} {l : List Rc} (h : Own w base v l) : ∀ k, v.ownBlock = some k → base ≤ k := fun k hk => (World.ownsRow.lt h k hk).1

theorem own_alloc {w : World} {base : Nat} {v : Value} {l : List Rc} (h : Own w base v l) (o : Obj) : Own (w.alloc o) base v l := World.ownsRow.alloc h o
theorem own_drew {w : World} {base : Nat} {v : Value} {l : List Rc} (h : Own w base v l) : Own w.drew base v l := h
theorem own_drewN {w : World} {base : Nat} {v : Value} {l : List Rc} (h : Own w base v l) (n : Nat) : Own (w.drewN n) base v l := h
theorem Own.drewN {w : World} {base : Nat} {v : Value} {l : List Rc} (h : Own w base v l) (n : Nat) : Own (w.drewN n) base v l := h
theorem Own.snoc {w : World} {base : Nat} {v : Value} {l : List Rc} {r : Rc} (h : w.ownsRow base 29 4 v (l.length + 1) (rcells l ++ rcell r)) : Own w base v (l ++ [r]) := by
  have e : rcells (l ++ [r]) = rcells l ++ rcell r := by rw [rcells_append, rcells_cons, rcells_nil, List.append_nil]
  unfold Own
  rw [e, List.length_append]
  exact h

theorem newcells {w : World} {g : Nat} {r : Rc} (h : w.heap[g]? = some (.cells #[.int .i64 r.x, .int .i64 r.y, .int .i64 r.w, .int .i64 r.h] 29)) :
    ∀ j u, (rcell r)[j]? = some u → w.cell? ((⟨g, 0, none⟩ : Addr).add j) = some u := by
  intro j u hj
  have hadd : (⟨g, 0, none⟩ : Addr).add j = ⟨g, j, none⟩ := by unfold Addr.add; split <;> simp_all
  rw [hadd, cell_of_row w g j _ _ _ h]
  simpa [rcell] using hj

theorem new_at (w : World) (o : Obj) (n : Nat) (h : n = w.heap.size) : (w.alloc o).heap[n]? = some o := by subst h; exact heap_alloc_new w o

theorem rcell_one (r : Rc) : ∀ u ∈ rcell r, u.oneCell' = true := by
  intro u hu
  simp [rcell] at hu
  rcases hu with rfl | rfl | rfl | rfl <;> rfl

theorem rcells_setW (A : List Rc) (r : Rc) (B : List Rc) (x : Int) : (rcells (A ++ r :: B)).set (A.length * 4 + 2) (.int .i64 x) = rcells (A ++ ⟨r.x, r.y, x, r.h⟩ :: B) := by
  rw [rcells_append, rcells_append, List.set_append_right _ _ (by rw [rcells_len]; omega), rcells_len, show A.length * 4 + 2 - A.length * 4 = 2 by omega]
  rfl
theorem rcells_setH (A : List Rc) (r : Rc) (B : List Rc) (x : Int) : (rcells (A ++ r :: B)).set (A.length * 4 + 3) (.int .i64 x) = rcells (A ++ ⟨r.x, r.y, r.w, x⟩ :: B) := by
  rw [rcells_append, rcells_append, List.set_append_right _ _ (by rw [rcells_len]; omega), rcells_len, show A.length * 4 + 3 - A.length * 4 = 3 by omega]
  rfl
theorem own_setW {w : World} {base g n cap : Nat} {A B : List Rc} {r : Rc} (x : Int) (h : Own w base (.slice (some ⟨g, 0, none⟩) n cap) (A ++ r :: B)) (hn : n = (A ++ r :: B).length) :
    Own (w.setCell ⟨g, A.length * 4 + 2, none⟩ (.int .i64 x)) base (.slice (some ⟨g, 0, none⟩) n cap) (A ++ ⟨r.x, r.y, x, r.h⟩ :: B) ∧ w.grownBy (w.setCell ⟨g, A.length * 4 + 2, none⟩ (.int .i64 x)) (some g) := by
  subst hn
  have := World.ownsRow.stored h (A.length * 4 + 2) (.int .i64 x)
  rw [rcells_setW] at this
  refine ⟨?_, this.2⟩
  have e : (A ++ (⟨r.x, r.y, x, r.h⟩ : Rc) :: B).length = (A ++ r :: B).length := by simp
  unfold Own
  rw [e]; exact this.1
theorem own_setH {w : World} {base g n cap : Nat} {A B : List Rc} {r : Rc} (x : Int) (h : Own w base (.slice (some ⟨g, 0, none⟩) n cap) (A ++ r :: B)) (hn : n = (A ++ r :: B).length) :
    Own (w.setCell ⟨g, A.length * 4 + 3, none⟩ (.int .i64 x)) base (.slice (some ⟨g, 0, none⟩) n cap) (A ++ ⟨r.x, r.y, r.w, x⟩ :: B) ∧ w.grownBy (w.setCell ⟨g, A.length * 4 + 3, none⟩ (.int .i64 x)) (some g) := by
  subst hn
  have := World.ownsRow.stored h (A.length * 4 + 3) (.int .i64 x)
  rw [rcells_setH] at this
  refine ⟨?_, this.2⟩
  have e : (A ++ (⟨r.x, r.y, r.w, x⟩ : Rc) :: B).length = (A ++ r :: B).length := by simp
  unfold Own
  rw [e]; exact this.1
/-- An owned row's cells, its block written out. -/
theorem own_at {w : World} {base g n cap : Nat} {l : List Rc} (h : Own w base (.slice (some ⟨g, 0, none⟩) n cap) l) {j : Nat} {r : Rc} (hr : l[j]? = some r) : RAt w g (j * 4) r := by
  obtain ⟨ao, c, e, _, _, h3⟩ := h.rd
  simp only [Value.slice.injEq] at e
  obtain ⟨rfl, rfl, rfl⟩ := e
  obtain ⟨b, off, e, _, hc⟩ := h3 (by intro e; subst e; simp at hr)
  simp only [Option.some.injEq, Addr.mk.injEq, and_true] at e
  obtain ⟨rfl, rfl⟩ := e
  have := hc j r hr
  rwa [Nat.zero_add] at this
theorem own_thaw {w : World} {base g n cap : Nat} {l : List Rc} (h : Own w base (.slice (some ⟨g, 0, none⟩) n cap) l) (hn : n = l.length) (j : Nat) : w.frozen? ⟨g, j, none⟩ = false := by
  subst hn; exact World.ownsRow.frozenAt h j
/-- An owned row that is not empty lies somewhere. -/
theorem own_some {w : World} {base : Nat} {v : Value} {l : List Rc} (h : Own w base v l) (hne : l ≠ []) : ∃ g cap, v = .slice (some ⟨g, 0, none⟩) l.length cap ∧ base ≤ g ∧ g < w.heap.size := by
  rcases h.2 with ⟨_, hn⟩ | ⟨g, cap, cur, rfl, hb, hg, _⟩
  · exact absurd (List.length_eq_zero_iff.1 hn) hne
  · exact ⟨g, cap, rfl, hb, (Array.getElem?_eq_some_iff.1 hg).1⟩
/-- .. whatever it is, it is a slice. -/
theorem own_slice {w : World} {base : Nat} {v : Value} {l : List Rc} (h : Own w base v l) : ∃ ao cap, v = .slice ao l.length cap ∧ l.length ≤ cap := by
  obtain ⟨ao, cap, e, hc, _⟩ := h.rd
  exact ⟨ao, cap, e, hc⟩

theorem own_nil {w : World} (base : Nat) : Own w base (.slice none 0 0) [] := World.ownsRow_nil _ _ _ _
/-- A row of two rectangles or more is no box of one. -/
theorem own_apart {w : World} {base box : Nat} {v : Value} {l : List Rc} {cur : Array Value} {e : TypeId} {fr : Nat × Nat} (h : Own w base v l) (hl : 2 ≤ l.length) (hb : w.heap[box]? = some (.cells cur e fr)) (hs : cur.size = 4) : v.ownBlock ≠ some box := by
  rcases h.2 with ⟨rfl, hn⟩ | ⟨g, cap, c, rfl, _, hg, hc, _, hz, _⟩
  · omega
  · intro e
    simp [Value.ownBlock] at e
    subst e
    rw [hg] at hb
    simp at hb
    rw [hb.1] at hz
    omega
theorem own_far {w : World} {base box : Nat} {v : Value} {l : List Rc} (h : Own w base v l) (hl : box < base) : v.ownBlock ≠ some box := fun e => by
  have := Own.row_ge h box e; omega
theorem grown_block {w w' : World} {row : Option Nat} (h : w.grownBy w' row) {k : Nat} {o : Obj} (hk : w.heap[k]? = some o) (hne : row ≠ some k) : w'.heap[k]? = some o :=
  (h.block k (Array.getElem?_eq_some_iff.1 hk).1 (fun e => hne e.symm)).trans hk
theorem box_at {w : World} {g : Nat} {r : Rc} (h : w.heap[g]? = some (.cells #[.int .i64 r.x, .int .i64 r.y, .int .i64 r.w, .int .i64 r.h] 29)) : RAt w g 0 r := by
  have e : ∀ j, w.cell? ⟨g, j, none⟩ = (#[Value.int .i64 r.x, .int .i64 r.y, .int .i64 r.w, .int .i64 r.h] : Array Value)[j]? := fun j => by rw [cell_of_row w g j _ _ _ h]
  exact ⟨(e 0).trans rfl, (e 1).trans rfl, (e 2).trans rfl, (e 3).trans rfl⟩
theorem lt_of_heap {w : World} {k : Nat} {o : Obj} (hk : w.heap[k]? = some o) : k < w.heap.size := (Array.getElem?_eq_some_iff.1 hk).1

theorem info_rect : (Try.prog.info? 29).map (fun i => (i.zero, i.size, i.bytes)) = some (some (.agg #[.int .i64 0, .int .i64 0, .int .i64 0, .int .i64 0]), 4, 32) := by kernel_rfl
theorem info_int : (Try.prog.info? 3).map (fun i => (i.zero, i.size, i.bytes)) = some (some (.int .i64 0), 1, 8) := by kernel_rfl

end Go.Proofs.Ytfnockbgkcgpkaa
