import Derived.Test.YtfnockbgkcgpkaaGreatWalksH
import Derived.Test.YtfnockbgkcgpkaaGreatShelf
import Derived.Sort.OwnSortedInts
set_option linter.all false
namespace Go.Proofs.YtfnockbgkcgpkaaGreat
open Go.RowKit Go.Proofs.Panes
set_option maxRecDepth 100000

/-- A row of numbers that somebody owns. -/
abbrev OwnI (w : World) (base : Nat) (v : Value) (l : List Int) : Prop := w.ownsRow base 3 1 v l.length (l.map (Value.int .i64))
theorem ownI_alloc {w : World} {base : Nat} {v : Value} {l : List Int} (h : OwnI w base v l) (o : Obj) : OwnI (w.alloc o) base v l := World.ownsRow.alloc h o
theorem ownI_kept {w w' : World} {base : Nat} {v : Value} {l : List Int} (h : OwnI w base v l) (hb : Below w.heap.size w w') : OwnI w' base v l := World.ownsRow.kept h (grown_of_below hb none) (by cases hv : v.ownBlock <;> simp)
theorem ownI_row {w : World} {base : Nat} {v : Value} {l : List Int} (h : OwnI w base v l) : ∀ k, v.ownBlock = some k → base ≤ k := fun k hk => (World.ownsRow.lt h k hk).1
theorem ownI_slice {w : World} {base : Nat} {v : Value} {l : List Int} (h : OwnI w base v l) : ∃ ao cap, v = .slice ao l.length cap ∧ l.length ≤ cap := by
  rcases h.2 with ⟨rfl, hn⟩ | ⟨g, cap, cur, rfl, _, _, hc, _⟩
  · exact ⟨none, 0, by rw [hn], by omega⟩
  · exact ⟨_, cap, rfl, hc⟩
theorem ownI_some {w : World} {base : Nat} {v : Value} {l : List Int} (h : OwnI w base v l) (hne : l ≠ []) : ∃ g cap, v = .slice (some ⟨g, 0, none⟩) l.length cap ∧ base ≤ g ∧ g < w.heap.size := by
  rcases h.2 with ⟨_, hn⟩ | ⟨g, cap, cur, rfl, hb, hg, _⟩
  · exact absurd (List.length_eq_zero_iff.1 hn) hne
  · exact ⟨g, cap, rfl, hb, (Array.getElem?_eq_some_iff.1 hg).1⟩
theorem ownI_at {w : World} {base g n cap : Nat} {l : List Int} (h : OwnI w base (.slice (some ⟨g, 0, none⟩) n cap) l) {j : Nat} {x : Int} (hx : l[j]? = some x) : w.cell? ⟨g, j, none⟩ = some (.int .i64 x) := by
  have := World.ownsRow.cells h (g := g) rfl j (.int .i64 x) (by simp [hx])
  have hadd : (⟨g, 0, none⟩ : Addr).add j = ⟨g, j, none⟩ := by unfold Addr.add; split <;> simp_all
  rwa [hadd] at this
theorem ownI_two {w : World} {base : Nat} {v : Value} {l : List Int} {x y : Int} (h : w.ownsRow base 3 1 v (l.length + 2) (l.map (Value.int .i64) ++ [.int .i64 x, .int .i64 y])) : OwnI w base v (l ++ [x, y]) := by
  unfold OwnI; rw [List.map_append, List.length_append]; exact h

def edgesOf (l : List Rc) : List Int := l.flatMap fun r => [r.y, r.y + r.h]
theorem edgesOf_append (k l : List Rc) : edgesOf (k ++ l) = edgesOf k ++ edgesOf l := by simp [edgesOf]
theorem edgesOf_snoc (k : List Rc) (r : Rc) : edgesOf (k ++ [r]) = edgesOf k ++ [r.y, r.y + r.h] := by simp [edgesOf]
theorem edgesOf_len (l : List Rc) : (edgesOf l).length = 2 * l.length := by
  induction l with
  | nil => rfl
  | cons r l ih => simp only [edgesOf, List.flatMap_cons, List.length_append] at *; rw [ih]; simp; omega
theorem mem_edgesOf (l : List Rc) (y : Int) : y ∈ edgesOf l ↔ ∃ r ∈ l, y = r.y ∨ y = r.y + r.h := by
  simp [edgesOf, List.mem_flatMap]

/-! What slices.Compact leaves of an ascending list. -/
theorem compactUpTo_mem (d : Array Int) : ∀ (m : Nat), m ≤ d.size → ∀ x, x ∈ Lib.compactUpTo d m ↔ ∃ j, j < m ∧ d[j]! = x
  | 0, _, x => by simp [Lib.compactUpTo]
  | m + 1, hm, x => by
    rw [Lib.compactUpTo_succ, List.mem_append, compactUpTo_mem d m (by omega) x]
    constructor
    · rintro (⟨j, hj, e⟩ | h)
      · exact ⟨j, by omega, e⟩
      · split at h
        · exact ⟨m, by omega, (List.mem_singleton.1 h).symm⟩
        · simp at h
    · rintro ⟨j, hj, e⟩
      by_cases hjm : j < m
      · exact .inl ⟨j, hjm, e⟩
      · have : j = m := by omega
        subst this
        by_cases hk : Lib.keeps d j = true
        · right; rw [if_pos hk]; simp [e]
        · left
          have hj0 : j ≠ 0 := by intro e0; subst e0; exact hk (Lib.keeps_lt_one d 0 (by omega))
          have : d[j]! = d[j - 1]! := by
            simp [Lib.keeps, hj0] at hk; exact hk
          exact ⟨j - 1, by omega, by rw [← this]; exact e⟩
theorem compactUpTo_sorted (d : Array Int) (hs : ∀ i j, i < j → j < d.size → d[i]! ≤ d[j]!) : ∀ (m : Nat), m ≤ d.size → (Lib.compactUpTo d m).Pairwise (· < ·)
  | 0, _ => by simp [Lib.compactUpTo]
  | m + 1, hm => by
    rw [Lib.compactUpTo_succ]
    split
    · rename_i hk
      refine List.pairwise_append.2 ⟨compactUpTo_sorted d hs m (by omega), List.pairwise_singleton _ _, fun a ha b hb => ?_⟩
      rw [List.mem_singleton.1 hb]
      obtain ⟨j, hj, e⟩ := (compactUpTo_mem d m (by omega) a).1 ha
      subst e
      have h1 := hs j m hj (by omega)
      have hm0 : m ≠ 0 := by omega
      simp [Lib.keeps, hm0] at hk
      by_cases hjm : j = m - 1
      · rw [hjm] at h1 ⊢; omega
      · have h2 := hs j (m - 1) (by omega) (by omega)
        have h3 := hs (m - 1) m (by omega) (by omega)
        omega
    · rw [List.append_nil]; exact compactUpTo_sorted d hs m (by omega)
theorem compact_of (zs : List Int) : (Lib.compact (zs.mergeSort fun x y => decide (x ≤ y))).Pairwise (· < ·) ∧ ∀ x, x ∈ Lib.compact (zs.mergeSort fun x y => decide (x ≤ y)) ↔ x ∈ zs := by
  generalize hq : zs.mergeSort (fun x y => decide (x ≤ y)) = q
  have hsort : q.Pairwise (fun a b => decide (a ≤ b) = true) := by
    rw [← hq]; exact List.pairwise_mergeSort (fun a b c h1 h2 => by simp at *; omega) (fun a b => by simp; omega) zs
  have hmem : ∀ x, x ∈ q ↔ x ∈ zs := fun x => by rw [← hq]; exact (List.mergeSort_perm zs _).mem_iff
  have hget : ∀ j, j < q.length → q.toArray[j]! = q[j]! := fun j hj => by simp [hj]
  constructor
  · refine compactUpTo_sorted q.toArray (fun i j hij hj => ?_) q.length (by simp)
    have hj' : j < q.length := by simpa using hj
    have := (List.pairwise_iff_getElem.1 hsort) i j (by omega) hj' hij
    simp only [decide_eq_true_eq] at this
    simpa [hj', show i < q.length by omega] using this
  · intro x
    unfold Lib.compact
    rw [compactUpTo_mem q.toArray q.length (by simp) x, ← hmem x, List.mem_iff_getElem]
    constructor
    · rintro ⟨j, hj, e⟩
      exact ⟨j, hj, by simpa [hj] using e⟩
    · rintro ⟨j, hj, e⟩
      exact ⟨j, hj, by simpa [hj] using e⟩
end Go.Proofs.YtfnockbgkcgpkaaGreat
