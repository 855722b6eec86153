import Derived.Test.YtfnockbgkcgpkaaGreatMathC
set_option linter.all false
namespace Go.Proofs.Panes

/-- A rectangle that may be. -/
def May (r : Rc) : Prop := (-1000 ≤ r.x ∧ r.x ≤ 1000) ∧ (-1000 ≤ r.y ∧ r.y ≤ 1000) ∧ (0 ≤ r.w ∧ r.w ≤ 1000) ∧ (0 ≤ r.h ∧ r.h ≤ 1000)
/-- No edge of it lies within the strip. -/
def Clear (r : Rc) (top bot : Int) : Prop := (r.y ≤ top ∨ bot ≤ r.y) ∧ (r.y + r.h ≤ top ∨ bot ≤ r.y + r.h)

/-- The rows of edges, strictly from above. -/
structure EdgeRows (rows : List Int) (l : List Rc) : Prop where
  up : rows.Pairwise (· < ·)
  mem : ∀ y, y ∈ rows ↔ ∃ r ∈ l, y = r.y ∨ y = r.y + r.h

theorem rows_beside {rows : List Int} (up : rows.Pairwise (· < ·)) {k : Nat} {t u y : Int} (ht : rows[k]? = some t) (hu : rows[k + 1]? = some u) (hy : y ∈ rows) : y ≤ t ∨ u ≤ y := by
  obtain ⟨j, hj, e⟩ := List.mem_iff_getElem.1 hy
  have h := List.pairwise_iff_getElem.1 up
  obtain ⟨hk, e1⟩ := List.getElem?_eq_some_iff.1 ht
  obtain ⟨hk', e2⟩ := List.getElem?_eq_some_iff.1 hu
  subst e e1 e2
  rcases Nat.lt_trichotomy j k with c | c | c
  · exact .inl (Int.le_of_lt (h j k hj hk c))
  · subst c; exact .inl (Int.le_refl _)
  · by_cases c' : j = k + 1
    · subst c'; exact .inr (Int.le_refl _)
    · exact .inr (Int.le_of_lt (h (k + 1) j hk' hj (by omega)))
theorem rows_lt {rows : List Int} (up : rows.Pairwise (· < ·)) {k : Nat} {t u : Int} (ht : rows[k]? = some t) (hu : rows[k + 1]? = some u) : t < u := by
  obtain ⟨hk, e1⟩ := List.getElem?_eq_some_iff.1 ht
  obtain ⟨hk', e2⟩ := List.getElem?_eq_some_iff.1 hu
  subst e1 e2
  exact List.pairwise_iff_getElem.1 up k (k + 1) hk hk' (by omega)
theorem rows_first {rows : List Int} (up : rows.Pairwise (· < ·)) {t y : Int} (ht : rows[0]? = some t) (hy : y ∈ rows) : t ≤ y := by
  obtain ⟨j, hj, e⟩ := List.mem_iff_getElem.1 hy
  obtain ⟨hk, e1⟩ := List.getElem?_eq_some_iff.1 ht
  subst e e1
  by_cases c : j = 0
  · subst c; exact Int.le_refl _
  · exact Int.le_of_lt (List.pairwise_iff_getElem.1 up 0 j hk hj (by omega))
theorem rows_last {rows : List Int} (up : rows.Pairwise (· < ·)) {k : Nat} {t y : Int} (ht : rows[k]? = some t) (hl : rows.length ≤ k + 1) (hy : y ∈ rows) : y ≤ t := by
  obtain ⟨j, hj, e⟩ := List.mem_iff_getElem.1 hy
  obtain ⟨hk, e1⟩ := List.getElem?_eq_some_iff.1 ht
  subst e e1
  by_cases c : j = k
  · subst c; exact Int.le_refl _
  · exact Int.le_of_lt (List.pairwise_iff_getElem.1 up j k hj hk (by omega))

theorem EdgeRows.clear {rows : List Int} {l : List Rc} (h : EdgeRows rows l) {k : Nat} {t u : Int} (ht : rows[k]? = some t) (hu : rows[k + 1]? = some u) {r : Rc} (hr : r ∈ l) : Clear r t u :=
  ⟨rows_beside h.up ht hu ((h.mem r.y).2 ⟨r, hr, .inl rfl⟩), rows_beside h.up ht hu ((h.mem (r.y + r.h)).2 ⟨r, hr, .inr rfl⟩)⟩
theorem EdgeRows.bound {rows : List Int} {l : List Rc} (h : EdgeRows rows l) (hm : ∀ r ∈ l, May r) {k : Nat} {t : Int} (ht : rows[k]? = some t) : -1000 ≤ t ∧ t ≤ 2000 := by
  obtain ⟨r, hr, e⟩ := (h.mem t).1 (List.mem_of_getElem? ht)
  have := hm r hr
  unfold May at this; omega

theorem strip_cov {l : List Rc} {t u : Int} (hcl : ∀ r ∈ l, Clear r t u) (px py : Int) (h1 : t ≤ py) (h2 : py < u) : covL l px py ↔ ∃ r ∈ l, r.y ≤ t ∧ u ≤ r.y + r.h ∧ r.has px := by
  unfold covL
  constructor
  · rintro ⟨r, hr, e⟩
    have := hcl r hr
    unfold Clear at this; unfold Rc.cov at e
    exact ⟨r, hr, by omega, by omega, by unfold Rc.has; omega⟩
  · rintro ⟨r, hr, e1, e2, e3⟩
    unfold Rc.has at e3
    exact ⟨r, hr, by unfold Rc.cov; omega⟩

theorem EdgeRows.before {rows : List Int} {l : List Rc} (h : EdgeRows rows l) {t : Int} (ht : rows[0]? = some t) (px py : Int) (hp : py < t) : ¬ covL l px py := by
  rintro ⟨r, hr, e⟩
  have := rows_first h.up ht ((h.mem r.y).2 ⟨r, hr, .inl rfl⟩)
  unfold Rc.cov at e; omega
theorem EdgeRows.behind {rows : List Int} {l : List Rc} (h : EdgeRows rows l) {k : Nat} {t : Int} (ht : rows[k]? = some t) (hl : rows.length ≤ k + 1) (px py : Int) (hc : covL l px py) : py < t := by
  obtain ⟨r, hr, e⟩ := hc
  have := rows_last h.up ht hl ((h.mem (r.y + r.h)).2 ⟨r, hr, .inr rfl⟩)
  unfold Rc.cov at e; omega
theorem EdgeRows.none {rows : List Int} {l : List Rc} (h : EdgeRows rows l) (he : rows = []) (px py : Int) : ¬ covL l px py := by
  rintro ⟨r, hr, e⟩
  have := (h.mem r.y).2 ⟨r, hr, .inl rfl⟩
  rw [he] at this; simp at this

end Go.Proofs.Panes
