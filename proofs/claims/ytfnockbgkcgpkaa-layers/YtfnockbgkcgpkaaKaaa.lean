import Derived.WalkKit
set_option linter.all false
namespace Go.Proofs.Panes

/-- A rectangle. -/
structure Rc where
  x : Int
  y : Int
  w : Int
  h : Int

def Rc.cov (r : Rc) (px py : Int) : Prop := r.x ≤ px ∧ px < r.x + r.w ∧ r.y ≤ py ∧ py < r.y + r.h
def covL (l : List Rc) (px py : Int) : Prop := ∃ r ∈ l, r.cov px py
def Rc.has (r : Rc) (px : Int) : Prop := r.x ≤ px ∧ px < r.x + r.w
def col (l : List Rc) (px : Int) : Prop := ∃ r ∈ l, r.has px
def Gap (p q : Rc) : Prop := p.x + p.w < q.x
def Runs (l : List Rc) : Prop := (∀ r ∈ l, 0 < r.w) ∧ l.Pairwise Gap

theorem col_nil (px : Int) : ¬ col [] px := fun ⟨_, h, _⟩ => by simp at h
theorem col_cons (r : Rc) (l : List Rc) (px : Int) : col (r :: l) px ↔ r.has px ∨ col l px := by
  unfold col; simp
theorem col_append (k l : List Rc) (px : Int) : col (k ++ l) px ↔ col k px ∨ col l px := by
  unfold col; simp only [List.mem_append]
  exact ⟨fun ⟨r, h, g⟩ => h.elim (fun h => .inl ⟨r, h, g⟩) (fun h => .inr ⟨r, h, g⟩), fun h => h.elim (fun ⟨r, h, g⟩ => ⟨r, .inl h, g⟩) (fun ⟨r, h, g⟩ => ⟨r, .inr h, g⟩)⟩
theorem covL_append (k l : List Rc) (px py : Int) : covL (k ++ l) px py ↔ covL k px py ∨ covL l px py := by
  unfold covL; simp only [List.mem_append]
  exact ⟨fun ⟨r, h, g⟩ => h.elim (fun h => .inl ⟨r, h, g⟩) (fun h => .inr ⟨r, h, g⟩), fun h => h.elim (fun ⟨r, h, g⟩ => ⟨r, .inl h, g⟩) (fun ⟨r, h, g⟩ => ⟨r, .inr h, g⟩)⟩
theorem covL_nil (px py : Int) : ¬ covL [] px py := fun ⟨_, h, _⟩ => by simp at h
theorem covL_cons (r : Rc) (l : List Rc) (px py : Int) : covL (r :: l) px py ↔ r.cov px py ∨ covL l px py := by
  unfold covL; simp

theorem Runs.tail {r : Rc} {l : List Rc} (h : Runs (r :: l)) : Runs l :=
  ⟨fun q hq => h.1 q (List.mem_cons_of_mem _ hq), (List.pairwise_cons.1 h.2).2⟩
theorem Runs.past {r : Rc} {l : List Rc} (h : Runs (r :: l)) {px : Int} (hc : col l px) : r.x + r.w < px := by
  obtain ⟨q, hq, hx⟩ := hc
  have := (List.pairwise_cons.1 h.2).1 q hq
  unfold Gap at this; unfold Rc.has at hx; omega

/-- Columns tell their runs. -/
theorem runs_unique : ∀ (k l : List Rc), Runs k → Runs l → (∀ px, col k px ↔ col l px) → k.map (fun r => (r.x, r.w)) = l.map (fun r => (r.x, r.w))
  | [], [], _, _, _ => rfl
  | [], q :: l, _, hl, h => by
    have h1 := hl.1 q (by simp)
    exact absurd ((h q.x).2 ⟨q, by simp, by unfold Rc.has; omega⟩) (col_nil _)
  | p :: k, [], hk, _, h => by
    have h1 := hk.1 p (by simp)
    exact absurd ((h p.x).1 ⟨p, by simp, by unfold Rc.has; omega⟩) (col_nil _)
  | p :: k, q :: l, hk, hl, h => by
    have hp := hk.1 p (by simp)
    have hq := hl.1 q (by simp)
    have hx : p.x = q.x := by
      rcases Int.lt_trichotomy p.x q.x with c | c | c
      · have := (col_cons q l p.x).1 ((h p.x).1 ((col_cons p k p.x).2 (.inl ⟨by omega, by omega⟩)))
        rcases this with g | g
        · unfold Rc.has at g; omega
        · have := hl.past g; omega
      · exact c
      · have := (col_cons p k q.x).1 ((h q.x).2 ((col_cons q l q.x).2 (.inl ⟨by omega, by omega⟩)))
        rcases this with g | g
        · unfold Rc.has at g; omega
        · have := hk.past g; omega
    have hw : p.w = q.w := by
      rcases Int.lt_trichotomy p.w q.w with c | c | c
      · have := (col_cons p k (p.x + p.w)).1 ((h _).2 ((col_cons q l _).2 (.inl ⟨by omega, by omega⟩)))
        rcases this with g | g
        · unfold Rc.has at g; omega
        · have := hk.past g; omega
      · exact c
      · have := (col_cons q l (q.x + q.w)).1 ((h _).1 ((col_cons p k _).2 (.inl ⟨by omega, by omega⟩)))
        rcases this with g | g
        · unfold Rc.has at g; omega
        · have := hl.past g; omega
    have ht : ∀ px, col k px ↔ col l px := by
      intro px
      constructor
      · intro g
        have hpast := hk.past g
        rcases (col_cons q l px).1 ((h px).1 ((col_cons p k px).2 (.inr g))) with e | e
        · unfold Rc.has at e; omega
        · exact e
      · intro g
        have hpast := hl.past g
        rcases (col_cons p k px).1 ((h px).2 ((col_cons q l px).2 (.inr g))) with e | e
        · unfold Rc.has at e; omega
        · exact e
    have := runs_unique k l hk.tail hl.tail ht
    simp only [List.map_cons, hx, hw, this]

/-- How two rectangles of a right list stand, one behind the other. -/
def PW (p q : Rc) : Prop := (p.y = q.y ∧ p.h = q.h ∧ p.x + p.w < q.x) ∨ p.y + p.h ≤ q.y

structure Right (l : List Rc) : Prop where
  pos : ∀ r ∈ l, 0 < r.w ∧ 0 < r.h
  pw : l.Pairwise PW
  top : ∀ r ∈ l, ¬ ∀ px, covL l px r.y ↔ covL l px (r.y - 1)

theorem pw_two {l : List Rc} (h : l.Pairwise PW) {p q : Rc} (hp : p ∈ l) (hq : q ∈ l) : p = q ∨ PW p q ∨ PW q p := by
  induction l with
  | nil => simp at hp
  | cons a l ih =>
    have ⟨h1, h2⟩ := List.pairwise_cons.1 h
    rcases List.mem_cons.1 hp with rfl | hp' <;> rcases List.mem_cons.1 hq with rfl | hq'
    · exact .inl rfl
    · exact .inr (.inl (h1 q hq'))
    · exact .inr (.inr (h1 p hp'))
    · exact ih h2 hp' hq'

/-- Two rectangles of a right list that have a row in common are of one band. -/
theorem Right.band {l : List Rc} (h : Right l) {p q : Rc} (hp : p ∈ l) (hq : q ∈ l) {y : Int} (h1 : p.y ≤ y ∧ y < p.y + p.h) (h2 : q.y ≤ y ∧ y < q.y + q.h) : p.y = q.y ∧ p.h = q.h := by
  rcases pw_two h.pw hp hq with rfl | g | g
  · exact ⟨rfl, rfl⟩
  · rcases g with g | g
    · exact ⟨g.1, g.2.1⟩
    · omega
  · rcases g with g | g
    · exact ⟨g.1.symm, g.2.1.symm⟩
    · omega

theorem Right.row {l : List Rc} (h : Right l) {s : Rc} (hs : s ∈ l) {y z : Int} (hy : s.y ≤ y ∧ y < s.y + s.h) (hz : s.y ≤ z ∧ z < s.y + s.h) (px : Int) : covL l px y → covL l px z := by
  rintro ⟨t, ht, hc⟩
  unfold Rc.cov at hc
  have := h.band hs ht hy ⟨hc.2.2.1, hc.2.2.2⟩
  exact ⟨t, ht, by unfold Rc.cov; omega⟩

theorem Right.mem_of {k l : List Rc} (hk : Right k) (hl : Right l) (h : ∀ px py, covL k px py ↔ covL l px py) {r : Rc} (hr : r ∈ k) : r ∈ l := by
  have hp := hk.pos r hr
  obtain ⟨s, hs, hc⟩ := (h r.x r.y).1 ⟨r, hr, by unfold Rc.cov; omega⟩
  unfold Rc.cov at hc
  have hsp := hl.pos s hs
  have hy : s.y = r.y := by
    rcases Int.lt_trichotomy s.y r.y with c | c | c
    · refine absurd (fun px => ?_) (hk.top r hr)
      rw [h, h]
      exact ⟨hl.row hs (by omega) (by omega) px, hl.row hs (by omega) (by omega) px⟩
    · exact c
    · omega
  have hh : s.h = r.h := by
    rcases Int.lt_trichotomy s.h r.h with c | c | c
    · -- the row behind s is r's too, so it begins a band of l, which it can't
      obtain ⟨t, ht, hct⟩ := (h r.x (s.y + s.h)).1 ⟨r, hr, by unfold Rc.cov; omega⟩
      unfold Rc.cov at hct
      have hty : t.y = s.y + s.h := by
        rcases pw_two hl.pw hs ht with rfl | g | g
        · omega
        · rcases g with g | g <;> omega
        · rcases g with g | g <;> omega
      refine absurd (fun px => ?_) (hl.top t ht)
      rw [← h, ← h]
      exact ⟨hk.row hr (by omega) (by omega) px, hk.row hr (by omega) (by omega) px⟩
    · exact c
    · obtain ⟨t, ht, hct⟩ := (h s.x (r.y + r.h)).2 ⟨s, hs, by unfold Rc.cov; omega⟩
      unfold Rc.cov at hct
      have hty : t.y = r.y + r.h := by
        rcases pw_two hk.pw hr ht with rfl | g | g
        · omega
        · rcases g with g | g <;> omega
        · rcases g with g | g <;> omega
      refine absurd (fun px => ?_) (hk.top t ht)
      rw [h, h]
      exact ⟨hl.row hs (by omega) (by omega) px, hl.row hs (by omega) (by omega) px⟩
  have hx : s.x = r.x := by
    rcases Int.lt_trichotomy s.x r.x with c | c | c
    · obtain ⟨t, ht, hct⟩ := (h (r.x - 1) r.y).2 ⟨s, hs, by unfold Rc.cov; omega⟩
      unfold Rc.cov at hct
      rcases pw_two hk.pw hr ht with rfl | g | g
      · omega
      · rcases g with g | g <;> omega
      · rcases g with g | g <;> omega
    · exact c
    · omega
  have hw : s.w = r.w := by
    rcases Int.lt_trichotomy s.w r.w with c | c | c
    · obtain ⟨t, ht, hct⟩ := (h (s.x + s.w) r.y).1 ⟨r, hr, by unfold Rc.cov; omega⟩
      unfold Rc.cov at hct
      rcases pw_two hl.pw hs ht with rfl | g | g
      · omega
      · rcases g with g | g <;> omega
      · rcases g with g | g <;> omega
    · exact c
    · obtain ⟨t, ht, hct⟩ := (h (r.x + r.w) r.y).2 ⟨s, hs, by unfold Rc.cov; omega⟩
      unfold Rc.cov at hct
      rcases pw_two hk.pw hr ht with rfl | g | g
      · omega
      · rcases g with g | g <;> omega
      · rcases g with g | g <;> omega
  have : r = s := by
    cases r; cases s; simp_all
  rw [this]; exact hs

theorem pw_irrefl {l : List Rc} (hp : ∀ r ∈ l, 0 < r.w ∧ 0 < r.h) {r s : Rc} (hr : r ∈ l) (hs : s ∈ l) : PW r s → ¬ PW s r := by
  have := hp r hr; have := hp s hs
  unfold PW; omega

theorem eq_of_members : ∀ (k l : List Rc), (∀ r ∈ k, 0 < r.w ∧ 0 < r.h) → k.Pairwise PW → l.Pairwise PW → (∀ r, r ∈ k ↔ r ∈ l) → k = l
  | [], [], _, _, _, _ => rfl
  | [], q :: l, _, _, _, h => absurd ((h q).2 (by simp)) (by simp)
  | p :: k, [], _, _, _, h => absurd ((h p).1 (by simp)) (by simp)
  | p :: k, q :: l, hp, hk, hl, h => by
    have ⟨k1, k2⟩ := List.pairwise_cons.1 hk
    have ⟨l1, l2⟩ := List.pairwise_cons.1 hl
    have hpq : p = q := by
      rcases List.mem_cons.1 ((h p).1 (by simp)) with e | e
      · exact e
      · rcases List.mem_cons.1 ((h q).2 (by simp)) with e' | e'
        · exact e'.symm
        · exact absurd (l1 p e) (pw_irrefl hp (by simp) (List.mem_cons_of_mem _ e') (k1 q e'))
    subst hpq
    have hn1 : p ∉ k := fun e => pw_irrefl hp (by simp) (by simp) (k1 p e) (k1 p e)
    have hn2 : p ∉ l := fun e => pw_irrefl hp (by simp) (by simp) (l1 p e) (l1 p e)
    have : k = l := eq_of_members k l (fun r hr => hp r (List.mem_cons_of_mem _ hr)) k2 l2 (fun r => by
      constructor
      · intro e
        rcases List.mem_cons.1 ((h r).1 (List.mem_cons_of_mem _ e)) with g | g
        · subst g; exact absurd e hn1
        · exact g
      · intro e
        rcases List.mem_cons.1 ((h r).2 (List.mem_cons_of_mem _ e)) with g | g
        · subst g; exact absurd e hn2
        · exact g)
    rw [this]

/-- THE ONE RIGHT LIST: what is covered tells it. -/
theorem right_unique {k l : List Rc} (hk : Right k) (hl : Right l) (h : ∀ px py, covL k px py ↔ covL l px py) : k = l :=
  eq_of_members k l hk.pos hk.pw hl.pw fun _ => ⟨fun hr => hk.mem_of hl h hr, fun hr => hl.mem_of hk (fun px py => (h px py).symm) hr⟩

end Go.Proofs.Panes
