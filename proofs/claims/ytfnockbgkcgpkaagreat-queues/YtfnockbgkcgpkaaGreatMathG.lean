import Derived.Test.YtfnockbgkcgpkaaGreatMathD
set_option linter.all false
namespace Go.Proofs.Panes

/-- The rectangles of a band, of the columns that f takes, behind an open one or none. -/
def laidF (f : Int → Bool) (y h : Int) : Option Int → List Int → List Rc
  | _, [] => []
  | none, x :: t => if f x then laidF f y h (some x) t else laidF f y h none t
  | some g, x :: t => if f x then laidF f y h (some g) t else ⟨g, y, x - g, h⟩ :: laidF f y h none t

/-- The pixels of the columns between the edges that f takes. -/
def colF (f : Int → Bool) : List Int → Int → Prop
  | x :: x' :: t, px => (f x = true ∧ x ≤ px ∧ px < x') ∨ colF f (x' :: t) px
  | _, _ => False

theorem colF_ge {f : Int → Bool} : ∀ {x : Int} {t : List Int} {px : Int}, (x :: t).Pairwise (· < ·) → colF f (x :: t) px → x ≤ px
  | x, [], px, _, h => h.elim
  | x, x' :: t, px, hp, h => by
    rcases h with h | h
    · exact h.2.1
    · have := colF_ge (List.pairwise_cons.1 hp).2 h
      have := (List.pairwise_cons.1 hp).1 x' (by simp)
      omega

/-- What is taken ends: the last edge is none of f's. -/
def LastNo (f : Int → Bool) (xs : List Int) : Prop := ∀ x, xs.getLast? = some x → f x = false

theorem LastNo.tail {f : Int → Bool} {x : Int} {t : List Int} (h : LastNo f (x :: t)) : LastNo f t := fun y hy => h y (by
  cases t with
  | nil => simp at hy
  | cons a b => rw [List.getLast?_cons_cons]; exact hy)
theorem LastNo.more {f : Int → Bool} {x : Int} {t : List Int} (h : LastNo f (x :: t)) (hx : f x = true) : ∃ y u, t = y :: u := by
  cases t with
  | nil => exact absurd hx (by rw [h x rfl]; simp)
  | cons a b => exact ⟨a, b, rfl⟩

theorem laidF_x {f : Int → Bool} {y h : Int} : ∀ (o : Option Int) (xs : List Int), ∀ r ∈ laidF f y h o xs, r.x ∈ xs ∨ o = some r.x
  | o, [], r, hr => by cases o <;> simp [laidF] at hr
  | none, x :: t, r, hr => by
    unfold laidF at hr
    split at hr
    · rcases laidF_x (some x) t r hr with e | e
      · exact .inl (List.mem_cons_of_mem _ e)
      · injection e with e; exact .inl (by rw [e]; simp)
    · rcases laidF_x none t r hr with e | e
      · exact .inl (List.mem_cons_of_mem _ e)
      · cases e
  | some g, x :: t, r, hr => by
    unfold laidF at hr
    split at hr
    · rcases laidF_x (some g) t r hr with e | e
      · exact .inl (List.mem_cons_of_mem _ e)
      · exact .inr e
    · rcases List.mem_cons.1 hr with e | e
      · subst e; exact .inr rfl
      · rcases laidF_x none t r e with e | e
        · exact .inl (List.mem_cons_of_mem _ e)
        · cases e

theorem laidF_strip {f : Int → Bool} {y h : Int} : ∀ (o : Option Int) (xs : List Int), xs.Pairwise (· < ·) → (∀ x ∈ xs, -1000 ≤ x ∧ x ≤ 2000) → (∀ g, o = some g → -1000 ≤ g ∧ ∀ x ∈ xs, g < x) → Strip y h (laidF f y h o xs)
  | o, [], _, _, _ => by cases o <;> exact Strip.nil y h
  | none, x :: t, hp, hb, hg => by
    have hp' := List.pairwise_cons.1 hp
    unfold laidF
    split
    · exact laidF_strip (some x) t hp'.2 (fun z hz => hb z (List.mem_cons_of_mem _ hz)) (fun g e => by injection e with e; subst e; exact ⟨(hb x (by simp)).1, hp'.1⟩)
    · exact laidF_strip none t hp'.2 (fun z hz => hb z (List.mem_cons_of_mem _ hz)) (fun g e => by cases e)
  | some g, x :: t, hp, hb, hg => by
    have hp' := List.pairwise_cons.1 hp
    have hx := hb x (by simp)
    have hgx := hg g rfl
    have hgx' := hgx.2 x (by simp)
    unfold laidF
    split
    · exact laidF_strip (some g) t hp'.2 (fun z hz => hb z (List.mem_cons_of_mem _ hz)) (fun g' e => by injection e with e; subst e; exact ⟨hgx.1, fun z hz => hgx.2 z (List.mem_cons_of_mem _ hz)⟩)
    · have s := laidF_strip (f := f) (y := y) (h := h) none t hp'.2 (fun z hz => hb z (List.mem_cons_of_mem _ hz)) (fun g e => by cases e)
      refine ⟨fun r hr => ?_, List.pairwise_cons.2 ⟨fun q hq => ?_, s.2⟩⟩
      · rcases List.mem_cons.1 hr with e | e
        · subst e; exact ⟨by simp only; omega, rfl, rfl, hgx.1, by simp only; omega⟩
        · exact s.1 r e
      · rcases laidF_x none t q hq with e | e
        · have := hp'.1 q.x e
          show g + (x - g) < q.x
          omega
        · cases e

theorem laidF_col {f : Int → Bool} {y h : Int} (px : Int) : ∀ (o : Option Int) (xs : List Int), xs.Pairwise (· < ·) → LastNo f xs → (∀ g, o = some g → ∃ x t, xs = x :: t ∧ g < x) →
    (col (laidF f y h o xs) px ↔ (∃ g x t, o = some g ∧ xs = x :: t ∧ g ≤ px ∧ px < x) ∨ colF f xs px)
  | none, [], _, _, _ => by
    constructor
    · exact fun c => absurd c (col_nil px)
    · rintro (⟨g, x, t, e, _⟩ | c)
      · cases e
      · exact c.elim
  | some g, [], _, _, hg => by obtain ⟨x, t, e, _⟩ := hg g rfl; cases e
  | none, x :: t, hp, hl, _ => by
    have hp' := List.pairwise_cons.1 hp
    unfold laidF
    by_cases hf : f x = true
    · obtain ⟨z, u, rfl⟩ := hl.more hf
      rw [if_pos hf, laidF_col px (some x) (z :: u) hp'.2 hl.tail (fun g e => by injection e with e; subst e; exact ⟨z, u, rfl, hp'.1 z (by simp)⟩)]
      constructor
      · rintro (⟨g, x1, t1, e1, e2, e3, e4⟩ | c)
        · injection e1 with e1; injection e2 with e2 e2'; subst e1 e2
          exact .inr (.inl ⟨hf, e3, e4⟩)
        · exact .inr (.inr c)
      · rintro (⟨g, x1, t1, e1, _⟩ | c | c)
        · cases e1
        · exact .inl ⟨x, z, u, rfl, rfl, c.2.1, c.2.2⟩
        · exact .inr c
    · rw [if_neg hf, laidF_col px none t hp'.2 hl.tail (fun g e => by cases e)]
      constructor
      · rintro (⟨g, x1, t1, e1, _⟩ | c)
        · cases e1
        · refine .inr ?_
          cases t with
          | nil => exact c.elim
          | cons a b => exact .inr c
      · rintro (⟨g, x1, t1, e1, _⟩ | c)
        · cases e1
        · refine .inr ?_
          cases t with
          | nil => exact c.elim
          | cons a b => exact c.resolve_left (fun k => hf k.1)
  | some g, x :: t, hp, hl, hg => by
    have hp' := List.pairwise_cons.1 hp
    obtain ⟨x0, t0, e0, hgx⟩ := hg g rfl
    injection e0 with e0 e0'; subst e0 e0'
    unfold laidF
    by_cases hf : f x = true
    · obtain ⟨z, u, rfl⟩ := hl.more hf
      have hxz := hp'.1 z (by simp)
      rw [if_pos hf, laidF_col px (some g) (z :: u) hp'.2 hl.tail (fun g' e => by injection e with e; subst e; exact ⟨z, u, rfl, by omega⟩)]
      constructor
      · rintro (⟨g', x1, t1, e1, e2, e3, e4⟩ | c)
        · injection e1 with e1; injection e2 with e2 e2'; subst e1 e2
          by_cases h5 : px < x
          · exact .inl ⟨g, x, _, rfl, rfl, e3, h5⟩
          · exact .inr (.inl ⟨hf, by omega, e4⟩)
        · exact .inr (.inr c)
      · rintro (⟨g', x1, t1, e1, e2, e3, e4⟩ | c | c)
        · injection e1 with e1; injection e2 with e2 e2'; subst e1 e2
          exact .inl ⟨g, z, u, rfl, rfl, e3, by omega⟩
        · exact .inl ⟨g, z, u, rfl, rfl, by have := c.2.1; omega, c.2.2⟩
        · exact .inr c
    · rw [if_neg hf, col_cons, laidF_col px none t hp'.2 hl.tail (fun g e => by cases e)]
      constructor
      · rintro (c | ⟨g', x1, t1, e1, _⟩ | c)
        · refine .inl ⟨g, x, t, rfl, rfl, c.1, ?_⟩
          have := c.2; simp only at this; omega
        · cases e1
        · refine .inr ?_
          cases t with
          | nil => exact c.elim
          | cons a b => exact .inr c
      · rintro (⟨g', x1, t1, e1, e2, e3, e4⟩ | c)
        · injection e1 with e1; injection e2 with e2 e2'; subst e1 e2
          exact .inl ⟨e3, by simp only; omega⟩
        · refine .inr (.inr ?_)
          cases t with
          | nil => exact c.elim
          | cons a b => exact c.resolve_left (fun k => hf k.1)

theorem laidF_cols {f : Int → Bool} {y h : Int} (px : Int) {xs : List Int} (hp : xs.Pairwise (· < ·)) (hl : LastNo f xs) : col (laidF f y h none xs) px ↔ colF f xs px := by
  rw [laidF_col px none xs hp hl (fun g e => by cases e)]
  exact ⟨fun c => c.resolve_left (fun ⟨_, _, _, e, _⟩ => by cases e), .inr⟩

/-- f does not change where there is no edge. -/
structure Steps (f : Int → Bool) (xs : List Int) : Prop where
  const : ∀ p q, p ≤ q → (∀ e ∈ xs, ¬ (p < e ∧ e ≤ q)) → f p = f q
  before : ∀ p, (∀ e ∈ xs, p < e) → f p = false
  behind : ∀ p, (∀ e ∈ xs, e ≤ p) → f p = false

theorem colF_from {f : Int → Bool} {all : List Int} (s : Steps f all) (px : Int) : ∀ (x : Int) (t : List Int), (x :: t).Pairwise (· < ·) → (∀ e ∈ all, e ≤ x ∨ e ∈ t) → x ≤ px → (colF f (x :: t) px ↔ f px = true)
  | x, [], _, ha, hx => by
    have := s.behind px (fun e he => by rcases ha e he with c | c; exact Int.le_trans c hx; simp at c)
    rw [this]; exact ⟨fun c => c.elim, fun c => by cases c⟩
  | x, z :: u, hp, ha, hx => by
    have hp' := List.pairwise_cons.1 hp
    have hz := List.pairwise_cons.1 hp'.2
    by_cases h : px < z
    · have hc := s.const x px hx (fun e he => by
        rcases ha e he with c | c
        · omega
        · rcases List.mem_cons.1 c with c | c
          · subst c; omega
          · have := hz.1 e c; omega)
      rw [← hc]
      constructor
      · rintro (c | c)
        · exact c.1
        · have := colF_ge hp'.2 c; omega
      · exact fun c => .inl ⟨c, hx, h⟩
    · have ih := colF_from s px z u hp'.2 (fun e he => by
        rcases ha e he with c | c
        · exact .inl (by have := hp'.1 z (by simp); omega)
        · rcases List.mem_cons.1 c with c | c
          · subst c; exact .inl (Int.le_refl _)
          · exact .inr c) (by omega)
      rw [← ih]
      exact ⟨fun c => c.resolve_left (fun k => h k.2.2), .inr⟩

theorem colF_iff {f : Int → Bool} {xs : List Int} (s : Steps f xs) (up : xs.Pairwise (· < ·)) (px : Int) : colF f xs px ↔ f px = true := by
  cases xs with
  | nil => rw [s.before px (fun e he => by simp at he)]; exact ⟨fun c => c.elim, fun c => by cases c⟩
  | cons x t =>
    by_cases h : x ≤ px
    · exact colF_from s px x t up (fun e he => by rcases List.mem_cons.1 he with c | c; exact .inl (by omega); exact .inr c) h
    · rw [s.before px (fun e he => by
        rcases List.mem_cons.1 he with c | c
        · omega
        · have := (List.pairwise_cons.1 up).1 e c; omega)]
      exact ⟨fun c => absurd (colF_ge up c) h, fun c => by cases c⟩

theorem Steps.last {f : Int → Bool} {xs : List Int} (s : Steps f xs) (up : xs.Pairwise (· < ·)) : LastNo f xs := fun x hx => s.behind x (fun e he => by
  obtain ⟨ys, rfl⟩ := List.getLast?_eq_some_iff.1 hx
  rcases List.mem_append.1 he with c | c
  · exact Int.le_of_lt ((List.pairwise_append.1 up).2.2 e c x (by simp))
  · simp at c; omega)

theorem colF_congr {f g : Int → Bool} (px : Int) : ∀ (xs : List Int), (∀ x ∈ xs, f x = g x) → (colF f xs px ↔ colF g xs px)
  | [], _ => Iff.rfl
  | [x], _ => Iff.rfl
  | x :: z :: u, h => by
    unfold colF
    rw [h x (by simp), colF_congr px (z :: u) (fun e he => h e (List.mem_cons_of_mem _ he))]

theorem laidF_tall (f : Int → Bool) (y h d : Int) : ∀ (o : Option Int) (xs : List Int), (laidF f y h o xs).map (tall d) = laidF f y (h + d) o xs
  | none, [] => rfl
  | some _, [] => rfl
  | none, x :: t => by
    unfold laidF
    split
    · exact laidF_tall f y h d (some x) t
    · exact laidF_tall f y h d none t
  | some g, x :: t => by
    unfold laidF
    split
    · exact laidF_tall f y h d (some g) t
    · rw [List.map_cons, laidF_tall f y h d none t]; rfl

theorem laidF_congr {f g : Int → Bool} (y h : Int) : ∀ (o : Option Int) (xs : List Int), (∀ x ∈ xs, f x = g x) → laidF f y h o xs = laidF g y h o xs
  | none, [], _ => rfl
  | some _, [], _ => rfl
  | none, x :: t, e => by
    unfold laidF
    rw [e x (by simp), laidF_congr y h (some x) t (fun z hz => e z (List.mem_cons_of_mem _ hz)), laidF_congr y h none t (fun z hz => e z (List.mem_cons_of_mem _ hz))]
  | some g', x :: t, e => by
    unfold laidF
    rw [e x (by simp), laidF_congr y h (some g') t (fun z hz => e z (List.mem_cons_of_mem _ hz)), laidF_congr y h none t (fun z hz => e z (List.mem_cons_of_mem _ hz))]

theorem laidF_no (y h : Int) : ∀ (xs : List Int), laidF (fun _ => false) y h none xs = []
  | [] => rfl
  | x :: t => by unfold laidF; simp only [Bool.false_eq_true, if_false]; exact laidF_no y h t

/-- The columns of edges. -/
structure EdgeCols (xs : List Int) (l : List Rc) : Prop where
  up : xs.Pairwise (· < ·)
  mem : ∀ x, x ∈ xs ↔ ∃ r ∈ l, x = r.x ∨ x = r.x + r.w

theorem EdgeCols.bound {xs : List Int} {l : List Rc} (h : EdgeCols xs l) (hm : ∀ r ∈ l, May r) : ∀ x ∈ xs, -1000 ≤ x ∧ x ≤ 2000 := fun x hx => by
  obtain ⟨r, hr, e⟩ := (h.mem x).1 hx
  have := hm r hr
  unfold May at this; omega

theorem covL_const {l : List Rc} {xs : List Int} (hs : ∀ r ∈ l, r.x ∈ xs ∧ r.x + r.w ∈ xs) {p q py : Int} (hpq : p ≤ q) (hno : ∀ e ∈ xs, ¬ (p < e ∧ e ≤ q)) : covL l p py ↔ covL l q py := by
  unfold covL
  refine exists_congr fun r => and_congr_right fun hr => ?_
  have h1 := hno _ (hs r hr).1
  have h2 := hno _ (hs r hr).2
  unfold Rc.cov; omega
theorem covL_before {l : List Rc} {xs : List Int} (hs : ∀ r ∈ l, r.x ∈ xs ∧ r.x + r.w ∈ xs) {p py : Int} (hno : ∀ e ∈ xs, p < e) : ¬ covL l p py := by
  rintro ⟨r, hr, e⟩
  have := hno _ (hs r hr).1
  unfold Rc.cov at e; omega
theorem covL_behind {l : List Rc} {xs : List Int} (hs : ∀ r ∈ l, r.x ∈ xs ∧ r.x + r.w ∈ xs) {p py : Int} (hno : ∀ e ∈ xs, e ≤ p) : ¬ covL l p py := by
  rintro ⟨r, hr, e⟩
  have := hno _ (hs r hr).2
  unfold Rc.cov at e; omega
theorem covL_row {l : List Rc} {t u : Int} (hcl : ∀ r ∈ l, Clear r t u) {px py : Int} (h1 : t ≤ py) (h2 : py < u) : covL l px py ↔ covL l px t := by
  rw [strip_cov hcl px py h1 h2, strip_cov hcl px t (Int.le_refl _) (by omega)]
end Go.Proofs.Panes
