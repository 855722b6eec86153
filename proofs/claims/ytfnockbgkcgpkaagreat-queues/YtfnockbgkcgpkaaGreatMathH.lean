import Derived.Test.YtfnockbgkcgpkaaGreatMathG
import Derived.Test.YtfnockbgkcgpkaaGreatMathF
set_option linter.all false
namespace Go.Proofs.Panes

def covA (l : List Rc) (px py : Int) : Bool := l.any fun r => covB r px py
theorem covA_iff (l : List Rc) (px py : Int) : covA l px py = true ↔ covL l px py := by
  unfold covA covL
  rw [List.any_eq_true]
  exact exists_congr fun r => and_congr_right fun _ => covB_iff r px py
theorem covA_nil (px py : Int) : covA [] px py = false := rfl
theorem covA_eq {l : List Rc} {p q s t : Int} (h : covL l p q ↔ covL l s t) : covA l p q = covA l s t := by
  rw [Bool.eq_iff_iff, covA_iff, covA_iff]; exact h
theorem covA_no {l : List Rc} {p q : Int} (h : ¬ covL l p q) : covA l p q = false := by
  cases e : covA l p q
  · rfl
  · exact absurd ((covA_iff l p q).1 e) h

theorem colF_at {f : Int → Bool} : ∀ {xs : List Int} {x : Int}, xs.Pairwise (· < ·) → LastNo f xs → x ∈ xs → (colF f xs x ↔ f x = true)
  | [a], x, _, hl, hx => by
    have e : x = a := by simpa using hx
    subst e
    rw [hl x rfl]; exact ⟨fun c => c.elim, fun c => by cases c⟩
  | a :: z :: u, x, hp, hl, hx => by
    have hp' := List.pairwise_cons.1 hp
    rcases List.mem_cons.1 hx with e | e
    · subst e
      constructor
      · rintro (c | c)
        · exact c.1
        · have := colF_ge hp'.2 c
          have := hp'.1 z (by simp); omega
      · exact fun c => .inl ⟨c, Int.le_refl _, hp'.1 z (by simp)⟩
    · rw [← colF_at hp'.2 hl.tail e]
      refine ⟨fun c => c.resolve_left fun k => ?_, .inr⟩
      rcases List.mem_cons.1 e with e | e
      · omega
      · have := (List.pairwise_cons.1 hp'.2).1 x e; omega

theorem laidF_len (f : Int → Bool) (y h : Int) : ∀ (o : Option Int) (xs : List Int), (laidF f y h o xs).length ≤ xs.length
  | none, [] => Nat.le_refl _
  | some _, [] => Nat.le_refl _
  | none, x :: t => by
    unfold laidF
    split
    · exact Nat.le_succ_of_le (laidF_len f y h (some x) t)
    · exact Nat.le_succ_of_le (laidF_len f y h none t)
  | some g, x :: t => by
    unfold laidF
    split
    · exact Nat.le_succ_of_le (laidF_len f y h (some g) t)
    · exact Nat.succ_le_succ (laidF_len f y h none t)

/-- All edges, of what MB takes. -/
structure Grid (MB : Int → Int → Bool) (xs ys : List Int) : Prop where
  upx : xs.Pairwise (· < ·)
  upy : ys.Pairwise (· < ·)
  bx : ∀ x ∈ xs, -1000 ≤ x ∧ x ≤ 2000
  byy : ∀ y ∈ ys, -1000 ≤ y ∧ y ≤ 2000
  steps : ∀ t, Steps (fun x => MB x t) xs
  rows : ∀ (k : Nat) t u, ys[k]? = some t → ys[k + 1]? = some u → ∀ px py, t ≤ py → py < u → MB px py = MB px t
  before : ∀ t, ys[0]? = some t → ∀ px py, py < t → MB px py = false
  behind : ∀ (k : Nat) t, ys[k]? = some t → ys.length ≤ k + 1 → ∀ px py, t ≤ py → MB px py = false
  empty : ys = [] → ∀ px py, MB px py = false

def Grid.M (MB : Int → Int → Bool) (px py : Int) : Prop := MB px py = true

theorem Grid.strip {MB : Int → Int → Bool} {xs ys : List Int} (g : Grid MB xs ys) {k : Nat} {t u : Int} (ht : ys[k]? = some t) (hu : ys[k + 1]? = some u) (h : Int) (px py : Int) (h1 : t ≤ py) (h2 : py < u) :
    Grid.M MB px py ↔ col (laidF (fun x => MB x t) t h none xs) px := by
  rw [laidF_cols px g.upx ((g.steps t).last g.upx), colF_iff (g.steps t) g.upx]
  unfold Grid.M
  rw [g.rows k t u ht hu px py h1 h2]

theorem Grid.lays {MB : Int → Int → Bool} {xs ys : List Int} (g : Grid MB xs ys) (f : Int → Bool) (y h : Int) : Strip y h (laidF f y h none xs) := laidF_strip none xs g.upx g.bx (fun _ e => by cases e)

theorem Grid.first {MB : Int → Int → Bool} {xs ys : List Int} (g : Grid MB xs ys) {t u : Int} (ht : ys[0]? = some t) (hu : ys[0 + 1]? = some u) : CI (Grid.M MB) u ([] ++ laidF (fun x => MB x t) t (u - t) none xs) ([] : List Rc).length := by
  have c0 := CI.start (Grid.M MB) t (fun px py h e => by unfold Grid.M at e; rw [g.before t ht px py h] at e; cases e)
  have hM := fun px py h1 h2 => g.strip ht hu (u - t) px py h1 h2
  have hlt := rows_lt g.upy ht hu
  have hb := g.byy t (List.mem_of_getElem? ht)
  by_cases hS : laidF (fun x => MB x t) t (u - t) none xs = []
  · rw [hS] at hM ⊢
    exact c0.on hlt hM (fun px => Iff.rfl)
  · exact c0.more hlt hb.1 (g.lays _ _ _) hM (fun e => hS (List.map_eq_nil_iff.1 e.symm))

theorem drop_append_self (k l : List Rc) : (k ++ l).drop k.length = l := by simp
theorem take_append_self (k l : List Rc) : (k ++ l).take k.length = k := by simp

theorem Grid.on {MB : Int → Int → Bool} {xs ys : List Int} (g : Grid MB xs ys) {f : Int → Bool} {k : Nat} {t u top : Int} {out : List Rc} (ht : ys[k]? = some t) (hu : ys[k + 1]? = some u)
    (c : CI (Grid.M MB) t (out ++ laidF f top (t - top) none xs) out.length) (hf : LastNo f xs) (same : ∀ x ∈ xs, f x = MB x t) : CI (Grid.M MB) u (out ++ laidF f top (u - top) none xs) out.length := by
  have hM := fun px py h1 h2 => g.strip ht hu (u - t) px py h1 h2
  have := c.on (rows_lt g.upy ht hu) hM (fun px => by
    rw [drop_append_self, laidF_cols px g.upx hf, laidF_cols px g.upx ((g.steps t).last g.upx)]
    exact colF_congr px xs same)
  rw [drop_append_self, take_append_self, laidF_tall] at this
  have e : t - top + (u - t) = u - top := by omega
  rw [e] at this
  exact this

theorem Grid.more {MB : Int → Int → Bool} {xs ys : List Int} (g : Grid MB xs ys) {f : Int → Bool} {k : Nat} {t u top : Int} {out : List Rc} (ht : ys[k]? = some t) (hu : ys[k + 1]? = some u)
    (c : CI (Grid.M MB) t (out ++ laidF f top (t - top) none xs) out.length) (hf : LastNo f xs) (other : ∃ x ∈ xs, f x ≠ MB x t) :
    CI (Grid.M MB) u ((out ++ laidF f top (t - top) none xs) ++ laidF (fun x => MB x t) t (u - t) none xs) (out ++ laidF f top (t - top) none xs).length := by
  have hM := fun px py h1 h2 => g.strip ht hu (u - t) px py h1 h2
  refine c.more (rows_lt g.upy ht hu) (g.byy t (List.mem_of_getElem? ht)).1 (g.lays _ _ _) hM ?_
  rw [drop_append_self]
  intro e
  obtain ⟨x, hx, hne⟩ := other
  have hl := (g.steps t).last g.upx
  have h1 := col_of_map e x
  have h2 := col_of_map e.symm x
  rw [laidF_cols x g.upx hf, laidF_cols x g.upx hl] at h1 h2
  rw [colF_at g.upx hf hx, colF_at g.upx hl hx] at h1 h2
  apply hne
  rw [Bool.eq_iff_iff]
  exact ⟨h1, h2⟩

theorem Grid.done {MB : Int → Int → Bool} {xs ys : List Int} (g : Grid MB xs ys) {k n : Nat} {t : Int} {all : List Rc} (ht : ys[k]? = some t) (hl : ys.length ≤ k + 1) (c : CI (Grid.M MB) t all n) :
    Right all ∧ ∀ px py, covL all px py ↔ MB px py = true := by
  refine ⟨c.right, fun px py => (c.cols px py).trans ⟨fun h => h.2, fun h => ⟨?_, h⟩⟩⟩
  apply Decidable.byContradiction
  intro hn
  rw [g.behind k t ht hl px py (by omega)] at h
  cases h

/-- The edges of two lists make such a grid. -/
theorem grid_of {op : Bool → Bool → Bool} (hop : op false false = false) {a b : List Rc} {xs ys : List Int} (hx : EdgeCols xs (a ++ b)) (hy : EdgeRows ys (a ++ b)) (hm : ∀ r ∈ a ++ b, May r) :
    Grid (fun px py => op (covA a px py) (covA b px py)) xs ys := by
  have ea : ∀ r ∈ a, r.x ∈ xs ∧ r.x + r.w ∈ xs := fun r hr => ⟨(hx.mem _).2 ⟨r, by simp [hr], .inl rfl⟩, (hx.mem _).2 ⟨r, by simp [hr], .inr rfl⟩⟩
  have eb : ∀ r ∈ b, r.x ∈ xs ∧ r.x + r.w ∈ xs := fun r hr => ⟨(hx.mem _).2 ⟨r, by simp [hr], .inl rfl⟩, (hx.mem _).2 ⟨r, by simp [hr], .inr rfl⟩⟩
  have part : ∀ px py, ¬ covL (a ++ b) px py → op (covA a px py) (covA b px py) = false := fun px py h => by
    rw [covL_append] at h
    rw [covA_no (fun c => h (.inl c)), covA_no (fun c => h (.inr c)), hop]
  refine ⟨hx.up, hy.up, hx.bound hm, fun y h => ?_, fun t => ⟨fun p q hpq hno => ?_, fun p hno => ?_, fun p hno => ?_⟩, fun k t u ht hu px py h1 h2 => ?_, fun t ht px py h => part px py (hy.before ht px py h), fun k t ht hl px py h => part px py (fun c => ?_), fun e px py => part px py (hy.none e px py)⟩
  · obtain ⟨r, hr, e⟩ := (hy.mem y).1 h
    have := hm r hr
    unfold May at this; omega
  · show op _ _ = op _ _
    rw [covA_eq (covL_const ea hpq hno), covA_eq (covL_const eb hpq hno)]
  · show op _ _ = false
    rw [covA_no (covL_before ea hno), covA_no (covL_before eb hno), hop]
  · show op _ _ = false
    rw [covA_no (covL_behind ea hno), covA_no (covL_behind eb hno), hop]
  · show op _ _ = op _ _
    have hcl := fun r hr => hy.clear ht hu (r := r) hr
    rw [covA_eq (covL_row (fun r hr => hcl r (by simp [hr])) h1 h2), covA_eq (covL_row (fun r hr => hcl r (by simp [hr])) h1 h2)]
  · have := hy.behind ht hl px py c; omega
end Go.Proofs.Panes
