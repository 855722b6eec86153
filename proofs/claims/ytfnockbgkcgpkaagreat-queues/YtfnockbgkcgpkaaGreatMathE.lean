import Derived.Test.YtfnockbgkcgpkaaGreatMathD
set_option linter.all false
namespace Go.Proofs.Panes

def covB (r : Rc) (px py : Int) : Bool := decide (r.x ≤ px ∧ px < r.x + r.w ∧ r.y ≤ py ∧ py < r.y + r.h)
theorem covB_iff (r : Rc) (px py : Int) : covB r px py = true ↔ r.cov px py := by unfold covB Rc.cov; exact decide_eq_true_iff
/-- How often a list covers a pixel. -/
def cnt (l : List Rc) (px py : Int) : Nat := (l.map fun r => (covB r px py).toNat).sum
theorem cnt_nil (px py : Int) : cnt [] px py = 0 := rfl
theorem cnt_cons (r : Rc) (l : List Rc) (px py : Int) : cnt (r :: l) px py = (covB r px py).toNat + cnt l px py := by simp [cnt]
theorem cnt_snoc (l : List Rc) (r : Rc) (px py : Int) : cnt (l ++ [r]) px py = cnt l px py + (covB r px py).toNat := by simp [cnt]
theorem cnt_le_len (l : List Rc) (px py : Int) : cnt l px py ≤ l.length := by
  induction l with
  | nil => simp [cnt]
  | cons r l ih => rw [cnt_cons]; have := Bool.toNat_le (covB r px py); simp only [List.length_cons]; omega
theorem cnt_pos (l : List Rc) (px py : Int) : 0 < cnt l px py ↔ covL l px py := by
  induction l with
  | nil => exact ⟨fun h => by simp [cnt] at h, fun h => absurd h (covL_nil px py)⟩
  | cons r l ih =>
    rw [cnt_cons, covL_cons, ← ih, ← covB_iff]
    cases covB r px py
    · simp
    · simp; omega
theorem cnt_zero {l : List Rc} {px py : Int} (h : ∀ r ∈ l, ¬ r.cov px py) : cnt l px py = 0 := by
  have : ¬ 0 < cnt l px py := fun c => by obtain ⟨r, hr, e⟩ := (cnt_pos l px py).1 c; exact h r hr e
  omega
theorem cnt_one {l : List Rc} (hp : ∀ r ∈ l, 0 < r.w ∧ 0 < r.h) (h : l.Pairwise PW) (px py : Int) : cnt l px py ≤ 1 := by
  induction l with
  | nil => simp [cnt]
  | cons r l ih =>
    have ⟨h1, h2⟩ := List.pairwise_cons.1 h
    rw [cnt_cons]
    have ih' := ih (fun q hq => hp q (List.mem_cons_of_mem _ hq)) h2
    cases hc : covB r px py
    · simpa using ih'
    · have hz : cnt l px py = 0 := cnt_zero fun q hq c => by
        have hr := (covB_iff r px py).1 hc
        have := h1 q hq
        have := hp q (List.mem_cons_of_mem _ hq)
        have := hp r (by simp)
        unfold Rc.cov at hr c; unfold PW at *; omega
      rw [hz]; simp
theorem Right.cnt {l : List Rc} (h : Right l) (px py : Int) : cnt l px py ≤ 1 := cnt_one h.pos h.pw px py

/-! areas -/
def areaL (l : List Rc) : Int := (l.map fun r => r.w * r.h).sum
theorem areaL_cons (r : Rc) (l : List Rc) : areaL (r :: l) = r.w * r.h + areaL l := by simp [areaL]
theorem areaL_snoc (l : List Rc) (r : Rc) : areaL (l ++ [r]) = areaL l + r.w * r.h := by simp [areaL]
def rs : Nat → (Nat → Nat) → Nat
  | 0, _ => 0
  | n + 1, f => rs n f + f n
theorem rs_add (f g : Nat → Nat) : ∀ n, rs n (fun i => f i + g i) = rs n f + rs n g
  | 0 => rfl
  | n + 1 => by simp only [rs, rs_add f g n]; omega
theorem rs_mul (c : Nat) (f : Nat → Nat) : ∀ n, rs n (fun i => f i * c) = rs n f * c
  | 0 => by simp [rs]
  | n + 1 => by simp only [rs, rs_mul c f n, Nat.add_mul]
theorem rs_le {f g : Nat → Nat} (h : ∀ i, f i ≤ g i) : ∀ n, rs n f ≤ rs n g
  | 0 => Nat.le_refl _
  | n + 1 => by have := rs_le h n; have := h n; simp only [rs]; omega
theorem rs_zero : ∀ n, rs n (fun _ => 0) = 0
  | 0 => rfl
  | n + 1 => by simp only [rs, rs_zero n]
def bit (a w : Int) (i : Nat) : Nat := (decide (a ≤ (i : Int) - 1000 ∧ (i : Int) - 1000 < a + w)).toNat
theorem rs_bit (a w : Int) (ha : -1000 ≤ a) (hw : 0 ≤ w) : ∀ n : Nat, (rs n (bit a w) : Int) = min (n : Int) (a + w + 1000) - min (n : Int) (a + 1000)
  | 0 => by simp only [rs]; omega
  | n + 1 => by
    have ih := rs_bit a w ha hw n
    simp only [rs]
    by_cases h : a ≤ (n : Int) - 1000 ∧ (n : Int) - 1000 < a + w
    · have : bit a w n = 1 := by unfold bit; rw [decide_eq_true h]; rfl
      rw [this]; push_cast; omega
    · have : bit a w n = 0 := by unfold bit; rw [decide_eq_false h]; rfl
      rw [this]; push_cast; omega
theorem rs_bit_whole (a w : Int) (ha : -1000 ≤ a) (hw : 0 ≤ w) (h : a + w ≤ 2000) : (rs 3000 (bit a w) : Int) = w := by
  rw [rs_bit a w ha hw 3000]; omega
def gridN (n : Nat) (f : Int → Int → Nat) : Nat := rs n fun j => rs n fun i => f ((i : Int) - 1000) ((j : Int) - 1000)
theorem gridN_add (n : Nat) (f g : Int → Int → Nat) : gridN n (fun x y => f x y + g x y) = gridN n f + gridN n g := by
  unfold gridN
  rw [← rs_add]
  have e : (fun j : Nat => rs n fun i => f ((i : Int) - 1000) ((j : Int) - 1000) + g ((i : Int) - 1000) ((j : Int) - 1000)) = fun j : Nat => (rs n fun i => f ((i : Int) - 1000) ((j : Int) - 1000)) + rs n fun i => g ((i : Int) - 1000) ((j : Int) - 1000) := by
    funext j; exact rs_add _ _ n
  rw [e]
theorem gridN_rect (n : Nat) (r : Rc) : gridN n (fun x y => (covB r x y).toNat) = rs n (bit r.y r.h) * rs n (bit r.x r.w) := by
  unfold gridN
  rw [← rs_mul]
  have e : (fun j : Nat => rs n fun i => (covB r ((i : Int) - 1000) ((j : Int) - 1000)).toNat) = fun j => bit r.y r.h j * rs n (bit r.x r.w) := by
    funext j
    rw [Nat.mul_comm, ← rs_mul]
    have e1 : (fun i : Nat => (covB r ((i : Int) - 1000) ((j : Int) - 1000)).toNat) = fun i => bit r.x r.w i * bit r.y r.h j := by
      funext i
      unfold covB bit
      by_cases h1 : r.x ≤ (i : Int) - 1000 ∧ (i : Int) - 1000 < r.x + r.w <;> by_cases h2 : r.y ≤ (j : Int) - 1000 ∧ (j : Int) - 1000 < r.y + r.h
      · rw [decide_eq_true h1, decide_eq_true h2, decide_eq_true (⟨h1.1, h1.2, h2.1, h2.2⟩)]; rfl
      · rw [decide_eq_true h1, decide_eq_false h2, decide_eq_false (fun c => h2 ⟨c.2.2.1, c.2.2.2⟩)]; rfl
      · rw [decide_eq_false h1, decide_eq_true h2, decide_eq_false (fun c => h1 ⟨c.1, c.2.1⟩)]; rfl
      · rw [decide_eq_false h1, decide_eq_false h2, decide_eq_false (fun c => h1 ⟨c.1, c.2.1⟩)]; rfl
    rw [e1]
  rw [e]
theorem gridN_zero (n : Nat) : gridN n (fun _ _ => 0) = 0 := by
  unfold gridN
  have : (fun _ : Nat => rs n fun _ => 0) = fun _ => 0 := by funext j; exact rs_zero _
  rw [this]; exact rs_zero _
def grid (f : Int → Int → Nat) : Nat := gridN 3000 f
theorem grid_add (f g : Int → Int → Nat) : grid (fun x y => f x y + g x y) = grid f + grid g := gridN_add 3000 f g
theorem grid_le {f g : Int → Int → Nat} (h : ∀ x y, f x y ≤ g x y) : grid f ≤ grid g := rs_le (fun j => rs_le (fun i => h _ _) _) _
theorem grid_zero : grid (fun _ _ => 0) = 0 := gridN_zero 3000
theorem grid_rect (r : Rc) (h : -1000 ≤ r.x ∧ r.x + r.w ≤ 2000 ∧ -1000 ≤ r.y ∧ r.y + r.h ≤ 2000) (hw : 0 ≤ r.w) (hh : 0 ≤ r.h) : (grid (fun x y => (covB r x y).toNat) : Int) = r.w * r.h := by
  unfold grid
  rw [gridN_rect]
  rw [Int.natCast_mul, rs_bit_whole _ _ h.1 hw h.2.1, rs_bit_whole _ _ h.2.2.1 hh h.2.2.2, Int.mul_comm]
theorem grid_area : ∀ (l : List Rc), (∀ r ∈ l, -1000 ≤ r.x ∧ r.x + r.w ≤ 2000 ∧ -1000 ≤ r.y ∧ r.y + r.h ≤ 2000) → (∀ r ∈ l, 0 < r.w ∧ 0 < r.h) → (grid (fun x y => cnt l x y) : Int) = areaL l
  | [], _, _ => by
    have : (fun x y => cnt [] x y) = fun _ _ => 0 := rfl
    rw [this, grid_zero]; rfl
  | r :: l, h, hp => by
    have e : (fun x y => cnt (r :: l) x y) = fun x y => (covB r x y).toNat + cnt l x y := by funext x y; exact cnt_cons r l x y
    have hr := hp r (by simp)
    rw [e, grid_add, areaL_cons, ← grid_area l (fun q hq => h q (List.mem_cons_of_mem _ hq)) (fun q hq => hp q (List.mem_cons_of_mem _ hq)), ← grid_rect r (h r (by simp)) (by omega) (by omega)]
    push_cast
    rfl

theorem areas_fit {A B : Int → Int → Prop} {U N S K : List Rc} (hU : Right U) (hN : Right N) (hS : Right S) (hK : Right K)
    (cU : ∀ x y, covL U x y ↔ A x y ∨ B x y) (cN : ∀ x y, covL N x y ↔ A x y ∧ B x y) (cS : ∀ x y, covL S x y ↔ A x y ∧ ¬ B x y) (cK : ∀ x y, covL K x y ↔ A x y)
    (bU : ∀ r ∈ U, -1000 ≤ r.x ∧ r.x + r.w ≤ 2000 ∧ -1000 ≤ r.y ∧ r.y + r.h ≤ 2000) (bN : ∀ r ∈ N, -1000 ≤ r.x ∧ r.x + r.w ≤ 2000 ∧ -1000 ≤ r.y ∧ r.y + r.h ≤ 2000)
    (bS : ∀ r ∈ S, -1000 ≤ r.x ∧ r.x + r.w ≤ 2000 ∧ -1000 ≤ r.y ∧ r.y + r.h ≤ 2000) (bK : ∀ r ∈ K, -1000 ≤ r.x ∧ r.x + r.w ≤ 2000 ∧ -1000 ≤ r.y ∧ r.y + r.h ≤ 2000) :
    areaL S + areaL N = areaL K ∧ areaL K ≤ areaL U := by
  rw [← grid_area U bU hU.pos, ← grid_area N bN hN.pos, ← grid_area S bS hS.pos, ← grid_area K bK hK.pos]
  have key : ∀ x y, cnt S x y + cnt N x y = cnt K x y ∧ cnt K x y ≤ cnt U x y := by
    intro x y
    have h1 := hU.cnt x y; have h2 := hN.cnt x y; have h3 := hS.cnt x y; have h4 := hK.cnt x y
    have p1 := cnt_pos U x y; have p2 := cnt_pos N x y; have p3 := cnt_pos S x y; have p4 := cnt_pos K x y
    rw [cU] at p1; rw [cN] at p2; rw [cS] at p3; rw [cK] at p4
    by_cases hA : A x y <;> by_cases hB : B x y <;> simp only [hA, hB, true_and, and_true, true_or, or_true, or_false, false_or, and_false, false_and, not_true, not_false_iff, iff_true, iff_false] at p1 p2 p3 p4 <;> omega
  constructor
  · have e : (fun x y => cnt K x y) = fun x y => cnt S x y + cnt N x y := by funext x y; exact ((key x y).1).symm
    rw [e, grid_add]; push_cast; rfl
  · exact_mod_cast grid_le fun x y => (key x y).2
theorem areaL_nonneg {l : List Rc} (hp : ∀ r ∈ l, 0 < r.w ∧ 0 < r.h) : 0 ≤ areaL l := by
  induction l with
  | nil => exact Int.le_refl _
  | cons r l ih =>
    have h := hp r (by simp)
    have := ih (fun q hq => hp q (List.mem_cons_of_mem _ hq))
    have := Int.mul_nonneg (Int.le_of_lt h.1) (Int.le_of_lt h.2)
    rw [areaL_cons]; omega
theorem mul_bd {a b : Int} (ha : 0 < a ∧ a ≤ 3000) (hb : 0 < b ∧ b ≤ 3000) : 0 ≤ a * b ∧ a * b ≤ 9000000 := by
  refine ⟨Int.mul_nonneg (by omega) (by omega), ?_⟩
  have := Int.mul_le_mul ha.2 hb.2 (by omega) (by omega)
  omega
theorem areaL_le : ∀ (l : List Rc), (∀ r ∈ l, (0 < r.w ∧ r.w ≤ 3000) ∧ (0 < r.h ∧ r.h ≤ 3000)) → areaL l ≤ 9000000 * l.length
  | [], _ => by simp [areaL]
  | r :: l, h => by
    have h1 := areaL_le l (fun q hq => h q (List.mem_cons_of_mem _ hq))
    have h2 := h r (by simp)
    have h3 := mul_bd h2.1 h2.2
    rw [areaL_cons]
    simp only [List.length_cons]
    push_cast
    omega
end Go.Proofs.Panes
