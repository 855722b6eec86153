import Derived.Test.YtfnockbgkcgpkaaKaax
set_option linter.all false
namespace Go.Proofs.Ytfnockbgkcgpkaa
open Go.RowKit Go.Proofs.Panes
set_option maxRecDepth 100000

/-- What is told of a pixel in the first k buffers. -/
def damK (f : Frs) (p k : Nat) : Frs := { f with due := true, b := fun i => if i < k then { f.b i with st := (f.b i).st.set p true } else f.b i }
def damF (f : Frs) (p : Nat) : Frs := damK f p 3
theorem Fr.bufs {C : Nat → Prop} {w w' : World} {b0 : Nat} {f : Frs} {v : Fl} (h : Fr C w b0 f v) {k : Nat} (hk : k < 3) (hb : But (fun x => x = v.st k) w w') {b : Nat → Buf} (hbo : ∀ i, i < 3 → i ≠ k → b i = f.b i) (hbp : (b k).px = (f.b k).px) (hbg : (b k).begun = (f.b k).begun) (hbl : (b k).st.length = f.W * f.H)
    (hst : w'.heap[v.st k]? = some (.cells ((b k).st.map Value.bool).toArray 4 (0, 0))) : Fr C w' b0 { f with b := b } v := by
  have hS : ∀ {x : Nat} {cs : Array Value} {t : TypeId} {fz : Nat × Nat}, w.heap[x]? = some (.cells cs t fz) → t ≠ 4 → ¬ x = v.st k := by
    intro x cs t fz hx t1 e
    have := (h.st k hk).1
    rw [← e, hx] at this
    simp at this
    exact t1 this.2.1
  have hbe : ∀ i, i < 3 → (b i).begun = (f.b i).begun := fun i hi => by by_cases e : i = k; rw [e]; exact hbg; rw [hbo i hi e]
  refine ⟨?_, h.cb, ?_, ?_, h.pinj, h.sinj, row_but h.mks hb (fun x hx e => row_kind h.mks (h.st k hk).1 (by decide) (by rw [hx, e])), h.mc, ?_⟩
  · have := hb.heap h.blk (hS h.blk (by decide))
    rw [this]
    simp [frcells, fptr, hbe 0 (by omega), hbe 1 (by omega), hbe 2 (by omega)]
  · intro i hi
    obtain ⟨q1, q2, q3⟩ := h.px i hi
    have e : (b i).px = (f.b i).px := by by_cases e : i = k; rw [e]; exact hbp; rw [hbo i hi e]
    show w'.heap[v.pb i]? = some (.cells ((b i).px.map (Value.int .i64)).toArray 3 (0, 0)) ∧ C (v.pb i) ∧ (b i).px.length = f.W * f.H
    exact ⟨by rw [e]; exact hb.heap q1 (hS q1 (by decide)), q2, by rw [e]; exact q3⟩
  · intro i hi
    by_cases e : i = k
    · rw [e]; exact ⟨hst, (h.st k hk).2.1, hbl⟩
    · obtain ⟨q1, q2, q3⟩ := h.st i hi
      show w'.heap[v.st i]? = some (.cells ((b i).st.map Value.bool).toArray 4 (0, 0)) ∧ C (v.st i) ∧ (b i).st.length = f.W * f.H
      rw [hbo i hi e]
      exact ⟨hb.heap q1 (fun e' => e (h.sinj i k hi hk e')), q2, q3⟩
  · intro g hg
    obtain ⟨h1, h2, h3, h4, h5, h6⟩ := h.fr g hg
    refine ⟨hb.heap h1 (hS h1 (by decide)), h2, h3, row_but h4 hb (fun x hx e => row_kind h4 (h.st k hk).1 (by decide) (by rw [hx, e])), h5, ?_⟩
    obtain ⟨ao, cap, e, q1, q2, q3⟩ := h6
    refine ⟨ao, cap, e, q1, q2, fun hne => ?_⟩
    obtain ⟨x, off, cs, e, hc, hg', hcell⟩ := q3 hne
    have hbl := hb.block x (lt_of_heap hg') (hS hg' (by decide))
    exact ⟨x, off, cs, e, hc, hbl.trans hg', fun j k hk => ⟨(World.cell?_of_block hbl).trans (hcell j k hk).1, (World.cell?_of_block hbl).trans (hcell j k hk).2⟩⟩
theorem map_set' (l : List Bool) (p : Nat) (b : Bool) : (l.set p b).map Value.bool = (l.map Value.bool).set p (.bool b) := by
  induction l generalizing p with
  | nil => rfl
  | cons a l ih => cases p with
    | zero => rfl
    | succ p => simp [ih]
/-- One buffer more. -/
theorem Fr.more {C : Nat → Prop} {w : World} {b0 : Nat} {f : Frs} {v : Fl} {p k : Nat} (h : Fr C w b0 (damK f p k) v) (hk : k < 3) : Fr C (w.setCell ⟨v.st k, p, none⟩ (.bool true)) b0 (damK f p (k + 1)) v := by
  have hb : But (fun x => x = v.st k) w (w.setCell ⟨v.st k, p, none⟩ (.bool true)) := (But.refl (fun x => x = v.st k) w).setCell (p := ⟨v.st k, p, none⟩) (.inl rfl) _
  obtain ⟨q1, q2, q3⟩ := h.st k hk
  have e0 : (damK f p k).b k = f.b k := by simp [damK]
  have e1 : (damK f p (k + 1)).b k = { f.b k with st := (f.b k).st.set p true } := by simp [damK]
  have := h.bufs hk hb (b := (damK f p (k + 1)).b) (fun i hi hne => by
    simp only [damK]
    by_cases hlt : i < k
    · rw [if_pos (by omega), if_pos hlt]
    · rw [if_neg (by omega), if_neg hlt]) (by rw [e0, e1]) (by rw [e0, e1]) (by rw [e1]; rw [e0] at q3; simpa using q3) (by
      rw [e1, map_set']
      have := blk_set (i := p) q1 (.bool true)
      rw [this, e0]
      simp)
  exact this

set_option maxHeartbeats 2000000 in
theorem damage_at {C : Nat → Prop} {w : World} {b0 : Nat} {f : Frs} {v : Fl} (h : Fr C w b0 f v) (p : Nat) (hp : p < f.W * f.H) (hn : f.W * f.H ≤ 1000) :
    Calls Try.prog 85 #[.pointer (some ⟨b0, 0, none⟩), .int .i64 (p : Int)] w fun e w' => (∃ u, e = .returned u) ∧ Fr C w' b0 (damF f p) v ∧ But C w w' ∧ w'.heap.size = w.heap.size := by
  have c15 : w.cell? ⟨b0, 15, none⟩ = some (.bool f.due) := blk_cell h.blk 15
  have f0 : ∀ j, w.frozen? ⟨b0, j, none⟩ = false := fun j => blk_thaw h.blk j
  have hb : But (fun k => k = b0) w (w.setCell ⟨b0, 15, none⟩ (.bool true)) := (But.refl (fun k => k = b0) w).setCell (p := ⟨b0, 15, none⟩) (.inl rfl) _
  have hF := h.set hb true (blk_set (i := 15) h.blk _)
  have e0 : ({ f with due := true } : Frs) = damK f p 0 := by simp [damK]
  rw [e0] at hF
  have HF := hide hF
  have HB := hide (hb.wide (T := C) (fun k _ e => by rw [e]; exact h.cb))
  clear h hb hF e0
  obtain ⟨n, hnn⟩ : ∃ n, n = f.W * f.H := ⟨_, rfl⟩
  have HN := hide hnn
  rw [← hnn] at hp hn
  clear hnn
  go_enter Try.func85, Try.ntmps85
  go_wp2
  go_loopw [8] (fun a wr => ∃ k : Nat, k ≤ 3 ∧ a = .int .i64 (k : Int) ∧ Fr C wr b0 (damK f p k) v ∧ But C w wr ∧ wr.heap.size = w.heap.size) (fun a _ => 3 - (intOf a).toNat)
  case atStart => exact ⟨0, by omega, rfl, unhide HF, unhide HB, by simp [World.setCell]⟩
  case round =>
    obtain ⟨k, hk, rfl, hFk, hBk, hsz⟩ := hrel
    by_cases hlt : k < 3
    · have hnx := hFk.more hlt
      have hBx : But C w (wr.setCell ⟨v.st k, p, none⟩ (.bool true)) := hBk.setCell (p := ⟨v.st k, p, none⟩) (.inl (hFk.st k hlt).2.1) _
      have hbk := hFk.blk
      obtain ⟨q1, q2, q3⟩ := hFk.st k hlt
      have hl : ((damK f p k).b k).st.length = n := by rw [q3, unhide HN]; rfl
      obtain ⟨z, hz⟩ : ∃ z, ((damK f p k).b k).st[p]? = some z := ⟨_, List.getElem?_eq_getElem (by omega)⟩
      have cz : wr.cell? ⟨v.st k, p, none⟩ = some (.bool z) := by rw [blk_cell q1]; simp [hz]
      have fz : wr.frozen? ⟨v.st k, p, none⟩ = false := blk_thaw q1 p
      have i0 : (0 : Int) ≤ (p : Int) := by omega
      have i1 : (p : Int) < (n : Int) := by omega
      have hsl : wr.cell? ⟨b0, 4 + k * 3 + 1, none⟩ = some (.slice (some ⟨v.st k, 0, none⟩) n n) := by
        rw [blk_cell hbk, unhide HN]
        have : k = 0 ∨ k = 1 ∨ k = 2 := by omega
        rcases this with rfl | rfl | rfl <;> rfl
      have j0 : (0 : Int) ≤ (k : Int) := by omega
      have j1 : (k : Int) < 3 := by omega
      have HX := hide hnx
      have HBX := hide hBx
      have HSZ := hide hsz
      clear hnx hBx hbk q1 q2 q3 hl hz hFk hBk
      go_wp2
      go_roundw
      case rel => exact ⟨k + 1, by omega, by go_num, unhide HX, unhide HBX, by simp [World.setCell]; exact unhide HSZ⟩
      case measure => simp [intOf]; omega
    · have : k = 3 := by omega
      subst this
      have HX := hide hFk
      have HBX := hide hBk
      have HSZ := hide hsz
      clear hFk hBk hsz
      go_wp2
      go_end0
      exact ⟨⟨_, rfl⟩, unhide HX, unhide HBX, unhide HSZ⟩
end Go.Proofs.Ytfnockbgkcgpkaa
set_option linter.all false
namespace Go.Proofs.Ytfnockbgkcgpkaa
open Go.RowKit Go.Proofs.Panes
set_option maxRecDepth 100000

set_option maxHeartbeats 800000 in
theorem cut_far (x y wi h x' y' wi' h' : Int) (w : World)
  (b1 : -4000000000000000 ≤ x ∧ x ≤ 4000000000000000) (b2 : -4000000000000000 ≤ y ∧ y ≤ 4000000000000000) (b3 : -4000000000000000 ≤ wi ∧ wi ≤ 4000000000000000) (b4 : -4000000000000000 ≤ h ∧ h ≤ 4000000000000000)
  (c1 : -4000000000000000 ≤ x' ∧ x' ≤ 4000000000000000) (c2 : -4000000000000000 ≤ y' ∧ y' ≤ 4000000000000000) (c3 : -4000000000000000 ≤ wi' ∧ wi' ≤ 4000000000000000) (c4 : -4000000000000000 ≤ h' ∧ h' ≤ 4000000000000000) :
    Calls Try.prog 84 #[.agg #[.int .i64 x, .int .i64 y, .int .i64 wi, .int .i64 h], .agg #[.int .i64 x', .int .i64 y', .int .i64 wi', .int .i64 h']] w fun e w' =>
      e = .returned (.agg #[.int .i64 (max x x'), .int .i64 (max y y'), .int .i64 (max 0 (min (x + wi) (x' + wi') - max x x')), .int .i64 (max 0 (min (y + h) (y' + h') - max y y'))]) ∧ Below w.heap.size w w' := by
  have mx : ∀ a b : Int, (if a < b then b else a) = max a b := fun a b => by omega
  have mn : ∀ a b : Int, (if b < a then b else a) = min a b := fun a b => by omega
  have mz : ∀ a b : Int, (if b < a then a - b else 0) = max 0 (a - b) := fun a b => by omega
  go_enter Try.func84, Try.ntmps84
  go_wp2
  go_quiet (fail)
  go_wp2
  go_quiet (fail)
  go_wp2
  refine bodyPost_ret (v := .agg #[.int .i64 (max x x'), .int .i64 (max y y'), .int .i64 (max 0 (min (x + wi) (x' + wi') - max x x')), .int .i64 (max 0 (min (y + h) (y' + h') - max y y'))]) (by simp [results, Try.results84, go_sem]) rfl ⟨rfl, ?_⟩
  repeat (first | exact Below.refl _ _ | refine Below.setCell ?_ (by first | (simp; done) | (simp; omega)) _ | refine below_drewN ?_ _ | refine Below.drew ?_ | refine Below.alloc ?_ (by first | (simp; done) | (simp; omega)) _)

/-- What of a rectangle lies in the output. -/
def cutR (f : Frs) (r : Rc) : Rc := ⟨max r.x 0, max r.y 0, max 0 (min (r.x + r.w) (0 + (f.W : Int)) - max r.x 0), max 0 (min (r.y + r.h) (0 + (f.H : Int)) - max r.y 0)⟩
def posC (f : Frs) (c : Rc) (i : Nat) : Nat := ((c.y + (i : Int) / c.w) * (f.W : Int) + c.x + (i : Int) % c.w).toNat
/-- What is told of the first k pixels of a rectangle in the output. -/
def damC (f : Frs) (c : Rc) (k : Nat) : Frs := (List.range k).foldl (fun g i => damF g (posC f c i)) f
def damR (f : Frs) (r : Rc) : Frs := damC f (cutR f r) ((cutR f r).w * (cutR f r).h).toNat
def damL (f : Frs) (l : List Rc) : Frs := l.foldl damR f
theorem damC_succ (f : Frs) (c : Rc) (k : Nat) : damC f c (k + 1) = damF (damC f c k) (posC f c k) := by simp [damC, List.range_succ]
theorem damC_W (f : Frs) (c : Rc) (k : Nat) : (damC f c k).W = f.W ∧ (damC f c k).H = f.H := by
  induction k with
  | zero => exact ⟨rfl, rfl⟩
  | succ k ih => rw [damC_succ]; exact ih
theorem damR_W (f : Frs) (r : Rc) : (damR f r).W = f.W ∧ (damR f r).H = f.H := damC_W _ _ _
theorem damL_W (l : List Rc) : ∀ f : Frs, (damL f l).W = f.W ∧ (damL f l).H = f.H := by
  induction l with
  | nil => intro f; exact ⟨rfl, rfl⟩
  | cons r l ih => intro f; have := ih (damR f r); have h2 := damR_W f r; exact ⟨this.1.trans h2.1, this.2.trans h2.2⟩
theorem damL_snoc (f : Frs) (l : List Rc) (r : Rc) : damL f (l ++ [r]) = damR (damL f l) r := by simp [damL]
/-- Bounds of a rectangle that is damaged. -/
def RcOk (r : Rc) : Prop := (-2000000000000000 ≤ r.x ∧ r.x ≤ 2000000000000000) ∧ (-2000000000000000 ≤ r.y ∧ r.y ≤ 2000000000000000) ∧ (0 ≤ r.w ∧ r.w ≤ 8) ∧ (0 ≤ r.h ∧ r.h ≤ 8)
theorem cutR_b (f : Frs) (r : Rc) (hW : f.W ≤ 16) (hH : f.H ≤ 16) (h : RcOk r) : 0 ≤ (cutR f r).x ∧ 0 ≤ (cutR f r).y ∧ 0 ≤ (cutR f r).w ∧ (cutR f r).w ≤ 8 ∧ 0 ≤ (cutR f r).h ∧ (cutR f r).h ≤ 8 ∧ (0 < (cutR f r).w → (cutR f r).x + (cutR f r).w ≤ f.W) ∧ (0 < (cutR f r).h → (cutR f r).y + (cutR f r).h ≤ f.H) := by
  obtain ⟨h1, h2, h3, h4⟩ := h
  simp only [cutR]
  omega
theorem quo_rem {i w h : Int} (h0 : 0 ≤ i) (hi : i < w * h) (hw : 0 ≤ w) (hw8 : w ≤ 8) (hh : 0 ≤ h) (hh8 : h ≤ 8) : 0 < w ∧ 0 < h ∧ 0 ≤ i / w ∧ i / w < h ∧ 0 ≤ i % w ∧ i % w < w := by
  have hw' : 0 < w := by
    rcases Int.lt_or_eq_of_le hw with q | q
    · exact q
    · rw [← q] at hi; simp at hi; omega
  have hh' : 0 < h := by
    rcases Int.lt_or_eq_of_le hh with q | q
    · exact q
    · rw [← q] at hi; simp at hi; omega
  refine ⟨hw', hh', Int.ediv_nonneg h0 hw, Int.ediv_lt_of_lt_mul hw' (by rw [Int.mul_comm]; exact hi), Int.emod_nonneg _ (by omega), Int.emod_lt_of_pos _ hw'⟩
end Go.Proofs.Ytfnockbgkcgpkaa
