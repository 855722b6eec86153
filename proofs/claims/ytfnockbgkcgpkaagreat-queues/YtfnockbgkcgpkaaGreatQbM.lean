import Derived.Test.YtfnockbgkcgpkaaGreatQbL
set_option linter.all false
namespace Go.Proofs.YtfnockbgkcgpkaaGreat
open Go.RowKit Go.Proofs.Panes
set_option maxRecDepth 100000

/-- An operation as it lies in memory. -/
structure MOp where
  kind : Int
  surf : Int
  x : Int
  y : Int
  w : Int
  h : Int
  pv : Value
  mark : Int
def mcell (m : MOp) : List Value := [.int .i64 m.kind, .int .i64 m.surf, .int .i64 m.x, .int .i64 m.y, .int .i64 m.w, .int .i64 m.h, m.pv, .int .i64 m.mark]
def mcells (l : List MOp) : List Value := l.flatMap mcell
theorem mcells_cons (r : MOp) (l : List MOp) : mcells (r :: l) = mcell r ++ mcells l := rfl
theorem mcells_append (k l : List MOp) : mcells (k ++ l) = mcells k ++ mcells l := by simp [mcells]
theorem mcells_len (l : List MOp) : (mcells l).length = l.length * 8 := by
  induction l with
  | nil => rfl
  | cons r l ih => rw [mcells_cons, List.length_append, ih]; simp [mcell]; omega
theorem mcells_at : ∀ (l : List MOp) (j : Nat) (r : MOp), l[j]? = some r → ∀ t, t < 8 → (mcells l)[j * 8 + t]? = (mcell r)[t]?
  | [], j, r, h => by simp at h
  | q :: l, 0, r, h => by
    intro t ht
    simp at h; subst h
    rw [mcells_cons, Nat.zero_mul, Nat.zero_add, List.getElem?_append_left (by simp [mcell]; omega)]
  | q :: l, j + 1, r, h => by
    intro t ht
    rw [← mcells_at l j r (by simpa using h) t ht, mcells_cons, List.getElem?_append_right (by simp [mcell]; omega)]
    congr 1
    simp [mcell]; omega
abbrev OwnO (w : World) (base : Nat) (v : Value) (l : List MOp) : Prop := w.ownsRow base 52 8 v l.length (mcells l)
theorem ownO_at {w : World} {base g n cap : Nat} {l : List MOp} (h : OwnO w base (.slice (some ⟨g, 0, none⟩) n cap) l) (hn : n = l.length) {j : Nat} {m : MOp} (hm : l[j]? = some m) (t : Nat) (ht : t < 8) : w.cell? ⟨g, j * 8 + t, none⟩ = (mcell m)[t]? := by
  subst hn
  have hj := (List.getElem?_eq_some_iff.1 hm).1
  rw [World.ownsRow.cellAt h _ (by omega), mcells_at l j m hm t ht]
theorem ownO_thaw {w : World} {base g n cap : Nat} {l : List MOp} (h : OwnO w base (.slice (some ⟨g, 0, none⟩) n cap) l) (hn : n = l.length) (j : Nat) : w.frozen? ⟨g, j, none⟩ = false := by
  subst hn; exact World.ownsRow.frozenAt h j
/-- An operation written into a row, cell by cell. -/
theorem mcells_put (A : List MOp) (r s : MOp) (B : List MOp) :
    ((((((((mcells (A ++ r :: B)).set (A.length * 8) (.int .i64 s.kind)).set (A.length * 8 + 1) (.int .i64 s.surf)).set (A.length * 8 + 2) (.int .i64 s.x)).set (A.length * 8 + 3) (.int .i64 s.y)).set (A.length * 8 + 4) (.int .i64 s.w)).set (A.length * 8 + 5) (.int .i64 s.h)).set (A.length * 8 + 6) s.pv).set (A.length * 8 + 7) (.int .i64 s.mark) = mcells (A ++ s :: B) := by
  rw [mcells_append, mcells_append]
  have e : ∀ (X : List Value) (t : Nat) (u : Value), (mcells A ++ X).set (A.length * 8 + t) u = mcells A ++ X.set t u := fun X t u => by
    rw [List.set_append_right _ _ (by rw [mcells_len]; omega), mcells_len, Nat.add_sub_cancel_left]
  have e0 : ∀ (X : List Value) (u : Value), (mcells A ++ X).set (A.length * 8) u = mcells A ++ X.set 0 u := fun X u => e X 0 u
  rw [e0, e, e, e, e, e, e, e]
  rfl
/-- The world behind it. -/
def putOp (w : World) (g i : Nat) (s : MOp) : World :=
  (((((((w.setCell ⟨g, i * 8, none⟩ (.int .i64 s.kind)).setCell ⟨g, i * 8 + 1, none⟩ (.int .i64 s.surf)).setCell ⟨g, i * 8 + 2, none⟩ (.int .i64 s.x)).setCell ⟨g, i * 8 + 3, none⟩ (.int .i64 s.y)).setCell ⟨g, i * 8 + 4, none⟩ (.int .i64 s.w)).setCell ⟨g, i * 8 + 5, none⟩ (.int .i64 s.h)).setCell ⟨g, i * 8 + 6, none⟩ s.pv).setCell ⟨g, i * 8 + 7, none⟩ (.int .i64 s.mark)
theorem ownO_put {w : World} {base g n cap : Nat} {A B : List MOp} {r : MOp} (s : MOp) (h : OwnO w base (.slice (some ⟨g, 0, none⟩) n cap) (A ++ r :: B)) (hn : n = (A ++ r :: B).length) : OwnO (putOp w g A.length s) base (.slice (some ⟨g, 0, none⟩) n cap) (A ++ s :: B) := by
  subst hn
  have h1 := (World.ownsRow.stored h (A.length * 8) (.int .i64 s.kind)).1
  have h2 := (World.ownsRow.stored h1 (A.length * 8 + 1) (.int .i64 s.surf)).1
  have h3 := (World.ownsRow.stored h2 (A.length * 8 + 2) (.int .i64 s.x)).1
  have h4 := (World.ownsRow.stored h3 (A.length * 8 + 3) (.int .i64 s.y)).1
  have h5 := (World.ownsRow.stored h4 (A.length * 8 + 4) (.int .i64 s.w)).1
  have h6 := (World.ownsRow.stored h5 (A.length * 8 + 5) (.int .i64 s.h)).1
  have h7 := (World.ownsRow.stored h6 (A.length * 8 + 6) s.pv).1
  have h8 := (World.ownsRow.stored h7 (A.length * 8 + 7) (.int .i64 s.mark)).1
  rw [mcells_put] at h8
  have e : (A ++ s :: B).length = (A ++ r :: B).length := by simp
  unfold OwnO
  rw [e]; exact h8
theorem putOp_but {S : Nat → Prop} {a w : World} {g i : Nat} {s : MOp} (h : But S a w) (hg : S g ∨ a.heap.size ≤ g) : But S a (putOp w g i s) := by
  have hS : ∀ (j : Nat) (u : Value) {v : World}, But S a v → But S a (v.setCell ⟨g, j, none⟩ u) := fun j u v h => h.setCell (p := ⟨g, j, none⟩) hg u
  exact hS _ _ (hS _ _ (hS _ _ (hS _ _ (hS _ _ (hS _ _ (hS _ _ (hS _ _ h)))))))
theorem putOp_heap {w : World} {g i k : Nat} {s : MOp} (h : k ≠ g) : (putOp w g i s).heap[k]? = w.heap[k]? := by
  have e : ∀ (v : World) (j : Nat) (u : Value), (v.setCell ⟨g, j, none⟩ u).heap[k]? = v.heap[k]? := fun v j u => Below.heap_setCell _ _ _ _ h
  unfold putOp
  rw [e, e, e, e, e, e, e, e]
theorem ownO_front {w : World} {base g n cap : Nat} {A B : List MOp} (h : OwnO w base (.slice (some ⟨g, 0, none⟩) n cap) (A ++ B)) : OwnO w base (.slice (some ⟨g, 0, none⟩) A.length cap) A := by
  rcases h.2 with ⟨e, _⟩ | ⟨k, c, cur, e, hb, hk, hc, hm, hz, ht⟩
  · cases e
  · simp only [Value.slice.injEq, Option.some.injEq, Addr.mk.injEq, and_true] at e
    obtain ⟨rfl, e, rfl⟩ := e
    refine ⟨mcells_len A, .inr ⟨g, cap, cur, rfl, hb, hk, by simp at hc; omega, hm, hz, ?_⟩⟩
    have := congrArg (List.take (A.length * 8)) ht
    rw [List.take_take, mcells_append, List.take_append_of_le_length (by rw [mcells_len]; omega), Nat.min_eq_left (by simp; omega)] at this
    rw [this, List.take_of_length_le (by rw [mcells_len]; omega)]
def mz : MOp := ⟨0, 0, 0, 0, 0, 0, .slice none 0 0, 0⟩
def m77 : MOp := ⟨77, 0, 0, 0, 0, 0, .slice none 0 0, 0⟩
theorem info_op : (Tryz.prog.info? 52).map (fun i => (i.zero, i.size, i.bytes)) = some (some (.agg #[.int .i64 0, .int .i64 0, .int .i64 0, .int .i64 0, .int .i64 0, .int .i64 0, .slice none 0 0, .int .i64 0]), 8, 80) := by kernel_rfl
theorem made_ops (n : Nat) : madeCells #[.int .i64 0, .int .i64 0, .int .i64 0, .int .i64 0, .int .i64 0, .int .i64 0, .slice none 0 0, .int .i64 0] (n * 8) = (mcells (List.replicate n mz)).toArray := by
  apply Array.ext'
  apply List.ext_getElem?
  intro j
  by_cases hj : j < n * 8
  · obtain ⟨q, t, hq, ht⟩ : ∃ q t, j = q * 8 + t ∧ t < 8 := ⟨j / 8, j % 8, by omega, by omega⟩
    have hat := mcells_at (List.replicate n mz) q mz (by rw [List.getElem?_replicate, if_pos (by omega)]) t ht
    have hm : (madeCells #[.int .i64 0, .int .i64 0, .int .i64 0, .int .i64 0, .int .i64 0, .int .i64 0, .slice none 0 0, .int .i64 0] (n * 8)).toList[j]? = some ((#[Value.int .i64 0, .int .i64 0, .int .i64 0, .int .i64 0, .int .i64 0, .int .i64 0, .slice none 0 0, .int .i64 0] : Array Value)[j % 8]!) := by simp [madeCells, hj]
    rw [hm]
    subst hq
    have e : (q * 8 + t) % 8 = t := by omega
    rw [e]
    show _ = (mcells (List.replicate n mz))[q * 8 + t]?
    rw [hat]
    match t, ht with
    | 0, _ => rfl
    | 1, _ => rfl
    | 2, _ => rfl
    | 3, _ => rfl
    | 4, _ => rfl
    | 5, _ => rfl
    | 6, _ => rfl
    | 7, _ => rfl
  · have h1 : (mcells (List.replicate n mz)).length = n * 8 := by rw [mcells_len]; simp
    rw [List.getElem?_eq_none (by simp [size_madeCells]; omega), List.getElem?_eq_none (by show (mcells (List.replicate n mz)).length ≤ j; omega)]
theorem make_ops (n : Nat) (hn : n ≤ 1759218604416) (u : World) : (Instr.makeSlice 53 (.int .i64 (n : Int)) (.int .i64 (n : Int))).run Tryz.prog u = .ok (.slice (some ⟨u.heap.size, 0, none⟩) n n) (u.alloc (.cells (mcells (List.replicate n mz)).toArray 52)) := by
  obtain ⟨i0, hi, hz0, hz1, hz2⟩ := info_parts info_op
  have h := run_make (P := Tryz.prog) u 53 52 i0 _ Tryz.underlying53 hi hz0 .i64 .i64 (n : Int) (n : Int) (by omega) (Int.le_refl _) (by rw [hz2]; omega) (by omega)
  simp only [Int.toNat_natCast, hz1] at h
  rw [← made_ops]
  simpa [Value.cells] using h
theorem own_ops (w : World) (n : Nat) (base : Nat) (hb : base ≤ w.heap.size) (hn : n ≤ 1759218604416) : OwnO (w.alloc (.cells (mcells (List.replicate n mz)).toArray 52)) base (.slice (some ⟨w.heap.size, 0, none⟩) n n) (List.replicate n mz) := by
  have h := World.ownsRow_lit (base := base) (e := 52) (size := 8) w (mcells (List.replicate n mz)).toArray n hb (by unfold maxLen; omega) (by simp [mcells_len])
  unfold OwnO
  rw [List.length_replicate]
  simpa using h

/-- The lists of numbers that are lent, as they were lent. -/
structure NLent (U : Nat → Prop) (B : Nat) (w : World) (ls : List NLoan) : Prop where
  len : ∀ x ∈ ls, x.l.length ≤ 17592186043904
  far : ∀ x ∈ ls, ¬ U x.g
  rd : ∀ x ∈ ls, RdN U w x.want x.l
  own : ∀ x ∈ ls, OwnN w B x.out (x.l ++ [77, 77, 77])
  apart : ls.Pairwise (fun x y => x.g ≠ y.g)
theorem NLent.none (U : Nat → Prop) (B : Nat) (w : World) : NLent U B w [] := ⟨by simp, by simp, by simp, by simp, by simp⟩
theorem NLent.but {U S : Nat → Prop} {B : Nat} {w w' : World} {ls : List NLoan} (h : NLent U B w ls) (hb : But S w w') (h1 : ∀ k, U k → ¬ S k) (h2 : ∀ x ∈ ls, ¬ S x.g) : NLent U B w' ls :=
  ⟨h.len, h.far, fun x hx => (h.rd x hx).but hb h1, fun x hx => row_but (h.own x hx) hb (fun k hk => by simp only [NLoan.out, Value.ownBlock, Option.some.injEq] at hk; subst hk; exact h2 x hx), h.apart⟩
theorem NLent.lt {U : Nat → Prop} {B : Nat} {w : World} {ls : List NLoan} (h : NLent U B w ls) {x : NLoan} (hx : x ∈ ls) : B ≤ x.g ∧ x.g < w.heap.size := World.ownsRow.lt (h.own x hx) x.g rfl
theorem NLent.kind {U : Nat → Prop} {B : Nat} {w : World} {ls : List NLoan} (h : NLent U B w ls) {x : NLoan} (hx : x ∈ ls) : ∃ cs fz, w.heap[x.g]? = some (.cells cs 3 fz) := row_heap (h.own x hx) rfl
/-- A list of numbers more is lent. -/
theorem NLent.more {U : Nat → Prop} {mb base : Nat} {lq lr lo lr' : Value} {ls ls' : List NLoan} {v v' : Value} {l : List Int} {w w' : World} (hN : NLent U base w ls) (h : NLends w w' mb base lq lr lo ls v l lr' ls' v') (hm : w.heap[mb]? = some (.cells #[lq, lr, lo] 76)) (hL : OwnNL w base lr ls)
    (hR : RdN U w v l) (hl : l.length ≤ 17592186043904) (hU : ∀ k, U k → k < w.heap.size ∧ k ≠ mb ∧ lr.ownBlock ≠ some k) : NLent U base w' ls' ∧ ls'.length ≤ ls.length + 1 := by
  have h1 : ∀ k, U k → ¬ (k = mb ∨ lr.ownBlock = some k) := fun k hk c => c.elim (hU k hk).2.1 (hU k hk).2.2
  have h2 : ∀ x ∈ ls, ¬ (x.g = mb ∨ lr.ownBlock = some x.g) := fun x hx c => by
    obtain ⟨cs, fz, hg⟩ := hN.kind hx
    rcases c with c | c
    · rw [c, hm] at hg; simp at hg
    · exact row_kind hL hg (by decide) c
  have hN' := hN.but h.but h1 h2
  rcases h.more with ⟨rfl, _⟩ | ⟨x, _, rfl, e1, e2, e3, e4, e5⟩
  · exact ⟨hN', by omega⟩
  · refine ⟨⟨fun y hy => ?_, fun y hy => ?_, fun y hy => ?_, fun y hy => ?_, ?_⟩, by simp⟩
    · rcases List.mem_append.1 hy with c | c
      · exact hN'.len y c
      · rw [List.mem_singleton.1 c, e1]; exact hl
    · rcases List.mem_append.1 hy with c | c
      · exact hN'.far y c
      · rw [List.mem_singleton.1 c]; intro hu; have := (hU _ hu).1; omega
    · rcases List.mem_append.1 hy with c | c
      · exact hN'.rd y c
      · rw [List.mem_singleton.1 c, e1, e2]; exact hR.but h.but h1
    · rcases List.mem_append.1 hy with c | c
      · exact hN'.own y c
      · rw [List.mem_singleton.1 c, e1]; exact e5
    · refine List.pairwise_append.2 ⟨hN'.apart, List.pairwise_singleton _ _, fun y hy z hz => ?_⟩
      rw [List.mem_singleton.1 hz]
      have := (hN.lt hy).2
      omega
/-- An operation and its copy that was lent. -/
structure MO (ns : List NLoan) (o : Opn) (m : MOp) : Prop where
  kind : m.kind = o.kind
  surf : m.surf = o.surf
  x : m.x = o.x
  y : m.y = o.y
  w : m.w = o.w
  h : m.h = o.h
  mark : m.mark = o.mark
  pv : (m.pv = .slice none 0 0 ∧ o.px = []) ∨ ∃ x ∈ ns, m.pv = .slice (some ⟨x.g, 0, none⟩) o.px.length (o.px.length + 3) ∧ x.l = o.px
end Go.Proofs.YtfnockbgkcgpkaaGreat
