import Derived.Test.YtfnockbgkcgpkaaGreatLawE
import Derived.Laws.CopyRow
import Derived.Laws.MakeOwn
set_option linter.all false
namespace Go.Proofs.YtfnockbgkcgpkaaGreat
open Go.RowKit Go.Proofs.Panes
set_option maxRecDepth 100000

/-- 'copy' of elements of several cells, into a row that is known whole. -/
theorem run_copy_wide {P : Program} (w : World) (dT sT ty elem : TypeId) (size g o dLen dCap : Nat) (a : Addr) (sLen sCap : Nat) (cur : Array Value) (t : TypeId) (cs : List Value) (m : Nat)
    (hu : P.underlying dT = some (.slice elem)) (hs : (P.info? elem).map (·.size) = some size)
    (hg : w.heap[g]? = some (.cells cur t (0, 0))) (hm : m = Nat.min sLen dLen) (hn : cs.length = m * size)
    (hsrc : ∀ j v, cs[j]? = some v → w.cell? (a.add j) = some v) (hfit : o + cs.length ≤ cur.size) (h1 : ∀ v ∈ cs, v.oneCell' = true) :
    (Builtin.copy_ #[dT, sT] ty #[.slice (some ⟨g, o, none⟩) dLen dCap, .slice (some a) sLen sCap]).run P w =
      .ok (goInt m) (w.setRow g (cur.toList.take o ++ cs ++ cur.toList.drop (o + cs.length)).toArray) := by
  have hl := run_loadCells_list (P := P) w a cs hsrc
  have hst := run_storeCells_at P g o t cs 0 cur w hg (by simpa using hfit) h1
  cases hq : P.info? elem with
  | none => simp [hq] at hs
  | some i =>
    have hi : i.size = size := by simpa [hq] using hs
    rw [hn] at hl
    simp [Builtin.copy_, run_underlying hu, Builtin.lenOf, Builtin.firstCells, sizeOf, typeInfo, hq, hi, ← hm, hl, hst, hn]
theorem run_copy_zero {P : Program} (w : World) (dT sT ty elem : TypeId) (d a : Option Addr) (dLen dCap sLen sCap : Nat) (hu : P.underlying dT = some (.slice elem)) (hs : ((P.info? elem).map (·.size)).isSome = true) (hn : Nat.min sLen dLen = 0) :
    (Builtin.copy_ #[dT, sT] ty #[.slice d dLen dCap, .slice a sLen sCap]).run P w = .ok (goInt 0) w := by
  cases hq : P.info? elem with
  | none => simp [hq] at hs
  | some i =>
    have hl : ∀ (x : Addr), (loadCells x 0).run P w = .ok #[] w := fun x => by simpa using run_loadCells_list (P := P) w x [] (by simp)
    cases d <;> cases a <;> simp [Builtin.copy_, run_underlying hu, Builtin.lenOf, Builtin.firstCells, sizeOf, typeInfo, hq, hn, storeCells, hl]

theorem rcells_drop (D : List Rc) (n : Nat) : (rcells D).drop (n * 4) = rcells (D.drop n) := by
  by_cases h : n ≤ D.length
  · conv => lhs; rw [← List.take_append_drop n D, rcells_append]
    rw [List.drop_append_of_le_length (by rw [rcells_len, List.length_take]; omega), List.drop_of_length_le (by rw [rcells_len, List.length_take]; omega), List.nil_append]
  · rw [List.drop_of_length_le (by rw [rcells_len]; omega), List.drop_of_length_le (by omega)]; rfl

/-- 'copy(dst, src)' of rectangles: dst a whole row that somebody owns, src any list that reads. -/
theorem copy_rects {w : World} {ops : Array Oper} {rest : List Oper} {o : Oper} {a : Act} {Q : Exit → Act → World → Prop} (hgd : o.guard = none) (d s : Operand)
    (ho : o.op = .call { callee := .builtin .copy, args := #[d, s], argTypes := #[47, 47] }) (base g n : Nat) (D l : List Rc) (v : Value) (hd : a.eval d = .slice (some ⟨g, 0, none⟩) n n) (hs : a.eval s = v)
    (hO : Own w base (.slice (some ⟨g, 0, none⟩) n n) D) (hn : D.length = n) (hR : Rd w v l) (hl : l.length ≤ n)
    (h : ∀ w', Own w' base (.slice (some ⟨g, 0, none⟩) n n) (l ++ D.drop l.length) → w.grownBy w' (some g) → wpList Tryz.prog ops Q rest (a.put o.dst (goInt l.length)) w') : wpList Tryz.prog ops Q (o :: rest) a w := by
  obtain ⟨i0, hi, hz0, hz1, hz2⟩ := info_parts info_rect
  obtain ⟨ao, cap, rfl, h1, h2, h3⟩ := hR
  refine wpList_plain hgd fun K hK => ?_
  by_cases he : l = []
  · subst he
    have hrun := run_copy_zero (P := Tryz.prog) w 47 47 o.type 46 (some ⟨g, 0, none⟩) ao n n 0 cap Tryz.underlying47 (by rw [hi]; rfl) (by simp)
    have hh := h w (by simpa using hO) ⟨rfl, rfl, rfl, Nat.le_refl _, fun _ _ _ => rfl⟩
    unfold Oper.wp
    simp [execOp, ho, resolve, invoke, builtin, hd, hs, hrun, Result.andThen]
    exact hK _ _ (by simpa using hh)
  · obtain ⟨b, off, rfl, hb, hc⟩ := h3 he
    rcases hO.2 with ⟨e, _⟩ | ⟨k, c, cur, e, hbk, hk, hcc, hm, hz, ht⟩
    · cases e
    · simp only [Value.slice.injEq, Option.some.injEq, Addr.mk.injEq, and_true] at e
      obtain ⟨rfl, e, rfl⟩ := e
      subst hn
      have htl : cur.toList = rcells D := by rw [← ht, List.take_of_length_le (by simp [hz])]
      have hrun := run_copy_wide (P := Tryz.prog) w 47 47 o.type 46 4 g 0 D.length D.length ⟨b, off, none⟩ l.length cap cur 46 (rcells l) l.length Tryz.underlying47 (by rw [hi]; simp [hz1]) hk (Nat.min_eq_left hl).symm (rcells_len l) (fun j v hj => ?_) (by rw [rcells_len]; simp only [Nat.zero_add, hz]; omega) (rcells_one l)
      · have e : (cur.toList.take 0 ++ rcells l ++ cur.toList.drop (0 + (rcells l).length)) = rcells (l ++ D.drop l.length) := by
          rw [htl, rcells_len, List.take_zero, List.nil_append, Nat.zero_add, rcells_drop, rcells_append]
        rw [e] at hrun
        have hh := h (w.setRow g (rcells (l ++ D.drop l.length)).toArray) ?_ ?_
        · unfold Oper.wp
          simp [execOp, ho, resolve, invoke, builtin, hd, hs, hrun, Result.andThen]
          exact hK _ _ hh
        · have el : (l ++ D.drop l.length).length = D.length := by simp; omega
          unfold Own
          rw [el]
          refine ⟨by rw [rcells_len, el], .inr ⟨g, D.length, _, rfl, hbk, setRow_heap w g cur _ _ _ hk, Nat.le_refl _, hm, by simp [rcells_len, el], ?_⟩⟩
          rw [List.take_of_length_le (by simp [rcells_len, el])]
        · exact ⟨rfl, rfl, rfl, by simp [World.setRow], fun k hk hne => setRow_other w g k _ (fun e => hne (by rw [e]))⟩
      · obtain ⟨q, t, hq⟩ : ∃ q t, j = q * 4 + t ∧ t < 4 := ⟨j / 4, j % 4, by omega, by omega⟩
        have hadd : (⟨b, off, none⟩ : Addr).add j = ⟨b, off + j, none⟩ := by unfold Addr.add; split <;> simp_all
        rw [hadd]
        have hjl : j < l.length * 4 := by have := (List.getElem?_eq_some_iff.1 hj).1; rwa [rcells_len] at this
        obtain ⟨r, hr⟩ : ∃ r, l[q]? = some r := ⟨l[q]'(by omega), by simp⟩
        have e1 := rcells_at l q r hr
        have e2 := hc q r hr
        obtain ⟨rfl, ht4⟩ := hq
        unfold RAt at e2
        match t, ht4 with
        | 0, _ => rw [Nat.add_zero] at hj ⊢; rw [e1.1] at hj; cases hj; rw [← e2.1]
        | 1, _ => rw [e1.2.1] at hj; cases hj; rw [← e2.2.1]; rfl
        | 2, _ => rw [e1.2.2.1] at hj; cases hj; rw [← e2.2.2.1]; rfl
        | 3, _ => rw [e1.2.2.2] at hj; cases hj; rw [← e2.2.2.2]; rfl

def rz : Rc := ⟨0, 0, 0, 0⟩
theorem made_rects (n : Nat) : madeCells #[.int .i64 0, .int .i64 0, .int .i64 0, .int .i64 0] (n * 4) = (rcells (List.replicate n rz)).toArray := by
  apply Array.ext'
  have hall : ∀ (n : Nat), rcells (List.replicate n rz) = List.replicate (n * 4) (Value.int .i64 0) := by
    intro n
    induction n with
    | zero => rfl
    | succ n ih => rw [List.replicate_succ, rcells_cons, ih, show (n + 1) * 4 = n * 4 + 1 + 1 + 1 + 1 by omega]; rfl
  rw [hall]
  apply List.ext_getElem?
  intro j
  have hm : ∀ k, (#[Value.int .i64 0, .int .i64 0, .int .i64 0, .int .i64 0] : Array Value)[k % 4]! = .int .i64 0 := by
    intro k
    have : k % 4 < 4 := Nat.mod_lt _ (by omega)
    match k % 4, this with
    | 0, _ => rfl
    | 1, _ => rfl
    | 2, _ => rfl
    | 3, _ => rfl
  by_cases hj : j < n * 4
  · simp [madeCells, hj, hm]
  · simp [madeCells, hj]
/-- A row of n rectangles that was just made. -/
theorem own_made (w : World) (n : Nat) (base : Nat) (hb : base ≤ w.heap.size) (hn : n ≤ 100000000) : Own (w.alloc (.cells (rcells (List.replicate n rz)).toArray 46)) base (.slice (some ⟨w.heap.size, 0, none⟩) n n) (List.replicate n rz) := by
  have h := World.ownsRow_lit (base := base) (e := 46) (size := 4) w (rcells (List.replicate n rz)).toArray n hb (by unfold maxLen; omega) (by simp [rcells_len])
  unfold Own
  rw [List.length_replicate]
  simpa using h
end Go.Proofs.YtfnockbgkcgpkaaGreat
