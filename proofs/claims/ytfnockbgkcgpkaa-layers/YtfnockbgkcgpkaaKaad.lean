import Derived.Test.YtfnockbgkcgpkaaKaac
import Derived.Laws.CopyRow
import Derived.WalkSpells
import Derived.StillTactics
import Derived.OwnWalk
import Derived.Laws.Pointers
import Derived.BigRegion
import Derived.BigQuiet
import Derived.Deep.QuietTactic
import Derived.Deep.RegionHeld3
import Derived.Deep.RegionLaw
import Derived.Deep.AppendLies
set_option linter.all false
namespace Go.Proofs.Ytfnockbgkcgpkaa
open Go.RowKit Go.Proofs.Panes
set_option maxRecDepth 100000

/-- Elements of two cells. -/
abbrev P2 := Value × Value
def c2 (l : List P2) : List Value := l.flatMap fun p => [p.1, p.2]
theorem c2_nil : c2 [] = [] := rfl
theorem c2_cons (p : P2) (l : List P2) : c2 (p :: l) = p.1 :: p.2 :: c2 l := rfl
theorem c2_append (k l : List P2) : c2 (k ++ l) = c2 k ++ c2 l := by simp [c2]
theorem c2_len (l : List P2) : (c2 l).length = l.length * 2 := by
  induction l with
  | nil => rfl
  | cons p l ih => rw [c2_cons]; simp [ih]; omega
theorem c2_take : ∀ (l : List P2) (n : Nat), (c2 l).take (n * 2) = c2 (l.take n)
  | [], n => by simp [c2]
  | p :: l, 0 => by simp [c2]
  | p :: l, n + 1 => by
    rw [show (n + 1) * 2 = n * 2 + 1 + 1 by omega, c2_cons, List.take_succ_cons, List.take_succ_cons, c2_take l n, List.take_succ_cons, c2_cons]
theorem c2_drop : ∀ (l : List P2) (n : Nat), (c2 l).drop (n * 2) = c2 (l.drop n)
  | [], n => by simp [c2]
  | p :: l, 0 => by simp
  | p :: l, n + 1 => by
    rw [show (n + 1) * 2 = n * 2 + 1 + 1 by omega, c2_cons, List.drop_succ_cons, List.drop_succ_cons, c2_drop l n, List.drop_succ_cons]
theorem c2_at : ∀ (l : List P2) (j : Nat) (p : P2), l[j]? = some p → (c2 l)[j * 2]? = some p.1 ∧ (c2 l)[j * 2 + 1]? = some p.2
  | [], j, p, h => by simp at h
  | q :: l, 0, p, h => by simp at h; subst h; simp [c2_cons]
  | q :: l, j + 1, p, h => by
    have ih := c2_at l j p (by simpa using h)
    rw [c2_cons, show (j + 1) * 2 = j * 2 + 1 + 1 by omega, show j * 2 + 1 + 1 + 1 = (j * 2 + 1) + 1 + 1 by omega]
    simpa using ih
theorem c2_inj : ∀ (k l : List P2), c2 k = c2 l → k = l
  | [], [], _ => rfl
  | [], q :: l, h => by simp [c2_cons, c2_nil] at h
  | p :: k, [], h => by simp [c2_cons, c2_nil] at h
  | p :: k, q :: l, h => by
    rw [c2_cons, c2_cons] at h
    simp only [List.cons.injEq] at h
    rw [c2_inj k l h.2.2, show p = q from Prod.ext h.1 h.2.1]
theorem c2_of : ∀ (n : Nat) (cs : List Value), cs.length = n * 2 → ∃ l : List P2, l.length = n ∧ c2 l = cs
  | 0, cs, h => ⟨[], rfl, (List.eq_nil_of_length_eq_zero (by omega)).symm⟩
  | n + 1, [], h => by simp at h
  | n + 1, [a], h => by simp at h; omega
  | n + 1, a :: b :: cs, h => by
    obtain ⟨l, h1, h2⟩ := c2_of n cs (by simp at h; omega)
    exact ⟨(a, b) :: l, by simp [h1], by rw [c2_cons, h2]⟩
def One2 (l : List P2) : Prop := ∀ p ∈ l, p.1.oneCell' = true ∧ p.2.oneCell' = true
theorem One2.cells {l : List P2} (h : One2 l) : ∀ u ∈ c2 l, u.oneCell' = true := by
  intro u hu
  simp only [c2, List.mem_flatMap] at hu
  obtain ⟨p, hp, h'⟩ := hu
  simp at h'
  rcases h' with rfl | rfl
  · exact (h p hp).1
  · exact (h p hp).2
/-- A row of such elements, whole. -/
abbrev Row2 (w : World) (g : Nat) (t : TypeId) (L : List P2) : Prop := w.heap[g]? = some (.cells (c2 L).toArray t (0, 0))
abbrev Own2 (w : World) (base : Nat) (t : TypeId) (v : Value) (l : List P2) : Prop := w.ownsRow base t 2 v l.length (c2 l)
theorem Own2.row {w : World} {base : Nat} {t : TypeId} {g n cap : Nat} {l : List P2} (h : Own2 w base t (.slice (some ⟨g, 0, none⟩) n cap) l) : ∃ L, Row2 w g t (l ++ L) ∧ (l ++ L).length = cap ∧ n = l.length ∧ base ≤ g ∧ cap ≤ maxLen := by
  rcases h.2 with ⟨e, _⟩ | ⟨k, c, cur, e, hb, hk, hc, hm, hz, ht⟩
  · cases e
  · simp only [Value.slice.injEq, Option.some.injEq, Addr.mk.injEq, and_true] at e
    obtain ⟨rfl, rfl, rfl⟩ := e
    obtain ⟨M, hM, he⟩ := c2_of cap cur.toList (by simpa using hz)
    have hl : M.take l.length = l := by
      apply c2_inj
      rw [← c2_take, he, ht]
    refine ⟨M.drop l.length, ?_, ?_, rfl, hb, hm⟩
    · rw [show l ++ M.drop l.length = M by conv => lhs; rw [← hl]; rw [List.length_take, Nat.min_eq_left (by omega)]; rw [List.take_append_drop]]
      show w.heap[g]? = _
      rw [he, hk]
    · rw [List.length_append, List.length_drop]; omega
theorem own2_of {w : World} {base : Nat} {t : TypeId} {g cap : Nat} {l R : List P2} (h : Row2 w g t (l ++ R)) (hc : (l ++ R).length = cap) (hb : base ≤ g) (hm : cap ≤ maxLen) : Own2 w base t (.slice (some ⟨g, 0, none⟩) l.length cap) l := by
  refine ⟨c2_len l, .inr ⟨g, cap, _, rfl, hb, h, by simp at hc; omega, hm, by simp [c2_len]; simp at hc; omega, ?_⟩⟩
  rw [List.toList_toArray, c2_take]
  simp

theorem c2_rep (z : P2) : ∀ (m i : Nat), i < m * 2 → (c2 (List.replicate m z))[i]? = some (#[z.1, z.2][i % 2]!)
  | 0, i, h => by omega
  | m + 1, 0, h => by simp [List.replicate_succ, c2_cons]
  | m + 1, 1, h => by simp [List.replicate_succ, c2_cons]
  | m + 1, i + 2, h => by
    have := c2_rep z m i (by omega)
    rw [List.replicate_succ, c2_cons, show (i + 2) % 2 = i % 2 by omega]
    simpa using this
theorem zeroCells_two (z : P2) (m : Nat) : (Builtin.zeroCells #[z.1, z.2] m).toList = c2 (List.replicate m z) := by
  apply List.ext_getElem?
  intro i
  by_cases h : i < m * 2
  · rw [c2_rep z m i h]
    simp [Builtin.zeroCells, h]
  · rw [List.getElem?_eq_none (by simp [Builtin.zeroCells]; omega), List.getElem?_eq_none (by rw [c2_len]; simp; omega)]
/-- 'append' where there is room, into a row that is known whole. -/
theorem run_append_row2 {P : Program} {w : World} {T ty e : TypeId} {g n cap : Nat} {L X : List P2} {a : Addr} {m mc : Nat} (hu : P.underlying T = some (.slice e)) (hs : (P.info? e).map (·.size) = some 2)
    (hg : Row2 w g e L) (hcap : L.length = cap) (hm : X.length = m) (hX : ∀ j v, (c2 X)[j]? = some v → w.cell? (a.add j) = some v) (hroom : n + m ≤ cap) (h1 : One2 X) :
    (Builtin.append_ #[T, T] ty #[.slice (some ⟨g, 0, none⟩) n cap, .slice (some a) m mc]).run P w = .ok (.slice (some ⟨g, 0, none⟩) (n + m) cap) (w.setRow g (c2 (L.take n ++ X ++ L.drop (n + m))).toArray) := by
  have hl := run_loadCells_list (P := P) w a (c2 X) hX
  have hst := run_storeCells_at P g (n * 2) e (c2 X) 0 _ w hg (by simp [c2_len, hm]; omega) h1.cells
  cases hq : P.info? e with
  | none => simp [hq] at hs
  | some i =>
    have hi : i.size = 2 := by simpa [hq] using hs
    rw [c2_len, hm] at hl
    have hadd : (⟨g, 0, none⟩ : Addr).add (n * 2) = ⟨g, n * 2, none⟩ := by unfold Addr.add; split <;> simp_all
    have e1 : (c2 L).take (n * 2 + 0) ++ c2 X ++ (c2 L).drop (n * 2 + 0 + (c2 X).length) = c2 (L.take n ++ X ++ L.drop (n + m)) := by
      rw [Nat.add_zero, c2_take, c2_len, hm, ← Nat.add_mul, c2_drop, c2_append, c2_append]
    rw [List.toList_toArray, e1] at hst
    simp [Builtin.append_, run_underlying hu, Builtin.lenOf, Builtin.firstCells, sizeOf, typeInfo, hq, hi, hl, hadd, hst, hroom]
/-- The same of nothing. -/
theorem run_append_none2 {P : Program} {w : World} {T ty e : TypeId} {s a : Option Addr} {n cap mc : Nat} (hu : P.underlying T = some (.slice e)) (hs : (P.info? e).map (·.size) = some 2) (hroom : n ≤ cap) :
    (Builtin.append_ #[T, T] ty #[.slice s n cap, .slice a 0 mc]).run P w = .ok (.slice s n cap) w := by
  cases hq : P.info? e with
  | none => simp [hq] at hs
  | some i =>
    have hl : ∀ (x : Addr), (loadCells x 0).run P w = .ok #[] w := fun x => by simpa using run_loadCells_list (P := P) w x [] (by simp)
    cases s <;> cases a <;> simp [Builtin.append_, run_underlying hu, Builtin.lenOf, Builtin.firstCells, sizeOf, typeInfo, hq, hl, hroom, storeCells]
theorem run_copy_row2 {P : Program} {w : World} {T ty e : TypeId} {g o dl dc : Nat} {L X : List P2} {a : Addr} {sl sc : Nat} (hu : P.underlying T = some (.slice e)) (hs : (P.info? e).map (·.size) = some 2)
    (hg : Row2 w g e L) (hm : X.length = Nat.min sl dl) (hX : ∀ j v, (c2 X)[j]? = some v → w.cell? (a.add j) = some v) (hroom : o + X.length ≤ L.length) (h1 : One2 X) :
    (Builtin.copy_ #[T, T] ty #[.slice (some ⟨g, o * 2, none⟩) dl dc, .slice (some a) sl sc]).run P w = .ok (goInt X.length) (w.setRow g (c2 (L.take o ++ X ++ L.drop (o + X.length))).toArray) := by
  have hl := run_loadCells_list (P := P) w a (c2 X) hX
  have hst := run_storeCells_at P g (o * 2) e (c2 X) 0 _ w hg (by simp [c2_len]; omega) h1.cells
  cases hq : P.info? e with
  | none => simp [hq] at hs
  | some i =>
    have hi : i.size = 2 := by simpa [hq] using hs
    rw [c2_len] at hl
    have e1 : (c2 L).take (o * 2 + 0) ++ c2 X ++ (c2 L).drop (o * 2 + 0 + (c2 X).length) = c2 (L.take o ++ X ++ L.drop (o + X.length)) := by
      rw [Nat.add_zero, c2_take, c2_len, ← Nat.add_mul, c2_drop, c2_append, c2_append]
    rw [List.toList_toArray, e1] at hst
    simp [Builtin.copy_, run_underlying hu, Builtin.lenOf, Builtin.firstCells, sizeOf, typeInfo, hq, hi, ← hm, hl, hst]
theorem run_clear_row2 {P : Program} {w : World} {T ty e : TypeId} {g o m mc : Nat} {L : List P2} {z : P2} (hu : P.underlying T = some (.slice e)) (hz : (zeroValue e).run P w = .ok (.agg #[z.1, z.2]) w)
    (hg : Row2 w g e L) (hm : 0 < m) (hroom : o + m ≤ L.length) (h1 : z.1.oneCell' = true ∧ z.2.oneCell' = true) :
    (Builtin.clear_ #[T] ty #[.slice (some ⟨g, o * 2, none⟩) m mc]).run P w = .ok (.tuple #[]) (w.setRow g (c2 (L.take o ++ List.replicate m z ++ L.drop (o + m))).toArray) := by
  have hO : One2 (List.replicate m z) := fun p hp => by rw [List.eq_of_mem_replicate hp]; exact h1
  have hst := run_storeCells_at P g (o * 2) e (c2 (List.replicate m z)) 0 _ w hg (by simp [c2_len]; omega) hO.cells
  have e1 : (c2 L).take (o * 2 + 0) ++ c2 (List.replicate m z) ++ (c2 L).drop (o * 2 + 0 + (c2 (List.replicate m z)).length) = c2 (L.take o ++ List.replicate m z ++ L.drop (o + m)) := by
    rw [Nat.add_zero, c2_take, c2_len, List.length_replicate, ← Nat.add_mul, c2_drop, c2_append, c2_append]
  rw [List.toList_toArray, e1] at hst
  cases m with
  | zero => omega
  | succ m =>
    have ez : (Value.agg #[z.1, z.2]).cells = #[z.1, z.2] := rfl
    simp [Builtin.clear_, run_underlying hu, hz, ez, zeroCells_two, hst, -List.reduceReplicate]
end Go.Proofs.Ytfnockbgkcgpkaa
set_option linter.all false
namespace Go.Proofs.Ytfnockbgkcgpkaa
open Go.RowKit Go.Proofs.Panes
set_option maxRecDepth 100000

/-- A builtin of two arguments as a step of a region that draws. -/
theorem step_append_run {P : Program} {ops : Array Oper} {o : Oper} {a : Act} {w : World} {K : Act → World → Prop} {Q : Exit → Act → World → Prop} {E : Prop}
    (hg : o.guard = none) (s x : Operand) (t : TypeId) (hop : o.op = Op.call { callee := Callee.builtin Builtin.append, args := #[s, x], argTypes := #[t, t] })
    (v u r : Value) (w' : World) (hs : a.eval s = v) (hx : a.eval x = u) (hrun : ∀ ty, (Builtin.append_ #[t, t] ty #[v, u]).run P w = .ok r w') (hK : K (a.put o.dst r) w') :
    if Region.wanted o (yielded ops a.tmps) = true then Oper.wp P o a w K Q else E := by
  have hw : Region.wanted o (yielded ops a.tmps) = true := by simp [Region.wanted, hg]
  rw [if_pos hw]
  unfold Oper.wp
  simp [execOp, hop, resolve, invoke, builtin, hs, hx, hrun, Result.andThen]
  exact hK
theorem step_copy_run {P : Program} {ops : Array Oper} {o : Oper} {a : Act} {w : World} {K : Act → World → Prop} {Q : Exit → Act → World → Prop} {E : Prop}
    (hg : o.guard = none) (s x : Operand) (t : TypeId) (hop : o.op = Op.call { callee := Callee.builtin Builtin.copy, args := #[s, x], argTypes := #[t, t] })
    (v u r : Value) (w' : World) (hs : a.eval s = v) (hx : a.eval x = u) (hrun : ∀ ty, (Builtin.copy_ #[t, t] ty #[v, u]).run P w = .ok r w') (hK : K (a.put o.dst r) w') :
    if Region.wanted o (yielded ops a.tmps) = true then Oper.wp P o a w K Q else E := by
  have hw : Region.wanted o (yielded ops a.tmps) = true := by simp [Region.wanted, hg]
  rw [if_pos hw]
  unfold Oper.wp
  simp [execOp, hop, resolve, invoke, builtin, hs, hx, hrun, Result.andThen]
  exact hK
theorem wpList_builtin1 {P : Program} {w : World} {ops : Array Oper} {rest : List Oper} {o : Oper} {a : Act} {Q : Exit → Act → World → Prop} (hgd : o.guard = none) (s : Operand) (t : TypeId)
    (ho : o.op = .call { callee := .builtin .clear, args := #[s], argTypes := #[t] }) (v r : Value) (w' : World) (hs : a.eval s = v) (hrun : ∀ ty, (Builtin.clear_ #[t] ty #[v]).run P w = .ok r w')
    (h : wpList P ops Q rest (a.put o.dst r) w') : wpList P ops Q (o :: rest) a w := by
  refine wpList_plain hgd fun K hK => ?_
  unfold Oper.wp
  simp [execOp, ho, resolve, invoke, builtin, hs, hrun, Result.andThen]
  exact hK _ _ h

theorem info_key : (Try.prog.info? 143).map (fun i => (i.zero, i.size, i.bytes)) = some (some (.agg #[.int .i64 0, .int .i64 0]), 2, 16) := by kernel_rfl
def zkey : P2 := (.int .i64 0, .int .i64 0)

set_option maxHeartbeats 1600000 in
theorem kdelete_any {w : World} {base g cap : Nat} {l : List P2} (hO : Own2 w base 143 (.slice (some ⟨g, 0, none⟩) l.length cap) l) (h1 : One2 l) (i j : Nat) (hij : i < j) (hj : j ≤ l.length) (hl : l.length ≤ 1000) (D : List P2) (hD : D = l.take i ++ l.drop j) :
    Calls Try.prog 145 #[.slice (some ⟨g, 0, none⟩) l.length cap, .int .i64 (i : Int), .int .i64 (j : Int)] w fun e w' =>
      e = .returned (.slice (some ⟨g, 0, none⟩) D.length cap) ∧ Own2 w' base 143 (.slice (some ⟨g, 0, none⟩) D.length cap) D ∧ But (fun k => k = g) w w' := by
  obtain ⟨R, hR, hc, _, hb, hm⟩ := hO.row
  obtain ⟨n, hn⟩ : ∃ n, n = l.length := ⟨_, rfl⟩
  have hcn : n ≤ cap := by simp at hc; omega
  rw [← hn]
  have HR := hide hR
  have HN := hide hn
  have h1' := hide h1
  have i0 : (0 : Int) ≤ (i : Int) := by omega
  have i1 : (i : Int) ≤ (j : Int) := by omega
  have i2 : (j : Int) ≤ (n : Int) := by omega
  have i3 : (n : Int) ≤ (cap : Int) := by omega
  have i4 : ((i : Int) == (j : Int)) = false := by simp; omega
  clear hO hR h1 hn
  go_enter Try.func145, Try.ntmps145
  go_wp2
  obtain ⟨L, hL⟩ : ∃ L, L = l ++ R := ⟨_, rfl⟩
  have hLl : L.length = cap := by rw [hL]; exact hc
  have hn := unhide HN
  have hT : L.take n = l := by rw [hL, hn]; simp
  obtain ⟨m, hm'⟩ : ∃ m, m = n - j := ⟨_, rfl⟩
  obtain ⟨X, hX⟩ : ∃ X, X = l.drop j := ⟨_, rfl⟩
  have hXl : X.length = m := by rw [hX, List.length_drop]; omega
  have hX1 : One2 X := fun p hp => (unhide h1') p (List.mem_of_mem_drop (hX ▸ hp))
  have hXc : ∀ (t : Nat) (v : Value), (c2 X)[t]? = some v → w.cell? ⟨g, j * 2 + t, none⟩ = some v := by
    intro t v hv
    have := unhide HR
    rw [blk_cell this]
    rw [List.getElem?_toArray, c2_append, List.getElem?_append_left (by
      have : t < (c2 X).length := (List.getElem?_eq_some_iff.1 hv).1
      rw [c2_len, hXl] at this
      rw [c2_len]; omega)]
    rw [hX, ← c2_drop, List.getElem?_drop] at hv
    exact hv
  have hrow : Row2 w.drew g 143 L := by rw [hL]; exact unhide HR
  obtain ⟨i0', hi, hz0, hz1, hz2⟩ := info_parts info_key
  have hsz : (Try.prog.info? 143).map (·.size) = some 2 := by rw [hi]; simp [hz1]
  obtain ⟨w1, hw1⟩ : ∃ w1, w1 = w.drew.setRow g (c2 (L.take i ++ X ++ L.drop (i + m))).toArray := ⟨_, rfl⟩
  obtain ⟨q, hq⟩ : ∃ q, q = i + (n - j) := ⟨_, rfl⟩
  have hAp : ∀ ty, (Builtin.append_ #[140, 140] ty #[.slice (some ⟨g, 0, none⟩) i cap, .slice (if cap = j then some ⟨g, 0, none⟩ else some ⟨g, j * 2, none⟩) (n - j) (cap - j)]).run Try.prog w.drew = .ok (.slice (some ⟨g, 0, none⟩) q cap) w1 := by
    intro ty
    rw [hq, hw1, ← hm']
    by_cases hcj : cap = j
    · rw [if_pos hcj]
      refine run_append_row2 Try.underlying140 hsz hrow hLl hXl ?_ (by omega) hX1
      intro t v hv
      rw [List.eq_nil_of_length_eq_zero (hXl.trans (by omega))] at hv; simp [c2] at hv
    · rw [if_neg hcj]
      refine run_append_row2 Try.underlying140 hsz hrow hLl hXl ?_ (by omega) hX1
      intro t v hv
      have hadd : (⟨g, j * 2, none⟩ : Addr).add t = ⟨g, j * 2 + t, none⟩ := by unfold Addr.add; split <;> simp_all
      rw [hadd]
      exact hXc t v hv
  have hrow1 : Row2 w1 g 143 (L.take i ++ X ++ L.drop (i + m)) := by rw [hw1]; exact setRow_heap _ _ _ _ _ _ hrow
  have hbut1 : But (fun k => k = g) w w1 := by
    rw [hw1]
    exact ⟨rfl, rfl, rfl, by simp, fun k _ hk => setRow_other _ _ _ _ hk⟩
  have HAp := hide hAp
  have HR1 := hide hrow1
  have HB1 := hide hbut1
  have HX := hide hX
  have HT := hide hT
  have HLl := hide hLl
  have HXl := hide hXl
  have HHc := hide hc
  clear hAp hrow1 hbut1 hXc hrow hX1 hL hX hT hLl hXl hc hn hz0 hz1 hz2 hsz hi
  have i6 : (i : Int) ≤ (cap : Int) := by omega
  have i7 : (j : Int) ≤ (cap : Int) := by omega
  have i8 : (q : Int) ≤ (n : Int) := by omega
  have i9 : ¬ cap = q := by omega
  have j0 : (0 : Int) ≤ (q : Int) := by omega
  have jm : 0 < n - q := by omega
  have hqm : q = i + m := by omega
  have hqn : q + (n - q) = n := by omega
  have hlen : D.length = q := by rw [hD, List.length_append, List.length_take, List.length_drop, ← unhide HN]; omega
  have HQ := hide (And.intro hqm (And.intro hqn (And.intro hlen (And.intro hij (And.intro hj hm')))))
  have HD := hide hD
  clear hw1 hm' hq hqm hqn hlen hj hij hD
  obtain ⟨w2, hw2⟩ : ∃ w2, w2 = w1.setRow g (c2 ((L.take i ++ X ++ L.drop (i + m)).take q ++ List.replicate (n - q) zkey ++ (L.take i ++ X ++ L.drop (i + m)).drop (q + (n - q)))).toArray := ⟨_, rfl⟩
  have hcl : ∀ mc, (Builtin.clear_ #[140] 0 #[.slice (some ⟨g, q * 2, none⟩) (n - q) mc]).run Try.prog w1 = .ok (.tuple #[]) w2 := fun mc => by
    rw [hw2]
    exact run_clear_row2 (m := n - q) (o := q) (z := zkey) Try.underlying140 (by rfl) (unhide HR1) jm (by rw [List.length_append, List.length_append, List.length_take, List.length_drop, unhide HXl, unhide HLl]; have := unhide HQ; omega) ⟨rfl, rfl⟩
  have HW2 := hide hw2
  clear hw2
  go_region_law (refine step_append_run (by rfl) _ _ 140 (by rfl) _ _ _ _ (by rfl) (by rfl) (unhide HAp) ?_)
  simp only [Exit.then]
  go_simp
  go_wp2
  all_goals
    go_ret
    rw [unhide HW2]
    obtain ⟨q1, q2, q3, q4, q5, q6⟩ := unhide HQ
    have hn := unhide HN
    have hlt : (L.take i ++ X).length = q := by rw [List.length_append, List.length_take, unhide HXl, unhide HLl]; omega
    have hli : L.take i ++ X = D := by
      rw [unhide HX, unhide HD]
      congr 1
      rw [← unhide HT, List.take_take, Nat.min_eq_left (by omega)]
    have hM : (L.take i ++ X ++ L.drop (i + m)).take q = D := by
      rw [List.take_append_of_le_length (by omega), List.take_of_length_le (by omega), hli]
    refine ⟨by rw [q3]; rfl, ?_, ?_⟩
    · have hr2 := setRow_heap w1 g _ (c2 ((L.take i ++ X ++ L.drop (i + m)).take q ++ List.replicate (n - q) zkey ++ (L.take i ++ X ++ L.drop (i + m)).drop (q + (n - q)))).toArray _ _ (unhide HR1)
      rw [hM, List.append_assoc] at hr2
      rw [hM, List.append_assoc]
      refine own2_of hr2 ?_ hb (by first | exact hm | omega)
      rw [List.length_append, q3, List.length_append, List.length_replicate, List.length_drop, List.length_append, hlt, List.length_drop, unhide HLl]
      omega
    · exact (unhide HB1).trans ⟨rfl, rfl, rfl, by simp, fun k _ hk => setRow_other _ _ _ _ hk⟩
end Go.Proofs.Ytfnockbgkcgpkaa
