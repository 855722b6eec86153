import Derived.Test.YtfnockbgkcgpkaaKabq
import Derived.Test.YtfnockbgkcgpkaaRows
import Derived.ProofKit
import Derived.OpenShut
import Derived.ShutString
import Derived.ChangeOld
import Derived.Below
import Derived.Lib.SmallJoins
import Derived.Deep.Slices
import Derived.JoinedCond
set_option linter.all false
namespace Go.Proofs.Ytfnockbgkcgpkaa
open Go.ChangeShapes Go.WideShapes Go.ChangeAt Go.RowKit Go.Proofs.Panes Go.Deep Go.Joins
namespace KRead
set_option maxRecDepth 100000
theorem cells_int : Try.prog.cellsOf 3 = 1 := by kernel_rfl
theorem cells_mv : Try.prog.cellsOf 61 = 3 := by kernel_rfl
theorem cells_opn : Try.prog.cellsOf 72 = 8 := by kernel_rfl
theorem cells_ints : Try.prog.cellsOf 23 = 1 := by kernel_rfl
theorem cells_opns : Try.prog.cellsOf 73 = 1 := by kernel_rfl
theorem cells_case : Try.prog.cellsOf 40 = 8 := by kernel_rfl
theorem bulk_pos {H : Type} (d : DataW H) : 1 ≤ Rows.uptoBulk d := by
  cases d with
  | lit l => cases l <;> simp [Rows.uptoBulk]
  | nil => simp [Rows.uptoBulk]
  | ptr d => simp [Rows.uptoBulk]
  | slice elems spare => simp [Rows.uptoBulk]
  | agg parts => simp [Rows.uptoBulk]
  | iface t d => simp [Rows.uptoBulk]
  | map entries => simp [Rows.uptoBulk]
  | held h => simp [Rows.uptoBulk]
theorem bulk_mem {H : Type} {d : DataW H} {l : List (DataW H)} (h : d ∈ l) : Rows.uptoBulk d ≤ Rows.uptoBulkAll l := by
  induction l with
  | nil => cases h
  | cons x r ih =>
    simp only [Rows.uptoBulkAll]
    cases List.mem_cons.1 h with
    | inl e => subst e; omega
    | inr e => have := ih e; omega
theorem bulk_len {H : Type} (l : List (DataW H)) : l.length ≤ Rows.uptoBulkAll l := by
  induction l with
  | nil => simp [Rows.uptoBulkAll]
  | cons x r ih => have := bulk_pos x; simp only [Rows.uptoBulkAll, List.length_cons]; omega
theorem bulk_slice {H : Type} (elems spare : List (DataW H)) : Rows.uptoBulkAll elems ≤ Rows.uptoBulk (.slice elems spare) := by
  simp only [Rows.uptoBulk]; omega


theorem bulk_agg {H : Type} (parts : List (DataW H)) : Rows.uptoBulkAll parts ≤ Rows.uptoBulk (.agg parts) := by
  simp only [Rows.uptoBulk]; omega
theorem trod_struct8 {H : Type} {enc : TypeId × Value → H} {P : Program} {w : World} {base : Nat} {spare : Nat → Bool} {held : Bool} {t : TypeId} {f0 f1 f2 f3 f4 f5 f6 f7 : Field} {fuel : Nat} {cs : List Value} {x : DataW H × List MemPlace} (ht : P.underlying t = some (.struct #[f0, f1, f2, f3, f4, f5, f6, f7])) (h : DataW.trod enc P w base spare held fuel t cs = some x) :
    ∃ y0 y1 y2 y3 y4 y5 y6 y7 n, x.1 = .agg [y0.1, y1.1, y2.1, y3.1, y4.1, y5.1, y6.1, y7.1] ∧ cs.length = P.cellsOf t ∧ DataW.trod enc P w base spare held n f0.type ((cs.drop f0.offset).take (P.cellsOf f0.type)) = some y0 ∧
      DataW.trod enc P w base spare held n f1.type ((cs.drop f1.offset).take (P.cellsOf f1.type)) = some y1 ∧ DataW.trod enc P w base spare held n f2.type ((cs.drop f2.offset).take (P.cellsOf f2.type)) = some y2 ∧
      DataW.trod enc P w base spare held n f3.type ((cs.drop f3.offset).take (P.cellsOf f3.type)) = some y3 ∧ DataW.trod enc P w base spare held n f4.type ((cs.drop f4.offset).take (P.cellsOf f4.type)) = some y4 ∧
      DataW.trod enc P w base spare held n f5.type ((cs.drop f5.offset).take (P.cellsOf f5.type)) = some y5 ∧ DataW.trod enc P w base spare held n f6.type ((cs.drop f6.offset).take (P.cellsOf f6.type)) = some y6 ∧
      DataW.trod enc P w base spare held n f7.type ((cs.drop f7.offset).take (P.cellsOf f7.type)) = some y7 := by
  obtain ⟨xs, n, _, rfl, hl, hlen, hf⟩ := DataW.trod_struct ht h
  match xs, hlen with
  | [y0, y1, y2, y3, y4, y5, y6, y7], _ => exact ⟨y0, y1, y2, y3, y4, y5, y6, y7, n, by simp, hl, by simpa using hf 0 f0 rfl, by simpa using hf 1 f1 rfl, by simpa using hf 2 f2 rfl, by simpa using hf 3 f3 rfl, by simpa using hf 4 f4 rfl, by simpa using hf 5 f5 rfl, by simpa using hf 6 f6 rfl, by simpa using hf 7 f7 rfl⟩

theorem spot_of {W : World} {a : Addr} {k : Nat} {u : Value} (hk : k = 0) (h : W.cell? (a.add k) = some u) : a.spot = none := by
  subst hk
  obtain ⟨b, off, spot⟩ := a
  simpa [Addr.add] using World.cell?_spot h
theorem add_none (b off j : Nat) : (⟨b, off, none⟩ : Addr).add j = ⟨b, off + j, none⟩ := by unfold Addr.add; split <;> simp_all

/-- A list of numbers that came in. -/
theorem ints_of_trod {H : Type} {enc : TypeId × Value → H} {W : World} {base : Nat} {spare : Nat → Bool} {held : Bool} {fuel : Nat} {v : Value} {x : DataW H × List MemPlace}
    (h : DataW.trod enc Try.prog W base spare held fuel 23 [v] = some x) : ∃ l, RdN (fun k => k < W.heap.size) W v l ∧ l.length ≤ Rows.uptoBulk x.1 := by
  rcases open_slice1 Try.underlying23 cells_int h with ⟨hcs, _⟩ | ⟨a, len, cap, m, n, V, D, Pl, hcs, hb, hl, hm, hmm, hxx, hx⟩
  · simp only [List.cons.injEq, and_true] at hcs
    subst hcs
    exact ⟨[], ⟨none, 0, rfl, Nat.le_refl _, by simp [maxLen], fun h => absurd rfl h⟩, by simp⟩
  · simp only [List.cons.injEq, and_true] at hcs
    subst hcs
    have hlm : len ≤ m := by rw [hmm]; split <;> omega
    have each : ∀ i, i < len → ∃ z : Int, V i = .int .i64 z := by
      intro i hi
      obtain ⟨_, h2⟩ := hx i (by omega)
      obtain ⟨n0, e0, _, q0⟩ := DataW.trod_int Try.underlying3 h2
      simp at e0
      exact ⟨n0, e0⟩
    obtain ⟨R, hR⟩ := @choose_lt Int ⟨0⟩ _ _ each
    refine ⟨(List.range len).map R, ⟨some a, cap, by simp, by simpa using hl, hm, fun hne => ?_⟩, ?_⟩
    · have hpos : 0 < len := by
        rcases Nat.eq_zero_or_pos len with e | e
        · subst e; simp at hne
        · exact e
      have hc := (hx 0 (by omega)).1
      have hspot := spot_of (by omega) hc
      obtain ⟨b, off, spot⟩ := a
      simp only at hspot
      subst hspot
      have hlt := World.block_lt_of_cell? W _ hc
      have hlt' : b < W.heap.size := by simpa [add_none] using hlt
      refine ⟨b, off, rfl, hlt', hlt', fun j z hj => ?_⟩
      have hj' : j < len := by
        have := (List.getElem?_eq_some_iff.1 hj).1; simpa using this
      have he : R j = z := by simpa [hj'] using hj
      have h5 := (hx j (by omega)).1
      rw [add_none, hR j hj', he] at h5
      exact h5
    · rw [hxx]
      have h1 := bulk_slice ((List.range len).map D) ((List.range (m - len)).map fun j => D (len + j))
      have h2 := bulk_len ((List.range len).map D)
      simp at h2
      simp only [List.length_map, List.length_range]
      omega

/-- A transaction that came in. -/
theorem opns_of_trod {H : Type} {enc : TypeId × Value → H} {W : World} {base : Nat} {spare : Nat → Bool} {held : Bool} {fuel : Nat} {v : Value} {x : DataW H × List MemPlace}
    (h : DataW.trod enc Try.prog W base spare held fuel 73 [v] = some x) : ∃ l, RdO (fun k => k < W.heap.size) W v l ∧ (∃ ao cap, v = .slice ao l.length cap ∧ (ao = none → cap = 0)) ∧ l.length ≤ Rows.uptoBulk x.1 ∧ ∀ o ∈ l, o.px.length ≤ Rows.uptoBulk x.1 := by
  rcases open_slice Try.underlying73 h with ⟨hcs, _⟩ | ⟨a, len, cap, m, n, D, Pl, hcs, hb, hl, hm, hmm, hxx, hx⟩
  · simp only [List.cons.injEq, and_true] at hcs
    subst hcs
    exact ⟨[], ⟨none, 0, rfl, Nat.le_refl _, by simp [maxLen], fun h => absurd rfl h⟩, ⟨none, 0, rfl, fun _ => rfl⟩, by simp, fun o ho => by simp at ho⟩
  · simp only [List.cons.injEq, and_true] at hcs
    subst hcs
    have hlm : len ≤ m := by rw [hmm]; split <;> omega
    have hbk : ∀ i, i < len → Rows.uptoBulk (D i) ≤ Rows.uptoBulk x.1 := fun i hi => by
      rw [hxx]
      exact Nat.le_trans (bulk_mem (List.mem_map.2 ⟨i, by simpa using hi, rfl⟩)) (bulk_slice ((List.range len).map D) ((List.range (m - len)).map fun j => D (len + j)))
    have each : ∀ i, i < len → ∃ o : Opn, o.px.length ≤ Rows.uptoBulk x.1 ∧ W.cell? (a.add (i * 8)) = some (.int .i64 o.kind) ∧ W.cell? (a.add (i * 8 + 1)) = some (.int .i64 o.surf) ∧ W.cell? (a.add (i * 8 + 2)) = some (.int .i64 o.x) ∧ W.cell? (a.add (i * 8 + 3)) = some (.int .i64 o.y) ∧ W.cell? (a.add (i * 8 + 4)) = some (.int .i64 o.w) ∧ W.cell? (a.add (i * 8 + 5)) = some (.int .i64 o.h) ∧ (∃ pv, W.cell? (a.add (i * 8 + 6)) = some pv ∧ RdN (fun k => k < W.heap.size) W pv o.px) ∧ W.cell? (a.add (i * 8 + 7)) = some (.int .i64 o.mark) := by
      intro i hi
      obtain ⟨cs', h1, h2⟩ := hx i (by omega)
      rw [cells_opn] at h1
      obtain ⟨_, hlen, hcell⟩ := World.cells?_some h1
      obtain ⟨y0, y1, y2, y3, y4, y5, y6, y7, k, ey, _, f0, f1, f2, f3, f4, f5, f6, f7⟩ := trod_struct8 Try.underlying72 h2
      simp only [cells_int, cells_ints] at f0 f1 f2 f3 f4 f5 f6 f7
      match cs', hlen with
      | [u0, u1, u2, u3, u4, u5, u6, u7], _ =>
        obtain ⟨n0, e0, _, _⟩ := DataW.trod_int Try.underlying3 f0
        obtain ⟨n1, e1, _, _⟩ := DataW.trod_int Try.underlying3 f1
        obtain ⟨n2, e2, _, _⟩ := DataW.trod_int Try.underlying3 f2
        obtain ⟨n3, e3, _, _⟩ := DataW.trod_int Try.underlying3 f3
        obtain ⟨n4, e4, _, _⟩ := DataW.trod_int Try.underlying3 f4
        obtain ⟨n5, e5, _, _⟩ := DataW.trod_int Try.underlying3 f5
        obtain ⟨n7, e7, _, _⟩ := DataW.trod_int Try.underlying3 f7
        have f6' : DataW.trod enc Try.prog W base spare held k 23 [u6] = some y6 := by simpa using f6
        have ey' : D i = .agg [y0.1, y1.1, y2.1, y3.1, y4.1, y5.1, y6.1, y7.1] := ey
        have hw6 : Rows.uptoBulk y6.1 ≤ Rows.uptoBulk x.1 := Nat.le_trans (by
          rw [ey']
          exact Nat.le_trans (bulk_mem (by simp)) (bulk_agg _)) (hbk i hi)
        obtain ⟨px, hpx, hpl0⟩ := ints_of_trod f6'
        have hpl := Nat.le_trans hpl0 hw6
        simp at e0 e1 e2 e3 e4 e5 e7
        subst e0 e1 e2 e3 e4 e5 e7
        have c0 := hcell 0 (by omega)
        have c1 := hcell 1 (by omega)
        have c2 := hcell 2 (by omega)
        have c3 := hcell 3 (by omega)
        have c4 := hcell 4 (by omega)
        have c5 := hcell 5 (by omega)
        have c6 := hcell 6 (by omega)
        have c7 := hcell 7 (by omega)
        rw [add_add] at c0 c1 c2 c3 c4 c5 c6 c7
        exact ⟨⟨n0, n1, n2, n3, n4, n5, px, n7⟩, hpl, by simpa using c0, by simpa using c1, by simpa using c2, by simpa using c3, by simpa using c4, by simpa using c5, ⟨u6, by simpa using c6, hpx⟩, by simpa using c7⟩
    obtain ⟨R, hR⟩ := @choose_lt Opn ⟨⟨0, 0, 0, 0, 0, 0, [], 0⟩⟩ _ _ each
    refine ⟨(List.range len).map R, ⟨some a, cap, by simp, by simpa using hl, hm, fun hne => ?_⟩, ⟨some a, cap, by simp, fun h => by cases h⟩, ?_, fun o ho => ?_⟩
    · have hpos : 0 < len := by
        rcases Nat.eq_zero_or_pos len with e | e
        · subst e; simp at hne
        · exact e
      have hc := (hR 0 hpos).2.1
      have hspot := spot_of (by omega) hc
      obtain ⟨b, off, spot⟩ := a
      simp only at hspot
      subst hspot
      have hlt := World.block_lt_of_cell? W _ hc
      have hlt' : b < W.heap.size := by simpa [add_none] using hlt
      refine ⟨b, off, rfl, hlt', hlt', fun j c hj => ?_⟩
      have hj' : j < len := by
        have := (List.getElem?_eq_some_iff.1 hj).1; simpa using this
      have he : R j = c := by simpa [hj'] using hj
      have h8 := (hR j hj').2
      rw [he] at h8
      simp only [add_none] at h8
      exact h8
    · rw [hxx]
      have h1 := bulk_slice ((List.range len).map D) ((List.range (m - len)).map fun j => D (len + j))
      have h2 := bulk_len ((List.range len).map D)
      simp at h2
      simp only [List.length_map, List.length_range]
      omega
    · obtain ⟨i, hi, rfl⟩ := List.mem_map.1 ho
      have hi' : i < len := by simpa using hi
      exact (hR i hi').1

/-- Transactions that came in. -/
theorem opnss_of_trod {H : Type} {enc : TypeId × Value → H} {W : World} {base : Nat} {spare : Nat → Bool} {held : Bool} {fuel : Nat} {v : Value} {x : DataW H × List MemPlace}
    (h : DataW.trod enc Try.prog W base spare held fuel 41 [v] = some x) : ∃ L, RdOO (fun k => k < W.heap.size) W v L ∧ L.length ≤ Rows.uptoBulk x.1 ∧ ∀ l ∈ L, l.length ≤ Rows.uptoBulk x.1 ∧ ∀ o ∈ l, o.px.length ≤ Rows.uptoBulk x.1 := by
  rcases open_slice1 Try.underlying41 cells_opns h with ⟨hcs, _⟩ | ⟨a, len, cap, m, n, V, D, Pl, hcs, hb, hl, hm, hmm, hxx, hx⟩
  · simp only [List.cons.injEq, and_true] at hcs
    subst hcs
    exact ⟨[], ⟨none, 0, rfl, Nat.le_refl _, by simp [maxLen], fun h => absurd rfl h⟩, by simp, fun l hl => by simp at hl⟩
  · simp only [List.cons.injEq, and_true] at hcs
    subst hcs
    have hlm : len ≤ m := by rw [hmm]; split <;> omega
    have hbk : ∀ i, i < len → Rows.uptoBulk (D i) ≤ Rows.uptoBulk x.1 := fun i hi => by
      rw [hxx]
      exact Nat.le_trans (bulk_mem (List.mem_map.2 ⟨i, by simpa using hi, rfl⟩)) (bulk_slice ((List.range len).map D) ((List.range (m - len)).map fun j => D (len + j)))
    have each : ∀ i, i < len → ∃ l : List Opn, RdO (fun k => k < W.heap.size) W (V i) l ∧ (∃ ao cap, V i = .slice ao l.length cap ∧ (ao = none → cap = 0)) ∧ l.length ≤ Rows.uptoBulk x.1 ∧ ∀ o ∈ l, o.px.length ≤ Rows.uptoBulk x.1 := by
      intro i hi
      obtain ⟨_, h2⟩ := hx i (by omega)
      obtain ⟨l, g1, g2, g3, g4⟩ := opns_of_trod h2
      exact ⟨l, g1, g2, Nat.le_trans g3 (hbk i hi), fun o ho => Nat.le_trans (g4 o ho) (hbk i hi)⟩
    obtain ⟨R, hR⟩ := @choose_lt (List Opn) ⟨[]⟩ _ _ each
    refine ⟨(List.range len).map R, ⟨some a, cap, by simp, by simpa using hl, hm, fun hne => ?_⟩, ?_, fun l hl' => ?_⟩
    · have hpos : 0 < len := by
        rcases Nat.eq_zero_or_pos len with e | e
        · subst e; simp at hne
        · exact e
      have hc := (hx 0 (by omega)).1
      have hspot := spot_of (by omega) hc
      obtain ⟨b, off, spot⟩ := a
      simp only at hspot
      subst hspot
      have hlt := World.block_lt_of_cell? W _ hc
      have hlt' : b < W.heap.size := by simpa [add_none] using hlt
      refine ⟨b, off, rfl, hlt', hlt', fun i l hil => ?_⟩
      have hj : i < len := by
        have := (List.getElem?_eq_some_iff.1 hil).1; simpa using this
      have he : R i = l := by simpa [hj] using hil
      have h5 := (hx i (by omega)).1
      rw [add_none] at h5
      obtain ⟨g1, ⟨ao', cap', ev, g2⟩, -⟩ := hR i hj
      rw [he] at g1 ev
      rw [ev] at h5 g1
      exact ⟨ao', cap', h5, g1, g2⟩
    · rw [hxx]
      have h1 := bulk_slice ((List.range len).map D) ((List.range (m - len)).map fun j => D (len + j))
      have h2 := bulk_len ((List.range len).map D)
      simp at h2
      simp only [List.length_map, List.length_range]
      omega
    · obtain ⟨i, hi, rfl⟩ := List.mem_map.1 hl'
      have hi' : i < len := by simpa using hi
      exact (hR i hi').2.2
/-- A list of moves that came in. -/
theorem moves_of_trod {H : Type} {enc : TypeId × Value → H} {W : World} {base : Nat} {spare : Nat → Bool} {held : Bool} {fuel : Nat} {v : Value} {x : DataW H × List MemPlace}
    (h : DataW.trod enc Try.prog W base spare held fuel 42 [v] = some x) : ∃ ao cap l, v = .slice ao l.length cap ∧ RdMv W v l ∧ (∀ r ∈ l, FitM r) ∧ l.length ≤ Rows.uptoBulk x.1 := by
  rcases open_slice Try.underlying42 h with ⟨hcs, _⟩ | ⟨a, len, cap, m, n, D, Pl, hcs, hb, hl, hm, hmm, hxx, hx⟩
  · simp only [List.cons.injEq, and_true] at hcs
    subst hcs
    exact ⟨none, 0, [], rfl, ⟨none, 0, rfl, Nat.le_refl _, by simp [maxLen], fun h => absurd rfl h⟩, fun r hr => by simp at hr, by simp⟩
  · simp only [List.cons.injEq, and_true] at hcs
    subst hcs
    have hlm : len ≤ m := by rw [hmm]; split <;> omega
    have each : ∀ i, i < len → ∃ r : Mv, FitM r ∧ W.cell? (a.add (i * 3)) = some (.int .i64 r.kind) ∧ W.cell? (a.add (i * 3 + 1)) = some (.int .i64 r.a) ∧ W.cell? (a.add (i * 3 + 2)) = some (.int .i64 r.b) := by
      intro i hi
      obtain ⟨cs', h1, h2⟩ := hx i (by omega)
      rw [cells_mv] at h1
      obtain ⟨_, hlen, hcell⟩ := World.cells?_some h1
      obtain ⟨y0, y1, y2, k, _, _, f0, f1, f2⟩ := trod_struct3 Try.underlying61 h2
      simp only [cells_int] at f0 f1 f2
      match cs', hlen with
      | [u0, u1, u2], _ =>
        obtain ⟨n0, e0, _, q0⟩ := DataW.trod_int Try.underlying3 f0
        obtain ⟨n1, e1, _, q1⟩ := DataW.trod_int Try.underlying3 f1
        obtain ⟨n2, e2, _, q2⟩ := DataW.trod_int Try.underlying3 f2
        simp at e0 e1 e2
        subst e0 e1 e2
        have c0 := hcell 0 (by omega)
        have c1 := hcell 1 (by omega)
        have c2 := hcell 2 (by omega)
        rw [add_add] at c0 c1 c2
        exact ⟨⟨n0, n1, n2⟩, ⟨bounds_i64 q0, bounds_i64 q1, bounds_i64 q2⟩, by simpa using c0, by simpa using c1, by simpa using c2⟩
    obtain ⟨R, hR⟩ := @choose_lt Mv ⟨⟨0, 0, 0⟩⟩ _ _ each
    refine ⟨some a, cap, (List.range len).map R, by simp, ⟨some a, cap, by simp, by simpa using hl, hm, fun hne => ?_⟩, fun r hr => ?_, ?_⟩
    · have hpos : 0 < len := by
        rcases Nat.eq_zero_or_pos len with e | e
        · subst e; simp at hne
        · exact e
      have hc := (hR 0 hpos).2.1
      obtain ⟨b, off, spot⟩ := a
      have hspot : spot = none := by simpa [Addr.add] using World.cell?_spot hc
      subst hspot
      have hlt := World.block_lt_of_cell? W _ hc
      have hadd : ∀ j, (⟨b, off, none⟩ : Addr).add j = ⟨b, off + j, none⟩ := fun j => by unfold Addr.add; split <;> simp_all
      have hlt' : b < W.heap.size := by simpa [hadd] using hlt
      refine ⟨b, off, rfl, hlt', fun j r hr => ?_⟩
      have hj : j < len := by
        have := (List.getElem?_eq_some_iff.1 hr).1; simpa using this
      have he : R j = r := by simpa [hj] using hr
      have h4 := hR j hj
      rw [he] at h4
      simp only [hadd] at h4
      exact ⟨h4.2.1, h4.2.2.1, h4.2.2.2⟩
    · obtain ⟨i, hi, rfl⟩ := List.mem_map.1 hr
      exact (hR i (by simpa using hi)).1
    · rw [hxx]
      have h1 := bulk_slice ((List.range len).map D) ((List.range (m - len)).map fun j => D (len + j))
      have h2 := bulk_len ((List.range len).map D)
      simp at h2
      simp only [List.length_map, List.length_range]
      omega


theorem array8 {α : Type} {cs : Array α} (h : cs.size = 8) : ∃ c0 c1 c2 c3 c4 c5 c6 c7, cs = #[c0, c1, c2, c3, c4, c5, c6, c7] := by
  obtain ⟨l⟩ := cs
  match l, h with
  | [c0, c1, c2, c3, c4, c5, c6, c7], _ => exact ⟨c0, c1, c2, c3, c4, c5, c6, c7, rfl⟩
/-- A case that came in. -/
theorem case_of_trod {H : Type} {enc : TypeId × Value → H} {W : World} {base b0 : Nat} {spare : Nat → Bool} {held : Bool} {r : Reach} {v : Value} {d : DataW H} {p : List MemPlace}
    (hv : Value.okWide Try.prog W r b0 40 v) (h : DataW.Trod enc Try.prog W base spare held 40 v d p) : ∃ c : Cfg, v = cval c ∧ FitC c := by
  obtain ⟨cs, rfl, hsz⟩ := okWide_struct Try.underlying40 hv
  obtain ⟨u0, u1, u2, u3, u4, u5, u6, u7, rfl⟩ := array8 (hsz.trans cells_case)
  obtain ⟨fuel, hf⟩ := h
  obtain ⟨y0, y1, y2, y3, y4, y5, y6, y7, k, ey, _, f0, f1, f2, f3, f4, f5, f6, f7⟩ := trod_struct8 Try.underlying40 hf
  simp only [cells_int] at f0 f1 f2 f3 f4 f5 f6 f7
  obtain ⟨n0, e0, _, q0⟩ := DataW.trod_int Try.underlying3 f0
  obtain ⟨n1, e1, _, q1⟩ := DataW.trod_int Try.underlying3 f1
  obtain ⟨n2, e2, _, q2⟩ := DataW.trod_int Try.underlying3 f2
  obtain ⟨n3, e3, _, q3⟩ := DataW.trod_int Try.underlying3 f3
  obtain ⟨n4, e4, _, q4⟩ := DataW.trod_int Try.underlying3 f4
  obtain ⟨n5, e5, _, q5⟩ := DataW.trod_int Try.underlying3 f5
  obtain ⟨n6, e6, _, q6⟩ := DataW.trod_int Try.underlying3 f6
  obtain ⟨n7, e7, _, q7⟩ := DataW.trod_int Try.underlying3 f7
  simp [Value.cells] at e0 e1 e2 e3 e4 e5 e6 e7
  subst e0 e1 e2 e3 e4 e5 e6 e7
  exact ⟨⟨n0, n1, n2, n3, n4, n5, n6, n7⟩, rfl, bounds_i64 q0, bounds_i64 q1, bounds_i64 q2, bounds_i64 q3, bounds_i64 q4, bounds_i64 q5, bounds_i64 q6, bounds_i64 q7⟩
end KRead
end Go.Proofs.Ytfnockbgkcgpkaa
