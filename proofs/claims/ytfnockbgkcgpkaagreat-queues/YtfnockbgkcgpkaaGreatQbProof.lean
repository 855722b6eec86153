import Derived.Test.YtfnockbgkcgpkaaGreatQbAE
import Derived.Test.YtfnockbgkcgpkaaGreatLawH
import Derived.Test.YtfnockbgkcgpkaaGreatRows
import Derived.ProofKit
import Derived.OpenShut
import Derived.ShutString
import Derived.ChangeOld
import Derived.Below
import Derived.Lib.SmallJoins
import Derived.Deep.Slices
import Derived.JoinedCond
import Derived.Test.YtfnockbgkcgpkaaGreatQbAP
import Derived.SizedLaws
set_option linter.all false
namespace Go.Proofs.YtfnockbgkcgpkaaGreat
open Go.ChangeShapes Go.WideShapes Go.ChangeAt Go.RowKit Go.Proofs.Panes Go.Deep Go.Joins
namespace QRead
theorem cells_int : Tryz.prog.cellsOf 3 = 1 := by kernel_rfl
theorem cells_op : Tryz.prog.cellsOf 42 = 4 := by kernel_rfl
theorem cells_cfg : Tryz.prog.cellsOf 49 = 8 := by kernel_rfl
theorem cells_opn : Tryz.prog.cellsOf 52 = 8 := by kernel_rfl
theorem cells_ints : Tryz.prog.cellsOf 50 = 1 := by kernel_rfl
theorem cells_opns : Tryz.prog.cellsOf 53 = 1 := by kernel_rfl

/-- Its numbers are Go's. -/
def Fit (r : Rc) : Prop := (-9223372036854775808 ≤ r.x ∧ r.x ≤ 9223372036854775807) ∧ (-9223372036854775808 ≤ r.y ∧ r.y ≤ 9223372036854775807) ∧ (-9223372036854775808 ≤ r.w ∧ r.w ≤ 9223372036854775807) ∧ (-9223372036854775808 ≤ r.h ∧ r.h ≤ 9223372036854775807)

/-- What was read is not too great. -/
def Wt {H : Type} (d : DataW H) (t : TypeId) : Prop := ∀ n ∈ d.weights Tryz.prog t, n ≤ reachBytes
theorem wt_all {H : Type} {e : TypeId} {l : List (DataW H)} (h : ∀ n ∈ DataW.weightsAll Tryz.prog e l, n ≤ reachBytes) : ∀ d ∈ l, Wt d e := by
  induction l with
  | nil => intro d hd; simp at hd
  | cons x r ih =>
    intro d hd n hn
    simp only [DataW.weightsAll, List.mem_append] at h
    cases List.mem_cons.1 hd with
    | inl e => subst e; exact h n (.inl hn)
    | inr e => exact ih (fun n hn => h n (.inr hn)) d e n hn
theorem wt_slice {H : Type} {t e : TypeId} {elems spare : List (DataW H)} (hu : Tryz.prog.underlying t = some (.slice e)) (h : Wt (.slice elems spare) t) : (elems.length + spare.length) * Tryz.prog.bytesOf e ≤ reachBytes ∧ ∀ d ∈ elems, Wt d e := by
  unfold Wt at h
  simp only [DataW.weights, hu, List.mem_cons, List.mem_append] at h
  exact ⟨h _ (.inl rfl), wt_all (fun n hn => h n (.inr (.inl hn)))⟩
theorem reach_val : reachBytes = 140737488351232 := rfl
theorem bytes_int : Tryz.prog.bytesOf 3 = 8 := by kernel_rfl
theorem bytes_op : Tryz.prog.bytesOf 42 = 32 := by kernel_rfl
theorem bytes_opn : Tryz.prog.bytesOf 52 = 80 := by kernel_rfl
theorem bytes_opns : Tryz.prog.bytesOf 53 = 24 := by kernel_rfl
theorem bytes_cfg : Tryz.prog.bytesOf 49 = 64 := by kernel_rfl

/-- A list of steps that came in. -/
theorem ops_of_trod {H : Type} {enc : TypeId × Value → H} {W : World} {base : Nat} {spare : Nat → Bool} {held : Bool} {fuel : Nat} {v : Value} {x : DataW H × List MemPlace}
    (h : DataW.trod enc Tryz.prog W base spare held fuel 27 [v] = some x) (hw : Wt x.1 27) : ∃ ao cap l, v = .slice ao l.length cap ∧ RdU (fun k => k < W.heap.size) W v l ∧ (∀ r ∈ l, Fit r) ∧ l.length * 32 ≤ 140737488351232 := by
  rcases open_slice Tryz.underlying27 h with ⟨hcs, _⟩ | ⟨a, len, cap, m, n, D, Pl, hcs, hb, hl, hm, hmm, hxx, hx⟩
  · simp only [List.cons.injEq, and_true] at hcs
    subst hcs
    exact ⟨none, 0, [], rfl, ⟨none, 0, rfl, Nat.le_refl _, by simp [maxLen], fun h => absurd rfl h⟩, fun r hr => by simp at hr, by simp⟩
  · simp only [List.cons.injEq, and_true] at hcs
    subst hcs
    have hlm : len ≤ m := by rw [hmm]; split <;> omega
    have each : ∀ i, i < len → ∃ r : Rc, Fit r ∧ W.cell? (a.add (i * 4)) = some (.int .i64 r.x) ∧ W.cell? (a.add (i * 4 + 1)) = some (.int .i64 r.y) ∧ W.cell? (a.add (i * 4 + 2)) = some (.int .i64 r.w) ∧ W.cell? (a.add (i * 4 + 3)) = some (.int .i64 r.h) := by
      intro i hi
      obtain ⟨cs', h1, h2⟩ := hx i (by omega)
      rw [cells_op] at h1
      obtain ⟨_, hlen, hcell⟩ := World.cells?_some h1
      obtain ⟨y0, y1, y2, y3, k, _, _, f0, f1, f2, f3⟩ := trod_struct4 Tryz.underlying42 h2
      simp only [cells_int] at f0 f1 f2 f3
      match cs', hlen with
      | [u0, u1, u2, u3], _ =>
        obtain ⟨n0, e0, _, q0⟩ := DataW.trod_int Tryz.underlying3 f0
        obtain ⟨n1, e1, _, q1⟩ := DataW.trod_int Tryz.underlying3 f1
        obtain ⟨n2, e2, _, q2⟩ := DataW.trod_int Tryz.underlying3 f2
        obtain ⟨n3, e3, _, q3⟩ := DataW.trod_int Tryz.underlying3 f3
        simp at e0 e1 e2 e3
        subst e0 e1 e2 e3
        have c0 := hcell 0 (by omega)
        have c1 := hcell 1 (by omega)
        have c2 := hcell 2 (by omega)
        have c3 := hcell 3 (by omega)
        rw [add_add] at c0 c1 c2 c3
        exact ⟨⟨n0, n1, n2, n3⟩, ⟨bounds_i64 q0, bounds_i64 q1, bounds_i64 q2, bounds_i64 q3⟩, by simpa using c0, by simpa using c1, by simpa using c2, by simpa using c3⟩
    obtain ⟨R, hR⟩ := @choose_lt Rc ⟨⟨0, 0, 0, 0⟩⟩ _ _ each
    refine ⟨some a, cap, (List.range len).map R, by simp, ⟨some a, cap, by simp, by simpa using hl, hm, fun hne => ?_⟩, fun r hr => ?_, ?_⟩
    · have hpos : 0 < len := by
        rcases Nat.eq_zero_or_pos len with e | e
        · subst e; simp at hne
        · exact e
      have hc := (hR 0 hpos).2.1
      obtain ⟨b, off, spot⟩ := a
      have hspot : spot = none := by simpa [Addr.add] using World.cell?_spot hc
      subst hspot
      have hlt := World.block_lt_of_cell? W _ hc
      have hadd : ∀ j, (⟨b, off, none⟩ : Addr).add j = ⟨b, off + j, none⟩ := fun j => by unfold Addr.add; split <;> simp_all
      have hlt' : b < W.heap.size := by simpa [hadd] using hlt
      refine ⟨b, off, rfl, hlt', hlt', fun j r hr => ?_⟩
      have hj : j < len := by
        have := (List.getElem?_eq_some_iff.1 hr).1; simpa using this
      have he : R j = r := by simpa [hj] using hr
      have h4 := hR j hj
      rw [he] at h4
      simp only [hadd] at h4
      exact ⟨h4.2.1, h4.2.2.1, h4.2.2.2.1, h4.2.2.2.2⟩
    · obtain ⟨i, hi, rfl⟩ := List.mem_map.1 hr
      exact (hR i (by simpa using hi)).1
    · rw [hxx] at hw
      have h1 := (wt_slice Tryz.underlying27 hw).1
      rw [bytes_op, reach_val] at h1
      simp only [List.length_map, List.length_range] at h1 ⊢
      have h2 : len * 32 ≤ (len + (m - len)) * 32 := Nat.mul_le_mul_right _ (by omega)
      omega


theorem trod_struct8 {H : Type} {enc : TypeId × Value → H} {P : Program} {w : World} {base : Nat} {spare : Nat → Bool} {held : Bool} {t : TypeId} {f0 f1 f2 f3 f4 f5 f6 f7 : Field} {fuel : Nat} {cs : List Value} {x : DataW H × List MemPlace} (ht : P.underlying t = some (.struct #[f0, f1, f2, f3, f4, f5, f6, f7])) (h : DataW.trod enc P w base spare held fuel t cs = some x) :
    ∃ y0 y1 y2 y3 y4 y5 y6 y7 n, x.1 = .agg [y0.1, y1.1, y2.1, y3.1, y4.1, y5.1, y6.1, y7.1] ∧ cs.length = P.cellsOf t ∧ DataW.trod enc P w base spare held n f0.type ((cs.drop f0.offset).take (P.cellsOf f0.type)) = some y0 ∧
      DataW.trod enc P w base spare held n f1.type ((cs.drop f1.offset).take (P.cellsOf f1.type)) = some y1 ∧ DataW.trod enc P w base spare held n f2.type ((cs.drop f2.offset).take (P.cellsOf f2.type)) = some y2 ∧
      DataW.trod enc P w base spare held n f3.type ((cs.drop f3.offset).take (P.cellsOf f3.type)) = some y3 ∧ DataW.trod enc P w base spare held n f4.type ((cs.drop f4.offset).take (P.cellsOf f4.type)) = some y4 ∧
      DataW.trod enc P w base spare held n f5.type ((cs.drop f5.offset).take (P.cellsOf f5.type)) = some y5 ∧ DataW.trod enc P w base spare held n f6.type ((cs.drop f6.offset).take (P.cellsOf f6.type)) = some y6 ∧
      DataW.trod enc P w base spare held n f7.type ((cs.drop f7.offset).take (P.cellsOf f7.type)) = some y7 := by
  obtain ⟨xs, n, _, rfl, hl, hlen, hf⟩ := DataW.trod_struct ht h
  match xs, hlen with
  | [y0, y1, y2, y3, y4, y5, y6, y7], _ => exact ⟨y0, y1, y2, y3, y4, y5, y6, y7, n, by simp, hl, by simpa using hf 0 f0 rfl, by simpa using hf 1 f1 rfl, by simpa using hf 2 f2 rfl, by simpa using hf 3 f3 rfl, by simpa using hf 4 f4 rfl, by simpa using hf 5 f5 rfl, by simpa using hf 6 f6 rfl, by simpa using hf 7 f7 rfl⟩

theorem spot_of {W : World} {a : Addr} {k : Nat} {u : Value} (hk : k = 0) (h : W.cell? (a.add k) = some u) : a.spot = none := by
  subst hk
  obtain ⟨b, off, spot⟩ := a
  simpa [Addr.add] using World.cell?_spot h
theorem add_none (b off j : Nat) : (⟨b, off, none⟩ : Addr).add j = ⟨b, off + j, none⟩ := by unfold Addr.add; split <;> simp_all

/-- A list of numbers that came in. -/
theorem ints_of_trod {H : Type} {enc : TypeId × Value → H} {W : World} {base : Nat} {spare : Nat → Bool} {held : Bool} {fuel : Nat} {v : Value} {x : DataW H × List MemPlace}
    (h : DataW.trod enc Tryz.prog W base spare held fuel 50 [v] = some x) (hw : Wt x.1 50) : ∃ l, RdN (fun k => k < W.heap.size) W v l ∧ l.length * 8 ≤ 140737488351232 := by
  rcases open_slice1 Tryz.underlying50 cells_int h with ⟨hcs, _⟩ | ⟨a, len, cap, m, n, V, D, Pl, hcs, hb, hl, hm, hmm, hxx, hx⟩
  · simp only [List.cons.injEq, and_true] at hcs
    subst hcs
    exact ⟨[], ⟨none, 0, rfl, Nat.le_refl _, by simp [maxLen], fun h => absurd rfl h⟩, by simp⟩
  · simp only [List.cons.injEq, and_true] at hcs
    subst hcs
    have hlm : len ≤ m := by rw [hmm]; split <;> omega
    have each : ∀ i, i < len → ∃ z : Int, V i = .int .i64 z := by
      intro i hi
      obtain ⟨_, h2⟩ := hx i (by omega)
      obtain ⟨n0, e0, _, q0⟩ := DataW.trod_int Tryz.underlying3 h2
      simp at e0
      exact ⟨n0, e0⟩
    obtain ⟨R, hR⟩ := @choose_lt Int ⟨0⟩ _ _ each
    refine ⟨(List.range len).map R, ⟨some a, cap, by simp, by simpa using hl, hm, fun hne => ?_⟩, ?_⟩
    · have hpos : 0 < len := by
        rcases Nat.eq_zero_or_pos len with e | e
        · subst e; simp at hne
        · exact e
      have hc := (hx 0 (by omega)).1
      have hspot := spot_of (by omega) hc
      obtain ⟨b, off, spot⟩ := a
      simp only at hspot
      subst hspot
      have hlt := World.block_lt_of_cell? W _ hc
      have hlt' : b < W.heap.size := by simpa [add_none] using hlt
      refine ⟨b, off, rfl, hlt', hlt', fun j z hj => ?_⟩
      have hj' : j < len := by
        have := (List.getElem?_eq_some_iff.1 hj).1; simpa using this
      have he : R j = z := by simpa [hj'] using hj
      have h5 := (hx j (by omega)).1
      rw [add_none, hR j hj', he] at h5
      exact h5
    · rw [hxx] at hw
      have h1 := (wt_slice Tryz.underlying50 hw).1
      rw [bytes_int, reach_val] at h1
      simp only [List.length_map, List.length_range] at h1 ⊢
      have h2 : len * 8 ≤ (len + (m - len)) * 8 := Nat.mul_le_mul_right _ (by omega)
      omega

/-- A list of configurations that came in. -/
theorem cfgs_of_trod {H : Type} {enc : TypeId × Value → H} {W : World} {base : Nat} {spare : Nat → Bool} {held : Bool} {fuel : Nat} {v : Value} {x : DataW H × List MemPlace}
    (h : DataW.trod enc Tryz.prog W base spare held fuel 23 [v] = some x) (hw : Wt x.1 23) : ∃ l, RdC (fun k => k < W.heap.size) W v l ∧ l.length * 64 ≤ 140737488351232 := by
  rcases open_slice Tryz.underlying23 h with ⟨hcs, _⟩ | ⟨a, len, cap, m, n, D, Pl, hcs, hb, hl, hm, hmm, hxx, hx⟩
  · simp only [List.cons.injEq, and_true] at hcs
    subst hcs
    exact ⟨[], ⟨none, 0, rfl, fun h => absurd rfl h⟩, by simp⟩
  · simp only [List.cons.injEq, and_true] at hcs
    subst hcs
    have hlm : len ≤ m := by rw [hmm]; split <;> omega
    have each : ∀ i, i < len → ∃ c : Cfg, W.cell? (a.add (i * 8)) = some (.int .i64 c.w) ∧ W.cell? (a.add (i * 8 + 1)) = some (.int .i64 c.h) ∧ W.cell? (a.add (i * 8 + 2)) = some (.int .i64 c.clients) ∧ W.cell? (a.add (i * 8 + 3)) = some (.int .i64 c.queue) ∧ W.cell? (a.add (i * 8 + 4)) = some (.int .i64 c.most) ∧ W.cell? (a.add (i * 8 + 5)) = some (.int .i64 c.quantum) ∧ W.cell? (a.add (i * 8 + 6)) = some (.int .i64 c.surfaces) ∧ W.cell? (a.add (i * 8 + 7)) = some (.int .i64 c.behind) := by
      intro i hi
      obtain ⟨cs', h1, h2⟩ := hx i (by omega)
      rw [cells_cfg] at h1
      obtain ⟨_, hlen, hcell⟩ := World.cells?_some h1
      obtain ⟨y0, y1, y2, y3, y4, y5, y6, y7, k, _, _, f0, f1, f2, f3, f4, f5, f6, f7⟩ := trod_struct8 Tryz.underlying49 h2
      simp only [cells_int] at f0 f1 f2 f3 f4 f5 f6 f7
      match cs', hlen with
      | [u0, u1, u2, u3, u4, u5, u6, u7], _ =>
        obtain ⟨n0, e0, _, _⟩ := DataW.trod_int Tryz.underlying3 f0
        obtain ⟨n1, e1, _, _⟩ := DataW.trod_int Tryz.underlying3 f1
        obtain ⟨n2, e2, _, _⟩ := DataW.trod_int Tryz.underlying3 f2
        obtain ⟨n3, e3, _, _⟩ := DataW.trod_int Tryz.underlying3 f3
        obtain ⟨n4, e4, _, _⟩ := DataW.trod_int Tryz.underlying3 f4
        obtain ⟨n5, e5, _, _⟩ := DataW.trod_int Tryz.underlying3 f5
        obtain ⟨n6, e6, _, _⟩ := DataW.trod_int Tryz.underlying3 f6
        obtain ⟨n7, e7, _, _⟩ := DataW.trod_int Tryz.underlying3 f7
        simp at e0 e1 e2 e3 e4 e5 e6 e7
        subst e0 e1 e2 e3 e4 e5 e6 e7
        have c0 := hcell 0 (by omega)
        have c1 := hcell 1 (by omega)
        have c2 := hcell 2 (by omega)
        have c3 := hcell 3 (by omega)
        have c4 := hcell 4 (by omega)
        have c5 := hcell 5 (by omega)
        have c6 := hcell 6 (by omega)
        have c7 := hcell 7 (by omega)
        rw [add_add] at c0 c1 c2 c3 c4 c5 c6 c7
        exact ⟨⟨n0, n1, n2, n3, n4, n5, n6, n7⟩, by simpa using c0, by simpa using c1, by simpa using c2, by simpa using c3, by simpa using c4, by simpa using c5, by simpa using c6, by simpa using c7⟩
    obtain ⟨R, hR⟩ := @choose_lt Cfg ⟨⟨0, 0, 0, 0, 0, 0, 0, 0⟩⟩ _ _ each
    refine ⟨(List.range len).map R, ⟨some a, cap, by simp, fun hne => ?_⟩, ?_⟩
    · have hpos : 0 < len := by
        rcases Nat.eq_zero_or_pos len with e | e
        · subst e; simp at hne
        · exact e
      have hc := (hR 0 hpos).1
      have hspot := spot_of (by omega) hc
      obtain ⟨b, off, spot⟩ := a
      simp only at hspot
      subst hspot
      have hlt := World.block_lt_of_cell? W _ hc
      have hlt' : b < W.heap.size := by simpa [add_none] using hlt
      refine ⟨b, off, rfl, hlt', hlt', fun j c hj => ?_⟩
      have hj' : j < len := by
        have := (List.getElem?_eq_some_iff.1 hj).1; simpa using this
      have he : R j = c := by simpa [hj'] using hj
      have h8 := hR j hj'
      rw [he] at h8
      simp only [add_none] at h8
      exact h8
    · rw [hxx] at hw
      have h1 := (wt_slice Tryz.underlying23 hw).1
      rw [bytes_cfg, reach_val] at h1
      simp only [List.length_map, List.length_range] at h1 ⊢
      have h2 : len * 64 ≤ (len + (m - len)) * 64 := Nat.mul_le_mul_right _ (by omega)
      omega

/-- A transaction that came in. -/
theorem opns_of_trod {H : Type} {enc : TypeId × Value → H} {W : World} {base : Nat} {spare : Nat → Bool} {held : Bool} {fuel : Nat} {v : Value} {x : DataW H × List MemPlace}
    (h : DataW.trod enc Tryz.prog W base spare held fuel 53 [v] = some x) (hw : Wt x.1 53) : ∃ l, RdO (fun k => k < W.heap.size) W v l ∧ l.length * 80 ≤ 140737488351232 ∧ ∀ o ∈ l, o.px.length * 8 ≤ 140737488351232 := by
  rcases open_slice Tryz.underlying53 h with ⟨hcs, _⟩ | ⟨a, len, cap, m, n, D, Pl, hcs, hb, hl, hm, hmm, hxx, hx⟩
  · simp only [List.cons.injEq, and_true] at hcs
    subst hcs
    exact ⟨[], ⟨none, 0, rfl, Nat.le_refl _, by simp [maxLen], fun h => absurd rfl h⟩, by simp, fun o ho => by simp at ho⟩
  · simp only [List.cons.injEq, and_true] at hcs
    subst hcs
    have hlm : len ≤ m := by rw [hmm]; split <;> omega
    have each : ∀ i, i < len → ∃ o : Opn, o.px.length * 8 ≤ 140737488351232 ∧ W.cell? (a.add (i * 8)) = some (.int .i64 o.kind) ∧ W.cell? (a.add (i * 8 + 1)) = some (.int .i64 o.surf) ∧ W.cell? (a.add (i * 8 + 2)) = some (.int .i64 o.x) ∧ W.cell? (a.add (i * 8 + 3)) = some (.int .i64 o.y) ∧ W.cell? (a.add (i * 8 + 4)) = some (.int .i64 o.w) ∧ W.cell? (a.add (i * 8 + 5)) = some (.int .i64 o.h) ∧ (∃ pv, W.cell? (a.add (i * 8 + 6)) = some pv ∧ RdN (fun k => k < W.heap.size) W pv o.px) ∧ W.cell? (a.add (i * 8 + 7)) = some (.int .i64 o.mark) := by
      intro i hi
      obtain ⟨cs', h1, h2⟩ := hx i (by omega)
      rw [cells_opn] at h1
      obtain ⟨_, hlen, hcell⟩ := World.cells?_some h1
      obtain ⟨y0, y1, y2, y3, y4, y5, y6, y7, k, ey, _, f0, f1, f2, f3, f4, f5, f6, f7⟩ := trod_struct8 Tryz.underlying52 h2
      simp only [cells_int, cells_ints] at f0 f1 f2 f3 f4 f5 f6 f7
      match cs', hlen with
      | [u0, u1, u2, u3, u4, u5, u6, u7], _ =>
        obtain ⟨n0, e0, _, _⟩ := DataW.trod_int Tryz.underlying3 f0
        obtain ⟨n1, e1, _, _⟩ := DataW.trod_int Tryz.underlying3 f1
        obtain ⟨n2, e2, _, _⟩ := DataW.trod_int Tryz.underlying3 f2
        obtain ⟨n3, e3, _, _⟩ := DataW.trod_int Tryz.underlying3 f3
        obtain ⟨n4, e4, _, _⟩ := DataW.trod_int Tryz.underlying3 f4
        obtain ⟨n5, e5, _, _⟩ := DataW.trod_int Tryz.underlying3 f5
        obtain ⟨n7, e7, _, _⟩ := DataW.trod_int Tryz.underlying3 f7
        have f6' : DataW.trod enc Tryz.prog W base spare held k 50 [u6] = some y6 := by simpa using f6
        have hwi : Wt (D i) 52 := (wt_slice Tryz.underlying53 (hxx ▸ hw)).2 (D i) (List.mem_map.2 ⟨i, by simpa using hi, rfl⟩)
        have hw6 : Wt y6.1 50 := fun n hn => hwi n (by
          have ey' : D i = .agg [y0.1, y1.1, y2.1, y3.1, y4.1, y5.1, y6.1, y7.1] := ey
          rw [ey']
          simp only [DataW.weights, Tryz.underlying52, DataW.weightsEach, List.map_cons, List.map_nil, List.mem_append]
          simp only [hn, true_or, or_true])
        obtain ⟨px, hpx, hpl⟩ := ints_of_trod f6' hw6
        simp at e0 e1 e2 e3 e4 e5 e7
        subst e0 e1 e2 e3 e4 e5 e7
        have c0 := hcell 0 (by omega)
        have c1 := hcell 1 (by omega)
        have c2 := hcell 2 (by omega)
        have c3 := hcell 3 (by omega)
        have c4 := hcell 4 (by omega)
        have c5 := hcell 5 (by omega)
        have c6 := hcell 6 (by omega)
        have c7 := hcell 7 (by omega)
        rw [add_add] at c0 c1 c2 c3 c4 c5 c6 c7
        exact ⟨⟨n0, n1, n2, n3, n4, n5, px, n7⟩, hpl, by simpa using c0, by simpa using c1, by simpa using c2, by simpa using c3, by simpa using c4, by simpa using c5, ⟨u6, by simpa using c6, hpx⟩, by simpa using c7⟩
    obtain ⟨R, hR⟩ := @choose_lt Opn ⟨⟨0, 0, 0, 0, 0, 0, [], 0⟩⟩ _ _ each
    refine ⟨(List.range len).map R, ⟨some a, cap, by simp, by simpa using hl, hm, fun hne => ?_⟩, ?_, fun o ho => ?_⟩
    · have hpos : 0 < len := by
        rcases Nat.eq_zero_or_pos len with e | e
        · subst e; simp at hne
        · exact e
      have hc := (hR 0 hpos).2.1
      have hspot := spot_of (by omega) hc
      obtain ⟨b, off, spot⟩ := a
      simp only at hspot
      subst hspot
      have hlt := World.block_lt_of_cell? W _ hc
      have hlt' : b < W.heap.size := by simpa [add_none] using hlt
      refine ⟨b, off, rfl, hlt', hlt', fun j c hj => ?_⟩
      have hj' : j < len := by
        have := (List.getElem?_eq_some_iff.1 hj).1; simpa using this
      have he : R j = c := by simpa [hj'] using hj
      have h8 := (hR j hj').2
      rw [he] at h8
      simp only [add_none] at h8
      exact h8
    · rw [hxx] at hw
      have h1 := (wt_slice Tryz.underlying53 hw).1
      rw [bytes_opn, reach_val] at h1
      simp only [List.length_map, List.length_range] at h1 ⊢
      have h2 : len * 80 ≤ (len + (m - len)) * 80 := Nat.mul_le_mul_right _ (by omega)
      omega
    · obtain ⟨i, hi, rfl⟩ := List.mem_map.1 ho
      have hi' : i < len := by simpa using hi
      exact (hR i hi').1

/-- Transactions that came in. -/
theorem opnss_of_trod {H : Type} {enc : TypeId × Value → H} {W : World} {base : Nat} {spare : Nat → Bool} {held : Bool} {fuel : Nat} {v : Value} {x : DataW H × List MemPlace}
    (h : DataW.trod enc Tryz.prog W base spare held fuel 24 [v] = some x) (hw : Wt x.1 24) : ∃ L, RdLO (fun k => k < W.heap.size) W v L ∧ L.length * 24 ≤ 140737488351232 ∧ ∀ l ∈ L, l.length * 80 ≤ 140737488351232 ∧ ∀ o ∈ l, o.px.length * 8 ≤ 140737488351232 := by
  rcases open_slice1 Tryz.underlying24 cells_opns h with ⟨hcs, _⟩ | ⟨a, len, cap, m, n, V, D, Pl, hcs, hb, hl, hm, hmm, hxx, hx⟩
  · simp only [List.cons.injEq, and_true] at hcs
    subst hcs
    exact ⟨[], ⟨none, 0, rfl, fun h => absurd rfl h⟩, by simp, fun l hl => by simp at hl⟩
  · simp only [List.cons.injEq, and_true] at hcs
    subst hcs
    have hlm : len ≤ m := by rw [hmm]; split <;> omega
    have each : ∀ i, i < len → ∃ l : List Opn, RdO (fun k => k < W.heap.size) W (V i) l ∧ l.length * 80 ≤ 140737488351232 ∧ ∀ o ∈ l, o.px.length * 8 ≤ 140737488351232 := by
      intro i hi
      obtain ⟨_, h2⟩ := hx i (by omega)
      exact opns_of_trod h2 ((wt_slice Tryz.underlying24 (hxx ▸ hw)).2 (D i) (List.mem_map.2 ⟨i, by simpa using hi, rfl⟩))
    obtain ⟨R, hR⟩ := @choose_lt (List Opn) ⟨[]⟩ _ _ each
    refine ⟨(List.range len).map R, ⟨some a, cap, by simp, fun hne => ?_⟩, ?_, fun l hl' => ?_⟩
    · have hpos : 0 < len := by
        rcases Nat.eq_zero_or_pos len with e | e
        · subst e; simp at hne
        · exact e
      have hc := (hx 0 (by omega)).1
      have hspot := spot_of (by omega) hc
      obtain ⟨b, off, spot⟩ := a
      simp only at hspot
      subst hspot
      have hlt := World.block_lt_of_cell? W _ hc
      have hlt' : b < W.heap.size := by simpa [add_none] using hlt
      refine ⟨b, off, rfl, hlt', hlt', fun i l hil => ?_⟩
      have hj : i < len := by
        have := (List.getElem?_eq_some_iff.1 hil).1; simpa using this
      have he : R i = l := by simpa [hj] using hil
      have h5 := (hx i (by omega)).1
      rw [add_none] at h5
      exact ⟨V i, h5, by rw [← he]; exact (hR i hj).1⟩
    · rw [hxx] at hw
      have h1 := (wt_slice Tryz.underlying24 hw).1
      rw [bytes_opns, reach_val] at h1
      simp only [List.length_map, List.length_range] at h1 ⊢
      have h2 : len * 24 ≤ (len + (m - len)) * 24 := Nat.mul_le_mul_right _ (by omega)
      omega
    · obtain ⟨i, hi, rfl⟩ := List.mem_map.1 hl'
      have hi' : i < len := by simpa using hi
      exact (hR i hi').2
end QRead

namespace Queues
theorem own : ownKnob Tryz.prog.godebug = none := by kernel_rfl
theorem laidOut : laidOutB Tryz.prog = true := by kernel_rfl
theorem cells_goods : Tryz.prog.cellsOf 26 = 3 := by kernel_rfl

theorem slice_of_trod {H : Type} {enc : TypeId × Value → H} {W : World} {base : Nat} {spare : Nat → Bool} {held : Bool} {fuel : Nat} {t e : TypeId} {v : Value} {x : DataW H × List MemPlace} (ht : Tryz.prog.underlying t = some (.slice e))
    (h : DataW.trod enc Tryz.prog W base spare held fuel t [v] = some x) : ∃ ao n cap, v = .slice ao n cap := by
  rcases open_slice ht h with ⟨hcs, _⟩ | ⟨a, len, cap, m, n, D, Pl, hcs, _⟩
  · simp only [List.cons.injEq, and_true] at hcs; exact ⟨_, _, _, hcs⟩
  · simp only [List.cons.injEq, and_true] at hcs; exact ⟨_, _, _, hcs⟩

set_option maxRecDepth 100000 in
theorem lifted (os : Os) (started : os.Started) (H : Type) (enc : TypeId × Value → H) :
    ReturnsInHanded {} Tryz.checked os 4 .any (Rows.queuesSpec.pre6 enc Tryz.prog Tryz.f4 Rows.queuesRow.domain false) (Rows.queuesSpec.post enc Tryz.prog Tryz.f4 false true false false) := by
  refine returnsInHanded_of_change_sized (C := Tryz.checked) own started (by kernel_rfl) Tryz.func4
    (ChangeSpec.witness6 (enc := enc) (C := Tryz.checked) false ⟨#[], #[.agg #[.slice none 0 0, .slice none 0 0, .slice none 0 0], .slice none 0 0], []⟩ 8 (by kernel_rfl) (by kernel_rfl) (by kernel_rfl) (by kernel_rfl)) ?_
  intro W base args ds gs before hval0 hW hcnd hsz _
  have hval : ∀ (j : Nat) t v, Tryz.f4.params[j]? = some t → args[j]? = some v → Value.okWide Tryz.prog W .any base t v := hval0
  have hW' := hW
  obtain ⟨p, q, hA0, hV, rfl, hfz, hnd⟩ := hW
  have hA : DataW.TrodAll enc Tryz.prog W 0 (fun _ => true) true Tryz.f4.params.toList args.toList ds p := hA0
  have hsz' : (DataW.weightsEach Tryz.prog (Tryz.f4.params.toList ++ Rows.queuesSpec.plain.varTypes Tryz.prog) (ds ++ gs)).all (· ≤ reachBytes) = true := hsz
  rw [Tryz.params4] at hA hval hsz'
  obtain ⟨v0, vs0, d0, ds0, p0, q0, hargs, rfl, rfl, h0, r0⟩ := trodAll_cons hA
  obtain ⟨v1, vs1, d1, ds1, p1, q1, rfl, rfl, rfl, h1, r1⟩ := trodAll_cons r0
  obtain ⟨rfl, rfl, rfl⟩ := trodAll_nil r1
  obtain rfl : args = #[v0, v1] := by cases args; simp_all
  obtain ⟨rfl, rfl⟩ := trodVars_none hV
  have k0 := h0
  have k1 := h1
  have lt0 : ∀ x ∈ p0, x.block < W.heap.size := by obtain ⟨m, hm⟩ := k0; exact DataW.trod_lt m _ _ _ hm
  have lt1 : ∀ x ∈ p1, x.block < W.heap.size := by obtain ⟨m, hm⟩ := k1; exact DataW.trod_lt m _ _ _ hm
  have hwt : ∀ (j : Nat) (t : TypeId) (d : DataW H), [26, 27][j]? = some t → [d0, d1][j]? = some d → QRead.Wt d t := fun j t d ht hd n hn => by
    have hm := DataW.weights_mem_each (P := Tryz.prog) (ts := [26, 27] ++ Rows.queuesSpec.plain.varTypes Tryz.prog) (ds := [d0, d1] ++ []) (j := j) (t := t) (d := d) (by rw [List.getElem?_append_left (List.getElem?_eq_some_iff.1 ht).1]; exact ht) (by rw [List.append_nil]; exact hd) n hn
    have := List.all_eq_true.1 hsz' n hm
    simpa using this
  have wt0 := hwt 0 _ _ rfl rfl
  have wt1 := hwt 1 _ _ rfl rfl
  obtain ⟨u0, u1, u2, y0, y1, y2, n, rfl, rfl, rfl, t0, t1, t2⟩ := open_agg3 Tryz.underlying26 (by kernel_rfl) cells_goods (hval 0 26 v0 rfl rfl) h0
  have wtg : ∀ m, (m ∈ y1.1.weights Tryz.prog 23 ∨ m ∈ y2.1.weights Tryz.prog 24) → m ≤ reachBytes := fun m hm => wt0 m (by
    simp only [DataW.weights, Tryz.underlying26, DataW.weightsEach, List.map_cons, List.map_nil, List.mem_append]
    rcases hm with h | h
    · simp only [h, true_or, or_true]
    · simp only [h, true_or, or_true])
  obtain ⟨ro, rn, rc, rfl⟩ := slice_of_trod Tryz.underlying22 t0
  obtain ⟨C, hC, hCn⟩ := QRead.cfgs_of_trod t1 (fun m hm => wtg m (.inl hm))
  obtain ⟨O, hO, hOn, hol⟩ := QRead.opnss_of_trod t2 (fun m hm => wtg m (.inr hm))
  obtain ⟨co, cc, rfl, _⟩ := id hC
  obtain ⟨oo, oc, rfl, _⟩ := id hO
  obtain ⟨a1, len1, cap1, rfl⟩ := okWide_slice Tryz.underlying27 (hval 1 27 v1 rfl rfl)
  obtain ⟨so, scap, ops, es, hS, hfit, hon⟩ : ∃ ao cap l, Value.slice a1 len1 cap1 = .slice ao l.length cap ∧ RdU (fun k => k < W.heap.size) W (.slice a1 len1 cap1) l ∧ (∀ r ∈ l, QRead.Fit r) ∧ l.length * 32 ≤ 140737488351232 := by
    obtain ⟨fuel, hf⟩ := h1
    exact QRead.ops_of_trod hf wt1
  rw [es] at hS hW' k1 ⊢
  clear hA0 hval0
  refine (queues_any ro co oo so rn rc cc oc scap C O ops W hC hO hS (by omega) (by omega) (by omega) (fun l hl => ⟨by have := (hol l hl).1; omega, fun o ho => by have := (hol l hl).2 o ho; omega⟩) (fun r hr => ⟨(hfit r hr).2.1, (hfit r hr).2.2.2⟩)).mono fun e W' ⟨he, bel⟩ => ?_
  subst he
  exact ⟨_, rfl, _, _, _, [], _, [], hW', trodAll_mk1 (shut_bool Tryz.underlying4 _), (trodAll_cons_mk (Below.trod laidOut (by kernel_rfl) (of_decide_eq_true (by kernel_rfl)) k0 bel lt0) (trodAll_cons_mk (Below.trod laidOut (by kernel_rfl) (of_decide_eq_true (by kernel_rfl)) k1 bel lt1) trodAll_mk0)), rfl, bel.frame _, fun h => by cases h⟩

theorem over : Rows.queuesRow.holds Tryz.pinned (OpenSpec.ofChange Rows.queuesSpec) :=
  OpenClaim.holds_of_wide 4 Tryz.f4 rfl rfl rfl rfl rfl rfl rfl ⟨rfl, rfl, rfl, rfl, rfl⟩ rfl rfl rfl rfl rfl (by kernel_rfl) Tryz.func4 (by kernel_rfl)
    (of_decide_eq_true (by kernel_rfl)) (by unfold Func.isWrapper; first | (rw [if_pos (by decide +kernel)]; kernel_rfl) | (rw [if_neg (by decide +kernel)]; exact ⟨rfl, rfl⟩))
    (fun os started H enc _ => lifted os started H enc)
end Queues

theorem queues_holds : Rows.QueuesSaid := Queues.over
#print axioms queues_holds
end Go.Proofs.YtfnockbgkcgpkaaGreat
