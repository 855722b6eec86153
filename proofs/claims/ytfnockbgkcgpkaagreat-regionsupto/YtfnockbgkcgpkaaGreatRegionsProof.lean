import Derived.Test.YtfnockbgkcgpkaaGreatLawQ
import Derived.Test.YtfnockbgkcgpkaaGreatRows
import Derived.ProofKit
import Derived.OpenShut
import Derived.ShutString
import Derived.ChangeOld
import Derived.Below
import Derived.Lib.SmallJoins
import Derived.Deep.Slices
import Derived.JoinedCond
set_option linter.all false
namespace Go.Proofs.YtfnockbgkcgpkaaGreat
open Go.ChangeShapes Go.WideShapes Go.ChangeAt Go.RowKit Go.Proofs.Panes Go.Deep Go.Joins

theorem cells_int : Tryz.prog.cellsOf 3 = 1 := by kernel_rfl
theorem cells_rect : Tryz.prog.cellsOf 46 = 4 := by kernel_rfl
theorem cells_op : Tryz.prog.cellsOf 42 = 4 := by kernel_rfl
theorem cells_rects : Tryz.prog.cellsOf 47 = 1 := by kernel_rfl

/-- Its numbers are Go's. -/
def Fit (r : Rc) : Prop := (-9223372036854775808 ≤ r.x ∧ r.x ≤ 9223372036854775807) ∧ (-9223372036854775808 ≤ r.y ∧ r.y ≤ 9223372036854775807) ∧ (-9223372036854775808 ≤ r.w ∧ r.w ≤ 9223372036854775807) ∧ (-9223372036854775808 ≤ r.h ∧ r.h ≤ 9223372036854775807)

theorem bulk_pos {H : Type} (d : DataW H) : 1 ≤ Rows.uptoBulk d := by
  cases d with
  | lit l => cases l <;> simp [Rows.uptoBulk]
  | nil => simp [Rows.uptoBulk]
  | ptr d => simp [Rows.uptoBulk]
  | slice elems spare => simp [Rows.uptoBulk]
  | agg parts => simp [Rows.uptoBulk]
  | iface t d => simp [Rows.uptoBulk]
  | map entries => simp [Rows.uptoBulk]
  | held h => simp [Rows.uptoBulk]
theorem bulk_mem {H : Type} {d : DataW H} {l : List (DataW H)} (h : d ∈ l) : Rows.uptoBulk d ≤ Rows.uptoBulkAll l := by
  induction l with
  | nil => cases h
  | cons x r ih =>
    simp only [Rows.uptoBulkAll]
    cases List.mem_cons.1 h with
    | inl e => subst e; omega
    | inr e => have := ih e; omega
theorem bulk_len {H : Type} (l : List (DataW H)) : l.length ≤ Rows.uptoBulkAll l := by
  induction l with
  | nil => simp [Rows.uptoBulkAll]
  | cons x r ih => have := bulk_pos x; simp only [Rows.uptoBulkAll, List.length_cons]; omega
theorem bulk_slice {H : Type} (elems spare : List (DataW H)) : Rows.uptoBulkAll elems ≤ Rows.uptoBulk (.slice elems spare) := by
  simp only [Rows.uptoBulk]; omega


/-- A list of rectangles that came in. -/
theorem rects_of_trod {H : Type} {enc : TypeId × Value → H} {W : World} {base : Nat} {spare : Nat → Bool} {held : Bool} {fuel : Nat} {v : Value} {x : DataW H × List MemPlace}
    (h : DataW.trod enc Tryz.prog W base spare held fuel 47 [v] = some x) : ∃ ao cap l, v = .slice ao l.length cap ∧ RdU (fun k => k < W.heap.size) W v l ∧ (∀ r ∈ l, Fit r) ∧ l.length ≤ Rows.uptoBulk x.1 := by
  rcases open_slice Tryz.underlying47 h with ⟨hcs, _⟩ | ⟨a, len, cap, m, n, D, Pl, hcs, hb, hl, hm, hmm, hxx, hx⟩
  · simp only [List.cons.injEq, and_true] at hcs
    subst hcs
    exact ⟨none, 0, [], rfl, ⟨none, 0, rfl, Nat.le_refl _, by simp [maxLen], fun h => absurd rfl h⟩, fun r hr => by simp at hr, by simp⟩
  · simp only [List.cons.injEq, and_true] at hcs
    subst hcs
    have hlm : len ≤ m := by rw [hmm]; split <;> omega
    have each : ∀ i, i < len → ∃ r : Rc, Fit r ∧ W.cell? (a.add (i * 4)) = some (.int .i64 r.x) ∧ W.cell? (a.add (i * 4 + 1)) = some (.int .i64 r.y) ∧ W.cell? (a.add (i * 4 + 2)) = some (.int .i64 r.w) ∧ W.cell? (a.add (i * 4 + 3)) = some (.int .i64 r.h) := by
      intro i hi
      obtain ⟨cs', h1, h2⟩ := hx i (by omega)
      rw [cells_rect] at h1
      obtain ⟨_, hlen, hcell⟩ := World.cells?_some h1
      obtain ⟨y0, y1, y2, y3, k, _, _, f0, f1, f2, f3⟩ := trod_struct4 Tryz.underlying46 h2
      simp only [cells_int] at f0 f1 f2 f3
      match cs', hlen with
      | [u0, u1, u2, u3], _ =>
        obtain ⟨n0, e0, _, q0⟩ := DataW.trod_int Tryz.underlying3 f0
        obtain ⟨n1, e1, _, q1⟩ := DataW.trod_int Tryz.underlying3 f1
        obtain ⟨n2, e2, _, q2⟩ := DataW.trod_int Tryz.underlying3 f2
        obtain ⟨n3, e3, _, q3⟩ := DataW.trod_int Tryz.underlying3 f3
        simp at e0 e1 e2 e3
        subst e0 e1 e2 e3
        have c0 := hcell 0 (by omega)
        have c1 := hcell 1 (by omega)
        have c2 := hcell 2 (by omega)
        have c3 := hcell 3 (by omega)
        rw [add_add] at c0 c1 c2 c3
        exact ⟨⟨n0, n1, n2, n3⟩, ⟨bounds_i64 q0, bounds_i64 q1, bounds_i64 q2, bounds_i64 q3⟩, by simpa using c0, by simpa using c1, by simpa using c2, by simpa using c3⟩
    obtain ⟨R, hR⟩ := @choose_lt Rc ⟨⟨0, 0, 0, 0⟩⟩ _ _ each
    refine ⟨some a, cap, (List.range len).map R, by simp, ⟨some a, cap, by simp, by simpa using hl, hm, fun hne => ?_⟩, fun r hr => ?_, ?_⟩
    · have hpos : 0 < len := by
        rcases Nat.eq_zero_or_pos len with e | e
        · subst e; simp at hne
        · exact e
      have hc := (hR 0 hpos).2.1
      obtain ⟨b, off, spot⟩ := a
      have hspot : spot = none := by simpa [Addr.add] using World.cell?_spot hc
      subst hspot
      have hlt := World.block_lt_of_cell? W _ hc
      have hadd : ∀ j, (⟨b, off, none⟩ : Addr).add j = ⟨b, off + j, none⟩ := fun j => by unfold Addr.add; split <;> simp_all
      have hlt' : b < W.heap.size := by simpa [hadd] using hlt
      refine ⟨b, off, rfl, hlt', hlt', fun j r hr => ?_⟩
      have hj : j < len := by
        have := (List.getElem?_eq_some_iff.1 hr).1; simpa using this
      have he : R j = r := by simpa [hj] using hr
      have h4 := hR j hj
      rw [he] at h4
      simp only [hadd] at h4
      exact ⟨h4.2.1, h4.2.2.1, h4.2.2.2.1, h4.2.2.2.2⟩
    · obtain ⟨i, hi, rfl⟩ := List.mem_map.1 hr
      exact (hR i (by simpa using hi)).1
    · rw [hxx]
      have h1 := bulk_slice ((List.range len).map D) ((List.range (m - len)).map fun j => D (len + j))
      have h2 := bulk_len ((List.range len).map D)
      simp at h2
      simp only [List.length_map, List.length_range]
      omega

/-- A list of steps that came in. -/
theorem ops_of_trod {H : Type} {enc : TypeId × Value → H} {W : World} {base : Nat} {spare : Nat → Bool} {held : Bool} {fuel : Nat} {v : Value} {x : DataW H × List MemPlace}
    (h : DataW.trod enc Tryz.prog W base spare held fuel 27 [v] = some x) : ∃ ao cap l, v = .slice ao l.length cap ∧ RdU (fun k => k < W.heap.size) W v l ∧ (∀ r ∈ l, Fit r) ∧ l.length ≤ Rows.uptoBulk x.1 := by
  rcases open_slice Tryz.underlying27 h with ⟨hcs, _⟩ | ⟨a, len, cap, m, n, D, Pl, hcs, hb, hl, hm, hmm, hxx, hx⟩
  · simp only [List.cons.injEq, and_true] at hcs
    subst hcs
    exact ⟨none, 0, [], rfl, ⟨none, 0, rfl, Nat.le_refl _, by simp [maxLen], fun h => absurd rfl h⟩, fun r hr => by simp at hr, by simp⟩
  · simp only [List.cons.injEq, and_true] at hcs
    subst hcs
    have hlm : len ≤ m := by rw [hmm]; split <;> omega
    have each : ∀ i, i < len → ∃ r : Rc, Fit r ∧ W.cell? (a.add (i * 4)) = some (.int .i64 r.x) ∧ W.cell? (a.add (i * 4 + 1)) = some (.int .i64 r.y) ∧ W.cell? (a.add (i * 4 + 2)) = some (.int .i64 r.w) ∧ W.cell? (a.add (i * 4 + 3)) = some (.int .i64 r.h) := by
      intro i hi
      obtain ⟨cs', h1, h2⟩ := hx i (by omega)
      rw [cells_op] at h1
      obtain ⟨_, hlen, hcell⟩ := World.cells?_some h1
      obtain ⟨y0, y1, y2, y3, k, _, _, f0, f1, f2, f3⟩ := trod_struct4 Tryz.underlying42 h2
      simp only [cells_int] at f0 f1 f2 f3
      match cs', hlen with
      | [u0, u1, u2, u3], _ =>
        obtain ⟨n0, e0, _, q0⟩ := DataW.trod_int Tryz.underlying3 f0
        obtain ⟨n1, e1, _, q1⟩ := DataW.trod_int Tryz.underlying3 f1
        obtain ⟨n2, e2, _, q2⟩ := DataW.trod_int Tryz.underlying3 f2
        obtain ⟨n3, e3, _, q3⟩ := DataW.trod_int Tryz.underlying3 f3
        simp at e0 e1 e2 e3
        subst e0 e1 e2 e3
        have c0 := hcell 0 (by omega)
        have c1 := hcell 1 (by omega)
        have c2 := hcell 2 (by omega)
        have c3 := hcell 3 (by omega)
        rw [add_add] at c0 c1 c2 c3
        exact ⟨⟨n0, n1, n2, n3⟩, ⟨bounds_i64 q0, bounds_i64 q1, bounds_i64 q2, bounds_i64 q3⟩, by simpa using c0, by simpa using c1, by simpa using c2, by simpa using c3⟩
    obtain ⟨R, hR⟩ := @choose_lt Rc ⟨⟨0, 0, 0, 0⟩⟩ _ _ each
    refine ⟨some a, cap, (List.range len).map R, by simp, ⟨some a, cap, by simp, by simpa using hl, hm, fun hne => ?_⟩, fun r hr => ?_, ?_⟩
    · have hpos : 0 < len := by
        rcases Nat.eq_zero_or_pos len with e | e
        · subst e; simp at hne
        · exact e
      have hc := (hR 0 hpos).2.1
      obtain ⟨b, off, spot⟩ := a
      have hspot : spot = none := by simpa [Addr.add] using World.cell?_spot hc
      subst hspot
      have hlt := World.block_lt_of_cell? W _ hc
      have hadd : ∀ j, (⟨b, off, none⟩ : Addr).add j = ⟨b, off + j, none⟩ := fun j => by unfold Addr.add; split <;> simp_all
      have hlt' : b < W.heap.size := by simpa [hadd] using hlt
      refine ⟨b, off, rfl, hlt', hlt', fun j r hr => ?_⟩
      have hj : j < len := by
        have := (List.getElem?_eq_some_iff.1 hr).1; simpa using this
      have he : R j = r := by simpa [hj] using hr
      have h4 := hR j hj
      rw [he] at h4
      simp only [hadd] at h4
      exact ⟨h4.2.1, h4.2.2.1, h4.2.2.2.1, h4.2.2.2.2⟩
    · obtain ⟨i, hi, rfl⟩ := List.mem_map.1 hr
      exact (hR i (by simpa using hi)).1
    · rw [hxx]
      have h1 := bulk_slice ((List.range len).map D) ((List.range (m - len)).map fun j => D (len + j))
      have h2 := bulk_len ((List.range len).map D)
      simp at h2
      simp only [List.length_map, List.length_range]
      omega

/-- A list of lists of rectangles that came in. -/
theorem lists_of_trod {H : Type} {enc : TypeId × Value → H} {W : World} {base : Nat} {spare : Nat → Bool} {held : Bool} {fuel : Nat} {v : Value} {x : DataW H × List MemPlace}
    (h : DataW.trod enc Tryz.prog W base spare held fuel 22 [v] = some x) : ∃ L, RdLL (fun k => k < W.heap.size) W v L ∧ L.length ≤ Rows.uptoBulk x.1 ∧ ∀ l ∈ L, l.length ≤ Rows.uptoBulk x.1 := by
  rcases open_slice1 Tryz.underlying22 cells_rects h with ⟨hcs, _⟩ | ⟨a, len, cap, m, n, V, D, Pl, hcs, hb, hl, hm, hmm, hxx, hx⟩
  · simp only [List.cons.injEq, and_true] at hcs
    subst hcs
    exact ⟨[], ⟨none, 0, rfl, Nat.le_refl _, fun h => absurd rfl h⟩, by simp, fun l hl => by simp at hl⟩
  · simp only [List.cons.injEq, and_true] at hcs
    subst hcs
    have hlm : len ≤ m := by rw [hmm]; split <;> omega
    have each : ∀ i, i < len → ∃ l : List Rc, RdU (fun k => k < W.heap.size) W (V i) l ∧ l.length ≤ Rows.uptoBulk (D i) := by
      intro i hi
      obtain ⟨_, h2⟩ := hx i (by omega)
      obtain ⟨_, _, l, _, h3, _, h4⟩ := rects_of_trod h2
      exact ⟨l, h3, h4⟩
    obtain ⟨R, hR⟩ := @choose_lt (List Rc) ⟨[]⟩ _ _ each
    have hbk : ∀ i, i < len → Rows.uptoBulk (D i) ≤ Rows.uptoBulk x.1 := fun i hi => by
      rw [hxx]
      exact Nat.le_trans (bulk_mem (List.mem_map.2 ⟨i, by simpa using hi, rfl⟩)) (bulk_slice ((List.range len).map D) ((List.range (m - len)).map fun j => D (len + j)))
    refine ⟨(List.range len).map R, ⟨some a, cap, by simp, by simpa using hl, fun hne => ?_⟩, ?_, fun l hl' => ?_⟩
    · have hpos : 0 < len := by
        rcases Nat.eq_zero_or_pos len with e | e
        · subst e; simp at hne
        · exact e
      have hc := (hx 0 (by omega)).1
      obtain ⟨b, off, spot⟩ := a
      have hspot : spot = none := by simpa [Addr.add] using World.cell?_spot hc
      subst hspot
      have hlt := World.block_lt_of_cell? W _ hc
      have hadd : ∀ j, (⟨b, off, none⟩ : Addr).add j = ⟨b, off + j, none⟩ := fun j => by unfold Addr.add; split <;> simp_all
      have hlt' : b < W.heap.size := by simpa [hadd] using hlt
      refine ⟨b, off, rfl, hlt', hlt', fun i l hil => ?_⟩
      have hj : i < len := by
        have := (List.getElem?_eq_some_iff.1 hil).1; simpa using this
      have he : R i = l := by simpa [hj] using hil
      obtain ⟨ao', cap', ev, g1, g2, g3⟩ := (hR i hj).1
      rw [he] at ev g1 g3
      have h5 := (hx i (by omega)).1
      rw [hadd, ev] at h5
      exact ⟨ao', cap', h5, g1, g2, g3⟩
    · rw [hxx]
      have h1 := bulk_slice ((List.range len).map D) ((List.range (m - len)).map fun j => D (len + j))
      have h2 := bulk_len ((List.range len).map D)
      simp at h2
      simp only [List.length_map, List.length_range]
      omega
    · obtain ⟨i, hi, rfl⟩ := List.mem_map.1 hl'
      have hi' : i < len := by simpa using hi
      exact Nat.le_trans (hR i hi').2 (hbk i hi')

namespace Regions
theorem own : ownKnob Tryz.prog.godebug = none := by kernel_rfl
theorem laidOut : laidOutB Tryz.prog = true := by kernel_rfl
theorem cells_goods : Tryz.prog.cellsOf 26 = 3 := by kernel_rfl

theorem slice_of_trod {H : Type} {enc : TypeId × Value → H} {W : World} {base : Nat} {spare : Nat → Bool} {held : Bool} {fuel : Nat} {t e : TypeId} {v : Value} {x : DataW H × List MemPlace} (ht : Tryz.prog.underlying t = some (.slice e))
    (h : DataW.trod enc Tryz.prog W base spare held fuel t [v] = some x) : ∃ ao n cap, v = .slice ao n cap := by
  rcases open_slice ht h with ⟨hcs, _⟩ | ⟨a, len, cap, m, n, D, Pl, hcs, _⟩
  · simp only [List.cons.injEq, and_true] at hcs; exact ⟨_, _, _, hcs⟩
  · simp only [List.cons.injEq, and_true] at hcs; exact ⟨_, _, _, hcs⟩

set_option maxRecDepth 100000 in
theorem contract (H : Type) (enc : TypeId × Value → H) (W : World) (base : Nat) (args : Array Value) (ds gs : List (DataW H)) (before : List MemPlace)
    (hval : ∀ (j : Nat) t v, Tryz.f3.params[j]? = some t → args[j]? = some v → Value.okWide Tryz.prog W .any base t v)
    (hW : DataW.Whole enc Tryz.prog Tryz.f3.params.toList Rows.regionsSpec.vars false W args.toList ds gs before) (hk : Rows.uptoSmall H (ds ++ gs) = true) :
    Calls Tryz.prog 3 args W fun e W' => ∃ v, e = .returned v ∧ Rows.regionsSpec.post enc Tryz.prog Tryz.f3 false true false false W args v W' := by
  have hW' := hW
  obtain ⟨p, q, hA0, hV, rfl, hfz, hnd⟩ := hW
  have hA : DataW.TrodAll enc Tryz.prog W 0 (fun _ => true) true Tryz.f3.params.toList args.toList ds p := hA0
  rw [Tryz.params3] at hA hval
  obtain ⟨v0, vs0, d0, ds0, p0, q0, hargs, rfl, rfl, h0, r0⟩ := trodAll_cons hA
  obtain ⟨v1, vs1, d1, ds1, p1, q1, rfl, rfl, rfl, h1, r1⟩ := trodAll_cons r0
  obtain ⟨rfl, rfl, rfl⟩ := trodAll_nil r1
  obtain rfl : args = #[v0, v1] := by cases args; simp_all
  obtain ⟨rfl, rfl⟩ := trodVars_none hV
  have k0 := h0
  have k1 := h1
  have lt0 : ∀ x ∈ p0, x.block < W.heap.size := by obtain ⟨m, hm⟩ := k0; exact DataW.trod_lt m _ _ _ hm
  have lt1 : ∀ x ∈ p1, x.block < W.heap.size := by obtain ⟨m, hm⟩ := k1; exact DataW.trod_lt m _ _ _ hm
  have hbulk : Rows.uptoBulkAll ([d0, d1] ++ ([] : List (DataW H))) ≤ 1048576 := of_decide_eq_true hk
  simp only [List.append_nil, Rows.uptoBulkAll] at hbulk
  obtain ⟨u0, u1, u2, y0, y1, y2, n, rfl, rfl, rfl, t0, t1, t2⟩ := open_agg3 Tryz.underlying26 (by kernel_rfl) cells_goods (hval 0 26 v0 rfl rfl) h0
  simp only [Rows.uptoBulk, Rows.uptoBulkAll] at hbulk
  obtain ⟨L, hL, hLn, hll⟩ := lists_of_trod t0
  obtain ⟨co, cn, cc, rfl⟩ := slice_of_trod Tryz.underlying23 t1
  obtain ⟨oo, on, oc, rfl⟩ := slice_of_trod Tryz.underlying24 t2
  obtain ⟨a1, len1, cap1, rfl⟩ := okWide_slice Tryz.underlying27 (hval 1 27 v1 rfl rfl)
  obtain ⟨so, scap, ops, es, hS, hfit, hon⟩ : ∃ ao cap l, Value.slice a1 len1 cap1 = .slice ao l.length cap ∧ RdU (fun k => k < W.heap.size) W (.slice a1 len1 cap1) l ∧ (∀ r ∈ l, Fit r) ∧ l.length ≤ Rows.uptoBulk d1 := by
    obtain ⟨fuel, hf⟩ := h1
    exact ops_of_trod hf
  rw [es] at hS hW' k1 ⊢
  clear hA0
  refine (regions_any u0 co oo so cn cc on oc scap L ops W hL hS (by omega) (by omega) (fun l hl => by have := hll l hl; omega) (fun r hr => ⟨(hfit r hr).2.1, (hfit r hr).2.2.1⟩)).mono fun e W' ⟨he, bel⟩ => ?_
  subst he
  exact ⟨_, rfl, _, _, _, [], _, [], hW', trodAll_mk1 (shut_bool Tryz.underlying4 _), (trodAll_cons_mk (Below.trod laidOut (by kernel_rfl) (of_decide_eq_true (by kernel_rfl)) k0 bel lt0) (trodAll_cons_mk (Below.trod laidOut (by kernel_rfl) (of_decide_eq_true (by kernel_rfl)) k1 bel lt1) trodAll_mk0)), rfl, bel.frame _, fun h => by cases h⟩

set_option maxRecDepth 100000 in
theorem lifted (os : Os) (started : os.Started) (H : Type) (enc : TypeId × Value → H) (F : Stop.Interp) :
    ReturnsInHanded {} Tryz.checked os 3 .any ((Rows.OpenSpec.upto Rows.regionsSpec).pre6 enc Tryz.prog Tryz.f3 Rows.regionsUptoRow.domain false) (((Rows.OpenSpec.upto Rows.regionsSpec).at F).post enc Tryz.prog Tryz.f3 false true false false) := by
  refine returnsInHanded_of_cond (C := Tryz.checked) (s := Rows.OpenSpec.upto Rows.regionsSpec) (k := Rows.uptoSmall) rfl own started (by kernel_rfl) Tryz.func3
    (OpenSpec.witness (enc := enc) (C := Tryz.checked) (s := Rows.OpenSpec.upto Rows.regionsSpec) (k := Rows.uptoSmall) rfl false ⟨#[], #[.agg #[.slice none 0 0, .slice none 0 0, .slice none 0 0], .slice none 0 0], []⟩ 8 (by kernel_rfl) (by kernel_rfl) (by kernel_rfl)
      (x := ([.agg [.nil, .nil, .nil], .nil], [], [])) (by kernel_rfl) rfl (by kernel_rfl)) ?_
  intro W base args ds gs before hval hW _ hk _
  exact contract H enc W base args ds gs before hval hW hk

theorem over : Rows.regionsUptoRow.holds Tryz.pinned (Rows.OpenSpec.upto Rows.regionsSpec) :=
  OpenClaim.holds_of_cond 3 Tryz.f3 rfl rfl rfl rfl rfl rfl rfl ⟨rfl, rfl, rfl, rfl, rfl⟩ rfl rfl rfl rfl rfl (by kernel_rfl) Tryz.func3 (by kernel_rfl)
    (of_decide_eq_true (by kernel_rfl)) (by unfold Func.isWrapper; first | (rw [if_pos (by decide +kernel)]; kernel_rfl) | (rw [if_neg (by decide +kernel)]; exact ⟨rfl, rfl⟩))
    (fun os started H enc _ F => lifted os started H enc F)
end Regions

theorem regions_upto_holds : Rows.RegionsUptoSaid := Regions.over
#print axioms regions_upto_holds
end Go.Proofs.YtfnockbgkcgpkaaGreat
