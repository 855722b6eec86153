import Derived.Test.YtfnockbgkcgpkaaWalksP
import Derived.Test.YtfnockbgkcgpkaaRows
import Derived.ProofKit
import Derived.OpenShut
import Derived.ShutString
import Derived.ChangeOld
import Derived.Below
import Derived.Lib.SmallJoins
import Derived.Deep.Slices
set_option linter.all false
namespace Go.Proofs.Ytfnockbgkcgpkaa
open Go.ChangeShapes Go.WideShapes Go.ChangeAt Go.RowKit Go.Proofs.Panes Go.Deep Go.Joins

theorem cells_int : Try.prog.cellsOf 3 = 1 := by kernel_rfl
theorem cells_rect : Try.prog.cellsOf 29 = 4 := by kernel_rfl

/-- A list of rectangles that came in. -/
theorem rd_of_trod {H : Type} {enc : TypeId × Value → H} {W : World} {base : Nat} {spare : Nat → Bool} {held : Bool} {fuel : Nat} {ao : Option Addr} {len cap : Nat} {x : DataW H × List MemPlace}
    (h : DataW.trod enc Try.prog W base spare held fuel 22 [.slice ao len cap] = some x) : ∃ l, Rd W (.slice ao len cap) l ∧ (∀ r ∈ l, Fit r) ∧ l.length ≤ 9223372036854775807 := by
  rcases open_slice Try.underlying22 h with ⟨hcs, _⟩ | ⟨a, len', cap', m, n, D, Pl, hcs, hb, hl, hm, hmm, _, hx⟩
  · simp only [List.cons.injEq, Value.slice.injEq, and_true] at hcs
    obtain ⟨rfl, rfl, rfl⟩ := hcs
    exact ⟨[], ⟨none, 0, rfl, Nat.le_refl _, by simp [maxLen], fun h => absurd rfl h⟩, fun r hr => by simp at hr, by simp⟩
  · simp only [List.cons.injEq, Value.slice.injEq, and_true] at hcs
    obtain ⟨rfl, rfl, rfl⟩ := hcs
    have hlm : len ≤ m := by rw [hmm]; split <;> omega
    have each : ∀ i, i < len → ∃ r : Rc, Fit r ∧ W.cell? (a.add (i * 4)) = some (.int .i64 r.x) ∧ W.cell? (a.add (i * 4 + 1)) = some (.int .i64 r.y) ∧ W.cell? (a.add (i * 4 + 2)) = some (.int .i64 r.w) ∧ W.cell? (a.add (i * 4 + 3)) = some (.int .i64 r.h) := by
      intro i hi
      obtain ⟨cs', h1, h2⟩ := hx i (by omega)
      rw [cells_rect] at h1
      obtain ⟨_, hlen, hcell⟩ := World.cells?_some h1
      obtain ⟨y0, y1, y2, y3, k, _, _, f0, f1, f2, f3⟩ := trod_struct4 Try.underlying29 h2
      simp only [cells_int] at f0 f1 f2 f3
      match cs', hlen with
      | [u0, u1, u2, u3], _ =>
        obtain ⟨n0, e0, _, q0⟩ := DataW.trod_int Try.underlying3 f0
        obtain ⟨n1, e1, _, q1⟩ := DataW.trod_int Try.underlying3 f1
        obtain ⟨n2, e2, _, q2⟩ := DataW.trod_int Try.underlying3 f2
        obtain ⟨n3, e3, _, q3⟩ := DataW.trod_int Try.underlying3 f3
        simp at e0 e1 e2 e3
        subst e0 e1 e2 e3
        have c0 := hcell 0 (by omega)
        have c1 := hcell 1 (by omega)
        have c2 := hcell 2 (by omega)
        have c3 := hcell 3 (by omega)
        rw [add_add] at c0 c1 c2 c3
        exact ⟨⟨n0, n1, n2, n3⟩, ⟨bounds_i64 q0, bounds_i64 q1, bounds_i64 q2, bounds_i64 q3⟩, by simpa using c0, by simpa using c1, by simpa using c2, by simpa using c3⟩
    obtain ⟨R, hR⟩ := @choose_lt Rc ⟨⟨0, 0, 0, 0⟩⟩ _ _ each
    have hmax : maxLen = 9223372036854775807 := rfl
    refine ⟨(List.range len).map R, ⟨some a, cap, by simp, by simpa using hl, hm, fun hne => ?_⟩, fun r hr => ?_, by simp; omega⟩
    · have hpos : 0 < len := by
        rcases Nat.eq_zero_or_pos len with e | e
        · subst e; simp at hne
        · exact e
      have hc := (hR 0 hpos).2.1
      obtain ⟨b, off, spot⟩ := a
      have hspot : spot = none := by simpa [Addr.add] using World.cell?_spot hc
      subst hspot
      have hlt := World.block_lt_of_cell? W _ hc
      have hadd : ∀ j, (⟨b, off, none⟩ : Addr).add j = ⟨b, off + j, none⟩ := fun j => by unfold Addr.add; split <;> simp_all
      refine ⟨b, off, rfl, by simpa [hadd] using hlt, fun j r hr => ?_⟩
      have hj : j < len := by
        have := (List.getElem?_eq_some_iff.1 hr).1; simpa using this
      have he : R j = r := by simpa [hj] using hr
      have h4 := hR j hj
      rw [he] at h4
      simp only [hadd] at h4
      exact ⟨h4.2.1, h4.2.2.1, h4.2.2.2.1, h4.2.2.2.2⟩
    · obtain ⟨i, hi, rfl⟩ := List.mem_map.1 hr
      exact (hR i (by simpa using hi)).1
end Go.Proofs.Ytfnockbgkcgpkaa
