import Derived.Test.YtfnockbgkcgpkaaKabz
import Derived.Test.YtfnockbgkcgpkaaKaca
set_option linter.all false
namespace Go.Proofs.Ytfnockbgkcgpkaa
open Go.ChangeShapes Go.WideShapes Go.ChangeAt Go.RowKit Go.Proofs.Panes Go.Deep Go.Joins
namespace Layers
theorem own : ownKnob Try.prog.godebug = none := by kernel_rfl
theorem laidOut : laidOutB Try.prog = true := by kernel_rfl
set_option maxRecDepth 100000 in
/-- A list of numbers that came in. -/
theorem ints_fit {H : Type} {enc : TypeId × Value → H} {W : World} {base : Nat} {spare : Nat → Bool} {held : Bool} {fuel : Nat} {v : Value} {x : DataW H × List MemPlace}
    (h : DataW.trod enc Try.prog W base spare held fuel 23 [v] = some x) : ∃ l, RdN (fun k => k < W.heap.size) W v l ∧ (∀ z ∈ l, FitI z) ∧ l.length ≤ 9223372036854775807 := by
  rcases open_slice1 Try.underlying23 KRead.cells_int h with ⟨hcs, _⟩ | ⟨a, len, cap, m, n, V, D, Pl, hcs, hb, hl, hm, hmm, hxx, hx⟩
  · simp only [List.cons.injEq, and_true] at hcs
    subst hcs
    exact ⟨[], ⟨none, 0, rfl, Nat.le_refl _, by simp [maxLen], fun h => absurd rfl h⟩, fun z hz => by simp at hz, by simp⟩
  · simp only [List.cons.injEq, and_true] at hcs
    subst hcs
    have hlm : len ≤ m := by rw [hmm]; split <;> omega
    have each : ∀ i, i < len → ∃ z : Int, V i = .int .i64 z ∧ FitI z := by
      intro i hi
      obtain ⟨_, h2⟩ := hx i (by omega)
      obtain ⟨n0, e0, _, q0⟩ := DataW.trod_int Try.underlying3 h2
      simp at e0
      exact ⟨n0, e0, bounds_i64 q0⟩
    obtain ⟨R, hR⟩ := @choose_lt Int ⟨0⟩ _ _ each
    refine ⟨(List.range len).map R, ⟨some a, cap, by simp, by simpa using hl, hm, fun hne => ?_⟩, fun z hz => ?_, ?_⟩
    · have hpos : 0 < len := by
        rcases Nat.eq_zero_or_pos len with e | e
        · subst e; simp at hne
        · exact e
      have hc := (hx 0 (by omega)).1
      have hspot := KRead.spot_of (by omega) hc
      obtain ⟨b, off, spot⟩ := a
      simp only at hspot
      subst hspot
      have hlt := World.block_lt_of_cell? W _ hc
      have hlt' : b < W.heap.size := by simpa [KRead.add_none] using hlt
      refine ⟨b, off, rfl, hlt', hlt', fun j z hj => ?_⟩
      have hj' : j < len := by
        have := (List.getElem?_eq_some_iff.1 hj).1; simpa using this
      have he : R j = z := by simpa [hj'] using hj
      have h5 := (hx j (by omega)).1
      rw [KRead.add_none] at h5
      rw [h5, (hR j hj').1, he]
    · obtain ⟨i, hi, rfl⟩ := List.mem_map.1 hz
      exact (hR i (by simpa using hi)).2
    · simp only [List.length_map, List.length_range]
      have hmax : maxLen = 9223372036854775807 := rfl
      omega
set_option maxRecDepth 100000 in
theorem lifted (os : Os) (started : os.Started) (H : Type) (enc : TypeId × Value → H) :
    ReturnsInHanded {} Try.checked os 9 .any (Rows.layersSpec.pre6 enc Try.prog Try.f9 Rows.layersRow.domain false) (Rows.layersSpec.post enc Try.prog Try.f9 false true false false) := by
  refine returnsInHanded_of_change (C := Try.checked) own started (by kernel_rfl) Try.func9
    (ChangeSpec.witness6 (enc := enc) (C := Try.checked) false ⟨#[], #[.agg #[.int .i64 0, .int .i64 0, .int .i64 0, .int .i64 0, .int .i64 0, .int .i64 0, .int .i64 0, .int .i64 0], .slice none 0 0, .slice none 0 0, .slice none 0 0], []⟩ 8 (by kernel_rfl) (by kernel_rfl) (by kernel_rfl) (by kernel_rfl)) ?_
  intro W base args ds gs before hval0 hW hcnd _
  have hval : ∀ (j : Nat) t v, Try.f9.params[j]? = some t → args[j]? = some v → Value.okWide Try.prog W .any base t v := hval0
  have hW' := hW
  obtain ⟨p, q, hA0, hV, rfl, hfz, hnd⟩ := hW
  have hA : DataW.TrodAll enc Try.prog W 0 (fun _ => true) true Try.f9.params.toList args.toList ds p := hA0
  rw [Try.params9] at hA hval
  obtain ⟨v0, vs0, d0, ds0, p0, q0, hargs, rfl, rfl, h0, r0⟩ := trodAll_cons hA
  obtain ⟨v1, vs1, d1, ds1, p1, q1, rfl, rfl, rfl, h1, r1⟩ := trodAll_cons r0
  obtain ⟨v2, vs2, d2, ds2, p2, q2, rfl, rfl, rfl, h2, r2⟩ := trodAll_cons r1
  obtain ⟨v3, vs3, d3, ds3, p3, q3, rfl, rfl, rfl, h3, r3⟩ := trodAll_cons r2
  obtain ⟨rfl, rfl, rfl⟩ := trodAll_nil r3
  obtain rfl : args = #[v0, v1, v2, v3] := by cases args; simp_all
  obtain ⟨rfl, rfl⟩ := trodVars_none hV
  have k0 := h0
  have k1 := h1
  have k2 := h2
  have k3 := h3
  have lt0 : ∀ x ∈ p0, x.block < W.heap.size := by obtain ⟨m, hm⟩ := k0; exact DataW.trod_lt m _ _ _ hm
  have lt1 : ∀ x ∈ p1, x.block < W.heap.size := by obtain ⟨m, hm⟩ := k1; exact DataW.trod_lt m _ _ _ hm
  have lt2 : ∀ x ∈ p2, x.block < W.heap.size := by obtain ⟨m, hm⟩ := k2; exact DataW.trod_lt m _ _ _ hm
  have lt3 : ∀ x ∈ p3, x.block < W.heap.size := by obtain ⟨m, hm⟩ := k3; exact DataW.trod_lt m _ _ _ hm
  obtain ⟨c, rfl, hc⟩ := KRead.case_of_trod (hval 0 40 v0 rfl rfl) h0
  obtain ⟨a1, len1, cap1, rfl⟩ := okWide_slice Try.underlying23 (hval 1 23 v1 rfl rfl)
  obtain ⟨a2, len2, cap2, rfl⟩ := okWide_slice Try.underlying23 (hval 2 23 v2 rfl rfl)
  obtain ⟨a3, len3, cap3, rfl⟩ := okWide_slice Try.underlying23 (hval 3 23 v3 rfl rfl)
  obtain ⟨ps, hps, hfp, hpn⟩ : ∃ l, RdN (fun k => k < W.heap.size) W (.slice a1 len1 cap1) l ∧ (∀ z ∈ l, FitI z) ∧ l.length ≤ 9223372036854775807 := by
    obtain ⟨fuel, hf⟩ := h1
    exact ints_fit hf
  obtain ⟨xs, hxs, hfx, hxn⟩ : ∃ l, RdN (fun k => k < W.heap.size) W (.slice a2 len2 cap2) l ∧ (∀ z ∈ l, FitI z) ∧ l.length ≤ 9223372036854775807 := by
    obtain ⟨fuel, hf⟩ := h2
    exact ints_fit hf
  obtain ⟨bs, hbs, hfb, hbn⟩ : ∃ l, RdN (fun k => k < W.heap.size) W (.slice a3 len3 cap3) l ∧ (∀ z ∈ l, FitI z) ∧ l.length ≤ 9223372036854775807 := by
    obtain ⟨fuel, hf⟩ := h3
    exact ints_fit hf
  clear hA0 hval0
  refine (layers_any c hc ps hpn hfp xs hxn hfx bs hbn hfb W _ _ _ hps hxs hbs).mono fun e W' ⟨he, bel⟩ => ?_
  subst he
  exact ⟨_, rfl, _, _, _, [], _, [], hW', trodAll_mk1 (shut_bool Try.underlying4 _), (trodAll_cons_mk (Below.trod laidOut (by kernel_rfl) (of_decide_eq_true (by kernel_rfl)) k0 bel lt0) (trodAll_cons_mk (Below.trod laidOut (by kernel_rfl) (of_decide_eq_true (by kernel_rfl)) k1 bel lt1) (trodAll_cons_mk (Below.trod laidOut (by kernel_rfl) (of_decide_eq_true (by kernel_rfl)) k2 bel lt2) (trodAll_cons_mk (Below.trod laidOut (by kernel_rfl) (of_decide_eq_true (by kernel_rfl)) k3 bel lt3) trodAll_mk0)))), rfl, bel.frame _, fun h => by cases h⟩

theorem over : Rows.layersRow.holds Try.pinned (OpenSpec.ofChange Rows.layersSpec) :=
  OpenClaim.holds_of_wide 9 Try.f9 rfl rfl rfl rfl rfl rfl rfl ⟨rfl, rfl, rfl, rfl, rfl⟩ rfl rfl rfl rfl rfl (by kernel_rfl) Try.func9 (by kernel_rfl)
    (of_decide_eq_true (by kernel_rfl)) (by unfold Func.isWrapper; first | (rw [if_pos (by decide +kernel)]; kernel_rfl) | (rw [if_neg (by decide +kernel)]; exact ⟨rfl, rfl⟩))
    (fun os started H enc _ => lifted os started H enc)
end Layers

theorem layers_holds : Rows.LayersSaid := Layers.over
#print axioms layers_holds
end Go.Proofs.Ytfnockbgkcgpkaa
