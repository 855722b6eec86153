import Derived.Test.YtfnockbgkcgpkaaGreatLawB
set_option linter.all false
namespace Go.Proofs.YtfnockbgkcgpkaaGreat
open Go.RowKit Go.Proofs.Panes
set_option maxRecDepth 100000
attribute [local go_sem ↓] Go.wp_at_zero Go.wp_at_succ

/-- What a call of rectangles leaves, held against the document's answer. -/
structure Fits (w w' : World) (v : Value) (way : Int) (a b R : List Rc) : Prop where
  own : Own w' w.heap.size v R
  only : ∀ D, Doc way a b D → R = D
  len : R.length ≤ 20000000
  below : Below w.heap.size w w'
theorem Res.fits {w w' : World} {v : Value} {way : Int} {a b R : List Rc} {C : Int → Int → Prop} (h : Res w w' v R C) (hC : ∀ px py, C px py ↔ wayB way (covA a px py) (covA b px py) = true) : Fits w w' v way a b R :=
  ⟨h.own, fun _ d => agree h d hC, h.len, h.below⟩

set_option maxHeartbeats 1000000 in
theorem called_ok2 (va vb : Value) (a b : List Rc) (w : World) (hA : Rd w va a) (hB : Rd w vb b) (ka : okL a = true) (kb : okL b = true) :
    Calls Tryz.prog 35 #[.int .i64 2, va, vb] w fun e w' => ∃ v' R, e = .returned (.tuple #[v', .int .i64 0]) ∧ Fits w w' v' (wayOf 2) a b R := by
  have H := hide (union_ok va vb a b w hA hB ka kb)
  clear hA ka kb hB
  go_enter Tryz.func35, Tryz.ntmps35
  go_wp2_with fail
  refine (unhide H).mono ?_
  rintro e w' ⟨v', R, rfl, hR⟩
  have HR := hide (show Fits w w' v' (wayOf 2) a b R from hR.fits fun px py => way_union a b px py)
  clear hR
  go_wp2_with (go_at_call 17; refine (num_any _ _).mono ?_; rintro e w' ⟨rfl, rfl⟩)
  go_ret2
  exact ⟨_, R, rfl, unhide HR⟩

set_option maxHeartbeats 1000000 in
theorem called_err2 (va vb : Value) (a b : List Rc) (w : World) (hA : Rd w va a) (hB : Rd w vb b) (kk : (okL a && okL b) = false) :
    Calls Tryz.prog 35 #[.int .i64 2, va, vb] w fun e w' => e = .returned (.tuple #[.slice none 0 0, .int .i64 1]) ∧ Below w.heap.size w w' := by
  have H := hide (union_err va vb a b w hA hB kk)
  clear hA hB kk
  go_enter Tryz.func35, Tryz.ntmps35
  go_wp2_with fail
  refine (unhide H).mono ?_
  rintro e w' ⟨rfl, h1⟩
  have H1 := hide h1
  clear h1
  go_wp2_with (go_at_call 17; refine (num_any _ _).mono ?_; rintro e w' ⟨rfl, rfl⟩)
  go_ret2
  exact ⟨rfl, unhide H1⟩

set_option maxHeartbeats 1000000 in
theorem called_ok3 (va vb : Value) (a b : List Rc) (w : World) (hA : Rd w va a) (hB : Rd w vb b) (ka : okL a = true) (kb : okL b = true) :
    Calls Tryz.prog 35 #[.int .i64 3, va, vb] w fun e w' => ∃ v' R, e = .returned (.tuple #[v', .int .i64 0]) ∧ Fits w w' v' (wayOf 3) a b R := by
  have H := hide (intersect_ok va vb a b w hA hB ka kb)
  clear hA ka kb hB
  go_enter Tryz.func35, Tryz.ntmps35
  go_wp2_with fail
  refine (unhide H).mono ?_
  rintro e w' ⟨v', R, rfl, hR⟩
  have HR := hide (show Fits w w' v' (wayOf 3) a b R from hR.fits fun px py => way_intersect a b px py)
  clear hR
  go_wp2_with (go_at_call 17; refine (num_any _ _).mono ?_; rintro e w' ⟨rfl, rfl⟩)
  go_ret2
  exact ⟨_, R, rfl, unhide HR⟩

set_option maxHeartbeats 1000000 in
theorem called_err3 (va vb : Value) (a b : List Rc) (w : World) (hA : Rd w va a) (hB : Rd w vb b) (kk : (okL a && okL b) = false) :
    Calls Tryz.prog 35 #[.int .i64 3, va, vb] w fun e w' => e = .returned (.tuple #[.slice none 0 0, .int .i64 1]) ∧ Below w.heap.size w w' := by
  have H := hide (intersect_err va vb a b w hA hB kk)
  clear hA hB kk
  go_enter Tryz.func35, Tryz.ntmps35
  go_wp2_with fail
  refine (unhide H).mono ?_
  rintro e w' ⟨rfl, h1⟩
  have H1 := hide h1
  clear h1
  go_wp2_with (go_at_call 17; refine (num_any _ _).mono ?_; rintro e w' ⟨rfl, rfl⟩)
  go_ret2
  exact ⟨rfl, unhide H1⟩

set_option maxHeartbeats 1000000 in
theorem called_ok4 (va vb : Value) (a b : List Rc) (w : World) (hA : Rd w va a) (hB : Rd w vb b) (ka : okL a = true) (kb : okL b = true) :
    Calls Tryz.prog 35 #[.int .i64 4, va, vb] w fun e w' => ∃ v' R, e = .returned (.tuple #[v', .int .i64 0]) ∧ Fits w w' v' (wayOf 4) a b R := by
  have H := hide (subtract_ok va vb a b w hA hB ka kb)
  clear hA ka kb hB
  go_enter Tryz.func35, Tryz.ntmps35
  go_wp2_with fail
  refine (unhide H).mono ?_
  rintro e w' ⟨v', R, rfl, hR⟩
  have HR := hide (show Fits w w' v' (wayOf 4) a b R from hR.fits fun px py => way_subtract a b px py)
  clear hR
  go_wp2_with (go_at_call 17; refine (num_any _ _).mono ?_; rintro e w' ⟨rfl, rfl⟩)
  go_ret2
  exact ⟨_, R, rfl, unhide HR⟩

set_option maxHeartbeats 1000000 in
theorem called_err4 (va vb : Value) (a b : List Rc) (w : World) (hA : Rd w va a) (hB : Rd w vb b) (kk : (okL a && okL b) = false) :
    Calls Tryz.prog 35 #[.int .i64 4, va, vb] w fun e w' => e = .returned (.tuple #[.slice none 0 0, .int .i64 1]) ∧ Below w.heap.size w w' := by
  have H := hide (subtract_err va vb a b w hA hB kk)
  clear hA hB kk
  go_enter Tryz.func35, Tryz.ntmps35
  go_wp2_with fail
  refine (unhide H).mono ?_
  rintro e w' ⟨rfl, h1⟩
  have H1 := hide h1
  clear h1
  go_wp2_with (go_at_call 17; refine (num_any _ _).mono ?_; rintro e w' ⟨rfl, rfl⟩)
  go_ret2
  exact ⟨rfl, unhide H1⟩

set_option maxHeartbeats 1000000 in
theorem called_ok1 (va vb : Value) (a b : List Rc) (w : World) (hA : Rd w va a) (hB : Rd w vb b) (ka : okL a = true) (kb : okL b = true) (hb : b = []) :
    Calls Tryz.prog 35 #[.int .i64 1, va, vb] w fun e w' => ∃ v' R, e = .returned (.tuple #[v', .int .i64 0]) ∧ Fits w w' v' (wayOf 1) a b R := by
  have H := hide (canon_ok va a w hA ka)
  subst hb
  clear hA ka kb hB
  go_enter Tryz.func35, Tryz.ntmps35
  go_wp2_with fail
  refine (unhide H).mono ?_
  rintro e w' ⟨v', R, rfl, hR⟩
  have HR := hide (show Fits w w' v' (wayOf 1) a [] R from hR.fits fun px py => way_canon a px py)
  clear hR
  go_wp2_with (go_at_call 17; refine (num_any _ _).mono ?_; rintro e w' ⟨rfl, rfl⟩)
  go_ret2
  exact ⟨_, R, rfl, unhide HR⟩

set_option maxHeartbeats 1000000 in
theorem called_err1 (va vb : Value) (a b : List Rc) (w : World) (hA : Rd w va a) (hB : Rd w vb b) (kk : (okL a && okL b) = false) (hb : b = []) :
    Calls Tryz.prog 35 #[.int .i64 1, va, vb] w fun e w' => e = .returned (.tuple #[.slice none 0 0, .int .i64 1]) ∧ Below w.heap.size w w' := by
  have H := hide (canon_err va a w hA (by subst hb; cases h : okL a; rfl; rw [h] at kk; cases kk))
  clear hA hB kk
  go_enter Tryz.func35, Tryz.ntmps35
  go_wp2_with fail
  refine (unhide H).mono ?_
  rintro e w' ⟨rfl, h1⟩
  have H1 := hide h1
  clear h1
  go_wp2_with (go_at_call 17; refine (num_any _ _).mono ?_; rintro e w' ⟨rfl, rfl⟩)
  go_ret2
  exact ⟨rfl, unhide H1⟩
end Go.Proofs.YtfnockbgkcgpkaaGreat
