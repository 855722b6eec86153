import Derived.Test.YtedmmodajogooaaWalksO
set_option linter.all false
namespace Go.Proofs.Ytedmmodajogooaa
open Go.RowKit Go.Proofs.Panes
set_option maxRecDepth 100000

theorem rd_nil (w : World) : Rd w (.slice none 0 0) [] := ⟨none, 0, rfl, Nat.le_refl _, by simp [maxLen], fun h => absurd rfl h⟩
theorem eg_union : ∀ args w, (callFunc 18 args).run Try.prog w = .ok (.enter 18 args) w := enters_of Try.func18 (by kernel_rfl) rfl
theorem eg_intersect : ∀ args w, (callFunc 19 args).run Try.prog w = .ok (.enter 19 args) w := enters_of Try.func19 (by kernel_rfl) rfl
theorem eg_subtract : ∀ args w, (callFunc 20 args).run Try.prog w = .ok (.enter 20 args) w := enters_of Try.func20 (by kernel_rfl) rfl

set_option maxHeartbeats 1000000 in
theorem canon_ok (v : Value) (a : List Rc) (w : World) (hA : Rd w v a) (ka : okL a = true) :
    Calls Try.prog 6 #[v] w fun e w' => ∃ v' R, e = .returned (.tuple #[v', .int .i64 0]) ∧ Res w w' v' R (fun px py => covL a px py) := by
  have H := hide (pcombine_ok 18 opU eg_union how_union v (.slice none 0 0) a [] w hA (rd_nil w) ka rfl)
  clear hA ka
  go_enter Try.func6, Try.ntmps6
  go_wp2_with fail
  refine (unhide H).mono ?_
  rintro e w' ⟨v', R, rfl, hR⟩
  have HR := hide (⟨hR.own, hR.right, fun px py => (hR.cov px py).trans ⟨fun h => h.resolve_right (covL_nil px py), .inl⟩, hR.inb, hR.len, hR.below⟩ : Res w w' v' R (fun px py => covL a px py))
  clear hR
  go_wp2
  go_ret2
  exact ⟨_, R, rfl, unhide HR⟩
set_option maxHeartbeats 1000000 in
theorem union_ok (v u : Value) (a b : List Rc) (w : World) (hA : Rd w v a) (hB : Rd w u b) (ka : okL a = true) (kb : okL b = true) :
    Calls Try.prog 7 #[v, u] w fun e w' => ∃ v' R, e = .returned (.tuple #[v', .int .i64 0]) ∧ Res w w' v' R (fun px py => covL a px py ∨ covL b px py) := by
  have H := hide (pcombine_ok 18 opU eg_union how_union v u a b w hA hB ka kb)
  clear hA hB ka kb
  go_enter Try.func7, Try.ntmps7
  go_wp2_with fail
  refine (unhide H).mono ?_
  rintro e w' ⟨v', R, rfl, hR⟩
  have HR := hide hR
  clear hR
  go_wp2
  go_ret2
  exact ⟨_, R, rfl, unhide HR⟩
set_option maxHeartbeats 1000000 in
theorem intersect_ok (v u : Value) (a b : List Rc) (w : World) (hA : Rd w v a) (hB : Rd w u b) (ka : okL a = true) (kb : okL b = true) :
    Calls Try.prog 8 #[v, u] w fun e w' => ∃ v' R, e = .returned (.tuple #[v', .int .i64 0]) ∧ Res w w' v' R (fun px py => covL a px py ∧ covL b px py) := by
  have H := hide (pcombine_ok 19 opI eg_intersect how_intersect v u a b w hA hB ka kb)
  clear hA hB ka kb
  go_enter Try.func8, Try.ntmps8
  go_wp2_with fail
  refine (unhide H).mono ?_
  rintro e w' ⟨v', R, rfl, hR⟩
  have HR := hide hR
  clear hR
  go_wp2
  go_ret2
  exact ⟨_, R, rfl, unhide HR⟩
set_option maxHeartbeats 1000000 in
theorem subtract_ok (v u : Value) (a b : List Rc) (w : World) (hA : Rd w v a) (hB : Rd w u b) (ka : okL a = true) (kb : okL b = true) :
    Calls Try.prog 9 #[v, u] w fun e w' => ∃ v' R, e = .returned (.tuple #[v', .int .i64 0]) ∧ Res w w' v' R (fun px py => covL a px py ∧ ¬ covL b px py) := by
  have H := hide (pcombine_ok 20 opS eg_subtract how_subtract v u a b w hA hB ka kb)
  clear hA hB ka kb
  go_enter Try.func9, Try.ntmps9
  go_wp2_with fail
  refine (unhide H).mono ?_
  rintro e w' ⟨v', R, rfl, hR⟩
  have HR := hide hR
  clear hR
  go_wp2
  go_ret2
  exact ⟨_, R, rfl, unhide HR⟩
end Go.Proofs.Ytedmmodajogooaa
