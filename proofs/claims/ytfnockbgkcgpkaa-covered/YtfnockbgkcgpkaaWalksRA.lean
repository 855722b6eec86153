import Derived.Test.YtfnockbgkcgpkaaWalksO
set_option linter.all false
namespace Go.Proofs.Ytfnockbgkcgpkaa
open Go.RowKit Go.Proofs.Panes
set_option maxRecDepth 100000

theorem rd_nil (w : World) : Rd w (.slice none 0 0) [] := ⟨none, 0, rfl, Nat.le_refl _, by simp [maxLen], fun h => absurd rfl h⟩
theorem eg_union : ∀ args w, (callFunc 41 args).run Try.prog w = .ok (.enter 41 args) w := enters_of Try.func41 (by kernel_rfl) rfl
theorem eg_intersect : ∀ args w, (callFunc 42 args).run Try.prog w = .ok (.enter 42 args) w := enters_of Try.func42 (by kernel_rfl) rfl
theorem eg_subtract : ∀ args w, (callFunc 43 args).run Try.prog w = .ok (.enter 43 args) w := enters_of Try.func43 (by kernel_rfl) rfl

set_option maxHeartbeats 1000000 in
theorem canon_ok (v : Value) (a : List Rc) (w : World) (hA : Rd w v a) (ka : okL a = true) :
    Calls Try.prog 12 #[v] w fun e w' => ∃ v' R, e = .returned (.tuple #[v', .int .i64 0]) ∧ Res w w' v' R (fun px py => covL a px py) := by
  have H := hide (pcombine_ok 41 opU eg_union how_union v (.slice none 0 0) a [] w hA (rd_nil w) ka rfl)
  clear hA ka
  go_enter Try.func12, Try.ntmps12
  go_wp2_with fail
  refine (unhide H).mono ?_
  rintro e w' ⟨v', R, rfl, hR⟩
  have HR := hide (⟨hR.own, hR.right, fun px py => (hR.cov px py).trans ⟨fun h => h.resolve_right (covL_nil px py), .inl⟩, hR.inb, hR.len, hR.below⟩ : Res w w' v' R (fun px py => covL a px py))
  clear hR
  go_wp2
  go_ret2
  exact ⟨_, R, rfl, unhide HR⟩
set_option maxHeartbeats 1000000 in
theorem union_ok (v u : Value) (a b : List Rc) (w : World) (hA : Rd w v a) (hB : Rd w u b) (ka : okL a = true) (kb : okL b = true) :
    Calls Try.prog 13 #[v, u] w fun e w' => ∃ v' R, e = .returned (.tuple #[v', .int .i64 0]) ∧ Res w w' v' R (fun px py => covL a px py ∨ covL b px py) := by
  have H := hide (pcombine_ok 41 opU eg_union how_union v u a b w hA hB ka kb)
  clear hA hB ka kb
  go_enter Try.func13, Try.ntmps13
  go_wp2_with fail
  refine (unhide H).mono ?_
  rintro e w' ⟨v', R, rfl, hR⟩
  have HR := hide hR
  clear hR
  go_wp2
  go_ret2
  exact ⟨_, R, rfl, unhide HR⟩
set_option maxHeartbeats 1000000 in
theorem intersect_ok (v u : Value) (a b : List Rc) (w : World) (hA : Rd w v a) (hB : Rd w u b) (ka : okL a = true) (kb : okL b = true) :
    Calls Try.prog 14 #[v, u] w fun e w' => ∃ v' R, e = .returned (.tuple #[v', .int .i64 0]) ∧ Res w w' v' R (fun px py => covL a px py ∧ covL b px py) := by
  have H := hide (pcombine_ok 42 opI eg_intersect how_intersect v u a b w hA hB ka kb)
  clear hA hB ka kb
  go_enter Try.func14, Try.ntmps14
  go_wp2_with fail
  refine (unhide H).mono ?_
  rintro e w' ⟨v', R, rfl, hR⟩
  have HR := hide hR
  clear hR
  go_wp2
  go_ret2
  exact ⟨_, R, rfl, unhide HR⟩
set_option maxHeartbeats 1000000 in
theorem subtract_ok (v u : Value) (a b : List Rc) (w : World) (hA : Rd w v a) (hB : Rd w u b) (ka : okL a = true) (kb : okL b = true) :
    Calls Try.prog 15 #[v, u] w fun e w' => ∃ v' R, e = .returned (.tuple #[v', .int .i64 0]) ∧ Res w w' v' R (fun px py => covL a px py ∧ ¬ covL b px py) := by
  have H := hide (pcombine_ok 43 opS eg_subtract how_subtract v u a b w hA hB ka kb)
  clear hA hB ka kb
  go_enter Try.func15, Try.ntmps15
  go_wp2_with fail
  refine (unhide H).mono ?_
  rintro e w' ⟨v', R, rfl, hR⟩
  have HR := hide hR
  clear hR
  go_wp2
  go_ret2
  exact ⟨_, R, rfl, unhide HR⟩
end Go.Proofs.Ytfnockbgkcgpkaa
