import Derived.Test.YtfnockbgkcgpkaaGreatWalksO
set_option linter.all false
namespace Go.Proofs.YtfnockbgkcgpkaaGreat
open Go.RowKit Go.Proofs.Panes
set_option maxRecDepth 100000

theorem rd_nil (w : World) : Rd w (.slice none 0 0) [] := ⟨none, 0, rfl, Nat.le_refl _, by simp [maxLen], fun h => absurd rfl h⟩
theorem eg_union : ∀ args w, (callFunc 101 args).run Tryz.prog w = .ok (.enter 101 args) w := enters_of Tryz.func101 (by kernel_rfl) rfl
theorem eg_intersect : ∀ args w, (callFunc 103 args).run Tryz.prog w = .ok (.enter 103 args) w := enters_of Tryz.func103 (by kernel_rfl) rfl
theorem eg_subtract : ∀ args w, (callFunc 104 args).run Tryz.prog w = .ok (.enter 104 args) w := enters_of Tryz.func104 (by kernel_rfl) rfl

set_option maxHeartbeats 1000000 in
theorem canon_ok (v : Value) (a : List Rc) (w : World) (hA : Rd w v a) (ka : okL a = true) :
    Calls Tryz.prog 67 #[v] w fun e w' => ∃ v' R, e = .returned (.tuple #[v', .int .i64 0]) ∧ Res w w' v' R (fun px py => covL a px py) := by
  have H := hide (pcombine_ok 101 opU eg_union how_union v (.slice none 0 0) a [] w hA (rd_nil w) ka rfl)
  clear hA ka
  go_enter Tryz.func67, Tryz.ntmps67
  go_wp2_with fail
  refine (unhide H).mono ?_
  rintro e w' ⟨v', R, rfl, hR⟩
  have HR := hide (⟨hR.own, hR.right, fun px py => (hR.cov px py).trans ⟨fun h => h.resolve_right (covL_nil px py), .inl⟩, hR.inb, hR.len, hR.below⟩ : Res w w' v' R (fun px py => covL a px py))
  clear hR
  go_wp2
  go_ret2
  exact ⟨_, R, rfl, unhide HR⟩
set_option maxHeartbeats 1000000 in
theorem union_ok (v u : Value) (a b : List Rc) (w : World) (hA : Rd w v a) (hB : Rd w u b) (ka : okL a = true) (kb : okL b = true) :
    Calls Tryz.prog 64 #[v, u] w fun e w' => ∃ v' R, e = .returned (.tuple #[v', .int .i64 0]) ∧ Res w w' v' R (fun px py => covL a px py ∨ covL b px py) := by
  have H := hide (pcombine_ok 101 opU eg_union how_union v u a b w hA hB ka kb)
  clear hA hB ka kb
  go_enter Tryz.func64, Tryz.ntmps64
  go_wp2_with fail
  refine (unhide H).mono ?_
  rintro e w' ⟨v', R, rfl, hR⟩
  have HR := hide hR
  clear hR
  go_wp2
  go_ret2
  exact ⟨_, R, rfl, unhide HR⟩
set_option maxHeartbeats 1000000 in
theorem intersect_ok (v u : Value) (a b : List Rc) (w : World) (hA : Rd w v a) (hB : Rd w u b) (ka : okL a = true) (kb : okL b = true) :
    Calls Tryz.prog 65 #[v, u] w fun e w' => ∃ v' R, e = .returned (.tuple #[v', .int .i64 0]) ∧ Res w w' v' R (fun px py => covL a px py ∧ covL b px py) := by
  have H := hide (pcombine_ok 103 opI eg_intersect how_intersect v u a b w hA hB ka kb)
  clear hA hB ka kb
  go_enter Tryz.func65, Tryz.ntmps65
  go_wp2_with fail
  refine (unhide H).mono ?_
  rintro e w' ⟨v', R, rfl, hR⟩
  have HR := hide hR
  clear hR
  go_wp2
  go_ret2
  exact ⟨_, R, rfl, unhide HR⟩
set_option maxHeartbeats 1000000 in
theorem subtract_ok (v u : Value) (a b : List Rc) (w : World) (hA : Rd w v a) (hB : Rd w u b) (ka : okL a = true) (kb : okL b = true) :
    Calls Tryz.prog 66 #[v, u] w fun e w' => ∃ v' R, e = .returned (.tuple #[v', .int .i64 0]) ∧ Res w w' v' R (fun px py => covL a px py ∧ ¬ covL b px py) := by
  have H := hide (pcombine_ok 104 opS eg_subtract how_subtract v u a b w hA hB ka kb)
  clear hA hB ka kb
  go_enter Tryz.func66, Tryz.ntmps66
  go_wp2_with fail
  refine (unhide H).mono ?_
  rintro e w' ⟨v', R, rfl, hR⟩
  have HR := hide hR
  clear hR
  go_wp2
  go_ret2
  exact ⟨_, R, rfl, unhide HR⟩
end Go.Proofs.YtfnockbgkcgpkaaGreat
