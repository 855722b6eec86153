import Derived.Test.YtfnockbgkcgpkaaKaaj
set_option linter.all false
namespace Go.Proofs.Ytfnockbgkcgpkaa
open Go.RowKit Go.Proofs.Panes
set_option maxRecDepth 100000

/-- A step of a slide. -/
def goS (s : Srf) : Srf := if s.left = 0 then s else { s with x := s.x + s.dx, y := s.y + s.dy, left := s.left - 1 }
def goB (s : Srf) : Bool := if s.left = 0 then false else !(s.x == s.x + s.dx && s.y == s.y + s.dy)
set_option maxHeartbeats 1600000 in
theorem goOn_any {w : World} {b : Nat} {s : Srf} {pv : Value} (hb : SfAt w b s pv) (hl : 0 ≤ s.left ∧ s.left ≤ 1000) (hx : -2000000000000000 ≤ s.x + s.dx ∧ s.x + s.dx ≤ 2000000000000000) (hy : -2000000000000000 ≤ s.y + s.dy ∧ s.y + s.dy ≤ 2000000000000000) :
    Calls Try.prog 91 #[.pointer (some ⟨b, 0, none⟩)] w fun e w' => e = .returned (.bool (goB s)) ∧ SfAt w' b (goS s) pv ∧ But (fun k => k = b) w w' := by
  have c0 : w.cell? ⟨b, 0, none⟩ = some (.int .i64 s.x) := blk_cell hb 0
  have c1 : w.cell? ⟨b, 1, none⟩ = some (.int .i64 s.y) := blk_cell hb 1
  have c5 : w.cell? ⟨b, 5, none⟩ = some (.int .i64 s.dx) := blk_cell hb 5
  have c6 : w.cell? ⟨b, 6, none⟩ = some (.int .i64 s.dy) := blk_cell hb 6
  have c7 : w.cell? ⟨b, 7, none⟩ = some (.int .i64 s.left) := blk_cell hb 7
  have f0 : ∀ j, w.frozen? ⟨b, j, none⟩ = false := fun j => blk_thaw hb j
  have lb : b < w.heap.size := lt_of_heap hb
  have e1 : IntKind.i64.wrap (s.x + s.dx) = s.x + s.dx := by rw [IntKind.wrap_i64]; omega
  have e2 : IntKind.i64.wrap (s.y + s.dy) = s.y + s.dy := by rw [IntKind.wrap_i64]; omega
  have e3 : IntKind.i64.wrap (s.left - 1) = s.left - 1 := by rw [IntKind.wrap_i64]; omega
  by_cases h0 : s.left = 0
  · have g1 : goS s = s := by simp [goS, h0]
    have g2 : goB s = false := by simp [goB, h0]
    rw [g1, g2]
    have HB := hide hb
    clear hb g1 g2 hl hx hy e1 e2 e3
    go_enter Try.func91, Try.ntmps91
    go_wp2
    go_ret
    exact ⟨rfl, unhide HB, But.refl _ _⟩
  · have g1 : goS s = { s with x := s.x + s.dx, y := s.y + s.dy, left := s.left - 1 } := by simp [goS, h0]
    have g2 : goB s = !(s.x == s.x + s.dx && s.y == s.y + s.dy) := by simp [goB, h0]
    rw [g1, g2]
    obtain ⟨bb, hbb⟩ : ∃ bb, bb = !(s.x == s.x + s.dx && s.y == s.y + s.dy) := ⟨_, rfl⟩
    rw [← hbb]
    have HBB := hide hbb
    have hS : SfAt (w.setCell ⟨b, 7, none⟩ (.int .i64 (s.left - 1))) b { s with left := s.left - 1 } pv := blk_set (i := 7) hb _
    have HS := hide hS
    obtain ⟨w1, hw1⟩ : ∃ w1, w1 = w.setCell ⟨b, 7, none⟩ (.int .i64 (s.left - 1)) := ⟨_, rfl⟩
    have d0 : w1.cell? ⟨b, 0, none⟩ = some (.int .i64 s.x) := by rw [hw1]; exact blk_cell hS 0
    have d1 : w1.cell? ⟨b, 1, none⟩ = some (.int .i64 s.y) := by rw [hw1]; exact blk_cell hS 1
    have d5 : w1.cell? ⟨b, 5, none⟩ = some (.int .i64 s.dx) := by rw [hw1]; exact blk_cell hS 5
    have d6 : w1.cell? ⟨b, 6, none⟩ = some (.int .i64 s.dy) := by rw [hw1]; exact blk_cell hS 6
    have hbut : But (fun k => k = b) w w1 := by rw [hw1]; exact (But.refl (fun k => k = b) w).setCell (p := ⟨b, 7, none⟩) (.inl rfl) _
    have HBut := hide hbut
    have HW1 := hide hw1
    clear hb g1 g2 hl hx hy hS hbut hw1 hbb
    go_enter Try.func91, Try.ntmps91
    go_wp2
    rw [← unhide HW1]
    rw [← unhide HW1] at HS
    clear c0 c1 c5 c6 c7 f0
    go_region_with
      (first
        | (go_at_call 115
           refine (smove_any (w := w1.drew) (pv := pv) (s := { s with left := s.left - 1 }) (unhide HS) _ _).mono ?_
           rintro e w2 ⟨he, hs2, hb2⟩
           rw [show (!(({ s with left := s.left - 1 } : Srf).x == s.x + s.dx && ({ s with left := s.left - 1 } : Srf).y == s.y + s.dy)) = bb from (unhide HBB).symm] at he
           subst he
           have HS2 := hide hs2
           have HB2 := hide hb2
           clear hs2 hb2))
    all_goals
      simp only [Exit.then]
      go_simp
      go_wp2
      go_ret
      exact ⟨rfl, unhide HS2, (unhide HBut).trans ((But.refl (fun k => k = b) w1).drew.trans (unhide HB2))⟩
end Go.Proofs.Ytfnockbgkcgpkaa
