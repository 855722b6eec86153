import Derived.Test.YtfnockbgkcgpkaaGreatRefI
set_option linter.all false
namespace Go.Proofs.YtfnockbgkcgpkaaGreat
open Go.RowKit Go.Proofs.Panes
attribute [local go_sem ↓] Go.wp_at_zero Go.wp_at_succ
set_option maxRecDepth 100000

set_option maxHeartbeats 2000000 in
theorem docArea_err (v : Value) (a : List Rc) (w : World) (hA : Rd w v a) (ka : okL a = false) :
    Calls Tryz.prog 34 #[v] w fun e w' => e = .returned (.tuple #[.int .i64 0, .int .i64 1]) ∧ Below w.heap.size w w' := by
  have H := hide (docCall_err 1 v (.slice none 0 0) a [] w hA (rd_nil w) (by rw [ka]; rfl))
  clear hA ka
  go_enter Tryz.func34, Tryz.ntmps34
  go_wp2_with fail
  refine (unhide H).mono ?_
  rintro e w1 ⟨rfl, b1⟩
  have G := hide b1
  have z1 := b1.size
  clear b1
  go_wp2
  go_loopw [6, 7] (fun c i wr => c = .int .i64 0 ∧ i = .int .i64 0 ∧ Below w1.heap.size w1 wr) (fun _ _ _ => 0)
  case atStart => exact ⟨rfl, rfl, Below.refl _ _⟩
  case round =>
    obtain ⟨rfl, rfl, hbel⟩ := hrel
    have Hb := hide hbel
    clear hbel
    go_wp2
    go_ret2
    exact ⟨rfl, (unhide G).trans ((unhide Hb).mono z1)⟩

set_option maxHeartbeats 2000000 in
theorem parea_err (v : Value) (a : List Rc) (w : World) (hA : Rd w v a) (ka : okL a = false) :
    Calls Tryz.prog 32 #[v] w fun e w' => e = .returned (.tuple #[.int .i64 0, .int .i64 1]) ∧ Below w.heap.size w w' := by
  have hca := hide (allowed_any v a w hA)
  rw [ka] at hca
  clear hA ka
  go_enter Tryz.func32, Tryz.ntmps32
  go_wp2_with fail
  refine (unhide hca).mono ?_
  rintro e w1 ⟨rfl, h1⟩
  have H1 := hide h1
  clear h1
  go_wp2
  go_ret2
  exact ⟨rfl, unhide H1⟩

set_option maxHeartbeats 2000000 in
/-- panes.combine, of lists of which one may not be. -/
theorem pcombine_err (f : Nat) (va vb : Value) (a b : List Rc) (w : World) (hA : Rd w va a) (hB : Rd w vb b) (k : (okL a && okL b) = false) :
    Calls Tryz.prog 102 #[va, vb, .func (.func f) #[] #[]] w fun e w' => e = .returned (.tuple #[.slice none 0 0, .int .i64 1]) ∧ Below w.heap.size w w' := by
  have hca := hide (allowed_any va a w hA)
  have hcb : Hid (∀ w1, Below w.heap.size w w1 → Calls Tryz.prog 62 #[vb] w1 fun e w' => e = .returned (.bool (okL b)) ∧ Below w1.heap.size w1 w') := fun w1 h1 => allowed_any vb b w1 (hB.below h1)
  clear hA hB
  obtain ⟨p, hp⟩ : ∃ p, p = okL a := ⟨_, rfl⟩
  obtain ⟨q, hq⟩ : ∃ q, q = okL b := ⟨_, rfl⟩
  rw [← hp] at hca k
  rw [← hq] at hcb k
  clear hp hq
  cases p
  · go_enter Tryz.func102, Tryz.ntmps102
    go_wp2_with fail
    refine (unhide hca).mono ?_
    rintro e w1 ⟨rfl, h1⟩
    have H1 := hide h1
    clear h1
    go_wp2
    go_ret2
    exact ⟨rfl, unhide H1⟩
  · cases q
    · go_enter Tryz.func102, Tryz.ntmps102
      go_wp2_with fail
      refine (unhide hca).mono ?_
      rintro e w1 ⟨rfl, h1⟩
      have H1 := hide h1
      clear h1
      go_wp2_with fail
      refine ((unhide hcb) w1 (unhide H1)).mono ?_
      rintro e w2 ⟨rfl, h2⟩
      have z1 := (unhide H1).size
      have H2 := hide ((unhide H1).trans (h2.mono z1))
      clear h2
      go_wp2
      go_ret2
      exact ⟨rfl, unhide H2⟩
    · cases k

set_option maxHeartbeats 1000000 in
theorem union_err (v u : Value) (a b : List Rc) (w : World) (hA : Rd w v a) (hB : Rd w u b) (k : (okL a && okL b) = false) :
    Calls Tryz.prog 64 #[v, u] w fun e w' => e = .returned (.tuple #[.slice none 0 0, .int .i64 1]) ∧ Below w.heap.size w w' := by
  have H := hide (pcombine_err 101 v u a b w hA hB k)
  clear hA hB k
  go_enter Tryz.func64, Tryz.ntmps64
  go_wp2_with fail
  refine (unhide H).mono ?_
  rintro e w' ⟨rfl, h1⟩
  have H1 := hide h1
  clear h1
  go_wp2
  go_ret2
  exact ⟨rfl, unhide H1⟩

set_option maxHeartbeats 1000000 in
theorem intersect_err (v u : Value) (a b : List Rc) (w : World) (hA : Rd w v a) (hB : Rd w u b) (k : (okL a && okL b) = false) :
    Calls Tryz.prog 65 #[v, u] w fun e w' => e = .returned (.tuple #[.slice none 0 0, .int .i64 1]) ∧ Below w.heap.size w w' := by
  have H := hide (pcombine_err 103 v u a b w hA hB k)
  clear hA hB k
  go_enter Tryz.func65, Tryz.ntmps65
  go_wp2_with fail
  refine (unhide H).mono ?_
  rintro e w' ⟨rfl, h1⟩
  have H1 := hide h1
  clear h1
  go_wp2
  go_ret2
  exact ⟨rfl, unhide H1⟩

set_option maxHeartbeats 1000000 in
theorem subtract_err (v u : Value) (a b : List Rc) (w : World) (hA : Rd w v a) (hB : Rd w u b) (k : (okL a && okL b) = false) :
    Calls Tryz.prog 66 #[v, u] w fun e w' => e = .returned (.tuple #[.slice none 0 0, .int .i64 1]) ∧ Below w.heap.size w w' := by
  have H := hide (pcombine_err 104 v u a b w hA hB k)
  clear hA hB k
  go_enter Tryz.func66, Tryz.ntmps66
  go_wp2_with fail
  refine (unhide H).mono ?_
  rintro e w' ⟨rfl, h1⟩
  have H1 := hide h1
  clear h1
  go_wp2
  go_ret2
  exact ⟨rfl, unhide H1⟩

set_option maxHeartbeats 1000000 in
theorem canon_err (v : Value) (a : List Rc) (w : World) (hA : Rd w v a) (k : okL a = false) :
    Calls Tryz.prog 67 #[v] w fun e w' => e = .returned (.tuple #[.slice none 0 0, .int .i64 1]) ∧ Below w.heap.size w w' := by
  have H := hide (pcombine_err 101 v (.slice none 0 0) a [] w hA (rd_nil w) (by rw [k]; rfl))
  clear hA k
  go_enter Tryz.func67, Tryz.ntmps67
  go_wp2_with fail
  refine (unhide H).mono ?_
  rintro e w' ⟨rfl, h1⟩
  have H1 := hide h1
  clear h1
  go_wp2
  go_ret2
  exact ⟨rfl, unhide H1⟩
end Go.Proofs.YtfnockbgkcgpkaaGreat
