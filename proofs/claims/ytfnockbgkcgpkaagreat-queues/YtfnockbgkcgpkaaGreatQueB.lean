import Derived.Test.YtfnockbgkcgpkaaGreatQueA
set_option linter.all false
namespace Go.Proofs.YtfnockbgkcgpkaaGreat
open Go.RowKit Go.Proofs.Panes
set_option maxRecDepth 100000
attribute [local go_sem ↓] Go.wp_at_zero Go.wp_at_succ

/-- The value of an operation. -/
def oval (o : Opn) (pv : Value) : Value := .agg #[.int .i64 o.kind, .int .i64 o.surf, .int .i64 o.x, .int .i64 o.y, .int .i64 o.w, .int .i64 o.h, pv, .int .i64 o.mark]

set_option maxHeartbeats 4000000 in
theorem valid_ask (sp : Nat) (v : Value) (kind surf x y ww h mark : Int) (po : Option Addr) (pn pc : Nat) (w : World) (hk : kind = 8) :
    Calls Tryz.prog 59 #[.pointer (some ⟨sp, 0, none⟩), .agg #[.int .i64 kind, .int .i64 surf, .int .i64 x, .int .i64 y, .int .i64 ww, .int .i64 h, .slice po pn pc, .int .i64 mark], v] w fun e w' => e = .returned (.bool true) ∧ Below w.heap.size w w' := by
  subst hk
  go_enter Tryz.func59, Tryz.ntmps59
  go_wp2
  go_ret
  exact ⟨rfl, (Below.refl _ w).alloc (Nat.le_refl _) _⟩


set_option maxHeartbeats 8000000 in
theorem valid_k1 (sp base g n cap : Nat) (will : List Bool) (x y ww h mark : Int) (po : Option Addr) (pn pc : Nat) (w : World)
    (hS : w.cell? ⟨sp, 6, none⟩ = some (.int .i64 n)) (hO : OwnB w base (.slice (some ⟨g, 0, none⟩) n cap) will) (hn : n = will.length) (h4 : 1 ≤ n ∧ n ≤ 4) (j : Nat) (hjn : j < n) (hb : will[j]? = some false) :
    Calls Tryz.prog 59 #[.pointer (some ⟨sp, 0, none⟩), .agg #[.int .i64 1, .int .i64 j, .int .i64 x, .int .i64 y, .int .i64 ww, .int .i64 h, .slice po pn pc, .int .i64 mark], .slice (some ⟨g, 0, none⟩) n cap] w fun e w' => e = .returned (.bool (inB x (-100) 100 && inB y (-100) 100)) ∧ OwnB w' base (.slice (some ⟨g, 0, none⟩) n cap) (will.set j true) ∧ But (fun k => k = g) w w' := by
  have hg := (World.ownsRow.lt hO g rfl).2
  have hsp : sp < w.heap.size := World.block_lt_of_cell? w _ hS
  have cw : w.cell? ⟨g, j, none⟩ = some (.bool false) := ownB_at hO hb
  have fw : w.frozen? ⟨g, j, none⟩ = false := by subst hn; exact World.ownsRow.frozenAt hO j
  have HO := hide hO
  have HN := hide hn
  have i0 : (0 : Int) ≤ (j : Int) := by omega
  have i1 : (j : Int) ≤ (n : Int) - 1 := by omega
  have i2 : (j : Int) < (n : Int) := by omega
  have wr : IntKind.i64.wrap ((n : Int) - 1) = (n : Int) - 1 := by rw [IntKind.wrap_i64]; omega
  clear hO hn hb
  go_enter Tryz.func59, Tryz.ntmps59
  go_wp2_with (go_at_call 58; refine (in_any _ _ _ _).mono ?_; rintro e w' ⟨rfl, rfl⟩)
  go_quiet ((go_at_call 58; exact Calls.quiet_of_same (in_any _ _ _ _)))
  have hb1 : Below w.heap.size w ((w.alloc (.cells #[.int .i64 1, .int .i64 j, .int .i64 x, .int .i64 y, .int .i64 ww, .int .i64 h, .slice po pn pc, .int .i64 mark] 52)).drewN nq) := below_drewN ((Below.refl _ w).alloc (Nat.le_refl _) _) _
  have hx1 : ((w.alloc (.cells #[.int .i64 1, .int .i64 j, .int .i64 x, .int .i64 y, .int .i64 ww, .int .i64 h, .slice po pn pc, .int .i64 mark] 52)).drewN nq).heap[w.heap.size]? = some (.cells #[.int .i64 1, .int .i64 j, .int .i64 x, .int .i64 y, .int .i64 ww, .int .i64 h, .slice po pn pc, .int .i64 mark] 52) := new_at _ _ _ rfl
  generalize (w.alloc (.cells #[.int .i64 1, .int .i64 j, .int .i64 x, .int .i64 y, .int .i64 ww, .int .i64 h, .slice po pn pc, .int .i64 mark] 52)).drewN nq = w1 at *
  have d0 : w1.cell? ⟨w.heap.size, 0, none⟩ = some (.int .i64 1) := blk_cell hx1 0
  have d1 : w1.cell? ⟨w.heap.size, 1, none⟩ = some (.int .i64 j) := blk_cell hx1 1
  have d2 : w1.cell? ⟨w.heap.size, 2, none⟩ = some (.int .i64 x) := blk_cell hx1 2
  have d3 : w1.cell? ⟨w.heap.size, 3, none⟩ = some (.int .i64 y) := blk_cell hx1 3
  have d4 : w1.cell? ⟨w.heap.size, 4, none⟩ = some (.int .i64 ww) := blk_cell hx1 4
  have d5 : w1.cell? ⟨w.heap.size, 5, none⟩ = some (.int .i64 h) := blk_cell hx1 5
  have d6 : w1.cell? ⟨w.heap.size, 6, none⟩ = some (.slice po pn pc) := blk_cell hx1 6
  have dw : w1.cell? ⟨g, j, none⟩ = some (.bool false) := (hb1.cell hg).trans cw
  have df : w1.frozen? ⟨g, j, none⟩ = false := (hb1.frozen hg).trans fw
  have HB1 := hide hb1
  clear hb1 hx1 cw fw hS
  have dd : (decide ((0 : Int) ≤ (j : Int)) && decide ((j : Int) ≤ (n : Int) - 1)) = true := by simp; omega
  go_wp2_with fail
  rw [dd]
  go_quiet (fail)
  have hb2 : Below w.heap.size w (w1.drewN nq) := below_drewN (unhide HB1) _
  have e0 : (w1.drewN nq).cell? ⟨w.heap.size, 0, none⟩ = some (.int .i64 1) := d0
  have e1 : (w1.drewN nq).cell? ⟨w.heap.size, 1, none⟩ = some (.int .i64 j) := d1
  have e2 : (w1.drewN nq).cell? ⟨w.heap.size, 2, none⟩ = some (.int .i64 x) := d2
  have e3 : (w1.drewN nq).cell? ⟨w.heap.size, 3, none⟩ = some (.int .i64 y) := d3
  have e4 : (w1.drewN nq).cell? ⟨w.heap.size, 4, none⟩ = some (.int .i64 ww) := d4
  have e5 : (w1.drewN nq).cell? ⟨w.heap.size, 5, none⟩ = some (.int .i64 h) := d5
  have e6 : (w1.drewN nq).cell? ⟨w.heap.size, 6, none⟩ = some (.slice po pn pc) := d6
  have ew : (w1.drewN nq).cell? ⟨g, j, none⟩ = some (.bool false) := dw
  have ef : (w1.drewN nq).frozen? ⟨g, j, none⟩ = false := df
  clear HB1 d0 d1 d2 d3 d4 d5 d6 dw df dd
  generalize w1.drewN nq = w2 at *
  have hO2 : OwnB w2 base (.slice (some ⟨g, 0, none⟩) n cap) will := ownB_kept (unhide HO) hb2
  have HO2 := hide hO2
  have HB2 := hide hb2
  clear hb2 hO2
  go_wp2_with (go_at_call 58; refine (in_any _ _ _ _).mono ?_; rintro e w' ⟨rfl, rfl⟩)
  all_goals go_ret
  all_goals refine ⟨?_, ownB_set (unhide HO2) (unhide HN) j true, But.setCell (S := fun k => k = g) (But.of_below (unhide HB2)) (p := ⟨g, j, none⟩) (.inl rfl) _⟩
  all_goals first | rfl | (simp_all [inB]; done) | (simp_all [inB]; omega)

set_option maxHeartbeats 8000000 in
theorem valid_k2 (sp base g n cap : Nat) (will : List Bool) (x y ww h mark : Int) (po : Option Addr) (pn pc : Nat) (w : World)
    (hS : w.cell? ⟨sp, 6, none⟩ = some (.int .i64 n)) (hO : OwnB w base (.slice (some ⟨g, 0, none⟩) n cap) will) (hn : n = will.length) (h4 : 1 ≤ n ∧ n ≤ 4) (j : Nat) (hjn : j < n) (hb : will[j]? = some true) :
    Calls Tryz.prog 59 #[.pointer (some ⟨sp, 0, none⟩), .agg #[.int .i64 2, .int .i64 j, .int .i64 x, .int .i64 y, .int .i64 ww, .int .i64 h, .slice po pn pc, .int .i64 mark], .slice (some ⟨g, 0, none⟩) n cap] w fun e w' => e = .returned (.bool (true)) ∧ OwnB w' base (.slice (some ⟨g, 0, none⟩) n cap) (will.set j false) ∧ But (fun k => k = g) w w' := by
  have hg := (World.ownsRow.lt hO g rfl).2
  have hsp : sp < w.heap.size := World.block_lt_of_cell? w _ hS
  have cw : w.cell? ⟨g, j, none⟩ = some (.bool true) := ownB_at hO hb
  have fw : w.frozen? ⟨g, j, none⟩ = false := by subst hn; exact World.ownsRow.frozenAt hO j
  have HO := hide hO
  have HN := hide hn
  have i0 : (0 : Int) ≤ (j : Int) := by omega
  have i1 : (j : Int) ≤ (n : Int) - 1 := by omega
  have i2 : (j : Int) < (n : Int) := by omega
  have wr : IntKind.i64.wrap ((n : Int) - 1) = (n : Int) - 1 := by rw [IntKind.wrap_i64]; omega
  clear hO hn hb
  go_enter Tryz.func59, Tryz.ntmps59
  go_wp2_with (go_at_call 58; refine (in_any _ _ _ _).mono ?_; rintro e w' ⟨rfl, rfl⟩)
  go_quiet ((go_at_call 58; exact Calls.quiet_of_same (in_any _ _ _ _)))
  have hb1 : Below w.heap.size w ((w.alloc (.cells #[.int .i64 2, .int .i64 j, .int .i64 x, .int .i64 y, .int .i64 ww, .int .i64 h, .slice po pn pc, .int .i64 mark] 52)).drewN nq) := below_drewN ((Below.refl _ w).alloc (Nat.le_refl _) _) _
  have hx1 : ((w.alloc (.cells #[.int .i64 2, .int .i64 j, .int .i64 x, .int .i64 y, .int .i64 ww, .int .i64 h, .slice po pn pc, .int .i64 mark] 52)).drewN nq).heap[w.heap.size]? = some (.cells #[.int .i64 2, .int .i64 j, .int .i64 x, .int .i64 y, .int .i64 ww, .int .i64 h, .slice po pn pc, .int .i64 mark] 52) := new_at _ _ _ rfl
  generalize (w.alloc (.cells #[.int .i64 2, .int .i64 j, .int .i64 x, .int .i64 y, .int .i64 ww, .int .i64 h, .slice po pn pc, .int .i64 mark] 52)).drewN nq = w1 at *
  have d0 : w1.cell? ⟨w.heap.size, 0, none⟩ = some (.int .i64 2) := blk_cell hx1 0
  have d1 : w1.cell? ⟨w.heap.size, 1, none⟩ = some (.int .i64 j) := blk_cell hx1 1
  have d2 : w1.cell? ⟨w.heap.size, 2, none⟩ = some (.int .i64 x) := blk_cell hx1 2
  have d3 : w1.cell? ⟨w.heap.size, 3, none⟩ = some (.int .i64 y) := blk_cell hx1 3
  have d4 : w1.cell? ⟨w.heap.size, 4, none⟩ = some (.int .i64 ww) := blk_cell hx1 4
  have d5 : w1.cell? ⟨w.heap.size, 5, none⟩ = some (.int .i64 h) := blk_cell hx1 5
  have d6 : w1.cell? ⟨w.heap.size, 6, none⟩ = some (.slice po pn pc) := blk_cell hx1 6
  have dw : w1.cell? ⟨g, j, none⟩ = some (.bool true) := (hb1.cell hg).trans cw
  have df : w1.frozen? ⟨g, j, none⟩ = false := (hb1.frozen hg).trans fw
  have HB1 := hide hb1
  clear hb1 hx1 cw fw hS
  have dd : (decide ((0 : Int) ≤ (j : Int)) && decide ((j : Int) ≤ (n : Int) - 1)) = true := by simp; omega
  go_wp2_with fail
  rw [dd]
  go_quiet (fail)
  have hb2 : Below w.heap.size w (w1.drewN nq) := below_drewN (unhide HB1) _
  have e0 : (w1.drewN nq).cell? ⟨w.heap.size, 0, none⟩ = some (.int .i64 2) := d0
  have e1 : (w1.drewN nq).cell? ⟨w.heap.size, 1, none⟩ = some (.int .i64 j) := d1
  have e2 : (w1.drewN nq).cell? ⟨w.heap.size, 2, none⟩ = some (.int .i64 x) := d2
  have e3 : (w1.drewN nq).cell? ⟨w.heap.size, 3, none⟩ = some (.int .i64 y) := d3
  have e4 : (w1.drewN nq).cell? ⟨w.heap.size, 4, none⟩ = some (.int .i64 ww) := d4
  have e5 : (w1.drewN nq).cell? ⟨w.heap.size, 5, none⟩ = some (.int .i64 h) := d5
  have e6 : (w1.drewN nq).cell? ⟨w.heap.size, 6, none⟩ = some (.slice po pn pc) := d6
  have ew : (w1.drewN nq).cell? ⟨g, j, none⟩ = some (.bool true) := dw
  have ef : (w1.drewN nq).frozen? ⟨g, j, none⟩ = false := df
  clear HB1 d0 d1 d2 d3 d4 d5 d6 dw df dd
  generalize w1.drewN nq = w2 at *
  have hO2 : OwnB w2 base (.slice (some ⟨g, 0, none⟩) n cap) will := ownB_kept (unhide HO) hb2
  have HO2 := hide hO2
  have HB2 := hide hb2
  clear hb2 hO2
  go_wp2_with (go_at_call 58; refine (in_any _ _ _ _).mono ?_; rintro e w' ⟨rfl, rfl⟩)
  all_goals go_ret
  all_goals refine ⟨?_, ownB_set (unhide HO2) (unhide HN) j false, But.setCell (S := fun k => k = g) (But.of_below (unhide HB2)) (p := ⟨g, j, none⟩) (.inl rfl) _⟩
  all_goals first | rfl | (simp_all [inB]; done) | (simp_all [inB]; omega)

set_option maxHeartbeats 8000000 in
theorem valid_k4 (sp base g n cap : Nat) (will : List Bool) (x y ww h mark : Int) (po : Option Addr) (pn pc : Nat) (w : World)
    (hS : w.cell? ⟨sp, 6, none⟩ = some (.int .i64 n)) (hO : OwnB w base (.slice (some ⟨g, 0, none⟩) n cap) will) (hn : n = will.length) (h4 : 1 ≤ n ∧ n ≤ 4) (j : Nat) (hjn : j < n) (hb : will[j]? = some true) :
    Calls Tryz.prog 59 #[.pointer (some ⟨sp, 0, none⟩), .agg #[.int .i64 4, .int .i64 j, .int .i64 x, .int .i64 y, .int .i64 ww, .int .i64 h, .slice po pn pc, .int .i64 mark], .slice (some ⟨g, 0, none⟩) n cap] w fun e w' => e = .returned (.bool (inB x (-100) 100 && inB y (-100) 100)) ∧ OwnB w' base (.slice (some ⟨g, 0, none⟩) n cap) will ∧ But (fun k => k = g) w w' := by
  have hg := (World.ownsRow.lt hO g rfl).2
  have hsp : sp < w.heap.size := World.block_lt_of_cell? w _ hS
  have cw : w.cell? ⟨g, j, none⟩ = some (.bool true) := ownB_at hO hb
  have fw : w.frozen? ⟨g, j, none⟩ = false := by subst hn; exact World.ownsRow.frozenAt hO j
  have HO := hide hO
  have HN := hide hn
  have i0 : (0 : Int) ≤ (j : Int) := by omega
  have i1 : (j : Int) ≤ (n : Int) - 1 := by omega
  have i2 : (j : Int) < (n : Int) := by omega
  have wr : IntKind.i64.wrap ((n : Int) - 1) = (n : Int) - 1 := by rw [IntKind.wrap_i64]; omega
  clear hO hn hb
  go_enter Tryz.func59, Tryz.ntmps59
  go_wp2_with (go_at_call 58; refine (in_any _ _ _ _).mono ?_; rintro e w' ⟨rfl, rfl⟩)
  go_quiet ((go_at_call 58; exact Calls.quiet_of_same (in_any _ _ _ _)))
  have hb1 : Below w.heap.size w ((w.alloc (.cells #[.int .i64 4, .int .i64 j, .int .i64 x, .int .i64 y, .int .i64 ww, .int .i64 h, .slice po pn pc, .int .i64 mark] 52)).drewN nq) := below_drewN ((Below.refl _ w).alloc (Nat.le_refl _) _) _
  have hx1 : ((w.alloc (.cells #[.int .i64 4, .int .i64 j, .int .i64 x, .int .i64 y, .int .i64 ww, .int .i64 h, .slice po pn pc, .int .i64 mark] 52)).drewN nq).heap[w.heap.size]? = some (.cells #[.int .i64 4, .int .i64 j, .int .i64 x, .int .i64 y, .int .i64 ww, .int .i64 h, .slice po pn pc, .int .i64 mark] 52) := new_at _ _ _ rfl
  generalize (w.alloc (.cells #[.int .i64 4, .int .i64 j, .int .i64 x, .int .i64 y, .int .i64 ww, .int .i64 h, .slice po pn pc, .int .i64 mark] 52)).drewN nq = w1 at *
  have d0 : w1.cell? ⟨w.heap.size, 0, none⟩ = some (.int .i64 4) := blk_cell hx1 0
  have d1 : w1.cell? ⟨w.heap.size, 1, none⟩ = some (.int .i64 j) := blk_cell hx1 1
  have d2 : w1.cell? ⟨w.heap.size, 2, none⟩ = some (.int .i64 x) := blk_cell hx1 2
  have d3 : w1.cell? ⟨w.heap.size, 3, none⟩ = some (.int .i64 y) := blk_cell hx1 3
  have d4 : w1.cell? ⟨w.heap.size, 4, none⟩ = some (.int .i64 ww) := blk_cell hx1 4
  have d5 : w1.cell? ⟨w.heap.size, 5, none⟩ = some (.int .i64 h) := blk_cell hx1 5
  have d6 : w1.cell? ⟨w.heap.size, 6, none⟩ = some (.slice po pn pc) := blk_cell hx1 6
  have dw : w1.cell? ⟨g, j, none⟩ = some (.bool true) := (hb1.cell hg).trans cw
  have df : w1.frozen? ⟨g, j, none⟩ = false := (hb1.frozen hg).trans fw
  have HB1 := hide hb1
  clear hb1 hx1 cw fw hS
  have dd : (decide ((0 : Int) ≤ (j : Int)) && decide ((j : Int) ≤ (n : Int) - 1)) = true := by simp; omega
  go_wp2_with fail
  rw [dd]
  go_quiet (fail)
  have hb2 : Below w.heap.size w (w1.drewN nq) := below_drewN (unhide HB1) _
  have e0 : (w1.drewN nq).cell? ⟨w.heap.size, 0, none⟩ = some (.int .i64 4) := d0
  have e1 : (w1.drewN nq).cell? ⟨w.heap.size, 1, none⟩ = some (.int .i64 j) := d1
  have e2 : (w1.drewN nq).cell? ⟨w.heap.size, 2, none⟩ = some (.int .i64 x) := d2
  have e3 : (w1.drewN nq).cell? ⟨w.heap.size, 3, none⟩ = some (.int .i64 y) := d3
  have e4 : (w1.drewN nq).cell? ⟨w.heap.size, 4, none⟩ = some (.int .i64 ww) := d4
  have e5 : (w1.drewN nq).cell? ⟨w.heap.size, 5, none⟩ = some (.int .i64 h) := d5
  have e6 : (w1.drewN nq).cell? ⟨w.heap.size, 6, none⟩ = some (.slice po pn pc) := d6
  have ew : (w1.drewN nq).cell? ⟨g, j, none⟩ = some (.bool true) := dw
  have ef : (w1.drewN nq).frozen? ⟨g, j, none⟩ = false := df
  clear HB1 d0 d1 d2 d3 d4 d5 d6 dw df dd
  generalize w1.drewN nq = w2 at *
  have hO2 : OwnB w2 base (.slice (some ⟨g, 0, none⟩) n cap) will := ownB_kept (unhide HO) hb2
  have HO2 := hide hO2
  have HB2 := hide hb2
  clear hb2 hO2
  go_wp2_with (go_at_call 58; refine (in_any _ _ _ _).mono ?_; rintro e w' ⟨rfl, rfl⟩)
  all_goals go_ret
  all_goals refine ⟨?_, unhide HO2, But.of_below (unhide HB2)⟩
  all_goals first | rfl | (simp_all [inB]; done) | (simp_all [inB]; omega)

set_option maxHeartbeats 8000000 in
theorem valid_k5 (sp base g n cap : Nat) (will : List Bool) (x y ww h mark : Int) (po : Option Addr) (pn pc : Nat) (w : World)
    (hS : w.cell? ⟨sp, 6, none⟩ = some (.int .i64 n)) (hO : OwnB w base (.slice (some ⟨g, 0, none⟩) n cap) will) (hn : n = will.length) (h4 : 1 ≤ n ∧ n ≤ 4) (j : Nat) (hjn : j < n) (hb : will[j]? = some true) :
    Calls Tryz.prog 59 #[.pointer (some ⟨sp, 0, none⟩), .agg #[.int .i64 5, .int .i64 j, .int .i64 x, .int .i64 y, .int .i64 ww, .int .i64 h, .slice po pn pc, .int .i64 mark], .slice (some ⟨g, 0, none⟩) n cap] w fun e w' => e = .returned (.bool (true)) ∧ OwnB w' base (.slice (some ⟨g, 0, none⟩) n cap) will ∧ But (fun k => k = g) w w' := by
  have hg := (World.ownsRow.lt hO g rfl).2
  have hsp : sp < w.heap.size := World.block_lt_of_cell? w _ hS
  have cw : w.cell? ⟨g, j, none⟩ = some (.bool true) := ownB_at hO hb
  have fw : w.frozen? ⟨g, j, none⟩ = false := by subst hn; exact World.ownsRow.frozenAt hO j
  have HO := hide hO
  have HN := hide hn
  have i0 : (0 : Int) ≤ (j : Int) := by omega
  have i1 : (j : Int) ≤ (n : Int) - 1 := by omega
  have i2 : (j : Int) < (n : Int) := by omega
  have wr : IntKind.i64.wrap ((n : Int) - 1) = (n : Int) - 1 := by rw [IntKind.wrap_i64]; omega
  clear hO hn hb
  go_enter Tryz.func59, Tryz.ntmps59
  go_wp2_with (go_at_call 58; refine (in_any _ _ _ _).mono ?_; rintro e w' ⟨rfl, rfl⟩)
  go_quiet ((go_at_call 58; exact Calls.quiet_of_same (in_any _ _ _ _)))
  have hb1 : Below w.heap.size w ((w.alloc (.cells #[.int .i64 5, .int .i64 j, .int .i64 x, .int .i64 y, .int .i64 ww, .int .i64 h, .slice po pn pc, .int .i64 mark] 52)).drewN nq) := below_drewN ((Below.refl _ w).alloc (Nat.le_refl _) _) _
  have hx1 : ((w.alloc (.cells #[.int .i64 5, .int .i64 j, .int .i64 x, .int .i64 y, .int .i64 ww, .int .i64 h, .slice po pn pc, .int .i64 mark] 52)).drewN nq).heap[w.heap.size]? = some (.cells #[.int .i64 5, .int .i64 j, .int .i64 x, .int .i64 y, .int .i64 ww, .int .i64 h, .slice po pn pc, .int .i64 mark] 52) := new_at _ _ _ rfl
  generalize (w.alloc (.cells #[.int .i64 5, .int .i64 j, .int .i64 x, .int .i64 y, .int .i64 ww, .int .i64 h, .slice po pn pc, .int .i64 mark] 52)).drewN nq = w1 at *
  have d0 : w1.cell? ⟨w.heap.size, 0, none⟩ = some (.int .i64 5) := blk_cell hx1 0
  have d1 : w1.cell? ⟨w.heap.size, 1, none⟩ = some (.int .i64 j) := blk_cell hx1 1
  have d2 : w1.cell? ⟨w.heap.size, 2, none⟩ = some (.int .i64 x) := blk_cell hx1 2
  have d3 : w1.cell? ⟨w.heap.size, 3, none⟩ = some (.int .i64 y) := blk_cell hx1 3
  have d4 : w1.cell? ⟨w.heap.size, 4, none⟩ = some (.int .i64 ww) := blk_cell hx1 4
  have d5 : w1.cell? ⟨w.heap.size, 5, none⟩ = some (.int .i64 h) := blk_cell hx1 5
  have d6 : w1.cell? ⟨w.heap.size, 6, none⟩ = some (.slice po pn pc) := blk_cell hx1 6
  have dw : w1.cell? ⟨g, j, none⟩ = some (.bool true) := (hb1.cell hg).trans cw
  have df : w1.frozen? ⟨g, j, none⟩ = false := (hb1.frozen hg).trans fw
  have HB1 := hide hb1
  clear hb1 hx1 cw fw hS
  have dd : (decide ((0 : Int) ≤ (j : Int)) && decide ((j : Int) ≤ (n : Int) - 1)) = true := by simp; omega
  go_wp2_with fail
  rw [dd]
  go_quiet (fail)
  have hb2 : Below w.heap.size w (w1.drewN nq) := below_drewN (unhide HB1) _
  have e0 : (w1.drewN nq).cell? ⟨w.heap.size, 0, none⟩ = some (.int .i64 5) := d0
  have e1 : (w1.drewN nq).cell? ⟨w.heap.size, 1, none⟩ = some (.int .i64 j) := d1
  have e2 : (w1.drewN nq).cell? ⟨w.heap.size, 2, none⟩ = some (.int .i64 x) := d2
  have e3 : (w1.drewN nq).cell? ⟨w.heap.size, 3, none⟩ = some (.int .i64 y) := d3
  have e4 : (w1.drewN nq).cell? ⟨w.heap.size, 4, none⟩ = some (.int .i64 ww) := d4
  have e5 : (w1.drewN nq).cell? ⟨w.heap.size, 5, none⟩ = some (.int .i64 h) := d5
  have e6 : (w1.drewN nq).cell? ⟨w.heap.size, 6, none⟩ = some (.slice po pn pc) := d6
  have ew : (w1.drewN nq).cell? ⟨g, j, none⟩ = some (.bool true) := dw
  have ef : (w1.drewN nq).frozen? ⟨g, j, none⟩ = false := df
  clear HB1 d0 d1 d2 d3 d4 d5 d6 dw df dd
  generalize w1.drewN nq = w2 at *
  have hO2 : OwnB w2 base (.slice (some ⟨g, 0, none⟩) n cap) will := ownB_kept (unhide HO) hb2
  have HO2 := hide hO2
  have HB2 := hide hb2
  clear hb2 hO2
  go_wp2_with (go_at_call 58; refine (in_any _ _ _ _).mono ?_; rintro e w' ⟨rfl, rfl⟩)
  all_goals go_ret
  all_goals refine ⟨?_, unhide HO2, But.of_below (unhide HB2)⟩
  all_goals first | rfl | (simp_all [inB]; done) | (simp_all [inB]; omega)

set_option maxHeartbeats 8000000 in
theorem valid_k6 (sp base g n cap : Nat) (will : List Bool) (x y ww h mark : Int) (po : Option Addr) (pn pc : Nat) (w : World)
    (hS : w.cell? ⟨sp, 6, none⟩ = some (.int .i64 n)) (hO : OwnB w base (.slice (some ⟨g, 0, none⟩) n cap) will) (hn : n = will.length) (h4 : 1 ≤ n ∧ n ≤ 4) (j : Nat) (hjn : j < n) (hb : will[j]? = some true) :
    Calls Tryz.prog 59 #[.pointer (some ⟨sp, 0, none⟩), .agg #[.int .i64 6, .int .i64 j, .int .i64 x, .int .i64 y, .int .i64 ww, .int .i64 h, .slice po pn pc, .int .i64 mark], .slice (some ⟨g, 0, none⟩) n cap] w fun e w' => e = .returned (.bool (true)) ∧ OwnB w' base (.slice (some ⟨g, 0, none⟩) n cap) will ∧ But (fun k => k = g) w w' := by
  have hg := (World.ownsRow.lt hO g rfl).2
  have hsp : sp < w.heap.size := World.block_lt_of_cell? w _ hS
  have cw : w.cell? ⟨g, j, none⟩ = some (.bool true) := ownB_at hO hb
  have fw : w.frozen? ⟨g, j, none⟩ = false := by subst hn; exact World.ownsRow.frozenAt hO j
  have HO := hide hO
  have HN := hide hn
  have i0 : (0 : Int) ≤ (j : Int) := by omega
  have i1 : (j : Int) ≤ (n : Int) - 1 := by omega
  have i2 : (j : Int) < (n : Int) := by omega
  have wr : IntKind.i64.wrap ((n : Int) - 1) = (n : Int) - 1 := by rw [IntKind.wrap_i64]; omega
  clear hO hn hb
  go_enter Tryz.func59, Tryz.ntmps59
  go_wp2_with (go_at_call 58; refine (in_any _ _ _ _).mono ?_; rintro e w' ⟨rfl, rfl⟩)
  go_quiet ((go_at_call 58; exact Calls.quiet_of_same (in_any _ _ _ _)))
  have hb1 : Below w.heap.size w ((w.alloc (.cells #[.int .i64 6, .int .i64 j, .int .i64 x, .int .i64 y, .int .i64 ww, .int .i64 h, .slice po pn pc, .int .i64 mark] 52)).drewN nq) := below_drewN ((Below.refl _ w).alloc (Nat.le_refl _) _) _
  have hx1 : ((w.alloc (.cells #[.int .i64 6, .int .i64 j, .int .i64 x, .int .i64 y, .int .i64 ww, .int .i64 h, .slice po pn pc, .int .i64 mark] 52)).drewN nq).heap[w.heap.size]? = some (.cells #[.int .i64 6, .int .i64 j, .int .i64 x, .int .i64 y, .int .i64 ww, .int .i64 h, .slice po pn pc, .int .i64 mark] 52) := new_at _ _ _ rfl
  generalize (w.alloc (.cells #[.int .i64 6, .int .i64 j, .int .i64 x, .int .i64 y, .int .i64 ww, .int .i64 h, .slice po pn pc, .int .i64 mark] 52)).drewN nq = w1 at *
  have d0 : w1.cell? ⟨w.heap.size, 0, none⟩ = some (.int .i64 6) := blk_cell hx1 0
  have d1 : w1.cell? ⟨w.heap.size, 1, none⟩ = some (.int .i64 j) := blk_cell hx1 1
  have d2 : w1.cell? ⟨w.heap.size, 2, none⟩ = some (.int .i64 x) := blk_cell hx1 2
  have d3 : w1.cell? ⟨w.heap.size, 3, none⟩ = some (.int .i64 y) := blk_cell hx1 3
  have d4 : w1.cell? ⟨w.heap.size, 4, none⟩ = some (.int .i64 ww) := blk_cell hx1 4
  have d5 : w1.cell? ⟨w.heap.size, 5, none⟩ = some (.int .i64 h) := blk_cell hx1 5
  have d6 : w1.cell? ⟨w.heap.size, 6, none⟩ = some (.slice po pn pc) := blk_cell hx1 6
  have dw : w1.cell? ⟨g, j, none⟩ = some (.bool true) := (hb1.cell hg).trans cw
  have df : w1.frozen? ⟨g, j, none⟩ = false := (hb1.frozen hg).trans fw
  have HB1 := hide hb1
  clear hb1 hx1 cw fw hS
  have dd : (decide ((0 : Int) ≤ (j : Int)) && decide ((j : Int) ≤ (n : Int) - 1)) = true := by simp; omega
  go_wp2_with fail
  rw [dd]
  go_quiet (fail)
  have hb2 : Below w.heap.size w (w1.drewN nq) := below_drewN (unhide HB1) _
  have e0 : (w1.drewN nq).cell? ⟨w.heap.size, 0, none⟩ = some (.int .i64 6) := d0
  have e1 : (w1.drewN nq).cell? ⟨w.heap.size, 1, none⟩ = some (.int .i64 j) := d1
  have e2 : (w1.drewN nq).cell? ⟨w.heap.size, 2, none⟩ = some (.int .i64 x) := d2
  have e3 : (w1.drewN nq).cell? ⟨w.heap.size, 3, none⟩ = some (.int .i64 y) := d3
  have e4 : (w1.drewN nq).cell? ⟨w.heap.size, 4, none⟩ = some (.int .i64 ww) := d4
  have e5 : (w1.drewN nq).cell? ⟨w.heap.size, 5, none⟩ = some (.int .i64 h) := d5
  have e6 : (w1.drewN nq).cell? ⟨w.heap.size, 6, none⟩ = some (.slice po pn pc) := d6
  have ew : (w1.drewN nq).cell? ⟨g, j, none⟩ = some (.bool true) := dw
  have ef : (w1.drewN nq).frozen? ⟨g, j, none⟩ = false := df
  clear HB1 d0 d1 d2 d3 d4 d5 d6 dw df dd
  generalize w1.drewN nq = w2 at *
  have hO2 : OwnB w2 base (.slice (some ⟨g, 0, none⟩) n cap) will := ownB_kept (unhide HO) hb2
  have HO2 := hide hO2
  have HB2 := hide hb2
  clear hb2 hO2
  go_wp2_with (go_at_call 58; refine (in_any _ _ _ _).mono ?_; rintro e w' ⟨rfl, rfl⟩)
  all_goals go_ret
  all_goals refine ⟨?_, unhide HO2, But.of_below (unhide HB2)⟩
  all_goals first | rfl | (simp_all [inB]; done) | (simp_all [inB]; omega)

set_option maxHeartbeats 8000000 in
theorem valid_k7 (sp base g n cap : Nat) (will : List Bool) (x y ww h mark : Int) (po : Option Addr) (pn pc : Nat) (w : World)
    (hS : w.cell? ⟨sp, 6, none⟩ = some (.int .i64 n)) (hO : OwnB w base (.slice (some ⟨g, 0, none⟩) n cap) will) (hn : n = will.length) (h4 : 1 ≤ n ∧ n ≤ 4) (j : Nat) (hjn : j < n) (hb : will[j]? = some true) :
    Calls Tryz.prog 59 #[.pointer (some ⟨sp, 0, none⟩), .agg #[.int .i64 7, .int .i64 j, .int .i64 x, .int .i64 y, .int .i64 ww, .int .i64 h, .slice po pn pc, .int .i64 mark], .slice (some ⟨g, 0, none⟩) n cap] w fun e w' => e = .returned (.bool (inB ww 1 20 && inB x (-4) 4 && inB y (-4) 4)) ∧ OwnB w' base (.slice (some ⟨g, 0, none⟩) n cap) will ∧ But (fun k => k = g) w w' := by
  have hg := (World.ownsRow.lt hO g rfl).2
  have hsp : sp < w.heap.size := World.block_lt_of_cell? w _ hS
  have cw : w.cell? ⟨g, j, none⟩ = some (.bool true) := ownB_at hO hb
  have fw : w.frozen? ⟨g, j, none⟩ = false := by subst hn; exact World.ownsRow.frozenAt hO j
  have HO := hide hO
  have HN := hide hn
  have i0 : (0 : Int) ≤ (j : Int) := by omega
  have i1 : (j : Int) ≤ (n : Int) - 1 := by omega
  have i2 : (j : Int) < (n : Int) := by omega
  have wr : IntKind.i64.wrap ((n : Int) - 1) = (n : Int) - 1 := by rw [IntKind.wrap_i64]; omega
  clear hO hn hb
  go_enter Tryz.func59, Tryz.ntmps59
  go_wp2_with (go_at_call 58; refine (in_any _ _ _ _).mono ?_; rintro e w' ⟨rfl, rfl⟩)
  go_quiet ((go_at_call 58; exact Calls.quiet_of_same (in_any _ _ _ _)))
  have hb1 : Below w.heap.size w ((w.alloc (.cells #[.int .i64 7, .int .i64 j, .int .i64 x, .int .i64 y, .int .i64 ww, .int .i64 h, .slice po pn pc, .int .i64 mark] 52)).drewN nq) := below_drewN ((Below.refl _ w).alloc (Nat.le_refl _) _) _
  have hx1 : ((w.alloc (.cells #[.int .i64 7, .int .i64 j, .int .i64 x, .int .i64 y, .int .i64 ww, .int .i64 h, .slice po pn pc, .int .i64 mark] 52)).drewN nq).heap[w.heap.size]? = some (.cells #[.int .i64 7, .int .i64 j, .int .i64 x, .int .i64 y, .int .i64 ww, .int .i64 h, .slice po pn pc, .int .i64 mark] 52) := new_at _ _ _ rfl
  generalize (w.alloc (.cells #[.int .i64 7, .int .i64 j, .int .i64 x, .int .i64 y, .int .i64 ww, .int .i64 h, .slice po pn pc, .int .i64 mark] 52)).drewN nq = w1 at *
  have d0 : w1.cell? ⟨w.heap.size, 0, none⟩ = some (.int .i64 7) := blk_cell hx1 0
  have d1 : w1.cell? ⟨w.heap.size, 1, none⟩ = some (.int .i64 j) := blk_cell hx1 1
  have d2 : w1.cell? ⟨w.heap.size, 2, none⟩ = some (.int .i64 x) := blk_cell hx1 2
  have d3 : w1.cell? ⟨w.heap.size, 3, none⟩ = some (.int .i64 y) := blk_cell hx1 3
  have d4 : w1.cell? ⟨w.heap.size, 4, none⟩ = some (.int .i64 ww) := blk_cell hx1 4
  have d5 : w1.cell? ⟨w.heap.size, 5, none⟩ = some (.int .i64 h) := blk_cell hx1 5
  have d6 : w1.cell? ⟨w.heap.size, 6, none⟩ = some (.slice po pn pc) := blk_cell hx1 6
  have dw : w1.cell? ⟨g, j, none⟩ = some (.bool true) := (hb1.cell hg).trans cw
  have df : w1.frozen? ⟨g, j, none⟩ = false := (hb1.frozen hg).trans fw
  have HB1 := hide hb1
  clear hb1 hx1 cw fw hS
  have dd : (decide ((0 : Int) ≤ (j : Int)) && decide ((j : Int) ≤ (n : Int) - 1)) = true := by simp; omega
  go_wp2_with fail
  rw [dd]
  go_quiet (fail)
  have hb2 : Below w.heap.size w (w1.drewN nq) := below_drewN (unhide HB1) _
  have e0 : (w1.drewN nq).cell? ⟨w.heap.size, 0, none⟩ = some (.int .i64 7) := d0
  have e1 : (w1.drewN nq).cell? ⟨w.heap.size, 1, none⟩ = some (.int .i64 j) := d1
  have e2 : (w1.drewN nq).cell? ⟨w.heap.size, 2, none⟩ = some (.int .i64 x) := d2
  have e3 : (w1.drewN nq).cell? ⟨w.heap.size, 3, none⟩ = some (.int .i64 y) := d3
  have e4 : (w1.drewN nq).cell? ⟨w.heap.size, 4, none⟩ = some (.int .i64 ww) := d4
  have e5 : (w1.drewN nq).cell? ⟨w.heap.size, 5, none⟩ = some (.int .i64 h) := d5
  have e6 : (w1.drewN nq).cell? ⟨w.heap.size, 6, none⟩ = some (.slice po pn pc) := d6
  have ew : (w1.drewN nq).cell? ⟨g, j, none⟩ = some (.bool true) := dw
  have ef : (w1.drewN nq).frozen? ⟨g, j, none⟩ = false := df
  clear HB1 d0 d1 d2 d3 d4 d5 d6 dw df dd
  generalize w1.drewN nq = w2 at *
  have hO2 : OwnB w2 base (.slice (some ⟨g, 0, none⟩) n cap) will := ownB_kept (unhide HO) hb2
  have HO2 := hide hO2
  have HB2 := hide hb2
  clear hb2 hO2
  go_wp2_with (go_at_call 58; refine (in_any _ _ _ _).mono ?_; rintro e w' ⟨rfl, rfl⟩)
  all_goals go_ret
  all_goals refine ⟨?_, unhide HO2, But.of_below (unhide HB2)⟩
  all_goals first | rfl | (simp_all [inB]; done) | (simp_all [inB]; omega)
end Go.Proofs.YtfnockbgkcgpkaaGreat
