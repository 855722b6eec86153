import Derived.Test.YtfnockbgkcgpkaaGreatQbC
set_option linter.all false
namespace Go.Proofs.YtfnockbgkcgpkaaGreat
open Go.RowKit Go.Proofs.Panes
set_option maxRecDepth 100000
attribute [local go_sem ↓] Go.wp_at_zero Go.wp_at_succ

set_option maxHeartbeats 8000000 in
theorem valid_f1 (sp n : Nat) (kind surf x y ww h mark : Int) (po : Option Addr) (pn pc : Nat) (w : World) (hS : w.cell? ⟨sp, 6, none⟩ = some (.int .i64 n)) (h4 : 1 ≤ n ∧ n ≤ 4) (k8 : ¬ kind = 8) (v : Value) (hk : ¬ (1 ≤ kind ∧ kind ≤ 7)) :
    Calls Tryz.prog 59 #[.pointer (some ⟨sp, 0, none⟩), .agg #[.int .i64 kind, .int .i64 surf, .int .i64 x, .int .i64 y, .int .i64 ww, .int .i64 h, .slice po pn pc, .int .i64 mark], v] w fun e w' => e = .returned (.bool false) ∧ Below w.heap.size w w' := by
  have hsp : sp < w.heap.size := World.block_lt_of_cell? w _ hS
  have wr : IntKind.i64.wrap ((n : Int) - 1) = (n : Int) - 1 := by rw [IntKind.wrap_i64]; omega
  have d7 : (decide ((1 : Int) ≤ kind) && decide (kind ≤ (7 : Int))) = false := by simp; omega
  go_enter Tryz.func59, Tryz.ntmps59
  go_wp2_with (go_at_call 58; refine (in_any _ _ _ _).mono ?_; rintro e w' ⟨rfl, rfl⟩)
  go_quiet ((go_at_call 58; exact Calls.quiet_of_same (in_any _ _ _ _)))
  have hb1 : Below w.heap.size w ((w.alloc (.cells #[.int .i64 kind, .int .i64 surf, .int .i64 x, .int .i64 y, .int .i64 ww, .int .i64 h, .slice po pn pc, .int .i64 mark] 52)).drewN nq) := below_drewN ((Below.refl _ w).alloc (Nat.le_refl _) _) _
  have hx1 : ((w.alloc (.cells #[.int .i64 kind, .int .i64 surf, .int .i64 x, .int .i64 y, .int .i64 ww, .int .i64 h, .slice po pn pc, .int .i64 mark] 52)).drewN nq).heap[w.heap.size]? = some (.cells #[.int .i64 kind, .int .i64 surf, .int .i64 x, .int .i64 y, .int .i64 ww, .int .i64 h, .slice po pn pc, .int .i64 mark] 52) := new_at _ _ _ rfl
  generalize (w.alloc (.cells #[.int .i64 kind, .int .i64 surf, .int .i64 x, .int .i64 y, .int .i64 ww, .int .i64 h, .slice po pn pc, .int .i64 mark] 52)).drewN nq = w1 at *
  have d0 : w1.cell? ⟨w.heap.size, 0, none⟩ = some (.int .i64 kind) := blk_cell hx1 0
  have d1 : w1.cell? ⟨w.heap.size, 1, none⟩ = some (.int .i64 surf) := blk_cell hx1 1
  have d2 : w1.cell? ⟨w.heap.size, 2, none⟩ = some (.int .i64 x) := blk_cell hx1 2
  have d3 : w1.cell? ⟨w.heap.size, 3, none⟩ = some (.int .i64 y) := blk_cell hx1 3
  have d4 : w1.cell? ⟨w.heap.size, 4, none⟩ = some (.int .i64 ww) := blk_cell hx1 4
  have d5 : w1.cell? ⟨w.heap.size, 5, none⟩ = some (.int .i64 h) := blk_cell hx1 5
  have d6 : w1.cell? ⟨w.heap.size, 6, none⟩ = some (.slice po pn pc) := blk_cell hx1 6
  have HB1 := hide hb1
  clear hb1 hx1 hS
  go_wp2_with fail
  go_quiet (fail)
  have HB2 := hide (below_drewN (unhide HB1) nq)
  go_wp2
  go_ret
  exact ⟨rfl, unhide HB2⟩

set_option maxHeartbeats 8000000 in
theorem valid_f2 (sp n : Nat) (kind surf x y ww h mark : Int) (po : Option Addr) (pn pc : Nat) (w : World) (hS : w.cell? ⟨sp, 6, none⟩ = some (.int .i64 n)) (h4 : 1 ≤ n ∧ n ≤ 4) (k8 : ¬ kind = 8) (v : Value) (hk : 1 ≤ kind ∧ kind ≤ 7) (hs : ¬ (0 ≤ surf ∧ surf ≤ (n : Int) - 1)) :
    Calls Tryz.prog 59 #[.pointer (some ⟨sp, 0, none⟩), .agg #[.int .i64 kind, .int .i64 surf, .int .i64 x, .int .i64 y, .int .i64 ww, .int .i64 h, .slice po pn pc, .int .i64 mark], v] w fun e w' => e = .returned (.bool false) ∧ Below w.heap.size w w' := by
  have hsp : sp < w.heap.size := World.block_lt_of_cell? w _ hS
  have wr : IntKind.i64.wrap ((n : Int) - 1) = (n : Int) - 1 := by rw [IntKind.wrap_i64]; omega
  have d7 : (decide ((1 : Int) ≤ kind) && decide (kind ≤ (7 : Int))) = true := by simp; omega
  have d8 : (decide ((0 : Int) ≤ surf) && decide (surf ≤ (n : Int) - 1)) = false := by simp; omega
  go_enter Tryz.func59, Tryz.ntmps59
  go_wp2_with (go_at_call 58; refine (in_any _ _ _ _).mono ?_; rintro e w' ⟨rfl, rfl⟩)
  go_quiet ((go_at_call 58; exact Calls.quiet_of_same (in_any _ _ _ _)))
  have hb1 : Below w.heap.size w ((w.alloc (.cells #[.int .i64 kind, .int .i64 surf, .int .i64 x, .int .i64 y, .int .i64 ww, .int .i64 h, .slice po pn pc, .int .i64 mark] 52)).drewN nq) := below_drewN ((Below.refl _ w).alloc (Nat.le_refl _) _) _
  have hx1 : ((w.alloc (.cells #[.int .i64 kind, .int .i64 surf, .int .i64 x, .int .i64 y, .int .i64 ww, .int .i64 h, .slice po pn pc, .int .i64 mark] 52)).drewN nq).heap[w.heap.size]? = some (.cells #[.int .i64 kind, .int .i64 surf, .int .i64 x, .int .i64 y, .int .i64 ww, .int .i64 h, .slice po pn pc, .int .i64 mark] 52) := new_at _ _ _ rfl
  generalize (w.alloc (.cells #[.int .i64 kind, .int .i64 surf, .int .i64 x, .int .i64 y, .int .i64 ww, .int .i64 h, .slice po pn pc, .int .i64 mark] 52)).drewN nq = w1 at *
  have d0 : w1.cell? ⟨w.heap.size, 0, none⟩ = some (.int .i64 kind) := blk_cell hx1 0
  have d1 : w1.cell? ⟨w.heap.size, 1, none⟩ = some (.int .i64 surf) := blk_cell hx1 1
  have d2 : w1.cell? ⟨w.heap.size, 2, none⟩ = some (.int .i64 x) := blk_cell hx1 2
  have d3 : w1.cell? ⟨w.heap.size, 3, none⟩ = some (.int .i64 y) := blk_cell hx1 3
  have d4 : w1.cell? ⟨w.heap.size, 4, none⟩ = some (.int .i64 ww) := blk_cell hx1 4
  have d5 : w1.cell? ⟨w.heap.size, 5, none⟩ = some (.int .i64 h) := blk_cell hx1 5
  have d6 : w1.cell? ⟨w.heap.size, 6, none⟩ = some (.slice po pn pc) := blk_cell hx1 6
  have HB1 := hide hb1
  clear hb1 hx1 hS
  go_wp2_with fail
  try rw [d8]
  go_quiet (fail)
  have HB2 := hide (below_drewN (unhide HB1) nq)
  go_wp2
  go_ret
  exact ⟨rfl, unhide HB2⟩

set_option maxHeartbeats 8000000 in
theorem valid_f3 (sp g n cap : Nat) (x y ww h mark : Int) (po : Option Addr) (pn pc : Nat) (w : World) (hS : w.cell? ⟨sp, 6, none⟩ = some (.int .i64 n)) (h4 : 1 ≤ n ∧ n ≤ 4) (j : Nat) (hjn : j < n) (cw : w.cell? ⟨g, j, none⟩ = some (.bool true)) :
    Calls Tryz.prog 59 #[.pointer (some ⟨sp, 0, none⟩), .agg #[.int .i64 1, .int .i64 j, .int .i64 x, .int .i64 y, .int .i64 ww, .int .i64 h, .slice po pn pc, .int .i64 mark], .slice (some ⟨g, 0, none⟩) n cap] w fun e w' => e = .returned (.bool false) ∧ Below w.heap.size w w' := by
  have hsp : sp < w.heap.size := World.block_lt_of_cell? w _ hS
  have hg : g < w.heap.size := World.block_lt_of_cell? w _ cw
  have wr : IntKind.i64.wrap ((n : Int) - 1) = (n : Int) - 1 := by rw [IntKind.wrap_i64]; omega
  have i0 : (0 : Int) ≤ (j : Int) := by omega
  have i1 : (j : Int) ≤ (n : Int) - 1 := by omega
  have i2 : (j : Int) < (n : Int) := by omega
  go_enter Tryz.func59, Tryz.ntmps59
  go_wp2_with (go_at_call 58; refine (in_any _ _ _ _).mono ?_; rintro e w' ⟨rfl, rfl⟩)
  go_quiet ((go_at_call 58; exact Calls.quiet_of_same (in_any _ _ _ _)))
  have hb1 : Below w.heap.size w ((w.alloc (.cells #[.int .i64 1, .int .i64 j, .int .i64 x, .int .i64 y, .int .i64 ww, .int .i64 h, .slice po pn pc, .int .i64 mark] 52)).drewN nq) := below_drewN ((Below.refl _ w).alloc (Nat.le_refl _) _) _
  have hx1 : ((w.alloc (.cells #[.int .i64 1, .int .i64 j, .int .i64 x, .int .i64 y, .int .i64 ww, .int .i64 h, .slice po pn pc, .int .i64 mark] 52)).drewN nq).heap[w.heap.size]? = some (.cells #[.int .i64 1, .int .i64 j, .int .i64 x, .int .i64 y, .int .i64 ww, .int .i64 h, .slice po pn pc, .int .i64 mark] 52) := new_at _ _ _ rfl
  generalize (w.alloc (.cells #[.int .i64 1, .int .i64 j, .int .i64 x, .int .i64 y, .int .i64 ww, .int .i64 h, .slice po pn pc, .int .i64 mark] 52)).drewN nq = w1 at *
  have d0 : w1.cell? ⟨w.heap.size, 0, none⟩ = some (.int .i64 1) := blk_cell hx1 0
  have d1 : w1.cell? ⟨w.heap.size, 1, none⟩ = some (.int .i64 j) := blk_cell hx1 1
  have d2 : w1.cell? ⟨w.heap.size, 2, none⟩ = some (.int .i64 x) := blk_cell hx1 2
  have d3 : w1.cell? ⟨w.heap.size, 3, none⟩ = some (.int .i64 y) := blk_cell hx1 3
  have d4 : w1.cell? ⟨w.heap.size, 4, none⟩ = some (.int .i64 ww) := blk_cell hx1 4
  have d5 : w1.cell? ⟨w.heap.size, 5, none⟩ = some (.int .i64 h) := blk_cell hx1 5
  have d6 : w1.cell? ⟨w.heap.size, 6, none⟩ = some (.slice po pn pc) := blk_cell hx1 6
  have dw : w1.cell? ⟨g, j, none⟩ = some (.bool true) := (hb1.cell hg).trans cw
  have HB1 := hide hb1
  clear hb1 hx1 hS cw
  have dd : (decide ((0 : Int) ≤ (j : Int)) && decide ((j : Int) ≤ (n : Int) - 1)) = true := by simp; omega
  go_wp2_with fail
  rw [dd]
  go_quiet (fail)
  have HB2 := hide (below_drewN (unhide HB1) nq)
  go_wp2
  go_ret
  exact ⟨rfl, unhide HB2⟩

set_option maxHeartbeats 8000000 in
theorem valid_f4 (sp g n cap : Nat) (kind : Int) (x y ww h mark : Int) (po : Option Addr) (pn pc : Nat) (w : World) (hS : w.cell? ⟨sp, 6, none⟩ = some (.int .i64 n)) (h4 : 1 ≤ n ∧ n ≤ 4) (k8 : ¬ kind = 8) (k1 : ¬ kind = 1) (hk : 1 ≤ kind ∧ kind ≤ 7) (j : Nat) (hjn : j < n) (cw : w.cell? ⟨g, j, none⟩ = some (.bool false)) :
    Calls Tryz.prog 59 #[.pointer (some ⟨sp, 0, none⟩), .agg #[.int .i64 kind, .int .i64 j, .int .i64 x, .int .i64 y, .int .i64 ww, .int .i64 h, .slice po pn pc, .int .i64 mark], .slice (some ⟨g, 0, none⟩) n cap] w fun e w' => e = .returned (.bool false) ∧ Below w.heap.size w w' := by
  have hsp : sp < w.heap.size := World.block_lt_of_cell? w _ hS
  have hg : g < w.heap.size := World.block_lt_of_cell? w _ cw
  have wr : IntKind.i64.wrap ((n : Int) - 1) = (n : Int) - 1 := by rw [IntKind.wrap_i64]; omega
  have i0 : (0 : Int) ≤ (j : Int) := by omega
  have i1 : (j : Int) ≤ (n : Int) - 1 := by omega
  have i2 : (j : Int) < (n : Int) := by omega
  have d7 : (decide ((1 : Int) ≤ kind) && decide (kind ≤ (7 : Int))) = true := by simp; omega
  have k1b : (kind == 1) = false := by simpa using k1
  have k8b : (kind == 8) = false := by simpa using k8
  go_enter Tryz.func59, Tryz.ntmps59
  go_wp2_with (go_at_call 58; refine (in_any _ _ _ _).mono ?_; rintro e w' ⟨rfl, rfl⟩)
  go_quiet ((go_at_call 58; exact Calls.quiet_of_same (in_any _ _ _ _)))
  have hb1 : Below w.heap.size w ((w.alloc (.cells #[.int .i64 kind, .int .i64 j, .int .i64 x, .int .i64 y, .int .i64 ww, .int .i64 h, .slice po pn pc, .int .i64 mark] 52)).drewN nq) := below_drewN ((Below.refl _ w).alloc (Nat.le_refl _) _) _
  have hx1 : ((w.alloc (.cells #[.int .i64 kind, .int .i64 j, .int .i64 x, .int .i64 y, .int .i64 ww, .int .i64 h, .slice po pn pc, .int .i64 mark] 52)).drewN nq).heap[w.heap.size]? = some (.cells #[.int .i64 kind, .int .i64 j, .int .i64 x, .int .i64 y, .int .i64 ww, .int .i64 h, .slice po pn pc, .int .i64 mark] 52) := new_at _ _ _ rfl
  generalize (w.alloc (.cells #[.int .i64 kind, .int .i64 j, .int .i64 x, .int .i64 y, .int .i64 ww, .int .i64 h, .slice po pn pc, .int .i64 mark] 52)).drewN nq = w1 at *
  have d0 : w1.cell? ⟨w.heap.size, 0, none⟩ = some (.int .i64 kind) := blk_cell hx1 0
  have d1 : w1.cell? ⟨w.heap.size, 1, none⟩ = some (.int .i64 j) := blk_cell hx1 1
  have d2 : w1.cell? ⟨w.heap.size, 2, none⟩ = some (.int .i64 x) := blk_cell hx1 2
  have d3 : w1.cell? ⟨w.heap.size, 3, none⟩ = some (.int .i64 y) := blk_cell hx1 3
  have d4 : w1.cell? ⟨w.heap.size, 4, none⟩ = some (.int .i64 ww) := blk_cell hx1 4
  have d5 : w1.cell? ⟨w.heap.size, 5, none⟩ = some (.int .i64 h) := blk_cell hx1 5
  have d6 : w1.cell? ⟨w.heap.size, 6, none⟩ = some (.slice po pn pc) := blk_cell hx1 6
  have dw : w1.cell? ⟨g, j, none⟩ = some (.bool false) := (hb1.cell hg).trans cw
  have HB1 := hide hb1
  clear hb1 hx1 hS cw
  have dd : (decide ((0 : Int) ≤ (j : Int)) && decide ((j : Int) ≤ (n : Int) - 1)) = true := by simp; omega
  go_wp2_with fail
  rw [dd]
  go_quiet (fail)
  have HB2 := hide (below_drewN (unhide HB1) nq)
  go_wp2
  go_ret
  exact ⟨rfl, unhide HB2⟩

theorem inB_iff {n lo hi : Int} : inB n lo hi = true ↔ lo ≤ n ∧ n ≤ hi := by simp [inB]
theorem inB_false {n lo hi : Int} (h : ¬ (lo ≤ n ∧ n ≤ hi)) : inB n lo hi = false := by
  cases e : inB n lo hi
  · rfl
  · exact absurd (inB_iff.1 e) h

/-- An operation of a transaction, as the document says it. -/
theorem valid_any (U : Nat → Prop) (sp base g n cap : Nat) (will : List Bool) (o : Opn) (pv : Value) (w : World) (hS : w.cell? ⟨sp, 6, none⟩ = some (.int .i64 n)) (hO : OwnB w base (.slice (some ⟨g, 0, none⟩) n cap) will) (hn : n = will.length) (h4 : 1 ≤ n ∧ n ≤ 4) (hP : RdN U w pv o.px) (hpl : o.px.length ≤ 17592186043904) :
    Calls Tryz.prog 59 #[.pointer (some ⟨sp, 0, none⟩), oval o pv, .slice (some ⟨g, 0, none⟩) n cap] w fun e w' => ∃ b, e = .returned (.bool b) ∧ Valid w w' base g n cap will o b := by
  obtain ⟨kind, surf, x, y, ww, h, px, mark⟩ := o
  obtain ⟨po, pc, epv, hpr⟩ := id hP
  simp only at epv hpl hP
  subst epv
  have hg := (World.ownsRow.lt hO g rfl).2
  unfold oval Valid
  simp only
  by_cases k8 : kind = 8
  · refine (valid_ask sp _ kind surf x y ww h mark po _ pc w k8).mono fun e w' ⟨he, hb⟩ => ⟨true, he, .of_below hb, fun _ => ⟨will, by unfold vstep; rw [if_pos k8], rfl, ownB_kept hO hb⟩, fun h => by cases h⟩
  have no : ∀ (Q : World → Prop), Calls Tryz.prog 59 #[.pointer (some ⟨sp, 0, none⟩), .agg #[.int .i64 kind, .int .i64 surf, .int .i64 x, .int .i64 y, .int .i64 ww, .int .i64 h, .slice po px.length pc, .int .i64 mark], .slice (some ⟨g, 0, none⟩) n cap] w (fun e w' => e = .returned (.bool false) ∧ Below w.heap.size w w') → (inB kind 1 7 && inB surf 0 ((will.length : Int) - 1) && (will.getD surf.toNat false != decide (kind = 1)) && okArgs ⟨kind, surf, x, y, ww, h, px, mark⟩) = false → Calls Tryz.prog 59 #[.pointer (some ⟨sp, 0, none⟩), .agg #[.int .i64 kind, .int .i64 surf, .int .i64 x, .int .i64 y, .int .i64 ww, .int .i64 h, .slice po px.length pc, .int .i64 mark], .slice (some ⟨g, 0, none⟩) n cap] w fun e w' => ∃ b, e = .returned (.bool b) ∧ But (fun k => k = g) w w' ∧ (b = true → ∃ will', vstep will ⟨kind, surf, x, y, ww, h, px, mark⟩ = some will' ∧ will'.length = will.length ∧ OwnB w' base (.slice (some ⟨g, 0, none⟩) n cap) will') ∧ (b = false → vstep will ⟨kind, surf, x, y, ww, h, px, mark⟩ = none) :=
    fun Q hc hf => hc.mono fun e w' ⟨he, hb⟩ => ⟨false, he, .of_below hb, (fun h => by cases h), fun _ => vstep_none (o := ⟨kind, surf, x, y, ww, h, px, mark⟩) k8 hf⟩
  by_cases hk : 1 ≤ kind ∧ kind ≤ 7
  case neg => exact no (fun _ => True) (valid_f1 sp n kind surf x y ww h mark po _ pc w hS h4 k8 _ hk) (by rw [inB_false hk]; rfl)
  by_cases hs : 0 ≤ surf ∧ surf ≤ (n : Int) - 1
  case neg => exact no (fun _ => True) (valid_f2 sp n kind surf x y ww h mark po _ pc w hS h4 k8 _ hk hs) (by rw [inB_false (n := surf) (by rw [← hn]; exact hs), Bool.and_false]; rfl)
  obtain ⟨j, rfl⟩ : ∃ j : Nat, surf = j := ⟨surf.toNat, by omega⟩
  have hjn : j < n := by omega
  obtain ⟨b, hb⟩ : ∃ b, will[j]? = some b := ⟨will[j]'(by omega), List.getElem?_eq_getElem _⟩
  have cw : w.cell? ⟨g, j, none⟩ = some (.bool b) := ownB_at hO hb
  have hgd : will.getD (j : Int).toNat false = b := by simp [List.getD, hb]
  have hk' : inB kind 1 7 = true := inB_iff.2 hk
  have hs' : inB (j : Int) 0 ((will.length : Int) - 1) = true := inB_iff.2 (by rw [← hn]; exact hs)
  have yes : ∀ (wl : List Bool) (r : Bool), wl = will.set j (decide (kind ≠ 2)) → (b != decide (kind = 1)) = true → okArgs ⟨kind, j, x, y, ww, h, px, mark⟩ = r → Calls Tryz.prog 59 #[.pointer (some ⟨sp, 0, none⟩), .agg #[.int .i64 kind, .int .i64 j, .int .i64 x, .int .i64 y, .int .i64 ww, .int .i64 h, .slice po px.length pc, .int .i64 mark], .slice (some ⟨g, 0, none⟩) n cap] w (fun e w' => e = .returned (.bool r) ∧ OwnB w' base (.slice (some ⟨g, 0, none⟩) n cap) wl ∧ But (fun k => k = g) w w') → Calls Tryz.prog 59 #[.pointer (some ⟨sp, 0, none⟩), .agg #[.int .i64 kind, .int .i64 j, .int .i64 x, .int .i64 y, .int .i64 ww, .int .i64 h, .slice po px.length pc, .int .i64 mark], .slice (some ⟨g, 0, none⟩) n cap] w fun e w' => ∃ b, e = .returned (.bool b) ∧ But (fun k => k = g) w w' ∧ (b = true → ∃ will', vstep will ⟨kind, j, x, y, ww, h, px, mark⟩ = some will' ∧ will'.length = will.length ∧ OwnB w' base (.slice (some ⟨g, 0, none⟩) n cap) will') ∧ (b = false → vstep will ⟨kind, j, x, y, ww, h, px, mark⟩ = none) :=
    fun wl r hwl hbk hr hc => hc.mono fun e w' ⟨he, ho, hbt⟩ => ⟨r, he, hbt, fun h' => ⟨wl, by rw [hwl]; exact vstep_some (o := ⟨kind, j, x, y, ww, h, px, mark⟩) k8 (by simp only [hk', hs', hgd, hbk, hr, h', Bool.and_self]), by rw [hwl, List.length_set], ho⟩, fun h' => vstep_none (o := ⟨kind, j, x, y, ww, h, px, mark⟩) k8 (by simp only [hr, h', Bool.and_false])⟩
  by_cases k1 : kind = 1
  · subst k1
    cases b with
    | true => exact no (fun _ => True) (valid_f3 sp g n cap x y ww h mark po _ pc w hS h4 j hjn cw) (by simp only [hgd]; simp)
    | false => exact yes _ _ (by simp) (by simp) (by simp [okArgs]) (valid_k1 sp base g n cap will x y ww h mark po _ pc w hS hO hn h4 j hjn hb)
  · cases b with
    | false => exact no (fun _ => True) (valid_f4 sp g n cap kind x y ww h mark po _ pc w hS h4 k8 k1 hk j hjn cw) (by simp only [hgd]; simp [k1])
    | true =>
      have hb1 : (true != decide (kind = 1)) = true := by simp [k1]
      have hcs : kind = 2 ∨ kind = 3 ∨ kind = 4 ∨ kind = 5 ∨ kind = 6 ∨ kind = 7 := by omega
      rcases hcs with e | e | e | e | e | e <;> subst e
      · exact yes _ _ (by simp) hb1 (by simp [okArgs]) (valid_k2 sp base g n cap will x y ww h mark po _ pc w hS hO hn h4 j hjn hb)
      · exact yes _ _ (by simp [set_same hb]) hb1 (by simp [okArgs]) (valid_k3 sp base g n cap will x y ww h mark po _ pc w hS hO hn h4 j hjn hb U px hP hpl)
      · exact yes _ _ (by simp [set_same hb]) hb1 (by simp [okArgs]) (valid_k4 sp base g n cap will x y ww h mark po _ pc w hS hO hn h4 j hjn hb)
      · exact yes _ _ (by simp [set_same hb]) hb1 (by simp [okArgs]) (valid_k5 sp base g n cap will x y ww h mark po _ pc w hS hO hn h4 j hjn hb)
      · exact yes _ _ (by simp [set_same hb]) hb1 (by simp [okArgs]) (valid_k6 sp base g n cap will x y ww h mark po _ pc w hS hO hn h4 j hjn hb)
      · exact yes _ _ (by simp [set_same hb]) hb1 (by simp [okArgs]) (valid_k7 sp base g n cap will x y ww h mark po _ pc w hS hO hn h4 j hjn hb)
end Go.Proofs.YtfnockbgkcgpkaaGreat
