import Derived.Test.YtfnockbgkcgpkaaKaah
import Derived.Test.YtfnockbgkcgpkaaKaai
set_option linter.all false
namespace Go.Proofs.Ytfnockbgkcgpkaa
open Go.RowKit Go.Proofs.Panes
set_option maxRecDepth 100000

/-- A surface of the program lies in a block. -/
def sfcells (s : Srf) (pv : Value) : Array Value := #[.int .i64 s.x, .int .i64 s.y, .int .i64 s.w, .int .i64 s.h, pv, .int .i64 s.dx, .int .i64 s.dy, .int .i64 s.left]
abbrev SfAt (w : World) (b : Nat) (s : Srf) (pv : Value) : Prop := w.heap[b]? = some (.cells (sfcells s pv) 184 (0, 0))

theorem drewN_twice (w : World) (a b : Nat) : (w.drewN a).drewN b = w.drewN (a + b) := by simp [World.drewN, Nat.add_assoc]
set_option maxHeartbeats 1600000 in
theorem sat_any {U : Nat → Prop} {w : World} {b : Nat} {s : Srf} {pv : Value} (hb : SfAt w b s pv) (hs : SrfOk s) (hR : RdN U w pv s.px) (c r : Int) (hc : 0 ≤ c ∧ c ≤ 1000) (hr : 0 ≤ r ∧ r ≤ 1000) :
    Calls Try.prog 97 #[.pointer (some ⟨b, 0, none⟩), .int .i64 c, .int .i64 r] w fun e w' => e = .returned (.int .i64 (pixS s c r)) ∧ ∃ q, w' = w.drewN q := by
  obtain ⟨w0, w8, h0, h8, hpx, xb, yb⟩ := hs
  have e1 : IntKind.i64.wrap (c - s.x) = c - s.x := by rw [IntKind.wrap_i64]; omega
  have e2 : IntKind.i64.wrap (r - s.y) = r - s.y := by rw [IntKind.wrap_i64]; omega
  have e5 : IntKind.i64.wrap (s.w - 1) = s.w - 1 := by rw [IntKind.wrap_i64]; omega
  have e6 : IntKind.i64.wrap (s.h - 1) = s.h - 1 := by rw [IntKind.wrap_i64]; omega
  have c0 : w.cell? ⟨b, 0, none⟩ = some (.int .i64 s.x) := blk_cell hb 0
  have c1 : w.cell? ⟨b, 1, none⟩ = some (.int .i64 s.y) := blk_cell hb 1
  have c2 : w.cell? ⟨b, 2, none⟩ = some (.int .i64 s.w) := blk_cell hb 2
  have c3 : w.cell? ⟨b, 3, none⟩ = some (.int .i64 s.h) := blk_cell hb 3
  have c4 : w.cell? ⟨b, 4, none⟩ = some pv := blk_cell hb 4
  by_cases hcov : covS s c r = true
  · have hb := hcov
    unfold covS at hb
    simp only [Bool.and_eq_true, decide_eq_true_eq] at hb
    obtain ⟨⟨⟨b1, b2⟩, b3⟩, b4⟩ := hb
    obtain ⟨m1, m2, m3, m4⟩ := mul8 b2 b4 b1 b3 h8 w8
    obtain ⟨j, hj⟩ : ∃ j : Nat, (r - s.y) * s.w + (c - s.x) = j := ⟨((r - s.y) * s.w + (c - s.x)).toNat, by omega⟩
    have e3 : IntKind.i64.wrap ((r - s.y) * s.w) = (r - s.y) * s.w := by rw [IntKind.wrap_i64]; omega
    have e4 : IntKind.i64.wrap ((r - s.y) * s.w + (c - s.x)) = (j : Int) := by rw [IntKind.wrap_i64]; omega
    have hjl : j < s.px.length := by omega
    obtain ⟨z, hz⟩ : ∃ z, s.px[j]? = some z := ⟨s.px[j], by simp [hjl]⟩
    have ep : pixS s c r = z := by unfold pixS; rw [if_pos hcov, hj, Int.toNat_natCast, List.getD_eq_getElem?_getD, hz]; rfl
    rw [ep]
    obtain ⟨ao, cap, rfl, h1, h2, h3⟩ := hR
    obtain ⟨pb, po, rfl, _, _, hcell⟩ := h3 (by intro e; rw [e] at hjl; simp at hjl)
    have cz := hcell j z hz
    have i0 : (0 : Int) ≤ (j : Int) := by omega
    have i1 : (j : Int) < (s.px.length : Int) := by omega
    have d1 : (decide (0 ≤ c - s.x) && decide (c - s.x ≤ s.w - 1)) = true := by simp; omega
    have d2 : (decide (0 ≤ r - s.y) && decide (r - s.y ≤ s.h - 1)) = true := by simp; omega
    clear hcov b1 b2 b3 b4 m1 m2 m3 m4 hj hjl hz ep h1 h2 h3 hcell xb yb w0 w8 h0 h8 hpx hb hc hr
    go_enter Try.func97, Try.ntmps97
    go_wp2
    go_quiet (fail)
    go_wp2_with (go_at_call 80; refine (within_any _ _ _ _).mono ?_; rintro e w' ⟨rfl, rfl⟩; first | rw [d1] | rw [d2])
    go_quiet (fail)
    go_wp2
    go_ret
    exact ⟨rfl, ⟨_, drewN_twice _ _ _⟩⟩
  · have ep : pixS s c r = 0 := by unfold pixS; rw [if_neg hcov]
    rw [ep]
    have hno : ¬ (0 ≤ c - s.x ∧ c - s.x ≤ s.w - 1) ∨ ((0 ≤ c - s.x ∧ c - s.x ≤ s.w - 1) ∧ ¬ (0 ≤ r - s.y ∧ r - s.y ≤ s.h - 1)) := by
      unfold covS at hcov
      simp only [Bool.and_eq_true, decide_eq_true_eq] at hcov
      omega
    rcases hno with n1 | ⟨n1, n2⟩
    · have d1 : (decide (0 ≤ c - s.x) && decide (c - s.x ≤ s.w - 1)) = false := by simp only [Bool.and_eq_false_iff, decide_eq_false_iff_not]; omega
      clear n1 hcov ep w0 w8 h0 h8 hpx hb hR hc hr xb yb
      go_enter Try.func97, Try.ntmps97
      go_wp2
      go_quiet (fail)
      go_wp2_with (go_at_call 80; refine (within_any _ _ _ _).mono ?_; rintro e w' ⟨rfl, rfl⟩; first | rw [d1] | rw [d2])
      go_ret
      exact ⟨rfl, ⟨_, rfl⟩⟩
    · have d1 : (decide (0 ≤ c - s.x) && decide (c - s.x ≤ s.w - 1)) = true := by simp; omega
      have d2 : (decide (0 ≤ r - s.y) && decide (r - s.y ≤ s.h - 1)) = false := by simp only [Bool.and_eq_false_iff, decide_eq_false_iff_not]; omega
      clear n1 n2 hcov ep w0 w8 h0 h8 hpx hb hR hc hr xb yb
      go_enter Try.func97, Try.ntmps97
      go_wp2
      go_quiet (fail)
      go_wp2_with (go_at_call 80; refine (within_any _ _ _ _).mono ?_; rintro e w' ⟨rfl, rfl⟩; first | rw [d1] | rw [d2])
      go_ret
      exact ⟨rfl, ⟨_, rfl⟩⟩

/-- A place is another one. -/
def putP (w : World) (b : Nat) (x y : Int) : World := (w.setCell ⟨b, 0, none⟩ (.int .i64 x)).setCell ⟨b, 1, none⟩ (.int .i64 y)
set_option maxHeartbeats 1600000 in
theorem smove_any {w : World} {b : Nat} {s : Srf} {pv : Value} (hb : SfAt w b s pv) (x y : Int) :
    Calls Try.prog 115 #[.pointer (some ⟨b, 0, none⟩), .agg #[.int .i64 x, .int .i64 y]] w fun e w' => e = .returned (.bool (!(s.x == x && s.y == y))) ∧ SfAt w' b { s with x := x, y := y } pv ∧ But (fun k => k = b) w w' := by
  have c0 : w.cell? ⟨b, 0, none⟩ = some (.int .i64 s.x) := blk_cell hb 0
  have c1 : w.cell? ⟨b, 1, none⟩ = some (.int .i64 s.y) := blk_cell hb 1
  have f0 : ∀ j, w.frozen? ⟨b, j, none⟩ = false := fun j => blk_thaw hb j
  have lb : b < w.heap.size := lt_of_heap hb
  have HB := hide hb
  clear hb
  go_enter Try.func115, Try.ntmps115
  go_wp2
  all_goals go_ret
  all_goals
    refine ⟨by simp_all, ?_, ?_⟩
    · have h1 := blk_set (i := 0) (unhide HB) (.int .i64 x)
      have h2 := blk_set (i := 1) h1 (.int .i64 y)
      exact blk_alloc (blk_alloc h2 _) _
    · exact ((((But.refl (fun k => k = b) w).setCell (p := ⟨b, 0, none⟩) (.inl rfl) _).setCell (p := ⟨b, 1, none⟩) (.inl rfl) _).alloc _).alloc _

end Go.Proofs.Ytfnockbgkcgpkaa
set_option linter.all false
namespace Go.Proofs.Ytfnockbgkcgpkaa
open Go.RowKit Go.Proofs.Panes
set_option maxRecDepth 100000

def zrc : Rc := ⟨0, 0, 0, 0⟩
def rval (r : Rc) : Value := .agg #[.int .i64 r.x, .int .i64 r.y, .int .i64 r.w, .int .i64 r.h]
/-- The scene's own block and its map. -/
structure ScM (w : World) (sb mb : Nat) (ov bv : Value) (L : List Ke) (clock : Nat) : Prop where
  blk : w.heap[sb]? = some (.cells #[.map (some mb), ov, bv] 146 (0, 0))
  map : w.heap[mb]? = some (.map (L.map ke).toArray clock)
theorem ScM.but {S : Nat → Prop} {w w' : World} {sb mb : Nat} {ov bv : Value} {L : List Ke} {clock : Nat} (h : ScM w sb mb ov bv L clock) (hb : But S w w') (h1 : ¬ S sb) (h2 : ¬ S mb) : ScM w' sb mb ov bv L clock :=
  ⟨hb.heap h.blk h1, hb.heap h.map h2⟩
theorem ScM.below {w w' : World} {sb mb : Nat} {ov bv : Value} {L : List Ke} {clock : Nat} (h : ScM w sb mb ov bv L clock) (hb : Below w.heap.size w w') : ScM w' sb mb ov bv L clock := h.but (S := fun _ => False) (.of_below hb) (fun h => h) (fun h => h)

set_option maxHeartbeats 1600000 in
theorem covered_any {w : World} {sb mb : Nat} {ov bv : Value} {L : List Ke} {clock : Nat} (h : ScM w sb mb ov bv L clock) (c n : Int) (r : Rc)
    (hr : (atE c n L = .pointer none ∧ r = zrc) ∨ ∃ b s pv, atE c n L = .pointer (some ⟨b, 0, none⟩) ∧ SfAt w b s pv ∧ r = ⟨s.x, s.y, s.w, s.h⟩) :
    Calls Try.prog 114 #[.pointer (some ⟨sb, 0, none⟩), kval c n] w fun e w' => e = .returned (rval r) ∧ Below w.heap.size w w' := by
  have c0 : w.cell? ⟨sb, 0, none⟩ = some (.map (some mb)) := blk_cell h.blk 0
  have l1 : sb < w.heap.size := lt_of_heap h.blk
  have hlk : ∀ k, (Instr.lookup 144 (.map (some mb)) (.agg #[.int .i64 c, .int .i64 n]) false).run Try.prog ((((w.alloc (.cells #[.int .i64 c, .int .i64 n] 143)).alloc (.cells #[.int .i64 0, .int .i64 0, .int .i64 0, .int .i64 0] 29))).drewN k) = .ok (atE c n L) ((((w.alloc (.cells #[.int .i64 c, .int .i64 n] 143)).alloc (.cells #[.int .i64 0, .int .i64 0, .int .i64 0, .int .i64 0] 29))).drewN k) :=
    fun k => run_lookup_key (w := World.drewN _ k) (blk_alloc (blk_alloc h.map _) _) c n
  unfold kval
  rcases hr with ⟨ha, rfl⟩ | ⟨b, s, pv, ha, hs, rfl⟩
  · rw [ha] at hlk
    clear h ha
    go_enter Try.func114, Try.ntmps114
    go_wp2
    go_quiet (fail)
    go_wp2
    refine bodyPost_ret (v := rval zrc) (by simp [results, Try.results114, go_sem, rval, zrc]) rfl ⟨rfl, ?_⟩
    have hB := below_drewN (((Below.refl _ w).alloc (Nat.le_refl _) (.cells #[.int .i64 c, .int .i64 n] 143)).alloc (by simp) (.cells #[.int .i64 0, .int .i64 0, .int .i64 0, .int .i64 0] 29)) nq
    exact (((hB.setCell (p := ⟨w.heap.size + 1, 0, none⟩) (Nat.le_succ _) _).setCell (p := ⟨w.heap.size + 1, 1, none⟩) (Nat.le_succ _) _).setCell (p := ⟨w.heap.size + 1, 2, none⟩) (Nat.le_succ _) _).setCell (p := ⟨w.heap.size + 1, 3, none⟩) (Nat.le_succ _) _
  · rw [ha] at hlk
    have d0 : w.cell? ⟨b, 0, none⟩ = some (.int .i64 s.x) := blk_cell hs 0
    have d1 : w.cell? ⟨b, 1, none⟩ = some (.int .i64 s.y) := blk_cell hs 1
    have d2 : w.cell? ⟨b, 2, none⟩ = some (.int .i64 s.w) := blk_cell hs 2
    have d3 : w.cell? ⟨b, 3, none⟩ = some (.int .i64 s.h) := blk_cell hs 3
    have l2 : b < w.heap.size := lt_of_heap hs
    clear h ha hs
    go_enter Try.func114, Try.ntmps114
    go_wp2
    go_quiet (fail)
    go_wp2
    have hB : Below w.heap.size w (((w.alloc (.cells #[.int .i64 c, .int .i64 n] 143)).alloc (.cells #[.int .i64 0, .int .i64 0, .int .i64 0, .int .i64 0] 29)).drewN nq) := below_drewN (((Below.refl _ w).alloc (Nat.le_refl _) (.cells #[.int .i64 c, .int .i64 n] 143)).alloc (by simp) (.cells #[.int .i64 0, .int .i64 0, .int .i64 0, .int .i64 0] 29)) nq
    have hN : (((w.alloc (.cells #[.int .i64 c, .int .i64 n] 143)).alloc (.cells #[.int .i64 0, .int .i64 0, .int .i64 0, .int .i64 0] 29)).drewN nq).heap[w.heap.size + 1]? = some (.cells #[.int .i64 0, .int .i64 0, .int .i64 0, .int .i64 0] 29) := new_at _ _ _ (by simp)
    have d0 := (hB.cell l2).trans d0
    have d1 := (hB.cell l2).trans d1
    have d2 := (hB.cell l2).trans d2
    have d3 := (hB.cell l2).trans d3
    generalize ((w.alloc (.cells #[.int .i64 c, .int .i64 n] 143)).alloc (.cells #[.int .i64 0, .int .i64 0, .int .i64 0, .int .i64 0] 29)).drewN nq = w1 at *
    have y0 : w1.cell? ⟨w.heap.size + 1, 0, none⟩ = some (.int .i64 0) := blk_cell hN 0
    have y1 : w1.cell? ⟨w.heap.size + 1, 1, none⟩ = some (.int .i64 0) := blk_cell hN 1
    have y2 : w1.cell? ⟨w.heap.size + 1, 2, none⟩ = some (.int .i64 0) := blk_cell hN 2
    have y3 : w1.cell? ⟨w.heap.size + 1, 3, none⟩ = some (.int .i64 0) := blk_cell hN 3
    have yz : ∀ t, w1.frozen? ⟨w.heap.size + 1, t, none⟩ = false := blk_thaw hN
    have hne : b ≠ w.heap.size + 1 := by omega
    have HB := hide hB
    clear hB hN hlk
    go_region
    go_wp2
    refine bodyPost_ret (v := rval ⟨s.x, s.y, s.w, s.h⟩) (by simp [results, Try.results114, go_sem, rval, y0, y1, y2, y3]) rfl ⟨rfl, ?_⟩
    exact (((((unhide HB).setCell (p := ⟨w.heap.size + 1, 0, none⟩) (Nat.le_succ _) _).setCell (p := ⟨w.heap.size + 1, 1, none⟩) (Nat.le_succ _) _).setCell (p := ⟨w.heap.size + 1, 2, none⟩) (Nat.le_succ _) _).setCell (p := ⟨w.heap.size + 1, 3, none⟩) (Nat.le_succ _) _).drew
end Go.Proofs.Ytfnockbgkcgpkaa
