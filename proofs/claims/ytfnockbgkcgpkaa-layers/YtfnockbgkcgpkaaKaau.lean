import Derived.Test.YtfnockbgkcgpkaaKaas
import Derived.Test.YtfnockbgkcgpkaaKaat
set_option linter.all false
namespace Go.Proofs.Ytfnockbgkcgpkaa
open Go.RowKit Go.Proofs.Panes
set_option maxRecDepth 100000

def oval (k s x y w h : Int) (pv : Value) (m : Int) : Value := .agg #[.int .i64 k, .int .i64 s, .int .i64 x, .int .i64 y, .int .i64 w, .int .i64 h, pv, .int .i64 m]
/-- The two boxes that 'change' lays. -/
abbrev bxd (w : World) (c n : Int) (k s x y W H : Int) (pv : Value) (m : Int) : World := (w.alloc (.cells #[.int .i64 c, .int .i64 n] 143)).alloc (.cells #[.int .i64 k, .int .i64 s, .int .i64 x, .int .i64 y, .int .i64 W, .int .i64 H, pv, .int .i64 m] 72)
theorem bxd_below (w : World) (c n : Int) (k s x y W H : Int) (pv : Value) (m : Int) (q : Nat) : Below w.heap.size w ((bxd w c n k s x y W H pv m).drewN q) := below_drewN (((Below.refl _ w).alloc (Nat.le_refl _) _).alloc (by simp) _) q
theorem bxd_key (w : World) (c n : Int) (k s x y W H : Int) (pv : Value) (m : Int) (q : Nat) : ((bxd w c n k s x y W H pv m).drewN q).heap[w.heap.size]? = some (.cells #[.int .i64 c, .int .i64 n] 143) := blk_alloc (new_at w _ _ rfl) _
theorem bxd_op (w : World) (c n : Int) (k s x y W H : Int) (pv : Value) (m : Int) (q : Nat) : ((bxd w c n k s x y W H pv m).drewN q).heap[w.heap.size + 1]? = some (.cells #[.int .i64 k, .int .i64 s, .int .i64 x, .int .i64 y, .int .i64 W, .int .i64 H, pv, .int .i64 m] 72) := new_at _ _ _ (by simp)

set_option maxHeartbeats 2000000 in
theorem chg3_any {C U : Nat → Prop} {w : World} {sb : Nat} {beh : Int} {l : List Srf} {mb : Nat} {ov : Value} {L : List Ke} {clock : Nat} {bk : Int → Int → Nat} {pv : Int → Int → Value} (h : Scn C U w sb beh l mb ov L clock bk pv) (hCU : ∀ k, C k → ¬ U k) {s : Srf} (hs : s ∈ l) (x y W H mk : Int) (po : Option Addr) (pn pc : Nat) (px : List Int) (hR : RdN U w (.slice po pn pc) px) :
    Calls Try.prog 112 #[.pointer (some ⟨sb, 0, none⟩), kval s.cl s.num, oval 3 s.num x y W H (.slice po pn pc) mk] w fun e w' => e = .returned (.bool true) ∧ (∃ pv', Scn C U w' sb beh (putS l { s with w := W, h := H, px := px }) mb ov L clock bk pv') ∧ But C w w' := by
  have c0 : w.cell? ⟨sb, 0, none⟩ = some (.map (some mb)) := blk_cell h.scm.blk 0
  have l1 : sb < w.heap.size := lt_of_heap h.scm.blk
  have hS := (h.surf s hs).1
  obtain ⟨b, hbk⟩ : ∃ b, b = bk s.cl s.num := ⟨_, rfl⟩
  rw [← hbk] at hS
  have lb : b < w.heap.size := lt_of_heap hS
  have hlk : ∀ q, (Instr.lookup 144 (.map (some mb)) (.agg #[.int .i64 s.cl, .int .i64 s.num]) false).run Try.prog ((bxd w s.cl s.num 3 s.num x y W H (.slice po pn pc) mk).drewN q) = .ok (.pointer (some ⟨b, 0, none⟩)) ((bxd w s.cl s.num 3 s.num x y W H (.slice po pn pc) mk).drewN q) := fun q => by
    have := run_lookup_key (w := (bxd w s.cl s.num 3 s.num x y W H (.slice po pn pc) mk).drewN q) (((bxd_below w s.cl s.num 3 s.num x y W H (.slice po pn pc) mk q).block _ (lt_of_heap h.scm.map)).trans h.scm.map) s.cl s.num
    rw [h.at_some hs, ← hbk] at this
    exact this
  have HH := hide h
  have HS := hide hS
  have HBK := hide hbk
  unfold kval oval
  clear h hS hbk
  go_enter Try.func112, Try.ntmps112
  go_wp2
  go_quiet (fail)
  go_wp2
  obtain ⟨w1, hw1⟩ : ∃ w1, w1 = (bxd w s.cl s.num 3 s.num x y W H (.slice po pn pc) mk).drewN nq := ⟨_, rfl⟩
  rw [← hw1]
  have hB1 : Below w.heap.size w w1 := by rw [hw1]; exact bxd_below _ _ _ _ _ _ _ _ _ _ _ _
  have hO1 := bxd_op w s.cl s.num 3 s.num x y W H (.slice po pn pc) mk nq
  rw [← hw1] at hO1
  have hS1 : SfAt w1 b s (pv s.cl s.num) := (hB1.block _ lb).trans (unhide HS)
  have o4 : w1.cell? ⟨w.heap.size + 1, 4, none⟩ = some (.int .i64 W) := blk_cell hO1 4
  have o5 : w1.cell? ⟨w.heap.size + 1, 5, none⟩ = some (.int .i64 H) := blk_cell hO1 5
  have o6 : w1.cell? ⟨w.heap.size + 1, 6, none⟩ = some (.slice po pn pc) := blk_cell hO1 6
  have s2 : w1.cell? ⟨b, 2, none⟩ = some (.int .i64 s.w) := blk_cell hS1 2
  have s3 : w1.cell? ⟨b, 3, none⟩ = some (.int .i64 s.h) := blk_cell hS1 3
  have s4 : w1.cell? ⟨b, 4, none⟩ = some (pv s.cl s.num) := blk_cell hS1 4
  have f0 : ∀ j, w1.frozen? ⟨b, j, none⟩ = false := fun j => blk_thaw hS1 j
  have hne : ¬ b = w.heap.size + 1 := by omega
  have HS1 := hide hS1
  have HB1 := hide hB1
  clear hlk hB1 hO1 hS1 hw1 c0
  have HR := hide hR
  clear hR
  go_region
  all_goals
    simp only [Exit.then]
    go_simp
    go_wp2
    go_ret
    have hb : But (fun k => k = bk s.cl s.num) w (((w1.setCell ⟨b, 2, none⟩ (.int .i64 W)).setCell ⟨b, 3, none⟩ (.int .i64 H)).setCell ⟨b, 4, none⟩ (.slice po pn pc)) := ((But.of_below (unhide HB1)).setCell (p := ⟨b, 2, none⟩) (.inl (unhide HBK)) _ |>.setCell (p := ⟨b, 3, none⟩) (.inl (unhide HBK)) _).setCell (p := ⟨b, 4, none⟩) (.inl (unhide HBK)) _
    have hS2 : SfAt (((w1.setCell ⟨b, 2, none⟩ (.int .i64 W)).setCell ⟨b, 3, none⟩ (.int .i64 H)).setCell ⟨b, 4, none⟩ (.slice po pn pc)) b { s with w := W, h := H, px := px } (.slice po pn pc) := blk_set (i := 4) (blk_set (i := 3) (blk_set (i := 2) (unhide HS1) _) _) _
    have hcb := ((unhide HH).surf s hs).2.1
    refine ⟨rfl, ⟨_, (unhide HH).upd (u := { s with w := W, h := H, px := px }) (v := .slice po pn pc) hCU hs rfl hb.drew (by rw [← unhide HBK]; exact hS2) (((unhide HR).but hb (fun k hu e => hCU k (by rw [e]; exact hcb) hu)).below (below_drewN (Below.refl _ _) 1))⟩, (hb.wide (fun k _ e => by rw [e]; exact hcb)).drew⟩

set_option maxHeartbeats 2000000 in
theorem chg7_any {C U : Nat → Prop} {w : World} {sb : Nat} {beh : Int} {l : List Srf} {mb : Nat} {ov : Value} {L : List Ke} {clock : Nat} {bk : Int → Int → Nat} {pv : Int → Int → Value} (h : Scn C U w sb beh l mb ov L clock bk pv) (hCU : ∀ k, C k → ¬ U k) {s : Srf} (hs : s ∈ l) (x y W H mk : Int) (po : Option Addr) (pn pc : Nat) :
    Calls Try.prog 112 #[.pointer (some ⟨sb, 0, none⟩), kval s.cl s.num, oval 7 s.num x y W H (.slice po pn pc) mk] w fun e w' => e = .returned (.bool false) ∧ (∃ pv', Scn C U w' sb beh (putS l { s with dx := x, dy := y, left := W }) mb ov L clock bk pv') ∧ But C w w' := by
  have c0 : w.cell? ⟨sb, 0, none⟩ = some (.map (some mb)) := blk_cell h.scm.blk 0
  have l1 : sb < w.heap.size := lt_of_heap h.scm.blk
  have hS := (h.surf s hs).1
  obtain ⟨b, hbk⟩ : ∃ b, b = bk s.cl s.num := ⟨_, rfl⟩
  rw [← hbk] at hS
  have lb : b < w.heap.size := lt_of_heap hS
  have hlk : ∀ q, (Instr.lookup 144 (.map (some mb)) (.agg #[.int .i64 s.cl, .int .i64 s.num]) false).run Try.prog ((bxd w s.cl s.num 7 s.num x y W H (.slice po pn pc) mk).drewN q) = .ok (.pointer (some ⟨b, 0, none⟩)) ((bxd w s.cl s.num 7 s.num x y W H (.slice po pn pc) mk).drewN q) := fun q => by
    have := run_lookup_key (w := (bxd w s.cl s.num 7 s.num x y W H (.slice po pn pc) mk).drewN q) (((bxd_below w s.cl s.num 7 s.num x y W H (.slice po pn pc) mk q).block _ (lt_of_heap h.scm.map)).trans h.scm.map) s.cl s.num
    rw [h.at_some hs, ← hbk] at this
    exact this
  have HH := hide h
  have HS := hide hS
  have HBK := hide hbk
  unfold kval oval
  clear h hS hbk
  go_enter Try.func112, Try.ntmps112
  go_wp2
  go_quiet (fail)
  obtain ⟨w1, hw1⟩ : ∃ w1, w1 = (bxd w s.cl s.num 7 s.num x y W H (.slice po pn pc) mk).drewN nq := ⟨_, rfl⟩
  rw [← hw1]
  have hB1 : Below w.heap.size w w1 := by rw [hw1]; exact bxd_below _ _ _ _ _ _ _ _ _ _ _ _
  have hO1 := bxd_op w s.cl s.num 7 s.num x y W H (.slice po pn pc) mk nq
  have hK1 := bxd_key w s.cl s.num 7 s.num x y W H (.slice po pn pc) mk nq
  rw [← hw1] at hO1 hK1
  have hS1 : SfAt w1 b s (pv s.cl s.num) := (hB1.block _ lb).trans (unhide HS)
  have k0 : w1.cell? ⟨w.heap.size + 1, 0, none⟩ = some (.int .i64 7) := blk_cell hO1 0
  have o2 : w1.cell? ⟨w.heap.size + 1, 2, none⟩ = some (.int .i64 x) := blk_cell hO1 2
  have o3 : w1.cell? ⟨w.heap.size + 1, 3, none⟩ = some (.int .i64 y) := blk_cell hO1 3
  have o4 : w1.cell? ⟨w.heap.size + 1, 4, none⟩ = some (.int .i64 W) := blk_cell hO1 4
  have s5 : w1.cell? ⟨b, 5, none⟩ = some (.int .i64 s.dx) := blk_cell hS1 5
  have s6 : w1.cell? ⟨b, 6, none⟩ = some (.int .i64 s.dy) := blk_cell hS1 6
  have s7 : w1.cell? ⟨b, 7, none⟩ = some (.int .i64 s.left) := blk_cell hS1 7
  have f0 : ∀ j, w1.frozen? ⟨b, j, none⟩ = false := fun j => blk_thaw hS1 j
  have hne : ¬ b = w.heap.size + 1 := by omega
  have HS1 := hide hS1
  have HB1 := hide hB1
  clear hlk hB1 hO1 hS1 hK1 hw1 c0
  go_wp2
  go_ret
  have hb : But (fun k => k = bk s.cl s.num) w (((w1.setCell ⟨b, 5, none⟩ (.int .i64 x)).setCell ⟨b, 6, none⟩ (.int .i64 y)).setCell ⟨b, 7, none⟩ (.int .i64 W)) := ((But.of_below (unhide HB1)).setCell (p := ⟨b, 5, none⟩) (.inl (unhide HBK)) _ |>.setCell (p := ⟨b, 6, none⟩) (.inl (unhide HBK)) _).setCell (p := ⟨b, 7, none⟩) (.inl (unhide HBK)) _
  have hS2 : SfAt (((w1.setCell ⟨b, 5, none⟩ (.int .i64 x)).setCell ⟨b, 6, none⟩ (.int .i64 y)).setCell ⟨b, 7, none⟩ (.int .i64 W)) b { s with dx := x, dy := y, left := W } (pv s.cl s.num) := blk_set (i := 7) (blk_set (i := 6) (blk_set (i := 5) (unhide HS1) _) _) _
  have hcb := ((unhide HH).surf s hs).2.1
  refine ⟨rfl, ⟨_, (unhide HH).upd (u := { s with dx := x, dy := y, left := W }) (v := pv s.cl s.num) hCU hs rfl hb (by rw [← unhide HBK]; exact hS2) (((unhide HH).surf s hs).2.2.but hb (fun k hu e => hCU k (by rw [e]; exact hcb) hu))⟩, hb.wide (fun k _ e => by rw [e]; exact hcb)⟩

set_option maxHeartbeats 2000000 in
theorem chg4_any {C U : Nat → Prop} {w : World} {sb : Nat} {beh : Int} {l : List Srf} {mb : Nat} {ov : Value} {L : List Ke} {clock : Nat} {bk : Int → Int → Nat} {pv : Int → Int → Value} (h : Scn C U w sb beh l mb ov L clock bk pv) (hCU : ∀ k, C k → ¬ U k) {s : Srf} (hs : s ∈ l) (x y W H mk : Int) (po : Option Addr) (pn pc : Nat) :
    Calls Try.prog 112 #[.pointer (some ⟨sb, 0, none⟩), kval s.cl s.num, oval 4 s.num x y W H (.slice po pn pc) mk] w fun e w' => e = .returned (.bool (!(s.x == x && s.y == y))) ∧ (∃ pv', Scn C U w' sb beh (putS l { s with x := x, y := y, dx := 0, dy := 0, left := 0 }) mb ov L clock bk pv') ∧ But C w w' := by
  obtain ⟨bb, hbb⟩ : ∃ bb, bb = !(s.x == x && s.y == y) := ⟨_, rfl⟩
  rw [← hbb]
  have HBB := hide hbb
  clear hbb
  have c0 : w.cell? ⟨sb, 0, none⟩ = some (.map (some mb)) := blk_cell h.scm.blk 0
  have l1 : sb < w.heap.size := lt_of_heap h.scm.blk
  have hS := (h.surf s hs).1
  obtain ⟨b, hbk⟩ : ∃ b, b = bk s.cl s.num := ⟨_, rfl⟩
  rw [← hbk] at hS
  have lb : b < w.heap.size := lt_of_heap hS
  have hlk : ∀ q, (Instr.lookup 144 (.map (some mb)) (.agg #[.int .i64 s.cl, .int .i64 s.num]) false).run Try.prog ((bxd w s.cl s.num 4 s.num x y W H (.slice po pn pc) mk).drewN q) = .ok (.pointer (some ⟨b, 0, none⟩)) ((bxd w s.cl s.num 4 s.num x y W H (.slice po pn pc) mk).drewN q) := fun q => by
    have := run_lookup_key (w := (bxd w s.cl s.num 4 s.num x y W H (.slice po pn pc) mk).drewN q) (((bxd_below w s.cl s.num 4 s.num x y W H (.slice po pn pc) mk q).block _ (lt_of_heap h.scm.map)).trans h.scm.map) s.cl s.num
    rw [h.at_some hs, ← hbk] at this
    exact this
  have HH := hide h
  have HS := hide hS
  have HBK := hide hbk
  unfold kval oval
  clear h hS hbk
  go_enter Try.func112, Try.ntmps112
  go_wp2
  go_quiet (fail)
  obtain ⟨w1, hw1⟩ : ∃ w1, w1 = (bxd w s.cl s.num 4 s.num x y W H (.slice po pn pc) mk).drewN nq := ⟨_, rfl⟩
  rw [← hw1]
  have hB1 : Below w.heap.size w w1 := by rw [hw1]; exact bxd_below _ _ _ _ _ _ _ _ _ _ _ _
  have hO1 := bxd_op w s.cl s.num 4 s.num x y W H (.slice po pn pc) mk nq
  have hK1 := bxd_key w s.cl s.num 4 s.num x y W H (.slice po pn pc) mk nq
  rw [← hw1] at hO1 hK1
  have hS1 : SfAt w1 b s (pv s.cl s.num) := (hB1.block _ lb).trans (unhide HS)
  have k0 : w1.cell? ⟨w.heap.size + 1, 0, none⟩ = some (.int .i64 4) := blk_cell hO1 0
  have o2 : w1.cell? ⟨w.heap.size + 1, 2, none⟩ = some (.int .i64 x) := blk_cell hO1 2
  have o3 : w1.cell? ⟨w.heap.size + 1, 3, none⟩ = some (.int .i64 y) := blk_cell hO1 3
  have s5 : w1.cell? ⟨b, 5, none⟩ = some (.int .i64 s.dx) := blk_cell hS1 5
  have s6 : w1.cell? ⟨b, 6, none⟩ = some (.int .i64 s.dy) := blk_cell hS1 6
  have s7 : w1.cell? ⟨b, 7, none⟩ = some (.int .i64 s.left) := blk_cell hS1 7
  have f0 : ∀ j, w1.frozen? ⟨b, j, none⟩ = false := fun j => blk_thaw hS1 j
  have hne : ¬ b = w.heap.size + 1 := by omega
  have hS2 : SfAt (((w1.setCell ⟨b, 5, none⟩ (.int .i64 0)).setCell ⟨b, 6, none⟩ (.int .i64 0)).setCell ⟨b, 7, none⟩ (.int .i64 0)) b { s with dx := 0, dy := 0, left := 0 } (pv s.cl s.num) := blk_set (i := 7) (blk_set (i := 6) (blk_set (i := 5) hS1 _) _) _
  have HMv := hide (smove_any hS2 x y)
  have HB1 := hide hB1
  clear hlk hB1 hO1 hS1 hS2 hK1 hw1 c0
  go_wp2_with (go_at_call 115; refine (unhide HMv).mono ?_; rintro e w2 ⟨he, hs2, hb2⟩; have he : e = .returned (.bool bb) := he.trans (congrArg (fun z => Ending.returned (.bool z)) (unhide HBB).symm); subst he; have HS2 := hide hs2; have HB2 := hide hb2; clear hs2 hb2)
  go_ret
  have hb : But (fun k => k = bk s.cl s.num) w w2 := (((But.of_below (unhide HB1)).setCell (p := ⟨b, 5, none⟩) (.inl (unhide HBK)) _ |>.setCell (p := ⟨b, 6, none⟩) (.inl (unhide HBK)) _).setCell (p := ⟨b, 7, none⟩) (.inl (unhide HBK)) _).trans ((unhide HB2).wide (fun k _ e => by rw [e]; exact unhide HBK))
  have hcb := ((unhide HH).surf s hs).2.1
  refine ⟨rfl, ⟨_, (unhide HH).upd (u := { s with x := x, y := y, dx := 0, dy := 0, left := 0 }) (v := pv s.cl s.num) hCU hs rfl hb (by rw [← unhide HBK]; exact unhide HS2) (((unhide HH).surf s hs).2.2.but hb (fun k hu e => hCU k (by rw [e]; exact hcb) hu))⟩, hb.wide (fun k _ e => by rw [e]; exact hcb)⟩
end Go.Proofs.Ytfnockbgkcgpkaa
set_option linter.all false
namespace Go.Proofs.Ytfnockbgkcgpkaa
open Go.RowKit Go.Proofs.Panes
set_option maxRecDepth 100000

set_option maxHeartbeats 2000000 in
theorem chg5_any {C U : Nat → Prop} {w : World} {sb : Nat} {beh : Int} {l : List Srf} {mb : Nat} {ov : Value} {L : List Ke} {clock : Nat} {bk : Int → Int → Nat} {pv : Int → Int → Value} (h : Scn C U w sb beh l mb ov L clock bk pv) (hCU : ∀ k, C k → ¬ U k) (hCl : ∀ k, C k → k < w.heap.size) (hl : l.length ≤ 1000) {i : Nat} {s : Srf} (hi : l[i]? = some s) {t : Nat} (ht : t = l.length - 1) (x y W H mk : Int) (po : Option Addr) (pn pc : Nat) :
    Calls Try.prog 112 #[.pointer (some ⟨sb, 0, none⟩), kval s.cl s.num, oval 5 s.num x y W H (.slice po pn pc) mk] w fun e w' => e = .returned (.bool (!((i : Int) == (t : Int)))) ∧ Scn C U w' sb beh (layS l i t s) mb ov L clock bk pv ∧ But C w w' := by
  have hs : s ∈ l := List.mem_of_getElem? hi
  have hil : i < l.length := (List.getElem?_eq_some_iff.1 hi).1
  have c0 : w.cell? ⟨sb, 0, none⟩ = some (.map (some mb)) := blk_cell h.scm.blk 0
  have c1 : w.cell? ⟨sb, 1, none⟩ = some ov := blk_cell h.scm.blk 1
  have l1 : sb < w.heap.size := lt_of_heap h.scm.blk
  have hS := (h.surf s hs).1
  obtain ⟨b, hbk⟩ : ∃ b, b = bk s.cl s.num := ⟨_, rfl⟩
  rw [← hbk] at hS
  have lb : b < w.heap.size := lt_of_heap hS
  obtain ⟨ro, rc, hov⟩ := row_slice h.row
  rw [List.length_map] at hov
  have hlk : ∀ q, (Instr.lookup 144 (.map (some mb)) (.agg #[.int .i64 s.cl, .int .i64 s.num]) false).run Try.prog ((bxd w s.cl s.num 5 s.num x y W H (.slice po pn pc) mk).drewN q) = .ok (.pointer (some ⟨b, 0, none⟩)) ((bxd w s.cl s.num 5 s.num x y W H (.slice po pn pc) mk).drewN q) := fun q => by
    have := run_lookup_key (w := (bxd w s.cl s.num 5 s.num x y W H (.slice po pn pc) mk).drewN q) (((bxd_below w s.cl s.num 5 s.num x y W H (.slice po pn pc) mk q).block _ (lt_of_heap h.scm.map)).trans h.scm.map) s.cl s.num
    rw [h.at_some hs, ← hbk] at this
    exact this
  have HLay : Hid (∀ W, Below w.heap.size w W → Calls Try.prog 134 #[.pointer (some ⟨sb, 0, none⟩), .agg #[.int .i64 s.cl, .int .i64 s.num], .int .i64 (IntKind.i64.wrap ((l.length : Int) - 1))] W fun e w' => e = .returned (.bool (!((i : Int) == (t : Int)))) ∧ Scn C U w' sb beh (layS l i t s) mb ov L clock bk pv ∧ But C W w') := fun W hb => by
    have := lay_any (h.below hb) hCU hi t (by omega) hl
    rw [show (IntKind.i64.wrap ((l.length : Int) - 1)) = (t : Int) by rw [IntKind.wrap_i64]; omega]
    exact this
  obtain ⟨n, hn⟩ : ∃ n, n = l.length := ⟨_, rfl⟩
  rw [← hn] at hov
  rw [← hn] at HLay
  subst hov
  obtain ⟨bb, hbb⟩ : ∃ bb, bb = !((i : Int) == (t : Int)) := ⟨_, rfl⟩
  rw [← hbb] at HLay ⊢
  have HN := hide hn
  unfold kval oval
  clear h hS hbk hn hbb ht hil
  go_enter Try.func112, Try.ntmps112
  go_wp2
  go_quiet (fail)
  obtain ⟨w1, hw1⟩ : ∃ w1, w1 = (bxd w s.cl s.num 5 s.num x y W H (.slice po pn pc) mk).drewN nq := ⟨_, rfl⟩
  rw [← hw1]
  have hB1 : Below w.heap.size w w1 := by rw [hw1]; exact bxd_below _ _ _ _ _ _ _ _ _ _ _ _
  have hO1 := bxd_op w s.cl s.num 5 s.num x y W H (.slice po pn pc) mk nq
  have hK1 := bxd_key w s.cl s.num 5 s.num x y W H (.slice po pn pc) mk nq
  rw [← hw1] at hO1 hK1
  have k0 : w1.cell? ⟨w.heap.size + 1, 0, none⟩ = some (.int .i64 5) := blk_cell hO1 0
  have y0 : w1.cell? ⟨w.heap.size, 0, none⟩ = some (.int .i64 s.cl) := blk_cell hK1 0
  have y1 : w1.cell? ⟨w.heap.size, 1, none⟩ = some (.int .i64 s.num) := blk_cell hK1 1
  have x1 : w1.cell? ⟨sb, 1, none⟩ = some (.slice ro n rc) := (hB1.cell l1).trans c1
  have HB1 := hide hB1
  have HK1 := hide hK1
  clear hlk hB1 hO1 hK1 hw1 c0 c1
  go_wp2
  go_region_held3 (fun w' => w'.cell? ⟨sb, 1, none⟩ = some (.slice ro n rc) ∧ w'.cell? ⟨w.heap.size, 0, none⟩ = some (.int .i64 s.cl) ∧ w'.cell? ⟨w.heap.size, 1, none⟩ = some (.int .i64 s.num))
    (first | (refine ⟨?_, ?_, ?_⟩ <;> assumption) | go_keep)
    ((go_at_call 134
      refine ((unhide HLay) w1.drew (unhide HB1).drew).mono ?_
      rintro e w2 ⟨he, hs2, hb2⟩
      subst he
      have hK2 : w2.heap[w.heap.size]? = some (.cells #[.int .i64 s.cl, .int .i64 s.num] 143) := hb2.heap (w := w1.drew) (unhide HK1) (fun hc => Nat.lt_irrefl _ (hCl _ hc))
      have p1 : w2.cell? ⟨sb, 1, none⟩ = some (.slice ro n rc) := blk_cell hs2.scm.blk 1
      have p2 : w2.cell? ⟨w.heap.size, 0, none⟩ = some (.int .i64 s.cl) := blk_cell hK2 0
      have p3 : w2.cell? ⟨w.heap.size, 1, none⟩ = some (.int .i64 s.num) := blk_cell hK2 1
      have HS2 := hide hs2
      have HB2 := hide hb2
      clear hs2 hb2 hK2))
  all_goals
    simp only [Exit.then]
    go_simp
    go_wp2
    go_ret
    exact ⟨rfl, unhide HS2, (But.of_below ((unhide HB1).drew)).trans (unhide HB2)⟩

set_option maxHeartbeats 2000000 in
theorem chg6_any {C U : Nat → Prop} {w : World} {sb : Nat} {beh : Int} {l : List Srf} {mb : Nat} {ov : Value} {L : List Ke} {clock : Nat} {bk : Int → Int → Nat} {pv : Int → Int → Value} (h : Scn C U w sb beh l mb ov L clock bk pv) (hCU : ∀ k, C k → ¬ U k) (hCl : ∀ k, C k → k < w.heap.size) (hl : l.length ≤ 1000) {i : Nat} {s : Srf} (hi : l[i]? = some s) {t : Nat} (ht : t = 0) (x y W H mk : Int) (po : Option Addr) (pn pc : Nat) :
    Calls Try.prog 112 #[.pointer (some ⟨sb, 0, none⟩), kval s.cl s.num, oval 6 s.num x y W H (.slice po pn pc) mk] w fun e w' => e = .returned (.bool (!((i : Int) == (t : Int)))) ∧ Scn C U w' sb beh (layS l i t s) mb ov L clock bk pv ∧ But C w w' := by
  have hs : s ∈ l := List.mem_of_getElem? hi
  have hil : i < l.length := (List.getElem?_eq_some_iff.1 hi).1
  have c0 : w.cell? ⟨sb, 0, none⟩ = some (.map (some mb)) := blk_cell h.scm.blk 0
  have c1 : w.cell? ⟨sb, 1, none⟩ = some ov := blk_cell h.scm.blk 1
  have l1 : sb < w.heap.size := lt_of_heap h.scm.blk
  have hS := (h.surf s hs).1
  obtain ⟨b, hbk⟩ : ∃ b, b = bk s.cl s.num := ⟨_, rfl⟩
  rw [← hbk] at hS
  have lb : b < w.heap.size := lt_of_heap hS
  obtain ⟨ro, rc, hov⟩ := row_slice h.row
  rw [List.length_map] at hov
  have hlk : ∀ q, (Instr.lookup 144 (.map (some mb)) (.agg #[.int .i64 s.cl, .int .i64 s.num]) false).run Try.prog ((bxd w s.cl s.num 6 s.num x y W H (.slice po pn pc) mk).drewN q) = .ok (.pointer (some ⟨b, 0, none⟩)) ((bxd w s.cl s.num 6 s.num x y W H (.slice po pn pc) mk).drewN q) := fun q => by
    have := run_lookup_key (w := (bxd w s.cl s.num 6 s.num x y W H (.slice po pn pc) mk).drewN q) (((bxd_below w s.cl s.num 6 s.num x y W H (.slice po pn pc) mk q).block _ (lt_of_heap h.scm.map)).trans h.scm.map) s.cl s.num
    rw [h.at_some hs, ← hbk] at this
    exact this
  have HLay : Hid (∀ W, Below w.heap.size w W → Calls Try.prog 134 #[.pointer (some ⟨sb, 0, none⟩), .agg #[.int .i64 s.cl, .int .i64 s.num], .int .i64 (0 : Int)] W fun e w' => e = .returned (.bool (!((i : Int) == (t : Int)))) ∧ Scn C U w' sb beh (layS l i t s) mb ov L clock bk pv ∧ But C W w') := fun W hb => by
    have := lay_any (h.below hb) hCU hi t (by omega) hl
    rw [show (0 : Int) = (t : Int) by omega]
    exact this
  obtain ⟨n, hn⟩ : ∃ n, n = l.length := ⟨_, rfl⟩
  rw [← hn] at hov
  subst hov
  obtain ⟨bb, hbb⟩ : ∃ bb, bb = !((i : Int) == (t : Int)) := ⟨_, rfl⟩
  rw [← hbb] at HLay ⊢
  have HN := hide hn
  unfold kval oval
  clear h hS hbk hn hbb ht hil
  go_enter Try.func112, Try.ntmps112
  go_wp2
  go_quiet (fail)
  obtain ⟨w1, hw1⟩ : ∃ w1, w1 = (bxd w s.cl s.num 6 s.num x y W H (.slice po pn pc) mk).drewN nq := ⟨_, rfl⟩
  rw [← hw1]
  have hB1 : Below w.heap.size w w1 := by rw [hw1]; exact bxd_below _ _ _ _ _ _ _ _ _ _ _ _
  have hO1 := bxd_op w s.cl s.num 6 s.num x y W H (.slice po pn pc) mk nq
  have hK1 := bxd_key w s.cl s.num 6 s.num x y W H (.slice po pn pc) mk nq
  rw [← hw1] at hO1 hK1
  have k0 : w1.cell? ⟨w.heap.size + 1, 0, none⟩ = some (.int .i64 6) := blk_cell hO1 0
  have y0 : w1.cell? ⟨w.heap.size, 0, none⟩ = some (.int .i64 s.cl) := blk_cell hK1 0
  have y1 : w1.cell? ⟨w.heap.size, 1, none⟩ = some (.int .i64 s.num) := blk_cell hK1 1
  have x1 : w1.cell? ⟨sb, 1, none⟩ = some (.slice ro n rc) := (hB1.cell l1).trans c1
  have HB1 := hide hB1
  have HK1 := hide hK1
  clear hlk hB1 hO1 hK1 hw1 c0 c1
  go_wp2_with (go_at_call 134; refine ((unhide HLay) w1 (unhide HB1)).mono ?_; rintro e w2 ⟨he, hs2, hb2⟩; subst he; have HS2 := hide hs2; have HB2 := hide hb2; clear hs2 hb2)
  go_ret
  exact ⟨rfl, unhide HS2, (But.of_below (unhide HB1)).trans (unhide HB2)⟩
end Go.Proofs.Ytfnockbgkcgpkaa
set_option linter.all false
namespace Go.Proofs.Ytfnockbgkcgpkaa
open Go.RowKit Go.Proofs.Panes
set_option maxRecDepth 100000

theorem step_delete_run {P : Program} {ops : Array Oper} {o : Oper} {a : Act} {w : World} {K : Act → World → Prop} {Q : Exit → Act → World → Prop} {E : Prop}
    (hg : o.guard = none) (s x : Operand) (t u : TypeId) (hop : o.op = Op.call { callee := Callee.builtin Builtin.delete, args := #[s, x], argTypes := #[t, u] })
    (v k r : Value) (w' : World) (hs : a.eval s = v) (hx : a.eval x = k) (hrun : ∀ ty, (Builtin.delete_ #[t, u] ty #[v, k]).run P w = .ok r w') (hK : K (a.put o.dst r) w') :
    if Region.wanted o (yielded ops a.tmps) = true then Oper.wp P o a w K Q else E := by
  have hw : Region.wanted o (yielded ops a.tmps) = true := by simp [Region.wanted, hg]
  rw [if_pos hw]
  unfold Oper.wp
  simp [execOp, hop, resolve, invoke, builtin, hs, hx, hrun, Result.andThen]
  exact hK
theorem step_append_at {P : Program} {ops : Array Oper} {o : Oper} {a : Act} {w : World} {K : Act → World → Prop} {Q : Exit → Act → World → Prop} {E : Prop}
    (hg : o.guard = none) (s x : Operand) (t ty : TypeId) (hop : o.op = Op.call { callee := Callee.builtin Builtin.append, args := #[s, x], argTypes := #[t, t] }) (hty : o.type = ty)
    (v u r : Value) (w' : World) (hs : a.eval s = v) (hx : a.eval x = u) (hrun : (Builtin.append_ #[t, t] ty #[v, u]).run P w = .ok r w') (hK : K (a.put o.dst r) w') :
    if Region.wanted o (yielded ops a.tmps) = true then Oper.wp P o a w K Q else E := by
  have hw : Region.wanted o (yielded ops a.tmps) = true := by simp [Region.wanted, hg]
  rw [if_pos hw]
  unfold Oper.wp
  simp [execOp, hop, hty, resolve, invoke, builtin, hs, hx, hrun, Result.andThen]
  exact hK
theorem map_put {w : World} {mb : Nat} {o o' : Obj} (h : w.heap[mb]? = some o) : ({ w with heap := w.heap.setIfInBounds mb o' } : World).heap[mb]? = some o' ∧ But (fun k => k = mb) w { w with heap := w.heap.setIfInBounds mb o' } := by
  have hlt := lt_of_heap h
  refine ⟨by simp [hlt], ⟨rfl, rfl, rfl, by simp, fun k _ hk => ?_⟩⟩
  simp only [Array.getElem?_setIfInBounds]
  rw [if_neg (fun e => hk e.symm)]

set_option maxHeartbeats 2000000 in
theorem chg2_any {C U : Nat → Prop} {w : World} {sb : Nat} {beh : Int} {l : List Srf} {mb : Nat} {ov : Value} {L : List Ke} {clock : Nat} {bk : Int → Int → Nat} {pv : Int → Int → Value} (h : Scn C U w sb beh l mb ov L clock bk pv) (hCU : ∀ k, C k → ¬ U k) (hCl : ∀ k, C k → k < w.heap.size) (hl : l.length ≤ 1000) {s : Srf} (hs : s ∈ l) (x y W H mk : Int) (po : Option Addr) (pn pc : Nat) :
    Calls Try.prog 112 #[.pointer (some ⟨sb, 0, none⟩), kval s.cl s.num, oval 2 s.num x y W H (.slice po pn pc) mk] w fun e w' => e = .returned (.bool true) ∧ (∃ ov' L', Scn C U w' sb beh (delS l s.cl s.num) mb ov' L' clock bk pv) ∧ But C w w' := by
  have c0 : w.cell? ⟨sb, 0, none⟩ = some (.map (some mb)) := blk_cell h.scm.blk 0
  have c1 : w.cell? ⟨sb, 1, none⟩ = some ov := blk_cell h.scm.blk 1
  have l1 : sb < w.heap.size := lt_of_heap h.scm.blk
  have lmb : mb < w.heap.size := lt_of_heap h.scm.map
  have hS := (h.surf s hs).1
  obtain ⟨b, hbk⟩ : ∃ b, b = bk s.cl s.num := ⟨_, rfl⟩
  rw [← hbk] at hS
  have lb : b < w.heap.size := lt_of_heap hS
  have hsm := h.sb_mb
  have hlk : ∀ q, (Instr.lookup 144 (.map (some mb)) (.agg #[.int .i64 s.cl, .int .i64 s.num]) false).run Try.prog ((bxd w s.cl s.num 2 s.num x y W H (.slice po pn pc) mk).drewN q) = .ok (.pointer (some ⟨b, 0, none⟩)) ((bxd w s.cl s.num 2 s.num x y W H (.slice po pn pc) mk).drewN q) := fun q => by
    have := run_lookup_key (w := (bxd w s.cl s.num 2 s.num x y W H (.slice po pn pc) mk).drewN q) (((bxd_below w s.cl s.num 2 s.num x y W H (.slice po pn pc) mk q).block _ (lt_of_heap h.scm.map)).trans h.scm.map) s.cl s.num
    rw [h.at_some hs, ← hbk] at this
    exact this
  obtain ⟨i, hfi, e, hLi, hke⟩ := h.some hs
  obtain ⟨ro, rc, hov⟩ := row_slice h.row
  rw [List.length_map] at hov
  obtain ⟨n, hn⟩ : ∃ n, n = l.length := ⟨_, rfl⟩
  rw [← hn] at hov
  subst hov
  obtain ⟨ks, hks⟩ : ∃ ks, ks = l.map skey := ⟨_, rfl⟩
  have hk2 : (l.map fun s => k2 (skey s)) = ks.map k2 := by rw [hks, List.map_map]; rfl
  have hF : (delS l s.cl s.num).map (fun s => k2 (skey s)) = (ks.filter fun k => !(k.1 == s.cl && k.2 == s.num)).map k2 := by
    have e1 := congrArg (List.map k2) (delS_keys l s.cl s.num)
    rw [List.map_map] at e1
    refine Eq.trans (show _ = _ from rfl) (e1.trans ?_)
    rw [← hks]
    refine congrArg (List.map k2) (List.filter_congr fun k _ => ?_)
    rw [Bool.eq_iff_iff]
    obtain ⟨k1, k2⟩ := k
    by_cases q1 : k1 = s.cl <;> simp [q1]
  have HH := hide h
  have HN := hide hn
  have HF := hide hF
  have HK2 := hide hk2
  have HKS := hide hks
  have HFI := hide hfi
  have HLI := hide hLi
  have HKE := hide hke
  unfold kval oval
  clear h hS hbk hn hF hk2 hks hfi hLi hke
  go_enter Try.func112, Try.ntmps112
  go_wp2
  go_quiet (fail)
  obtain ⟨w1, hw1⟩ : ∃ w1, w1 = (bxd w s.cl s.num 2 s.num x y W H (.slice po pn pc) mk).drewN nq := ⟨_, rfl⟩
  rw [← hw1]
  have hB1 : Below w.heap.size w w1 := by rw [hw1]; exact bxd_below _ _ _ _ _ _ _ _ _ _ _ _
  have hO1 := bxd_op w s.cl s.num 2 s.num x y W H (.slice po pn pc) mk nq
  have hK1 := bxd_key w s.cl s.num 2 s.num x y W H (.slice po pn pc) mk nq
  rw [← hw1] at hO1 hK1
  have k0 : w1.cell? ⟨w.heap.size + 1, 0, none⟩ = some (.int .i64 2) := blk_cell hO1 0
  have y0 : w1.cell? ⟨w.heap.size, 0, none⟩ = some (.int .i64 s.cl) := blk_cell hK1 0
  have y1 : w1.cell? ⟨w.heap.size, 1, none⟩ = some (.int .i64 s.num) := blk_cell hK1 1
  have x0 : w1.cell? ⟨sb, 0, none⟩ = some (.map (some mb)) := (hB1.cell l1).trans c0
  have hM1 : w1.heap[mb]? = some (.map (L.map ke).toArray clock) := (hB1.block _ lmb).trans (unhide HH).scm.map
  obtain ⟨w2, hw2⟩ : ∃ w2 : World, w2 = { w1.drew with heap := w1.drew.heap.setIfInBounds mb (.map ((L.eraseIdx i).map ke).toArray clock) } := ⟨_, rfl⟩
  have hdel : ∀ ty, (Builtin.delete_ #[144, 143] ty #[.map (some mb), .agg #[.int .i64 s.cl, .int .i64 s.num]]).run Try.prog w1.drew = .ok (.tuple #[]) w2 := fun ty => by
    rw [hw2]
    exact run_delete_key (w := w1.drew) hM1 s.cl s.num i _ (unhide HFI) ty
  obtain ⟨hM2, hB2⟩ := map_put (w := w1.drew) (o' := .map ((L.eraseIdx i).map ke).toArray clock) hM1
  rw [← hw2] at hM2 hB2
  have hBw2 : But (fun k => k = mb) w w2 := (But.of_below hB1.drew).trans hB2
  have hKb : w2.heap[w.heap.size]? = some (.cells #[.int .i64 s.cl, .int .i64 s.num] 143) := hB2.heap (w := w1.drew) hK1 (by omega)
  have hSc2 : w2.heap[sb]? = some (.cells #[.map (some mb), .slice ro n rc, .int .i64 beh] 146 (0, 0)) := hBw2.heap (unhide HH).scm.blk hsm
  have hR2 : Own2 w2 0 143 (.slice ro n rc) (ks.map k2) := by rw [← unhide HK2]; exact row_but (unhide HH).row hBw2 (fun k hk e => (unhide HH).mb_ov (by rw [hk, e]))
  have z1 : w2.cell? ⟨sb, 1, none⟩ = some (.slice ro n rc) := blk_cell hSc2 1
  have HDf := hide (kdelf_any hR2 (by rw [unhide HKS, List.length_map]; omega) (fun k => k.1 == s.cl && k.2 == s.num) w.heap.size (fun W k hb => chg1_any (hb.heap hKb (fun e => by have := hCl _ ((unhide HH).cov _ e); omega)) k) _ rfl)
  have HDel := hide hdel
  have HB1 := hide hB1
  have HM2 := hide hM2
  have HBw2 := hide hBw2
  have HSc2 := hide hSc2
  clear hlk hB1 hO1 hK1 hw1 c0 c1 hM1 hdel hB2 hw2 hM2 hBw2 hSc2 hR2 hKb
  go_wp2
  go_region_law (refine step_delete_run (by kernel_rfl) (.tmp 45) (.tmp 46) 144 143 (by kernel_rfl) (.map (some mb)) (.agg #[.int .i64 s.cl, .int .i64 s.num]) _ _ (by kernel_rfl) (by kernel_rfl) (unhide HDel) ?_)
  all_goals
    simp only [Exit.then]
    go_simp
    go_wp2_with (go_at_call 132; refine (unhide HDf).mono ?_; rintro e w3 ⟨⟨v', rfl, hO3, hv3⟩, hb3⟩; obtain ⟨r3, q3, hv'⟩ := row_slice hO3; obtain ⟨m3, hm3⟩ : ∃ m3, m3 = (List.map k2 (List.filter (fun k => !(k.1 == s.cl && k.2 == s.num)) ks)).length := ⟨_, rfl⟩; rw [← hm3] at hv'; clear hm3; have hS3 : w3.heap[sb]? = some (.cells #[.map (some mb), .slice ro n rc, .int .i64 beh] 146 (0, 0)) := hb3.heap (unhide HSc2) (unhide HH).sb_ov; have q1 : w3.cell? ⟨sb, 1, none⟩ = some (.slice ro n rc) := blk_cell hS3 1; have qf : ∀ j, w3.frozen? ⟨sb, j, none⟩ = false := fun j => blk_thaw hS3 j; have HO3 := hide hO3; have HV3 := hide hv3; have HS3 := hide hS3; have HB3 := hide hb3; clear hO3 hv3 hS3 hb3; subst hv')
    go_ret
    have hS4 := blk_set (i := 1) (unhide HS3) (.slice r3 m3 q3)
    have hO4 : Own2 (w3.setCell ⟨sb, 1, none⟩ (.slice r3 m3 q3)) 0 143 (.slice r3 m3 q3) (List.map k2 (List.filter (fun k => !(k.1 == s.cl && k.2 == s.num)) ks)) := row_but (unhide HO3) ((But.refl (fun k => k = sb) w3).setCell (p := ⟨sb, 1, none⟩) (.inl rfl) _) (fun k hk e => (unhide HH).sb_ov (by rw [← unhide HV3, hk, e]))
    have hB4 : But (fun k => k = sb ∨ k = mb ∨ (Value.slice ro n rc).ownBlock = some k) w (w3.setCell ⟨sb, 1, none⟩ (.slice r3 m3 q3)) := (((unhide HBw2).wide (fun k _ e => .inr (.inl e))).trans ((unhide HB3).wide (fun k _ e => .inr (.inr e)))).setCell (p := ⟨sb, 1, none⟩) (.inl (.inl rfl)) _
    have hM4 : (w3.setCell ⟨sb, 1, none⟩ (.slice r3 m3 q3)).heap[mb]? = some (.map ((L.eraseIdx i).map ke).toArray clock) := blk_other ((unhide HB3).heap (unhide HM2) (unhide HH).mb_ov) (fun e => hsm e.symm) _
    refine ⟨rfl, ⟨_, _, (unhide HH).less (unhide HLI) (unhide HKE) (fun _ h => h) hB4 (fun _ h => h) hCU hS4 hM4 (by rw [unhide HF]; exact hO4) (fun k hk => (unhide HH).cov k (by rw [← unhide HV3]; exact hk))⟩, hB4.wide ?_⟩
    rintro k _ (e | e | e)
    · rw [e]; exact (unhide HH).csb
    · rw [e]; exact (unhide HH).cmb
    · exact (unhide HH).cov _ e
end Go.Proofs.Ytfnockbgkcgpkaa
set_option linter.all false
namespace Go.Proofs.Ytfnockbgkcgpkaa
open Go.RowKit Go.Proofs.Panes
set_option maxRecDepth 100000

set_option maxHeartbeats 2000000 in
theorem chg1k_any {C U : Nat → Prop} {w : World} {sb : Nat} {beh : Int} {l : List Srf} {mb : Nat} {ov : Value} {L : List Ke} {clock : Nat} {bk : Int → Int → Nat} {pv : Int → Int → Value} (h : Scn C U w sb beh l mb ov L clock bk pv) (hCU : ∀ k, C k → ¬ U k) (hCl : ∀ k, C k → k < w.heap.size) (hl : l.length ≤ 1000) (c n : Int) (hs : (c, n) ∉ l.map skey) (x y W H mk : Int) (po : Option Addr) (pn pc : Nat) :
    Calls Try.prog 112 #[.pointer (some ⟨sb, 0, none⟩), kval c n, oval 1 n x y W H (.slice po pn pc) mk] w fun e w' => e = .returned (.bool false) ∧ (∃ ov' L' clock' bk' pv', Scn (grow C w w') U w' sb beh (l ++ [⟨c, n, x, y, 0, 0, [], 0, 0, 0⟩]) mb ov' L' clock' bk' pv') ∧ But C w w' := by
  have c0 : w.cell? ⟨sb, 0, none⟩ = some (.map (some mb)) := blk_cell h.scm.blk 0
  have c1 : w.cell? ⟨sb, 1, none⟩ = some ov := blk_cell h.scm.blk 1
  have l1 : sb < w.heap.size := lt_of_heap h.scm.blk
  have lmb : mb < w.heap.size := lt_of_heap h.scm.map
  have hsm := h.sb_mb
  have hlk : ∀ q, (Instr.lookup 144 (.map (some mb)) (.agg #[.int .i64 c, .int .i64 n]) false).run Try.prog ((bxd w c n 1 n x y W H (.slice po pn pc) mk).drewN q) = .ok (.pointer none) ((bxd w c n 1 n x y W H (.slice po pn pc) mk).drewN q) := fun q => by
    have := run_lookup_key (w := (bxd w c n 1 n x y W H (.slice po pn pc) mk).drewN q) (((bxd_below w c n 1 n x y W H (.slice po pn pc) mk q).block _ (lt_of_heap h.scm.map)).trans h.scm.map) c n
    rw [h.at_none hs] at this
    exact this
  obtain ⟨ro, rc, hov⟩ := row_slice h.row
  rw [List.length_map] at hov
  obtain ⟨m, hm⟩ : ∃ m, m = l.length := ⟨_, rfl⟩
  rw [← hm] at hov
  subst hov
  have hfn := h.none hs
  have HH := hide h
  have HM := hide hm
  have HFN := hide hfn
  unfold kval oval
  clear h hm hfn
  go_enter Try.func112, Try.ntmps112
  go_wp2
  go_quiet (fail)
  obtain ⟨w1, hw1⟩ : ∃ w1, w1 = (bxd w c n 1 n x y W H (.slice po pn pc) mk).drewN nq := ⟨_, rfl⟩
  rw [← hw1]
  have hB1 : Below w.heap.size w w1 := by rw [hw1]; exact bxd_below _ _ _ _ _ _ _ _ _ _ _ _
  have hO1 := bxd_op w c n 1 n x y W H (.slice po pn pc) mk nq
  have hK1 := bxd_key w c n 1 n x y W H (.slice po pn pc) mk nq
  rw [← hw1] at hO1 hK1
  have k0 : w1.cell? ⟨w.heap.size + 1, 0, none⟩ = some (.int .i64 1) := blk_cell hO1 0
  have k2' : w1.cell? ⟨w.heap.size + 1, 2, none⟩ = some (.int .i64 x) := blk_cell hO1 2
  have k3' : w1.cell? ⟨w.heap.size + 1, 3, none⟩ = some (.int .i64 y) := blk_cell hO1 3
  have y0 : w1.cell? ⟨w.heap.size, 0, none⟩ = some (.int .i64 c) := blk_cell hK1 0
  have y1 : w1.cell? ⟨w.heap.size, 1, none⟩ = some (.int .i64 n) := blk_cell hK1 1
  have x0 : w1.cell? ⟨sb, 0, none⟩ = some (.map (some mb)) := (hB1.cell l1).trans c0
  have hM1 : w1.heap[mb]? = some (.map (L.map ke).toArray clock) := (hB1.block _ lmb).trans (unhide HH).scm.map
  obtain ⟨w2, hw2⟩ : ∃ w2 : World, w2 = (w1.alloc (.cells #[.int .i64 x, .int .i64 y, .int .i64 0, .int .i64 0, .slice none 0 0, .int .i64 0, .int .i64 0, .int .i64 0] 184)).drew := ⟨_, rfl⟩
  have hM2 : w2.heap[mb]? = some (.map (L.map ke).toArray clock) := by rw [hw2]; exact blk_alloc hM1 _
  obtain ⟨w3, hw3⟩ : ∃ w3 : World, w3 = { w2 with heap := w2.heap.setIfInBounds mb (.map ((L ++ [Ke.mk c n (.pointer (some ⟨w1.heap.size, 0, none⟩)) clock]).map ke).toArray (clock + 1)) } := ⟨_, rfl⟩
  have hup := run_update_key hM2 c n (.pointer (some ⟨w1.heap.size, 0, none⟩)) (unhide HFN)
  rw [← hw3, hw2] at hup
  unfold kval at hup
  have l2 : w.heap.size < w1.heap.size := lt_of_heap hK1
  have l3 : w.heap.size + 1 < w1.heap.size := lt_of_heap hO1
  have hB2 : Below w1.heap.size w1 w2 := by rw [hw2]; exact ((Below.refl _ w1).alloc (Nat.le_refl _) _).drew
  obtain ⟨hM3, hP3⟩ := map_put (w := w2) (o' := .map ((L ++ [Ke.mk c n (.pointer (some ⟨w1.heap.size, 0, none⟩)) clock]).map ke).toArray (clock + 1)) hM2
  rw [← hw3] at hM3 hP3
  have hN2 : w2.heap[w1.heap.size]? = some (.cells #[.int .i64 x, .int .i64 y, .int .i64 0, .int .i64 0, .slice none 0 0, .int .i64 0, .int .i64 0, .int .i64 0] 184 (0, 0)) := by rw [hw2]; exact new_at w1 _ _ rfl
  have hN3 : w3.heap[w1.heap.size]? = some (.cells #[.int .i64 x, .int .i64 y, .int .i64 0, .int .i64 0, .slice none 0 0, .int .i64 0, .int .i64 0, .int .i64 0] 184 (0, 0)) := hP3.heap hN2 (by omega)
  have hK3 : w3.heap[w.heap.size]? = some (.cells #[.int .i64 c, .int .i64 n] 143) := hP3.heap ((hB2.block _ l2).trans hK1) (by omega)
  have hO3 := hP3.heap ((hB2.block _ l3).trans hO1) (by omega)
  have hBw3 : But (fun k => k = mb) w w3 := ((But.of_below hB1).trans (.of_below hB2)).trans hP3
  have hSc3 : w3.heap[sb]? = some (.cells #[.map (some mb), .slice ro m rc, .int .i64 beh] 146 (0, 0)) := hBw3.heap (unhide HH).scm.blk hsm
  have p0 : w3.cell? ⟨sb, 0, none⟩ = some (.map (some mb)) := blk_cell hSc3 0
  have p1 : w3.cell? ⟨w.heap.size, 0, none⟩ = some (.int .i64 c) := blk_cell hK3 0
  have p2 : w3.cell? ⟨w.heap.size, 1, none⟩ = some (.int .i64 n) := blk_cell hK3 1
  have p3 : w3.cell? ⟨w.heap.size + 1, 2, none⟩ = some (.int .i64 x) := blk_cell hO3 2
  have p4 : w3.cell? ⟨w.heap.size + 1, 3, none⟩ = some (.int .i64 y) := blk_cell hO3 3
  have p5 : w3.cell? ⟨sb, 1, none⟩ = some (.slice ro m rc) := blk_cell hSc3 1
  have p6 : w3.heap.size = w1.heap.size + 1 := by
    have : w2.heap.size = w1.heap.size + 1 := by rw [hw2]; simp
    rw [hw3]; simp [this]
  have p7 : ∀ j, w3.frozen? ⟨sb, j, none⟩ = false := fun j => blk_thaw hSc3 j
  have HB1 := hide hB1
  have HN3 := hide hN3
  have HM3 := hide hM3
  have HBw3 := hide hBw3
  have HSc3 := hide hSc3
  have HP6 := hide p6
  have HK3 := hide hK3
  clear hlk hB1 hO1 hK1 hw1 c0 c1 hM1 hw2 hw3 hM2 hM3 hB2 hP3 hN2 hN3 hK3 hO3 hBw3 hSc3 p6
  go_wp2
  go_region_held3 (fun w' => w'.cell? ⟨sb, 0, none⟩ = some (.map (some mb)) ∧ w'.cell? ⟨w.heap.size, 0, none⟩ = some (.int .i64 c) ∧ w'.cell? ⟨w.heap.size, 1, none⟩ = some (.int .i64 n) ∧ w'.cell? ⟨w.heap.size + 1, 2, none⟩ = some (.int .i64 x) ∧ w'.cell? ⟨w.heap.size + 1, 3, none⟩ = some (.int .i64 y))
    (first | (refine ⟨?_, ?_, ?_, ?_, ?_⟩ <;> assumption) | go_keep)
    (fail)
  simp only [Exit.then]
  go_simp
  go_wp2
  obtain ⟨W4, hW4⟩ : ∃ W4 : World, W4 = (w3.alloc (.cells #[.int .i64 c, .int .i64 n] 143)).drew := ⟨_, rfl⟩
  have hB4 : Below w3.heap.size w3 W4 := by rw [hW4]; exact ((Below.refl _ w3).alloc (Nat.le_refl _) _).drew
  have hN4 : W4.heap[w3.heap.size]? = some (.cells #[.int .i64 c, .int .i64 n] 143) := by rw [hW4]; exact new_at w3 _ _ rfl
  have hR3 : Own2 w3 0 143 (.slice ro m rc) (l.map fun s => k2 (skey s)) := row_but (unhide HH).row (unhide HBw3) (fun k hk e => (unhide HH).mb_ov (by rw [hk, e]))
  have hR4 : Own2 W4 0 143 (.slice ro m rc) (l.map fun s => k2 (skey s)) := row_but hR3 (S := fun _ => False) (.of_below hB4) (fun _ _ h => h)
  obtain ⟨i0', hi', hz0, hz1, hz2⟩ := info_parts info_key
  obtain ⟨v', w5, hrun, hO5, hg5, _, hv5⟩ := run_append_own_at (P := Try.prog) (w := W4) 0 140 140 143 i0' _ 2 16 Try.underlying140 hi' hz0 hz1 hz2 rfl (by decide) (.slice ro m rc) _ _ hR4 ⟨w3.heap.size, 0, none⟩ 1 1 [.int .i64 c, .int .i64 n] rfl (newsN hN4) (by simp [Value.oneCell']) (by simp; simp only [maxLen]; omega) (by simp; omega) (Nat.zero_le _)
  obtain ⟨g', cap', hv'⟩ := row_some hO5 (by omega)
  obtain ⟨m5, hm5⟩ : ∃ m5, m5 = (l.map fun s => k2 (skey s)).length + 1 := ⟨_, rfl⟩
  rw [← hm5] at hv' hO5
  subst hv'
  have hov4 : ∀ k, (Value.slice ro m rc).ownBlock = some k → k < w3.heap.size := fun k hk => (World.ownsRow.lt hR3 k hk).2
  have hSc4 : W4.heap[sb]? = some (.cells #[.map (some mb), .slice ro m rc, .int .i64 beh] 146 (0, 0)) := (hB4.block _ (lt_of_heap (unhide HSc3))).trans (unhide HSc3)
  have hBg : But (fun k => (Value.slice ro m rc).ownBlock = some k) W4 w5 := .of_grown hg5 (fun k e => e)
  have hSc5 := hBg.heap hSc4 (unhide HH).sb_ov
  have r1 : w5.cell? ⟨sb, 1, none⟩ = some (.slice ro m rc) := blk_cell hSc5 1
  have r2 : ∀ j, w5.frozen? ⟨sb, j, none⟩ = false := fun j => blk_thaw hSc5 j
  have HR := hide hrun
  have HO5 := hide hO5
  have HV5 := hide hv5
  have HSc5 := hide hSc5
  have HBg := hide hBg
  have HB4 := hide hB4
  have HW4 := hide hW4
  have HM5 := hide hm5
  have HOV := hide hov4
  clear hB4 hN4 hR3 hR4 hi' hz0 hz1 hz2 hrun hO5 hg5 hv5 hSc4 hBg hSc5 hm5 hup hov4
  subst hW4
  have s1 : sb < w3.heap.size := lt_of_heap (unhide HSc3)
  have s2 : w.heap.size < w3.heap.size := lt_of_heap (unhide HK3)
  have s3 : (w3.alloc (.cells #[.int .i64 c, .int .i64 n] 143)).cell? ⟨sb, 1, none⟩ = some (.slice ro m rc) := ((Below.refl w3.heap.size w3).alloc (Nat.le_refl _) _).cell s1 |>.trans p5
  go_region_law (refine step_append_at (by kernel_rfl) (.tmp 34) (.tmp 36) 140 140 (by kernel_rfl) (by kernel_rfl) (.slice ro m rc) (.slice (some ⟨w3.heap.size, 0, none⟩) 1 1) _ _ (by kernel_rfl) (by kernel_rfl) (unhide HR) ?_)
  all_goals
    simp only [Exit.inBlock, Exit.then]
    go_simp
    go_wp2
    go_ret
    refine ⟨rfl, ?_⟩
    have hB4 := unhide HB4
    have hBg := unhide HBg
    have sz1 := (unhide HB1).size
    have sz3 := (unhide HBw3).size
    have p6 := unhide HP6
    have sz4 := hB4.size
    have sz5 := hBg.size
    have lmb3 : mb < w3.heap.size := by omega
    have ln3 : w1.heap.size < w3.heap.size := by omega
    have hovlt : ∀ k, (Value.slice ro m rc).ownBlock = some k → k < w.heap.size := fun k hk => hCl k ((unhide HH).cov k hk)
    have hM5 := hBg.heap ((hB4.block _ lmb3).trans (unhide HM3)) (unhide HH).mb_ov
    have hN5 := hBg.heap ((hB4.block _ ln3).trans (unhide HN3)) (fun e => by have := hovlt _ e; omega)
    have hOc : c2 (l.map fun s => k2 (skey s)) ++ [.int .i64 c, .int .i64 n] = c2 ((l ++ [(⟨c, n, x, y, 0, 0, [], 0, 0, 0⟩ : Srf)]).map fun s => k2 (skey s)) := by
      rw [List.map_append, c2_append]; rfl
    have hm5 : m5 = ((l ++ [(⟨c, n, x, y, 0, 0, [], 0, 0, 0⟩ : Srf)]).map fun s => k2 (skey s)).length := by rw [unhide HM5]; simp
    have hO5 : Own2 w5 0 143 (.slice (some ⟨g', 0, none⟩) m5 cap') ((l ++ [(⟨c, n, x, y, 0, 0, [], 0, 0, 0⟩ : Srf)]).map fun s => k2 (skey s)) := by
      have := unhide HO5
      rw [hOc] at this
      rw [Own2, ← hm5]; exact this
    have hgsb : ¬ g' = sb := fun e => by
      rcases unhide HV5 with q | q
      · exact (unhide HH).sb_ov (by rw [← q, ← e]; rfl)
      · have : g' = (w3.alloc (.cells #[.int .i64 c, .int .i64 n] 143)).drew.heap.size := by have := q; simp only [Value.ownBlock, Option.some.injEq] at this; exact this
        rw [e] at this
        omega
    have hO6 : Own2 (w5.setCell ⟨sb, 1, none⟩ (.slice (some ⟨g', 0, none⟩) m5 cap')) 0 143 (.slice (some ⟨g', 0, none⟩) m5 cap') ((l ++ [(⟨c, n, x, y, 0, 0, [], 0, 0, 0⟩ : Srf)]).map fun s => k2 (skey s)) := row_but hO5 ((But.refl (fun k => k = sb) w5).setCell (p := ⟨sb, 1, none⟩) (.inl rfl) _) (fun k hk e => by cases hk; exact hgsb e)
    have hS6 := blk_set (i := 1) (unhide HSc5) (.slice (some ⟨g', 0, none⟩) m5 cap')
    have hM6 := blk_other hM5 (p := ⟨sb, 1, none⟩) (fun e => hsm e.symm) (.slice (some ⟨g', 0, none⟩) m5 cap')
    have hN6 := blk_other hN5 (p := ⟨sb, 1, none⟩) (by show w1.heap.size ≠ sb; omega) (.slice (some ⟨g', 0, none⟩) m5 cap')
    have hB6 : But (fun k => k = sb ∨ k = mb ∨ (Value.slice ro m rc).ownBlock = some k) w (w5.setCell ⟨sb, 1, none⟩ (.slice (some ⟨g', 0, none⟩) m5 cap')) := ((((unhide HBw3).wide (fun k _ e => .inr (.inl e))).trans (.of_below hB4)).trans (hBg.wide (fun k _ e => .inr (.inr e)))).setCell (p := ⟨sb, 1, none⟩) (.inl (.inl rfl)) _
    have hsz : (w5.setCell ⟨sb, 1, none⟩ (.slice (some ⟨g', 0, none⟩) m5 cap')).heap.size = w5.heap.size := by simp [World.setCell]
    refine ⟨⟨_, _, _, _, _, (unhide HH).more (u := ⟨c, n, x, y, 0, 0, [], 0, 0, 0⟩) (v := .slice none 0 0) (nb := w1.heap.size) hs grow_old (.inr ⟨sz1, by rw [hsz]; omega⟩) sz1 hB6 (fun _ h => h) hCU hS6 hM6 hO6 ?_ hN6 ⟨none, 0, rfl, Nat.le_refl _, Nat.zero_le _, fun h => absurd rfl h⟩⟩, hB6.wide ?_⟩
    · intro k hk
      rcases unhide HV5 with q | q
      · exact .inl ((unhide HH).cov k (by rw [← q]; exact hk))
      · have hk' := (World.ownsRow.lt hO5 k hk).2
        have : k = (w3.alloc (.cells #[.int .i64 c, .int .i64 n] 143)).drew.heap.size := by rw [hk] at q; exact Option.some.inj q
        exact .inr ⟨by rw [this]; omega, by rw [hsz]; exact hk'⟩
    · rintro k _ (e | e | e)
      · rw [e]; exact (unhide HH).csb
      · rw [e]; exact (unhide HH).cmb
      · exact (unhide HH).cov _ e
end Go.Proofs.Ytfnockbgkcgpkaa
set_option linter.all false
namespace Go.Proofs.Ytfnockbgkcgpkaa
open Go.RowKit Go.Proofs.Panes
set_option maxRecDepth 100000

def rceq (a b : Rc) : Bool := a.x == b.x && a.y == b.y && a.w == b.w && a.h == b.h
theorem run_equal_rect (a b : Rc) (w : World) : (Op.equal 29 (rval a) (rval b)).run Try.prog w = .ok (rceq a b) w := by
  unfold rval Op.equal rceq
  rw [show Op.maxDepth = 9999 + 1 from rfl, run_equalIn_struct w 9999 29 _ _ (by kernel_rfl) (by kernel_rfl)]
  go_simp
  by_cases e1 : a.x = b.x <;> by_cases e2 : a.y = b.y <;> by_cases e3 : a.w = b.w <;> by_cases e4 : a.h = b.h <;> simp [e1, e2, e3, e4]
theorem run_eql_rect (a b : Rc) (w : World) : (binOp .eql 29 (rval a) (rval b)).run Try.prog w = .ok (.bool (rceq a b)) w := by
  have := run_equal_rect a b w
  unfold rval at this ⊢
  simp only [binOp]
  simp [this]
theorem rceq_self (a : Rc) : rceq a a = true := by simp [rceq]

/-- The scene, wherever it lies. -/
def ScnX (C U : Nat → Prop) (w : World) (sb : Nat) (beh : Int) (l : List Srf) : Prop := ∃ mb ov L clock bk pv, Scn C U w sb beh l mb ov L clock bk pv
theorem ScnX.but {C U S : Nat → Prop} {w w' : World} {sb : Nat} {beh : Int} {l : List Srf} (h : ScnX C U w sb beh l) (hb : But S w w') (hS : ∀ k, C k → ¬ S k) (hU : ∀ k, U k → ¬ S k) : ScnX C U w' sb beh l := by
  obtain ⟨mb, ov, L, clock, bk, pv, h⟩ := h
  exact ⟨mb, ov, L, clock, bk, pv, h.but hb hS hU⟩
theorem ScnX.mono {C U C' U' : Nat → Prop} {w : World} {sb : Nat} {beh : Int} {l : List Srf} (h : ScnX C U w sb beh l) (hC : ∀ k, C k → C' k) (hU : ∀ k, U k → U' k) : ScnX C' U' w sb beh l := by
  obtain ⟨mb, ov, L, clock, bk, pv, h⟩ := h
  exact ⟨mb, ov, L, clock, bk, pv, h.mono hC hU⟩
theorem ScnX.below {C U : Nat → Prop} {w w' : World} {sb : Nat} {beh : Int} {l : List Srf} (h : ScnX C U w sb beh l) (hb : Below w.heap.size w w') : ScnX C U w' sb beh l := by
  obtain ⟨mb, ov, L, clock, bk, pv, h⟩ := h
  exact ⟨mb, ov, L, clock, bk, pv, h.below hb⟩
theorem ScnX.nd {C U : Nat → Prop} {w : World} {sb : Nat} {beh : Int} {l : List Srf} (h : ScnX C U w sb beh l) : (l.map skey).Nodup := by
  obtain ⟨mb, ov, L, clock, bk, pv, h⟩ := h
  exact h.nd

/-- What an operation makes of the surfaces, and whether that can be seen. -/
def kchg (l : List Srf) (c : Int) (o : Opn) : List Srf × Bool :=
  if o.kind = 1 then (l ++ [⟨c, o.surf, o.x, o.y, 0, 0, [], 0, 0, 0⟩], false)
  else match l[l.findIdx (isK c o.surf)]? with
    | none => (l, false)
    | some s =>
      if o.kind = 2 then (delS l c o.surf, true)
      else if o.kind = 3 then (putS l { s with w := o.w, h := o.h, px := o.px }, true)
      else if o.kind = 4 then (putS l { s with x := o.x, y := o.y, dx := 0, dy := 0, left := 0 }, !(s.x == o.x && s.y == o.y))
      else if o.kind = 5 then (layS l (l.findIdx (isK c o.surf)) (l.length - 1) s, !decide (l.findIdx (isK c o.surf) = l.length - 1))
      else if o.kind = 6 then (layS l (l.findIdx (isK c o.surf)) 0 s, !decide (l.findIdx (isK c o.surf) = 0))
      else (putS l { s with dx := o.x, dy := o.y, left := o.w }, false)
/-- May the operation be, on these surfaces? -/
def kfit (l : List Srf) (c : Int) (o : Opn) : Prop := (o.kind = 1 ∧ (c, o.surf) ∉ l.map skey) ∨ ((2 ≤ o.kind ∧ o.kind ≤ 7) ∧ (c, o.surf) ∈ l.map skey)
theorem key_at {l : List Srf} {c n : Int} (h : (c, n) ∈ l.map skey) : ∃ s, l[l.findIdx (isK c n)]? = some s ∧ s.cl = c ∧ s.num = n := by
  obtain ⟨s, hs, hk⟩ := List.mem_map.1 h
  have hlt : l.findIdx (isK c n) < l.length := List.findIdx_lt_length_of_exists ⟨s, hs, isK_iff.2 hk⟩
  have hp := List.findIdx_getElem (w := hlt)
  have := isK_iff.1 hp
  simp only [skey, Prod.mk.injEq] at this
  exact ⟨_, List.getElem?_eq_getElem hlt, this.1, this.2⟩
theorem natbeq (a b : Nat) : (!((a : Int) == (b : Int))) = !decide (a = b) := by
  by_cases h : a = b
  · simp [h]
  · have : ¬ (a : Int) = (b : Int) := by omega
    simp [h, this]

def ovalO (o : Opn) (pv : Value) : Value := oval o.kind o.surf o.x o.y o.w o.h pv o.mark
theorem change_any {C U : Nat → Prop} {w : World} {sb : Nat} {beh : Int} {l : List Srf} (h : ScnX C U w sb beh l) (hCU : ∀ k, C k → ¬ U k) (hCl : ∀ k, C k → k < w.heap.size) (hl : l.length ≤ 1000) (c : Int) (o : Opn) (po : Option Addr) (pn pc : Nat) (hR : RdN U w (.slice po pn pc) o.px) (hf : kfit l c o) :
    Calls Try.prog 112 #[.pointer (some ⟨sb, 0, none⟩), kval c o.surf, ovalO o (.slice po pn pc)] w fun e w' => e = .returned (.bool (kchg l c o).2) ∧ ScnX (grow C w w') U w' sb beh (kchg l c o).1 ∧ But C w w' := by
  obtain ⟨mb, ov, L, clock, bk, pv, h⟩ := h
  obtain ⟨kd, sf, x, y, W, H, px, mk⟩ := o
  rcases hf with ⟨hk, hn⟩ | ⟨hk, hm⟩
  · simp only at hk
    subst hk
    refine (chg1k_any h hCU hCl hl c sf hn x y W H mk po pn pc).mono ?_
    rintro e w' ⟨rfl, ⟨ov', L', clock', bk', pv', h'⟩, hb⟩
    exact ⟨by simp [kchg], ⟨_, _, _, _, _, _, h'⟩, hb⟩
  · obtain ⟨s, hs, rfl, rfl⟩ := key_at hm
    simp only at hk hs hR
    have hsm : s ∈ l := List.mem_of_getElem? hs
    have hil := (List.getElem?_eq_some_iff.1 hs).1
    have hcase : kd = 2 ∨ kd = 3 ∨ kd = 4 ∨ kd = 5 ∨ kd = 6 ∨ kd = 7 := by omega
    rcases hcase with rfl | rfl | rfl | rfl | rfl | rfl
    · refine (chg2_any h hCU hCl hl hsm x y W H mk po pn pc).mono ?_
      rintro e w' ⟨rfl, ⟨ov', L', h'⟩, hb⟩
      exact ⟨by simp [kchg, hs], ⟨_, _, _, _, _, _, by simp only [kchg, hs]; exact h'.mono grow_old (fun _ h => h)⟩, hb⟩
    · refine (chg3_any h hCU hsm x y W H mk po pn pc px hR).mono ?_
      rintro e w' ⟨rfl, ⟨pv', h'⟩, hb⟩
      exact ⟨by simp [kchg, hs], ⟨_, _, _, _, _, _, by simp only [kchg, hs]; exact h'.mono grow_old (fun _ h => h)⟩, hb⟩
    · refine (chg4_any h hCU hsm x y W H mk po pn pc).mono ?_
      rintro e w' ⟨rfl, ⟨pv', h'⟩, hb⟩
      exact ⟨by simp [kchg, hs], ⟨_, _, _, _, _, _, by simp only [kchg, hs]; exact h'.mono grow_old (fun _ h => h)⟩, hb⟩
    · refine (chg5_any h hCU hCl hl hs rfl x y W H mk po pn pc).mono ?_
      rintro e w' ⟨rfl, h', hb⟩
      exact ⟨by rw [natbeq]; simp [kchg, hs], ⟨_, _, _, _, _, _, by simp only [kchg, hs]; exact h'.mono grow_old (fun _ h => h)⟩, hb⟩
    · refine (chg6_any h hCU hCl hl hs rfl x y W H mk po pn pc).mono ?_
      rintro e w' ⟨rfl, h', hb⟩
      exact ⟨by rw [natbeq]; simp [kchg, hs], ⟨_, _, _, _, _, _, by simp only [kchg, hs]; exact h'.mono grow_old (fun _ h => h)⟩, hb⟩
    · refine (chg7_any h hCU hsm x y W H mk po pn pc).mono ?_
      rintro e w' ⟨rfl, ⟨pv', h'⟩, hb⟩
      exact ⟨by simp [kchg, hs], ⟨_, _, _, _, _, _, by simp only [kchg, hs]; exact h'.mono grow_old (fun _ h => h)⟩, hb⟩

set_option maxHeartbeats 1000000 in
/-- The closure of Do. -/
theorem do1_any {C U : Nat → Prop} {w : World} {sb : Nat} {beh : Int} {l : List Srf} (h : ScnX C U w sb beh l) (hCU : ∀ k, C k → ¬ U k) (hCl : ∀ k, C k → k < w.heap.size) (hl : l.length ≤ 1000) (c : Int) (o : Opn) (po : Option Addr) (pn pc : Nat) (hR : RdN U w (.slice po pn pc) o.px) (hf : kfit l c o) {bs bq bo : Nat}
    (h1 : w.heap[bs]? = some (.cells #[.pointer (some ⟨sb, 0, none⟩)] 99)) (h2 : w.heap[bq]? = some (.cells #[.int .i64 c, .int .i64 o.surf] 143)) (h3 : w.heap[bo]? = some (.cells #[.int .i64 o.kind, .int .i64 o.surf, .int .i64 o.x, .int .i64 o.y, .int .i64 o.w, .int .i64 o.h, .slice po pn pc, .int .i64 o.mark] 72)) :
    Calls Try.prog 111 #[.pointer (some ⟨bs, 0, none⟩), .pointer (some ⟨bq, 0, none⟩), .pointer (some ⟨bo, 0, none⟩)] w fun e w' => e = .returned (.bool (kchg l c o).2) ∧ ScnX (grow C w w') U w' sb beh (kchg l c o).1 ∧ But C w w' := by
  have hc := change_any h hCU hCl hl c o po pn pc hR hf
  unfold ovalO oval kval at hc
  obtain ⟨bb, hbb⟩ : ∃ bb, bb = (kchg l c o).2 := ⟨_, rfl⟩
  rw [← hbb] at hc ⊢
  have HC := hide hc
  have a0 : w.cell? ⟨bs, 0, none⟩ = some (.pointer (some ⟨sb, 0, none⟩)) := blk_cell h1 0
  have b0 : w.cell? ⟨bq, 0, none⟩ = some (.int .i64 c) := blk_cell h2 0
  have b1 : w.cell? ⟨bq, 1, none⟩ = some (.int .i64 o.surf) := blk_cell h2 1
  have d0 : w.cell? ⟨bo, 0, none⟩ = some (.int .i64 o.kind) := blk_cell h3 0
  have d1 : w.cell? ⟨bo, 1, none⟩ = some (.int .i64 o.surf) := blk_cell h3 1
  have d2 : w.cell? ⟨bo, 2, none⟩ = some (.int .i64 o.x) := blk_cell h3 2
  have d3 : w.cell? ⟨bo, 3, none⟩ = some (.int .i64 o.y) := blk_cell h3 3
  have d4 : w.cell? ⟨bo, 4, none⟩ = some (.int .i64 o.w) := blk_cell h3 4
  have d5 : w.cell? ⟨bo, 5, none⟩ = some (.int .i64 o.h) := blk_cell h3 5
  have d6 : w.cell? ⟨bo, 6, none⟩ = some (.slice po pn pc) := blk_cell h3 6
  have d7 : w.cell? ⟨bo, 7, none⟩ = some (.int .i64 o.mark) := blk_cell h3 7
  clear hc hbb h hR hf h1 h2 h3
  go_enter Try.func111, Try.ntmps111
  go_wp2_with (go_at_call 112; refine (unhide HC).mono ?_; rintro e w' ⟨rfl, h1, h2⟩; have H1 := hide h1; have H2 := hide h2; clear h1 h2)
  go_ret
  exact ⟨rfl, unhide H1, unhide H2⟩
end Go.Proofs.Ytfnockbgkcgpkaa
set_option linter.all false
namespace Go.Proofs.Ytfnockbgkcgpkaa
open Go.RowKit Go.Proofs.Panes
set_option maxRecDepth 100000

/-- Blocks that have become a component's own. -/
structure Gr (C C' : Nat → Prop) (w w' : World) : Prop where
  old : ∀ k, C k → C' k
  new : ∀ k, C' k → C k ∨ (w.heap.size ≤ k ∧ k < w'.heap.size)
theorem Gr.refl (C : Nat → Prop) (w w' : World) : Gr C C w w' := ⟨fun _ h => h, fun _ h => .inl h⟩
theorem Gr.grow (C : Nat → Prop) (w w' : World) : Gr C (grow C w w') w w' := ⟨fun _ h => .inl h, fun _ h => h⟩
theorem Gr.trans {A B C : Nat → Prop} {a b c : World} (h : Gr A B a b) (k : Gr B C b c) (h1 : a.heap.size ≤ b.heap.size) (h2 : b.heap.size ≤ c.heap.size) : Gr A C a c :=
  ⟨fun i hi => k.old i (h.old i hi), fun i hi => by
    rcases k.new i hi with q | q
    · rcases h.new i q with r | r
      · exact .inl r
      · exact .inr ⟨r.1, by omega⟩
    · exact .inr ⟨by omega, q.2⟩⟩
theorem Gr.wide {A B : Nat → Prop} {a b a' b' : World} (h : Gr A B a b) (h1 : a'.heap.size ≤ a.heap.size) (h2 : b.heap.size ≤ b'.heap.size) : Gr A B a' b' :=
  ⟨h.old, fun i hi => by
    rcases h.new i hi with r | r
    · exact .inl r
    · exact .inr ⟨by omega, by omega⟩⟩
theorem Gr.lt {A B : Nat → Prop} {a b : World} (h : Gr A B a b) (hA : ∀ k, A k → k < a.heap.size) (hs : a.heap.size ≤ b.heap.size) : ∀ k, B k → k < b.heap.size := fun k hk => by
  rcases h.new k hk with r | r
  · have := hA k r; omega
  · exact r.2
theorem Gr.apart {A B U : Nat → Prop} {a b : World} (h : Gr A B a b) (hA : ∀ k, A k → ¬ U k) (hU : ∀ k, U k → k < a.heap.size) : ∀ k, B k → ¬ U k := fun k hk hu => by
  rcases h.new k hk with r | r
  · exact hA k r hu
  · have := hU k hu; omega
/-- What a change damages. -/
def dmgL (ch : Bool) (a b : Rc) : List Rc := if ch = false then [] else if rceq b a = true then [a] else [a, b]
theorem own_fresh {w : World} {g base : Nat} {l : List Rc} (h : w.heap[g]? = some (.cells (rcells l).toArray 29 (0, 0))) (hb : base ≤ g) (hm : l.length ≤ maxLen) : Own w base (.slice (some ⟨g, 0, none⟩) l.length l.length) l :=
  ⟨rcells_len l, .inr ⟨g, l.length, _, rfl, hb, h, Nat.le_refl _, hm, by simp [rcells_len], by rw [List.toList_toArray, List.take_of_length_le (by rw [rcells_len]; exact Nat.le_refl _)]⟩⟩

set_option maxHeartbeats 2000000 in
theorem damage_do {C U : Nat → Prop} {w : World} {sb : Nat} {beh : Int} {l l' : List Srf} (h : ScnX C U w sb beh l) (hCl : ∀ k, C k → k < w.heap.size) (c n : Int) (ch : Bool) (p1 p2 p3 : Nat)
    (hcl : ∀ W, Below w.heap.size w W → Calls Try.prog 111 #[.pointer (some ⟨p1, 0, none⟩), .pointer (some ⟨p2, 0, none⟩), .pointer (some ⟨p3, 0, none⟩)] W fun e w' => e = .returned (.bool ch) ∧ ScnX (grow C W w') U w' sb beh l' ∧ But C W w') :
    Calls Try.prog 90 #[.pointer (some ⟨sb, 0, none⟩), kval c n, .func (.func 111) #[] #[.pointer (some ⟨p1, 0, none⟩), .pointer (some ⟨p2, 0, none⟩), .pointer (some ⟨p3, 0, none⟩)]] w fun e w' => (∃ v C', e = .returned v ∧ Gr C C' w w' ∧ ScnX C' U w' sb beh l' ∧ Own w' w.heap.size v (dmgL ch (covR l c n) (covR l' c n)) ∧ ∀ k, v.ownBlock = some k → ¬ C' k) ∧ But C w w' := by
  have HCov : Hid (∀ W, Below w.heap.size w W → Calls Try.prog 114 #[.pointer (some ⟨sb, 0, none⟩), .agg #[.int .i64 c, .int .i64 n]] W fun e w' => e = .returned (rval (covR l c n)) ∧ Below W.heap.size W w') := fun W hb => by
    obtain ⟨mb, ov, L, clock, bk, pv, h⟩ := h
    exact (h.below hb).covered c n
  have HCov2 : Hid (∀ W C', ScnX C' U W sb beh l' → Calls Try.prog 114 #[.pointer (some ⟨sb, 0, none⟩), .agg #[.int .i64 c, .int .i64 n]] W fun e w' => e = .returned (rval (covR l' c n)) ∧ Below W.heap.size W w') := fun W C' hs => by
    obtain ⟨mb, ov, L, clock, bk, pv, hs⟩ := hs
    exact hs.covered c n
  obtain ⟨a, ha⟩ : ∃ a, a = covR l c n := ⟨_, rfl⟩
  obtain ⟨b, hb⟩ : ∃ b, b = covR l' c n := ⟨_, rfl⟩
  rw [← ha] at HCov ⊢
  rw [← hb] at HCov2 ⊢
  unfold rval at HCov HCov2
  have HCl := hide hcl
  unfold kval
  clear h hcl ha hb
  cases ch with
  | false =>
    go_enter Try.func90, Try.ntmps90
    go_wp2_with (first
      | (go_at_call 114
         refine ((unhide HCov) _ ((Below.refl _ w).alloc (Nat.le_refl _) _)).mono ?_
         rintro e w1 ⟨rfl, hb1⟩
         have hB1 : Below w.heap.size w w1 := ((Below.refl _ w).alloc (Nat.le_refl _) _).trans (hb1.mono (by simp))
         have HB1 := hide hB1
         clear hb1 hB1)
      | (go_at_call 111
         refine ((unhide HCl) _ ((unhide HB1).alloc (unhide HB1).size _)).mono ?_
         rintro e w2 ⟨rfl, hs2, hb2⟩
         have HS2 := hide hs2
         have HB2 := hide hb2
         clear hs2 hb2))
    go_ret
    have hBw : But C w w2 := ((But.of_below (unhide HB1)).alloc _).trans (unhide HB2)
    have s1 := (unhide HB1).size
    have s2 := (unhide HB2).size
    refine ⟨⟨_, _, rfl, (Gr.grow _ _ _).wide (by simp; omega) (Nat.le_refl _), unhide HS2, ?_, fun k hk => by simp [Value.ownBlock] at hk⟩, hBw⟩
    exact ⟨rfl, .inl ⟨rfl, rfl⟩⟩
  | true =>
    go_enter Try.func90, Try.ntmps90
    have he : ∀ W, (binOp .eql 29 (.agg #[.int .i64 b.x, .int .i64 b.y, .int .i64 b.w, .int .i64 b.h]) (.agg #[.int .i64 a.x, .int .i64 a.y, .int .i64 a.w, .int .i64 a.h])).run Try.prog W = .ok (.bool (rceq b a)) W := fun W => run_eql_rect b a W
    go_wp2_with (first
      | (go_at_call 111
         refine ((unhide HCl) _ ((unhide HB1).alloc (unhide HB1).size _)).mono ?_
         rintro e w2 ⟨rfl, hs2, hb2⟩
         have hK2 : w2.heap[w.heap.size]? = some (.cells #[.int .i64 c, .int .i64 n] 143) := hb2.heap (blk_alloc (unhide HK1) _) (fun hc => Nat.lt_irrefl _ (hCl _ hc))
         have hA2 : w2.heap[w1.heap.size]? = some (.cells #[.int .i64 a.x, .int .i64 a.y, .int .i64 a.w, .int .i64 a.h] 29) := hb2.heap (new_at w1 _ _ rfl) (fun hc => by have := hCl _ hc; have := (unhide HB1).size; omega)
         have t0 : w2.cell? ⟨w.heap.size, 0, none⟩ = some (.int .i64 c) := blk_cell hK2 0
         have t1 : w2.cell? ⟨w.heap.size, 1, none⟩ = some (.int .i64 n) := blk_cell hK2 1
         have HS2 := hide hs2
         have HB2 := hide hb2
         have HA2 := hide hA2
         clear hs2 hb2 hA2 hK2)
      | (go_at_call 114
         first
           | (refine ((unhide HCov2) w2 _ (unhide HS2)).mono ?_
              rintro e w3 ⟨rfl, hb3⟩
              have hA3 : w3.heap[w1.heap.size]? = some (.cells #[.int .i64 a.x, .int .i64 a.y, .int .i64 a.w, .int .i64 a.h] 29) := (hb3.block _ (lt_of_heap (unhide HA2))).trans (unhide HA2)
              have u0 : w3.cell? ⟨w1.heap.size, 0, none⟩ = some (.int .i64 a.x) := blk_cell hA3 0
              have u1 : w3.cell? ⟨w1.heap.size, 1, none⟩ = some (.int .i64 a.y) := blk_cell hA3 1
              have u2 : w3.cell? ⟨w1.heap.size, 2, none⟩ = some (.int .i64 a.w) := blk_cell hA3 2
              have u3 : w3.cell? ⟨w1.heap.size, 3, none⟩ = some (.int .i64 a.h) := blk_cell hA3 3
              have lu : w1.heap.size < w3.heap.size := lt_of_heap hA3
              have HB3 := hide hb3
              clear hb3 hA3)
           | (refine ((unhide HCov) _ ((Below.refl _ w).alloc (Nat.le_refl _) _)).mono ?_
              rintro e w1 ⟨rfl, hb1⟩
              have hB1 : Below w.heap.size w w1 := ((Below.refl _ w).alloc (Nat.le_refl _) _).trans (hb1.mono (by simp))
              have hK1 : w1.heap[w.heap.size]? = some (.cells #[.int .i64 c, .int .i64 n] 143) := (hb1.block _ (by simp)).trans (new_at w _ _ rfl)
              have HB1 := hide hB1
              have HK1 := hide hK1
              clear hb1 hB1 hK1)))
    all_goals
      rename_i hq
      go_ret
      have s1 := (unhide HB1).size
      have s2 := (unhide HB2).size
      have s3 := (unhide HB3).size
      simp only [World.size_alloc] at s2
    · have hL : Below w2.heap.size w2 ((w3.alloc (.cells #[.int .i64 b.x, .int .i64 b.y, .int .i64 b.w, .int .i64 b.h] 29)).alloc (.cells #[.int .i64 a.x, .int .i64 a.y, .int .i64 a.w, .int .i64 a.h] 29)) := ((unhide HB3).alloc s3 _).alloc (by simp; omega) _
      refine ⟨⟨_, _, rfl, (Gr.grow C _ w2).wide (by simp; omega) hL.size, (unhide HS2).below hL, ?_, ?_⟩, (((But.of_below (unhide HB1)).alloc _).trans (unhide HB2)).trans (.of_below hL)⟩
      · rw [show dmgL true a b = [a] by simp [dmgL, hq]]
        exact own_fresh (l := [a]) (new_at _ _ _ (by simp)) (by omega) (by simp [maxLen])
      · intro k hk hc
        have hk : w3.heap.size + 1 = k := Option.some.inj hk
        rcases hc with hc | hc
        · have := hCl k hc; omega
        · omega
    · have hL : Below w2.heap.size w2 ((w3.alloc (.cells #[.int .i64 b.x, .int .i64 b.y, .int .i64 b.w, .int .i64 b.h] 29)).alloc (.cells #[.int .i64 a.x, .int .i64 a.y, .int .i64 a.w, .int .i64 a.h, .int .i64 b.x, .int .i64 b.y, .int .i64 b.w, .int .i64 b.h] 29)) := ((unhide HB3).alloc s3 _).alloc (by simp; omega) _
      refine ⟨⟨_, _, rfl, (Gr.grow C _ w2).wide (by simp; omega) hL.size, (unhide HS2).below hL, ?_, ?_⟩, (((But.of_below (unhide HB1)).alloc _).trans (unhide HB2)).trans (.of_below hL)⟩
      · rw [show dmgL true a b = [a, b] by simp [dmgL, hq]]
        exact own_fresh (l := [a, b]) (new_at _ _ _ (by simp)) (by omega) (by simp [maxLen])
      · intro k hk hc
        have hk : w3.heap.size + 1 = k := Option.some.inj hk
        rcases hc with hc | hc
        · have := hCl k hc; omega
        · omega

set_option maxHeartbeats 2000000 in
theorem damage_go {C : Nat → Prop} {w : World} {sb : Nat} (hCl : ∀ k, C k → k < w.heap.size) (c n : Int) (ch : Bool) (p1 : Nat) (a b : Rc) (Qp : World → Prop) (hQ : ∀ W W', Qp W → Below W.heap.size W W' → Qp W')
    (hv1 : ∀ W, Below w.heap.size w W → Calls Try.prog 114 #[.pointer (some ⟨sb, 0, none⟩), kval c n] W fun e w' => e = .returned (rval a) ∧ Below W.heap.size W w')
    (hv2 : ∀ W, Qp W → Calls Try.prog 114 #[.pointer (some ⟨sb, 0, none⟩), kval c n] W fun e w' => e = .returned (rval b) ∧ Below W.heap.size W w')
    (hcl : ∀ W, Below w.heap.size w W → Calls Try.prog 91 #[.pointer (some ⟨p1, 0, none⟩)] W fun e w' => e = .returned (.bool ch) ∧ Qp w' ∧ But C W w') :
    Calls Try.prog 90 #[.pointer (some ⟨sb, 0, none⟩), kval c n, .func (.func 91) #[.pointer (some ⟨p1, 0, none⟩)] #[]] w fun e w' => (∃ v, e = .returned v ∧ Qp w' ∧ Own w' w.heap.size v (dmgL ch a b)) ∧ But C w w' := by
  have HCov := hide hv1
  have HCov2 := hide hv2
  have HQp := hide hQ
  unfold rval kval at HCov HCov2
  have HCl := hide hcl
  clear hv1 hv2 hcl hQ
  unfold kval
  cases ch with
  | false =>
    go_enter Try.func90, Try.ntmps90
    go_wp2_with (first
      | (go_at_call 114
         refine ((unhide HCov) _ ((Below.refl _ w).alloc (Nat.le_refl _) _)).mono ?_
         rintro e w1 ⟨rfl, hb1⟩
         have hB1 : Below w.heap.size w w1 := ((Below.refl _ w).alloc (Nat.le_refl _) _).trans (hb1.mono (by simp))
         have HB1 := hide hB1
         clear hb1 hB1)
      | (go_at_call 91
         refine ((unhide HCl) _ ((unhide HB1).alloc (unhide HB1).size _)).mono ?_
         rintro e w2 ⟨rfl, hs2, hb2⟩
         have HS2 := hide hs2
         have HB2 := hide hb2
         clear hs2 hb2))
    go_ret
    have hBw : But C w w2 := ((But.of_below (unhide HB1)).alloc _).trans (unhide HB2)
    have s1 := (unhide HB1).size
    have s2 := (unhide HB2).size
    refine ⟨⟨_, rfl, unhide HS2, ?_⟩, hBw⟩
    exact ⟨rfl, .inl ⟨rfl, rfl⟩⟩
  | true =>
    go_enter Try.func90, Try.ntmps90
    have he : ∀ W, (binOp .eql 29 (.agg #[.int .i64 b.x, .int .i64 b.y, .int .i64 b.w, .int .i64 b.h]) (.agg #[.int .i64 a.x, .int .i64 a.y, .int .i64 a.w, .int .i64 a.h])).run Try.prog W = .ok (.bool (rceq b a)) W := fun W => run_eql_rect b a W
    go_wp2_with (first
      | (go_at_call 91
         refine ((unhide HCl) _ ((unhide HB1).alloc (unhide HB1).size _)).mono ?_
         rintro e w2 ⟨rfl, hs2, hb2⟩
         have hK2 : w2.heap[w.heap.size]? = some (.cells #[.int .i64 c, .int .i64 n] 143) := hb2.heap (blk_alloc (unhide HK1) _) (fun hc => Nat.lt_irrefl _ (hCl _ hc))
         have hA2 : w2.heap[w1.heap.size]? = some (.cells #[.int .i64 a.x, .int .i64 a.y, .int .i64 a.w, .int .i64 a.h] 29) := hb2.heap (new_at w1 _ _ rfl) (fun hc => by have := hCl _ hc; have := (unhide HB1).size; omega)
         have t0 : w2.cell? ⟨w.heap.size, 0, none⟩ = some (.int .i64 c) := blk_cell hK2 0
         have t1 : w2.cell? ⟨w.heap.size, 1, none⟩ = some (.int .i64 n) := blk_cell hK2 1
         have HS2 := hide hs2
         have HB2 := hide hb2
         have HA2 := hide hA2
         clear hs2 hb2 hA2 hK2)
      | (go_at_call 114
         first
           | (refine ((unhide HCov2) w2 (unhide HS2)).mono ?_
              rintro e w3 ⟨rfl, hb3⟩
              have hA3 : w3.heap[w1.heap.size]? = some (.cells #[.int .i64 a.x, .int .i64 a.y, .int .i64 a.w, .int .i64 a.h] 29) := (hb3.block _ (lt_of_heap (unhide HA2))).trans (unhide HA2)
              have u0 : w3.cell? ⟨w1.heap.size, 0, none⟩ = some (.int .i64 a.x) := blk_cell hA3 0
              have u1 : w3.cell? ⟨w1.heap.size, 1, none⟩ = some (.int .i64 a.y) := blk_cell hA3 1
              have u2 : w3.cell? ⟨w1.heap.size, 2, none⟩ = some (.int .i64 a.w) := blk_cell hA3 2
              have u3 : w3.cell? ⟨w1.heap.size, 3, none⟩ = some (.int .i64 a.h) := blk_cell hA3 3
              have lu : w1.heap.size < w3.heap.size := lt_of_heap hA3
              have HB3 := hide hb3
              clear hb3 hA3)
           | (refine ((unhide HCov) _ ((Below.refl _ w).alloc (Nat.le_refl _) _)).mono ?_
              rintro e w1 ⟨rfl, hb1⟩
              have hB1 : Below w.heap.size w w1 := ((Below.refl _ w).alloc (Nat.le_refl _) _).trans (hb1.mono (by simp))
              have hK1 : w1.heap[w.heap.size]? = some (.cells #[.int .i64 c, .int .i64 n] 143) := (hb1.block _ (by simp)).trans (new_at w _ _ rfl)
              have HB1 := hide hB1
              have HK1 := hide hK1
              clear hb1 hB1 hK1)))
    all_goals
      rename_i hq
      go_ret
      have s1 := (unhide HB1).size
      have s2 := (unhide HB2).size
      have s3 := (unhide HB3).size
      simp only [World.size_alloc] at s2
    · have hL : Below w2.heap.size w2 ((w3.alloc (.cells #[.int .i64 b.x, .int .i64 b.y, .int .i64 b.w, .int .i64 b.h] 29)).alloc (.cells #[.int .i64 a.x, .int .i64 a.y, .int .i64 a.w, .int .i64 a.h] 29)) := ((unhide HB3).alloc s3 _).alloc (by simp; omega) _
      refine ⟨⟨_, rfl, (unhide HQp) _ _ (unhide HS2) hL, ?_⟩, (((But.of_below (unhide HB1)).alloc _).trans (unhide HB2)).trans (.of_below hL)⟩
      · rw [show dmgL true a b = [a] by simp [dmgL, hq]]
        exact own_fresh (l := [a]) (new_at _ _ _ (by simp)) (by omega) (by simp [maxLen])
    · have hL : Below w2.heap.size w2 ((w3.alloc (.cells #[.int .i64 b.x, .int .i64 b.y, .int .i64 b.w, .int .i64 b.h] 29)).alloc (.cells #[.int .i64 a.x, .int .i64 a.y, .int .i64 a.w, .int .i64 a.h, .int .i64 b.x, .int .i64 b.y, .int .i64 b.w, .int .i64 b.h] 29)) := ((unhide HB3).alloc s3 _).alloc (by simp; omega) _
      refine ⟨⟨_, rfl, (unhide HQp) _ _ (unhide HS2) hL, ?_⟩, (((But.of_below (unhide HB1)).alloc _).trans (unhide HB2)).trans (.of_below hL)⟩
      · rw [show dmgL true a b = [a, b] by simp [dmgL, hq]]
        exact own_fresh (l := [a, b]) (new_at _ _ _ (by simp)) (by omega) (by simp [maxLen])
end Go.Proofs.Ytfnockbgkcgpkaa
set_option linter.all false
namespace Go.Proofs.Ytfnockbgkcgpkaa
open Go.RowKit Go.Proofs.Panes
set_option maxRecDepth 100000

/-- What an operation damages. -/
def dmgO (l : List Srf) (c : Int) (o : Opn) : List Rc := dmgL (kchg l c o).2 (covR l c o.surf) (covR (kchg l c o).1 c o.surf)
/-- What a call leaves that changes the scene and tells rectangles. -/
def DmgPost (C U : Nat → Prop) (w : World) (sb : Nat) (beh : Int) (l' : List Srf) (rs : List Rc) (e : Ending) (w' : World) : Prop := (∃ v C', e = .returned v ∧ Gr C C' w w' ∧ ScnX C' U w' sb beh l' ∧ Own w' w.heap.size v rs ∧ ∀ k, v.ownBlock = some k → ¬ C' k) ∧ But C w w'
theorem DmgPost.from {C U : Nat → Prop} {w W : World} {sb : Nat} {beh : Int} {l' : List Srf} {rs : List Rc} {e : Ending} {w' : World} (h : DmgPost C U W sb beh l' rs e w') (hb : Below w.heap.size w W) : DmgPost C U w sb beh l' rs e w' := by
  obtain ⟨⟨v, C', h1, h2, h3, h4, h5⟩, h6⟩ := h
  exact ⟨⟨v, C', h1, h2.wide hb.size (Nat.le_refl _), h3, h4.mono hb.size, h5⟩, (But.of_below hb).trans h6⟩

set_option maxHeartbeats 2000000 in
theorem Do_any {C U : Nat → Prop} {w : World} {sb : Nat} {beh : Int} {l : List Srf} (h : ScnX C U w sb beh l) (hCU : ∀ k, C k → ¬ U k) (hCl : ∀ k, C k → k < w.heap.size) (hl : l.length ≤ 1000) (c : Int) (o : Opn) (po : Option Addr) (pn pc : Nat) (hR : RdN U w (.slice po pn pc) o.px) (hf : kfit l c o) :
    Calls Try.prog 87 #[.pointer (some ⟨sb, 0, none⟩), .int .i64 c, ovalO o (.slice po pn pc)] w (DmgPost C U w sb beh (kchg l c o).1 (dmgO l c o)) := by
  obtain ⟨w0, hw0⟩ : ∃ w0 : World, w0 = ((w.alloc (.cells #[.pointer (some ⟨sb, 0, none⟩)] 99)).alloc (.cells #[.int .i64 o.kind, .int .i64 o.surf, .int .i64 o.x, .int .i64 o.y, .int .i64 o.w, .int .i64 o.h, .slice po pn pc, .int .i64 o.mark] 72)).alloc (.cells #[.int .i64 c, .int .i64 o.surf] 143) := ⟨_, rfl⟩
  have hB0 : Below w.heap.size w w0 := by rw [hw0]; exact (((Below.refl _ w).alloc (Nat.le_refl _) _).alloc (by simp) _).alloc (by simp; omega) _
  have g1 : w0.heap[w.heap.size]? = some (.cells #[.pointer (some ⟨sb, 0, none⟩)] 99) := by rw [hw0]; exact blk_alloc (blk_alloc (new_at w _ _ rfl) _) _
  have g2 : w0.heap[w.heap.size + 1]? = some (.cells #[.int .i64 o.kind, .int .i64 o.surf, .int .i64 o.x, .int .i64 o.y, .int .i64 o.w, .int .i64 o.h, .slice po pn pc, .int .i64 o.mark] 72) := by rw [hw0]; exact blk_alloc (new_at _ _ _ (by simp)) _
  have g3 : w0.heap[w.heap.size + 2]? = some (.cells #[.int .i64 c, .int .i64 o.surf] 143) := by rw [hw0]; exact new_at _ _ _ (by simp)
  have hD := damage_do (h.below hB0) (fun k hk => Nat.lt_of_lt_of_le (hCl k hk) hB0.size) c o.surf (kchg l c o).2 w.heap.size (w.heap.size + 2) (w.heap.size + 1) (l' := (kchg l c o).1) (fun W hb => do1_any ((h.below hB0).below hb) hCU (fun k hk => Nat.lt_of_lt_of_le (hCl k hk) (Nat.le_trans hB0.size hb.size)) hl c o po pn pc ((hR.below hB0).below hb) hf ((hb.block _ (lt_of_heap g1)).trans g1) ((hb.block _ (lt_of_heap g3)).trans g3) ((hb.block _ (lt_of_heap g2)).trans g2))
  have hD' : Calls Try.prog 90 #[.pointer (some ⟨sb, 0, none⟩), .agg #[.int .i64 c, .int .i64 o.surf], .func (.func 111) #[] #[.pointer (some ⟨w.heap.size, 0, none⟩), .pointer (some ⟨w.heap.size + 2, 0, none⟩), .pointer (some ⟨w.heap.size + 1, 0, none⟩)]] w0 (DmgPost C U w sb beh (kchg l c o).1 (dmgO l c o)) := hD.mono (fun e w' hp => DmgPost.from hp hB0)
  have HD := hide hD'
  obtain ⟨P, hP⟩ : ∃ P, P = DmgPost C U w sb beh (kchg l c o).1 (dmgO l c o) := ⟨_, rfl⟩
  rw [← hP] at HD ⊢
  have HW0 := hide hw0
  have HP := hide hP
  unfold ovalO oval
  clear hD hD' g1 g2 g3 hB0 h hR hf hP hw0
  go_enter Try.func87, Try.ntmps87
  go_wp2_with (go_at_call 90; rw [← unhide HW0]; refine (unhide HD).mono ?_; rintro e w' hp; rw [unhide HP] at hp; obtain ⟨⟨v, C', rfl, hr⟩, hq⟩ := hp; have HR := hide hr; have HQ := hide hq; clear hr hq)
  rw [unhide HP]
  exact ⟨⟨v, C', rfl, unhide HR⟩, unhide HQ⟩
end Go.Proofs.Ytfnockbgkcgpkaa
