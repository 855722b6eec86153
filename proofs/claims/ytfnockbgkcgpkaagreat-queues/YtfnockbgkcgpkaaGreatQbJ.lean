import Derived.Test.YtfnockbgkcgpkaaGreatQbG
import Derived.Laws.MakeOwn
set_option linter.all false
namespace Go.Proofs.YtfnockbgkcgpkaaGreat
open Go.RowKit Go.Proofs.Panes
set_option maxRecDepth 100000
attribute [local go_sem ↓] Go.wp_at_zero Go.wp_at_succ

/-- May a configuration be? -/
def okCfg (c : Cfg) : Bool := inB c.w 1 16 && inB c.h 1 16 && inB c.clients 1 4 && inB c.queue 1 8 && inB c.most 1 300 && inB c.quantum c.most 600 && inB c.surfaces 1 4 && inB c.behind 1 4294967295
def cval (c : Cfg) : Value := .agg #[.int .i64 c.w, .int .i64 c.h, .int .i64 c.clients, .int .i64 c.queue, .int .i64 c.most, .int .i64 c.quantum, .int .i64 c.surfaces, .int .i64 c.behind]

set_option maxHeartbeats 4000000 in
theorem isConfig_any (c : Cfg) (w : World) : Calls Tryz.prog 73 #[cval c] w fun e w' => e = .returned (.bool (okCfg c)) ∧ Below w.heap.size w w' := by
  obtain ⟨a, b, d, e, f, g, h, i⟩ := c
  unfold cval okCfg
  simp only
  have hin : ∀ (n lo hi : Int) (w : World), Calls Tryz.prog 58 #[.int .i64 n, .int .i64 lo, .int .i64 hi] w fun e w' => e = .returned (.bool (inB n lo hi)) ∧ w' = w := fun n lo hi w => in_any n lo hi w
  have HIN := hide hin
  clear hin
  obtain ⟨b1, h1⟩ : ∃ b1, b1 = inB a 1 16 := ⟨_, rfl⟩
  obtain ⟨b2, h2⟩ : ∃ b1, b1 = inB b 1 16 := ⟨_, rfl⟩
  obtain ⟨b3, h3⟩ : ∃ b1, b1 = inB d 1 4 := ⟨_, rfl⟩
  obtain ⟨b4, h4⟩ : ∃ b1, b1 = inB e 1 8 := ⟨_, rfl⟩
  obtain ⟨b5, h5⟩ : ∃ b1, b1 = inB f 1 300 := ⟨_, rfl⟩
  obtain ⟨b6, h6⟩ : ∃ b1, b1 = inB g f 600 := ⟨_, rfl⟩
  obtain ⟨b7, h7⟩ : ∃ b1, b1 = inB h 1 4 := ⟨_, rfl⟩
  obtain ⟨b8, h8⟩ : ∃ b1, b1 = inB i 1 4294967295 := ⟨_, rfl⟩
  have c1 := hide ((unhide HIN) a 1 16)
  have c2 := hide ((unhide HIN) b 1 16)
  have c3 := hide ((unhide HIN) d 1 4)
  have c4 := hide ((unhide HIN) e 1 8)
  have c5 := hide ((unhide HIN) f 1 300)
  have c6 := hide ((unhide HIN) g f 600)
  have c7 := hide ((unhide HIN) h 1 4)
  have c8 := hide ((unhide HIN) i 1 4294967295)
  rw [← h1] at c1 ⊢
  rw [← h2] at c2 ⊢
  rw [← h3] at c3 ⊢
  rw [← h4] at c4 ⊢
  rw [← h5] at c5 ⊢
  rw [← h6] at c6 ⊢
  rw [← h7] at c7 ⊢
  rw [← h8] at c8 ⊢
  clear HIN h1 h2 h3 h4 h5 h6 h7 h8
  go_enter Tryz.func73, Tryz.ntmps73
  go_wp2_with (go_at_call 58; first
    | (refine ((unhide c1) _).mono ?_; rintro e w' ⟨rfl, rfl⟩; clear c1)
    | (refine ((unhide c2) _).mono ?_; rintro e w' ⟨rfl, rfl⟩; clear c2)
    | (refine ((unhide c3) _).mono ?_; rintro e w' ⟨rfl, rfl⟩; clear c3)
    | (refine ((unhide c4) _).mono ?_; rintro e w' ⟨rfl, rfl⟩; clear c4)
    | (refine ((unhide c5) _).mono ?_; rintro e w' ⟨rfl, rfl⟩; clear c5)
    | (refine ((unhide c6) _).mono ?_; rintro e w' ⟨rfl, rfl⟩; clear c6)
    | (refine ((unhide c7) _).mono ?_; rintro e w' ⟨rfl, rfl⟩; clear c7)
    | (refine ((unhide c8) _).mono ?_; rintro e w' ⟨rfl, rfl⟩; clear c8))
  all_goals go_ret
  all_goals refine ⟨by first | rfl | simp_all, ?_⟩
  all_goals repeat (first | exact Below.refl _ _ | refine Below.alloc ?_ (Nat.le_refl _) _)

/-- make([]int, n). -/
theorem make_intsq (n : Nat) (hn : n ≤ 17592186044416) (u : World) : (Instr.makeSlice 50 (.int .i64 (n : Int)) (.int .i64 (n : Int))).run Tryz.prog u = .ok (.slice (some ⟨u.heap.size, 0, none⟩) n n) (u.alloc (.cells (Array.replicate n (Value.int .i64 0)) 3)) := by
  obtain ⟨i0, hi, hz0, hz1, hz2⟩ := info_parts info_int
  have h := run_make (P := Tryz.prog) u 50 3 i0 _ Tryz.underlying50 hi hz0 .i64 .i64 (n : Int) (n : Int) (by omega) (Int.le_refl _) (by rw [hz2]; omega) (by omega)
  have e : madeCells #[Value.int .i64 0] n = Array.replicate n (Value.int .i64 0) := by
    apply Array.ext'
    rw [toList_madeCells_one, Array.toList_replicate]
  simp only [Int.toNat_natCast, hz1] at h
  rw [← e]
  simpa [Value.cells] using h

/-- A screen without surfaces. -/
structure Bare (w : World) (sp : Nat) (c : Cfg) (cv : Value) (cs : Array Value) : Prop where
  blk : w.heap[sp]? = some (.cells cs 121)
  size : cs.size = 29
  c0 : cs[0]? = some (.int .i64 c.w)
  c1 : cs[1]? = some (.int .i64 c.h)
  c2 : cs[2]? = some (.int .i64 c.clients)
  c3 : cs[3]? = some (.int .i64 c.queue)
  c4 : cs[4]? = some (.int .i64 c.most)
  c5 : cs[5]? = some (.int .i64 c.quantum)
  c6 : cs[6]? = some (.int .i64 c.surfaces)
  c7 : cs[7]? = some (.int .i64 c.behind)
  c8 : cs[8]? = some cv
  c9 : cs[9]? = some (.slice none 0 0)
theorem Bare.put {w : World} {sp : Nat} {c : Cfg} {cv : Value} {cs : Array Value} (h : Bare w sp c cv cs) (i : Nat) (hi : 10 ≤ i) (u : Value) : Bare (w.setCell ⟨sp, i, none⟩ u) sp c cv (cs.setIfInBounds i u) := by
  have e : ∀ t, t < 10 → (cs.setIfInBounds i u)[t]? = cs[t]? := fun t ht => by rw [Array.getElem?_setIfInBounds]; rw [if_neg (by omega)]
  exact ⟨blk_set h.blk u, by simp [h.size], (e 0 (by omega)).trans h.c0, (e 1 (by omega)).trans h.c1, (e 2 (by omega)).trans h.c2, (e 3 (by omega)).trans h.c3, (e 4 (by omega)).trans h.c4, (e 5 (by omega)).trans h.c5, (e 6 (by omega)).trans h.c6, (e 7 (by omega)).trans h.c7, (e 8 (by omega)).trans h.c8, (e 9 (by omega)).trans h.c9⟩
theorem Bare.below {w w' : World} {sp : Nat} {c : Cfg} {cv : Value} {cs : Array Value} (h : Bare w sp c cv cs) (hb : Below w.heap.size w w') : Bare w' sp c cv cs :=
  ⟨(hb.block _ (lt_of_heap h.blk)).trans h.blk, h.size, h.c0, h.c1, h.c2, h.c3, h.c4, h.c5, h.c6, h.c7, h.c8, h.c9⟩

set_option maxHeartbeats 4000000 in
theorem picture_bare {w : World} {sp : Nat} {c : Cfg} {cv : Value} {cs : Array Value} (h : Bare w sp c cv cs) (W H : Nat) (hW : c.w = W) (hH : c.h = H) (hb : W ≤ 16 ∧ H ≤ 16) :
    Calls Tryz.prog 74 #[.pointer (some ⟨sp, 0, none⟩)] w fun e w' => ∃ g n, e = .returned (.slice (some ⟨g, 0, none⟩) n n) ∧ Below w.heap.size w w' := by
  have e0 : w.cell? ⟨sp, 0, none⟩ = some (.int .i64 (W : Int)) := by rw [blk_cell h.blk, h.c0, hW]
  have e1 : w.cell? ⟨sp, 1, none⟩ = some (.int .i64 (H : Int)) := by rw [blk_cell h.blk, h.c1, hH]
  have hsp := lt_of_heap h.blk
  have hWH : W * H ≤ 256 := by
    have := Nat.mul_le_mul hb.1 hb.2
    omega
  obtain ⟨N, hN⟩ : ∃ N, N = W * H := ⟨_, rfl⟩
  have hmul : IntKind.i64.wrap ((W : Int) * (H : Int)) = (N : Int) := by
    rw [hN, IntKind.wrap_i64]
    have : ((W : Int) * (H : Int)) = ((W * H : Nat) : Int) := by simp
    rw [this]
    omega
  have hmk := make_intsq N (by omega)
  have HH := hide h
  have hN' : N ≤ 256 := by omega
  clear h hN hWH
  go_enter Tryz.func74, Tryz.ntmps74
  go_wp2
  go_region
  go_wp2
  go_loopw [4] (fun i wr => ∃ k : Nat, k ≤ N ∧ i = .int .i64 k ∧ Below w.heap.size w wr ∧ ∃ cur, wr.heap[w.heap.size]? = some (.cells cur 3) ∧ cur.size = N) (fun i _ => N - (intOf i).toNat)
  case atStart => exact ⟨0, Nat.zero_le _, rfl, ((Below.refl _ w).alloc (Nat.le_refl _) _).drew, _, new_at _ _ _ rfl, by simp⟩
  case round =>
    rename World => wq
    obtain ⟨k, hk, rfl, hbel, cur, hcur, hsz⟩ := hrel
    by_cases hlt : k < N
    · have hB := (unhide HH).blk
      have f7 : wq.cell? ⟨sp, 7, none⟩ = some (.int .i64 c.behind) := (hbel.cell hsp).trans (by rw [blk_cell hB, (unhide HH).c7])
      have f9 : wq.cell? ⟨sp, 9, none⟩ = some (.slice none 0 0) := (hbel.cell hsp).trans (by rw [blk_cell hB, (unhide HH).c9])
      obtain ⟨u, hu⟩ : ∃ u, cur[k]? = some u := ⟨cur[k]'(by omega), by simp⟩
      have fk : wq.cell? ⟨w.heap.size, k, none⟩ = some u := by rw [blk_cell hcur, hu]
      have ff : ∀ t, wq.frozen? ⟨w.heap.size, t, none⟩ = false := blk_thaw hcur
      have i0 : (0 : Int) ≤ (k : Int) := by omega
      have i1 : (k : Int) < (N : Int) := by omega
      have hne : sp ≠ w.heap.size := by omega
      have HC := hide hcur
      have HB := hide hbel
      clear hB hcur hbel hu e0 e1 hmul hmk
      go_wp2
      go_loopw [5] (fun i wr => i = .int .i64 0 ∧ wr.cell? ⟨sp, 9, none⟩ = some (.slice none 0 0) ∧ Below w.heap.size w wr ∧ ∃ cur, wr.heap[w.heap.size]? = some (.cells cur 3) ∧ cur.size = N) (fun _ _ => 0)
      case atStart =>
        refine ⟨rfl, (World.cell?_of_block (Below.heap_setCell _ _ _ _ hne)).trans f9, (unhide HB).setCell (Nat.le_refl _) _, _, blk_set (unhide HC) _, by simp [hsz]⟩
      case round =>
        rename World => wp
        clear HC HB f7 f9 fk ff
        obtain ⟨rfl, f9, hbel, cur', hcur', hsz'⟩ := hrel
        have HB := hide hbel
        have HC := hide hcur'
        clear hbel hcur'
        go_wp2
        go_roundw
        case rel => exact ⟨k + 1, by omega, by go_num, unhide HB, cur', unhide HC, hsz'⟩
        case measure => simp [intOf]; omega
    · have i1 : ¬ (k : Int) < (N : Int) := by omega
      have HB := hide hbel
      clear hbel hcur e0 e1
      go_wp2
      go_ret
      exact ⟨⟨_, _, rfl⟩, unhide HB⟩
end Go.Proofs.YtfnockbgkcgpkaaGreat
