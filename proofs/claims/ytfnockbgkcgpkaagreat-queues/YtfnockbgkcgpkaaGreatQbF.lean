import Derived.Test.YtfnockbgkcgpkaaGreatQbE
import Derived.Laws.MakeOwn
set_option linter.all false
namespace Go.Proofs.YtfnockbgkcgpkaaGreat
open Go.RowKit Go.Proofs.Panes
set_option maxRecDepth 100000
attribute [local go_sem ↓] Go.wp_at_zero Go.wp_at_succ

theorem info_boolq : (Tryz.prog.info? 4).map (fun i => (i.zero, i.size, i.bytes)) = some (some (.bool false), 1, 1) := by kernel_rfl
/-- make([]bool, n). -/
theorem make_bools (n : Nat) (hn : n ≤ 1000000) (u : World) : (Instr.makeSlice 116 (.int .i64 (n : Int)) (.int .i64 (n : Int))).run Tryz.prog u = .ok (.slice (some ⟨u.heap.size, 0, none⟩) n n) (u.alloc (.cells (Array.replicate n (Value.bool false)) 4)) := by
  obtain ⟨i0, hi, hz0, hz1, hz2⟩ := info_parts info_boolq
  have h := run_make (P := Tryz.prog) u 116 4 i0 _ Tryz.underlying116 hi hz0 .i64 .i64 (n : Int) (n : Int) (by omega) (Int.le_refl _) (by rw [hz2]; omega) (by omega)
  have e : madeCells #[Value.bool false] n = Array.replicate n (Value.bool false) := by
    apply Array.ext'
    rw [toList_madeCells_one, Array.toList_replicate]
  simp only [Int.toNat_natCast, hz1] at h
  rw [← e]
  simpa [Value.cells] using h
theorem own_bools (w : World) (n base : Nat) (hb : base ≤ w.heap.size) (hn : n ≤ 1000000) : OwnB (w.alloc (.cells (Array.replicate n (Value.bool false)) 4)) base (.slice (some ⟨w.heap.size, 0, none⟩) n n) (List.replicate n false) := by
  have h := World.ownsRow_lit (base := base) (e := 4) (size := 1) w (Array.replicate n (Value.bool false)) n hb (by unfold maxLen; omega) (by simp)
  unfold OwnB
  rw [List.length_replicate]
  simpa using h

/-- The least client number that none has. -/
def firstFree : List DCl → Option Nat
  | [] => none
  | c :: l => if c.there = false then some 0 else (firstFree l).map (· + 1)
theorem firstFree_some : ∀ (l : List DCl) (k : Nat) (c : DCl), (∀ (i : Nat) (d : DCl), i < k → l[i]? = some d → d.there = true) → l[k]? = some c → c.there = false → firstFree l = some k
  | [], k, c, _, h, _ => by simp at h
  | d :: l, 0, c, _, h, hc => by
    simp at h; subst h; simp [firstFree, hc]
  | d :: l, k + 1, c, hb, h, hc => by
    have hd := hb 0 d (by omega) rfl
    have ih := firstFree_some l k c (fun i x hi hx => hb (i + 1) x (by omega) (by simpa using hx)) (by simpa using h) hc
    simp [firstFree, hd, ih]
theorem firstFree_none : ∀ (l : List DCl), (∀ (i : Nat) (d : DCl), l[i]? = some d → d.there = true) → firstFree l = none
  | [], _ => rfl
  | d :: l, hb => by
    have hd := hb 0 d rfl
    have ih := firstFree_none l (fun i x hx => hb (i + 1) x (by simpa using hx))
    simp [firstFree, hd, ih]

/-- The clients' block, one client another one. -/
theorem cls_put {w : World} {cb : Nat} {cl : List DCl} {j : Nat} (h : w.heap[cb]? = some (.cells (dcells cl).toArray 123)) (c : DCl) (hj : j < cl.length) :
    ((((w.setCell ⟨cb, j * 4, none⟩ (.bool c.there)).setCell ⟨cb, j * 4 + 1, none⟩ c.q).setCell ⟨cb, j * 4 + 2, none⟩ (.int .i64 c.cr)).setCell ⟨cb, j * 4 + 3, none⟩ c.wv).heap[cb]? = some (.cells (dcells (cl.set j c)).toArray 123) := by
  have h1 := blk_set (i := j * 4) h (.bool c.there)
  have h2 := blk_set (i := j * 4 + 1) h1 c.q
  have h3 := blk_set (i := j * 4 + 2) h2 (.int .i64 c.cr)
  have h4 := blk_set (i := j * 4 + 3) h3 c.wv
  rw [h4, ← dcells_put cl j c hj]
  simp

theorem connect_end {w : World} {sp cb : Nat} {c : Cfg} {cl : List DCl} (h : DocSt w sp cb c cl) {k : Nat} (hk : k < cl.length) (S : Nat) (hS : S ≤ 1000000) :
    DocSt ((((((w.setCell ⟨cb, k * 4, none⟩ (.bool true)).setCell ⟨cb, k * 4 + 1, none⟩ (.slice none 0 0)).setCell ⟨cb, k * 4 + 2, none⟩ (.int .i64 0)).setCell ⟨cb, k * 4 + 3, none⟩ (.slice (some ⟨w.heap.size, 0, none⟩) S S)).alloc (.cells (Array.replicate S (Value.bool false)) 4)).drew) sp cb c (cl.set k ⟨true, .slice none 0 0, 0, .slice (some ⟨w.heap.size, 0, none⟩) S S⟩) ∧
    OwnB ((((((w.setCell ⟨cb, k * 4, none⟩ (.bool true)).setCell ⟨cb, k * 4 + 1, none⟩ (.slice none 0 0)).setCell ⟨cb, k * 4 + 2, none⟩ (.int .i64 0)).setCell ⟨cb, k * 4 + 3, none⟩ (.slice (some ⟨w.heap.size, 0, none⟩) S S)).alloc (.cells (Array.replicate S (Value.bool false)) 4)).drew) w.heap.size (.slice (some ⟨w.heap.size, 0, none⟩) S S) (List.replicate S false) ∧
    But (fun k => k = cb) w ((((((w.setCell ⟨cb, k * 4, none⟩ (.bool true)).setCell ⟨cb, k * 4 + 1, none⟩ (.slice none 0 0)).setCell ⟨cb, k * 4 + 2, none⟩ (.int .i64 0)).setCell ⟨cb, k * 4 + 3, none⟩ (.slice (some ⟨w.heap.size, 0, none⟩) S S)).alloc (.cells (Array.replicate S (Value.bool false)) 4)).drew) := by
  have hp := cls_put h.cls ⟨true, .slice none 0 0, 0, .slice (some ⟨w.heap.size, 0, none⟩) S S⟩ hk
  simp only at hp
  have hsz : ((((w.setCell ⟨cb, k * 4, none⟩ (.bool true)).setCell ⟨cb, k * 4 + 1, none⟩ (.slice none 0 0)).setCell ⟨cb, k * 4 + 2, none⟩ (.int .i64 0)).setCell ⟨cb, k * 4 + 3, none⟩ (.slice (some ⟨w.heap.size, 0, none⟩) S S)).heap.size = w.heap.size := by simp [World.setCell]
  have hB : But (fun k => k = cb) w ((((w.setCell ⟨cb, k * 4, none⟩ (.bool true)).setCell ⟨cb, k * 4 + 1, none⟩ (.slice none 0 0)).setCell ⟨cb, k * 4 + 2, none⟩ (.int .i64 0)).setCell ⟨cb, k * 4 + 3, none⟩ (.slice (some ⟨w.heap.size, 0, none⟩) S S)) := by
    have hS : ∀ (j : Nat) (u : Value) {v : World}, But (fun k => k = cb) w v → But (fun k => k = cb) w (v.setCell ⟨cb, j, none⟩ u) := fun j u v h => h.setCell (p := ⟨cb, j, none⟩) (.inl rfl) u
    exact hS _ _ (hS _ _ (hS _ _ (hS _ _ (But.refl _ w))))
  generalize (((w.setCell ⟨cb, k * 4, none⟩ (.bool true)).setCell ⟨cb, k * 4 + 1, none⟩ (.slice none 0 0)).setCell ⟨cb, k * 4 + 2, none⟩ (.int .i64 0)).setCell ⟨cb, k * 4 + 3, none⟩ (.slice (some ⟨w.heap.size, 0, none⟩) S S) = W at *
  obtain ⟨cs, hs, q⟩ := h.scr
  refine ⟨⟨⟨cs, ?_, by simpa using q⟩, ?_⟩, ?_, (hB.alloc _).drew⟩
  · exact (hB.alloc _).heap hs h.apart
  · exact blk_alloc hp _
  · have := own_bools W S w.heap.size (by omega) hS
    rw [hsz] at this
    exact World.ownsRow.drew this

set_option maxHeartbeats 4000000 in
theorem docConnect_any {w : World} {sp cb : Nat} {c : Cfg} {cl : List DCl} (h : DocSt w sp cb c cl) (S : Nat) (hS : c.surfaces = S) (hS4 : S ≤ 4) (hcl : cl.length ≤ 4) :
    Calls Tryz.prog 16 #[.pointer (some ⟨sp, 0, none⟩)] w fun e w' => (∃ k, firstFree cl = some k ∧ e = .returned (.tuple #[.int .i64 (k : Nat), .int .i64 0]) ∧ ∃ g, w.heap.size ≤ g ∧ DocSt w' sp cb c (cl.set k ⟨true, .slice none 0 0, 0, .slice (some ⟨g, 0, none⟩) S S⟩) ∧ OwnB w' w.heap.size (.slice (some ⟨g, 0, none⟩) S S) (List.replicate S false) ∧ But (fun k => k = cb) w w') ∨ (firstFree cl = none ∧ e = .returned (.tuple #[.int .i64 0, .int .i64 5]) ∧ w' = w) := by
  obtain ⟨cs, hs, q0, q1, q2, q3, q4, q5, q6, q7, q8⟩ := id h.scr
  have c8 : w.cell? ⟨sp, 8, none⟩ = some (.slice (some ⟨cb, 0, none⟩) cl.length cl.length) := by rw [blk_cell hs]; exact q8
  have c6 : w.cell? ⟨sp, 6, none⟩ = some (.int .i64 (S : Int)) := by rw [blk_cell hs, q6, hS]
  have hc := h.cls
  have hsp := lt_of_heap hs
  have hcb := lt_of_heap hc
  have hne := h.apart
  have hmk := make_bools S (by omega)
  have HH := hide h
  have HC := hide hc
  clear hs q0 q1 q2 q3 q4 q5 q6 q7 q8 h hc
  go_enter Tryz.func16, Tryz.ntmps16
  go_wp2
  go_loopw [2, 3, 4] (fun r2 r3 i wr => r2 = .int .i64 0 ∧ r3 = .int .i64 0 ∧ ∃ k : Nat, k ≤ cl.length ∧ i = .int .i64 k ∧ wr = w ∧ ∀ i d, i < k → cl[i]? = some d → d.there = true) (fun _ _ i _ => cl.length - (intOf i).toNat)
  case atStart => exact ⟨rfl, rfl, 0, Nat.zero_le _, rfl, rfl, fun i d hi => by omega⟩
  case round =>
    obtain ⟨rfl, rfl, k, hk, rfl, ew, hall⟩ := hrel
    have hall' := hide hall
    clear hall
    subst ew
    by_cases hlt : k < cl.length
    · obtain ⟨d, hd⟩ : ∃ d, cl[k]? = some d := ⟨cl[k], by simp [hlt]⟩
      obtain ⟨a0, a1, a2, a3⟩ := dcells_at cl k d hd
      have b0 : wr.cell? ⟨cb, k * 4, none⟩ = some (.bool d.there) := by rw [blk_cell (unhide HC)]; simpa using a0
      have b1 : wr.cell? ⟨cb, k * 4 + 1, none⟩ = some d.q := by rw [blk_cell (unhide HC)]; simpa using a1
      have b2 : wr.cell? ⟨cb, k * 4 + 2, none⟩ = some (.int .i64 d.cr) := by rw [blk_cell (unhide HC)]; simpa using a2
      have b3 : wr.cell? ⟨cb, k * 4 + 3, none⟩ = some d.wv := by rw [blk_cell (unhide HC)]; simpa using a3
      have bf : ∀ j, wr.frozen? ⟨cb, j, none⟩ = false := blk_thaw (unhide HC)
      have i0 : (0 : Int) ≤ (k : Int) := by omega
      have i1 : (k : Int) < (cl.length : Int) := by omega
      obtain ⟨th, hth⟩ : ∃ th, th = d.there := ⟨_, rfl⟩
      rw [← hth] at b0
      have HT := hide hth
      have HD := hide hd
      clear a0 a1 a2 a3 hth hd
      cases th with
      | true =>
        go_wp2
        go_roundw
        case rel =>
          refine ⟨rfl, rfl, k + 1, by omega, by go_num, by first | rfl | trivial, fun i x hi hx => ?_⟩
          rcases Nat.lt_or_ge i k with c | c
          · exact (unhide hall') i x c hx
          · have e : i = k := by omega
            subst e
            rw [unhide HD] at hx
            cases hx
            exact (unhide HT).symm
        case measure => simp [intOf]; omega
      | false =>
        go_wp2
        go_region
        go_wp2
        go_ret2
        exact .inl ⟨k, firstFree_some cl k d (unhide hall') (unhide HD) (unhide HT).symm, rfl, wr.heap.size, Nat.le_refl _, connect_end (unhide HH) hlt S (by omega)⟩
    · have i1 : ¬ (k : Int) < (cl.length : Int) := by omega
      go_wp2
      go_ret2
      refine .inr ⟨firstFree_none cl fun i d hd => (unhide hall') i d ?_ hd, rfl, rfl⟩
      have := (List.getElem?_eq_some_iff.1 hd).1
      omega
end Go.Proofs.YtfnockbgkcgpkaaGreat
