import Derived.Test.YtfnockbgkcgpkaaKaap
import Derived.Test.YtfnockbgkcgpkaaKaau
import Derived.Test.YtfnockbgkcgpkaaKaav
import Derived.Deep.RegionHeld3
set_option linter.all false
namespace Go.Proofs.Ytfnockbgkcgpkaa
open Go.RowKit Go.Proofs.Panes
set_option maxRecDepth 100000

theorem info_boolq : (Try.prog.info? 4).map (fun i => (i.zero, i.size, i.bytes)) = some (some (.bool false), 1, 1) := by kernel_rfl
/-- make([]bool, n). -/
theorem make_bools (n : Nat) (hn : n ≤ 1000000) (u : World) : (Instr.makeSlice 50 (.int .i64 (n : Int)) (.int .i64 (n : Int))).run Try.prog u = .ok (.slice (some ⟨u.heap.size, 0, none⟩) n n) (u.alloc (.cells (Array.replicate n (Value.bool false)) 4)) := by
  obtain ⟨i0, hi, hz0, hz1, hz2⟩ := info_parts info_boolq
  have h := run_make (P := Try.prog) u 50 4 i0 _ Try.underlying50 hi hz0 .i64 .i64 (n : Int) (n : Int) (by omega) (Int.le_refl _) (by rw [hz2]; omega) (by omega)
  have e : madeCells #[Value.bool false] n = Array.replicate n (Value.bool false) := by
    apply Array.ext'
    rw [toList_madeCells_one, Array.toList_replicate]
  simp only [Int.toNat_natCast, hz1] at h
  rw [← e]
  simpa [Value.cells] using h
theorem ownN_heap {w : World} {base g n : Nat} {l : List Int} (h : OwnN w base (.slice (some ⟨g, 0, none⟩) n n) l) (hl : l.length = n) : w.heap[g]? = some (.cells (l.map (Value.int .i64)).toArray 3 (0, 0)) ∧ base ≤ g := by
  rcases h.2 with ⟨e, _⟩ | ⟨k, c, cur, e, hb, hk, hc, hm, hz, ht⟩
  · cases e
  · simp only [Value.slice.injEq, Option.some.injEq, Addr.mk.injEq, and_true] at e
    obtain ⟨rfl, _, rfl⟩ := e
    refine ⟨?_, hb⟩
    rw [List.take_of_length_le (by simp [hz]; omega)] at ht
    rw [hk, ← ht]

/-- The frames at first. -/
def newF (W H : Nat) (n : Int) : Frs := { W := W, H := H, b := fun _ => ⟨List.replicate (W * H) n, List.replicate (W * H) false, 0⟩, front := 0, frame := none, due := false, marks := [] }
def halfc (b : Nat → Nat) (N k i : Nat) : Value := if i < k then pcell (b i) N else .slice none 0 0
def fnCells (W H N : Nat) (pb st : Nat → Nat) (kp ks : Nat) : Array Value :=
  #[.int .i64 0, .int .i64 0, .int .i64 (W : Int), .int .i64 (H : Int), halfc pb N kp 0, halfc st N ks 0, .int .i64 0, halfc pb N kp 1, halfc st N ks 1, .int .i64 0, halfc pb N kp 2, halfc st N ks 2, .int .i64 0, .int .i64 0, .pointer none, .bool false, .slice none 0 0]
/-- The frames, while they are made. -/
structure FrN (w wr : World) (fb W H N : Nat) (n : Int) (pb st : Nat → Nat) (kp ks : Nat) : Prop where
  blk : wr.heap[fb]? = some (.cells (fnCells W H N pb st kp ks) 139 (0, 0))
  px : ∀ i, i < kp → wr.heap[pb i]? = some (.cells ((List.replicate N n).map (Value.int .i64)).toArray 3 (0, 0)) ∧ w.heap.size ≤ pb i
  stl : ∀ i, i < ks → wr.heap[st i]? = some (.cells ((List.replicate N false).map Value.bool).toArray 4 (0, 0)) ∧ w.heap.size ≤ st i
  pinj : ∀ i j, i < kp → j < kp → pb i = pb j → i = j
  sinj : ∀ i j, i < ks → j < ks → st i = st j → i = j
  bel : Below w.heap.size w wr
  ge : w.heap.size ≤ fb
def updN (f : Nat → Nat) (k q : Nat) : Nat → Nat := fun i => if i = k then q else f i
theorem fn_setP (W H N : Nat) (pb st : Nat → Nat) (k q : Nat) (hk : k < 3) : (fnCells W H N pb st k k).setIfInBounds (4 + k * 3) (pcell q N) = fnCells W H N (updN pb k q) st (k + 1) k := by
  have : k = 0 ∨ k = 1 ∨ k = 2 := by omega
  rcases this with e | e | e <;> subst e <;> simp [fnCells, halfc, updN]
theorem fn_setS (W H N : Nat) (pb st : Nat → Nat) (k q : Nat) (hk : k < 3) : (fnCells W H N pb st (k + 1) k).setIfInBounds (4 + k * 3 + 1) (pcell q N) = fnCells W H N pb (updN st k q) (k + 1) (k + 1) := by
  have : k = 0 ∨ k = 1 ∨ k = 2 := by omega
  rcases this with e | e | e <;> subst e <;> simp [fnCells, halfc, updN]
theorem FrN.below {w wr w2 : World} {fb W H N : Nat} {n : Int} {pb st : Nat → Nat} {kp ks : Nat} (h : FrN w wr fb W H N n pb st kp ks) (hb : Below wr.heap.size wr w2) : FrN w w2 fb W H N n pb st kp ks :=
  ⟨(hb.block _ (lt_of_heap h.blk)).trans h.blk, fun i hi => ⟨(hb.block _ (lt_of_heap (h.px i hi).1)).trans (h.px i hi).1, (h.px i hi).2⟩, fun i hi => ⟨(hb.block _ (lt_of_heap (h.stl i hi).1)).trans (h.stl i hi).1, (h.stl i hi).2⟩, h.pinj, h.sinj, h.bel.trans (hb.mono h.bel.size), h.ge⟩
theorem FrN.stepP {w wr w3 : World} {fb W H N : Nat} {n : Int} {pb st : Nat → Nat} {k q : Nat} (h : FrN w wr fb W H N n pb st k k) (hk : k < 3) {base : Nat} (hbs : wr.heap.size ≤ base) (hb : Below wr.heap.size wr w3) (hq : OwnN w3 base (.slice (some ⟨q, 0, none⟩) N N) (List.replicate N n)) : FrN w (w3.setCell ⟨fb, 4 + k * 3, none⟩ (pcell q N)) fb W H N n (updN pb k q) st (k + 1) k := by
  have h3 := h.below hb
  obtain ⟨hq1, hq2⟩ := ownN_heap hq (by simp)
  have hs : But (fun x => x = fb) w3 (w3.setCell ⟨fb, 4 + k * 3, none⟩ (pcell q N)) := (But.refl (fun x => x = fb) w3).setCell (p := ⟨fb, 4 + k * 3, none⟩) (.inl rfl) _
  have hne : ∀ {x : Nat} {cs : Array Value} {t : TypeId} {fz : Nat × Nat}, w3.heap[x]? = some (.cells cs t fz) → t ≠ 139 → ¬ x = fb := fun hx ht e => by rw [e, h3.blk] at hx; simp at hx; exact ht hx.2.1.symm
  refine ⟨?_, fun i hi => ?_, fun i hi => ⟨hs.heap (h3.stl i hi).1 (hne (h3.stl i hi).1 (by decide)), (h3.stl i hi).2⟩, fun i j hi hj => ?_, h.sinj, h3.bel.setCell (p := ⟨fb, 4 + k * 3, none⟩) h.ge _, h.ge⟩
  · rw [blk_set (i := 4 + k * 3) h3.blk, fn_setP W H N pb st k q hk]
  · unfold updN
    by_cases e : i = k
    · rw [if_pos e]
      exact ⟨hs.heap hq1 (hne hq1 (by decide)), Nat.le_trans h.bel.size (by omega)⟩
    · rw [if_neg e]
      have := h3.px i (by omega)
      exact ⟨hs.heap this.1 (hne this.1 (by decide)), this.2⟩
  · unfold updN
    by_cases e : i = k <;> by_cases e' : j = k
    · intro _; omega
    · rw [if_pos e, if_neg e']; intro c; have := lt_of_heap (h.px j (by omega)).1; omega
    · rw [if_neg e, if_pos e']; intro c; have := lt_of_heap (h.px i (by omega)).1; omega
    · rw [if_neg e, if_neg e']; exact h.pinj i j (by omega) (by omega)
theorem FrN.stepS {w wr : World} {fb W H N : Nat} {n : Int} {pb st : Nat → Nat} {k : Nat} (h : FrN w wr fb W H N n pb st (k + 1) k) (hk : k < 3) : FrN w ((wr.setCell ⟨fb, 4 + k * 3 + 1, none⟩ (pcell wr.heap.size N)).alloc (.cells (Array.replicate N (Value.bool false)) 4)).drew fb W H N n pb (updN st k wr.heap.size) (k + 1) (k + 1) := by
  obtain ⟨w2, hw2⟩ : ∃ w2 : World, w2 = ((wr.setCell ⟨fb, 4 + k * 3 + 1, none⟩ (pcell wr.heap.size N)).alloc (.cells (Array.replicate N (Value.bool false)) 4)).drew := ⟨_, rfl⟩
  rw [← hw2]
  have hs : But (fun x => x = fb) wr w2 := by rw [hw2]; exact (((But.refl (fun x => x = fb) wr).setCell (p := ⟨fb, 4 + k * 3 + 1, none⟩) (.inl rfl) _).alloc _).drew
  have hne : ∀ {x : Nat} {cs : Array Value} {t : TypeId} {fz : Nat × Nat}, wr.heap[x]? = some (.cells cs t fz) → t ≠ 139 → ¬ x = fb := fun hx ht e => by rw [e, h.blk] at hx; simp at hx; exact ht hx.2.1.symm
  refine ⟨?_, fun i hi => ⟨hs.heap (h.px i hi).1 (hne (h.px i hi).1 (by decide)), (h.px i hi).2⟩, fun i hi => ?_, h.pinj, fun i j hi hj => ?_, h.bel.trans (hs.below h.bel.size (fun x e => by rw [e]; exact h.ge)), h.ge⟩
  · rw [← fn_setS W H N pb st k wr.heap.size hk, hw2]
    exact blk_alloc (blk_set (i := 4 + k * 3 + 1) h.blk _) _
  · unfold updN
    by_cases e : i = k
    · rw [if_pos e]
      refine ⟨?_, h.bel.size⟩
      rw [hw2]
      have : (wr.setCell ⟨fb, 4 + k * 3 + 1, none⟩ (pcell wr.heap.size N)).heap.size = wr.heap.size := by simp [World.setCell]
      have h2 := new_at (wr.setCell ⟨fb, 4 + k * 3 + 1, none⟩ (pcell wr.heap.size N)) (.cells (Array.replicate N (Value.bool false)) 4) wr.heap.size this.symm
      have e2 : ((wr.setCell ⟨fb, 4 + k * 3 + 1, none⟩ (pcell wr.heap.size N)).alloc (.cells (Array.replicate N (Value.bool false)) 4)).drew.heap[wr.heap.size]? = some (.cells (Array.replicate N (Value.bool false)) 4) := h2
      rw [e2]
      simp
    · rw [if_neg e]
      have := h.stl i (by omega)
      exact ⟨hs.heap this.1 (hne this.1 (by decide)), this.2⟩
  · unfold updN
    by_cases e : i = k <;> by_cases e' : j = k
    · intro _; omega
    · rw [if_pos e, if_neg e']; intro c; have := lt_of_heap (h.stl j (by omega)).1; omega
    · rw [if_neg e, if_pos e']; intro c; have := lt_of_heap (h.stl i (by omega)).1; omega
    · rw [if_neg e, if_neg e']; exact h.sinj i j (by omega) (by omega)
theorem FrN.cell {w wr : World} {fb W H N : Nat} {n : Int} {pb st : Nat → Nat} {kp ks : Nat} (h : FrN w wr fb W H N n pb st kp ks) (i : Nat) (hi : i < 17) : ∃ u, wr.cell? ⟨fb, i, none⟩ = some u := by
  rw [blk_cell h.blk]
  exact ⟨(fnCells W H N pb st kp ks)[i]'(by simp [fnCells]; omega), by simp⟩
/-- What is new. -/
def fresh (w w' : World) : Nat → Prop := fun k => w.heap.size ≤ k ∧ k < w'.heap.size
theorem FrN.done {w wr : World} {fb W H : Nat} {n : Int} {pb st : Nat → Nat} (h : FrN w wr fb W H (W * H) n pb st 3 3) : Fr (fresh w wr) wr fb (newF W H n) ⟨pb, st, 0, .slice none 0 0, .slice none 0 0, .slice none 0 0⟩ := by
  refine ⟨?_, ⟨h.ge, lt_of_heap h.blk⟩, fun i hi => ?_, fun i hi => ?_, h.pinj, h.sinj, ⟨rfl, .inl ⟨rfl, rfl⟩⟩, fun k hk => by simp [Value.ownBlock] at hk, fun g hg => by simp [newF] at hg⟩
  · rw [h.blk]
    simp [fnCells, frcells, halfc, newF, fptr]
  · obtain ⟨h1, h2⟩ := h.px i hi
    exact ⟨h1, ⟨h2, lt_of_heap h1⟩, by simp [newF]⟩
  · obtain ⟨h1, h2⟩ := h.stl i hi
    exact ⟨h1, ⟨h2, lt_of_heap h1⟩, by simp [newF]⟩

def FrNew (w w' : World) (W H : Nat) (n : Int) (fb : Nat) : Prop := (∃ v, Fr (fresh w w') w' fb (newF W H n) v) ∧ Below w.heap.size w w'
set_option maxHeartbeats 4000000 in
theorem framesNew_any (W H : Nat) (n : Int) (w : World) (hb : 1 ≤ W ∧ W ≤ 16 ∧ 1 ≤ H ∧ H ≤ 16) : Calls Try.prog 72 #[.int .i64 (W : Int), .int .i64 (H : Int), .int .i64 n] w fun e w' => ∃ fb, e = .returned (.pointer (some ⟨fb, 0, none⟩)) ∧ FrNew w w' W H n fb := by
  have hWH : 1 ≤ W * H ∧ W * H ≤ 256 := by
    have := Nat.mul_le_mul (show W ≤ 16 by omega) (show H ≤ 16 by omega)
    have := Nat.mul_le_mul (show 1 ≤ W by omega) (show 1 ≤ H by omega)
    omega
  obtain ⟨N, hN⟩ : ∃ N, N = W * H := ⟨_, rfl⟩
  have hmul : IntKind.i64.wrap ((W : Int) * (H : Int)) = (N : Int) := by
    rw [hN, IntKind.wrap_i64]
    have : ((W : Int) * (H : Int)) = ((W * H : Nat) : Int) := by simp
    rw [this]
    omega
  have hmk := make_bools N (by omega)
  rw [← hN] at hWH
  have CR : Hid (∀ g w, w.cell? ⟨g, 0, none⟩ = some (.int .i64 n) → g < w.heap.size → Calls Try.prog 100 #[.slice (some ⟨g, 0, none⟩) 1 1, .int .i64 (N : Int)] w fun e w' => ∃ q, e = .returned (.slice (some ⟨q, 0, none⟩) N N) ∧ OwnN w' w.heap.size (.slice (some ⟨q, 0, none⟩) N N) (List.replicate N n) ∧ Below w.heap.size w w') := fun g w h1 h2 => repeat_any g N n w hWH h1 h2
  have HNN := hide hN
  clear hN hb
  go_enter Try.func72, Try.ntmps72
  have hI0 : FrN w (w.alloc (.cells #[.int .i64 0, .int .i64 0, .int .i64 W, .int .i64 H, .slice none 0 0, .slice none 0 0, .int .i64 0, .slice none 0 0, .slice none 0 0, .int .i64 0, .slice none 0 0, .slice none 0 0, .int .i64 0, .int .i64 0, .pointer none, .bool false, .slice none 0 0] 139)) w.heap.size W H N n (fun _ => 0) (fun _ => 0) 0 0 := ⟨new_at _ _ _ rfl, fun i hi => by omega, fun i hi => by omega, fun i j hi => by omega, fun i j hi => by omega, (Below.refl _ w).alloc (Nat.le_refl _) _, Nat.le_refl _⟩
  have HI0 := hide hI0
  clear hI0
  go_wp2
  go_loopw [14] (fun i wr => ∃ (k : Nat) (pb st : Nat → Nat), k ≤ 3 ∧ i = .int .i64 k ∧ FrN w wr w.heap.size W H N n pb st k k) (fun i _ => 3 - (intOf i).toNat)
  case atStart => exact ⟨0, _, _, by omega, rfl, unhide HI0⟩
  case round =>
    rename World => wq
    obtain ⟨k, pb, st, hk, rfl, hI⟩ := hrel
    clear HI0
    by_cases hlt : k < 3
    · have i0 : (0 : Int) ≤ (k : Int) := by omega
      have i1 : (k : Int) < 3 := by omega
      obtain ⟨u4, hu4⟩ := hI.cell (4 + k * 3) (by omega)
      obtain ⟨u5, hu5⟩ := hI.cell (4 + k * 3 + 1) (by omega)
      have hz : ∀ i, wq.frozen? ⟨w.heap.size, i, none⟩ = false := fun i => blk_thaw hI.blk i
      have lf : w.heap.size < wq.heap.size := World.block_lt_of_cell? wq _ hu4
      have HI := hide hI
      clear hI
      have lf' : w.heap.size ≠ wq.heap.size := by omega
      go_wp2_with fail
      go_region_held3 (fun _ => True) (trivial)
        ((
          go_at_call 100
          refine ((unhide CR) wq.heap.size _ (by simp) (by simp)).mono ?_
          rintro e w3 ⟨q, rfl, hq, hb3⟩
          have hb3' : Below wq.heap.size wq w3 := (((Below.refl _ wq).alloc (Nat.le_refl _) _).drew).trans (hb3.mono (by simp))
          have hI3 := (unhide HI).below hb3'
          obtain ⟨u4', hu4'⟩ := hI3.cell (4 + k * 3) (by omega)
          have hz3 : ∀ i, w3.frozen? ⟨w.heap.size, i, none⟩ = false := fun i => blk_thaw hI3.blk i
          have HI3 := hide ((unhide HI).stepP hlt (by simp) hb3' hq)
          clear hb3 hb3' hI3 hq))
      have hI4 := unhide HI3
      unfold pcell at hI4
      generalize w3.setCell ⟨w.heap.size, 4 + k * 3, none⟩ (.slice (some ⟨q, 0, none⟩) N N) = w4 at *
      obtain ⟨u6, hu6⟩ := hI4.cell (4 + k * 3 + 1) (by omega)
      have hz4 : ∀ i, w4.frozen? ⟨w.heap.size, i, none⟩ = false := fun i => blk_thaw hI4.blk i
      have l4 : w.heap.size < w4.heap.size := World.block_lt_of_cell? w4 _ hu6
      have HI4 := hide (hI4.stepS hlt)
      clear hI4 HI3 HI hu4' hz3 hu4 hu5 hz lf lf' CR
      go_wp2
      go_region
      go_wp2
      go_roundw
      case rel => exact ⟨k + 1, _, _, by omega, by go_num, unhide HI4⟩
      case measure => simp [intOf]; omega
    · have i1 : ¬ (k : Int) < 3 := by omega
      have e3 : k = 3 := by omega
      have HI : Hid (FrN w wq w.heap.size W H N n pb st 3 3) := by rw [e3] at hI; exact hI
      clear hI e3
      go_wp2
      go_ret
      have hI := unhide HI
      rw [unhide HNN] at hI
      exact ⟨_, rfl, ⟨_, hI.done⟩, hI.bel⟩
end Go.Proofs.Ytfnockbgkcgpkaa
set_option linter.all false
namespace Go.Proofs.Ytfnockbgkcgpkaa
open Go.RowKit Go.Proofs.Panes
set_option maxRecDepth 100000

def ScNew (w w' : World) (n : Int) (sb : Nat) : Prop := (∀ U : Nat → Prop, ScnX (fresh w w') U w' sb n []) ∧ Below w.heap.size w w'
set_option maxHeartbeats 2000000 in
theorem sceneNew_any (n : Int) (w : World) : Calls Try.prog 71 #[.int .i64 n] w fun e w' => ∃ sb, e = .returned (.pointer (some ⟨sb, 0, none⟩)) ∧ ScNew w w' n sb := by
  have hmm : ∀ w, (Instr.makeMap 144 none).run Try.prog w = .ok (.map (some w.heap.size)) (w.alloc (.map #[] 0)) := fun w => rfl
  have hE : ScNew w ((w.alloc (.map #[] 0)).alloc (.cells #[.map (some w.heap.size), .slice none 0 0, .int .i64 n] 146)) n (w.heap.size + 1) := by
    refine ⟨fun U => ?_, ((Below.refl _ w).alloc (Nat.le_refl _) _).alloc (by simp) _⟩
    refine ⟨w.heap.size, .slice none 0 0, [], 0, fun _ _ => 0, fun _ _ => undef, ⟨?_, ?_⟩, ?_, ?_, fun k hk => by simp [Value.ownBlock] at hk, ⟨rfl, .inl ⟨rfl, rfl⟩⟩, fun s hs => by simp at hs, fun s hs => by simp at hs, by simp, fun e he => by simp at he, fun s hs => by simp at hs, by simp⟩
    · exact new_at _ _ _ (by simp)
    · exact blk_alloc (new_at w _ _ rfl) _
    · exact ⟨by simp, by simp⟩
    · exact ⟨Nat.le_refl _, by simp; omega⟩
  have HE := hide hE
  clear hE
  go_enter Try.func71, Try.ntmps71
  go_wp2
  go_ret
  exact ⟨_, rfl, unhide HE⟩

def FrontPost (w : World) (px : List Int) (e : Ending) (w' : World) : Prop := ∃ fv, e = .returned fv ∧ OwnN w' w.heap.size fv px ∧ Below w.heap.size w w'
set_option maxHeartbeats 2000000 in
theorem Front_any {C : Nat → Prop} {w : World} {b0 : Nat} {f : Frs} {v : Fl} (h : Fr C w b0 f v) (hfr : f.front < 3) (hn : f.W * f.H ≤ 1000) :
    Calls Try.prog 68 #[.pointer (some ⟨b0, 0, none⟩)] w (FrontPost w (f.b f.front).px) := by
  have c13 : w.cell? ⟨b0, 13, none⟩ = some (.int .i64 (f.front : Int)) := blk_cell h.blk 13
  obtain ⟨n, hnn⟩ : ∃ n, n = f.W * f.H := ⟨_, rfl⟩
  have cp : w.cell? ⟨b0, 4 + f.front * 3, none⟩ = some (.slice (some ⟨v.pb f.front, 0, none⟩) n n) := by
    rw [blk_cell h.blk, hnn]
    have : f.front = 0 ∨ f.front = 1 ∨ f.front = 2 := by omega
    rcases this with e | e | e <;> rw [e] <;> rfl
  obtain ⟨p1, p2, p3⟩ := h.px f.front hfr
  have HCL : Hid (∀ q, Calls Try.prog 99 #[.slice (some ⟨v.pb f.front, 0, none⟩) n n] (w.drewN q) (FrontPost w (f.b f.front).px)) := by
    intro q
    have := clN_any (w := w.drewN q) (b := v.pb f.front) (off := 0) (n := n) (cap := n) (xs := (f.b f.front).px.map (Value.int .i64)) (by rw [List.length_map, p3]; omega) (fun j u hj => by rw [Nat.zero_add]; exact (blk_cell p1 j).trans (by rw [List.getElem?_toArray]; exact hj)) (ints_one _) (by omega) (fun _ => lt_of_heap p1)
    refine this.mono ?_
    rintro e w' ⟨⟨cv, rfl, ho⟩, hb⟩
    refine ⟨cv, rfl, ?_, (below_drewN (Below.refl _ w) q).trans hb⟩
    unfold OwnN
    rw [p3, ← hnn]; exact ho
  clear p1 p2 p3 hnn hn h
  generalize (f.b f.front).px = px at *
  generalize v.pb f.front = pb at *
  generalize f.front = k at *
  have i0 : (0 : Int) ≤ (k : Int) := by omega
  have i1 : (k : Int) < 3 := by omega
  have lb : b0 < w.heap.size := World.block_lt_of_cell? w _ c13
  go_enter Try.func68, Try.ntmps68
  go_wp2_with fail
  go_region_held3 (fun w' => w'.cell? ⟨b0, 13, none⟩ = some (.int .i64 (k : Int)) ∧ w'.cell? ⟨b0, 4 + k * 3, none⟩ = some (.slice (some ⟨pb, 0, none⟩) n n)) (first | go_keep | exact ⟨c13, cp⟩ | exact unhide HS)
    ((go_at_call 99
      refine ((unhide HCL) 1).mono ?_
      rintro e w' ⟨fv, rfl, hp⟩
      have HS : Hid (w'.cell? ⟨b0, 13, none⟩ = some (.int .i64 (k : Int)) ∧ w'.cell? ⟨b0, 4 + k * 3, none⟩ = some (.slice (some ⟨pb, 0, none⟩) n n)) := ⟨(hp.2.cell lb).trans c13, (hp.2.cell lb).trans cp⟩
      have HP := hide hp
      clear hp))
  go_wp2
  go_ret
  exact ⟨_, rfl, unhide HP⟩
end Go.Proofs.Ytfnockbgkcgpkaa
