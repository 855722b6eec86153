import Derived.Test.YtfnockbgkcgpkaaGreatLawG
import Derived.BigRegion
import Derived.BigQuiet
import Derived.Deep.QuietTactic
set_option linter.all false
namespace Go.Proofs.YtfnockbgkcgpkaaGreat
open Go.RowKit Go.Proofs.Panes
set_option maxRecDepth 100000

theorem RAt.but {S : Nat → Prop} {w w' : World} (hb : But S w w') {b off : Nat} {r : Rc} (hlt : b < w.heap.size) (hs : ¬ S b) (h : RAt w b off r) : RAt w' b off r := by
  have e : ∀ o, w'.cell? ⟨b, o, none⟩ = w.cell? ⟨b, o, none⟩ := fun o => World.cell?_of_block (hb.block b hlt hs)
  exact ⟨(e _).trans h.1, (e _).trans h.2.1, (e _).trans h.2.2.1, (e _).trans h.2.2.2⟩
/-- It reads as a list, in blocks of U. -/
def RdU (U : Nat → Prop) (w : World) (v : Value) (l : List Rc) : Prop :=
  ∃ ao cap, v = .slice ao l.length cap ∧ l.length ≤ cap ∧ cap ≤ maxLen ∧ (l ≠ [] → ∃ b off, ao = some ⟨b, off, none⟩ ∧ U b ∧ b < w.heap.size ∧ ∀ j r, l[j]? = some r → RAt w b (off + j * 4) r)
theorem RdU.but {U S : Nat → Prop} {w w' : World} {v : Value} {l : List Rc} (h : RdU U w v l) (hb : But S w w') (hs : ∀ k, U k → ¬ S k) : RdU U w' v l := by
  obtain ⟨ao, cap, e, h1, h2, h3⟩ := h
  refine ⟨ao, cap, e, h1, h2, fun hne => ?_⟩
  obtain ⟨b, off, e, hu, hlt, hc⟩ := h3 hne
  exact ⟨b, off, e, hu, Nat.lt_of_lt_of_le hlt hb.size, fun j r hr => (hc j r hr).but hb hlt (hs b hu)⟩
theorem RdU.rd {U : Nat → Prop} {w : World} {v : Value} {l : List Rc} (h : RdU U w v l) : Rd w v l := by
  obtain ⟨ao, cap, e, h1, h2, h3⟩ := h
  refine ⟨ao, cap, e, h1, h2, fun hne => ?_⟩
  obtain ⟨b, off, e, _, hlt, hc⟩ := h3 hne
  exact ⟨b, off, e, hlt, hc⟩

def rm5 : Rc := ⟨-5, 0, 0, 0⟩
def Loan.full (x : Loan) : List Rc := x.l ++ [r77, r77, r77]
theorem Loan.full_len (x : Loan) : x.full.length = x.l.length + 3 := by simp [Loan.full]
theorem lcells_at : ∀ (l : List Loan) (j : Nat) (r : Loan), l[j]? = some r → (lcells l)[j * 2]? = some r.out ∧ (lcells l)[j * 2 + 1]? = some r.want
  | [], j, r, h => by simp at h
  | q :: l, 0, r, h => by
    simp at h; subst h
    show (lcell q ++ lcells l)[0]? = _ ∧ (lcell q ++ lcells l)[1]? = _
    simp [lcell]
  | q :: l, j + 1, r, h => by
    have h' : l[j]? = some r := by simpa using h
    have ih := lcells_at l j r h'
    have e : ∀ t, (lcells (q :: l))[(j + 1) * 2 + t]? = (lcells l)[j * 2 + t]? := by
      intro t
      show (lcell q ++ lcells l)[_]? = _
      rw [List.getElem?_append_right (by simp [lcell]; omega)]
      congr 1
      simp [lcell]; omega
    refine ⟨by have := e 0; simp only [Nat.add_zero] at this; rw [this]; exact ih.1, by rw [e 1]; exact ih.2⟩

/-- What is lent, as it was lent. -/
structure Lent (U : Nat → Prop) (B : Nat) (w : World) (ls : List Loan) : Prop where
  len : ∀ x ∈ ls, x.l.length ≤ 2000000
  far : ∀ x ∈ ls, ¬ U x.g
  rd : ∀ x ∈ ls, RdU U w x.want x.l
  own : ∀ x ∈ ls, Own w B x.out x.full
  apart : ls.Pairwise (fun x y => x.g ≠ y.g)

set_option maxHeartbeats 8000000 in
theorem lwhole_any (U : Nat → Prop) (mb base B : Nat) (lr : Value) (ls : List Loan) (w : World) (hm : w.heap[mb]? = some (.cells #[lr, .slice none 0 0, .slice none 0 0] 76)) (hL : OwnL w base lr ls) (hN : Lent U B w ls) (hls : ls.length ≤ 10) :
    Calls Tryz.prog 28 #[.pointer (some ⟨mb, 0, none⟩)] w fun e w' => e = .returned (.bool true) ∧ But (fun k => ∃ x ∈ ls, k = x.g) w w' := by
  obtain ⟨ro, rc, rfl⟩ := row_slice hL
  have HM := hide hm
  have HL := hide hL
  have HN := hide hN
  clear hm hL hN
  go_enter Tryz.func28, Tryz.ntmps28
  go_wp2
  go_loopw [3, 4] (fun ok i wr => ok = .bool true ∧ ∃ k : Nat, k ≤ ls.length ∧ i = .int .i64 k ∧ But (fun k => ∃ x ∈ ls, k = x.g) w wr ∧ ∀ x ∈ ls.drop k, Own wr B x.out x.full) (fun _ i _ => ls.length - (intOf i).toNat)
  case atStart => exact ⟨rfl, 0, Nat.zero_le _, rfl, But.refl _ _, by simpa using (unhide HN).own⟩
  case round =>
    rename World => wq
    obtain ⟨rfl, k, hk, rfl, hBut, hOwn⟩ := hrel
    have hodd : ∀ j, (∃ x ∈ ls, j = x.g) → ∃ cs fz, w.heap[j]? = some (.cells cs 46 fz) := fun j ⟨x, hx, e⟩ => by
      subst e
      rcases ((unhide HN).own x hx).2 with ⟨e, _⟩ | ⟨g, c, cur, e, _, hg, _⟩
      · cases e
      · simp only [Loan.out, Value.slice.injEq, Option.some.injEq, Addr.mk.injEq, and_true] at e
        obtain ⟨rfl, _⟩ := e
        exact ⟨_, _, hg⟩
    have hMr : wq.heap[mb]? = some (.cells #[.slice ro ls.length rc, .slice none 0 0, .slice none 0 0] 76) := hBut.heap (unhide HM) (fun h => by
      obtain ⟨cs, fz, e⟩ := hodd _ h
      rw [unhide HM] at e
      simp at e)
    have hLr := row_but (unhide HL) hBut (fun j hj h => by
      obtain ⟨cs, fz, e⟩ := hodd _ h
      exact row_kind (unhide HL) e (by decide) hj)
    have m0 : wq.cell? ⟨mb, 0, none⟩ = some (.slice ro ls.length rc) := blk_cell hMr 0
    have m1 : wq.cell? ⟨mb, 1, none⟩ = some (.slice none 0 0) := blk_cell hMr 1
    have m2 : wq.cell? ⟨mb, 2, none⟩ = some (.slice none 0 0) := blk_cell hMr 2
    by_cases hlt : k < ls.length
    · obtain ⟨x, hx⟩ : ∃ x, ls[k]? = some x := ⟨ls[k], by simp [hlt]⟩
      obtain ⟨g, c, e, _, _⟩ := World.ownsRow.form hLr (by omega)
      simp only [Value.slice.injEq, true_and] at e
      obtain ⟨rfl, rfl⟩ := e
      have x0 : wq.cell? ⟨g, k * 2, none⟩ = some x.out := by rw [World.ownsRow.cellAt hLr _ (by omega)]; exact (lcells_at ls k x hx).1
      have x1 : wq.cell? ⟨g, k * 2 + 1, none⟩ = some x.want := by rw [World.ownsRow.cellAt hLr _ (by omega)]; exact (lcells_at ls k x hx).2
      have hxm := List.mem_of_getElem? hx
      have hdrop : ls.drop k = x :: ls.drop (k + 1) := by
        obtain ⟨hk', e⟩ := List.getElem?_eq_some_iff.1 hx
        rw [List.drop_eq_getElem_cons hk', e]
      obtain ⟨wo, wc, ew, _⟩ := (unhide HN).rd x hxm
      simp only [Loan.out] at x0
      rw [ew] at x1
      have HB := hide hBut
      have HO := hide hOwn
      have HLr := hide hLr
      have HMr := hide hMr
      have HX := hide hx
      have HE := hide ew
      have HD := hide hdrop
      have Hodd := hide hodd
      clear hBut hOwn hLr hMr hx ew hdrop hodd
      have hpos : (0 : Int) ≤ (k : Int) := by omega
      have hlt' : (k : Int) < (ls.length : Int) := by omega
      have hfl := x.full_len
      have hnx := (unhide HN).len x hxm
      go_wp2
      go_loopw [3, 6] (fun ok i wv => ok = .bool true ∧ ∃ j : Nat, j ≤ x.l.length + 3 ∧ i = .int .i64 j ∧ Own wv B x.out (List.replicate j rm5 ++ x.full.drop j) ∧ wv.heap[wq.heap.size]? = some (.cells #[.slice (some ⟨x.g, 0, none⟩) (x.l.length + 3) (x.l.length + 3), .slice wo x.l.length wc] 148) ∧ But (fun k => ∃ x ∈ ls, k = x.g) w wv ∧ ∀ y ∈ ls.drop (k + 1), Own wv B y.out y.full) (fun _ i _ => x.l.length + 3 - (intOf i).toNat)
      case atStart =>
        refine ⟨rfl, 0, Nat.zero_le _, rfl, ?_, new_at _ _ _ rfl, (unhide HB).alloc _, fun y hy => World.ownsRow.alloc ((unhide HO) y (by rw [unhide HD]; exact List.mem_cons_of_mem _ hy)) _⟩
        simpa using World.ownsRow.alloc ((unhide HO) x (by rw [unhide HD]; simp)) _
      case round =>
        obtain ⟨rfl, j, hj, rfl, hO, hbx, hBut, hOth⟩ := hrel
        have b0 : wr.cell? ⟨wq.heap.size, 0, none⟩ = some (.slice (some ⟨x.g, 0, none⟩) (x.l.length + 3) (x.l.length + 3)) := blk_cell hbx 0
        have b1 : wr.cell? ⟨wq.heap.size, 1, none⟩ = some (.slice wo x.l.length wc) := blk_cell hbx 1
        by_cases hlj : j < x.l.length + 3
        · obtain ⟨r, hr⟩ : ∃ r, x.full[j]? = some r := ⟨x.full[j]'(by omega), by simp⟩
          have hdj : x.full.drop j = r :: x.full.drop (j + 1) := by
            obtain ⟨hk', e⟩ := List.getElem?_eq_some_iff.1 hr
            rw [List.drop_eq_getElem_cons hk', e]
          rw [hdj] at hO
          have hrl : (List.replicate j rm5).length = j := by simp
          have htot : x.l.length + 3 = (List.replicate j rm5 ++ r :: x.full.drop (j + 1)).length := by simp; omega
          have hP := own_put rm5 hO htot
          obtain ⟨c1, c2, c3, c4⟩ := own_at hO (j := j) (r := r) (by rw [List.getElem?_append_right (by omega)]; simp)
          have f1 := own_thaw hO htot (j * 4)
          have f2 := own_thaw hO htot (j * 4 + 1)
          have f3 := own_thaw hO htot (j * 4 + 2)
          have f4 := own_thaw hO htot (j * 4 + 3)
          rw [hrl] at hP
          have hP' : Own ((((wr.setCell ⟨x.g, j * 4, none⟩ (.int .i64 rm5.x)).setCell ⟨x.g, j * 4 + 1, none⟩ (.int .i64 rm5.y)).setCell ⟨x.g, j * 4 + 2, none⟩ (.int .i64 rm5.w)).setCell ⟨x.g, j * 4 + 3, none⟩ (.int .i64 rm5.h)) B x.out (List.replicate (j + 1) rm5 ++ x.full.drop (j + 1)) := by
            rw [List.replicate_succ', List.append_assoc]; exact hP
          have HP := hide hP'
          have HBx := hide hbx
          have HBt := hide hBut
          have HOt := hide hOth
          have HR := hide hr
          have hgx : x.g ≠ wq.heap.size := fun e => by
            have := own_kind hO hbx (by decide)
            simp [Loan.out, Value.ownBlock] at this
            exact this e
          have i0 : (0 : Int) ≤ (j : Int) := by omega
          have i1 : (j : Int) < ((x.l.length + 3 : Nat) : Int) := by omega
          have i1' : (j : Int) < (x.l.length : Int) + 3 := by omega
          have hRdv := ((unhide HN).rd x hxm).but hBut (fun k hu ⟨y, hy, e⟩ => (unhide HN).far y hy (e ▸ hu))
          obtain ⟨wo', wc', ew', _, _, hw3⟩ := hRdv
          have ew2 := ew'.symm.trans (unhide HE)
          simp only [Value.slice.injEq, true_and] at ew2
          obtain ⟨rfl, rfl⟩ := ew2
          clear hO hbx hBut hOth hP hP' hr hdj htot hrl ew'
          by_cases hjn : j < x.l.length
          · have hxr : x.l[j]? = some r := by
              have := unhide HR
              unfold Loan.full at this
              rwa [List.getElem?_append_left hjn] at this
            obtain ⟨b, off, rfl, _, hbB, hc⟩ := hw3 (by intro e; rw [e] at hjn; simp at hjn)
            obtain ⟨d1, d2, d3, d4⟩ := hc j r hxr
            have i2 : (j : Int) < (x.l.length : Int) := by omega
            clear hw3 hc hxr
            go_wp2
            go_quiet (fail)
            go_wp2
            go_roundw
            case rel =>
              refine ⟨?_, j + 1, by omega, by go_num, unhide HP, ?_, ?_, fun y hy => ?_⟩
              · rfl
              · exact blk_other (blk_other (blk_other (blk_other (unhide HBx) (Ne.symm hgx) _) (Ne.symm hgx) _) (Ne.symm hgx) _) (Ne.symm hgx) _
              · have hS : ∀ (j : Nat) (u : Value) {v : World}, But (fun k => ∃ x ∈ ls, k = x.g) w v → But (fun k => ∃ x ∈ ls, k = x.g) w (v.setCell ⟨x.g, j, none⟩ u) := fun j u v h => h.setCell (.inl ⟨x, hxm, rfl⟩) u
                exact hS _ _ (hS _ _ (hS _ _ (hS _ _ ((unhide HBt).drewN _))))
              · have hne : y.out.ownBlock ≠ some x.g := by
                  have hp := (unhide HN).apart
                  have hs : (ls.drop k).Pairwise (fun x y => x.g ≠ y.g) := hp.sublist (List.drop_sublist _ _)
                  rw [unhide HD] at hs
                  have := (List.pairwise_cons.1 hs).1 y hy
                  simp [Loan.out, Value.ownBlock]
                  exact fun e => this e.symm
                exact ownsRow_setCell_other (ownsRow_setCell_other (ownsRow_setCell_other (ownsRow_setCell_other ((unhide HOt) y hy) hne _) hne _) hne _) hne _
            case measure => simp [intOf]; omega
          · have hr77 : r = r77 := by
              have := unhide HR
              unfold Loan.full at this
              rw [List.getElem?_append_right (by omega)] at this
              have h3 := List.mem_of_getElem? this
              simpa using h3
            subst hr77
            simp only [r77] at c1 c2 c3 c4
            have i2 : ¬ (j : Int) < (x.l.length : Int) := by omega
            have i3 : (x.l.length : Int) ≤ (j : Int) := by omega
            clear hw3
            go_wp2
            go_quiet (fail)
            go_wp2
            go_roundw
            case rel =>
              refine ⟨?_, j + 1, by omega, by go_num, unhide HP, ?_, ?_, fun y hy => ?_⟩
              · rfl
              · exact blk_other (blk_other (blk_other (blk_other (unhide HBx) (Ne.symm hgx) _) (Ne.symm hgx) _) (Ne.symm hgx) _) (Ne.symm hgx) _
              · have hS : ∀ (j : Nat) (u : Value) {v : World}, But (fun k => ∃ x ∈ ls, k = x.g) w v → But (fun k => ∃ x ∈ ls, k = x.g) w (v.setCell ⟨x.g, j, none⟩ u) := fun j u v h => h.setCell (.inl ⟨x, hxm, rfl⟩) u
                exact hS _ _ (hS _ _ (hS _ _ (hS _ _ ((unhide HBt).drewN _))))
              · have hne : y.out.ownBlock ≠ some x.g := by
                  have hp := (unhide HN).apart
                  have hs : (ls.drop k).Pairwise (fun x y => x.g ≠ y.g) := hp.sublist (List.drop_sublist _ _)
                  rw [unhide HD] at hs
                  have := (List.pairwise_cons.1 hs).1 y hy
                  simp [Loan.out, Value.ownBlock]
                  exact fun e => this e.symm
                exact ownsRow_setCell_other (ownsRow_setCell_other (ownsRow_setCell_other (ownsRow_setCell_other ((unhide HOt) y hy) hne _) hne _) hne _) hne _
            case measure => simp [intOf]; omega
        · obtain rfl : j = x.l.length + 3 := by omega
          have HBt := hide hBut
          have HOt := hide hOth
          have hwq : But (fun _ => False) wq wq := But.refl _ _
          have hsz : (fun (_ : Nat) => True) 0 := trivial
          clear hO hbx hBut hOth
          go_wp2
          go_roundw
          case rel => exact ⟨rfl, k + 1, by omega, by go_num, unhide HBt, unhide HOt⟩
          case measure => simp [intOf]; omega
    · obtain rfl : k = ls.length := by omega
      clear hOwn hLr hMr hodd
      go_wp2
      go_loopw [3, 7] (fun ok i wv => ok = .bool true ∧ i = .int .i64 0 ∧ wv.cell? ⟨mb, 1, none⟩ = some (.slice none 0 0) ∧ wv.cell? ⟨mb, 2, none⟩ = some (.slice none 0 0) ∧ But (fun k => ∃ x ∈ ls, k = x.g) w wv) (fun _ _ _ => 0)
      case atStart => exact ⟨rfl, rfl, m1, m2, hBut⟩
      case round =>
        clear m0 m1 m2 hBut
        obtain ⟨rfl, rfl, m1, m2, hBut⟩ := hrel
        have HB := hide hBut
        clear hBut
        go_wp2
        go_loopw [3, 10] (fun ok i wv => ok = .bool true ∧ i = .int .i64 0 ∧ wv.cell? ⟨mb, 2, none⟩ = some (.slice none 0 0) ∧ But (fun k => ∃ x ∈ ls, k = x.g) w wv) (fun _ _ _ => 0)
        case atStart => exact ⟨rfl, rfl, m2, unhide HB⟩
        case round =>
          clear m1 m2 HB
          obtain ⟨rfl, rfl, m2, hBut⟩ := hrel
          have HB := hide hBut
          clear hBut
          go_wp2
          go_ret
          exact ⟨rfl, unhide HB⟩

theorem Lent.but {U S : Nat → Prop} {B : Nat} {w w' : World} {ls : List Loan} (h : Lent U B w ls) (hb : But S w w') (h1 : ∀ k, U k → ¬ S k) (h2 : ∀ x ∈ ls, ¬ S x.g) : Lent U B w' ls :=
  ⟨h.len, h.far, fun x hx => (h.rd x hx).but hb h1, fun x hx => (h.own x hx).but hb (fun k hk => by simp only [Loan.out, Value.ownBlock, Option.some.injEq] at hk; subst hk; exact h2 x hx), h.apart⟩
theorem Lent.below {U : Nat → Prop} {B : Nat} {w w' : World} {ls : List Loan} (h : Lent U B w ls) (hb : Below w.heap.size w w') : Lent U B w' ls := h.but (S := fun _ => False) (.of_below hb) (fun _ _ h => h) (fun _ _ h => h)
theorem Lent.none (U : Nat → Prop) (B : Nat) (w : World) : Lent U B w [] := ⟨by simp, by simp, by simp, by simp, by simp⟩
theorem Lent.lt {U : Nat → Prop} {B : Nat} {w : World} {ls : List Loan} (h : Lent U B w ls) {x : Loan} (hx : x ∈ ls) : B ≤ x.g ∧ x.g < w.heap.size := World.ownsRow.lt (h.own x hx) x.g rfl
/-- A list more is lent. -/
theorem Lent.more {U : Nat → Prop} {mb base : Nat} {lr li lo lr' : Value} {ls ls' : List Loan} {v : Value} {l : List Rc} {w w' : World} (hN : Lent U base w ls) (h : Lends w w' mb base lr li lo ls v l lr' ls') (hm : w.heap[mb]? = some (.cells #[lr, li, lo] 76)) (hL : OwnL w base lr ls)
    (hR : RdU U w v l) (hl : l.length ≤ 2000000) (hU : ∀ k, U k → k < w.heap.size ∧ k ≠ mb ∧ lr.ownBlock ≠ some k) : Lent U base w' ls' ∧ ls'.length ≤ ls.length + 1 := by
  have h1 : ∀ k, U k → ¬ (k = mb ∨ lr.ownBlock = some k) := fun k hk c => c.elim (hU k hk).2.1 (hU k hk).2.2
  have h2 : ∀ x ∈ ls, ¬ (x.g = mb ∨ lr.ownBlock = some x.g) := fun x hx c => by
    have ho := hN.own x hx
    rcases c with c | c
    · exact own_kind ho hm (by decide) (by rw [← c]; rfl)
    · rcases ho.2 with ⟨e, _⟩ | ⟨g, cp, cur, e, _, hg, _⟩
      · cases e
      · simp only [Loan.out, Value.slice.injEq, Option.some.injEq, Addr.mk.injEq, and_true] at e
        obtain ⟨rfl, _⟩ := e
        exact row_kind hL hg (by decide) c
  have hN' := hN.but h.but h1 h2
  rcases h.more with rfl | ⟨x, rfl, e1, e2, e3, e4, e5⟩
  · exact ⟨hN', by omega⟩
  · refine ⟨⟨fun y hy => ?_, fun y hy => ?_, fun y hy => ?_, fun y hy => ?_, ?_⟩, by simp⟩
    · rcases List.mem_append.1 hy with c | c
      · exact hN'.len y c
      · rw [List.mem_singleton.1 c, e1]; exact hl
    · rcases List.mem_append.1 hy with c | c
      · exact hN'.far y c
      · rw [List.mem_singleton.1 c]; intro hu; have := (hU _ hu).1; omega
    · rcases List.mem_append.1 hy with c | c
      · exact hN'.rd y c
      · rw [List.mem_singleton.1 c, e1, e2]; exact hR.but h.but h1
    · rcases List.mem_append.1 hy with c | c
      · exact hN'.own y c
      · rw [List.mem_singleton.1 c]; unfold Loan.full; rw [e1]; exact e5
    · refine List.pairwise_append.2 ⟨hN'.apart, List.pairwise_singleton _ _, fun y hy z hz => ?_⟩
      rw [List.mem_singleton.1 hz]
      have := (hN.lt hy).2
      omega
end Go.Proofs.YtfnockbgkcgpkaaGreat
