import Derived.Test.YtfnockbgkcgpkaaGreatLawF
import Derived.WalkSpells
import Derived.StillTactics
import Derived.OwnWalk
import Derived.Laws.Pointers
import Derived.Deep.AppendLies
import Derived.Lib.SliceRun
set_option linter.all false
namespace Go.Proofs.YtfnockbgkcgpkaaGreat
open Go.RowKit Go.Proofs.Panes
set_option maxRecDepth 100000

/-- A rectangle written into a row. -/
theorem rcells_put (A : List Rc) (r s : Rc) (B : List Rc) :
    ((((rcells (A ++ r :: B)).set (A.length * 4) (.int .i64 s.x)).set (A.length * 4 + 1) (.int .i64 s.y)).set (A.length * 4 + 2) (.int .i64 s.w)).set (A.length * 4 + 3) (.int .i64 s.h) = rcells (A ++ s :: B) := by
  rw [rcells_append, rcells_append]
  have e : ∀ (X : List Value) (t : Nat) (u : Value), (rcells A ++ X).set (A.length * 4 + t) u = rcells A ++ X.set t u := fun X t u => by
    rw [List.set_append_right _ _ (by rw [rcells_len]; omega), rcells_len, Nat.add_sub_cancel_left]
  have e0 : ∀ (X : List Value) (u : Value), (rcells A ++ X).set (A.length * 4) u = rcells A ++ X.set 0 u := fun X u => e X 0 u
  rw [e0, e, e, e]
  rfl
theorem own_put {w : World} {base g n cap : Nat} {A B : List Rc} {r : Rc} (s : Rc) (h : Own w base (.slice (some ⟨g, 0, none⟩) n cap) (A ++ r :: B)) (hn : n = (A ++ r :: B).length) :
    Own ((((w.setCell ⟨g, A.length * 4, none⟩ (.int .i64 s.x)).setCell ⟨g, A.length * 4 + 1, none⟩ (.int .i64 s.y)).setCell ⟨g, A.length * 4 + 2, none⟩ (.int .i64 s.w)).setCell ⟨g, A.length * 4 + 3, none⟩ (.int .i64 s.h)) base (.slice (some ⟨g, 0, none⟩) n cap) (A ++ s :: B) := by
  subst hn
  have h1 := (World.ownsRow.stored h (A.length * 4) (.int .i64 s.x)).1
  have h2 := (World.ownsRow.stored h1 (A.length * 4 + 1) (.int .i64 s.y)).1
  have h3 := (World.ownsRow.stored h2 (A.length * 4 + 2) (.int .i64 s.w)).1
  have h4 := (World.ownsRow.stored h3 (A.length * 4 + 3) (.int .i64 s.h)).1
  rw [rcells_put] at h4
  have e : (A ++ s :: B).length = (A ++ r :: B).length := by simp
  unfold Own
  rw [e]; exact h4

def r77 : Rc := ⟨77, 0, 0, 0⟩
/-- A list that was lent: its block, what it was, of which list. -/
structure Loan where
  g : Nat
  l : List Rc
  want : Value
def Loan.out (x : Loan) : Value := .slice (some ⟨x.g, 0, none⟩) (x.l.length + 3) (x.l.length + 3)
def lcell (x : Loan) : List Value := [x.out, x.want]
def lcells (l : List Loan) : List Value := l.flatMap lcell
theorem lcells_len (l : List Loan) : (lcells l).length = l.length * 2 := by
  induction l with
  | nil => rfl
  | cons r l ih => show (lcell r ++ lcells l).length = _; rw [List.length_append, ih]; simp [lcell]; omega
theorem lcells_snoc (l : List Loan) (e : Loan) : lcells (l ++ [e]) = lcells l ++ lcell e := by simp [lcells]
theorem lcell_one (g : Nat) (l : List Rc) (ad : Option Addr) (n c : Nat) : ∀ u ∈ lcell ⟨g, l, .slice ad n c⟩, u.oneCell' = true := by
  intro u hu
  simp [lcell, Loan.out] at hu
  rcases hu with rfl | rfl <;> rfl
abbrev OwnL (w : World) (base : Nat) (v : Value) (ls : List Loan) : Prop := w.ownsRow base 148 2 v ls.length (lcells ls)
theorem info_loan : (Tryz.prog.info? 148).map (fun i => (i.zero, i.size, i.bytes)) = some (some (.agg #[.slice none 0 0, .slice none 0 0]), 2, 48) := by kernel_rfl

/-- What rectsOf leaves. -/
structure Lends (w w' : World) (mb base : Nat) (lr li lo : Value) (ls : List Loan) (v : Value) (l : List Rc) (lr' : Value) (ls' : List Loan) : Prop where
  box : w'.heap[mb]? = some (.cells #[lr', li, lo] 76)
  own : OwnL w' base lr' ls'
  but : But (fun k => k = mb ∨ lr.ownBlock = some k) w w'
  more : ls' = ls ∨ ∃ x, ls' = ls ++ [x] ∧ x.l = l ∧ x.want = v ∧ w.heap.size ≤ x.g ∧ x.g < w'.heap.size ∧ Own w' base x.out (l ++ [r77, r77, r77])

set_option maxHeartbeats 4000000 in
theorem rectsOf_any (mb base : Nat) (lr li lo : Value) (ls : List Loan) (v : Value) (l : List Rc) (w : World) (hm : w.heap[mb]? = some (.cells #[lr, li, lo] 76)) (hL : OwnL w base lr ls) (hb : base ≤ w.heap.size) (hR : Rd w v l) (hlen : l.length ≤ 2000000) (hls : ls.length ≤ 10) :
    Calls Tryz.prog 33 #[.pointer (some ⟨mb, 0, none⟩), v] w fun e w' => ∃ v', e = .returned v' ∧ Own w' base v' l ∧ ∃ lr' ls', Lends w w' mb base lr li lo ls v l lr' ls' := by
  obtain ⟨i0, hi, hz0, hz1, hz2⟩ := info_parts info_rect
  have qn : ∀ (w : World) (a : Option Addr) (n c n' c' : Nat), (binOp .eql 47 (.slice a n c) (.slice none n' c')).run Tryz.prog w = .ok (.bool a.isNone) w := fun w a n c n' c' => Lib.run_eql_slice_nil w _ _ a n c n' c' Tryz.underlying47
  have hR' := hR
  obtain ⟨ro, rc, rfl⟩ := row_slice hL
  obtain ⟨ao, cap, rfl, h1, h2, h3⟩ := hR
  cases ao with
  | none =>
    have HR := hide hR'
    have HL := hide hL
    have HM := hide hm
    have H3 := hide h3
    clear hR' hL hm h3
    go_enter Tryz.func33, Tryz.ntmps33
    go_wp2
    go_ret
    refine ⟨_, rfl, ?_, _, ls, unhide HM, unhide HL, But.refl _ _, .inl rfl⟩
    have e : l = [] := by
      apply Classical.byContradiction
      intro he
      obtain ⟨b, off, e, _⟩ := (unhide H3) he
      cases e
    subst e
    exact own_nil _
  | some ad =>
    have hmk : ∀ u : World, (Instr.makeSlice 47 (.int .i64 ((l.length : Int) + 3)) (.int .i64 ((l.length : Int) + 3))).run Tryz.prog u =
        .ok (.slice (some ⟨u.heap.size, 0, none⟩) (l.length + 3) (l.length + 3)) (u.alloc (.cells (rcells (List.replicate (l.length + 3) rz)).toArray 46)) := fun u => by
      have h := run_make (P := Tryz.prog) u 47 46 i0 _ Tryz.underlying47 hi hz0 .i64 .i64 ((l.length : Int) + 3) ((l.length : Int) + 3) (by omega) (Int.le_refl _) (by rw [hz2]; omega) (by omega)
      have e : ((l.length : Int) + 3).toNat = l.length + 3 := by omega
      rw [e, hz1] at h
      rw [← made_rects]
      simpa [Value.cells] using h
    have HR := hide hR'
    have HL := hide hL
    have HM := hide hm
    clear hR' hL hm h3
    go_enter Tryz.func33, Tryz.ntmps33
    go_wp2_with (refine copy_rects rfl _ _ rfl base w.heap.size (l.length + 3) (List.replicate (l.length + 3) rz) l _ rfl rfl (own_made w _ base hb (by omega)) (by simp) ((unhide HR).below ((Below.refl _ w).alloc (Nat.le_refl _) _)) (by omega) ?_; intro w1 hown hgrow)
    have hO1 : Own w1 base (.slice (some ⟨w.heap.size, 0, none⟩) (l.length + 3) (l.length + 3)) (l ++ List.replicate 3 rz) := by
      rwa [List.drop_replicate, show l.length + 3 - l.length = 3 by omega] at hown
    have hB1 : But (fun _ => False) w w1 := ((But.refl _ w).alloc _).grown hgrow (fun k e => .inr (by cases e; exact Nat.le_refl _))
    have hs1 : w.heap.size < w1.heap.size := by have := hgrow.size; simp at this; omega
    have hm1 := hB1
    have HB1 := hide hB1
    have HO1 := hide hO1
    clear hown hgrow hO1 hB1
    go_wp2
    go_loopw [7] (fun i wr => ∃ k : Nat, k ≤ 3 ∧ i = .int .i64 ((l.length : Int) + k) ∧ Own wr base (.slice (some ⟨w.heap.size, 0, none⟩) (l.length + 3) (l.length + 3)) (l ++ (List.replicate k r77 ++ List.replicate (3 - k) rz)) ∧ But (fun _ => False) w wr ∧ w1.heap.size ≤ wr.heap.size) (fun i _ => l.length + 3 - (intOf i).toNat)
    case atStart => exact ⟨0, by omega, by simp, by simpa using unhide HO1, unhide HB1, Nat.le_refl _⟩
    case round =>
      obtain ⟨k, hk, rfl, hO, hB, hs⟩ := hrel
      by_cases hlt : k < 3
      · have e1 : l ++ (List.replicate k r77 ++ List.replicate (3 - k) rz) = (l ++ List.replicate k r77) ++ rz :: List.replicate (3 - (k + 1)) rz := by
          rw [show 3 - k = 3 - (k + 1) + 1 by omega, List.replicate_succ, List.append_assoc]
        rw [e1] at hO
        have hlen1 : (l ++ List.replicate k r77).length = l.length + k := by simp
        have hP := own_put r77 hO (by simp; omega)
        rw [hlen1] at hP
        obtain ⟨c1, c2, c3, c4⟩ := own_at hO (j := l.length + k) (r := rz) (by rw [← hlen1]; simp)
        simp only [rz] at c1 c2 c3 c4
        have f1 := own_thaw hO (by simp; omega) ((l.length + k) * 4)
        have f2 := own_thaw hO (by simp; omega) ((l.length + k) * 4 + 1)
        have f3 := own_thaw hO (by simp; omega) ((l.length + k) * 4 + 2)
        have f4 := own_thaw hO (by simp; omega) ((l.length + k) * 4 + 3)
        have e2 : (l ++ List.replicate k r77) ++ r77 :: List.replicate (3 - (k + 1)) rz = l ++ (List.replicate (k + 1) r77 ++ List.replicate (3 - (k + 1)) rz) := by
          rw [List.replicate_succ', List.append_assoc, List.append_assoc]; rfl
        rw [e2] at hP
        have HP := hide hP
        have HB := hide hB
        have i0' : (0 : Int) ≤ (l.length : Int) + k := by omega
        have i1' : (l.length : Int) + k < ((l.length + 3 : Nat) : Int) := by omega
        have i2' : (l.length : Int) + k < (l.length : Int) + 3 := by omega
        have i3' : ((l.length : Int) + k).toNat = l.length + k := by omega
        clear hO hB hP e1 e2 hlen1
        go_wp2
        go_roundw
        case rel =>
          refine ⟨k + 1, by omega, by go_num, unhide HP, ((((unhide HB).setCell (.inr (Nat.le_refl _)) _).setCell (.inr (Nat.le_refl _)) _).setCell (.inr (Nat.le_refl _)) _).setCell (.inr (Nat.le_refl _)) _, ?_⟩
          simpa [World.setCell] using hs
        case measure => simp [intOf]; omega
      · obtain rfl : k = 3 := by omega
        obtain ⟨j0, hj, hy0, hy1, hy2⟩ := info_parts info_loan
        have hOl : l ++ (List.replicate 3 r77 ++ List.replicate (3 - 3) rz) = l ++ [r77, r77, r77] := rfl
        rw [hOl] at hO
        have HO := hide hO
        have HB := hide hB
        have hmb := lt_of_heap (unhide HM)
        have hne := row_kind (unhide HL) (unhide HM) (by decide)
        have hLr := row_but (unhide HL) hB (fun _ _ h => h)
        have HLr := hide hLr
        have hMr := hB.heap (unhide HM) (fun h => h)
        have HMr := hide hMr
        have hcl : wr.cell? ⟨mb, 0, none⟩ = some (.slice ro ls.length rc) := blk_cell hMr 0
        have hfr : ∀ j, wr.frozen? ⟨mb, j, none⟩ = false := blk_thaw hMr
        clear hO hB hLr hMr
        go_wp2_with
           (at_builtin
            refine wpList_append_lies _ rfl _ _ 72 rfl base 148 j0 _ 2 48 Tryz.underlying72 hj hy0 hy1 hy2 rfl (by decide) _ ls.length (lcells ls) rfl ((unhide HLr).alloc _) ⟨wr.heap.size, 0, none⟩ 1 1 (lcell ⟨w.heap.size, l, .slice (some ad) l.length cap⟩) rfl rfl (newsN (new_at _ _ _ rfl)) (lcell_one _ _ _ _ _) (by decide) (by unfold maxLen; omega) (by omega) (by simp; omega) _ rfl ?_
            intro g gc w2 hown hgrow hat hlt2
            have hG : wr.grownBy w2 (Value.slice ro ls.length rc).ownBlock := grown_trans (World.grownBy_alloc wr _ _) hgrow
            have hM2 : w2.heap[mb]? = some (.cells #[.slice ro ls.length rc, li, lo] 76) := grown_block hG (unhide HMr) hne
            have hO2 : Own w2 base (.slice (some ⟨w.heap.size, 0, none⟩) (l.length + 3) (l.length + 3)) (l ++ [r77, r77, r77]) := World.ownsRow.kept (unhide HO) hG (.inr (fun e => absurd (World.ownsRow.lt (unhide HL) _ e.symm).2 (by simp [Value.ownBlock])))
            have hL2 : w2.ownsRow base 148 2 (.slice (some ⟨g, 0, none⟩) (ls.length + 1) gc) (ls.length + 1) (lcells (ls ++ [⟨w.heap.size, l, .slice (some ad) l.length cap⟩])) := by rw [lcells_snoc]; exact hown
            have hgm : g ≠ mb := by
              rcases hat with c | c
              · intro e; subst e; exact hne c
              · have := lt_of_heap (unhide HMr); simp at c; omega
            have HG := hide hG
            have HM2 := hide hM2
            have HO2 := hide hO2
            have HL2 := hide hL2
            have HA := hide hat
            have hcl2 : w2.cell? ⟨mb, 0, none⟩ = some (.slice ro ls.length rc) := blk_cell hM2 0
            have hfr2 : ∀ j, w2.frozen? ⟨mb, j, none⟩ = false := blk_thaw hM2
            clear hown hgrow hG hM2 hO2 hL2 hat)
        go_ret
        refine ⟨_, rfl, ?_, .slice (some ⟨g, 0, none⟩) (ls.length + 1) gc, ls ++ [⟨w.heap.size, l, .slice (some ad) l.length cap⟩], ?_⟩
        · show Own _ base (.slice (some ⟨w.heap.size, 0, none⟩) l.length (l.length + 3)) l
          exact own_front (B := [r77, r77, r77]) (ownsRow_setCell_other (unhide HO2) (by simp [Value.ownBlock]; omega) _)
        · refine ⟨?_, ?_, ?_, .inr ⟨_, rfl, rfl, rfl, Nat.le_refl _, ?_, ?_⟩⟩
          · have := blk_set (i := 0) (unhide HM2) (.slice (some ⟨g, 0, none⟩) (ls.length + 1) gc)
            simpa using this
          · have := ownsRow_setCell_other (unhide HL2) (a := ⟨mb, 0, none⟩) (by simp [Value.ownBlock]; exact hgm) (.slice (some ⟨g, 0, none⟩) (ls.length + 1) gc)
            unfold OwnL; rw [List.length_append]; exact this
          · exact ((unhide HB).wide (fun _ _ h => h.elim) |>.grown (unhide HG) (fun k e => .inl (.inr e))).setCell (.inl (.inl rfl)) _
          · have := (unhide HG).size
            simp [World.setCell]; omega
          · exact ownsRow_setCell_other (unhide HO2) (by simp [Value.ownBlock]; omega) _
end Go.Proofs.YtfnockbgkcgpkaaGreat
