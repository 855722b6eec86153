import Derived.Test.YtfnockbgkcgpkaaGreatQbG
import Derived.Test.YtfnockbgkcgpkaaGreatLawH
import Derived.Test.YtfnockbgkcgpkaaGreatQbJ
set_option linter.all false
namespace Go.Proofs.YtfnockbgkcgpkaaGreat
open Go.RowKit Go.Proofs.Panes
set_option maxRecDepth 100000

/-- A row of numbers. -/
abbrev OwnN (w : World) (base : Nat) (v : Value) (l : List Int) : Prop := w.ownsRow base 3 1 v l.length (l.map (Value.int .i64))
theorem ownN_nil {w : World} (base : Nat) : OwnN w base (.slice none 0 0) [] := World.ownsRow_nil _ _ _ _
theorem ints_one (l : List Int) : ∀ u ∈ l.map (Value.int .i64), u.oneCell' = true := by
  intro u hu
  obtain ⟨b, _, rfl⟩ := List.mem_map.1 hu
  rfl
theorem ownN_at {w : World} {base g n cap : Nat} {l : List Int} (h : OwnN w base (.slice (some ⟨g, 0, none⟩) n cap) l) (hn : n = l.length) {j : Nat} {x : Int} (hx : l[j]? = some x) : w.cell? ⟨g, j, none⟩ = some (.int .i64 x) := by
  subst hn
  have hj := (List.getElem?_eq_some_iff.1 hx).1
  rw [World.ownsRow.cellAt h j (by omega)]
  simp [hx]
theorem ownN_thaw {w : World} {base g n cap : Nat} {l : List Int} (h : OwnN w base (.slice (some ⟨g, 0, none⟩) n cap) l) (hn : n = l.length) (j : Nat) : w.frozen? ⟨g, j, none⟩ = false := by
  subst hn; exact World.ownsRow.frozenAt h j
theorem ownN_put {w : World} {base g n cap : Nat} {A B : List Int} {r : Int} (s : Int) (h : OwnN w base (.slice (some ⟨g, 0, none⟩) n cap) (A ++ r :: B)) (hn : n = (A ++ r :: B).length) : OwnN (w.setCell ⟨g, A.length, none⟩ (.int .i64 s)) base (.slice (some ⟨g, 0, none⟩) n cap) (A ++ s :: B) := by
  subst hn
  have h1 := (World.ownsRow.stored h A.length (.int .i64 s)).1
  have e : ((A ++ r :: B).map (Value.int .i64)).set A.length (.int .i64 s) = (A ++ s :: B).map (Value.int .i64) := by simp
  rw [e] at h1
  have e2 : (A ++ s :: B).length = (A ++ r :: B).length := by simp
  unfold OwnN
  rw [e2]; exact h1
theorem ownN_front {w : World} {base g n cap : Nat} {A B : List Int} (h : OwnN w base (.slice (some ⟨g, 0, none⟩) n cap) (A ++ B)) : OwnN w base (.slice (some ⟨g, 0, none⟩) A.length cap) A := by
  rcases h.2 with ⟨e, _⟩ | ⟨k, c, cur, e, hb, hk, hc, hm, hz, ht⟩
  · cases e
  · simp only [Value.slice.injEq, Option.some.injEq, Addr.mk.injEq, and_true] at e
    obtain ⟨rfl, e, rfl⟩ := e
    refine ⟨by simp, .inr ⟨g, cap, cur, rfl, hb, hk, by simp at hc; omega, hm, hz, ?_⟩⟩
    have := congrArg (List.take (A.length * 1)) ht
    rw [List.take_take, List.map_append, List.take_append_of_le_length (by simp), Nat.min_eq_left (by simp)] at this
    rw [this, List.take_of_length_le (by simp)]
theorem OwnN.rd {w : World} {base : Nat} {v : Value} {l : List Int} (h : OwnN w base v l) : RdN (fun k => v.ownBlock = some k) w v l := by
  rcases h.2 with ⟨rfl, hn⟩ | ⟨g, cap, cur, rfl, hb, hg, hc, hm, hs, ht⟩
  · have : l = [] := List.length_eq_zero_iff.1 hn
    subst this
    exact ⟨none, 0, rfl, by simp, by simp [maxLen], fun h => absurd rfl h⟩
  · refine ⟨some ⟨g, 0, none⟩, cap, rfl, hc, hm, fun _ => ⟨g, 0, rfl, rfl, (Array.getElem?_eq_some_iff.1 hg).1, fun j x hx => ?_⟩⟩
    rw [Nat.zero_add]
    exact ownN_at h rfl hx
theorem own_intsq (w : World) (n base : Nat) (hb : base ≤ w.heap.size) (hn : n ≤ 17592186044416) : OwnN (w.alloc (.cells (Array.replicate n (Value.int .i64 0)) 3)) base (.slice (some ⟨w.heap.size, 0, none⟩) n n) (List.replicate n 0) := by
  have h := World.ownsRow_lit (base := base) (e := 3) (size := 1) w (Array.replicate n (Value.int .i64 0)) n hb (by unfold maxLen; omega) (by simp)
  unfold OwnN
  rw [List.length_replicate]
  simpa using h
/-- 'copy(dst, src)' of numbers: dst a whole row that somebody owns, src any list that reads. -/
theorem copy_ints {w : World} {ops : Array Oper} {rest : List Oper} {o : Oper} {a : Act} {Q : Exit → Act → World → Prop} (hgd : o.guard = none) (d s : Operand)
    (ho : o.op = .call { callee := .builtin .copy, args := #[d, s], argTypes := #[50, 50] }) (U : Nat → Prop) (base g n : Nat) (D l : List Int) (v : Value) (hd : a.eval d = .slice (some ⟨g, 0, none⟩) n n) (hs : a.eval s = v)
    (hO : OwnN w base (.slice (some ⟨g, 0, none⟩) n n) D) (hn : D.length = n) (hR : RdN U w v l) (hl : l.length ≤ n)
    (h : ∀ w', OwnN w' base (.slice (some ⟨g, 0, none⟩) n n) (l ++ D.drop l.length) → w.grownBy w' (some g) → wpList Tryz.prog ops Q rest (a.put o.dst (goInt l.length)) w') : wpList Tryz.prog ops Q (o :: rest) a w := by
  obtain ⟨i0, hi, hz0, hz1, hz2⟩ := info_parts info_int
  obtain ⟨ao, cap, rfl, h1, h2, h3⟩ := hR
  refine wpList_plain hgd fun K hK => ?_
  by_cases he : l = []
  · subst he
    have hrun := run_copy_zero (P := Tryz.prog) w 50 50 o.type 3 (some ⟨g, 0, none⟩) ao n n 0 cap Tryz.underlying50 (by rw [hi]; rfl) (by simp)
    have hh := h w (by simpa using hO) ⟨rfl, rfl, rfl, Nat.le_refl _, fun _ _ _ => rfl⟩
    unfold Oper.wp
    simp [execOp, ho, resolve, invoke, builtin, hd, hs, hrun, Result.andThen]
    exact hK _ _ (by simpa using hh)
  · obtain ⟨b, off, rfl, _, hb, hc⟩ := h3 he
    rcases hO.2 with ⟨e, _⟩ | ⟨k, c, cur, e, hbk, hk, hcc, hm, hz, ht⟩
    · cases e
    · simp only [Value.slice.injEq, Option.some.injEq, Addr.mk.injEq, and_true] at e
      obtain ⟨rfl, e, rfl⟩ := e
      subst hn
      have htl : cur.toList = D.map (Value.int .i64) := by rw [← ht, List.take_of_length_le (by simp [hz])]
      have hrun := run_copy_wide (P := Tryz.prog) w 50 50 o.type 3 1 g 0 D.length D.length ⟨b, off, none⟩ l.length cap cur 3 (l.map (Value.int .i64)) l.length Tryz.underlying50 (by rw [hi]; simp [hz1]) hk (Nat.min_eq_left hl).symm (by simp) (fun j v hj => ?_) (by simp [hz]; omega) (ints_one l)
      · have e : (cur.toList.take 0 ++ l.map (Value.int .i64) ++ cur.toList.drop (0 + (l.map (Value.int .i64)).length)) = (l ++ D.drop l.length).map (Value.int .i64) := by
          rw [htl, List.take_zero, List.nil_append, Nat.zero_add, List.length_map, List.map_append, List.map_drop]
        rw [e] at hrun
        have hh := h (w.setRow g ((l ++ D.drop l.length).map (Value.int .i64)).toArray) ?_ ?_
        · unfold Oper.wp
          simp [execOp, ho, resolve, invoke, builtin, hd, hs, hrun, Result.andThen]
          exact hK _ _ (by simpa using hh)
        · have el : (l ++ D.drop l.length).length = D.length := by simp; omega
          unfold OwnN
          rw [el]
          refine ⟨by rw [List.length_map, el]; omega, .inr ⟨g, D.length, _, rfl, hbk, setRow_heap w g cur _ _ _ hk, Nat.le_refl _, hm, by simp; omega, ?_⟩⟩
          rw [List.take_of_length_le (by rw [List.length_map, el]; omega)]
        · exact ⟨rfl, rfl, rfl, by simp [World.setRow], fun k hk hne => setRow_other w g k _ (fun e => hne (by rw [e]))⟩
      · have hadd : (⟨b, off, none⟩ : Addr).add j = ⟨b, off + j, none⟩ := by unfold Addr.add; split <;> simp_all
        rw [hadd]
        rw [List.getElem?_map] at hj
        obtain ⟨x, hx, rfl⟩ := Option.map_eq_some_iff.1 hj
        exact hc j x hx

/-- A list that was lent: its block, what it was, of which list. -/
structure NLoan where
  g : Nat
  l : List Int
  want : Value
def NLoan.out (x : NLoan) : Value := .slice (some ⟨x.g, 0, none⟩) (x.l.length + 3) (x.l.length + 3)
def ncell (x : NLoan) : List Value := [x.out, x.want]
def ncells (l : List NLoan) : List Value := l.flatMap ncell
theorem ncells_len (l : List NLoan) : (ncells l).length = l.length * 2 := by
  induction l with
  | nil => rfl
  | cons r l ih => show (ncell r ++ ncells l).length = _; rw [List.length_append, ih]; simp [ncell]; omega
theorem ncells_snoc (l : List NLoan) (e : NLoan) : ncells (l ++ [e]) = ncells l ++ ncell e := by simp [ncells]
theorem ncell_one (g : Nat) (l : List Int) (ad : Option Addr) (n c : Nat) : ∀ u ∈ ncell ⟨g, l, .slice ad n c⟩, u.oneCell' = true := by
  intro u hu
  simp [ncell, NLoan.out] at hu
  rcases hu with rfl | rfl <;> rfl
abbrev OwnNL (w : World) (base : Nat) (v : Value) (ls : List NLoan) : Prop := w.ownsRow base 150 2 v ls.length (ncells ls)
theorem info_nloan : (Tryz.prog.info? 150).map (fun i => (i.zero, i.size, i.bytes)) = some (some (.agg #[.slice none 0 0, .slice none 0 0]), 2, 48) := by kernel_rfl

/-- What intsOf leaves. -/
structure NLends (w w' : World) (mb base : Nat) (lq lr lo : Value) (ls : List NLoan) (v : Value) (l : List Int) (lr' : Value) (ls' : List NLoan) (v' : Value) : Prop where
  box : w'.heap[mb]? = some (.cells #[lq, lr', lo] 76)
  own : OwnNL w' base lr' ls'
  but : But (fun k => k = mb ∨ lr.ownBlock = some k) w w'
  more : (ls' = ls ∧ v' = .slice none 0 0 ∧ l = []) ∨ ∃ x, v' = .slice (some ⟨x.g, 0, none⟩) l.length (l.length + 3) ∧ ls' = ls ++ [x] ∧ x.l = l ∧ x.want = v ∧ w.heap.size ≤ x.g ∧ x.g < w'.heap.size ∧ OwnN w' base x.out (l ++ [(77 : Int), (77 : Int), (77 : Int)])

set_option maxHeartbeats 4000000 in
theorem intsOf_any (mb base : Nat) (lq lr lo : Value) (ls : List NLoan) (v : Value) (l : List Int) (w : World) (hm : w.heap[mb]? = some (.cells #[lq, lr, lo] 76)) (hL : OwnNL w base lr ls) (hb : base ≤ w.heap.size) (U : Nat → Prop) (hR : RdN U w v l) (hlen : l.length ≤ 17592186043904) (hls : ls.length ≤ 1759218604400) :
    Calls Tryz.prog 57 #[.pointer (some ⟨mb, 0, none⟩), v] w fun e w' => ∃ v', e = .returned v' ∧ OwnN w' base v' l ∧ ∃ lr' ls', NLends w w' mb base lq lr lo ls v l lr' ls' v' := by
  obtain ⟨i0, hi, hz0, hz1, hz2⟩ := info_parts info_int
  have qn : ∀ (w : World) (a : Option Addr) (n c n' c' : Nat), (binOp .eql 50 (.slice a n c) (.slice none n' c')).run Tryz.prog w = .ok (.bool a.isNone) w := fun w a n c n' c' => Lib.run_eql_slice_nil w _ _ a n c n' c' Tryz.underlying50
  have hR' := hR
  obtain ⟨ro, rc, rfl⟩ := row_slice hL
  obtain ⟨ao, cap, rfl, h1, h2, h3⟩ := hR
  cases ao with
  | none =>
    have HR := hide hR'
    have HL := hide hL
    have HM := hide hm
    have H3 := hide h3
    clear hR' hL hm h3
    go_enter Tryz.func57, Tryz.ntmps57
    go_wp2
    go_ret
    have e : l = [] := by
      apply Classical.byContradiction
      intro he
      obtain ⟨b, off, e, _⟩ := (unhide H3) he
      cases e
    subst e
    exact ⟨.slice none 0 0, rfl, ownN_nil _, _, ls, unhide HM, unhide HL, But.refl _ _, .inl ⟨rfl, rfl, rfl⟩⟩
  | some ad =>
    have hmk : ∀ u : World, (Instr.makeSlice 50 (.int .i64 ((l.length : Int) + 3)) (.int .i64 ((l.length : Int) + 3))).run Tryz.prog u =
        .ok (.slice (some ⟨u.heap.size, 0, none⟩) (l.length + 3) (l.length + 3)) (u.alloc (.cells (Array.replicate (l.length + 3) (Value.int .i64 0)) 3)) := fun u => make_intsq (l.length + 3) (by omega) u
    have HR := hide hR'
    have HL := hide hL
    have HM := hide hm
    clear hR' hL hm h3
    go_enter Tryz.func57, Tryz.ntmps57
    go_wp2_with (refine copy_ints rfl _ _ rfl U base w.heap.size (l.length + 3) (List.replicate (l.length + 3) (0 : Int)) l _ rfl rfl (own_intsq w _ base hb (by omega)) (by simp) ((unhide HR).below ((Below.refl _ w).alloc (Nat.le_refl _) _)) (by omega) ?_; intro w1 hown hgrow)
    have hO1 : OwnN w1 base (.slice (some ⟨w.heap.size, 0, none⟩) (l.length + 3) (l.length + 3)) (l ++ List.replicate 3 (0 : Int)) := by
      rwa [List.drop_replicate, show l.length + 3 - l.length = 3 by omega] at hown
    have hB1 : But (fun _ => False) w w1 := ((But.refl _ w).alloc _).grown hgrow (fun k e => .inr (by cases e; exact Nat.le_refl _))
    have hs1 : w.heap.size < w1.heap.size := by have := hgrow.size; simp at this; omega
    have hm1 := hB1
    have HB1 := hide hB1
    have HO1 := hide hO1
    clear hown hgrow hO1 hB1
    go_wp2
    go_loopw [7] (fun i wr => ∃ k : Nat, k ≤ 3 ∧ i = .int .i64 ((l.length : Int) + k) ∧ OwnN wr base (.slice (some ⟨w.heap.size, 0, none⟩) (l.length + 3) (l.length + 3)) (l ++ (List.replicate k (77 : Int) ++ List.replicate (3 - k) (0 : Int))) ∧ But (fun _ => False) w wr ∧ w1.heap.size ≤ wr.heap.size) (fun i _ => l.length + 3 - (intOf i).toNat)
    case atStart => exact ⟨0, by omega, by simp, by simpa using unhide HO1, unhide HB1, Nat.le_refl _⟩
    case round =>
      obtain ⟨k, hk, rfl, hO, hB, hs⟩ := hrel
      by_cases hlt : k < 3
      · have e1 : l ++ (List.replicate k (77 : Int) ++ List.replicate (3 - k) (0 : Int)) = (l ++ List.replicate k (77 : Int)) ++ (0 : Int) :: List.replicate (3 - (k + 1)) (0 : Int) := by
          rw [show 3 - k = 3 - (k + 1) + 1 by omega, List.replicate_succ, List.append_assoc]
        rw [e1] at hO
        have hlen1 : (l ++ List.replicate k (77 : Int)).length = l.length + k := by simp
        have hP := ownN_put (77 : Int) hO (by simp; omega)
        rw [hlen1] at hP
        have c1 := ownN_at hO (by simp; omega) (j := l.length + k) (x := (0 : Int)) (by rw [← hlen1]; simp)
        have f1 := ownN_thaw hO (by simp; omega) (l.length + k)
        have e2 : (l ++ List.replicate k (77 : Int)) ++ (77 : Int) :: List.replicate (3 - (k + 1)) (0 : Int) = l ++ (List.replicate (k + 1) (77 : Int) ++ List.replicate (3 - (k + 1)) (0 : Int)) := by
          rw [List.replicate_succ', List.append_assoc, List.append_assoc]; rfl
        rw [e2] at hP
        have HP := hide hP
        have HB := hide hB
        have i0' : (0 : Int) ≤ (l.length : Int) + k := by omega
        have i1' : (l.length : Int) + k < ((l.length + 3 : Nat) : Int) := by omega
        have i2' : (l.length : Int) + k < (l.length : Int) + 3 := by omega
        have i3' : ((l.length : Int) + k).toNat = l.length + k := by omega
        clear hO hB hP e1 e2 hlen1
        go_wp2
        go_roundw
        case rel =>
          refine ⟨k + 1, by omega, by go_num, unhide HP, (unhide HB).setCell (.inr (Nat.le_refl _)) _, ?_⟩
          simpa [World.setCell] using hs
        case measure => simp [intOf]; omega
      · obtain rfl : k = 3 := by omega
        obtain ⟨j0, hj, hy0, hy1, hy2⟩ := info_parts info_nloan
        have hOl : l ++ (List.replicate 3 (77 : Int) ++ List.replicate (3 - 3) (0 : Int)) = l ++ [(77 : Int), (77 : Int), (77 : Int)] := rfl
        rw [hOl] at hO
        have HO := hide hO
        have HB := hide hB
        have hmb := lt_of_heap (unhide HM)
        have hne := row_kind (unhide HL) (unhide HM) (by decide)
        have hLr := row_but (unhide HL) hB (fun _ _ h => h)
        have HLr := hide hLr
        have hMr := hB.heap (unhide HM) (fun h => h)
        have HMr := hide hMr
        have hcl : wr.cell? ⟨mb, 1, none⟩ = some (.slice ro ls.length rc) := blk_cell hMr 1
        have hfr : ∀ j, wr.frozen? ⟨mb, j, none⟩ = false := blk_thaw hMr
        clear hO hB hLr hMr
        go_wp2_with
           (at_builtin
            refine wpList_append_lies _ rfl _ _ 73 rfl base 150 j0 _ 2 48 Tryz.underlying73 hj hy0 hy1 hy2 rfl (by decide) _ ls.length (ncells ls) rfl ((unhide HLr).alloc _) ⟨wr.heap.size, 0, none⟩ 1 1 (ncell ⟨w.heap.size, l, .slice (some ad) l.length cap⟩) rfl rfl (newsN (new_at _ _ _ rfl)) (ncell_one _ _ _ _ _) (by decide) (by unfold maxLen; omega) (by omega) (by simp; omega) _ rfl ?_
            intro g gc w2 hown hgrow hat hlt2
            have hG : wr.grownBy w2 (Value.slice ro ls.length rc).ownBlock := grown_trans (World.grownBy_alloc wr _ _) hgrow
            have hM2 : w2.heap[mb]? = some (.cells #[lq, .slice ro ls.length rc, lo] 76) := grown_block hG (unhide HMr) hne
            have hO2 : OwnN w2 base (.slice (some ⟨w.heap.size, 0, none⟩) (l.length + 3) (l.length + 3)) (l ++ [(77 : Int), (77 : Int), (77 : Int)]) := World.ownsRow.kept (unhide HO) hG (.inr (fun e => absurd (World.ownsRow.lt (unhide HL) _ e.symm).2 (by simp [Value.ownBlock])))
            have hL2 : w2.ownsRow base 150 2 (.slice (some ⟨g, 0, none⟩) (ls.length + 1) gc) (ls.length + 1) (ncells (ls ++ [⟨w.heap.size, l, .slice (some ad) l.length cap⟩])) := by rw [ncells_snoc]; exact hown
            have hgm : g ≠ mb := by
              rcases hat with c | c
              · intro e; subst e; exact hne c
              · have := lt_of_heap (unhide HMr); simp at c; omega
            have HG := hide hG
            have HM2 := hide hM2
            have HO2 := hide hO2
            have HL2 := hide hL2
            have HA := hide hat
            have hcl2 : w2.cell? ⟨mb, 1, none⟩ = some (.slice ro ls.length rc) := blk_cell hM2 1
            have hfr2 : ∀ j, w2.frozen? ⟨mb, j, none⟩ = false := blk_thaw hM2
            clear hown hgrow hG hM2 hO2 hL2 hat)
        go_ret
        refine ⟨_, rfl, ?_, .slice (some ⟨g, 0, none⟩) (ls.length + 1) gc, ls ++ [⟨w.heap.size, l, .slice (some ad) l.length cap⟩], ?_⟩
        · show OwnN _ base (.slice (some ⟨w.heap.size, 0, none⟩) l.length (l.length + 3)) l
          exact ownN_front (B := [(77 : Int), (77 : Int), (77 : Int)]) (ownsRow_setCell_other (unhide HO2) (by simp [Value.ownBlock]; omega) _)
        · refine ⟨?_, ?_, ?_, .inr ⟨_, rfl, rfl, rfl, rfl, Nat.le_refl _, ?_, ?_⟩⟩
          · have := blk_set (i := 1) (unhide HM2) (.slice (some ⟨g, 0, none⟩) (ls.length + 1) gc)
            simpa using this
          · have := ownsRow_setCell_other (unhide HL2) (a := ⟨mb, 1, none⟩) (by simp [Value.ownBlock]; exact hgm) (.slice (some ⟨g, 0, none⟩) (ls.length + 1) gc)
            unfold OwnNL; rw [List.length_append]; exact this
          · exact ((unhide HB).wide (fun _ _ h => h.elim) |>.grown (unhide HG) (fun k e => .inl (.inr e))).setCell (.inl (.inl rfl)) _
          · have := (unhide HG).size
            simp [World.setCell]; omega
          · exact ownsRow_setCell_other (unhide HO2) (by simp [Value.ownBlock]; omega) _
end Go.Proofs.YtfnockbgkcgpkaaGreat
