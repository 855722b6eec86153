import Derived.Test.YtfnockbgkcgpkaaWalksH
import Derived.Laws.AppendOwnNone
import Derived.Test.YtfnockbgkcgpkaaShelf
set_option linter.all false
namespace Go.Proofs.Ytfnockbgkcgpkaa
open Go.Shelf Go.RowKit Go.Lib Go.Proofs.Panes
set_option maxRecDepth 100000

theorem grow_any (n : Nat) (w : World) (hn : n ≤ 100000) : Calls Try.prog 129 #[.slice none 0 0, .int .i64 n] w fun e w' => ∃ v', e = .returned v' ∧ Own w' w.heap.size v' [] ∧ Below w.heap.size w w' := by
  obtain ⟨i0, hi, hz0, hz1, hz2⟩ := info_parts info_rect
  by_cases h0 : n = 0
  · subst h0
    have hcon := Any8.slices_Grow_room Try.layGrow none 0 0 0 w (by omega) (by omega) (by omega) (by omega)
    change Calls Try.prog 129 _ _ _ at hcon
    exact hcon.mono fun e w' ⟨he, hw⟩ => ⟨_, he, own_nil _, hw ▸ Below.refl _ _⟩
  · have hcon := Any8.slices_Grow_grow Try.layGrow i0 _ hi hz0 (by omega) none 0 0 n [] w (by omega) (by omega) (by rw [hz2]; omega) (by omega) (by simp) (fun _ => rfl) (fun a h => by cases h)
    change Calls Try.prog 129 _ _ _ at hcon
    refine hcon.mono fun e w' ⟨he, hw⟩ => ⟨_, he, ?_, ?_⟩
    · rw [hw]
      refine ⟨by simp [rcells_nil], .inr ⟨w.heap.size, _, _, rfl, Nat.le_refl _, new_at _ _ _ rfl, Nat.zero_le _, grownCap_le_maxLen _ _ _ _ (by simp [maxLen]; omega), ?_, by simp [rcells_nil]⟩⟩
      have := grownCap_ge w n 0 (Try.layGrow_ren.t 25)
      show (_ : Array Value).size = _
      simp [size_zeroCells, Value.cells]
      omega
    · rw [hw]; exact (Below.refl _ w).drew.alloc (Nat.le_refl _) _

theorem own_cells_at {w : World} {base g n cap : Nat} {l : List Rc} (h : Own w base (.slice (some ⟨g, 0, none⟩) n cap) l) : ∀ j u, (rcells l)[j]? = some u → w.cell? ((⟨g, 0, none⟩ : Addr).add j) = some u :=
  fun j u hu => World.ownsRow.cells h rfl j u hu
theorem own_join {w : World} {base : Nat} {v : Value} {k l : List Rc} (h : w.ownsRow base 29 4 v (k.length + l.length) (rcells k ++ rcells l)) : Own w base v (k ++ l) := by
  unfold Own; rw [rcells_append, List.length_append]; exact h


/-- 'append(dst, src...)', dst and src rows that somebody owns, nil or not. -/
theorem append_rects {w : World} {ops : Array Oper} {rest : List Oper} {o : Oper} {a : Act} {Q : Exit → Act → World → Prop} (hgd : o.guard = none) (s x : Operand)
    (ho : o.op = .call { callee := .builtin .append, args := #[s, x], argTypes := #[22, 22] }) (base bs : Nat) (d v : Value) (L l : List Rc) (hs : a.eval s = d) (hO : Own w base d L) (hx : a.eval x = v) (hS : Own w bs v l)
    (hn : L.length + l.length ≤ 1000000000) (hbase : base ≤ w.heap.size)
    (h : ∀ v' w', Own w' base v' (L ++ l) → w.grownBy w' d.ownBlock → wpList Try.prog ops Q rest (a.put o.dst v') w') : wpList Try.prog ops Q (o :: rest) a w := by
  obtain ⟨i0, hi, hz0, hz1, hz2⟩ := info_parts info_rect
  rcases hS.2 with ⟨rfl, hl⟩ | ⟨ga, c, cur, rfl, _⟩
  · have e : l = [] := List.length_eq_zero_iff.1 hl
    subst e
    refine wpList_append_own_none hgd s x 22 ho base 29 i0 4 Try.underlying22 hi d L.length (rcells L) hs hO hx ?_
    exact h d w (by rw [List.append_nil]; exact hO) (grown_drewN w 0 _)
  · refine wpList_append_own _ hgd s x 22 ho base 29 i0 (.agg #[.int .i64 0, .int .i64 0, .int .i64 0, .int .i64 0]) 4 32 Try.underlying22 hi hz0 hz1 hz2 rfl (by decide) d L.length (rcells L) hs hO ⟨ga, 0, none⟩ l.length c (rcells l) hx (rcells_len _) (own_cells_at hS) (rcells_one _) (by unfold maxLen; omega) (by omega) hbase ?_
    intro v' w' hown hgrow _
    exact h v' w' (own_join hown) hgrow

end Go.Proofs.Ytfnockbgkcgpkaa
namespace Go.Proofs.Ytfnockbgkcgpkaa
open Go.RowKit Go.Proofs.Panes
set_option maxRecDepth 100000
set_option maxHeartbeats 4000000 in
theorem concat_any (g ba bb : Nat) (va vb : Value) (a b : List Rc) (w : World) (hg : w.heap[g]? = some (Obj.cells #[va, vb] 22)) (ha : Own w ba va a) (hb : Own w bb vb b) (na : a.length ≤ 3000) (nb : b.length ≤ 3000) :
    Calls Try.prog 106 #[.slice (some ⟨g, 0, none⟩) 2 2] w fun e w' => ∃ v', e = .returned v' ∧ Own w' w.heap.size v' (a ++ b) ∧ Below w.heap.size w w' := by
  obtain ⟨i0, hi, hz0, hz1, hz2⟩ := info_parts info_rect
  have glt := lt_of_heap hg
  have e0 : w.cell? ⟨g, 0, none⟩ = some va := by rw [cell_of_row w g 0 _ _ _ hg]; rfl
  have e1 : w.cell? ⟨g, 1, none⟩ = some vb := by rw [cell_of_row w g 1 _ _ _ hg]; rfl
  obtain ⟨ao, ca, ea, _⟩ := own_slice ha
  obtain ⟨bo, cb, eb, _⟩ := own_slice hb
  have HA := hide ha
  have HB := hide hb
  subst ea eb
  clear ha hb hg
  go_enter Try.func106, Try.ntmps106
  go_wp2
  go_loop [3, 11] (fun sz i => (i = .int .i64 0 ∧ sz = .int .i64 0) ∨ (i = .int .i64 1 ∧ sz = .int .i64 a.length) ∨ (i = .int .i64 2 ∧ sz = .int .i64 (a.length + b.length : Nat))) (fun _ i => 2 - (intOf i).toNat)
  case atStart => exact .inl ⟨rfl, rfl⟩
  case round =>
    rcases hrel with ⟨rfl, rfl⟩ | ⟨rfl, rfl⟩ | ⟨rfl, rfl⟩
    · go_wp2
      go_round
      case rel => exact .inr (.inl ⟨by go_num, by go_num⟩)
      case measure => simp [intOf]
    · go_wp2
      go_round
      case rel => exact .inr (.inr ⟨by go_num, by go_num⟩)
      case measure => simp [intOf]
    · go_wp2_with (go_at_call 129; refine (grow_any (a.length + b.length) w (by omega)).mono ?_; rintro e w1 ⟨v1, rfl, hO1, hb1⟩; have HO1 := hide hO1; have Hb1 := hide hb1; have e0' := (hb1.cell (p := ⟨g, 0, none⟩) glt).trans e0; have e1' := (hb1.cell (p := ⟨g, 1, none⟩) glt).trans e1; clear hO1 hb1)
      go_loopw [6, 27] (fun v i wr => ∃ L, ((i = .int .i64 0 ∧ L = []) ∨ (i = .int .i64 1 ∧ L = a) ∨ (i = .int .i64 2 ∧ L = a ++ b)) ∧ Own wr w.heap.size v L ∧ Below w.heap.size w wr) (fun _ i _ => 2 - (intOf i).toNat)
      case atStart => exact ⟨[], .inl ⟨rfl, rfl⟩, unhide HO1, unhide Hb1⟩
      case round =>
        obtain ⟨L, hL, hO, hbel⟩ := hrel
        have x0 := (hbel.cell (p := ⟨g, 0, none⟩) glt).trans e0
        have x1 := (hbel.cell (p := ⟨g, 1, none⟩) glt).trans e1
        have hsz := hbel.size
        have HO := hide hO
        have Hb := hide hbel
        clear hO hbel e0' e1'
        rcases hL with ⟨rfl, hLe⟩ | ⟨rfl, hLe⟩ | ⟨rfl, hLe⟩
        · subst hLe
          have HAr := hide (Own.kept (unhide HA) (unhide Hb))
          obtain ⟨no, nc, rfl, _⟩ := own_slice (unhide HO)
          go_wp2_with (at_builtin; refine append_rects rfl _ _ rfl w.heap.size _ _ _ _ a rfl (unhide HO) rfl (unhide HAr) (by first | (simp; omega) | omega) hsz ?_; intro v' w2 hown hgrow; have HOn := hide hown; have HG := hide hgrow; clear hown hgrow)
          go_roundw
          case rel => exact ⟨_, .inr (.inl ⟨by go_num, rfl⟩), unhide HOn, (unhide Hb).grown (unhide HG) hsz (Own.row_ge (unhide HO))⟩
          case measure => simp [intOf]
        · subst hLe
          have HAr := hide (Own.kept (unhide HB) (unhide Hb))
          obtain ⟨no, nc, rfl, _⟩ := own_slice (unhide HO)
          go_wp2_with (at_builtin; refine append_rects rfl _ _ rfl w.heap.size _ _ _ _ b rfl (unhide HO) rfl (unhide HAr) (by first | (simp; omega) | omega) hsz ?_; intro v' w2 hown hgrow; have HOn := hide hown; have HG := hide hgrow; clear hown hgrow)
          go_roundw
          case rel => exact ⟨_, .inr (.inr ⟨by go_num, rfl⟩), unhide HOn, (unhide Hb).grown (unhide HG) hsz (Own.row_ge (unhide HO))⟩
          case measure => simp [intOf]
        · subst hLe
          go_wp2
          go_ret
          exact ⟨_, rfl, unhide HO, unhide Hb⟩

set_option maxHeartbeats 1000000 in
theorem either_any (hj : SaidJoin) (y h : Int) (ba bb : Nat) (va vb : Value) (a b : List Rc) (w : World) (ha : Own w ba va a) (hb : Own w bb vb b) (sa : Strip y h a) (sb : Strip y h b) :
    Calls Try.prog 74 #[va, vb] w fun e w' => ∃ v' S, e = .returned v' ∧ Own w' w.heap.size v' S ∧ Strip y h S ∧ (∀ px, col S px ↔ col a px ∨ col b px) ∧ Below w.heap.size w w' := by
  have la := sa.len
  have lb := sb.len
  have HJ := hide hj
  have HA := hide ha
  have HB := hide hb
  have HS := hide (Bits.append sa.1 sb.1)
  obtain ⟨ao, ca, rfl, _⟩ := own_slice ha
  obtain ⟨bo, cb, rfl, _⟩ := own_slice hb
  clear ha hb sa sb hj
  go_enter Try.func74, Try.ntmps74
  go_wp2_with (first
    | (go_at_call 106; refine (concat_any w.heap.size ba bb _ _ a b _ (new_at _ _ _ rfl) (own_alloc (unhide HA) _) (own_alloc (unhide HB) _) la lb).mono ?_; rintro e w1 ⟨v1, rfl, hO1, hb1⟩; have HO1 := hide hO1; have Hb1 := hide hb1; clear hO1 hb1)
    | (go_at_call 105; refine ((unhide HJ) y h _ _ (a ++ b) _ (unhide HO1) (unhide HS) (by simp; omega)).mono ?_; rintro e w2 ⟨v2, J, rfl, hO2, hS2, hc2, hg2⟩; have HO2 := hide hO2; have HS2 := hide hS2; have Hc2 := hide hc2; have HG2 := hide hg2; clear hO2 hS2 hc2 hg2))
  go_ret
  have z1 := (unhide Hb1).size
  simp at z1
  exact ⟨_, J, rfl, (unhide HO2).mono (by omega), unhide HS2, fun px => ((unhide Hc2) px).trans (col_append a b px), (((Below.refl _ w).alloc (Nat.le_refl _) _).trans ((unhide Hb1).mono (by simp))).grown (unhide HG2) (by omega) (fun k hk => by have := Own.row_ge (unhide HO1) k hk; simp at this; omega)⟩
end Go.Proofs.Ytfnockbgkcgpkaa
