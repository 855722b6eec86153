import Derived.Test.YtfnockbgkcgpkaaWalksL
set_option linter.all false
namespace Go.Proofs.Ytfnockbgkcgpkaa
open Go.RowKit Go.Proofs.Panes
set_option maxRecDepth 100000

theorem sortI_any (base : Nat) (v : Value) (l : List Int) (w : World) (hO : OwnI w base v l) (hn : l.length ≤ 1000000) :
    Calls Try.prog 122 #[v] w fun e w' => e = .returned (.tuple #[]) ∧ OwnI w' base v (l.mergeSort fun x y => decide (x ≤ y)) ∧ w.grownBy w' v.ownBlock := by
  rcases hO.2 with ⟨rfl, h0⟩ | ⟨g, cap, cur, rfl, hb, hg, hc, hm, hs, ht⟩
  · have e0 : l = [] := List.length_eq_zero_iff.1 h0
    subst e0
    have hcon := AnyM.slices_Sort_int_none Try.laySort none 0 w
    change Calls Try.prog 122 _ _ _ at hcon
    exact hcon.mono fun e w' ⟨he, hw⟩ => ⟨he, by rw [List.mergeSort_nil]; exact hw ▸ hO, hw ▸ grown_drewN w 0 _⟩
  · have hcon := AnyM.slices_Sort_int Try.laySort g 0 cap l w (holds_of_blockI hg (by simpa using ht)) (Array.getElem?_eq_some_iff.1 hg).1 (by omega)
    change Calls Try.prog 122 _ _ _ at hcon
    refine hcon.mono fun e w' ⟨he, n, os, hw⟩ => ⟨he, ?_, ?_⟩
    · rw [hw]
      have := ownsRow_sortedI (w := w) (base := base) (g := g) (cap := cap) (n := n) (os := os) (cur := cur) (ss := l) (ts := l.mergeSort fun x y => decide (x ≤ y)) (by simp) hb hg hc hm hs
      unfold OwnI
      rw [List.length_mergeSort]
      exact this
    · rw [hw]; exact grownBy_sortedI _

theorem compact_len (l : List Int) : (Lib.compact l).length ≤ l.length := by
  unfold Lib.compact Lib.compactUpTo
  rw [List.length_map]
  exact Nat.le_trans (List.length_filter_le _ _) (by simp)

theorem compactI_any (base : Nat) (v : Value) (l : List Int) (w : World) (hO : OwnI w base v l) (hn : l.length ≤ 1000000) :
    Calls Try.prog 123 #[v] w fun e w' => ∃ v', e = .returned v' ∧ OwnI w' base v' (Lib.compact l) ∧ w.grownBy w' v.ownBlock := by
  rcases hO.2 with ⟨rfl, h0⟩ | ⟨g, cap, cur, rfl, hb, hg, hc, hm, hs, ht⟩
  · have e0 : l = [] := List.length_eq_zero_iff.1 h0
    subst e0
    have hcon := AnyG.slices_Compact_int_empty Try.layCompact none 0 w
    change Calls Try.prog 123 _ _ _ at hcon
    exact hcon.mono fun e w' ⟨he, hw⟩ => ⟨_, he, hw ▸ hO, hw ▸ grown_drewN w 0 _⟩
  · have hcon := AnyG.slices_Compact_int Try.layCompact g 0 cap l w (holds_of_blockI hg (by simpa using ht)) (by omega) hc
    change Calls Try.prog 123 _ _ _ at hcon
    have hcl := compact_len l
    refine hcon.mono fun e w' ⟨he, q, hw⟩ => ⟨_, he, ?_, ?_⟩
    · rw [hw]
      have hh := heap_sortedI (w := w) (g := g) (n := q) (os := #[]) (cur := cur) (fr := (0, 0)) (Lib.compact l ++ List.replicate (l.length - (Lib.compact l).length) 0).toArray hg
      rw [Go.Sort.grow_empty] at hh
      refine ⟨by simp, .inr ⟨g, cap, _, rfl, hb, hh, by omega, hm, by simp [Sort.putCells, hs], ?_⟩⟩
      have hts := take_putCellsI cur (Lib.compact l ++ List.replicate (l.length - (Lib.compact l).length) 0) (by simp; omega)
      have hl : (Lib.compact l ++ List.replicate (l.length - (Lib.compact l).length) 0).length = l.length := by simp; omega
      rw [hl] at hts
      rw [Nat.mul_one]
      have := congrArg (List.take (Lib.compact l).length) hts
      rw [List.take_take, Nat.min_eq_left hcl, List.map_append, List.take_append_of_le_length (by simp)] at this
      exact this.trans (List.take_of_length_le (by simp))
    · rw [hw]
      have := grownBy_sortedI (w := w) (g := g) (n := q) (os := #[]) (Lib.compact l ++ List.replicate (l.length - (Lib.compact l).length) 0).toArray
      rw [Go.Sort.grow_empty] at this
      exact this

set_option maxHeartbeats 4000000 in
theorem edges_any (g : Nat) (va vb : Value) (a b : List Rc) (w : World) (hg : w.heap[g]? = some (Obj.cells #[va, vb] 22)) (hA : Rd w va a) (hB : Rd w vb b) (na : a.length ≤ 1000) (nb : b.length ≤ 1000) (ma : ∀ r ∈ a, May r) (mb : ∀ r ∈ b, May r) :
    Calls Try.prog 101 #[.slice (some ⟨g, 0, none⟩) 2 2] w fun e w' => ∃ v' rows, e = .returned v' ∧ OwnI w' w.heap.size v' rows ∧ rows.Pairwise (· < ·) ∧ (∀ y, y ∈ rows ↔ ∃ r ∈ a ++ b, y = r.y ∨ y = r.y + r.h) ∧ rows.length ≤ 2 * (a ++ b).length ∧ Below w.heap.size w w' := by
  obtain ⟨i0, hi, hz0, hz1, hz2⟩ := info_parts info_int
  have glt := lt_of_heap hg
  have e0 : w.cell? ⟨g, 0, none⟩ = some va := by rw [cell_of_row w g 0 _ _ _ hg]; rfl
  have e1 : w.cell? ⟨g, 1, none⟩ = some vb := by rw [cell_of_row w g 1 _ _ _ hg]; rfl
  obtain ⟨ao, ca, rfl, _, _, a3⟩ := hA
  obtain ⟨bo, cb, rfl, _, _, b3⟩ := hB
  clear hg
  go_enter Try.func101, Try.ntmps101
  go_wp2
  go_loopw [3, 10] (fun v i wr => ∃ L, ((i = .int .i64 0 ∧ L = []) ∨ (i = .int .i64 1 ∧ L = a) ∨ (i = .int .i64 2 ∧ L = a ++ b)) ∧ OwnI wr w.heap.size v (edgesOf L) ∧ Below w.heap.size w wr) (fun _ i _ => 2 - (intOf i).toNat)
  case atStart => exact ⟨[], .inl ⟨rfl, rfl⟩, World.ownsRow_nil _ _ _ _, Below.refl _ _⟩
  case round =>
    obtain ⟨L, hL, hO, hbel⟩ := hrel
    obtain ⟨wo, hwo⟩ : ∃ wo : World, wo = wr := ⟨_, rfl⟩
    subst hwo
    have x0 := (hbel.cell (p := ⟨g, 0, none⟩) glt).trans e0
    have x1 := (hbel.cell (p := ⟨g, 1, none⟩) glt).trans e1
    have hsz := hbel.size
    have HO := hide hO
    have Hb := hide hbel
    clear hO hbel
    rcases hL with ⟨rfl, hLe⟩ | ⟨rfl, hLe⟩ | ⟨rfl, hLe⟩
    · have HLe := hide hLe
      have hnL : L.length ≤ 1000 := by rw [hLe]; first | (simp; done) | exact na
      clear hLe
      go_wp2
      go_loopw [3, 16] (fun v j wr => ∃ m : Nat, m ≤ a.length ∧ j = .int .i64 m ∧ OwnI wr w.heap.size v (edgesOf (L ++ a.take m)) ∧ Below w.heap.size w wr) (fun _ j _ => a.length - (intOf j).toNat)
      case atStart => exact ⟨0, Nat.zero_le _, rfl, by rw [List.take_zero, List.append_nil]; exact unhide HO, unhide Hb⟩
      case round =>
        obtain ⟨m, hm, rfl, hO2, hbel2⟩ := hrel
        have hbq := hbel2.size
        by_cases hlt : m < a.length
        · obtain ⟨b2, off2, rfl, hbb, hd⟩ := a3 (by intro e; subst e; simp at hlt)
          obtain ⟨r, hr⟩ : ∃ r, a[m]? = some r := ⟨a[m], by simp [hlt]⟩
          obtain ⟨d1, d2, d3, d4⟩ := (hd m r hr).below hbel2 hbb
          have lt2 : b2 < wr.heap.size := by omega
          have hmr := ma r (List.mem_of_getElem? hr)
          unfold May at hmr
          obtain ⟨m1, m2, m3, m4⟩ := hmr
          have HE : Hid (edgesOf (L ++ a.take (m + 1)) = edgesOf (L ++ a.take m) ++ [r.y, r.y + r.h]) := by
            show _ = _
            rw [List.take_add_one, hr, ← List.append_assoc]; exact edgesOf_snoc _ _
          have HLn : Hid ((edgesOf (L ++ a.take m)).length ≤ 4000) := by
            show _ ≤ _
            rw [edgesOf_len, List.length_append]
            have := List.length_take_le m a
            omega
          have HO2 := hide hO2
          have Hb2 := hide hbel2
          obtain ⟨ro, rc, rfl, _⟩ := ownI_slice hO2
          clear hO2 hbel2 hd a3 b3 hr
          go_wp2_with (at_builtin; refine wpList_append_own _ rfl _ _ 23 rfl w.heap.size 3 i0 (.int .i64 0) 1 8 Try.underlying23 hi hz0 hz1 hz2 rfl (by decide) _ _ _ rfl (ownI_alloc (ownI_alloc (unhide HO2) _) _) ⟨wr.heap.size + 1, 0, none⟩ 2 2 [.int .i64 r.y, .int .i64 (r.y + r.h)] rfl rfl ?c1 ?c2 ?c3 ?c4 ?c5 ?_)
          case c1 =>
            intro j u hj
            match j, hj with
            | 0, hj => simp at hj; subst hj; simp [Addr.add]
            | 1, hj => simp at hj; subst hj; simp [Addr.add]
          case c2 =>
            intro u hu
            simp at hu
            rcases hu with rfl | rfl <;> rfl
          case c3 => have := unhide HLn; unfold maxLen; omega
          case c4 => have := unhide HLn; omega
          case c5 => simp; omega
          intro v' w3 hown hgrow _
          have HOn := hide (ownI_two hown)
          have HG := hide (grown_trans (grown_trans (World.grownBy_alloc wr _ _) (World.grownBy_alloc _ _ _)) hgrow)
          clear hown hgrow
          go_wp2
          go_roundw
          case rel => exact ⟨m + 1, by omega, by go_num, by rw [unhide HE]; exact unhide HOn, (unhide Hb2).grown (unhide HG) hbq (ownI_row (unhide HO2))⟩
          case measure => simp [intOf]; omega
        · have hml : m = a.length := by omega
          rw [hml, List.take_length] at hO2
          have HO2 := hide hO2
          have Hb2 := hide hbel2
          clear hO2 hbel2 a3 b3
          go_wp2
          go_roundw
          case rel => exact ⟨L ++ a, .inr (.inl ⟨by go_num, by rw [unhide HLe]; rfl⟩), unhide HO2, unhide Hb2⟩
          case measure => simp [intOf]
    · have HLe := hide hLe
      have hnL : L.length ≤ 1000 := by rw [hLe]; first | (simp; done) | exact na
      clear hLe
      go_wp2
      go_loopw [3, 16] (fun v j wr => ∃ m : Nat, m ≤ b.length ∧ j = .int .i64 m ∧ OwnI wr w.heap.size v (edgesOf (L ++ b.take m)) ∧ Below w.heap.size w wr) (fun _ j _ => b.length - (intOf j).toNat)
      case atStart => exact ⟨0, Nat.zero_le _, rfl, by rw [List.take_zero, List.append_nil]; exact unhide HO, unhide Hb⟩
      case round =>
        obtain ⟨m, hm, rfl, hO2, hbel2⟩ := hrel
        have hbq := hbel2.size
        by_cases hlt : m < b.length
        · obtain ⟨b2, off2, rfl, hbb, hd⟩ := b3 (by intro e; subst e; simp at hlt)
          obtain ⟨r, hr⟩ : ∃ r, b[m]? = some r := ⟨b[m], by simp [hlt]⟩
          obtain ⟨d1, d2, d3, d4⟩ := (hd m r hr).below hbel2 hbb
          have lt2 : b2 < wr.heap.size := by omega
          have hmr := mb r (List.mem_of_getElem? hr)
          unfold May at hmr
          obtain ⟨m1, m2, m3, m4⟩ := hmr
          have HE : Hid (edgesOf (L ++ b.take (m + 1)) = edgesOf (L ++ b.take m) ++ [r.y, r.y + r.h]) := by
            show _ = _
            rw [List.take_add_one, hr, ← List.append_assoc]; exact edgesOf_snoc _ _
          have HLn : Hid ((edgesOf (L ++ b.take m)).length ≤ 4000) := by
            show _ ≤ _
            rw [edgesOf_len, List.length_append]
            have := List.length_take_le m b
            omega
          have HO2 := hide hO2
          have Hb2 := hide hbel2
          obtain ⟨ro, rc, rfl, _⟩ := ownI_slice hO2
          clear hO2 hbel2 hd a3 b3 hr
          go_wp2_with (at_builtin; refine wpList_append_own _ rfl _ _ 23 rfl w.heap.size 3 i0 (.int .i64 0) 1 8 Try.underlying23 hi hz0 hz1 hz2 rfl (by decide) _ _ _ rfl (ownI_alloc (ownI_alloc (unhide HO2) _) _) ⟨wr.heap.size + 1, 0, none⟩ 2 2 [.int .i64 r.y, .int .i64 (r.y + r.h)] rfl rfl ?d1 ?d2 ?d3 ?d4 ?d5 ?_)
          case d1 =>
            intro j u hj
            match j, hj with
            | 0, hj => simp at hj; subst hj; simp [Addr.add]
            | 1, hj => simp at hj; subst hj; simp [Addr.add]
          case d2 =>
            intro u hu
            simp at hu
            rcases hu with rfl | rfl <;> rfl
          case d3 => have := unhide HLn; unfold maxLen; omega
          case d4 => have := unhide HLn; omega
          case d5 => simp; omega
          intro v' w3 hown hgrow _
          have HOn := hide (ownI_two hown)
          have HG := hide (grown_trans (grown_trans (World.grownBy_alloc wr _ _) (World.grownBy_alloc _ _ _)) hgrow)
          clear hown hgrow
          go_wp2
          go_roundw
          case rel => exact ⟨m + 1, by omega, by go_num, by rw [unhide HE]; exact unhide HOn, (unhide Hb2).grown (unhide HG) hbq (ownI_row (unhide HO2))⟩
          case measure => simp [intOf]; omega
        · have hml : m = b.length := by omega
          rw [hml, List.take_length] at hO2
          have HO2 := hide hO2
          have Hb2 := hide hbel2
          clear hO2 hbel2 a3 b3
          go_wp2
          go_roundw
          case rel => exact ⟨L ++ b, .inr (.inr ⟨by go_num, by rw [unhide HLe]⟩), unhide HO2, unhide Hb2⟩
          case measure => simp [intOf]
    · have HLe := hide hLe
      have HnL : Hid ((edgesOf L).length ≤ 4000) := by show _ ≤ _; rw [edgesOf_len, hLe, List.length_append]; omega
      clear hLe a3 b3
      go_wp2_with (first
        | (go_at_call 122; refine (sortI_any w.heap.size _ (edgesOf L) wo (unhide HO) (by have := unhide HnL; omega)).mono ?_; rintro e w2 ⟨rfl, hO2, hg2⟩; have HO2 := hide hO2; have HG2 := hide hg2; clear hO2 hg2)
        | (go_at_call 123; refine (compactI_any w.heap.size _ ((edgesOf L).mergeSort fun x y => decide (x ≤ y)) w2 (unhide HO2) (by have := unhide HnL; rw [List.length_mergeSort]; omega)).mono ?_; rintro e w3 ⟨v3, rfl, hO3, hg3⟩; have HO3 := hide hO3; have HG3 := hide hg3; clear hO3 hg3))
      go_ret
      have hcp := compact_of (edgesOf L)
      refine ⟨_, _, rfl, unhide HO3, hcp.1, fun y => ?_, ?_, ((unhide Hb).grown (unhide HG2) hsz (ownI_row (unhide HO))).grown (unhide HG3) (by have := (unhide HG2).size; omega) (ownI_row (unhide HO))⟩
      · rw [hcp.2 y, mem_edgesOf, unhide HLe]
      · refine Nat.le_trans (compact_len _) ?_
        rw [List.length_mergeSort, edgesOf_len, unhide HLe]; exact Nat.le_refl _
end Go.Proofs.Ytfnockbgkcgpkaa
