import Derived.Test.YtfnockbgkcgpkaaBase
set_option linter.all false
namespace Go.Proofs.Ytfnockbgkcgpkaa
open Go.RowKit Go.Proofs.Panes
set_option maxRecDepth 100000

set_option maxHeartbeats 800000 in
theorem addColumns_any (base : Nat) (v : Value) (l : List Rc) (x y wi h a e : Int) (w : World) (hO : Own w base v l) (hnil : l = [] → v = .slice none 0 0) (hbase : base ≤ w.heap.size) (hn : l.length ≤ 10000000)
   (ha : -10000 ≤ a ∧ a ≤ 10000) (he : -10000 ≤ e ∧ e ≤ 10000) :
    Calls Try.prog 107 #[v, .agg #[.int .i64 x, .int .i64 y, .int .i64 wi, .int .i64 h], .int .i64 a, .int .i64 e] w fun en w' =>
      ∃ v', en = .returned v' ∧ Own w' base v' (l ++ if a < e then [⟨a, y, e - a, h⟩] else []) ∧ ((l ++ if a < e then [(⟨a, y, e - a, h⟩ : Rc)] else []) = [] → v' = .slice none 0 0) ∧ w.grownBy w' v.ownBlock ∧
        (∀ (box : Nat) (cur : Array Value) (t : TypeId) (fr : Nat × Nat), w.heap[box]? = some (.cells cur t fr) → cur.size = 4 → v.ownBlock ≠ some box → v'.ownBlock ≠ some box) := by
  obtain ⟨i0, hi, hz0, hz1, hz2⟩ := info_parts info_rect
  by_cases hae : a < e
  · rw [if_pos hae]
    by_cases hl : l = []
    · have hv := hnil hl
      subst hl
      subst hv
      clear hnil hO
      go_enter Try.func107, Try.ntmps107
      go_wp2_with (at_builtin; refine wpList_append_own _ rfl _ _ 22 rfl w.heap.size 29 i0 (.agg #[.int .i64 0, .int .i64 0, .int .i64 0, .int .i64 0]) 4 32 Try.underlying22 hi hz0 hz1 hz2 rfl (by decide) _ _ _ rfl (own_alloc (own_alloc (own_nil (w := w) w.heap.size) _) _) ⟨w.heap.size + 1, 0, none⟩ 1 1 (rcell ⟨a, y, e - a, h⟩) rfl rfl ?c1 ?c2 ?c3 ?c4 ?c5 ?_)
      case c1 => exact newcells (new_at _ _ _ (by simp))
      case c2 => exact rcell_one _
      case c3 => simp [maxLen]
      case c4 => simp
      case c5 => simp; omega
      intro v' w1 hown hgrow _
      have HO := hide (Own.snoc (l := []) hown)
      have HG := hide hgrow
      clear hown hgrow
      go_wp2
      go_ret
      refine ⟨v', rfl, (unhide HO).mono hbase, fun h => by simp at h, grown_trans (grown_trans (World.grownBy_alloc _ _ _) (World.grownBy_alloc _ _ _)) (unhide HG), fun box cur t fr hb hs hne => own_far (unhide HO) (lt_of_heap hb)⟩
    · have HL := hide hl
      have HO0 := hide hO
      obtain ⟨so, sc, rfl, _⟩ := own_slice hO
      clear hl hnil hO
      go_enter Try.func107, Try.ntmps107
      go_wp2_with (at_builtin; refine wpList_append_own _ rfl _ _ 22 rfl base 29 i0 (.agg #[.int .i64 0, .int .i64 0, .int .i64 0, .int .i64 0]) 4 32 Try.underlying22 hi hz0 hz1 hz2 rfl (by decide) _ _ _ rfl (own_alloc (own_alloc (unhide HO0) _) _) ⟨w.heap.size + 1, 0, none⟩ 1 1 (rcell ⟨a, y, e - a, h⟩) rfl rfl ?d1 ?d2 ?d3 ?d4 ?d5 ?_)
      case d1 => exact newcells (new_at _ _ _ (by simp))
      case d2 => exact rcell_one _
      case d3 => unfold maxLen; omega
      case d4 => omega
      case d5 => simp; omega
      intro v' w1 hown hgrow _
      have HO := hide (Own.snoc (l := l) hown)
      have HG := hide (grown_trans (grown_trans (World.grownBy_alloc w _ _) (World.grownBy_alloc _ _ _)) hgrow)
      clear hown hgrow
      go_wp2
      go_ret
      refine ⟨v', rfl, unhide HO, fun h => by simp at h, unhide HG, fun box cur t fr hb hs hne => own_apart (unhide HO) (by have := List.length_pos_iff.2 (unhide HL); simp; omega) (grown_block (unhide HG) hb hne) hs⟩
  · rw [if_neg hae, List.append_nil]
    have HN := hide hnil
    have HO := hide hO
    clear hnil hO
    go_enter Try.func107, Try.ntmps107
    go_wp2
    go_ret
    exact ⟨_, rfl, own_alloc (unhide HO) _, unhide HN, World.grownBy_alloc _ _ _, by intros; assumption⟩
end Go.Proofs.Ytfnockbgkcgpkaa
