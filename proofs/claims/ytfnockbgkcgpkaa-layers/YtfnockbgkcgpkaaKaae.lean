import Derived.Test.YtfnockbgkcgpkaaKaad
import Derived.Lib.Overlaps
import Derived.Laws.Externs
set_option linter.all false
namespace Go.Proofs.Ytfnockbgkcgpkaa
open Go.RowKit Go.Proofs.Panes
set_option maxRecDepth 100000

theorem wpList_append_run {P : Program} {w : World} {ops : Array Oper} {rest : List Oper} {o : Oper} {a : Act} {Q : Exit → Act → World → Prop} (hgd : o.guard = none) (s x : Operand) (t : TypeId)
    (ho : o.op = .call { callee := .builtin .append, args := #[s, x], argTypes := #[t, t] }) (v u r : Value) (w' : World) (hs : a.eval s = v) (hx : a.eval x = u) (hrun : ∀ ty, (Builtin.append_ #[t, t] ty #[v, u]).run P w = .ok r w')
    (h : wpList P ops Q rest (a.put o.dst r) w') : wpList P ops Q (o :: rest) a w := by
  refine wpList_plain hgd fun K hK => ?_
  unfold Oper.wp
  simp [execOp, ho, resolve, invoke, builtin, hs, hx, hrun, Result.andThen]
  exact hK _ _ h
theorem wpList_copy_run {P : Program} {w : World} {ops : Array Oper} {rest : List Oper} {o : Oper} {a : Act} {Q : Exit → Act → World → Prop} (hgd : o.guard = none) (s x : Operand) (t : TypeId)
    (ho : o.op = .call { callee := .builtin .copy, args := #[s, x], argTypes := #[t, t] }) (v u r : Value) (w' : World) (hs : a.eval s = v) (hx : a.eval x = u) (hrun : ∀ ty, (Builtin.copy_ #[t, t] ty #[v, u]).run P w = .ok r w')
    (h : wpList P ops Q rest (a.put o.dst r) w') : wpList P ops Q (o :: rest) a w := by
  refine wpList_plain hgd fun K hK => ?_
  unfold Oper.wp
  simp [execOp, ho, resolve, invoke, builtin, hs, hx, hrun, Result.andThen]
  exact hK _ _ h
theorem add_at (g o t : Nat) : (⟨g, o, none⟩ : Addr).add t = ⟨g, o + t, none⟩ := by unfold Addr.add; split <;> simp_all

set_option maxHeartbeats 2000000 in
theorem kinsert_any {w : World} {base g cap vb : Nat} {l : List P2} {p : P2} (hO : Own2 w base 143 (.slice (some ⟨g, 0, none⟩) l.length cap) l) (h1 : One2 l) (hp : p.1.oneCell' = true ∧ p.2.oneCell' = true) (hv : w.heap[vb]? = some (.cells #[p.1, p.2] 143 (0, 0))) (hvg : vb ≠ g) (i : Nat) (hi : i ≤ l.length) (hc : l.length < cap) (hl : l.length ≤ 1000) (D : List P2) (hD : D = l.take i ++ p :: l.drop i) :
    Calls Try.prog 144 #[.slice (some ⟨g, 0, none⟩) l.length cap, .int .i64 (i : Int), .slice (some ⟨vb, 0, none⟩) 1 1] w fun e w' =>
      e = .returned (.slice (some ⟨g, 0, none⟩) D.length cap) ∧ Own2 w' base 143 (.slice (some ⟨g, 0, none⟩) D.length cap) D ∧ But (fun k => k = g) w w' := by
  obtain ⟨R, hR, hcl, _, hb, hm⟩ := hO.row
  obtain ⟨n, hn⟩ : ∃ n, n = l.length := ⟨_, rfl⟩
  obtain ⟨L, hL⟩ : ∃ L, L = l ++ R := ⟨_, rfl⟩
  rw [← hL] at hR hcl
  rw [← hn]
  have hT : L.take n = l := by rw [hL, hn]; simp
  have hDl : D.length = n + 1 := by rw [hD]; simp; omega
  obtain ⟨i0', hi', hz0, hz1, hz2⟩ := info_parts info_key
  have hsz : (Try.prog.info? 143).map (·.size) = some 2 := by rw [hi']; simp [hz1]
  have hvc : ∀ (u : World), u.heap[vb]? = some (.cells #[p.1, p.2] 143 (0, 0)) → ∀ (t : Nat) (v : Value), (c2 [p])[t]? = some v → u.cell? ((⟨vb, 0, none⟩ : Addr).add t) = some v := by
    intro u hu t v ht
    rw [add_at, Nat.zero_add, blk_cell hu]
    simpa [c2] using ht
  have ho1 : One2 [p] := fun q hq => by simp at hq; subst hq; exact hp
  have i0 : (0 : Int) ≤ (i : Int) := by omega
  have i1 : (i : Int) ≤ (n : Int) := by omega
  have i2 : (n : Int) ≤ (cap : Int) := by omega
  by_cases hin : i = n
  · have hDn : D = l ++ [p] := by rw [hD, hin, hn]; simp
    obtain ⟨w1, hw1⟩ : ∃ w1, w1 = w.setRow g (c2 (L.take n ++ [p] ++ L.drop (n + 1))).toArray := ⟨_, rfl⟩
    have hAp : ∀ ty, (Builtin.append_ #[140, 140] ty #[.slice (some ⟨g, 0, none⟩) n cap, .slice (some ⟨vb, 0, none⟩) 1 1]).run Try.prog w = .ok (.slice (some ⟨g, 0, none⟩) (n + 1) cap) w1 := fun ty => by
      rw [hw1]
      exact run_append_row2 Try.underlying140 hsz hR hcl rfl (hvc w hv) (by omega) ho1
    have hr1 : Row2 w1 g 143 (L.take n ++ [p] ++ L.drop (n + 1)) := by rw [hw1]; exact setRow_heap _ _ _ _ _ _ hR
    rw [hT, List.append_assoc, ← List.append_assoc, ← hDn] at hr1
    have hown : Own2 w1 base 143 (.slice (some ⟨g, 0, none⟩) D.length cap) D := own2_of hr1 (by rw [List.length_append, hDl, List.length_drop, hcl]; omega) hb hm
    have hbut : But (fun k => k = g) w w1 := by rw [hw1]; exact ⟨rfl, rfl, rfl, by simp, fun k _ hk => setRow_other _ _ _ _ hk⟩
    have HO := hide hown
    have HB := hide hbut
    have HAp := hide hAp
    have HDl := hide hDl
    subst hin
    clear hown hbut hAp hDl hr1 hw1 hDn hD hT hvc ho1 hR hv h1 hO hi' hz0 hz1 hz2 hsz hL hn hp
    go_enter Try.func144, Try.ntmps144
    go_wp2_with (at_builtin; refine wpList_append_run rfl _ _ 140 rfl _ _ _ _ rfl rfl (unhide HAp) ?_)
    go_ret
    exact ⟨by rw [unhide HDl]; rfl, unhide HO, unhide HB⟩
  · have hlt : i < n := by omega
    have hov : ∀ lb cb, (callFunc 165 #[.slice (some ⟨vb, 0, none⟩) 1 1, .slice (some ⟨g, (i + 1) * 2, none⟩) lb cb]).run Try.prog w = .ok (.value (.bool false)) w := fun lb cb => by
      rw [run_callFunc_extern Try.func165 (by kernel_rfl) (by kernel_rfl) (by kernel_rfl) (e := Extern.SlicesOverlaps.overlaps #[140, 140] #[4]) (by kernel_rfl),
        Lib.run_overlaps_apart w 140 4 143 Try.underlying140 2 (fun w => by rfl) ⟨vb, 0, none⟩ ⟨g, (i + 1) * 2, none⟩ 1 1 lb cb hvg 143 143 2 (cap * 2) (by simp [World.shape?, hv]) (by simp [World.shape?, hR, c2_len, hcl]) (by omega) (blk_thaw hv _) (blk_thaw hv _)]
      rfl
    obtain ⟨X, hX⟩ : ∃ X, X = l.drop i := ⟨_, rfl⟩
    have hXl : X.length = n - i := by rw [hX, List.length_drop]; omega
    have hX1 : One2 X := fun q hq => h1 q (List.mem_of_mem_drop (hX ▸ hq))
    obtain ⟨L1, hL1⟩ : ∃ L1, L1 = L.take (i + 1) ++ X ++ L.drop (i + 1 + X.length) := ⟨_, rfl⟩
    obtain ⟨w1, hw1⟩ : ∃ w1, w1 = w.drew.setRow g (c2 L1).toArray := ⟨_, rfl⟩
    have hcp1 : ∀ dl dc sl sc ty, Nat.min sl dl = n - i → (Builtin.copy_ #[140, 140] ty #[.slice (some ⟨g, (i + 1) * 2, none⟩) dl dc, .slice (some ⟨g, i * 2, none⟩) sl sc]).run Try.prog w.drew = .ok (goInt X.length) w1 := fun dl dc sl sc ty hmin => by
      rw [hw1, hL1]
      refine run_copy_row2 (w := w.drew) Try.underlying140 hsz hR (by rw [hXl, hmin]) ?_ (by rw [hXl, hcl]; omega) hX1
      intro t v ht
      rw [add_at]
      show w.cell? _ = _
      rw [blk_cell hR, List.getElem?_toArray]
      have htl : t < (c2 X).length := (List.getElem?_eq_some_iff.1 ht).1
      rw [c2_len, hXl] at htl
      rw [hL, c2_append, List.getElem?_append_left (by rw [c2_len]; omega)]
      rw [hX, ← c2_drop, List.getElem?_drop] at ht
      exact ht
    have hr1 : Row2 w1 g 143 L1 := by rw [hw1]; exact setRow_heap w.drew g _ _ _ _ hR
    have hv1 : w1.heap[vb]? = some (.cells #[p.1, p.2] 143 (0, 0)) := by rw [hw1]; exact (setRow_other _ _ _ _ hvg).trans hv
    have hl1 : L1.length = cap := by rw [hL1]; simp [hXl, hcl]; omega
    obtain ⟨w2, hw2⟩ : ∃ w2, w2 = w1.setRow g (c2 (L1.take i ++ [p] ++ L1.drop (i + [p].length))).toArray := ⟨_, rfl⟩
    have hcp2 : ∀ dl dc ty, 1 ≤ dl → (Builtin.copy_ #[140, 140] ty #[.slice (some ⟨g, i * 2, none⟩) dl dc, .slice (some ⟨vb, 0, none⟩) 1 1]).run Try.prog w1 = .ok (goInt [p].length) w2 := fun dl dc ty hdl => by
      rw [hw2]
      exact run_copy_row2 Try.underlying140 hsz hr1 (by show 1 = _; simp only [Nat.min_def]; split <;> omega) (hvc w1 hv1) (by rw [hl1]; simp; omega) ho1
    have hr2 : Row2 w2 g 143 (L1.take i ++ [p] ++ L1.drop (i + 1)) := by rw [hw2]; exact setRow_heap _ _ _ _ _ _ hr1
    have e1 : L1.take i = l.take i := by
      rw [hL1, List.append_assoc, List.take_append_of_le_length (by rw [List.length_take, hcl]; omega), List.take_take, Nat.min_eq_left (by omega), ← hT, List.take_take, Nat.min_eq_left (by omega)]
    have e2 : L1.drop (i + 1) = X ++ L.drop (i + 1 + X.length) := by
      rw [hL1, List.append_assoc, List.drop_append_of_le_length (by rw [List.length_take, hcl]; omega), List.drop_of_length_le (by rw [List.length_take]; omega), List.nil_append]
    have hown : Own2 w2 base 143 (.slice (some ⟨g, 0, none⟩) D.length cap) D := by
      rw [e1, e2, ← List.append_assoc, hX, show l.take i ++ [p] ++ l.drop i = D by rw [hD]; simp] at hr2
      exact own2_of hr2 (by rw [List.length_append, hDl, List.length_drop, hcl, ← hX, hXl]; omega) hb hm
    have hbut : But (fun k => k = g) w w2 := by
      rw [hw2, hw1]
      exact (show But (fun k => k = g) w (w.drew.setRow g (c2 L1).toArray) from ⟨rfl, rfl, rfl, by simp, fun k _ hk => setRow_other _ _ _ _ hk⟩).trans ⟨rfl, rfl, rfl, by simp, fun k _ hk => setRow_other _ _ _ _ hk⟩
    have HO := hide hown
    have HB := hide hbut
    have HDl := hide hDl
    have Hcp1 := hide hcp1
    have Hcp2 := hide hcp2
    have hww : IntKind.i64.wrap ((n : Int) + 1) = ((n + 1 : Nat) : Int) := by rw [IntKind.wrap_i64]; omega
    have hwi : IntKind.i64.wrap ((i : Int) + 1) = ((i + 1 : Nat) : Int) := by rw [IntKind.wrap_i64]; omega
    have j1 : ((n + 1 : Nat) : Int) ≤ (cap : Int) := by omega
    have j2 : ((i : Int) == (n : Int)) = false := by simp; omega
    have j3 : ((i + 1 : Nat) : Int) ≤ ((n + 1 : Nat) : Int) := by omega
    have j4 : (i : Int) ≤ ((n + 1 : Nat) : Int) := by omega
    have j5 : (0 : Int) ≤ ((i + 1 : Nat) : Int) := by omega
    have j6 : (0 : Int) ≤ ((n + 1 : Nat) : Int) := by omega
    have j7 : ¬ cap = i + 1 := by omega
    have j8 : ¬ cap = i := by omega
    have ja : (0 : Int) ≤ (i : Int) + 1 := by omega
    have jb : (i : Int) + 1 ≤ (n : Int) + 1 := by omega
    have jc : (i : Int) ≤ (n : Int) + 1 := by omega
    have j9 : ¬ ((n + 1 : Nat) : Int) > (cap : Int) := by omega
    have hmin : Nat.min (n + 1 - i) (n - i) = n - i := by simp only [Nat.min_def]; split <;> omega
    clear hown hbut hcp1 hcp2 hr1 hr2 hv1 hw1 hw2 hL1 hX1 hXl hX e1 e2 hDl hD hT hvc ho1 hR hv h1 hO hi' hz0 hz1 hz2 hsz hL hp hl1 hn hl hc hi
    go_enter Try.func144, Try.ntmps144
    go_wp2_with (simp only [hov])
    go_region_law (refine step_copy_run (by kernel_rfl) (.tmp 73) (.tmp 76) 140 (by kernel_rfl) (.slice (some ⟨g, (i + 1) * 2, none⟩) (n - i) (cap - (i + 1))) (.slice (some ⟨g, i * 2, none⟩) (n + 1 - i) (cap - i)) _ _ (by kernel_rfl) (by kernel_rfl) (fun ty => (unhide Hcp1) _ _ _ _ ty hmin) ?_)
    simp only [Exit.then]
    go_simp
    have hc2 := (unhide Hcp2) (n + 1 - i) (cap - i) 3 (by omega)
    go_wp2
    go_ret
    exact ⟨by rw [unhide HDl]; rfl, unhide HO, unhide HB⟩
end Go.Proofs.Ytfnockbgkcgpkaa
