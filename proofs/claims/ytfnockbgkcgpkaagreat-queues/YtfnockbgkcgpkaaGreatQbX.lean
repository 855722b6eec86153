import Derived.Test.YtfnockbgkcgpkaaGreatQbM
import Derived.Test.YtfnockbgkcgpkaaGreatQsh
import Derived.Laws.CopyRow
set_option linter.all false
namespace Go.Proofs.YtfnockbgkcgpkaaGreat
open Go.RowKit Go.Proofs.Panes
set_option maxRecDepth 100000

theorem cloneN_any (U : Nat → Prop) (ao : Option Addr) (cap : Nat) (l : List Int) (w : World) (hR : RdN U w (.slice ao l.length cap) l) (hne : l ≠ []) (hn : l.length ≤ 17592186043904) :
    Calls Tryz.prog 94 #[.slice ao l.length cap] w fun e w' => ∃ a' n' c', e = .returned (.slice a' n' c') ∧ OwnN w' w.heap.size (.slice a' n' c') l ∧ Below w.heap.size w w' := by
  obtain ⟨ao, cap, e, h1, h2, h3⟩ := hR
  simp only [Value.slice.injEq, true_and] at e
  obtain ⟨rfl, rfl⟩ := e
  obtain ⟨b, off, rfl, _, hb, hc⟩ := h3 hne
  obtain ⟨i0, hi, hz0, hz1, hz2⟩ := info_parts info_int
  have hcon := AnyE.slices_Clone Tryz.layCloneN i0 (.int .i64 0) 1 8 hi hz0 hz1 hz2 rfl (by decide) Tryz.sizeOf3 b off l.length cap (l.map (Value.int .i64)) w (by simp) (by unfold maxLen; omega) (by omega) (fun j u hj => by
    rw [List.getElem?_map] at hj
    cases hx : l[j]? with
    | none => rw [hx] at hj; cases hj
    | some x =>
      rw [hx] at hj
      simp only [Option.map_some, Option.some.injEq] at hj
      subst hj
      exact hc j x hx) (ints_one l)
  change Calls Tryz.prog 94 _ _ _ at hcon
  refine hcon.mono ?_
  rintro e w' ⟨v', rfl, ho, _, hb'⟩
  obtain ⟨a', c', rfl⟩ := row_slice ho
  exact ⟨_, _, _, rfl, ho, hb'⟩

theorem choose_ltq {α : Type} (d : α) {n : Nat} {p : Nat → α → Prop} (h : ∀ i, i < n → ∃ a, p i a) : ∃ f : Nat → α, ∀ i, i < n → p i (f i) :=
  ⟨fun i => if hi : i < n then Classical.choose (h i hi) else d, fun i hi => by simp only [hi, dite_true]; exact Classical.choose_spec (h i hi)⟩
/-- The operations of a list that reads, as they lie. -/
theorem RdO.mops {U : Nat → Prop} {w : World} {b off : Nat} : ∀ (l : List Opn) (h : ∀ (j : Nat) (o : Opn), l[j]? = some o → OAt U w b (off + j * 8) o), ∃ ms : List MOp, ms.length = l.length ∧ (∀ (j : Nat) (u : Value), (mcells ms)[j]? = some u → w.cell? ⟨b, off + j, none⟩ = some u ∧ u.oneCell' = true) := by
  intro l h
  have hx : ∀ j, j < l.length → ∃ m : MOp, ∀ t, t < 8 → ∃ u, (mcell m)[t]? = some u ∧ w.cell? ⟨b, off + j * 8 + t, none⟩ = some u ∧ u.oneCell' = true := by
    intro j hj
    obtain ⟨o, ho⟩ : ∃ o, l[j]? = some o := ⟨l[j], by simp [hj]⟩
    obtain ⟨h0, h1, h2, h3, h4, h5, ⟨pv, h6, ⟨ao, cap, rfl, _⟩⟩, h7⟩ := h j o ho
    refine ⟨⟨o.kind, o.surf, o.x, o.y, o.w, o.h, .slice ao o.px.length cap, o.mark⟩, fun t ht => ?_⟩
    match t, ht with
    | 0, _ => exact ⟨_, rfl, h0, rfl⟩
    | 1, _ => exact ⟨_, rfl, h1, rfl⟩
    | 2, _ => exact ⟨_, rfl, h2, rfl⟩
    | 3, _ => exact ⟨_, rfl, h3, rfl⟩
    | 4, _ => exact ⟨_, rfl, h4, rfl⟩
    | 5, _ => exact ⟨_, rfl, h5, rfl⟩
    | 6, _ => exact ⟨_, rfl, h6, rfl⟩
    | 7, _ => exact ⟨_, rfl, h7, rfl⟩
    | t + 8, ht => omega
  obtain ⟨R, hR⟩ := choose_ltq mz hx
  refine ⟨(List.range l.length).map R, by simp, fun j u hu => ?_⟩
  have hj := (List.getElem?_eq_some_iff.1 hu).1
  rw [mcells_len] at hj
  simp only [List.length_map, List.length_range] at hj
  have hd : j / 8 < l.length := by omega
  have hm : ((List.range l.length).map R)[j / 8]? = some (R (j / 8)) := by simp [hd]
  have e := mcells_at _ _ _ hm (j % 8) (by omega)
  have ej : j / 8 * 8 + j % 8 = j := by omega
  rw [ej, hu] at e
  obtain ⟨u', q1, q2, q3⟩ := hR (j / 8) hd (j % 8) (by omega)
  rw [q1] at e
  cases e
  have ej' : off + j / 8 * 8 + j % 8 = off + j := by omega
  rw [ej'] at q2
  exact ⟨q2, q3⟩

theorem cloneO_any (U : Nat → Prop) (ao : Option Addr) (cap : Nat) (l : List Opn) (w : World) (hR : RdO U w (.slice ao l.length cap) l) (hne : l ≠ []) (hn : l.length ≤ 2000000) :
    Calls Tryz.prog 126 #[.slice ao l.length cap] w fun e w' => ∃ g c' xs, e = .returned (.slice (some ⟨g, 0, none⟩) l.length c') ∧ w'.ownsRow w.heap.size 52 8 (.slice (some ⟨g, 0, none⟩) l.length c') l.length xs ∧ Below w.heap.size w w' := by
  obtain ⟨ao, cap, e, h1, h2, h3⟩ := hR
  simp only [Value.slice.injEq, true_and] at e
  obtain ⟨rfl, rfl⟩ := e
  obtain ⟨b, off, rfl, _, hb, hc⟩ := h3 hne
  obtain ⟨ms, hml, hmc⟩ := RdO.mops l hc
  obtain ⟨i0, hi, hz0, hz1, hz2⟩ := info_parts info_op
  have hcon := AnyE.slices_Clone Tryz.layCloneO i0 _ 8 80 hi hz0 hz1 hz2 rfl (by decide) Tryz.sizeOf52 b off l.length cap (mcells ms) w (by rw [mcells_len, hml]) (by unfold maxLen; omega) (by omega) (fun j u hj => (hmc j u hj).1) (fun u hu => by
    obtain ⟨j, hj⟩ := List.mem_iff_getElem?.1 hu
    exact (hmc j u hj).2)
  change Calls Tryz.prog 126 _ _ _ at hcon
  refine hcon.mono ?_
  rintro e w' ⟨v', rfl, ho, hnn, hb'⟩
  rcases ho.2 with ⟨e, _⟩ | ⟨g, c', cur, rfl, _⟩
  · exact absurd e hnn
  · exact ⟨g, c', _, rfl, ho, hb'⟩
end Go.Proofs.YtfnockbgkcgpkaaGreat

namespace Go.Proofs.YtfnockbgkcgpkaaGreat
open Go.RowKit Go.Proofs.Panes
set_option maxRecDepth 100000

/-- 'copy(x[k:], x[:k])' of numbers. -/
theorem run_copy_within {w : World} (ty : TypeId) (base g n k c : Nat) (D : List Int) (hO : OwnN w base (.slice (some ⟨g, 0, none⟩) n n) D) (hn : D.length = n) (hk : k ≤ n) (hc : c = Nat.min k (n - k)) :
    ∃ w', (Builtin.copy_ #[50, 50] ty #[.slice (some ⟨g, k, none⟩) (n - k) (n - k), .slice (some ⟨g, 0, none⟩) k n]).run Tryz.prog w = .ok (goInt c) w' ∧ OwnN w' base (.slice (some ⟨g, 0, none⟩) n n) (D.take k ++ D.take c ++ D.drop (k + c)) ∧ w.grownBy w' (some g) := by
  obtain ⟨i0, hi, hz0, hz1, hz2⟩ := info_parts info_int
  have hck : c ≤ k := by rw [hc]; exact Nat.min_le_left _ _
  have hcn : c ≤ n - k := by rw [hc]; exact Nat.min_le_right _ _
  rcases hO.2 with ⟨e, _⟩ | ⟨q, cc, cur, e, hbk, hq, hcc, hm, hz, ht⟩
  · cases e
  · simp only [Value.slice.injEq, Option.some.injEq, Addr.mk.injEq, and_true] at e
    obtain ⟨rfl, e, rfl⟩ := e
    subst hn
    have htl : cur.toList = D.map (Value.int .i64) := by rw [← ht, List.take_of_length_le (by simp [hz])]
    have hlc : ((D.take c).map (Value.int .i64)).length = c := by rw [List.length_map, List.length_take]; omega
    have hfit : k + ((D.take c).map (Value.int .i64)).length ≤ cur.size := by
      rw [hlc, hz]; omega
    have hrun := run_copy_row (P := Tryz.prog) w 50 50 ty 3 g k (D.length - k) (D.length - k) ⟨g, 0, none⟩ k D.length cur 3 ((D.take c).map (Value.int .i64)) Tryz.underlying50 (by rw [hi]; simp [hz1]) hq (by rw [hlc]; exact hc) (fun j v hj => by
      have hadd : (⟨g, 0, none⟩ : Addr).add j = ⟨g, j, none⟩ := by unfold Addr.add; split <;> simp_all
      rw [hadd]
      rw [List.getElem?_map] at hj
      obtain ⟨x, hx, rfl⟩ := Option.map_eq_some_iff.1 hj
      have hjc := (List.getElem?_eq_some_iff.1 hx).1
      rw [List.length_take] at hjc
      rw [List.getElem?_take_of_lt (by omega)] at hx
      exact ownN_at hO rfl hx) hfit (ints_one _)
    have e : (cur.toList.take k ++ (D.take c).map (Value.int .i64) ++ cur.toList.drop (k + ((D.take c).map (Value.int .i64)).length)) = (D.take k ++ D.take c ++ D.drop (k + c)).map (Value.int .i64) := by
      rw [htl, hlc, List.map_append, List.map_append, List.map_take, List.map_take, List.map_drop]
    rw [e, hlc] at hrun
    refine ⟨_, hrun, ?_, rfl, rfl, rfl, by simp [World.setRow], fun k hk hne => setRow_other w g k _ (fun e => hne (by rw [e]))⟩
    have el : (D.take k ++ D.take c ++ D.drop (k + c)).length = D.length := by simp; omega
    unfold OwnN
    rw [el]
    refine ⟨by rw [List.length_map, el]; omega, .inr ⟨g, D.length, _, rfl, hbk, setRow_heap w g cur _ _ _ hq, Nat.le_refl _, hm, by simp; omega, ?_⟩⟩
    rw [List.take_of_length_le (by rw [List.length_map, el]; omega)]
theorem step_copy_within {w : World} {ops : Array Oper} {o : Oper} {a : Act} {K : Act → World → Prop} {Q : Exit → Act → World → Prop} {E : Prop} (hgd : o.guard = none) (d s : Operand)
    (ho : o.op = .call { callee := .builtin .copy, args := #[d, s], argTypes := #[50, 50] }) (base g n k c : Nat) (D : List Int) (hd : a.eval d = .slice (some ⟨g, k, none⟩) (n - k) (n - k)) (hs : a.eval s = .slice (some ⟨g, 0, none⟩) k n)
    (hO : OwnN w base (.slice (some ⟨g, 0, none⟩) n n) D) (hn : D.length = n) (hk : k ≤ n) (hc : c = Nat.min k (n - k))
    (h : ∀ w', OwnN w' base (.slice (some ⟨g, 0, none⟩) n n) (D.take k ++ D.take c ++ D.drop (k + c)) → w.grownBy w' (some g) → K (a.put o.dst (goInt c)) w') : if Region.wanted o (yielded ops a.tmps) = true then Oper.wp Tryz.prog o a w K Q else E := by
  have hw : Region.wanted o (yielded ops a.tmps) = true := by simp [Region.wanted, hgd]
  rw [if_pos hw]
  obtain ⟨w', hrun, h1, h2⟩ := run_copy_within o.type base g n k c D hO hn hk hc
  have hh := h w' h1 h2
  unfold Oper.wp
  simp [execOp, ho, resolve, invoke, builtin, hd, hs, hrun, Result.andThen]
  exact hh
theorem rep_more (z : Int) (n k c : Nat) (hck : c ≤ k) (hcn : c ≤ n - k) : (List.replicate k z ++ List.replicate (n - k) (0 : Int)).take k ++ (List.replicate k z ++ List.replicate (n - k) (0 : Int)).take c ++ (List.replicate k z ++ List.replicate (n - k) (0 : Int)).drop (k + c) = List.replicate (k + c) z ++ List.replicate (n - (k + c)) 0 := by
  rw [List.take_append_of_le_length (by simp), List.take_append_of_le_length (by simp; omega), List.drop_append, List.length_replicate, List.drop_of_length_le (by simp), List.nil_append, List.drop_replicate, List.take_replicate, List.take_replicate, Nat.min_self, Nat.min_eq_left hck, List.replicate_append_replicate]
  congr 2
  omega

theorem mul_any (n : Nat) (hn : n ≤ 1000000) (w : World) : Calls Tryz.prog 132 #[.int .u64 1, .int .u64 (n : Int)] w fun e w' => e = .returned (.tuple #[.int .u64 0, .int .u64 (n : Int)]) ∧ w' = w := by
  have hcon := Any.bits_Mul Tryz.layMul 1 n (by omega) (by omega) w
  change Calls Tryz.prog 132 _ _ _ at hcon
  have e1 : ((1 * n / 18446744073709551616 : Nat) : Int) = 0 := by omega
  have e2 : ((1 * n % 18446744073709551616 : Nat) : Int) = (n : Int) := by omega
  rw [e1, e2] at hcon
  exact hcon

set_option maxHeartbeats 1000000 in
theorem repeat_any (g n : Nat) (z : Int) (w : World) (hn : 1 ≤ n ∧ n ≤ 256) (hg : w.cell? ⟨g, 0, none⟩ = some (.int .i64 z)) (hlt : g < w.heap.size) :
    Calls Tryz.prog 110 #[.slice (some ⟨g, 0, none⟩) 1 1, .int .i64 (n : Int)] w fun e w' => ∃ q, e = .returned (.slice (some ⟨q, 0, none⟩) n n) ∧ OwnN w' w.heap.size (.slice (some ⟨q, 0, none⟩) n n) (List.replicate n z) ∧ Below w.heap.size w w' := by
  have HM := hide (mul_any n (by omega))
  have hR : RdN (fun _ => True) w (.slice (some ⟨g, 0, none⟩) 1 1) [z] := ⟨some ⟨g, 0, none⟩, 1, rfl, by simp, by simp [maxLen], fun _ => ⟨g, 0, rfl, trivial, hlt, fun j x hx => by
    match j, hx with
    | 0, hx => simp at hx; subst hx; exact hg
    | j + 1, hx => simp at hx⟩⟩
  have hmk := make_intsq n (by omega)
  have HR := hide hR
  have hw0 : IntKind.u64.wrap (1 : Int) = 1 := by rw [IntKind.wrap_u64]; omega
  have hw1 : IntKind.u64.wrap (n : Int) = (n : Int) := by rw [IntKind.wrap_u64]; omega
  have hw2 : IntKind.i64.wrap (n : Int) = (n : Int) := by rw [IntKind.wrap_i64]; omega
  clear hR
  go_enter Tryz.func110, Tryz.ntmps110
  go_wp2_with fail
  refine ((unhide HM) _).mono ?_
  rintro e w1 ⟨rfl, hw⟩
  have hw' := hw.symm
  clear hw HM
  subst hw'
  go_wp2_with (refine copy_ints rfl _ _ rfl (fun _ => True) w.heap.size w.heap.size n (List.replicate n 0) [z] (.slice (some ⟨g, 0, none⟩) 1 1) rfl rfl (own_intsq w n _ (Nat.le_refl _) (by omega)) (by simp) ((unhide HR).below ((Below.refl _ w).alloc (Nat.le_refl _) _)) (by simp; omega) ?_
               intro w1 hown hgrow
               have hb1 : Below w.heap.size w w1 := ((Below.refl _ w).alloc (Nat.le_refl _) _).grown hgrow (by simp) (fun k e => by cases e; exact Nat.le_refl _)
               have hown' : OwnN w1 w.heap.size (.slice (some ⟨w.heap.size, 0, none⟩) n n) (List.replicate 1 z ++ List.replicate (n - 1) 0) := by
                 have e : [z] ++ (List.replicate n (0 : Int)).drop [z].length = List.replicate 1 z ++ List.replicate (n - 1) 0 := by simp
                 rw [← e]; exact hown
               have HO1 := hide hown'
               have HB1 := hide hb1
               clear hown hown' hgrow hb1)
  go_loopw [8] (fun m wr => ∃ k : Nat, 1 ≤ k ∧ k ≤ n ∧ m = .int .i64 k ∧ Below w.heap.size w wr ∧ OwnN wr w.heap.size (.slice (some ⟨w.heap.size, 0, none⟩) n n) (List.replicate k z ++ List.replicate (n - k) 0)) (fun m _ => n - (intOf m).toNat)
  case atStart => exact ⟨1, by omega, by omega, rfl, unhide HB1, unhide HO1⟩
  case round =>
    rename World => wq
    obtain ⟨k, hk1, hk, rfl, hbel, hO⟩ := hrel
    clear HB1 HO1
    by_cases hlt' : k < n
    · obtain ⟨c, hc⟩ : ∃ c, c = Nat.min k (n - k) := ⟨_, rfl⟩
      have hck : c ≤ k := by rw [hc]; exact Nat.min_le_left _ _
      have hcn : c ≤ n - k := by rw [hc]; exact Nat.min_le_right _ _
      have hc1 : 1 ≤ c := by
        rw [hc]
        exact Nat.le_min.2 ⟨by omega, by omega⟩
      have i0 : (0 : Int) ≤ (k : Int) := by omega
      have i1 : (k : Int) < (n : Int) := by omega
      have i2 : (k : Int) ≤ (n : Int) := by omega
      have hadd : IntKind.i64.wrap ((k : Int) + (c : Int)) = (k : Int) + (c : Int) := by rw [IntKind.wrap_i64]; omega
      have hnk : ¬ n = k := by omega
      have HO := hide hO
      have HB := hide hbel
      have HC := hide hc
      clear hO hbel hc hmk
      go_wp2_with fail
      go_region_law
        ((refine step_copy_within (by rfl) _ _ (by rfl) w.heap.size w.heap.size n k c (List.replicate k z ++ List.replicate (n - k) 0) (by go_simp) (by go_simp) (World.ownsRow.drew (unhide HO)) (by simp; omega) hk (unhide HC) ?_; intro w3 hown3 hgrow3))
      have hB3 : Below w.heap.size w w3 := ((unhide HB).drew).grown hgrow3 (unhide HB).size (fun q e => by cases e; exact Nat.le_refl _)
      rw [rep_more z n k c hck hcn] at hown3
      have HO3 := hide hown3
      have HB3 := hide hB3
      clear hown3 hB3 hgrow3
      go_simp
      go_wp2
      go_roundw
      case rel => exact ⟨k + c, by omega, by omega, by first | rfl | go_num, unhide HB3, unhide HO3⟩
      case measure => simp [intOf]; omega
    · obtain rfl : k = n := by omega
      have hO' : OwnN wq w.heap.size (.slice (some ⟨w.heap.size, 0, none⟩) k k) (List.replicate k z) := by
        have e : List.replicate k z ++ List.replicate (k - k) (0 : Int) = List.replicate k z := by simp
        rw [← e]; exact hO
      have HO := hide hO'
      have HB := hide hbel
      clear hO hO' hbel
      go_wp2
      go_ret
      exact ⟨w.heap.size, rfl, unhide HO, unhide HB⟩
end Go.Proofs.YtfnockbgkcgpkaaGreat

namespace Go.Proofs.YtfnockbgkcgpkaaGreat
open Go.RowKit Go.Proofs.Panes
set_option maxRecDepth 100000

/-- The copy of a transaction, while it is made. -/
structure KeptI (w wr : World) (g c' n : Nat) : Prop where
  own : ∃ xs, wr.ownsRow w.heap.size 52 8 (.slice (some ⟨g, 0, none⟩) n c') n xs
  bel : Below w.heap.size w wr
theorem KeptI.below {w wr w2 : World} {g c' n : Nat} (h : KeptI w wr g c' n) (hb : Below wr.heap.size wr w2) : KeptI w w2 g c' n := by
  obtain ⟨xs, ho⟩ := h.own
  exact ⟨⟨xs, row_but (S := fun _ => False) ho (.of_below hb) (fun _ _ h => h)⟩, h.bel.trans (hb.mono h.bel.size)⟩
theorem KeptI.set {w wr : World} {g c' n : Nat} (h : KeptI w wr g c' n) (i : Nat) (u : Value) : KeptI w (wr.setCell ⟨g, i, none⟩ u) g c' n := by
  obtain ⟨xs, ho⟩ := h.own
  exact ⟨⟨_, (World.ownsRow.stored ho i u).1⟩, h.bel.setCell (p := ⟨g, i, none⟩) (World.ownsRow.lt ho g rfl).1 _⟩
theorem KeptI.cell {w wr : World} {g c' n : Nat} (h : KeptI w wr g c' n) (i : Nat) (hi : i < n * 8) : ∃ u, wr.cell? ⟨g, i, none⟩ = some u := by
  obtain ⟨xs, ho⟩ := h.own
  rw [World.ownsRow.cellAt ho i hi]
  have hl : xs.length = n * 8 := ho.1
  exact ⟨xs[i]'(by omega), by simp⟩
theorem KeptI.thaw {w wr : World} {g c' n : Nat} (h : KeptI w wr g c' n) (i : Nat) : wr.frozen? ⟨g, i, none⟩ = false := by
  obtain ⟨xs, ho⟩ := h.own
  exact World.ownsRow.frozenAt ho i

set_option maxHeartbeats 4000000 in
theorem copies_any (U : Nat → Prop) (ao : Option Addr) (cap : Nat) (l : List Opn) (w : World) (hR : RdO U w (.slice ao l.length cap) l) (hlen : 1 ≤ l.length ∧ l.length ≤ 20) (hatt : ∀ o ∈ l, o.kind = 3 → 1 ≤ o.px.length ∧ o.px.length ≤ 64) (hU : ∀ k, U k → k < w.heap.size) :
    Calls Tryz.prog 97 #[.slice ao l.length cap] w fun e w' => ∃ a' n' c', e = .returned (.slice a' n' c') ∧ Below w.heap.size w w' := by
  have CL := hide (cloneO_any U ao cap l w hR (by intro e; subst e; simp at hlen) (by omega))
  have HR := hide hR
  have HAt := hide hatt
  have HU := hide hU
  clear hR hatt hU
  go_enter Tryz.func97, Tryz.ntmps97
  go_wp2_with fail
  refine (unhide CL).mono ?_
  rintro e w1 ⟨g, c', xs, rfl, ho1, hb1⟩
  have hK1 : KeptI w w1 g c' l.length := ⟨⟨xs, ho1⟩, hb1⟩
  have HK1 := hide hK1
  clear CL ho1 hb1 hK1
  go_wp2
  go_loopw [10] (fun i wr => ∃ k : Nat, k ≤ l.length ∧ i = .int .i64 k ∧ KeptI w wr g c' l.length) (fun i _ => l.length - (intOf i).toNat)
  case atStart => exact ⟨0, Nat.zero_le _, rfl, unhide HK1⟩
  case round =>
    rename World => wq
    obtain ⟨k, hk, rfl, hK⟩ := hrel
    clear HK1
    by_cases hlt : k < l.length
    · obtain ⟨o, ho⟩ : ∃ o, l[k]? = some o := ⟨l[k], by simp [hlt]⟩
      have hR2 := (unhide HR).below hK.bel
      obtain ⟨ao', cap', e, _, _, h3⟩ := hR2
      simp only [Value.slice.injEq, true_and] at e
      obtain ⟨rfl, rfl⟩ := e
      obtain ⟨b, off, rfl, _, _, hc⟩ := h3 (by intro e; rw [e] at hlt; simp at hlt)
      obtain ⟨c0, c1, c2, c3, c4, c5, ⟨pv, c6, hpv⟩, c7⟩ := hc k o ho
      have hpv' := hpv
      obtain ⟨po, pc, epv, _⟩ := hpv
      rw [epv] at c6 hpv'
      have hat := (unhide HAt) o (List.mem_of_getElem? ho)
      obtain ⟨u6, hu6⟩ := hK.cell (k * 8 + 6) (by omega)
      have hz := hK.thaw
      have lg : g < wq.heap.size := World.block_lt_of_cell? wq _ hu6
      have hz1 : ∀ (i : Nat) (ob : Obj), (wq.alloc ob).frozen? ⟨g, i, none⟩ = false := fun i ob => (World.frozen?_of_block (w := wq) (Below.heap_alloc _ _ _ lg)).trans (hz i)
      have i0 : (0 : Int) ≤ (k : Int) := by omega
      have i1 : (k : Int) < (l.length : Int) := by omega
      have HK := hide hK
      have HPV := hide hpv'
      clear epv h3 hc ho hK hpv'
      by_cases h3k : o.kind = 3
      · have hat' := hat h3k
        have HC : Hid (∀ w', RdN U w' (.slice po o.px.length pc) o.px → Calls Tryz.prog 94 #[.slice po o.px.length pc] w' fun e w2 => ∃ a' n' c', e = .returned (.slice a' n' c') ∧ OwnN w2 w'.heap.size (.slice a' n' c') o.px ∧ Below w'.heap.size w' w2) := fun w' h => cloneN_any U po pc o.px w' h (by intro e; rw [e] at hat'; simp at hat') (by omega)
        have q3 : (o.kind == 3) = true := by simp [h3k]
        clear hat
        have hpA : RdN U ((wq.setCell ⟨g, k * 8 + 6, none⟩ (.slice none 0 0)).alloc (.cells #[.int .i64 3, .int .i64 o.surf, .int .i64 o.x, .int .i64 o.y, .int .i64 o.w, .int .i64 o.h, .slice po o.px.length pc, .int .i64 o.mark] 52)) (.slice po o.px.length pc) o.px :=
          (unhide HPV).but (S := fun q => q = g) (((But.refl (fun q => q = g) wq).setCell (p := ⟨g, k * 8 + 6, none⟩) (.inl rfl) _).alloc _) (fun q hq e => by
            have h1 := (unhide HU) q hq
            obtain ⟨xs', ho'⟩ := (unhide HK).own
            have h2 := (World.ownsRow.lt ho' g rfl).1
            omega)
        have hKA := ((unhide HK).set (k * 8 + 6) (.slice none 0 0)).below ((Below.refl _ _).alloc (Nat.le_refl _) (.cells #[.int .i64 3, .int .i64 o.surf, .int .i64 o.x, .int .i64 o.y, .int .i64 o.w, .int .i64 o.h, .slice po o.px.length pc, .int .i64 o.mark] 52))
        have HPA := hide hpA
        have HKA := hide hKA
        rw [h3k] at c0
        clear hpA hKA
        go_wp2_with fail
        refine ((unhide HC) _ (unhide HPA)).mono ?_
        rintro e w3 ⟨a3, n3, c3', rfl, _, hb3⟩
        have hK3 := (unhide HKA).below hb3
        obtain ⟨u7, hu7⟩ := hK3.cell (k * 8 + 6) (by omega)
        have hz3 := hK3.thaw
        have HK3 := hide hK3
        clear hK3 hb3 HC HPA HKA
        go_wp2
        go_roundw
        case rel => exact ⟨k + 1, by omega, by go_num, (unhide HK3).set _ _⟩
        case measure => simp [intOf]; omega
      · have q3 : (o.kind == 3) = false := by simpa using h3k
        clear hat
        go_wp2
        go_roundw
        case rel => exact ⟨k + 1, by omega, by go_num, ((unhide HK).set _ _).below ((Below.refl _ _).alloc (Nat.le_refl _) _)⟩
        case measure => simp [intOf]; omega
    · have HK := hide hK
      clear hK
      go_wp2
      go_ret
      exact ⟨_, _, _, rfl, (unhide HK).bel⟩
end Go.Proofs.YtfnockbgkcgpkaaGreat
