import Derived.Test.YtfnockbgkcgpkaaKaag
import Derived.Laws.Bits64b
import Derived.Deep.RegionLaw
import Derived.WalkKit
set_option linter.all false
namespace Go.Proofs.Ytfnockbgkcgpkaa
open Go.RowKit Go.Proofs.Panes
set_option maxRecDepth 100000

theorem maskS (a : Nat) (ha : a < 4294967296) : bits .and .u64 (a : Int) 4294967295 = (a : Int) := by
  have h := bits_and_u64_nat a 4294967295 (by omega) (by omega)
  have e : a &&& 4294967295 = a % 4294967296 := Nat.and_two_pow_sub_one_eq_mod a 32
  rw [e, Nat.mod_eq_of_lt ha] at h
  exact h
set_option maxHeartbeats 1000000 in
theorem mul64_any (n : Nat) (hn : n ≤ 1000000) (w : World) : Calls Try.prog 136 #[.int .u64 1, .int .u64 (n : Int)] w fun e w' => e = .returned (.tuple #[.int .u64 0, .int .u64 (n : Int)]) ∧ w' = w := by
  have m1 : bits .and .u64 1 4294967295 = 1 := maskS 1 (by omega)
  have mn := maskS n (by omega)
  have m0 : bits .and .u64 0 4294967295 = 0 := maskS 0 (by omega)
  have d1 : (n : Int) / 4294967296 = 0 := by omega
  have w1 : IntKind.u64.wrap (n : Int) = (n : Int) := by rw [IntKind.wrap_u64]; omega
  have w0 : IntKind.u64.wrap 0 = 0 := by rw [IntKind.wrap_u64]; omega
  go_enter Try.func136, Try.ntmps136
  go_wp2
  go_ret2
  refine ⟨?_, rfl⟩
  simp [m1, mn, m0, d1, w1, w0]
set_option maxHeartbeats 1000000 in
theorem mul_any (n : Nat) (hn : n ≤ 1000000) (w : World) : Calls Try.prog 121 #[.int .u64 1, .int .u64 (n : Int)] w fun e w' => e = .returned (.tuple #[.int .u64 0, .int .u64 (n : Int)]) ∧ w' = w := by
  have c64 := hide (mul64_any n hn w)
  clear hn
  go_enter Try.func121, Try.ntmps121
  go_wp2_with (go_at_call 136; refine (unhide c64).mono ?_; rintro e w' ⟨rfl, hw⟩; have hw2 := hw.symm; clear hw; subst hw2)
  go_ret2
  exact ⟨rfl, rfl⟩
/-- 'copy(x[k:], x[:k])' of numbers. -/
theorem run_copy_within {w : World} (ty : TypeId) (base g n k c : Nat) (D : List Int) (hO : OwnN w base (.slice (some ⟨g, 0, none⟩) n n) D) (hn : D.length = n) (hk : k ≤ n) (hc : c = Nat.min k (n - k)) :
    ∃ w', (Builtin.copy_ #[23, 23] ty #[.slice (some ⟨g, k, none⟩) (n - k) (n - k), .slice (some ⟨g, 0, none⟩) k n]).run Try.prog w = .ok (goInt c) w' ∧ OwnN w' base (.slice (some ⟨g, 0, none⟩) n n) (D.take k ++ D.take c ++ D.drop (k + c)) ∧ w.grownBy w' (some g) := by
  obtain ⟨i0, hi, hz0, hz1, hz2⟩ := info_parts info_int
  have hck : c ≤ k := by rw [hc]; exact Nat.min_le_left _ _
  have hcn : c ≤ n - k := by rw [hc]; exact Nat.min_le_right _ _
  rcases hO.2 with ⟨e, _⟩ | ⟨q, cc, cur, e, hbk, hq, hcc, hm, hz, ht⟩
  · cases e
  · simp only [Value.slice.injEq, Option.some.injEq, Addr.mk.injEq, and_true] at e
    obtain ⟨rfl, e, rfl⟩ := e
    subst hn
    have htl : cur.toList = D.map (Value.int .i64) := by rw [← ht, List.take_of_length_le (by simp [hz])]
    have hlc : ((D.take c).map (Value.int .i64)).length = c := by rw [List.length_map, List.length_take]; omega
    have hfit : k + ((D.take c).map (Value.int .i64)).length ≤ cur.size := by
      rw [hlc, hz]; omega
    have hrun := run_copy_row (P := Try.prog) w 23 23 ty 3 g k (D.length - k) (D.length - k) ⟨g, 0, none⟩ k D.length cur 3 ((D.take c).map (Value.int .i64)) Try.underlying23 (by rw [hi]; simp [hz1]) hq (by rw [hlc]; exact hc) (fun j v hj => by
      have hadd : (⟨g, 0, none⟩ : Addr).add j = ⟨g, j, none⟩ := by unfold Addr.add; split <;> simp_all
      rw [hadd]
      rw [List.getElem?_map] at hj
      obtain ⟨x, hx, rfl⟩ := Option.map_eq_some_iff.1 hj
      have hjc := (List.getElem?_eq_some_iff.1 hx).1
      rw [List.length_take] at hjc
      rw [List.getElem?_take_of_lt (by omega)] at hx
      exact ownN_at hO rfl hx) hfit (ints_one _)
    have e : (cur.toList.take k ++ (D.take c).map (Value.int .i64) ++ cur.toList.drop (k + ((D.take c).map (Value.int .i64)).length)) = (D.take k ++ D.take c ++ D.drop (k + c)).map (Value.int .i64) := by
      rw [htl, hlc, List.map_append, List.map_append, List.map_take, List.map_take, List.map_drop]
    rw [e, hlc] at hrun
    refine ⟨_, hrun, ?_, rfl, rfl, rfl, by simp [World.setRow], fun k hk hne => setRow_other w g k _ (fun e => hne (by rw [e]))⟩
    have el : (D.take k ++ D.take c ++ D.drop (k + c)).length = D.length := by simp; omega
    unfold OwnN
    rw [el]
    refine ⟨by rw [List.length_map, el]; omega, .inr ⟨g, D.length, _, rfl, hbk, setRow_heap w g cur _ _ _ hq, Nat.le_refl _, hm, by simp; omega, ?_⟩⟩
    rw [List.take_of_length_le (by rw [List.length_map, el]; omega)]
theorem step_copy_within {w : World} {ops : Array Oper} {o : Oper} {a : Act} {K : Act → World → Prop} {Q : Exit → Act → World → Prop} {E : Prop} (hgd : o.guard = none) (d s : Operand)
    (ho : o.op = .call { callee := .builtin .copy, args := #[d, s], argTypes := #[23, 23] }) (base g n k c : Nat) (D : List Int) (hd : a.eval d = .slice (some ⟨g, k, none⟩) (n - k) (n - k)) (hs : a.eval s = .slice (some ⟨g, 0, none⟩) k n)
    (hO : OwnN w base (.slice (some ⟨g, 0, none⟩) n n) D) (hn : D.length = n) (hk : k ≤ n) (hc : c = Nat.min k (n - k))
    (h : ∀ w', OwnN w' base (.slice (some ⟨g, 0, none⟩) n n) (D.take k ++ D.take c ++ D.drop (k + c)) → w.grownBy w' (some g) → K (a.put o.dst (goInt c)) w') : if Region.wanted o (yielded ops a.tmps) = true then Oper.wp Try.prog o a w K Q else E := by
  have hw : Region.wanted o (yielded ops a.tmps) = true := by simp [Region.wanted, hgd]
  rw [if_pos hw]
  obtain ⟨w', hrun, h1, h2⟩ := run_copy_within o.type base g n k c D hO hn hk hc
  have hh := h w' h1 h2
  unfold Oper.wp
  simp [execOp, ho, resolve, invoke, builtin, hd, hs, hrun, Result.andThen]
  exact hh
theorem rep_more (z : Int) (n k c : Nat) (hck : c ≤ k) (hcn : c ≤ n - k) : (List.replicate k z ++ List.replicate (n - k) (0 : Int)).take k ++ (List.replicate k z ++ List.replicate (n - k) (0 : Int)).take c ++ (List.replicate k z ++ List.replicate (n - k) (0 : Int)).drop (k + c) = List.replicate (k + c) z ++ List.replicate (n - (k + c)) 0 := by
  rw [List.take_append_of_le_length (by simp), List.take_append_of_le_length (by simp; omega), List.drop_append, List.length_replicate, List.drop_of_length_le (by simp), List.nil_append, List.drop_replicate, List.take_replicate, List.take_replicate, Nat.min_self, Nat.min_eq_left hck, List.replicate_append_replicate]
  congr 2
  omega
set_option maxHeartbeats 1000000 in
theorem repeat_any (g n : Nat) (z : Int) (w : World) (hn : 1 ≤ n ∧ n ≤ 256) (hg : w.cell? ⟨g, 0, none⟩ = some (.int .i64 z)) (hlt : g < w.heap.size) :
    Calls Try.prog 100 #[.slice (some ⟨g, 0, none⟩) 1 1, .int .i64 (n : Int)] w fun e w' => ∃ q, e = .returned (.slice (some ⟨q, 0, none⟩) n n) ∧ OwnN w' w.heap.size (.slice (some ⟨q, 0, none⟩) n n) (List.replicate n z) ∧ Below w.heap.size w w' := by
  have HM := hide (mul_any n (by omega))
  have hR : RdN (fun _ => True) w (.slice (some ⟨g, 0, none⟩) 1 1) [z] := ⟨some ⟨g, 0, none⟩, 1, rfl, by simp, by simp [maxLen], fun _ => ⟨g, 0, rfl, trivial, hlt, fun j x hx => by
    match j, hx with
    | 0, hx => simp at hx; subst hx; exact hg
    | j + 1, hx => simp at hx⟩⟩
  have hmk := make_intsq n (by omega)
  have HR := hide hR
  have hw0 : IntKind.u64.wrap (1 : Int) = 1 := by rw [IntKind.wrap_u64]; omega
  have hw1 : IntKind.u64.wrap (n : Int) = (n : Int) := by rw [IntKind.wrap_u64]; omega
  have hw2 : IntKind.i64.wrap (n : Int) = (n : Int) := by rw [IntKind.wrap_i64]; omega
  clear hR
  go_enter Try.func100, Try.ntmps100
  go_wp2_with fail
  refine ((unhide HM) _).mono ?_
  rintro e w1 ⟨rfl, hw⟩
  have hw' := hw.symm
  clear hw HM
  subst hw'
  go_wp2_with (refine copy_ints rfl _ _ rfl (fun _ => True) w.heap.size w.heap.size n (List.replicate n 0) [z] (.slice (some ⟨g, 0, none⟩) 1 1) rfl rfl (own_intsq w n _ (Nat.le_refl _) (by omega)) (by simp) ((unhide HR).below ((Below.refl _ w).alloc (Nat.le_refl _) _)) (by simp; omega) ?_
               intro w1 hown hgrow
               have hb1 : Below w.heap.size w w1 := ((Below.refl _ w).alloc (Nat.le_refl _) _).grown hgrow (by simp) (fun k e => by cases e; exact Nat.le_refl _)
               have hown' : OwnN w1 w.heap.size (.slice (some ⟨w.heap.size, 0, none⟩) n n) (List.replicate 1 z ++ List.replicate (n - 1) 0) := by
                 have e : [z] ++ (List.replicate n (0 : Int)).drop [z].length = List.replicate 1 z ++ List.replicate (n - 1) 0 := by simp
                 rw [← e]; exact hown
               have HO1 := hide hown'
               have HB1 := hide hb1
               clear hown hown' hgrow hb1)
  go_loopw [8] (fun m wr => ∃ k : Nat, 1 ≤ k ∧ k ≤ n ∧ m = .int .i64 k ∧ Below w.heap.size w wr ∧ OwnN wr w.heap.size (.slice (some ⟨w.heap.size, 0, none⟩) n n) (List.replicate k z ++ List.replicate (n - k) 0)) (fun m _ => n - (intOf m).toNat)
  case atStart => exact ⟨1, by omega, by omega, rfl, unhide HB1, unhide HO1⟩
  case round =>
    rename World => wq
    obtain ⟨k, hk1, hk, rfl, hbel, hO⟩ := hrel
    clear HB1 HO1
    by_cases hlt' : k < n
    · obtain ⟨c, hc⟩ : ∃ c, c = Nat.min k (n - k) := ⟨_, rfl⟩
      have hck : c ≤ k := by rw [hc]; exact Nat.min_le_left _ _
      have hcn : c ≤ n - k := by rw [hc]; exact Nat.min_le_right _ _
      have hc1 : 1 ≤ c := by
        rw [hc]
        exact Nat.le_min.2 ⟨by omega, by omega⟩
      have i0 : (0 : Int) ≤ (k : Int) := by omega
      have i1 : (k : Int) < (n : Int) := by omega
      have i2 : (k : Int) ≤ (n : Int) := by omega
      have hadd : IntKind.i64.wrap ((k : Int) + (c : Int)) = (k : Int) + (c : Int) := by rw [IntKind.wrap_i64]; omega
      have hnk : ¬ n = k := by omega
      have HO := hide hO
      have HB := hide hbel
      have HC := hide hc
      clear hO hbel hc hmk
      go_wp2_with fail
      go_region_law
        ((refine step_copy_within (by rfl) _ _ (by rfl) w.heap.size w.heap.size n k c (List.replicate k z ++ List.replicate (n - k) 0) (by go_simp) (by go_simp) (World.ownsRow.drew (unhide HO)) (by simp; omega) hk (unhide HC) ?_; intro w3 hown3 hgrow3))
      have hB3 : Below w.heap.size w w3 := ((unhide HB).drew).grown hgrow3 (unhide HB).size (fun q e => by cases e; exact Nat.le_refl _)
      rw [rep_more z n k c hck hcn] at hown3
      have HO3 := hide hown3
      have HB3 := hide hB3
      clear hown3 hB3 hgrow3
      go_simp
      go_wp2
      go_roundw
      case rel => exact ⟨k + c, by omega, by omega, by first | rfl | go_num, unhide HB3, unhide HO3⟩
      case measure => simp [intOf]; omega
    · obtain rfl : k = n := by omega
      have hO' : OwnN wq w.heap.size (.slice (some ⟨w.heap.size, 0, none⟩) k k) (List.replicate k z) := by
        have e : List.replicate k z ++ List.replicate (k - k) (0 : Int) = List.replicate k z := by simp
        rw [← e]; exact hO
      have HO := hide hO'
      have HB := hide hbel
      clear hO hO' hbel
      go_wp2
      go_ret
      exact ⟨w.heap.size, rfl, unhide HO, unhide HB⟩
end Go.Proofs.Ytfnockbgkcgpkaa
