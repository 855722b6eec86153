import Derived.Test.YtfnockbgkcgpkaaKaav
import Derived.RangeFuncNested
import Derived.RangeFuncBound
import Derived.RangeFuncCalls
import Derived.RangeFuncLeaves
import Derived.Shelf.Abstract
import Derived.Shelf.RegionOpen
import Derived.OwnWalkIn
import Derived.TacticsInMore
import Derived.LoopNIn
import Derived.LoopIn
import Derived.Sort.QuietIn
set_option linter.all false
namespace Go.Proofs.Ytfnockbgkcgpkaa
open Go.RowKit Go.Shelf Go.Proofs.Panes
set_option maxRecDepth 100000
attribute [local go_sem] Oper.semAt_some

/-- What has come of a list, from behind, when k rounds are over. -/
def bwd (ks : List (Int × Int)) (k : Nat) : List (Nat × Int × Int) := (List.range k).map fun j => (ks.length - 1 - j, ks[ks.length - 1 - j]?.getD (0, 0))
theorem bwd_succ (ks : List (Int × Int)) (k : Nat) : bwd ks (k + 1) = bwd ks k ++ [(ks.length - 1 - k, ks[ks.length - 1 - k]?.getD (0, 0))] := by simp [bwd, List.range_succ]
theorem bwd_len (ks : List (Int × Int)) (k : Nat) : (bwd ks k).length = k := by simp [bwd]
abbrev KQ (Q : Int × Int → Prop) := { x : Nat × Int × Int // Q x.2 }
def encB {Q : Int × Int → Prop} (x : KQ Q) : Array Value := #[.int .i64 (x.1.1 : Int), .agg #[.int .i64 x.1.2.1, .int .i64 x.1.2.2]]

set_option maxHeartbeats 2000000 in
theorem bw1_in (F : Fence) (n : Nat) (h7 : F.fn 120) (hro : F.round = none) (hn : 1 ≤ n) (l Bs n₀ g cap : Nat) (ks : List (Int × Int)) (hlen : ks.length ≤ 100000) (hb : g < n₀) {Q : Int × Int → Prop} (hQ : ∀ k ∈ ks, Q k) (J Jx : List (KQ Q) → World → Prop)
    (hY : ∀ pre x W, J pre W → pre.length < ks.length → YieldAt F (n - 1) Try.prog l (encB x) W fun e W' => (e = .returned (.bool true) ∧ J (pre ++ [x]) W' ∧ Below n₀ W W') ∨ (e = .returned (.bool false) ∧ Jx (pre ++ [x]) W'))
    (W : World) (hBn : Bs < n₀) (hBs : W.cell? ⟨Bs, 0, none⟩ = some (.slice (some ⟨g, 0, none⟩) ks.length cap)) (hc : ∀ j k, ks[j]? = some k → W.cell? ⟨g, j * 2, none⟩ = some (.int .i64 k.1) ∧ W.cell? ⟨g, j * 2 + 1, none⟩ = some (.int .i64 k.2)) (h0 : J [] W) :
    CallsIn F n Try.prog 120 #[.func (.yield l) #[] #[], .pointer (some ⟨Bs, 0, none⟩)] W fun e W' => (∃ v, e = .returned v) ∧
      ((∃ ys : List (KQ Q), ys.map (·.1) = bwd ks ks.length ∧ J ys W') ∨ (∃ pre : List (KQ Q), (∃ k, k ≤ ks.length ∧ pre.map (·.1) = bwd ks k) ∧ Jx pre W')) := by
  obtain ⟨m, hm⟩ : ∃ m, m = ks.length := ⟨_, rfl⟩
  rw [← hm] at hBs ⊢
  have HM := hide hm
  have HC := hide hc
  have hwr : IntKind.i64.wrap ((m : Int) - 1) = (m : Int) - 1 := by rw [IntKind.wrap_i64]; omega
  have hm1 : m ≤ 100000 := by omega
  clear hm hc hlen
  refine callsIn_of_wp Try.func120 rfl h7 ?_ hro
  simp only [Try.ntmps120, List.size_toArray, List.length_cons, List.length_nil, Nat.reduceAdd, Nat.reduceSub, Array.replicate_succ, Array.replicate_zero, List.push_toArray, List.append_toArray, List.nil_append, List.cons_append]
  gi_wp2
  gi_loopw [3] (fun i wr => ∃ (k : Nat) (pre : List (KQ Q)), k ≤ m ∧ i = .int .i64 ((m : Int) - 1 - k) ∧ pre.map (·.1) = bwd ks k ∧ J pre wr ∧ Below n₀ W wr) (fun i _ => (intOf i + 1).toNat)
  case atStart => exact ⟨0, [], Nat.zero_le _, by simp, rfl, h0, Below.refl _ _⟩
  case round =>
    obtain ⟨k, pre, hk, rfl, hpre, hJs, hnx⟩ := hrel
    have hBs' : wr.cell? ⟨Bs, 0, none⟩ = some (.slice (some ⟨g, 0, none⟩) m cap) := (hnx.cell (p := ⟨Bs, 0, none⟩) hBn).trans hBs
    by_cases hlt : k < m
    · obtain ⟨j, hj⟩ : ∃ j : Nat, j = m - 1 - k := ⟨_, rfl⟩
      have hjm : j < m := by omega
      obtain ⟨⟨d1, d2⟩, hd⟩ : ∃ d, ks[j]? = some d := ⟨ks[j]'(by rw [← unhide HM]; exact hjm), by simp⟩
      have eB : bwd ks (k + 1) = bwd ks k ++ [(j, d1, d2)] := by rw [bwd_succ, ← unhide HM, ← hj, hd]; rfl
      have hql : pre.length < ks.length := by
        have := congrArg List.length hpre
        rw [List.length_map, bwd_len] at this
        rw [this, ← unhide HM]; exact hlt
      obtain ⟨fn, tmps, assign, body, hy, hR⟩ := hY pre ⟨(j, d1, d2), hQ _ (List.mem_of_getElem? hd)⟩ wr hJs hql
      unfold encB at hy
      dsimp only at hy
      have hji : (m : Int) - 1 - (k : Int) = (j : Int) := by omega
      rw [hji]
      obtain ⟨c0, c1⟩ := (unhide HC) j _ hd
      have c0 : wr.cell? ⟨g, j * 2, none⟩ = some (.int .i64 d1) := (hnx.cell (p := ⟨g, j * 2, none⟩) hb).trans c0
      have c1 : wr.cell? ⟨g, j * 2 + 1, none⟩ = some (.int .i64 d2) := (hnx.cell (p := ⟨g, j * 2 + 1, none⟩) hb).trans c1
      have i0 : (0 : Int) ≤ (j : Int) := by omega
      have i1 : (j : Int) < (m : Int) := by omega
      have hwj : IntKind.i64.wrap ((j : Int) - 1) = (m : Int) - 1 - ((k + 1 : Nat) : Int) := by rw [IntKind.wrap_i64]; omega
      have eB : (pre ++ [(⟨(j, d1, d2), hQ _ (List.mem_of_getElem? hd)⟩ : KQ Q)]).map (·.1) = bwd ks (k + 1) := by rw [eB, List.map_append, hpre]; rfl
      have HEB := hide eB
      have HJI := hide hji
      clear eB hj hji hpre hql
      gi_wp2
      refine hR.mono ?_
      rintro e W3 (⟨rfl, hJ3, hk3⟩ | ⟨rfl, hJx3⟩)
      · gi_wp2
        go_roundw
        case rel => exact ⟨k + 1, _, by omega, by first | rfl | simp [hwj] | skip, unhide HEB, hJ3, hnx.trans hk3⟩
        case measure =>
          have q := unhide HJI
          simp [intOf]
          omega
      · gi_wp2
        refine bodyPost_ret (results_none rfl _ _ _) rfl ?_
        exact ⟨⟨_, rfl⟩, .inr ⟨_, ⟨k + 1, by omega, unhide HEB⟩, hJx3⟩⟩
    · obtain rfl : k = m := by omega
      have hneg : (k : Int) - 1 - (k : Int) = -1 := by omega
      rw [hneg]
      have HM' := unhide HM
      gi_wp2
      go_end0
      exact ⟨⟨_, rfl⟩, .inl ⟨_, by rw [hpre, HM'], hJs⟩⟩

set_option maxHeartbeats 1000000 in
/-- .. of nothing. -/
theorem bw1_none (F : Fence) (n : Nat) (h7 : F.fn 120) (hro : F.round = none) {Q : Int × Int → Prop} (l Bs : Nat) (J : List (KQ Q) → World → Prop) (W : World) (ao : Option Addr) (cap : Nat) (hBs : W.cell? ⟨Bs, 0, none⟩ = some (.slice ao 0 cap)) (h0 : J [] W) :
    CallsIn F n Try.prog 120 #[.func (.yield l) #[] #[], .pointer (some ⟨Bs, 0, none⟩)] W fun e W' => (∃ v, e = .returned v) ∧ J [] W' := by
  refine callsIn_of_wp Try.func120 rfl h7 ?_ hro
  simp only [Try.ntmps120, List.size_toArray, List.length_cons, List.length_nil, Nat.reduceAdd, Nat.reduceSub, Array.replicate_succ, Array.replicate_zero, List.push_toArray, List.append_toArray, List.nil_append, List.cons_append]
  gi_wp2
  gi_loopw [3] (fun i wr => i = .int .i64 (-1) ∧ J [] wr) (fun _ _ => 0)
  case atStart => exact ⟨rfl, h0⟩
  case round =>
    obtain ⟨rfl, hJs⟩ := hrel
    gi_wp2
    go_end0
    exact ⟨⟨_, rfl⟩, hJs⟩

set_option maxHeartbeats 1000000 in
theorem bw_in (F : Fence) (n : Nat) (h5 : F.fn 96) (hro : F.round = none) (a : Option Addr) (len cap : Nat) (w : World) :
    CallsIn F n Try.prog 96 #[.slice a len cap] w fun e w' => e = .returned (.func (.func 120) #[] #[.pointer (some ⟨w.heap.size, 0, none⟩)]) ∧ w' = w.alloc (.cells #[.slice a len cap] 140) := by
  refine callsIn_of_wp Try.func96 rfl h5 ?_ hro
  simp only [Try.ntmps96, List.size_toArray, List.length_cons, List.length_nil, Nat.reduceAdd, Nat.reduceSub, Array.replicate_succ, Array.replicate_zero, List.push_toArray, List.append_toArray, List.nil_append, List.cons_append]
  gi_wp2
  go_ret
  exact ⟨rfl, rfl⟩

/-- A slice value that reads as keys, in a block below n₀. -/
def Keys (n₀ : Nat) (W : World) (ao : Option Addr) (len : Nat) (ks : List (Int × Int)) : Prop := len = ks.length ∧ (ks ≠ [] → ∃ g, ao = some ⟨g, 0, none⟩ ∧ g < n₀ ∧ ∀ j k, ks[j]? = some k → W.cell? ⟨g, j * 2, none⟩ = some (.int .i64 k.1) ∧ W.cell? ⟨g, j * 2 + 1, none⟩ = some (.int .i64 k.2))
theorem Keys.below {n₀ : Nat} {A B : World} {ao : Option Addr} {len : Nat} {ks : List (Int × Int)} (h : Keys n₀ A ao len ks) (hb : Below n₀ A B) : Keys n₀ B ao len ks :=
  ⟨h.1, fun hne => by
    obtain ⟨g, e, hg, hc⟩ := h.2 hne
    exact ⟨g, e, hg, fun j k hk => ⟨(hb.cell (p := ⟨g, j * 2, none⟩) hg).trans (hc j k hk).1, (hb.cell (p := ⟨g, j * 2 + 1, none⟩) hg).trans (hc j k hk).2⟩⟩⟩
theorem bw_stops (F : Fence) (n : Nat) (h7 : F.fn 120) (hro : F.round = none) (hn : 1 ≤ n) (Bs n₀ : Nat) (ao : Option Addr) (len cap : Nat) (ks : List (Int × Int)) {Q : Int × Int → Prop} (hQ : ∀ k ∈ ks, Q k) (hlen : ks.length ≤ 100000) (w : World) (hBs : Bs < n₀) (hn₀ : n₀ ≤ w.heap.size)
    (hc : w.cell? ⟨Bs, 0, none⟩ = some (.slice ao len cap)) (hI : Keys n₀ w ao len ks) :
    SeqStopsK F n Try.prog 120 #[.pointer (some ⟨Bs, 0, none⟩)] (encB (Q := Q)) (Below n₀) (fun ys => ys.map (·.1) = bwd ks ks.length) (fun pre => ∃ k, k ≤ ks.length ∧ pre.map (·.1) = bwd ks k) ks.length w := fun l J Jx W hW _ _ hY h0 => by
  have hc' := (hW.cell (p := ⟨Bs, 0, none⟩) (Nat.lt_of_lt_of_le hBs hn₀)).trans hc
  have hI' := hI.below (hW.mono hn₀)
  obtain ⟨he, hk⟩ := hI'
  subst he
  cases ks with
  | nil => exact (bw1_none F n h7 hro l Bs J W ao cap hc' h0).mono fun e W' ⟨he, hj⟩ => ⟨he, .inl ⟨_, rfl, hj⟩⟩
  | cons k ks =>
    obtain ⟨g, rfl, hg, hcs⟩ := hk (by simp)
    exact bw1_in F n h7 hro hn l Bs n₀ g cap (k :: ks) hlen hg hQ J Jx hY W hBs hc' hcs h0
end Go.Proofs.Ytfnockbgkcgpkaa
set_option linter.all false
namespace Go.Proofs.Ytfnockbgkcgpkaa
open Go.RowKit Go.Shelf Go.Proofs.Panes
set_option maxRecDepth 100000

/-- No operation of the region puts a call off. -/
def noDefer (o : Oper) : Bool := match o.op with
  | .defer _ => false
  | _ => true
theorem noDefer_ne {o : Oper} (h : noDefer o = true) : ∀ c, o.op ≠ .defer c := by
  intro c e
  simp [noDefer, e] at h
section
variable {F : Fence} {n : Nat} {P : Program} {ops : Array Oper} {C : World → Prop}
/-- A quiet operation within a round. -/
theorem quietRound_op {o : Oper} {a : Act} {K : Act → Prop} {K' : Act → World → Prop} {Q' : Exit → Act → World → Prop} {w : World} (hnd : noDefer o = true) (hw : C w) (h : ∀ a w', C w' → K a → K' a w')
    (ha : o.askedIn F P a C) (hh : o.quietIn F n P a C K) : o.wpIn F n P a w K' Q' := by
  obtain ⟨v, h1, h2⟩ := hh
  have h3 := h1 w hw
  refine ⟨ha w hw, ?_⟩
  rw [Oper.semAt_eq _ _ _ (noDefer_ne hnd)]
  unfold Oper.quietAtIn at h3
  cases hr : (execOp a.eval o).run P w with
  | halt x w' => rw [hr] at h3; exact absurd h3 (by simp [Oper.quietUponIn])
  | ok x w' =>
    rw [hr] at h3
    cases x with
    | value u => exact h3.1 ▸ h3.2 ▸ h _ _ hw h2
    | skip => simp only [Oper.quietUponIn] at h3; simp only [Oper.uponIn]; rw [h3.1, ← h3.2]; exact h _ _ hw h2
    | enter f args =>
      simp only [Oper.quietUponIn] at h3
      simp only [Oper.uponIn]
      rw [h3.1]
      refine ⟨h3.2.1, h3.2.2.mono fun e w'' he => ?_⟩
      obtain ⟨he, hw''⟩ := he
      subst he
      exact h _ _ hw'' h2
    | _ => simp [Oper.quietUponIn] at h3
theorem quietRound_at {i : Nat} {a : Act} {K : Act → Prop} {K' : Act → World → Prop} {Q' : Exit → Act → World → Prop} {w : World} (hnd : ∀ o ∈ ops, noDefer o = true) (hC : C w) (h : ∀ a w', C w' → K a → K' a w')
    (hh : qOpIn F n P ops C i K a) : wpOpIn F n P ops Q' i K' a w := by
  unfold qOpIn at hh
  unfold wpOpIn
  cases ho : ops[i]? with
  | none => simp only [ho] at hh ⊢; exact h _ _ hC hh
  | some o =>
    simp only [ho] at hh ⊢
    obtain ⟨ha, hh⟩ := hh
    cases hw : Region.wanted o (yielded ops a.tmps) with
    | true => simp only [hw, if_true] at hh ⊢; exact quietRound_op (hnd o (Array.mem_of_getElem? ho)) hC h ha hh
    | false => simp only [hw] at hh ⊢; exact ⟨ha w hC, h _ _ hC hh⟩
theorem quietRound_any {md : Region.Mode} {Q : Act → Prop} {Q' : Exit → Act → World → Prop} (hnd : ∀ o ∈ ops, noDefer o = true) (hQ : ∀ a w, C w → Q a → Q' .normal a w) : ∀ (fuel : Nat) (listed : Array Bool) (a : Act) (w : World), C w →
    wpAnyQIn F n P md ops C Q fuel listed a → wpAnyIn F n P md ops Q' fuel listed a w
  | 0, _, _, _, hw, h => ⟨h.1, hQ _ _ hw h.2⟩
  | fuel + 1, _, _, _, hw, h => ⟨fun h0 => hQ _ _ hw (h.1 h0), fun i hi => quietRound_at hnd hw (fun a' w' hw' => quietRound_any hnd hQ fuel _ a' w' hw') (h.2 i hi)⟩
end
/-- A region that draws and only reads, within a round. -/
theorem region_quiet_round {F : Fence} {n : Nat} {P : Program} {id : Nat} {Q : Exit → Act → World → Prop} {a : Act} {w : World} {l : List Oper} (hnd : l.all noDefer = true) (hm : P.follows .mixedOrders = true) (hB : Region.lexB .any l.toArray = true)
    (h : wpQuietIn F n P l.toArray (fun w' => ∃ n, w' = w.drewN n) (fun a' => ∀ w', (∃ n, w' = w.drewN n) → Q .normal a' w') l a) : (Code.region id l.toArray true).wpIn F n P Q a w := by
  simp only [Region.lexB, Bool.and_eq_true] at hB
  refine wpIn_region_any hm (quietRound_any (C := fun w' => ∃ n, w' = w.drewN n) (Q := fun a' => ∀ w', (∃ n, w' = w.drewN n) → Q .normal a' w') (fun o ho => (List.all_eq_true.1 hnd) o (by simpa using ho)) (fun _ w' hw' h => h w' hw') _ _ _ _ ⟨1, rfl⟩ ?_)
  have := wpAnyQIn_lex (F := F) (n := n) (C := fun w' => ∃ n, w' = w.drewN n) (md := .any) hB.1 l.toArray.toList 0 (Array.replicate l.toArray.size false) a (by simp) (by simpa using hB.2) (by simpa using h)
  simpa using this
/-- A call within such a region. -/
theorem quiet_call {F : Fence} {n : Nat} {P : Program} {ops : Array Oper} {C : World → Prop} {Q : Act → Prop} {a : Act} {o : Oper} {rest : List Oper} (hF : ∀ f, F.fn f) (hd : F.depth = none) (hg : o.guard = none) (f : Nat) (xs : Array Operand) (ts : Array TypeId) (hop : o.op = .call { callee := .value (.func f), args := xs, argTypes := ts })
    (args : Array Value) (hev : xs.map a.eval = args) (hen : ∀ args w, (callFunc f args).run P w = .ok (.enter f args) w) (v : Value) (hc : ∀ w, C w → CallsIn F (n - 1) P f args w (fun e w'' => e = .returned v ∧ C w''))
    (hK : wpQuietIn F n P ops C Q rest (a.put o.dst v)) : wpQuietIn F n P ops C Q (o :: rest) a := by
  refine ⟨fun _ _ f _ => hF f, ?_⟩
  have hw : Region.wanted o (yielded ops a.tmps) = true := by simp [Region.wanted, hg]
  rw [if_pos hw]
  refine ⟨v, fun w hC => ?_, hK⟩
  have hrun : (execOp a.eval o).run P w = .ok (.enter f args) w := by
    have he : a.eval (.func f) = .func (.func f) #[] #[] := rfl
    simp [execOp, hop, resolve, invoke, hev, he, go_sem, hen]
  unfold Oper.quietAtIn
  rw [hrun]
  exact ⟨rfl, fun h => by rw [hd] at h; simp at h, hc w hC⟩
theorem quiet_assign {F : Fence} {n : Nat} {P : Program} {ops : Array Oper} {C : World → Prop} {Q : Act → Prop} {a : Act} {o : Oper} {rest : List Oper} (hF : ∀ f, F.fn f) (hg : o.guard = none) (x : Operand) (hop : o.op = .assign x) (v : Value) (hev : a.eval x = v)
    (hK : wpQuietIn F n P ops C Q rest (a.put o.dst v)) : wpQuietIn F n P ops C Q (o :: rest) a := by
  refine ⟨fun _ _ f _ => hF f, ?_⟩
  have hw : Region.wanted o (yielded ops a.tmps) = true := by simp [Region.wanted, hg]
  rw [if_pos hw]
  refine ⟨v, fun w hC => ?_, hK⟩
  have hrun : (execOp a.eval o).run P w = .ok (.value v) w := by simp [execOp, hop, hev]
  unfold Oper.quietAtIn
  rw [hrun]
  exact ⟨rfl, rfl⟩
end Go.Proofs.Ytfnockbgkcgpkaa
set_option linter.all false
namespace Go.Proofs.Ytfnockbgkcgpkaa
open Go.RowKit Go.Shelf Go.Proofs.Panes
set_option maxRecDepth 100000
attribute [local go_sem] Oper.semAt_some

/-- The picture's pixel: that of the highest surface that has one there. -/
def picS (l : List Srf) (b c r : Int) : Int := l.foldl (fun a s => if pixS s c r = 0 then a else pixS s c r) b
theorem picS_none {l : List Srf} {b c r : Int} (h : ∀ s ∈ l, pixS s c r = 0) : picS l b c r = b := by
  induction l with
  | nil => rfl
  | cons s l ih =>
    show picS l (if pixS s c r = 0 then b else pixS s c r) c r = b
    rw [if_pos (h s (by simp))]
    exact ih (fun t ht => h t (by simp [ht]))
theorem picS_some {l : List Srf} {b c r : Int} {j : Nat} {s : Srf} (hj : l[j]? = some s) (h : ∀ t ∈ l.drop (j + 1), pixS t c r = 0) (hs : ¬ pixS s c r = 0) : picS l b c r = pixS s c r := by
  have hlt := (List.getElem?_eq_some_iff.1 hj).1
  have he : l[j] = s := (List.getElem?_eq_some_iff.1 hj).2
  have e : l = l.take j ++ s :: l.drop (j + 1) := by rw [← he, List.getElem_cons_drop, List.take_append_drop]
  unfold picS
  conv => lhs; rw [e]
  rw [List.foldl_append, List.foldl_cons]
  rw [if_neg hs]
  exact picS_none (b := pixS s c r) h

/-- The variables of At. -/
structure AtI (w W : World) (sb : Nat) (x y : Int) : Prop where
  b0 : W.heap[w.heap.size]? = some (.cells #[.pointer (some ⟨sb, 0, none⟩)] 99)
  b1 : W.heap[w.heap.size + 1]? = some (.cells #[.int .i64 x] 3)
  b2 : W.heap[w.heap.size + 2]? = some (.cells #[.int .i64 y] 3)
  b3 : W.heap[w.heap.size + 3]? = some (.cells #[.int .i64 0] 3)
  below : Below w.heap.size w W
  sz : w.heap.size + 5 ≤ W.heap.size
theorem AtI.keep {w W W' : World} {sb : Nat} {x y : Int} (h : AtI w W sb x y) (hb : Below W.heap.size W W') : AtI w W' sb x y :=
  ⟨(hb.block _ (lt_of_heap h.b0)).trans h.b0, (hb.block _ (lt_of_heap h.b1)).trans h.b1, (hb.block _ (lt_of_heap h.b2)).trans h.b2, (hb.block _ (lt_of_heap h.b3)).trans h.b3, h.below.trans (hb.mono h.below.size), Nat.le_trans h.sz hb.size⟩
theorem AtI.own {β : Type} (P : β → Prop) (w : World) (sb : Nat) (x y : Int) (B : Nat) (hB : w.heap.size ≤ B) : OwnFrom B (fun (s : β) W => P s ∧ AtI w W sb x y) := fun s W W' row hs hg hr => by
  obtain ⟨hp, h⟩ := hs
  have hr' : ∀ r, row = some r → ∃ o : Obj, W.heap[r]? = some o ∧ o.isCells = false := fun r e => (hr r e).2
  exact ⟨hp, (grownBy_keeps_cells hg hr' h.b0 rfl).trans h.b0, (grownBy_keeps_cells hg hr' h.b1 rfl).trans h.b1, (grownBy_keeps_cells hg hr' h.b2 rfl).trans h.b2, (grownBy_keeps_cells hg hr' h.b3 rfl).trans h.b3, h.below.grown hg h.below.size (fun k e => Nat.le_trans hB (hr k e).1), Nat.le_trans h.sz hg.size⟩

abbrev KL (l : List Srf) := KQ (fun k => k ∈ l.map skey)
/-- None of these surfaces has a pixel there. -/
def AtZ (l : List Srf) (x y : Int) (pre : List (KL l)) : Prop := ∀ p ∈ pre, ∀ s ∈ l, skey s = p.1.2 → pixS s x y = 0
/-- The last one has. -/
def AtX (l : List Srf) (x y : Int) (w : World) (c : Code) (pre : List (KL l)) (W : World) : Prop := c = .ret ∧ ∃ ini last s, pre = ini ++ [last] ∧ AtZ l x y ini ∧ s ∈ l ∧ skey s = last.1.2 ∧ ¬ pixS s x y = 0 ∧ W.cell? ⟨w.heap.size + 3, 0, none⟩ = some (.int .i64 (pixS s x y))
theorem keepsFrom_of_below {B : Nat} {W W' : World} (h : Below W.heap.size W W') : KeepsFrom B W W' := ⟨h.size, fun k o _ hk _ => (h.block k (Array.getElem?_eq_some_iff.1 hk).1).trans hk⟩

set_option maxHeartbeats 4000000 in
theorem At_any {C U : Nat → Prop} {w : World} {sb : Nat} {beh : Int} {l : List Srf} (h : ScnX C U w sb beh l) (hok : ∀ s ∈ l, SrfOk s) (hl : l.length ≤ 1000) (x y : Int) (hx : 0 ≤ x ∧ x ≤ 1000) (hy : 0 ≤ y ∧ y ≤ 1000) :
    Calls Try.prog 66 #[.pointer (some ⟨sb, 0, none⟩), .int .i64 x, .int .i64 y] w fun e w' => e = .returned (.int .i64 (picS l beh x y)) ∧ Below w.heap.size w w' := by
  obtain ⟨mb, ov, L, clock, bk, pv, h⟩ := h
  have c1 : w.cell? ⟨sb, 1, none⟩ = some ov := blk_cell h.scm.blk 1
  have l1 : sb < w.heap.size := lt_of_heap h.scm.blk
  obtain ⟨ro, rc, hov⟩ := row_slice h.row
  rw [List.length_map] at hov
  obtain ⟨m, hm⟩ : ∃ m, m = l.length := ⟨_, rfl⟩
  rw [← hm] at hov
  subst hov
  have hkeys : Keys w.heap.size w ro m (l.map skey) := ⟨by simp [hm], fun hne => by
    have hrow := h.row
    obtain ⟨g, cap, hg⟩ := row_some hrow (by simp; exact Nat.pos_of_ne_zero (fun e => hne (by rw [List.eq_nil_of_length_eq_zero e]; rfl)))
    simp only [Value.slice.injEq] at hg
    obtain ⟨rfl, -, -⟩ := hg
    refine ⟨g, rfl, (World.ownsRow.lt hrow g rfl).2, fun j k hk => ?_⟩
    rw [List.getElem?_map] at hk
    cases hs : l[j]? with
    | none => rw [hs] at hk; simp at hk
    | some s =>
      rw [hs] at hk
      simp at hk
      have := own2_at hrow (p := k2 (skey s)) (j := j) (by rw [List.getElem?_map, hs]; rfl)
      rw [hk] at this
      exact this⟩
  refine (callsIn_wide (n := 3)).1 ?_
  refine callsIn_of_wp_marks Try.func66 rfl trivial ?_ rfl
  simp only [Try.ntmps66, List.size_toArray, List.length_cons, List.length_nil, Nat.reduceAdd, Nat.reduceSub, Array.replicate_succ, Array.replicate_zero, List.push_toArray, List.append_toArray, List.nil_append, List.cons_append]
  have HH := hide h
  have HK := hide hkeys
  have HM := hide hm
  have hm1 : m ≤ 1000 := by omega
  clear h hkeys hm
  obtain ⟨w4, hw4⟩ : ∃ w4 : World, w4 = (((w.alloc (.cells #[.pointer (some ⟨sb, 0, none⟩)] 99)).alloc (.cells #[.int .i64 x] 3)).alloc (.cells #[.int .i64 y] 3)).alloc (.cells #[.int .i64 0] 3) := ⟨_, rfl⟩
  have hB4 : Below w.heap.size w w4 := by rw [hw4]; exact ((((Below.refl _ w).alloc (Nat.le_refl _) _).alloc (by simp) _).alloc (by simp; omega) _).alloc (by simp; omega) _
  have g1 : w4.cell? ⟨sb, 1, none⟩ = some (.slice ro m rc) := (hB4.cell l1).trans c1
  rw [hw4] at g1
  gi_wp2_with (refine ⟨trivial, ?_⟩; gi_at_call 96; refine (bw_in Fence.wide _ trivial rfl _ _ _ _).mono ?_; rintro e w' ⟨rfl, rfl⟩)
  have hK0 : AtI w (w4.alloc (.cells #[.slice ro m rc] 140)) sb x y := by
    rw [hw4]
    refine ⟨blk_alloc (blk_alloc (blk_alloc (blk_alloc (new_at w _ _ rfl) _) _) _) _, blk_alloc (blk_alloc (blk_alloc (new_at _ _ _ (by simp)) _) _) _, blk_alloc (blk_alloc (new_at _ _ _ (by simp)) _) _, blk_alloc (new_at _ _ _ (by simp)) _, ?_, by simp⟩
    exact (hw4 ▸ hB4).alloc (by simp; omega) _
  have hsz : (w4.alloc (.cells #[.slice ro m rc] 140)).heap.size = w.heap.size + 5 := by rw [hw4]; simp
  have hbx : (w4.alloc (.cells #[.slice ro m rc] 140)).cell? ⟨w.heap.size + 4, 0, none⟩ = some (.slice ro m rc) := blk_cell (new_at w4 _ _ (by rw [hw4]; simp)) 0
  rw [← hw4]
  obtain ⟨W0, hW0⟩ : ∃ W0, w4.alloc (.cells #[.slice ro m rc] 140) = W0 := ⟨_, rfl⟩
  rw [hW0] at hK0 hsz hbx ⊢
  have HK0 := hide hK0
  have HW4 := hide hw4
  clear hW0 g1 hK0 hw4
  refine wpIn_rangeFunc_ownH rfl (by decide) (gf := 120) (lb := #[.pointer (some ⟨w.heap.size + 4, 0, none⟩)]) rfl trivial (enters_of Try.func120 (by kernel_rfl) rfl)
    (bw_stops Fence.wide 2 trivial rfl (by decide) (w.heap.size + 4) (w.heap.size + 5) ro m rc (l.map skey) (Q := fun k => k ∈ l.map skey) (fun _ h => h) (by simp; omega) W0 (by omega) (by omega) hbx ?keys) belowK_t (belowK_b (by omega)) (Below.refl _ _) (fun _ => rfl)
    (fun pre W => AtZ l x y pre ∧ AtI w W sb x y)
    (fun c pre W => AtX l x y w c pre W ∧ Below w.heap.size w W)
    (AtI.own _ w sb x y _ (by omega))
    (fun c => OwnFrom.and (Own.from (fun s A B row hs hg hr => by obtain ⟨hc, ini, last, s, e1, e2, e3, e4, e5, e6⟩ := hs; exact ⟨hc, ini, last, s, e1, e2, e3, e4, e5, cell_kept e6 hg hr⟩) _) (ownFrom_below (Nat.le_refl _) (by omega)))
    ⟨fun p hp => by simp at hp, unhide HK0⟩
    (fun p a' W => ∃ Bx, w.heap.size + 4 < Bx ∧ W.heap[Bx]? = some (.cells #[.int .i64 p.1.2.1, .int .i64 p.1.2.2] 143) ∧ a' = { tmps := #[.pointer (some ⟨sb, 0, none⟩), .int .i64 x, .int .i64 y, .pointer (some ⟨w.heap.size, 0, none⟩), .pointer (some ⟨w.heap.size + 1, 0, none⟩), .pointer (some ⟨w.heap.size + 1 + 1, 0, none⟩), .pointer (some ⟨w.heap.size + 1 + 1 + 1, 0, none⟩), undef, .pointer (some ⟨Bx, 0, none⟩), undef, .pointer (some ⟨sb, 0, none⟩), .pointer (some ⟨sb, 0, none⟩), .pointer (some ⟨sb, 1, none⟩), .slice ro m rc, .func (.func 120) #[] #[.pointer (some ⟨w.heap.size + 4, 0, none⟩)], .int .i64 (p.1.1 : Int), .agg #[.int .i64 p.1.2.1, .int .i64 p.1.2.2], undef, undef, undef, undef, undef, undef, undef, undef, undef, undef, undef, undef, undef, undef, undef, undef], defers := [] })
    (fun p a' _ X Y row hs hg hr => by obtain ⟨Bx, h1, h2, h3⟩ := hs; exact ⟨Bx, h1, (grownBy_keeps_cells hg (fun r e => (hr r e).2) h2 rfl).trans h2, h3⟩)
    ?assign ?body ?done ?stop
  case keys =>
    have hk := unhide HK
    refine ⟨hk.1, fun hne => ?_⟩
    obtain ⟨g, e, hg, hc⟩ := hk.2 hne
    have hb := (unhide HK0).below
    exact ⟨g, e, by omega, fun j k hj => ⟨(hb.cell (p := ⟨g, j * 2, none⟩) hg).trans (hc j k hj).1, (hb.cell (p := ⟨g, j * 2 + 1, none⟩) hg).trans (hc j k hj).2⟩⟩
  case assign =>
    rintro l' pre p W K hi hK
    unfold encB
    gi_wp2
    have hb : Below W.heap.size W (W.alloc (.cells #[.int .i64 p.1.2.1, .int .i64 p.1.2.2] 143)) := (Below.refl _ W).alloc (Nat.le_refl _) _
    exact hK _ _ (keepsFrom_of_below hb) (hb.mono hi.2.sz) ⟨hi.1, hi.2.keep hb⟩ ⟨W.heap.size, by have := hi.2.sz; omega, new_at W _ _ rfl, rfl⟩
  case body =>
    rintro l' pre p a' W hle ⟨r, hr⟩ ⟨hz, hI⟩ ⟨Bx, hBx, hbk, rfl⟩ hlt
    obtain ⟨s, hs, hk⟩ := List.mem_map.1 p.2
    have hk1 : p.1.2.1 = s.cl := by rw [← hk]; rfl
    have hk2 : p.1.2.2 = s.num := by rw [← hk]; rfl
    rw [hk1, hk2] at hbk
    rw [hk1, hk2]
    have hscW := (unhide HH).below hI.below
    obtain ⟨b, hbb⟩ : ∃ b, b = bk s.cl s.num := ⟨_, rfl⟩
    have hlk : ∀ q, (Instr.lookup 144 (.map (some mb)) (.agg #[.int .i64 s.cl, .int .i64 s.num]) false).run Try.prog (W.drewN q) = .ok (.pointer (some ⟨b, 0, none⟩)) (W.drewN q) := fun q => by
      have := run_lookup_key (w := W.drewN q) hscW.scm.map s.cl s.num
      rw [hscW.at_some hs, ← hbb] at this
      exact this
    have HAt : Hid (∀ q, Calls Try.prog 97 #[.pointer (some ⟨b, 0, none⟩), .int .i64 x, .int .i64 y] (W.drewN q) fun e w' => e = .returned (.int .i64 (pixS s x y)) ∧ ∃ k, w' = W.drewN k) := fun q => by
      rw [hbb]
      refine (sat_any (U := U) (w := W.drewN q) (hscW.surf s hs).1 (hok s hs) (hscW.surf s hs).2.2 x y hx hy).mono ?_
      rintro e w' ⟨rfl, k, rfl⟩
      exact ⟨rfl, _, drewN_twice _ _ _⟩
    have a0 : W.cell? ⟨w.heap.size, 0, none⟩ = some (.pointer (some ⟨sb, 0, none⟩)) := blk_cell hI.b0 0
    have a1 : W.cell? ⟨w.heap.size + 1, 0, none⟩ = some (.int .i64 x) := blk_cell hI.b1 0
    have a2 : W.cell? ⟨w.heap.size + 2, 0, none⟩ = some (.int .i64 y) := blk_cell hI.b2 0
    have a3 : W.cell? ⟨w.heap.size + 3, 0, none⟩ = some (.int .i64 0) := blk_cell hI.b3 0
    have f3 : W.frozen? ⟨w.heap.size + 3, 0, none⟩ = false := blk_thaw hI.b3 0
    have y0 : W.cell? ⟨Bx, 0, none⟩ = some (.int .i64 s.cl) := blk_cell hbk 0
    have y1 : W.cell? ⟨Bx, 1, none⟩ = some (.int .i64 s.num) := blk_cell hbk 1
    have x0 : W.cell? ⟨sb, 0, none⟩ = some (.map (some mb)) := blk_cell hscW.scm.blk 0
    have HI := hide hI
    have HZ := hide hz
    have hmx : Try.prog.follows .mixedOrders = true := by kernel_rfl
    obtain ⟨z, hz'⟩ : ∃ z, z = pixS s x y := ⟨_, rfl⟩
    rw [← hz'] at HAt
    have HZ' := hide hz'
    clear hz hI hscW hbk hz' hbb
    gi_wp2
    refine region_quiet_round (by kernel_rfl) (by kernel_rfl) (by kernel_rfl) ?_
    repeat (gi_big_quiet_step (fail))
    refine quiet_call (fun _ => trivial) rfl rfl 97 _ _ rfl #[.pointer (some ⟨b, 0, none⟩), .int .i64 x, .int .i64 y] (by kernel_rfl) (enters_of Try.func97 (by kernel_rfl) rfl) (.int .i64 z) (fun w' hw' => ?_) ?_
    · obtain ⟨q, rfl⟩ := hw'
      exact CallsIn.inRound l' (callsIn_wide.2 ((unhide HAt) q))
    refine quiet_assign (fun _ => trivial) rfl _ rfl (.int .i64 z) (by kernel_rfl) ?_
    refine wpQuietIn_nil ?_
    intro w5 hw5
    obtain ⟨nq, rfl⟩ := hw5
    simp only [Exit.then]
    go_simp
    by_cases hz0 : z = 0
    · subst hz0
      gi_wp2
      have hI := unhide HI
      have hb : Below W.heap.size W (W.drewN nq) := below_drewN (Below.refl _ W) nq
      refine ⟨keepsFrom_of_below hb, hb.mono hI.sz, ?_, hI.keep hb⟩
      intro p' hp' s' hs' hk'
      rcases List.mem_append.1 hp' with h1 | h1
      · exact (unhide HZ) p' h1 s' hs' hk'
      · have e : p' = p := by simpa using h1
        have e2 : s' = s := by
          have hh : skey s' = skey s := by rw [hk', e, ← hk]
          have f1 := find_mem hs' (unhide HH).nd
          have f2 := find_mem hs (unhide HH).nd
          have g1 : s'.cl = s.cl ∧ s'.num = s.num := by simpa [skey] using hh
          rw [g1.1, g1.2, f2] at f1
          exact (Option.some.inj f1).symm
        rw [e2]; exact (unhide HZ').symm
    · have hzb : (z == 0) = false := by simp [hz0]
      gi_wp2
      have hI := unhide HI
      have hb : Below W.heap.size W (W.drewN nq) := below_drewN (Below.refl _ W) nq
      have hcw := blk_set (i := 0) hI.b3 (.int .i64 z)
      refine ⟨?kk1, ⟨rfl, pre, p, s, rfl, unhide HZ, hs, hk, by rw [← unhide HZ']; exact hz0, ?cc1⟩, ?bb1⟩
      case kk1 => first | exact KeepsFrom.trans (keepsFrom_of_below hb) ((KeepsOthers.setCell _ _ _).from _) | exact KeepsFrom.trans ((KeepsOthers.setCell W _ _).from _) (keepsFrom_of_below (below_drewN (Below.refl _ _) nq))
      case cc1 => rw [← unhide HZ']; exact blk_cell hcw 0
      case bb1 => first | exact (below_drewN hI.below nq).setCell (p := ⟨w.heap.size + 3, 0, none⟩) (Nat.le_add_right _ _) _ | exact below_drewN (hI.below.setCell (p := ⟨w.heap.size + 3, 0, none⟩) (Nat.le_add_right _ _) _) nq
  case done =>
    rintro D ys W hD hys ⟨hz, hI⟩ hK
    have hall : ∀ s ∈ l, pixS s x y = 0 := by
      intro s hs
      obtain ⟨j, hj, hjs⟩ := List.mem_iff_getElem.1 hs
      have hm := unhide HM
      have hmem : (j, skey s) ∈ bwd (l.map skey) (l.map skey).length := by
        unfold bwd
        rw [List.mem_map]
        refine ⟨m - 1 - j, by simp; omega, ?_⟩
        have e : (l.map skey).length - 1 - (m - 1 - j) = j := by simp; omega
        rw [e]
        have : (l.map skey)[j]? = some (skey s) := by rw [List.getElem?_map, List.getElem?_eq_getElem hj, hjs]; rfl
        rw [this]; rfl
      rw [← hys] at hmem
      obtain ⟨p, hp, he⟩ := List.mem_map.1 hmem
      exact hz p hp s hs (by rw [he])
    have hp := picS_none (b := beh) hall
    have HPc := hide hp
    have a0 : W.cell? ⟨w.heap.size, 0, none⟩ = some (.pointer (some ⟨sb, 0, none⟩)) := blk_cell hI.b0 0
    have a3 : W.cell? ⟨w.heap.size + 3, 0, none⟩ = some (.int .i64 0) := blk_cell hI.b3 0
    have f3 : W.frozen? ⟨w.heap.size + 3, 0, none⟩ = false := blk_thaw hI.b3 0
    have x2 : W.cell? ⟨sb, 2, none⟩ = some (.int .i64 beh) := blk_cell ((hI.below.block _ l1).trans (unhide HH).scm.blk) 2
    have HI := hide hI
    clear hz hall hp hI hys
    gi_wp2
    have hK' := (KeepsOthers.setCell W ⟨w.heap.size + 3, 0, none⟩ (.int .i64 beh)).same D _ hK rfl
    refine ⟨by simp, .inl ⟨_, _, rfl, run_takeDeferred hK', ?_⟩⟩
    have hc5 := cell_kept (World.cell?_setCell_same' W ⟨w.heap.size + 3, 0, none⟩ (.int .i64 beh) (by rw [a3]; rfl)) (grownBy_putObj' _ D (.deferred none)) (fun r e => by cases e; exact ⟨_, hK', rfl⟩)
    refine ⟨.int .i64 beh, ?_, by rw [unhide HPc], ((unhide HI).below.setCell (p := ⟨w.heap.size + 3, 0, none⟩) (by simp) _).trans (belowK_b (w := w) (Nat.le_refl _) _ D _ _ (by omega) hK' rfl rfl)⟩
    simp [results, Try.f66, go_sem, hc5]
  case stop =>
    rintro D c pre W hD ⟨k, hk, hpre⟩ ⟨⟨rfl, ini, last, s, e1, e2, e3, e4, e5, hcr⟩, hB⟩ hK
    have hm := unhide HM
    obtain ⟨k', rfl⟩ : ∃ k', k = k' + 1 := by
      cases k with
      | zero => rw [e1] at hpre; simp [bwd] at hpre
      | succ k' => exact ⟨k', rfl⟩
    rw [e1, List.map_append, bwd_succ] at hpre
    obtain ⟨p1, p2⟩ := List.append_inj' hpre rfl
    simp only [List.map_cons, List.map_nil, List.cons.injEq, and_true] at p2
    obtain ⟨j, hj⟩ : ∃ j, j = (l.map skey).length - 1 - k' := ⟨_, rfl⟩
    rw [← hj] at p2
    have hjm : j < l.length := by simp at hj hk; omega
    have hlj : l[j]? = some s := by
      have hgj : l[j]? = some l[j] := List.getElem?_eq_getElem hjm
      have hkj : skey l[j] = skey s := by
        rw [e4, p2, List.getElem?_map, hgj]; rfl
      have f1 := find_mem (List.getElem_mem hjm) (unhide HH).nd
      have f2 := find_mem e3 (unhide HH).nd
      have g1 : l[j].cl = s.cl ∧ l[j].num = s.num := by simpa [skey] using hkj
      rw [g1.1, g1.2, f2] at f1
      rw [hgj, ← Option.some.inj f1]
    have hp : picS l beh x y = pixS s x y := by
      refine picS_some hlj (fun t ht => ?_) e5
      obtain ⟨i, hi, hit⟩ := List.mem_iff_getElem.1 ht
      rw [List.getElem_drop] at hit
      have hi' : i < l.length - (j + 1) := by simpa using hi
      have hmem : (j + 1 + i, skey t) ∈ bwd (l.map skey) k' := by
        unfold bwd
        rw [List.mem_map]
        refine ⟨m - 1 - (j + 1 + i), by simp at hj ⊢; omega, ?_⟩
        have e : (l.map skey).length - 1 - (m - 1 - (j + 1 + i)) = j + 1 + i := by simp; omega
        rw [e]
        have : (l.map skey)[j + 1 + i]? = some (skey t) := by rw [List.getElem?_map, List.getElem?_eq_getElem (by omega), hit]; rfl
        rw [this]; rfl
      rw [← p1] at hmem
      obtain ⟨p, hp, he⟩ := List.mem_map.1 hmem
      exact e2 p hp t (by rw [← hit]; exact List.getElem_mem _) (by rw [he])
    have HPc := hide hp
    clear hp hlj p1 p2 hpre e2
    gi_wp2
    refine ⟨by simp, .inl ⟨_, _, rfl, run_takeDeferred hK, ?_⟩⟩
    have hc5 := cell_kept hcr (grownBy_putObj' _ D (.deferred none)) (fun r e => by cases e; exact ⟨_, hK, rfl⟩)
    refine ⟨.int .i64 (pixS s x y), ?_, by rw [unhide HPc], hB.trans (belowK_b (w := w) (Nat.le_refl _) W D _ _ (by omega) hK rfl rfl)⟩
    simp [results, Try.f66, go_sem, hc5]
end Go.Proofs.Ytfnockbgkcgpkaa
