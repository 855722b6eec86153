import Derived.Test.YtfnockbgkcgpkaaGreatQbAE
import Derived.Test.YtfnockbgkcgpkaaGreatLawPkb
import Derived.Test.YtfnockbgkcgpkaaGreatQbAI
import Derived.Test.YtfnockbgkcgpkaaGreatLawK
import Derived.Test.YtfnockbgkcgpkaaGreatQbAN
set_option linter.all false
namespace Go.Proofs.YtfnockbgkcgpkaaGreat
open Go.RowKit Go.Proofs.Panes
set_option maxRecDepth 100000
attribute [local go_sem ↓] Go.wp_at_zero Go.wp_at_succ

def knownC : List Cfg := [⟨4, 2, 1, 2, 20, 20, 1, 9⟩, ⟨0, 0, 0, 0, 0, 0, 0, 0⟩]
def knownO : List (List Opn) := [[⟨1, 0, 1, 0, 0, 0, [], 0⟩, ⟨3, 0, 0, 0, 2, 1, [5, 0], 0⟩, ⟨8, 0, 0, 0, 0, 0, [], 77⟩]]
theorem known_olens : knownO.length ≤ 10000000000000 ∧ ∀ l ∈ knownO, l.length ≤ 1759218604390 ∧ ∀ o ∈ l, o.px.length ≤ 17592186043904 := by
  refine ⟨by decide, fun l hl => ?_⟩
  simp only [knownO, List.mem_cons, List.mem_nil_iff, or_false] at hl
  subst hl
  refine ⟨by decide, fun o ho => ?_⟩
  simp only [List.mem_cons, List.mem_nil_iff, or_false] at ho
  rcases ho with rfl | rfl | rfl <;> decide

theorem knownCs {W : World} (b : Nat) (h : W.heap[b]? = some (.cells #[.int .i64 4, .int .i64 2, .int .i64 1, .int .i64 2, .int .i64 20, .int .i64 20, .int .i64 1, .int .i64 9, .int .i64 0, .int .i64 0, .int .i64 0, .int .i64 0, .int .i64 0, .int .i64 0, .int .i64 0, .int .i64 0] 49)) : RdC (fun k => k < W.heap.size) W (.slice (some ⟨b, 0, none⟩) 2 2) knownC := by
  refine ⟨some ⟨b, 0, none⟩, 2, rfl, fun _ => ⟨b, 0, rfl, lt_of_heap h, lt_of_heap h, fun j c hj => ?_⟩⟩
  match j, hj with
  | 0, hj =>
    simp only [knownC, List.getElem?_cons_zero, Option.some.injEq] at hj
    subst hj
    exact ⟨blk_cell h 0, blk_cell h 1, blk_cell h 2, blk_cell h 3, blk_cell h 4, blk_cell h 5, blk_cell h 6, blk_cell h 7⟩
  | 1, hj =>
    simp only [knownC, List.getElem?_cons_zero, List.getElem?_cons_succ, Option.some.injEq] at hj
    subst hj
    exact ⟨blk_cell h 8, blk_cell h 9, blk_cell h 10, blk_cell h 11, blk_cell h 12, blk_cell h 13, blk_cell h 14, blk_cell h 15⟩
  | j + 2, hj => simp [knownC] at hj

theorem knownOs {W : World} (p b g : Nat) (hp : W.heap[p]? = some (.cells #[.int .i64 5, .int .i64 0] 3))
    (h : W.heap[b]? = some (.cells #[.int .i64 1, .int .i64 0, .int .i64 1, .int .i64 0, .int .i64 0, .int .i64 0, .slice none 0 0, .int .i64 0, .int .i64 3, .int .i64 0, .int .i64 0, .int .i64 0, .int .i64 2, .int .i64 1, .slice (some ⟨p, 0, none⟩) 2 2, .int .i64 0, .int .i64 8, .int .i64 0, .int .i64 0, .int .i64 0, .int .i64 0, .int .i64 0, .slice none 0 0, .int .i64 77] 52))
    (hg : W.heap[g]? = some (.cells #[.slice (some ⟨b, 0, none⟩) 3 3] 53)) : RdLO (fun k => k < W.heap.size) W (.slice (some ⟨g, 0, none⟩) 1 1) knownO := by
  refine ⟨some ⟨g, 0, none⟩, 1, rfl, fun _ => ⟨g, 0, rfl, lt_of_heap hg, lt_of_heap hg, fun i l hl => ?_⟩⟩
  have nilN : RdN (fun k => k < W.heap.size) W (.slice none 0 0) [] := ⟨none, 0, rfl, Nat.le_refl _, by simp [maxLen], fun h => absurd rfl h⟩
  match i, hl with
  | 0, hl =>
    simp only [knownO, List.getElem?_cons_zero, Option.some.injEq] at hl
    subst hl
    refine ⟨_, blk_cell hg 0, some ⟨b, 0, none⟩, 3, rfl, by simp, by simp [maxLen], fun _ => ⟨b, 0, rfl, lt_of_heap h, lt_of_heap h, fun j o ho => ?_⟩⟩
    match j, ho with
    | 0, ho =>
      simp only [List.getElem?_cons_zero, Option.some.injEq] at ho
      subst ho
      exact ⟨blk_cell h 0, blk_cell h 1, blk_cell h 2, blk_cell h 3, blk_cell h 4, blk_cell h 5, ⟨_, blk_cell h 6, nilN⟩, blk_cell h 7⟩
    | 1, ho =>
      simp only [List.getElem?_cons_zero, List.getElem?_cons_succ, Option.some.injEq] at ho
      subst ho
      refine ⟨blk_cell h 8, blk_cell h 9, blk_cell h 10, blk_cell h 11, blk_cell h 12, blk_cell h 13, ⟨_, blk_cell h 14, some ⟨p, 0, none⟩, 2, rfl, by simp, by simp [maxLen], fun _ => ⟨p, 0, rfl, lt_of_heap hp, lt_of_heap hp, fun t n hn => ?_⟩⟩, blk_cell h 15⟩
      match t, hn with
      | 0, hn =>
        simp only [List.getElem?_cons_zero, Option.some.injEq] at hn
        subst hn
        exact blk_cell hp 0
      | 1, hn =>
        simp only [List.getElem?_cons_zero, List.getElem?_cons_succ, Option.some.injEq] at hn
        subst hn
        exact blk_cell hp 1
      | t + 2, hn => simp at hn
    | 2, ho =>
      simp only [List.getElem?_cons_zero, List.getElem?_cons_succ, Option.some.injEq] at ho
      subst ho
      exact ⟨blk_cell h 16, blk_cell h 17, blk_cell h 18, blk_cell h 19, blk_cell h 20, blk_cell h 21, ⟨_, blk_cell h 22, nilN⟩, blk_cell h 23⟩
    | j + 3, ho => simp at ho
  | i + 1, hl => simp [knownO] at hl

set_option maxHeartbeats 4000000 in
theorem known_q (w : World) : Calls Tryz.prog 8 #[] w fun e w' => ∃ b1 b2 b3, e = .returned (.agg #[.slice (some ⟨b1, 0, none⟩) 2 2, .slice (some ⟨b2, 0, none⟩) 2 2, .slice (some ⟨b3, 0, none⟩) 1 1]) ∧ RdC (fun k => k < w'.heap.size) w' (.slice (some ⟨b2, 0, none⟩) 2 2) knownC ∧ RdLO (fun k => k < w'.heap.size) w' (.slice (some ⟨b3, 0, none⟩) 1 1) knownO ∧ Below w.heap.size w w' := by
  go_enter Tryz.func8, Tryz.ntmps8
  go_wp2
  refine bodyPost_ret (v := .agg #[.slice (some ⟨w.heap.size + 1 + 1 + 1, 0, none⟩) 2 2, .slice (some ⟨w.heap.size + 1 + 1 + 1 + 1, 0, none⟩) 2 2, .slice (some ⟨w.heap.size + 1 + 1 + 1 + 1 + 1 + 1 + 1, 0, none⟩) 1 1]) (by simp [results, Tryz.results8, go_sem]) rfl ⟨_, _, _, rfl, ?_, ?_, ?_⟩
  · refine knownCs _ ?_
    all_goals repeat (first | exact new_at _ _ _ (by simp) | rw [heap_at _ _ _ (by first | (simp; done) | (simp; omega))])
  · refine knownOs (w.heap.size + 1 + 1 + 1 + 1 + 1) (w.heap.size + 1 + 1 + 1 + 1 + 1 + 1) _ ?_ ?_ ?_
    all_goals repeat (first | exact new_at _ _ _ (by simp) | rw [heap_at _ _ _ (by first | (simp; done) | (simp; omega))])
  · repeat (first | exact Below.refl _ _ | refine Below.setCell ?_ (by first | (simp; done) | (simp; omega)) _ | refine below_drewN ?_ _ | refine Below.drew ?_ | refine Below.alloc ?_ (by first | (simp; done) | (simp; omega)) _)
end Go.Proofs.YtfnockbgkcgpkaaGreat

namespace Go.Proofs.YtfnockbgkcgpkaaGreat
open Go.RowKit Go.Proofs.Panes
set_option maxRecDepth 100000
attribute [local go_sem ↓] Go.wp_at_zero Go.wp_at_succ

theorem RdN.wide {U V : Nat → Prop} {w : World} {v : Value} {l : List Int} (h : RdN U w v l) (hu : ∀ k, U k → V k) : RdN V w v l := by
  obtain ⟨ao, cap, e, h1, h2, h3⟩ := h
  refine ⟨ao, cap, e, h1, h2, fun hne => ?_⟩
  obtain ⟨b, off, e, hb, r⟩ := h3 hne
  exact ⟨b, off, e, hu b hb, r⟩
theorem RdO.wide {U V : Nat → Prop} {w : World} {v : Value} {l : List Opn} (h : RdO U w v l) (hu : ∀ k, U k → V k) : RdO V w v l := by
  obtain ⟨ao, cap, e, h1, h2, h3⟩ := h
  refine ⟨ao, cap, e, h1, h2, fun hne => ?_⟩
  obtain ⟨b, off, e, hb, hlt, r⟩ := h3 hne
  refine ⟨b, off, e, hu b hb, hlt, fun j o ho => ?_⟩
  obtain ⟨a0, a1, a2, a3, a4, a5, ⟨pv, a6, a6'⟩, a7⟩ := r j o ho
  exact ⟨a0, a1, a2, a3, a4, a5, ⟨pv, a6, a6'.wide hu⟩, a7⟩
theorem RdLO.wide {U V : Nat → Prop} {w : World} {v : Value} {L : List (List Opn)} (h : RdLO U w v L) (hu : ∀ k, U k → V k) : RdLO V w v L := by
  obtain ⟨ao, cap, e, h3⟩ := h
  refine ⟨ao, cap, e, fun hne => ?_⟩
  obtain ⟨b, off, e, hb, hlt, r⟩ := h3 hne
  refine ⟨b, off, e, hu b hb, hlt, fun i l hl => ?_⟩
  obtain ⟨v', h1, h2⟩ := r i l hl
  exact ⟨v', h1, h2.wide hu⟩
theorem RdC.wide {U V : Nat → Prop} {w : World} {v : Value} {l : List Cfg} (h : RdC U w v l) (hu : ∀ k, U k → V k) : RdC V w v l := by
  obtain ⟨ao, cap, e, h3⟩ := h
  refine ⟨ao, cap, e, fun hne => ?_⟩
  obtain ⟨b, off, e, hb, r⟩ := h3 hne
  exact ⟨b, off, e, hu b hb, r⟩
theorem RdC.below {U : Nat → Prop} {w w' : World} {v : Value} {L : List Cfg} (h : RdC U w v L) (hb : Below w.heap.size w w') : RdC U w' v L := h.but (S := fun _ => False) (.of_below hb) (fun _ _ h => h)
theorem RdLO.below {U : Nat → Prop} {w w' : World} {v : Value} {L : List (List Opn)} (h : RdLO U w v L) (hb : Below w.heap.size w w') : RdLO U w' v L := h.but (S := fun _ => False) (.of_below hb) (fun _ _ h => h)

/-- The world of a script as it begins. -/
theorem QSt.first {U : Nat → Prop} {wb : Nat} {gr gc go : Value} {C : List Cfg} {O : List (List Opn)} {w : World} (hbx : w.heap[wb]? = some (.cells #[gr, gc, go, .slice none 0 0, .slice none 0 0, .slice none 0 0, .slice none 0 0] 39)) (h3 : RdC U w gc C) (h4 : RdLO U w go O) (h5 : ∀ k, U k → k < w.heap.size ∧ k ≠ wb) : QSt U w.heap.size wb gr gc go C O w (.slice none 0 0) [] (fun _ => (0, 0)) :=
  ⟨hbx, World.ownsRow_nil _ _ _ _, fun i s hs => by simp at hs, rfl, fun _ _ => rfl, Nat.le_refl _, h3, h4, h5⟩
theorem open_kinds8 : ∀ r ∈ openL, (-9223372036854775808 ≤ r.h ∧ r.h ≤ 9223372036854775807) := by
  intro r hr
  simp only [openL, List.mem_cons, List.mem_nil_iff, or_false] at hr
  rcases hr with rfl | rfl | rfl | rfl | rfl | rfl | rfl | rfl | rfl | rfl | rfl | rfl | rfl | rfl | rfl <;> decide
end Go.Proofs.YtfnockbgkcgpkaaGreat

namespace Go.Proofs.YtfnockbgkcgpkaaGreat
open Go.RowKit Go.Proofs.Panes
set_option maxRecDepth 100000

set_option maxHeartbeats 1600000 in
theorem step_new {U : Nat → Prop} {base wb : Nat} {gr gc go : Value} {C : List Cfg} {O : List (List Opn)} {w : World} {ss : Value} {shs : List Sh} {o : Nat → Nat × Nat} (h : QSt U base wb gr gc go C O w ss shs o) (oA oB oC : Int) (hA : -9223372036854775808 ≤ oA ∧ oA ≤ 9223372036854775807) (hn : shs.length ≤ 4398046511104) (hC : C.length ≤ 10000000000000) :
    Calls Tryz.prog 10 #[.pointer (some ⟨wb, 0, none⟩), .agg #[.int .i64 6, .int .i64 oA, .int .i64 oB, .int .i64 oC]] w fun e w' => e = .returned (.bool true) ∧ QNext U base wb gr gc go C O shs.length w w' := by
  have hb1 : Below w.heap.size w (w.alloc (.cells #[.int .i64 6, .int .i64 oA, .int .i64 oB, .int .i64 oC] 42)) := (Below.refl _ w).alloc (Nat.le_refl _) _
  have hq := h.below hb1
  have HM : Hid (Calls Tryz.prog 13 #[.pointer (some ⟨wb, 0, none⟩), .agg #[.int .i64 6, .int .i64 oA, .int .i64 oB, .int .i64 oC]] (w.alloc (.cells #[.int .i64 6, .int .i64 oA, .int .i64 oB, .int .i64 oC] 42)) fun e w' => e = .returned (.bool true) ∧ QNext U base wb gr gc go C O shs.length (w.alloc (.cells #[.int .i64 6, .int .i64 oA, .int .i64 oB, .int .i64 oC] 42)) w') := by
    show Calls _ _ _ _ _
    by_cases h0 : C.length = 0
    · obtain ⟨ao, cap, e, _⟩ := hq.1.rdC
      rw [h0] at e
      have hbx := hq.1.box
      rw [e] at hbx
      exact (made_none hbx 6 oA oB oC).mono fun x w' ⟨hx, hb⟩ => ⟨hx, QNext.same hq.1 hb⟩
    · exact made_some hq.1 6 oA oB oC hA hn ⟨by omega, hC⟩
  have HQ := hide hq
  clear h hb1 hq hA
  go_enter Tryz.func10, Tryz.ntmps10
  go_wp2_with fail
  refine (unhide HM).mono ?_
  rintro e w' ⟨rfl, hN⟩
  have HN := hide hN
  clear hN HM
  go_wp2
  go_ret
  exact ⟨rfl, QNext.from (unhide HQ).2 (unhide HN)⟩

set_option maxHeartbeats 1600000 in
theorem step_empty {wb : Nat} {gr gc go : Value} {w : World} {so : Option Addr} {scap : Nat} (hbx : w.heap[wb]? = some (.cells #[gr, gc, go, .slice so 0 scap, .slice none 0 0, .slice none 0 0, .slice none 0 0] 39)) (kind oA oB oC : Int) (hk : kind = 7 ∨ kind = 8) :
    Calls Tryz.prog 10 #[.pointer (some ⟨wb, 0, none⟩), .agg #[.int .i64 kind, .int .i64 oA, .int .i64 oB, .int .i64 oC]] w fun e w' => e = .returned (.bool true) ∧ Below w.heap.size w w' := by
  have c3 : w.cell? ⟨wb, 3, none⟩ = some (.slice so 0 scap) := blk_cell hbx 3
  have hwb := lt_of_heap hbx
  have k1 : ¬ kind < 1 := by omega
  have k2 : ¬ 11 < kind := by omega
  have k3 : ¬ kind ≤ 5 := by omega
  have k6 : ¬ kind = 6 := by omega
  clear hbx hk
  go_enter Tryz.func10, Tryz.ntmps10
  go_wp2
  go_ret
  exact ⟨rfl, (Below.refl _ w).alloc (Nat.le_refl _) _⟩

theorem qstep_any {U : Nat → Prop} {base wb : Nat} {gr gc go : Value} {C : List Cfg} {O : List (List Opn)} {w : World} {ss : Value} {shs : List Sh} {o : Nat → Nat × Nat} (h : QSt U base wb gr gc go C O w ss shs o) (kind oA oB oC : Int) (hk : 6 ≤ kind ∧ kind ≤ 8) (hA : -9223372036854775808 ≤ oA ∧ oA ≤ 9223372036854775807) (hCr : -9223372036854775808 ≤ oC ∧ oC ≤ 9223372036854775807) (hn : shs.length ≤ 4398046511104) (hC : C.length ≤ 10000000000000) (hOn : O.length ≤ 10000000000000) (hol : ∀ l ∈ O, l.length ≤ 1759218604390 ∧ ∀ o ∈ l, o.px.length ≤ 17592186043904) :
    Calls Tryz.prog 10 #[.pointer (some ⟨wb, 0, none⟩), .agg #[.int .i64 kind, .int .i64 oA, .int .i64 oB, .int .i64 oC]] w fun e w' => e = .returned (.bool true) ∧ QNext U base wb gr gc go C O shs.length w w' := by
  by_cases h6 : kind = 6
  · subst h6
    exact step_new h oA oB oC hA hn hC
  · by_cases h0 : shs.length = 0
    · obtain ⟨so, scap, e⟩ := row_slice h.own
      rw [h0] at e
      have hbx := h.box
      rw [e] at hbx
      exact (step_empty hbx kind oA oB oC (by omega)).mono fun x w' ⟨hx, hb⟩ => ⟨hx, QNext.same h hb⟩
    · by_cases h7 : kind = 7
      · exact step_conn h kind oA oB oC h7 hA ⟨by omega, hn⟩
      · exact step_sub h kind oA oB oC (by omega) hA hCr ⟨by omega, hn⟩ hOn hol
end Go.Proofs.YtfnockbgkcgpkaaGreat

namespace Go.Proofs.YtfnockbgkcgpkaaGreat
open Go.RowKit Go.Proofs.Panes
set_option maxRecDepth 100000
attribute [local go_sem ↓] Go.wp_at_zero Go.wp_at_succ

set_option maxHeartbeats 8000000 in
theorem plays_q (ro co oo so : Option Addr) (rn rc cc oc scap : Nat) (C : List Cfg) (O : List (List Opn)) (ops : List Rc) (w : World) (hL : RdC (fun k => k < w.heap.size) w (.slice co C.length cc) C) (hLO : RdLO (fun k => k < w.heap.size) w (.slice oo O.length oc) O) (hS : RdU (fun k => k < w.heap.size) w (.slice so ops.length scap) ops) (hn : ops.length ≤ 4398046511103) (hC : C.length ≤ 10000000000000) (hOn : O.length ≤ 10000000000000) (hol : ∀ l ∈ O, l.length ≤ 1759218604390 ∧ ∀ o ∈ l, o.px.length ≤ 17592186043904)
    (hops : ∀ r ∈ ops, (-9223372036854775808 ≤ r.y ∧ r.y ≤ 9223372036854775807) ∧ (-9223372036854775808 ≤ r.h ∧ r.h ≤ 9223372036854775807)) :
    Calls Tryz.prog 7 #[.agg #[.slice ro rn rc, .slice co C.length cc, .slice oo O.length oc], .slice so ops.length scap, .int .i64 6, .int .i64 8] w fun e w' => e = .returned (.bool true) ∧ Below w.heap.size w w' := by
  have HL := hide hL
  have HLO := hide hLO
  have HS := hide hS
  have HLL := hide hol
  have HOps := hide hops
  clear hL hLO hS hol hops
  go_enter Tryz.func7, Tryz.ntmps7
  go_wp2_with fail
  have hB0 : Below w.heap.size w (w.alloc (.cells #[.slice ro rn rc, .slice co C.length cc, .slice oo O.length oc] 26)) := (Below.refl _ w).alloc (Nat.le_refl _) _
  have hG0 : (w.alloc (.cells #[.slice ro rn rc, .slice co C.length cc, .slice oo O.length oc] 26)).heap[w.heap.size]? = some (.cells #[.slice ro rn rc, .slice co C.length cc, .slice oo O.length oc] 26) := new_at _ _ _ rfl
  generalize w.alloc (.cells #[.slice ro rn rc, .slice co C.length cc, .slice oo O.length oc] 26) = w0 at *
  refine (known_q w0).mono ?_
  rintro e w1 ⟨b1, b2, b3, rfl, hK1, hKO1, hb1⟩
  have hG1 : w1.heap[w.heap.size]? = some (.cells #[.slice ro rn rc, .slice co C.length cc, .slice oo O.length oc] 26) := (hb1.block _ (lt_of_heap hG0)).trans hG0
  have hB1 : Below w.heap.size w w1 := hB0.trans (hb1.mono hB0.size)
  have HG1 := hide hG1
  have HB1 := hide hB1
  have HK1 := hide hK1
  have HKO1 := hide hKO1
  have hs1 := hB1.size
  clear hB0 hG0 hb1 hG1 hB1 hK1 hKO1
  go_wp2_with fail
  have hX2 : (w1.alloc (.cells #[.slice (some ⟨b1, 0, none⟩) 2 2, .slice (some ⟨b2, 0, none⟩) 2 2, .slice (some ⟨b3, 0, none⟩) 1 1, .slice none 0 0, .slice none 0 0, .slice none 0 0, .slice none 0 0] 39)).heap[w1.heap.size]? = some (.cells #[.slice (some ⟨b1, 0, none⟩) 2 2, .slice (some ⟨b2, 0, none⟩) 2 2, .slice (some ⟨b3, 0, none⟩) 1 1, .slice none 0 0, .slice none 0 0, .slice none 0 0, .slice none 0 0] 39) := new_at _ _ _ rfl
  have hB2 : Below w1.heap.size w1 (w1.alloc (.cells #[.slice (some ⟨b1, 0, none⟩) 2 2, .slice (some ⟨b2, 0, none⟩) 2 2, .slice (some ⟨b3, 0, none⟩) 1 1, .slice none 0 0, .slice none 0 0, .slice none 0 0, .slice none 0 0] 39)) := (Below.refl _ w1).alloc (Nat.le_refl _) _
  generalize w1.alloc (.cells #[.slice (some ⟨b1, 0, none⟩) 2 2, .slice (some ⟨b2, 0, none⟩) 2 2, .slice (some ⟨b3, 0, none⟩) 1 1, .slice none 0 0, .slice none 0 0, .slice none 0 0, .slice none 0 0] 39) = w2 at *
  refine (opening_any w2).mono ?_
  rintro e w3 ⟨vs, rfl, hO3, hlt3, hb3⟩
  have hl2 := lt_of_heap hX2
  have hX3 := (hb3.block _ hl2).trans hX2
  have hB3 : Below w1.heap.size w1 w3 := hB2.trans (hb3.mono (by omega))
  have hSt : QSt (fun k => k < w1.heap.size ∨ k = w2.heap.size) w3.heap.size w1.heap.size _ _ _ knownC knownO w3 _ [] _ := QSt.first hX3 (((unhide HK1).wide (fun k hk => .inl hk)).below hB3) (((unhide HKO1).wide (fun k hk => .inl hk)).below hB3) (fun k hk => by
    have := hB3.size
    rcases hk with c | c
    · exact ⟨by omega, by omega⟩
    · exact ⟨by omega, by omega⟩)
  have hbase3 : w1.heap.size ≤ w3.heap.size := hB3.size
  have hR3 : RdU (fun k => k < w1.heap.size ∨ k = w2.heap.size) w3 vs openL := hO3.wide (fun k hk => .inr hk)
  obtain ⟨vo, vcap, rfl, vjunk⟩ := id hR3
  clear vjunk
  have HSt := hide hSt
  have HR3 := hide hR3
  have HB3 := hide hB3
  clear hX2 hB2 hO3 hb3 hX3 hSt hR3 hB3
  have hol : openL.length = 15 := rfl
  rw [hol]
  rw [hol] at HR3
  clear hol
  go_wp2
  go_loopw [8, 11] (fun r8 i wr => r8 = .bool false ∧ ∃ k : Nat, k ≤ 15 ∧ i = .int .i64 k ∧ ∃ ss shs o, QSt (fun k => k < w1.heap.size ∨ k = w2.heap.size) w3.heap.size w1.heap.size (.slice (some ⟨b1, 0, none⟩) 2 2) (.slice (some ⟨b2, 0, none⟩) 2 2) (.slice (some ⟨b3, 0, none⟩) 1 1) knownC knownO wr ss shs o ∧ shs.length ≤ k ∧ Below w1.heap.size w1 wr ∧ RdU (fun k => k < w1.heap.size ∨ k = w2.heap.size) wr (.slice vo 15 vcap) openL) (fun _ i _ => 15 - (intOf i).toNat)
  case atStart => exact ⟨rfl, 0, Nat.zero_le _, rfl, _, [], _, unhide HSt, Nat.le_refl _, unhide HB3, unhide HR3⟩
  case round =>
    rename World => wq
    obtain ⟨rfl, k, hk, rfl, kr, es, oo1, hSt, hes, hbel, hrd⟩ := hrel
    clear HSt HR3 HB3
    by_cases hlt : k < 15
    · obtain ⟨r, hr⟩ : ∃ r, openL[k]? = some r := ⟨openL[k]'hlt, List.getElem?_eq_getElem hlt⟩
      obtain ⟨ejunk, b, off, rfl, c1, c2, c3, c4⟩ := hrd.at hr
      clear ejunk
      obtain ⟨q1, q2, _⟩ := open_kinds r (List.mem_of_getElem? hr)
      have q3 := open_kinds8 r (List.mem_of_getElem? hr)
      have i0 : (0 : Int) ≤ (k : Int) := by omega
      have i1 : (k : Int) < (15 : Int) := by omega
      have HSt := hide hSt
      have Hbel := hide hbel
      have Hrd := hide hrd
      have Hq2 := hide q2
      have Hq3 := hide q3
      clear hSt hbel hrd hr q2 q3
      obtain ⟨kind, oA, oB, oC⟩ := r
      simp only at c1 c2 c3 c4 q1 Hq2 Hq3
      by_cases h6 : kind < 6
      · have h6' : ¬ 6 ≤ kind := by omega
        go_wp2
        go_roundw
        case rel => exact ⟨rfl, k + 1, by omega, by go_num, kr, es, oo1, unhide HSt, by omega, unhide Hbel, unhide Hrd⟩
        case measure => simp [intOf]; omega
      · have h6' : 6 ≤ kind := by omega
        by_cases h8 : kind ≤ 8
        · have HC := hide (qstep_any (unhide HSt) kind oA oB oC ⟨h6', h8⟩ (unhide Hq2) (unhide Hq3) (by omega) (by decide) known_olens.1 known_olens.2)
          have hs3 := hbase3
          go_wp2_with fail
          refine (unhide HC).mono ?_
          rintro e w4 ⟨rfl, ⟨kr', es', o', s1, s2⟩, s3⟩
          have H1 := hide s1
          have H3 := hide ((unhide Hbel).trans (s3.below (unhide Hbel).size (fun j c => by rcases c with c | c <;> omega)))
          have H4 := hide ((unhide Hrd).but s3 (fun j hj c => by have := (unhide HSt).far j hj; rcases c with c | c <;> omega))
          clear s1 s3 HC
          go_wp2
          go_roundw
          case rel => exact ⟨rfl, k + 1, by omega, by go_num, kr', es', o', unhide H1, by omega, unhide H3, unhide H4⟩
          case measure => simp [intOf]; omega
        · go_wp2
          go_roundw
          case rel => exact ⟨rfl, k + 1, by omega, by go_num, kr, es, oo1, unhide HSt, by omega, unhide Hbel, unhide Hrd⟩
          case measure => simp [intOf]; omega
    · have i2 : ¬ (k : Int) < 15 := by omega
      have hG : wq.heap[w.heap.size]? = some (.cells #[.slice ro rn rc, .slice co C.length cc, .slice oo O.length oc] 26) := (hbel.block _ (lt_of_heap (unhide HG1))).trans (unhide HG1)
      have g0 : wq.cell? ⟨w.heap.size, 0, none⟩ = some (.slice ro rn rc) := blk_cell hG 0
      have g1 : wq.cell? ⟨w.heap.size, 1, none⟩ = some (.slice co C.length cc) := blk_cell hG 1
      have g2 : wq.cell? ⟨w.heap.size, 2, none⟩ = some (.slice oo O.length oc) := blk_cell hG 2
      have Hq := hide ((unhide HB1).trans (hbel.mono hs1))
      clear hSt hbel hrd hG
      go_wp2
      have hX5 : (wq.alloc (.cells #[.slice ro rn rc, .slice co C.length cc, .slice oo O.length oc, .slice none 0 0, .slice none 0 0, .slice none 0 0, .slice none 0 0] 39)).heap[wq.heap.size]? = some (.cells #[.slice ro rn rc, .slice co C.length cc, .slice oo O.length oc, .slice none 0 0, .slice none 0 0, .slice none 0 0, .slice none 0 0] 39) := new_at _ _ _ rfl
      have hB5 : Below w.heap.size w (wq.alloc (.cells #[.slice ro rn rc, .slice co C.length cc, .slice oo O.length oc, .slice none 0 0, .slice none 0 0, .slice none 0 0, .slice none 0 0] 39)) := (unhide Hq).alloc (unhide Hq).size _
      have hsq := (unhide Hq).size
      clear g0 g1 g2 Hq
      generalize wq.alloc (.cells #[.slice ro rn rc, .slice co C.length cc, .slice oo O.length oc, .slice none 0 0, .slice none 0 0, .slice none 0 0, .slice none 0 0] 39) = w5 at *
      generalize wq.heap.size = wb at *
      have hSt : QSt (fun k => k < w.heap.size) w5.heap.size wb (.slice ro rn rc) (.slice co C.length cc) (.slice oo O.length oc) C O w5 (.slice none 0 0) [] _ := QSt.first hX5 ((unhide HL).below hB5) ((unhide HLO).below hB5) (fun k hk => ⟨Nat.lt_of_lt_of_le hk hB5.size, by omega⟩)
      have hbase5 : w.heap.size ≤ w5.heap.size := hB5.size
      have hR5 := (unhide HS).below hB5
      have HSt := hide hSt
      have HR5 := hide hR5
      have HB5 := hide hB5
      clear hX5 hB5 hSt hR5
      go_loopw [8, 14] (fun r8 i wr => r8 = .bool false ∧ ∃ k : Nat, k ≤ ops.length ∧ i = .int .i64 k ∧ ∃ ss shs o, QSt (fun k => k < w.heap.size) w5.heap.size wb (.slice ro rn rc) (.slice co C.length cc) (.slice oo O.length oc) C O wr ss shs o ∧ shs.length ≤ k ∧ Below w.heap.size w wr ∧ RdU (fun k => k < w.heap.size) wr (.slice so ops.length scap) ops) (fun _ i _ => ops.length - (intOf i).toNat)
      case atStart => exact ⟨rfl, 0, Nat.zero_le _, rfl, _, [], _, unhide HSt, Nat.le_refl _, unhide HB5, unhide HR5⟩
      case round =>
        rename World => wp
        obtain ⟨rfl, k, hk, rfl, kr', es', oo2, hSt, hes', hbel, hrd⟩ := hrel
        clear HSt HR5 HB5
        by_cases hlt : k < ops.length
        · obtain ⟨r, hr⟩ : ∃ r, ops[k]? = some r := ⟨ops[k], by simp [hlt]⟩
          obtain ⟨ejunk, b, off, rfl, c1, c2, c3, c4⟩ := hrd.at hr
          clear ejunk
          obtain ⟨q2, q3⟩ := (unhide HOps) r (List.mem_of_getElem? hr)
          have i0 : (0 : Int) ≤ (k : Int) := by omega
          have i1 : (k : Int) < (ops.length : Int) := by omega
          have HSt := hide hSt
          have Hbel := hide hbel
          have Hrd := hide hrd
          have Hq2 := hide q2
          have Hq3 := hide q3
          clear hSt hbel hrd hr q2 q3
          obtain ⟨kind, oA, oB, oC⟩ := r
          simp only at c1 c2 c3 c4 Hq2 Hq3
          by_cases h1 : kind < 6
          · go_wp2
            go_roundw
            case rel => exact ⟨rfl, k + 1, by omega, by go_num, kr', es', oo2, unhide HSt, by omega, unhide Hbel, unhide Hrd⟩
            case measure => simp [intOf]; omega
          · by_cases h5 : 8 < kind
            · go_wp2
              go_roundw
              case rel => exact ⟨rfl, k + 1, by omega, by go_num, kr', es', oo2, unhide HSt, by omega, unhide Hbel, unhide Hrd⟩
              case measure => simp [intOf]; omega
            · have HC := hide (qstep_any (unhide HSt) kind oA oB oC ⟨by omega, by omega⟩ (unhide Hq2) (unhide Hq3) (by omega) hC hOn (unhide HLL))
              go_wp2_with fail
              refine (unhide HC).mono ?_
              rintro e w6 ⟨rfl, ⟨kr2, es2, o2, s1, s2⟩, s3⟩
              have HBw := hide (bwhole_any wb 0 0 (.slice none 0 0) [] w6 (blk_cell s1.box 4) (blk_cell s1.box 5) (blk_cell s1.box 6) (World.ownsRow_nil _ _ _ _) (fun e he => by simp at he) (by simp))
              have H1 := hide s1
              have H3 := hide ((unhide Hbel).trans (s3.below (unhide Hbel).size (fun j c => by rcases c with c | c <;> omega)))
              have H4 := hide ((unhide Hrd).but s3 (fun j hj c => by have := (unhide HSt).far j hj; rcases c with c | c <;> omega))
              clear s1 s3 HC
              go_wp2_with fail
              refine (unhide HBw).mono ?_
              rintro e w7 ⟨rfl, hb7⟩
              have H7 := hide hb7
              clear hb7 HBw
              go_wp2
              go_roundw
              case rel => exact ⟨rfl, k + 1, by omega, by go_num, kr2, es2, o2, ((unhide H1).below (unhide H7)).1, by omega, (unhide H3).trans ((unhide H7).mono (unhide H3).size), (unhide H4).below (unhide H7)⟩
              case measure => simp [intOf]; omega
        · have Hbel := hide hbel
          clear hSt hbel hrd
          go_wp2
          go_ret
          exact ⟨rfl, unhide Hbel⟩


set_option maxHeartbeats 2000000 in
theorem queues_any (ro co oo so : Option Addr) (rn rc cc oc scap : Nat) (C : List Cfg) (O : List (List Opn)) (ops : List Rc) (w : World) (hL : RdC (fun k => k < w.heap.size) w (.slice co C.length cc) C) (hLO : RdLO (fun k => k < w.heap.size) w (.slice oo O.length oc) O) (hS : RdU (fun k => k < w.heap.size) w (.slice so ops.length scap) ops) (hn : ops.length ≤ 4398046511103) (hC : C.length ≤ 10000000000000) (hOn : O.length ≤ 10000000000000) (hol : ∀ l ∈ O, l.length ≤ 1759218604390 ∧ ∀ o ∈ l, o.px.length ≤ 17592186043904)
    (hops : ∀ r ∈ ops, (-9223372036854775808 ≤ r.y ∧ r.y ≤ 9223372036854775807) ∧ (-9223372036854775808 ≤ r.h ∧ r.h ≤ 9223372036854775807)) :
    Calls Tryz.prog 4 #[.agg #[.slice ro rn rc, .slice co C.length cc, .slice oo O.length oc], .slice so ops.length scap] w fun e w' => e = .returned (.bool true) ∧ Below w.heap.size w w' := by
  have hb1 : Below w.heap.size w (w.alloc (.cells #[.slice ro rn rc, .slice co C.length cc, .slice oo O.length oc] 26)) := (Below.refl _ w).alloc (Nat.le_refl _) _
  have HC := hide (plays_q ro co oo so rn rc cc oc scap C O ops _ ((hL.below hb1).wide (fun k hk => Nat.lt_of_lt_of_le hk hb1.size)) ((hLO.below hb1).wide (fun k hk => Nat.lt_of_lt_of_le hk hb1.size)) ((hS.below hb1).wide (fun k hk => Nat.lt_of_lt_of_le hk hb1.size)) hn hC hOn hol hops)
  have Hb1 := hide hb1
  clear hL hLO hS hol hops hb1
  go_enter Tryz.func4, Tryz.ntmps4
  go_wp2_with fail
  refine (unhide HC).mono ?_
  rintro e w' ⟨rfl, hb⟩
  have Hb := hide hb
  clear hb HC
  go_wp2
  go_ret
  exact ⟨rfl, (unhide Hb1).trans ((unhide Hb).mono (unhide Hb1).size)⟩
end Go.Proofs.YtfnockbgkcgpkaaGreat
