import Derived.Test.YtfnockbgkcgpkaaGreatQbQ
set_option linter.all false
namespace Go.Proofs.YtfnockbgkcgpkaaGreat
open Go.RowKit Go.Proofs.Panes
set_option maxRecDepth 100000

set_option maxHeartbeats 4000000 in
/-- What the program says that a transaction costs. -/
theorem pcost_any (U : Nat → Prop) (v : Value) (l : List Opn) (w : World) (hR : RdO U w v l) (hl : l.length ≤ 1000) (hs : ∀ o ∈ l, Small o) :
    Calls Tryz.prog 96 #[v] w fun e w' => e = .returned (.int .i64 (costOf l)) ∧ Below w.heap.size w w' := by
  obtain ⟨ao, cap, rfl, h1, h2, h3⟩ := id hR
  have HR := hide hR
  have HSm := hide hs
  clear hR hs h3
  go_enter Tryz.func96, Tryz.ntmps96
  go_wp2
  go_loopw [3, 10] (fun n i wr => ∃ k : Nat, k ≤ l.length ∧ i = .int .i64 k ∧ n = .int .i64 ((l.length : Int) + ((l.take k).map ocost).sum) ∧ Below w.heap.size w wr) (fun _ i _ => l.length - (intOf i).toNat)
  case atStart => exact ⟨0, Nat.zero_le _, rfl, by simp, Below.refl _ _⟩
  case round =>
    rename World => wq
    obtain ⟨k, hk, rfl, rfl, hbel⟩ := hrel
    have hsz := hbel.size
    by_cases hlt : k < l.length
    · obtain ⟨o, ho⟩ : ∃ o, l[k]? = some o := ⟨l[k], by simp [hlt]⟩
      obtain ⟨ao', cap', e, _, _, h3⟩ := (unhide HR).below hbel
      simp only [Value.slice.injEq, true_and] at e
      obtain ⟨rfl, rfl⟩ := e
      obtain ⟨b, off, rfl, _, _, hc⟩ := h3 (by intro e; rw [e] at hlt; simp at hlt)
      obtain ⟨c0, c1, c2, c3, c4, c5, ⟨pv, c6, hpv⟩, c7⟩ := hc k o ho
      obtain ⟨po, pc, epv, _⟩ := hpv
      rw [epv] at c6
      clear epv
      have hsm := (unhide HSm) o (List.mem_of_getElem? ho)
      have hob := ocost_bd hsm
      have hsb := sum_bd (l.take k) (fun x hx => (unhide HSm) x (List.mem_of_mem_take hx))
      have hst := sum_take_succ ho
      rw [List.length_take] at hsb
      obtain ⟨s, hs⟩ : ∃ s, s = ((l.take k).map ocost).sum := ⟨_, rfl⟩
      rw [← hs] at hsb hst ⊢
      have HB := hide hbel
      have HS := hide hs
      have HST := hide hst
      clear hbel h3 hc hs hst ho
      by_cases h3k : o.kind = 3
      · have hoc : ocost o = o.w * o.h := by unfold ocost; rw [if_pos h3k]
        have hm : IntKind.i64.wrap (o.w * o.h) = o.w * o.h := by rw [IntKind.wrap_i64]; omega
        have ha : IntKind.i64.wrap ((l.length : Int) + s + o.w * o.h) = (l.length : Int) + s + o.w * o.h := by rw [IntKind.wrap_i64]; omega
        have HOC := hide hoc
        rw [h3k] at c0
        clear hoc hob hsb hsm
        go_wp2
        go_roundw
        case rel =>
          refine ⟨k + 1, by omega, by go_num, ?_, (unhide HB).alloc hsz _⟩
          rw [unhide HST, unhide HOC]
          congr 1
          omega
        case measure => simp [intOf]; omega
      · have hoc : ocost o = 0 := by unfold ocost; rw [if_neg h3k]
        have HOC := hide hoc
        have h3b : (o.kind == 3) = false := by simpa using h3k
        clear hoc hob hsb hsm
        go_wp2
        go_roundw
        case rel =>
          refine ⟨k + 1, by omega, by go_num, ?_, (unhide HB).alloc hsz _⟩
          rw [unhide HST, unhide HOC, Int.add_zero]
        case measure => simp [intOf]; omega
    · obtain rfl : k = l.length := by omega
      have HB := hide hbel
      clear hbel
      have e : (l.length : Int) + ((l.take l.length).map ocost).sum = costOf l := by rw [List.take_length]; rfl
      rw [e]
      clear e
      go_wp2
      go_ret
      exact ⟨rfl, unhide HB⟩
end Go.Proofs.YtfnockbgkcgpkaaGreat
