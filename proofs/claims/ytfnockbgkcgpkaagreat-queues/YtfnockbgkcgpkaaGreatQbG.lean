import Derived.Test.YtfnockbgkcgpkaaGreatQbF
set_option linter.all false
namespace Go.Proofs.YtfnockbgkcgpkaaGreat
open Go.RowKit Go.Proofs.Panes
set_option maxRecDepth 100000
attribute [local go_sem ↓] Go.wp_at_zero Go.wp_at_succ

/-- An operation lies at an address; its pixels in blocks of U. -/
def OAt (U : Nat → Prop) (w : World) (b off : Nat) (o : Opn) : Prop :=
  w.cell? ⟨b, off, none⟩ = some (.int .i64 o.kind) ∧ w.cell? ⟨b, off + 1, none⟩ = some (.int .i64 o.surf) ∧ w.cell? ⟨b, off + 2, none⟩ = some (.int .i64 o.x) ∧ w.cell? ⟨b, off + 3, none⟩ = some (.int .i64 o.y) ∧ w.cell? ⟨b, off + 4, none⟩ = some (.int .i64 o.w) ∧ w.cell? ⟨b, off + 5, none⟩ = some (.int .i64 o.h) ∧
  (∃ pv, w.cell? ⟨b, off + 6, none⟩ = some pv ∧ RdN U w pv o.px) ∧ w.cell? ⟨b, off + 7, none⟩ = some (.int .i64 o.mark)
theorem OAt.but {U S : Nat → Prop} {w w' : World} (hb : But S w w') {b off : Nat} {o : Opn} (hlt : b < w.heap.size) (hs : ¬ S b) (hU : ∀ k, U k → ¬ S k) (h : OAt U w b off o) : OAt U w' b off o := by
  have e : ∀ q, w'.cell? ⟨b, q, none⟩ = w.cell? ⟨b, q, none⟩ := fun q => World.cell?_of_block (hb.block b hlt hs)
  obtain ⟨h0, h1, h2, h3, h4, h5, ⟨pv, h6, h6'⟩, h7⟩ := h
  exact ⟨(e _).trans h0, (e _).trans h1, (e _).trans h2, (e _).trans h3, (e _).trans h4, (e _).trans h5, ⟨pv, (e _).trans h6, h6'.but hb hU⟩, (e _).trans h7⟩
/-- A list of operations, in blocks of U. -/
def RdO (U : Nat → Prop) (w : World) (v : Value) (l : List Opn) : Prop :=
  ∃ ao cap, v = .slice ao l.length cap ∧ l.length ≤ cap ∧ cap ≤ maxLen ∧ (l ≠ [] → ∃ b off, ao = some ⟨b, off, none⟩ ∧ U b ∧ b < w.heap.size ∧ ∀ j o, l[j]? = some o → OAt U w b (off + j * 8) o)
theorem RdO.but {U S : Nat → Prop} {w w' : World} {v : Value} {l : List Opn} (h : RdO U w v l) (hb : But S w w') (hs : ∀ k, U k → ¬ S k) : RdO U w' v l := by
  obtain ⟨ao, cap, e, h1, h2, h3⟩ := h
  refine ⟨ao, cap, e, h1, h2, fun hne => ?_⟩
  obtain ⟨b, off, e, hu, hlt, hc⟩ := h3 hne
  exact ⟨b, off, e, hu, Nat.lt_of_lt_of_le hlt hb.size, fun j r hr => (hc j r hr).but hb hlt (hs b hu) hs⟩
theorem RdO.below {U : Nat → Prop} {w w' : World} {v : Value} {l : List Opn} (h : RdO U w v l) (hb : Below w.heap.size w w') : RdO U w' v l := h.but (S := fun _ => False) (.of_below hb) (fun _ _ h => h)

/-- What a transaction costs. -/
def ocost (o : Opn) : Int := if o.kind = 3 then o.w * o.h else 0
def costOf (l : List Opn) : Int := (l.length : Int) + (l.map ocost).sum
theorem sum_take_succ {l : List Opn} {k : Nat} {o : Opn} (h : l[k]? = some o) : ((l.take (k + 1)).map ocost).sum = ((l.take k).map ocost).sum + ocost o := by
  rw [List.take_add_one, h]; simp
/-- An Attach within its bounds. -/
def Small (o : Opn) : Prop := o.kind = 3 → (1 ≤ o.w ∧ o.w ≤ 8) ∧ (1 ≤ o.h ∧ o.h ≤ 8)
theorem ocost_bd {o : Opn} (h : Small o) : 0 ≤ ocost o ∧ ocost o ≤ 64 := by
  unfold ocost
  split
  · rename_i hk
    obtain ⟨⟨h1, h2⟩, h3, h4⟩ := h hk
    generalize o.w = a at *
    generalize o.h = b at *
    have : a = 1 ∨ a = 2 ∨ a = 3 ∨ a = 4 ∨ a = 5 ∨ a = 6 ∨ a = 7 ∨ a = 8 := by omega
    rcases this with e | e | e | e | e | e | e | e <;> subst e <;> omega
  · omega
theorem sum_bd : ∀ (l : List Opn), (∀ o ∈ l, Small o) → 0 ≤ (l.map ocost).sum ∧ (l.map ocost).sum ≤ 64 * l.length
  | [], _ => by simp
  | o :: l, h => by
    have h1 := ocost_bd (h o (by simp))
    have h2 := sum_bd l (fun x hx => h x (by simp [hx]))
    simp only [List.map_cons, List.sum_cons, List.length_cons]
    omega

set_option maxHeartbeats 4000000 in
theorem docCost_any (U : Nat → Prop) (v : Value) (l : List Opn) (w : World) (hR : RdO U w v l) (hl : l.length ≤ 1000) (hs : ∀ o ∈ l, Small o) :
    Calls Tryz.prog 60 #[v] w fun e w' => e = .returned (.int .i64 (costOf l)) ∧ Below w.heap.size w w' := by
  obtain ⟨ao, cap, rfl, h1, h2, h3⟩ := id hR
  have HR := hide hR
  have HSm := hide hs
  clear hR hs h3
  go_enter Tryz.func60, Tryz.ntmps60
  go_wp2
  go_loopw [3, 4] (fun n i wr => ∃ k : Nat, k ≤ l.length ∧ i = .int .i64 k ∧ n = .int .i64 ((l.length : Int) + ((l.take k).map ocost).sum) ∧ Below w.heap.size w wr) (fun _ i _ => l.length - (intOf i).toNat)
  case atStart => exact ⟨0, Nat.zero_le _, rfl, by simp, Below.refl _ _⟩
  case round =>
    rename World => wq
    obtain ⟨k, hk, rfl, rfl, hbel⟩ := hrel
    by_cases hlt : k < l.length
    · obtain ⟨o, ho⟩ : ∃ o, l[k]? = some o := ⟨l[k], by simp [hlt]⟩
      obtain ⟨ao', cap', e, _, _, h3⟩ := (unhide HR).below hbel
      simp only [Value.slice.injEq, true_and] at e
      obtain ⟨rfl, rfl⟩ := e
      obtain ⟨b, off, rfl, _, _, hc⟩ := h3 (by intro e; rw [e] at hlt; simp at hlt)
      obtain ⟨c0, _, _, _, c4, c5, _, _⟩ := hc k o ho
      have hsm := (unhide HSm) o (List.mem_of_getElem? ho)
      have hob := ocost_bd hsm
      have hsb := sum_bd (l.take k) (fun x hx => (unhide HSm) x (List.mem_of_mem_take hx))
      have hst := sum_take_succ ho
      rw [List.length_take] at hsb
      have i0 : (0 : Int) ≤ (k : Int) := by omega
      have i1 : (k : Int) < (l.length : Int) := by omega
      obtain ⟨s, hs⟩ : ∃ s, s = ((l.take k).map ocost).sum := ⟨_, rfl⟩
      rw [← hs] at hsb hst ⊢
      have HB := hide hbel
      have HS := hide hs
      have HST := hide hst
      clear hbel h3 hc hs hst ho
      by_cases h3k : o.kind = 3
      · have hoc : ocost o = o.w * o.h := by unfold ocost; rw [if_pos h3k]
        have hm : IntKind.i64.wrap (o.w * o.h) = o.w * o.h := by rw [IntKind.wrap_i64]; omega
        have ha : IntKind.i64.wrap ((l.length : Int) + s + o.w * o.h) = (l.length : Int) + s + o.w * o.h := by rw [IntKind.wrap_i64]; omega
        have HOC := hide hoc
        rw [h3k] at c0
        clear hoc hob hsb hsm
        go_wp2
        go_quiet (fail)
        go_wp2
        go_roundw
        case rel =>
          refine ⟨k + 1, by omega, by go_num, ?_, below_drewN (unhide HB) _⟩
          rw [unhide HST, unhide HOC]
          congr 1
          omega
        case measure => simp [intOf]; omega
      · have hoc : ocost o = 0 := by unfold ocost; rw [if_neg h3k]
        have HOC := hide hoc
        have h3b : (o.kind == 3) = false := by simpa using h3k
        clear hoc hob hsb hsm
        go_wp2
        go_roundw
        case rel =>
          refine ⟨k + 1, by omega, by go_num, ?_, unhide HB⟩
          rw [unhide HST, unhide HOC, Int.add_zero]
        case measure => simp [intOf]; omega
    · obtain rfl : k = l.length := by omega
      have HB := hide hbel
      clear hbel
      have e : (l.length : Int) + ((l.take l.length).map ocost).sum = costOf l := by rw [List.take_length]; rfl
      rw [e]
      clear e
      go_wp2
      go_ret
      exact ⟨rfl, unhide HB⟩
end Go.Proofs.YtfnockbgkcgpkaaGreat
