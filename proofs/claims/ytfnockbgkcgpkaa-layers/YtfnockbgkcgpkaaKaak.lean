import Derived.Test.YtfnockbgkcgpkaaKaag
import Derived.Test.YtfnockbgkcgpkaaKaaj
import Derived.BigRegion
import Derived.BigQuiet
import Derived.Deep.QuietTactic
import Derived.Laws.ResultCell
import Derived.Laws.Rows
set_option linter.all false
namespace Go.Proofs.Ytfnockbgkcgpkaa
open Go.RowKit Go.Proofs.Panes
set_option maxRecDepth 100000

/-- The value of an operation. -/
def ovq (o : Opn) (pv : Value) : Value := .agg #[.int .i64 o.kind, .int .i64 o.surf, .int .i64 o.x, .int .i64 o.y, .int .i64 o.w, .int .i64 o.h, pv, .int .i64 o.mark]
set_option maxHeartbeats 4000000 in
/-- The program's look at a configuration. -/
theorem pallowed_any (c : Cfg) (w : World) : Calls Try.prog 70 #[cval c] w fun e w' => e = .returned (.bool (okCfg c)) ∧ Below w.heap.size w w' := by
  obtain ⟨a, b, d, e, f, g, h, i⟩ := c
  unfold cval okCfg
  simp only
  have hin : ∀ (n lo hi : Int) (w : World), Calls Try.prog 80 #[.int .i64 n, .int .i64 lo, .int .i64 hi] w fun e w' => e = .returned (.bool (inB n lo hi)) ∧ w' = w := fun n lo hi w => within_any n lo hi w
  have HIN := hide hin
  clear hin
  obtain ⟨b1, h1⟩ : ∃ b1, b1 = inB a 1 16 := ⟨_, rfl⟩
  obtain ⟨b2, h2⟩ : ∃ b1, b1 = inB b 1 16 := ⟨_, rfl⟩
  obtain ⟨b3, h3⟩ : ∃ b1, b1 = inB d 1 4 := ⟨_, rfl⟩
  obtain ⟨b4, h4⟩ : ∃ b1, b1 = inB e 1 8 := ⟨_, rfl⟩
  obtain ⟨b5, h5⟩ : ∃ b1, b1 = inB f 1 300 := ⟨_, rfl⟩
  obtain ⟨b6, h6⟩ : ∃ b1, b1 = inB g f 600 := ⟨_, rfl⟩
  obtain ⟨b7, h7⟩ : ∃ b1, b1 = inB h 1 4 := ⟨_, rfl⟩
  obtain ⟨b8, h8⟩ : ∃ b1, b1 = inB i 1 4294967295 := ⟨_, rfl⟩
  have c1 := hide ((unhide HIN) a 1 16)
  have c2 := hide ((unhide HIN) b 1 16)
  have c3 := hide ((unhide HIN) d 1 4)
  have c4 := hide ((unhide HIN) e 1 8)
  have c5 := hide ((unhide HIN) f 1 300)
  have c6 := hide ((unhide HIN) g f 600)
  have c7 := hide ((unhide HIN) h 1 4)
  have c8 := hide ((unhide HIN) i 1 4294967295)
  rw [← h1] at c1 ⊢
  rw [← h2] at c2 ⊢
  rw [← h3] at c3 ⊢
  rw [← h4] at c4 ⊢
  rw [← h5] at c5 ⊢
  rw [← h6] at c6 ⊢
  rw [← h7] at c7 ⊢
  rw [← h8] at c8 ⊢
  clear HIN h1 h2 h3 h4 h5 h6 h7 h8
  go_enter Try.func70, Try.ntmps70
  go_wp2_with (go_at_call 80; first
    | (refine ((unhide c1) _).mono ?_; rintro e w' ⟨rfl, rfl⟩; clear c1)
    | (refine ((unhide c2) _).mono ?_; rintro e w' ⟨rfl, rfl⟩; clear c2)
    | (refine ((unhide c3) _).mono ?_; rintro e w' ⟨rfl, rfl⟩; clear c3)
    | (refine ((unhide c4) _).mono ?_; rintro e w' ⟨rfl, rfl⟩; clear c4)
    | (refine ((unhide c5) _).mono ?_; rintro e w' ⟨rfl, rfl⟩; clear c5)
    | (refine ((unhide c6) _).mono ?_; rintro e w' ⟨rfl, rfl⟩; clear c6)
    | (refine ((unhide c7) _).mono ?_; rintro e w' ⟨rfl, rfl⟩; clear c7)
    | (refine ((unhide c8) _).mono ?_; rintro e w' ⟨rfl, rfl⟩; clear c8))
  all_goals go_ret
  all_goals refine ⟨by first | rfl | simp_all, ?_⟩
  all_goals repeat (first | exact Below.refl _ _ | refine Below.alloc ?_ (Nat.le_refl _) _)
theorem notPixel_any (n : Int) (w : World) : Calls Try.prog 131 #[.int .i64 n] w fun e w' => e = .returned (.bool (!inB n 0 4294967295)) ∧ w' = w := by
  have hin := hide (fun w => within_any n 0 4294967295 w)
  go_enter Try.func131, Try.ntmps131
  go_wp2_with (go_at_call 80; refine ((unhide hin) _).mono ?_; rintro e w' ⟨rfl, rfl⟩)
  all_goals go_ret
  all_goals exact ⟨by first | rfl | simp [inB], rfl⟩
set_option maxHeartbeats 4000000 in
/-- What the program says that a transaction costs. -/
theorem pcost_any (U : Nat → Prop) (v : Value) (l : List Opn) (w : World) (hR : RdO U w v l) (hl : l.length ≤ 1000) (hs : ∀ o ∈ l, Small o) :
    Calls Try.prog 82 #[v] w fun e w' => e = .returned (.int .i64 (costOf l)) ∧ Below w.heap.size w w' := by
  obtain ⟨ao, cap, rfl, h1, h2, h3⟩ := id hR
  have HR := hide hR
  have HSm := hide hs
  clear hR hs h3
  go_enter Try.func82, Try.ntmps82
  go_wp2
  go_loopw [3, 10] (fun n i wr => ∃ k : Nat, k ≤ l.length ∧ i = .int .i64 k ∧ n = .int .i64 ((l.length : Int) + ((l.take k).map ocost).sum) ∧ Below w.heap.size w wr) (fun _ i _ => l.length - (intOf i).toNat)
  case atStart => exact ⟨0, Nat.zero_le _, rfl, by simp, Below.refl _ _⟩
  case round =>
    rename World => wq
    obtain ⟨k, hk, rfl, rfl, hbel⟩ := hrel
    have hsz := hbel.size
    by_cases hlt : k < l.length
    · obtain ⟨o, ho⟩ : ∃ o, l[k]? = some o := ⟨l[k], by simp [hlt]⟩
      obtain ⟨ao', cap', e, _, _, h3⟩ := (unhide HR).below hbel
      simp only [Value.slice.injEq, true_and] at e
      obtain ⟨rfl, rfl⟩ := e
      obtain ⟨b, off, rfl, _, _, hc⟩ := h3 (by intro e; rw [e] at hlt; simp at hlt)
      obtain ⟨c0, c1, c2, c3, c4, c5, ⟨pv, c6, hpv⟩, c7⟩ := hc k o ho
      obtain ⟨po, pc, epv, _⟩ := hpv
      rw [epv] at c6
      clear epv
      have hsm := (unhide HSm) o (List.mem_of_getElem? ho)
      have hob := ocost_bd hsm
      have hsb := sum_bd (l.take k) (fun x hx => (unhide HSm) x (List.mem_of_mem_take hx))
      have hst := sum_take_succ ho
      rw [List.length_take] at hsb
      obtain ⟨s, hs⟩ : ∃ s, s = ((l.take k).map ocost).sum := ⟨_, rfl⟩
      rw [← hs] at hsb hst ⊢
      have HB := hide hbel
      have HS := hide hs
      have HST := hide hst
      clear hbel h3 hc hs hst ho
      by_cases h3k : o.kind = 3
      · have hoc : ocost o = o.w * o.h := by unfold ocost; rw [if_pos h3k]
        have hm : IntKind.i64.wrap (o.w * o.h) = o.w * o.h := by rw [IntKind.wrap_i64]; omega
        have ha : IntKind.i64.wrap ((l.length : Int) + s + o.w * o.h) = (l.length : Int) + s + o.w * o.h := by rw [IntKind.wrap_i64]; omega
        have HOC := hide hoc
        rw [h3k] at c0
        clear hoc hob hsb hsm
        go_wp2
        go_roundw
        case rel =>
          refine ⟨k + 1, by omega, by go_num, ?_, (unhide HB).alloc hsz _⟩
          rw [unhide HST, unhide HOC]
          congr 1
          omega
        case measure => simp [intOf]; omega
      · have hoc : ocost o = 0 := by unfold ocost; rw [if_neg h3k]
        have HOC := hide hoc
        have h3b : (o.kind == 3) = false := by simpa using h3k
        clear hoc hob hsb hsm
        go_wp2
        go_roundw
        case rel =>
          refine ⟨k + 1, by omega, by go_num, ?_, (unhide HB).alloc hsz _⟩
          rw [unhide HST, unhide HOC, Int.add_zero]
        case measure => simp [intOf]; omega
    · obtain rfl : k = l.length := by omega
      have HB := hide hbel
      clear hbel
      have e : (l.length : Int) + ((l.take l.length).map ocost).sum = costOf l := by rw [List.take_length]; rfl
      rw [e]
      clear e
      go_wp2
      go_ret
      exact ⟨rfl, unhide HB⟩
def npx (n : Int) : Bool := !inB n 0 4294967295
set_option maxHeartbeats 1600000 in
theorem indexN_any (U : Nat → Prop) (v : Value) (l : List Int) (w : World) (hR : RdN U w v l) (hn : l.length ≤ 17592186043904) :
    Calls Try.prog 141 #[v, .func (.func 131) #[] #[]] w fun e w' => ∃ n : Int, e = .returned (.int .i64 n) ∧ decide (0 ≤ n) = l.any npx ∧ w' = w := by
  obtain ⟨ao, cap, rfl, h1, h2, h3⟩ := hR
  go_enter Try.func141, Try.ntmps141
  go_wp2
  go_loopw [8] (fun i wr => ∃ k : Nat, k ≤ l.length ∧ i = .int .i64 k ∧ (l.take k).any npx = false ∧ wr = w) (fun i _ => l.length - (intOf i).toNat)
  case atStart => exact ⟨0, Nat.zero_le _, rfl, rfl, rfl⟩
  case round =>
    obtain ⟨k, hk, rfl, hh, ew⟩ := hrel
    have ew2 := ew.symm
    clear ew
    subst ew2
    by_cases hlt : k < l.length
    · obtain ⟨b, off, rfl, _, hb, hc⟩ := h3 (by intro e; subst e; simp at hlt)
      obtain ⟨r, hr⟩ : ∃ r, l[k]? = some r := ⟨l[k], by simp [hlt]⟩
      have c1 := hc k r hr
      clear hc h3
      have HT : Hid ((l.take (k + 1)).any npx = npx r) := by show _ = _; rw [List.take_add_one, hr, List.any_append, hh]; simp
      have HL : Hid (npx r = true → l.any npx = true) := fun h => List.any_eq_true.2 ⟨r, List.mem_of_getElem? hr, h⟩
      clear hh
      have HNP := hide (fun w => notPixel_any r w)
      have e0 : (!inB r 0 4294967295) = npx r := rfl
      rw [e0] at HNP
      clear e0
      cases ho : npx r
      · rw [ho] at HNP
        go_wp2_with (go_at_call 131; refine ((unhide HNP) _).mono ?_; rintro e w' ⟨rfl, rfl⟩)
        go_roundw
        case rel => exact ⟨k + 1, by omega, by go_num, by rw [HT.out, ho], by trivial⟩
        case measure => simp [intOf]; omega
      · rw [ho] at HNP
        go_wp2_with (go_at_call 131; refine ((unhide HNP) _).mono ?_; rintro e w' ⟨rfl, rfl⟩)
        go_ret
        exact ⟨k, rfl, by rw [HL.out ho]; simp, rfl⟩
    · have hkl : k = l.length := by omega
      have HB : Hid (l.any npx = false) := by rw [hkl, List.take_length] at hh; exact hh
      clear hh h3
      go_wp2
      go_ret
      exact ⟨-1, rfl, by rw [HB.out]; rfl, rfl⟩
set_option maxHeartbeats 1600000 in
theorem containsN_any (U : Nat → Prop) (v : Value) (l : List Int) (w : World) (hR : RdN U w v l) (hn : l.length ≤ 17592186043904) :
    Calls Try.prog 130 #[v, .func (.func 131) #[] #[]] w fun e w' => e = .returned (.bool (!l.all (fun n => inB n 0 4294967295))) ∧ w' = w := by
  have HI := hide (indexN_any U v l w hR hn)
  have e0 : l.any npx = !l.all (fun n => inB n 0 4294967295) := by rw [List.not_all_eq_any_not]; rfl
  have HE := hide e0
  clear e0 hR hn
  go_enter Try.func130, Try.ntmps130
  go_wp2_with (go_at_call 141; refine (unhide HI).mono ?_; rintro e w' ⟨n, rfl, hn', rfl⟩; have HN := hide hn'; clear hn')
  go_ret
  exact ⟨by rw [← unhide HE, ← unhide HN]; rfl, rfl⟩
end Go.Proofs.Ytfnockbgkcgpkaa
set_option linter.all false
namespace Go.Proofs.Ytfnockbgkcgpkaa
open Go.RowKit Go.Proofs.Panes
set_option maxRecDepth 100000

/-- An operation may be, whatever surface it is for. -/
def okOp (o : Opn) : Bool := inB o.kind 1 8 && okArgs o
set_option maxHeartbeats 4000000 in
theorem callowed_move (o : Opn) (po : Option Addr) (pn pc : Nat) (w : World) (hk : o.kind = 1 ∨ o.kind = 4) :
    Calls Try.prog 109 #[ovq o (.slice po pn pc)] w fun e w' => e = .returned (.bool (okOp o)) ∧ Below w.heap.size w w' := by
  have e0 : okOp o = (inB o.x (-100) 100 && inB o.y (-100) 100) := by
    unfold okOp okArgs
    rw [if_pos hk]
    rcases hk with e | e <;> rw [e] <;> rfl
  rw [e0]
  clear e0
  unfold ovq
  obtain ⟨b1, h1⟩ : ∃ b1, b1 = inB o.x (-100) 100 := ⟨_, rfl⟩
  obtain ⟨b2, h2⟩ : ∃ b1, b1 = inB o.y (-100) 100 := ⟨_, rfl⟩
  have c1 : Hid (∀ w, Calls Try.prog 80 #[.int .i64 o.x, .int .i64 (-100), .int .i64 100] w fun e w' => e = .returned (.bool (inB o.x (-100) 100)) ∧ w' = w) := fun w => within_any _ _ _ w
  have c2 : Hid (∀ w, Calls Try.prog 80 #[.int .i64 o.y, .int .i64 (-100), .int .i64 100] w fun e w' => e = .returned (.bool (inB o.y (-100) 100)) ∧ w' = w) := fun w => within_any _ _ _ w
  rw [← h1] at c1 ⊢
  rw [← h2] at c2 ⊢
  clear h1 h2
  rcases hk with e | e <;> rw [e] <;> clear e
  all_goals
    go_enter Try.func109, Try.ntmps109
    go_wp2_with (go_at_call 80; first
      | (refine ((unhide c1) _).mono ?_; rintro e w' ⟨rfl, rfl⟩; clear c1)
      | (refine ((unhide c2) _).mono ?_; rintro e w' ⟨rfl, rfl⟩; clear c2))
    all_goals go_ret
    all_goals refine ⟨by first | rfl | simp_all, ?_⟩
    all_goals repeat (first | exact Below.refl _ _ | refine Below.alloc ?_ (Nat.le_refl _) _)
set_option maxHeartbeats 4000000 in
theorem callowed_slide (o : Opn) (po : Option Addr) (pn pc : Nat) (w : World) (hk : o.kind = 7) :
    Calls Try.prog 109 #[ovq o (.slice po pn pc)] w fun e w' => e = .returned (.bool (okOp o)) ∧ Below w.heap.size w w' := by
  have e0 : okOp o = (inB o.x (-4) 4 && inB o.y (-4) 4 && inB o.w 1 20) := by
    unfold okOp okArgs
    rw [hk, if_neg (by decide), if_neg (by decide), if_pos rfl]
    cases inB o.x (-4) 4 <;> cases inB o.y (-4) 4 <;> cases inB o.w 1 20 <;> rfl
  rw [e0]
  clear e0
  unfold ovq
  obtain ⟨b1, h1⟩ : ∃ b1, b1 = inB o.x (-4) 4 := ⟨_, rfl⟩
  obtain ⟨b2, h2⟩ : ∃ b1, b1 = inB o.y (-4) 4 := ⟨_, rfl⟩
  obtain ⟨b3, h3⟩ : ∃ b1, b1 = inB o.w 1 20 := ⟨_, rfl⟩
  have c1 : Hid (∀ w, Calls Try.prog 80 #[.int .i64 o.x, .int .i64 (-4), .int .i64 4] w fun e w' => e = .returned (.bool (inB o.x (-4) 4)) ∧ w' = w) := fun w => within_any _ _ _ w
  have c2 : Hid (∀ w, Calls Try.prog 80 #[.int .i64 o.y, .int .i64 (-4), .int .i64 4] w fun e w' => e = .returned (.bool (inB o.y (-4) 4)) ∧ w' = w) := fun w => within_any _ _ _ w
  have c3 : Hid (∀ w, Calls Try.prog 80 #[.int .i64 o.w, .int .i64 1, .int .i64 20] w fun e w' => e = .returned (.bool (inB o.w 1 20)) ∧ w' = w) := fun w => within_any _ _ _ w
  rw [← h1] at c1 ⊢
  rw [← h2] at c2 ⊢
  rw [← h3] at c3 ⊢
  clear h1 h2 h3
  rw [hk]
  clear hk
  go_enter Try.func109, Try.ntmps109
  go_wp2_with (go_at_call 80; first
    | (refine ((unhide c1) _).mono ?_; rintro e w' ⟨rfl, rfl⟩; clear c1)
    | (refine ((unhide c2) _).mono ?_; rintro e w' ⟨rfl, rfl⟩; clear c2)
    | (refine ((unhide c3) _).mono ?_; rintro e w' ⟨rfl, rfl⟩; clear c3))
  all_goals go_ret
  all_goals refine ⟨by first | rfl | simp_all, ?_⟩
  all_goals repeat (first | exact Below.refl _ _ | refine Below.alloc ?_ (Nat.le_refl _) _)
set_option maxHeartbeats 4000000 in
theorem callowed_free (o : Opn) (po : Option Addr) (pn pc : Nat) (w : World) (hk : o.kind = 2 ∨ o.kind = 5 ∨ o.kind = 6 ∨ o.kind = 8) :
    Calls Try.prog 109 #[ovq o (.slice po pn pc)] w fun e w' => e = .returned (.bool (okOp o)) ∧ Below w.heap.size w w' := by
  have e0 : okOp o = true := by
    unfold okOp okArgs
    rcases hk with e | e | e | e <;> rw [e] <;> rfl
  rw [e0]
  clear e0
  unfold ovq
  rcases hk with e | e | e | e <;> rw [e] <;> clear e
  all_goals
    go_enter Try.func109, Try.ntmps109
    go_wp2
    go_ret
    refine ⟨rfl, ?_⟩
    repeat (first | exact Below.refl _ _ | refine Below.alloc ?_ (Nat.le_refl _) _)
set_option maxHeartbeats 4000000 in
theorem callowed_odd (o : Opn) (po : Option Addr) (pn pc : Nat) (w : World) (hk : inB o.kind 1 8 = false) :
    Calls Try.prog 109 #[ovq o (.slice po pn pc)] w fun e w' => e = .returned (.bool (okOp o)) ∧ Below w.heap.size w w' := by
  have e0 : okOp o = false := by
    unfold okOp
    rw [hk]; rfl
  rw [e0]
  clear e0
  unfold ovq
  have hk' : ¬ (1 ≤ o.kind ∧ o.kind ≤ 8) := by
    unfold inB at hk
    intro h
    simp [h.1, h.2] at hk
  clear hk
  generalize o.kind = q at *
  have k1 : (q == 1) = false := by simp; omega
  have k2 : (q == 2) = false := by simp; omega
  have k3 : (q == 3) = false := by simp; omega
  have k4 : (q == 4) = false := by simp; omega
  have k5 : (q == 5) = false := by simp; omega
  have k6 : (q == 6) = false := by simp; omega
  have k7 : (q == 7) = false := by simp; omega
  have k8 : (q == 8) = false := by simp; omega
  clear hk'
  go_enter Try.func109, Try.ntmps109
  go_wp2
  go_ret
  refine ⟨rfl, ?_⟩
  repeat (first | exact Below.refl _ _ | refine Below.alloc ?_ (Nat.le_refl _) _)
set_option maxHeartbeats 4000000 in
theorem callowed_attach (U : Nat → Prop) (o : Opn) (po : Option Addr) (pc : Nat) (w : World) (hk : o.kind = 3) (hR : RdN U w (.slice po o.px.length pc) o.px) (hn : o.px.length ≤ 17592186043904) :
    Calls Try.prog 109 #[ovq o (.slice po o.px.length pc)] w fun e w' => e = .returned (.bool (okOp o)) ∧ Below w.heap.size w w' := by
  have e0 : okOp o = (inB o.w 1 8 && inB o.h 1 8 && decide ((o.px.length : Int) = o.w * o.h) && o.px.all (fun n => inB n 0 4294967295)) := by
    unfold okOp okArgs
    rw [hk, if_neg (by decide), if_pos rfl]
    rfl
  rw [e0]
  clear e0
  unfold ovq
  have hb := fun (h1 : inB o.w 1 8 = true) (h2 : inB o.h 1 8 = true) => (show 0 ≤ o.w * o.h ∧ o.w * o.h ≤ 64 from by
    unfold inB at h1 h2
    simp only [Bool.and_eq_true, decide_eq_true_eq] at h1 h2
    have := ocost_bd (o := o) (fun _ => ⟨h1, h2⟩)
    unfold ocost at this
    rwa [if_pos hk] at this)
  have c4 : Hid (∀ w', Below w.heap.size w w' → Calls Try.prog 130 #[.slice po o.px.length pc, .func (.func 131) #[] #[]] w' fun e w2 => e = .returned (.bool (!o.px.all (fun n => inB n 0 4294967295))) ∧ w2 = w') := fun w' h => containsN_any U _ _ w' (hR.below h) hn
  obtain ⟨b1, h1⟩ : ∃ b1, b1 = inB o.w 1 8 := ⟨_, rfl⟩
  obtain ⟨b2, h2⟩ : ∃ b1, b1 = inB o.h 1 8 := ⟨_, rfl⟩
  obtain ⟨b4, h4⟩ : ∃ b1, b1 = o.px.all (fun n => inB n 0 4294967295) := ⟨_, rfl⟩
  have c1 : Hid (∀ w, Calls Try.prog 80 #[.int .i64 o.w, .int .i64 1, .int .i64 8] w fun e w' => e = .returned (.bool (inB o.w 1 8)) ∧ w' = w) := fun w => within_any _ _ _ w
  have c2 : Hid (∀ w, Calls Try.prog 80 #[.int .i64 o.h, .int .i64 1, .int .i64 8] w fun e w' => e = .returned (.bool (inB o.h 1 8)) ∧ w' = w) := fun w => within_any _ _ _ w
  rw [← h1] at c1 hb ⊢
  rw [← h2] at c2 hb ⊢
  rw [← h4] at c4 ⊢
  clear h1 h2 h4 hR
  rw [hk]
  clear hk
  generalize o.px.length = n at *
  cases b1
  · clear hb c4 c2
    go_enter Try.func109, Try.ntmps109
    go_wp2_with (go_at_call 80; refine ((unhide c1) _).mono ?_; rintro e w' ⟨rfl, rfl⟩; clear c1)
    go_ret
    refine ⟨by first | rfl | simp_all, ?_⟩
    repeat (first | exact Below.refl _ _ | refine Below.alloc ?_ (Nat.le_refl _) _)
  cases b2
  · clear hb c4
    go_enter Try.func109, Try.ntmps109
    go_wp2_with (go_at_call 80; first
      | (refine ((unhide c1) _).mono ?_; rintro e w' ⟨rfl, rfl⟩; clear c1)
      | (refine ((unhide c2) _).mono ?_; rintro e w' ⟨rfl, rfl⟩; clear c2))
    go_ret
    refine ⟨by first | rfl | simp_all, ?_⟩
    repeat (first | exact Below.refl _ _ | refine Below.alloc ?_ (Nat.le_refl _) _)
  obtain ⟨hb1, hb2⟩ := hb rfl rfl
  clear hb
  have hm : IntKind.i64.wrap (o.w * o.h) = o.w * o.h := by rw [IntKind.wrap_i64]; omega
  by_cases he : (n : Int) = o.w * o.h
  · have hd : decide ((n : Int) = o.w * o.h) = true := by simp [he]
    have hq : ((n : Int) == o.w * o.h) = true := by simp [he]
    rw [hd]
    have HE := hide he
    clear hd he hb1 hb2
    go_enter Try.func109, Try.ntmps109
    go_wp2_with (first
      | (go_at_call 80; first
          | (refine ((unhide c1) _).mono ?_; rintro e w' ⟨rfl, rfl⟩; clear c1)
          | (refine ((unhide c2) _).mono ?_; rintro e w' ⟨rfl, rfl⟩; clear c2))
      | (go_at_call 130; refine ((unhide c4) _ (by repeat (first | exact Below.refl _ _ | refine Below.alloc ?_ (Nat.le_refl _) _))).mono ?_; rintro e w' ⟨rfl, rfl⟩; clear c4))
    all_goals go_ret
    all_goals refine ⟨by first | rfl | simp_all, ?_⟩
    all_goals repeat (first | exact Below.refl _ _ | refine Below.alloc ?_ (Nat.le_refl _) _)
  · have hd : decide ((n : Int) = o.w * o.h) = false := by simp [he]
    have hq : ((n : Int) == o.w * o.h) = false := by simpa using he
    rw [hd]
    clear hd he hb1 hb2 c4
    go_enter Try.func109, Try.ntmps109
    go_wp2_with (go_at_call 80; first
      | (refine ((unhide c1) _).mono ?_; rintro e w' ⟨rfl, rfl⟩; clear c1)
      | (refine ((unhide c2) _).mono ?_; rintro e w' ⟨rfl, rfl⟩; clear c2))
    all_goals go_ret
    all_goals refine ⟨by first | rfl | simp_all, ?_⟩
    all_goals repeat (first | exact Below.refl _ _ | refine Below.alloc ?_ (Nat.le_refl _) _)
/-- The program's look at an operation. -/
theorem callowed_any (U : Nat → Prop) (o : Opn) (po : Option Addr) (pc : Nat) (w : World) (hR : RdN U w (.slice po o.px.length pc) o.px) (hn : o.px.length ≤ 17592186043904) :
    Calls Try.prog 109 #[ovq o (.slice po o.px.length pc)] w fun e w' => e = .returned (.bool (okOp o)) ∧ Below w.heap.size w w' := by
  cases hk : inB o.kind 1 8
  · exact callowed_odd o po _ pc w hk
  · unfold inB at hk
    simp only [Bool.and_eq_true, decide_eq_true_eq] at hk
    by_cases h3 : o.kind = 3
    · exact callowed_attach U o po pc w h3 hR hn
    by_cases h7 : o.kind = 7
    · exact callowed_slide o po _ pc w h7
    by_cases h1 : o.kind = 1 ∨ o.kind = 4
    · exact callowed_move o po _ pc w h1
    · exact callowed_free o po _ pc w (by omega)
end Go.Proofs.Ytfnockbgkcgpkaa
set_option linter.all false
namespace Go.Proofs.Ytfnockbgkcgpkaa
open Go.RowKit Go.Proofs.Panes
set_option maxRecDepth 100000

theorem vstep_refused {x : List Bool} {o : Opn} (h : okOp o = false) : vstep x o = none := by
  unfold okOp at h
  have h8 : ¬ o.kind = 8 := fun e => by
    unfold okArgs at h
    rw [e] at h
    simp [inB] at h
  refine vstep_none h8 ?_
  cases hk : inB o.kind 1 7
  · rfl
  · have h18 : inB o.kind 1 8 = true := by
      unfold inB at hk ⊢
      simp only [Bool.and_eq_true, decide_eq_true_eq] at hk ⊢
      omega
    rw [h18, Bool.true_and] at h
    rw [h, Bool.and_false]
theorem vstep_far {x : List Bool} {o : Opn} (h8 : ¬ o.kind = 8) (h : inB o.surf 0 ((x.length : Int) - 1) = false) : vstep x o = none := by
  refine vstep_none h8 ?_
  rw [h]; simp
theorem vstep_taken {x : List Bool} {o : Opn} (h8 : ¬ o.kind = 8) (h : x.getD o.surf.toNat false = decide (o.kind = 1)) : vstep x o = none := by
  refine vstep_none h8 ?_
  rw [h]; simp
theorem vstep_done {x : List Bool} {o : Opn} (h8 : ¬ o.kind = 8) (hk : okOp o = true) (hs : inB o.surf 0 ((x.length : Int) - 1) = true) (h : x.getD o.surf.toNat false ≠ decide (o.kind = 1)) : vstep x o = some (x.set o.surf.toNat (decide (o.kind ≠ 2))) := by
  refine vstep_some h8 ?_
  unfold okOp at hk
  rw [Bool.and_eq_true] at hk
  have h17 : inB o.kind 1 7 = true := by
    have := hk.1
    unfold inB at this ⊢
    simp only [Bool.and_eq_true, decide_eq_true_eq] at this ⊢
    omega
  rw [h17, hs, hk.2]
  simpa using h
/-- The surfaces of a client, as they lie while a transaction is looked at. -/
structure AftI (w wr : World) (x : List Bool) : Prop where
  len : x.length = 4
  arr : wr.heap[w.heap.size]? = some (.cells (x.map Value.bool).toArray 124)
  res : wr.heap[w.heap.size + 1]? = some (.cells #[.bool false, .bool false, .bool false, .bool false] 124)
  bel : Below w.heap.size w wr
theorem AftI.below {w wr w2 : World} {x : List Bool} (h : AftI w wr x) (hb : Below wr.heap.size wr w2) : AftI w w2 x := by
  have h1 := lt_of_heap h.arr
  have h2 := lt_of_heap h.res
  exact ⟨h.len, (hb.block _ h1).trans h.arr, (hb.block _ h2).trans h.res, h.bel.trans (hb.mono h.bel.size)⟩
def bagg (x : List Bool) : Value := .agg (x.map Value.bool).toArray
/-- What after tells. -/
def Aft (will : List Bool) (n : Nat) (b : List Bool) (l : List Opn) (e : Ending) : Prop :=
  (∃ x : List Bool, x.length = 4 ∧ vall will l = some (x.take n) ∧ x.drop n = b.drop n ∧ e = .returned (.tuple #[bagg x, .bool true])) ∨ (vall will l = none ∧ e = .returned (.tuple #[.agg #[.bool false, .bool false, .bool false, .bool false], .bool false]))
theorem res_after (tmps : Array Value) (w : World) (g : Nat) (cs : Array Value) (hp : tmps.getD 6 undef = .pointer (some ⟨g, 0, none⟩)) (hg : w.heap[g]? = some (.cells cs 124)) (hs : cs.size = 4) : (results Try.f81 tmps).run Try.prog w = .ok (.tuple #[.agg cs, tmps.getD 7 undef]) w := by
  rw [results_cell_tmp rfl, hp]
  have h := run_loadVar_row (P := Try.prog) w g 124 124 cs (0, 0) _ hg Try.underlying124 rfl (by rw [hs]; rfl)
  simp [asAddr, h, Result.andThen]
theorem ne_two (q : Int) : (!(q == 2)) = decide (q ≠ 2) := by by_cases h : q = 2 <;> simp [h]
theorem AftI.zero {w w2 : World} {x : List Bool} (h : AftI w w2 x) (m : Nat) : (((((w2.drewN m).setCell ⟨w.heap.size + 1, 0, none⟩ (.bool false)).setCell ⟨w.heap.size + 1, 1, none⟩ (.bool false)).setCell ⟨w.heap.size + 1, 2, none⟩ (.bool false)).setCell ⟨w.heap.size + 1, 3, none⟩ (.bool false)).heap[w.heap.size + 1]? = some (.cells #[.bool false, .bool false, .bool false, .bool false] 124) := by
  simpa using blk_set (i := 3) (blk_set (i := 2) (blk_set (i := 1) (blk_set (i := 0) (h.below (below_drewN (Below.refl _ _) m)).res (.bool false)) (.bool false)) (.bool false)) (.bool false)
theorem AftI.zeroBel {w w2 : World} {x : List Bool} (h : AftI w w2 x) (m : Nat) : Below w.heap.size w (((((w2.drewN m).setCell ⟨w.heap.size + 1, 0, none⟩ (.bool false)).setCell ⟨w.heap.size + 1, 1, none⟩ (.bool false)).setCell ⟨w.heap.size + 1, 2, none⟩ (.bool false)).setCell ⟨w.heap.size + 1, 3, none⟩ (.bool false)) :=
  ((((h.below (below_drewN (Below.refl _ _) m)).bel.setCell (p := ⟨w.heap.size + 1, 0, none⟩) (Nat.le_succ _) _).setCell (p := ⟨w.heap.size + 1, 1, none⟩) (Nat.le_succ _) _).setCell (p := ⟨w.heap.size + 1, 2, none⟩) (Nat.le_succ _) _).setCell (p := ⟨w.heap.size + 1, 3, none⟩) (Nat.le_succ _) _
theorem AftI.put {w w2 : World} {x : List Bool} (h : AftI w w2 x) (m j : Nat) (b : Bool) : AftI w ((w2.drewN m).setCell ⟨w.heap.size, j, none⟩ (.bool b)) (x.set j b) := by
  have h' := h.below (below_drewN (Below.refl _ _) m)
  refine ⟨by rw [List.length_set]; exact h'.len, ?_, blk_other h'.res (by simp) _, h'.bel.setCell (p := ⟨w.heap.size, j, none⟩) (Nat.le_refl _) _⟩
  have hst := blk_set (i := j) h'.arr (.bool b)
  rw [List.map_set]
  simpa using hst
set_option maxHeartbeats 4000000 in
theorem after_any (U : Nat → Prop) (v : Value) (l : List Opn) (b0 b1 b2 b3 : Bool) (n : Nat) (hn : 1 ≤ n ∧ n ≤ 4) (w : World) (hR : RdO U w v l) (hl : l.length ≤ 1759218604390) (hpx : ∀ o ∈ l, o.px.length ≤ 17592186043904) :
    Calls Try.prog 81 #[.agg #[.bool b0, .bool b1, .bool b2, .bool b3], v, .int .i64 (n : Int)] w fun e w' => Aft ([b0, b1, b2, b3].take n) n [b0, b1, b2, b3] l e ∧ Below w.heap.size w w' := by
  obtain ⟨ao, cap, rfl, h1, h2, h3⟩ := id hR
  have HR := hide hR
  have HPx := hide hpx
  clear hR hpx h3
  go_enter Try.func81, Try.ntmps81
  go_wp2
  go_loopw [12] (fun i wr => ∃ (k : Nat) (x : List Bool), k ≤ l.length ∧ i = .int .i64 k ∧ vall ([b0, b1, b2, b3].take n) (l.take k) = some (x.take n) ∧ x.drop n = [b0, b1, b2, b3].drop n ∧ AftI w wr x) (fun i _ => l.length - (intOf i).toNat)
  case atStart =>
    refine ⟨0, [b0, b1, b2, b3], Nat.zero_le _, rfl, rfl, rfl, ⟨rfl, ?_, ?_, ?_⟩⟩
    · exact heap_alloc2_old _ _ _
    · exact heap_alloc2_new _ _ _
    · exact ((Below.refl _ w).alloc (Nat.le_refl _) _).alloc (by show w.heap.size ≤ (w.heap.push _).size; rw [Array.size_push]; omega) _
  case round =>
    rename World => wq
    obtain ⟨k, x, hk, rfl, hv, hd, hI⟩ := hrel
    by_cases hlt : k < l.length
    · obtain ⟨o, ho⟩ : ∃ o, l[k]? = some o := ⟨l[k], by simp [hlt]⟩
      obtain ⟨ao', cap', e, _, _, h3⟩ := (unhide HR).below hI.bel
      simp only [Value.slice.injEq, true_and] at e
      obtain ⟨rfl, rfl⟩ := e
      obtain ⟨b, off, rfl, _, _, hc⟩ := h3 (by intro e; rw [e] at hlt; simp at hlt)
      obtain ⟨c0, c1, c2, c3, c4, c5, ⟨pv, c6, hpv⟩, c7⟩ := hc k o ho
      have hpv' := hpv
      obtain ⟨po, pc, epv, _⟩ := hpv
      rw [epv] at c6
      have hpl := (unhide HPx) o (List.mem_of_getElem? ho)
      have CA : Hid (∀ w', Below wq.heap.size wq w' → Calls Try.prog 109 #[ovq o (.slice po o.px.length pc)] w' fun e w2 => e = .returned (.bool (okOp o)) ∧ Below w'.heap.size w' w2) := fun w' hb => callowed_any U o po pc w' (epv ▸ hpv'.below hb) hpl
      unfold ovq at CA
      have HV := hide hv
      have HD := hide hd
      have HI := hide hI
      have HO := hide ho
      clear hpv' epv hpl hv hd hI ho h3 hc
      cases hok : okOp o
      · rw [hok] at CA
        go_wp2_with fail
        refine ((unhide CA) _ ((Below.refl _ _).alloc (Nat.le_refl _) _)).mono ?_
        rintro e w2 ⟨rfl, hb2⟩
        have hI2 := ((unhide HI).below ((Below.refl _ wq).alloc (Nat.le_refl _) _)).below hb2
        have r0 : w2.cell? ⟨w.heap.size + 1, 0, none⟩ = some (.bool false) := blk_cell hI2.res 0
        have r1 : w2.cell? ⟨w.heap.size + 1, 1, none⟩ = some (.bool false) := blk_cell hI2.res 1
        have r2 : w2.cell? ⟨w.heap.size + 1, 2, none⟩ = some (.bool false) := blk_cell hI2.res 2
        have r3 : w2.cell? ⟨w.heap.size + 1, 3, none⟩ = some (.bool false) := blk_cell hI2.res 3
        have rz : ∀ t, w2.frozen? ⟨w.heap.size + 1, t, none⟩ = false := blk_thaw hI2.res
        have HI2 := hide hI2
        have HB2 := hide hb2
        have HOK := hide hok
        clear CA hI2 hb2 hok
        go_wp2
        (try simp only [Exit.inBlock, Exit.then])
        refine bodyPost_ret (res_after _ _ (w.heap.size + 1) #[.bool false, .bool false, .bool false, .bool false] rfl ?_ rfl) rfl ⟨.inr ⟨vall_fail (unhide HV) (unhide HO) (vstep_refused (unhide HOK)), rfl⟩, ?_⟩
        · simpa using blk_set (i := 3) (blk_set (i := 2) (blk_set (i := 1) (blk_set (i := 0) (unhide HI2).res (.bool false)) (.bool false)) (.bool false)) (.bool false)
        · exact ((((unhide HI2).bel.setCell (p := ⟨w.heap.size + 1, 0, none⟩) (Nat.le_succ _) _).setCell (p := ⟨w.heap.size + 1, 1, none⟩) (Nat.le_succ _) _).setCell (p := ⟨w.heap.size + 1, 2, none⟩) (Nat.le_succ _) _).setCell (p := ⟨w.heap.size + 1, 3, none⟩) (Nat.le_succ _) _
      · rw [hok] at CA
        go_wp2_with fail
        refine ((unhide CA) _ ((Below.refl _ _).alloc (Nat.le_refl _) _)).mono ?_
        rintro e w2 ⟨rfl, hb2⟩
        have hI2 := ((unhide HI).below ((Below.refl _ wq).alloc (Nat.le_refl _) _)).below hb2
        have hx2 : w2.heap[wq.heap.size]? = some (.cells #[.int .i64 o.kind, .int .i64 o.surf, .int .i64 o.x, .int .i64 o.y, .int .i64 o.w, .int .i64 o.h, .slice po o.px.length pc, .int .i64 o.mark] 72) := (hb2.block _ (by show _ < (wq.heap.push _).size; rw [Array.size_push]; omega)).trans (new_at _ _ _ rfl)
        have d0 : w2.cell? ⟨wq.heap.size, 0, none⟩ = some (.int .i64 o.kind) := blk_cell hx2 0
        have d1 : w2.cell? ⟨wq.heap.size, 1, none⟩ = some (.int .i64 o.surf) := blk_cell hx2 1
        have hxl : ((x.take n).length : Int) = (n : Int) := by have := hI2.len; rw [List.length_take]; omega
        have HXL := hide hxl
        have HI2 := hide hI2
        have HOK := hide hok
        have r0 : w2.cell? ⟨w.heap.size + 1, 0, none⟩ = some (.bool false) := blk_cell hI2.res 0
        have r1 : w2.cell? ⟨w.heap.size + 1, 1, none⟩ = some (.bool false) := blk_cell hI2.res 1
        have r2 : w2.cell? ⟨w.heap.size + 1, 2, none⟩ = some (.bool false) := blk_cell hI2.res 2
        have r3 : w2.cell? ⟨w.heap.size + 1, 3, none⟩ = some (.bool false) := blk_cell hI2.res 3
        have rz : ∀ t, w2.frozen? ⟨w.heap.size + 1, t, none⟩ = false := blk_thaw hI2.res
        clear CA hok hx2 hb2 hI2 hxl
        by_cases h8 : o.kind = 8
        · have q8 : (o.kind == 8) = true := by simp [h8]
          have H8 := hide h8
          clear h8 r0 r1 r2 r3 rz
          go_wp2
          go_roundw
          case rel => exact ⟨k + 1, x, by omega, by go_num, by rw [vall_succ (unhide HV) (unhide HO)]; unfold vstep; rw [if_pos (unhide H8)], unhide HD, unhide HI2⟩
          case measure => simp [intOf]; omega
        · have q8 : (o.kind == 8) = false := by simpa using h8
          have H8 := hide h8
          clear h8
          have hw : IntKind.i64.wrap ((n : Int) - 1) = (n : Int) - 1 := by rw [IntKind.wrap_i64]; omega
          have CW : Hid (∀ w, Calls Try.prog 80 #[.int .i64 o.surf, .int .i64 0, .int .i64 ((n : Int) - 1)] w fun e w' => e = .returned (.bool (inB o.surf 0 ((n : Int) - 1))) ∧ w' = w) := fun w => within_any _ _ _ w
          cases hs : inB o.surf 0 ((n : Int) - 1)
          · rw [hs] at CW
            have HS := hide hs
            clear hs
            go_wp2_with fail
            go_quiet ((go_at_call 80; exact Calls.quiet_of_same ((unhide CW) _)))
            clear CW
            go_wp2
            (try simp only [Exit.inBlock, Exit.then])
            refine bodyPost_ret (res_after _ _ (w.heap.size + 1) #[.bool false, .bool false, .bool false, .bool false] rfl ?_ rfl) rfl ⟨.inr ⟨vall_fail (unhide HV) (unhide HO) (vstep_far (unhide H8) (by rw [unhide HXL]; exact unhide HS)), rfl⟩, ?_⟩
            · exact (unhide HI2).zero _
            · exact (unhide HI2).zeroBel _
          · rw [hs] at CW
            have HS := hide hs
            obtain ⟨j, hj, hjn⟩ : ∃ j : Nat, o.surf = (j : Int) ∧ j < n := by
              unfold inB at hs
              simp only [Bool.and_eq_true, decide_eq_true_eq] at hs
              exact ⟨o.surf.toNat, by omega, by omega⟩
            rw [hj] at d1 CW
            have HJ := hide hj
            clear hs hj
            have hxl4 := (unhide HI2).len
            obtain ⟨y, hy⟩ : ∃ y, x[j]? = some y := ⟨x[j]'(by omega), by simp⟩
            have aj : w2.cell? ⟨w.heap.size, j, none⟩ = some (.bool y) := by rw [blk_cell (unhide HI2).arr j]; simp [hy]
            have az : ∀ t, w2.frozen? ⟨w.heap.size, t, none⟩ = false := blk_thaw (unhide HI2).arr
            have i0 : (0 : Int) ≤ (j : Int) := by omega
            have i1 : (j : Int) < 4 := by omega
            obtain ⟨bk, hbk⟩ : ∃ bk, (o.kind == 1) = bk := ⟨_, rfl⟩
            have hgd : (x.take n).getD o.surf.toNat false = y := by
              rw [unhide HJ, Int.toNat_natCast, List.getD_eq_getElem?_getD, List.getElem?_take_of_lt hjn, hy]; rfl
            have HG := hide hgd
            have HY := hide hy
            have hdk : decide (o.kind = 1) = bk := by rw [← hbk]; rfl
            have HDK := hide hdk
            clear hgd hy hdk hxl4
            cases y <;> cases bk
            · go_wp2_with fail
              go_quiet ((go_at_call 80; exact Calls.quiet_of_same ((unhide CW) _)))
              clear CW
              go_wp2
              (try simp only [Exit.inBlock, Exit.then])
              refine bodyPost_ret (res_after _ _ (w.heap.size + 1) #[.bool false, .bool false, .bool false, .bool false] rfl ?_ rfl) rfl ⟨.inr ⟨vall_fail (unhide HV) (unhide HO) (vstep_taken (unhide H8) ((unhide HG).trans (unhide HDK).symm)), rfl⟩, ?_⟩
              · exact (unhide HI2).zero _
              · exact (unhide HI2).zeroBel _
            · go_wp2_with fail
              go_quiet ((go_at_call 80; exact Calls.quiet_of_same ((unhide CW) _)))
              clear CW
              go_wp2
              go_roundw
              case rel =>
                refine ⟨k + 1, x.set j (decide (o.kind ≠ 2)), by omega, by go_num, ?_, ?_, ?_⟩
                · rw [vall_succ (unhide HV) (unhide HO), vstep_done (unhide H8) (unhide HOK) (by rw [unhide HXL]; exact unhide HS) (by rw [unhide HG, unhide HDK]; decide), unhide HJ, Int.toNat_natCast, List.take_set]
                · rw [List.drop_set_of_lt hjn]; exact unhide HD
                · first | exact (unhide HI2).put _ j _ | (rw [← ne_two]; exact (unhide HI2).put _ j _)
              case measure => simp [intOf]; omega
            · go_wp2_with fail
              go_quiet ((go_at_call 80; exact Calls.quiet_of_same ((unhide CW) _)))
              clear CW
              go_wp2
              go_roundw
              case rel =>
                refine ⟨k + 1, x.set j (decide (o.kind ≠ 2)), by omega, by go_num, ?_, ?_, ?_⟩
                · rw [vall_succ (unhide HV) (unhide HO), vstep_done (unhide H8) (unhide HOK) (by rw [unhide HXL]; exact unhide HS) (by rw [unhide HG, unhide HDK]; decide), unhide HJ, Int.toNat_natCast, List.take_set]
                · rw [List.drop_set_of_lt hjn]; exact unhide HD
                · first | exact (unhide HI2).put _ j _ | (rw [← ne_two]; exact (unhide HI2).put _ j _)
              case measure => simp [intOf]; omega
            · go_wp2_with fail
              go_quiet ((go_at_call 80; exact Calls.quiet_of_same ((unhide CW) _)))
              clear CW
              go_wp2
              (try simp only [Exit.inBlock, Exit.then])
              refine bodyPost_ret (res_after _ _ (w.heap.size + 1) #[.bool false, .bool false, .bool false, .bool false] rfl ?_ rfl) rfl ⟨.inr ⟨vall_fail (unhide HV) (unhide HO) (vstep_taken (unhide H8) ((unhide HG).trans (unhide HDK).symm)), rfl⟩, ?_⟩
              · exact (unhide HI2).zero _
              · exact (unhide HI2).zeroBel _
    · obtain rfl : k = l.length := by omega
      rw [List.take_length] at hv
      obtain ⟨x0, x1, x2, x3, rfl⟩ : ∃ x0 x1 x2 x3, x = [x0, x1, x2, x3] := by
        have := hI.len
        match x, this with
        | [x0, x1, x2, x3], _ => exact ⟨x0, x1, x2, x3, rfl⟩
      have a0 : wq.cell? ⟨w.heap.size, 0, none⟩ = some (.bool x0) := blk_cell hI.arr 0
      have a1 : wq.cell? ⟨w.heap.size, 1, none⟩ = some (.bool x1) := blk_cell hI.arr 1
      have a2 : wq.cell? ⟨w.heap.size, 2, none⟩ = some (.bool x2) := blk_cell hI.arr 2
      have a3 : wq.cell? ⟨w.heap.size, 3, none⟩ = some (.bool x3) := blk_cell hI.arr 3
      have r0 : wq.cell? ⟨w.heap.size + 1, 0, none⟩ = some (.bool false) := blk_cell hI.res 0
      have r1 : wq.cell? ⟨w.heap.size + 1, 1, none⟩ = some (.bool false) := blk_cell hI.res 1
      have r2 : wq.cell? ⟨w.heap.size + 1, 2, none⟩ = some (.bool false) := blk_cell hI.res 2
      have r3 : wq.cell? ⟨w.heap.size + 1, 3, none⟩ = some (.bool false) := blk_cell hI.res 3
      have rz : ∀ t, wq.frozen? ⟨w.heap.size + 1, t, none⟩ = false := blk_thaw hI.res
      have HV := hide hv
      have HD := hide hd
      have HI := hide hI
      clear hv hd hI
      go_wp2
      (try simp only [Exit.inBlock, Exit.then])
      refine bodyPost_ret (res_after _ _ (w.heap.size + 1) #[.bool x0, .bool x1, .bool x2, .bool x3] rfl ?_ rfl) rfl ⟨.inl ⟨[x0, x1, x2, x3], rfl, unhide HV, unhide HD, rfl⟩, ?_⟩
      · simpa using blk_set (i := 3) (blk_set (i := 2) (blk_set (i := 1) (blk_set (i := 0) (unhide HI).res (.bool x0)) (.bool x1)) (.bool x2)) (.bool x3)
      · exact ((((unhide HI).bel.setCell (p := ⟨w.heap.size + 1, 0, none⟩) (Nat.le_succ _) _).setCell (p := ⟨w.heap.size + 1, 1, none⟩) (Nat.le_succ _) _).setCell (p := ⟨w.heap.size + 1, 2, none⟩) (Nat.le_succ _) _).setCell (p := ⟨w.heap.size + 1, 3, none⟩) (Nat.le_succ _) _
end Go.Proofs.Ytfnockbgkcgpkaa
