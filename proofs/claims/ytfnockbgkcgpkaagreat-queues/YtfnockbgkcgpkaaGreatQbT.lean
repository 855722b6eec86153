import Derived.Test.YtfnockbgkcgpkaaGreatQbS
import Derived.BigRegion
import Derived.BigQuiet
import Derived.Deep.QuietTactic
set_option linter.all false
namespace Go.Proofs.YtfnockbgkcgpkaaGreat
open Go.RowKit Go.Proofs.Panes
set_option maxRecDepth 100000

/-- An operation may be, whatever surface it is for. -/
def okOp (o : Opn) : Bool := inB o.kind 1 8 && okArgs o

set_option maxHeartbeats 4000000 in
theorem callowed_move (o : Opn) (po : Option Addr) (pn pc : Nat) (w : World) (hk : o.kind = 1 ∨ o.kind = 4) :
    Calls Tryz.prog 125 #[oval o (.slice po pn pc)] w fun e w' => e = .returned (.bool (okOp o)) ∧ Below w.heap.size w w' := by
  have e0 : okOp o = (inB o.x (-100) 100 && inB o.y (-100) 100) := by
    unfold okOp okArgs
    rw [if_pos hk]
    rcases hk with e | e <;> rw [e] <;> rfl
  rw [e0]
  clear e0
  unfold oval
  obtain ⟨b1, h1⟩ : ∃ b1, b1 = inB o.x (-100) 100 := ⟨_, rfl⟩
  obtain ⟨b2, h2⟩ : ∃ b1, b1 = inB o.y (-100) 100 := ⟨_, rfl⟩
  have c1 : Hid (∀ w, Calls Tryz.prog 75 #[.int .i64 o.x, .int .i64 (-100), .int .i64 100] w fun e w' => e = .returned (.bool (inB o.x (-100) 100)) ∧ w' = w) := fun w => within_any _ _ _ w
  have c2 : Hid (∀ w, Calls Tryz.prog 75 #[.int .i64 o.y, .int .i64 (-100), .int .i64 100] w fun e w' => e = .returned (.bool (inB o.y (-100) 100)) ∧ w' = w) := fun w => within_any _ _ _ w
  rw [← h1] at c1 ⊢
  rw [← h2] at c2 ⊢
  clear h1 h2
  rcases hk with e | e <;> rw [e] <;> clear e
  all_goals
    go_enter Tryz.func125, Tryz.ntmps125
    go_wp2_with (go_at_call 75; first
      | (refine ((unhide c1) _).mono ?_; rintro e w' ⟨rfl, rfl⟩; clear c1)
      | (refine ((unhide c2) _).mono ?_; rintro e w' ⟨rfl, rfl⟩; clear c2))
    all_goals go_ret
    all_goals refine ⟨by first | rfl | simp_all, ?_⟩
    all_goals repeat (first | exact Below.refl _ _ | refine Below.alloc ?_ (Nat.le_refl _) _)

set_option maxHeartbeats 4000000 in
theorem callowed_slide (o : Opn) (po : Option Addr) (pn pc : Nat) (w : World) (hk : o.kind = 7) :
    Calls Tryz.prog 125 #[oval o (.slice po pn pc)] w fun e w' => e = .returned (.bool (okOp o)) ∧ Below w.heap.size w w' := by
  have e0 : okOp o = (inB o.x (-4) 4 && inB o.y (-4) 4 && inB o.w 1 20) := by
    unfold okOp okArgs
    rw [hk, if_neg (by decide), if_neg (by decide), if_pos rfl]
    cases inB o.x (-4) 4 <;> cases inB o.y (-4) 4 <;> cases inB o.w 1 20 <;> rfl
  rw [e0]
  clear e0
  unfold oval
  obtain ⟨b1, h1⟩ : ∃ b1, b1 = inB o.x (-4) 4 := ⟨_, rfl⟩
  obtain ⟨b2, h2⟩ : ∃ b1, b1 = inB o.y (-4) 4 := ⟨_, rfl⟩
  obtain ⟨b3, h3⟩ : ∃ b1, b1 = inB o.w 1 20 := ⟨_, rfl⟩
  have c1 : Hid (∀ w, Calls Tryz.prog 75 #[.int .i64 o.x, .int .i64 (-4), .int .i64 4] w fun e w' => e = .returned (.bool (inB o.x (-4) 4)) ∧ w' = w) := fun w => within_any _ _ _ w
  have c2 : Hid (∀ w, Calls Tryz.prog 75 #[.int .i64 o.y, .int .i64 (-4), .int .i64 4] w fun e w' => e = .returned (.bool (inB o.y (-4) 4)) ∧ w' = w) := fun w => within_any _ _ _ w
  have c3 : Hid (∀ w, Calls Tryz.prog 75 #[.int .i64 o.w, .int .i64 1, .int .i64 20] w fun e w' => e = .returned (.bool (inB o.w 1 20)) ∧ w' = w) := fun w => within_any _ _ _ w
  rw [← h1] at c1 ⊢
  rw [← h2] at c2 ⊢
  rw [← h3] at c3 ⊢
  clear h1 h2 h3
  rw [hk]
  clear hk
  go_enter Tryz.func125, Tryz.ntmps125
  go_wp2_with (go_at_call 75; first
    | (refine ((unhide c1) _).mono ?_; rintro e w' ⟨rfl, rfl⟩; clear c1)
    | (refine ((unhide c2) _).mono ?_; rintro e w' ⟨rfl, rfl⟩; clear c2)
    | (refine ((unhide c3) _).mono ?_; rintro e w' ⟨rfl, rfl⟩; clear c3))
  all_goals go_ret
  all_goals refine ⟨by first | rfl | simp_all, ?_⟩
  all_goals repeat (first | exact Below.refl _ _ | refine Below.alloc ?_ (Nat.le_refl _) _)

set_option maxHeartbeats 4000000 in
theorem callowed_free (o : Opn) (po : Option Addr) (pn pc : Nat) (w : World) (hk : o.kind = 2 ∨ o.kind = 5 ∨ o.kind = 6 ∨ o.kind = 8) :
    Calls Tryz.prog 125 #[oval o (.slice po pn pc)] w fun e w' => e = .returned (.bool (okOp o)) ∧ Below w.heap.size w w' := by
  have e0 : okOp o = true := by
    unfold okOp okArgs
    rcases hk with e | e | e | e <;> rw [e] <;> rfl
  rw [e0]
  clear e0
  unfold oval
  rcases hk with e | e | e | e <;> rw [e] <;> clear e
  all_goals
    go_enter Tryz.func125, Tryz.ntmps125
    go_wp2
    go_ret
    refine ⟨rfl, ?_⟩
    repeat (first | exact Below.refl _ _ | refine Below.alloc ?_ (Nat.le_refl _) _)

set_option maxHeartbeats 4000000 in
theorem callowed_odd (o : Opn) (po : Option Addr) (pn pc : Nat) (w : World) (hk : inB o.kind 1 8 = false) :
    Calls Tryz.prog 125 #[oval o (.slice po pn pc)] w fun e w' => e = .returned (.bool (okOp o)) ∧ Below w.heap.size w w' := by
  have e0 : okOp o = false := by
    unfold okOp
    rw [hk]; rfl
  rw [e0]
  clear e0
  unfold oval
  have hk' : ¬ (1 ≤ o.kind ∧ o.kind ≤ 8) := by
    unfold inB at hk
    intro h
    simp [h.1, h.2] at hk
  clear hk
  generalize o.kind = q at *
  have k1 : (q == 1) = false := by simp; omega
  have k2 : (q == 2) = false := by simp; omega
  have k3 : (q == 3) = false := by simp; omega
  have k4 : (q == 4) = false := by simp; omega
  have k5 : (q == 5) = false := by simp; omega
  have k6 : (q == 6) = false := by simp; omega
  have k7 : (q == 7) = false := by simp; omega
  have k8 : (q == 8) = false := by simp; omega
  clear hk'
  go_enter Tryz.func125, Tryz.ntmps125
  go_wp2
  go_ret
  refine ⟨rfl, ?_⟩
  repeat (first | exact Below.refl _ _ | refine Below.alloc ?_ (Nat.le_refl _) _)
set_option maxHeartbeats 4000000 in
theorem callowed_attach (U : Nat → Prop) (o : Opn) (po : Option Addr) (pc : Nat) (w : World) (hk : o.kind = 3) (hR : RdN U w (.slice po o.px.length pc) o.px) (hn : o.px.length ≤ 17592186043904) :
    Calls Tryz.prog 125 #[oval o (.slice po o.px.length pc)] w fun e w' => e = .returned (.bool (okOp o)) ∧ Below w.heap.size w w' := by
  have e0 : okOp o = (inB o.w 1 8 && inB o.h 1 8 && decide ((o.px.length : Int) = o.w * o.h) && o.px.all (fun n => inB n 0 4294967295)) := by
    unfold okOp okArgs
    rw [hk, if_neg (by decide), if_pos rfl]
    rfl
  rw [e0]
  clear e0
  unfold oval
  have hb := fun (h1 : inB o.w 1 8 = true) (h2 : inB o.h 1 8 = true) => (show 0 ≤ o.w * o.h ∧ o.w * o.h ≤ 64 from by
    unfold inB at h1 h2
    simp only [Bool.and_eq_true, decide_eq_true_eq] at h1 h2
    have := ocost_bd (o := o) (fun _ => ⟨h1, h2⟩)
    unfold ocost at this
    rwa [if_pos hk] at this)
  have c4 : Hid (∀ w', Below w.heap.size w w' → Calls Tryz.prog 144 #[.slice po o.px.length pc, .func (.func 145) #[] #[]] w' fun e w2 => e = .returned (.bool (!o.px.all (fun n => inB n 0 4294967295))) ∧ w2 = w') := fun w' h => containsN_any U _ _ w' (hR.below h) hn
  obtain ⟨b1, h1⟩ : ∃ b1, b1 = inB o.w 1 8 := ⟨_, rfl⟩
  obtain ⟨b2, h2⟩ : ∃ b1, b1 = inB o.h 1 8 := ⟨_, rfl⟩
  obtain ⟨b4, h4⟩ : ∃ b1, b1 = o.px.all (fun n => inB n 0 4294967295) := ⟨_, rfl⟩
  have c1 : Hid (∀ w, Calls Tryz.prog 75 #[.int .i64 o.w, .int .i64 1, .int .i64 8] w fun e w' => e = .returned (.bool (inB o.w 1 8)) ∧ w' = w) := fun w => within_any _ _ _ w
  have c2 : Hid (∀ w, Calls Tryz.prog 75 #[.int .i64 o.h, .int .i64 1, .int .i64 8] w fun e w' => e = .returned (.bool (inB o.h 1 8)) ∧ w' = w) := fun w => within_any _ _ _ w
  rw [← h1] at c1 hb ⊢
  rw [← h2] at c2 hb ⊢
  rw [← h4] at c4 ⊢
  clear h1 h2 h4 hR
  rw [hk]
  clear hk
  generalize o.px.length = n at *
  cases b1
  · clear hb c4 c2
    go_enter Tryz.func125, Tryz.ntmps125
    go_wp2_with (go_at_call 75; refine ((unhide c1) _).mono ?_; rintro e w' ⟨rfl, rfl⟩; clear c1)
    go_ret
    refine ⟨by first | rfl | simp_all, ?_⟩
    repeat (first | exact Below.refl _ _ | refine Below.alloc ?_ (Nat.le_refl _) _)
  cases b2
  · clear hb c4
    go_enter Tryz.func125, Tryz.ntmps125
    go_wp2_with (go_at_call 75; first
      | (refine ((unhide c1) _).mono ?_; rintro e w' ⟨rfl, rfl⟩; clear c1)
      | (refine ((unhide c2) _).mono ?_; rintro e w' ⟨rfl, rfl⟩; clear c2))
    go_ret
    refine ⟨by first | rfl | simp_all, ?_⟩
    repeat (first | exact Below.refl _ _ | refine Below.alloc ?_ (Nat.le_refl _) _)
  obtain ⟨hb1, hb2⟩ := hb rfl rfl
  clear hb
  have hm : IntKind.i64.wrap (o.w * o.h) = o.w * o.h := by rw [IntKind.wrap_i64]; omega
  by_cases he : (n : Int) = o.w * o.h
  · have hd : decide ((n : Int) = o.w * o.h) = true := by simp [he]
    have hq : ((n : Int) == o.w * o.h) = true := by simp [he]
    rw [hd]
    have HE := hide he
    clear hd he hb1 hb2
    go_enter Tryz.func125, Tryz.ntmps125
    go_wp2_with (first
      | (go_at_call 75; first
          | (refine ((unhide c1) _).mono ?_; rintro e w' ⟨rfl, rfl⟩; clear c1)
          | (refine ((unhide c2) _).mono ?_; rintro e w' ⟨rfl, rfl⟩; clear c2))
      | (go_at_call 144; refine ((unhide c4) _ (by repeat (first | exact Below.refl _ _ | refine Below.alloc ?_ (Nat.le_refl _) _))).mono ?_; rintro e w' ⟨rfl, rfl⟩; clear c4))
    all_goals go_ret
    all_goals refine ⟨by first | rfl | simp_all, ?_⟩
    all_goals repeat (first | exact Below.refl _ _ | refine Below.alloc ?_ (Nat.le_refl _) _)
  · have hd : decide ((n : Int) = o.w * o.h) = false := by simp [he]
    have hq : ((n : Int) == o.w * o.h) = false := by simpa using he
    rw [hd]
    clear hd he hb1 hb2 c4
    go_enter Tryz.func125, Tryz.ntmps125
    go_wp2_with (go_at_call 75; first
      | (refine ((unhide c1) _).mono ?_; rintro e w' ⟨rfl, rfl⟩; clear c1)
      | (refine ((unhide c2) _).mono ?_; rintro e w' ⟨rfl, rfl⟩; clear c2))
    all_goals go_ret
    all_goals refine ⟨by first | rfl | simp_all, ?_⟩
    all_goals repeat (first | exact Below.refl _ _ | refine Below.alloc ?_ (Nat.le_refl _) _)

/-- The program's look at an operation. -/
theorem callowed_any (U : Nat → Prop) (o : Opn) (po : Option Addr) (pc : Nat) (w : World) (hR : RdN U w (.slice po o.px.length pc) o.px) (hn : o.px.length ≤ 17592186043904) :
    Calls Tryz.prog 125 #[oval o (.slice po o.px.length pc)] w fun e w' => e = .returned (.bool (okOp o)) ∧ Below w.heap.size w w' := by
  cases hk : inB o.kind 1 8
  · exact callowed_odd o po _ pc w hk
  · unfold inB at hk
    simp only [Bool.and_eq_true, decide_eq_true_eq] at hk
    by_cases h3 : o.kind = 3
    · exact callowed_attach U o po pc w h3 hR hn
    by_cases h7 : o.kind = 7
    · exact callowed_slide o po _ pc w h7
    by_cases h1 : o.kind = 1 ∨ o.kind = 4
    · exact callowed_move o po _ pc w h1
    · exact callowed_free o po _ pc w (by omega)
end Go.Proofs.YtfnockbgkcgpkaaGreat
