import Derived.Test.YtfnockbgkcgpkaaWalksN
import Derived.Test.YtfnockbgkcgpkaaWalksI
import Derived.Test.YtfnockbgkcgpkaaWalksJ
import Derived.Test.YtfnockbgkcgpkaaWalksD
import Derived.Test.YtfnockbgkcgpkaaWalksG
import Derived.Test.YtfnockbgkcgpkaaSorted
set_option linter.all false
namespace Go.Proofs.Ytfnockbgkcgpkaa
open Go.RowKit Go.Proofs.Panes
set_option maxRecDepth 100000

theorem said_sort : SaidSort := fun base v l w h hn => sort_any base v l w h hn
theorem said_join : SaidJoin := fun y h base v l w hO hB hn => join_any said_sort y h base v l w hO hB hn
def opU (p q : Prop) : Prop := p ∨ q
def opI (p q : Prop) : Prop := p ∧ q
def opS (p q : Prop) : Prop := p ∧ ¬ q
theorem said_either : SaidMix 74 opU := fun y h ba bb va vb a b w ha hb sa sb _ _ => either_any said_join y h ba bb va vb a b w ha hb sa sb
theorem said_both : SaidMix 75 opI := fun y h _ _ va vb a b w ha hb sa sb hh hy => both_any y h va vb a b w ha.rd hb.rd sa sb hh hy
theorem said_without : SaidMix 76 opS := fun y h _ _ va vb a b w ha hb sa sb _ _ => without_any y h va vb a b w ha.rd hb.rd sa sb

/-- What a call of rectangles leaves. -/
structure Res (w w' : World) (v : Value) (R : List Rc) (C : Int → Int → Prop) : Prop where
  own : Own w' w.heap.size v R
  right : Right R
  cov : ∀ px py, covL R px py ↔ C px py
  inb : ∀ r ∈ R, -1000 ≤ r.x ∧ r.x + r.w ≤ 2000 ∧ -1000 ≤ r.y ∧ r.y + r.h ≤ 2000
  len : R.length ≤ 20000000
  below : Below w.heap.size w w'

def SaidHow (f : Nat) (op : Prop → Prop → Prop) : Prop := ∀ (va vb : Value) (a b : List Rc) (w : World) (_ : Rd w va a) (_ : Rd w vb b) (_ : a.length ≤ 1000) (_ : b.length ≤ 1000) (_ : ∀ r ∈ a, May r) (_ : ∀ r ∈ b, May r),
    Calls Try.prog f #[va, vb] w fun e w' => ∃ v' R, e = .returned v' ∧ Res w w' v' R (fun px py => op (covL a px py) (covL b px py))

set_option maxHeartbeats 1000000 in
theorem how_union : SaidHow 41 opU := by
  intro va vb a b w hA hB na nb ma mb
  have H := hide (combine_any said_join 74 opU (enters_of Try.func74 (by kernel_rfl) rfl) said_either (by simp [opU]) va vb a b w hA hB na nb ma mb)
  clear hA hB na nb ma mb
  go_enter Try.func41, Try.ntmps41
  go_wp2_with fail
  refine (unhide H).mono ?_
  rintro e w' ⟨v', R, rfl, h1, h2, h3, h4, h5, h6⟩
  have HR := hide (⟨h1, h2, h3, h4, h5, h6⟩ : Res w w' v' R _)
  clear h1 h2 h3 h4 h5 h6
  go_wp2
  go_ret
  exact ⟨_, R, rfl, unhide HR⟩
set_option maxHeartbeats 1000000 in
theorem how_intersect : SaidHow 42 opI := by
  intro va vb a b w hA hB na nb ma mb
  have H := hide (combine_any said_join 75 opI (enters_of Try.func75 (by kernel_rfl) rfl) said_both (by simp [opI]) va vb a b w hA hB na nb ma mb)
  clear hA hB na nb ma mb
  go_enter Try.func42, Try.ntmps42
  go_wp2_with fail
  refine (unhide H).mono ?_
  rintro e w' ⟨v', R, rfl, h1, h2, h3, h4, h5, h6⟩
  have HR := hide (⟨h1, h2, h3, h4, h5, h6⟩ : Res w w' v' R _)
  clear h1 h2 h3 h4 h5 h6
  go_wp2
  go_ret
  exact ⟨_, R, rfl, unhide HR⟩
set_option maxHeartbeats 1000000 in
theorem how_subtract : SaidHow 43 opS := by
  intro va vb a b w hA hB na nb ma mb
  have H := hide (combine_any said_join 76 opS (enters_of Try.func76 (by kernel_rfl) rfl) said_without (by simp [opS]) va vb a b w hA hB na nb ma mb)
  clear hA hB na nb ma mb
  go_enter Try.func43, Try.ntmps43
  go_wp2_with fail
  refine (unhide H).mono ?_
  rintro e w' ⟨v', R, rfl, h1, h2, h3, h4, h5, h6⟩
  have HR := hide (⟨h1, h2, h3, h4, h5, h6⟩ : Res w w' v' R _)
  clear h1 h2 h3 h4 h5 h6
  go_wp2
  go_ret
  exact ⟨_, R, rfl, unhide HR⟩

theorem okL_may {l : List Rc} (h : okL l = true) : l.length ≤ 40 ∧ ∀ r ∈ l, May r := by
  unfold okL at h
  simp only [Bool.and_eq_true, decide_eq_true_eq, Bool.not_eq_true'] at h
  refine ⟨h.1, fun r hr => ?_⟩
  have := List.any_eq_false.1 h.2 r hr
  unfold oob at this
  unfold May
  simp at this
  omega
theorem may_okL {l : List Rc} (h : l.length ≤ 40) (hm : ∀ r ∈ l, May r) : okL l = true := by
  unfold okL
  simp only [Bool.and_eq_true, decide_eq_true_eq, Bool.not_eq_true']
  refine ⟨h, List.any_eq_false.2 fun r hr => ?_⟩
  have := hm r hr
  unfold May at this
  unfold oob
  simp
  omega

set_option maxHeartbeats 2000000 in
/-- panes.combine, of lists that may be. -/
theorem pcombine_ok (f : Nat) (op : Prop → Prop → Prop) (eg : ∀ args w, (callFunc f args).run Try.prog w = .ok (.enter f args) w) (hhow : SaidHow f op) (va vb : Value) (a b : List Rc) (w : World) (hA : Rd w va a) (hB : Rd w vb b) (ka : okL a = true) (kb : okL b = true) :
    Calls Try.prog 40 #[va, vb, .func (.func f) #[] #[]] w fun e w' => ∃ v' R, e = .returned (.tuple #[v', .int .i64 0]) ∧ Res w w' v' R (fun px py => op (covL a px py) (covL b px py)) := by
  have HA := hide hA
  have HB := hide hB
  have HH := hide hhow
  have HKA := hide (okL_may ka)
  have HKB := hide (okL_may kb)
  have hca := hide (allowed_any va a w hA)
  rw [ka] at hca
  have hcb : Hid (∀ w1, Below w.heap.size w w1 → Calls Try.prog 46 #[vb] w1 fun e w' => e = .returned (.bool true) ∧ Below w1.heap.size w1 w') := fun w1 h1 => by
    have := allowed_any vb b w1 (hB.below h1); rw [kb] at this; exact this
  clear hA hB hhow ka kb
  go_enter Try.func40, Try.ntmps40
  go_wp2_with fail
  refine (unhide hca).mono ?_
  rintro e w1 ⟨rfl, h1⟩
  have H1 := hide h1
  clear h1
  go_wp2_with fail
  refine ((unhide hcb) w1 (unhide H1)).mono ?_
  rintro e w2 ⟨rfl, h2⟩
  have z1 := (unhide H1).size
  have H2 := hide ((unhide H1).trans (h2.mono z1))
  clear h2
  go_wp2_with fail
  refine ((unhide HH) va vb a b w2 ((unhide HA).below (unhide H2)) ((unhide HB).below (unhide H2)) (by have := (unhide HKA).1; omega) (by have := (unhide HKB).1; omega) (unhide HKA).2 (unhide HKB).2).mono ?_
  rintro e w3 ⟨v', R, rfl, hR⟩
  have z2 := (unhide H2).size
  have HR := hide (⟨hR.own.mono z2, hR.right, hR.cov, hR.inb, hR.len, (unhide H2).trans (hR.below.mono z2)⟩ : Res w w3 v' R _)
  clear hR
  go_wp2
  go_ret2
  exact ⟨_, R, rfl, unhide HR⟩
end Go.Proofs.Ytfnockbgkcgpkaa
