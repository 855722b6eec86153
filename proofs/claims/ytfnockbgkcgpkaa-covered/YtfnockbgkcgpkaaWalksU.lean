import Derived.Test.YtfnockbgkcgpkaaWalksT
import Derived.Test.YtfnockbgkcgpkaaWalksUA
set_option linter.all false
namespace Go.Proofs.Ytfnockbgkcgpkaa
open Go.RowKit Go.Proofs.Panes
set_option maxRecDepth 100000

def CovC (w : World) (v : Value) (px py : Int) (n : Nat) : Prop := ∀ W, Below w.heap.size w W → Calls Try.prog 48 #[v, .int .i64 px, .int .i64 py] W fun e w' => e = .returned (.int .i64 n) ∧ Below W.heap.size W w'

set_option maxHeartbeats 4000000 in
theorem fits_core (p q : Bool) (va vb vu vn vs : Value) (px py : Int) (na nb : Nat) (w : World) (hp : p = decide (0 < na)) (hq : q = decide (0 < nb))
    (hA : CovC w va px py na) (hB : CovC w vb px py nb) (hU : CovC w vu px py (p || q).toNat) (hN : CovC w vn px py (p && q).toNat) (hS : CovC w vs px py (p && !q).toNat) :
    Calls Try.prog 19 #[va, vb, vu, vn, vs, .int .i64 px, .int .i64 py] w fun e w' => e = .returned (.bool true) ∧ Below w.heap.size w w' := by
  have HA := hide hA
  have HB := hide hB
  have HU := hide hU
  have HN := hide hN
  have HS := hide hS
  clear hA hB hU hN hS
  rcases Nat.eq_zero_or_pos na with ha | ha <;> rcases Nat.eq_zero_or_pos nb with hb | hb
  · subst ha hb hp hq
    change Hid (CovC w vu px py 0) at HU
    change Hid (CovC w vn px py 0) at HN
    change Hid (CovC w vs px py 0) at HS
    go_enter Try.func19, Try.ntmps19
    go_wp2_with fail
    refine ((unhide HA) _ (Below.refl _ _)).mono ?_
    rintro e w1 ⟨rfl, h1⟩
    have G1 := hide h1
    have z1 := h1.size
    clear h1
    go_wp2_with fail
    refine ((unhide HB) _ (unhide G1)).mono ?_
    rintro e w2 ⟨rfl, h2⟩
    have G2 := hide ((unhide G1).trans (h2.mono z1))
    have z2 := (unhide G2).size
    clear h2
    go_wp2_with fail
    refine ((unhide HU) _ (unhide G2)).mono ?_
    rintro e w3 ⟨rfl, h3⟩
    have G3 := hide ((unhide G2).trans (h3.mono z2))
    have z3 := (unhide G3).size
    clear h3
    go_wp2_with fail
    refine ((unhide HN) _ (unhide G3)).mono ?_
    rintro e w4 ⟨rfl, h4⟩
    have G4 := hide ((unhide G3).trans (h4.mono z3))
    have z4 := (unhide G4).size
    clear h4
    go_wp2_with fail
    refine ((unhide HS) _ (unhide G4)).mono ?_
    rintro e w5 ⟨rfl, h5⟩
    have G5 := hide ((unhide G4).trans (h5.mono z4))
    clear h5
    go_wp2
    go_ret
    exact ⟨rfl, unhide G5⟩
  · subst ha
    rw [decide_eq_true hb] at hq
    subst hp hq
    have hb' : (0 : Int) < (nb : Int) := by omega
    change Hid (CovC w vu px py 1) at HU
    change Hid (CovC w vn px py 0) at HN
    change Hid (CovC w vs px py 0) at HS
    go_enter Try.func19, Try.ntmps19
    go_wp2_with fail
    refine ((unhide HA) _ (Below.refl _ _)).mono ?_
    rintro e w1 ⟨rfl, h1⟩
    have G1 := hide h1
    have z1 := h1.size
    clear h1
    go_wp2_with fail
    refine ((unhide HB) _ (unhide G1)).mono ?_
    rintro e w2 ⟨rfl, h2⟩
    have G2 := hide ((unhide G1).trans (h2.mono z1))
    have z2 := (unhide G2).size
    clear h2
    go_wp2_with fail
    refine ((unhide HU) _ (unhide G2)).mono ?_
    rintro e w3 ⟨rfl, h3⟩
    have G3 := hide ((unhide G2).trans (h3.mono z2))
    have z3 := (unhide G3).size
    clear h3
    go_wp2_with fail
    refine ((unhide HN) _ (unhide G3)).mono ?_
    rintro e w4 ⟨rfl, h4⟩
    have G4 := hide ((unhide G3).trans (h4.mono z3))
    have z4 := (unhide G4).size
    clear h4
    go_wp2_with fail
    refine ((unhide HS) _ (unhide G4)).mono ?_
    rintro e w5 ⟨rfl, h5⟩
    have G5 := hide ((unhide G4).trans (h5.mono z4))
    clear h5
    go_wp2
    go_ret
    exact ⟨rfl, unhide G5⟩
  · subst hb
    rw [decide_eq_true ha] at hp
    subst hp hq
    have ha' : (0 : Int) < (na : Int) := by omega
    change Hid (CovC w vu px py 1) at HU
    change Hid (CovC w vn px py 0) at HN
    change Hid (CovC w vs px py 1) at HS
    go_enter Try.func19, Try.ntmps19
    go_wp2_with fail
    refine ((unhide HA) _ (Below.refl _ _)).mono ?_
    rintro e w1 ⟨rfl, h1⟩
    have G1 := hide h1
    have z1 := h1.size
    clear h1
    go_wp2_with fail
    refine ((unhide HB) _ (unhide G1)).mono ?_
    rintro e w2 ⟨rfl, h2⟩
    have G2 := hide ((unhide G1).trans (h2.mono z1))
    have z2 := (unhide G2).size
    clear h2
    go_wp2_with fail
    refine ((unhide HU) _ (unhide G2)).mono ?_
    rintro e w3 ⟨rfl, h3⟩
    have G3 := hide ((unhide G2).trans (h3.mono z2))
    have z3 := (unhide G3).size
    clear h3
    go_wp2_with fail
    refine ((unhide HN) _ (unhide G3)).mono ?_
    rintro e w4 ⟨rfl, h4⟩
    have G4 := hide ((unhide G3).trans (h4.mono z3))
    have z4 := (unhide G4).size
    clear h4
    go_wp2_with fail
    refine ((unhide HS) _ (unhide G4)).mono ?_
    rintro e w5 ⟨rfl, h5⟩
    have G5 := hide ((unhide G4).trans (h5.mono z4))
    clear h5
    go_wp2
    go_ret
    exact ⟨rfl, unhide G5⟩
  · rw [decide_eq_true ha] at hp
    rw [decide_eq_true hb] at hq
    subst hp hq
    have ha' : (0 : Int) < (na : Int) := by omega
    have hb' : (0 : Int) < (nb : Int) := by omega
    change Hid (CovC w vu px py 1) at HU
    change Hid (CovC w vn px py 1) at HN
    change Hid (CovC w vs px py 0) at HS
    go_enter Try.func19, Try.ntmps19
    go_wp2_with fail
    refine ((unhide HA) _ (Below.refl _ _)).mono ?_
    rintro e w1 ⟨rfl, h1⟩
    have G1 := hide h1
    have z1 := h1.size
    clear h1
    go_wp2_with fail
    refine ((unhide HB) _ (unhide G1)).mono ?_
    rintro e w2 ⟨rfl, h2⟩
    have G2 := hide ((unhide G1).trans (h2.mono z1))
    have z2 := (unhide G2).size
    clear h2
    go_wp2_with fail
    refine ((unhide HU) _ (unhide G2)).mono ?_
    rintro e w3 ⟨rfl, h3⟩
    have G3 := hide ((unhide G2).trans (h3.mono z2))
    have z3 := (unhide G3).size
    clear h3
    go_wp2_with fail
    refine ((unhide HN) _ (unhide G3)).mono ?_
    rintro e w4 ⟨rfl, h4⟩
    have G4 := hide ((unhide G3).trans (h4.mono z3))
    have z4 := (unhide G4).size
    clear h4
    go_wp2_with fail
    refine ((unhide HS) _ (unhide G4)).mono ?_
    rintro e w5 ⟨rfl, h5⟩
    have G5 := hide ((unhide G4).trans (h5.mono z4))
    clear h5
    go_wp2
    go_ret
    exact ⟨rfl, unhide G5⟩

theorem covC_of {w : World} {v : Value} {l : List Rc} (px py : Int) (hR : Rd w v l) (hn : l.length ≤ 100000000) (hs : Small l) : CovC w v px py (cnt l px py) :=
  fun W hb => covers_any v l px py W (hR.below hb) hn hs

theorem cnt_is {l : List Rc} (h : Right l) (px py : Int) {b : Bool} (hb : covL l px py ↔ b = true) : cnt l px py = b.toNat := by
  have h1 := h.cnt px py
  have h2 := cnt_pos l px py
  rw [hb] at h2
  cases b
  · have : ¬ 0 < cnt l px py := fun c => by simpa using h2.1 c
    simp; omega
  · have := h2.2 rfl
    simp; omega

open Classical in
theorem fits_any (va vb vu vn vs : Value) (a b U N S : List Rc) (px py : Int) (w : World) (rA : Rd w va a) (rB : Rd w vb b) (rU : Rd w vu U) (rN : Rd w vn N) (rS : Rd w vs S)
    (la : a.length ≤ 100000000) (lb : b.length ≤ 100000000) (lU : U.length ≤ 100000000) (lN : N.length ≤ 100000000) (lS : S.length ≤ 100000000) (sa : Small a) (sb : Small b) (sU : Small U) (sN : Small N) (sS : Small S)
    (hU : Right U) (hN : Right N) (hS : Right S) (cU : ∀ x y, covL U x y ↔ covL a x y ∨ covL b x y) (cN : ∀ x y, covL N x y ↔ covL a x y ∧ covL b x y) (cS : ∀ x y, covL S x y ↔ covL a x y ∧ ¬ covL b x y) :
    Calls Try.prog 19 #[va, vb, vu, vn, vs, .int .i64 px, .int .i64 py] w fun e w' => e = .returned (.bool true) ∧ Below w.heap.size w w' := by
  have pa := cnt_pos a px py
  have pb := cnt_pos b px py
  have hp : ∃ p : Bool, p = decide (0 < cnt a px py) := ⟨_, rfl⟩
  have hq : ∃ q : Bool, q = decide (0 < cnt b px py) := ⟨_, rfl⟩
  obtain ⟨p, hp⟩ := hp
  obtain ⟨q, hq⟩ := hq
  have ep : covL a px py ↔ p = true := by rw [hp, ← pa]; exact decide_eq_true_iff.symm
  have eq : covL b px py ↔ q = true := by rw [hq, ← pb]; exact decide_eq_true_iff.symm
  refine fits_core p q va vb vu vn vs px py _ _ w hp hq (covC_of px py rA la sa) (covC_of px py rB lb sb) ?_ ?_ ?_
  · rw [← cnt_is hU px py (b := p || q) (by rw [cU, ep, eq]; cases p <;> cases q <;> simp)]; exact covC_of px py rU lU sU
  · rw [← cnt_is hN px py (b := p && q) (by rw [cN, ep, eq]; cases p <;> cases q <;> simp)]; exact covC_of px py rN lN sN
  · rw [← cnt_is hS px py (b := p && !q) (by rw [cS, ep, eq]; cases p <;> cases q <;> simp)]; exact covC_of px py rS lS sS
end Go.Proofs.Ytfnockbgkcgpkaa
