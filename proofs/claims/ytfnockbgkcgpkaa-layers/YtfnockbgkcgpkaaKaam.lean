import Derived.Test.YtfnockbgkcgpkaaKaal
set_option linter.all false
namespace Go.Proofs.Ytfnockbgkcgpkaa
open Go.RowKit Go.Proofs.Panes
set_option maxRecDepth 100000

set_option maxHeartbeats 1600000 in
theorem csubmit_out (cp : Nat) (cw ch cc cq cm cu cs cbh : Int) (ao : Option Addr) (cap n : Nat) (w : World) (hn : n ≤ 1759218604390) (hin : inB n 1 20 = false) :
    Calls Try.prog 55 #[.pointer (some ⟨cp, 0, none⟩), .slice ao n cap, .agg #[.int .i64 cw, .int .i64 ch, .int .i64 cc, .int .i64 cq, .int .i64 cm, .int .i64 cu, .int .i64 cs, .int .i64 cbh]] w fun e w' => e = .returned (.int .i64 3) ∧ Below w.heap.size w w' := by
  have CW : Hid (∀ w, Calls Try.prog 80 #[.int .i64 n, .int .i64 1, .int .i64 20] w fun e w' => e = .returned (.bool (inB n 1 20)) ∧ w' = w) := fun w => within_any _ _ _ w
  rw [hin] at CW
  clear hin
  go_enter Try.func55, Try.ntmps55
  go_wp2_with (go_at_call 80; refine ((unhide CW) _).mono ?_; rintro e w' ⟨rfl, hw'⟩; have hw2 := hw'.symm; clear hw'; subst hw2)
  go_ret
  exact ⟨rfl, (Below.refl _ w).alloc (Nat.le_refl _) _⟩
theorem csubmit_any (U : Nat → Prop) (cp : Nat) (pq : Value) (cr : Int) (b0 b1 b2 b3 : Bool) (bq m : Nat) (xs : List Value) (c : Cfg) (S : Nat) (ao : Option Addr) (cap : Nat) (ops : List Opn) (w : World)
    (hcl : w.heap[cp]? = some (.cells #[pq, .int .i64 cr, .bool b0, .bool b1, .bool b2, .bool b3] 126)) (hQ : w.ownsRow bq 132 2 pq m xs) (hbq : bq ≤ w.heap.size) (hm : m ≤ 100000) (hS : c.surfaces = S) (hS4 : 1 ≤ S ∧ S ≤ 4)
    (hR : RdO U w (.slice ao ops.length cap) ops) (hlen : ops.length ≤ 1759218604390) (hpx : ∀ o ∈ ops, o.px.length ≤ 17592186043904) (hU : ∀ k, U k → k < w.heap.size) :
    Calls Try.prog 55 #[.pointer (some ⟨cp, 0, none⟩), .slice ao ops.length cap, cval c] w fun e w' => ∃ code : Int, e = .returned (.int .i64 code) ∧
      ((inB ops.length 1 20 = false ∧ code = 3 ∧ Below w.heap.size w w') ∨ (inB ops.length 1 20 = true ∧ ((vall ([b0, b1, b2, b3].take S) ops = none ∧ code = 3 ∧ Below w.heap.size w w') ∨ ∃ will', vall ([b0, b1, b2, b3].take S) ops = some will' ∧ ((c.most < costOf ops ∧ code = 3 ∧ Below w.heap.size w w') ∨ (costOf ops ≤ c.most ∧ c.queue ≤ (m : Int) ∧ code = 4 ∧ Below w.heap.size w w') ∨
        (costOf ops ≤ c.most ∧ (m : Int) < c.queue ∧ code = 0 ∧ ∃ pq' x ov, x.length = 4 ∧ x.take S = will' ∧ Subd w w' cp pq cr bq m pq' x xs ops ov))))) := by
  obtain ⟨cw, ch, cc, cq, cm, cu, cs, cbh⟩ := c
  simp only at hS
  subst hS
  unfold cval
  simp only
  obtain ⟨qo, qc, rfl⟩ := row_slice hQ
  cases hin : inB ops.length 1 20 with
  | false => exact (csubmit_out cp cw ch cc cq cm cu S cbh ao cap ops.length w hlen hin).mono fun e w' ⟨h1, h2⟩ => ⟨3, h1, .inl ⟨rfl, rfl, h2⟩⟩
  | true =>
    have hl20 : 1 ≤ ops.length ∧ ops.length ≤ 20 := by
      have hin' := hin
      unfold inB at hin'
      simp only [Bool.and_eq_true, decide_eq_true_eq] at hin'
      omega
    have CW : Hid (∀ w, Calls Try.prog 80 #[.int .i64 ops.length, .int .i64 1, .int .i64 20] w fun e w' => e = .returned (.bool true) ∧ w' = w) := fun w => by
      have := within_any ops.length 1 20 w
      have e : (decide ((1 : Int) ≤ (ops.length : Int)) && decide ((ops.length : Int) ≤ 20)) = true := hin
      first | (rw [e] at this; exact this) | (rw [hin] at this; exact this)
    have CA : ∀ w', Below w.heap.size w w' → Calls Try.prog 81 #[.agg #[.bool b0, .bool b1, .bool b2, .bool b3], .slice ao ops.length cap, .int .i64 (S : Int)] w' fun e w2 => Aft ([b0, b1, b2, b3].take S) S [b0, b1, b2, b3] ops e ∧ Below w'.heap.size w' w2 := fun w' hb => after_any U (.slice ao ops.length cap) ops b0 b1 b2 b3 S hS4 w' (hR.below hb) (by omega) hpx
    cases hv : vall ([b0, b1, b2, b3].take S) ops with
    | none =>
      refine (csubmit_in U cp qo qc cr b0 b1 b2 b3 false false false false false bq m xs cw ch cc cq cm cu cbh S ao cap ops w hcl hQ hbq hm hR hl20 (fun h => by cases h) (fun h => by cases h) hU CW (fun w' hb => (CA w' hb).mono fun e w2 ⟨h1, h2⟩ => ?_)).mono ?_
      · rcases h1 with ⟨x, _, h, _⟩ | ⟨_, h⟩
        · rw [hv] at h; cases h
        · exact ⟨h, h2⟩
      · rintro e w' (⟨_, h1, h2⟩ | ⟨h, _⟩)
        · exact ⟨3, h1, .inr ⟨rfl, .inl ⟨rfl, rfl, h2⟩⟩⟩
        · cases h
    | some will' =>
      have hwl : ∃ x0 x1 x2 x3 : Bool, ∀ x : List Bool, x.length = 4 → x.take S = will' → x.drop S = [b0, b1, b2, b3].drop S → x = [x0, x1, x2, x3] := by
        by_cases hx : ∃ x : List Bool, x.length = 4 ∧ x.take S = will' ∧ x.drop S = [b0, b1, b2, b3].drop S
        · obtain ⟨x, h1, h2, h3⟩ := hx
          match x, h1 with
          | [x0, x1, x2, x3], _ =>
            refine ⟨x0, x1, x2, x3, fun y _ hy2 hy3 => ?_⟩
            rw [← List.take_append_drop S y, hy2, hy3, ← h2, ← h3, List.take_append_drop]
        · exact ⟨false, false, false, false, fun x h1 h2 h3 => absurd ⟨x, h1, h2, h3⟩ hx⟩
      obtain ⟨x0, x1, x2, x3, hxx⟩ := hwl
      have hsm := vall_small ops _ _ hv
      have hatt := vall_att ops _ _ hv
      by_cases hx : [x0, x1, x2, x3].take S = will'
      · refine (csubmit_in U cp qo qc cr b0 b1 b2 b3 x0 x1 x2 x3 true bq m xs cw ch cc cq cm cu cbh S ao cap ops w hcl hQ hbq hm hR hl20 (fun _ => hsm) (fun _ => hatt) hU CW (fun w' hb => (CA w' hb).mono fun e w2 ⟨h1, h2⟩ => ?_)).mono ?_
        · rcases h1 with ⟨x, g1, g2, g3, g4⟩ | ⟨h, _⟩
          · rw [hv] at g2
            simp only [Option.some.injEq] at g2
            have := hxx x g1 g2.symm g3
            subst this
            exact ⟨g4, h2⟩
          · rw [hv] at h; cases h
        · rintro e w' (⟨h, _⟩ | ⟨_, h⟩)
          · cases h
          · rcases h with ⟨h1, h2, h3⟩ | ⟨h1, h2, h3, h4⟩ | ⟨h1, h2, h3, pq', ov, h4⟩
            · exact ⟨3, h2, .inr ⟨rfl, .inr ⟨will', rfl, .inl ⟨h1, rfl, h3⟩⟩⟩⟩
            · exact ⟨4, h3, .inr ⟨rfl, .inr ⟨will', rfl, .inr (.inl ⟨h1, h2, rfl, h4⟩)⟩⟩⟩
            · exact ⟨0, h3, .inr ⟨rfl, .inr ⟨will', rfl, .inr (.inr ⟨h1, h2, rfl, pq', [x0, x1, x2, x3], ov, rfl, hx, h4⟩)⟩⟩⟩
      · have hE : ∃ x : List Bool, x.length = 4 ∧ x.take S = will' ∧ x.drop S = [b0, b1, b2, b3].drop S := by
          have hvl : ∀ (l : List Opn) (a y : List Bool), vall a l = some y → y.length = a.length := by
            intro l
            induction l with
            | nil => intro a y h; cases h; rfl
            | cons o l ih =>
              intro a y h
              have h' : (vstep a o).bind (fun z => vall z l) = some y := h
              cases hz : vstep a o with
              | none => rw [hz] at h'; cases h'
              | some z =>
                rw [hz] at h'
                have h1 := ih z y h'
                have h2 : z.length = a.length := by
                  unfold vstep at hz
                  split at hz
                  · cases hz; rfl
                  · split at hz
                    · cases hz; simp
                    · cases hz
                omega
          have h1 := hvl ops _ _ hv
          rw [List.length_take] at h1
          simp only [List.length_cons, List.length_nil] at h1
          refine ⟨will' ++ [b0, b1, b2, b3].drop S, by rw [List.length_append, List.length_drop, h1]; simp only [List.length_cons, List.length_nil]; omega, ?_, ?_⟩
          · rw [List.take_append_of_le_length (by omega), List.take_of_length_le (by omega)]
          · rw [List.drop_append, List.drop_of_length_le (by omega), List.nil_append, show S - will'.length = 0 by omega, List.drop_zero]
        obtain ⟨x, g1, g2, g3⟩ := hE
        exact absurd (by rw [← hxx x g1 g2 g3]; exact g2) hx
end Go.Proofs.Ytfnockbgkcgpkaa
