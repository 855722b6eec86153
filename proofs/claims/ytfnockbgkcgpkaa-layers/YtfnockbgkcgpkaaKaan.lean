import Derived.Test.YtfnockbgkcgpkaaKaad
import Derived.Test.YtfnockbgkcgpkaaKaag
set_option linter.all false
namespace Go.Proofs.Ytfnockbgkcgpkaa
open Go.RowKit Go.Proofs.Panes
set_option maxRecDepth 100000

def ztr : P2 := (.slice none 0 0, .int .i64 0)
set_option maxHeartbeats 1600000 in
theorem tdelete_any {w : World} {base g cap : Nat} {l : List P2} (hO : Own2 w base 132 (.slice (some ⟨g, 0, none⟩) l.length cap) l) (h1 : One2 l) (i j : Nat) (hij : i < j) (hj : j ≤ l.length) (hl : l.length ≤ 1000) (D : List P2) (hD : D = l.take i ++ l.drop j) :
    Calls Try.prog 117 #[.slice (some ⟨g, 0, none⟩) l.length cap, .int .i64 (i : Int), .int .i64 (j : Int)] w fun e w' =>
      e = .returned (.slice (some ⟨g, 0, none⟩) D.length cap) ∧ Own2 w' base 132 (.slice (some ⟨g, 0, none⟩) D.length cap) D ∧ But (fun k => k = g) w w' := by
  obtain ⟨R, hR, hc, _, hb, hm⟩ := hO.row
  obtain ⟨n, hn⟩ : ∃ n, n = l.length := ⟨_, rfl⟩
  have hcn : n ≤ cap := by simp at hc; omega
  rw [← hn]
  have HR := hide hR
  have HN := hide hn
  have h1' := hide h1
  have i0 : (0 : Int) ≤ (i : Int) := by omega
  have i1 : (i : Int) ≤ (j : Int) := by omega
  have i2 : (j : Int) ≤ (n : Int) := by omega
  have i3 : (n : Int) ≤ (cap : Int) := by omega
  have i4 : ((i : Int) == (j : Int)) = false := by simp; omega
  clear hO hR h1 hn
  go_enter Try.func117, Try.ntmps117
  go_wp2
  obtain ⟨L, hL⟩ : ∃ L, L = l ++ R := ⟨_, rfl⟩
  have hLl : L.length = cap := by rw [hL]; exact hc
  have hn := unhide HN
  have hT : L.take n = l := by rw [hL, hn]; simp
  obtain ⟨m, hm'⟩ : ∃ m, m = n - j := ⟨_, rfl⟩
  obtain ⟨X, hX⟩ : ∃ X, X = l.drop j := ⟨_, rfl⟩
  have hXl : X.length = m := by rw [hX, List.length_drop]; omega
  have hX1 : One2 X := fun p hp => (unhide h1') p (List.mem_of_mem_drop (hX ▸ hp))
  have hXc : ∀ (t : Nat) (v : Value), (c2 X)[t]? = some v → w.cell? ⟨g, j * 2 + t, none⟩ = some v := by
    intro t v hv
    have := unhide HR
    rw [blk_cell this]
    rw [List.getElem?_toArray, c2_append, List.getElem?_append_left (by
      have : t < (c2 X).length := (List.getElem?_eq_some_iff.1 hv).1
      rw [c2_len, hXl] at this
      rw [c2_len]; omega)]
    rw [hX, ← c2_drop, List.getElem?_drop] at hv
    exact hv
  have hrow : Row2 w.drew g 132 L := by rw [hL]; exact unhide HR
  obtain ⟨i0', hi, hz0, hz1, hz2⟩ := info_parts info_tr
  have hsz : (Try.prog.info? 132).map (·.size) = some 2 := by rw [hi]; simp [hz1]
  obtain ⟨w1, hw1⟩ : ∃ w1, w1 = w.drew.setRow g (c2 (L.take i ++ X ++ L.drop (i + m))).toArray := ⟨_, rfl⟩
  obtain ⟨q, hq⟩ : ∃ q, q = i + (n - j) := ⟨_, rfl⟩
  have hAp : ∀ ty, (Builtin.append_ #[122, 122] ty #[.slice (some ⟨g, 0, none⟩) i cap, .slice (if cap = j then some ⟨g, 0, none⟩ else some ⟨g, j * 2, none⟩) (n - j) (cap - j)]).run Try.prog w.drew = .ok (.slice (some ⟨g, 0, none⟩) q cap) w1 := by
    intro ty
    rw [hq, hw1, ← hm']
    by_cases hcj : cap = j
    · rw [if_pos hcj]
      refine run_append_row2 Try.underlying122 hsz hrow hLl hXl ?_ (by omega) hX1
      intro t v hv
      rw [List.eq_nil_of_length_eq_zero (hXl.trans (by omega))] at hv; simp [c2] at hv
    · rw [if_neg hcj]
      refine run_append_row2 Try.underlying122 hsz hrow hLl hXl ?_ (by omega) hX1
      intro t v hv
      have hadd : (⟨g, j * 2, none⟩ : Addr).add t = ⟨g, j * 2 + t, none⟩ := by unfold Addr.add; split <;> simp_all
      rw [hadd]
      exact hXc t v hv
  have hrow1 : Row2 w1 g 132 (L.take i ++ X ++ L.drop (i + m)) := by rw [hw1]; exact setRow_heap _ _ _ _ _ _ hrow
  have hbut1 : But (fun k => k = g) w w1 := by
    rw [hw1]
    exact ⟨rfl, rfl, rfl, by simp, fun k _ hk => setRow_other _ _ _ _ hk⟩
  have HAp := hide hAp
  have HR1 := hide hrow1
  have HB1 := hide hbut1
  have HX := hide hX
  have HT := hide hT
  have HLl := hide hLl
  have HXl := hide hXl
  have HHc := hide hc
  clear hAp hrow1 hbut1 hXc hrow hX1 hL hX hT hLl hXl hc hn hz0 hz1 hz2 hsz hi
  have i6 : (i : Int) ≤ (cap : Int) := by omega
  have i7 : (j : Int) ≤ (cap : Int) := by omega
  have i8 : (q : Int) ≤ (n : Int) := by omega
  have i9 : ¬ cap = q := by omega
  have j0 : (0 : Int) ≤ (q : Int) := by omega
  have jm : 0 < n - q := by omega
  have hqm : q = i + m := by omega
  have hqn : q + (n - q) = n := by omega
  have hlen : D.length = q := by rw [hD, List.length_append, List.length_take, List.length_drop, ← unhide HN]; omega
  have HQ := hide (And.intro hqm (And.intro hqn (And.intro hlen (And.intro hij (And.intro hj hm')))))
  have HD := hide hD
  clear hw1 hm' hq hqm hqn hlen hj hij hD
  obtain ⟨w2, hw2⟩ : ∃ w2, w2 = w1.setRow g (c2 ((L.take i ++ X ++ L.drop (i + m)).take q ++ List.replicate (n - q) ztr ++ (L.take i ++ X ++ L.drop (i + m)).drop (q + (n - q)))).toArray := ⟨_, rfl⟩
  have hcl : ∀ mc, (Builtin.clear_ #[122] 0 #[.slice (some ⟨g, q * 2, none⟩) (n - q) mc]).run Try.prog w1 = .ok (.tuple #[]) w2 := fun mc => by
    rw [hw2]
    exact run_clear_row2 (m := n - q) (o := q) (z := ztr) Try.underlying122 (by rfl) (unhide HR1) jm (by rw [List.length_append, List.length_append, List.length_take, List.length_drop, unhide HXl, unhide HLl]; have := unhide HQ; omega) ⟨rfl, rfl⟩
  have HW2 := hide hw2
  clear hw2
  go_region_law (refine step_append_run (by rfl) _ _ 122 (by rfl) _ _ _ _ (by rfl) (by rfl) (unhide HAp) ?_)
  simp only [Exit.then]
  go_simp
  go_wp2
  all_goals
    go_ret
    rw [unhide HW2]
    obtain ⟨q1, q2, q3, q4, q5, q6⟩ := unhide HQ
    have hn := unhide HN
    have hlt : (L.take i ++ X).length = q := by rw [List.length_append, List.length_take, unhide HXl, unhide HLl]; omega
    have hli : L.take i ++ X = D := by
      rw [unhide HX, unhide HD]
      congr 1
      rw [← unhide HT, List.take_take, Nat.min_eq_left (by omega)]
    have hM : (L.take i ++ X ++ L.drop (i + m)).take q = D := by
      rw [List.take_append_of_le_length (by omega), List.take_of_length_le (by omega), hli]
    refine ⟨by rw [q3]; rfl, ?_, ?_⟩
    · have hr2 := setRow_heap w1 g _ (c2 ((L.take i ++ X ++ L.drop (i + m)).take q ++ List.replicate (n - q) ztr ++ (L.take i ++ X ++ L.drop (i + m)).drop (q + (n - q)))).toArray _ _ (unhide HR1)
      rw [hM, List.append_assoc] at hr2
      rw [hM, List.append_assoc]
      refine own2_of hr2 ?_ hb (by first | exact hm | omega)
      rw [List.length_append, q3, List.length_append, List.length_replicate, List.length_drop, List.length_append, hlt, List.length_drop, unhide HLl]
      omega
    · exact (unhide HB1).trans ⟨rfl, rfl, rfl, by simp, fun k _ hk => setRow_other _ _ _ _ hk⟩
set_option maxHeartbeats 1000000 in
theorem tdelete_zero (w : World) (o : Option Addr) (n cap : Nat) (hn : n ≤ cap) : Calls Try.prog 117 #[.slice o n cap, .int .i64 0, .int .i64 0] w fun e w' => e = .returned (.slice o n cap) ∧ ∃ q, w' = w.drewN q := by
  have i0 : (0 : Int) ≤ (n : Int) := by omega
  have i1 : (n : Int) ≤ (cap : Int) := by omega
  go_enter Try.func117, Try.ntmps117
  go_wp2
  go_ret
  exact ⟨rfl, 0, rfl⟩
end Go.Proofs.Ytfnockbgkcgpkaa
