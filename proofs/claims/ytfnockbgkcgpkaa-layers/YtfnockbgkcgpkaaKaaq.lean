import Derived.Test.YtfnockbgkcgpkaaKaad
import Derived.Laws.StructEq
set_option linter.all false
namespace Go.Proofs.Ytfnockbgkcgpkaa
open Go.RowKit Go.Proofs.Panes
set_option maxRecDepth 100000

def k2 (k : Int × Int) : P2 := (.int .i64 k.1, .int .i64 k.2)
theorem k2_one (l : List (Int × Int)) : One2 (l.map k2) := by
  intro p hp
  obtain ⟨k, _, rfl⟩ := List.mem_map.1 hp
  exact ⟨rfl, rfl⟩
theorem own2_at {w : World} {base g n cap : Nat} {t : TypeId} {l : List P2} (h : Own2 w base t (.slice (some ⟨g, 0, none⟩) n cap) l) {j : Nat} {p : P2} (hp : l[j]? = some p) : w.cell? ⟨g, j * 2, none⟩ = some p.1 ∧ w.cell? ⟨g, j * 2 + 1, none⟩ = some p.2 := by
  obtain ⟨R, hR, _⟩ := h.row
  have hj : (l ++ R)[j]? = some p := by rw [List.getElem?_append_left (List.getElem?_eq_some_iff.1 hp).1]; exact hp
  have := c2_at _ j p hj
  rw [blk_cell hR, blk_cell hR, List.getElem?_toArray, List.getElem?_toArray]
  exact this

set_option maxHeartbeats 2000000 in
theorem kindex_any {w : World} {g cap : Nat} {ks : List (Int × Int)} (hc : ∀ (j : Nat) (k : Int × Int), ks[j]? = some k → w.cell? ⟨g, j * 2, none⟩ = some (.int .i64 k.1) ∧ w.cell? ⟨g, j * 2 + 1, none⟩ = some (.int .i64 k.2)) (hg : ks ≠ [] → g < w.heap.size) (hl : ks.length ≤ 1000) (c n : Int) (i : Nat) (hi : ks[i]? = some (c, n)) (hf : ∀ j, j < i → ks[j]? ≠ some (c, n)) :
    Calls Try.prog 143 #[.slice (some ⟨g, 0, none⟩) ks.length cap, .agg #[.int .i64 c, .int .i64 n]] w fun e w' => e = .returned (.int .i64 (i : Int)) ∧ Below w.heap.size w w' := by
  have hil : i < ks.length := (List.getElem?_eq_some_iff.1 hi).1
  have lg := hg (by intro e; rw [e] at hil; simp at hil)
  obtain ⟨w0, hw0⟩ : ∃ w0, w0 = w.alloc (.cells #[.int .i64 c, .int .i64 n] 143) := ⟨_, rfl⟩
  have hN : w0.heap[w.heap.size]? = some (.cells #[.int .i64 c, .int .i64 n] 143) := by rw [hw0]; exact new_at _ _ _ rfl
  have hB : Below w.heap.size w w0 := by rw [hw0]; exact (Below.refl _ w).alloc (Nat.le_refl _) _
  have HC := hide fun j k hk => And.intro ((hB.cell lg).trans (hc j k hk).1) ((hB.cell lg).trans (hc j k hk).2)
  have y0 : w0.cell? ⟨w.heap.size, 0, none⟩ = some (.int .i64 c) := blk_cell hN 0
  have y1 : w0.cell? ⟨w.heap.size, 1, none⟩ = some (.int .i64 n) := blk_cell hN 1
  have HI := hide hi
  have HF := hide hf
  have HB := hide hB
  have HW0 := hide hw0
  clear hc hi hf hN hB hw0 hg lg
  go_enter Try.func143, Try.ntmps143
  go_wp2
  rw [← unhide HW0]
  go_loopw [8] (fun v wr => ∃ k : Nat, k ≤ i ∧ v = .int .i64 k ∧ (∃ q, wr = w0.drewN q)) (fun v _ => ks.length - (intOf v).toNat)
  case atStart => exact ⟨0, Nat.zero_le _, rfl, ⟨0, rfl⟩⟩
  case round =>
    obtain ⟨k, hk, rfl, ⟨q, rfl⟩⟩ := hrel
    obtain ⟨⟨d1, d2⟩, hd⟩ : ∃ d, ks[k]? = some d := ⟨ks[k]'(by omega), by simp⟩
    obtain ⟨b0, b1⟩ := (unhide HC) k _ hd
    simp only at b0 b1
    have i0 : (0 : Int) ≤ (k : Int) := by omega
    have i1 : (k : Int) < (ks.length : Int) := by omega
    by_cases he : k = i
    · subst he
      rw [unhide HI] at hd
      simp only [Option.some.injEq, Prod.mk.injEq] at hd
      obtain ⟨rfl, rfl⟩ := hd
      go_wp2
      go_quiet (fail)
      go_wp2
      go_ret
      exact ⟨rfl, below_drewN (below_drewN (unhide HB) _) _⟩
    · have hne : ¬ (c = d1 ∧ n = d2) := fun hh => (unhide HF) k (by omega) (by rw [hd, hh.1, hh.2])
      clear hd
      by_cases e1 : c = d1
      · have e2 : ¬ n = d2 := fun h => hne ⟨e1, h⟩
        subst e1
        clear hne
        go_wp2
        go_quiet (fail)
        go_wp2
        go_roundw
        case rel => exact ⟨k + 1, by omega, by go_num, ⟨q + nq, by rfl⟩⟩
        case measure => simp [intOf]; omega
      · clear hne
        go_wp2
        go_quiet (fail)
        go_wp2
        go_roundw
        case rel => exact ⟨k + 1, by omega, by go_num, ⟨q + nq, by rfl⟩⟩
        case measure => simp [intOf]; omega
end Go.Proofs.Ytfnockbgkcgpkaa
set_option linter.all false
namespace Go.Proofs.Ytfnockbgkcgpkaa
open Go.RowKit Go.Proofs.Panes
set_option maxRecDepth 100000

theorem c2_set : ∀ (L : List P2) (i : Nat) (p : P2), c2 (L.set i p) = ((c2 L).set (i * 2) p.1).set (i * 2 + 1) p.2
  | [], i, p => by simp [c2]
  | q :: L, 0, p => by simp [c2_cons]
  | q :: L, i + 1, p => by
    rw [List.set_cons_succ, c2_cons, c2_cons, c2_set L i p, show (i + 1) * 2 = i * 2 + 1 + 1 by omega, show i * 2 + 1 + 1 + 1 = (i * 2 + 1) + 1 + 1 by omega]
    simp
theorem row2_set {w : World} {g : Nat} {t : TypeId} {L : List P2} (h : Row2 w g t L) (i : Nat) (p : P2) : Row2 ((w.setCell ⟨g, i * 2, none⟩ p.1).setCell ⟨g, i * 2 + 1, none⟩ p.2) g t (L.set i p) := by
  have h1 := blk_set (i := i * 2) h p.1
  have h2 := blk_set (i := i * 2 + 1) h1 p.2
  rw [Row2, c2_set, h2]
  simp
theorem row2_but {S : Nat → Prop} {w w' : World} {g : Nat} {t : TypeId} {L : List P2} (h : Row2 w g t L) (hb : But S w w') (hs : ¬ S g) : Row2 w' g t L := hb.heap h hs
theorem row2_at {w : World} {g : Nat} {t : TypeId} {L : List P2} (h : Row2 w g t L) {j : Nat} {p : P2} (hp : L[j]? = some p) : w.cell? ⟨g, j * 2, none⟩ = some p.1 ∧ w.cell? ⟨g, j * 2 + 1, none⟩ = some p.2 := by
  have := c2_at _ j p hp
  rw [blk_cell h, blk_cell h, List.getElem?_toArray, List.getElem?_toArray]
  exact this

/-- The captured key is compared with another one. -/
theorem chg1_any {w : World} {cb : Nat} {c n : Int} (hb : w.heap[cb]? = some (.cells #[.int .i64 c, .int .i64 n] 143 (0, 0))) (k : Int × Int) :
    Calls Try.prog 133 #[.agg #[.int .i64 k.1, .int .i64 k.2], .pointer (some ⟨cb, 0, none⟩)] w fun e w' => e = .returned (.bool (k.1 == c && k.2 == n)) ∧ Below w.heap.size w w' := by
  obtain ⟨a, b⟩ := k
  have c0 : w.cell? ⟨cb, 0, none⟩ = some (.int .i64 c) := blk_cell hb 0
  have c1 : w.cell? ⟨cb, 1, none⟩ = some (.int .i64 n) := blk_cell hb 1
  have lb : cb < w.heap.size := lt_of_heap hb
  clear hb
  by_cases e1 : a = c
  · by_cases e2 : b = n
    · subst e1 e2
      go_enter Try.func133, Try.ntmps133
      go_wp2
      go_ret
      exact ⟨by simp, (Below.refl _ w).alloc (Nat.le_refl _) _⟩
    · subst e1
      go_enter Try.func133, Try.ntmps133
      go_wp2
      go_ret
      exact ⟨by simp [e2], (Below.refl _ w).alloc (Nat.le_refl _) _⟩
  · go_enter Try.func133, Try.ntmps133
    go_wp2
    go_ret
    exact ⟨by simp [e1], (Below.refl _ w).alloc (Nat.le_refl _) _⟩
end Go.Proofs.Ytfnockbgkcgpkaa
set_option linter.all false
namespace Go.Proofs.Ytfnockbgkcgpkaa
open Go.RowKit Go.Proofs.Panes
set_option maxRecDepth 100000
theorem row_some {w : World} {base : Nat} {e : TypeId} {size : Nat} {v : Value} {n : Nat} {xs : List Value} (h : w.ownsRow base e size v n xs) (hn : 0 < n) : ∃ g cap, v = .slice (some ⟨g, 0, none⟩) n cap := by
  rcases h.2 with ⟨rfl, rfl⟩ | ⟨g, cap, cur, rfl, _⟩
  · omega
  · exact ⟨g, cap, rfl⟩

/-- Where a list has the first element that is meant; -1: nowhere. -/
def Fst (p : Int × Int → Bool) (ks : List (Int × Int)) (n : Int) : Prop := (n = -1 ∧ ∀ k ∈ ks, p k = false) ∨ ∃ i : Nat, n = i ∧ i < ks.length ∧ (∀ k ∈ ks.take i, p k = false) ∧ ∀ k, ks[i]? = some k → p k = true
set_option maxHeartbeats 2000000 in
theorem kidxf_any {w : World} {v : Value} {ks : List (Int × Int)} (hO : Own2 w 0 143 v (ks.map k2)) (hl : ks.length ≤ 100000000) (p : Int × Int → Bool) (cb : Nat)
    (hP : ∀ (W : World) (k : Int × Int), Below w.heap.size w W → Calls Try.prog 133 #[.agg #[.int .i64 k.1, .int .i64 k.2], .pointer (some ⟨cb, 0, none⟩)] W fun e w' => e = .returned (.bool (p k)) ∧ Below W.heap.size W w') :
    Calls Try.prog 142 #[v, .func (.func 133) #[] #[.pointer (some ⟨cb, 0, none⟩)]] w fun e w' => (∃ n : Int, e = .returned (.int .i64 n) ∧ Fst p ks n) ∧ Below w.heap.size w w' := by
  obtain ⟨ao, cap, rfl⟩ := row_slice hO
  have hlm : (ks.map k2).length = ks.length := by simp
  rw [hlm]
  have hc : ∀ (j : Nat) (k : Int × Int), ks[j]? = some k → ∃ g, ao = some ⟨g, 0, none⟩ ∧ g < w.heap.size ∧ w.cell? ⟨g, j * 2, none⟩ = some (.int .i64 k.1) ∧ w.cell? ⟨g, j * 2 + 1, none⟩ = some (.int .i64 k.2) := by
    intro j k hk
    have hj : j < ks.length := (List.getElem?_eq_some_iff.1 hk).1
    rcases hO.2 with ⟨e, e'⟩ | ⟨g, c, cur, e, _, hg, _⟩
    · rw [hlm] at e'; omega
    · simp only [Value.slice.injEq] at e
      obtain ⟨rfl, _, rfl⟩ := e
      have := own2_at hO (p := k2 k) (j := j) (by rw [List.getElem?_map, hk]; rfl)
      exact ⟨g, rfl, lt_of_heap hg, this⟩
  have HC := hide hc
  have HP := hide hP
  clear hc hP hO hlm
  go_enter Try.func142, Try.ntmps142
  go_wp2
  go_loopw [8] (fun i wr => ∃ k : Nat, k ≤ ks.length ∧ i = .int .i64 k ∧ (∀ x ∈ ks.take k, p x = false) ∧ Below w.heap.size w wr) (fun i _ => ks.length - (intOf i).toNat)
  case atStart => exact ⟨0, Nat.zero_le _, rfl, by simp, Below.refl _ w⟩
  case round =>
    obtain ⟨k, hk, rfl, hh, hB⟩ := hrel
    have HH := hide hh
    clear hh
    by_cases hlt : k < ks.length
    · obtain ⟨⟨d1, d2⟩, hd⟩ : ∃ d, ks[k]? = some d := ⟨ks[k], by simp [hlt]⟩
      obtain ⟨g, rfl, lg, b0, b1⟩ := (unhide HC) k _ hd
      have b0 : wr.cell? ⟨g, k * 2, none⟩ = some (.int .i64 d1) := (hB.cell lg).trans b0
      have b1 : wr.cell? ⟨g, k * 2 + 1, none⟩ = some (.int .i64 d2) := (hB.cell lg).trans b1
      have i0 : (0 : Int) ≤ (k : Int) := by omega
      have i1 : (k : Int) < (ks.length : Int) := by omega
      have HPk := hide ((unhide HP) wr (d1, d2) hB)
      have HD := hide hd
      have HB := hide hB
      clear hd hB
      cases ho : p (d1, d2)
      · rw [ho] at HPk
        have HO := hide ho
        clear ho
        go_wp2_with (go_at_call 133; refine (unhide HPk).mono ?_; rintro e w' ⟨rfl, hb'⟩; have HB' := hide hb'; clear hb')
        go_roundw
        case rel =>
          refine ⟨k + 1, by omega, by go_num, ?_, (unhide HB).trans ((unhide HB').mono (unhide HB).size)⟩
          intro x hx
          rw [List.take_add_one, unhide HD] at hx
          rcases List.mem_append.1 hx with hx | hx
          · exact (unhide HH) x hx
          · simp at hx; rw [hx]; exact unhide HO
        case measure => simp [intOf]; omega
      · rw [ho] at HPk
        have HO := hide ho
        clear ho
        go_wp2_with (go_at_call 133; refine (unhide HPk).mono ?_; rintro e w' ⟨rfl, hb'⟩; have HB' := hide hb'; clear hb')
        go_ret
        exact ⟨⟨_, rfl, .inr ⟨k, rfl, hlt, unhide HH, fun x hx => by rw [unhide HD] at hx; rw [← Option.some.inj hx]; exact unhide HO⟩⟩, (unhide HB).trans ((unhide HB').mono (unhide HB).size)⟩
    · have HB := hide hB
      clear hB
      go_wp2
      go_ret
      exact ⟨⟨_, rfl, .inl ⟨rfl, fun x hx => (unhide HH) x (by rw [List.take_of_length_le (by omega)]; exact hx)⟩⟩, unhide HB⟩

theorem filter_none {α : Type} (q : α → Bool) : ∀ l : List α, (∀ x ∈ l, q x = false) → l.filter (fun x => !q x) = l := by
  intro l h
  rw [List.filter_eq_self]
  intro x hx
  simp [h x hx]
theorem fst_none {p : Int × Int → Bool} {ks : List (Int × Int)} {n : Int} (hall : ∀ k ∈ ks, p k = false) (h : Fst p ks n) : n = -1 := by
  rcases h with ⟨rfl, _⟩ | ⟨i, rfl, hi, _, h2⟩
  · rfl
  · have := h2 ks[i] (by simp [hi])
    rw [hall _ (List.getElem_mem hi)] at this
    cases this
theorem fst_some {p : Int × Int → Bool} {ks : List (Int × Int)} {n : Int} {i : Nat} {x : Int × Int} (hx : ks[i]? = some x) (h1 : ∀ k ∈ ks.take i, p k = false) (h2 : p x = true) (h : Fst p ks n) : n = i := by
  have hi : i < ks.length := (List.getElem?_eq_some_iff.1 hx).1
  have hxi : ks[i] = x := (List.getElem?_eq_some_iff.1 hx).2
  rcases h with ⟨rfl, hall⟩ | ⟨j, rfl, hj, k1, k2⟩
  · rw [hall x (List.mem_of_getElem? hx)] at h2; cases h2
  · rcases Nat.lt_trichotomy i j with hlt | heq | hgt
    · have := k1 ks[i] (List.mem_take_iff_getElem.2 ⟨i, by omega, rfl⟩)
      rw [hxi, h2] at this; cases this
    · rw [heq]
    · have := h1 ks[j] (List.mem_take_iff_getElem.2 ⟨j, by omega, rfl⟩)
      rw [k2 ks[j] (by simp [hj])] at this; cases this
theorem fst_ex (p : Int × Int → Bool) (ks : List (Int × Int)) : (∀ k ∈ ks, p k = false) ∨ ∃ i x, ks[i]? = some x ∧ (∀ k ∈ ks.take i, p k = false) ∧ p x = true := by
  induction ks with
  | nil => exact .inl (by simp)
  | cons a ks ih =>
    cases ha : p a
    · rcases ih with ih | ⟨i, x, h1, h2, h3⟩
      · exact .inl (fun k hk => by rcases List.mem_cons.1 hk with rfl | hk; exact ha; exact ih k hk)
      · exact .inr ⟨i + 1, x, by simpa using h1, fun k hk => by rw [List.take_succ_cons] at hk; rcases List.mem_cons.1 hk with rfl | hk; exact ha; exact h2 k hk, h3⟩
    · exact .inr ⟨0, a, rfl, by simp, ha⟩
theorem filter_snoc {α : Type} (q : α → Bool) (l : List α) (x : α) : (l ++ [x]).filter q = if q x = true then l.filter q ++ [x] else l.filter q := by
  rw [List.filter_append]
  by_cases h : q x = true
  · rw [if_pos h]; simp [h]
  · rw [if_neg h]; simp [h]

set_option maxHeartbeats 4000000 in
theorem kdelf_any {w : World} {v : Value} {ks : List (Int × Int)} (hO : Own2 w 0 143 v (ks.map k2)) (hl : ks.length ≤ 100000000) (p : Int × Int → Bool) (cb : Nat)
    (hP : ∀ (W : World) (k : Int × Int), But (fun x => v.ownBlock = some x) w W → Calls Try.prog 133 #[.agg #[.int .i64 k.1, .int .i64 k.2], .pointer (some ⟨cb, 0, none⟩)] W fun e w' => e = .returned (.bool (p k)) ∧ Below W.heap.size W w')
    (F : List (Int × Int)) (hF : F = ks.filter fun k => !p k) :
    Calls Try.prog 132 #[v, .func (.func 133) #[] #[.pointer (some ⟨cb, 0, none⟩)]] w fun e w' => (∃ v', e = .returned v' ∧ Own2 w' 0 143 v' (F.map k2) ∧ v'.ownBlock = v.ownBlock) ∧ But (fun x => v.ownBlock = some x) w w' := by
  have hI := kidxf_any hO hl p cb (fun W k hb => hP W k (.of_below hb))
  rcases fst_ex p ks with hall | ⟨i, x, hx, h1, h2⟩
  · have hI := hI.mono (R' := fun e w' => e = .returned (.int .i64 (-1)) ∧ Below w.heap.size w w') (by rintro e w' ⟨⟨n, rfl, hf⟩, hb⟩; rw [fst_none hall hf]; exact ⟨rfl, hb⟩)
    have hFe : F = ks := by rw [hF, filter_none p ks hall]
    have hE : ∀ w', Below w.heap.size w w' → (∃ v', Ending.returned v = .returned v' ∧ Own2 w' 0 143 v' (F.map k2) ∧ v'.ownBlock = v.ownBlock) ∧ But (fun x => v.ownBlock = some x) w w' := fun w' hb => ⟨⟨v, rfl, by rw [hFe]; exact row_but hO (S := fun _ => False) (.of_below hb) (fun _ _ h => h), rfl⟩, .of_below hb⟩
    obtain ⟨ao, cap, rfl⟩ := row_slice hO
    have hlm : (ks.map k2).length = ks.length := by simp
    rw [hlm] at hI hE ⊢
    have HI := hide hI
    have HE := hide hE
    clear hI hE hP hO hF hFe
    go_enter Try.func132, Try.ntmps132
    go_wp2_with (go_at_call 142; refine (unhide HI).mono ?_; rintro e w1 ⟨rfl, hb1⟩; have HB1 := hide hb1; clear hb1)
    go_ret
    exact (unhide HE) _ (unhide HB1)
  · have hI := hI.mono (R' := fun e w' => e = .returned (.int .i64 (i : Int)) ∧ Below w.heap.size w w') (by rintro e w' ⟨⟨n, rfl, hf⟩, hb⟩; rw [fst_some hx h1 h2 hf]; exact ⟨rfl, hb⟩)
    have hi : i < ks.length := (List.getElem?_eq_some_iff.1 hx).1
    have hlm : (ks.map k2).length = ks.length := by simp
    obtain ⟨g, cap, rfl⟩ := row_some hO (by omega)
    obtain ⟨R, hR, hcl, _, hb0, hmx⟩ := Own2.row hO
    obtain ⟨L, hL⟩ : ∃ L, L = ks.map k2 ++ R := ⟨_, rfl⟩
    rw [← hL] at hR hcl
    rw [hlm] at hI ⊢
    have hcn : ks.length ≤ cap := by rw [← hcl, hL]; simp
    obtain ⟨n, hn⟩ : ∃ n, n = ks.length := ⟨_, rfl⟩
    rw [← hn] at hI ⊢
    have hl : ks.length ≤ 100000000 := hl
    have hP : ∀ (W : World) (k : Int × Int), But (fun x => x = g) w W → Calls Try.prog 133 #[.agg #[.int .i64 k.1, .int .i64 k.2], .pointer (some ⟨cb, 0, none⟩)] W fun e w' => e = .returned (.bool (p k)) ∧ Below W.heap.size W w' := fun W k hb => hP W k (hb.wide (fun x _ e => by rw [e]; rfl))
    have hS : ∀ w', But (fun x => x = g) w w' → But (fun x => (Value.slice (some ⟨g, 0, none⟩) n cap).ownBlock = some x) w w' := fun w' hb => hb.wide (fun x _ e => by rw [e]; rfl)
    have hLk : ∀ j k, ks[j]? = some k → L[j]? = some (k2 k) := fun j k hk => by
      rw [hL, List.getElem?_append_left (by simp; exact (List.getElem?_eq_some_iff.1 hk).1), List.getElem?_map, hk]; rfl
    have HI := hide hI
    have HP := hide hP
    have HS := hide hS
    have HR := hide hR
    have HN := hide hn
    have HF := hide hF
    have HLk := hide hLk
    have HL := hide hL
    have HCL := hide hcl
    have HH1 := hide h1
    have HH2 := hide h2
    have HX := hide hx
    have hwi : IntKind.i64.wrap ((i : Int) + 1) = ((i + 1 : Nat) : Int) := by rw [IntKind.wrap_i64]; omega
    have hi1 : ((i : Int) == -1) = false := by simp
    have hin : i < n := by omega
    have hncap : n ≤ cap := by omega
    have hn8 : n ≤ 100000000 := by omega
    clear hI hP hS hR hF hLk hL hcl h1 h2 hx hO hlm hi hcn hl hn
    go_enter Try.func132, Try.ntmps132
    go_wp2_with (go_at_call 142; refine (unhide HI).mono ?_; rintro e w1 ⟨rfl, hb1⟩; have HB1 := hide hb1; clear hb1)
    go_loopw [5, 6] (fun a b wr => ∃ (m j : Nat) (Lw : List P2), a = .int .i64 (m : Int) ∧ b = .int .i64 (j : Int) ∧ m < j ∧ j ≤ n ∧ Row2 wr g 143 Lw ∧ Lw.length = cap ∧ Lw.take m = ((ks.take j).filter fun k => !p k).map k2 ∧ m = ((ks.take j).filter fun k => !p k).length ∧ Lw.drop j = L.drop j ∧ But (fun x => x = g) w wr) (fun a b _ => n - (intOf b).toNat)
    case atStart =>
      have hn := unhide HN
      have e0 : (ks.take (i + 1)).filter (fun k => !p k) = ks.take i := by
        rw [List.take_add_one, unhide HX]
        show (ks.take i ++ [x]).filter _ = _
        rw [filter_snoc, if_neg (by rw [unhide HH2]; simp), filter_none p _ (unhide HH1)]
      refine ⟨i, i + 1, L, rfl, by go_num, by omega, by omega, (But.of_below (S := fun _ => False) (unhide HB1)).heap (unhide HR) (fun h => h), unhide HCL, ?_, ?_, rfl, .of_below (unhide HB1)⟩
      · rw [e0, unhide HL, List.take_append_of_le_length (by simp; omega), List.map_take]
      · rw [e0, List.length_take]; omega
    case round =>
      obtain ⟨m, j, Lw, rfl, rfl, hmj, hjn, hrw, hlw, htk, hml, hdr, hbt⟩ := hrel
      have HRW := hide hrw
      have HTK := hide htk
      have HML := hide hml
      have HDR := hide hdr
      have HBT := hide hbt
      have HLW := hide hlw
      have lg : g < wr.heap.size := lt_of_heap hrw
      clear hrw htk hml hdr hbt hlw
      by_cases hlt : j < n
      · obtain ⟨⟨d1, d2⟩, hd⟩ : ∃ d, ks[j]? = some d := ⟨ks[j]'(by rw [← unhide HN]; exact hlt), by simp⟩
        have hLj : Lw[j]? = some (k2 (d1, d2)) := by
          have h1 : (Lw.drop j)[0]? = (L.drop j)[0]? := by rw [unhide HDR]
          simp only [List.getElem?_drop, Nat.add_zero] at h1
          rw [h1]; exact (unhide HLk) j _ hd
        obtain ⟨b0, b1⟩ := row2_at (unhide HRW) hLj
        simp only [k2] at b0 b1
        have i0 : (0 : Int) ≤ (j : Int) := by omega
        have i1 : (j : Int) < (n : Int) := by omega
        have i2 : (0 : Int) ≤ (m : Int) := by omega
        have i3 : (m : Int) < (n : Int) := by omega
        have hwj : IntKind.i64.wrap ((j : Int) + 1) = ((j + 1 : Nat) : Int) := by rw [IntKind.wrap_i64]; omega
        have hwm : IntKind.i64.wrap ((m : Int) + 1) = ((m + 1 : Nat) : Int) := by rw [IntKind.wrap_i64]; omega
        have hBx : But (fun x => x = g) w (wr.alloc (.cells #[.int .i64 d1, .int .i64 d2] 143)) := (unhide HBT).alloc _
        have HPk := hide ((unhide HP) _ (d1, d2) hBx)
        have hNx : (wr.alloc (.cells #[.int .i64 d1, .int .i64 d2] 143)).heap[wr.heap.size]? = some (.cells #[.int .i64 d1, .int .i64 d2] 143) := new_at _ _ _ rfl
        have hRx : Row2 (wr.alloc (.cells #[.int .i64 d1, .int .i64 d2] 143)) g 143 Lw := blk_alloc (unhide HRW) _
        have HNx := hide hNx
        have HRx := hide hRx
        have HBx := hide hBx
        have hne : ¬ g = wr.heap.size := by omega
        obtain ⟨⟨q1, q2⟩, hq⟩ : ∃ q, Lw[m]? = some q := ⟨Lw[m]'(by rw [unhide HLW]; omega), by simp⟩
        have HQ := hide hq
        clear hq
        have HD := hide hd
        clear hd hLj hNx hRx hBx
        cases ho : p (d1, d2)
        · rw [ho] at HPk
          have HO := hide ho
          clear ho
          go_wp2_with (go_at_call 133; refine (unhide HPk).mono ?_; rintro e w' ⟨rfl, hb'⟩; have y0 : w'.cell? ⟨wr.heap.size, 0, none⟩ = some (.int .i64 d1) := blk_cell ((hb'.block _ (by simp)).trans (unhide HNx)) 0; have y1 : w'.cell? ⟨wr.heap.size, 1, none⟩ = some (.int .i64 d2) := blk_cell ((hb'.block _ (by simp)).trans (unhide HNx)) 1; have hR' : Row2 w' g 143 Lw := (hb'.block _ (by simp; omega)).trans (unhide HRx); have f' : ∀ t, w'.frozen? ⟨g, t, none⟩ = false := blk_thaw hR'; obtain ⟨u0, u1⟩ := row2_at hR' (unhide HQ); have HR' := hide hR'; have HB' := hide hb'; clear hb' hR')
          go_roundw
          case rel =>
            have eF : (ks.take (j + 1)).filter (fun k => !p k) = (ks.take j).filter (fun k => !p k) ++ [(d1, d2)] := by
              rw [List.take_add_one, unhide HD]
              show (ks.take j ++ [(d1, d2)]).filter _ = _
              rw [filter_snoc, if_pos (by rw [unhide HO]; rfl)]
            refine ⟨m + 1, j + 1, Lw.set m (k2 (d1, d2)), by go_num, by go_num, by omega, by omega, row2_set (unhide HR') m (k2 (d1, d2)), by rw [List.length_set]; exact unhide HLW, ?_, ?_, ?_, (((unhide HBx).trans (.of_below (unhide HB'))).setCell (p := ⟨g, m * 2, none⟩) (.inl rfl) _).setCell (p := ⟨g, m * 2 + 1, none⟩) (.inl rfl) _⟩
            · rw [eF, List.map_append, ← unhide HTK]
              rw [List.take_add_one, List.getElem?_set_self (by rw [unhide HLW]; omega), List.take_set_of_le (Nat.le_refl _)]
              rfl
            · rw [eF, List.length_append, ← unhide HML]; rfl
            · rw [List.drop_set_of_lt (by omega)]
              have := congrArg (List.drop 1) (unhide HDR)
              rw [List.drop_drop, List.drop_drop] at this
              exact this
          case measure => simp [intOf]; omega
        · rw [ho] at HPk
          have HO := hide ho
          clear ho
          go_wp2_with (go_at_call 133; refine (unhide HPk).mono ?_; rintro e w' ⟨rfl, hb'⟩; have HB' := hide hb'; clear hb')
          go_roundw
          case rel =>
            have eF : (ks.take (j + 1)).filter (fun k => !p k) = (ks.take j).filter (fun k => !p k) := by
              rw [List.take_add_one, unhide HD]
              show (ks.take j ++ [(d1, d2)]).filter _ = _
              rw [filter_snoc, if_neg (by rw [unhide HO]; simp)]
            refine ⟨m, j + 1, Lw, rfl, by go_num, by omega, by omega, ((unhide HB').block _ (by simp; omega)).trans (unhide HRx), unhide HLW, by rw [eF]; exact unhide HTK, by rw [eF]; exact unhide HML, ?_, (unhide HBx).trans (.of_below (unhide HB'))⟩
            have := congrArg (List.drop 1) (unhide HDR)
            rw [List.drop_drop, List.drop_drop] at this
            exact this
          case measure => simp [intOf]; omega
      · have hjn : j = n := by omega
        subst hjn
        have hFl : F = (ks.take j).filter fun k => !p k := by rw [unhide HF, List.take_of_length_le (by rw [unhide HN]; exact Nat.le_refl _)]
        obtain ⟨w2, hw2⟩ : ∃ w2, w2 = wr.setRow g (c2 (Lw.take m ++ List.replicate (j - m) zkey ++ Lw.drop (m + (j - m)))).toArray := ⟨_, rfl⟩
        have hclr : ∀ mc, (Builtin.clear_ #[140] 0 #[.slice (some ⟨g, m * 2, none⟩) (j - m) mc]).run Try.prog wr = .ok (.tuple #[]) w2 := fun mc => by
          rw [hw2]
          exact run_clear_row2 (m := j - m) (o := m) (z := zkey) Try.underlying140 (by rfl) (unhide HRW) (by omega) (by rw [unhide HLW]; omega) ⟨rfl, rfl⟩
        have hO2 : Own2 w2 0 143 (.slice (some ⟨g, 0, none⟩) m cap) (F.map k2) := by
          have hr2 := setRow_heap wr g _ (c2 (Lw.take m ++ List.replicate (j - m) zkey ++ Lw.drop (m + (j - m)))).toArray _ _ (unhide HRW)
          rw [← hw2, List.append_assoc, unhide HTK, ← hFl] at hr2
          have hlen : (F.map k2).length = m := by rw [List.length_map, hFl]; exact (unhide HML).symm
          have := own2_of hr2 (cap := cap) (by rw [List.length_append, hlen, List.length_append, List.length_replicate, List.length_drop, unhide HLW]; omega) (Nat.zero_le _) hmx
          rw [hlen] at this
          rw [Own2, hlen]
          rw [Own2, hlen] at this
          exact this
        have hB2 : But (fun x => x = g) w w2 := by
          rw [hw2]
          exact (unhide HBT).trans ⟨rfl, rfl, rfl, by simp, fun k _ hk => setRow_other _ _ _ _ hk⟩
        have HO2 := hide hO2
        have HB2 := hide hB2
        have j0 : (0 : Int) ≤ (m : Int) := by omega
        have j1 : (m : Int) ≤ (j : Int) := by omega
        have j2 : (j : Int) ≤ (cap : Int) := by omega
        have j3 : ¬ cap = m := by omega
        have j4 : (m : Int) ≤ (cap : Int) := by omega
        clear hO2 hB2 hw2 hFl
        go_wp2
        go_ret
        exact ⟨⟨_, rfl, unhide HO2, rfl⟩, (unhide HS) _ (unhide HB2)⟩
end Go.Proofs.Ytfnockbgkcgpkaa
set_option linter.all false
namespace Go.Proofs.Ytfnockbgkcgpkaa
open Go.RowKit Go.Proofs.Panes
set_option maxRecDepth 100000
/-- The mark's client is compared with the captured one. -/
theorem fgt1_any {w : World} {cb : Nat} {c : Int} (hb : w.heap[cb]? = some (.cells #[.int .i64 c] 3 (0, 0))) (k : Int × Int) :
    Calls Try.prog 88 #[.agg #[.int .i64 k.1, .int .i64 k.2], .pointer (some ⟨cb, 0, none⟩)] w fun e w' => e = .returned (.bool (k.1 == c)) ∧ Below w.heap.size w w' := by
  obtain ⟨a, b⟩ := k
  have c0 : w.cell? ⟨cb, 0, none⟩ = some (.int .i64 c) := blk_cell hb 0
  have lb : cb < w.heap.size := lt_of_heap hb
  clear hb
  go_enter Try.func88, Try.ntmps88
  go_wp2
  go_ret
  exact ⟨by simp, (Below.refl _ w).alloc (Nat.le_refl _) _⟩

set_option maxHeartbeats 2000000 in
theorem fidxf_any {w : World} {v : Value} {ks : List (Int × Int)} (hO : Own2 w 0 95 v (ks.map k2)) (hl : ks.length ≤ 1000000000) (p : Int × Int → Bool) (cb : Nat)
    (hP : ∀ (W : World) (k : Int × Int), Below w.heap.size w W → Calls Try.prog 88 #[.agg #[.int .i64 k.1, .int .i64 k.2], .pointer (some ⟨cb, 0, none⟩)] W fun e w' => e = .returned (.bool (p k)) ∧ Below W.heap.size W w') :
    Calls Try.prog 113 #[v, .func (.func 88) #[] #[.pointer (some ⟨cb, 0, none⟩)]] w fun e w' => (∃ n : Int, e = .returned (.int .i64 n) ∧ Fst p ks n) ∧ Below w.heap.size w w' := by
  obtain ⟨ao, cap, rfl⟩ := row_slice hO
  have hlm : (ks.map k2).length = ks.length := by simp
  rw [hlm]
  have hc : ∀ (j : Nat) (k : Int × Int), ks[j]? = some k → ∃ g, ao = some ⟨g, 0, none⟩ ∧ g < w.heap.size ∧ w.cell? ⟨g, j * 2, none⟩ = some (.int .i64 k.1) ∧ w.cell? ⟨g, j * 2 + 1, none⟩ = some (.int .i64 k.2) := by
    intro j k hk
    have hj : j < ks.length := (List.getElem?_eq_some_iff.1 hk).1
    rcases hO.2 with ⟨e, e'⟩ | ⟨g, c, cur, e, _, hg, _⟩
    · rw [hlm] at e'; omega
    · simp only [Value.slice.injEq] at e
      obtain ⟨rfl, _, rfl⟩ := e
      have := own2_at hO (p := k2 k) (j := j) (by rw [List.getElem?_map, hk]; rfl)
      exact ⟨g, rfl, lt_of_heap hg, this⟩
  have HC := hide hc
  have HP := hide hP
  clear hc hP hO hlm
  go_enter Try.func113, Try.ntmps113
  go_wp2
  go_loopw [8] (fun i wr => ∃ k : Nat, k ≤ ks.length ∧ i = .int .i64 k ∧ (∀ x ∈ ks.take k, p x = false) ∧ Below w.heap.size w wr) (fun i _ => ks.length - (intOf i).toNat)
  case atStart => exact ⟨0, Nat.zero_le _, rfl, by simp, Below.refl _ w⟩
  case round =>
    obtain ⟨k, hk, rfl, hh, hB⟩ := hrel
    have HH := hide hh
    clear hh
    by_cases hlt : k < ks.length
    · obtain ⟨⟨d1, d2⟩, hd⟩ : ∃ d, ks[k]? = some d := ⟨ks[k], by simp [hlt]⟩
      obtain ⟨g, rfl, lg, b0, b1⟩ := (unhide HC) k _ hd
      have b0 : wr.cell? ⟨g, k * 2, none⟩ = some (.int .i64 d1) := (hB.cell lg).trans b0
      have b1 : wr.cell? ⟨g, k * 2 + 1, none⟩ = some (.int .i64 d2) := (hB.cell lg).trans b1
      have i0 : (0 : Int) ≤ (k : Int) := by omega
      have i1 : (k : Int) < (ks.length : Int) := by omega
      have HPk := hide ((unhide HP) wr (d1, d2) hB)
      have HD := hide hd
      have HB := hide hB
      clear hd hB
      cases ho : p (d1, d2)
      · rw [ho] at HPk
        have HO := hide ho
        clear ho
        go_wp2_with (go_at_call 88; refine (unhide HPk).mono ?_; rintro e w' ⟨rfl, hb'⟩; have HB' := hide hb'; clear hb')
        go_roundw
        case rel =>
          refine ⟨k + 1, by omega, by go_num, ?_, (unhide HB).trans ((unhide HB').mono (unhide HB).size)⟩
          intro x hx
          rw [List.take_add_one, unhide HD] at hx
          rcases List.mem_append.1 hx with hx | hx
          · exact (unhide HH) x hx
          · simp at hx; rw [hx]; exact unhide HO
        case measure => simp [intOf]; omega
      · rw [ho] at HPk
        have HO := hide ho
        clear ho
        go_wp2_with (go_at_call 88; refine (unhide HPk).mono ?_; rintro e w' ⟨rfl, hb'⟩; have HB' := hide hb'; clear hb')
        go_ret
        exact ⟨⟨_, rfl, .inr ⟨k, rfl, hlt, unhide HH, fun x hx => by rw [unhide HD] at hx; rw [← Option.some.inj hx]; exact unhide HO⟩⟩, (unhide HB).trans ((unhide HB').mono (unhide HB).size)⟩
    · have HB := hide hB
      clear hB
      go_wp2
      go_ret
      exact ⟨⟨_, rfl, .inl ⟨rfl, fun x hx => (unhide HH) x (by rw [List.take_of_length_le (by omega)]; exact hx)⟩⟩, unhide HB⟩

set_option maxHeartbeats 4000000 in
theorem fdelf_any {w : World} {v : Value} {ks : List (Int × Int)} (hO : Own2 w 0 95 v (ks.map k2)) (hl : ks.length ≤ 1000000000) (p : Int × Int → Bool) (cb : Nat)
    (hP : ∀ (W : World) (k : Int × Int), But (fun x => v.ownBlock = some x) w W → Calls Try.prog 88 #[.agg #[.int .i64 k.1, .int .i64 k.2], .pointer (some ⟨cb, 0, none⟩)] W fun e w' => e = .returned (.bool (p k)) ∧ Below W.heap.size W w')
    (F : List (Int × Int)) (hF : F = ks.filter fun k => !p k) :
    Calls Try.prog 89 #[v, .func (.func 88) #[] #[.pointer (some ⟨cb, 0, none⟩)]] w fun e w' => (∃ v', e = .returned v' ∧ Own2 w' 0 95 v' (F.map k2) ∧ v'.ownBlock = v.ownBlock) ∧ But (fun x => v.ownBlock = some x) w w' := by
  have hI := fidxf_any hO hl p cb (fun W k hb => hP W k (.of_below hb))
  rcases fst_ex p ks with hall | ⟨i, x, hx, h1, h2⟩
  · have hI := hI.mono (R' := fun e w' => e = .returned (.int .i64 (-1)) ∧ Below w.heap.size w w') (by rintro e w' ⟨⟨n, rfl, hf⟩, hb⟩; rw [fst_none hall hf]; exact ⟨rfl, hb⟩)
    have hFe : F = ks := by rw [hF, filter_none p ks hall]
    have hE : ∀ w', Below w.heap.size w w' → (∃ v', Ending.returned v = .returned v' ∧ Own2 w' 0 95 v' (F.map k2) ∧ v'.ownBlock = v.ownBlock) ∧ But (fun x => v.ownBlock = some x) w w' := fun w' hb => ⟨⟨v, rfl, by rw [hFe]; exact row_but hO (S := fun _ => False) (.of_below hb) (fun _ _ h => h), rfl⟩, .of_below hb⟩
    obtain ⟨ao, cap, rfl⟩ := row_slice hO
    have hlm : (ks.map k2).length = ks.length := by simp
    rw [hlm] at hI hE ⊢
    have HI := hide hI
    have HE := hide hE
    clear hI hE hP hO hF hFe
    go_enter Try.func89, Try.ntmps89
    go_wp2_with (go_at_call 113; refine (unhide HI).mono ?_; rintro e w1 ⟨rfl, hb1⟩; have HB1 := hide hb1; clear hb1)
    go_ret
    exact (unhide HE) _ (unhide HB1)
  · have hI := hI.mono (R' := fun e w' => e = .returned (.int .i64 (i : Int)) ∧ Below w.heap.size w w') (by rintro e w' ⟨⟨n, rfl, hf⟩, hb⟩; rw [fst_some hx h1 h2 hf]; exact ⟨rfl, hb⟩)
    have hi : i < ks.length := (List.getElem?_eq_some_iff.1 hx).1
    have hlm : (ks.map k2).length = ks.length := by simp
    obtain ⟨g, cap, rfl⟩ := row_some hO (by omega)
    obtain ⟨R, hR, hcl, _, hb0, hmx⟩ := Own2.row hO
    obtain ⟨L, hL⟩ : ∃ L, L = ks.map k2 ++ R := ⟨_, rfl⟩
    rw [← hL] at hR hcl
    rw [hlm] at hI ⊢
    have hcn : ks.length ≤ cap := by rw [← hcl, hL]; simp
    obtain ⟨n, hn⟩ : ∃ n, n = ks.length := ⟨_, rfl⟩
    rw [← hn] at hI ⊢
    have hl : ks.length ≤ 1000000000 := hl
    have hP : ∀ (W : World) (k : Int × Int), But (fun x => x = g) w W → Calls Try.prog 88 #[.agg #[.int .i64 k.1, .int .i64 k.2], .pointer (some ⟨cb, 0, none⟩)] W fun e w' => e = .returned (.bool (p k)) ∧ Below W.heap.size W w' := fun W k hb => hP W k (hb.wide (fun x _ e => by rw [e]; rfl))
    have hS : ∀ w', But (fun x => x = g) w w' → But (fun x => (Value.slice (some ⟨g, 0, none⟩) n cap).ownBlock = some x) w w' := fun w' hb => hb.wide (fun x _ e => by rw [e]; rfl)
    have hLk : ∀ j k, ks[j]? = some k → L[j]? = some (k2 k) := fun j k hk => by
      rw [hL, List.getElem?_append_left (by simp; exact (List.getElem?_eq_some_iff.1 hk).1), List.getElem?_map, hk]; rfl
    have HI := hide hI
    have HP := hide hP
    have HS := hide hS
    have HR := hide hR
    have HN := hide hn
    have HF := hide hF
    have HLk := hide hLk
    have HL := hide hL
    have HCL := hide hcl
    have HH1 := hide h1
    have HH2 := hide h2
    have HX := hide hx
    have hwi : IntKind.i64.wrap ((i : Int) + 1) = ((i + 1 : Nat) : Int) := by rw [IntKind.wrap_i64]; omega
    have hi1 : ((i : Int) == -1) = false := by simp
    have hin : i < n := by omega
    have hncap : n ≤ cap := by omega
    have hn8 : n ≤ 1000000000 := by omega
    clear hI hP hS hR hF hLk hL hcl h1 h2 hx hO hlm hi hcn hl hn
    go_enter Try.func89, Try.ntmps89
    go_wp2_with (go_at_call 113; refine (unhide HI).mono ?_; rintro e w1 ⟨rfl, hb1⟩; have HB1 := hide hb1; clear hb1)
    go_loopw [5, 6] (fun a b wr => ∃ (m j : Nat) (Lw : List P2), a = .int .i64 (m : Int) ∧ b = .int .i64 (j : Int) ∧ m < j ∧ j ≤ n ∧ Row2 wr g 95 Lw ∧ Lw.length = cap ∧ Lw.take m = ((ks.take j).filter fun k => !p k).map k2 ∧ m = ((ks.take j).filter fun k => !p k).length ∧ Lw.drop j = L.drop j ∧ But (fun x => x = g) w wr) (fun a b _ => n - (intOf b).toNat)
    case atStart =>
      have hn := unhide HN
      have e0 : (ks.take (i + 1)).filter (fun k => !p k) = ks.take i := by
        rw [List.take_add_one, unhide HX]
        show (ks.take i ++ [x]).filter _ = _
        rw [filter_snoc, if_neg (by rw [unhide HH2]; simp), filter_none p _ (unhide HH1)]
      refine ⟨i, i + 1, L, rfl, by go_num, by omega, by omega, (But.of_below (S := fun _ => False) (unhide HB1)).heap (unhide HR) (fun h => h), unhide HCL, ?_, ?_, rfl, .of_below (unhide HB1)⟩
      · rw [e0, unhide HL, List.take_append_of_le_length (by simp; omega), List.map_take]
      · rw [e0, List.length_take]; omega
    case round =>
      obtain ⟨m, j, Lw, rfl, rfl, hmj, hjn, hrw, hlw, htk, hml, hdr, hbt⟩ := hrel
      have HRW := hide hrw
      have HTK := hide htk
      have HML := hide hml
      have HDR := hide hdr
      have HBT := hide hbt
      have HLW := hide hlw
      have lg : g < wr.heap.size := lt_of_heap hrw
      clear hrw htk hml hdr hbt hlw
      by_cases hlt : j < n
      · obtain ⟨⟨d1, d2⟩, hd⟩ : ∃ d, ks[j]? = some d := ⟨ks[j]'(by rw [← unhide HN]; exact hlt), by simp⟩
        have hLj : Lw[j]? = some (k2 (d1, d2)) := by
          have h1 : (Lw.drop j)[0]? = (L.drop j)[0]? := by rw [unhide HDR]
          simp only [List.getElem?_drop, Nat.add_zero] at h1
          rw [h1]; exact (unhide HLk) j _ hd
        obtain ⟨b0, b1⟩ := row2_at (unhide HRW) hLj
        simp only [k2] at b0 b1
        have i0 : (0 : Int) ≤ (j : Int) := by omega
        have i1 : (j : Int) < (n : Int) := by omega
        have i2 : (0 : Int) ≤ (m : Int) := by omega
        have i3 : (m : Int) < (n : Int) := by omega
        have hwj : IntKind.i64.wrap ((j : Int) + 1) = ((j + 1 : Nat) : Int) := by rw [IntKind.wrap_i64]; omega
        have hwm : IntKind.i64.wrap ((m : Int) + 1) = ((m + 1 : Nat) : Int) := by rw [IntKind.wrap_i64]; omega
        have hBx : But (fun x => x = g) w (wr.alloc (.cells #[.int .i64 d1, .int .i64 d2] 95)) := (unhide HBT).alloc _
        have HPk := hide ((unhide HP) _ (d1, d2) hBx)
        have hNx : (wr.alloc (.cells #[.int .i64 d1, .int .i64 d2] 95)).heap[wr.heap.size]? = some (.cells #[.int .i64 d1, .int .i64 d2] 95) := new_at _ _ _ rfl
        have hRx : Row2 (wr.alloc (.cells #[.int .i64 d1, .int .i64 d2] 95)) g 95 Lw := blk_alloc (unhide HRW) _
        have HNx := hide hNx
        have HRx := hide hRx
        have HBx := hide hBx
        have hne : ¬ g = wr.heap.size := by omega
        obtain ⟨⟨q1, q2⟩, hq⟩ : ∃ q, Lw[m]? = some q := ⟨Lw[m]'(by rw [unhide HLW]; omega), by simp⟩
        have HQ := hide hq
        clear hq
        have HD := hide hd
        clear hd hLj hNx hRx hBx
        cases ho : p (d1, d2)
        · rw [ho] at HPk
          have HO := hide ho
          clear ho
          go_wp2_with (go_at_call 88; refine (unhide HPk).mono ?_; rintro e w' ⟨rfl, hb'⟩; have y0 : w'.cell? ⟨wr.heap.size, 0, none⟩ = some (.int .i64 d1) := blk_cell ((hb'.block _ (by simp)).trans (unhide HNx)) 0; have y1 : w'.cell? ⟨wr.heap.size, 1, none⟩ = some (.int .i64 d2) := blk_cell ((hb'.block _ (by simp)).trans (unhide HNx)) 1; have hR' : Row2 w' g 95 Lw := (hb'.block _ (by simp; omega)).trans (unhide HRx); have f' : ∀ t, w'.frozen? ⟨g, t, none⟩ = false := blk_thaw hR'; obtain ⟨u0, u1⟩ := row2_at hR' (unhide HQ); have HR' := hide hR'; have HB' := hide hb'; clear hb' hR')
          go_roundw
          case rel =>
            have eF : (ks.take (j + 1)).filter (fun k => !p k) = (ks.take j).filter (fun k => !p k) ++ [(d1, d2)] := by
              rw [List.take_add_one, unhide HD]
              show (ks.take j ++ [(d1, d2)]).filter _ = _
              rw [filter_snoc, if_pos (by rw [unhide HO]; rfl)]
            refine ⟨m + 1, j + 1, Lw.set m (k2 (d1, d2)), by go_num, by go_num, by omega, by omega, row2_set (unhide HR') m (k2 (d1, d2)), by rw [List.length_set]; exact unhide HLW, ?_, ?_, ?_, (((unhide HBx).trans (.of_below (unhide HB'))).setCell (p := ⟨g, m * 2, none⟩) (.inl rfl) _).setCell (p := ⟨g, m * 2 + 1, none⟩) (.inl rfl) _⟩
            · rw [eF, List.map_append, ← unhide HTK]
              rw [List.take_add_one, List.getElem?_set_self (by rw [unhide HLW]; omega), List.take_set_of_le (Nat.le_refl _)]
              rfl
            · rw [eF, List.length_append, ← unhide HML]; rfl
            · rw [List.drop_set_of_lt (by omega)]
              have := congrArg (List.drop 1) (unhide HDR)
              rw [List.drop_drop, List.drop_drop] at this
              exact this
          case measure => simp [intOf]; omega
        · rw [ho] at HPk
          have HO := hide ho
          clear ho
          go_wp2_with (go_at_call 88; refine (unhide HPk).mono ?_; rintro e w' ⟨rfl, hb'⟩; have HB' := hide hb'; clear hb')
          go_roundw
          case rel =>
            have eF : (ks.take (j + 1)).filter (fun k => !p k) = (ks.take j).filter (fun k => !p k) := by
              rw [List.take_add_one, unhide HD]
              show (ks.take j ++ [(d1, d2)]).filter _ = _
              rw [filter_snoc, if_neg (by rw [unhide HO]; simp)]
            refine ⟨m, j + 1, Lw, rfl, by go_num, by omega, by omega, ((unhide HB').block _ (by simp; omega)).trans (unhide HRx), unhide HLW, by rw [eF]; exact unhide HTK, by rw [eF]; exact unhide HML, ?_, (unhide HBx).trans (.of_below (unhide HB'))⟩
            have := congrArg (List.drop 1) (unhide HDR)
            rw [List.drop_drop, List.drop_drop] at this
            exact this
          case measure => simp [intOf]; omega
      · have hjn : j = n := by omega
        subst hjn
        have hFl : F = (ks.take j).filter fun k => !p k := by rw [unhide HF, List.take_of_length_le (by rw [unhide HN]; exact Nat.le_refl _)]
        obtain ⟨w2, hw2⟩ : ∃ w2, w2 = wr.setRow g (c2 (Lw.take m ++ List.replicate (j - m) zkey ++ Lw.drop (m + (j - m)))).toArray := ⟨_, rfl⟩
        have hclr : ∀ mc, (Builtin.clear_ #[53] 0 #[.slice (some ⟨g, m * 2, none⟩) (j - m) mc]).run Try.prog wr = .ok (.tuple #[]) w2 := fun mc => by
          rw [hw2]
          exact run_clear_row2 (m := j - m) (o := m) (z := zkey) Try.underlying53 (by rfl) (unhide HRW) (by omega) (by rw [unhide HLW]; omega) ⟨rfl, rfl⟩
        have hO2 : Own2 w2 0 95 (.slice (some ⟨g, 0, none⟩) m cap) (F.map k2) := by
          have hr2 := setRow_heap wr g _ (c2 (Lw.take m ++ List.replicate (j - m) zkey ++ Lw.drop (m + (j - m)))).toArray _ _ (unhide HRW)
          rw [← hw2, List.append_assoc, unhide HTK, ← hFl] at hr2
          have hlen : (F.map k2).length = m := by rw [List.length_map, hFl]; exact (unhide HML).symm
          have := own2_of hr2 (cap := cap) (by rw [List.length_append, hlen, List.length_append, List.length_replicate, List.length_drop, unhide HLW]; omega) (Nat.zero_le _) hmx
          rw [hlen] at this
          rw [Own2, hlen]
          rw [Own2, hlen] at this
          exact this
        have hB2 : But (fun x => x = g) w w2 := by
          rw [hw2]
          exact (unhide HBT).trans ⟨rfl, rfl, rfl, by simp, fun k _ hk => setRow_other _ _ _ _ hk⟩
        have HO2 := hide hO2
        have HB2 := hide hB2
        have j0 : (0 : Int) ≤ (m : Int) := by omega
        have j1 : (m : Int) ≤ (j : Int) := by omega
        have j2 : (j : Int) ≤ (cap : Int) := by omega
        have j3 : ¬ cap = m := by omega
        have j4 : (m : Int) ≤ (cap : Int) := by omega
        clear hO2 hB2 hw2 hFl
        go_wp2
        go_ret
        exact ⟨⟨_, rfl, unhide HO2, rfl⟩, (unhide HS) _ (unhide HB2)⟩
end Go.Proofs.Ytfnockbgkcgpkaa
