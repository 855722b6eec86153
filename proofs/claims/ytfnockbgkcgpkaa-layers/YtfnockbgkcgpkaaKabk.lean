import Derived.Test.YtfnockbgkcgpkaaKabh
import Derived.Test.YtfnockbgkcgpkaaKabj
import Derived.Laws.OwnMore
set_option linter.all false
namespace Go.Proofs.Ytfnockbgkcgpkaa
open Go.RowKit Go.Proofs.Panes
set_option maxRecDepth 100000
/-- append(nil, raw...): a row of its own, that reads as raw. -/
theorem copyO_run (U : Nat → Prop) {w : World} {ao : Option Addr} {cap : Nat} {l : List Opn} (hR : RdO U w (.slice ao l.length cap) l) (hz : ao = none → cap = 0) (hl : l.length ≤ 2000000) :
    ∃ r w' pv, (Builtin.append_ #[73, 73] 73 #[.slice none 0 0, .slice ao l.length cap]).run Try.prog w = .ok r w' ∧ OwnO w' w.heap.size r (mkO l pv) ∧ (∀ (j : Nat) (o : Opn), l[j]? = some o → RdN U w (pv j) o.px ∧ (pv j).oneCell' = true) ∧ Below w.heap.size w w' := by
  obtain ⟨i0, hi, hz0, hz1, hz2⟩ := info_parts info_op
  have hO : w.ownsRow w.heap.size 72 8 (.slice none 0 0) 0 [] := World.ownsRow_nil _ _ _ _
  obtain ⟨ao', cap', e, h1, h2, h3⟩ := hR
  simp only [Value.slice.injEq, true_and] at e
  obtain ⟨rfl, rfl⟩ := e
  cases ao with
  | none =>
    have hc := hz rfl
    subst hc
    have hln : l = [] := by
      rcases Nat.eq_zero_or_pos l.length with e | e
      · exact List.eq_nil_of_length_eq_zero e
      · omega
    subst hln
    have hrun := run_append_owned_none (P := Try.prog) (w := w) w.heap.size 73 73 72 i0 8 Try.underlying73 hi (.slice none 0 0) 0 [] hO
    refine ⟨_, _, fun _ => .slice none 0 0, hrun, ?_, fun j o h => by simp at h, Below.refl _ _⟩
    rw [ownO_n]
    exact hO
  | some a =>
    have key : ∃ pv : Nat → Value, (∀ (j : Nat) (o : Opn), l[j]? = some o → RdN U w (pv j) o.px ∧ (pv j).oneCell' = true) ∧ ∀ (t : Nat) (u : Value), (mcells (mkO l pv))[t]? = some u → w.cell? (a.add t) = some u ∧ u.oneCell' = true := by
      by_cases hln : l = []
      · subst hln
        exact ⟨fun _ => .slice none 0 0, fun j o h => by simp at h, fun t u h => by simp [mkO, mcells] at h⟩
      · obtain ⟨b, off, e, hu, hlt, hc⟩ := h3 hln
        simp only [Option.some.injEq] at e
        subst e
        obtain ⟨pv, p1, p2⟩ := RdO.pvs l hc
        refine ⟨pv, p1, fun t u h => ?_⟩
        have : (⟨b, off, none⟩ : Addr).add t = ⟨b, off + t, none⟩ := by unfold Addr.add; split <;> simp_all
        rw [this]
        exact p2 t u h
    obtain ⟨pv, p1, p2⟩ := key
    obtain ⟨v', w2, hrun, hO2, hg2, _, _⟩ := run_append_own_at (P := Try.prog) (w := w) w.heap.size 73 73 72 i0 _ 8 80 Try.underlying73 hi hz0 hz1 hz2 rfl (by decide) (.slice none 0 0) 0 [] hO a l.length cap (mcells (mkO l pv)) (by rw [mcells_len, mkO_len]) (fun j u h => (p2 j u h).1) (fun u hu => by
      obtain ⟨t, ht⟩ := List.mem_iff_getElem?.1 hu
      exact (p2 t u ht).2) (by simp only [maxLen]; omega) (by omega) (Nat.le_refl _)
    refine ⟨_, _, pv, hrun, ?_, p1, below_of_grown hg2⟩
    rw [ownO_n]
    rw [Nat.zero_add] at hO2
    exact hO2
/-- The Ask behind it. -/
def askO (m : Int) : Opn := ⟨8, 0, 0, 0, 0, 0, [], m⟩
theorem mkO_snoc (l : List Opn) (pv : Nat → Value) (o : Opn) (u : Value) : mkO (l ++ [o]) (fun j => if j = l.length then u else pv j) = mkO l pv ++ [mof o u] := by
  apply List.ext_getElem?
  intro j
  rw [mkO_at]
  by_cases hj : j < l.length
  · rw [List.getElem?_append_left hj, List.getElem?_append_left (by rw [mkO_len]; exact hj), mkO_at, if_neg (by omega)]
  · rw [List.getElem?_append_right (by omega), List.getElem?_append_right (by rw [mkO_len]; omega), mkO_len]
    by_cases e : j = l.length
    · subst e; simp
    · have : ¬ j - l.length = 0 := by omega
      cases hx : j - l.length with
      | zero => omega
      | succ n => simp
theorem askO_run {w : World} {base : Nat} {v : Value} {l : List Opn} {pv : Nat → Value} (hO : OwnO w base v (mkO l pv)) (hb : base ≤ w.heap.size) (hl : l.length ≤ 2000000) (m : Int) (t : Nat) (ht : ∀ (j : Nat) (u : Value), (mcell (mof (askO m) (.slice none 0 0)))[j]? = some u → w.cell? ⟨t, j, none⟩ = some u) :
    ∃ g cap w', (Builtin.append_ #[73, 73] 73 #[v, .slice (some ⟨t, 0, none⟩) 1 1]).run Try.prog w = .ok (.slice (some ⟨g, 0, none⟩) (l.length + 1) cap) w' ∧ OwnO w' base (.slice (some ⟨g, 0, none⟩) (l.length + 1) cap) (mkO (l ++ [askO m]) (fun j => if j = l.length then .slice none 0 0 else pv j)) ∧ w.grownBy w' v.ownBlock := by
  obtain ⟨i0, hi, hz0, hz1, hz2⟩ := info_parts info_op
  have hO' := hO
  rw [ownO_n] at hO'
  obtain ⟨g, cap, w', hrun, hO2, hgr, hat, hlt⟩ := run_append_lies (P := Try.prog) w 73 73 base 72 i0 _ 8 80 Try.underlying73 hi hz0 hz1 hz2 rfl (by omega) v l.length _ hO' ⟨t, 0, none⟩ 1 1 (mcell (mof (askO m) (.slice none 0 0))) rfl (fun j u hj => by
    have : (⟨t, 0, none⟩ : Addr).add j = ⟨t, j, none⟩ := by unfold Addr.add; split <;> simp_all
    rw [this]; exact ht j u hj) (by
    intro u hu
    simp only [mcell, List.mem_cons, List.mem_nil_iff, or_false] at hu
    rcases hu with rfl | rfl | rfl | rfl | rfl | rfl | rfl | rfl <;> rfl) (by omega) (by unfold maxLen; omega) (by omega) hb w.heap.size rfl
  refine ⟨g, cap, w', hrun, ?_, hgr⟩
  rw [mkO_snoc]
  unfold OwnO
  rw [mcells_append, List.length_append, mkO_len]
  have : mcells [mof (askO m) (.slice none 0 0)] = mcell (mof (askO m) (.slice none 0 0)) := by simp [mcells]
  rw [this]
  exact hO2
/-- What such a row reads as. -/
theorem ownO_rd {w : World} {base g n cap : Nat} {l : List Opn} {pv : Nat → Value} {V : Nat → Prop} (hO : OwnO w base (.slice (some ⟨g, 0, none⟩) n cap) (mkO l pv)) (hn : n = l.length) (hp : ∀ (j : Nat) (o : Opn), l[j]? = some o → RdN V w (pv j) o.px) (hV : V g) : RdO V w (.slice (some ⟨g, 0, none⟩) n cap) l := by
  subst hn
  have ho' := hO
  rw [ownO_n] at ho'
  have hg := World.ownsRow.lt ho' g rfl
  have hcap : l.length ≤ cap ∧ cap ≤ maxLen := by
    rcases ho'.2 with ⟨e, _⟩ | ⟨k, c, cur, e, _, _, hc, hm, _, _⟩
    · cases e
    · simp only [Value.slice.injEq, Option.some.injEq, Addr.mk.injEq, and_true] at e
      obtain ⟨rfl, _, rfl⟩ := e
      exact ⟨hc, hm⟩
  refine ⟨some ⟨g, 0, none⟩, cap, rfl, hcap.1, hcap.2, fun _ => ⟨g, 0, rfl, hV, hg.2, fun j o hj => ?_⟩⟩
  have e1 := mkO_at l pv j
  rw [hj] at e1
  simp only [Option.map_some] at e1
  have c : ∀ t, t < 8 → w.cell? ⟨g, 0 + j * 8 + t, none⟩ = (mcell (mof o (pv j)))[t]? := fun t ht => by
    rw [Nat.zero_add]
    exact ownO_at hO (by rw [mkO_len]) e1 t ht
  exact ⟨c 0 (by omega), c 1 (by omega), c 2 (by omega), c 3 (by omega), c 4 (by omega), c 5 (by omega), ⟨pv j, c 6 (by omega), hp j o hj⟩, c 7 (by omega)⟩
end Go.Proofs.Ytfnockbgkcgpkaa
set_option linter.all false
namespace Go.Proofs.Ytfnockbgkcgpkaa
open Go.RowKit Go.Proofs.Panes
set_option maxRecDepth 100000
theorem info_asked : (Try.prog.info? 65).map (fun i => (i.zero, i.size, i.bytes)) = some (some (.agg #[.int .i64 0, .int .i64 0, .int .i64 0, .bool false, .bool false]), 5, 32) := by kernel_rfl
section
variable {a : Nat → Nat} {w w' : World} {sp xp : Nat} {F : ShF} {L : ShL}
/-- A shop whose marks have grown: first the append, then the store. -/
theorem ShB.pushMark (h : ShB a w sp xp F L) (hl : F.marks.length ≤ 1000000000) (y : Ask) (t : Nat) (ht : ∀ (j : Nat) (u : Value), (acell y)[j]? = some u → w.cell? ⟨t, j, none⟩ = some u) :
    ∃ g cap w', (Builtin.append_ #[52, 52] 52 #[L.mv, .slice (some ⟨t, 0, none⟩) 1 1]).run Try.prog w = .ok (.slice (some ⟨g, 0, none⟩) (F.marks.length + 1) cap) w' ∧ w'.cell? ⟨sp, 12, none⟩ = some L.mv ∧ w'.frozen? ⟨sp, 12, none⟩ = false ∧ But (fun x => a x = 5) w w' ∧
      ∀ q : Nat, ∃ a', ShB a' ((w'.drewN q).setCell ⟨sp, 12, none⟩ (.slice (some ⟨g, 0, none⟩) (F.marks.length + 1) cap)) sp xp { F with marks := F.marks ++ [y] } { L with mv := .slice (some ⟨g, 0, none⟩) (F.marks.length + 1) cap } ∧ Sto a a' w ((w'.drewN q).setCell ⟨sp, 12, none⟩ (.slice (some ⟨g, 0, none⟩) (F.marks.length + 1) cap)) ∧ ∀ x, a' x ≠ 0 → a x ≠ 0 ∨ x = w.heap.size := by
  obtain ⟨i0, hi, hz0, hz1, hz2⟩ := info_parts info_asked
  obtain ⟨g, cap, w', hrun, hO2, hgr, hat, hlt⟩ := run_append_lies (P := Try.prog) w 52 52 0 65 i0 _ 5 32 Try.underlying52 hi hz0 hz1 hz2 rfl (by omega) L.mv F.marks.length _ h.marks ⟨t, 0, none⟩ 1 1 (acell y) rfl (fun j u hj => by
    have : (⟨t, 0, none⟩ : Addr).add j = ⟨t, j, none⟩ := by unfold Addr.add; split <;> simp_all
    rw [this]; exact ht j u hj) (by
    intro u hu
    simp only [acell, List.mem_cons, List.mem_nil_iff, or_false] at hu
    rcases hu with rfl | rfl | rfl | rfl | rfl <;> rfl) (by omega) (by unfold maxLen; omega) (by omega) (Nat.zero_le _) w.heap.size rfl
  have hbt : But (fun x => a x = 5) w w' := .of_grown hgr (fun k e => h.amv k e)
  have hblk : w'.heap[sp]? = some (.cells (shcells xp F L) 57 (0, 0)) := hbt.heap h.blk (by rw [h.asp]; omega)
  have hag : a g = 5 ∨ g = w.heap.size := by
    rcases hat with e | e
    · exact .inl (h.amv g e)
    · exact .inr e
  refine ⟨g, cap, w', hrun, blk_cell hblk 12, blk_thaw hblk 12, hbt, fun q => ?_⟩
  have hbq : Below w'.heap.size w' (w'.drewN q) := below_drewN (Below.refl _ _) q
  have hbt2 : But (fun x => a x = 5) w (w'.drewN q) := hbt.trans (.of_below hbq)
  have hblk2 : (w'.drewN q).heap[sp]? = some (.cells (shcells xp F L) 57 (0, 0)) := hbt2.heap h.blk (by rw [h.asp]; omega)
  have hs : But (fun x => x = sp) (w'.drewN q) ((w'.drewN q).setCell ⟨sp, 12, none⟩ (.slice (some ⟨g, 0, none⟩) (F.marks.length + 1) cap)) := (But.refl (fun x => x = sp) _).setCell (p := ⟨sp, 12, none⟩) (.inl rfl) _
  have hsz : w.heap.size ≤ w'.heap.size := hbt.size
  have hall : But (fun x => a x = 5 ∨ x = sp) w ((w'.drewN q).setCell ⟨sp, 12, none⟩ (.slice (some ⟨g, 0, none⟩) (F.marks.length + 1) cap)) := (hbt2.wide (fun x _ e => .inl e)).trans (hs.wide (fun x _ e => .inr e))
  have hT : ∀ x, a x ≠ 5 → a x ≠ 1 → ¬ (a x = 5 ∨ x = sp) := fun x h1 h2 e => by
    rcases e with e | e
    · exact h1 e
    · exact h2 (by rw [e]; exact h.asp)
  have hgs : ¬ g = sp := fun e => by
    rcases hag with c | c
    · rw [e, h.asp] at c; omega
    · have := lt_of_heap h.blk; omega
  have key : ∀ x, (if x = g then 5 else a x) ≠ 0 → a x ≠ 0 ∨ x = w.heap.size := fun x hx => by
    by_cases e : x = g
    · subst e
      rcases hag with c | c
      · exact .inl (by omega)
      · exact .inr c
    · rw [if_neg e] at hx; exact .inl hx
  have hne : ∀ k c, a k = c → c ≠ 5 → c ≠ 0 → (if k = g then 5 else a k) = c := fun k c hk h5 h0 => by
    rw [if_neg (fun e => by
      rcases hag with d | d
      · rw [e] at hk; omega
      · have := h.lt k (by omega); omega)]
    exact hk
  refine ⟨fun x => if x = g then 5 else a x, ⟨?_, row_but h.there hall (fun k hk => hT k (by rw [h.atv k hk]; omega) (by rw [h.atv k hk]; omega)), row_but h.wait hall (fun k hk => hT k (by rw [h.awv k hk]; omega) (by rw [h.awv k hk]; omega)), fun i v l hv hl => ?_, row_but h.had hall (fun k hk => hT k (by rw [h.ahv k hk]; omega) (by rw [h.ahv k hk]; omega)), ?_, hne sp 1 h.asp (by omega) (by omega), fun k hk => hne k 2 (h.atv k hk) (by omega) (by omega), fun k hk => hne k 3 (h.awv k hk) (by omega) (by omega), fun k hk => hne k 4 (h.ahv k hk) (by omega) (by omega), fun k hk => ?_, fun x hx => ?_⟩, ⟨?_, fun x hx hc => ?_⟩, key⟩
  · have := blk_set (i := 12) hblk2 (.slice (some ⟨g, 0, none⟩) (F.marks.length + 1) cap)
    rw [this]
    simp [shcells]
  · exact ((h.each i v l hv hl).but hall (fun x hx => hT x (by omega) (by omega))).mono (fun x hx => hne x (6 + i) hx (by omega) (by omega))
  · have h1 := row_but (S := fun _ => False) hO2 (.of_below hbq) (fun _ _ h => h)
    have h2 := row_but h1 hs (fun k hk e => by simp [Value.ownBlock] at hk; exact hgs (hk.trans e))
    have e1 : (F.marks ++ [y]).length = F.marks.length + 1 := by simp
    have e2 : acells (F.marks ++ [y]) = acells F.marks ++ acell y := by rw [acells_append]; simp [acells]
    show World.ownsRow _ _ _ _ _ (F.marks ++ [y]).length (acells (F.marks ++ [y]))
    rw [e1, e2]
    exact h2
  · simp [Value.ownBlock] at hk
    rw [if_pos hk.symm]
  · have hz2 : w'.heap.size ≤ ((w'.drewN q).setCell ⟨sp, 12, none⟩ (.slice (some ⟨g, 0, none⟩) (F.marks.length + 1) cap)).heap.size := Nat.le_trans hbq.size hs.size
    rcases key x hx with c | c
    · exact Nat.lt_of_lt_of_le (h.lt x c) (Nat.le_trans hsz hz2)
    · by_cases e : x = g
      · rw [e]; exact Nat.lt_of_lt_of_le hlt hz2
      · rw [if_neg e] at hx
        exact Nat.lt_of_lt_of_le (h.lt x hx) (Nat.le_trans hsz hz2)
  · exact hall.wide (fun x _ e => by
      rcases e with e | e
      · omega
      · rw [e, h.asp]; omega)
  · rcases key x hc with c | c
    · exact c
    · omega
end
end Go.Proofs.Ytfnockbgkcgpkaa
set_option linter.all false
namespace Go.Proofs.Ytfnockbgkcgpkaa
open Go.RowKit Go.Proofs.Panes
set_option maxRecDepth 100000
section
variable {a : Nat → Nat} {w w' : World} {sp xp : Nat} {F : ShF} {L : ShL}
/-- A shop where more waits: first the append, then the store. -/
theorem ShB.pushWait (h : ShB a w sp xp F L) {i : Nat} {v : Value} {l : List Int} (hv : L.ws[i]? = some v) (hl : F.wait[i]? = some l) (hn : l.length ≤ 1000000) (t : Nat) (n : Int) (ht : w.cell? ⟨t, 0, none⟩ = some (.int .i64 n)) {g gc : Nat} (hg : L.wv = .slice (some ⟨g, 0, none⟩) F.wait.length gc) :
    ∃ ao cap w', (Builtin.append_ #[23, 23] 23 #[v, .slice (some ⟨t, 0, none⟩) 1 1]).run Try.prog w = .ok (.slice ao (l.length + 1) cap) w' ∧ (∃ u, w'.cell? ⟨g, i, none⟩ = some u) ∧ w'.frozen? ⟨g, i, none⟩ = false ∧ But (fun x => a x = 6 + i) w w' ∧
      ∀ q : Nat, ∃ a', ShB a' ((w'.drewN q).setCell ⟨g, i, none⟩ (.slice ao (l.length + 1) cap)) sp xp { F with wait := F.wait.set i (l ++ [n]) } { L with ws := L.ws.set i (.slice ao (l.length + 1) cap) } ∧ Sto a a' w ((w'.drewN q).setCell ⟨g, i, none⟩ (.slice ao (l.length + 1) cap)) ∧ ∀ x, a' x ≠ 0 → a x ≠ 0 ∨ w.heap.size ≤ x := by
  have hil := (List.getElem?_eq_some_iff.1 hl).1
  obtain ⟨ao, cap, w', hrun, hoff, hbt⟩ := (h.each i v l hv hl).append hn ⟨t, 0, none⟩ n ht
  have ag : a g = 3 := h.awv g (by rw [hg]; rfl)
  have how := h.wait
  rw [hg] at how
  have hwl : L.ws.length = F.wait.length := by have := h.wait.1; omega
  have how1 : w'.ownsRow 0 23 1 (.slice (some ⟨g, 0, none⟩) F.wait.length gc) F.wait.length L.ws := row_but how hbt (fun k hk => by simp [Value.ownBlock] at hk; rw [← hk, ag]; omega)
  refine ⟨ao, cap, w', hrun, ⟨v, by rw [World.ownsRow.cellAt how1 _ (by omega), hv]⟩, World.ownsRow.frozenAt how1 i, hbt, fun q => ?_⟩
  have hbq : Below w'.heap.size w' (w'.drewN q) := below_drewN (Below.refl _ _) q
  have hbt2 : But (fun x => a x = 6 + i) w (w'.drewN q) := hbt.trans (.of_below hbq)
  have hs : But (fun x => x = g) (w'.drewN q) ((w'.drewN q).setCell ⟨g, i, none⟩ (.slice ao (l.length + 1) cap)) := (But.refl (fun x => x = g) _).setCell (p := ⟨g, i, none⟩) (.inl rfl) _
  have hall : But (fun x => a x = 6 + i ∨ x = g) w ((w'.drewN q).setCell ⟨g, i, none⟩ (.slice ao (l.length + 1) cap)) := (hbt2.wide (fun x _ e => .inl e)).trans (hs.wide (fun x _ e => .inr e))
  have hT : ∀ x, a x ≠ 6 + i → a x ≠ 3 → ¬ (a x = 6 + i ∨ x = g) := fun x h1 h2 e => by
    rcases e with e | e
    · exact h1 e
    · exact h2 (by rw [e]; exact ag)
  have hsz : w.heap.size ≤ w'.heap.size := hbt.size
  have hz2 : w'.heap.size ≤ ((w'.drewN q).setCell ⟨g, i, none⟩ (.slice ao (l.length + 1) cap)).heap.size := Nat.le_trans hbq.size hs.size
  have old : ∀ k c, a k = c → c ≠ 0 → (if w.heap.size ≤ k ∧ k < w'.heap.size then 6 + i else a k) = c := fun k c hk h0 => by
    have := h.lt k (by omega)
    rw [if_neg (by omega)]
    exact hk
  refine ⟨fun x => if w.heap.size ≤ x ∧ x < w'.heap.size then 6 + i else a x, ⟨hall.heap h.blk (hT _ (by rw [h.asp]; omega) (by rw [h.asp]; omega)), row_but h.there hall (fun k hk => hT k (by rw [h.atv k hk]; omega) (by rw [h.atv k hk]; omega)), ?_, fun j u m hu hm => ?_, row_but h.had hall (fun k hk => hT k (by rw [h.ahv k hk]; omega) (by rw [h.ahv k hk]; omega)), row_but h.marks hall (fun k hk => hT k (by rw [h.amv k hk]; omega) (by rw [h.amv k hk]; omega)), old sp 1 h.asp (by omega), fun k hk => old k 2 (h.atv k hk) (by omega), fun k hk => old k 3 (h.awv k hk) (by omega), fun k hk => old k 4 (h.ahv k hk) (by omega), fun k hk => old k 5 (h.amv k hk) (by omega), fun x hx => ?_⟩, ⟨?_, fun x hx hc => ?_⟩, fun x hx => ?_⟩
  · have h1 : (w'.drewN q).ownsRow 0 23 1 (.slice (some ⟨g, 0, none⟩) F.wait.length gc) F.wait.length L.ws := row_but (S := fun _ => False) how1 (.of_below hbq) (fun _ _ h => h)
    have := (World.ownsRow.stored h1 i (.slice ao (l.length + 1) cap)).1
    simp only [List.length_set, hg]
    exact this
  · by_cases e : j = i
    · subst e
      rw [List.getElem?_set_self (by omega)] at hu hm
      cases hu; cases hm
      have h1 := hoff.but (T := fun _ => False) (.of_below hbq) (fun _ _ h => h)
      refine (h1.but hs (fun x hx e => ?_)).mono (fun x hx => ?_)
      · rw [e] at hx
        rcases hx with c | c
        · omega
        · have := h.lt g (by omega); omega
      · rcases hx with c | c
        · exact old x _ c (by omega)
        · exact if_pos c
    · rw [List.getElem?_set_ne (Ne.symm e)] at hu hm
      exact ((h.each j u m hu hm).but hall (fun x hx => hT x (by omega) (by omega))).mono (fun x hx => old x _ hx (by omega))
  · by_cases e : w.heap.size ≤ x ∧ x < w'.heap.size
    · exact Nat.lt_of_lt_of_le e.2 hz2
    · rw [if_neg e] at hx
      exact Nat.lt_of_lt_of_le (h.lt x hx) (Nat.le_trans hsz hz2)
  · exact hall.wide (fun x _ e => by
      rcases e with e | e
      · omega
      · rw [e, ag]; omega)
  · rw [if_neg (by omega)] at hc
    exact hc
  · by_cases e : w.heap.size ≤ x ∧ x < w'.heap.size
    · exact .inr e.1
    · exact .inl (by have := hx; simp only [if_neg e] at this; exact this)
end
end Go.Proofs.Ytfnockbgkcgpkaa
set_option linter.all false
namespace Go.Proofs.Ytfnockbgkcgpkaa
open Go.RowKit Go.Proofs.Panes
set_option maxRecDepth 100000
section
variable {a o o' : Nat → Nat} {w w1 wr : World} {sp xp kb sb fb : Nat} {cps cps' : List (Option Nat)} {s s' : Scrn} {F F2 : ShF} {L L2 : ShL}
/-- What a move leaves: the shop may have new blocks. -/
def KsPost (a o : Nat → Nat) (w : World) (sp xp kb sb fb : Nat) (s : Scrn) (F : ShF) (w' : World) : Prop := ∃ (a' o' : Nat → Nat) (cps' : List (Option Nat)) (L' : ShL), ShB a' w' sp xp F L' ∧ ScrM o' w' xp kb sb fb cps' s ∧ (∀ x, a' x ≠ 0 → o' x = 0) ∧ But (fun x => a x ≠ 0 ∨ o x ≠ 0) w w' ∧ (∀ x, x < w.heap.size → o' x ≠ 0 → o x ≠ 0) ∧ ∀ x, x < w.heap.size → a' x ≠ 0 → a x ≠ 0
theorem KtPost.ks (h : KtPost a o w sp xp kb sb fb s F wr) : KsPost a o w sp xp kb sb fb s F wr := by
  obtain ⟨o', cps', L', h1, h2, h3, h4, h5⟩ := h
  exact ⟨a, o', cps', L', h1, h2, h3, h4, h5, fun _ _ h => h⟩
theorem KsPost.below (h : KsPost a o w sp xp kb sb fb s F wr) (hb : Below wr.heap.size wr w1) : KsPost a o w sp xp kb sb fb s F w1 := by
  obtain ⟨a', o', cps', L', h1, h2, h3, h4, h5, h6⟩ := h
  exact ⟨a', o', cps', L', h1.below hb, h2.below hb, h3, h4.trans (.of_below hb), h5, h6⟩
/-- From a world that only has more. -/
theorem KsPost.from (h : KsPost a o w1 sp xp kb sb fb s F wr) (hb : Below w.heap.size w w1) : KsPost a o w sp xp kb sb fb s F wr := by
  obtain ⟨a', o', cps', L', h1, h2, h3, h4, h5, h6⟩ := h
  exact ⟨a', o', cps', L', h1, h2, h3, (But.of_below (S := fun x => a x ≠ 0 ∨ o x ≠ 0) hb).trans h4, fun x hx => h5 x (Nat.lt_of_lt_of_le hx hb.size), fun x hx => h6 x (Nat.lt_of_lt_of_le hx hb.size)⟩
/-- Two moves. -/
theorem KsPost.trans {a' o' : Nat → Nat} (h4 : But (fun x => a x ≠ 0 ∨ o x ≠ 0) w w1) (h5 : ∀ x, x < w.heap.size → o' x ≠ 0 → o x ≠ 0) (h6 : ∀ x, x < w.heap.size → a' x ≠ 0 → a x ≠ 0) (k : KsPost a' o' w1 sp xp kb sb fb s F wr) : KsPost a o w sp xp kb sb fb s F wr := by
  obtain ⟨a2, o2, cps2, L2, k1, k2, k3, k4, k5, k6⟩ := k
  refine ⟨a2, o2, cps2, L2, k1, k2, k3, h4.step k4 (fun x hx => ?_), fun x hx hc => h5 x hx (k5 x (Nat.lt_of_lt_of_le hx h4.size) hc), fun x hx hc => h6 x hx (k6 x (Nat.lt_of_lt_of_le hx h4.size) hc)⟩
  rcases Nat.lt_or_ge x w.heap.size with c | c
  · rcases hx with e | e
    · exact .inl (.inl (h6 x c e))
    · exact .inl (.inr (h5 x c e))
  · exact .inr c
/-- What Submit says, and what it leaves. -/
def subCo (s : Scrn) (i : Nat) (ops : List Opn) : Int := match s.ks[i]? with
  | some (some cl) => subCode s.c cl ops
  | _ => 3
def subS (s : Scrn) (i : Nat) (ops : List Opn) : Scrn := match s.ks[i]? with
  | some (some cl) => if subCode s.c cl ops = 0 then { s with ks := s.ks.set i (some (subC cl ops)) } else s
  | _ => s
theorem sub_call (hB : ShB a w sp xp F L) (hM : ScrM o w xp kb sb fb cps s) (hap : ∀ x, a x ≠ 0 → o x = 0) (hl : s.ks.length ≤ 4) (i : Nat) (hi : i < s.ks.length) (hS : (s.c.surfaces.toNat : Int) = s.c.surfaces ∧ 1 ≤ s.c.surfaces.toNat ∧ s.c.surfaces.toNat ≤ 4) (hq : ∀ cl, s.ks[i]? = some (some cl) → cl.q.length ≤ 100000) (U : Nat → Prop) (ao : Option Addr) (cap : Nat) (ops : List Opn) (hR : RdO U w (.slice ao ops.length cap) ops) (hU : ∀ y, U y → y < w.heap.size) (hUo : ∀ y, U y → o y = 0) (hlen : ops.length ≤ 1759218604390) (hpx : ∀ x ∈ ops, x.px.length ≤ 17592186043904) :
    Calls Try.prog 28 #[.pointer (some ⟨xp, 0, none⟩), .int .i64 (i : Int), .slice ao ops.length cap] w fun e w' => e = .returned (.int .i64 (subCo s i ops)) ∧ KtPost a o w sp xp kb sb fb (subS s i ops) F w' ∧ RdO U w' (.slice ao ops.length cap) ops := by
  obtain ⟨k, hk⟩ : ∃ k, s.ks[i]? = some k := ⟨s.ks[i]'hi, by simp⟩
  cases k with
  | none =>
    have hc : conK s.ks (i : Int) = false := by simp [conK, hk]
    refine (Submit_none hM hl (i : Int) hc _).mono ?_
    rintro e w' ⟨h1, h2⟩
    unfold subCo subS
    rw [hk]
    exact ⟨h1, kt_below hB hap hM h2, hR.but (S := fun _ => False) (.of_below h2) (fun _ _ h => h)⟩
  | some cl =>
    refine (Submit_some hM hl hk hS (hq cl hk) U ao cap ops hR hU hlen hpx).mono ?_
    rintro e w' ⟨h1, h2⟩
    unfold subCo subS
    rw [hk]
    simp only
    refine ⟨h1, ?_⟩
    rcases h2 with ⟨h3, o', h4, h5⟩ | ⟨h3, h4⟩
    · rw [if_pos h3]
      exact ⟨kt_start hB hap h4 h5, hR.but h5.but (fun y hy e => e.1 (hUo y hy))⟩
    · rw [if_neg h3]
      exact ⟨kt_below hB hap hM h4, hR.but (S := fun _ => False) (.of_below h4) (fun _ _ h => h)⟩
/-- The asks of a transaction. -/
def asksOf (i : Nat) (at' : Int) (l : List Opn) : List Ask := (l.filter fun x => x.kind == 8).map fun x => ⟨(i : Int), x.mark, at', false, false⟩
theorem asksOf_snoc (i : Nat) (at' : Int) (l : List Opn) (x : Opn) : asksOf i at' (l ++ [x]) = asksOf i at' l ++ if x.kind = 8 then [⟨(i : Int), x.mark, at', false, false⟩] else [] := by
  unfold asksOf
  rw [List.filter_append, List.map_append]
  by_cases h : x.kind = 8
  · simp [h]
  · simp [h]
/-- The shop behind a transaction that waits. -/
def subF (F : ShF) (i : Nat) (raw : List Opn) (c : Int) : ShF := { F with marks := F.marks ++ asksOf i F.paid raw ++ [⟨(i : Int), (F.marks.length : Int), F.paid, false, false⟩], wait := F.wait.set i (F.wait.getD i [] ++ [c]) }
end
end Go.Proofs.Ytfnockbgkcgpkaa
set_option linter.all false
namespace Go.Proofs.Ytfnockbgkcgpkaa
open Go.RowKit Go.Proofs.Panes
set_option maxRecDepth 100000
section
variable {a o : Nat → Nat} {w : World} {sp xp kb sb fb : Nat} {cps : List (Option Nat)} {s : Scrn} {F : ShF} {L : ShL} {i : Nat}
/-- The transaction when it is built: world, slice. -/
theorem built_ok (hB : ShB a w sp xp F L) (U : Nat → Prop) {ao : Option Addr} {cap : Nat} {raw : List Opn} (hR : RdO U w (.slice ao raw.length cap) raw) (hz : ao = none → cap = 0) (hU : ∀ y, U y → y < w.heap.size) (hl : raw.length ≤ 2000000) :
    ∃ r w1 g c w3, (Builtin.append_ #[73, 73] 73 #[.slice none 0 0, .slice ao raw.length cap]).run Try.prog w = .ok r w1 ∧ Below w.heap.size w w1 ∧ (Builtin.append_ #[73, 73] 73 #[r, .slice (some ⟨w1.heap.size, 0, none⟩) 1 1]).run Try.prog (w1.alloc (.cells #[.int .i64 8, .int .i64 0, .int .i64 0, .int .i64 0, .int .i64 0, .int .i64 0, .slice none 0 0, .int .i64 (F.marks.length : Int)] 72)) = .ok (.slice (some ⟨g, 0, none⟩) (raw.length + 1) c) w3 ∧ Below w.heap.size w w3 ∧ w.heap.size ≤ g ∧ RdO (fun x => U x ∨ (w.heap.size ≤ x ∧ x < w3.heap.size)) w3 (.slice (some ⟨g, 0, none⟩) (raw.length + 1) c) (raw ++ [askO (F.marks.length : Int)]) := by
  obtain ⟨r, w1, pv, h1, h2, h3, h4⟩ := copyO_run U hR hz hl
  obtain ⟨w2, hw2⟩ : ∃ w2 : World, w2 = w1.alloc (.cells #[.int .i64 8, .int .i64 0, .int .i64 0, .int .i64 0, .int .i64 0, .int .i64 0, .slice none 0 0, .int .i64 (F.marks.length : Int)] 72) := ⟨_, rfl⟩
  have hB2 : Below w1.heap.size w1 w2 := by rw [hw2]; exact (Below.refl _ w1).alloc (Nat.le_refl _) _
  have hN2 : w2.heap[w1.heap.size]? = some (.cells #[.int .i64 8, .int .i64 0, .int .i64 0, .int .i64 0, .int .i64 0, .int .i64 0, .slice none 0 0, .int .i64 (F.marks.length : Int)] 72) := by rw [hw2]; exact new_at _ _ _ rfl
  have hBw2 : Below w.heap.size w w2 := h4.trans (Below.mono hB2 h4.size)
  have h2' : OwnO w2 w.heap.size r (mkO raw pv) := row_but (S := fun _ => False) h2 (.of_below hB2) (fun _ _ h => h)
  obtain ⟨g, c, w3, h5, h6, h7⟩ := askO_run h2' hBw2.size hl (F.marks.length : Int) w1.heap.size (fun j u hj => by
    rw [blk_cell hN2]
    rw [List.getElem?_toArray]
    exact hj)
  have hg := World.ownsRow.lt (show w3.ownsRow _ _ _ _ _ _ from h6) g rfl
  have hrb : ∀ k, r.ownBlock = some k → w.heap.size ≤ k := fun k hk => (World.ownsRow.lt (show w2.ownsRow _ _ _ _ _ _ from h2') k hk).1
  have hB3 : Below w.heap.size w w3 := hBw2.grown h7 hBw2.size hrb
  refine ⟨r, w1, g, c, w3, h1, h4, by rw [← hw2]; exact h5, hB3, hg.1, ?_⟩
  refine ownO_rd h6 (by simp) (fun j x hj => ?_) (.inr hg)
  by_cases e : j = raw.length
  · subst e
    rw [List.getElem?_append_right (Nat.le_refl _)] at hj
    simp at hj
    subst hj
    simp only [if_pos]
    exact ⟨none, 0, rfl, Nat.le_refl _, Nat.zero_le _, fun h => absurd rfl h⟩
  · have hjl : j < raw.length := by
      have := (List.getElem?_eq_some_iff.1 hj).1
      simp at this; omega
    rw [List.getElem?_append_left hjl] at hj
    simp only [if_neg e]
    have := (h3 j x hj).1
    exact (this.but (S := fun _ => False) (.of_below hB3) (fun _ _ h => h)).wide (fun k hk => .inl hk)
end
end Go.Proofs.Ytfnockbgkcgpkaa
set_option linter.all false
namespace Go.Proofs.Ytfnockbgkcgpkaa
open Go.RowKit Go.Proofs.Panes
set_option maxRecDepth 100000
/-- In 'submits', behind Submit: the shop, the screen, the two lists of operations. -/
structure SV (a o : Nat → Nat) (w wr : World) (sp xp kb sb fb : Nat) (s : Scrn) (F : ShF) (V : Nat → Prop) (rv : Value) (raw : List Opn) (lv : Value) (ops : List Opn) : Prop where
  go : ∃ (a' o' : Nat → Nat) (cps' : List (Option Nat)) (L' : ShL), ShB a' wr sp xp F L' ∧ ScrM o' wr xp kb sb fb cps' s ∧ (∀ x, a' x ≠ 0 → o' x = 0) ∧ But (fun x => a x ≠ 0 ∨ o x ≠ 0) w wr ∧ (∀ x, x < w.heap.size → o' x ≠ 0 → o x ≠ 0) ∧ (∀ x, x < w.heap.size → a' x ≠ 0 → a x ≠ 0) ∧ ∀ x, V x → a' x = 0
  lt : ∀ x, V x → x < wr.heap.size
  rr : RdO V wr rv raw
  rl : RdO V wr lv ops
section
variable {a o : Nat → Nat} {w wr : World} {sp xp kb sb fb : Nat} {s : Scrn} {F : ShF} {V : Nat → Prop} {rv : Value} {raw : List Opn} {lv : Value} {ops : List Opn}
theorem SV.below (h : SV a o w wr sp xp kb sb fb s F V rv raw lv ops) {w2 : World} (hb : Below wr.heap.size wr w2) : SV a o w w2 sp xp kb sb fb s F V rv raw lv ops := by
  obtain ⟨a', o', cps', L', h1, h2, h3, h4, h5, h6, h7⟩ := h.go
  exact ⟨⟨a', o', cps', L', h1.below hb, h2.below hb, h3, h4.trans (.of_below hb), h5, h6, h7⟩, fun x hx => Nat.lt_of_lt_of_le (h.lt x hx) hb.size, h.rr.but (S := fun _ => False) (.of_below hb) (fun _ _ h => h), h.rl.but (S := fun _ => False) (.of_below hb) (fun _ _ h => h)⟩
theorem SV.ks (h : SV a o w wr sp xp kb sb fb s F V rv raw lv ops) : KsPost a o w sp xp kb sb fb s F wr := by
  obtain ⟨a', o', cps', L', h1, h2, h3, h4, h5, h6, h7⟩ := h.go
  exact ⟨a', o', cps', L', h1, h2, h3, h4, h5, h6⟩
/-- The world ahead of an append of a mark. -/
def markW (wr : World) (y : Ask) : World := (wr.alloc (.cells #[.int .i64 y.cl, .int .i64 y.mark, .int .i64 y.at', .bool y.fired, .bool y.gone] 65)).drew
theorem SV.push (h : SV a o w wr sp xp kb sb fb s F V rv raw lv ops) (hl : F.marks.length ≤ 1000000000) (y : Ask) : ∃ mo mc g cap w5, wr.cell? ⟨sp, 12, none⟩ = some (.slice mo F.marks.length mc) ∧ wr.cell? ⟨sp, 13, none⟩ = some (.int .i64 F.paid) ∧ (markW wr y).cell? ⟨sp, 12, none⟩ = some (.slice mo F.marks.length mc) ∧ (markW wr y).cell? ⟨sp, 13, none⟩ = some (.int .i64 F.paid) ∧
    (Builtin.append_ #[52, 52] 52 #[.slice mo F.marks.length mc, .slice (some ⟨wr.heap.size, 0, none⟩) 1 1]).run Try.prog (markW wr y) = .ok (.slice (some ⟨g, 0, none⟩) (F.marks.length + 1) cap) w5 ∧ w5.cell? ⟨sp, 12, none⟩ = some (.slice mo F.marks.length mc) ∧ w5.frozen? ⟨sp, 12, none⟩ = false ∧
    SV a o w (w5.setCell ⟨sp, 12, none⟩ (.slice (some ⟨g, 0, none⟩) (F.marks.length + 1) cap)) sp xp kb sb fb s { F with marks := F.marks ++ [y] } V rv raw lv ops := by
  obtain ⟨W, hW⟩ : ∃ W, W = markW wr y := ⟨_, rfl⟩
  have hb : Below wr.heap.size wr W := by rw [hW]; exact ((Below.refl _ wr).alloc (Nat.le_refl _) _).drew
  have hN : W.heap[wr.heap.size]? = some (.cells #[.int .i64 y.cl, .int .i64 y.mark, .int .i64 y.at', .bool y.fired, .bool y.gone] 65) := by rw [hW]; exact new_at wr _ _ rfl
  have k := h.below hb
  obtain ⟨a', o', cps', L', h1, h2, h3, h4, h5, h6, h7⟩ := k.go
  obtain ⟨a0, o0, cps0, L0, z1, -⟩ := h.go
  obtain ⟨mo, mc, hmv⟩ := row_slice h1.marks
  have c12 : W.cell? ⟨sp, 12, none⟩ = some (.slice mo F.marks.length mc) := by rw [← hmv]; exact blk_cell h1.blk 12
  have c13 : W.cell? ⟨sp, 13, none⟩ = some (.int .i64 F.paid) := blk_cell h1.blk 13
  have lsp : sp < wr.heap.size := lt_of_heap z1.blk
  obtain ⟨g, cap, w5, hrun, r12, rz, hbt, hq⟩ := h1.pushMark hl y wr.heap.size (fun j u hj => by rw [blk_cell hN, List.getElem?_toArray]; exact hj)
  obtain ⟨a2, q1, q2, q3⟩ := hq 0
  rw [hmv] at hrun r12
  have e12 : wr.cell? ⟨sp, 12, none⟩ = some (.slice mo F.marks.length mc) := (hb.cell lsp).symm.trans c12
  have e13 : wr.cell? ⟨sp, 13, none⟩ = some (.int .i64 F.paid) := (hb.cell lsp).symm.trans c13
  refine ⟨mo, mc, g, cap, w5, e12, e13, by rw [← hW]; exact c12, by rw [← hW]; exact c13, by rw [← hW]; exact hrun, r12, rz, ?_⟩
  have hbx : But (fun x => a' x ≠ 0) W (w5.setCell ⟨sp, 12, none⟩ (.slice (some ⟨g, 0, none⟩) (F.marks.length + 1) cap)) := q2.but
  refine ⟨⟨a2, o', cps', _, q1, h2.but hbx (fun x hx e => hx (h3 x e)), fun x hx => ?_, h4.step hbx (fun x hx => ?_), h5, fun x hx hc => ?_, fun x hx => ?_⟩, fun x hx => Nat.lt_of_lt_of_le (h.lt x hx) (Nat.le_trans hb.size hbx.size), k.rr.but hbx (fun x hx e => e (h7 x hx)), k.rl.but hbx (fun x hx e => e (h7 x hx))⟩
  · rcases q3 x hx with c | c
    · exact h3 x c
    · rw [c]; exact h2.new0 (Nat.le_refl _)
  · rcases Nat.lt_or_ge x w.heap.size with c | c
    · exact .inl (.inl (h6 x c hx))
    · exact .inr c
  · rcases q3 x hc with c | c
    · exact h6 x hx c
    · have := h4.size; omega
  · rcases Nat.eq_zero_or_pos (a2 x) with e | e
    · exact e
    · rcases q3 x (by omega) with c | c
      · exact absurd (h7 x hx) c
      · have := h.lt x hx
        have := hb.size
        omega
end
end Go.Proofs.Ytfnockbgkcgpkaa
set_option linter.all false
namespace Go.Proofs.Ytfnockbgkcgpkaa
open Go.RowKit Go.Proofs.Panes
set_option maxRecDepth 100000
section
variable {a o : Nat → Nat} {w wr : World} {sp xp kb sb fb : Nat} {s : Scrn} {F : ShF} {V : Nat → Prop} {rv : Value} {raw : List Opn} {lv : Value} {ops : List Opn}
theorem SV.thereAt (h : SV a o w wr sp xp kb sb fb s F V rv raw lv ops) {i : Nat} {t : Bool} (ht : F.there[i]? = some t) : ∃ g cap, wr.cell? ⟨sp, 9, none⟩ = some (.slice (some ⟨g, 0, none⟩) F.there.length cap) ∧ wr.cell? ⟨g, i, none⟩ = some (.bool t) := by
  obtain ⟨a', o', cps', L', h1, -⟩ := h.go
  have hl := (List.getElem?_eq_some_iff.1 ht).1
  obtain ⟨g, cap, hg⟩ := row_some h1.there (by omega)
  have ho := h1.there
  rw [hg] at ho
  refine ⟨g, cap, by rw [← hg]; exact blk_cell h1.blk 9, ?_⟩
  rw [World.ownsRow.cellAt ho _ (by omega), List.getElem?_map, ht]; rfl
theorem SV.base (h : SV a o w wr sp xp kb sb fb s F V rv raw lv ops) : wr.cell? ⟨sp, 4, none⟩ = some (.int .i64 F.c.queue) ∧ wr.cell? ⟨sp, 5, none⟩ = some (.int .i64 F.c.most) ∧ sp < wr.heap.size := by
  obtain ⟨a', o', cps', L', h1, -⟩ := h.go
  exact ⟨blk_cell h1.blk 4, blk_cell h1.blk 5, lt_of_heap h1.blk⟩
/-- What waits of a client. -/
theorem SV.waitAt (h : SV a o w wr sp xp kb sb fb s F V rv raw lv ops) {i : Nat} {l : List Int} (hl : F.wait[i]? = some l) (hn : l.length ≤ 1000000) : ∃ g gc vo vc, (wr.cell? ⟨sp, 10, none⟩ = some (.slice (some ⟨g, 0, none⟩) F.wait.length gc) ∧ wr.cell? ⟨g, i, none⟩ = some (.slice vo l.length vc) ∧ g < wr.heap.size) ∧
    ∀ (W : World) (t : Nat) (n : Int), Below wr.heap.size wr W → W.cell? ⟨t, 0, none⟩ = some (.int .i64 n) → ∃ ao cap w5, (Builtin.append_ #[23, 23] 23 #[.slice vo l.length vc, .slice (some ⟨t, 0, none⟩) 1 1]).run Try.prog W = .ok (.slice ao (l.length + 1) cap) w5 ∧ (∃ u, w5.cell? ⟨g, i, none⟩ = some u) ∧ w5.frozen? ⟨g, i, none⟩ = false ∧ w5.cell? ⟨sp, 10, none⟩ = some (.slice (some ⟨g, 0, none⟩) F.wait.length gc) ∧
      SV a o w (w5.setCell ⟨g, i, none⟩ (.slice ao (l.length + 1) cap)) sp xp kb sb fb s { F with wait := F.wait.set i (l ++ [n]) } V rv raw lv ops := by
  have hil := (List.getElem?_eq_some_iff.1 hl).1
  obtain ⟨a', o', cps', L', h1, h2, h3, h4, h5, h6, h7⟩ := h.go
  obtain ⟨g, gc, hg⟩ := row_some h1.wait (by omega)
  have ho := h1.wait
  rw [hg] at ho
  have hwl : L'.ws.length = F.wait.length := by have := h1.wait.1; omega
  obtain ⟨v, hv⟩ : ∃ v, L'.ws[i]? = some v := ⟨L'.ws[i]'(by omega), by simp⟩
  obtain ⟨vo, vc, rfl, -⟩ := (h1.each i v l hv hl).slice
  have ag : a' g = 3 := h1.awv g (by rw [hg]; rfl)
  refine ⟨g, gc, vo, vc, ⟨by rw [← hg]; exact blk_cell h1.blk 10, by rw [World.ownsRow.cellAt ho _ (by omega), hv], h1.lt g (by omega)⟩, fun W t n hb ht => ?_⟩
  obtain ⟨ao, cap, w5, hrun, r1, r2, hbt, hq⟩ := (h1.below hb).pushWait hv hl hn t n ht hg
  obtain ⟨a2, q1, q2, q3⟩ := hq 0
  have hbx : But (fun x => a' x ≠ 0) W (w5.setCell ⟨g, i, none⟩ (.slice ao (l.length + 1) cap)) := q2.but
  have h4' := h4.trans (But.of_below (S := fun x => a x ≠ 0 ∨ o x ≠ 0) hb)
  have k := h.below hb
  have r10 : w5.cell? ⟨sp, 10, none⟩ = some (.slice (some ⟨g, 0, none⟩) F.wait.length gc) := by
    have := hbt.heap (h1.below hb).blk (by rw [h1.asp]; omega)
    rw [← hg]; exact blk_cell this 10
  refine ⟨ao, cap, w5, hrun, r1, r2, r10, ⟨⟨a2, o', cps', _, q1, (h2.below hb).but hbx (fun x hx e => hx (h3 x e)), fun x hx => ?_, h4'.step hbx (fun x hx => ?_), h5, fun x hx hc => ?_, fun x hx => ?_⟩, fun x hx => Nat.lt_of_lt_of_le (h.lt x hx) (Nat.le_trans hb.size hbx.size), k.rr.but hbx (fun x hx e => e (h7 x hx)), k.rl.but hbx (fun x hx e => e (h7 x hx))⟩⟩
  · rcases q3 x hx with c | c
    · exact h3 x c
    · exact (h2.below hb).new0 c
  · rcases Nat.lt_or_ge x w.heap.size with c | c
    · exact .inl (.inl (h6 x c hx))
    · exact .inr c
  · rcases q3 x hc with c | c
    · exact h6 x hx c
    · have := h4'.size; omega
  · rcases Nat.eq_zero_or_pos (a2 x) with e | e
    · exact e
    · rcases q3 x (by omega) with c | c
      · exact absurd (h7 x hx) c
      · have := h.lt x hx
        have := hb.size
        omega
end
end Go.Proofs.Ytfnockbgkcgpkaa
set_option linter.all false
namespace Go.Proofs.Ytfnockbgkcgpkaa
open Go.RowKit Go.Proofs.Panes
set_option maxRecDepth 100000
/-- What 'submits' must know. -/
structure SubIn (a o : Nat → Nat) (w : World) (s : Scrn) (F : ShF) (i : Nat) (U : Nat → Prop) (raw : List Opn) : Prop where
  n4 : s.ks.length ≤ 4
  hi : i < s.ks.length
  hS : (s.c.surfaces.toNat : Int) = s.c.surfaces ∧ 1 ≤ s.c.surfaces.toNat ∧ s.c.surfaces.toNat ≤ 4
  hq : ∀ cl, s.ks[i]? = some (some cl) → cl.q.length ≤ 1000 ∧ (cl.q.length : Int) ≤ s.c.queue
  th : ∀ k, s.ks[i]? = some k → F.there[i]? = some k.isSome
  wt : ∀ k, s.ks[i]? = some k → F.wait[i]? = some (costsK k)
  tl : F.there.length = s.ks.length
  wl : F.wait.length = s.ks.length
  c : F.c = s.c
  ml : F.marks.length ≤ 900000000
  rl : raw.length ≤ 2000000
  px : ∀ x ∈ raw, x.px.length ≤ 17592186043904
  lt : ∀ y, U y → y < w.heap.size
  uo : ∀ y, U y → o y = 0
  ua : ∀ y, U y → a y = 0
section
variable {a o : Nat → Nat} {w : World} {sp xp kb sb fb : Nat} {cps : List (Option Nat)} {s : Scrn} {F : ShF} {L : ShL} {i : Nat} {U : Nat → Prop} {raw : List Opn}
def fullO (F : ShF) (raw : List Opn) : List Opn := raw ++ [askO (F.marks.length : Int)]
/-- All up to Submit and behind it. -/
theorem submit_front (hB : ShB a w sp xp F L) (hM : ScrM o w xp kb sb fb cps s) (hap : ∀ x, a x ≠ 0 → o x = 0) (hI : SubIn a o w s F i U raw) {ao : Option Addr} {cap : Nat} (hR : RdO U w (.slice ao raw.length cap) raw) (hz : ao = none → cap = 0) :
    ∃ r w1 g c w3, (Builtin.append_ #[73, 73] 73 #[.slice none 0 0, .slice ao raw.length cap]).run Try.prog w = .ok r w1 ∧ Below w.heap.size w w1 ∧ (Builtin.append_ #[73, 73] 73 #[r, .slice (some ⟨w1.heap.size, 0, none⟩) 1 1]).run Try.prog (w1.alloc (.cells #[.int .i64 8, .int .i64 0, .int .i64 0, .int .i64 0, .int .i64 0, .int .i64 0, .slice none 0 0, .int .i64 (F.marks.length : Int)] 72)) = .ok (.slice (some ⟨g, 0, none⟩) (raw.length + 1) c) w3 ∧ Below w.heap.size w w3 ∧
      Calls Try.prog 28 #[.pointer (some ⟨xp, 0, none⟩), .int .i64 (i : Int), .slice (some ⟨g, 0, none⟩) (raw.length + 1) c] w3 fun e w' => e = .returned (.int .i64 (subCo s i (fullO F raw))) ∧ SV a o w w' sp xp kb sb fb (subS s i (fullO F raw)) F (fun x => U x ∨ (w.heap.size ≤ x ∧ x < w3.heap.size)) (.slice ao raw.length cap) raw (.slice (some ⟨g, 0, none⟩) (raw.length + 1) c) (fullO F raw) := by
  obtain ⟨r, w1, g, c, w3, h1, h2, h3, h4, h5, h6⟩ := built_ok hB U hR hz hI.lt (by have := hI.rl; omega)
  refine ⟨r, w1, g, c, w3, h1, h2, h3, h4, ?_⟩
  have hB3 := hB.below h4
  have hM3 := hM.below h4
  have hl1 : (fullO F raw).length = raw.length + 1 := by simp [fullO]
  have hVo : ∀ y, (U y ∨ (w.heap.size ≤ y ∧ y < w3.heap.size)) → o y = 0 := fun y hy => by
    rcases hy with c | c
    · exact hI.uo y c
    · exact hM.new0 c.1
  have hVa : ∀ y, (U y ∨ (w.heap.size ≤ y ∧ y < w3.heap.size)) → a y = 0 := fun y hy => by
    rcases hy with c | c
    · exact hI.ua y c
    · exact hB.new0 c.1
  have hVl : ∀ y, (U y ∨ (w.heap.size ≤ y ∧ y < w3.heap.size)) → y < w3.heap.size := fun y hy => by
    rcases hy with c | c
    · exact Nat.lt_of_lt_of_le (hI.lt y c) h4.size
    · exact c.2
  have hR3 : RdO (fun x => U x ∨ (w.heap.size ≤ x ∧ x < w3.heap.size)) w3 (.slice ao raw.length cap) raw := (hR.but (S := fun _ => False) (.of_below h4) (fun _ _ h => h)).wide (fun _ h => .inl h)
  have hC := sub_call hB3 hM3 hap hI.n4 i hI.hi hI.hS (fun cl hcl => by have := (hI.hq cl hcl).1; omega) _ (some ⟨g, 0, none⟩) c (fullO F raw) (by rw [hl1]; exact h6) hVl hVo (by rw [hl1]; have := hI.rl; omega) (fun x hx => by
    simp only [fullO, List.mem_append, List.mem_singleton] at hx
    rcases hx with c | c
    · exact hI.px x c
    · rw [c]; simp [askO])
  rw [hl1] at hC
  refine hC.mono ?_
  rintro e w' ⟨g1, ⟨o', cps', L', k1, k2, k3, k4, k5⟩, g3⟩
  have hbt : But (fun x => a x ≠ 0 ∨ o x ≠ 0) w w' := (But.of_below (S := fun x => a x ≠ 0 ∨ o x ≠ 0) h4).trans k4
  refine ⟨g1, ⟨⟨a, o', cps', L', k1, k2, k3, hbt, fun x hx => k5 x (Nat.lt_of_lt_of_le hx h4.size), fun _ _ h => h, hVa⟩, fun x hx => Nat.lt_of_lt_of_le (hVl x hx) k4.size, hR3.but k4 (fun x hx e => ?_), g3⟩⟩
  rcases e with c | c
  · exact c (hVa x hx)
  · exact c (hVo x hx)
end
end Go.Proofs.Ytfnockbgkcgpkaa
set_option linter.all false
namespace Go.Proofs.Ytfnockbgkcgpkaa
open Go.RowKit Go.Proofs.Panes
set_option maxRecDepth 100000
section
variable {a o : Nat → Nat} {w : World} {sp xp kb sb fb : Nat} {cps : List (Option Nat)} {s : Scrn} {F : ShF} {L : ShL} {i : Nat} {U : Nat → Prop} {raw : List Opn}
theorem subCo_kinds (s : Scrn) (i : Nat) (ops : List Opn) : subCo s i ops = 0 ∨ subCo s i ops = 3 ∨ subCo s i ops = 4 := by
  unfold subCo
  split
  · unfold subCode
    split
    · exact .inr (.inl rfl)
    · split
      · exact .inr (.inl rfl)
      · split
        · exact .inr (.inl rfl)
        · split
          · exact .inr (.inr rfl)
          · exact .inl rfl
  · exact .inr (.inl rfl)
theorem subCo_zero {ops : List Opn} (h : subCo s i ops = 0) : ∃ cl, s.ks[i]? = some (some cl) ∧ costOf ops ≤ s.c.most ∧ (cl.q.length : Int) < s.c.queue ∧ (∀ x ∈ ops, Small x) ∧ ops.length ≤ 20 := by
  unfold subCo at h
  split at h
  · rename_i cl hk
    refine ⟨cl, hk, ?_⟩
    unfold subCode at h
    split at h
    · omega
    · rename_i hb
      split at h
      · omega
      · rename_i x hv
        split at h
        · omega
        · rename_i h1
          split at h
          · omega
          · rename_i h2
            refine ⟨by omega, by omega, vall_small _ _ _ hv, ?_⟩
            simp only [inB, Bool.not_eq_false, Bool.and_eq_true, decide_eq_true_eq] at hb
            omega
  · omega
theorem subCo_four {ops : List Opn} (h : subCo s i ops = 4) : ∃ cl, s.ks[i]? = some (some cl) ∧ s.c.queue ≤ (cl.q.length : Int) := by
  unfold subCo at h
  split at h
  · rename_i cl hk
    refine ⟨cl, hk, ?_⟩
    unfold subCode at h
    split at h
    · omega
    · split at h
      · omega
      · split at h
        · omega
        · split at h
          · rename_i h2; exact h2
          · omega
  · omega
set_option maxHeartbeats 8000000 in
theorem submits_not (hB : ShB a w sp xp F L) (hM : ScrM o w xp kb sb fb cps s) (hap : ∀ x, a x ≠ 0 → o x = 0) (hI : SubIn a o w s F i U raw) {ao : Option Addr} {cap : Nat} (hR : RdO U w (.slice ao raw.length cap) raw) (hz : ao = none → cap = 0) (hc : subCo s i (fullO F raw) ≠ 0) :
    Calls Try.prog 49 #[.pointer (some ⟨sp, 0, none⟩), .int .i64 (i : Int), .slice ao raw.length cap] w fun e w' => (∃ u, e = .returned u) ∧ KsPost a o w sp xp kb sb fb (subS s i (fullO F raw)) F w' := by
  obtain ⟨r, w1, g, c, w3, h1, h2, h3, h4, h5⟩ := submit_front hB hM hap hI hR hz
  obtain ⟨mo, mc, hmv⟩ := row_slice hB.marks
  have c12 : w1.cell? ⟨sp, 12, none⟩ = some (.slice mo F.marks.length mc) := by rw [← hmv]; exact blk_cell (hB.below h2).blk 12
  have c0 : w3.cell? ⟨sp, 0, none⟩ = some (.pointer (some ⟨xp, 0, none⟩)) := blk_cell (hB.below h4).blk 0
  obtain ⟨n, hn⟩ : ∃ n, n = raw.length := ⟨_, rfl⟩
  obtain ⟨mn, hmn⟩ : ∃ mn, mn = F.marks.length := ⟨_, rfl⟩
  obtain ⟨ops, hops⟩ : ∃ ops, ops = fullO F raw := ⟨_, rfl⟩
  rw [← hops] at h5 hc ⊢
  rw [← hn] at h1 h3 h5 ⊢
  rw [← hmn] at c12 h3
  obtain ⟨co, hco⟩ : ∃ co, co = subCo s i ops := ⟨_, rfl⟩
  rw [← hco] at h5
  have HR1 := hide h1
  have HR2 := hide h3
  have HC := hide h5
  have HI := hide hI
  have HCO := hide hco
  have hkinds : co = 3 ∨ co = 4 := by rw [hco]; exact (subCo_kinds s i ops).resolve_left hc
  clear h1 h2 h3 h4 h5 hI hB hM hap hR hz hmv hn hmn hops hco hc
  go_enter Try.func49, Try.ntmps49
  rcases hkinds with rfl | rfl
  · go_wp2_with (first
      | (at_builtin; refine wpList_append_at rfl _ _ 73 73 rfl rfl _ _ _ _ rfl rfl (unhide HR1) ?_)
      | (at_builtin; refine wpList_append_at rfl _ _ 73 73 rfl rfl _ _ _ _ rfl rfl (unhide HR2) ?_)
      | (go_at_call 28; refine (unhide HC).mono ?_; rintro e w4 ⟨rfl, hV⟩; have HV := hide hV; clear hV))
    go_end0
    exact ⟨⟨_, rfl⟩, (unhide HV).ks⟩
  · go_wp2_with (first
      | (at_builtin; refine wpList_append_at rfl _ _ 73 73 rfl rfl _ _ _ _ rfl rfl (unhide HR1) ?_)
      | (at_builtin; refine wpList_append_at rfl _ _ 73 73 rfl rfl _ _ _ _ rfl rfl (unhide HR2) ?_)
      | (go_at_call 28; refine (unhide HC).mono ?_; rintro e w4 ⟨rfl, hV⟩; have HV := hide hV; clear hV))
    obtain ⟨cl, hcl, hqq⟩ := subCo_four (unhide HCO).symm
    have hqe : s.c.queue = (cl.q.length : Int) := by have := ((unhide HI).hq cl hcl).2; omega
    obtain ⟨g9, c9, x9, xt⟩ := (unhide HV).thereAt ((unhide HI).th _ hcl)
    obtain ⟨gw, gc, vo, vc, ⟨x10, xw, -⟩, -⟩ := (unhide HV).waitAt ((unhide HI).wt _ hcl) (by have := ((unhide HI).hq cl hcl).1; simp [costsK]; omega)
    obtain ⟨x4, -, -⟩ := (unhide HV).base
    rw [(unhide HI).c, hqe] at x4
    obtain ⟨ql, hql⟩ : ∃ ql, ql = cl.q.length := ⟨_, rfl⟩
    have hcq : (costsK (some cl)).length = ql := by rw [hql]; simp [costsK]
    rw [hcq] at xw
    rw [← hql] at x4
    rw [(unhide HI).tl] at x9
    rw [(unhide HI).wl] at x10
    obtain ⟨nn, hnn⟩ : ∃ nn, nn = s.ks.length := ⟨_, rfl⟩
    have hin : i < nn := by rw [hnn]; exact (unhide HI).hi
    rw [← hnn] at x9 x10
    have hi4 : nn ≤ 4 := by rw [hnn]; exact (unhide HI).n4
    have i0 : (0 : Int) ≤ (i : Int) := by omega
    have i1 : (i : Int) < (nn : Int) := by omega
    have q1 : ((ql : Int) != (ql : Int)) = false := by simp
    simp only [Option.isSome_some] at xt
    clear hcl hqq hqe hcq hql hnn
    go_wp2
    go_quiet (fail)
    go_wp2
    go_end0
    exact ⟨⟨_, rfl⟩, by first | exact (unhide HV).ks.below (below_drewN (Below.refl _ _) _) | exact (unhide HV).ks.below ((Below.refl _ _).drew)⟩
end
end Go.Proofs.Ytfnockbgkcgpkaa
set_option linter.all false
namespace Go.Proofs.Ytfnockbgkcgpkaa
open Go.RowKit Go.Proofs.Panes
set_option maxRecDepth 100000
/-- The marks of a client among those of a frame. -/
def ofC (c : Int) (l : List (Int × Int)) : List Int := (l.filter fun k => k.1 == c).map Prod.snd
/-- Those that were asked for, and neither fired nor gone. -/
def pend (c : Int) (l : List Ask) : List Int := (l.filter fun y => y.cl == c && !y.fired && !y.gone).map Ask.mark
def askM (l : List Opn) : List Int := (l.filter fun x => x.kind == 8).map Opn.mark
def frM (f : Frs) : List (Int × Int) := match f.frame with
  | none => []
  | some g => g.marks
def perC (ks : List (Option Cli)) (h : Cli → List Int) (c : Int) : List Int := if 0 ≤ c then (match ks[c.toNat]? with
  | some (some k) => h k
  | _ => []) else []
def qAsk (ks : List (Option Cli)) (c : Int) : List Int := perC ks (fun k => askM k.q.flatten) c
def allM (s : Scrn) (c : Int) : List Int := ofC c (frM s.f) ++ (ofC c s.f.marks ++ qAsk s.ks c)
theorem ofC_append (c : Int) (k l : List (Int × Int)) : ofC c (k ++ l) = ofC c k ++ ofC c l := by simp [ofC]
theorem ofC_nil (c : Int) : ofC c [] = [] := rfl
theorem askM_append (k l : List Opn) : askM (k ++ l) = askM k ++ askM l := by simp [askM]
theorem pend_append (c : Int) (k l : List Ask) : pend c (k ++ l) = pend c k ++ pend c l := by simp [pend]
theorem pend_cons (c : Int) (y : Ask) (l : List Ask) : pend c (y :: l) = (if y.cl = c ∧ y.fired = false ∧ y.gone = false then [y.mark] else []) ++ pend c l := by
  unfold pend
  rw [List.filter_cons]
  by_cases h : y.cl = c ∧ y.fired = false ∧ y.gone = false
  · rw [if_pos h, if_pos (by obtain ⟨a, b, d⟩ := h; simp [a, b, d])]; rfl
  · rw [if_neg h, if_neg (by
      intro e
      simp only [Bool.and_eq_true, beq_iff_eq, Bool.not_eq_true'] at e
      exact h ⟨e.1.1, e.1.2, e.2⟩)]; rfl
/-- One mark is fired. -/
theorem fire1_ok : ∀ (ms : List Ask) (c x : Int) (tl : List Int), pend c ms = x :: tl → ∃ ms', fire1 ms (c, x) = some ms' ∧ pend c ms' = tl ∧ (∀ d, d ≠ c → pend d ms' = pend d ms) ∧ ms'.length = ms.length
  | [], c, x, tl, h => by simp [pend] at h
  | y :: l, c, x, tl, h => by
    rw [pend_cons] at h
    by_cases hp : y.cl = c ∧ y.fired = false ∧ y.gone = false
    · rw [if_pos hp] at h
      simp only [List.singleton_append, List.cons.injEq] at h
      obtain ⟨h1, h2⟩ := h
      refine ⟨{ y with fired := true } :: l, ?_, ?_, fun d hd => ?_, rfl⟩
      · unfold fire1
        rw [if_neg (by rintro (e | e | e); exact e hp.1; rw [hp.2.1] at e; cases e; rw [hp.2.2] at e; cases e), if_pos h1]
      · rw [pend_cons, if_neg (by rintro ⟨-, e, -⟩; cases e)]; exact h2
      · rw [pend_cons, pend_cons, if_neg (by rintro ⟨-, e, -⟩; cases e), if_neg (by rintro ⟨e, -⟩; exact hd (e.symm.trans hp.1))]
    · rw [if_neg hp] at h
      obtain ⟨l', g1, g2, g3, g4⟩ := fire1_ok l c x tl h
      refine ⟨y :: l', ?_, ?_, fun d hd => ?_, by simp [g4]⟩
      · unfold fire1
        rw [if_pos (by
          by_cases a : y.cl = c
          · cases hf : y.fired with
            | true => exact .inr (.inl rfl)
            | false => cases hg : y.gone with
              | true => exact .inr (.inr rfl)
              | false => exact absurd ⟨a, hf, hg⟩ hp
          · exact .inl a), g1]; rfl
      · rw [pend_cons, if_neg hp]; exact g2
      · rw [pend_cons, pend_cons, g3 d hd]
theorem fireL_ok : ∀ (fm : List (Int × Int)) (ms : List Ask) (rest : Int → List Int), (∀ c, pend c ms = ofC c fm ++ rest c) → ∃ ms', fireL ms fm = some ms' ∧ (∀ c, pend c ms' = rest c) ∧ ms'.length = ms.length
  | [], ms, rest, h => ⟨ms, rfl, h, rfl⟩
  | (c, x) :: fm, ms, rest, h => by
    have h1 : pend c ms = x :: (ofC c fm ++ rest c) := by rw [h c]; simp [ofC]
    obtain ⟨m1, g1, g2, g3, g4⟩ := fire1_ok ms c x _ h1
    obtain ⟨m2, k1, k2, k3⟩ := fireL_ok fm m1 rest (fun d => by
      by_cases e : d = c
      · subst e; exact g2
      · rw [g3 d e, h d]
        congr 1
        unfold ofC
        rw [List.filter_cons, if_neg (by simpa using fun e' => e e'.symm)])
    refine ⟨m2, ?_, k2, by omega⟩
    show (fire1 ms (c, x)).bind _ = _
    rw [g1]; exact k1
/-- What an operation, a transaction, some of them ask. -/
theorem doOp_m (j : Nat) (st : List Srf × Frs) (op : Opn) : (doOp j st op).2.frame = st.2.frame ∧ ∀ c, ofC c (doOp j st op).2.marks = ofC c st.2.marks ++ if c = (j : Int) then askM [op] else [] := by
  unfold doOp
  by_cases h : op.kind = 8
  · rw [if_pos h]
    refine ⟨rfl, fun c => ?_⟩
    simp only [ofC_append]
    congr 1
    by_cases e : c = (j : Int)
    · rw [if_pos e]; simp [ofC, askM, h, e]
    · rw [if_neg e]; simp [ofC]; exact fun e' => e e'.symm
  · rw [if_neg h]
    have hs := damL_s (dmgO st.1 j op) st.2
    refine ⟨hs.frame, fun c => ?_⟩
    simp only [hs.marks]
    have : askM [op] = [] := by simp [askM, h]
    rw [this]; simp
theorem doOps_m (j : Nat) : ∀ (ops : List Opn) (st : List Srf × Frs), (ops.foldl (doOp j) st).2.frame = st.2.frame ∧ ∀ c, ofC c (ops.foldl (doOp j) st).2.marks = ofC c st.2.marks ++ if c = (j : Int) then askM ops else []
  | [], st => ⟨rfl, fun c => by simp [askM]⟩
  | op :: l, st => by
    obtain ⟨a, b⟩ := doOp_m j st op
    obtain ⟨a2, b2⟩ := doOps_m j l (doOp j st op)
    refine ⟨a2.trans a, fun c => ?_⟩
    rw [List.foldl_cons, b2 c, b c, List.append_assoc]
    congr 1
    by_cases e : c = (j : Int)
    · rw [if_pos e, if_pos e, if_pos e, ← askM_append]; rfl
    · rw [if_neg e, if_neg e, if_neg e]; rfl
theorem doAll_m (j : Nat) : ∀ (trs : List (List Opn)) (st : List Srf × Frs), (doAll j st trs).2.frame = st.2.frame ∧ ∀ c, ofC c (doAll j st trs).2.marks = ofC c st.2.marks ++ if c = (j : Int) then askM trs.flatten else []
  | [], st => ⟨rfl, fun c => by simp [doAll, askM]⟩
  | tr :: l, st => by
    obtain ⟨a, b⟩ := doOps_m j tr (st.1, { st.2 with due := true })
    obtain ⟨a2, b2⟩ := doAll_m j l (doTr j st tr)
    refine ⟨a2.trans a, fun c => ?_⟩
    have e1 : doAll j st (tr :: l) = doAll j (doTr j st tr) l := rfl
    rw [e1, b2 c, show ofC c (doTr j st tr).2.marks = _ from b c, List.append_assoc]
    congr 1
    by_cases e : c = (j : Int)
    · rw [if_pos e, if_pos e, if_pos e, ← askM_append]; rfl
    · rw [if_neg e, if_neg e, if_neg e]; rfl
theorem scAdmI_m (q : Int) (ks : List (Option Cli)) (st : List Srf × Frs) : ∀ j : Nat, (scAdmI q ks st j).2.frame = st.2.frame ∧ ∀ c : Int, ofC c (scAdmI q ks st j).2.marks = ofC c st.2.marks ++ if c < (j : Int) then perC ks (fun k => askM (admitC k q).1.flatten) c else []
  | 0 => ⟨rfl, fun c => by
      show ofC c st.2.marks = _
      by_cases h : c < 0
      · simp [perC, show ¬ 0 ≤ c by omega]
      · simp [h]⟩
  | j + 1 => by
    obtain ⟨a, b⟩ := scAdmI_m q ks st j
    have key : ∀ c : Int, ¬ c = (j : Int) → (if c < ((j + 1 : Nat) : Int) then perC ks (fun k => askM (admitC k q).1.flatten) c else []) = if c < (j : Int) then perC ks (fun k => askM (admitC k q).1.flatten) c else [] := fun c hc => by
      by_cases h : c < (j : Int)
      · rw [if_pos h, if_pos (by omega)]
      · rw [if_neg h, if_neg (by omega)]
    have kj : ∀ x, (if (j : Int) < (j : Int) then x else ([] : List Int)) = [] := fun x => if_neg (by omega)
    cases hk : ks[j]? with
    | none =>
      have e : scAdmI q ks st (j + 1) = scAdmI q ks st j := by simp [scAdmI, hk]
      rw [e]
      refine ⟨a, fun c => ?_⟩
      rw [b c]
      by_cases h : c = (j : Int)
      · subst h; rw [kj, if_pos (by omega)]; simp [perC, hk]
      · rw [key c h]
    | some x =>
      cases x with
      | none =>
        have e : scAdmI q ks st (j + 1) = scAdmI q ks st j := by simp [scAdmI, hk]
        rw [e]
        refine ⟨a, fun c => ?_⟩
        rw [b c]
        by_cases h : c = (j : Int)
        · subst h; rw [kj, if_pos (by omega)]; simp [perC, hk]
        · rw [key c h]
      | some k =>
        have e : scAdmI q ks st (j + 1) = doAll j (scAdmI q ks st j) (admitC k q).1 := by simp [scAdmI, hk]
        obtain ⟨a2, b2⟩ := doAll_m j (admitC k q).1 (scAdmI q ks st j)
        rw [e]
        refine ⟨a2.trans a, fun c => ?_⟩
        rw [b2 c, b c]
        by_cases h : c = (j : Int)
        · subst h; rw [kj, if_pos rfl, if_pos (by omega)]; simp [perC, hk]
        · rw [key c h, if_neg h, List.append_nil]
/-- The queue is parted by what is admitted. -/
theorem qAsk_adm (q : Int) (ks : List (Option Cli)) (c : Int) : qAsk ks c = perC ks (fun k => askM (admitC k q).1.flatten) c ++ qAsk (ks.map (admK q)) c := by
  unfold qAsk perC
  by_cases h : 0 ≤ c
  · rw [if_pos h, if_pos h, if_pos h, List.getElem?_map]
    cases ks[c.toNat]? with
    | none => rfl
    | some x => cases x with
      | none => rfl
      | some k =>
        simp only [Option.map_some, admK]
        rw [← askM_append, ← List.flatten_append]
        congr 2
        exact (List.take_append_drop _ _).symm
  · rw [if_neg h, if_neg h, if_neg h]; rfl
theorem flip_m (f : Frs) (c : Int) : ofC c (frM f) = ofC c (flipF f).2.2 ++ ofC c (frM (flipF f).1) ∧ (flipF f).1.marks = f.marks := by
  unfold flipF
  cases hf : f.frame with
  | none => exact ⟨by simp [ofC], rfl⟩
  | some g =>
    simp only
    split
    · refine ⟨?_, rfl⟩
      simp [frM, hf, ofC]
    · refine ⟨by simp [ofC], rfl⟩
theorem begin_m (f : Frs) (t : Int) (pic : Int → Int → Int) (c : Int) : ofC c (frM (beginF f t pic)) ++ ofC c (beginF f t pic).marks = ofC c (frM f) ++ ofC c f.marks := by
  unfold beginF
  split
  · rfl
  · rename_i h
    have hn : f.frame = none := by
      cases hf : f.frame with
      | none => rfl
      | some g => exact absurd (.inl (by simp [hf])) h
    simp [frM, hn, ofC]
theorem paint_m (f : Frs) (l : Nat) : frM (paintF f l) = frM f ∧ (paintF f l).marks = f.marks := by
  unfold paintF
  cases hf : f.frame with
  | none => exact ⟨by simp [frM, hf], rfl⟩
  | some g => exact ⟨by simp [paintK, frM, hf], rfl⟩
/-- A tick takes the marks that it fires, and no others. -/
theorem tick_m (s : Scrn) (b : Nat) (hn : ∀ c : Int, (s.ks.length : Int) ≤ c → qAsk s.ks c = []) (c : Int) : allM s c = ofC c (flipF s.f).2.2 ++ allM (tickS s b) c := by
  have hks : (tickS s b).ks = s.ks.map (admK s.c.quantum) := ksI_full s.c.quantum s.ks
  obtain ⟨p1, p2⟩ := paint_m (tk5 s).f b
  obtain ⟨f1, f2⟩ := flip_m s.f c
  have hd := damL_s (s.l.flatMap slDmg) (flipF s.f).1
  obtain ⟨a1, a2⟩ := scAdmI_m s.c.quantum s.ks ((tk3 s).l, (tk3 s).f) s.ks.length
  have hb := begin_m (tk4 s).f (s.t + 1) (picS (tk4 s).l s.c.behind) c
  have e4 : ofC c (frM (tk4 s).f) = ofC c (frM (flipF s.f).1) := by
    have : (tk4 s).f.frame = (flipF s.f).1.frame := a1.trans hd.frame
    unfold frM; rw [this]
  have e5 : ofC c (tk4 s).f.marks = ofC c s.f.marks ++ perC s.ks (fun k => askM (admitC k s.c.quantum).1.flatten) c := by
    have := a2 c
    rw [show ((tk3 s).l, (tk3 s).f).2.marks = s.f.marks from hd.marks.trans f2] at this
    refine (show ofC c (tk4 s).f.marks = _ from this).trans ?_
    congr 1
    by_cases h : c < (s.ks.length : Int)
    · rw [if_pos h]
    · rw [if_neg h]
      have := hn c (by omega)
      rw [qAsk_adm s.c.quantum] at this
      exact (List.append_eq_nil_iff.1 this).1.symm
  unfold allM
  rw [hks]
  show _ = _ ++ (ofC c (frM (paintF (tk5 s).f b)) ++ (ofC c (paintF (tk5 s).f b).marks ++ _))
  rw [p1, p2, ← List.append_assoc (ofC c (frM (tk5 s).f)), show ofC c (frM (tk5 s).f) ++ ofC c (tk5 s).f.marks = _ from hb, e4, e5, f1, qAsk_adm s.c.quantum s.ks c]
  simp only [List.append_assoc]
theorem qAsk_out (ks : List (Option Cli)) (c : Int) (h : (ks.length : Int) ≤ c) : qAsk ks c = [] := by
  unfold qAsk perC
  rw [if_pos (by omega), List.getElem?_eq_none (by omega)]
end Go.Proofs.Ytfnockbgkcgpkaa
set_option linter.all false
namespace Go.Proofs.Ytfnockbgkcgpkaa
open Go.RowKit Go.Proofs.Panes
set_option maxRecDepth 100000
theorem ScrOk.mono {D D' : Nat} {s : Scrn} (h : ScrOk D s) (hD : D ≤ D') : ScrOk D' s := ⟨h.cfg, h.len, h.W, h.H, h.st.mono hD, h.cl, h.no⟩
/-- A shop and its screen are right; not more than n moves were made. -/
structure ShI (n : Nat) (s : Scrn) (F : ShF) : Prop where
  scr : ScrOk (640 * n) s
  t : 0 ≤ s.t ∧ s.t ≤ (n : Int)
  c : F.c = s.c
  there : F.there = s.ks.map Option.isSome
  wait : F.wait = s.ks.map costsK
  ticks : F.ticks = s.t
  hl : F.had.length = s.ks.length
  hb : ∀ x ∈ F.had, 0 ≤ x ∧ x ≤ 3000 * (n : Int)
  paid : 0 ≤ F.paid ∧ F.paid ≤ (n : Int)
  flips : 0 ≤ F.flips ∧ F.flips ≤ (n : Int)
  ml : F.marks.length ≤ 20 * n
  eq : ∀ c, pend c F.marks = allM s c
  no : ∀ j : Nat, s.ks[j]? = some none → ofC (j : Int) (frM s.f) = [] ∧ ofC (j : Int) s.f.marks = []
section
variable {n : Nat} {s : Scrn} {F : ShF}
theorem ShI.mono {n' : Nat} (h : ShI n s F) (hn : n ≤ n') : ShI n' s F := by
  refine ⟨h.scr.mono (by omega), ?_, h.c, h.there, h.wait, h.ticks, h.hl, fun x hx => ?_, ?_, ?_, ?_, h.eq, h.no⟩
  · have := h.t; omega
  · have := h.hb x hx; omega
  · have := h.paid; omega
  · have := h.flips; omega
  · have := h.ml; omega
theorem ShI.n4 (h : ShI n s F) : s.ks.length ≤ 4 ∧ 1 ≤ s.ks.length ∧ s.c.clients = (s.ks.length : Int) := by
  have := (cfgB h.scr.cfg).clients
  have := h.scr.len
  omega
theorem costs_cb (h : ShI n s F) : ∀ k ∈ s.ks, (costsK k).length ≤ 8 ∧ ∀ x ∈ costsK k, 1 ≤ x ∧ x ≤ 300 := by
  intro k hk
  have hc := cfgB h.scr.cfg
  cases k with
  | none => exact ⟨by simp [costsK], fun x hx => by simp [costsK] at hx⟩
  | some k =>
    obtain ⟨j, hj⟩ := List.getElem?_of_mem hk
    have h0 := h.scr.cl j k hj
    have := h0.ql
    have h2 := hc.queue
    have h3 := hc.most
    refine ⟨by simp [costsK]; omega, fun x hx => ?_⟩
    simp only [costsK, List.mem_map] at hx
    obtain ⟨tr, htr, rfl⟩ := hx
    have := (h0.tr tr htr).2
    omega
theorem sum_bd8 : ∀ (l : List Int), (∀ x ∈ l, 1 ≤ x ∧ x ≤ 300) → 0 ≤ l.sum ∧ l.sum ≤ 300 * (l.length : Int)
  | [], _ => by simp
  | x :: l, h => by
    have h1 := h x (by simp)
    have h2 := sum_bd8 l (fun y hy => h y (by simp [hy]))
    simp only [List.sum_cons, List.length_cons]
    omega
theorem admCost_bd (h : ShI n s F) (k : Option Cli) (hk : k ∈ s.ks) : 0 ≤ admCost s.c.quantum k ∧ admCost s.c.quantum k ≤ 2400 := by
  obtain ⟨h1, h2⟩ := costs_cb h k hk
  unfold admCost
  have := sum_bd8 ((costsK k).take (cntN s.c.quantum k)) (fun x hx => h2 x (List.mem_of_mem_take hx))
  rw [List.length_take] at this
  omega
/-- What 'tick' must know, and how it leaves things. -/
theorem tick_in (h : ShI n s F) (hn : n ≤ 1300000) {b : Nat} (hb : b ≤ 1000) : ∃ marks', TickIn s F b marks' ∧ ShI (n + 1) (tickS s b) (tickF s F b marks') := by
  have hc := cfgB h.scr.cfg
  have hn4 := h.n4
  obtain ⟨ms, m1, m2, m3⟩ := fireL_ok (flipF s.f).2.2 F.marks (allM (tickS s b)) (fun c => by rw [h.eq c]; exact tick_m s b (fun d hd => qAsk_out _ _ hd) c)
  have hks : (tickS s b).ks = s.ks.map (admK s.c.quantum) := ksI_full s.c.quantum s.ks
  have hfl : ((flipF s.f).2.1 = 0 ∧ (flipF s.f).2.2 = []) ∨ (flipF s.f).2.1 = 1 := by
    unfold flipF
    split
    · exact .inl ⟨rfl, rfl⟩
    · split
      · exact .inr rfl
      · exact .inl ⟨rfl, rfl⟩
  have hpn : tickP s b ≤ b := by
    unfold tickP paintN
    split <;> omega
  have hfm : (flipF s.f).2.2.length ≤ 640 * n := by
    unfold flipF
    cases hf : s.f.frame with
    | none => simp
    | some g =>
      simp only
      split
      · exact (h.scr.st.fr.fm g hf).2.2.2.2
      · simp
  have ht := h.t
  have hp := h.paid
  have hfp := h.flips
  have hml := h.ml
  refine ⟨ms, ⟨tick_fine h.scr (by omega) (by omega), hb, h.c, hn4.2.2, hn4.1, h.wait, h.ticks, h.hl, fun x hx => by have := h.hb x hx; omega, fun k hk => ?_, fun k hk hne => ?_, by omega, by omega, by omega, m1, by omega, hfl, hpn⟩, ?_⟩
  · obtain ⟨a, c⟩ := costs_cb h k hk
    exact ⟨by omega, fun x hx => by have := c x hx; omega⟩
  · cases k with
    | none => exact absurd rfl hne
    | some k =>
      obtain ⟨j, hj⟩ := List.getElem?_of_mem hk
      have := (admitC_cr hc (h.scr.cl j k hj)).2 (fun e => hne (by simp [costsK, e]))
      simp only [cntN, cntK]
      omega
  · refine ⟨?_, ?_, h.c, ?_, ?_, rfl, ?_, fun x hx => ?_, ?_, ?_, ?_, m2, fun j hj => ?_⟩
    · have := tick_ok h.scr (by omega) b
      rw [show 640 * (n + 1) = 640 * n + 640 by omega]
      exact this
    · show 0 ≤ s.t + 1 ∧ s.t + 1 ≤ _; omega
    · show F.there = _
      rw [hks, h.there, List.map_map]
      refine List.map_congr_left fun k _ => ?_
      cases k <;> rfl
    · show waitI s.c.quantum s.ks s.ks.length = _
      rw [hks, List.map_map]
      simp [waitI]
    · show (hadI s.c.quantum s.ks F.had s.ks.length).length = _
      rw [hadI_len, hks, List.length_map]; exact h.hl
    · have hx' : x ∈ hadI s.c.quantum s.ks F.had s.ks.length := hx
      unfold hadI at hx'
      rw [List.mem_mapIdx] at hx'
      obtain ⟨j, hj, rfl⟩ := hx'
      have hjl : j < s.ks.length := by have := h.hl; omega
      rw [if_pos hjl]
      have h1 := h.hb F.had[j] (List.getElem_mem hj)
      have h2 := admCost_bd h (s.ks.getD j none) (by rw [List.getD_eq_getElem?_getD, List.getElem?_eq_getElem hjl]; exact List.getElem_mem hjl)
      omega
    · show 0 ≤ (if b = 0 then F.paid else F.paid + 1) ∧ (if b = 0 then F.paid else F.paid + 1) ≤ _
      split <;> omega
    · show 0 ≤ F.flips + (flipF s.f).2.1 ∧ F.flips + (flipF s.f).2.1 ≤ _
      rcases hfl with ⟨e, -⟩ | e <;> rw [e] <;> omega
    · show ms.length ≤ _; omega
    · rw [hks, List.getElem?_map] at hj
      have hj0 : s.ks[j]? = some none := by
        cases hk : s.ks[j]? with
        | none => rw [hk] at hj; cases hj
        | some x => cases x with
          | none => rfl
          | some k => rw [hk] at hj; simp [admK] at hj
      obtain ⟨n1, n2⟩ := h.no j hj0
      have q0 : qAsk s.ks (j : Int) = [] := by simp [qAsk, perC, hj0]
      have := tick_m s b (fun d hd => qAsk_out _ _ hd) (j : Int)
      unfold allM at this
      rw [n1, n2, q0] at this
      have := this.symm
      simp only [List.append_nil, List.append_eq_nil_iff] at this
      exact ⟨this.2.1, this.2.2.1⟩
theorem askM_strip (ops : List Opn) : askM (ops.map stripO) = askM ops := by
  unfold askM
  induction ops with
  | nil => rfl
  | cons o l ih =>
    have e : (stripO o).mark = o.mark := by unfold stripO; split <;> rfl
    rw [List.map_cons, List.filter_cons, List.filter_cons, stripO_kind]
    split
    · simp [e, ih]
    · exact ih
theorem qAsk_set {ks : List (Option Cli)} {i : Nat} {k : Option Cli} (hi : i < ks.length) (c : Int) : qAsk (ks.set i k) c = if c = (i : Int) then (match k with | some k => askM k.q.flatten | none => []) else qAsk ks c := by
  unfold qAsk perC
  by_cases e : c = (i : Int)
  · subst e
    rw [if_pos (by omega), if_pos rfl, Int.toNat_natCast, List.getElem?_set_self hi]
    cases k <;> rfl
  · rw [if_neg e]
    by_cases h : 0 ≤ c
    · rw [if_pos h, if_pos h, List.getElem?_set_ne (by omega)]
    · rw [if_neg h, if_neg h]
theorem qAsk_at {ks : List (Option Cli)} {i : Nat} {k : Cli} (hk : ks[i]? = some (some k)) : qAsk ks (i : Int) = askM k.q.flatten := by simp [qAsk, perC, hk]
theorem pend_asks (c : Int) (i : Nat) (t : Int) (l : List Opn) : pend c (asksOf i t l) = if c = (i : Int) then askM l else [] := by
  unfold asksOf askM pend
  rw [List.filter_map, List.map_map]
  by_cases e : c = (i : Int)
  · rw [if_pos e, List.filter_eq_self.2 (fun x _ => by simp [Function.comp, e])]
    rfl
  · rw [if_neg e, List.filter_eq_nil_iff.2 (fun x _ => by simp [Function.comp]; exact fun e' => e e'.symm)]
    rfl
theorem asksOf_le (i : Nat) (t : Int) (l : List Opn) : (asksOf i t l).length ≤ l.length := by
  unfold asksOf; rw [List.length_map]; exact List.length_filter_le _ _
/-- A transaction is taken. -/
theorem sub_in (h : ShI n s F) {i : Nat} {raw : List Opn} (hc : subCo s i (fullO F raw) = 0) : ShI (n + 1) (subS s i (fullO F raw)) (subF F i raw (costOf (fullO F raw))) := by
  unfold subCo at hc
  split at hc
  case h_2 => omega
  rename_i cl hk
  have hi := (List.getElem?_eq_some_iff.1 hk).1
  have e : subS s i (fullO F raw) = { s with ks := s.ks.set i (some (subC cl (fullO F raw))) } := by unfold subS; rw [hk]; simp only; rw [if_pos hc]
  rw [e]
  have hol := (sub_parts hc).1
  have hlen : (fullO F raw).length = raw.length + 1 := by simp [fullO]
  have hm := h.mono (Nat.le_succ n)
  have ha := asksOf_le i F.paid raw
  refine ⟨sub_ok hm.scr hk hc, hm.t, h.c, ?_, ?_, h.ticks, by simp only [subF, List.length_set]; exact h.hl, hm.hb, hm.paid, hm.flips, ?_, fun c => ?_, fun j hj => ?_⟩
  · show F.there = _
    rw [h.there, List.map_set]
    refine List.ext_getElem? fun j => ?_
    rw [List.getElem?_set]
    split
    · rename_i e2; subst e2; rw [if_pos (by simpa using hi)]; simp [hk]
    · rfl
  · show F.wait.set i _ = _
    rw [List.map_set, h.wait]
    congr 1
    rw [List.getD_eq_getElem?_getD, List.getElem?_map, hk]
    simp [costsK, subC, costOf_strip]
  · show (F.marks ++ asksOf i F.paid raw ++ [_]).length ≤ _
    have := h.ml
    simp only [List.length_append, List.length_singleton]
    omega
  · show pend c (F.marks ++ asksOf i F.paid raw ++ [_]) = _
    rw [pend_append, pend_append, pend_asks, h.eq c]
    unfold allM
    simp only
    rw [qAsk_set hi]
    by_cases e2 : c = (i : Int)
    · rw [if_pos e2, if_pos e2, e2, qAsk_at hk]
      simp only [subC, List.flatten_append, askM_append, List.flatten_cons, List.flatten_nil, List.append_nil, askM_strip, fullO, List.append_assoc]
      congr 4
      simp [pend, askM, askO]
    · rw [if_neg e2, if_neg e2]
      have : pend c [(⟨(i : Int), (F.marks.length : Int), F.paid, false, false⟩ : Ask)] = [] := by
        simp [pend]; exact fun e' => e2 e'.symm
      rw [this]; simp
  · by_cases e2 : j = i
    · subst e2
      simp only at hj
      rw [List.getElem?_set_self hi] at hj
      simp at hj
    · simp only at hj
      rw [List.getElem?_set_ne (Ne.symm e2)] at hj
      exact h.no j hj
theorem subS_not {i : Nat} {ops : List Opn} (hc : subCo s i ops ≠ 0) : subS s i ops = s := by
  unfold subCo at hc
  unfold subS
  split
  · rename_i cl hk
    rw [hk] at hc
    simp only at hc
    rw [if_neg hc]
  · rfl
theorem pend_gone (c : Int) (i : Nat) (l : List Ask) : pend c (l.map (gone1 (i : Int))) = if c = (i : Int) then [] else pend c l := by
  induction l with
  | nil => simp [pend]
  | cons y l ih =>
    rw [List.map_cons, pend_cons, ih, pend_cons]
    unfold gone1
    by_cases e : c = (i : Int)
    · rw [if_pos e, if_pos e]
      by_cases h : y.cl = (i : Int)
      · rw [if_pos h]
        rw [if_neg (by rintro ⟨-, e1, e2⟩; simp only at e1 e2; rw [e1] at e2; simp at e2)]; rfl
      · rw [if_neg h, if_neg (by rintro ⟨e1, -⟩; exact h (e1.trans e))]; rfl
    · rw [if_neg e, if_neg e]
      by_cases h : y.cl = (i : Int)
      · rw [if_pos h, if_neg (by rintro ⟨e1, -⟩; exact e (e1.symm.trans h)), if_neg (by rintro ⟨e1, -⟩; exact e (e1.symm.trans h))]
      · rw [if_neg h]
theorem ofC_not (c : Int) (i : Int) (l : List (Int × Int)) : ofC c (notOf i l) = if c = i then [] else ofC c l := by
  unfold ofC notOf
  rw [List.filter_filter]
  by_cases e : c = i
  · rw [if_pos e, List.filter_eq_nil_iff.2 (fun x _ => by simp; intro h; rw [h]; exact e)]; rfl
  · rw [if_neg e]
    congr 1
    refine List.filter_congr fun x _ => ?_
    by_cases h : x.1 = c
    · simp [h, e]
    · simp [h]
theorem frM_forget (f : Frs) (i : Int) : frM (forgetF f i) = notOf i (frM f) := by
  unfold frM forgetF
  cases f.frame <;> simp [notOf]
/-- One leaves. -/
theorem leave_in (h : ShI n s F) {i : Nat} (hi : i < s.ks.length) : ShI (n + 1) (leftS s i) (leftF F i) := by
  have hm := h.mono (Nat.le_succ n)
  unfold leftS
  by_cases hc : conK s.ks (i : Int) = true
  · rw [if_pos hc]
    obtain ⟨cl, hk⟩ : ∃ cl, s.ks[i]? = some (some cl) := by
      simp only [conK, Bool.and_eq_true, Int.toNat_natCast] at hc
      cases hk : s.ks[i]? with
      | none => rw [hk] at hc; simp at hc
      | some x => cases x with
        | none => rw [hk] at hc; simp at hc
        | some cl => exact ⟨cl, rfl⟩
    have hs := damL_s ((s.l.filter fun x => x.cl == (i : Int)).flatMap lvDmg) s.f
    have e1 : ∀ c, ofC c (frM (discS s i).f) = if c = (i : Int) then [] else ofC c (frM s.f) := fun c => by
      show ofC c (frM (forgetF _ _)) = _
      rw [frM_forget, ofC_not]
      have : frM (damL s.f ((s.l.filter fun x => x.cl == (i : Int)).flatMap lvDmg)) = frM s.f := by unfold frM; rw [hs.frame]
      rw [this]
    have e2 : ∀ c, ofC c (discS s i).f.marks = if c = (i : Int) then [] else ofC c s.f.marks := fun c => by
      show ofC c (notOf _ (damL s.f _).marks) = _
      rw [ofC_not, hs.marks]
    refine ⟨disc_ok hm.scr hk, hm.t, h.c, ?_, ?_, h.ticks, by simp only [leftF, discS, List.length_set]; exact h.hl, hm.hb, hm.paid, hm.flips, by simp only [leftF, List.length_map]; exact hm.ml, fun c => ?_, fun j hj => ?_⟩
    · show F.there.set i false = (s.ks.set i none).map _
      rw [List.map_set, h.there]; rfl
    · show F.wait.set i [] = (s.ks.set i none).map _
      rw [List.map_set, h.wait]; rfl
    · show pend c (F.marks.map (gone1 (i : Int))) = _
      rw [pend_gone, h.eq c]
      unfold allM
      rw [e1, e2, show (discS s i).ks = s.ks.set i none from rfl, qAsk_set hi]
      by_cases e : c = (i : Int)
      · simp [e]
      · simp [e]
    · rw [e1, e2]
      by_cases e : j = i
      · subst e; simp
      · have e' : ¬ (j : Int) = (i : Int) := by omega
        rw [if_neg e', if_neg e']
        have hj' : (s.ks.set i none)[j]? = some none := hj
        rw [List.getElem?_set_ne (Ne.symm e)] at hj'
        exact h.no j hj'
  · rw [if_neg hc]
    have hk : s.ks[i]? = some none := by
      simp only [conK, Int.toNat_natCast] at hc
      cases hk : s.ks[i]? with
      | none => rw [List.getElem?_eq_none_iff] at hk; omega
      | some x => cases x with
        | none => rfl
        | some cl => rw [hk] at hc; simp at hc
    have set_self : ∀ {α : Type} (l : List α) (x : α), l[i]? = some x → l.set i x = l := fun l x hx => List.ext_getElem? fun j => by
      rw [List.getElem?_set]
      split
      · rename_i e; subst e; rw [if_pos (List.getElem?_eq_some_iff.1 hx).1, hx]
      · rfl
    have z : allM s (i : Int) = [] := by
      obtain ⟨n1, n2⟩ := h.no i hk
      unfold allM
      rw [n1, n2]; simp [qAsk, perC, hk]
    refine ⟨hm.scr, hm.t, h.c, ?_, ?_, h.ticks, h.hl, hm.hb, hm.paid, hm.flips, by simp only [leftF, List.length_map]; exact hm.ml, fun c => ?_, h.no⟩
    · show F.there.set i false = _
      rw [h.there]; exact set_self _ _ (by simp [hk])
    · show F.wait.set i [] = _
      rw [h.wait]; exact set_self _ _ (by simp [hk, costsK])
    · show pend c (F.marks.map (gone1 (i : Int))) = _
      rw [pend_gone, h.eq c]
      by_cases e : c = (i : Int)
      · rw [if_pos e, e, z]
      · rw [if_neg e]
/-- One comes. -/
theorem come_in (h : ShI n s F) : ShI (n + 1) (cameS s) (cameF s F) := by
  have hm := h.mono (Nat.le_succ n)
  unfold cameS cameF
  cases hf : firstNone s.ks with
  | none => exact hm
  | some k =>
    obtain ⟨h1, h2, h3⟩ := firstNone_is _ _ hf
    have hk : s.ks[k]? = some none := by
      rw [List.getElem?_map] at h2
      cases hk : s.ks[k]? with
      | none => rw [hk] at h2; cases h2
      | some x => cases x with
        | none => rfl
        | some cl => rw [hk] at h2; simp at h2
    simp only
    refine ⟨conn_ok hm.scr hk, hm.t, h.c, ?_, ?_, h.ticks, by simp only [List.length_set]; exact h.hl, hm.hb, hm.paid, hm.flips, hm.ml, fun c => ?_, fun j hj => ?_⟩
    · show F.there.set k true = _
      rw [List.map_set, h.there]; rfl
    · show F.wait = _
      rw [List.map_set, h.wait]
      refine List.ext_getElem? fun j => ?_
      rw [List.getElem?_set]
      split
      · rename_i e2; subst e2; rw [if_pos (by simpa using h1)]; simp [hk, costsK, newC]
      · rfl
    · show pend c F.marks = _
      rw [h.eq c]
      unfold allM
      simp only
      rw [qAsk_set h1]
      by_cases e : c = (k : Int)
      · rw [if_pos e, e]; simp [qAsk, perC, hk, newC, askM]
      · rw [if_neg e]
    · by_cases e2 : j = k
      · subst e2
        simp only at hj
        rw [List.getElem?_set_self h1] at hj
        simp at hj
      · simp only at hj
        rw [List.getElem?_set_ne (Ne.symm e2)] at hj
        exact h.no j hj
end
end Go.Proofs.Ytfnockbgkcgpkaa
set_option linter.all false
namespace Go.Proofs.Ytfnockbgkcgpkaa
open Go.RowKit Go.Proofs.Panes
set_option maxRecDepth 100000
theorem info_bool9 : (Try.prog.info? 4).map (fun i => (i.zero, i.size, i.bytes)) = some (some (.bool false), 1, 1) := by kernel_rfl
theorem info_int9 : (Try.prog.info? 3).map (fun i => (i.zero, i.size, i.bytes)) = some (some (.int .i64 0), 1, 8) := by kernel_rfl
theorem info_ints9 : (Try.prog.info? 23).map (fun i => (i.zero, i.size, i.bytes)) = some (some (.slice none 0 0), 1, 24) := by kernel_rfl
section
variable {a : Nat → Nat} {w w' : World} {sp xp : Nat} {F : ShF} {L : ShL}
theorem ShB.pushThere (h : ShB a w sp xp F L) (hl : F.there.length ≤ 1000000000) (b : Bool) (t : Nat) (ht : w.cell? ⟨t, 0, none⟩ = some (Value.bool b)) :
    ∃ g cap w', (Builtin.append_ #[50, 50] 50 #[L.tv, .slice (some ⟨t, 0, none⟩) 1 1]).run Try.prog w = .ok (.slice (some ⟨g, 0, none⟩) (F.there.length + 1) cap) w' ∧ w'.cell? ⟨sp, 9, none⟩ = some L.tv ∧ w'.frozen? ⟨sp, 9, none⟩ = false ∧ But (fun x => a x = 2) w w' ∧
      ∀ q : Nat, ∃ a', ShB a' ((w'.drewN q).setCell ⟨sp, 9, none⟩ (.slice (some ⟨g, 0, none⟩) (F.there.length + 1) cap)) sp xp { F with there := F.there ++ [b] } { L with tv := .slice (some ⟨g, 0, none⟩) (F.there.length + 1) cap } ∧ Sto a a' w ((w'.drewN q).setCell ⟨sp, 9, none⟩ (.slice (some ⟨g, 0, none⟩) (F.there.length + 1) cap)) ∧ ∀ x, a' x ≠ 0 → a x ≠ 0 ∨ x = w.heap.size := by
  obtain ⟨i0, hi, hz0, hz1, hz2⟩ := info_parts info_bool9
  obtain ⟨g, cap, w', hrun, hO2, hgr, hat, hlt⟩ := run_append_lies (P := Try.prog) w 50 50 0 4 i0 _ 1 1 Try.underlying50 hi hz0 hz1 hz2 rfl (by omega) L.tv F.there.length _ h.there ⟨t, 0, none⟩ 1 1 [(Value.bool b)] rfl (fun j u hj => by
    have : (⟨t, 0, none⟩ : Addr).add j = ⟨t, j, none⟩ := by unfold Addr.add; split <;> simp_all
    rw [this]
    cases j with
    | zero => simp at hj; rw [ht]; exact congrArg some hj
    | succ j => simp at hj) (by
    intro u hu
    simp only [List.mem_cons, List.mem_nil_iff, or_false] at hu
    subst hu; rfl) (by omega) (by unfold maxLen; omega) (by omega) (Nat.zero_le _) w.heap.size rfl
  have hbt : But (fun x => a x = 2) w w' := .of_grown hgr (fun k e => h.atv k e)
  have hblk : w'.heap[sp]? = some (.cells (shcells xp F L) 57 (0, 0)) := hbt.heap h.blk (by rw [h.asp]; omega)
  have hag : a g = 2 ∨ g = w.heap.size := by
    rcases hat with e | e
    · exact .inl (h.atv g e)
    · exact .inr e
  refine ⟨g, cap, w', hrun, blk_cell hblk 9, blk_thaw hblk 9, hbt, fun q => ?_⟩
  have hbq : Below w'.heap.size w' (w'.drewN q) := below_drewN (Below.refl _ _) q
  have hbt2 : But (fun x => a x = 2) w (w'.drewN q) := hbt.trans (.of_below hbq)
  have hblk2 : (w'.drewN q).heap[sp]? = some (.cells (shcells xp F L) 57 (0, 0)) := hbt2.heap h.blk (by rw [h.asp]; omega)
  have hs : But (fun x => x = sp) (w'.drewN q) ((w'.drewN q).setCell ⟨sp, 9, none⟩ (.slice (some ⟨g, 0, none⟩) (F.there.length + 1) cap)) := (But.refl (fun x => x = sp) _).setCell (p := ⟨sp, 9, none⟩) (.inl rfl) _
  have hsz : w.heap.size ≤ w'.heap.size := hbt.size
  have hall : But (fun x => a x = 2 ∨ x = sp) w ((w'.drewN q).setCell ⟨sp, 9, none⟩ (.slice (some ⟨g, 0, none⟩) (F.there.length + 1) cap)) := (hbt2.wide (fun x _ e => .inl e)).trans (hs.wide (fun x _ e => .inr e))
  have hT : ∀ x, a x ≠ 2 → a x ≠ 1 → ¬ (a x = 2 ∨ x = sp) := fun x h1 h2 e => by
    rcases e with e | e
    · exact h1 e
    · exact h2 (by rw [e]; exact h.asp)
  have hgs : ¬ g = sp := fun e => by
    rcases hag with c | c
    · rw [e, h.asp] at c; omega
    · have := lt_of_heap h.blk; omega
  have key : ∀ x, (if x = g then 2 else a x) ≠ 0 → a x ≠ 0 ∨ x = w.heap.size := fun x hx => by
    by_cases e : x = g
    · subst e
      rcases hag with c | c
      · exact .inl (by omega)
      · exact .inr c
    · rw [if_neg e] at hx; exact .inl hx
  have hne : ∀ k c, a k = c → c ≠ 2 → c ≠ 0 → (if k = g then 2 else a k) = c := fun k c hk h5 h0 => by
    rw [if_neg (fun e => by
      rcases hag with d | d
      · rw [e] at hk; omega
      · have := h.lt k (by omega); omega)]
    exact hk
  refine ⟨fun x => if x = g then 2 else a x, ⟨?_, ?_, row_but h.wait hall (fun k hk => hT k (by rw [h.awv k hk]; omega) (by rw [h.awv k hk]; omega)), fun i v l hv hl => ?_, row_but h.had hall (fun k hk => hT k (by rw [h.ahv k hk]; omega) (by rw [h.ahv k hk]; omega)), row_but h.marks hall (fun k hk => hT k (by rw [h.amv k hk]; omega) (by rw [h.amv k hk]; omega)), hne sp 1 h.asp (by omega) (by omega), fun k hk => ?_, fun k hk => hne k 3 (h.awv k hk) (by omega) (by omega), fun k hk => hne k 4 (h.ahv k hk) (by omega) (by omega), fun k hk => hne k 5 (h.amv k hk) (by omega) (by omega), fun x hx => ?_⟩, ⟨?_, fun x hx hc => ?_⟩, key⟩
  · have := blk_set (i := 9) hblk2 (.slice (some ⟨g, 0, none⟩) (F.there.length + 1) cap)
    rw [this]
    simp [shcells]
  · have h1 := row_but (S := fun _ => False) hO2 (.of_below hbq) (fun _ _ h => h)
    have h2 := row_but h1 hs (fun k hk e => by simp [Value.ownBlock] at hk; exact hgs (hk.trans e))
    have e1 : (F.there ++ [b]).length = F.there.length + 1 := by simp
    show World.ownsRow _ _ _ _ _ (F.there ++ [b]).length ((F.there ++ [b]).map Value.bool)
    rw [e1, List.map_append]
    exact h2
  · exact ((h.each i v l hv hl).but hall (fun x hx => hT x (by omega) (by omega))).mono (fun x hx => hne x (6 + i) hx (by omega) (by omega))
  · simp [Value.ownBlock] at hk
    rw [if_pos hk.symm]
  · have hz2 : w'.heap.size ≤ ((w'.drewN q).setCell ⟨sp, 9, none⟩ (.slice (some ⟨g, 0, none⟩) (F.there.length + 1) cap)).heap.size := Nat.le_trans hbq.size hs.size
    rcases key x hx with c | c
    · exact Nat.lt_of_lt_of_le (h.lt x c) (Nat.le_trans hsz hz2)
    · by_cases e : x = g
      · rw [e]; exact Nat.lt_of_lt_of_le hlt hz2
      · rw [if_neg e] at hx
        exact Nat.lt_of_lt_of_le (h.lt x hx) (Nat.le_trans hsz hz2)
  · exact hall.wide (fun x _ e => by
      rcases e with e | e
      · omega
      · rw [e, h.asp]; omega)
  · rcases key x hc with c | c
    · exact c
    · omega
theorem ShB.pushHad (h : ShB a w sp xp F L) (hl : F.had.length ≤ 1000000000) (m : Int) (t : Nat) (ht : w.cell? ⟨t, 0, none⟩ = some (Value.int .i64 m)) :
    ∃ g cap w', (Builtin.append_ #[23, 23] 23 #[L.hv, .slice (some ⟨t, 0, none⟩) 1 1]).run Try.prog w = .ok (.slice (some ⟨g, 0, none⟩) (F.had.length + 1) cap) w' ∧ w'.cell? ⟨sp, 11, none⟩ = some L.hv ∧ w'.frozen? ⟨sp, 11, none⟩ = false ∧ But (fun x => a x = 4) w w' ∧
      ∀ q : Nat, ∃ a', ShB a' ((w'.drewN q).setCell ⟨sp, 11, none⟩ (.slice (some ⟨g, 0, none⟩) (F.had.length + 1) cap)) sp xp { F with had := F.had ++ [m] } { L with hv := .slice (some ⟨g, 0, none⟩) (F.had.length + 1) cap } ∧ Sto a a' w ((w'.drewN q).setCell ⟨sp, 11, none⟩ (.slice (some ⟨g, 0, none⟩) (F.had.length + 1) cap)) ∧ ∀ x, a' x ≠ 0 → a x ≠ 0 ∨ x = w.heap.size := by
  obtain ⟨i0, hi, hz0, hz1, hz2⟩ := info_parts info_int9
  obtain ⟨g, cap, w', hrun, hO2, hgr, hat, hlt⟩ := run_append_lies (P := Try.prog) w 23 23 0 3 i0 _ 1 8 Try.underlying23 hi hz0 hz1 hz2 rfl (by omega) L.hv F.had.length _ h.had ⟨t, 0, none⟩ 1 1 [(Value.int .i64 m)] rfl (fun j u hj => by
    have : (⟨t, 0, none⟩ : Addr).add j = ⟨t, j, none⟩ := by unfold Addr.add; split <;> simp_all
    rw [this]
    cases j with
    | zero => simp at hj; rw [ht]; exact congrArg some hj
    | succ j => simp at hj) (by
    intro u hu
    simp only [List.mem_cons, List.mem_nil_iff, or_false] at hu
    subst hu; rfl) (by omega) (by unfold maxLen; omega) (by omega) (Nat.zero_le _) w.heap.size rfl
  have hbt : But (fun x => a x = 4) w w' := .of_grown hgr (fun k e => h.ahv k e)
  have hblk : w'.heap[sp]? = some (.cells (shcells xp F L) 57 (0, 0)) := hbt.heap h.blk (by rw [h.asp]; omega)
  have hag : a g = 4 ∨ g = w.heap.size := by
    rcases hat with e | e
    · exact .inl (h.ahv g e)
    · exact .inr e
  refine ⟨g, cap, w', hrun, blk_cell hblk 11, blk_thaw hblk 11, hbt, fun q => ?_⟩
  have hbq : Below w'.heap.size w' (w'.drewN q) := below_drewN (Below.refl _ _) q
  have hbt2 : But (fun x => a x = 4) w (w'.drewN q) := hbt.trans (.of_below hbq)
  have hblk2 : (w'.drewN q).heap[sp]? = some (.cells (shcells xp F L) 57 (0, 0)) := hbt2.heap h.blk (by rw [h.asp]; omega)
  have hs : But (fun x => x = sp) (w'.drewN q) ((w'.drewN q).setCell ⟨sp, 11, none⟩ (.slice (some ⟨g, 0, none⟩) (F.had.length + 1) cap)) := (But.refl (fun x => x = sp) _).setCell (p := ⟨sp, 11, none⟩) (.inl rfl) _
  have hsz : w.heap.size ≤ w'.heap.size := hbt.size
  have hall : But (fun x => a x = 4 ∨ x = sp) w ((w'.drewN q).setCell ⟨sp, 11, none⟩ (.slice (some ⟨g, 0, none⟩) (F.had.length + 1) cap)) := (hbt2.wide (fun x _ e => .inl e)).trans (hs.wide (fun x _ e => .inr e))
  have hT : ∀ x, a x ≠ 4 → a x ≠ 1 → ¬ (a x = 4 ∨ x = sp) := fun x h1 h2 e => by
    rcases e with e | e
    · exact h1 e
    · exact h2 (by rw [e]; exact h.asp)
  have hgs : ¬ g = sp := fun e => by
    rcases hag with c | c
    · rw [e, h.asp] at c; omega
    · have := lt_of_heap h.blk; omega
  have key : ∀ x, (if x = g then 4 else a x) ≠ 0 → a x ≠ 0 ∨ x = w.heap.size := fun x hx => by
    by_cases e : x = g
    · subst e
      rcases hag with c | c
      · exact .inl (by omega)
      · exact .inr c
    · rw [if_neg e] at hx; exact .inl hx
  have hne : ∀ k c, a k = c → c ≠ 4 → c ≠ 0 → (if k = g then 4 else a k) = c := fun k c hk h5 h0 => by
    rw [if_neg (fun e => by
      rcases hag with d | d
      · rw [e] at hk; omega
      · have := h.lt k (by omega); omega)]
    exact hk
  refine ⟨fun x => if x = g then 4 else a x, ⟨?_, row_but h.there hall (fun k hk => hT k (by rw [h.atv k hk]; omega) (by rw [h.atv k hk]; omega)), row_but h.wait hall (fun k hk => hT k (by rw [h.awv k hk]; omega) (by rw [h.awv k hk]; omega)), fun i v l hv hl => ?_, ?_, row_but h.marks hall (fun k hk => hT k (by rw [h.amv k hk]; omega) (by rw [h.amv k hk]; omega)), hne sp 1 h.asp (by omega) (by omega), fun k hk => hne k 2 (h.atv k hk) (by omega) (by omega), fun k hk => hne k 3 (h.awv k hk) (by omega) (by omega), fun k hk => ?_, fun k hk => hne k 5 (h.amv k hk) (by omega) (by omega), fun x hx => ?_⟩, ⟨?_, fun x hx hc => ?_⟩, key⟩
  · have := blk_set (i := 11) hblk2 (.slice (some ⟨g, 0, none⟩) (F.had.length + 1) cap)
    rw [this]
    simp [shcells]
  · exact ((h.each i v l hv hl).but hall (fun x hx => hT x (by omega) (by omega))).mono (fun x hx => hne x (6 + i) hx (by omega) (by omega))
  · have h1 := row_but (S := fun _ => False) hO2 (.of_below hbq) (fun _ _ h => h)
    have h2 := row_but h1 hs (fun k hk e => by simp [Value.ownBlock] at hk; exact hgs (hk.trans e))
    have e1 : (F.had ++ [m]).length = F.had.length + 1 := by simp
    show World.ownsRow _ _ _ _ _ (F.had ++ [m]).length ((F.had ++ [m]).map (Value.int .i64))
    rw [e1, List.map_append]
    exact h2
  · simp [Value.ownBlock] at hk
    rw [if_pos hk.symm]
  · have hz2 : w'.heap.size ≤ ((w'.drewN q).setCell ⟨sp, 11, none⟩ (.slice (some ⟨g, 0, none⟩) (F.had.length + 1) cap)).heap.size := Nat.le_trans hbq.size hs.size
    rcases key x hx with c | c
    · exact Nat.lt_of_lt_of_le (h.lt x c) (Nat.le_trans hsz hz2)
    · by_cases e : x = g
      · rw [e]; exact Nat.lt_of_lt_of_le hlt hz2
      · rw [if_neg e] at hx
        exact Nat.lt_of_lt_of_le (h.lt x hx) (Nat.le_trans hsz hz2)
  · exact hall.wide (fun x _ e => by
      rcases e with e | e
      · omega
      · rw [e, h.asp]; omega)
  · rcases key x hc with c | c
    · exact c
    · omega
theorem ShB.pushNil (h : ShB a w sp xp F L) (hl : F.wait.length ≤ 1000000000) (t : Nat) (ht : w.cell? ⟨t, 0, none⟩ = some (Value.slice none 0 0)) :
    ∃ g cap w', (Builtin.append_ #[51, 51] 51 #[L.wv, .slice (some ⟨t, 0, none⟩) 1 1]).run Try.prog w = .ok (.slice (some ⟨g, 0, none⟩) (F.wait.length + 1) cap) w' ∧ w'.cell? ⟨sp, 10, none⟩ = some L.wv ∧ w'.frozen? ⟨sp, 10, none⟩ = false ∧ But (fun x => a x = 3) w w' ∧
      ∀ q : Nat, ∃ a', ShB a' ((w'.drewN q).setCell ⟨sp, 10, none⟩ (.slice (some ⟨g, 0, none⟩) (F.wait.length + 1) cap)) sp xp { F with wait := F.wait ++ [[]] } { L with ws := L.ws ++ [.slice none 0 0], wv := .slice (some ⟨g, 0, none⟩) (F.wait.length + 1) cap } ∧ Sto a a' w ((w'.drewN q).setCell ⟨sp, 10, none⟩ (.slice (some ⟨g, 0, none⟩) (F.wait.length + 1) cap)) ∧ ∀ x, a' x ≠ 0 → a x ≠ 0 ∨ x = w.heap.size := by
  obtain ⟨i0, hi, hz0, hz1, hz2⟩ := info_parts info_ints9
  obtain ⟨g, cap, w', hrun, hO2, hgr, hat, hlt⟩ := run_append_lies (P := Try.prog) w 51 51 0 23 i0 _ 1 24 Try.underlying51 hi hz0 hz1 hz2 rfl (by omega) L.wv F.wait.length _ h.wait ⟨t, 0, none⟩ 1 1 [(Value.slice none 0 0)] rfl (fun j u hj => by
    have : (⟨t, 0, none⟩ : Addr).add j = ⟨t, j, none⟩ := by unfold Addr.add; split <;> simp_all
    rw [this]
    cases j with
    | zero => simp at hj; rw [ht]; exact congrArg some hj
    | succ j => simp at hj) (by
    intro u hu
    simp only [List.mem_cons, List.mem_nil_iff, or_false] at hu
    subst hu; rfl) (by omega) (by unfold maxLen; omega) (by omega) (Nat.zero_le _) w.heap.size rfl
  have hbt : But (fun x => a x = 3) w w' := .of_grown hgr (fun k e => h.awv k e)
  have hblk : w'.heap[sp]? = some (.cells (shcells xp F L) 57 (0, 0)) := hbt.heap h.blk (by rw [h.asp]; omega)
  have hag : a g = 3 ∨ g = w.heap.size := by
    rcases hat with e | e
    · exact .inl (h.awv g e)
    · exact .inr e
  refine ⟨g, cap, w', hrun, blk_cell hblk 10, blk_thaw hblk 10, hbt, fun q => ?_⟩
  have hbq : Below w'.heap.size w' (w'.drewN q) := below_drewN (Below.refl _ _) q
  have hbt2 : But (fun x => a x = 3) w (w'.drewN q) := hbt.trans (.of_below hbq)
  have hblk2 : (w'.drewN q).heap[sp]? = some (.cells (shcells xp F L) 57 (0, 0)) := hbt2.heap h.blk (by rw [h.asp]; omega)
  have hs : But (fun x => x = sp) (w'.drewN q) ((w'.drewN q).setCell ⟨sp, 10, none⟩ (.slice (some ⟨g, 0, none⟩) (F.wait.length + 1) cap)) := (But.refl (fun x => x = sp) _).setCell (p := ⟨sp, 10, none⟩) (.inl rfl) _
  have hsz : w.heap.size ≤ w'.heap.size := hbt.size
  have hall : But (fun x => a x = 3 ∨ x = sp) w ((w'.drewN q).setCell ⟨sp, 10, none⟩ (.slice (some ⟨g, 0, none⟩) (F.wait.length + 1) cap)) := (hbt2.wide (fun x _ e => .inl e)).trans (hs.wide (fun x _ e => .inr e))
  have hT : ∀ x, a x ≠ 3 → a x ≠ 1 → ¬ (a x = 3 ∨ x = sp) := fun x h1 h2 e => by
    rcases e with e | e
    · exact h1 e
    · exact h2 (by rw [e]; exact h.asp)
  have hgs : ¬ g = sp := fun e => by
    rcases hag with c | c
    · rw [e, h.asp] at c; omega
    · have := lt_of_heap h.blk; omega
  have key : ∀ x, (if x = g then 3 else a x) ≠ 0 → a x ≠ 0 ∨ x = w.heap.size := fun x hx => by
    by_cases e : x = g
    · subst e
      rcases hag with c | c
      · exact .inl (by omega)
      · exact .inr c
    · rw [if_neg e] at hx; exact .inl hx
  have hne : ∀ k c, a k = c → c ≠ 3 → c ≠ 0 → (if k = g then 3 else a k) = c := fun k c hk h5 h0 => by
    rw [if_neg (fun e => by
      rcases hag with d | d
      · rw [e] at hk; omega
      · have := h.lt k (by omega); omega)]
    exact hk
  refine ⟨fun x => if x = g then 3 else a x, ⟨?_, row_but h.there hall (fun k hk => hT k (by rw [h.atv k hk]; omega) (by rw [h.atv k hk]; omega)), ?_, fun i v l hv hl => ?_, row_but h.had hall (fun k hk => hT k (by rw [h.ahv k hk]; omega) (by rw [h.ahv k hk]; omega)), row_but h.marks hall (fun k hk => hT k (by rw [h.amv k hk]; omega) (by rw [h.amv k hk]; omega)), hne sp 1 h.asp (by omega) (by omega), fun k hk => hne k 2 (h.atv k hk) (by omega) (by omega), fun k hk => ?_, fun k hk => hne k 4 (h.ahv k hk) (by omega) (by omega), fun k hk => hne k 5 (h.amv k hk) (by omega) (by omega), fun x hx => ?_⟩, ⟨?_, fun x hx hc => ?_⟩, key⟩
  · have := blk_set (i := 10) hblk2 (.slice (some ⟨g, 0, none⟩) (F.wait.length + 1) cap)
    rw [this]
    simp [shcells]
  · have h1 := row_but (S := fun _ => False) hO2 (.of_below hbq) (fun _ _ h => h)
    have h2 := row_but h1 hs (fun k hk e => by simp [Value.ownBlock] at hk; exact hgs (hk.trans e))
    have e1 : (F.wait ++ [[]]).length = F.wait.length + 1 := by simp
    show World.ownsRow _ _ _ _ _ (F.wait ++ [[]]).length (L.ws ++ [.slice none 0 0])
    rw [e1]
    exact h2
  · have hwl : L.ws.length = F.wait.length := by have := h.wait.1; omega
    simp only at hv hl
    by_cases e : i < F.wait.length
    · rw [List.getElem?_append_left (by omega)] at hv
      rw [List.getElem?_append_left e] at hl
      exact ((h.each i v l hv hl).but hall (fun x hx => hT x (by omega) (by omega))).mono (fun x hx => hne x (6 + i) hx (by omega) (by omega))
    · have e2 : i = F.wait.length := by have := (List.getElem?_eq_some_iff.1 hl).1; simp at this; omega
      subst e2
      rw [← hwl, List.getElem?_concat_length] at hv
      rw [List.getElem?_concat_length] at hl
      cases hv; cases hl
      exact .inl ⟨rfl, rfl⟩
  · simp [Value.ownBlock] at hk
    rw [if_pos hk.symm]
  · have hz2 : w'.heap.size ≤ ((w'.drewN q).setCell ⟨sp, 10, none⟩ (.slice (some ⟨g, 0, none⟩) (F.wait.length + 1) cap)).heap.size := Nat.le_trans hbq.size hs.size
    rcases key x hx with c | c
    · exact Nat.lt_of_lt_of_le (h.lt x c) (Nat.le_trans hsz hz2)
    · by_cases e : x = g
      · rw [e]; exact Nat.lt_of_lt_of_le hlt hz2
      · rw [if_neg e] at hx
        exact Nat.lt_of_lt_of_le (h.lt x hx) (Nat.le_trans hsz hz2)
  · exact hall.wide (fun x _ e => by
      rcases e with e | e
      · omega
      · rw [e, h.asp]; omega)
  · rcases key x hc with c | c
    · exact c
    · omega
end
end Go.Proofs.Ytfnockbgkcgpkaa
