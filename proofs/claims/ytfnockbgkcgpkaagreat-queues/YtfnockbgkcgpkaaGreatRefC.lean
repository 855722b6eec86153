import Derived.Test.YtfnockbgkcgpkaaGreatWalksL
set_option linter.all false
namespace Go.Proofs.YtfnockbgkcgpkaaGreat
open Go.RowKit Go.Proofs.Panes
set_option maxRecDepth 100000

theorem ownI_mono {w : World} {base base' : Nat} {v : Value} {l : List Int} (h : OwnI w base v l) (hb : base' ≤ base) : OwnI w base' v l :=
  ⟨h.1, h.2.elim .inl (fun ⟨g, c, cur, e1, e2, r⟩ => .inr ⟨g, c, cur, e1, by omega, r⟩)⟩

/-- 'append(dst, n)', dst a row of numbers that somebody owns, nil or not. -/
theorem append_int {w : World} {ops : Array Oper} {rest : List Oper} {o : Oper} {a : Act} {Q : Exit → Act → World → Prop} (hgd : o.guard = none) (s x : Operand)
    (ho : o.op = .call { callee := .builtin .append, args := #[s, x], argTypes := #[50, 50] }) (base : Nat) (d : Value) (L : List Int) (n : Int) (g : Nat) (hs : a.eval s = d) (hO : OwnI w base d L) (hx : a.eval x = .slice (some ⟨g, 0, none⟩) 1 1)
    (hc : w.cell? ⟨g, 0, none⟩ = some (.int .i64 n)) (hn : L.length ≤ 1000000000) (hbase : base ≤ w.heap.size)
    (h : ∀ v' w', OwnI w' base v' (L ++ [n]) → w.grownBy w' d.ownBlock → wpList Tryz.prog ops Q rest (a.put o.dst v') w') : wpList Tryz.prog ops Q (o :: rest) a w := by
  obtain ⟨i0, hi, hz0, hz1, hz2⟩ := info_parts info_int
  refine wpList_append_own _ hgd s x 50 ho base 3 i0 (.int .i64 0) 1 8 Tryz.underlying50 hi hz0 hz1 hz2 rfl (by decide) d L.length (L.map (Value.int .i64)) hs hO ⟨g, 0, none⟩ 1 1 [.int .i64 n] hx rfl ?_ ?_ (by unfold maxLen; omega) (by omega) hbase ?_
  · intro j u hj
    match j, hj with
    | 0, hj => simp at hj; subst hj; simpa [Addr.add] using hc
  · intro u hu
    simp at hu
    subst hu; rfl
  · intro v' w' hown hgrow _
    exact h v' w' (by unfold OwnI; rw [List.map_append, List.length_append]; exact hown) hgrow

/-- How far add has come: what it has laid out of the first k of l. -/
def AddI (l : List Int) (n : Int) (k : Nat) (done : Bool) (out : List Int) : Prop :=
  if done then out.Pairwise (· < ·) ∧ (∀ x, x ∈ out ↔ x ∈ l.take k ∨ x = n) ∧ (∀ x ∈ l.drop k, n < x) ∧ out.length = k + 1
  else out = l.take k ∧ ∀ x ∈ l.take k, x < n

theorem take_snocI {l : List Int} {k : Nat} {x : Int} (h : l[k]? = some x) : l.take (k + 1) = l.take k ++ [x] := by rw [List.take_add_one, h]; rfl
theorem drop_at {l : List Int} {k : Nat} {x : Int} (h : l[k]? = some x) : l.drop k = x :: l.drop (k + 1) := by
  obtain ⟨hk, e⟩ := List.getElem?_eq_some_iff.1 h
  rw [List.drop_eq_getElem_cons hk, e]
theorem up_before {l : List Int} (up : l.Pairwise (· < ·)) {k : Nat} {x : Int} (h : l[k]? = some x) : ∀ y ∈ l.take k, y < x := fun y hy => by
  have e : l = l.take k ++ l.drop k := (List.take_append_drop k l).symm
  rw [e, List.pairwise_append] at up
  exact up.2.2 y hy x (by rw [drop_at h]; simp)
theorem up_after {l : List Int} (up : l.Pairwise (· < ·)) {k : Nat} {x : Int} (h : l[k]? = some x) : ∀ y ∈ l.drop (k + 1), x < y := fun y hy => by
  have e : l = l.take (k + 1) ++ l.drop (k + 1) := (List.take_append_drop (k + 1) l).symm
  rw [e, List.pairwise_append, take_snocI h] at up
  exact up.2.2 x (by simp) y hy
theorem snoc_up {l : List Int} {x : Int} (h : l.Pairwise (· < ·)) (g : ∀ y ∈ l, y < x) : (l ++ [x]).Pairwise (· < ·) :=
  List.pairwise_append.2 ⟨h, List.pairwise_singleton _ _, fun a ha b hb => by rw [List.mem_singleton.1 hb]; exact g a ha⟩

theorem AddI.less {l out : List Int} {n x : Int} {k : Nat} (h : AddI l n k false out) (hx : l[k]? = some x) (hlt : x < n) : AddI l n (k + 1) false (out ++ [x]) := by
  unfold AddI at *
  simp only [Bool.false_eq_true, if_false] at *
  rw [take_snocI hx]
  refine ⟨by rw [h.1], fun y hy => ?_⟩
  rcases List.mem_append.1 hy with c | c
  · exact h.2 y c
  · rw [List.mem_singleton.1 c]; exact hlt
theorem AddI.here {l out : List Int} {n x : Int} {k : Nat} (up : l.Pairwise (· < ·)) (h : AddI l n k false out) (hx : l[k]? = some x) (hlt : n < x) : AddI l n (k + 1) true (out ++ [n] ++ [x]) := by
  unfold AddI at *
  simp only [Bool.false_eq_true, if_false, if_true] at *
  have hk := (List.getElem?_eq_some_iff.1 hx).1
  rw [h.1]
  refine ⟨snoc_up (snoc_up (up.sublist (List.take_sublist _ _)) h.2) (fun y hy => ?_), fun y => ?_, fun y hy => ?_, by simp; omega⟩
  · rcases List.mem_append.1 hy with c | c
    · exact up_before up hx y c
    · rw [List.mem_singleton.1 c]; exact hlt
  · rw [take_snocI hx]; simp only [List.mem_append, List.mem_singleton]
    constructor
    · rintro ((c | c) | c)
      · exact .inl (.inl c)
      · exact .inr c
      · exact .inl (.inr c)
    · rintro ((c | c) | c)
      · exact .inl (.inl c)
      · exact .inr c
      · exact .inl (.inr c)
  · have := up_after up hx y hy; omega
theorem AddI.past {l out : List Int} {n x : Int} {k : Nat} (up : l.Pairwise (· < ·)) (h : AddI l n k true out) (hx : l[k]? = some x) : n < x ∧ AddI l n (k + 1) true (out ++ [x]) := by
  unfold AddI at *
  simp only [if_true] at *
  obtain ⟨h1, h2, h3, h4⟩ := h
  have hnx := h3 x (by rw [drop_at hx]; simp)
  refine ⟨hnx, snoc_up h1 (fun y hy => ?_), fun y => ?_, fun y hy => h3 y (by rw [drop_at hx]; simp [hy]), by simp; omega⟩
  · rcases (h2 y).1 hy with c | c
    · exact up_before up hx y c
    · omega
  · rw [take_snocI hx]; simp only [List.mem_append, List.mem_singleton, h2]
    constructor
    · rintro ((c | c) | c)
      · exact .inl (.inl c)
      · exact .inr c
      · exact .inl (.inr c)
    · rintro ((c | c) | c)
      · exact .inl (.inl c)
      · exact .inr c
      · exact .inl (.inr c)

/-- What add leaves. -/
structure Added (l : List Int) (n : Int) (l' : List Int) : Prop where
  up : l'.Pairwise (· < ·)
  mem : ∀ x, x ∈ l' ↔ x ∈ l ∨ x = n
  len : l'.length ≤ l.length + 1
theorem AddI.last {l out : List Int} {n : Int} (up : l.Pairwise (· < ·)) (h : AddI l n l.length false out) : Added l n (out ++ [n]) := by
  unfold AddI at h
  simp only [Bool.false_eq_true, if_false, List.take_length] at h
  rw [h.1]
  exact ⟨snoc_up up h.2, fun x => by simp, by simp⟩
theorem AddI.done {l out : List Int} {n : Int} (h : AddI l n l.length true out) : Added l n out := by
  unfold AddI at h
  simp only [if_true, List.take_length] at h
  exact ⟨h.1, h.2.1, by omega⟩
theorem AddI.len {l out : List Int} {n : Int} {k : Nat} {d : Bool} (h : AddI l n k d out) : out.length ≤ l.length + k + 1 := by
  unfold AddI at h
  cases d <;> simp only [Bool.false_eq_true, if_false, if_true] at h
  · rw [h.1, List.length_take]; omega
  · omega

set_option maxHeartbeats 4000000 in
theorem add_any (base : Nat) (v : Value) (l : List Int) (n : Int) (w : World) (hO : OwnI w base v l) (up : l.Pairwise (· < ·)) (hn : l.length ≤ 100000) (hbase : base ≤ w.heap.size) :
    Calls Tryz.prog 105 #[v, .int .i64 n] w fun e w' => ∃ v' l', e = .returned v' ∧ OwnI w' base v' l' ∧ Added l n l' ∧ Below w.heap.size w w' := by
  have HO := hide hO
  have HU := hide up
  have HC : Hid (l ≠ [] → ∃ g, g < w.heap.size ∧ (∃ cap, v = .slice (some ⟨g, 0, none⟩) l.length cap) ∧ ∀ j x, l[j]? = some x → w.cell? ⟨g, j, none⟩ = some (.int .i64 x)) := fun hne => by
    obtain ⟨g, cap, rfl, _, hg⟩ := ownI_some hO hne
    exact ⟨g, hg, ⟨cap, rfl⟩, fun j x hx => ownI_at hO hx⟩
  obtain ⟨vo, vc, ev, _⟩ := ownI_slice hO
  subst ev
  clear hO up
  go_enter Tryz.func105, Tryz.ntmps105
  go_wp2
  go_loopw [5, 6, 7] (fun out d i wr => ∃ (k : Nat) (db : Bool) (R : List Int), k ≤ l.length ∧ i = .int .i64 k ∧ d = .bool db ∧ AddI l n k db R ∧ OwnI wr w.heap.size out R ∧ Below w.heap.size w wr) (fun _ _ i _ => l.length - (intOf i).toNat)
  case atStart => exact ⟨0, false, [], Nat.zero_le _, rfl, rfl, by unfold AddI; simp, World.ownsRow_nil _ _ _ _, Below.refl _ _⟩
  case round =>
    obtain ⟨k, db, R, hk, rfl, rfl, hA, hOR, hbel⟩ := hrel
    have hsz := hbel.size
    have hlen := hA.len
    have HA := hide hA
    have HOR := hide hOR
    have Hb := hide hbel
    obtain ⟨ro, rc, rfl, _⟩ := ownI_slice hOR
    clear hA hOR
    by_cases hlt : k < l.length
    · obtain ⟨g, hg, ⟨cap, e⟩, hcl⟩ := (unhide HC) (by intro e; subst e; simp at hlt)
      simp only [Value.slice.injEq] at e
      obtain ⟨rfl, _, rfl⟩ := e
      obtain ⟨x, hx⟩ : ∃ x, l[k]? = some x := ⟨l[k], by simp [hlt]⟩
      have cx := (hbel.cell (p := ⟨g, k, none⟩) hg).trans (hcl k x hx)
      have HX := hide hx
      have CW := hide (hcl k x hx)
      have i0 : (0 : Int) ≤ (k : Int) := by omega
      have i1 : (k : Int) < (l.length : Int) := by omega
      clear hbel hcl hx
      by_cases hxn : x = n
      · subst hxn
        go_wp2
        go_ret
        exact ⟨_, l, rfl, ownI_kept (unhide HO) (unhide Hb), ⟨unhide HU, fun y => ⟨.inl, fun h => h.elim id (fun e => by rw [e]; exact List.mem_of_getElem? (unhide HX))⟩, by omega⟩, unhide Hb⟩
      · cases db
        · by_cases hxl : n < x
          · go_wp2_with (first
              | (at_builtin; refine append_int rfl (.tmp 31) (.tmp 33) rfl w.heap.size _ R n wr.heap.size rfl (ownI_alloc (unhide HOR) _) rfl (by simp) (by omega) (by simp; omega) ?_; intro v1 w1 hown hgrow; have O1 := hide hown; have G1 := hide ((unhide Hb).grown (grown_trans (World.grownBy_alloc wr _ _) hgrow) hsz (ownI_row (unhide HOR))); have z1 := (unhide G1).size; have cx1 : w1.cell? ⟨g, k, none⟩ = some (.int .i64 x) := ((unhide G1).cell (p := ⟨g, k, none⟩) hg).trans (unhide CW); clear hown hgrow)
              | (at_builtin; refine append_int rfl (.tmp 35) (.tmp 40) rfl w.heap.size _ (R ++ [n]) x w1.heap.size rfl (ownI_alloc (unhide O1) _) rfl (by simp) (by simp; omega) (by simp; omega) ?_; intro v2 w2 hown hgrow; have O2 := hide hown; have G2 := hide ((unhide G1).grown (grown_trans (World.grownBy_alloc w1 _ _) hgrow) z1 (ownI_row (unhide O1))); clear hown hgrow))
            go_roundw
            case rel => exact ⟨k + 1, true, _, by omega, by go_num, rfl, (unhide HA).here (unhide HU) (unhide HX) hxl, unhide O2, unhide G2⟩
            case measure => simp [intOf]; omega
          · have d0 : decide (n < x) = false := decide_eq_false hxl
            go_wp2_with (at_builtin; refine append_int rfl (.tmp 35) (.tmp 40) rfl w.heap.size _ R x wr.heap.size rfl (ownI_alloc (unhide HOR) _) rfl (by simp) (by omega) (by simp; omega) ?_; intro v2 w2 hown hgrow; have O2 := hide hown; have G2 := hide ((unhide Hb).grown (grown_trans (World.grownBy_alloc wr _ _) hgrow) hsz (ownI_row (unhide HOR))); clear hown hgrow)
            go_roundw
            case rel => exact ⟨k + 1, false, _, by omega, by go_num, rfl, (unhide HA).less (unhide HX) (by omega), unhide O2, unhide G2⟩
            case measure => simp [intOf]; omega
        · have HP := hide ((unhide HA).past (unhide HU) (unhide HX))
          go_wp2_with (at_builtin; refine append_int rfl (.tmp 35) (.tmp 40) rfl w.heap.size _ R x wr.heap.size rfl (ownI_alloc (unhide HOR) _) rfl (by simp) (by omega) (by simp; omega) ?_; intro v2 w2 hown hgrow; have O2 := hide hown; have G2 := hide ((unhide Hb).grown (grown_trans (World.grownBy_alloc wr _ _) hgrow) hsz (ownI_row (unhide HOR))); clear hown hgrow)
          go_roundw
          case rel => exact ⟨k + 1, true, _, by omega, by go_num, rfl, (unhide HP).2, unhide O2, unhide G2⟩
          case measure => simp [intOf]; omega
    · have hkl : k = l.length := by omega
      subst hkl
      clear hbel
      cases db
      · go_wp2_with (at_builtin; refine append_int rfl (.tmp 44) (.tmp 46) rfl w.heap.size _ R n wr.heap.size rfl (ownI_alloc (unhide HOR) _) rfl (by simp) (by omega) (by simp; omega) ?_; intro v2 w2 hown hgrow; have O2 := hide hown; have G2 := hide ((unhide Hb).grown (grown_trans (World.grownBy_alloc wr _ _) hgrow) hsz (ownI_row (unhide HOR))); clear hown hgrow)
        go_ret
        exact ⟨_, _, rfl, ownI_mono (unhide O2) hbase, (unhide HA).last (unhide HU), unhide G2⟩
      · go_wp2
        go_ret
        exact ⟨_, _, rfl, ownI_mono (unhide HOR) hbase, (unhide HA).done, unhide Hb⟩
end Go.Proofs.YtfnockbgkcgpkaaGreat
