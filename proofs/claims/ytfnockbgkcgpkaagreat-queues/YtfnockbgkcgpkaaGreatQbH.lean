import Derived.Test.YtfnockbgkcgpkaaGreatQbG
import Derived.Test.YtfnockbgkcgpkaaGreatLawF
import Derived.Deep.AppendLies
set_option linter.all false
namespace Go.Proofs.YtfnockbgkcgpkaaGreat
open Go.RowKit Go.Proofs.Panes
set_option maxRecDepth 100000
attribute [local go_sem ↓] Go.wp_at_zero Go.wp_at_succ

theorem bools_one (l : List Bool) : ∀ u ∈ l.map Value.bool, u.oneCell' = true := by
  intro u hu
  obtain ⟨b, _, rfl⟩ := List.mem_map.1 hu
  rfl
/-- 'copy(dst, src)' of flags: as many as there are. -/
theorem copy_bools {w : World} {ops : Array Oper} {rest : List Oper} {o : Oper} {a : Act} {Q : Exit → Act → World → Prop} (hgd : o.guard = none) (d s : Operand)
    (ho : o.op = .call { callee := .builtin .copy, args := #[d, s], argTypes := #[116, 116] }) (base bs g n cap : Nat) (D l : List Bool) (v : Value) (hd : a.eval d = .slice (some ⟨g, 0, none⟩) n n) (hs : a.eval s = v)
    (hO : OwnB w base (.slice (some ⟨g, 0, none⟩) n n) D) (hn : D.length = n) (hR : OwnB w bs v l) (hl : l.length = n) (hpos : 0 < n)
    (h : ∀ w', OwnB w' base (.slice (some ⟨g, 0, none⟩) n n) l → w.grownBy w' (some g) → wpList Tryz.prog ops Q rest (a.put o.dst (goInt n)) w') : wpList Tryz.prog ops Q (o :: rest) a w := by
  obtain ⟨i0, hi, hz0, hz1, hz2⟩ := info_parts info_boolq
  obtain ⟨g', c', rfl, _, _⟩ := ownB_some hR (by intro e; subst e; simp at hl; omega)
  refine wpList_plain hgd fun K hK => ?_
  rcases hO.2 with ⟨e, _⟩ | ⟨k, c, cur, e, hbk, hk, hcc, hm, hz, ht⟩
  · cases e
  · simp only [Value.slice.injEq, Option.some.injEq, Addr.mk.injEq, and_true] at e
    obtain ⟨rfl, e, rfl⟩ := e
    have hrun := run_copy_wide (P := Tryz.prog) w 116 116 o.type 4 1 g 0 n n ⟨g', 0, none⟩ l.length c' cur 4 (l.map Value.bool) n Tryz.underlying116 (by rw [hi]; simp [hz1]) hk (by rw [hl]; exact (Nat.min_self n).symm) (by simp [hl]) (World.ownsRow.cells hR rfl) (by simp [hl, hz]) (bools_one l)
    have e1 : (cur.toList.take 0 ++ l.map Value.bool ++ cur.toList.drop (0 + (l.map Value.bool).length)) = l.map Value.bool := by
      rw [List.take_zero, List.nil_append, Nat.zero_add, List.length_map, List.drop_of_length_le (by simp [hz, hl]), List.append_nil]
    rw [e1] at hrun
    have hh := h (w.setRow g (l.map Value.bool).toArray) ?_ ?_
    · unfold Oper.wp
      simp [execOp, ho, resolve, invoke, builtin, hd, hs, hrun, Result.andThen]
      exact hK _ _ hh
    · unfold OwnB
      rw [hl]
      refine ⟨by simp [hl], .inr ⟨g, n, _, rfl, hbk, setRow_heap w g cur _ _ _ hk, Nat.le_refl _, hm, by simp [hl], ?_⟩⟩
      rw [List.take_of_length_le (by simp [hl])]
    · exact ⟨rfl, rfl, rfl, by simp [World.setRow], fun k hk hne => setRow_other w g k _ (fun e => hne (by rw [e]))⟩

/-- All operations of a transaction, one behind the other. -/
def vall (will : List Bool) : List Opn → Option (List Bool)
  | [] => some will
  | o :: l => (vstep will o).bind fun x => vall x l
theorem vall_append (will : List Bool) : ∀ (k l : List Opn), vall will (k ++ l) = (vall will k).bind fun x => vall x l := by
  intro k
  induction k generalizing will with
  | nil => intro l; rfl
  | cons o k ih =>
    intro l
    show (vstep will o).bind (fun x => vall x (k ++ l)) = ((vstep will o).bind fun x => vall x k).bind fun x => vall x l
    cases vstep will o with
    | none => rfl
    | some x => exact ih x l
theorem vall_succ {will x : List Bool} {l : List Opn} {k : Nat} {o : Opn} (h : vall will (l.take k) = some x) (ho : l[k]? = some o) : vall will (l.take (k + 1)) = vstep x o := by
  rw [List.take_add_one, ho, vall_append, h]
  show vall x [o] = _
  show (vstep x o).bind (fun y => some y) = _
  cases vstep x o <;> rfl
theorem vall_fail {will x : List Bool} {l : List Opn} {k : Nat} {o : Opn} (h : vall will (l.take k) = some x) (ho : l[k]? = some o) (hn : vstep x o = none) : vall will l = none := by
  rw [← List.take_append_drop (k + 1) l, vall_append, vall_succ h ho, hn]; rfl
theorem vstep_small {will x : List Bool} {o : Opn} (h : vstep will o = some x) : Small o := by
  intro h3
  unfold vstep at h
  rw [if_neg (by omega)] at h
  split at h
  · rename_i hc
    simp only [Bool.and_eq_true] at hc
    have := hc.2
    unfold okArgs at this
    rw [if_neg (by omega), if_pos h3] at this
    simp only [Bool.and_eq_true, inB_iff] at this
    exact ⟨this.1.1.1, this.1.1.2⟩
  · cases h
theorem vall_small : ∀ (l : List Opn) (will x : List Bool), vall will l = some x → ∀ o ∈ l, Small o
  | [], _, _, _ => by simp
  | o :: l, will, x, h => by
    intro p hp
    have h' : (vstep will o).bind (fun y => vall y l) = some x := h
    cases hv : vstep will o with
    | none => rw [hv] at h'; cases h'
    | some y =>
      rw [hv] at h'
      cases List.mem_cons.1 hp with
      | inl e => subst e; exact vstep_small hv
      | inr e => exact vall_small l y x h' p e
end Go.Proofs.YtfnockbgkcgpkaaGreat
