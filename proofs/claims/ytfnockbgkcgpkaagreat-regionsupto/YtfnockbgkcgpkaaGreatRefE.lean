import Derived.Test.YtfnockbgkcgpkaaGreatRefD
import Derived.WalkSpells
import Derived.StillTactics
import Derived.OwnWalk
import Derived.Laws.Pointers
set_option linter.all false
namespace Go.Proofs.YtfnockbgkcgpkaaGreat
open Go.RowKit Go.Proofs.Panes
attribute [local go_sem ↓] Go.wp_at_zero Go.wp_at_succ
set_option maxRecDepth 100000

theorem new_at_drew' (w : World) (o : Obj) (n : Nat) (h : n = w.heap.size) : (w.alloc o).drew.heap[n]? = some o := new_at w o n h

/-- The open column, as laid keeps it. -/
def OpenC (xs : List Int) (k : Nat) (i : Value) (o : Option Int) : Prop := (i = .int .i64 (-1) ∧ o = none) ∨ ∃ (m : Nat) (g : Int), m < k ∧ xs[m]? = some g ∧ i = .int .i64 m ∧ o = some g

set_option maxHeartbeats 4000000 in
theorem laid_any (f : Int → Bool) (bx bb : Nat) (vx vb : Value) (xs : List Int) (y h : Int) (w : World) (hX : OwnI w bx vx xs) (hB : OwnB w bb vb (xs.map f)) (hn : xs.length ≤ 100000) (hb : ∀ x ∈ xs, -1000 ≤ x ∧ x ≤ 2000) :
    Calls Tryz.prog 109 #[vx, vb, .int .i64 y, .int .i64 h] w fun e w' => ∃ v', e = .returned v' ∧ Own w' w.heap.size v' (laidF f y h none xs) ∧ Below w.heap.size w w' := by
  obtain ⟨i0, hi, hz0, hz1, hz2⟩ := info_parts info_rect
  have HX : Hid (xs ≠ [] → ∃ g, g < w.heap.size ∧ (∃ cap, vx = .slice (some ⟨g, 0, none⟩) xs.length cap) ∧ ∀ j x, xs[j]? = some x → w.cell? ⟨g, j, none⟩ = some (.int .i64 x)) := fun hne => by
    obtain ⟨g, cap, rfl, _, hg⟩ := ownI_some hX hne
    exact ⟨g, hg, ⟨cap, rfl⟩, fun j x hx => ownI_at hX hx⟩
  have HB : Hid (xs ≠ [] → ∃ g, g < w.heap.size ∧ (∃ cap, vb = .slice (some ⟨g, 0, none⟩) xs.length cap) ∧ ∀ j x, xs[j]? = some x → w.cell? ⟨g, j, none⟩ = some (.bool (f x))) := fun hne => by
    obtain ⟨g, cap, rfl, _, hg⟩ := ownB_some hB (by intro e; exact hne (List.map_eq_nil_iff.1 e))
    exact ⟨g, hg, ⟨cap, by rw [List.length_map]⟩, fun j x hx => ownB_at hB (by rw [List.getElem?_map, hx]; rfl)⟩
  obtain ⟨xo, xc, ex, _⟩ := ownI_slice hX
  obtain ⟨bo, bc, eb, _⟩ := ownB_slice hB
  rw [List.length_map] at eb
  subst ex
  subst eb
  have HBd := hide hb
  clear hX hB hb
  go_enter Tryz.func109, Tryz.ntmps109
  go_wp2
  go_loopw [9, 10, 11] (fun v c i wr => ∃ (k : Nat) (o : Option Int) (R : List Rc), k ≤ xs.length ∧ i = .int .i64 k ∧ OpenC xs k c o ∧ R ++ laidF f y h o (xs.drop k) = laidF f y h none xs ∧ R.length ≤ k ∧ Own wr w.heap.size v R ∧ Below w.heap.size w wr) (fun _ _ i _ => xs.length - (intOf i).toNat)
  case atStart => exact ⟨0, none, [], Nat.zero_le _, rfl, .inl ⟨rfl, rfl⟩, rfl, Nat.le_refl _, own_nil _, Below.refl _ _⟩
  case round =>
    obtain ⟨k, o, R, hk, rfl, hOp, hR, hRl, hO, hbel⟩ := hrel
    have hsz := hbel.size
    have HO := hide hO
    have Hb := hide hbel
    obtain ⟨ro, rc, rfl, _⟩ := own_slice hO
    clear hO
    by_cases hlt : k < xs.length
    · obtain ⟨g1, hg1, ⟨c1, e1⟩, hc1⟩ := (unhide HX) (by intro e; subst e; simp at hlt)
      obtain ⟨g2, hg2, ⟨c2, e2⟩, hc2⟩ := (unhide HB) (by intro e; subst e; simp at hlt)
      simp only [Value.slice.injEq] at e1 e2
      obtain ⟨rfl, _, rfl⟩ := e1
      obtain ⟨rfl, _, rfl⟩ := e2
      obtain ⟨x, hx⟩ : ∃ r, xs[k]? = some r := ⟨xs[k], by simp [hlt]⟩
      have x1 := (hbel.cell (p := ⟨g1, k, none⟩) hg1).trans (hc1 k x hx)
      have x2 := (hbel.cell (p := ⟨g2, k, none⟩) hg2).trans (hc2 k x hx)
      have bdx := (unhide HBd) x (List.mem_of_getElem? hx)
      have j0 : (0 : Int) ≤ (k : Int) := by omega
      have j1 : (k : Int) < (xs.length : Int) := by omega
      have HD := hide (drop_at hx)
      have HR := hide hR
      cases hf : f x
      · rw [hf] at x2
        rcases hOp with ⟨rfl, rfl⟩ | ⟨m, g, hm, hg, rfl, rfl⟩
        · clear hR hc1 hc2 hx hbel HX HB
          go_wp2
          go_roundw
          case rel => exact ⟨k + 1, none, R, by omega, by go_num, .inl ⟨rfl, rfl⟩, by rw [← unhide HR, unhide HD]; conv => rhs; rw [laidF, if_neg (by rw [hf]; simp)], by omega, unhide HO, unhide Hb⟩
          case measure => simp [intOf]; omega
        · have x3 := (hbel.cell (p := ⟨g1, m, none⟩) hg1).trans (hc1 m g hg)
          have bdg := (unhide HBd) g (List.mem_of_getElem? hg)
          have j2 : (0 : Int) ≤ (m : Int) := by omega
          have j3 : (m : Int) < (xs.length : Int) := by omega
          have hap : Hid ((some g1 : Option Nat) ≠ (Value.slice ro R.length rc).ownBlock) := fun e => by
            have := (World.ownsRow.lt (unhide HO) _ e.symm).1; omega
          have lt1 : g1 < wr.heap.size := by omega
          have hw9 : IntKind.i64.wrap (x - g) = x - g := by rw [IntKind.wrap_i64]; omega
          clear hR hc1 hc2 hx hbel HX HB hg
          go_wp2_with fail
          go_region_held3 (fun w' => w'.cell? ⟨g1, m, none⟩ = some (.int .i64 g) ∧ w'.cell? ⟨g1, k, none⟩ = some (.int .i64 x))
            (first
              | go_keep
              | (go_split_ands
                 refine ⟨?_, ?_⟩
                 · (rw [hgrow.cell_far _ (by simp; omega) (unhide hap)]; assumption)
                 · (rw [hgrow.cell_far _ (by simp; omega) (unhide hap)]; assumption)))
            ((refine step_append_lies _ (by rfl) _ _ _ (by rfl) w.heap.size 46 i0 _ 4 32 Tryz.underlying47 hi hz0 hz1 hz2 rfl (by omega) (.slice ro R.length rc) R.length (rcells R) (by rfl) (((unhide HO).alloc _).drew) ⟨wr.heap.size, 0, none⟩ 1 1 (rcell ⟨g, y, x - g, h⟩) (by rfl) (by rfl) (newcells (new_at_drew' _ _ _ (by simp))) (rcell_one _) (by omega) (by unfold maxLen; omega) (by omega) (by simp; omega) (wr.heap.size + 1) (by simp) ?_; intro gg gc w1 hown1 hgrow hat hltg))
          have HOn := hide (Own.snoc (l := R) (r := ⟨g, y, x - g, h⟩) hown1)
          have HG := hide (grown_trans (World.grownBy_alloc wr _ _) (grown_trans (grown_drewN _ 1 _) hgrow))
          clear hown1 hgrow
          go_wp2
          go_roundw
          case rel => exact ⟨k + 1, none, _, by omega, by go_num, .inl ⟨rfl, rfl⟩, by rw [← unhide HR, unhide HD, List.append_assoc]; (conv => rhs; rw [laidF, if_neg (by rw [hf]; simp)]); rfl, by simp; omega, unhide HOn, (unhide Hb).grown (unhide HG) hsz (Own.row_ge (unhide HO))⟩
          case measure => simp [intOf]; omega
      · rw [hf] at x2
        have HX2 := hide hx
        rcases hOp with ⟨rfl, rfl⟩ | ⟨m, g, hm, hg, rfl, rfl⟩
        · clear hR hc1 hc2 hx hbel HX HB
          go_wp2
          go_roundw
          case rel => exact ⟨k + 1, some x, R, by omega, by go_num, .inr ⟨k, x, by omega, unhide HX2, rfl, rfl⟩, by rw [← unhide HR, unhide HD]; conv => rhs; rw [laidF, if_pos hf], by omega, unhide HO, unhide Hb⟩
          case measure => simp [intOf]; omega
        · have HG2 := hide hg
          have d0 : decide ((m : Int) < 0) = false := decide_eq_false (by omega)
          clear hR hc1 hc2 hx hbel HX HB hg
          go_wp2
          go_roundw
          case rel => exact ⟨k + 1, some g, R, by omega, by go_num, .inr ⟨m, g, by omega, unhide HG2, rfl, rfl⟩, by rw [← unhide HR, unhide HD]; conv => rhs; rw [laidF, if_pos hf], by omega, unhide HO, unhide Hb⟩
          case measure => simp [intOf]; omega
    · have HE : Hid (R = laidF f y h none xs) := by
        have hkl : k = xs.length := by omega
        rw [hkl, List.drop_length] at hR
        have : laidF f y h o [] = [] := by cases o <;> rfl
        rw [this, List.append_nil] at hR
        exact hR
      clear hR hOp hbel HX HB
      go_wp2
      go_ret
      exact ⟨_, rfl, by rw [← unhide HE]; exact unhide HO, unhide Hb⟩
end Go.Proofs.YtfnockbgkcgpkaaGreat
