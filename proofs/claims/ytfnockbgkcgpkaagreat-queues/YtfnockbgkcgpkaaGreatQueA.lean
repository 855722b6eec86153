import Derived.Test.YtfnockbgkcgpkaaGreatLawE
import Derived.Test.YtfnockbgkcgpkaaGreatRefD
import Derived.Test.YtfnockbgkcgpkaaGreatRefA
import Derived.WalkSpells
import Derived.StillTactics
import Derived.OwnWalk
import Derived.Laws.Pointers
import Derived.BigRegion
import Derived.BigQuiet
import Derived.Deep.QuietTactic
set_option linter.all false
namespace Go.Proofs.YtfnockbgkcgpkaaGreat
open Go.RowKit Go.Proofs.Panes
set_option maxRecDepth 100000
attribute [local go_sem ↓] Go.wp_at_zero Go.wp_at_succ

/-- An operation of a transaction. -/
structure Opn where
  kind : Int
  surf : Int
  x : Int
  y : Int
  w : Int
  h : Int
  px : List Int
  mark : Int
def inB (n lo hi : Int) : Bool := decide (lo ≤ n) && decide (n ≤ hi)
/-- What its kind has, may be. -/
def okArgs (o : Opn) : Bool :=
  if o.kind = 1 ∨ o.kind = 4 then inB o.x (-100) 100 && inB o.y (-100) 100
  else if o.kind = 3 then inB o.w 1 8 && inB o.h 1 8 && decide ((o.px.length : Int) = o.w * o.h) && o.px.all (fun n => inB n 0 4294967295)
  else if o.kind = 7 then inB o.w 1 20 && inB o.x (-4) 4 && inB o.y (-4) 4
  else true
/-- An operation, done to the surfaces that a client will have; none: it may not be. -/
def vstep (will : List Bool) (o : Opn) : Option (List Bool) :=
  if o.kind = 8 then some will
  else if (inB o.kind 1 7 && inB o.surf 0 ((will.length : Int) - 1) && (will.getD o.surf.toNat false != decide (o.kind = 1)) && okArgs o) = true then some (will.set o.surf.toNat (decide (o.kind ≠ 2))) else none

/-- A list of numbers, in blocks of U. -/
def RdN (U : Nat → Prop) (w : World) (v : Value) (l : List Int) : Prop :=
  ∃ ao cap, v = .slice ao l.length cap ∧ l.length ≤ cap ∧ cap ≤ maxLen ∧ (l ≠ [] → ∃ b off, ao = some ⟨b, off, none⟩ ∧ U b ∧ b < w.heap.size ∧ ∀ j n, l[j]? = some n → w.cell? ⟨b, off + j, none⟩ = some (.int .i64 n))
theorem RdN.but {U S : Nat → Prop} {w w' : World} {v : Value} {l : List Int} (h : RdN U w v l) (hb : But S w w') (hs : ∀ k, U k → ¬ S k) : RdN U w' v l := by
  obtain ⟨ao, cap, e, h1, h2, h3⟩ := h
  refine ⟨ao, cap, e, h1, h2, fun hne => ?_⟩
  obtain ⟨b, off, e, hu, hlt, hc⟩ := h3 hne
  exact ⟨b, off, e, hu, Nat.lt_of_lt_of_le hlt hb.size, fun j r hr => (World.cell?_of_block (hb.block b hlt (hs b hu))).trans (hc j r hr)⟩
theorem RdN.below {U : Nat → Prop} {w w' : World} {v : Value} {l : List Int} (h : RdN U w v l) (hb : Below w.heap.size w w') : RdN U w' v l := h.but (S := fun _ => False) (.of_below hb) (fun _ _ h => h)

/-- A surface's flag is set. -/
theorem ownB_set {w : World} {base g n cap : Nat} {l : List Bool} (h : OwnB w base (.slice (some ⟨g, 0, none⟩) n cap) l) (hn : n = l.length) (j : Nat) (b : Bool) : OwnB (w.setCell ⟨g, j, none⟩ (.bool b)) base (.slice (some ⟨g, 0, none⟩) n cap) (l.set j b) := by
  subst hn
  have := (World.ownsRow.stored h j (.bool b)).1
  unfold OwnB
  rw [List.length_set, List.map_set]
  exact this

theorem vstep_none {will : List Bool} {o : Opn} (h8 : ¬ o.kind = 8) (h : (inB o.kind 1 7 && inB o.surf 0 ((will.length : Int) - 1) && (will.getD o.surf.toNat false != decide (o.kind = 1)) && okArgs o) = false) : vstep will o = none := by
  unfold vstep; rw [if_neg h8, if_neg (by rw [h]; simp)]
theorem vstep_some {will : List Bool} {o : Opn} (h8 : ¬ o.kind = 8) (h : (inB o.kind 1 7 && inB o.surf 0 ((will.length : Int) - 1) && (will.getD o.surf.toNat false != decide (o.kind = 1)) && okArgs o) = true) : vstep will o = some (will.set o.surf.toNat (decide (o.kind ≠ 2))) := by
  unfold vstep; rw [if_neg h8, if_pos h]
/-- Where the flag stands already, nothing is set. -/
theorem set_same {l : List Bool} {j : Nat} {b : Bool} (h : l[j]? = some b) : l.set j b = l := by
  apply List.ext_getElem?
  intro i
  by_cases e : j = i
  · subst e
    have := (List.getElem?_eq_some_iff.1 h).1
    rw [List.getElem?_set_self this, h]
  · rw [List.getElem?_set_ne e]

/-- What valid leaves. -/
def Valid (w w' : World) (base g n cap : Nat) (will : List Bool) (o : Opn) (b : Bool) : Prop :=
  But (fun k => k = g) w w' ∧ (b = true → ∃ will', vstep will o = some will' ∧ will'.length = will.length ∧ OwnB w' base (.slice (some ⟨g, 0, none⟩) n cap) will') ∧ (b = false → vstep will o = none)
end Go.Proofs.YtfnockbgkcgpkaaGreat
