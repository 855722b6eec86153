import Derived.Test.YtfnockbgkcgpkaaGreatRefE
import Derived.Test.YtfnockbgkcgpkaaGreatRefA
import Derived.Test.YtfnockbgkcgpkaaGreatRefB
import Derived.Test.YtfnockbgkcgpkaaGreatWalksK
set_option linter.all false
namespace Go.Proofs.YtfnockbgkcgpkaaGreat
open Go.RowKit Go.Proofs.Panes
attribute [local go_sem ↓] Go.wp_at_zero Go.wp_at_succ
set_option maxRecDepth 100000

/-- The edges of the first k rectangles, across and down. -/
structure Edged (L : List Rc) (xs ys : List Int) : Prop where
  x : EdgeCols xs L
  y : EdgeRows ys L
  lx : xs.length ≤ 2 * L.length
  ly : ys.length ≤ 2 * L.length
theorem Edged.nil : Edged [] [] [] := ⟨⟨List.Pairwise.nil, fun x => by simp⟩, ⟨List.Pairwise.nil, fun y => by simp⟩, Nat.le_refl _, Nat.le_refl _⟩
theorem Edged.snoc {L : List Rc} {xs ys x1 x2 y1 y2 : List Int} {r : Rc} (h : Edged L xs ys) (a1 : Added xs r.x x1) (a2 : Added x1 (r.x + r.w) x2) (b1 : Added ys r.y y1) (b2 : Added y1 (r.y + r.h) y2) : Edged (L ++ [r]) x2 y2 := by
  refine ⟨⟨a2.up, fun x => ?_⟩, ⟨b2.up, fun y => ?_⟩, ?_, ?_⟩
  · rw [a2.mem, a1.mem, h.x.mem]
    constructor
    · rintro ((⟨q, hq, e⟩ | e) | e)
      · exact ⟨q, by simp [hq], e⟩
      · exact ⟨r, by simp, .inl e⟩
      · exact ⟨r, by simp, .inr e⟩
    · rintro ⟨q, hq, e⟩
      rcases List.mem_append.1 hq with c | c
      · exact .inl (.inl ⟨q, c, e⟩)
      · rw [List.mem_singleton.1 c] at e
        rcases e with e | e
        · exact .inl (.inr e)
        · exact .inr e
  · rw [b2.mem, b1.mem, h.y.mem]
    constructor
    · rintro ((⟨q, hq, e⟩ | e) | e)
      · exact ⟨q, by simp [hq], e⟩
      · exact ⟨r, by simp, .inl e⟩
      · exact ⟨r, by simp, .inr e⟩
    · rintro ⟨q, hq, e⟩
      rcases List.mem_append.1 hq with c | c
      · exact .inl (.inl ⟨q, c, e⟩)
      · rw [List.mem_singleton.1 c] at e
        rcases e with e | e
        · exact .inl (.inr e)
        · exact .inr e
  · have := a1.len; have := a2.len; have := h.lx; rw [List.length_append, List.length_singleton]; omega
  · have := b1.len; have := b2.len; have := h.ly; rw [List.length_append, List.length_singleton]; omega
theorem Edged.grid {op : Bool → Bool → Bool} (hop : op false false = false) {a b : List Rc} {xs ys : List Int} (h : Edged (a ++ b) xs ys) (hm : ∀ r ∈ a ++ b, May r) : Grid (fun px py => op (covA a px py) (covA b px py)) xs ys := grid_of hop h.x h.y hm
theorem wayB_none (way : Int) : wayB way false false = false := by unfold wayB; split <;> (try split) <;> rfl
end Go.Proofs.YtfnockbgkcgpkaaGreat
