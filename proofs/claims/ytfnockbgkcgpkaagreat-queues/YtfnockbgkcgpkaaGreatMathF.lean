import Derived.Test.YtfnockbgkcgpkaaGreatMathE
set_option linter.all false
namespace Go.Proofs.Panes

theorem col_of_map {a b : List Rc} (h : a.map (fun r => (r.x, r.w)) = b.map (fun r => (r.x, r.w))) (px : Int) : col a px → col b px := by
  rintro ⟨r, hr, c⟩
  have : (r.x, r.w) ∈ b.map (fun r => (r.x, r.w)) := by rw [← h]; exact List.mem_map.2 ⟨r, hr, rfl⟩
  obtain ⟨s, hs, e⟩ := List.mem_map.1 this
  simp only [Prod.mk.injEq] at e
  exact ⟨s, hs, by unfold Rc.has at *; omega⟩

/-- Where 'right' stands: the bands behind, the last whole one, the one that it is in. -/
structure Bands (P A B : List Rc) : Prop where
  sb : ∀ r ∈ B, ∀ s ∈ B, r.y = s.y
  sa : ∀ r ∈ A, ∀ s ∈ A, r.y = s.y
  ab : ∀ r ∈ P ++ A, ∀ s ∈ B, r.y < s.y
  pa : ∀ r ∈ P, ∀ s ∈ A, r.y < s.y
  pn : A = [] → P = []

theorem Bands.start : Bands [] [] [] := ⟨fun _ h => by simp at h, fun _ h => by simp at h, fun _ h => by simp at h, fun _ h => by simp at h, fun _ => rfl⟩
theorem Bands.first {x : Rc} : Bands [] [] [x] := ⟨fun r hr s hs => by rw [List.mem_singleton.1 hr, List.mem_singleton.1 hs], fun _ h => by simp at h, fun _ h => by simp at h, fun _ h => by simp at h, fun _ => rfl⟩
theorem Bands.on {P A B : List Rc} {x b : Rc} (h : Bands P A B) (hb : b ∈ B) (hx : x.y = b.y) : Bands P A (B ++ [x]) := by
  refine ⟨fun r hr s hs => ?_, h.sa, fun r hr s hs => ?_, h.pa, h.pn⟩
  · rcases List.mem_append.1 hr with e | e <;> rcases List.mem_append.1 hs with f | f
    · exact h.sb r e s f
    · rw [List.mem_singleton.1 f, hx]; exact h.sb r e b hb
    · rw [List.mem_singleton.1 e, hx]; exact h.sb b hb s f
    · rw [List.mem_singleton.1 e, List.mem_singleton.1 f]
  · rcases List.mem_append.1 hs with f | f
    · exact h.ab r hr s f
    · rw [List.mem_singleton.1 f, hx]; exact h.ab r hr b hb
theorem Bands.new {P A B : List Rc} {x b : Rc} (h : Bands P A B) (hb : b ∈ B) (hx : b.y < x.y) : Bands (P ++ A) B [x] := by
  refine ⟨fun r hr s hs => by rw [List.mem_singleton.1 hr, List.mem_singleton.1 hs], h.sb, fun r hr s hs => ?_, h.ab, fun e => by rw [e] at hb; simp at hb⟩
  rw [List.mem_singleton.1 hs]
  rcases List.mem_append.1 hr with e | e
  · have := h.ab r e b hb; omega
  · have := h.sb r e b hb; omega

theorem Bands.unlike {P A B Q : List Rc} {p q : Rc} (h : Bands P A B) (hR : Right (P ++ A ++ B ++ Q)) (hp : p ∈ A) (hq : q ∈ B) (hQ : ∀ r ∈ Q, q.y < r.y) :
    p.y + p.h < q.y ∨ A.map (fun r => (r.x, r.w)) ≠ B.map (fun r => (r.x, r.w)) := by
  have mp : p ∈ P ++ A ++ B ++ Q := by simp [hp]
  have mq : q ∈ P ++ A ++ B ++ Q := by simp [hq]
  have hlt := h.ab p (List.mem_append.2 (.inr hp)) q hq
  have pp := hR.pos p mp
  have pq := hR.pos q mq
  have hle : p.y + p.h ≤ q.y := by
    rcases pw_two hR.pw mp mq with e | e | e
    · rw [e] at hlt; omega
    · rcases e with e | e <;> omega
    · rcases e with e | e <;> omega
  by_cases hst : p.y + p.h < q.y
  · exact .inl hst
  · refine .inr fun hm => hR.top q mq fun px => ?_
    have e1 : covL (P ++ A ++ B ++ Q) px q.y ↔ col B px := by
      constructor
      · rintro ⟨r, hr, c⟩
        unfold Rc.cov at c
        have hb := hR.band mq hr (y := q.y) (by omega) ⟨c.2.2.1, c.2.2.2⟩
        rcases List.mem_append.1 hr with e | e
        · rcases List.mem_append.1 e with f | f
          · have := h.ab r f q hq; omega
          · exact ⟨r, f, by unfold Rc.has; omega⟩
        · have := hQ r e; omega
      · rintro ⟨r, hr, c⟩
        have := h.sb r hr q hq
        have := hR.pos r (by simp [hr])
        unfold Rc.has at c
        exact ⟨r, by simp [hr], by unfold Rc.cov; omega⟩
    have e2 : covL (P ++ A ++ B ++ Q) px (q.y - 1) ↔ col A px := by
      constructor
      · rintro ⟨r, hr, c⟩
        unfold Rc.cov at c
        have hb := hR.band mp hr (y := q.y - 1) (by omega) ⟨c.2.2.1, c.2.2.2⟩
        rcases List.mem_append.1 hr with e | e
        · rcases List.mem_append.1 e with f | f
          · rcases List.mem_append.1 f with f | f
            · have := h.pa r f p hp; omega
            · exact ⟨r, f, by unfold Rc.has; omega⟩
          · have := h.sb r f q hq; omega
        · have := hQ r e; omega
      · rintro ⟨r, hr, c⟩
        have hy := h.sa r hr p hp
        have mr : r ∈ P ++ A ++ B ++ Q := by simp [hr]
        have hh := hR.band mp mr (y := p.y) (by omega) (by have := hR.pos r mr; omega)
        unfold Rc.has at c
        exact ⟨r, mr, by unfold Rc.cov; omega⟩
    rw [e1, e2]
    exact ⟨col_of_map hm.symm px, col_of_map hm px⟩
end Go.Proofs.Panes
