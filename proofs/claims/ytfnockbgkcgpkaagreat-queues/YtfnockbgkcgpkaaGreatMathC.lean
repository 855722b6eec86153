import Derived.Test.YtfnockbgkcgpkaaGreatMathB
set_option linter.all false
namespace Go.Proofs.Panes

/-- What combine has built, down to the row t. -/
structure CI (M : Int → Int → Prop) (t : Int) (all : List Rc) (band : Nat) : Prop where
  pos : ∀ r ∈ all, 0 < r.w ∧ 0 < r.h ∧ -1000 ≤ r.x ∧ r.x + r.w ≤ 2000 ∧ -1000 ≤ r.y ∧ r.y + r.h ≤ t
  pw : all.Pairwise PW
  top : ∀ r ∈ all, ¬ ∀ px, covL all px r.y ↔ covL all px (r.y - 1)
  cols : ∀ px py, covL all px py ↔ py < t ∧ M px py
  le : band ≤ all.length
  old : ∀ r ∈ all.take band, r.y + r.h < t
  new : ∀ r ∈ all.drop band, r.y + r.h = t

theorem CI.start (M : Int → Int → Prop) (t : Int) (h : ∀ px py, py < t → ¬ M px py) : CI M t [] 0 :=
  ⟨fun _ h => by simp at h, List.Pairwise.nil, fun _ h => by simp at h, fun px py => ⟨fun c => absurd c (covL_nil px py), fun c => absurd c.2 (h px py c.1)⟩, Nat.le_refl _, fun _ h => by simp at h, fun _ h => by simp at h⟩

theorem CI.right {M : Int → Int → Prop} {t : Int} {all : List Rc} {band : Nat} (c : CI M t all band) : Right all :=
  ⟨fun r hr => ⟨(c.pos r hr).1, (c.pos r hr).2.1⟩, c.pw, c.top⟩

theorem mem_parts {l : List Rc} {n : Nat} {r : Rc} (h : r ∈ l) : r ∈ l.take n ∨ r ∈ l.drop n := by
  have : r ∈ l.take n ++ l.drop n := by rw [List.take_append_drop]; exact h
  exact List.mem_append.1 this

/-- The last band's rectangles are of one band. -/
theorem CI.band {M : Int → Int → Prop} {t : Int} {all : List Rc} {band : Nat} (c : CI M t all band) : (all.drop band).Pairwise (fun p q => p.y = q.y ∧ p.h = q.h ∧ p.x + p.w < q.x) := by
  have h := c.pw
  rw [← List.take_append_drop band all] at h
  refine List.Pairwise.imp_of_mem ?_ (List.pairwise_append.1 h).2.1
  intro p q hp hq g
  rcases g with g | g
  · exact g
  · have h1 := c.new p hp
    have h2 := c.new q hq
    have h3 := c.pos q (List.mem_of_mem_drop hq)
    omega
theorem CI.runs {M : Int → Int → Prop} {t : Int} {all : List Rc} {band : Nat} (c : CI M t all band) : Runs (all.drop band) :=
  ⟨fun r hr => (c.pos r (List.mem_of_mem_drop hr)).1, List.Pairwise.imp (fun {a b} h => h.2.2) c.band⟩
/-- The columns of the row above t are the last band's. -/
theorem CI.above {M : Int → Int → Prop} {t : Int} {all : List Rc} {band : Nat} (c : CI M t all band) (px : Int) : covL all px (t - 1) ↔ col (all.drop band) px := by
  constructor
  · rintro ⟨r, hr, g⟩
    have hp := c.pos r hr
    unfold Rc.cov at g
    rcases mem_parts (n := band) hr with e | e
    · have := c.old r e; omega
    · exact ⟨r, e, by unfold Rc.has; omega⟩
  · rintro ⟨r, hr, g⟩
    have hp := c.pos r (List.mem_of_mem_drop hr)
    have hn := c.new r hr
    unfold Rc.has at g
    exact ⟨r, List.mem_of_mem_drop hr, by unfold Rc.cov; omega⟩

/-- A strip with other columns: a new band. -/
theorem CI.more {M : Int → Int → Prop} {t u : Int} {all S : List Rc} {band : Nat} (c : CI M t all band) (htu : t < u) (ht : -1000 ≤ t) (s : Strip t (u - t) S) (hM : ∀ px py, t ≤ py → py < u → (M px py ↔ col S px))
    (hno : (all.drop band).map (fun r => (r.x, r.w)) ≠ S.map (fun r => (r.x, r.w))) : CI M u (all ++ S) all.length := by
  have hcov : ∀ px py, py < t → (covL (all ++ S) px py ↔ covL all px py) := fun px py h => by
    rw [covL_append]
    refine ⟨fun g => g.resolve_right ?_, .inl⟩
    rintro ⟨r, hr, e⟩
    have := s.1 r hr
    unfold Rc.cov at e; omega
  have hcovt : ∀ px py, t ≤ py → py < u → (covL (all ++ S) px py ↔ col S px) := fun px py h h' => by
    rw [covL_append]
    constructor
    · rintro (⟨r, hr, e⟩ | ⟨r, hr, e⟩)
      · have := c.pos r hr; unfold Rc.cov at e; omega
      · exact ⟨r, hr, by unfold Rc.cov at e; unfold Rc.has; omega⟩
    · rintro ⟨r, hr, e⟩
      have := s.1 r hr
      exact .inr ⟨r, hr, by unfold Rc.has at e; unfold Rc.cov; omega⟩
  refine ⟨fun r hr => ?_, ?_, fun r hr => ?_, fun px py => ?_, by simp, fun r hr => ?_, fun r hr => ?_⟩
  · rcases List.mem_append.1 hr with e | e
    · have := c.pos r e; omega
    · have := s.1 r e; omega
  · refine List.pairwise_append.2 ⟨c.pw, ?_, fun p hp q hq => ?_⟩
    · refine List.Pairwise.imp_of_mem ?_ s.2
      intro p q hp hq g
      have h1 := s.1 p hp; have h2 := s.1 q hq
      unfold Gap at g
      exact .inl (by omega)
    · have h1 := c.pos p hp; have h2 := s.1 q hq
      exact .inr (by omega)
  · rcases List.mem_append.1 hr with e | e
    · have h1 := c.pos r e
      intro g
      refine c.top r e fun px => ?_
      rw [← hcov px r.y (by omega), ← hcov px (r.y - 1) (by omega)]
      exact g px
    · have h1 := s.1 r e
      intro g
      refine hno (runs_unique _ _ c.runs s.runs fun px => ?_)
      have := g px
      rw [h1.2.1, hcovt px t (by omega) htu, hcov px (t - 1) (by omega), c.above px] at this
      exact this.symm
  · by_cases h : py < t
    · rw [hcov px py h, c.cols px py]
      exact ⟨fun g => ⟨by omega, g.2⟩, fun g => ⟨h, g.2⟩⟩
    · by_cases h' : py < u
      · rw [hcovt px py (by omega) h', hM px py (by omega) h']
        exact ⟨fun g => ⟨h', g⟩, fun g => g.2⟩
      · constructor
        · intro g
          exfalso
          rcases (covL_append _ _ _ _).1 g with ⟨r, hr, e⟩ | ⟨r, hr, e⟩
          · have := c.pos r hr; unfold Rc.cov at e; omega
          · have := s.1 r hr; unfold Rc.cov at e; omega
        · intro g; exact absurd g.1 h'
  · rw [List.take_left] at hr
    have := c.pos r hr; omega
  · rw [List.drop_left] at hr
    have := s.1 r hr; omega

def tall (d : Int) (r : Rc) : Rc := ⟨r.x, r.y, r.w, r.h + d⟩

theorem col_map_tall (d : Int) (l : List Rc) (px : Int) : col (l.map (tall d)) px ↔ col l px := by
  unfold col
  constructor
  · rintro ⟨r, hr, e⟩
    obtain ⟨q, hq, rfl⟩ := List.mem_map.1 hr
    exact ⟨q, hq, e⟩
  · rintro ⟨r, hr, e⟩
    exact ⟨tall d r, List.mem_map.2 ⟨r, hr, rfl⟩, e⟩

/-- A strip with the same columns: the band goes on. -/
theorem CI.on {M : Int → Int → Prop} {t u : Int} {all S : List Rc} {band : Nat} (c : CI M t all band) (htu : t < u) (hM : ∀ px py, t ≤ py → py < u → (M px py ↔ col S px))
    (hsame : ∀ px, col (all.drop band) px ↔ col S px) : CI M u (all.take band ++ (all.drop band).map (tall (u - t))) band := by
  have hlen : (all.take band).length = band := by rw [List.length_take]; have := c.le; omega
  have hcov : ∀ px py, py < t → (covL (all.take band ++ (all.drop band).map (tall (u - t))) px py ↔ covL all px py) := fun px py h => by
    conv => rhs; rw [← List.take_append_drop band all]
    rw [covL_append, covL_append]
    refine or_congr Iff.rfl ?_
    constructor
    · rintro ⟨r, hr, e⟩
      obtain ⟨q, hq, rfl⟩ := List.mem_map.1 hr
      have := c.new q hq
      exact ⟨q, hq, by unfold Rc.cov tall at *; simp only at e; omega⟩
    · rintro ⟨r, hr, e⟩
      have := c.new r hr
      exact ⟨tall (u - t) r, List.mem_map.2 ⟨r, hr, rfl⟩, by unfold Rc.cov tall at *; simp only; omega⟩
  have hcovt : ∀ px py, t ≤ py → (covL (all.take band ++ (all.drop band).map (tall (u - t))) px py ↔ py < u ∧ col (all.drop band) px) := fun px py h => by
    rw [covL_append]
    constructor
    · rintro (⟨r, hr, e⟩ | ⟨r, hr, e⟩)
      · have := c.old r hr; unfold Rc.cov at e; omega
      · obtain ⟨q, hq, rfl⟩ := List.mem_map.1 hr
        have := c.new q hq
        unfold Rc.cov tall at e; simp only at e
        exact ⟨by omega, q, hq, by unfold Rc.has; omega⟩
    · rintro ⟨h', r, hr, e⟩
      have := c.new r hr
      have hp := c.pos r (List.mem_of_mem_drop hr)
      unfold Rc.has at e
      exact .inr ⟨tall (u - t) r, List.mem_map.2 ⟨r, hr, rfl⟩, by unfold Rc.cov tall; simp only; omega⟩
  have hmem : ∀ r ∈ all.take band ++ (all.drop band).map (tall (u - t)), ∃ q ∈ all, r.x = q.x ∧ r.y = q.y ∧ r.w = q.w ∧ q.h ≤ r.h ∧ r.y + r.h ≤ u := by
    intro r hr
    rcases List.mem_append.1 hr with e | e
    · have := c.old r e
      exact ⟨r, List.mem_of_mem_take e, rfl, rfl, rfl, Int.le_refl _, by omega⟩
    · obtain ⟨q, hq, rfl⟩ := List.mem_map.1 e
      have := c.new q hq
      exact ⟨q, List.mem_of_mem_drop hq, rfl, rfl, rfl, by unfold tall; simp only; omega, by unfold tall; simp only; omega⟩
  refine ⟨fun r hr => ?_, ?_, fun r hr => ?_, fun px py => ?_, ?_, fun r hr => ?_, fun r hr => ?_⟩
  · obtain ⟨q, hq, h1, h2, h3, h4, h5⟩ := hmem r hr
    have := c.pos q hq; omega
  · have hp := c.pw
    rw [← List.take_append_drop band all] at hp
    have hp' := List.pairwise_append.1 hp
    refine List.pairwise_append.2 ⟨hp'.1, ?_, fun p hpm q hqm => ?_⟩
    · rw [List.pairwise_map]
      refine List.Pairwise.imp (fun {p q} g => ?_) c.band
      unfold PW tall; simp only
      exact .inl (by omega)
    · obtain ⟨q', hq', rfl⟩ := List.mem_map.1 hqm
      have h1 := c.old p hpm
      have h2 := c.new q' hq'
      rcases hp'.2.2 p hpm q' hq' with g | g
      · omega
      · exact .inr (by unfold tall; simp only; omega)
  · obtain ⟨q, hq, h1, h2, h3, h4, h5⟩ := hmem r hr
    have hp := c.pos q hq
    intro g
    refine c.top q hq fun px => ?_
    have := g px
    rw [h2, hcov px q.y (by omega), hcov px (q.y - 1) (by omega)] at this
    exact this
  · by_cases h : py < t
    · rw [hcov px py h, c.cols px py]
      exact ⟨fun g => ⟨by omega, g.2⟩, fun g => ⟨h, g.2⟩⟩
    · rw [hcovt px py (by omega)]
      constructor
      · rintro ⟨h', e⟩
        exact ⟨h', (hM px py (by omega) h').2 ((hsame px).1 e)⟩
      · rintro ⟨h', e⟩
        exact ⟨h', (hsame px).2 ((hM px py (by omega) h').1 e)⟩
  · rw [List.length_append, hlen]; omega
  · rw [List.take_append_of_le_length (by omega), List.take_take, Nat.min_self] at hr
    have := c.old r hr; omega
  · rw [List.drop_append_of_le_length (by omega), List.drop_take, Nat.sub_self, List.take_zero, List.nil_append] at hr
    obtain ⟨q, hq, rfl⟩ := List.mem_map.1 hr
    have := c.new q hq
    unfold tall; simp only; omega

end Go.Proofs.Panes
