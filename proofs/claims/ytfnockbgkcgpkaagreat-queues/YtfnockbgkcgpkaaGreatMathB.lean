import Derived.Test.YtfnockbgkcgpkaaGreatMath
set_option linter.all false
namespace Go.Proofs.Panes

/-- Pieces of a strip, in whatever order. -/
def Bits (y h : Int) (l : List Rc) : Prop := ∀ r ∈ l, 0 < r.w ∧ r.y = y ∧ r.h = h ∧ -1000 ≤ r.x ∧ r.x + r.w ≤ 2000
/-- A strip: its runs. -/
def Strip (y h : Int) (l : List Rc) : Prop := Bits y h l ∧ l.Pairwise Gap

theorem Strip.runs {y h : Int} {l : List Rc} (s : Strip y h l) : Runs l := ⟨fun r hr => (s.1 r hr).1, s.2⟩
theorem Bits.nil (y h : Int) : Bits y h [] := fun _ hr => by simp at hr
theorem Strip.nil (y h : Int) : Strip y h [] := ⟨Bits.nil y h, List.Pairwise.nil⟩
theorem Bits.snoc {y h : Int} {l : List Rc} {r : Rc} (b : Bits y h l) (hr : 0 < r.w ∧ r.y = y ∧ r.h = h ∧ -1000 ≤ r.x ∧ r.x + r.w ≤ 2000) : Bits y h (l ++ [r]) := by
  intro q hq
  rcases List.mem_append.1 hq with e | e
  · exact b q e
  · rw [List.mem_singleton.1 e]; exact hr
theorem Bits.append {y h : Int} {k l : List Rc} (a : Bits y h k) (b : Bits y h l) : Bits y h (k ++ l) := fun q hq => (List.mem_append.1 hq).elim (a q) (b q)
theorem pairwise_snoc {α : Type} {R : α → α → Prop} {l : List α} {r : α} (h : l.Pairwise R) (g : ∀ q ∈ l, R q r) : (l ++ [r]).Pairwise R :=
  List.pairwise_append.2 ⟨h, List.pairwise_singleton _ _, fun a ha b hb => by rw [List.mem_singleton.1 hb]; exact g a ha⟩
theorem Strip.snoc {y h : Int} {l : List Rc} {r : Rc} (s : Strip y h l) (hr : 0 < r.w ∧ r.y = y ∧ r.h = h ∧ -1000 ≤ r.x ∧ r.x + r.w ≤ 2000) (g : ∀ q ∈ l, q.x + q.w < r.x) : Strip y h (l ++ [r]) :=
  ⟨s.1.snoc hr, pairwise_snoc s.2 g⟩
theorem col_snoc (l : List Rc) (r : Rc) (px : Int) : col (l ++ [r]) px ↔ col l px ∨ r.has px := by
  rw [col_append, col_cons]; exact ⟨fun h => h.imp id (fun g => g.resolve_right (col_nil px)), fun h => h.imp id .inl⟩
/-- A strip has no more runs than columns. -/
theorem strip_len {y h : Int} : ∀ (l : List Rc) (x : Int), (∀ r ∈ l, 0 < r.w ∧ x ≤ r.x ∧ r.x + r.w ≤ 2000) → l.Pairwise Gap → x ≤ 2000 → (l.length : Int) ≤ 2000 - x
  | [], x, _, _, hx => by simp; omega
  | r :: l, x, h1, h2, hx => by
    have ⟨g1, g2⟩ := List.pairwise_cons.1 h2
    have hr := h1 r (by simp)
    have := strip_len (y := y) (h := h) l (r.x + r.w) (fun q hq => by
      have a := h1 q (List.mem_cons_of_mem _ hq); have b := g1 q hq; unfold Gap at b; exact ⟨a.1, by omega, a.2.2⟩) g2 (by omega)
    simp only [List.length_cons]; omega
theorem Strip.len {y h : Int} {l : List Rc} (s : Strip y h l) : l.length ≤ 3000 := by
  have := strip_len (y := y) (h := h) l (-1000) (fun r hr => ⟨(s.1 r hr).1, (s.1 r hr).2.2.2.1, (s.1 r hr).2.2.2.2⟩) s.2 (by omega)
  omega

/-! join -/
structure JI (y h : Int) (J P : List Rc) : Prop where
  strip : Strip y h J
  cols : ∀ px, col J px ↔ col P px
  src : ∀ q ∈ J, ∃ r ∈ P, q.x = r.x

theorem JI.start (y h : Int) : JI y h [] [] := ⟨Strip.nil y h, fun _ => Iff.rfl, fun _ hq => by simp at hq⟩
theorem JI.first {y h : Int} {P : List Rc} {p : Rc} (j : JI y h [] P) (hp : 0 < p.w ∧ p.y = y ∧ p.h = h ∧ -1000 ≤ p.x ∧ p.x + p.w ≤ 2000) : JI y h [p] (P ++ [p]) :=
  ⟨Strip.snoc (Strip.nil y h) hp (fun _ hq => by simp at hq), fun px => by rw [col_snoc, ← j.cols px, show [p] = [] ++ [p] from rfl, col_snoc], fun q hq => ⟨p, by simp, by rw [List.mem_singleton.1 hq]⟩⟩
theorem JI.apart {y h : Int} {J P : List Rc} {q p : Rc} (j : JI y h (J ++ [q]) P) (hp : 0 < p.w ∧ p.y = y ∧ p.h = h ∧ -1000 ≤ p.x ∧ p.x + p.w ≤ 2000) (hlt : q.x + q.w < p.x) : JI y h (J ++ [q] ++ [p]) (P ++ [p]) := by
  refine ⟨Strip.snoc j.strip hp (fun s hs => ?_), fun px => by rw [col_snoc (J ++ [q]), col_snoc P, j.cols px], fun s hs => ?_⟩
  · rcases List.mem_append.1 hs with e | e
    · have := (List.pairwise_append.1 j.strip.2).2.2 s e q (by simp)
      have hq := j.strip.1 q (by simp)
      unfold Gap at this; omega
    · rw [List.mem_singleton.1 e]; exact hlt
  · rcases List.mem_append.1 hs with e | e
    · obtain ⟨r, hr, hx⟩ := j.src s e; exact ⟨r, by simp [hr], hx⟩
    · exact ⟨p, by simp, by rw [List.mem_singleton.1 e]⟩
theorem JI.touch {y h : Int} {J P : List Rc} {q p : Rc} (j : JI y h (J ++ [q]) P) (hp : 0 < p.w ∧ p.y = y ∧ p.h = h ∧ -1000 ≤ p.x ∧ p.x + p.w ≤ 2000) (hx : q.x ≤ p.x) (hge : ¬ q.x + q.w < p.x) :
    JI y h (J ++ [⟨q.x, q.y, max q.w (p.x + p.w - q.x), q.h⟩]) (P ++ [p]) := by
  have hq := j.strip.1 q (by simp)
  have hpa := List.pairwise_append.1 j.strip.2
  refine ⟨Strip.snoc ⟨fun r hr => j.strip.1 r (by simp [hr]), hpa.1⟩ ⟨by show 0 < max q.w (p.x + p.w - q.x); omega, hq.2.1, hq.2.2.1, hq.2.2.2.1, by show q.x + max q.w (p.x + p.w - q.x) ≤ 2000; omega⟩ (fun s hs => ?_), fun px => ?_, fun s hs => ?_⟩
  · have := hpa.2.2 s hs q (by simp); unfold Gap at this; exact this
  · rw [col_snoc, col_snoc, ← j.cols px, col_snoc, or_assoc]
    refine or_congr Iff.rfl ?_
    unfold Rc.has; simp only; omega
  · rcases List.mem_append.1 hs with e | e
    · obtain ⟨r, hr, hx⟩ := j.src s (by simp [e]); exact ⟨r, by simp [hr], hx⟩
    · obtain ⟨r, hr, hx⟩ := j.src q (by simp)
      exact ⟨r, by simp [hr], by rw [List.mem_singleton.1 e]; exact hx⟩

/-! both -/
structure BO (y h : Int) (A b S : List Rc) : Prop where
  strip : Strip y h S
  cols : ∀ px, col S px ↔ col A px ∧ col b px
  ends : ∀ s ∈ S, ∃ p ∈ A, s.x + s.w ≤ p.x + p.w
structure BN (y h : Int) (A : List Rc) (p : Rc) (b B S : List Rc) : Prop where
  strip : Strip y h S
  cols : ∀ px, col S px ↔ (col A px ∧ col b px) ∨ (p.has px ∧ col B px)
  ends : ∀ s ∈ S, s.x + s.w ≤ p.x + p.w ∧ (s.x + s.w < p.x ∨ ∃ q ∈ B, s.x + s.w ≤ q.x + q.w)
theorem BO.start (y h : Int) (b : List Rc) : BO y h [] b [] := ⟨Strip.nil y h, fun px => ⟨fun c => absurd c (col_nil px), fun c => absurd c.1 (col_nil px)⟩, fun _ hs => by simp at hs⟩
theorem BO.begin {y h : Int} {A b S : List Rc} {p : Rc} (o : BO y h A b S) (hp : 0 < p.w) (ha : ∀ q ∈ A, q.x + q.w < p.x) : BN y h A p b [] S :=
  ⟨o.strip, fun px => (o.cols px).trans ⟨.inl, fun c => c.resolve_right fun d => col_nil px d.2⟩, fun s hs => by
    obtain ⟨q, hq, e⟩ := o.ends s hs; have := ha q hq; exact ⟨by omega, .inl (by omega)⟩⟩
theorem BN.skip {y h : Int} {A b B S : List Rc} {p q : Rc} (n : BN y h A p b B S) (hw : ¬ 0 < max 0 (min (p.x + p.w) (q.x + q.w) - max p.x q.x)) : BN y h A p b (B ++ [q]) S :=
  ⟨n.strip, fun px => (n.cols px).trans (or_congr Iff.rfl (by rw [col_snoc]; unfold Rc.has; constructor; exact fun c => ⟨c.1, .inl c.2⟩; exact fun c => ⟨c.1, c.2.resolve_right (by omega)⟩)), fun s hs => by
    have e := n.ends s hs; exact ⟨e.1, e.2.imp id fun ⟨q', hq', e'⟩ => ⟨q', by simp [hq'], e'⟩⟩⟩
theorem BN.take {y h : Int} {A b B S : List Rc} {p q : Rc} (n : BN y h A p b B S) (hh : 0 < h) (hp : 0 < p.w ∧ p.y = y ∧ p.h = h ∧ -1000 ≤ p.x ∧ p.x + p.w ≤ 2000) (hq : 0 < q.w ∧ q.y = y ∧ q.h = h ∧ -1000 ≤ q.x ∧ q.x + q.w ≤ 2000) (hB : ∀ t ∈ B, t.x + t.w < q.x)
    (hw : 0 < max 0 (min (p.x + p.w) (q.x + q.w) - max p.x q.x)) :
    BN y h A p b (B ++ [q]) (S ++ [⟨max p.x q.x, max p.y q.y, max 0 (min (p.x + p.w) (q.x + q.w) - max p.x q.x), max 0 (min (p.y + p.h) (q.y + q.h) - max p.y q.y)⟩]) := by
  refine ⟨Strip.snoc n.strip ⟨hw, ?_, ?_, ?_, ?_⟩ (fun s hs => ?_), fun px => ?_, fun s hs => ?_⟩
  · show max p.y q.y = y; omega
  · show max 0 (min (p.y + p.h) (q.y + q.h) - max p.y q.y) = h; omega
  · show -1000 ≤ max p.x q.x; omega
  · show max p.x q.x + max 0 (min (p.x + p.w) (q.x + q.w) - max p.x q.x) ≤ 2000; omega
  · show s.x + s.w < max p.x q.x
    rcases (n.ends s hs).2 with e | ⟨t, ht, e⟩
    · omega
    · have := hB t ht; omega
  · rw [col_snoc, n.cols px, or_assoc, col_snoc]
    refine or_congr Iff.rfl ?_
    unfold Rc.has
    simp only
    constructor
    · rintro (c | c)
      · exact ⟨c.1, .inl c.2⟩
      · exact ⟨by omega, .inr (by omega)⟩
    · rintro ⟨c, d | d⟩
      · exact .inl ⟨c, d⟩
      · exact .inr (by omega)
  · rcases List.mem_append.1 hs with e | e
    · have e' := n.ends s e; exact ⟨e'.1, e'.2.imp id fun ⟨t, ht, e''⟩ => ⟨t, by simp [ht], e''⟩⟩
    · rw [List.mem_singleton.1 e]
      exact ⟨by show max p.x q.x + max 0 (min (p.x + p.w) (q.x + q.w) - max p.x q.x) ≤ p.x + p.w; omega, .inr ⟨q, by simp, by show max p.x q.x + max 0 (min (p.x + p.w) (q.x + q.w) - max p.x q.x) ≤ q.x + q.w; omega⟩⟩
theorem BN.finish {y h : Int} {A b S : List Rc} {p : Rc} (n : BN y h A p b b S) : BO y h (A ++ [p]) b S :=
  ⟨n.strip, fun px => by rw [n.cols px, col_snoc]; constructor
                         · rintro (c | c)
                           · exact ⟨.inl c.1, c.2⟩
                           · exact ⟨.inr c.1, c.2⟩
                         · rintro ⟨c | c, d⟩
                           · exact .inl ⟨c, d⟩
                           · exact .inr ⟨c, d⟩,
   fun s hs => ⟨p, by simp, (n.ends s hs).1⟩⟩

/-! without -/
structure WO (y h : Int) (A b S : List Rc) : Prop where
  strip : Strip y h S
  cols : ∀ px, col S px ↔ col A px ∧ ¬ col b px
  ends : ∀ s ∈ S, ∃ p ∈ A, s.x + s.w ≤ p.x + p.w
structure WN (y h : Int) (A : List Rc) (p : Rc) (b B : List Rc) (x : Int) (S : List Rc) : Prop where
  strip : Strip y h S
  cols : ∀ px, col S px ↔ (col A px ∧ ¬ col b px) ∨ (p.has px ∧ px < x ∧ ¬ col b px)
  ends : ∀ s ∈ S, s.x + s.w ≤ p.x + p.w ∧ s.x + s.w < x
  past : ∀ q ∈ B, q.x + q.w ≤ x
  lo : p.x ≤ x ∧ x ≤ 2000
theorem WO.start (y h : Int) (b : List Rc) : WO y h [] b [] := ⟨Strip.nil y h, fun px => ⟨fun c => absurd c (col_nil px), fun c => absurd c.1 (col_nil px)⟩, fun _ hs => by simp at hs⟩
theorem WO.begin {y h : Int} {A b S : List Rc} {p : Rc} (o : WO y h A b S) (hp : 0 < p.w ∧ p.x + p.w ≤ 2000) (ha : ∀ q ∈ A, q.x + q.w < p.x) : WN y h A p b [] p.x S :=
  ⟨o.strip, fun px => (o.cols px).trans ⟨.inl, fun c => c.resolve_right fun d => by have := d.1; unfold Rc.has at this; omega⟩, fun s hs => by
    obtain ⟨q, hq, e⟩ := o.ends s hs; have := ha q hq; exact ⟨by omega, by omega⟩, fun _ hq => by simp at hq, by omega⟩
/-- What addColumns adds. -/
def addC (p : Rc) (x e : Int) : List Rc := if x < e then [⟨x, p.y, e - x, p.h⟩] else []
theorem WN.step {y h : Int} {A b B C S : List Rc} {p q : Rc} {x : Int} (n : WN y h A p b B x S) (hb : b = B ++ q :: C) (hp : 0 < p.w ∧ p.y = y ∧ p.h = h ∧ -1000 ≤ p.x ∧ p.x + p.w ≤ 2000) (hq : 0 < q.w ∧ -1000 ≤ q.x ∧ q.x + q.w ≤ 2000)
    (hC : ∀ t ∈ C, q.x + q.w < t.x) : WN y h A p b (B ++ [q]) (max x (q.x + q.w)) (S ++ addC p x (min q.x (p.x + p.w))) := by
  have hlo := n.lo
  have hcb : ∀ px, col b px ↔ col B px ∨ q.has px ∨ col C px := fun px => by rw [hb, col_append, col_cons]
  have hB : ∀ px, col B px → px < x := fun px ⟨t, ht, c⟩ => by have := n.past t ht; unfold Rc.has at c; omega
  have hCC : ∀ px, col C px → q.x + q.w < px := fun px ⟨t, ht, c⟩ => by have := hC t ht; unfold Rc.has at c; omega
  have hadd : ∀ px, col (addC p x (min q.x (p.x + p.w))) px ↔ x ≤ px ∧ px < min q.x (p.x + p.w) := by
    intro px
    unfold addC
    split
    · rw [col_cons]; unfold Rc.has; simp only
      constructor
      · rintro (c | c)
        · omega
        · exact absurd c (col_nil px)
      · intro c; exact .inl (by omega)
    · exact ⟨fun c => absurd c (col_nil px), fun c => by omega⟩
  have hstrip : Strip y h (S ++ addC p x (min q.x (p.x + p.w))) := by
    unfold addC
    split
    · refine Strip.snoc n.strip ⟨?_, hp.2.1, hp.2.2.1, ?_, ?_⟩ (fun s hs => (n.ends s hs).2)
      · show 0 < min q.x (p.x + p.w) - x; omega
      · show -1000 ≤ x; omega
      · show x + (min q.x (p.x + p.w) - x) ≤ 2000; omega
    · rw [List.append_nil]; exact n.strip
  refine ⟨hstrip, fun px => ?_, fun s hs => ?_, fun t ht => ?_, by omega⟩
  · rw [col_append, hadd, n.cols px, or_assoc]
    refine or_congr Iff.rfl ?_
    rw [hcb px]
    have h1 := hB px
    have h2 := hCC px
    unfold Rc.has
    constructor
    · rintro (⟨c1, c2, c3⟩ | c)
      · exact ⟨c1, by omega, c3⟩
      · refine ⟨by omega, by omega, ?_⟩
        rintro (d | d | d)
        · have := h1 d; omega
        · omega
        · have := h2 d; omega
    · rintro ⟨c1, c2, c3⟩
      by_cases hx : px < x
      · exact .inl ⟨c1, hx, c3⟩
      · refine .inr ⟨by omega, ?_⟩
        have : ¬ (q.x ≤ px ∧ px < q.x + q.w) := fun d => c3 (.inr (.inl d))
        omega
  · rcases List.mem_append.1 hs with e | e
    · have := n.ends s e; exact ⟨this.1, by omega⟩
    · unfold addC at e
      split at e
      · rw [List.mem_singleton.1 e]
        exact ⟨by show x + (min q.x (p.x + p.w) - x) ≤ p.x + p.w; omega, by show x + (min q.x (p.x + p.w) - x) < max x (q.x + q.w); omega⟩
      · simp at e
  · rcases List.mem_append.1 ht with e | e
    · have := n.past t e; omega
    · rw [List.mem_singleton.1 e]; omega
theorem WN.finish {y h : Int} {A b S : List Rc} {p : Rc} {x : Int} (n : WN y h A p b b x S) (hp : 0 < p.w ∧ p.y = y ∧ p.h = h ∧ -1000 ≤ p.x ∧ p.x + p.w ≤ 2000) : WO y h (A ++ [p]) b (S ++ addC p x (p.x + p.w)) := by
  have hlo := n.lo
  have hB : ∀ px, col b px → px < x := fun px ⟨t, ht, c⟩ => by have := n.past t ht; unfold Rc.has at c; omega
  have hadd : ∀ px, col (addC p x (p.x + p.w)) px ↔ x ≤ px ∧ px < p.x + p.w := by
    intro px
    unfold addC
    split
    · rw [col_cons]; unfold Rc.has; simp only
      constructor
      · rintro (c | c)
        · omega
        · exact absurd c (col_nil px)
      · intro c; exact .inl (by omega)
    · exact ⟨fun c => absurd c (col_nil px), fun c => by omega⟩
  have hstrip : Strip y h (S ++ addC p x (p.x + p.w)) := by
    unfold addC
    split
    · refine Strip.snoc n.strip ⟨?_, hp.2.1, hp.2.2.1, ?_, ?_⟩ (fun s hs => (n.ends s hs).2)
      · show 0 < p.x + p.w - x; omega
      · show -1000 ≤ x; omega
      · show x + (p.x + p.w - x) ≤ 2000; omega
    · rw [List.append_nil]; exact n.strip
  refine ⟨hstrip, fun px => ?_, fun s hs => ⟨p, by simp, ?_⟩⟩
  · rw [col_append, hadd, n.cols px, col_snoc]
    have h1 := hB px
    unfold Rc.has
    constructor
    · rintro ((c | ⟨c1, c2, c3⟩) | c)
      · exact ⟨.inl c.1, c.2⟩
      · exact ⟨.inr c1, c3⟩
      · exact ⟨.inr (by omega), fun d => by have := h1 d; omega⟩
    · rintro ⟨c | c, d⟩
      · exact .inl (.inl ⟨c, d⟩)
      · by_cases hx : px < x
        · exact .inl (.inr ⟨c, hx, d⟩)
        · exact .inr (by omega)
  · rcases List.mem_append.1 hs with e | e
    · exact (n.ends s e).1
    · unfold addC at e
      split at e
      · rw [List.mem_singleton.1 e]; show x + (p.x + p.w - x) ≤ p.x + p.w; omega
      · simp at e

end Go.Proofs.Panes
