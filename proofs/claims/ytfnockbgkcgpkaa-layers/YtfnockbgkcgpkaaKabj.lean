import Derived.Test.YtfnockbgkcgpkaaKabi
set_option linter.all false
namespace Go.Proofs.Ytfnockbgkcgpkaa
open Go.RowKit Go.Proofs.Panes
set_option maxRecDepth 100000

/-- A row of numbers, cut at its front, in a block of C. -/
def OffN (C : Nat → Prop) (w : World) (v : Value) (l : List Int) : Prop :=
  (v = .slice none 0 0 ∧ l = []) ∨ ∃ g off cap cs, v = .slice (some ⟨g, off, none⟩) l.length cap ∧ C g ∧ w.heap[g]? = some (.cells cs 3 (0, 0)) ∧ l.length ≤ cap ∧ cap ≤ maxLen ∧ off + cap ≤ cs.size ∧ ∀ (j : Nat) (n : Int), l[j]? = some n → cs[off + j]? = some (.int .i64 n)
theorem OffN.but {C T : Nat → Prop} {w w' : World} {v : Value} {l : List Int} (h : OffN C w v l) (hb : But T w w') (hT : ∀ x, C x → ¬ T x) : OffN C w' v l := by
  rcases h with h | ⟨g, off, cap, cs, h1, h2, h3, h4⟩
  · exact .inl h
  · exact .inr ⟨g, off, cap, cs, h1, h2, hb.heap h3 (hT g h2), h4⟩
theorem OffN.mono {C C' : Nat → Prop} {w : World} {v : Value} {l : List Int} (h : OffN C w v l) (hC : ∀ x, C x → C' x) : OffN C' w v l := by
  rcases h with h | ⟨g, off, cap, cs, h1, h2, h3, h4⟩
  · exact .inl h
  · exact .inr ⟨g, off, cap, cs, h1, hC g h2, h3, h4⟩
theorem OffN.slice {C : Nat → Prop} {w : World} {v : Value} {l : List Int} (h : OffN C w v l) : ∃ ao cap, v = .slice ao l.length cap ∧ l.length ≤ cap := by
  rcases h with ⟨h1, h2⟩ | ⟨g, off, cap, cs, h1, h2, h3, h4, _⟩
  · subst h2; exact ⟨none, 0, h1, by simp⟩
  · exact ⟨_, _, h1, h4⟩
/-- Its front is cut off. -/
theorem OffN.cut {C : Nat → Prop} {w : World} {g off n cap : Nat} {l : List Int} (h : OffN C w (.slice (some ⟨g, off, none⟩) n cap) l) (k : Nat) (hk : k ≤ l.length) : OffN C w (.slice (if cap = k then some ⟨g, off, none⟩ else some ⟨g, off + k, none⟩) (n - k) (cap - k)) (l.drop k) := by
  rcases h with ⟨h1, h2⟩ | ⟨g', off', cap', cs, h1, h2, h3, h4, h5, h6, h7⟩
  · cases h1
  · simp only [Value.slice.injEq, Option.some.injEq, Addr.mk.injEq, and_true] at h1
    obtain ⟨⟨rfl, rfl⟩, rfl, rfl⟩ := h1
    by_cases hc : cap = k
    · rw [if_pos hc]
      have hl : l.drop k = [] := List.drop_of_length_le (by omega)
      refine .inr ⟨g, off, cap - k, cs, by rw [hl]; simp; omega, h2, h3, by rw [hl]; simp, by omega, by omega, fun j n hj => by rw [hl] at hj; simp at hj⟩
    · rw [if_neg hc]
      refine .inr ⟨g, off + k, cap - k, cs, by simp, h2, h3, by simp; omega, by omega, by omega, fun j n hj => ?_⟩
      rw [List.getElem?_drop] at hj
      have := h7 (k + j) n hj
      rw [show off + (k + j) = off + k + j by omega] at this
      exact this
/-- One more behind it. -/
theorem OffN.append {C : Nat → Prop} {w : World} {v : Value} {l : List Int} (h : OffN C w v l) (hl : l.length ≤ 1000000) (a : Addr) (n : Int) (ha : w.cell? a = some (.int .i64 n)) :
    ∃ ao cap w', (Builtin.append_ #[23, 23] 23 #[v, .slice (some a) 1 1]).run Try.prog w = .ok (.slice ao (l.length + 1) cap) w' ∧ OffN (fun x => C x ∨ (w.heap.size ≤ x ∧ x < w'.heap.size)) w' (.slice ao (l.length + 1) cap) (l ++ [n]) ∧ But C w w' := by
  obtain ⟨i0, hi, hz0, hz1, hz2⟩ := info_parts info_int
  have hnews : ∀ (j : Nat) (u : Value), [Value.int .i64 n][j]? = some u → w.cell? (a.add j) = some u := by
    intro j u hj
    match j, hj with
    | 0, hj =>
      simp at hj
      subst hj
      have : a.add 0 = a := by unfold Addr.add; split <;> simp_all
      rw [this]; exact ha
    | j + 1, hj => simp at hj
  have own_off : ∀ {w' : World} {v' : Value} {m : List Int} {base : Nat}, w'.ownsRow base 3 1 v' m.length (m.map (Value.int .i64)) → m ≠ [] → (∀ g, v'.ownBlock = some g → w.heap.size ≤ g) → ∃ ao cap, v' = .slice ao m.length cap ∧ OffN (fun x => C x ∨ (w.heap.size ≤ x ∧ x < w'.heap.size)) w' v' m := by
    intro w' v' m base ho hm hg
    rcases ho.2 with ⟨_, h0⟩ | ⟨g, cap, cur, rfl, hb, hk, hc, hmx, hz, ht⟩
    · exact absurd (List.eq_nil_of_length_eq_zero h0) hm
    · refine ⟨_, _, rfl, .inr ⟨g, 0, cap, cur, rfl, .inr ⟨hg g rfl, lt_of_heap hk⟩, hk, hc, hmx, by omega, fun j x hx => ?_⟩⟩
      have hj := (List.getElem?_eq_some_iff.1 hx).1
      have h2 : (cur.toList.take (m.length * 1))[j]? = some (.int .i64 x) := by rw [ht, List.getElem?_map, hx]; rfl
      rw [List.getElem?_take_of_lt (by omega)] at h2
      rw [Nat.zero_add]
      simpa using h2
  rcases h with ⟨rfl, rfl⟩ | ⟨g, off, cap, cs, rfl, hC, hg, hlc, hmx, hsz, hat⟩
  · have hO : w.ownsRow 0 3 1 (.slice none 0 0) 0 [] := World.ownsRow_nil _ _ _ _
    obtain ⟨g, cap, w', hrun, hO', hgr, hat, hlt⟩ := run_append_lies (P := Try.prog) w 23 23 0 3 i0 _ 1 8 Try.underlying23 hi hz0 hz1 hz2 rfl (by omega) (.slice none 0 0) 0 [] hO a 1 1 [.int .i64 n] rfl hnews (by intro u hu; simp at hu; subst hu; rfl) (by omega) (by unfold maxLen; omega) (by omega) (Nat.zero_le _) w.heap.size rfl
    obtain ⟨ao, cap', e, ho⟩ := own_off (m := [n]) hO' (by simp) (fun g' hg' => by
      simp [Value.ownBlock] at hg'
      subst hg'
      rcases hat with e | e
      · simp [Value.ownBlock] at e
      · omega)
    exact ⟨_, _, w', hrun, ho, .of_grown hgr (fun k e => by simp [Value.ownBlock] at e)⟩
  · by_cases hroom : l.length + 1 ≤ cap
    · have hrun := run_append_room_cells (P := Try.prog) w 23 23 3 i0 Try.underlying23 hi g off l.length cap a 1 1 [.int .i64 n] (by rw [hz1]; rfl) hnews (by intro u hu; simp at hu; subst hu; rfl) hroom (by
        intro j hj
        simp at hj
        subst hj
        rw [hz1, blk_cell hg, Array.getElem?_eq_getElem (by omega)]
        rfl) (fun j hj => blk_thaw hg _)
      rw [hz1, Nat.mul_one] at hrun
      have hset : w.setCells g (off + l.length) [.int .i64 n] = w.setCell ⟨g, off + l.length, none⟩ (.int .i64 n) := rfl
      rw [hset] at hrun
      refine ⟨_, _, _, hrun, .inr ⟨g, off, cap, _, by simp, .inl hC, blk_set (i := off + l.length) hg _, by simpa using hroom, hmx, by simpa using hsz, fun j x hx => ?_⟩, (But.refl C w).setCell (p := ⟨g, off + l.length, none⟩) (.inl hC) _⟩
      rw [Array.getElem?_setIfInBounds]
      by_cases e : j = l.length
      · subst e
        simp at hx
        subst hx
        rw [if_pos rfl, if_pos (by omega)]
      · rw [if_neg (by omega)]
        have hj := (List.getElem?_eq_some_iff.1 hx).1
        simp at hj
        rw [List.getElem?_append_left (by omega)] at hx
        exact hat j x hx
    · obtain ⟨v', w', hrun, hO, hgr⟩ := run_append_arg_grows (P := Try.prog) w 23 23 3 i0 _ 1 8 Try.underlying23 hi hz0 hz1 hz2 rfl (by omega) ⟨g, off, none⟩ l.length cap (l.map (Value.int .i64)) (by simp) (fun j u hj => by
        rw [List.getElem?_map] at hj
        obtain ⟨x, hx, rfl⟩ := Option.map_eq_some_iff.1 hj
        have hadd : (⟨g, off, none⟩ : Addr).add j = ⟨g, off + j, none⟩ := by unfold Addr.add; split <;> simp_all
        rw [hadd, blk_cell hg]; exact hat j x hx) a 1 1 [.int .i64 n] rfl hnews (by omega) (by unfold maxLen; omega) (by omega)
      have hO' : w'.ownsRow w.heap.size 3 1 v' (l ++ [n]).length ((l ++ [n]).map (Value.int .i64)) := by simpa using hO
      obtain ⟨ao, cap', e, ho⟩ := own_off (m := l ++ [n]) hO' (by simp) (fun g' hg' => (World.ownsRow.lt hO g' hg').1)
      have el : (l ++ [n]).length = l.length + 1 := by simp
      rw [el] at e
      subst e
      exact ⟨_, _, w', hrun, ho, .of_grown hgr (fun k e => by cases e)⟩
end Go.Proofs.Ytfnockbgkcgpkaa
set_option linter.all false
namespace Go.Proofs.Ytfnockbgkcgpkaa
open Go.RowKit Go.Proofs.Panes
set_option maxRecDepth 100000

/-- A mark that was asked for. -/
structure Ask where
  cl : Int
  mark : Int
  at' : Int
  fired : Bool
  gone : Bool
def acell (x : Ask) : List Value := [.int .i64 x.cl, .int .i64 x.mark, .int .i64 x.at', .bool x.fired, .bool x.gone]
def acells (l : List Ask) : List Value := l.flatMap acell
theorem acells_cons (x : Ask) (l : List Ask) : acells (x :: l) = acell x ++ acells l := rfl
theorem acells_append (k l : List Ask) : acells (k ++ l) = acells k ++ acells l := by simp [acells]
theorem acells_len (l : List Ask) : (acells l).length = l.length * 5 := by
  induction l with
  | nil => rfl
  | cons x l ih => rw [acells_cons, List.length_append, ih]; simp [acell]; omega
theorem acells_at : ∀ (l : List Ask) (j : Nat) (x : Ask), l[j]? = some x → ∀ t, t < 5 → (acells l)[j * 5 + t]? = (acell x)[t]?
  | [], j, x, h => by simp at h
  | q :: l, 0, x, h => by
    intro t ht
    simp at h; subst h
    rw [acells_cons, Nat.zero_mul, Nat.zero_add, List.getElem?_append_left (by simp [acell]; omega)]
  | q :: l, j + 1, x, h => by
    intro t ht
    rw [← acells_at l j x (by simpa using h) t ht, acells_cons, List.getElem?_append_right (by simp [acell]; omega)]
    congr 1
    simp [acell]; omega
theorem acells_set (l : List Ask) (j t : Nat) (x y : Ask) (hj : l[j]? = some x) (ht : t < 5) (u : Value) (hy : ∀ r, r < 5 → (acell y)[r]? = if r = t then some u else (acell x)[r]?) : (acells l).set (j * 5 + t) u = acells (l.set j y) := by
  have hjl := (List.getElem?_eq_some_iff.1 hj).1
  apply List.ext_getElem?
  intro i
  by_cases hi : i < l.length * 5
  · obtain ⟨q, r, hr, rfl⟩ : ∃ q r, r < 5 ∧ i = q * 5 + r := ⟨i / 5, i % 5, by omega, by omega⟩
    have hq : q < l.length := by omega
    rw [List.getElem?_set]
    by_cases e : q = j
    · subst e
      have e2 : (l.set q y)[q]? = some y := by rw [List.getElem?_set_self hjl]
      rw [acells_at _ q y e2 r hr, hy r hr]
      by_cases e3 : r = t
      · subst e3
        rw [if_pos rfl, if_pos (by rw [acells_len]; omega), if_pos rfl]
      · rw [if_neg (by omega), if_neg e3, acells_at _ q x hj r hr]
    · rw [if_neg (by omega)]
      have e2 : (l.set j y)[q]? = l[q]? := by rw [List.getElem?_set_ne (Ne.symm e)]
      have e3 : l[q]? = some l[q] := List.getElem?_eq_getElem hq
      rw [acells_at l q _ e3 r hr, acells_at (l.set j y) q _ (e2.trans e3) r hr]
  · rw [List.getElem?_eq_none (by rw [List.length_set, acells_len]; omega), List.getElem?_eq_none (by rw [acells_len, List.length_set]; omega)]
/-- The fields of a shop. -/
structure ShF where
  c : Cfg
  there : List Bool
  wait : List (List Int)
  had : List Int
  marks : List Ask
  paid : Int
  ticks : Int
  flips : Int
  rt : Int
  rf : Int
  rp : Int
/-- Where they lie. -/
structure ShL where
  tv : Value
  wv : Value
  hv : Value
  mv : Value
  av : Value
  fv : Value
  ws : List Value
def shcells (xp : Nat) (F : ShF) (L : ShL) : Array Value := #[.pointer (some ⟨xp, 0, none⟩), .int .i64 F.c.w, .int .i64 F.c.h, .int .i64 F.c.clients, .int .i64 F.c.queue, .int .i64 F.c.most, .int .i64 F.c.quantum, .int .i64 F.c.surfaces, .int .i64 F.c.behind, L.tv, L.wv, L.hv, L.mv, .int .i64 F.paid, .int .i64 F.ticks, .bool true, .int .i64 F.flips, .int .i64 F.rt, .int .i64 F.rf, .int .i64 F.rp, L.av, L.fv]
/-- A shop in memory; its blocks' colours: 1 itself, 2 there, 3 wait, 4 had, 5 the marks, 6 + i what waits of client i. -/
structure ShB (a : Nat → Nat) (w : World) (sp xp : Nat) (F : ShF) (L : ShL) : Prop where
  blk : w.heap[sp]? = some (.cells (shcells xp F L) 57 (0, 0))
  there : w.ownsRow 0 4 1 L.tv F.there.length (F.there.map Value.bool)
  wait : w.ownsRow 0 23 1 L.wv F.wait.length L.ws
  each : ∀ (i : Nat) (v : Value) (l : List Int), L.ws[i]? = some v → F.wait[i]? = some l → OffN (fun x => a x = 6 + i) w v l
  had : OwnN w 0 L.hv F.had
  marks : w.ownsRow 0 65 5 L.mv F.marks.length (acells F.marks)
  asp : a sp = 1
  atv : ∀ k, L.tv.ownBlock = some k → a k = 2
  awv : ∀ k, L.wv.ownBlock = some k → a k = 3
  ahv : ∀ k, L.hv.ownBlock = some k → a k = 4
  amv : ∀ k, L.mv.ownBlock = some k → a k = 5
  lt : ∀ x, a x ≠ 0 → x < w.heap.size
/-- A step on a shop. -/
structure Sto (a a' : Nat → Nat) (w w' : World) : Prop where
  but : But (fun x => a x ≠ 0) w w'
  ext : ∀ x, x < w.heap.size → a' x ≠ 0 → a x ≠ 0
theorem Sto.refl (a : Nat → Nat) (w : World) : Sto a a w w := ⟨.refl _ _, fun _ _ h => h⟩
theorem Sto.trans {a a' a'' : Nat → Nat} {w w' w'' : World} (h : Sto a a' w w') (k : Sto a' a'' w' w'') : Sto a a'' w w'' :=
  ⟨h.but.step k.but (fun x hx => by
    rcases Nat.lt_or_ge x w.heap.size with c | c
    · exact .inl (h.ext x c hx)
    · exact .inr c), fun x hx hc => h.ext x hx (k.ext x (Nat.lt_of_lt_of_le hx h.but.size) hc)⟩
theorem Sto.below {a : Nat → Nat} {w w' : World} (h : Below w.heap.size w w') : Sto a a w w' := ⟨.of_below h, fun _ _ h => h⟩
section
variable {a : Nat → Nat} {w w' : World} {sp xp : Nat} {F : ShF} {L : ShL}
theorem ShB.but {T : Nat → Prop} (h : ShB a w sp xp F L) (hb : But T w w') (hT : ∀ x, a x ≠ 0 → ¬ T x) : ShB a w' sp xp F L where
  blk := hb.heap h.blk (hT _ (by rw [h.asp]; omega))
  there := row_but h.there hb (fun k hk => hT k (by rw [h.atv k hk]; omega))
  wait := row_but h.wait hb (fun k hk => hT k (by rw [h.awv k hk]; omega))
  each := fun i v l hv hl => (h.each i v l hv hl).but hb (fun x hx => hT x (by omega))
  had := row_but h.had hb (fun k hk => hT k (by rw [h.ahv k hk]; omega))
  marks := row_but h.marks hb (fun k hk => hT k (by rw [h.amv k hk]; omega))
  asp := h.asp
  atv := h.atv
  awv := h.awv
  ahv := h.ahv
  amv := h.amv
  lt := fun x hx => Nat.lt_of_lt_of_le (h.lt x hx) hb.size
theorem ShB.below (h : ShB a w sp xp F L) (hb : Below w.heap.size w w') : ShB a w' sp xp F L := h.but (T := fun _ => False) (.of_below hb) (fun _ _ h => h)
theorem ShB.new0 (h : ShB a w sp xp F L) {x : Nat} (hx : w.heap.size ≤ x) : a x = 0 := by
  rcases Nat.eq_zero_or_pos (a x) with e | e
  · exact e
  · have := h.lt x (by omega); omega
/-- Only the shop's own block was written. -/
theorem ShB.cells (h : ShB a w sp xp F L) (hb : But (fun x => x = sp) w w') {F' : ShF} {L' : ShL} (hblk : w'.heap[sp]? = some (.cells (shcells xp F' L') 57 (0, 0))) (e1 : F'.there = F.there) (e2 : F'.wait = F.wait) (e3 : F'.had = F.had) (e4 : F'.marks = F.marks) (l1 : L'.tv = L.tv) (l2 : L'.wv = L.wv) (l3 : L'.hv = L.hv) (l4 : L'.mv = L.mv) (l5 : L'.ws = L.ws) : ShB a w' sp xp F' L' ∧ Sto a a w w' := by
  have hT : ∀ x, a x ≠ 1 → ¬ x = sp := fun x hx e => hx (by rw [e]; exact h.asp)
  refine ⟨⟨hblk, by rw [e1, l1]; exact row_but h.there hb (fun k hk => hT k (by rw [h.atv k hk]; omega)), by rw [e2, l2, l5]; exact row_but h.wait hb (fun k hk => hT k (by rw [h.awv k hk]; omega)), fun i v l hv hl => by rw [l5] at hv; rw [e2] at hl; exact (h.each i v l hv hl).but hb (fun x hx => hT x (by omega)), by rw [e3, l3]; exact row_but h.had hb (fun k hk => hT k (by rw [h.ahv k hk]; omega)), by rw [e4, l4]; exact row_but h.marks hb (fun k hk => hT k (by rw [h.amv k hk]; omega)), h.asp, by rw [l1]; exact h.atv, by rw [l2]; exact h.awv, by rw [l3]; exact h.ahv, by rw [l4]; exact h.amv, fun x hx => Nat.lt_of_lt_of_le (h.lt x hx) hb.size⟩, ⟨hb.wide (fun x _ e => by rw [e, h.asp]; omega), fun _ _ h => h⟩⟩
/-- There: one is another one. -/
theorem ShB.setThere (h : ShB a w sp xp F L) {g cap : Nat} (hg : L.tv = .slice (some ⟨g, 0, none⟩) F.there.length cap) (i : Nat) (b : Bool) : ShB a (w.setCell ⟨g, i, none⟩ (.bool b)) sp xp { F with there := F.there.set i b } L ∧ Sto a a w (w.setCell ⟨g, i, none⟩ (.bool b)) := by
  have ag : a g = 2 := h.atv g (by rw [hg]; rfl)
  have hb : But (fun x => x = g) w (w.setCell ⟨g, i, none⟩ (.bool b)) := (But.refl (fun x => x = g) w).setCell (p := ⟨g, i, none⟩) (.inl rfl) _
  have hT : ∀ x, a x ≠ 2 → ¬ x = g := fun x hx e => hx (by rw [e]; exact ag)
  refine ⟨⟨hb.heap h.blk (hT _ (by rw [h.asp]; omega)), ?_, row_but h.wait hb (fun k hk => hT k (by rw [h.awv k hk]; omega)), fun j v l hv hl => (h.each j v l hv hl).but hb (fun x hx => hT x (by omega)), row_but h.had hb (fun k hk => hT k (by rw [h.ahv k hk]; omega)), row_but h.marks hb (fun k hk => hT k (by rw [h.amv k hk]; omega)), h.asp, h.atv, h.awv, h.ahv, h.amv, fun x hx => Nat.lt_of_lt_of_le (h.lt x hx) hb.size⟩, ⟨hb.wide (fun x _ e => by rw [e, ag]; omega), fun _ _ h => h⟩⟩
  have ho := h.there
  rw [hg] at ho ⊢
  have := (World.ownsRow.stored ho i (.bool b)).1
  simp only [List.length_set, List.map_set]
  exact this
/-- Had: one is another one. -/
theorem ShB.setHad (h : ShB a w sp xp F L) {g cap : Nat} (hg : L.hv = .slice (some ⟨g, 0, none⟩) F.had.length cap) (i : Nat) (n : Int) : ShB a (w.setCell ⟨g, i, none⟩ (.int .i64 n)) sp xp { F with had := F.had.set i n } L ∧ Sto a a w (w.setCell ⟨g, i, none⟩ (.int .i64 n)) := by
  have ag : a g = 4 := h.ahv g (by rw [hg]; rfl)
  have hb : But (fun x => x = g) w (w.setCell ⟨g, i, none⟩ (.int .i64 n)) := (But.refl (fun x => x = g) w).setCell (p := ⟨g, i, none⟩) (.inl rfl) _
  have hT : ∀ x, a x ≠ 4 → ¬ x = g := fun x hx e => hx (by rw [e]; exact ag)
  refine ⟨⟨hb.heap h.blk (hT _ (by rw [h.asp]; omega)), row_but h.there hb (fun k hk => hT k (by rw [h.atv k hk]; omega)), row_but h.wait hb (fun k hk => hT k (by rw [h.awv k hk]; omega)), fun j v l hv hl => (h.each j v l hv hl).but hb (fun x hx => hT x (by omega)), ?_, row_but h.marks hb (fun k hk => hT k (by rw [h.amv k hk]; omega)), h.asp, h.atv, h.awv, h.ahv, h.amv, fun x hx => Nat.lt_of_lt_of_le (h.lt x hx) hb.size⟩, ⟨hb.wide (fun x _ e => by rw [e, ag]; omega), fun _ _ h => h⟩⟩
  have ho := h.had
  unfold OwnN at ho ⊢
  rw [hg] at ho ⊢
  have := (World.ownsRow.stored ho i (.int .i64 n)).1
  simp only [List.length_set, List.map_set]
  exact this
/-- A mark is another one. -/
theorem ShB.setMark (h : ShB a w sp xp F L) {g cap : Nat} (hg : L.mv = .slice (some ⟨g, 0, none⟩) F.marks.length cap) {j t : Nat} {x y : Ask} (hj : F.marks[j]? = some x) (ht : t < 5) (u : Value) (hy : ∀ r, r < 5 → (acell y)[r]? = if r = t then some u else (acell x)[r]?) : ShB a (w.setCell ⟨g, j * 5 + t, none⟩ u) sp xp { F with marks := F.marks.set j y } L ∧ Sto a a w (w.setCell ⟨g, j * 5 + t, none⟩ u) := by
  have ag : a g = 5 := h.amv g (by rw [hg]; rfl)
  have hb : But (fun x => x = g) w (w.setCell ⟨g, j * 5 + t, none⟩ u) := (But.refl (fun x => x = g) w).setCell (p := ⟨g, j * 5 + t, none⟩) (.inl rfl) _
  have hT : ∀ x, a x ≠ 5 → ¬ x = g := fun x hx e => hx (by rw [e]; exact ag)
  refine ⟨⟨hb.heap h.blk (hT _ (by rw [h.asp]; omega)), row_but h.there hb (fun k hk => hT k (by rw [h.atv k hk]; omega)), row_but h.wait hb (fun k hk => hT k (by rw [h.awv k hk]; omega)), fun j v l hv hl => (h.each j v l hv hl).but hb (fun x hx => hT x (by omega)), row_but h.had hb (fun k hk => hT k (by rw [h.ahv k hk]; omega)), ?_, h.asp, h.atv, h.awv, h.ahv, h.amv, fun x hx => Nat.lt_of_lt_of_le (h.lt x hx) hb.size⟩, ⟨hb.wide (fun x _ e => by rw [e, ag]; omega), fun _ _ h => h⟩⟩
  have ho := h.marks
  rw [hg] at ho ⊢
  have := (World.ownsRow.stored ho (j * 5 + t) u).1
  rw [acells_set F.marks j t x y hj ht u hy] at this
  simp only [List.length_set]
  exact this
/-- What waits of a client is another slice. -/
theorem ShB.setWait (h : ShB a w sp xp F L) {g cap i : Nat} (hg : L.wv = .slice (some ⟨g, 0, none⟩) F.wait.length cap) (hi : i < F.wait.length) {v : Value} {l : List Int} (hv : OffN (fun x => a x = 6 + i) w v l) : ShB a (w.setCell ⟨g, i, none⟩ v) sp xp { F with wait := F.wait.set i l } { L with ws := L.ws.set i v } ∧ Sto a a w (w.setCell ⟨g, i, none⟩ v) := by
  have ag : a g = 3 := h.awv g (by rw [hg]; rfl)
  have hb : But (fun x => x = g) w (w.setCell ⟨g, i, none⟩ v) := (But.refl (fun x => x = g) w).setCell (p := ⟨g, i, none⟩) (.inl rfl) _
  have hT : ∀ x, a x ≠ 3 → ¬ x = g := fun x hx e => hx (by rw [e]; exact ag)
  have hwl : L.ws.length = F.wait.length := by have := h.wait.1; omega
  refine ⟨⟨hb.heap h.blk (hT _ (by rw [h.asp]; omega)), row_but h.there hb (fun k hk => hT k (by rw [h.atv k hk]; omega)), ?_, fun j v' l' hv' hl' => ?_, row_but h.had hb (fun k hk => hT k (by rw [h.ahv k hk]; omega)), row_but h.marks hb (fun k hk => hT k (by rw [h.amv k hk]; omega)), h.asp, h.atv, h.awv, h.ahv, h.amv, fun x hx => Nat.lt_of_lt_of_le (h.lt x hx) hb.size⟩, ⟨hb.wide (fun x _ e => by rw [e, ag]; omega), fun _ _ h => h⟩⟩
  · have ho := h.wait
    rw [hg] at ho
    have := (World.ownsRow.stored ho i v).1
    simp only [List.length_set, hg]
    exact this
  · by_cases e : j = i
    · subst e
      rw [List.getElem?_set_self (by omega)] at hv' hl'
      cases hv'; cases hl'
      exact hv.but hb (fun x hx => hT x (by omega))
    · rw [List.getElem?_set_ne (Ne.symm e)] at hv' hl'
      exact (h.each j v' l' hv' hl').but hb (fun x hx => hT x (by omega))
end
end Go.Proofs.Ytfnockbgkcgpkaa
set_option linter.all false
namespace Go.Proofs.Ytfnockbgkcgpkaa
open Go.RowKit Go.Proofs.Panes
set_option maxRecDepth 100000

section
variable {a : Nat → Nat} {w : World} {sp xp : Nat} {F : ShF} {L : ShL}
theorem ShB.mslice (h : ShB a w sp xp F L) (hne : F.marks ≠ []) : ∃ g cap, L.mv = .slice (some ⟨g, 0, none⟩) F.marks.length cap := by
  rcases h.marks.2 with ⟨_, e⟩ | ⟨g, cap, cur, e, _⟩
  · exact absurd (List.eq_nil_of_length_eq_zero e) hne
  · exact ⟨g, cap, e⟩
theorem ShB.mcell (h : ShB a w sp xp F L) {g cap : Nat} (hg : L.mv = .slice (some ⟨g, 0, none⟩) F.marks.length cap) {j : Nat} {x : Ask} (hj : F.marks[j]? = some x) (t : Nat) (ht : t < 5) : w.cell? ⟨g, j * 5 + t, none⟩ = (acell x)[t]? := by
  have ho := h.marks
  rw [hg] at ho
  have hjl := (List.getElem?_eq_some_iff.1 hj).1
  rw [World.ownsRow.cellAt ho _ (by omega), acells_at _ _ _ hj t ht]
theorem ShB.mthaw (h : ShB a w sp xp F L) {g cap : Nat} (hg : L.mv = .slice (some ⟨g, 0, none⟩) F.marks.length cap) (j : Nat) : w.frozen? ⟨g, j, none⟩ = false := by
  have ho := h.marks
  rw [hg] at ho
  exact World.ownsRow.frozenAt ho j
/-- Is a mark none that is to be fired, of this client? -/
def Past (c : Int) (y : Ask) : Prop := y.cl ≠ c ∨ y.fired = true ∨ y.gone = true

set_option maxHeartbeats 4000000 in
theorem fires_any (h : ShB a w sp xp F L) (hl : F.marks.length ≤ 1000000000) (c m at' : Int) (j : Nat) (hj : F.marks[j]? = some ⟨c, m, at', false, false⟩) (hb : ∀ (i : Nat) (y : Ask), i < j → F.marks[i]? = some y → Past c y) :
    Calls Try.prog 53 #[.pointer (some ⟨sp, 0, none⟩), .agg #[.int .i64 c, .int .i64 m]] w fun e w' => (∃ u, e = .returned u) ∧ ShB a w' sp xp { F with marks := F.marks.set j ⟨c, m, at', true, false⟩ } L ∧ Sto a a w w' := by
  have hjl := (List.getElem?_eq_some_iff.1 hj).1
  obtain ⟨g, cap, hg⟩ := h.mslice (fun e => by rw [e] at hj; simp at hj)
  obtain ⟨n, hn⟩ : ∃ n, n = F.marks.length := ⟨_, rfl⟩
  obtain ⟨w1, hw1⟩ : ∃ w1 : World, w1 = w.alloc (.cells #[.int .i64 c, .int .i64 m] 95) := ⟨_, rfl⟩
  have hB1 : Below w.heap.size w w1 := by rw [hw1]; exact (Below.refl _ w).alloc (Nat.le_refl _) _
  have hN1 : w1.heap[w.heap.size]? = some (.cells #[.int .i64 c, .int .i64 m] 95) := by rw [hw1]; exact new_at _ _ _ rfl
  have h1 := h.below hB1
  have hcell : ∀ (k : Nat) (y : Ask), F.marks[k]? = some y → ∀ t, t < 5 → w1.cell? ⟨g, k * 5 + t, none⟩ = (acell y)[t]? := fun k y hk t ht => h1.mcell hg hk t ht
  have c12 : w1.cell? ⟨sp, 12, none⟩ = some (.slice (some ⟨g, 0, none⟩) n cap) := by rw [hn, ← hg]; exact blk_cell h1.blk 12
  have q0 : w1.cell? ⟨w.heap.size, 0, none⟩ = some (.int .i64 c) := blk_cell hN1 0
  have q1 : w1.cell? ⟨w.heap.size, 1, none⟩ = some (.int .i64 m) := blk_cell hN1 1
  have gz : ∀ t, w1.frozen? ⟨g, t, none⟩ = false := fun t => h1.mthaw hg t
  have hE : ∀ q : Nat, ShB a ((w1.drewN q).setCell ⟨g, j * 5 + 3, none⟩ (.bool true)) sp xp { F with marks := F.marks.set j ⟨c, m, at', true, false⟩ } L ∧ Sto a a w ((w1.drewN q).setCell ⟨g, j * 5 + 3, none⟩ (.bool true)) := fun q => by
    have hb : Below w1.heap.size w1 (w1.drewN q) := below_drewN (Below.refl _ _) q
    obtain ⟨e1, e2⟩ := (h1.below hb).setMark hg hj (t := 3) (by omega) (.bool true) (y := ⟨c, m, at', true, false⟩) (fun r hr => by
      have : r = 0 ∨ r = 1 ∨ r = 2 ∨ r = 3 ∨ r = 4 := by omega
      rcases this with e | e | e | e | e <;> subst e <;> simp [acell])
    exact ⟨e1, ((Sto.below hB1).trans (Sto.below hb)).trans e2⟩
  have HE := hide hE
  have HC := hide hcell
  have HJ := hide hj
  have HBB := hide hb
  have HN := hide hn
  have hjn : j < n := by omega
  have hn9 : n ≤ 1000000000 := by omega
  rw [hw1] at c12 q0 q1 gz HC HE
  clear h h1 hE hcell hj hb hN1 hB1 hg hn hw1 hjl hl
  go_enter Try.func53, Try.ntmps53
  go_wp2
  obtain ⟨w1, hw1⟩ : ∃ w1 : World, w1 = w.alloc (.cells #[.int .i64 c, .int .i64 m] 95) := ⟨_, rfl⟩
  rw [← hw1] at c12 q0 q1 gz HC HE ⊢
  clear hw1
  go_loopw [4] (fun i wr => ∃ k q : Nat, k ≤ j ∧ i = .int .i64 k ∧ wr = w1.drewN q) (fun i _ => n - (intOf i).toNat)
  case atStart => exact ⟨0, 0, Nat.zero_le _, rfl, rfl⟩
  case round =>
    obtain ⟨k, q, hk, rfl, rfl⟩ := hrel
    obtain ⟨y, hy⟩ : ∃ y, F.marks[k]? = some y := ⟨F.marks[k]'(by have := unhide HN; omega), by simp⟩
    have t0 : w1.cell? ⟨g, k * 5, none⟩ = some (.int .i64 y.cl) := (unhide HC) k y hy 0 (by omega)
    have t1 : w1.cell? ⟨g, k * 5 + 1, none⟩ = some (.int .i64 y.mark) := (unhide HC) k y hy 1 (by omega)
    have t3 : w1.cell? ⟨g, k * 5 + 3, none⟩ = some (.bool y.fired) := (unhide HC) k y hy 3 (by omega)
    have t4 : w1.cell? ⟨g, k * 5 + 4, none⟩ = some (.bool y.gone) := (unhide HC) k y hy 4 (by omega)
    have i0 : (0 : Int) ≤ (k : Int) := by omega
    have i1 : (k : Int) < (n : Int) := by omega
    by_cases hkj : k = j
    · subst hkj
      have ey : y = ⟨c, m, at', false, false⟩ := by have := unhide HJ; rw [hy] at this; simpa using this
      subst ey
      simp only at t0 t1 t3 t4
      have b1 : (c != c) = false := by simp
      have b2 : (m != m) = false := by simp
      clear hy
      go_wp2
      go_quiet (fail)
      go_wp2
      go_quiet (fail)
      go_wp2
      refine bodyPost_ret (results_none rfl _ _ _) rfl ?_
      exact ⟨⟨_, rfl⟩, (unhide HE) _⟩
    · have hp := (unhide HBB) k y (by omega) hy
      obtain ⟨yc, ym, ya, yf, yg⟩ := y
      simp only [Past] at hp
      simp only at t0 t1 t3 t4
      have hnext : ∃ b : Bool, b = true := ⟨true, rfl⟩
      clear hy hnext
      by_cases b1 : yc = c
      · have b1' : (yc != c) = false := by simp [b1]
        have hp' : yf = true ∨ yg = true := hp.resolve_left (fun h => h b1)
        clear hp
        cases yf with
        | true =>
          go_wp2
          go_quiet (fail)
          go_wp2
          go_roundw
          case rel => exact ⟨k + 1, _, by omega, by go_num, rfl⟩
          case measure => simp [intOf]; omega
        | false =>
          have hyg : yg = true := by simpa using hp'
          subst hyg
          go_wp2
          go_quiet (fail)
          go_wp2
          go_roundw
          case rel => exact ⟨k + 1, _, by omega, by go_num, rfl⟩
          case measure => simp [intOf]; omega
      · have b1' : (yc != c) = true := by simp [b1]
        clear hp
        go_wp2
        go_quiet (fail)
        go_wp2
        go_roundw
        case rel => exact ⟨k + 1, _, by omega, by go_num, rfl⟩
        case measure => simp [intOf]; omega
end
end Go.Proofs.Ytfnockbgkcgpkaa
set_option linter.all false
namespace Go.Proofs.Ytfnockbgkcgpkaa
open Go.RowKit Go.Proofs.Panes
set_option maxRecDepth 100000

/-- What waits of a client costs. -/
def costsK : Option Cli → List Int
  | none => []
  | some k => k.q.map costOf
theorem cntK_nat (q : Int) (k : Option Cli) : ∃ n : Nat, cntK q k = n ∧ n ≤ (costsK k).length ∧ costsK (admK q k) = (costsK k).drop n := by
  cases k with
  | none => exact ⟨0, rfl, Nat.le_refl _, rfl⟩
  | some k =>
    refine ⟨(admitC k q).1.length, rfl, ?_, ?_⟩
    · simp only [admitC, List.length_take, costsK, List.length_map]; omega
    · have hle := takeN_le k.q (k.cr + q)
      have : (admitC k q).1.length = (takeN (k.cr + q) k.q).1 := by simp only [admitC, List.length_take]; omega
      rw [this]
      show (k.q.drop _).map costOf = (k.q.map costOf).drop _
      rw [List.map_drop]
def cntN (q : Int) (k : Option Cli) : Nat := (cntK q k).toNat
theorem cntN_eq (q : Int) (k : Option Cli) : cntK q k = (cntN q k : Int) ∧ cntN q k ≤ (costsK k).length ∧ costsK (admK q k) = (costsK k).drop (cntN q k) := by
  obtain ⟨n, h1, h2, h3⟩ := cntK_nat q k
  have : cntN q k = n := by unfold cntN; rw [h1]; exact Int.toNat_natCast n
  rw [this]; exact ⟨h1, h2, h3⟩
/-- What was admitted costs. -/
def admCost (q : Int) (k : Option Cli) : Int := ((costsK k).take (cntN q k)).sum
/-- What waits when the first i have been looked at. -/
def waitI (q : Int) (ks : List (Option Cli)) (i : Nat) : List (List Int) := (ks.take i).map (fun k => costsK (admK q k)) ++ (ks.drop i).map costsK
def hadI (q : Int) (ks : List (Option Cli)) (had : List Int) (i : Nat) : List Int := had.mapIdx fun j h => if j < i then h + admCost q (ks.getD j none) else h
theorem waitI_len (q : Int) (ks : List (Option Cli)) (i : Nat) : (waitI q ks i).length = ks.length := by unfold waitI; simp; omega
theorem waitI_at {q : Int} {ks : List (Option Cli)} {i : Nat} {k : Option Cli} (hk : ks[i]? = some k) : (waitI q ks i)[i]? = some (costsK k) := by
  have hl := (List.getElem?_eq_some_iff.1 hk).1
  unfold waitI
  rw [List.getElem?_append_right (by simp; omega)]
  simp [Nat.min_eq_left (Nat.le_of_lt hl), hk]
theorem waitI_succ {q : Int} {ks : List (Option Cli)} {i : Nat} {k : Option Cli} (hk : ks[i]? = some k) : waitI q ks (i + 1) = (waitI q ks i).set i (costsK (admK q k)) := by
  have hl := (List.getElem?_eq_some_iff.1 hk).1
  have hd : ks.drop i = k :: ks.drop (i + 1) := by
    rw [← List.getElem_cons_drop (h := hl)]
    congr 1
    exact (List.getElem?_eq_some_iff.1 hk).2
  unfold waitI
  rw [hd, List.take_add_one, hk, List.map_append, List.set_append_right _ _ (by simp; omega)]
  simp [Nat.min_eq_left (Nat.le_of_lt hl)]
theorem hadI_len (q : Int) (ks : List (Option Cli)) (had : List Int) (i : Nat) : (hadI q ks had i).length = had.length := by simp [hadI]
theorem hadI_zero (q : Int) (ks : List (Option Cli)) (had : List Int) : hadI q ks had 0 = had := by
  unfold hadI
  apply List.ext_getElem?
  intro j
  rw [List.getElem?_mapIdx]
  cases had[j]? <;> simp
theorem hadI_succ {q : Int} {ks : List (Option Cli)} {had : List Int} {i : Nat} {k : Option Cli} {h : Int} (hk : ks[i]? = some k) (hh : had[i]? = some h) : hadI q ks had (i + 1) = (hadI q ks had i).set i (h + admCost q k) := by
  have hl := (List.getElem?_eq_some_iff.1 hh).1
  apply List.ext_getElem?
  intro j
  rw [List.getElem?_set]
  unfold hadI
  rw [List.getElem?_mapIdx, List.getElem?_mapIdx]
  by_cases e : i = j
  · subst e
    rw [if_pos rfl, if_pos (by simpa using hl), hh]
    simp [List.getD_eq_getElem?_getD, hk]
  · rw [if_neg e]
    cases had[j]? with
    | none => rfl
    | some x =>
      simp only [Option.map_some]
      congr 1
      by_cases hj : j < i
      · rw [if_pos hj, if_pos (by omega)]
      · rw [if_neg hj, if_neg (by omega)]
theorem hadI_at {q : Int} {ks : List (Option Cli)} {had : List Int} {i : Nat} {h : Int} (hh : had[i]? = some h) : (hadI q ks had i)[i]? = some h := by
  unfold hadI
  rw [List.getElem?_mapIdx, hh]
  simp
theorem sum_take_at (l : List Int) (k : Nat) (x : Int) (h : l[k]? = some x) : (l.take (k + 1)).sum = (l.take k).sum + x := by
  rw [List.take_add_one, h]; simp
/-- A mark is fired: the first of its client that was not yet. -/
def fire1 : List Ask → Int × Int → Option (List Ask)
  | [], _ => none
  | y :: l, m => if y.cl ≠ m.1 ∨ y.fired = true ∨ y.gone = true then (fire1 l m).map (y :: ·) else if y.mark = m.2 then some ({ y with fired := true } :: l) else none
def fireL : List Ask → List (Int × Int) → Option (List Ask)
  | l, [] => some l
  | l, m :: ms => (fire1 l m).bind fun l' => fireL l' ms
theorem fire1_some : ∀ (l : List Ask) (m : Int × Int) (l' : List Ask), fire1 l m = some l' → ∃ (j : Nat) (at' : Int), l[j]? = some ⟨m.1, m.2, at', false, false⟩ ∧ (∀ (i : Nat) (y : Ask), i < j → l[i]? = some y → Past m.1 y) ∧ l' = l.set j ⟨m.1, m.2, at', true, false⟩
  | [], m, l', h => by simp [fire1] at h
  | y :: l, m, l', h => by
    unfold fire1 at h
    split at h
    · rename_i hp
      simp only [Option.map_eq_some_iff] at h
      obtain ⟨l2, h2, rfl⟩ := h
      obtain ⟨j, at', h3, h4, rfl⟩ := fire1_some l m l2 h2
      refine ⟨j + 1, at', by simpa using h3, fun i z hi hz => ?_, by simp⟩
      cases i with
      | zero => simp at hz; subst hz; exact hp
      | succ i => exact h4 i z (by omega) (by simpa using hz)
    · rename_i hp
      split at h
      · rename_i hm
        simp only [Option.some.injEq] at h
        subst h
        simp only [not_or, Decidable.not_not, Bool.not_eq_true] at hp
        obtain ⟨p1, p2, p3⟩ := hp
        obtain ⟨c, mk, at', fi, go⟩ := y
        simp only at p1 p2 p3 hm
        subst p1 p2 p3 hm
        exact ⟨0, at', by simp, fun i z hi => by omega, by simp⟩
      · cases h
theorem fire1_len {l l' : List Ask} {m : Int × Int} (h : fire1 l m = some l') : l'.length = l.length := by
  obtain ⟨j, at', _, _, rfl⟩ := fire1_some l m l' h
  simp
theorem fireL_snoc : ∀ (ms : List (Int × Int)) (l : List Ask) (m : Int × Int), fireL l (ms ++ [m]) = (fireL l ms).bind fun l' => fire1 l' m
  | [], l, m => by
    show (fire1 l m).bind (fun l' => some l') = (some l).bind fun l' => fire1 l' m
    cases h : fire1 l m <;> simp [h]
  | x :: ms, l, m => by
    show (fire1 l x).bind (fun l' => fireL l' (ms ++ [m])) = ((fire1 l x).bind fun l' => fireL l' ms).bind fun l' => fire1 l' m
    cases fire1 l x with
    | none => rfl
    | some l2 => exact fireL_snoc ms l2 m
theorem fireL_take {ms : List (Int × Int)} {l l' : List Ask} (h : fireL l ms = some l') : ∀ k, k ≤ ms.length → ∃ lk, fireL l (ms.take k) = some lk ∧ ∀ m, ms[k]? = some m → ∃ l2, fire1 lk m = some l2 ∧ fireL l (ms.take (k + 1)) = some l2 := by
  have key : ∀ k, k ≤ ms.length → ∃ lk, fireL l (ms.take k) = some lk := by
    intro k hk
    cases hx : fireL l (ms.take k) with
    | some lk => exact ⟨lk, rfl⟩
    | none =>
      exfalso
      have : ∀ n, k ≤ n → n ≤ ms.length → fireL l (ms.take n) = none := by
        intro n hn
        induction n with
        | zero => intro _; have : k = 0 := by omega
                  subst this; exact hx
        | succ n ih =>
          intro hl
          by_cases e : k = n + 1
          · subst e; exact hx
          · rw [List.take_add_one, List.getElem?_eq_getElem (by omega)]
            show fireL l (ms.take n ++ [ms[n]]) = none
            rw [fireL_snoc, ih (by omega) (by omega)]; rfl
      have := this ms.length hk (Nat.le_refl _)
      rw [List.take_of_length_le (Nat.le_refl _), h] at this
      cases this
  intro k hk
  obtain ⟨lk, h1⟩ := key k hk
  refine ⟨lk, h1, fun m hm => ?_⟩
  have hkl := (List.getElem?_eq_some_iff.1 hm).1
  obtain ⟨l2, h2⟩ := key (k + 1) hkl
  have h3 := h2
  rw [List.take_add_one, hm] at h3
  have h4 : fireL l (ms.take k ++ [m]) = some l2 := h3
  rw [fireL_snoc, h1] at h4
  exact ⟨l2, h4, h2⟩
/-- In 'tick', behind Tick. -/
structure TS (a o o' : Nat → Nat) (w wr : World) (sp xp kb sb fb : Nat) (cps : List (Option Nat)) (s : Scrn) (F : ShF) (L : ShL) (rb : Nat) (rep : Array Value) (av fv : Value) (cn : List Int) (fm : List (Int × Int)) : Prop where
  sh : ShB a wr sp xp F L
  sc : ScrM o' wr xp kb sb fb cps s
  ap : ∀ x, a x ≠ 0 → o' x = 0
  rep : wr.heap[rb]? = some (.cells rep 55 (0, 0))
  rz : a rb = 0
  ad : OwnN wr 0 av cn
  az : ∀ k, av.ownBlock = some k → a k = 0
  fi : Own2 wr 0 95 fv (fm.map k2)
  fz : ∀ k, fv.ownBlock = some k → a k = 0
  bt : But (fun x => a x ≠ 0 ∨ o x ≠ 0) w wr
  ex : ∀ x, x < w.heap.size → o' x ≠ 0 → o x ≠ 0
/-- The same, ahead of its variable. -/
structure TS0 (a o o' : Nat → Nat) (w wr : World) (sp xp kb sb fb : Nat) (cps : List (Option Nat)) (s : Scrn) (F : ShF) (L : ShL) (av fv : Value) (cn : List Int) (fm : List (Int × Int)) : Prop where
  sh : ShB a wr sp xp F L
  sc : ScrM o' wr xp kb sb fb cps s
  ap : ∀ x, a x ≠ 0 → o' x = 0
  ad : OwnN wr 0 av cn
  az : ∀ k, av.ownBlock = some k → a k = 0
  fi : Own2 wr 0 95 fv (fm.map k2)
  fz : ∀ k, fv.ownBlock = some k → a k = 0
  bt : But (fun x => a x ≠ 0 ∨ o x ≠ 0) w wr
  ex : ∀ x, x < w.heap.size → o' x ≠ 0 → o x ≠ 0
section
variable {a o o' : Nat → Nat} {w wr : World} {sp xp kb sb fb : Nat} {cps : List (Option Nat)} {s : Scrn} {F F2 : ShF} {L L2 : ShL} {rb : Nat} {rep : Array Value} {av fv : Value} {cn : List Int} {fm : List (Int × Int)}
theorem TS0.step (h : TS0 a o o' w wr sp xp kb sb fb cps s F L av fv cn fm) {w2 : World} (hB : ShB a w2 sp xp F2 L2) (hS : Sto a a wr w2) : TS0 a o o' w w2 sp xp kb sb fb cps s F2 L2 av fv cn fm :=
  ⟨hB, h.sc.but hS.but (fun x hx e => hx (h.ap x e)), h.ap, row_but h.ad hS.but (fun k hk e => e (h.az k hk)), h.az, row_but h.fi hS.but (fun k hk e => e (h.fz k hk)), h.fz, h.bt.trans (hS.but.wide (fun x _ e => .inl e)), h.ex⟩
theorem TS0.alloc (h : TS0 a o o' w wr sp xp kb sb fb cps s F L av fv cn fm) (rep : Array Value) (hrb : rb = wr.heap.size) : TS a o o' w (wr.alloc (.cells rep 55)) sp xp kb sb fb cps s F L rb rep av fv cn fm := by
  subst hrb
  have hb : Below wr.heap.size wr (wr.alloc (.cells rep 55)) := (Below.refl _ wr).alloc (Nat.le_refl _) _
  exact ⟨h.sh.below hb, h.sc.below hb, h.ap, new_at _ _ _ rfl, h.sh.new0 (Nat.le_refl _), row_but (S := fun _ => False) h.ad (.of_below hb) (fun _ _ h => h), h.az, row_but (S := fun _ => False) h.fi (.of_below hb) (fun _ _ h => h), h.fz, h.bt.trans (.of_below hb), h.ex⟩
theorem TS.step (h : TS a o o' w wr sp xp kb sb fb cps s F L rb rep av fv cn fm) {w2 : World} (hB : ShB a w2 sp xp F2 L2) (hS : Sto a a wr w2) : TS a o o' w w2 sp xp kb sb fb cps s F2 L2 rb rep av fv cn fm :=
  ⟨hB, h.sc.but hS.but (fun x hx e => hx (h.ap x e)), h.ap, hS.but.heap h.rep (fun e => e h.rz), h.rz, row_but h.ad hS.but (fun k hk e => e (h.az k hk)), h.az, row_but h.fi hS.but (fun k hk e => e (h.fz k hk)), h.fz, h.bt.trans (hS.but.wide (fun x _ e => .inl e)), h.ex⟩
theorem TS.below (h : TS a o o' w wr sp xp kb sb fb cps s F L rb rep av fv cn fm) {w2 : World} (hb : Below wr.heap.size wr w2) : TS a o o' w w2 sp xp kb sb fb cps s F L rb rep av fv cn fm := h.step (h.sh.below hb) (Sto.below hb)
theorem TS.drewN (h : TS a o o' w wr sp xp kb sb fb cps s F L rb rep av fv cn fm) (n : Nat) : TS a o o' w (wr.drewN n) sp xp kb sb fb cps s F L rb rep av fv cn fm := h.below (below_drewN (Below.refl _ _) n)
theorem TS.drew (h : TS a o o' w wr sp xp kb sb fb cps s F L rb rep av fv cn fm) : TS a o o' w wr.drew sp xp kb sb fb cps s F L rb rep av fv cn fm := h.below ((Below.refl _ _).drew)
end
end Go.Proofs.Ytfnockbgkcgpkaa
set_option linter.all false
namespace Go.Proofs.Ytfnockbgkcgpkaa
open Go.RowKit Go.Proofs.Panes
set_option maxRecDepth 100000

/-- What 'tick' must know. -/
structure TickIn (s : Scrn) (F : ShF) (b : Nat) (marks' : List Ask) : Prop where
  fine : TickFine s
  bb : b ≤ 1000
  c : F.c = s.c
  cl : s.c.clients = (s.ks.length : Int)
  n4 : s.ks.length ≤ 4
  wait : F.wait = s.ks.map costsK
  ticks : F.ticks = s.t
  hl : F.had.length = s.ks.length
  hb : ∀ x ∈ F.had, 0 ≤ x ∧ x ≤ 1000000000000000
  cb : ∀ k ∈ s.ks, (costsK k).length ≤ 1000 ∧ ∀ x ∈ costsK k, 0 ≤ x ∧ x ≤ 1000
  pos : ∀ k ∈ s.ks, costsK k ≠ [] → 1 ≤ cntN s.c.quantum k
  paid : 0 ≤ F.paid ∧ F.paid ≤ 1000000000000000
  flips : 0 ≤ F.flips ∧ F.flips ≤ 1000000000000000
  ml : F.marks.length ≤ 1000000000
  fire : fireL F.marks (flipF s.f).2.2 = some marks'
  fml : (flipF s.f).2.2.length ≤ 1000000000
  fl : ((flipF s.f).2.1 = 0 ∧ (flipF s.f).2.2 = []) ∨ (flipF s.f).2.1 = 1
  pn : tickP s b ≤ b
/-- The fields behind a tick. -/
def tickF (s : Scrn) (F : ShF) (b : Nat) (marks' : List Ask) : ShF := { F with wait := waitI s.c.quantum s.ks s.ks.length, had := hadI s.c.quantum s.ks F.had s.ks.length, marks := marks', paid := if b = 0 then F.paid else F.paid + 1, ticks := s.t + 1, flips := F.flips + (flipF s.f).2.1, rt := s.t + 1, rf := (flipF s.f).2.1, rp := (tickP s b : Int) }
section
variable {a o : Nat → Nat} {w : World} {sp xp kb sb fb : Nat} {cps : List (Option Nat)} {s : Scrn} {F : ShF} {L : ShL} {b : Nat} {marks' : List Ask}
/-- What 'tick' leaves. -/
def KtPost (a o : Nat → Nat) (w : World) (sp xp kb sb fb : Nat) (s : Scrn) (F : ShF) (w' : World) : Prop := ∃ (o' : Nat → Nat) (cps' : List (Option Nat)) (L' : ShL), ShB a w' sp xp F L' ∧ ScrM o' w' xp kb sb fb cps' s ∧ (∀ x, a x ≠ 0 → o' x = 0) ∧ But (fun x => a x ≠ 0 ∨ o x ≠ 0) w w' ∧ ∀ x, x < w.heap.size → o' x ≠ 0 → o x ≠ 0
theorem ts_start (hB : ShB a w sp xp F L) (hap : ∀ x, a x ≠ 0 → o x = 0) {e : Ending} {w1 : World} (hT : TickPost o w xp kb sb fb cps s b e w1) : ∃ (o' : Nat → Nat) (av fv : Value), e = .returned (.tuple #[.agg #[.int .i64 (s.t + 1), .int .i64 (flipF s.f).2.1, .int .i64 (tickP s b : Int), av, fv], .int .i64 0]) ∧ TS0 a o o' w w1 sp xp kb sb fb cps (tickS s b) F L av fv (tickC s) (flipF s.f).2.2 := by
  obtain ⟨o', av, fv, h1, h2, h3, h4, h5, h6, h7⟩ := hT
  have hn : ∀ x, a x ≠ 0 → ¬ (o x ≠ 0 ∧ o x ≠ 4) := fun x hx e => e.1 (hap x hx)
  have hB1 := hB.but h3.but hn
  have h0 : ∀ k, (w.heap.size ≤ k ∨ o k ≠ 0) → a k = 0 := fun k hk => by
    rcases hk with c | c
    · exact hB.new0 c
    · rcases Nat.eq_zero_or_pos (a k) with e | e
      · exact e
      · exact absurd (hap k (by omega)) c
  refine ⟨o', av, fv, h1, hB1, h2, fun x hx => ?_, h4, fun k hk => h0 k (h5 k hk).2, h6, fun k hk => h0 k (h7 k hk).2, h3.but.wide (fun x _ e => .inr e.1), h3.ext⟩
  rcases Nat.eq_zero_or_pos (o' x) with e | e
  · exact e
  · exact absurd (hap x hx) (h3.ext x (hB.lt x hx) (by omega))
/-- The fields when the report has been taken over. -/
def tf1 (s : Scrn) (F : ShF) (b : Nat) : ShF := { F with paid := if b = 0 then F.paid else F.paid + 1, ticks := s.t + 1, rt := s.t + 1, rf := (flipF s.f).2.1, rp := (tickP s b : Int) }
def tl1 (L : ShL) (av fv : Value) : ShL := { L with av := av, fv := fv }
theorem ts_report {o' : Nat → Nat} {w1 : World} {av fv : Value} {cn : List Int} {fm : List (Int × Int)} {s' : Scrn} (h : TS0 a o o' w w1 sp xp kb sb fb cps s' F L av fv cn fm) (hb : b = 0) :
    TS0 a o o' w ((((((w1.setCell ⟨sp, 14, none⟩ (.int .i64 (s.t + 1))).setCell ⟨sp, 17, none⟩ (.int .i64 (s.t + 1))).setCell ⟨sp, 18, none⟩ (.int .i64 (flipF s.f).2.1)).setCell ⟨sp, 19, none⟩ (.int .i64 (tickP s b : Int))).setCell ⟨sp, 20, none⟩ av).setCell ⟨sp, 21, none⟩ fv) sp xp kb sb fb cps s' (tf1 s F b) (tl1 L av fv) av fv cn fm := by
  have hs : ∀ (i : Nat) (u : Value) {v : World}, But (fun x => x = sp) w1 v → But (fun x => x = sp) w1 (v.setCell ⟨sp, i, none⟩ u) := fun i u v hv => hv.setCell (p := ⟨sp, i, none⟩) (.inl rfl) _
  have hbt := hs 21 fv (hs 20 av (hs 19 (.int .i64 (tickP s b : Int)) (hs 18 (.int .i64 (flipF s.f).2.1) (hs 17 (.int .i64 (s.t + 1)) (hs 14 (.int .i64 (s.t + 1)) (But.refl (fun x => x = sp) w1))))))
  have hblk := blk_set (i := 21) (blk_set (i := 20) (blk_set (i := 19) (blk_set (i := 18) (blk_set (i := 17) (blk_set (i := 14) h.sh.blk (.int .i64 (s.t + 1))) (.int .i64 (s.t + 1))) (.int .i64 (flipF s.f).2.1)) (.int .i64 (tickP s b : Int))) av) fv
  obtain ⟨e1, e2⟩ := h.sh.cells (F' := tf1 s F b) (L' := tl1 L av fv) hbt (by rw [hblk]; simp [shcells, tf1, tl1, hb]) rfl rfl rfl rfl rfl rfl rfl rfl rfl
  exact h.step e1 e2
theorem ts_report' {o' : Nat → Nat} {w1 : World} {av fv : Value} {cn : List Int} {fm : List (Int × Int)} {s' : Scrn} (h : TS0 a o o' w w1 sp xp kb sb fb cps s' F L av fv cn fm) (hb : ¬ b = 0) :
    TS0 a o o' w (((((((w1.setCell ⟨sp, 14, none⟩ (.int .i64 (s.t + 1))).setCell ⟨sp, 13, none⟩ (.int .i64 (F.paid + 1))).setCell ⟨sp, 17, none⟩ (.int .i64 (s.t + 1))).setCell ⟨sp, 18, none⟩ (.int .i64 (flipF s.f).2.1)).setCell ⟨sp, 19, none⟩ (.int .i64 (tickP s b : Int))).setCell ⟨sp, 20, none⟩ av).setCell ⟨sp, 21, none⟩ fv) sp xp kb sb fb cps s' (tf1 s F b) (tl1 L av fv) av fv cn fm := by
  have hs : ∀ (i : Nat) (u : Value) {v : World}, But (fun x => x = sp) w1 v → But (fun x => x = sp) w1 (v.setCell ⟨sp, i, none⟩ u) := fun i u v hv => hv.setCell (p := ⟨sp, i, none⟩) (.inl rfl) _
  have hbt := hs 21 fv (hs 20 av (hs 19 (.int .i64 (tickP s b : Int)) (hs 18 (.int .i64 (flipF s.f).2.1) (hs 17 (.int .i64 (s.t + 1)) (hs 13 (.int .i64 (F.paid + 1)) (hs 14 (.int .i64 (s.t + 1)) (But.refl (fun x => x = sp) w1)))))))
  have hblk := blk_set (i := 21) (blk_set (i := 20) (blk_set (i := 19) (blk_set (i := 18) (blk_set (i := 17) (blk_set (i := 13) (blk_set (i := 14) h.sh.blk (.int .i64 (s.t + 1))) (.int .i64 (F.paid + 1))) (.int .i64 (s.t + 1))) (.int .i64 (flipF s.f).2.1)) (.int .i64 (tickP s b : Int))) av) fv
  obtain ⟨e1, e2⟩ := h.sh.cells (F' := tf1 s F b) (L' := tl1 L av fv) hbt (by rw [hblk]; simp [shcells, tf1, tl1, hb]) rfl rfl rfl rfl rfl rfl rfl rfl rfl
  exact h.step e1 e2
end
end Go.Proofs.Ytfnockbgkcgpkaa
set_option linter.all false
namespace Go.Proofs.Ytfnockbgkcgpkaa
open Go.RowKit Go.Proofs.Panes
set_option maxRecDepth 100000
section
variable {a o o' : Nat → Nat} {w w1 wr : World} {sp xp kb sb fb : Nat} {cps cps' : List (Option Nat)} {s s' : Scrn} {F F2 : ShF} {L L2 : ShL}
/-- The screen has taken a step: the shop stands. -/
theorem kt_start (hB : ShB a w sp xp F L) (hap : ∀ x, a x ≠ 0 → o x = 0) (hM : ScrM o' w1 xp kb sb fb cps' s') (hS : Stp o o' w w1) : KtPost a o w sp xp kb sb fb s' F w1 := by
  have hn : ∀ x, a x ≠ 0 → ¬ (o x ≠ 0 ∧ o x ≠ 4) := fun x hx e => e.1 (hap x hx)
  refine ⟨o', cps', L, hB.but hS.but hn, hM, fun x hx => ?_, hS.but.wide (fun x _ e => .inr e.1), hS.ext⟩
  rcases Nat.eq_zero_or_pos (o' x) with e | e
  · exact e
  · exact absurd (hap x hx) (hS.ext x (hB.lt x hx) (by omega))
theorem kt_below (hB : ShB a w sp xp F L) (hap : ∀ x, a x ≠ 0 → o x = 0) (hM : ScrM o w xp kb sb fb cps s) (hb : Below w.heap.size w w1) : KtPost a o w sp xp kb sb fb s F w1 :=
  ⟨o, cps, L, hB.below hb, hM.below hb, hap, .of_below hb, fun _ _ h => h⟩
theorem KtPost.below (h : KtPost a o w sp xp kb sb fb s F wr) (hb : Below wr.heap.size wr w1) : KtPost a o w sp xp kb sb fb s F w1 := by
  obtain ⟨o', cps', L', h1, h2, h3, h4, h5⟩ := h
  exact ⟨o', cps', L', h1.below hb, h2.below hb, h3, h4.trans (.of_below hb), h5⟩
theorem kt_sto {L' : ShL} (h2 : ScrM o' wr xp kb sb fb cps' s) (h3 : ∀ x, a x ≠ 0 → o' x = 0) (h4 : But (fun x => a x ≠ 0 ∨ o x ≠ 0) w wr) (h5 : ∀ x, x < w.heap.size → o' x ≠ 0 → o x ≠ 0) (hB : ShB a w1 sp xp F2 L2) (hS : Sto a a wr w1) : KtPost a o w sp xp kb sb fb s F2 w1 :=
  ⟨o', cps', L2, hB, h2.but hS.but (fun x hx e => hx (h3 x e)), h3, h4.trans (hS.but.wide (fun x _ e => .inl e)), h5⟩
/-- Its screen, its clients. -/
theorem KtPost.base (h : KtPost a o w sp xp kb sb fb s F wr) : wr.cell? ⟨sp, 0, none⟩ = some (.pointer (some ⟨xp, 0, none⟩)) ∧ wr.cell? ⟨sp, 3, none⟩ = some (.int .i64 F.c.clients) := by
  obtain ⟨o', cps', L', h1, -⟩ := h
  exact ⟨blk_cell h1.blk 0, blk_cell h1.blk 3⟩
theorem KtPost.thereAt (h : KtPost a o w sp xp kb sb fb s F wr) (hp : 0 < F.there.length) : ∃ g cap, wr.cell? ⟨sp, 9, none⟩ = some (.slice (some ⟨g, 0, none⟩) F.there.length cap) ∧ (∀ (i : Nat) (t : Bool), F.there[i]? = some t → wr.cell? ⟨g, i, none⟩ = some (.bool t)) ∧ (∀ x, wr.frozen? ⟨g, x, none⟩ = false) ∧ ∀ (i : Nat) (b : Bool), KtPost a o w sp xp kb sb fb s { F with there := F.there.set i b } (wr.setCell ⟨g, i, none⟩ (.bool b)) := by
  obtain ⟨o', cps', L', h1, h2, h3, h4, h5⟩ := h
  obtain ⟨g, cap, hg⟩ := row_some h1.there hp
  have ho := h1.there
  rw [hg] at ho
  refine ⟨g, cap, by rw [← hg]; exact blk_cell h1.blk 9, fun i t ht => ?_, fun x => World.ownsRow.frozenAt ho x, fun i b => ?_⟩
  · have hl := (List.getElem?_eq_some_iff.1 ht).1
    rw [World.ownsRow.cellAt ho _ (by omega), List.getElem?_map, ht]; rfl
  · obtain ⟨e1, e2⟩ := h1.setThere hg i b
    exact kt_sto (L' := L') h2 h3 h4 h5 e1 e2
/-- One is no longer there, and nothing waits. -/
theorem KtPost.leave (h : KtPost a o w sp xp kb sb fb s F wr) {i : Nat} {t : Bool} (ht : F.there[i]? = some t) (hw : i < F.wait.length) : ∃ g gc g2 gc2 v, (wr.cell? ⟨sp, 9, none⟩ = some (.slice (some ⟨g, 0, none⟩) F.there.length gc) ∧ wr.cell? ⟨g, i, none⟩ = some (.bool t) ∧ (∀ x, wr.frozen? ⟨g, x, none⟩ = false) ∧ wr.cell? ⟨sp, 10, none⟩ = some (.slice (some ⟨g2, 0, none⟩) F.wait.length gc2) ∧ wr.cell? ⟨g2, i, none⟩ = some v ∧ (∀ x, wr.frozen? ⟨g2, x, none⟩ = false) ∧ g ≠ sp ∧ g2 ≠ g) ∧ KtPost a o w sp xp kb sb fb s { F with there := F.there.set i false, wait := F.wait.set i [] } ((wr.setCell ⟨g, i, none⟩ (.bool false)).setCell ⟨g2, i, none⟩ (.slice none 0 0)) := by
  obtain ⟨o', cps', L', h1, h2, h3, h4, h5⟩ := h
  have hl := (List.getElem?_eq_some_iff.1 ht).1
  obtain ⟨g, gc, hg⟩ := row_some h1.there (by omega)
  obtain ⟨g2, gc2, hg2⟩ := row_some h1.wait (by omega)
  have ho := h1.there
  rw [hg] at ho
  have ho2 := h1.wait
  rw [hg2] at ho2
  have hwl : L'.ws.length = F.wait.length := by have := h1.wait.1; omega
  obtain ⟨v, hv⟩ : ∃ v, L'.ws[i]? = some v := ⟨L'.ws[i]'(by omega), by simp⟩
  have ag : a g = 2 := h1.atv g (by rw [hg]; rfl)
  have ag2 : a g2 = 3 := h1.awv g2 (by rw [hg2]; rfl)
  have asp := h1.asp
  refine ⟨g, gc, g2, gc2, v, ⟨by rw [← hg]; exact blk_cell h1.blk 9, ?_, fun x => World.ownsRow.frozenAt ho x, by rw [← hg2]; exact blk_cell h1.blk 10, ?_, fun x => World.ownsRow.frozenAt ho2 x, fun e => by rw [e] at ag; omega, fun e => by rw [e] at ag2; omega⟩, ?_⟩
  · rw [World.ownsRow.cellAt ho _ (by omega), List.getElem?_map, ht]; rfl
  · rw [World.ownsRow.cellAt ho2 _ (by omega), hv]
  · obtain ⟨e1, e2⟩ := h1.setThere hg i false
    obtain ⟨e3, e4⟩ := e1.setWait (i := i) (v := .slice none 0 0) (l := []) hg2 hw (.inl ⟨rfl, rfl⟩)
    exact kt_sto (L' := L') h2 h3 h4 h5 e3 (e2.trans e4)
theorem KtPost.marksLen (h : KtPost a o w sp xp kb sb fb s F wr) : ∃ ao cap, wr.cell? ⟨sp, 12, none⟩ = some (.slice ao F.marks.length cap) := by
  obtain ⟨o', cps', L', h1, -⟩ := h
  obtain ⟨ao, cap, hg⟩ := row_slice h1.marks
  exact ⟨ao, cap, by rw [← hg]; exact blk_cell h1.blk 12⟩
theorem KtPost.markAt (h : KtPost a o w sp xp kb sb fb s F wr) {j : Nat} {y : Ask} (hj : F.marks[j]? = some y) : ∃ g cap, (wr.cell? ⟨sp, 12, none⟩ = some (.slice (some ⟨g, 0, none⟩) F.marks.length cap) ∧ (∀ t, t < 5 → wr.cell? ⟨g, j * 5 + t, none⟩ = (acell y)[t]?) ∧ (∀ x, wr.frozen? ⟨g, x, none⟩ = false)) ∧ ∀ (q : Nat) (b : Bool), KtPost a o w sp xp kb sb fb s { F with marks := F.marks.set j { y with gone := b } } ((wr.drewN q).setCell ⟨g, j * 5 + 4, none⟩ (.bool b)) := by
  obtain ⟨o', cps', L', h1, h2, h3, h4, h5⟩ := h
  obtain ⟨g, cap, hg⟩ := h1.mslice (fun e => by rw [e] at hj; simp at hj)
  refine ⟨g, cap, ⟨by rw [← hg]; exact blk_cell h1.blk 12, fun t ht => h1.mcell hg hj t ht, fun x => h1.mthaw hg x⟩, fun q b => ?_⟩
  have hb : Below wr.heap.size wr (wr.drewN q) := below_drewN (Below.refl _ _) q
  obtain ⟨e1, e2⟩ := (h1.below hb).setMark hg hj (t := 4) (by omega) (.bool b) (y := { y with gone := b }) (fun r hr => by
    have : r = 0 ∨ r = 1 ∨ r = 2 ∨ r = 3 ∨ r = 4 := by omega
    rcases this with e | e | e | e | e <;> subst e <;> simp [acell])
  exact kt_sto (L' := L') (h2.below hb) h3 (h4.trans (.of_below hb)) h5 e1 e2
/-- A mark of the client that leaves. -/
def gone1 (c : Int) (y : Ask) : Ask := if y.cl = c then { y with gone := y.gone || !y.fired } else y
def goneI (c : Int) (l : List Ask) (k : Nat) : List Ask := (l.take k).map (gone1 c) ++ l.drop k
theorem goneI_zero (c : Int) (l : List Ask) : goneI c l 0 = l := by simp [goneI]
theorem goneI_all (c : Int) (l : List Ask) : goneI c l l.length = l.map (gone1 c) := by simp [goneI]
theorem goneI_len (c : Int) (l : List Ask) (k : Nat) : (goneI c l k).length = l.length := by simp [goneI]; omega
theorem goneI_at {c : Int} {l : List Ask} {k : Nat} {y : Ask} (h : l[k]? = some y) : (goneI c l k)[k]? = some y := by
  have hl := (List.getElem?_eq_some_iff.1 h).1
  unfold goneI
  rw [List.getElem?_append_right (by simp; omega)]
  simp [Nat.min_eq_left (Nat.le_of_lt hl), h]
theorem goneI_succ {c : Int} {l : List Ask} {k : Nat} {y : Ask} (h : l[k]? = some y) : goneI c l (k + 1) = (goneI c l k).set k (gone1 c y) := by
  have hl := (List.getElem?_eq_some_iff.1 h).1
  have hd : l.drop k = y :: l.drop (k + 1) := by
    rw [← List.getElem_cons_drop (h := hl)]
    congr 1
    exact (List.getElem?_eq_some_iff.1 h).2
  unfold goneI
  rw [hd, List.take_add_one, h, List.map_append, List.set_append_right _ _ (by simp; omega)]
  simp [Nat.min_eq_left (Nat.le_of_lt hl)]
/-- The screen when client i has left, if it was there. -/
def leftS (s : Scrn) (i : Nat) : Scrn := if conK s.ks (i : Int) = true then discS s i else s
def leftF (F : ShF) (i : Nat) : ShF := { F with there := F.there.set i false, wait := F.wait.set i [], marks := F.marks.map (gone1 (i : Int)) }
theorem leave_call (hB : ShB a w sp xp F L) (hM : ScrM o w xp kb sb fb cps s) (hap : ∀ x, a x ≠ 0 → o x = 0) (hl : s.ks.length ≤ 4) (i : Nat) (hF : conK s.ks (i : Int) = true → DiscFine s i) :
    Calls Try.prog 29 #[.pointer (some ⟨xp, 0, none⟩), .int .i64 (i : Int)] w fun e w' => e = .returned (.int .i64 (if conK s.ks (i : Int) = true then 0 else 3)) ∧ KtPost a o w sp xp kb sb fb (leftS s i) F w' := by
  by_cases hc : conK s.ks (i : Int) = true
  · refine (Disconnect_some hM hl i hc (hF hc)).mono ?_
    rintro e w' ⟨o', cps', h1, h2, h3⟩
    rw [if_pos hc]
    unfold leftS
    rw [if_pos hc]
    exact ⟨h1, kt_start hB hap h2 h3⟩
  · refine (Disconnect_none hM hl (i : Int) (by simpa using hc)).mono ?_
    rintro e w' ⟨h1, h2⟩
    rw [if_neg hc]
    unfold leftS
    rw [if_neg hc]
    exact ⟨h1, kt_below hB hap hM h2⟩
end
end Go.Proofs.Ytfnockbgkcgpkaa
set_option linter.all false
namespace Go.Proofs.Ytfnockbgkcgpkaa
open Go.RowKit Go.Proofs.Panes
set_option maxRecDepth 100000
set_option maxHeartbeats 4000000 in
/-- What the keeper says that a transaction costs. -/
theorem kcost_any (U : Nat → Prop) (v : Value) (l : List Opn) (w : World) (hR : RdO U w v l) (hl : l.length ≤ 1000) (hs : ∀ o ∈ l, Small o) :
    Calls Try.prog 69 #[v] w fun e w' => e = .returned (.int .i64 (costOf l)) ∧ ∃ q, w' = w.drewN q := by
  obtain ⟨ao, cap, rfl, h1, h2, h3⟩ := id hR
  obtain ⟨n, hn⟩ : ∃ n, n = l.length := ⟨_, rfl⟩
  have hn9 : n ≤ 1000 := by omega
  rw [← hn]
  have HC : Hid (∀ (k : Nat) (o : Opn), l[k]? = some o → ∃ b off, ao = some ⟨b, off, none⟩ ∧ w.cell? ⟨b, off + k * 8, none⟩ = some (.int .i64 o.kind) ∧ w.cell? ⟨b, off + k * 8 + 4, none⟩ = some (.int .i64 o.w) ∧ w.cell? ⟨b, off + k * 8 + 5, none⟩ = some (.int .i64 o.h)) := fun k o ho => by
    obtain ⟨b, off, e, _, _, hc⟩ := h3 (fun e => by rw [e] at ho; simp at ho)
    obtain ⟨c0, c1, c2, c3, c4, c5, -⟩ := hc k o ho
    exact ⟨b, off, e, c0, c4, c5⟩
  have HSm := hide hs
  have HN := hide hn
  have HF : Hid (costOf l = (n : Int) + ((l.take n).map ocost).sum) := by show costOf l = _; rw [hn, List.take_of_length_le (Nat.le_refl _)]; rfl
  clear hR hs h1 h2 h3 hl hn
  go_enter Try.func69, Try.ntmps69
  go_wp2
  go_loopw [3, 4] (fun m i wr => ∃ k q : Nat, k ≤ n ∧ i = .int .i64 k ∧ m = .int .i64 ((n : Int) + ((l.take k).map ocost).sum) ∧ wr = w.drewN q) (fun _ i _ => n - (intOf i).toNat)
  case atStart => exact ⟨0, 0, Nat.zero_le _, rfl, by simp, rfl⟩
  case round =>
    obtain ⟨k, q, hk, rfl, rfl, rfl⟩ := hrel
    by_cases hlt : k < n
    · obtain ⟨o, ho⟩ : ∃ o, l[k]? = some o := ⟨l[k]'(by have := unhide HN; omega), by simp⟩
      obtain ⟨b, off, rfl, c0, c4, c5⟩ := (unhide HC) k o ho
      have hsm := (unhide HSm) o (List.mem_of_getElem? ho)
      have hob := ocost_bd hsm
      have hsb := sum_bd (l.take k) (fun x hx => (unhide HSm) x (List.mem_of_mem_take hx))
      have hst := sum_take_succ ho
      rw [List.length_take] at hsb
      obtain ⟨s, hs⟩ : ∃ s, s = ((l.take k).map ocost).sum := ⟨_, rfl⟩
      rw [← hs] at hsb hst ⊢
      have hsb2 : 0 ≤ s ∧ s ≤ 64000 := by have := unhide HN; omega
      have HST := hide hst
      have k0 : (0 : Int) ≤ (k : Int) := by omega
      have k1 : (k : Int) < (n : Int) := by omega
      clear hs hst ho hsb
      by_cases h3k : o.kind = 3
      · have hoc : ocost o = o.w * o.h := by unfold ocost; rw [if_pos h3k]
        rw [hoc] at hob
        have hm : IntKind.i64.wrap (o.w * o.h) = o.w * o.h := by rw [IntKind.wrap_i64]; omega
        have ha : IntKind.i64.wrap ((n : Int) + s + o.w * o.h) = (n : Int) + s + o.w * o.h := by rw [IntKind.wrap_i64]; omega
        have HOC := hide hoc
        rw [h3k] at c0
        clear hoc hob hsb2 hsm h3k
        obtain ⟨ow, how⟩ : ∃ ow, ow = o.w := ⟨_, rfl⟩
        obtain ⟨oh, hoh⟩ : ∃ oh, oh = o.h := ⟨_, rfl⟩
        rw [← how] at c4 hm ha HOC
        rw [← hoh] at c5 hm ha HOC
        clear how hoh
        go_wp2
        go_quiet (fail)
        go_wp2
        go_roundw
        case rel =>
          refine ⟨k + 1, _, by omega, by go_num, ?_, rfl⟩
          rw [unhide HST, unhide HOC, Int.add_assoc]
        case measure => simp [intOf]; omega
      · have hoc : ocost o = 0 := by unfold ocost; rw [if_neg h3k]
        have HOC := hide hoc
        obtain ⟨kd, hkd⟩ : ∃ kd, kd = o.kind := ⟨_, rfl⟩
        rw [← hkd] at c0 h3k
        have h3b : (kd == 3) = false := by simpa using h3k
        clear hoc hob hsb2 hsm hkd
        go_wp2
        go_roundw
        case rel =>
          refine ⟨k + 1, q, by omega, by go_num, ?_, rfl⟩
          rw [unhide HST, unhide HOC, Int.add_zero]
        case measure => simp [intOf]; omega
    · have e : k = n := by omega
      subst e
      have k1 : ¬ (k : Int) < (k : Int) := by omega
      rw [← unhide HF]
      go_wp2
      go_ret
      exact ⟨rfl, _, rfl⟩
end Go.Proofs.Ytfnockbgkcgpkaa
set_option linter.all false
namespace Go.Proofs.Ytfnockbgkcgpkaa
open Go.RowKit Go.Proofs.Panes
set_option maxRecDepth 100000
section
variable {a o : Nat → Nat} {w : World} {sp xp kb sb fb : Nat} {cps : List (Option Nat)} {s : Scrn} {F : ShF} {L : ShL}
/-- The screen, the shop, when one has come. -/
def cameS (s : Scrn) : Scrn := match firstNone s.ks with
  | some k => { s with ks := s.ks.set k (some (newC s.c)) }
  | none => s
def cameF (s : Scrn) (F : ShF) : ShF := match firstNone s.ks with
  | some k => { F with there := F.there.set k true }
  | none => F
theorem firstNone_is {α : Type} : ∀ (l : List (Option α)) (k : Nat), firstNone l = some k → k < l.length ∧ (l.map Option.isSome)[k]? = some false ∧ ∀ j, j < k → (l.map Option.isSome)[j]? = some true
  | [], k, h => by simp [firstNone] at h
  | none :: l, k, h => by
    simp only [firstNone, Option.some.injEq] at h
    subst h
    exact ⟨by simp, by simp, fun j hj => by omega⟩
  | some x :: l, k, h => by
    simp only [firstNone, Option.map_eq_some_iff] at h
    obtain ⟨k', h1, rfl⟩ := h
    obtain ⟨h2, h3, h4⟩ := firstNone_is l k' h1
    refine ⟨by simp; omega, by simpa using h3, fun j hj => ?_⟩
    cases j with
    | zero => simp
    | succ j => have := h4 j (by omega); simpa using this
theorem firstNone_not {α : Type} : ∀ (l : List (Option α)), firstNone l = none → ∀ j, j < l.length → (l.map Option.isSome)[j]? = some true
  | [], _, j, hj => by simp at hj
  | none :: l, h, _, _ => by simp [firstNone] at h
  | some x :: l, h, j, hj => by
    simp only [firstNone, Option.map_eq_none_iff] at h
    cases j with
    | zero => simp
    | succ j => have := firstNone_not l h j (by simpa using hj); simpa using this
theorem come_call (hB : ShB a w sp xp F L) (hM : ScrM o w xp kb sb fb cps s) (hap : ∀ x, a x ≠ 0 → o x = 0) (hl : s.ks.length ≤ 4) (hS : s.c.surfaces.toNat ≤ 4) :
    Calls Try.prog 51 #[.pointer (some ⟨xp, 0, none⟩)] w fun e w' => (∃ n c : Int, e = .returned (.tuple #[.int .i64 n, .int .i64 c]) ∧ ((∃ k : Nat, firstNone s.ks = some k ∧ n = (k : Int) ∧ c = 0) ∨ (firstNone s.ks = none ∧ c = 5))) ∧ KtPost a o w sp xp kb sb fb (cameS s) F w' := by
  refine (Connect_any hM hl hS).mono ?_
  rintro e w' (⟨k, o', cps', h1, h2, h3, h4⟩ | ⟨h1, h2, h3⟩)
  · refine ⟨⟨_, _, h2, .inl ⟨k, h1, rfl, rfl⟩⟩, ?_⟩
    unfold cameS
    rw [h1]
    exact kt_start hB hap h3 h4
  · refine ⟨⟨_, _, h2, .inr ⟨h1, rfl⟩⟩, ?_⟩
    unfold cameS
    rw [h1]
    exact kt_below hB hap hM h3
set_option maxHeartbeats 8000000 in
theorem comes_any (hB : ShB a w sp xp F L) (hM : ScrM o w xp kb sb fb cps s) (hap : ∀ x, a x ≠ 0 → o x = 0) (hl : s.ks.length ≤ 4) (hp : 1 ≤ s.ks.length) (hS : s.c.surfaces.toNat ≤ 4) (hth : F.there = s.ks.map Option.isSome) (hcl : F.c.clients = (s.ks.length : Int)) :
    Calls Try.prog 52 #[.pointer (some ⟨sp, 0, none⟩)] w fun e w' => (∃ u, e = .returned u) ∧ KtPost a o w sp xp kb sb fb (cameS s) (cameF s F) w' := by
  have c0 : w.cell? ⟨sp, 0, none⟩ = some (.pointer (some ⟨xp, 0, none⟩)) := blk_cell hB.blk 0
  have HD := hide (come_call hB hM hap hl hS)
  obtain ⟨n, hn⟩ : ∃ n, n = s.ks.length := ⟨_, rfl⟩
  have htl : F.there.length = n := by rw [hth, hn]; simp
  have hn4 : n ≤ 4 := by omega
  have hn1 : 1 ≤ n := by omega
  rw [← hn] at hcl
  have HTH := hide hth
  have HTL := hide htl
  have HCL := hide hcl
  have HN := hide hn
  obtain ⟨s2, hs2⟩ : ∃ s2, s2 = cameS s := ⟨_, rfl⟩
  rw [← hs2] at HD ⊢
  clear hB hM hap hl hp hS hth hcl hn htl hs2
  go_enter Try.func52, Try.ntmps52
  go_wp2_with (go_at_call 51; refine (unhide HD).mono ?_; rintro e w1 ⟨⟨nn, cc, rfl, hor⟩, hK⟩
               have HK := hide hK
               have HOR := hide hor
               clear hK hor)
  obtain ⟨-, x3⟩ := (unhide HK).base
  rw [unhide HCL] at x3
  obtain ⟨g, gc, x9, xt, zt, hset⟩ := (unhide HK).thereAt (by rw [unhide HTL]; omega)
  rw [unhide HTL] at x9
  have HXT := hide xt
  have HSET := hide hset
  clear xt hset c0 HD
  rcases unhide HOR with ⟨k, hk, rfl, rfl⟩ | ⟨hk, rfl⟩
  · obtain ⟨f1, f2, f3⟩ := firstNone_is s.ks k hk
    rw [← unhide HTH] at f2 f3
    have hkn : k < n := by rw [unhide HN]; exact f1
    have HF2 := hide f2
    have HF3 := hide f3
    have HKF : Hid (KtPost a o w sp xp kb sb fb s2 (cameF s F) (w1.setCell ⟨g, k, none⟩ (.bool true))) := by
      have := (unhide HSET) k true
      unfold cameF
      rw [hk]
      exact this
    clear HOR hk f1 f2 f3 HK
    go_loopw [4] (fun x wr => ∃ j : Nat, j ≤ k ∧ x = .int .i64 j ∧ wr = w1) (fun x _ => n - (intOf x).toNat)
    case atStart => exact ⟨0, Nat.zero_le _, rfl, rfl⟩
    case round =>
      obtain ⟨j, hj, rfl, rfl⟩ := hrel
      have j0 : (0 : Int) ≤ (j : Int) := by omega
      have j1 : (j : Int) < (n : Int) := by omega
      by_cases e : j = k
      · subst e
        have t0 := (unhide HXT) j false (unhide HF2)
        have b1 : ((j : Int) != (j : Int)) = false := by simp
        go_wp2
        refine bodyPost_ret (results_none rfl _ _ _) rfl ?_
        exact ⟨⟨_, rfl⟩, unhide HKF⟩
      · have t0 := (unhide HXT) j true ((unhide HF3) j (by omega))
        go_wp2
        go_roundw
        case rel => exact ⟨j + 1, by omega, by go_num, trivial⟩
        case measure => simp [intOf]; omega
  · have f3 := firstNone_not s.ks hk
    rw [← unhide HTH, ← unhide HN] at f3
    have HF3 := hide f3
    have HKF : Hid (KtPost a o w sp xp kb sb fb s2 (cameF s F) w1) := by
      unfold cameF
      rw [hk]
      exact unhide HK
    clear HOR hk f3 HK
    go_loopw [4] (fun x wr => ∃ j : Nat, j ≤ n ∧ x = .int .i64 j ∧ wr = w1) (fun x _ => n - (intOf x).toNat)
    case atStart => exact ⟨0, Nat.zero_le _, rfl, rfl⟩
    case round =>
      obtain ⟨j, hj, rfl, rfl⟩ := hrel
      have j0 : (0 : Int) ≤ (j : Int) := by omega
      by_cases e : j < n
      · have t0 := (unhide HXT) j true ((unhide HF3) j e)
        have j1 : (j : Int) < (n : Int) := by omega
        go_wp2
        go_roundw
        case rel => exact ⟨j + 1, by omega, by go_num, trivial⟩
        case measure => simp [intOf]; omega
      · have j1 : ¬ (j : Int) < (n : Int) := by omega
        go_wp2
        go_end0
        exact ⟨⟨_, rfl⟩, unhide HKF⟩
end
end Go.Proofs.Ytfnockbgkcgpkaa
set_option linter.all false
namespace Go.Proofs.Ytfnockbgkcgpkaa
open Go.RowKit Go.Proofs.Panes
set_option maxRecDepth 100000

/-- The fields when j clients are done. -/
def tfW (s : Scrn) (F : ShF) (b j : Nat) (hd : List Int) : ShF := { tf1 s F b with flips := F.flips + (flipF s.f).2.1, wait := waitI s.c.quantum s.ks j, had := hd }
def trep (s : Scrn) (b : Nat) (av fv : Value) : Array Value := #[.int .i64 (s.t + 1), .int .i64 (flipF s.f).2.1, .int .i64 (tickP s b : Int), av, fv]
/-- Between two clients. -/
structure TL (a o o' : Nat → Nat) (w wr : World) (sp xp kb sb fb : Nat) (cps : List (Option Nat)) (s : Scrn) (F : ShF) (b rb : Nat) (av fv : Value) (j : Nat) (hd : List Int) : Prop where
  go : ∃ L', L'.fv = fv ∧ TS a o o' w wr sp xp kb sb fb cps (tickS s b) (tfW s F b j hd) L' rb (trep s b av fv) av fv (tickC s) (flipF s.f).2.2
section
variable {a o o' : Nat → Nat} {w wr : World} {sp xp kb sb fb : Nat} {cps : List (Option Nat)} {s : Scrn} {F : ShF} {L : ShL} {b rb j n : Nat} {marks' : List Ask} {av fv : Value} {hd : List Int}
theorem TL.below (h : TL a o o' w wr sp xp kb sb fb cps s F b rb av fv j hd) {w2 : World} (hb : Below wr.heap.size wr w2) : TL a o o' w w2 sp xp kb sb fb cps s F b rb av fv j hd := by
  obtain ⟨L', hfv, h⟩ := h.go
  exact ⟨L', hfv, h.below hb⟩
theorem TL.drewN (h : TL a o o' w wr sp xp kb sb fb cps s F b rb av fv j hd) (q : Nat) : TL a o o' w (wr.drewN q) sp xp kb sb fb cps s F b rb av fv j hd := h.below (below_drewN (Below.refl _ _) q)
theorem tl_start (h : TS a o o' w wr sp xp kb sb fb cps (tickS s b) (tf1 s F b) (tl1 L av fv) rb (trep s b av fv) av fv (tickC s) (flipF s.f).2.2) (hI : TickIn s F b marks') : TL a o o' w (wr.setCell ⟨sp, 16, none⟩ (.int .i64 (F.flips + (flipF s.f).2.1))) sp xp kb sb fb cps s F b rb av fv 0 F.had := by
  have hbt : But (fun x => x = sp) wr (wr.setCell ⟨sp, 16, none⟩ (.int .i64 (F.flips + (flipF s.f).2.1))) := (But.refl (fun x => x = sp) wr).setCell (p := ⟨sp, 16, none⟩) (.inl rfl) _
  have hblk := blk_set (i := 16) h.sh.blk (.int .i64 (F.flips + (flipF s.f).2.1))
  obtain ⟨e1, e2⟩ := h.sh.cells (F' := tfW s F b 0 F.had) (L' := tl1 L av fv) hbt (by rw [hblk]; simp [shcells, tf1, tfW]) rfl (by show waitI s.c.quantum s.ks 0 = F.wait; rw [hI.wait]; simp [waitI]) rfl rfl rfl rfl rfl rfl rfl
  exact ⟨_, rfl, h.step e1 e2⟩
theorem TL.facts (h : TL a o o' w wr sp xp kb sb fb cps s F b rb av fv j hd) (hI : TickIn s F b marks') (hn : n = s.ks.length) {k : Option Cli} (hk : s.ks[j]? = some k) {x : Int} (hx : hd[j]? = some x) (hl : hd.length = n) :
    ∃ (g gc hb hc ab ac : Nat) (wo : Option Addr) (wc : Nat), (wr.cell? ⟨sp, 10, none⟩ = some (.slice (some ⟨g, 0, none⟩) n gc) ∧ wr.cell? ⟨sp, 11, none⟩ = some (.slice (some ⟨hb, 0, none⟩) n hc) ∧ av = .slice (some ⟨ab, 0, none⟩) n ac ∧ wr.cell? ⟨g, j, none⟩ = some (.slice wo (costsK k).length wc) ∧ wr.cell? ⟨hb, j, none⟩ = some (.int .i64 x) ∧ wr.cell? ⟨ab, j, none⟩ = some (.int .i64 (cntN s.c.quantum k : Int)) ∧ (∀ t, wr.frozen? ⟨g, t, none⟩ = false) ∧ (∀ t, wr.frozen? ⟨hb, t, none⟩ = false)) ∧
      (∀ q z, TL a o o' w ((wr.drewN q).setCell ⟨hb, j, none⟩ (.int .i64 z)) sp xp kb sb fb cps s F b rb av fv j (hd.set j z)) ∧ OffN (fun x => a x = 6 + j) wr (.slice wo (costsK k).length wc) (costsK k) ∧
      ∀ q v, OffN (fun x => a x = 6 + j) wr v ((costsK k).drop (cntN s.c.quantum k)) → TL a o o' w ((wr.drewN q).setCell ⟨g, j, none⟩ v) sp xp kb sb fb cps s F b rb av fv (j + 1) hd := by
  have hjl := (List.getElem?_eq_some_iff.1 hk).1
  obtain ⟨L', hfv, h⟩ := h.go
  have hwl : (tfW s F b j hd).wait.length = n := by rw [hn]; exact waitI_len _ _ _
  have hhl : (tfW s F b j hd).had.length = n := hl
  obtain ⟨g, gc, hg⟩ := row_some h.sh.wait (by omega)
  obtain ⟨hb, hc, hh⟩ := row_some h.sh.had (by omega)
  have hcl : (tickC s).length = n := by rw [hn]; simp [tickC]
  obtain ⟨ab, ac, ha⟩ := row_some h.ad (by omega)
  have how := h.sh.wait
  rw [hg] at how
  have hoh := h.sh.had
  rw [hh] at hoh
  have hoa := h.ad
  rw [ha] at hoa
  have hwsl : L'.ws.length = n := by have := h.sh.wait.1; omega
  obtain ⟨v, hv⟩ : ∃ v, L'.ws[j]? = some v := ⟨L'.ws[j]'(by omega), by simp⟩
  have hwj : (tfW s F b j hd).wait[j]? = some (costsK k) := waitI_at hk
  have hoff := h.sh.each j v _ hv hwj
  obtain ⟨wo, wc, rfl, -⟩ := hoff.slice
  have c10 : wr.cell? ⟨sp, 10, none⟩ = some L'.wv := blk_cell h.sh.blk 10
  have c11 : wr.cell? ⟨sp, 11, none⟩ = some L'.hv := blk_cell h.sh.blk 11
  rw [hg, hwl] at c10
  rw [hh, hhl] at c11
  refine ⟨g, gc, hb, hc, ab, ac, wo, wc, ⟨c10, c11, by rw [ha, hcl], ?_, ?_, ?_, fun t => World.ownsRow.frozenAt how t, fun t => World.ownsRow.frozenAt hoh t⟩, fun q z => ?_, hoff, fun q v hv => ?_⟩
  · rw [World.ownsRow.cellAt how _ (by omega), hv]
  · exact ownN_at hoh rfl hx
  · refine ownN_at hoa rfl ?_
    unfold tickC
    rw [List.getElem?_map, hk]
    simp only [Option.map_some]
    rw [(cntN_eq s.c.quantum k).1]
  · have h := h.drewN q
    obtain ⟨e1, e2⟩ := h.sh.setHad hh j z
    exact ⟨L', hfv, h.step e1 e2⟩
  · have h := h.drewN q
    obtain ⟨e1, e2⟩ := h.sh.setWait hg (by omega) (hv.but (T := fun _ => False) (.of_below (below_drewN (Below.refl _ _) q)) (fun _ _ h => h))
    have e : { tfW s F b j hd with wait := (tfW s F b j hd).wait.set j ((costsK k).drop (cntN s.c.quantum k)) } = tfW s F b (j + 1) hd := by
      unfold tfW
      simp only [waitI_succ hk, (cntN_eq s.c.quantum k).2.2]
    rw [e] at e1
    exact ⟨{ L' with ws := L'.ws.set j v }, hfv, h.step e1 e2⟩
theorem TL.rep (h : TL a o o' w wr sp xp kb sb fb cps s F b rb av fv j hd) (hI : TickIn s F b marks') (hn : n = s.ks.length) : wr.cell? ⟨rb, 3, none⟩ = some av ∧ wr.cell? ⟨sp, 3, none⟩ = some (.int .i64 (n : Int)) := by
  obtain ⟨L', hfv, h⟩ := h.go
  have e : (tfW s F b j hd).c.clients = (n : Int) := by show F.c.clients = _; rw [hI.c, hI.cl, hn]
  refine ⟨blk_cell h.rep 3, ?_⟩
  rw [← e]; exact blk_cell h.sh.blk 3
theorem sum_bound (l : List Int) (h : ∀ x ∈ l, 0 ≤ x ∧ x ≤ 1000) : 0 ≤ l.sum ∧ l.sum ≤ 1000 * (l.length : Int) := by
  induction l with
  | nil => simp
  | cons x l ih =>
    have h1 := ih (fun y hy => h y (by simp [hy]))
    have h2 := h x (by simp)
    simp only [List.sum_cons, List.length_cons]
    omega
/-- What is had when m of a client's are added. -/
def hadM (s : Scrn) (F : ShF) (j : Nat) (k : Option Cli) (h0 : Int) (m : Nat) : List Int := (hadI s.c.quantum s.ks F.had j).set j (h0 + ((costsK k).take m).sum)
theorem hadM_zero {k : Option Cli} {h0 : Int} (hh : F.had[j]? = some h0) : hadM s F j k h0 0 = hadI s.c.quantum s.ks F.had j := by
  have := hadI_at (q := s.c.quantum) (ks := s.ks) hh
  unfold hadM
  exact List.ext_getElem? fun i => by
    rw [List.getElem?_set]
    split
    · rename_i e; subst e
      have hl := (List.getElem?_eq_some_iff.1 this).1
      rw [if_pos hl, this]; simp
    · rfl
theorem hadM_last {k : Option Cli} {h0 : Int} (hk : s.ks[j]? = some k) (hh : F.had[j]? = some h0) : hadM s F j k h0 (cntN s.c.quantum k) = hadI s.c.quantum s.ks F.had (j + 1) := by
  rw [hadI_succ hk hh]; rfl
theorem hadM_succ {k : Option Cli} {h0 x : Int} {m : Nat} (hx : (costsK k)[m]? = some x) : (hadM s F j k h0 m).set j (h0 + ((costsK k).take m).sum + x) = hadM s F j k h0 (m + 1) := by
  unfold hadM
  rw [List.set_set, sum_take_at _ _ _ hx, Int.add_assoc]
theorem hadM_at {k : Option Cli} {h0 : Int} {m : Nat} (hh : F.had[j]? = some h0) : (hadM s F j k h0 m)[j]? = some (h0 + ((costsK k).take m).sum) := by
  have hl := (List.getElem?_eq_some_iff.1 hh).1
  unfold hadM
  rw [List.getElem?_set_self (by rw [hadI_len]; exact hl)]
theorem hadM_len {k : Option Cli} {h0 : Int} {m : Nat} : (hadM s F j k h0 m).length = F.had.length := by unfold hadM; rw [List.length_set, hadI_len]
/-- In the loop that fires: q marks are fired. -/
structure TF (a o o' : Nat → Nat) (w wr : World) (sp xp kb sb fb : Nat) (cps : List (Option Nat)) (s : Scrn) (F : ShF) (b rb : Nat) (av fv : Value) (ms : List Ask) : Prop where
  go : ∃ L', L'.fv = fv ∧ TS a o o' w wr sp xp kb sb fb cps (tickS s b) { tfW s F b s.ks.length (hadI s.c.quantum s.ks F.had s.ks.length) with marks := ms } L' rb (trep s b av fv) av fv (tickC s) (flipF s.f).2.2
theorem TL.fires (h : TL a o o' w wr sp xp kb sb fb cps s F b rb av fv s.ks.length (hadI s.c.quantum s.ks F.had s.ks.length)) : TF a o o' w wr sp xp kb sb fb cps s F b rb av fv F.marks := ⟨h.go.choose, h.go.choose_spec⟩
theorem TF.below {ms : List Ask} (h : TF a o o' w wr sp xp kb sb fb cps s F b rb av fv ms) {w2 : World} (hb : Below wr.heap.size wr w2) : TF a o o' w w2 sp xp kb sb fb cps s F b rb av fv ms := by
  obtain ⟨L', hfv, h⟩ := h.go
  exact ⟨L', hfv, h.below hb⟩
theorem TF.rep {ms : List Ask} (h : TF a o o' w wr sp xp kb sb fb cps s F b rb av fv ms) : wr.cell? ⟨rb, 4, none⟩ = some fv ∧ wr.cell? ⟨rb, 1, none⟩ = some (.int .i64 (flipF s.f).2.1) := by
  obtain ⟨L', hfv, h⟩ := h.go
  exact ⟨blk_cell h.rep 4, blk_cell h.rep 1⟩
theorem TF.call {ms ms' : List Ask} (h : TF a o o' w wr sp xp kb sb fb cps s F b rb av fv ms) {m : Int × Int} (hm : fire1 ms m = some ms') (hl : ms.length ≤ 1000000000) : Calls Try.prog 53 #[.pointer (some ⟨sp, 0, none⟩), .agg #[.int .i64 m.1, .int .i64 m.2]] wr fun e w' => (∃ u, e = .returned u) ∧ TF a o o' w w' sp xp kb sb fb cps s F b rb av fv ms' := by
  obtain ⟨L', hfv, h⟩ := h.go
  obtain ⟨j, at', h1, h2, rfl⟩ := fire1_some _ _ _ hm
  refine (fires_any h.sh hl m.1 m.2 at' j h1 h2).mono ?_
  rintro e w' ⟨h3, h4, h5⟩
  exact ⟨h3, _, hfv, h.step h4 h5⟩
theorem fireL_len : ∀ (ms : List (Int × Int)) (l l' : List Ask), fireL l ms = some l' → l'.length = l.length
  | [], l, l', h => by simp only [fireL, Option.some.injEq] at h; rw [h]
  | m :: ms, l, l', h => by
    simp only [fireL, Option.bind_eq_some_iff] at h
    obtain ⟨l2, h1, h2⟩ := h
    rw [fireL_len ms l2 l' h2, fire1_len h1]
theorem TF.cells {ms : List Ask} (h : TF a o o' w wr sp xp kb sb fb cps s F b rb av fv ms) {q : Nat} {m : Int × Int} (hm : (flipF s.f).2.2[q]? = some m) : ∃ g cap, fv = .slice (some ⟨g, 0, none⟩) (flipF s.f).2.2.length cap ∧ wr.cell? ⟨g, q * 2, none⟩ = some (.int .i64 m.1) ∧ wr.cell? ⟨g, q * 2 + 1, none⟩ = some (.int .i64 m.2) := by
  obtain ⟨L', hfv, h⟩ := h.go
  have hql := (List.getElem?_eq_some_iff.1 hm).1
  obtain ⟨g, cap, hg⟩ := row_some h.fi (by simp; omega)
  have ho := h.fi
  rw [hg] at ho
  have := own2_at ho (j := q) (p := k2 m) (by rw [List.getElem?_map, hm]; rfl)
  refine ⟨g, cap, ?_, this.1, this.2⟩
  rw [hg]; simp
/-- How many marks the report that is kept tells. -/
def RepLen (sp n : Nat) (w : World) : Prop := ∃ ao cap, w.cell? ⟨sp, 21, none⟩ = some (.slice ao n cap)
def KtPostT (a o : Nat → Nat) (w : World) (sp xp kb sb fb : Nat) (s : Scrn) (F : ShF) (b : Nat) (marks' : List Ask) (w' : World) : Prop := KtPost a o w sp xp kb sb fb (tickS s b) (tickF s F b marks') w' ∧ RepLen sp (flipF s.f).2.2.length w'
theorem TF.done (h : TF a o o' w wr sp xp kb sb fb cps s F b rb av fv marks') : KtPostT a o w sp xp kb sb fb s F b marks' wr := by
  obtain ⟨L', hfv, h⟩ := h.go
  refine ⟨⟨o', cps, L', ?_, h.sc, h.ap, h.bt, h.ex⟩, ?_⟩
  · exact h.sh
  · obtain ⟨ao, cap, hg⟩ := row_slice h.fi
    refine ⟨ao, cap, ?_⟩
    have := blk_cell h.sh.blk 21
    simp only [List.length_map] at hg
    rw [← hg, ← hfv]
    exact this
end
end Go.Proofs.Ytfnockbgkcgpkaa
