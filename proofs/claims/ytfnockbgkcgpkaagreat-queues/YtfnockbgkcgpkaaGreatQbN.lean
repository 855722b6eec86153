import Derived.Test.YtfnockbgkcgpkaaGreatQbM
set_option linter.all false
namespace Go.Proofs.YtfnockbgkcgpkaaGreat
open Go.RowKit Go.Proofs.Panes
set_option maxRecDepth 100000

theorem MO.wide {ns ns' : List NLoan} {o : Opn} {m : MOp} (h : MO ns o m) (hs : ∀ x ∈ ns, x ∈ ns') : MO ns' o m :=
  ⟨h.kind, h.surf, h.x, h.y, h.w, h.h, h.mark, h.pv.imp id fun ⟨x, hx, r⟩ => ⟨x, hs x hx, r⟩⟩
theorem info_oloan : (Tryz.prog.info? 143).map (fun i => (i.zero, i.size, i.bytes)) = some (some (.agg #[.slice none 0 0, .slice none 0 0]), 2, 48) := by kernel_rfl

/-- How far opsOf has come. -/
structure OpsI (U : Nat → Prop) (mb base g : Nat) (v : Value) (l : List Opn) (w wr : World) (k c : Nat) (ms : List MOp) (li : Value) (ns : List NLoan) : Prop where
  own : OwnO wr base (.slice (some ⟨g, 0, none⟩) (l.length + 3) (l.length + 3)) (ms ++ List.replicate (l.length + 3 - k) mz)
  len : ms.length = k
  mo : ∀ (i : Nat) (o : Opn) (m : MOp), l[i]? = some o → ms[i]? = some m → MO ns o m
  tail : ∀ (i : Nat) (m : MOp), l.length ≤ i → ms[i]? = some m → m = m77
  box : wr.heap[mb]? = some (.cells #[.slice none 0 0, li, .slice none 0 0] 76)
  row : OwnNL wr base li ns
  cnt : ns.length ≤ c
  lent : NLent U base wr ns
  but : But (fun k => k = mb) w wr
  rd : RdO U wr v l
  new : w.heap.size < wr.heap.size

theorem OpsI.more {U : Nat → Prop} {mb base g : Nat} {v : Value} {l : List Opn} {w wr : World} {k c c' : Nat} {ms : List MOp} {li : Value} {ns : List NLoan} (h : OpsI U mb base g v l w wr k c ms li ns) (hc : c ≤ c') : OpsI U mb base g v l w wr k c' ms li ns :=
  ⟨h.own, h.len, h.mo, h.tail, h.box, h.row, Nat.le_trans h.cnt hc, h.lent, h.but, h.rd, h.new⟩
/-- A list of pixels more is lent. -/
theorem OpsI.ints {U : Nat → Prop} {mb : Nat} {v : Value} {l : List Opn} {w wa w2 : World} {k c : Nat} {ms : List MOp} {li li2 : Value} {ns ns2 : List NLoan} {pv v' : Value} {px : List Int} (h : OpsI U mb w.heap.size w.heap.size v l w wa k c ms li ns) (hl : NLends wa w2 mb w.heap.size (.slice none 0 0) li (.slice none 0 0) ns pv px li2 ns2 v')
    (hpv : RdN U wa pv px) (hpl : px.length ≤ 17592186043904) (hU : ∀ q, U q → q < w.heap.size ∧ q ≠ mb) : OpsI U mb w.heap.size w.heap.size v l w w2 k (c + 1) ms li2 ns2 := by
  have hUl : ∀ q, U q → q < wa.heap.size ∧ q ≠ mb ∧ li.ownBlock ≠ some q := fun q hq => ⟨Nat.lt_of_lt_of_le (hU q hq).1 (Nat.le_of_lt h.new), (hU q hq).2, fun e => by have := (World.ownsRow.lt h.row q e).1; have := (hU q hq).1; omega⟩
  have hS : ∀ q, U q → ¬ (q = mb ∨ li.ownBlock = some q) := fun q hq c => c.elim (hUl q hq).2.1 (hUl q hq).2.2
  obtain ⟨hN, hc⟩ := h.lent.more hl h.box h.row hpv hpl hUl
  have hsub : ∀ x ∈ ns, x ∈ ns2 := fun x hx => by
    rcases hl.more with ⟨e, _⟩ | ⟨y, _, e, _⟩
    · rw [e]; exact hx
    · rw [e]; exact List.mem_append.2 (.inl hx)
  refine ⟨row_but h.own hl.but (fun q hq e => ?_), h.len, fun i o m ho hm => (h.mo i o m ho hm).wide hsub, h.tail, hl.box, hl.own, by have := h.cnt; omega, hN, h.but.step hl.but (fun q hq => ?_), h.rd.but hl.but hS, Nat.lt_of_lt_of_le h.new hl.but.size⟩
  · rcases e with e | e
    · subst e; exact row_kind h.own h.box (by decide) hq
    · exact row_apart h.own h.row (by decide) hq e
  · rcases hq with e | e
    · exact .inl e
    · exact .inr (World.ownsRow.lt h.row q e).1
theorem OpsI.below {U : Nat → Prop} {mb base g : Nat} {v : Value} {l : List Opn} {w wr wr' : World} {k c : Nat} {ms : List MOp} {li : Value} {ns : List NLoan} (h : OpsI U mb base g v l w wr k c ms li ns) (hb : Below wr.heap.size wr wr') : OpsI U mb base g v l w wr' k c ms li ns :=
  have hB : But (fun _ => False) wr wr' := .of_below hb
  ⟨row_but h.own hB (fun _ _ h => h), h.len, h.mo, h.tail, hB.heap h.box (fun h => h), row_but h.row hB (fun _ _ h => h), h.cnt, h.lent.but hB (fun _ _ h => h) (fun _ _ h => h), h.but.step hB (fun _ h => h.elim), h.rd.below hb, Nat.lt_of_lt_of_le h.new hb.size⟩
theorem OpsI.set {U : Nat → Prop} {mb base g : Nat} {v : Value} {l : List Opn} {w wr : World} {k c : Nat} {ms : List MOp} {li : Value} {ns : List NLoan} (h : OpsI U mb base g v l w wr k c ms li ns) {ob : Nat} (h1 : w.heap.size ≤ ob) (h2 : ob ≠ g) (h3 : ob ≠ mb) (h4 : li.ownBlock ≠ some ob) (h5 : ∀ x ∈ ns, x.g ≠ ob) (hU : ∀ q, U q → q < w.heap.size) (i : Nat) (u : Value) : OpsI U mb base g v l w (wr.setCell ⟨ob, i, none⟩ u) k c ms li ns := by
  have hB : But (fun q => q = ob) wr (wr.setCell ⟨ob, i, none⟩ u) := But.setCell (S := fun q => q = ob) (But.refl _ _) (p := ⟨ob, i, none⟩) (.inl rfl) u
  exact ⟨row_but h.own hB (fun q hq e => by simp only [Value.ownBlock, Option.some.injEq] at hq; omega), h.len, h.mo, h.tail, hB.heap h.box (fun e => h3 e.symm), row_but h.row hB (fun q hq e => by subst e; exact h4 hq), h.cnt, h.lent.but hB (fun q hq e => by have := hU q hq; omega) (fun x hx e => h5 x hx e), h.but.setCell (.inr h1) u, h.rd.but hB (fun q hq e => by have := hU q hq; omega), by have := h.new; simpa [World.setCell] using this⟩
/-- What opsOf leaves. -/
structure OpsLent (U : Nat → Prop) (mb : Nat) (v : Value) (l : List Opn) (w w' : World) (ms : List MOp) (li : Value) (ns : List NLoan) (lo : Value) : Prop where
  own : OwnO w' w.heap.size (.slice (some ⟨w.heap.size, 0, none⟩) (l.length + 3) (l.length + 3)) (ms ++ [m77, m77, m77])
  len : ms.length = l.length
  mo : ∀ (i : Nat) (o : Opn) (m : MOp), l[i]? = some o → ms[i]? = some m → MO ns o m
  box : w'.heap[mb]? = some (.cells #[.slice none 0 0, li, lo] 76)
  row : OwnNL w' w.heap.size li ns
  cnt : ns.length ≤ l.length + 3
  lent : NLent U w.heap.size w' ns
  ops : w'.ownsRow w.heap.size 143 2 lo 1 [.slice (some ⟨w.heap.size, 0, none⟩) (l.length + 3) (l.length + 3), v]
  rd : RdO U w' v l
  but : But (fun k => k = mb) w w'
theorem snoc_at {α : Type} {ms : List α} {s m : α} {i : Nat} (h : (ms ++ [s])[i]? = some m) : ms[i]? = some m ∨ (i = ms.length ∧ m = s) := by
  rcases Nat.lt_or_ge i ms.length with c | c
  · rw [List.getElem?_append_left c] at h; exact .inl h
  · rw [List.getElem?_append_right c] at h
    have hi := (List.getElem?_eq_some_iff.1 h).1
    simp at hi
    have : i = ms.length := by omega
    subst this
    simp at h
    exact .inr ⟨rfl, h.symm⟩
theorem OpsI.put {U : Nat → Prop} {mb : Nat} {v : Value} {l : List Opn} {w wr : World} {k c : Nat} {ms : List MOp} {li : Value} {ns : List NLoan} (h : OpsI U mb w.heap.size w.heap.size v l w wr k c ms li ns) (hk : k < l.length + 3) (s : MOp) (h1 : ∀ o, l[k]? = some o → MO ns o s) (h2 : l.length ≤ k → s = m77) (hU : ∀ q, U q → q < w.heap.size) (hmb : mb < w.heap.size) :
    OpsI U mb w.heap.size w.heap.size v l w (putOp wr w.heap.size k s) (k + 1) c (ms ++ [s]) li ns := by
  have e1 : ms ++ List.replicate (l.length + 3 - k) mz = ms ++ mz :: List.replicate (l.length + 3 - (k + 1)) mz := by
    rw [show l.length + 3 - k = l.length + 3 - (k + 1) + 1 by omega, List.replicate_succ]
  have hO := h.own
  rw [e1] at hO
  have htot : l.length + 3 = (ms ++ mz :: List.replicate (l.length + 3 - (k + 1)) mz).length := by have := h.len; simp; omega
  have hP := ownO_put s hO htot
  rw [h.len] at hP
  obtain ⟨gc, gf, hgk⟩ := row_heap h.own (k := w.heap.size) rfl
  have hb : But (fun q => q = w.heap.size) wr (putOp wr w.heap.size k s) := putOp_but (But.refl _ _) (.inl rfl)
  refine ⟨?_, by simp [h.len], fun i o m ho hm => ?_, fun i m hi hm => ?_, (putOp_heap (by omega)).trans h.box, row_but h.row hb (fun q hq e => ?_), h.cnt, h.lent.but hb (fun q hq e => ?_) (fun x hx e => ?_), putOp_but h.but (.inr (Nat.le_refl _)), h.rd.but hb (fun q hq e => ?_), Nat.lt_of_lt_of_le h.new hb.size⟩
  · rw [List.append_assoc]; exact hP
  · rcases snoc_at hm with c | ⟨c, rfl⟩
    · exact h.mo i o m ho c
    · rw [c, h.len] at ho; exact h1 o ho
  · rcases snoc_at hm with c | ⟨c, rfl⟩
    · exact h.tail i m hi c
    · rw [c, h.len] at hi; exact h2 hi
  · subst e; exact row_kind h.row hgk (by decide) hq
  · have := hU q hq; omega
  · obtain ⟨cs, fz, hg⟩ := h.lent.kind hx
    rw [e, hgk] at hg
    simp at hg
  · have := hU q hq; omega

set_option maxHeartbeats 8000000 in
theorem opsOf_any (U : Nat → Prop) (mb : Nat) (ao : Option Addr) (cap : Nat) (l : List Opn) (w : World) (hm : w.heap[mb]? = some (.cells #[.slice none 0 0, .slice none 0 0, .slice none 0 0] 76)) (ha : ao ≠ none) (hR : RdO U w (.slice ao l.length cap) l) (hlen : l.length ≤ 1759218604390) (hpx : ∀ o ∈ l, o.px.length ≤ 17592186043904) (hU : ∀ k, U k → k < w.heap.size ∧ k ≠ mb) :
    Calls Tryz.prog 26 #[.pointer (some ⟨mb, 0, none⟩), .slice ao l.length cap] w fun e w' => e = .returned (.slice (some ⟨w.heap.size, 0, none⟩) l.length (l.length + 3)) ∧ ∃ ms li ns lo, OpsLent U mb (.slice ao l.length cap) l w w' ms li ns lo := by
  have qn : ∀ (w : World) (a : Option Addr) (n c n' c' : Nat), (binOp .eql 53 (.slice a n c) (.slice none n' c')).run Tryz.prog w = .ok (.bool a.isNone) w := fun w a n c n' c' => Lib.run_eql_slice_nil w _ _ a n c n' c' Tryz.underlying53
  obtain ⟨ad, rfl⟩ := Option.ne_none_iff_exists'.1 ha
  have hmk : ∀ u : World, (Instr.makeSlice 53 (.int .i64 ((l.length : Int) + 3)) (.int .i64 ((l.length : Int) + 3))).run Tryz.prog u = .ok (.slice (some ⟨u.heap.size, 0, none⟩) (l.length + 3) (l.length + 3)) (u.alloc (.cells (mcells (List.replicate (l.length + 3) mz)).toArray 52)) := fun u => make_ops (l.length + 3) (by omega) u
  have hmb := lt_of_heap hm
  have HM := hide hm
  have HR := hide hR
  have HPx := hide hpx
  have HU := hide hU
  clear hm hR hpx hU ha
  go_enter Tryz.func26, Tryz.ntmps26
  go_wp2
  go_loopw [7] (fun i wr => ∃ k : Nat, k ≤ l.length + 3 ∧ i = .int .i64 k ∧ ∃ ms li ns, OpsI U mb w.heap.size w.heap.size (.slice (some ad) l.length cap) l w wr k k ms li ns) (fun i _ => l.length + 3 - (intOf i).toNat)
  case atStart =>
    refine ⟨0, Nat.zero_le _, rfl, [], .slice none 0 0, [], ⟨by simpa using own_ops w (l.length + 3) w.heap.size (Nat.le_refl _) (by omega), rfl, fun i o m _ h => by simp at h, fun i m _ h => by simp at h, blk_alloc (unhide HM) _, World.ownsRow_nil _ _ _ _, by simp, NLent.none _ _ _, (But.refl _ _).alloc _, (unhide HR).below ((Below.refl _ w).alloc (Nat.le_refl _) _), by simp⟩⟩
  case round =>
    rename World => wq
    obtain ⟨k, hk, rfl, ms, li, ns, hI⟩ := hrel
    by_cases hlt : k < l.length + 3
    · have e1 : ms ++ List.replicate (l.length + 3 - k) mz = ms ++ mz :: List.replicate (l.length + 3 - (k + 1)) mz := by
        rw [show l.length + 3 - k = l.length + 3 - (k + 1) + 1 by omega, List.replicate_succ]
      by_cases hin : k < l.length
      · obtain ⟨o, ho⟩ : ∃ o, l[k]? = some o := ⟨l[k], by simp [hin]⟩
        obtain ⟨ao', cap', e, _, _, h3⟩ := hI.rd
        simp only [Value.slice.injEq, true_and] at e
        obtain ⟨e2, rfl⟩ := e
        obtain ⟨b, off, e3, _, hbl, hc⟩ := h3 (by intro e; rw [e] at hin; simp at hin)
        rw [e3, Option.some.injEq] at e2
        subst e2
        obtain ⟨c0, c1, c2, c3, c4, c5, ⟨pv, c6, hpv⟩, c7⟩ := hc k o ho
        obtain ⟨po, pc, epv, pjunk⟩ := id hpv
        have HPV := hide hpv
        rw [epv] at c6
        clear pjunk h3 hc hpv
        have i0 : (0 : Int) ≤ (k : Int) := by omega
        have i1 : (k : Int) < (l.length : Int) + 3 := by omega
        have i2 : (k : Int) < (l.length : Int) := by omega
        have HI := hide hI
        have HOo := hide ho
        have HEP := hide epv
        clear hI ho epv e1 hmk
        go_wp2_with fail
        have hIa := (unhide HI).below (((Below.refl _ wq).alloc (Nat.le_refl _) _) : Below wq.heap.size wq (wq.alloc (.cells #[.int .i64 o.kind, .int .i64 o.surf, .int .i64 o.x, .int .i64 o.y, .int .i64 o.w, .int .i64 o.h, .slice po o.px.length pc, .int .i64 o.mark] 52)))
        have hxa : (wq.alloc (.cells #[.int .i64 o.kind, .int .i64 o.surf, .int .i64 o.x, .int .i64 o.y, .int .i64 o.w, .int .i64 o.h, .slice po o.px.length pc, .int .i64 o.mark] 52)).heap[wq.heap.size]? = some (.cells #[.int .i64 o.kind, .int .i64 o.surf, .int .i64 o.x, .int .i64 o.y, .int .i64 o.w, .int .i64 o.h, .slice po o.px.length pc, .int .i64 o.mark] 52) := new_at _ _ _ rfl
        have hpva : RdN U (wq.alloc (.cells #[.int .i64 o.kind, .int .i64 o.surf, .int .i64 o.x, .int .i64 o.y, .int .i64 o.w, .int .i64 o.h, .slice po o.px.length pc, .int .i64 o.mark] 52)) (.slice po o.px.length pc) o.px := by
          rw [← unhide HEP]; exact (unhide HPV).below ((Below.refl _ wq).alloc (Nat.le_refl _) _)
        have hlig : ∀ q, li.ownBlock = some q → q < wq.heap.size := fun q hq => (World.ownsRow.lt (unhide HI).row q hq).2
        generalize wq.alloc (.cells #[.int .i64 o.kind, .int .i64 o.surf, .int .i64 o.x, .int .i64 o.y, .int .i64 o.w, .int .i64 o.h, .slice po o.px.length pc, .int .i64 o.mark] 52) = wa at *
        have hpl := (unhide HPx) o (List.mem_of_getElem? (unhide HOo))
        refine (intsOf_any mb w.heap.size (.slice none 0 0) li (.slice none 0 0) ns (.slice po o.px.length pc) o.px wa hIa.box hIa.row (Nat.le_of_lt hIa.new) U hpva hpl (by have := hIa.cnt; omega)).mono ?_
        rintro e w2 ⟨v', rfl, hOv, li2, ns2, hl2⟩
        have hI2 := hIa.ints hl2 hpva hpl (unhide HU)
        have hx2 : w2.heap[wq.heap.size]? = some (.cells #[.int .i64 o.kind, .int .i64 o.surf, .int .i64 o.x, .int .i64 o.y, .int .i64 o.w, .int .i64 o.h, .slice po o.px.length pc, .int .i64 o.mark] 52) := hl2.but.heap hxa (fun c => by
          rcases c with c | c
          · have := lt_of_heap (unhide HI).box; omega
          · have := hlig _ c; omega)
        obtain ⟨vo, vcp, ev'⟩ := row_slice hOv
        subst ev'
        have hMO : MO ns2 o ⟨o.kind, o.surf, o.x, o.y, o.w, o.h, .slice vo o.px.length vcp, o.mark⟩ := ⟨rfl, rfl, rfl, rfl, rfl, rfl, rfl, by
          rcases hl2.more with ⟨_, e1, e2⟩ | ⟨x, e1, e2, e3, _⟩
          · exact .inl ⟨e1, e2⟩
          · exact .inr ⟨x, by rw [e2]; simp, e1, e3⟩⟩
        have hmbq : mb < wq.heap.size := lt_of_heap (unhide HI).box
        have hnew := (unhide HI).new
        have hI3 := hI2.set (ob := wq.heap.size) (by omega) (by omega) (by omega) (row_kind hI2.row hx2 (by decide)) (fun x hx e => by
          obtain ⟨cs, fz, hg⟩ := hI2.lent.kind hx
          rw [e, hx2] at hg
          simp at hg) (fun q hq => ((unhide HU) q hq).1) 6 (.slice vo o.px.length vcp)
        have d0 : w2.cell? ⟨wq.heap.size, 0, none⟩ = some (.int .i64 o.kind) := blk_cell hx2 0
        have d1 : w2.cell? ⟨wq.heap.size, 1, none⟩ = some (.int .i64 o.surf) := blk_cell hx2 1
        have d2 : w2.cell? ⟨wq.heap.size, 2, none⟩ = some (.int .i64 o.x) := blk_cell hx2 2
        have d3 : w2.cell? ⟨wq.heap.size, 3, none⟩ = some (.int .i64 o.y) := blk_cell hx2 3
        have d4 : w2.cell? ⟨wq.heap.size, 4, none⟩ = some (.int .i64 o.w) := blk_cell hx2 4
        have d5 : w2.cell? ⟨wq.heap.size, 5, none⟩ = some (.int .i64 o.h) := blk_cell hx2 5
        have d6 : w2.cell? ⟨wq.heap.size, 6, none⟩ = some (.slice po o.px.length pc) := blk_cell hx2 6
        have d7 : w2.cell? ⟨wq.heap.size, 7, none⟩ = some (.int .i64 o.mark) := blk_cell hx2 7
        have dz : ∀ t, w2.frozen? ⟨wq.heap.size, t, none⟩ = false := blk_thaw hx2
        have hO2 := hI2.own
        have e1 : ms ++ List.replicate (l.length + 3 - k) mz = ms ++ mz :: List.replicate (l.length + 3 - (k + 1)) mz := by
          rw [show l.length + 3 - k = l.length + 3 - (k + 1) + 1 by omega, List.replicate_succ]
        rw [e1] at hO2
        have hmsl := hI2.len
        have htot : l.length + 3 = (ms ++ mz :: List.replicate (l.length + 3 - (k + 1)) mz).length := by simp; omega
        have cel : ∀ t, t < 8 → w2.cell? ⟨w.heap.size, k * 8 + t, none⟩ = (mcell mz)[t]? := fun t ht => ownO_at hO2 htot (j := k) (m := mz) (by rw [← hmsl]; simp) t ht
        have g0 : w2.cell? ⟨w.heap.size, k * 8, none⟩ = some (.int .i64 0) := cel 0 (by omega)
        have g1 : w2.cell? ⟨w.heap.size, k * 8 + 1, none⟩ = some (.int .i64 0) := cel 1 (by omega)
        have g2 : w2.cell? ⟨w.heap.size, k * 8 + 2, none⟩ = some (.int .i64 0) := cel 2 (by omega)
        have g3 : w2.cell? ⟨w.heap.size, k * 8 + 3, none⟩ = some (.int .i64 0) := cel 3 (by omega)
        have g4 : w2.cell? ⟨w.heap.size, k * 8 + 4, none⟩ = some (.int .i64 0) := cel 4 (by omega)
        have g5 : w2.cell? ⟨w.heap.size, k * 8 + 5, none⟩ = some (.int .i64 0) := cel 5 (by omega)
        have g6 : w2.cell? ⟨w.heap.size, k * 8 + 6, none⟩ = some (.slice none 0 0) := cel 6 (by omega)
        have g7 : w2.cell? ⟨w.heap.size, k * 8 + 7, none⟩ = some (.int .i64 0) := cel 7 (by omega)
        have gz : ∀ t, w2.frozen? ⟨w.heap.size, t, none⟩ = false := ownO_thaw hO2 htot
        have hne1 : w.heap.size ≠ wq.heap.size := by omega
        have i1' : (k : Int) < ((l.length + 3 : Nat) : Int) := by omega
        have HI3 := hide hI3
        have HMO := hide hMO
        clear hIa hxa hpva hlig hl2 hOv hI2 hx2 hMO hI3 hO2 e1 htot cel hmsl c0 c1 c2 c3 c4 c5 c6 c7 HI HPV HEP
        go_wp2
        go_roundw
        case rel =>
          have hIp := (unhide HI3).put hlt ⟨o.kind, o.surf, o.x, o.y, o.w, o.h, .slice vo o.px.length vcp, o.mark⟩ (fun o' ho' => by rw [unhide HOo] at ho'; cases ho'; exact unhide HMO) (fun h => absurd hin (by omega)) (fun q hq => ((unhide HU) q hq).1) hmb
          exact ⟨k + 1, by omega, by go_num, _, li2, ns2, hIp⟩
        case measure => simp [intOf]; omega
      · have hO := hI.own
        rw [e1] at hO
        have htot : l.length + 3 = (ms ++ mz :: List.replicate (l.length + 3 - (k + 1)) mz).length := by have := hI.len; simp; omega
        have hP := ownO_put m77 hO htot
        rw [hI.len] at hP
        have hmsl := hI.len
        have cel : ∀ t, t < 8 → wq.cell? ⟨w.heap.size, k * 8 + t, none⟩ = (mcell mz)[t]? := fun t ht => ownO_at hO htot (j := k) (m := mz) (by rw [← hmsl]; simp) t ht
        have c0 : wq.cell? ⟨w.heap.size, k * 8, none⟩ = some (.int .i64 0) := cel 0 (by omega)
        have c1 : wq.cell? ⟨w.heap.size, k * 8 + 1, none⟩ = some (.int .i64 0) := cel 1 (by omega)
        have c2 : wq.cell? ⟨w.heap.size, k * 8 + 2, none⟩ = some (.int .i64 0) := cel 2 (by omega)
        have c3 : wq.cell? ⟨w.heap.size, k * 8 + 3, none⟩ = some (.int .i64 0) := cel 3 (by omega)
        have c4 : wq.cell? ⟨w.heap.size, k * 8 + 4, none⟩ = some (.int .i64 0) := cel 4 (by omega)
        have c5 : wq.cell? ⟨w.heap.size, k * 8 + 5, none⟩ = some (.int .i64 0) := cel 5 (by omega)
        have c6 : wq.cell? ⟨w.heap.size, k * 8 + 6, none⟩ = some (.slice none 0 0) := cel 6 (by omega)
        have c7 : wq.cell? ⟨w.heap.size, k * 8 + 7, none⟩ = some (.int .i64 0) := cel 7 (by omega)
        have fz : ∀ t, wq.frozen? ⟨w.heap.size, t, none⟩ = false := ownO_thaw hO htot
        have i0 : (0 : Int) ≤ (k : Int) := by omega
        have i1 : (k : Int) < (l.length : Int) + 3 := by omega
        have i1' : (k : Int) < ((l.length + 3 : Nat) : Int) := by omega
        have i2 : ¬ (k : Int) < (l.length : Int) := by omega
        have HI := hide hI
        have HP := hide hP
        clear hI hP hO cel e1 htot hmsl hmk
        go_wp2
        go_roundw
        case rel =>
          have hIp := (unhide HI).put hlt m77 (fun o ho => absurd (List.getElem?_eq_some_iff.1 ho).1 hin) (fun _ => rfl) (fun q hq => ((unhide HU) q hq).1) hmb
          exact ⟨k + 1, by omega, by go_num, ms ++ [m77], li, ns, hIp.more (by omega)⟩
        case measure => simp [intOf]; omega
    · obtain rfl : k = l.length + 3 := by omega
      obtain ⟨jj, hj, hy0, hy1, hy2⟩ := info_parts info_oloan
      have hMr := hI.box
      have hcl : wq.cell? ⟨mb, 2, none⟩ = some (.slice none 0 0) := blk_cell hMr 2
      have hfr : ∀ t, wq.frozen? ⟨mb, t, none⟩ = false := blk_thaw hMr
      have hmsl := hI.len
      have hnew := hI.new
      have i1 : ¬ ((l.length + 3 : Nat) : Int) < (l.length : Int) + 3 := by omega
      have HI := hide hI
      have HMr := hide hMr
      clear hI hMr hmk
      go_wp2_with
         (at_builtin
          refine wpList_append_lies _ rfl _ _ 74 rfl w.heap.size 143 jj _ 2 48 Tryz.underlying74 hj hy0 hy1 hy2 rfl (by decide) (.slice none 0 0) 0 [] rfl (World.ownsRow_nil _ _ _ _) ⟨wq.heap.size, 0, none⟩ 1 1 [.slice (some ⟨w.heap.size, 0, none⟩) (l.length + 3) (l.length + 3), .slice (some ad) l.length cap] rfl rfl (newsN (new_at _ _ _ rfl)) (by intro u hu; simp at hu; rcases hu with rfl | rfl <;> rfl) (by decide) (by unfold maxLen; omega) (by omega) (by simp; omega) _ rfl ?_
          intro gl gk w2 hown hgrow hat hlt2
          have hB2 : Below wq.heap.size wq w2 := ((Below.refl _ wq).alloc (Nat.le_refl _) _).grown hgrow (by simp) (fun k e => by simp [Value.ownBlock] at e)
          have hI2 := (unhide HI).below hB2
          have hgl : gl ≠ mb := by
            have := lt_of_heap (unhide HMr)
            rcases hat with c | c
            · simp [Value.ownBlock] at c
            · simp at c; omega
          have hcl2 : w2.cell? ⟨mb, 2, none⟩ = some (.slice none 0 0) := blk_cell hI2.box 2
          have hfr2 : ∀ t, w2.frozen? ⟨mb, t, none⟩ = false := blk_thaw hI2.box
          have HI2 := hide hI2
          have HW2 := hide hown
          clear hown hgrow hat hB2 hI2)
      go_ret
      have hI2 := unhide HI2
      have hne : mb ≠ w.heap.size := by omega
      have hB : But (fun q => q = mb) w2 (w2.setCell ⟨mb, 2, none⟩ (.slice (some ⟨gl, 0, none⟩) 1 gk)) := But.setCell (S := fun q => q = mb) (But.refl _ _) (p := ⟨mb, 2, none⟩) (.inl rfl) _
      obtain ⟨ms1, ms2, rfl, hl1⟩ : ∃ ms1 ms2, ms = ms1 ++ ms2 ∧ ms1.length = l.length := ⟨ms.take l.length, ms.drop l.length, (List.take_append_drop _ _).symm, by rw [List.length_take]; omega⟩
      have hm2 : ms2 = [m77, m77, m77] := by
        have hl2 : ms2.length = 3 := by simp at hmsl; omega
        have ht : ∀ t m, ms2[t]? = some m → m = m77 := fun t m h => hI2.tail (l.length + t) m (by omega) (by rw [List.getElem?_append_right (by omega), show l.length + t - ms1.length = t by omega]; exact h)
        match ms2, hl2 with
        | [a, b, c], _ => rw [ht 0 a rfl, ht 1 b rfl, ht 2 c rfl]
      subst hm2
      refine ⟨rfl, ms1, li, ns, .slice (some ⟨gl, 0, none⟩) 1 gk, ?_, hl1, fun i o m ho hm => hI2.mo i o m ho (by rw [List.getElem?_append_left (by have := (List.getElem?_eq_some_iff.1 hm).1; exact this)]; exact hm), ?_, ?_, by have := hI2.cnt; omega, ?_, ?_, ?_, ?_⟩
      · have h0 : OwnO w2 w.heap.size (.slice (some ⟨w.heap.size, 0, none⟩) (l.length + 3) (l.length + 3)) (ms1 ++ [m77, m77, m77]) := by
          have := hI2.own
          rwa [Nat.sub_self, List.replicate_zero, List.append_nil] at this
        exact row_but h0 hB (fun q hq e => by subst e; exact row_kind hI2.own hI2.box (by decide) hq)
      · simpa using blk_set (i := 2) hI2.box (.slice (some ⟨gl, 0, none⟩) 1 gk)
      · exact row_but hI2.row hB (fun q hq e => by subst e; exact row_kind hI2.row hI2.box (by decide) hq)
      · refine hI2.lent.but hB (fun q hq e => ((unhide HU) q hq).2 e) (fun x hx e => ?_)
        obtain ⟨cs, fz, hg⟩ := hI2.lent.kind hx
        rw [e, hI2.box] at hg
        simp at hg
      · exact ownsRow_setCell_other (unhide HW2) (by simp [Value.ownBlock]; exact hgl) _
      · exact hI2.rd.but hB (fun q hq e => ((unhide HU) q hq).2 e)
      · exact hI2.but.step hB (fun q e => .inl e)
end Go.Proofs.YtfnockbgkcgpkaaGreat
