import Derived.Test.YtfnockbgkcgpkaaKabh
set_option linter.all false
namespace Go.Proofs.Ytfnockbgkcgpkaa
open Go.RowKit Go.Proofs.Panes
set_option maxRecDepth 100000
/-- The colours that lie at a pixel, the lowest first. -/
def nz (x y : Int) (l : List Srf) : List Int := (l.map fun s => pixS s x y).filter fun v => !(v == 0)
theorem nz_append (x y : Int) (k l : List Srf) : nz x y (k ++ l) = nz x y k ++ nz x y l := by simp [nz]
theorem nz_zero {x y : Int} {s : Srf} (h : pixS s x y = 0) : nz x y [s] = [] := by simp [nz, h]
theorem nz_cons (x y : Int) (s : Srf) (l : List Srf) : nz x y (s :: l) = nz x y [s] ++ nz x y l := nz_append x y [s] l
theorem picS_nz (x y : Int) : ∀ (l : List Srf) (b : Int), picS l b x y = (nz x y l).foldl (fun _ v => v) b
  | [], b => rfl
  | s :: l, b => by
    show picS l (if pixS s x y = 0 then b else pixS s x y) x y = _
    rw [picS_nz x y l, nz_cons]
    by_cases h : pixS s x y = 0
    · rw [if_pos h, nz_zero h]; rfl
    · rw [if_neg h]
      have : nz x y [s] = [pixS s x y] := by simp [nz, h]
      rw [this]; rfl
theorem picS_eq {x y : Int} {k l : List Srf} (h : nz x y k = nz x y l) (b : Int) : picS k b x y = picS l b x y := by rw [picS_nz, picS_nz, h]
theorem covP_S (s : Srf) (x y : Int) : covP ⟨s.x, s.y, s.w, s.h⟩ x y = covS s x y := by
  rw [Bool.eq_iff_iff]
  simp only [covP, covS, Bool.and_eq_true, decide_eq_true_eq]
  omega
theorem pix_zero {s : Srf} {x y : Int} (h : covP ⟨s.x, s.y, s.w, s.h⟩ x y = false) : pixS s x y = 0 := by
  rw [covP_S] at h
  unfold pixS
  rw [if_neg (by rw [h]; simp)]
/-- Neither of two rectangles covers it. -/
theorem dmgL_out {a b : Rc} {x y : Int} (h : ∀ R ∈ dmgL true a b, covP R x y = false) : covP a x y = false ∧ covP b x y = false := by
  unfold dmgL at h
  rw [if_neg (by simp)] at h
  split at h
  · rename_i he
    have h1 := h a (by simp)
    have : b = a := by
      simp only [rceq, Bool.and_eq_true, beq_iff_eq] at he
      cases a; cases b
      simp only at he
      simp [he]
    exact ⟨h1, by rw [this]; exact h1⟩
  · exact ⟨h a (by simp), h b (by simp)⟩
theorem nz_map {x y : Int} {l : List Srf} {f : Srf → Srf} (h : ∀ s ∈ l, pixS (f s) x y = pixS s x y) : nz x y (l.map f) = nz x y l := by
  unfold nz
  rw [List.map_map]
  congr 1
  exact List.map_congr_left h
theorem nz_filter {x y : Int} {p : Srf → Bool} : ∀ {l : List Srf}, (∀ s ∈ l, p s = false → pixS s x y = 0) → nz x y (l.filter p) = nz x y l
  | [], _ => rfl
  | s :: l, h => by
    have ih := nz_filter (p := p) (l := l) (fun t ht => h t (by simp [ht]))
    rw [List.filter_cons]
    cases hp : p s with
    | true => simp only [if_true]; rw [nz_cons, nz_cons x y s l, ih]
    | false => simp only [Bool.false_eq_true, if_false]; rw [nz_cons x y s l, nz_zero (h s (by simp) hp), ih]; rfl
/-- A slide. -/
theorem slide_pic {l : List Srf} {x y : Int} (h : ∀ R ∈ l.flatMap slDmg, covP R x y = false) (b : Int) : picS (l.map goS) b x y = picS l b x y := by
  refine picS_eq (nz_map fun s hs => ?_) b
  have hd : ∀ R ∈ slDmg s, covP R x y = false := fun R hR => h R (List.mem_flatMap.2 ⟨s, hs, hR⟩)
  unfold slDmg at hd
  by_cases hl : s.left = 0
  · have : goS s = s := by unfold goS; rw [if_pos hl]
    rw [this]
  · cases hg : goB s with
    | false =>
      have hg' : goS s = { s with x := s.x + s.dx, y := s.y + s.dy, left := s.left - 1 } := by unfold goS; rw [if_neg hl]
      unfold goB at hg
      rw [if_neg hl] at hg
      simp only [Bool.not_eq_false', Bool.and_eq_true, beq_iff_eq] at hg
      rw [hg']
      unfold pixS covS
      simp only
      rw [← hg.1, ← hg.2]
    | true =>
      rw [hg] at hd
      obtain ⟨h1, h2⟩ := dmgL_out hd
      rw [pix_zero h1, pix_zero h2]
/-- One leaves. -/
theorem leave_pic {l : List Srf} {c x y : Int} (h : ∀ R ∈ (l.filter fun s => s.cl == c).flatMap lvDmg, covP R x y = false) (b : Int) : picS (l.filter fun s => !(s.cl == c)) b x y = picS l b x y := by
  refine picS_eq (nz_filter fun s hs hp => ?_) b
  have hd : ∀ R ∈ lvDmg s, covP R x y = false := fun R hR => h R (List.mem_flatMap.2 ⟨s, List.mem_filter.2 ⟨hs, by simpa using hp⟩, hR⟩)
  exact pix_zero (dmgL_out hd).1
theorem nodup_inj {α β : Type} {f : α → β} : ∀ {l : List α}, (l.map f).Nodup → ∀ a ∈ l, ∀ b ∈ l, f a = f b → a = b
  | [], _, a, ha, _, _, _ => by cases ha
  | x :: l, h, a, ha, b, hb, e => by
    rw [List.map_cons, List.nodup_cons] at h
    rcases List.mem_cons.1 ha with p | p
    · rcases List.mem_cons.1 hb with q | q
      · rw [p, q]
      · exact absurd (List.mem_map.2 ⟨b, q, by rw [← e, p]⟩) h.1
    · rcases List.mem_cons.1 hb with q | q
      · exact absurd (List.mem_map.2 ⟨a, p, by rw [e, q]⟩) h.1
      · exact nodup_inj h.2 a p b q e
theorem covR_at {l : List Srf} {c n : Int} {s : Srf} (hnd : (l.map skey).Nodup) (hs : s ∈ l) (hk : skey s = (c, n)) : covR l c n = ⟨s.x, s.y, s.w, s.h⟩ := by
  unfold covR
  have hf : l.find? (fun s => s.cl == c && s.num == n) = some s := by
    cases hf : l.find? (fun s => s.cl == c && s.num == n) with
    | none =>
      have := List.find?_eq_none.1 hf s hs
      simp only [skey, Prod.mk.injEq] at hk
      simp [hk.1, hk.2] at this
    | some t =>
      have h1 := List.mem_of_find?_eq_some hf
      have h2 := List.find?_some hf
      simp only [Bool.and_eq_true, beq_iff_eq] at h2
      have h3 : skey t = skey s := by rw [hk]; simp [skey, h2]
      have := nodup_inj hnd t h1 s hs h3
      rw [this]
  rw [hf]
theorem nz_put {x y : Int} {l : List Srf} {u : Srf} (h : ∀ s ∈ l, skey s = skey u → pixS s x y = pixS u x y) : nz x y (putS l u) = nz x y l := by
  unfold putS
  refine nz_map fun s hs => ?_
  split
  · rename_i e; exact (h s hs e).symm
  · rfl
theorem nz_lay {x y : Int} {l : List Srf} {i t : Nat} {s : Srf} (hi : l[i]? = some s) (h : pixS s x y = 0) : nz x y (layS l i t s) = nz x y l := by
  have hlt := (List.getElem?_eq_some_iff.1 hi).1
  have he := (List.getElem?_eq_some_iff.1 hi).2
  have h2 : l.take i ++ s :: l.drop (i + 1) = l := by rw [← he, List.getElem_cons_drop, List.take_append_drop]
  have h3 : nz x y l = nz x y (l.take i ++ l.drop (i + 1)) := by
    conv => lhs; rw [← h2]
    rw [nz_append, nz_cons, nz_zero h, nz_append]; rfl
  rw [h3]
  unfold layS
  rw [nz_append, nz_cons, nz_zero h, List.nil_append, ← nz_append, List.take_append_drop]
theorem op_pic {l : List Srf} (hnd : (l.map skey).Nodup) {c : Int} {o : Opn} (hk : kfit l c o) {x y : Int} (h : ∀ R ∈ dmgO l c o, covP R x y = false) (b : Int) : picS (kchg l c o).1 b x y = picS l b x y := by
  rcases hk with ⟨hk1, hk2⟩ | ⟨hk1, hk2⟩
  · have e : (kchg l c o).1 = l ++ [⟨c, o.surf, o.x, o.y, 0, 0, [], 0, 0, 0⟩] := by unfold kchg; rw [if_pos hk1]
    rw [e]
    refine picS_eq ?_ b
    rw [nz_append, nz_zero (by unfold pixS covS; simp), List.append_nil]
  · obtain ⟨s, hs, hc1, hc2⟩ := key_at hk2
    have hsm := List.mem_of_getElem? hs
    have hks : skey s = (c, o.surf) := by simp [skey, hc1, hc2]
    have uniq : ∀ t ∈ l, skey t = skey s → t = s := fun t ht e => nodup_inj hnd t ht s hsm e
    have ha := covR_at hnd hsm hks
    have h1 : ¬ o.kind = 1 := by omega
    unfold dmgO at h
    rw [ha] at h
    by_cases h2 : o.kind = 2
    · have e : kchg l c o = (delS l c o.surf, true) := by unfold kchg; rw [if_neg h1, hs]; simp only; rw [if_pos h2]
      rw [e] at h ⊢
      obtain ⟨d1, -⟩ := dmgL_out h
      refine picS_eq ?_ b
      unfold delS
      refine nz_filter fun t ht hp => ?_
      have hkt : skey t = (c, o.surf) := isK_iff.1 (by simpa using hp)
      rw [uniq t ht (hkt.trans hks.symm)]
      exact pix_zero d1
    · by_cases h3 : o.kind = 3
      · have e : kchg l c o = (putS l { s with w := o.w, h := o.h, px := o.px }, true) := by unfold kchg; rw [if_neg h1, hs]; simp only; rw [if_neg h2, if_pos h3]
        rw [e] at h ⊢
        obtain ⟨d1, d2⟩ := dmgL_out h
        have hu : ({ s with w := o.w, h := o.h, px := o.px } : Srf) ∈ putS l { s with w := o.w, h := o.h, px := o.px } := List.mem_map.2 ⟨s, hsm, if_pos rfl⟩
        have hnd' : ((putS l { s with w := o.w, h := o.h, px := o.px }).map skey).Nodup := by rw [putS_keys]; exact hnd
        rw [covR_at hnd' hu hks] at d2
        refine picS_eq (nz_put fun t ht hkt => ?_) b
        rw [uniq t ht hkt, pix_zero d1, pix_zero d2]
      · by_cases h4 : o.kind = 4
        · have e : kchg l c o = (putS l { s with x := o.x, y := o.y, dx := 0, dy := 0, left := 0 }, !(s.x == o.x && s.y == o.y)) := by unfold kchg; rw [if_neg h1, hs]; simp only; rw [if_neg h2, if_neg h3, if_pos h4]
          rw [e] at h ⊢
          simp only at h ⊢
          refine picS_eq (nz_put fun t ht hkt => ?_) b
          rw [uniq t ht hkt]
          by_cases hxy : s.x = o.x ∧ s.y = o.y
          · unfold pixS covS
            simp only
            rw [hxy.1, hxy.2]
          · have hf : (!(s.x == o.x && s.y == o.y)) = true := by
              simp only [Bool.not_eq_true', Bool.and_eq_false_imp, beq_iff_eq, beq_eq_false_iff_ne]
              exact fun e1 e2 => hxy ⟨e1, e2⟩
            rw [hf] at h
            obtain ⟨d1, d2⟩ := dmgL_out h
            have hu : ({ s with x := o.x, y := o.y, dx := 0, dy := 0, left := 0 } : Srf) ∈ putS l { s with x := o.x, y := o.y, dx := 0, dy := 0, left := 0 } := List.mem_map.2 ⟨s, hsm, if_pos rfl⟩
            have hnd' : ((putS l { s with x := o.x, y := o.y, dx := 0, dy := 0, left := 0 }).map skey).Nodup := by rw [putS_keys]; exact hnd
            rw [covR_at hnd' hu hks] at d2
            rw [pix_zero d1, pix_zero d2]
        · by_cases h5 : o.kind = 5
          · have e : kchg l c o = (layS l (l.findIdx (isK c o.surf)) (l.length - 1) s, !decide (l.findIdx (isK c o.surf) = l.length - 1)) := by unfold kchg; rw [if_neg h1, hs]; simp only; rw [if_neg h2, if_neg h3, if_neg h4, if_pos h5]
            rw [e] at h ⊢
            simp only at h ⊢
            by_cases hi : l.findIdx (isK c o.surf) = l.length - 1
            · have hlt := (List.getElem?_eq_some_iff.1 hs).1
              have hself : layS l (l.findIdx (isK c o.surf)) (l.length - 1) s = l := by
                unfold layS
                rw [hi] at hs ⊢
                have he := (List.getElem?_eq_some_iff.1 hs).2
                have hd0 : l.drop (l.length - 1 + 1) = [] := List.drop_eq_nil_of_le (by omega)
                have h2 : l.take (l.length - 1) ++ s :: l.drop (l.length - 1 + 1) = l := by rw [← he, List.getElem_cons_drop, List.take_append_drop]
                rw [hd0] at h2 ⊢
                rw [List.append_nil, List.take_of_length_le (by rw [List.length_take]; omega), List.drop_eq_nil_of_le (by rw [List.length_take]; omega)]
                exact h2
              rw [hself]
            · rw [show (!decide (l.findIdx (isK c o.surf) = l.length - 1)) = true from by simp [hi]] at h
              exact picS_eq (nz_lay hs (pix_zero (dmgL_out h).1)) b
          · by_cases h6 : o.kind = 6
            · have e : kchg l c o = (layS l (l.findIdx (isK c o.surf)) 0 s, !decide (l.findIdx (isK c o.surf) = 0)) := by unfold kchg; rw [if_neg h1, hs]; simp only; rw [if_neg h2, if_neg h3, if_neg h4, if_neg h5, if_pos h6]
              rw [e] at h ⊢
              simp only at h ⊢
              by_cases hi : l.findIdx (isK c o.surf) = 0
              · have hself : layS l (l.findIdx (isK c o.surf)) 0 s = l := by
                  unfold layS
                  rw [hi] at hs ⊢
                  cases l with
                  | nil => simp at hs
                  | cons t l => simp at hs; subst hs; simp
                rw [hself]
              · rw [show (!decide (l.findIdx (isK c o.surf) = 0)) = true from by simp [hi]] at h
                exact picS_eq (nz_lay hs (pix_zero (dmgL_out h).1)) b
            · have e : kchg l c o = (putS l { s with dx := o.x, dy := o.y, left := o.w }, false) := by unfold kchg; rw [if_neg h1, hs]; simp only; rw [if_neg h2, if_neg h3, if_neg h4, if_neg h5, if_neg h6]
              rw [e]
              refine picS_eq (nz_put fun t ht hkt => ?_) b
              rw [uniq t ht hkt]
              rfl
end Go.Proofs.Ytfnockbgkcgpkaa
set_option linter.all false
namespace Go.Proofs.Ytfnockbgkcgpkaa
open Go.RowKit Go.Proofs.Panes
set_option maxRecDepth 100000
/-- What is still to be painted of a buffer. -/
def toDo (f : Frs) (i : Nat) : List (Int × Int) := match f.frame with
  | some g => if g.buf = i then g.left else []
  | none => []
/-- The buffer of the newest frame. -/
def newest (f : Frs) : Nat := match f.frame with
  | some g => g.buf
  | none => f.front
/-- The picture's colour at a pixel. -/
def picP (l : List Srf) (beh : Int) (W p : Nat) : Int := picS l beh ((p % W : Nat) : Int) ((p / W : Nat) : Int)
def RtP (l : List Srf) (beh : Int) (f : Frs) (i p : Nat) : Prop := (∀ v, ((p : Int), v) ∈ toDo f i → v = picP l beh f.W p) ∧ ((∀ v, ((p : Int), v) ∉ toDo f i) → (f.b i).px[p]? = some (picP l beh f.W p))
/-- Pixels that are not stale are the picture's. -/
structure PxI (l : List Srf) (beh : Int) (f : Frs) : Prop where
  rt : ∀ i, i < 3 → ∀ p, p < f.W * f.H → (f.b i).st[p]? = some false → RtP l beh f i p
  nd : ∀ g, f.frame = some g → (g.left.map Prod.fst).Nodup
  nw : f.due = false → ∀ p, p < f.W * f.H → (f.b (newest f)).st[p]? = some false
section
variable {l l' : List Srf} {beh : Int} {f : Frs} {D : Nat}
theorem PxI.dam (h : PxI l beh f) (hB : FrB D f) {rs : List Rc} (hch : ∀ x y, (∀ R ∈ rs, covP R x y = false) → picS l' beh x y = picS l beh x y) : PxI l' beh (damL f rs) := by
  have hs := damL_s rs f
  have hl : ∀ i, toDo (damL f rs) i = toDo f i := fun i => by unfold toDo; rw [hs.frame]
  have hn : newest (damL f rs) = newest f := by unfold newest; rw [hs.frame, hs.front]
  have key : ∀ i, i < 3 → ∀ p, p < f.W * f.H → ((damL f rs).b i).st[p]? = some false → (f.b i).st[p]? = some false ∧ ∀ R ∈ rs, covP R ((p % f.W : Nat) : Int) ((p / f.W : Nat) : Int) = false := fun i hi p hp hst => by
    rw [damL_st rs f hB.W.1 i hi (hB.st i hi) p hp] at hst
    simp only [Option.some.injEq, Bool.or_eq_false_iff] at hst
    refine ⟨?_, fun R hR => ?_⟩
    · have := hst.1
      rw [List.getD_eq_getElem?_getD] at this
      rw [List.getElem?_eq_getElem (by rw [hB.st i hi]; exact hp)] at this ⊢
      simpa using this
    · have h2 := hst.2
      rw [List.any_eq_false] at h2
      simpa using h2 R hR
  refine ⟨fun i hi p hp hst => ?_, fun g hg => h.nd g (by rw [← hs.frame]; exact hg), fun hd p hp => ?_⟩
  · rw [hs.W, hs.H] at hp
    obtain ⟨k1, k2⟩ := key i hi p hp hst
    obtain ⟨r1, r2⟩ := h.rt i hi p hp k1
    have hp2 : picP l' beh f.W p = picP l beh f.W p := hch _ _ k2
    unfold RtP
    rw [hl, hs.W, hp2, hs.px]
    exact ⟨r1, r2⟩
  · rw [hs.W, hs.H] at hp
    rw [damL_due rs f hB.W.1] at hd
    simp only [Bool.or_eq_false_iff] at hd
    have h0 := h.nw hd.1 p hp
    rw [hn]
    have hi : newest f < 3 := by
      unfold newest
      cases hf : f.frame with
      | none => exact hB.fr
      | some g => exact (hB.fm g hf).1
    rw [damL_st rs f hB.W.1 _ hi (hB.st _ hi) p hp]
    have h2 : (rs.any fun r => covP r ((p % f.W : Nat) : Int) ((p / f.W : Nat) : Int)) = false := by
      rw [List.any_eq_false]
      intro R hR
      have h3 := hd.2
      rw [List.any_eq_false] at h3
      have h4 := h3 R hR
      unfold inOut at h4
      simp only [Bool.not_eq_true] at h4
      rw [List.any_eq_false] at h4
      exact h4 p (List.mem_range.2 hp)
    rw [h2, List.getD_eq_getElem?_getD, h0]
    rfl
theorem PxI.due (h : PxI l beh f) : PxI l beh { f with due := true } := ⟨h.rt, h.nd, fun e => by cases e⟩
theorem PxI.ask (h : PxI l beh f) (m : List (Int × Int)) : PxI l beh { f with marks := m } := ⟨h.rt, h.nd, h.nw⟩
theorem PxI.flip (h : PxI l beh f) : PxI l beh (flipF f).1 := by
  unfold flipF
  cases hf : f.frame with
  | none => exact h
  | some g =>
    simp only
    split
    · rename_i hg
      have hl : ∀ i, toDo f i = [] := fun i => by unfold toDo; rw [hf]; simp only; split <;> first | exact hg | rfl
      refine ⟨fun i hi p hp hst => ?_, fun g' hg' => (by cases hg'), fun hd p hp => ?_⟩
      · obtain ⟨r1, r2⟩ := h.rt i hi p hp hst
        refine ⟨fun v hv => (by cases hv), fun _ => r2 (fun v => by rw [hl]; simp)⟩
      · have := h.nw hd p hp
        unfold newest at this
        rw [hf] at this
        exact this
    · exact h
theorem PxI.forget (h : PxI l beh f) (c : Int) : PxI l beh (forgetF f c) := by
  have hl : ∀ i, toDo (forgetF f c) i = toDo f i := fun i => by
    unfold toDo forgetF
    cases f.frame <;> rfl
  have hn : newest (forgetF f c) = newest f := by
    unfold newest forgetF
    cases f.frame <;> rfl
  refine ⟨fun i hi p hp hst => ?_, fun g hg => ?_, fun hd p hp => ?_⟩
  · obtain ⟨r1, r2⟩ := h.rt i hi p hp hst
    unfold RtP
    rw [hl]
    exact ⟨r1, r2⟩
  · unfold forgetF at hg
    cases hf : f.frame with
    | none => rw [hf] at hg; cases hg
    | some g0 =>
      rw [hf] at hg
      simp only [Option.map_some, Option.some.injEq] at hg
      rw [← hg]
      exact h.nd g0 hf
  · rw [hn]; exact h.nw hd p hp
theorem dots_in (st : List Bool) (W : Nat) (pic : Int → Int → Int) : ∀ (n p : Nat) (v : Int), ((p : Int), v) ∈ dotsI st W pic n ↔ p < n ∧ st[p]? = some true ∧ v = pic ((p % W : Nat) : Int) ((p / W : Nat) : Int)
  | 0, p, v => by simp [dotsI]
  | n + 1, p, v => by
    unfold dotsI
    rw [List.mem_append, dots_in st W pic n p v]
    by_cases h : st[n]? = some true
    · rw [if_pos h]
      simp only [List.mem_singleton, Prod.mk.injEq]
      constructor
      · rintro (⟨a, b, c⟩ | ⟨a, b⟩)
        · exact ⟨by omega, b, c⟩
        · have : p = n := by omega
          subst this; exact ⟨by omega, h, b⟩
      · rintro ⟨a, b, c⟩
        rcases Nat.lt_or_ge p n with q | q
        · exact .inl ⟨q, b, c⟩
        · have : p = n := by omega
          subst this; exact .inr ⟨rfl, c⟩
    · rw [if_neg h]
      simp only [List.not_mem_nil, or_false]
      constructor
      · rintro ⟨a, b, c⟩; exact ⟨by omega, b, c⟩
      · rintro ⟨a, b, c⟩
        refine ⟨?_, b, c⟩
        rcases Nat.lt_or_ge p n with q | q
        · exact q
        · have : p = n := by omega
          subst this; exact absurd b h
theorem dots_fst (st : List Bool) (W : Nat) (pic : Int → Int → Int) : ∀ n, (∀ d ∈ dotsI st W pic n, 0 ≤ d.1 ∧ d.1 < (n : Int)) ∧ ((dotsI st W pic n).map Prod.fst).Nodup
  | 0 => ⟨fun d hd => by simp [dotsI] at hd, by simp [dotsI]⟩
  | n + 1 => by
    obtain ⟨h1, h2⟩ := dots_fst st W pic n
    unfold dotsI
    split
    · refine ⟨fun d hd => ?_, ?_⟩
      · rcases List.mem_append.1 hd with q | q
        · have := h1 d q; omega
        · simp only [List.mem_singleton] at q; rw [q]; simp only; omega
      · rw [List.map_append, List.nodup_append]
        refine ⟨h2, by simp, fun a ha b hb e => ?_⟩
        obtain ⟨d, hd, rfl⟩ := List.mem_map.1 ha
        simp only [List.map_cons, List.map_nil, List.mem_singleton] at hb
        have := h1 d hd
        omega
    · refine ⟨fun d hd => ?_, ?_⟩
      · rw [List.append_nil] at hd
        have := h1 d hd; omega
      · rw [List.append_nil]; exact h2
theorem nxK_lt (f : Frs) : ∀ k j, nextK f k = some j → j < k
  | 0, j, h => by simp [nextK] at h
  | k + 1, j, h => by
    unfold nextK at h
    split at h
    · have := nxK_lt f k j h; omega
    · split at h
      · cases h; omega
      · rename_i j' hj'
        have := nxK_lt f k j' hj'
        split at h
        · cases h; omega
        · cases h; omega
theorem PxI.begin (h : PxI l beh f) (hB : FrB D f) (t : Int) : PxI l beh (beginF f t (picS l beh)) := by
  unfold beginF
  split
  · exact h
  · rename_i hc
    have hn : f.frame = none := by
      cases hf : f.frame with
      | none => rfl
      | some g => exact absurd (.inl (by simp [hf])) hc
    obtain ⟨nb, hnb⟩ : ∃ nb, nb = (nextK f 3).getD 0 := ⟨_, rfl⟩
    rw [← hnb]
    have hnb3 : nb < 3 := by
      rw [hnb]
      cases hk : nextK f 3 with
      | none => simp
      | some j => exact nxK_lt f 3 j hk
    have hl0 : ∀ i, toDo f i = [] := fun i => by unfold toDo; rw [hn]
    refine ⟨fun i hi p hp hst => ?_, fun g hg => ?_, fun _ p hp => ?_⟩
    · simp only at hp hst
      unfold RtP toDo
      simp only
      by_cases e : nb = i
      · subst e
        rw [if_pos rfl]
        simp only [if_true]
        refine ⟨fun v hv => ((dots_in _ _ _ _ _ _).1 hv).2.2, fun hno => ?_⟩
        have hst0 : (f.b nb).st[p]? = some false := by
          have hlen : p < (f.b nb).st.length := by rw [hB.st nb hi]; exact hp
          cases hb : (f.b nb).st[p]'hlen with
          | false => rw [List.getElem?_eq_getElem hlen, hb]
          | true => exact absurd ((dots_in _ _ _ _ _ _).2 ⟨hp, by rw [List.getElem?_eq_getElem hlen, hb], rfl⟩) (hno _)
        exact (h.rt nb hi p hp hst0).2 (fun v => by rw [hl0]; simp)
      · rw [if_neg e]
        rw [if_neg (Ne.symm e)] at hst ⊢
        exact ⟨fun v hv => (by cases hv), fun _ => (h.rt i hi p hp hst).2 (fun v => by rw [hl0]; simp)⟩
    · simp only [Option.some.injEq] at hg
      rw [← hg]
      exact (dots_fst _ _ _ _).2
    · simp only at hp ⊢
      unfold newest
      simp only [if_true]
      rw [List.getElem?_replicate, if_pos hp]
theorem paint_at : ∀ (ds : List (Int × Int)) (px : List Int) (p : Nat), (∀ d ∈ ds, 0 ≤ d.1) → (ds.map Prod.fst).Nodup → p < px.length → (∀ v, ((p : Int), v) ∈ ds → (paintL px ds)[p]? = some v) ∧ ((∀ v, ((p : Int), v) ∉ ds) → (paintL px ds)[p]? = px[p]?)
  | [], px, p, _, _, _ => ⟨fun v hv => by simp at hv, fun _ => rfl⟩
  | d :: ds, px, p, h0, hn, hp => by
    rw [List.map_cons, List.nodup_cons] at hn
    have e : paintL px (d :: ds) = paintL (px.set d.1.toNat d.2) ds := rfl
    rw [e]
    obtain ⟨g1, g2⟩ := paint_at ds (px.set d.1.toNat d.2) p (fun x hx => h0 x (by simp [hx])) hn.2 (by rw [List.length_set]; exact hp)
    have hd0 := h0 d (by simp)
    refine ⟨fun v hv => ?_, fun hno => ?_⟩
    · rcases List.mem_cons.1 hv with q | q
      · have hno : ∀ v', ((p : Int), v') ∉ ds := fun v' hv' => hn.1 (List.mem_map.2 ⟨_, hv', by rw [← q]⟩)
        rw [g2 hno, ← q]
        simp only [Int.toNat_natCast]
        rw [List.getElem?_set_self hp]
      · exact g1 v q
    · rw [g2 (fun v hv => hno v (by simp [hv])), List.getElem?_set_ne (fun e2 => hno d.2 (by
        have : d = ((p : Int), d.2) := by rw [← e2]; cases d; simp only at hd0 ⊢; simp; omega
        rw [← this]; simp))]
theorem PxI.paint (h : PxI l beh f) (hB : FrB D f) (b : Nat) : PxI l beh (paintF f b) := by
  unfold paintF
  cases hf : f.frame with
  | none => exact h
  | some g =>
    simp only
    obtain ⟨k, hk⟩ : ∃ k, k = min b g.left.length := ⟨_, rfl⟩
    rw [← hk]
    have hnd := h.nd g hf
    have hfm := hB.fm g hf
    have hsplit : g.left.take k ++ g.left.drop k = g.left := List.take_append_drop k g.left
    have hnt : ((g.left.take k).map Prod.fst).Nodup ∧ ((g.left.drop k).map Prod.fst).Nodup ∧ ∀ d ∈ g.left.take k, ∀ d' ∈ g.left.drop k, d.1 ≠ d'.1 := by
      rw [← hsplit, List.map_append, List.nodup_append] at hnd
      exact ⟨hnd.1, hnd.2.1, fun d hd d' hd' => hnd.2.2 d.1 (List.mem_map.2 ⟨d, hd, rfl⟩) d'.1 (List.mem_map.2 ⟨d', hd', rfl⟩)⟩
    refine ⟨fun i hi p hp hst => ?_, fun g' hg' => ?_, fun hd p hp => ?_⟩
    · have hp' : p < f.W * f.H := hp
      have hst' : (f.b i).st[p]? = some false := by
        simp only [paintK] at hst
        split at hst <;> exact hst
      obtain ⟨r1, r2⟩ := h.rt i hi p hp' hst'
      unfold toDo at r1 r2
      rw [hf] at r1 r2
      simp only at r1 r2
      unfold RtP toDo paintK
      simp only
      by_cases e : g.buf = i
      · subst e
        rw [if_pos rfl] at r1 r2 ⊢
        simp only [if_true]
        refine ⟨fun v hv => r1 v (List.mem_of_mem_drop hv), fun hno => ?_⟩
        obtain ⟨q1, q2⟩ := paint_at (g.left.take k) (f.b g.buf).px p (fun d hd => (hfm.2.2.2.1 d (List.mem_of_mem_take hd)).1) hnt.1 (by rw [hB.px g.buf hi]; exact hp')
        by_cases hin : ∃ v, ((p : Int), v) ∈ g.left.take k
        · obtain ⟨v, hv⟩ := hin
          rw [q1 v hv, r1 v (List.mem_of_mem_take hv)]
        · have hno2 : ∀ v, ((p : Int), v) ∉ g.left := fun v hv => by
            rw [← hsplit] at hv
            rcases List.mem_append.1 hv with z | z
            · exact hin ⟨v, z⟩
            · exact hno v z
          rw [q2 (fun v hv => hin ⟨v, hv⟩)]
          exact r2 hno2
      · rw [if_neg e] at r1 r2 ⊢
        rw [if_neg (Ne.symm e)]
        exact ⟨r1, r2⟩
    · simp only [paintK, Option.some.injEq] at hg'
      rw [← hg']
      exact hnt.2.1
    · have h0 := h.nw hd p hp
      unfold newest at h0
      rw [hf] at h0
      show ((paintK f g k).b (newest (paintK f g k))).st[p]? = _
      unfold newest paintK
      simp only [if_true]
      exact h0
end
end Go.Proofs.Ytfnockbgkcgpkaa
set_option linter.all false
namespace Go.Proofs.Ytfnockbgkcgpkaa
open Go.RowKit Go.Proofs.Panes
set_option maxRecDepth 100000
theorem op_px {K S D j : Nat} {st : List Srf × Frs} {op : Opn} {x : List Bool} {beh : Int} (h : StOk K S D st) (hKS : K * S ≤ 1000) (hj : j < K) (hD : D ≤ 900000000) (hv : vstep (hav st.1 j S) op = some x) (hP : PxI st.1 beh st.2) : PxI (doOp j st op).1 beh (doOp j st op).2 := by
  obtain ⟨h1, -⟩ := doOp_ok h hKS hj hD hv
  unfold doOp
  split
  · exact hP.ask _
  · rename_i h8
    exact hP.dam h.fr (fun x y hc => op_pic h.sc.nd (h1.fit h8).1 hc beh)
theorem ops_px {K S j : Nat} {beh : Int} (hKS : K * S ≤ 1000) (hj : j < K) : ∀ (ops : List Opn) (D : Nat) (st : List Srf × Frs) (x : List Bool), StOk K S D st → D + ops.length ≤ 900000000 → vall (hav st.1 j S) ops = some x → PxI st.1 beh st.2 → PxI (ops.foldl (doOp j) st).1 beh (ops.foldl (doOp j) st).2
  | [], D, st, x, h, _, hv, hP => hP
  | o :: l, D, st, x, h, hD, hv, hP => by
    have hv' : (vstep (hav st.1 j S) o).bind (fun y => vall y l) = some x := hv
    cases hs : vstep (hav st.1 j S) o with
    | none => rw [hs] at hv'; cases hv'
    | some y =>
      rw [hs] at hv'
      have hv2 : vall y l = some x := hv'
      simp only [List.length_cons] at hD
      obtain ⟨h1, h2, h3, h4⟩ := doOp_ok h hKS hj (by omega) hs
      rw [← h3] at hv2
      exact ops_px hKS hj l (D + 1) (doOp j st o) x h2 (by omega) hv2 (op_px h hKS hj (by omega) hs hP)
theorem trs_px {K S j : Nat} {beh : Int} (hKS : K * S ≤ 1000) (hj : j < K) : ∀ (trs : List (List Opn)) (D : Nat) (st : List Srf × Frs) (x : List Bool), StOk K S D st → (∀ tr ∈ trs, tr.length ≤ 20) → D + 20 * trs.length ≤ 900000000 → vall (hav st.1 j S) trs.flatten = some x → PxI st.1 beh st.2 → PxI (doAll j st trs).1 beh (doAll j st trs).2
  | [], D, st, x, h, _, _, hv, hP => hP
  | t :: l, D, st, x, h, ht, hD, hv, hP => by
    rw [List.flatten_cons, vall_append] at hv
    simp only [List.length_cons] at hD
    cases hs : vall (hav st.1 j S) t with
    | none => rw [hs] at hv; cases hv
    | some y =>
      rw [hs] at hv
      have hv2 : vall y l.flatten = some x := hv
      obtain ⟨h1, h2, h3, h4⟩ := tr_ok hKS hj h (ht t (by simp)) (by omega) hs
      rw [← h3] at hv2
      have hlt := ht t (by simp)
      have hP2 : PxI (doTr j st t).1 beh (doTr j st t).2 := ops_px hKS hj t D (st.1, { st.2 with due := true }) y ⟨h.sc, h.fr.due true⟩ (by omega) hs hP.due
      exact trs_px hKS hj l (D + 20) (doTr j st t) x h2 (fun tr htr => ht tr (by simp [htr])) (by omega) hv2 hP2
section
variable {D : Nat} {s : Scrn}
theorem adm_px (h : ScrOk D s) (hD : D + 640 ≤ 900000000) (hP : PxI (tk3 s).l s.c.behind (tk3 s).f) : ∀ j, j ≤ s.ks.length → PxI (scAdmI s.c.quantum s.ks ((tk3 s).l, (tk3 s).f) j).1 s.c.behind (scAdmI s.c.quantum s.ks ((tk3 s).l, (tk3 s).f) j).2
  | 0, _ => hP
  | j + 1, hj => by
    have hc := cfgB h.cfg
    have hKS := hc.ks
    have hlen := h.len
    have hK : s.c.clients.toNat ≤ 4 := by have := hc.clients; omega
    have ih := adm_px h hD hP j (by omega)
    have hI := admI_all h hD j (by omega)
    cases hk : s.ks[j]? with
    | none => rw [List.getElem?_eq_getElem (by omega)] at hk; cases hk
    | some x =>
      cases x with
      | none =>
        have e : scAdmI s.c.quantum s.ks ((tk3 s).l, (tk3 s).f) (j + 1) = scAdmI s.c.quantum s.ks ((tk3 s).l, (tk3 s).f) j := by simp [scAdmI, hk]
        rw [e]; exact ih
      | some k =>
        have hcl := h.cl j k hk
        have e : scAdmI s.c.quantum s.ks ((tk3 s).l, (tk3 s).f) (j + 1) = doAll j (scAdmI s.c.quantum s.ks ((tk3 s).l, (tk3 s).f) j) (admitC k s.c.quantum).1 := by simp [scAdmI, hk]
        have hv := hI.old j k (Nat.le_refl _) hk
        obtain ⟨n, hn⟩ : ∃ n, n = (takeN (k.cr + s.c.quantum) k.q).1 := ⟨_, rfl⟩
        have e1 : (admitC k s.c.quantum).1 = k.q.take n := by rw [hn]; rfl
        have hsplit : k.q.flatten = (k.q.take n).flatten ++ (k.q.drop n).flatten := by rw [← List.flatten_append, List.take_append_drop]
        rw [hsplit, vall_append] at hv
        cases hy : vall (hav (scAdmI s.c.quantum s.ks ((tk3 s).l, (tk3 s).f) j).1 j s.c.surfaces.toNat) (k.q.take n).flatten with
        | none => rw [hy] at hv; cases hv
        | some y =>
          have hql : k.q.length ≤ 8 := by have := hcl.ql; have := hc.queue; omega
          have htl : (k.q.take n).length ≤ 8 := by rw [List.length_take]; omega
          rw [e, e1]
          exact trs_px (K := s.c.clients.toNat) (S := s.c.surfaces.toNat) (by omega) (by omega) (k.q.take n) (D + 160 * j) _ y hI.st (fun tr htr => (hcl.tr tr (List.mem_of_mem_take htr)).1.2) (by omega) hy ih
theorem tick_px (h : ScrOk D s) (hD : D + 640 ≤ 900000000) (hP : PxI s.l s.c.behind s.f) (b : Nat) : PxI (tickS s b).l s.c.behind (tickS s b).f := by
  have h3 : PxI (tk3 s).l s.c.behind (tk3 s).f := hP.flip.dam h.st.fr.flip (fun x y hc => slide_pic hc s.c.behind)
  have h4 := adm_px h hD h3 s.ks.length (Nat.le_refl _)
  have hI := admI_all h hD s.ks.length (Nat.le_refl _)
  have h5 : PxI (tk5 s).l s.c.behind (tk5 s).f := PxI.begin h4 hI.st.fr (s.t + 1)
  exact PxI.paint h5 (hI.st.fr.begin (s.t + 1) _) b
theorem disc_px (h : ScrOk D s) (hP : PxI s.l s.c.behind s.f) (k : Nat) : PxI (discS s k).l s.c.behind (discS s k).f :=
  (hP.dam (l' := s.l.filter fun x => !(x.cl == (k : Int))) h.st.fr (fun x y hc => leave_pic hc s.c.behind)).forget _
theorem new_px (c : Cfg) : PxI (newS c).l c.behind (newS c).f := by
  refine ⟨fun i hi p hp hst => ?_, fun g hg => (by cases hg), fun _ p hp => ?_⟩
  · refine ⟨fun v hv => (by cases hv), fun _ => ?_⟩
    show (List.replicate (c.w.toNat * c.h.toNat) c.behind)[p]? = some c.behind
    rw [List.getElem?_replicate]; exact if_pos hp
  · show (List.replicate (c.w.toNat * c.h.toNat) false)[p]? = some false
    rw [List.getElem?_replicate]; exact if_pos hp
/-- Nothing is due, no frame is painted: the front is the picture. -/
theorem front_is {f : Frs} {l : List Srf} {beh : Int} (hP : PxI l beh f) (hB : FrB D f) (hf : f.frame = none) (hd : f.due = false) : (f.b f.front).px = (List.range (f.W * f.H)).map (picP l beh f.W) := by
  apply List.ext_getElem?
  intro p
  rw [List.getElem?_map]
  by_cases hp : p < f.W * f.H
  · rw [List.getElem?_range hp]
    have hn : newest f = f.front := by unfold newest; rw [hf]
    have h0 := hP.nw hd p hp
    rw [hn] at h0
    exact (hP.rt f.front hB.fr p hp h0).2 (fun v => by unfold toDo; rw [hf]; simp)
  · rw [List.getElem?_eq_none (by rw [hB.px f.front hB.fr]; omega), List.getElem?_eq_none (by simp; omega)]
    rfl
end
end Go.Proofs.Ytfnockbgkcgpkaa
