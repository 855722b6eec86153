import Derived.Test.YtfnockbgkcgpkaaKaaj
import Derived.Test.YtfnockbgkcgpkaaKaaq
set_option linter.all false
namespace Go.Proofs.Ytfnockbgkcgpkaa
open Go.RowKit Go.Proofs.Panes
set_option maxRecDepth 100000

/-- The key of a surface. -/
def skey (s : Srf) : Int × Int := (s.cl, s.num)
def kk (e : Ke) : Int × Int := (e.c, e.n)
/-- What a surface covers. -/
def covR (l : List Srf) (c n : Int) : Rc :=
  match l.find? (fun s => s.cl == c && s.num == n) with
  | none => zrc
  | some s => ⟨s.x, s.y, s.w, s.h⟩

theorem findE_none {c n : Int} : ∀ (L : List Ke) (i : Nat), (c, n) ∉ L.map kk → findE c n L i = none
  | [], _, _ => rfl
  | t :: L, i, h => by
    simp only [List.map_cons, List.mem_cons, not_or] at h
    have : (c == t.c && n == t.n) = false := by
      have h1 := h.1
      simp only [kk, Prod.mk.injEq, not_and] at h1
      by_cases e : c = t.c
      · simp [e, h1 e]
      · simp [e]
    simp only [findE, this]
    exact findE_none L (i + 1) h.2
theorem findE_at : ∀ (L : List Ke) (i : Nat), (L.map kk).Nodup → ∀ (j : Nat) (e : Ke), L[j]? = some e → findE e.c e.n L i = some (i + j, e.v)
  | [], _, _, j, e, h => by simp at h
  | t :: L, i, hn, 0, e, h => by simp at h; subst h; simp [findE]
  | t :: L, i, hn, j + 1, e, h => by
    rw [List.map_cons, List.nodup_cons] at hn
    have hm : e ∈ L := List.mem_of_getElem? (by simpa using h)
    have : (e.c == t.c && e.n == t.n) = false := by
      by_cases e1 : e.c = t.c
      · by_cases e2 : e.n = t.n
        · exact absurd (List.mem_map.2 ⟨e, hm, by simp [kk, e1, e2]⟩) hn.1
        · simp [e2]
      · simp [e1]
    simp only [findE, this]
    rw [if_neg (by simp), findE_at L (i + 1) hn.2 j e (by simpa using h)]
    congr 2
    omega

/-- The scene, in blocks of C; its pixels in blocks of U. -/
structure Scn (C U : Nat → Prop) (w : World) (sb : Nat) (beh : Int) (l : List Srf) (mb : Nat) (ov : Value) (L : List Ke) (clock : Nat) (bk : Int → Int → Nat) (pv : Int → Int → Value) : Prop where
  scm : ScM w sb mb ov (.int .i64 beh) L clock
  csb : C sb
  cmb : C mb
  cov : ∀ k, ov.ownBlock = some k → C k
  row : Own2 w 0 143 ov (l.map fun s => k2 (skey s))
  surf : ∀ s ∈ l, SfAt w (bk s.cl s.num) s (pv s.cl s.num) ∧ C (bk s.cl s.num) ∧ RdN U w (pv s.cl s.num) s.px
  inj : ∀ s ∈ l, ∀ t ∈ l, bk s.cl s.num = bk t.cl t.num → skey s = skey t
  nd : (l.map skey).Nodup
  ent : ∀ e ∈ L, (e.c, e.n) ∈ l.map skey ∧ e.v = .pointer (some ⟨bk e.c e.n, 0, none⟩)
  rev : ∀ s ∈ l, (s.cl, s.num) ∈ L.map kk
  ndL : (L.map kk).Nodup

section
variable {C U : Nat → Prop} {w : World} {sb : Nat} {beh : Int} {l : List Srf} {mb : Nat} {ov : Value} {L : List Ke} {clock : Nat} {bk : Int → Int → Nat} {pv : Int → Int → Value}
theorem Scn.some (h : Scn C U w sb beh l mb ov L clock bk pv) {s : Srf} (hs : s ∈ l) : ∃ i, findE s.cl s.num L 0 = Option.some (i, .pointer (Option.some ⟨bk s.cl s.num, 0, none⟩)) ∧ ∃ e, L[i]? = Option.some e ∧ kk e = skey s := by
  obtain ⟨e, he, hk⟩ := List.mem_map.1 (h.rev s hs)
  obtain ⟨i, hi, rfl⟩ := List.mem_iff_getElem.1 he
  have h1 : L[i]? = Option.some L[i] := by simp [hi]
  have := findE_at L 0 h.ndL i _ h1
  have hv := (h.ent _ he).2
  simp only [kk, Prod.mk.injEq] at hk
  rw [hk.1, hk.2, Nat.zero_add] at this
  rw [hk.1, hk.2] at hv
  exact ⟨i, by rw [this, hv], _, h1, by simp [kk, skey, hk]⟩
theorem Scn.none (h : Scn C U w sb beh l mb ov L clock bk pv) {c n : Int} (hs : (c, n) ∉ l.map skey) : findE c n L 0 = Option.none := by
  refine findE_none L 0 (fun hm => ?_)
  obtain ⟨e, he, hk⟩ := List.mem_map.1 hm
  have := (h.ent e he).1
  simp only [kk, Prod.mk.injEq] at hk
  rw [hk.1, hk.2] at this
  exact hs this
theorem Scn.at_some (h : Scn C U w sb beh l mb ov L clock bk pv) {s : Srf} (hs : s ∈ l) : atE s.cl s.num L = .pointer (Option.some ⟨bk s.cl s.num, 0, Option.none⟩) := by
  obtain ⟨i, hi, _⟩ := h.some hs
  simp [atE, hi]
theorem Scn.at_none (h : Scn C U w sb beh l mb ov L clock bk pv) {c n : Int} (hs : (c, n) ∉ l.map skey) : atE c n L = .pointer Option.none := by simp [atE, h.none hs]
theorem Scn.but {S : Nat → Prop} {w' : World} (h : Scn C U w sb beh l mb ov L clock bk pv) (hb : But S w w') (hS : ∀ k, C k → ¬ S k) (hU : ∀ k, U k → ¬ S k) : Scn C U w' sb beh l mb ov L clock bk pv where
  scm := h.scm.but hb (hS _ h.csb) (hS _ h.cmb)
  csb := h.csb
  cmb := h.cmb
  cov := h.cov
  row := row_but h.row hb (fun k hk => hS k (h.cov k hk))
  surf := fun s hs => ⟨hb.heap (h.surf s hs).1 (hS _ (h.surf s hs).2.1), (h.surf s hs).2.1, (h.surf s hs).2.2.but hb hU⟩
  inj := h.inj
  nd := h.nd
  ent := h.ent
  rev := h.rev
  ndL := h.ndL
theorem Scn.mono {C' U' : Nat → Prop} (h : Scn C U w sb beh l mb ov L clock bk pv) (hC : ∀ k, C k → C' k) (hU : ∀ k, U k → U' k) : Scn C' U' w sb beh l mb ov L clock bk pv where
  scm := h.scm
  csb := hC _ h.csb
  cmb := hC _ h.cmb
  cov := fun k hk => hC k (h.cov k hk)
  row := h.row
  surf := fun s hs => ⟨(h.surf s hs).1, hC _ (h.surf s hs).2.1, by
    obtain ⟨ao, cap, e, h1, h2, h3⟩ := (h.surf s hs).2.2
    refine ⟨ao, cap, e, h1, h2, fun hne => ?_⟩
    obtain ⟨b, off, e, hu, r⟩ := h3 hne
    exact ⟨b, off, e, hU b hu, r⟩⟩
  inj := h.inj
  nd := h.nd
  ent := h.ent
  rev := h.rev
  ndL := h.ndL
theorem Scn.below {w' : World} (h : Scn C U w sb beh l mb ov L clock bk pv) (hb : Below w.heap.size w w') : Scn C U w' sb beh l mb ov L clock bk pv := h.but (S := fun _ => False) (.of_below hb) (fun _ _ h => h) (fun _ _ h => h)

theorem find_mem {l : List Srf} {s : Srf} (hs : s ∈ l) (hn : (l.map skey).Nodup) : l.find? (fun t => t.cl == s.cl && t.num == s.num) = Option.some s := by
  induction l with
  | nil => simp at hs
  | cons t l ih =>
    rw [List.map_cons, List.nodup_cons] at hn
    rcases List.mem_cons.1 hs with rfl | hs
    · simp
    · have hne : (t.cl == s.cl && t.num == s.num) = false := by
        by_cases e1 : t.cl = s.cl
        · by_cases e2 : t.num = s.num
          · exact absurd (List.mem_map.2 ⟨s, hs, by simp [skey, e1, e2]⟩) hn.1
          · simp [e2]
        · simp [e1]
      simp only [List.find?_cons, hne]
      exact ih hs hn.2
theorem find_not {l : List Srf} {c n : Int} (hs : (c, n) ∉ l.map skey) : l.find? (fun t => t.cl == c && t.num == n) = Option.none := by
  simp only [List.find?_eq_none]
  intro t ht he
  simp at he
  exact hs (List.mem_map.2 ⟨t, ht, by simp [skey, he]⟩)
theorem covR_mem {l : List Srf} {s : Srf} (hs : s ∈ l) (hn : (l.map skey).Nodup) : covR l s.cl s.num = ⟨s.x, s.y, s.w, s.h⟩ := by unfold covR; rw [find_mem hs hn]
theorem covR_not {l : List Srf} {c n : Int} (hs : (c, n) ∉ l.map skey) : covR l c n = zrc := by unfold covR; rw [find_not hs]

theorem Scn.covered (h : Scn C U w sb beh l mb ov L clock bk pv) (c n : Int) :
    Calls Try.prog 114 #[.pointer (Option.some ⟨sb, 0, Option.none⟩), kval c n] w fun e w' => e = .returned (rval (covR l c n)) ∧ Below w.heap.size w w' := by
  refine covered_any h.scm c n _ ?_
  by_cases hm : (c, n) ∈ l.map skey
  · obtain ⟨s, hs, hk⟩ := List.mem_map.1 hm
    simp only [skey, Prod.mk.injEq] at hk
    obtain ⟨rfl, rfl⟩ := hk
    exact .inr ⟨_, s, _, h.at_some hs, (h.surf s hs).1, covR_mem hs h.nd⟩
  · exact .inl ⟨h.at_none hm, covR_not hm⟩
end
end Go.Proofs.Ytfnockbgkcgpkaa
set_option linter.all false
namespace Go.Proofs.Ytfnockbgkcgpkaa
open Go.RowKit Go.Proofs.Panes
set_option maxRecDepth 100000

/-- What a component may have made its own. -/
def grow (C : Nat → Prop) (w w' : World) : Nat → Prop := fun k => C k ∨ (w.heap.size ≤ k ∧ k < w'.heap.size)
theorem grow_lt {C : Nat → Prop} {w w' : World} (h : ∀ k, C k → k < w.heap.size) (hs : w.heap.size ≤ w'.heap.size) : ∀ k, grow C w w' k → k < w'.heap.size := fun k hk => by
  rcases hk with hk | hk
  · have := h k hk; omega
  · exact hk.2
theorem grow_old {C : Nat → Prop} {w w' : World} : ∀ k, C k → grow C w w' k := fun _ h => .inl h
def isK (c n : Int) (s : Srf) : Bool := s.cl == c && s.num == n
theorem isK_iff {c n : Int} {s : Srf} : isK c n s = true ↔ skey s = (c, n) := by simp [isK, skey]
/-- All surfaces but one. -/
def delS (l : List Srf) (c n : Int) : List Srf := l.filter fun s => !isK c n s
/-- One is another one. -/
def putS (l : List Srf) (u : Srf) : List Srf := l.map fun s => if skey s = skey u then u else s
theorem putS_keys (l : List Srf) (u : Srf) : (putS l u).map skey = l.map skey := by
  unfold putS
  rw [List.map_map]
  refine List.map_congr_left fun s _ => ?_
  simp only [Function.comp]
  split
  · rename_i h; exact h.symm
  · rfl
theorem putS_mem {l : List Srf} {u s : Srf} (h : s ∈ putS l u) : s = u ∨ (s ∈ l ∧ skey s ≠ skey u) := by
  obtain ⟨t, ht, he⟩ := List.mem_map.1 h
  split at he
  · exact .inl he.symm
  · rename_i hne; subst he; exact .inr ⟨ht, hne⟩
theorem delS_mem {l : List Srf} {c n : Int} {s : Srf} : s ∈ delS l c n ↔ s ∈ l ∧ skey s ≠ (c, n) := by
  unfold delS
  rw [List.mem_filter]
  constructor
  · rintro ⟨h1, h2⟩; exact ⟨h1, fun e => by rw [isK_iff.2 e] at h2; simp at h2⟩
  · rintro ⟨h1, h2⟩; exact ⟨h1, by cases h : isK c n s; rfl; exact absurd (isK_iff.1 h) h2⟩
theorem delS_keys (l : List Srf) (c n : Int) : (delS l c n).map skey = (l.map skey).filter fun k => !(k == (c, n)) := by
  unfold delS
  rw [List.filter_map]
  refine congrArg (List.map skey) (List.filter_congr fun s _ => ?_)
  rw [Bool.eq_iff_iff]
  by_cases e1 : s.cl = c <;> simp [isK, skey, e1]
theorem delS_nd {l : List Srf} (h : (l.map skey).Nodup) (c n : Int) : ((delS l c n).map skey).Nodup := by
  rw [delS_keys]
  exact h.sublist List.filter_sublist

section
variable {C U : Nat → Prop} {w : World} {sb : Nat} {beh : Int} {l : List Srf} {mb : Nat} {ov : Value} {L : List Ke} {clock : Nat} {bk : Int → Int → Nat} {pv : Int → Int → Value}
/-- Blocks that cannot be the same. -/
theorem Scn.bk_sb (h : Scn C U w sb beh l mb ov L clock bk pv) {s : Srf} (hs : s ∈ l) : bk s.cl s.num ≠ sb := by
  intro e
  have h1 := (h.surf s hs).1
  rw [SfAt, e, h.scm.blk] at h1
  simp at h1
theorem Scn.bk_mb (h : Scn C U w sb beh l mb ov L clock bk pv) {s : Srf} (hs : s ∈ l) : bk s.cl s.num ≠ mb := by
  intro e
  have h1 := (h.surf s hs).1
  rw [SfAt, e, h.scm.map] at h1
  simp at h1
theorem Scn.bk_ov (h : Scn C U w sb beh l mb ov L clock bk pv) {s : Srf} (hs : s ∈ l) : ov.ownBlock ≠ Option.some (bk s.cl s.num) := row_kind h.row (h.surf s hs).1 (by decide)
theorem Scn.sb_mb (h : Scn C U w sb beh l mb ov L clock bk pv) : sb ≠ mb := by
  intro e
  have h1 := h.scm.blk
  rw [e, h.scm.map] at h1
  simp at h1
theorem Scn.sb_ov (h : Scn C U w sb beh l mb ov L clock bk pv) : ov.ownBlock ≠ Option.some sb := row_kind h.row h.scm.blk (by decide)
theorem Scn.mb_ov (h : Scn C U w sb beh l mb ov L clock bk pv) : ov.ownBlock ≠ Option.some mb := by
  intro e
  obtain ⟨cs, fz, hg⟩ := row_heap h.row e
  rw [h.scm.map] at hg
  simp at hg
/-- A surface's cells are others. -/
theorem Scn.upd (h : Scn C U w sb beh l mb ov L clock bk pv) (hCU : ∀ k, C k → ¬ U k) {s u : Srf} (hs : s ∈ l) (hk : skey u = skey s) {w' : World} {v : Value} (hb : But (fun k => k = bk s.cl s.num) w w') (hS : SfAt w' (bk s.cl s.num) u v) (hR : RdN U w' v u.px) :
    Scn C U w' sb beh (putS l u) mb ov L clock bk (fun c n => if (c, n) = skey s then v else pv c n) where
  scm := h.scm.but hb (fun e => h.bk_sb hs e.symm) (fun e => h.bk_mb hs e.symm)
  csb := h.csb
  cmb := h.cmb
  cov := h.cov
  row := by
    have e : (putS l u).map (fun s => k2 (skey s)) = l.map (fun s => k2 (skey s)) := by
      have := congrArg (List.map k2) (putS_keys l u)
      simpa [List.map_map, Function.comp_def] using this
    rw [e]
    exact row_but h.row hb (fun k hk e => h.bk_ov hs (by rw [hk, e]))
  surf := by
    intro t ht
    rcases putS_mem ht with rfl | ⟨ht, hne⟩
    · have e1 : t.cl = s.cl := by have := hk; simp [skey] at this; exact this.1
      have e2 : t.num = s.num := by have := hk; simp [skey] at this; exact this.2
      rw [e1, e2, if_pos (show (s.cl, s.num) = skey s from rfl)]
      exact ⟨hS, (h.surf s hs).2.1, hR⟩
    · have hne' : ¬ (t.cl, t.num) = skey s := fun e => hne (by rw [hk, ← e]; rfl)
      rw [if_neg hne']
      have ⟨a1, a2, a3⟩ := h.surf t ht
      refine ⟨hb.heap a1 (fun e => hne' (h.inj t ht s hs e)), a2, a3.but hb (fun k hu e => hCU k (by rw [e]; exact (h.surf s hs).2.1) hu)⟩
  inj := by
    intro a ha b hb' e
    have f : ∀ x ∈ putS l u, ∃ y ∈ l, skey y = skey x := by
      intro x hx
      rcases putS_mem hx with rfl | ⟨hx, _⟩
      · exact ⟨s, hs, hk.symm⟩
      · exact ⟨x, hx, rfl⟩
    obtain ⟨a', ha', ea⟩ := f a ha
    obtain ⟨b', hb'', eb⟩ := f b hb'
    have ga : a'.cl = a.cl ∧ a'.num = a.num := by simpa [skey] using ea
    have gb : b'.cl = b.cl ∧ b'.num = b.num := by simpa [skey] using eb
    rw [← ea, ← eb]
    refine h.inj a' ha' b' hb'' ?_
    rw [ga.1, ga.2, gb.1, gb.2]; exact e
  nd := by rw [putS_keys]; exact h.nd
  ent := by intro e he; rw [putS_keys]; exact h.ent e he
  rev := by
    intro t ht
    have : skey t ∈ (putS l u).map skey := List.mem_map.2 ⟨t, ht, rfl⟩
    rw [putS_keys] at this
    obtain ⟨y, hy, e⟩ := List.mem_map.1 this
    have := h.rev y hy
    have g : y.cl = t.cl ∧ y.num = t.num := by simpa [skey] using e
    rw [g.1, g.2] at this
    exact this
  ndL := h.ndL
/-- The order is another one. -/
theorem Scn.order (h : Scn C U w sb beh l mb ov L clock bk pv) {l' : List Srf} (hp : l'.Perm l) {w' : World} {ov' : Value} {C' : Nat → Prop} (hC : ∀ k, C k → C' k) {S : Nat → Prop} (hb : But S w w') (hS : ∀ k, S k → k = sb ∨ ov.ownBlock = Option.some k) (hCU : ∀ k, C k → ¬ U k)
    (hblk : w'.heap[sb]? = Option.some (.cells #[.map (Option.some mb), ov', .int .i64 beh] 146 (0, 0))) (hrow : Own2 w' 0 143 ov' (l'.map fun s => k2 (skey s))) (hcv : ∀ k, ov'.ownBlock = Option.some k → C' k) :
    Scn C' U w' sb beh l' mb ov' L clock bk pv where
  scm := ⟨hblk, hb.heap h.scm.map (fun hs => by rcases hS _ hs with e | e; exact h.sb_mb e.symm; exact h.mb_ov e)⟩
  csb := hC _ h.csb
  cmb := hC _ h.cmb
  cov := hcv
  row := hrow
  surf := fun s hs => by
    have hs' := hp.mem_iff.1 hs
    have ⟨a1, a2, a3⟩ := h.surf s hs'
    refine ⟨hb.heap a1 (fun hS' => by rcases hS _ hS' with e | e; exact h.bk_sb hs' e; exact h.bk_ov hs' e), hC _ a2, a3.but hb (fun k hu hS' => ?_)⟩
    rcases hS _ hS' with e | e
    · exact hCU k (by rw [e]; exact h.csb) hu
    · exact hCU k (h.cov k e) hu
  inj := fun s hs t ht e => h.inj s (hp.mem_iff.1 hs) t (hp.mem_iff.1 ht) e
  nd := (hp.map skey).nodup_iff.2 h.nd
  ent := fun e he => ⟨(hp.map skey).mem_iff.2 (h.ent e he).1, (h.ent e he).2⟩
  rev := fun s hs => h.rev s (hp.mem_iff.1 hs)
  ndL := h.ndL
/-- A surface more. -/
theorem Scn.more (h : Scn C U w sb beh l mb ov L clock bk pv) {u : Srf} (hu : skey u ∉ l.map skey) {w' : World} {ov' v : Value} {C' : Nat → Prop} {nb : Nat} (hC : ∀ k, C k → C' k) (hn : C' nb) (hnb : w.heap.size ≤ nb) {S : Nat → Prop} (hb : But S w w') (hS : ∀ k, S k → k = sb ∨ k = mb ∨ ov.ownBlock = Option.some k) (hCU : ∀ k, C k → ¬ U k)
    (hblk : w'.heap[sb]? = Option.some (.cells #[.map (Option.some mb), ov', .int .i64 beh] 146 (0, 0))) (hmap : w'.heap[mb]? = Option.some (.map ((L ++ [Ke.mk u.cl u.num (.pointer (Option.some ⟨nb, 0, Option.none⟩)) clock]).map ke).toArray (clock + 1)))
    (hrow : Own2 w' 0 143 ov' ((l ++ [u]).map fun s => k2 (skey s))) (hcv : ∀ k, ov'.ownBlock = Option.some k → C' k) (hSf : SfAt w' nb u v) (hR : RdN U w' v u.px) :
    Scn C' U w' sb beh (l ++ [u]) mb ov' (L ++ [Ke.mk u.cl u.num (.pointer (Option.some ⟨nb, 0, Option.none⟩)) clock]) (clock + 1) (fun c n => if (c, n) = skey u then nb else bk c n) (fun c n => if (c, n) = skey u then v else pv c n) := by
  have hne : ∀ s ∈ l, ¬ (s.cl, s.num) = skey u := fun s hs e => hu (List.mem_map.2 ⟨s, hs, e⟩)
  have hlt : ∀ s ∈ l, bk s.cl s.num < w.heap.size := fun s hs => lt_of_heap (h.surf s hs).1
  have hself : (u.cl, u.num) = skey u := rfl
  have hmem : ∀ s, s ∈ l ++ [u] ↔ s ∈ l ∨ s = u := fun s => by simp
  refine ⟨⟨hblk, hmap⟩, hC _ h.csb, hC _ h.cmb, hcv, hrow, ?_, ?_, ?_, ?_, ?_, ?_⟩
  · intro s hs
    rcases (hmem s).1 hs with hs | rfl
    · rw [if_neg (hne s hs), if_neg (hne s hs)]
      have ⟨a1, a2, a3⟩ := h.surf s hs
      refine ⟨hb.heap a1 (fun hS' => ?_), hC _ a2, a3.but hb (fun k hu hS' => ?_)⟩
      · rcases hS _ hS' with e | e | e
        · exact h.bk_sb hs e
        · exact h.bk_mb hs e
        · exact h.bk_ov hs e
      · rcases hS _ hS' with e | e | e
        · exact hCU k (by rw [e]; exact h.csb) hu
        · exact hCU k (by rw [e]; exact h.cmb) hu
        · exact hCU k (h.cov k e) hu
    · rw [if_pos hself, if_pos hself]
      exact ⟨hSf, hn, hR⟩
  · intro s hs' t ht'
    rcases (hmem s).1 hs' with hs | rfl <;> rcases (hmem t).1 ht' with ht | rfl
    · rw [if_neg (hne s hs), if_neg (hne t ht)]; exact h.inj s hs t ht
    · rw [if_neg (hne s hs), if_pos hself]; intro e; have := hlt s hs; omega
    · rw [if_neg (hne t ht), if_pos hself]; intro e; have := hlt t ht; omega
    · intro _; rfl
  · rw [List.map_append, List.nodup_append]
    refine ⟨h.nd, by simp, ?_⟩
    intro a ha b hb' e
    simp at hb'
    subst hb' e
    exact hu ha
  · intro e he
    rcases List.mem_append.1 he with he | he
    · obtain ⟨g1, g2⟩ := h.ent e he
      refine ⟨by rw [List.map_append]; exact List.mem_append_left _ g1, ?_⟩
      rw [if_neg (fun e' : (e.c, e.n) = skey u => hu (by rw [← e']; exact g1))]
      exact g2
    · simp at he
      subst he
      refine ⟨by simp [skey], ?_⟩
      simp [skey]
  · intro s hs
    rw [List.map_append]
    rcases (hmem s).1 hs with hs | rfl
    · exact List.mem_append_left _ (h.rev s hs)
    · exact List.mem_append_right _ (by simp [kk])
  · rw [List.map_append, List.nodup_append]
    refine ⟨h.ndL, by simp, ?_⟩
    intro a ha b hb' e
    simp [kk] at hb'
    subst hb' e
    obtain ⟨x, hx, e⟩ := List.mem_map.1 ha
    have := (h.ent x hx).1
    rw [show (x.c, x.n) = (u.cl, u.num) from e] at this
    exact hu this
/-- A surface less. -/
theorem Scn.less (h : Scn C U w sb beh l mb ov L clock bk pv) {c n : Int} {i : Nat} {x : Ke} (hi : L[i]? = Option.some x) (hx : kk x = (c, n)) {w' : World} {ov' : Value} {C' : Nat → Prop} (hC : ∀ k, C k → C' k) {S : Nat → Prop} (hb : But S w w') (hS : ∀ k, S k → k = sb ∨ k = mb ∨ ov.ownBlock = Option.some k) (hCU : ∀ k, C k → ¬ U k)
    (hblk : w'.heap[sb]? = Option.some (.cells #[.map (Option.some mb), ov', .int .i64 beh] 146 (0, 0))) (hmap : w'.heap[mb]? = Option.some (.map ((L.eraseIdx i).map ke).toArray clock))
    (hrow : Own2 w' 0 143 ov' ((delS l c n).map fun s => k2 (skey s))) (hcv : ∀ k, ov'.ownBlock = Option.some k → C' k) :
    Scn C' U w' sb beh (delS l c n) mb ov' (L.eraseIdx i) clock bk pv := by
  have hmL : ∀ e, e ∈ L.eraseIdx i ↔ e ∈ L ∧ kk e ≠ (c, n) := by
    intro e
    rw [List.mem_eraseIdx_iff_getElem?]
    have hnd : ∀ a b : Nat, a < b → b < (L.map kk).length → (L.map kk)[a]? ≠ (L.map kk)[b]? := fun a b hab hb' e => by
      have := List.pairwise_iff_getElem.1 h.ndL a b (by omega) hb' hab
      rw [List.getElem?_eq_getElem (by omega), List.getElem?_eq_getElem hb'] at e
      exact this (Option.some.inj e)
    constructor
    · rintro ⟨j, hj, he⟩
      refine ⟨List.mem_of_getElem? he, fun ek => ?_⟩
      have k1 : (L.map kk)[j]? = Option.some (c, n) := by rw [List.getElem?_map, he]; simp [ek]
      have k2 : (L.map kk)[i]? = Option.some (c, n) := by rw [List.getElem?_map, hi]; simp [hx]
      have li : i < (L.map kk).length := (List.getElem?_eq_some_iff.1 k2).1
      have lj : j < (L.map kk).length := (List.getElem?_eq_some_iff.1 k1).1
      rcases Nat.lt_or_gt_of_ne hj with hlt | hgt
      · exact hnd j i hlt li (by rw [k1, k2])
      · exact hnd i j hgt lj (by rw [k1, k2])
    · rintro ⟨he, ek⟩
      obtain ⟨j, hj⟩ := List.mem_iff_getElem?.1 he
      refine ⟨j, fun e' => ek ?_, hj⟩
      subst e'
      rw [hi] at hj
      simp only [Option.some.injEq] at hj
      rw [← hj, hx]
  refine ⟨⟨hblk, hmap⟩, hC _ h.csb, hC _ h.cmb, hcv, hrow, ?_, ?_, delS_nd h.nd c n, ?_, ?_, ?_⟩
  · intro s hs
    have hs := (delS_mem.1 hs).1
    have ⟨a1, a2, a3⟩ := h.surf s hs
    refine ⟨hb.heap a1 (fun hS' => ?_), hC _ a2, a3.but hb (fun k hu hS' => ?_)⟩
    · rcases hS _ hS' with e | e | e
      · exact h.bk_sb hs e
      · exact h.bk_mb hs e
      · exact h.bk_ov hs e
    · rcases hS _ hS' with e | e | e
      · exact hCU k (by rw [e]; exact h.csb) hu
      · exact hCU k (by rw [e]; exact h.cmb) hu
      · exact hCU k (h.cov k e) hu
  · intro s hs t ht
    exact h.inj s (delS_mem.1 hs).1 t (delS_mem.1 ht).1
  · intro e he
    obtain ⟨h1, h2⟩ := (hmL e).1 he
    refine ⟨?_, (h.ent e h1).2⟩
    rw [delS_keys, List.mem_filter]
    refine ⟨(h.ent e h1).1, ?_⟩
    have : ¬ (e.c, e.n) = (c, n) := h2
    simp only [Prod.mk.injEq] at this
    simp only [Bool.not_eq_true', beq_eq_false_iff_ne, ne_eq, Prod.mk.injEq]
    exact this
  · intro s hs
    obtain ⟨h1, h2⟩ := delS_mem.1 hs
    obtain ⟨e, he, hk⟩ := List.mem_map.1 (h.rev s h1)
    refine List.mem_map.2 ⟨e, (hmL e).2 ⟨he, ?_⟩, hk⟩
    rw [hk]; exact h2
  · rw [map_erase]
    exact h.ndL.sublist (List.eraseIdx_sublist _ _)
end
end Go.Proofs.Ytfnockbgkcgpkaa
