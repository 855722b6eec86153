import Derived.Test.YtfnockbgkcgpkaaKaam
import Derived.Test.YtfnockbgkcgpkaaKaan
set_option linter.all false
namespace Go.Proofs.Ytfnockbgkcgpkaa
open Go.RowKit Go.Proofs.Panes
set_option maxRecDepth 100000

/-- A client: what waits, its credit, the surfaces that it will have. -/
structure Cli where
  q : List (List Opn)
  cr : Int
  own : List Bool
def qcell (t : Value × List Opn) : P2 := (t.1, .int .i64 (costOf t.2))
/-- A client in memory: its own blocks in C, what waits in U. -/
structure KlM (C U : Nat → Prop) (w : World) (cp S : Nat) (k : Cli) (qv : Value) (mq : List (Value × List Opn)) (b : List Bool) : Prop where
  cell : w.heap[cp]? = some (.cells ([qv, .int .i64 k.cr] ++ b.map Value.bool).toArray 126)
  row : Own2 w 0 132 qv (mq.map qcell)
  ops : ∀ t ∈ mq, RdO U w t.1 t.2
  q : mq.map Prod.snd = k.q
  bl : b.length = 4
  own : b.take S = k.own
  cc : C cp
  cq : ∀ g, qv.ownBlock = some g → C g
def KlAt (C U : Nat → Prop) (w : World) (cp S : Nat) (k : Cli) : Prop := ∃ qv mq b, KlM C U w cp S k qv mq b
theorem KlM.but {C U T : Nat → Prop} {w w' : World} {cp S : Nat} {k : Cli} {qv : Value} {mq : List (Value × List Opn)} {b : List Bool} (h : KlM C U w cp S k qv mq b) (hb : But T w w') (hC : ∀ x, C x → ¬ T x) (hU : ∀ x, U x → ¬ T x) : KlM C U w' cp S k qv mq b :=
  ⟨hb.heap h.cell (hC _ h.cc), row_but h.row hb (fun g hg => hC g (h.cq g hg)), fun t ht => (h.ops t ht).but hb hU, h.q, h.bl, h.own, h.cc, h.cq⟩
theorem KlAt.but {C U T : Nat → Prop} {w w' : World} {cp S : Nat} {k : Cli} (h : KlAt C U w cp S k) (hb : But T w w') (hC : ∀ x, C x → ¬ T x) (hU : ∀ x, U x → ¬ T x) : KlAt C U w' cp S k := by
  obtain ⟨qv, mq, b, h⟩ := h
  exact ⟨qv, mq, b, h.but hb hC hU⟩
theorem KlAt.mono {C U C' U' : Nat → Prop} {w : World} {cp S : Nat} {k : Cli} (h : KlAt C U w cp S k) (hC : ∀ x, C x → C' x) (hU : ∀ x, U x → U' x) : KlAt C' U' w cp S k := by
  obtain ⟨qv, mq, b, h⟩ := h
  exact ⟨qv, mq, b, h.cell, h.row, fun t ht => (h.ops t ht).wide hU, h.q, h.bl, h.own, hC _ h.cc, fun g hg => hC g (h.cq g hg)⟩
theorem qcells_one {U : Nat → Prop} {w : World} {mq : List (Value × List Opn)} (h : ∀ t ∈ mq, RdO U w t.1 t.2) : One2 (mq.map qcell) := by
  intro p hp
  obtain ⟨t, ht, rfl⟩ := List.mem_map.1 hp
  obtain ⟨ao, cap, e, _⟩ := h t ht
  simp only [qcell]
  rw [e]
  exact ⟨rfl, rfl⟩

/-- How many of a queue a credit is enough for, and what is left of it. -/
def takeN (cr : Int) : List (List Opn) → Nat × Int
  | [] => (0, cr)
  | o :: l => if costOf o ≤ cr then ((takeN (cr - costOf o) l).1 + 1, (takeN (cr - costOf o) l).2) else (0, cr)
theorem takeN_le : ∀ (l : List (List Opn)) (cr : Int), (takeN cr l).1 ≤ l.length
  | [], _ => Nat.le_refl _
  | o :: l, cr => by
    unfold takeN
    split
    · have := takeN_le l (cr - costOf o); simp only [List.length_cons]; omega
    · exact Nat.zero_le _
/-- What a tick's credit admits, and the client behind it. -/
def admitC (k : Cli) (qn : Int) : List (List Opn) × Cli :=
  (k.q.take (takeN (k.cr + qn) k.q).1, { k with q := k.q.drop (takeN (k.cr + qn) k.q).1, cr := if k.q.length ≤ (takeN (k.cr + qn) k.q).1 then 0 else (takeN (k.cr + qn) k.q).2 })

theorem KlM.credit {C U : Nat → Prop} {w : World} {cp S : Nat} {k : Cli} {qv : Value} {mq : List (Value × List Opn)} {b : List Bool} (h : KlM C U w cp S k qv mq b) (hCU : ∀ x, C x → ¬ U x) (cr : Int) : KlM C U (w.setCell ⟨cp, 1, none⟩ (.int .i64 cr)) cp S { k with cr := cr } qv mq b := by
  have hb : But (fun x => x = cp) w (w.setCell ⟨cp, 1, none⟩ (.int .i64 cr)) := (But.refl (fun x => x = cp) w).setCell (p := ⟨cp, 1, none⟩) (.inl rfl) _
  refine ⟨?_, row_but h.row hb (fun g hg e => row_kind h.row h.cell (by decide) (by rw [hg, e])), fun t ht => (h.ops t ht).but hb (fun x hx e => hCU cp h.cc (by rw [← e]; exact hx)), h.q, h.bl, h.own, h.cc, h.cq⟩
  have := blk_set (i := 1) h.cell (.int .i64 cr)
  simpa using this
theorem KlM.drewN {C U : Nat → Prop} {w : World} {cp S : Nat} {k : Cli} {qv : Value} {mq : List (Value × List Opn)} {b : List Bool} (h : KlM C U w cp S k qv mq b) (n : Nat) : KlM C U (w.drewN n) cp S k qv mq b := ⟨h.cell, h.row, h.ops, h.q, h.bl, h.own, h.cc, h.cq⟩

/-- The loop of Admit. -/
structure AdI (C U : Nat → Prop) (w wr : World) (cp S : Nat) (k : Cli) (qv : Value) (mq : List (Value × List Opn)) (b : List Bool) (cr0 : Int) (j : Nat) (cr : Int) : Prop where
  jn : j ≤ mq.length
  cb : 0 ≤ cr ∧ cr ≤ 2000000
  eq : takeN cr0 k.q = (j + (takeN cr (k.q.drop j)).1, (takeN cr (k.q.drop j)).2)
  kl : KlM C U wr cp S { k with cr := cr } qv mq b
  bt : But (fun x => x = cp) w wr
theorem AdI.go {C U : Nat → Prop} {w wr : World} {cp S : Nat} {k : Cli} {qv : Value} {mq : List (Value × List Opn)} {b : List Bool} {cr0 : Int} {j : Nat} {cr : Int} (h : AdI C U w wr cp S k qv mq b cr0 j cr) (hCU : ∀ x, C x → ¬ U x) {o : List Opn} (ho : k.q[j]? = some o) (hc : 0 ≤ costOf o ∧ costOf o ≤ cr) (n : Nat) : AdI C U w ((wr.drewN n).setCell ⟨cp, 1, none⟩ (.int .i64 (cr - costOf o))) cp S k qv mq b cr0 (j + 1) (cr - costOf o) := by
  have hjl := (List.getElem?_eq_some_iff.1 ho).1
  have hql : k.q.length = mq.length := by rw [← h.kl.q]; simp
  have hd : k.q.drop j = o :: k.q.drop (j + 1) := by
    rw [← List.getElem_cons_drop (h := hjl)]
    congr 1
    exact (List.getElem?_eq_some_iff.1 ho).2
  have hcb := h.cb
  refine ⟨by omega, by omega, ?_, (h.kl.drewN n).credit hCU _, (h.bt.drewN n).setCell (p := ⟨cp, 1, none⟩) (.inl rfl) _⟩
  rw [h.eq, hd]
  simp only [takeN, if_pos hc.2, Prod.mk.injEq, and_true]
  omega
theorem AdI.done {C U : Nat → Prop} {w wr : World} {cp S : Nat} {k : Cli} {qv : Value} {mq : List (Value × List Opn)} {b : List Bool} {cr0 : Int} {j : Nat} {cr : Int} (h : AdI C U w wr cp S k qv mq b cr0 j cr) (hn : ∀ o, k.q[j]? = some o → ¬ costOf o ≤ cr) : takeN cr0 k.q = (j, cr) := by
  rw [h.eq]
  cases hd : k.q.drop j with
  | nil => simp [takeN]
  | cons o l =>
    have hjl : j < k.q.length := by
      have := congrArg List.length hd
      simp at this; omega
    have ho : k.q[j]? = some o := by
      have := congrArg List.head? hd
      simpa [List.head?_drop] using this
    simp [takeN, hn o ho]
end Go.Proofs.Ytfnockbgkcgpkaa
set_option linter.all false
namespace Go.Proofs.Ytfnockbgkcgpkaa
open Go.RowKit Go.Proofs.Panes
set_option maxRecDepth 100000

theorem adm_clone {w : World} {g n cap : Nat} {mq : List (Value × List Opn)} (hO : Own2 w 0 132 (.slice (some ⟨g, 0, none⟩) n cap) (mq.map qcell)) (h1 : One2 (mq.map qcell)) (hl : mq.length ≤ 1000) (j : Nat) (hj : j ≤ mq.length) :
    Calls Try.prog 116 #[.slice (some ⟨g, 0, none⟩) j cap] w fun e w' => (∃ av, e = .returned av ∧ Own2 w' w.heap.size 132 av ((mq.take j).map qcell)) ∧ Below w.heap.size w w' := by
  obtain ⟨R, hR, hc, _, hb, hm⟩ := hO.row
  refine (clT_any (w := w) (b := g) (off := 0) (n := j) (cap := cap) (xs := c2 ((mq.take j).map qcell)) (by rw [c2_len, List.length_map, List.length_take]; omega) (fun t u hu => ?_) (One2.cells (fun p hp => h1 p ?_)) (by omega) (fun _ => lt_of_heap hR)).mono ?_
  · have ht := (List.getElem?_eq_some_iff.1 hu).1
    rw [c2_len, List.length_map, List.length_take] at ht
    rw [Nat.zero_add, blk_cell hR, List.getElem?_toArray, c2_append, List.getElem?_append_left (by rw [c2_len, List.length_map]; omega)]
    rw [List.map_take, ← c2_take, List.getElem?_take_of_lt (by omega)] at hu
    exact hu
  · rw [List.map_take] at hp; exact List.mem_of_mem_take hp
  · rintro e w' ⟨⟨cv, rfl, ho⟩, hb⟩
    refine ⟨⟨cv, rfl, ?_⟩, hb⟩
    have el : ((mq.take j).map qcell).length = j := by rw [List.length_map, List.length_take]; omega
    unfold Own2
    rw [el]; exact ho
theorem adm_delete {w : World} {g n cap : Nat} {mq : List (Value × List Opn)} (hO : Own2 w 0 132 (.slice (some ⟨g, 0, none⟩) n cap) (mq.map qcell)) (h1 : One2 (mq.map qcell)) (hl : mq.length ≤ 1000) (j : Nat) (hj : j ≤ mq.length) :
    Calls Try.prog 117 #[.slice (some ⟨g, 0, none⟩) n cap, .int .i64 0, .int .i64 (j : Int)] w fun e w' => e = .returned (.slice (some ⟨g, 0, none⟩) (n - j) cap) ∧ Own2 w' 0 132 (.slice (some ⟨g, 0, none⟩) (n - j) cap) ((mq.drop j).map qcell) ∧ But (fun k => k = g) w w' := by
  obtain ⟨R, hR, hc, hn, hb, hm⟩ := hO.row
  have hn' : n = mq.length := by simpa using hn
  rcases Nat.eq_zero_or_pos j with rfl | hj0
  · refine (tdelete_zero w (some ⟨g, 0, none⟩) n cap (by rw [List.length_append, List.length_map] at hc; omega)).mono ?_
    rintro e w' ⟨rfl, q, rfl⟩
    refine ⟨by simp, by rw [Nat.sub_zero]; exact hO, .of_below (below_drewN (Below.refl _ _) q)⟩
  · subst hn'
    have hO' : Own2 w 0 132 (.slice (some ⟨g, 0, none⟩) (mq.map qcell).length cap) (mq.map qcell) := by simpa using hO
    have hD : (mq.drop j).map qcell = (mq.map qcell).take 0 ++ (mq.map qcell).drop j := by simp [List.map_drop]
    have := tdelete_any hO' h1 0 j (by omega) (by simpa using hj) (by simpa using hl) ((mq.drop j).map qcell) hD
    have el : ((mq.drop j).map qcell).length = mq.length - j := by simp
    rw [el, List.length_map] at this
    exact this

theorem admit_end {C U : Nat → Prop} {w wr w1 w2 : World} {cp S : Nat} {k : Cli} {g n cap : Nat} {mq : List (Value × List Opn)} {b : List Bool} {cr0 : Int} {j : Nat} {cr : Int} (h : AdI C U w wr cp S k (.slice (some ⟨g, 0, none⟩) n cap) mq b cr0 j cr) (hCU : ∀ x, C x → ¬ U x) (hB1 : Below wr.heap.size wr w1) (hO2 : Own2 w2 0 132 (.slice (some ⟨g, 0, none⟩) (n - j) cap) ((mq.drop j).map qcell)) (hB2 : But (fun k => k = g) w1 w2) :
    KlM C U (w2.setCell ⟨cp, 0, none⟩ (.slice (some ⟨g, 0, none⟩) (n - j) cap)) cp S { k with q := k.q.drop j, cr := cr } (.slice (some ⟨g, 0, none⟩) (n - j) cap) (mq.drop j) b ∧ But C w (w2.setCell ⟨cp, 0, none⟩ (.slice (some ⟨g, 0, none⟩) (n - j) cap)) := by
  have hk := h.kl
  have hcg : C g := hk.cq g rfl
  have hne : cp ≠ g := fun e => row_kind hk.row hk.cell (by decide) (by rw [e]; rfl)
  have h1 := hk.but (T := fun _ => False) (.of_below hB1) (fun _ _ e => e) (fun _ _ e => e)
  have hc2 := hB2.heap h1.cell hne
  have hs : But (fun x => x = cp) w2 (w2.setCell ⟨cp, 0, none⟩ (.slice (some ⟨g, 0, none⟩) (n - j) cap)) := (But.refl (fun x => x = cp) w2).setCell (p := ⟨cp, 0, none⟩) (.inl rfl) _
  refine ⟨⟨?_, ?_, ?_, ?_, hk.bl, hk.own, hk.cc, fun x hx => by simp [Value.ownBlock] at hx; subst hx; exact hcg⟩, ?_⟩
  · have := blk_set (i := 0) hc2 (.slice (some ⟨g, 0, none⟩) (n - j) cap)
    simpa using this
  · exact row_but hO2 hs (fun x hx e => by simp [Value.ownBlock] at hx; omega)
  · intro t ht
    exact ((h1.ops t (List.mem_of_mem_drop ht)).but hB2 (fun x hx e => hCU g hcg (by rw [← e]; exact hx))).but hs (fun x hx e => hCU cp hk.cc (by rw [← e]; exact hx))
  · rw [List.map_drop, hk.q]
  · exact ((h.bt.wide (fun x _ e => by rw [e]; exact hk.cc)).trans ((But.of_below hB1).trans (hB2.wide (fun x _ e => by rw [e]; exact hcg)))).trans (hs.wide (fun x _ e => by rw [e]; exact hk.cc))

/-- What Admit leaves. -/
def AdmPost (C U : Nat → Prop) (w : World) (cp S : Nat) (k : Cli) (qn : Int) (e : Ending) (w' : World) : Prop :=
  (∃ (av : Value) (ma : List (Value × List Opn)), e = .returned av ∧ Own2 w' w.heap.size 132 av (ma.map qcell) ∧ ma.map Prod.snd = (admitC k qn).1 ∧ (∀ t ∈ ma, RdO U w' t.1 t.2) ∧ KlAt C U w' cp S (admitC k qn).2) ∧ But C w w'

theorem own2_mono {w : World} {b b' : Nat} {t : TypeId} {v : Value} {l : List P2} (h : Own2 w b t v l) (hb : b' ≤ b) : Own2 w b' t v l := by
  refine ⟨h.1, ?_⟩
  rcases h.2 with h | ⟨g, c, cur, e, hg, r⟩
  · exact .inl h
  · exact .inr ⟨g, c, cur, e, Nat.le_trans hb hg, r⟩
theorem admit_post {C U : Nat → Prop} {w wr w1 w2 : World} {cp S : Nat} {k : Cli} {g n cap : Nat} {mq : List (Value × List Opn)} {b : List Bool} {j m : Nat} {cr qn : Int} {av : Value} (h : AdI C U w wr cp S k (.slice (some ⟨g, 0, none⟩) n cap) mq b (k.cr + qn) j cr) (hd : takeN (k.cr + qn) k.q = (j, cr)) (hCU : ∀ x, C x → ¬ U x) (hav : Own2 w1 wr.heap.size 132 av ((mq.take j).map qcell)) (hB1 : Below wr.heap.size wr w1) (hm : m = n - j) (hO2 : Own2 w2 0 132 (.slice (some ⟨g, 0, none⟩) m cap) ((mq.drop j).map qcell)) (hB2 : But (fun k => k = g) w1 w2) :
    (¬ k.q.length ≤ j → AdmPost C U w cp S k qn (.returned av) (w2.setCell ⟨cp, 0, none⟩ (.slice (some ⟨g, 0, none⟩) m cap))) ∧ (k.q.length ≤ j → AdmPost C U w cp S k qn (.returned av) ((w2.setCell ⟨cp, 0, none⟩ (.slice (some ⟨g, 0, none⟩) m cap)).setCell ⟨cp, 1, none⟩ (.int .i64 0))) := by
  subst hm
  have hk := h.kl
  obtain ⟨hE, hB⟩ := admit_end h hCU hB1 hO2 hB2
  have hcg : C g := hk.cq g rfl
  have hg := lt_of_heap (row_heap hk.row (k := g) rfl).choose_spec.choose_spec
  have hcp := lt_of_heap hk.cell
  have h1 := hk.but (T := fun _ => False) (.of_below hB1) (fun _ _ e => e) (fun _ _ e => e)
  obtain ⟨w3, hw3⟩ : ∃ w3, w3 = w2.setCell ⟨cp, 0, none⟩ (.slice (some ⟨g, 0, none⟩) (n - j) cap) := ⟨_, rfl⟩
  have hs : But (fun x => x = g ∨ x = cp) w1 w3 := by rw [hw3]; exact (hB2.wide (fun _ _ e => .inl e)).setCell (p := ⟨cp, 0, none⟩) (.inl (.inr rfl)) _
  rw [← hw3] at hE hB ⊢
  have hne : ∀ x, av.ownBlock = some x → ¬ (x = g ∨ x = cp) := fun x hx c => by have := (World.ownsRow.lt hav x hx).1; omega
  have hav3 := row_but hav hs hne
  have hops : ∀ t ∈ mq, RdO U w3 t.1 t.2 := fun t ht => (h1.ops t ht).but hs (fun x hx c => by
    rcases c with e | e
    · exact hCU g hcg (by rw [← e]; exact hx)
    · exact hCU cp hk.cc (by rw [← e]; exact hx))
  have e1 : (mq.take j).map Prod.snd = (admitC k qn).1 := by simp only [admitC, hd]; rw [List.map_take, hk.q]
  refine ⟨fun hn => ⟨⟨av, mq.take j, rfl, own2_mono hav3 h.bt.size, e1, fun t ht => hops t (List.mem_of_mem_take ht), ?_⟩, hB⟩, fun hn => ?_⟩
  · have : (admitC k qn).2 = { k with q := k.q.drop j, cr := cr } := by simp only [admitC, hd, if_neg hn]
    rw [this]; exact ⟨_, _, _, hE⟩
  · have hs4 : But (fun x => x = cp) w3 (w3.setCell ⟨cp, 1, none⟩ (.int .i64 0)) := (But.refl (fun x => x = cp) w3).setCell (p := ⟨cp, 1, none⟩) (.inl rfl) _
    refine ⟨⟨av, mq.take j, rfl, own2_mono (row_but hav3 hs4 (fun x hx e => hne x hx (.inr e))) h.bt.size, e1, fun t ht => (hops t (List.mem_of_mem_take ht)).but hs4 (fun x hx e => hCU cp hk.cc (by rw [← e]; exact hx)), ?_⟩, hB.trans (hs4.wide (fun x _ e => by rw [e]; exact hk.cc))⟩
    have : (admitC k qn).2 = { k with q := k.q.drop j, cr := 0 } := by simp only [admitC, hd, if_pos hn]
    rw [this]; exact ⟨_, _, _, hE.credit hCU 0⟩

set_option maxHeartbeats 4000000 in
theorem Admit_any {C U : Nat → Prop} {w : World} {cp S : Nat} {k : Cli} (h : KlAt C U w cp S k) (hCl : ∀ x, C x → x < w.heap.size) (hCU : ∀ x, C x → ¬ U x) (qn : Int) (hl : k.q.length ≤ 1000) (hq : 0 ≤ qn ∧ qn ≤ 1000000) (hcr : 0 ≤ k.cr ∧ k.cr ≤ 1000000) (hco : ∀ o ∈ k.q, 0 ≤ costOf o ∧ costOf o ≤ 1000000) :
    Calls Try.prog 92 #[.pointer (some ⟨cp, 0, none⟩), .int .i64 qn] w (AdmPost C U w cp S k qn) := by
  obtain ⟨qv, mq, b, hK⟩ := h
  have hml : k.q.length = mq.length := by rw [← hK.q]; simp
  have c0 : w.cell? ⟨cp, 0, none⟩ = some qv := blk_cell hK.cell 0
  have c1 : w.cell? ⟨cp, 1, none⟩ = some (.int .i64 k.cr) := blk_cell hK.cell 1
  have f0 : ∀ j, w.frozen? ⟨cp, j, none⟩ = false := fun j => blk_thaw hK.cell j
  have e1 : IntKind.i64.wrap (k.cr + qn) = k.cr + qn := by rw [IntKind.wrap_i64]; omega
  rcases hK.row.2 with ⟨hv, hn⟩ | ⟨g, cap, cur, hv, _, hg, hcc, hm, hz, ht⟩
  · have hmq : mq = [] := by simpa using hn
    subst hmq hv
    have hqe : k.q = [] := by rw [← hK.q]; rfl
    have hE : ∀ n : Nat, AdmPost C U w cp S k qn (.returned (.slice none 0 0)) ((((w.setCell ⟨cp, 1, none⟩ (.int .i64 (k.cr + qn))).drewN n).setCell ⟨cp, 0, none⟩ (.slice none 0 0)).setCell ⟨cp, 1, none⟩ (.int .i64 0)) := fun n => by
      have h1 := (hK.credit hCU (k.cr + qn)).drewN n
      have hb1 : But C w ((w.setCell ⟨cp, 1, none⟩ (.int .i64 (k.cr + qn))).drewN n) := ((But.refl C w).setCell (p := ⟨cp, 1, none⟩) (.inl hK.cc) _).drewN n
      generalize (w.setCell ⟨cp, 1, none⟩ (.int .i64 (k.cr + qn))).drewN n = w1 at *
      have hb2 : But C w1 ((w1.setCell ⟨cp, 0, none⟩ (.slice none 0 0)).setCell ⟨cp, 1, none⟩ (.int .i64 0)) := ((But.refl C w1).setCell (p := ⟨cp, 0, none⟩) (.inl hK.cc) _).setCell (p := ⟨cp, 1, none⟩) (.inl hK.cc) _
      refine ⟨⟨.slice none 0 0, [], rfl, ⟨rfl, .inl ⟨rfl, rfl⟩⟩, by simp [admitC, hqe], fun t ht => by simp at ht, .slice none 0 0, [], b, ?_, ⟨rfl, .inl ⟨rfl, rfl⟩⟩, fun t ht => by simp at ht, by simp [admitC, hqe], hK.bl, hK.own, hK.cc, fun g hg => by simp [Value.ownBlock] at hg⟩, hb1.trans hb2⟩
      have := blk_set (i := 1) (blk_set (i := 0) h1.cell (.slice none 0 0)) (.int .i64 0)
      simpa [admitC, hqe] using this
    have HE := hide hE
    have CN := hide (fun w => clT_nil w)
    have CD := hide (fun w => tdelete_zero w none 0 0 (Nat.le_refl _))
    clear hE hK hqe hml hco hl hcr hq hn
    go_enter Try.func92, Try.ntmps92
    go_wp2
    go_loopw [5] (fun m wr => m = .int .i64 0 ∧ ∃ q, wr = (w.setCell ⟨cp, 1, none⟩ (.int .i64 (k.cr + qn))).drewN q) (fun _ _ => 0)
    case atStart => exact ⟨rfl, 0, rfl⟩
    case round =>
      obtain ⟨rfl, q, rfl⟩ := hrel
      have hd : decide ((0 : Int) < ((0 : Nat) : Int)) = false := rfl
      go_wp2
      go_quiet (fail)
      go_wp2_with (first | (go_at_call 116; refine ((unhide CN) _).mono ?_; rintro e w' ⟨rfl, rfl⟩) | (go_at_call 117; refine ((unhide CD) _).mono ?_; rintro e w' ⟨rfl, q', rfl⟩))
      go_ret
      exact (unhide HE) _
  · subst hv
    obtain ⟨n, hnn⟩ : ∃ n, n = (mq.map qcell).length := ⟨_, rfl⟩
    have hnm : n = mq.length := by simpa using hnn
    rw [← hnn] at c0 hK
    have hcap : n ≤ cap := by rw [hnn]; exact hcc
    have hn3 : n ≤ 1000 := by omega
    have h0 : AdI C U w (w.setCell ⟨cp, 1, none⟩ (.int .i64 (k.cr + qn))) cp S k (.slice (some ⟨g, 0, none⟩) n cap) mq b (k.cr + qn) 0 (k.cr + qn) := ⟨Nat.zero_le _, by omega, by simp, hK.credit hCU _, (But.refl (fun x => x = cp) w).setCell (p := ⟨cp, 1, none⟩) (.inl rfl) _⟩
    have hcost : ∀ (j : Nat) (o : List Opn), k.q[j]? = some o → 0 ≤ costOf o ∧ costOf o ≤ 1000000 := fun j o ho => hco o (List.mem_of_getElem? ho)
    have H0 := hide h0
    have HCO := hide hcost
    have HML := hide hml
    have HNM := hide hnm
    have HCU := hide hCU
    have HKB := hide hK.cc
    have HQN := hide hnn
    clear h0 hcost hco hcr hq hml hnm hCU hK hnn hg hcc hm hz ht hCl
    go_enter Try.func92, Try.ntmps92
    go_wp2
    go_loopw [5] (fun m wr => ∃ (j : Nat) (cr : Int), m = .int .i64 j ∧ AdI C U w wr cp S k (.slice (some ⟨g, 0, none⟩) n cap) mq b (k.cr + qn) j cr) (fun m _ => n - (intOf m).toNat)
    case atStart => exact ⟨0, _, rfl, unhide H0⟩
    case round =>
      rename World => wq
      obtain ⟨j, cr, rfl, hI⟩ := hrel
      have hk := hI.kl
      have d0 : wq.cell? ⟨cp, 0, none⟩ = some (.slice (some ⟨g, 0, none⟩) n cap) := blk_cell hk.cell 0
      have d1 : wq.cell? ⟨cp, 1, none⟩ = some (.int .i64 cr) := blk_cell hk.cell 1
      have dz : ∀ j, wq.frozen? ⟨cp, j, none⟩ = false := fun j => blk_thaw hk.cell j
      have hjn : j ≤ n := by have := hI.jn; have := unhide HNM; omega
      have i0 : (0 : Int) ≤ (j : Int) := by omega
      have hcb := hI.cb
      by_cases hlt : j < n
      · obtain ⟨o, ho⟩ : ∃ o, k.q[j]? = some o := ⟨k.q[j]'(by have := unhide HML; have := unhide HNM; omega), by simp⟩
        have hcst := (unhide HCO) j o ho
        obtain ⟨R, hR, hc, -, hb, hm⟩ := hk.row.row
        have hmo : ∃ v, mq[j]? = some (v, o) := by
          have e : (mq.map Prod.snd)[j]? = some o := by rw [hk.q]; exact ho
          rw [List.getElem?_map] at e
          obtain ⟨⟨v, o'⟩, h1, h2⟩ := Option.map_eq_some_iff.1 e
          exact ⟨v, by rw [h1]; simp at h2; rw [h2]⟩
        obtain ⟨v, hv⟩ := hmo
        have q1 : wq.cell? ⟨g, j * 2 + 1, none⟩ = some (.int .i64 (costOf o)) := by
          have hq : (mq.map qcell)[j]? = some (qcell (v, o)) := by rw [List.getElem?_map, hv]; rfl
          have := (c2_at _ j _ hq).2
          rw [blk_cell hR, List.getElem?_toArray, c2_append, List.getElem?_append_left (List.getElem?_eq_some_iff.1 this).1, this]
          rfl
        have i1 : (j : Int) < (n : Int) := by omega
        obtain ⟨co, hco⟩ : ∃ co, co = costOf o := ⟨_, rfl⟩
        rw [← hco] at q1 hcst
        have HI := hide hI
        have HO := hide ho
        have HCC := hide hco
        clear hI hk hR hc hb hm hv ho hco
        have d1t : decide ((j : Int) < (n : Int)) = true := by simp; omega
        by_cases hle : co ≤ cr
        · have e2 : IntKind.i64.wrap (cr - co) = cr - co := by rw [IntKind.wrap_i64]; omega
          have d2t : decide (co ≤ cr) = true := by simp; omega
          go_wp2
          go_quiet (fail)
          go_wp2
          go_region
          go_wp2
          go_roundw
          case rel =>
            have := (unhide HI).go (unhide HCU) (unhide HO) (by rw [← unhide HCC]; omega)
            rw [← unhide HCC] at this
            exact ⟨j + 1, cr - co, by go_num, this _⟩
          case measure => simp [intOf]; omega
        · have d2f : decide (co ≤ cr) = false := by simp; omega
          have hdn := (unhide HI).done (fun o' ho' hle' => by rw [unhide HO] at ho'; cases ho'; rw [← unhide HCC] at hle'; exact hle hle')
          have HDN := hide hdn
          have i2 : (j : Int) ≤ (n : Int) := by omega
          have i3 : (j : Int) ≤ (cap : Int) := by omega
          clear hdn hcst HO HCC
          go_wp2
          go_quiet (fail)
          have hI2 : AdI C U w (wq.drewN nq) cp S k (.slice (some ⟨g, 0, none⟩) n cap) mq b (k.cr + qn) j cr := ⟨(unhide HI).jn, (unhide HI).cb, (unhide HI).eq, (unhide HI).kl.drewN nq, (unhide HI).bt.drewN nq⟩
          clear d0 d1 dz q1
          generalize wq.drewN nq = W at *
          have t0 : W.cell? ⟨cp, 0, none⟩ = some (.slice (some ⟨g, 0, none⟩) n cap) := blk_cell hI2.kl.cell 0
          obtain ⟨m, hm⟩ : ∃ m, m = n - j := ⟨_, rfl⟩
          have HM := hide hm
          have HCL := hide (adm_clone hI2.kl.row (qcells_one hI2.kl.ops) (by have := unhide HNM; omega) j hI2.jn)
          have HI2 := hide hI2
          have hm0 : ¬ (m : Int) = 0 := by omega
          have hm1 : ((m : Int) == 0) = false := by simpa using hm0
          clear hI2 hm
          go_wp2_with (first
            | (go_at_call 116
               refine (unhide HCL).mono ?_
               rintro e w1 ⟨⟨av, rfl, hav⟩, hb1⟩
               have hk1 := (unhide HI2).kl.but (T := fun _ => False) (.of_below hb1) (fun _ _ e => e) (fun _ _ e => e)
               have u0 : w1.cell? ⟨cp, 0, none⟩ = some (.slice (some ⟨g, 0, none⟩) n cap) := blk_cell hk1.cell 0
               have hDL := adm_delete hk1.row (qcells_one hk1.ops) (by have := unhide HNM; omega) j (unhide HI2).jn
               rw [← unhide HM] at hDL
               have HDL := hide hDL
               have HAV := hide hav
               have HB1 := hide hb1
               have HK1 := hide hk1
               clear hDL hav hb1 hk1)
            | (go_at_call 117
               refine (unhide HDL).mono ?_
               rintro e w2 ⟨rfl, hO2, hB2⟩
               have hcl2 := hB2.heap (unhide HK1).cell (fun e => row_kind (unhide HK1).row (unhide HK1).cell (by decide) (by rw [e]; rfl))
               have x0 : w2.cell? ⟨cp, 0, none⟩ = some (.slice (some ⟨g, 0, none⟩) n cap) := blk_cell hcl2 0
               have x1 : w2.cell? ⟨cp, 1, none⟩ = some (.int .i64 cr) := blk_cell hcl2 1
               have xz : ∀ j, w2.frozen? ⟨cp, j, none⟩ = false := fun j => blk_thaw hcl2 j
               have HP := hide (admit_post (unhide HI2) (unhide HDN) (unhide HCU) (unhide HAV) (unhide HB1) (unhide HM) hO2 hB2)
               clear hO2 hB2 hcl2))
          go_ret
          exact (unhide HP).1 (by have := unhide HML; have := unhide HNM; omega)
      · have d1f : decide ((j : Int) < (n : Int)) = false := by simp; omega
        have q1 : True := trivial
        have hdn := hI.done (fun o' ho' => by have := (List.getElem?_eq_some_iff.1 ho').1; have := unhide HML; have := unhide HNM; omega)
        have HDN := hide hdn
        have HI := hide hI
        have i2 : (j : Int) ≤ (n : Int) := by omega
        have i3 : (j : Int) ≤ (cap : Int) := by omega
        clear hdn hI hk
        go_wp2
        go_quiet (fail)
        have hI2 : AdI C U w (wq.drewN nq) cp S k (.slice (some ⟨g, 0, none⟩) n cap) mq b (k.cr + qn) j cr := ⟨(unhide HI).jn, (unhide HI).cb, (unhide HI).eq, (unhide HI).kl.drewN nq, (unhide HI).bt.drewN nq⟩
        clear d0 d1 dz q1
        generalize wq.drewN nq = W at *
        have t0 : W.cell? ⟨cp, 0, none⟩ = some (.slice (some ⟨g, 0, none⟩) n cap) := blk_cell hI2.kl.cell 0
        obtain ⟨m, hm⟩ : ∃ m, m = n - j := ⟨_, rfl⟩
        have HM := hide hm
        have HCL := hide (adm_clone hI2.kl.row (qcells_one hI2.kl.ops) (by have := unhide HNM; omega) j hI2.jn)
        have HI2 := hide hI2
        have hm0 : m = 0 := by omega
        subst hm0
        clear hI2 hm
        go_wp2_with (first
          | (go_at_call 116
             refine (unhide HCL).mono ?_
             rintro e w1 ⟨⟨av, rfl, hav⟩, hb1⟩
             have hk1 := (unhide HI2).kl.but (T := fun _ => False) (.of_below hb1) (fun _ _ e => e) (fun _ _ e => e)
             have u0 : w1.cell? ⟨cp, 0, none⟩ = some (.slice (some ⟨g, 0, none⟩) n cap) := blk_cell hk1.cell 0
             have hDL := adm_delete hk1.row (qcells_one hk1.ops) (by have := unhide HNM; omega) j (unhide HI2).jn
             rw [← unhide HM] at hDL
             have HDL := hide hDL
             have HAV := hide hav
             have HB1 := hide hb1
             have HK1 := hide hk1
             clear hDL hav hb1 hk1)
          | (go_at_call 117
             refine (unhide HDL).mono ?_
             rintro e w2 ⟨rfl, hO2, hB2⟩
             have hcl2 := hB2.heap (unhide HK1).cell (fun e => row_kind (unhide HK1).row (unhide HK1).cell (by decide) (by rw [e]; rfl))
             have x0 : w2.cell? ⟨cp, 0, none⟩ = some (.slice (some ⟨g, 0, none⟩) n cap) := blk_cell hcl2 0
             have x1 : w2.cell? ⟨cp, 1, none⟩ = some (.int .i64 cr) := blk_cell hcl2 1
             have xz : ∀ j, w2.frozen? ⟨cp, j, none⟩ = false := fun j => blk_thaw hcl2 j
             have HP := hide (admit_post (unhide HI2) (unhide HDN) (unhide HCU) (unhide HAV) (unhide HB1) (unhide HM) hO2 hB2)
             clear hO2 hB2 hcl2))
        go_ret
        exact (unhide HP).2 (by have := unhide HML; have := unhide HNM; omega)
end Go.Proofs.Ytfnockbgkcgpkaa
