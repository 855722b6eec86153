import Derived.Test.YtfnockbgkcgpkaaKabx
import Derived.Deep.MidRow
set_option linter.all false
namespace Go.Proofs.Ytfnockbgkcgpkaa
open Go.RowKit Go.Proofs.Panes
set_option maxRecDepth 100000
theorem ownN_but {w w' : World} {base : Nat} {v : Value} {l : List Int} {S : Nat → Prop} (hO : OwnN w base v l) (hb : But S w w') (hS : ∀ k, v.ownBlock = some k → ¬ S k) : OwnN w' base v l := by
  refine ⟨hO.1, ?_⟩
  rcases hO.2 with hn | ⟨g, cap, cur, rfl, hbg, hgg, rest⟩
  · exact .inl hn
  · exact .inr ⟨g, cap, cur, rfl, hbg, hb.heap hgg (hS g rfl), rest⟩
def updV (pv : Nat → Value) (i : Nat) (v : Value) : Nat → Value := fun j => if j = i then v else pv j
/-- The state of the first loop of 'Layers': the order is a row of its own. -/
structure LyO (w wr : World) (sp ap : Nat) (s : Scrn) (F : ShF) (ov : Value) (ord : List Nat) (at' : Nat → Opn) (pv : Nat → Value) : Prop where
  ex : ∃ (S U : Nat → Prop), Shop S wr sp s F ∧ (∀ x, S x → w.heap.size ≤ x ∧ x < wr.heap.size ∧ ¬ U x ∧ x ≠ ap ∧ ov.ownBlock ≠ some x) ∧ (∀ x, U x → x < wr.heap.size ∧ x ≠ ap ∧ ov.ownBlock ≠ some x) ∧ (∀ i, i < 4 → RdN U wr (pv i) (at' i).px)
  own : OwnN wr w.heap.size ov (ordI ord)
  oap : ov.ownBlock ≠ some ap
  blk : wr.heap[ap]? = some (.cells (atc at' pv) 77)
  bel : Below w.heap.size w wr
  apl : w.heap.size ≤ ap
section
variable {w wr w2 w3 : World} {sp ap n : Nat} {s s' : Scrn} {F F' : ShF} {ov ov' : Value} {ord ord' : List Nat} {at' : Nat → Opn} {pv : Nat → Value}
theorem LyO.below (h : LyO w wr sp ap s F ov ord at' pv) (hb : Below wr.heap.size wr w2) : LyO w w2 sp ap s F ov ord at' pv := by
  obtain ⟨S, U, h1, h2, h3, h5⟩ := h.ex
  have hz := hb.size
  exact ⟨⟨S, U, h1.below hb, fun x hx => ⟨(h2 x hx).1, by have := (h2 x hx).2.1; omega, (h2 x hx).2.2⟩, fun x hx => ⟨by have := (h3 x hx).1; omega, (h3 x hx).2⟩, fun i hi => (h5 i hi).below hb⟩, ownN_keep h.own hb, h.oap, (But.of_below (S := fun _ => False) hb).heap h.blk (fun e => e), h.bel.trans (hb.mono h.bel.size), h.apl⟩
theorem LyO.ly (h : LyO w wr sp ap s F ov ord at' pv) : Ly w wr sp ap s F ov ord at' pv := by
  obtain ⟨S, U, h1, h2, h3, h5⟩ := h.ex
  refine ⟨⟨S, fun x => U x ∨ ov.ownBlock = some x, h1, fun x hx => ⟨(h2 x hx).1, (h2 x hx).2.1, fun e => ?_, (h2 x hx).2.2.2.1⟩, fun x hx => ?_, h.own.rdv (fun k e => .inr e), fun i hi => (h5 i hi).wide (fun x hx => .inl hx)⟩, h.blk, h.bel, h.apl⟩
  · rcases e with e | e
    · exact (h2 x hx).2.2.1 e
    · exact (h2 x hx).2.2.2.2 e
  · rcases hx with e | e
    · exact ⟨(h3 x e).1, (h3 x e).2.1⟩
    · exact ⟨(World.ownsRow.lt h.own x e).2, fun q => h.oap (by rw [← q]; exact e)⟩
/-- A surface's operation is laid into the array. -/
theorem LyO.lay (h : LyO w wr sp ap s F ov ord at' pv) (hb : Below wr.heap.size wr w2) {i : Nat} {o : Opn} {lv : Value} (hO : OwnN w2 wr.heap.size lv o.px) (hbt : But (fun x => x = ap) w2 w3) (hblk : w3.heap[ap]? = some (.cells (atc (updO at' i o) (updV pv i lv)) 77)) : LyO w w3 sp ap s F ov ord (updO at' i o) (updV pv i lv) := by
  have h0 := h.below hb
  obtain ⟨S, U, h1, h2, h3, h5⟩ := h.ex
  have hz := hb.size
  have hz3 := hbt.size
  have hap := lt_of_heap h.blk
  have ho := World.ownsRow.lt h.own
  refine ⟨⟨S, fun x => U x ∨ (wr.heap.size ≤ x ∧ x < w2.heap.size), (h1.below hb).but hbt (fun x hx e => (h2 x hx).2.2.2.1 e), fun x hx => ⟨(h2 x hx).1, by have := (h2 x hx).2.1; omega, fun e => ?_, (h2 x hx).2.2.2⟩, fun x hx => ?_, fun j hj => ?_⟩, ownN_but h0.own hbt (fun k e q => h.oap (by rw [← q]; exact e)), h.oap, hblk, h0.bel.trans (hbt.below h0.bel.size (fun x e => by rw [e]; exact h.apl)), h.apl⟩
  · rcases e with e | e
    · exact (h2 x hx).2.2.1 e
    · have := (h2 x hx).2.1; omega
  · rcases hx with e | e
    · exact ⟨by have := (h3 x e).1; omega, (h3 x e).2⟩
    · exact ⟨by omega, by omega, fun q => by have := (ho x q).2; omega⟩
  · unfold updO updV
    have hne : ∀ x, (U x ∨ (wr.heap.size ≤ x ∧ x < w2.heap.size)) → ¬ x = ap := fun x hx e => by
      rcases hx with q | q
      · exact (h3 x q).2.1 e
      · omega
    by_cases e : j = i
    · rw [if_pos e, if_pos e]
      exact (hO.rdv (fun k e => .inr (World.ownsRow.lt hO k e))).but hbt hne
    · rw [if_neg e, if_neg e]
      exact (((h5 j hj).below hb).wide (fun x hx => .inl hx)).but hbt hne
/-- One more surface in the order. -/
theorem LyO.push (h : LyO w wr sp ap s F ov ord at' pv) (hl : ord.length ≤ 1000000) (i : Nat) :
    ∃ g cap w', (Builtin.append_ #[23, 23] 23 #[ov, .slice (some ⟨wr.heap.size, 0, none⟩) 1 1]).run Try.prog (wr.alloc (.cells #[.int .i64 (i : Int)] 3)) = .ok (.slice (some ⟨g, 0, none⟩) (ord.length + 1) cap) w' ∧ LyO w w' sp ap s F (.slice (some ⟨g, 0, none⟩) (ord.length + 1) cap) (ord ++ [i]) at' pv := by
  have hln : (ordI ord).length = ord.length := by simp [ordI]
  obtain ⟨g, cap, w', h1, h2, h3, h4, h5⟩ := pushT_run h.own h.bel.size (by rw [hln]; exact hl) (i : Int)
  rw [hln] at h1 h2
  refine ⟨g, cap, w', h1, ?_⟩
  obtain ⟨S, U, k1, k2, k3, k5⟩ := h.ex
  have hz := h4.size
  have hap := lt_of_heap h.blk
  have hg : ∀ x, x < wr.heap.size → ov.ownBlock ≠ some x → (Value.slice (some ⟨g, 0, none⟩) (ord.length + 1) cap).ownBlock ≠ some x := fun x hx hne e => by
    have e2 : g = x := by
      have : some g = some x := e
      exact Option.some.inj this
    rcases h5 with q | q
    · exact hne (by rw [q, e2])
    · omega
  refine ⟨⟨S, U, k1.but h4 (fun x hx e => (k2 x hx).2.2.2.2 e), fun x hx => ⟨(k2 x hx).1, by have := (k2 x hx).2.1; omega, (k2 x hx).2.2.1, (k2 x hx).2.2.2.1, hg x (k2 x hx).2.1 (k2 x hx).2.2.2.2⟩, fun x hx => ⟨by have := (k3 x hx).1; omega, (k3 x hx).2.1, hg x (k3 x hx).1 (k3 x hx).2.2⟩, fun j hj => (k5 j hj).but h4 (fun x hx e => (k3 x hx).2.2 e)⟩, ?_, hg ap hap h.oap, h4.heap h.blk (fun e => h.oap e), h.bel.trans h3, h.apl⟩
  unfold ordI at h2 ⊢
  rw [List.map_append]
  exact h2
theorem LyO.fine (h : LyO w wr sp ap s F ov ord at' pv) : wr.cell? ⟨sp, 15, none⟩ = some (.bool true) ∧ sp < wr.heap.size := by
  obtain ⟨S, U, h1, -⟩ := h.ex
  obtain ⟨-, x15, -, -, lsp⟩ := h1.rep
  exact ⟨x15, lsp⟩
theorem LyO.aft (h : LyO w wr sp ap s F ov ord at' pv) {o : Option Obj} (hw2 : w2 = (match o with | none => wr | some o => wr.alloc o)) {S U : Nat → Prop} (k1 : ∀ x, S x → w.heap.size ≤ x ∧ x < wr.heap.size ∧ ¬ U x ∧ x ≠ ap ∧ ov.ownBlock ≠ some x) (k3 : ∀ x, U x → x < wr.heap.size ∧ x ≠ ap ∧ ov.ownBlock ≠ some x) (k5 : ∀ i, i < 4 → RdN U wr (pv i) (at' i).px) (g : ShopTo S w2 sp s' F' w3) : LyO w w3 sp ap s' F' ov ord at' pv := by
  have hba : Below wr.heap.size wr w2 := by
    rw [hw2]
    cases o with
    | none => exact Below.refl _ _
    | some o => exact (Below.refl _ wr).alloc (Nat.le_refl _) _
  have h0 := h.below hba
  have hap := lt_of_heap h.blk
  have ho := World.ownsRow.lt h.own
  obtain ⟨g2, g3⟩ := g
  have hz := hba.size
  have hz3 := g3.size
  refine ⟨⟨fun x => (S x ∨ w2.heap.size ≤ x) ∧ x < w3.heap.size, U, g2.lt, fun x hx => ?_, fun x hx => ⟨by have := (k3 x hx).1; omega, (k3 x hx).2⟩, fun i hi => ((k5 i hi).below hba).but g3 (fun x hx e => (k1 x e).2.2.1 hx)⟩, ownN_but h0.own g3 (fun k e q => (k1 k q).2.2.2.2 e), h.oap, g3.heap h0.blk (fun e => (k1 ap e).2.2.2.1 rfl), h0.bel.trans (g3.below h0.bel.size (fun x hx => (k1 x hx).1)), h.apl⟩
  rcases hx.1 with q | q
  · exact ⟨(k1 x q).1, hx.2, (k1 x q).2.2⟩
  · have := h.bel.size
    exact ⟨by omega, hx.2, fun e => by have := (k3 x e).1; omega, by omega, fun e => by have := (ho x e).2; omega⟩
theorem LyO.tick (h : LyO w wr sp ap s F ov ord at' pv) (hI : ShI n s F) (hn : n ≤ 1300000) (b : Nat) (hb : b ≤ 1000) : Calls Try.prog 27 #[.pointer (some ⟨sp, 0, none⟩), .int .i64 (b : Int)] wr fun e w' => (∃ u, e = .returned u) ∧ LyO w w' sp ap (tickA b (s, F)).1 (tickA b (s, F)).2 ov ord at' pv := by
  obtain ⟨S, U, h1, h2, h3, h5⟩ := h.ex
  refine ((shop_tick h1 hI hn b hb).1).mono ?_
  rintro e w' ⟨g1, g2, -⟩
  exact ⟨g1, h.aft (o := none) rfl h2 h3 h5 g2⟩
/-- A transaction in a block of its own. -/
theorem LyO.hand (h : LyO w wr sp ap s F ov ord at' pv) (hI : ShI n s F) (hn : n ≤ 1300000) {ops : List Opn} {o : Obj} {ao : Option Addr} {cap : Nat} (hR : ∀ U, (∀ i, i < 4 → RdN U (wr.alloc o) (pv i) (at' i).px) → RdO (fun x => x = wr.heap.size ∨ U x) (wr.alloc o) (.slice ao ops.length cap) ops) (hpx : ∀ x ∈ ops, x.px.length ≤ 100000000) (hc : subCo s 0 ops = 0) : Calls Try.prog 35 #[.pointer (some ⟨sp, 0, none⟩), .slice ao ops.length cap] (wr.alloc o) fun e w' => (∃ u, e = .returned u) ∧ LyO w w' sp ap (subS s 0 ops) (handF F (costOf ops)) ov ord at' pv := by
  have hba : Below wr.heap.size wr (wr.alloc o) := (Below.refl _ wr).alloc (Nat.le_refl _) _
  have hlt : wr.heap.size < (wr.alloc o).heap.size := by simp
  obtain ⟨S, U, h1, h2, h3, h5⟩ := h.ex
  refine (shop_hand (h1.below hba) hI hn (hR U (fun i hi => (h5 i hi).below hba)) (fun y hy => ?_) hpx hc).mono ?_
  · rcases hy with e | e
    · rw [e]
      exact ⟨hlt, fun q => by have := (h2 _ q).2.1; omega⟩
    · exact ⟨by have := (h3 y e).1; omega, fun q => (h2 y q).2.2.1 e⟩
  · rintro e w' ⟨g1, g2⟩
    exact ⟨g1, h.aft (o := some o) rfl h2 h3 h5 g2⟩
end
/-- The shop that 'Layers' opens. -/
theorem open_ly {d : Cfg} (h : okCfg d = true) (hm : d.most = 300) (hs : d.surfaces = 4) (at' : Nat → Opn) : LyI 0 (openS d d.clients.toNat) (openF d d.clients.toNat) [] at' := by
  have hcl := (cfgB h).clients
  obtain ⟨n, hn⟩ : ∃ n, d.clients.toNat = n + 1 := ⟨d.clients.toNat - 1, by omega⟩
  refine ⟨open_wh h, rfl, rfl, fun j k hk => ?_, ⟨newC d, ?_⟩, hm, hs, List.nodup_nil, fun i hi => absurd hi (List.not_mem_nil)⟩
  · have hk' : (List.replicate d.clients.toNat (some (newC d)) ++ List.replicate (d.clients.toNat - d.clients.toNat) none)[j]? = some (some k) := hk
    rw [Nat.sub_self, List.replicate_zero, List.append_nil] at hk'
    have := (List.mem_replicate.1 (List.mem_of_getElem? hk')).2
    have e : k = newC d := Option.some.inj this
    rw [e]; rfl
  · show (List.replicate d.clients.toNat (some (newC d)) ++ List.replicate (d.clients.toNat - d.clients.toNat) none)[0]? = _
    rw [hn]
    rfl
/-- A surface of 'Layers'. -/
def plX (xs : List Int) (i m : Nat) : List Int := (List.range m).map fun k => kpk (numO xs (7 * i + k)) 4
def plO (ps xs : List Int) (i : Nat) : Opn := ⟨3, i, kpk (numO ps (4 * i + 2)) 20 - 4, kpk (numO ps (4 * i + 3)) 20 - 4, 1 + kpk (numO ps (4 * i)) 8, 1 + kpk (numO ps (4 * i + 1)) 8, plX xs i ((1 + kpk (numO ps (4 * i)) 8) * (1 + kpk (numO ps (4 * i + 1)) 8)).toNat, 0⟩
def adA (ps xs : List Int) : Nat → Nat → Opn
  | 0 => fun _ => ⟨0, 0, 0, 0, 0, 0, [], 0⟩
  | k + 1 => updO (adA ps xs k) k (plO ps xs k)
def adS (d : Cfg) (ps xs : List Int) : Nat → Scrn × ShF
  | 0 => (openS d d.clients.toNat, openF d d.clients.toNat)
  | k + 1 => tickA 400 (subS (adS d ps xs k).1 0 (adOps k (plO ps xs k)), handF (adS d ps xs k).2 (costOf (adOps k (plO ps xs k))))
theorem range_succ' (k : Nat) : List.range (k + 1) = List.range k ++ [k] := List.range_succ
theorem ad_step {d : Cfg} {ps xs : List Int} {k : Nat} (hk : k < 4) (h : LyI (2 * k) (adS d ps xs k).1 (adS d ps xs k).2 (List.range k) (adA ps xs k)) : subCo (adS d ps xs k).1 0 (adOps k (plO ps xs k)) = 0 ∧ ShI (2 * k + 1) (subS (adS d ps xs k).1 0 (adOps k (plO ps xs k))) (handF (adS d ps xs k).2 (costOf (adOps k (plO ps xs k)))) ∧ LyI (2 * (k + 1)) (adS d ps xs (k + 1)).1 (adS d ps xs (k + 1)).2 (List.range (k + 1)) (adA ps xs (k + 1)) := by
  have b1 := kpk_bd (numO ps (4 * k)) 8 (by omega)
  have b2 := kpk_bd (numO ps (4 * k + 1)) 8 (by omega)
  have b3 := kpk_bd (numO ps (4 * k + 2)) 20 (by omega)
  have b4 := kpk_bd (numO ps (4 * k + 3)) 20 (by omega)
  have hp : 0 ≤ (1 + kpk (numO ps (4 * k)) 8) * (1 + kpk (numO ps (4 * k + 1)) 8) := Int.mul_nonneg (by omega) (by omega)
  obtain ⟨h1, h2, h3⟩ := h.added (o := plO ps xs k) (i := k) (by omega) hk (by simp) ⟨rfl, rfl, rfl⟩ (by simp only [plO]; omega) (by simp only [plO]; omega) (by simp only [plO, plX, List.length_map, List.length_range]; omega) (fun p hp => by
    simp only [plO, plX, List.mem_map] at hp
    obtain ⟨j, -, rfl⟩ := hp
    have := kpk_bd (numO xs (7 * k + j)) 4 (by omega)
    omega) 400 (by omega)
  rw [range_succ']
  exact ⟨h1, h2, h3⟩
theorem ad_ly {d : Cfg} (h : okCfg d = true) (hm : d.most = 300) (hs : d.surfaces = 4) (ps xs : List Int) : ∀ k, k ≤ 4 → LyI (2 * k) (adS d ps xs k).1 (adS d ps xs k).2 (List.range k) (adA ps xs k)
  | 0, _ => open_ly h hm hs _
  | k + 1, hk => (ad_step (by omega) (ad_ly h hm hs ps xs k (by omega))).2.2
/-- The turns. -/
structure TSt where
  s : Scrn
  F : ShF
  o : List Nat
  a : Nat → Opn
def tnS (d : Cfg) (ps xs ts : List Int) : Nat → TSt
  | 0 => ⟨(adS d ps xs 4).1, (adS d ps xs 4).2, List.range 4, adA ps xs 4⟩
  | k + 1 =>
    let z := tnS d ps xs ts k
    let raw := ts.getD k 0
    let y := tickA (kpk raw 3).toNat (subS z.s 0 [tuOp raw], handF z.F (costOf [tuOp raw]))
    ⟨showS y.1 22, showF y.2 22, tuOrd raw z.o, tuAt raw z.a⟩
theorem tn_ly {d : Cfg} (h : okCfg d = true) (hm : d.most = 300) (hs : d.surfaces = 4) (ps xs ts : List Int) : ∀ k, k ≤ 30 → LyI (8 + 24 * k) (tnS d ps xs ts k).s (tnS d ps xs ts k).F (tnS d ps xs ts k).o (tnS d ps xs ts k).a ∧ ∀ i, i < 4 → i ∈ (tnS d ps xs ts k).o
  | 0, _ => ⟨ad_ly h hm hs ps xs 4 (by omega), fun i hi => List.mem_range.2 hi⟩
  | k + 1, hk => by
    obtain ⟨h1, h2⟩ := tn_ly h hm hs ps xs ts k (by omega)
    have hb := kpk_bd (ts.getD k 0) 3 (by omega)
    have h4 := h2 _ (tuI_lt (ts.getD k 0)).1
    obtain ⟨-, -, h3⟩ := h1.turned (by omega) (ts.getD k 0) h4 (kpk (ts.getD k 0) 3).toNat (by omega)
    have h5 := h3.shows 22 (by omega)
    refine ⟨?_, fun i hi => (tuOrd_mem h4).2 (h2 i hi)⟩
    have e : 8 + 24 * (k + 1) = 8 + 24 * k + 2 + 22 := by omega
    rw [e]
    exact h5
theorem atc_fields {a b : Nat → Opn} (pv : Nat → Value) (h : ∀ i, i < 4 → (a i).kind = (b i).kind ∧ (a i).surf = (b i).surf ∧ (a i).x = (b i).x ∧ (a i).y = (b i).y ∧ (a i).w = (b i).w ∧ (a i).h = (b i).h ∧ (a i).mark = (b i).mark) : atc a pv = atc b pv := by
  obtain ⟨a0, a1, a2, a3, a4, a5, a6⟩ := h 0 (by omega)
  obtain ⟨b0, b1, b2, b3, b4, b5, b6⟩ := h 1 (by omega)
  obtain ⟨c0, c1, c2, c3, c4, c5, c6⟩ := h 2 (by omega)
  obtain ⟨d0, d1, d2, d3, d4, d5, d6⟩ := h 3 (by omega)
  unfold atc
  rw [a0, a1, a2, a3, a4, a5, a6, b0, b1, b2, b3, b4, b5, b6, c0, c1, c2, c3, c4, c5, c6, d0, d1, d2, d3, d4, d5, d6]
theorem atc_0 (at' : Nat → Opn) (pv : Nat → Value) {i : Nat} (hi : i < 4) (x : Int) : (atc at' pv).setIfInBounds (i * 8) (.int .i64 x) = atc (updO at' i { at' i with kind := x }) pv := by
  rcases (show i = 0 ∨ i = 1 ∨ i = 2 ∨ i = 3 by omega) with rfl | rfl | rfl | rfl <;> rfl
theorem atc_1 (at' : Nat → Opn) (pv : Nat → Value) {i : Nat} (hi : i < 4) (x : Int) : (atc at' pv).setIfInBounds (i * 8 + 1) (.int .i64 x) = atc (updO at' i { at' i with surf := x }) pv := by
  rcases (show i = 0 ∨ i = 1 ∨ i = 2 ∨ i = 3 by omega) with rfl | rfl | rfl | rfl <;> rfl
theorem atc_4 (at' : Nat → Opn) (pv : Nat → Value) {i : Nat} (hi : i < 4) (x : Int) : (atc at' pv).setIfInBounds (i * 8 + 4) (.int .i64 x) = atc (updO at' i { at' i with w := x }) pv := by
  rcases (show i = 0 ∨ i = 1 ∨ i = 2 ∨ i = 3 by omega) with rfl | rfl | rfl | rfl <;> rfl
theorem atc_5 (at' : Nat → Opn) (pv : Nat → Value) {i : Nat} (hi : i < 4) (x : Int) : (atc at' pv).setIfInBounds (i * 8 + 5) (.int .i64 x) = atc (updO at' i { at' i with h := x }) pv := by
  rcases (show i = 0 ∨ i = 1 ∨ i = 2 ∨ i = 3 by omega) with rfl | rfl | rfl | rfl <;> rfl
theorem atc_6 (at' : Nat → Opn) (pv : Nat → Value) {i : Nat} (hi : i < 4) (v : Value) : (atc at' pv).setIfInBounds (i * 8 + 6) v = atc at' (updV pv i v) := by
  rcases (show i = 0 ∨ i = 1 ∨ i = 2 ∨ i = 3 by omega) with rfl | rfl | rfl | rfl <;> rfl
theorem atc_7 (at' : Nat → Opn) (pv : Nat → Value) {i : Nat} (hi : i < 4) (x : Int) : (atc at' pv).setIfInBounds (i * 8 + 7) (.int .i64 x) = atc (updO at' i { at' i with mark := x }) pv := by
  rcases (show i = 0 ∨ i = 1 ∨ i = 2 ∨ i = 3 by omega) with rfl | rfl | rfl | rfl <;> rfl
/-- The store of an operation into the array. -/
def atSt (w : World) (ap k : Nat) (o : Opn) (v : Value) : World := (((((((w.setCell ⟨ap, k * 8, none⟩ (.int .i64 o.kind)).setCell ⟨ap, k * 8 + 1, none⟩ (.int .i64 o.surf)).setCell ⟨ap, k * 8 + 2, none⟩ (.int .i64 o.x)).setCell ⟨ap, k * 8 + 3, none⟩ (.int .i64 o.y)).setCell ⟨ap, k * 8 + 4, none⟩ (.int .i64 o.w)).setCell ⟨ap, k * 8 + 5, none⟩ (.int .i64 o.h)).setCell ⟨ap, k * 8 + 6, none⟩ v).setCell ⟨ap, k * 8 + 7, none⟩ (.int .i64 o.mark)
theorem atSt_size (w : World) (ap k : Nat) (o : Opn) (v : Value) : (atSt w ap k o v).heap.size = w.heap.size := by simp [atSt]
theorem atSt_but (w : World) (ap k : Nat) (o : Opn) (v : Value) : But (fun x => x = ap) w (atSt w ap k o v) := by
  have hS : ∀ (j : Nat) (u : Value) {v : World}, But (fun k => k = ap) w v → But (fun k => k = ap) w (v.setCell ⟨ap, j, none⟩ u) := fun j u v h => h.setCell (p := ⟨ap, j, none⟩) (.inl rfl) u
  exact hS _ _ (hS _ _ (hS _ _ (hS _ _ (hS _ _ (hS _ _ (hS _ _ (hS _ _ (But.refl _ _))))))))
theorem updO_at (at' : Nat → Opn) (k : Nat) (o : Opn) (j : Nat) : updO at' k o j = if j = k then o else at' j := rfl
theorem atSt_blk {w : World} {ap k : Nat} {at' : Nat → Opn} {pv : Nat → Value} (h : w.heap[ap]? = some (.cells (atc at' pv) 77)) (hk : k < 4) (o : Opn) (v : Value) : (atSt w ap k o v).heap[ap]? = some (.cells (atc (updO at' k o) (updV pv k v)) 77) := by
  have h1 := blk_set (i := k * 8) h (.int .i64 o.kind)
  rw [atc_0 at' pv hk] at h1
  generalize hc1 : updO at' k { at' k with kind := o.kind } = c1 at h1
  have h2 := blk_set (i := k * 8 + 1) h1 (.int .i64 o.surf)
  rw [atc_1 c1 pv hk] at h2
  generalize hc2 : updO c1 k { c1 k with surf := o.surf } = c2 at h2
  have h3 := blk_set (i := k * 8 + 2) h2 (.int .i64 o.x)
  rw [atc_x c2 pv hk] at h3
  generalize hc3 : updO c2 k { c2 k with x := o.x } = c3 at h3
  have h4 := blk_set (i := k * 8 + 3) h3 (.int .i64 o.y)
  rw [atc_y c3 pv hk] at h4
  generalize hc4 : updO c3 k { c3 k with y := o.y } = c4 at h4
  have h5 := blk_set (i := k * 8 + 4) h4 (.int .i64 o.w)
  rw [atc_4 c4 pv hk] at h5
  generalize hc5 : updO c4 k { c4 k with w := o.w } = c5 at h5
  have h6 := blk_set (i := k * 8 + 5) h5 (.int .i64 o.h)
  rw [atc_5 c5 pv hk] at h6
  generalize hc6 : updO c5 k { c5 k with h := o.h } = c6 at h6
  have h7 := blk_set (i := k * 8 + 6) h6 v
  rw [atc_6 c6 pv hk] at h7
  have h8 := blk_set (i := k * 8 + 7) h7 (.int .i64 o.mark)
  rw [atc_7 c6 (updV pv k v) hk] at h8
  generalize hc7 : updO c6 k { c6 k with mark := o.mark } = c7 at h8
  have he : atc c7 (updV pv k v) = atc (updO at' k o) (updV pv k v) := by
    refine atc_fields _ fun i _ => ?_
    rw [← hc7, ← hc6, ← hc5, ← hc4, ← hc3, ← hc2, ← hc1]
    by_cases e : i = k
    · subst e
      simp [updO_at]
    · simp [updO_at, e]
  rw [he] at h8
  exact h8
/-- The array is read whole. -/
theorem info_at4 : (Try.prog.info? 77).map (·.size) = some 32 := by kernel_rfl
theorem wpList_load_atc {ops : Array Oper} {rest : List Oper} {op : Oper} {a : Act} {w : World} {Q : Exit → Act → World → Prop} {ap : Nat} {at' : Nat → Opn} {pv : Nat → Value} (hgd : op.guard = none) (x : Operand) (ho : op.op = .load 77 x) (hx : a.eval x = .pointer (some ⟨ap, 0, none⟩)) (hb : w.heap[ap]? = some (.cells (atc at' pv) 77))
    (h : wpList Try.prog ops Q rest (a.put op.dst (.agg (atc at' pv))) w) : wpList Try.prog ops Q (op :: rest) a w := by
  refine wpList_load_mid hgd 77 x ho ap 0 hx (atc at' pv).toList _ (fun j v hv => ?_) Try.underlying77 rfl info_at4 ?_
  · rw [Nat.zero_add, blk_cell hb]
    simpa using hv
  · rw [Array.toArray_toList]
    exact h
end Go.Proofs.Ytfnockbgkcgpkaa
