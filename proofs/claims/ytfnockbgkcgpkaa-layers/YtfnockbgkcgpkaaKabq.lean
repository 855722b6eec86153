import Derived.Test.YtfnockbgkcgpkaaKabk
import Derived.Test.YtfnockbgkcgpkaaKabl
import Derived.Test.YtfnockbgkcgpkaaKabo
import Derived.Test.YtfnockbgkcgpkaaKabp
import Derived.BigQuiet
import Derived.Deep.RegionLaw
set_option linter.all false
namespace Go.Proofs.Ytfnockbgkcgpkaa
open Go.RowKit Go.Proofs.Panes
set_option maxRecDepth 100000
/-- A shop, and its screen, in blocks of S. -/
def Shop (S : Nat → Prop) (w : World) (sp : Nat) (s : Scrn) (F : ShF) : Prop := ∃ (a o : Nat → Nat) (xp kb sb fb : Nat) (cps : List (Option Nat)) (L : ShL), ShB a w sp xp F L ∧ ScrM o w xp kb sb fb cps s ∧ (∀ x, a x ≠ 0 → o x = 0) ∧ ∀ x, a x ≠ 0 ∨ o x ≠ 0 → S x
section
variable {S : Nat → Prop} {w w' : World} {sp : Nat} {s s' : Scrn} {F F' : ShF} {n : Nat}
theorem Shop.but (h : Shop S w sp s F) {T : Nat → Prop} (hb : But T w w') (hs : ∀ x, S x → ¬ T x) : Shop S w' sp s F := by
  obtain ⟨a, o, xp, kb, sb, fb, cps, L, h1, h2, h3, h4⟩ := h
  exact ⟨a, o, xp, kb, sb, fb, cps, L, h1.but hb (fun x hx => hs x (h4 x (.inl hx))), h2.but hb (fun x hx => hs x (h4 x (.inr hx))), h3, h4⟩
theorem Shop.below (h : Shop S w sp s F) (hb : Below w.heap.size w w') : Shop S w' sp s F := h.but (T := fun _ => False) (.of_below hb) (fun _ _ h => h)
theorem Shop.wide {T : Nat → Prop} (h : Shop S w sp s F) (hs : ∀ x, S x → T x) : Shop T w sp s F := by
  obtain ⟨a, o, xp, kb, sb, fb, cps, L, h1, h2, h3, h4⟩ := h
  exact ⟨a, o, xp, kb, sb, fb, cps, L, h1, h2, h3, fun x hx => hs x (h4 x hx)⟩
/-- What a move leaves. -/
def ShopTo (S : Nat → Prop) (w : World) (sp : Nat) (s : Scrn) (F : ShF) (w' : World) : Prop := Shop (fun x => S x ∨ w.heap.size ≤ x) w' sp s F ∧ But S w w'
theorem KsPost.shop {a o : Nat → Nat} {xp kb sb fb : Nat} (h : KsPost a o w sp xp kb sb fb s F w') (h4 : ∀ x, a x ≠ 0 ∨ o x ≠ 0 → S x) : ShopTo S w sp s F w' := by
  obtain ⟨a', o', cps', L', k1, k2, k3, k4, k5, k6⟩ := h
  refine ⟨⟨a', o', xp, kb, sb, fb, cps', L', k1, k2, k3, fun x hx => ?_⟩, k4.wide (fun x _ hx => h4 x hx)⟩
  rcases Nat.lt_or_ge x w.heap.size with c | c
  · rcases hx with e | e
    · exact .inl (h4 x (.inl (k6 x c e)))
    · exact .inl (h4 x (.inr (k5 x c e)))
  · exact .inr c
/-- Its marks when those of the flip have been fired. -/
def firedM (s : Scrn) (F : ShF) : List Ask := (fireL F.marks (flipF s.f).2.2).getD []
theorem shop_tick (h : Shop S w sp s F) (hI : ShI n s F) (hn : n ≤ 1300000) (b : Nat) (hb : b ≤ 1000) :
    Calls Try.prog 27 #[.pointer (some ⟨sp, 0, none⟩), .int .i64 (b : Int)] w (fun e w' => (∃ u, e = .returned u) ∧ ShopTo S w sp (tickS s b) (tickF s F b (firedM s F)) w' ∧ RepLen sp (flipF s.f).2.2.length w') ∧ ShI (n + 1) (tickS s b) (tickF s F b (firedM s F)) := by
  obtain ⟨a, o, xp, kb, sb, fb, cps, L, h1, h2, h3, h4⟩ := h
  obtain ⟨ms, hm, hI'⟩ := tick_in hI hn hb
  have e : firedM s F = ms := by unfold firedM; rw [hm.fire]; rfl
  rw [e]
  refine ⟨(ktick_any h1 h2 h3 hm).mono ?_, hI'⟩
  rintro e w' ⟨g1, g2, g3⟩
  exact ⟨g1, g2.ks.shop h4, g3⟩
theorem shop_leave (h : Shop S w sp s F) (hI : ShI n s F) (hn : n ≤ 1300000) (i : Nat) (hi : i < s.ks.length) :
    Calls Try.prog 50 #[.pointer (some ⟨sp, 0, none⟩), .int .i64 (i : Int)] w (fun e w' => (∃ u, e = .returned u) ∧ ShopTo S w sp (leftS s i) (leftF F i) w') ∧ ShI (n + 1) (leftS s i) (leftF F i) := by
  obtain ⟨a, o, xp, kb, sb, fb, cps, L, h1, h2, h3, h4⟩ := h
  have hl : F.there.length = s.ks.length := by rw [hI.there]; simp
  have hw : F.wait.length = s.ks.length := by rw [hI.wait]; simp
  have hml := hI.ml
  have hth : F.there[i]? = some (conK s.ks (i : Int)) := by
    rw [hI.there, List.getElem?_map]
    unfold conK
    rw [Int.toNat_natCast]
    obtain ⟨k, hk⟩ : ∃ k, s.ks[i]? = some k := ⟨s.ks[i], by simp⟩
    rw [hk]
    cases k <;> simp
  refine ⟨(leaves_any h1 h2 h3 hI.n4.1 hi (fun _ => disc_fine hI.scr (by omega) i) hth hw hl (by omega)).mono ?_, leave_in hI hi⟩
  rintro e w' ⟨g1, g2⟩
  exact ⟨g1, g2.ks.shop h4⟩
/-- The screen, the shop, when a transaction has been handed in. -/
def subAll (s : Scrn) (F : ShF) (i : Nat) (raw : List Opn) : Scrn × ShF := if subCo s i (fullO F raw) = 0 then (subS s i (fullO F raw), subF F i raw (costOf (fullO F raw))) else (s, F)
theorem shop_sub (h : Shop S w sp s F) (hI : ShI n s F) (hn : n ≤ 1300000) (i : Nat) (hi : i < s.ks.length) {U : Nat → Prop} {raw : List Opn} {ao : Option Addr} {cap : Nat} (hR : RdO U w (.slice ao raw.length cap) raw) (hz : ao = none → cap = 0) (hU : ∀ y, U y → y < w.heap.size ∧ ¬ S y) (hrl : raw.length ≤ 2000000) (hpx : ∀ x ∈ raw, x.px.length ≤ 100000000) :
    Calls Try.prog 49 #[.pointer (some ⟨sp, 0, none⟩), .int .i64 (i : Int), .slice ao raw.length cap] w (fun e w' => (∃ u, e = .returned u) ∧ ShopTo S w sp (subAll s F i raw).1 (subAll s F i raw).2 w') ∧ ShI (n + 1) (subAll s F i raw).1 (subAll s F i raw).2 := by
  obtain ⟨a, o, xp, kb, sb, fb, cps, L, h1, h2, h3, h4⟩ := h
  have hc := cfgB hI.scr.cfg
  have hcs := hc.surfaces
  have hcq := hc.queue
  have hn4 := hI.n4
  have hml := hI.ml
  have z0 : ∀ y, U y → o y = 0 := fun y hy => by
    rcases Nat.eq_zero_or_pos (o y) with e | e
    · exact e
    · exact absurd (h4 y (.inr (by omega))) (hU y hy).2
  have z1 : ∀ y, U y → a y = 0 := fun y hy => by
    rcases Nat.eq_zero_or_pos (a y) with e | e
    · exact e
    · exact absurd (h4 y (.inl (by omega))) (hU y hy).2
  have hS : SubIn a o w s F i U raw := ⟨hn4.1, hi, by omega, fun cl hcl => by have := (hI.scr.cl i cl hcl).ql; omega, fun k hk => by rw [hI.there, List.getElem?_map, hk]; rfl, fun k hk => by rw [hI.wait, List.getElem?_map, hk]; rfl, by rw [hI.there]; simp, by rw [hI.wait]; simp, hI.c, by omega, hrl, fun x hx => by have := hpx x hx; omega, fun y hy => (hU y hy).1, z0, z1⟩
  by_cases h0 : subCo s i (fullO F raw) = 0
  · have e : subAll s F i raw = (subS s i (fullO F raw), subF F i raw (costOf (fullO F raw))) := by unfold subAll; rw [if_pos h0]
    rw [e]
    refine ⟨(submits_ok h1 h2 h3 hS hR hz h0).mono ?_, sub_in hI h0⟩
    rintro e w' ⟨g1, g2⟩
    exact ⟨g1, g2.shop h4⟩
  · have e : subAll s F i raw = (s, F) := by unfold subAll; rw [if_neg h0]
    rw [e]
    refine ⟨(submits_not h1 h2 h3 hS hR hz h0).mono ?_, hI.mono (Nat.le_succ n)⟩
    rintro e w' ⟨g1, g2⟩
    rw [subS_not h0] at g2
    exact ⟨g1, g2.shop h4⟩
end
end Go.Proofs.Ytfnockbgkcgpkaa
set_option linter.all false
namespace Go.Proofs.Ytfnockbgkcgpkaa
open Go.RowKit Go.Proofs.Panes
set_option maxRecDepth 100000
/-- A move, raw. -/
structure Mv where
  kind : Int
  a : Int
  b : Int
def mvcell (m : Mv) : List Value := [.int .i64 m.kind, .int .i64 m.a, .int .i64 m.b]
def FitM (m : Mv) : Prop := FitI m.kind ∧ FitI m.a ∧ FitI m.b
/-- Transactions that were handed in, in blocks of U. -/
def RdOO (U : Nat → Prop) (w : World) (v : Value) (ops : List (List Opn)) : Prop :=
  ∃ ao cap, v = .slice ao ops.length cap ∧ ops.length ≤ cap ∧ cap ≤ maxLen ∧ (ops ≠ [] → ∃ b off, ao = some ⟨b, off, none⟩ ∧ U b ∧ b < w.heap.size ∧ ∀ (j : Nat) (l : List Opn), ops[j]? = some l → ∃ ao' cap', w.cell? ⟨b, off + j, none⟩ = some (.slice ao' l.length cap') ∧ RdO U w (.slice ao' l.length cap') l ∧ (ao' = none → cap' = 0))
theorem RdOO.but {U T : Nat → Prop} {w w' : World} {v : Value} {ops : List (List Opn)} (h : RdOO U w v ops) (hb : But T w w') (hs : ∀ k, U k → ¬ T k) : RdOO U w' v ops := by
  obtain ⟨ao, cap, h1, h2, h3, h4⟩ := h
  refine ⟨ao, cap, h1, h2, h3, fun hne => ?_⟩
  obtain ⟨b, off, g1, g2, g3, g4⟩ := h4 hne
  refine ⟨b, off, g1, g2, Nat.lt_of_lt_of_le g3 hb.size, fun j l hl => ?_⟩
  obtain ⟨ao', cap', k1, k2, k3⟩ := g4 j l hl
  exact ⟨ao', cap', (World.cell?_of_block (hb.block b g3 (hs b g2))).trans k1, k2.but hb hs, k3⟩
theorem RdOO.below {U : Nat → Prop} {w w' : World} {v : Value} {ops : List (List Opn)} (h : RdOO U w v ops) (hb : Below w.heap.size w w') : RdOO U w' v ops := h.but (T := fun _ => False) (.of_below hb) (fun _ _ h => h)
/-- Moves that were handed in. -/
def RdMv (w : World) (v : Value) (ms : List Mv) : Prop :=
  ∃ ao cap, v = .slice ao ms.length cap ∧ ms.length ≤ cap ∧ cap ≤ maxLen ∧ (ms ≠ [] → ∃ b off, ao = some ⟨b, off, none⟩ ∧ b < w.heap.size ∧ ∀ (j : Nat) (m : Mv), ms[j]? = some m → w.cell? ⟨b, off + j * 3, none⟩ = some (.int .i64 m.kind) ∧ w.cell? ⟨b, off + (j * 3 + 1), none⟩ = some (.int .i64 m.a) ∧ w.cell? ⟨b, off + (j * 3 + 2), none⟩ = some (.int .i64 m.b))
/-- What may be handed in. -/
def OpsB (ops : List (List Opn)) : Prop := ops.length ≤ 1000000000 ∧ ∀ l ∈ ops, l.length ≤ 2000000 ∧ ∀ x ∈ l, x.px.length ≤ 100000000
def rawOf (ops : List (List Opn)) (b : Int) : List Opn := if ops = [] then [] else ops.getD (kpk b (ops.length : Int)).toNat []
/-- A move, without memory. -/
def mv (ops : List (List Opn)) (m : Mv) (st : Scrn × ShF) : Scrn × ShF :=
  if kpk m.kind 5 = 0 ∨ kpk m.kind 5 = 1 then subAll st.1 st.2 (kpk m.a (st.1.ks.length : Int)).toNat (rawOf ops m.b)
  else if kpk m.kind 5 = 2 then (tickS st.1 (kpk m.b 400).toNat, tickF st.1 st.2 (kpk m.b 400).toNat (firedM st.1 st.2))
  else if kpk m.kind 5 = 3 then (cameS st.1, cameF st.1 st.2)
  else (leftS st.1 (kpk m.a (st.1.ks.length : Int)).toNat, leftF st.2 (kpk m.a (st.1.ks.length : Int)).toNat)
section
variable {S U : Nat → Prop} {w : World} {sp : Nat} {s : Scrn} {F : ShF} {n : Nat} {ops : List (List Opn)} {m : Mv} {v : Value}
theorem ShopTo.from {w1 w' : World} (hb : Below w.heap.size w w1) (h : ShopTo S w1 sp s F w') : ShopTo S w sp s F w' :=
  ⟨h.1.wide (fun x hx => by
    rcases hx with e | e
    · exact .inl e
    · exact .inr (Nat.le_trans hb.size e)), (But.of_below (S := S) hb).trans h.2⟩
theorem Shop.clients (h : Shop S w sp s F) : w.cell? ⟨sp, 3, none⟩ = some (.int .i64 F.c.clients) ∧ sp < w.heap.size := by
  obtain ⟨a, o, xp, kb, sb, fb, cps, L, h1, h2, h3, h4⟩ := h
  exact ⟨blk_cell h1.blk 3, lt_of_heap h1.blk⟩
/-- The world behind the move's variable. -/
def mvW (w : World) (m : Mv) : World := w.alloc (.cells #[.int .i64 m.kind, .int .i64 m.a, .int .i64 m.b] 61)
/-- What 'pick' says. -/
structure Pk (c n z : Int) : Prop where
  eq : kpk c n = z
  fit : FitI c
  pos : 0 < n ∧ n ≤ 9000000000
theorem pk_any (c n z : Int) (w : World) (h : Pk c n z) : Calls Try.prog 20 #[.int .i64 c, .int .i64 n] w fun e w' => e = .returned (.int .i64 z) ∧ w' = w := by
  rw [← h.eq]; exact kpick_any c n w h.fit h.pos
/-- Moves are good moves. -/
theorem mv_in (hI : ShI n s F) (hn : n ≤ 1300000) (hO : OpsB ops) (m : Mv) : ShI (n + 1) (mv ops m (s, F)).1 (mv ops m (s, F)).2 := by
  have hn4 := hI.n4
  have ha := kpk_bd m.a (s.ks.length : Int) (by omega)
  have hb := kpk_bd m.b 400 (by omega)
  unfold mv
  split
  · simp only
    unfold subAll
    split
    · rename_i h0; exact sub_in hI h0
    · exact hI.mono (Nat.le_succ n)
  · split
    · obtain ⟨ms, hm, hI'⟩ := tick_in hI hn (b := (kpk m.b 400).toNat) (by omega)
      have e : firedM s F = ms := by unfold firedM; rw [hm.fire]; rfl
      simp only [e]
      exact hI'
    · split
      · exact come_in hI
      · exact leave_in hI (by simp only; omega)

end
end Go.Proofs.Ytfnockbgkcgpkaa
set_option linter.all false
namespace Go.Proofs.Ytfnockbgkcgpkaa
open Go.RowKit Go.Proofs.Panes
set_option maxRecDepth 100000
/-- The screen when k clients are connected; the shop then. -/
def openS (c : Cfg) (k : Nat) : Scrn := { newS c with ks := List.replicate k (some (newC c)) ++ List.replicate (c.clients.toNat - k) none }
def openF (c : Cfg) (k : Nat) : ShF := { c := c, there := List.replicate k true, wait := List.replicate k [], had := List.replicate k 0, marks := [], paid := 0, ticks := 0, flips := 0, rt := 0, rf := 0, rp := 0 }
theorem openS_zero (c : Cfg) : openS c 0 = newS c := by simp [openS, newS]
theorem first_open (c : Cfg) : ∀ (k m : Nat), firstNone (List.replicate k (some (newC c)) ++ List.replicate (m + 1) none) = some k
  | 0, m => by simp [firstNone, List.replicate_succ]
  | k + 1, m => by
    rw [List.replicate_succ, List.cons_append]
    simp [firstNone, first_open c k m]
theorem first_full (c : Cfg) : ∀ (k : Nat), firstNone (List.replicate k (some (newC c))) = none
  | 0 => rfl
  | k + 1 => by rw [List.replicate_succ]; simp [firstNone, first_full c k]
theorem set_open {α : Type} (a b : α) (k m : Nat) : (List.replicate k a ++ List.replicate (m + 1) b).set k a = List.replicate (k + 1) a ++ List.replicate m b := by
  rw [List.set_append_right _ _ (by simp), List.length_replicate, Nat.sub_self, List.replicate_succ (n := m), List.set_cons_zero, List.replicate_succ', List.append_assoc]; rfl
theorem came_open (c : Cfg) {k : Nat} (hk : k < c.clients.toNat) : firstNone (openS c k).ks = some k ∧ cameS (openS c k) = openS c (k + 1) := by
  obtain ⟨m, hm⟩ : ∃ m, c.clients.toNat - k = m + 1 := ⟨c.clients.toNat - k - 1, by omega⟩
  have e1 : firstNone (openS c k).ks = some k := by
    show firstNone (List.replicate k (some (newC c)) ++ List.replicate (c.clients.toNat - k) none) = some k
    rw [hm]; exact first_open c k m
  refine ⟨e1, ?_⟩
  unfold cameS
  rw [e1]
  simp only [openS, newS]
  have e2 : c.clients.toNat - (k + 1) = m := by omega
  rw [hm, e2, set_open]
theorem came_full (c : Cfg) : firstNone (openS c c.clients.toNat).ks = none ∧ cameS (openS c c.clients.toNat) = openS c c.clients.toNat := by
  have e1 : firstNone (openS c c.clients.toNat).ks = none := by
    show firstNone (List.replicate _ (some (newC c)) ++ List.replicate (c.clients.toNat - c.clients.toNat) none) = none
    rw [Nat.sub_self, List.replicate_zero, List.append_nil]; exact first_full c _
  refine ⟨e1, ?_⟩
  unfold cameS
  rw [e1]
theorem open_ok {c : Cfg} (h : okCfg c = true) : ∀ k, k ≤ c.clients.toNat → ScrOk 0 (openS c k)
  | 0, _ => by rw [openS_zero]; exact new_ok h
  | k + 1, hk => by
    obtain ⟨e1, e2⟩ := came_open c (k := k) (by omega)
    have h0 := open_ok h k (by omega)
    rw [← e2]
    unfold cameS
    rw [e1]
    refine conn_ok h0 ?_
    obtain ⟨h1, h2, -⟩ := firstNone_is _ _ e1
    rw [List.getElem?_map] at h2
    cases hk : (openS c k).ks[k]? with
    | none => rw [hk] at h2; cases h2
    | some x => cases x with
      | none => rfl
      | some cl => rw [hk] at h2; simp at h2
theorem open_in {c : Cfg} (h : okCfg c = true) : ShI 0 (openS c c.clients.toNat) (openF c c.clients.toNat) := by
  have hc := (cfgB h).clients
  have e : (openS c c.clients.toNat).ks = List.replicate c.clients.toNat (some (newC c)) := by simp [openS]
  refine ⟨open_ok h _ (Nat.le_refl _), by simp [openS, newS], rfl, ?_, ?_, rfl, ?_, fun x hx => ?_, by simp [openF], by simp [openF], by simp [openF], fun d => ?_, fun j hj => ?_⟩
  · rw [e]; simp [openF]
  · rw [e]; simp [openF, costsK, newC]
  · rw [e]; simp [openF]
  · have : x = 0 := List.eq_of_mem_replicate hx
    subst this; simp
  · have q0 : qAsk (openS c c.clients.toNat).ks d = [] := by
      rw [e]
      unfold qAsk perC
      split
      · rw [List.getElem?_replicate]
        split
        · rename_i k hk
          split at hk
          · cases hk; rfl
          · cases hk
        · rfl
      · rfl
    unfold allM
    rw [q0]
    simp [openF, pend, openS, newS, newF, frM, ofC]
  · rw [e, List.getElem?_replicate] at hj
    split at hj <;> simp at hj
def cfgcells (c : Cfg) : Array Value := #[.int .i64 c.w, .int .i64 c.h, .int .i64 c.clients, .int .i64 c.queue, .int .i64 c.most, .int .i64 c.quantum, .int .i64 c.surfaces, .int .i64 c.behind]
/-- While a shop is opened. -/
structure OpS (w wr : World) (sp xp kb sb fb cb : Nat) (c : Cfg) (s : Scrn) (F : ShF) : Prop where
  go : ∃ (a o : Nat → Nat) (cps : List (Option Nat)) (L : ShL), ShB a wr sp xp F L ∧ ScrM o wr xp kb sb fb cps s ∧ (∀ x, a x ≠ 0 → o x = 0) ∧ ∀ x, a x ≠ 0 ∨ o x ≠ 0 → w.heap.size ≤ x ∧ x ≠ cb
  blk : wr.heap[cb]? = some (.cells (cfgcells c) 48 (0, 0))
  bel : Below w.heap.size w wr
section
variable {w wr : World} {sp xp kb sb fb cb : Nat} {c : Cfg} {s : Scrn} {F : ShF}
theorem OpS.below (h : OpS w wr sp xp kb sb fb cb c s F) {w2 : World} (hb : Below wr.heap.size wr w2) : OpS w w2 sp xp kb sb fb cb c s F := by
  obtain ⟨a, o, cps, L, h1, h2, h3, h4⟩ := h.go
  exact ⟨⟨a, o, cps, L, h1.below hb, h2.below hb, h3, h4⟩, (But.of_below (S := fun _ => False) hb).heap h.blk (fun h => h), h.bel.trans (hb.mono h.bel.size)⟩
theorem OpS.connect {k : Nat} (h : OpS w wr sp xp kb sb fb cb c (openS c k) F) (hc : okCfg c = true) (hk : k < c.clients.toNat) :
    Calls Try.prog 51 #[.pointer (some ⟨xp, 0, none⟩)] wr fun e w' => e = .returned (.tuple #[.int .i64 (k : Int), .int .i64 0]) ∧ OpS w w' sp xp kb sb fb cb c (openS c (k + 1)) F := by
  have hcb := cfgB hc
  have h5 := hcb.clients
  have h6 := hcb.surfaces
  obtain ⟨a, o, cps, L, h1, h2, h3, h4⟩ := h.go
  obtain ⟨e1, e2⟩ := came_open c hk
  refine (come_call h1 h2 h3 (by simp [openS]; omega) (by show c.surfaces.toNat ≤ 4; omega)).mono ?_
  rintro e w' ⟨⟨n, cc, rfl, hor⟩, o', cps', L', k1, k2, k3, k4, k5⟩
  rcases hor with ⟨j, hj, rfl, rfl⟩ | ⟨hj, -⟩
  · rw [e1] at hj
    cases hj
    rw [e2] at k2
    have hcl := lt_of_heap h.blk
    refine ⟨rfl, ⟨a, o', cps', L', k1, k2, k3, fun x hx => ?_⟩, k4.heap h.blk (fun e => (h4 cb e).2 rfl), h.bel.trans (k4.below h.bel.size (fun x hx => (h4 x hx).1))⟩
    rcases hx with q | q
    · exact h4 x (.inl q)
    · rcases Nat.lt_or_ge x wr.heap.size with d | d
      · exact h4 x (.inr (k5 x d q))
      · exact ⟨Nat.le_trans h.bel.size d, by omega⟩
  · rw [e1] at hj; cases hj
theorem OpS.full (h : OpS w wr sp xp kb sb fb cb c (openS c c.clients.toNat) F) (hc : okCfg c = true) :
    Calls Try.prog 51 #[.pointer (some ⟨xp, 0, none⟩)] wr fun e w' => (∃ n : Int, e = .returned (.tuple #[.int .i64 n, .int .i64 5])) ∧ OpS w w' sp xp kb sb fb cb c (openS c c.clients.toNat) F := by
  have hcb := cfgB hc
  have h5 := hcb.clients
  have h6 := hcb.surfaces
  obtain ⟨a, o, cps, L, h1, h2, h3, h4⟩ := h.go
  obtain ⟨e1, e2⟩ := came_full c
  refine (come_call h1 h2 h3 (by simp [openS]; omega) (by show c.surfaces.toNat ≤ 4; omega)).mono ?_
  rintro e w' ⟨⟨n, cc, rfl, hor⟩, o', cps', L', k1, k2, k3, k4, k5⟩
  rcases hor with ⟨j, hj, rfl, rfl⟩ | ⟨hj, rfl⟩
  · rw [e1] at hj; cases hj
  · rw [e2] at k2
    have hcl := lt_of_heap h.blk
    refine ⟨⟨n, rfl⟩, ⟨a, o', cps', L', k1, k2, k3, fun x hx => ?_⟩, k4.heap h.blk (fun e => (h4 cb e).2 rfl), h.bel.trans (k4.below h.bel.size (fun x hx => (h4 x hx).1))⟩
    rcases hx with q | q
    · exact h4 x (.inl q)
    · rcases Nat.lt_or_ge x wr.heap.size with d | d
      · exact h4 x (.inr (k5 x d q))
      · exact ⟨Nat.le_trans h.bel.size d, by omega⟩
theorem OpS.done (h : OpS w wr sp xp kb sb fb cb c s F) : Shop (fun x => w.heap.size ≤ x) wr sp s F ∧ Below w.heap.size w wr := by
  obtain ⟨a, o, cps, L, h1, h2, h3, h4⟩ := h.go
  exact ⟨⟨a, o, xp, kb, sb, fb, cps, L, h1, h2, h3, fun x hx => (h4 x hx).1⟩, h.bel⟩
theorem OpS.cl (h : OpS w wr sp xp kb sb fb cb c s F) : wr.cell? ⟨cb, 2, none⟩ = some (.int .i64 c.clients) := blk_cell h.blk 2
/-- One more is there. -/
theorem OpS.pushThere (h : OpS w wr sp xp kb sb fb cb c s F) (hl : F.there.length ≤ 1000000000) : ∃ ao mc g cap w5, wr.cell? ⟨sp, 9, none⟩ = some (.slice ao F.there.length mc) ∧ (wr.alloc (.cells #[.bool true] 4)).cell? ⟨sp, 9, none⟩ = some (.slice ao F.there.length mc) ∧
    (Builtin.append_ #[50, 50] 50 #[.slice ao F.there.length mc, .slice (some ⟨wr.heap.size, 0, none⟩) 1 1]).run Try.prog (wr.alloc (.cells #[.bool true] 4)) = .ok (.slice (some ⟨g, 0, none⟩) (F.there.length + 1) cap) w5 ∧ w5.cell? ⟨sp, 9, none⟩ = some (.slice ao F.there.length mc) ∧ w5.frozen? ⟨sp, 9, none⟩ = false ∧
    OpS w (w5.setCell ⟨sp, 9, none⟩ (.slice (some ⟨g, 0, none⟩) (F.there.length + 1) cap)) sp xp kb sb fb cb c s { F with there := F.there ++ [true] } := by
  obtain ⟨W, hW⟩ : ∃ W, W = wr.alloc (.cells #[.bool true] 4) := ⟨_, rfl⟩
  have hb : Below wr.heap.size wr W := by rw [hW]; exact (Below.refl _ wr).alloc (Nat.le_refl _) _
  have hN : W.heap[wr.heap.size]? = some (.cells #[.bool true] 4) := by rw [hW]; exact new_at wr _ _ rfl
  have k := h.below hb
  obtain ⟨a, o, cps, L, h1, h2, h3, h4⟩ := k.go
  obtain ⟨a0, o0, cps0, L0, z1, -⟩ := h.go
  have lsp : sp < wr.heap.size := lt_of_heap z1.blk
  obtain ⟨mo, mc, hmv⟩ := row_slice h1.there
  have c12 : W.cell? ⟨sp, 9, none⟩ = some (.slice mo F.there.length mc) := by
    have := blk_cell h1.blk 9
    simp only [shcells] at this
    rw [this]
    simp [hmv]
  obtain ⟨g, cap, w5, hrun, r12, rz, hbt, hq⟩ := h1.pushThere hl true wr.heap.size (blk_cell hN 0)
  obtain ⟨a2, q1, q2, q3⟩ := hq 0
  rw [hmv] at hrun r12
  refine ⟨mo, mc, g, cap, w5, ((hb.cell lsp).symm.trans c12), by rw [← hW]; exact c12, by rw [← hW]; exact hrun, r12, rz, ?_⟩
  have hbx : But (fun x => a x ≠ 0) W (w5.setCell ⟨sp, 9, none⟩ (.slice (some ⟨g, 0, none⟩) (F.there.length + 1) cap)) := q2.but
  have hcl := lt_of_heap h.blk
  refine ⟨⟨a2, o, cps, _, q1, h2.but hbx (fun x hx e => e (by
    rcases Nat.eq_zero_or_pos (a x) with z | z
    · exact z
    · exact absurd (h3 x (by omega)) hx)), fun x hx => ?_, fun x hx => ?_⟩, hbx.heap k.blk (fun e => (h4 cb (.inl e)).2 rfl), k.bel.trans (hbx.below k.bel.size (fun x hx => (h4 x (.inl hx)).1))⟩
  · rcases q3 x hx with d | d
    · exact h3 x d
    · rw [d]; exact h2.new0 (Nat.le_refl _)
  · rcases hx with q | q
    · rcases q3 x q with d | d
      · exact h4 x (.inl d)
      · have := hb.size
        have := k.bel.size
        exact ⟨by omega, by omega⟩
    · exact h4 x (.inr q)
/-- Nothing waits of it. -/
theorem OpS.pushNil (h : OpS w wr sp xp kb sb fb cb c s F) (hl : F.wait.length ≤ 1000000000) : ∃ ao mc g cap w5, wr.cell? ⟨sp, 10, none⟩ = some (.slice ao F.wait.length mc) ∧ (wr.alloc (.cells #[.slice none 0 0] 23)).cell? ⟨sp, 10, none⟩ = some (.slice ao F.wait.length mc) ∧
    (Builtin.append_ #[51, 51] 51 #[.slice ao F.wait.length mc, .slice (some ⟨wr.heap.size, 0, none⟩) 1 1]).run Try.prog (wr.alloc (.cells #[.slice none 0 0] 23)) = .ok (.slice (some ⟨g, 0, none⟩) (F.wait.length + 1) cap) w5 ∧ w5.cell? ⟨sp, 10, none⟩ = some (.slice ao F.wait.length mc) ∧ w5.frozen? ⟨sp, 10, none⟩ = false ∧
    OpS w (w5.setCell ⟨sp, 10, none⟩ (.slice (some ⟨g, 0, none⟩) (F.wait.length + 1) cap)) sp xp kb sb fb cb c s { F with wait := F.wait ++ [[]] } := by
  obtain ⟨W, hW⟩ : ∃ W, W = wr.alloc (.cells #[.slice none 0 0] 23) := ⟨_, rfl⟩
  have hb : Below wr.heap.size wr W := by rw [hW]; exact (Below.refl _ wr).alloc (Nat.le_refl _) _
  have hN : W.heap[wr.heap.size]? = some (.cells #[.slice none 0 0] 23) := by rw [hW]; exact new_at wr _ _ rfl
  have k := h.below hb
  obtain ⟨a, o, cps, L, h1, h2, h3, h4⟩ := k.go
  obtain ⟨a0, o0, cps0, L0, z1, -⟩ := h.go
  have lsp : sp < wr.heap.size := lt_of_heap z1.blk
  obtain ⟨mo, mc, hmv⟩ := row_slice h1.wait
  have c12 : W.cell? ⟨sp, 10, none⟩ = some (.slice mo F.wait.length mc) := by
    have := blk_cell h1.blk 10
    simp only [shcells] at this
    rw [this]
    simp [hmv]
  obtain ⟨g, cap, w5, hrun, r12, rz, hbt, hq⟩ := h1.pushNil hl  wr.heap.size (blk_cell hN 0)
  obtain ⟨a2, q1, q2, q3⟩ := hq 0
  rw [hmv] at hrun r12
  refine ⟨mo, mc, g, cap, w5, ((hb.cell lsp).symm.trans c12), by rw [← hW]; exact c12, by rw [← hW]; exact hrun, r12, rz, ?_⟩
  have hbx : But (fun x => a x ≠ 0) W (w5.setCell ⟨sp, 10, none⟩ (.slice (some ⟨g, 0, none⟩) (F.wait.length + 1) cap)) := q2.but
  have hcl := lt_of_heap h.blk
  refine ⟨⟨a2, o, cps, _, q1, h2.but hbx (fun x hx e => e (by
    rcases Nat.eq_zero_or_pos (a x) with z | z
    · exact z
    · exact absurd (h3 x (by omega)) hx)), fun x hx => ?_, fun x hx => ?_⟩, hbx.heap k.blk (fun e => (h4 cb (.inl e)).2 rfl), k.bel.trans (hbx.below k.bel.size (fun x hx => (h4 x (.inl hx)).1))⟩
  · rcases q3 x hx with d | d
    · exact h3 x d
    · rw [d]; exact h2.new0 (Nat.le_refl _)
  · rcases hx with q | q
    · rcases q3 x q with d | d
      · exact h4 x (.inl d)
      · have := hb.size
        have := k.bel.size
        exact ⟨by omega, by omega⟩
    · exact h4 x (.inr q)
/-- It had nothing. -/
theorem OpS.pushHad (h : OpS w wr sp xp kb sb fb cb c s F) (hl : F.had.length ≤ 1000000000) : ∃ ao mc g cap w5, wr.cell? ⟨sp, 11, none⟩ = some (.slice ao F.had.length mc) ∧ (wr.alloc (.cells #[.int .i64 0] 3)).cell? ⟨sp, 11, none⟩ = some (.slice ao F.had.length mc) ∧
    (Builtin.append_ #[23, 23] 23 #[.slice ao F.had.length mc, .slice (some ⟨wr.heap.size, 0, none⟩) 1 1]).run Try.prog (wr.alloc (.cells #[.int .i64 0] 3)) = .ok (.slice (some ⟨g, 0, none⟩) (F.had.length + 1) cap) w5 ∧ w5.cell? ⟨sp, 11, none⟩ = some (.slice ao F.had.length mc) ∧ w5.frozen? ⟨sp, 11, none⟩ = false ∧
    OpS w (w5.setCell ⟨sp, 11, none⟩ (.slice (some ⟨g, 0, none⟩) (F.had.length + 1) cap)) sp xp kb sb fb cb c s { F with had := F.had ++ [0] } := by
  obtain ⟨W, hW⟩ : ∃ W, W = wr.alloc (.cells #[.int .i64 0] 3) := ⟨_, rfl⟩
  have hb : Below wr.heap.size wr W := by rw [hW]; exact (Below.refl _ wr).alloc (Nat.le_refl _) _
  have hN : W.heap[wr.heap.size]? = some (.cells #[.int .i64 0] 3) := by rw [hW]; exact new_at wr _ _ rfl
  have k := h.below hb
  obtain ⟨a, o, cps, L, h1, h2, h3, h4⟩ := k.go
  obtain ⟨a0, o0, cps0, L0, z1, -⟩ := h.go
  have lsp : sp < wr.heap.size := lt_of_heap z1.blk
  obtain ⟨mo, mc, hmv⟩ := row_slice h1.had
  have c12 : W.cell? ⟨sp, 11, none⟩ = some (.slice mo F.had.length mc) := by
    have := blk_cell h1.blk 11
    simp only [shcells] at this
    rw [this]
    simp [hmv]
  obtain ⟨g, cap, w5, hrun, r12, rz, hbt, hq⟩ := h1.pushHad hl 0 wr.heap.size (blk_cell hN 0)
  obtain ⟨a2, q1, q2, q3⟩ := hq 0
  rw [hmv] at hrun r12
  refine ⟨mo, mc, g, cap, w5, ((hb.cell lsp).symm.trans c12), by rw [← hW]; exact c12, by rw [← hW]; exact hrun, r12, rz, ?_⟩
  have hbx : But (fun x => a x ≠ 0) W (w5.setCell ⟨sp, 11, none⟩ (.slice (some ⟨g, 0, none⟩) (F.had.length + 1) cap)) := q2.but
  have hcl := lt_of_heap h.blk
  refine ⟨⟨a2, o, cps, _, q1, h2.but hbx (fun x hx e => e (by
    rcases Nat.eq_zero_or_pos (a x) with z | z
    · exact z
    · exact absurd (h3 x (by omega)) hx)), fun x hx => ?_, fun x hx => ?_⟩, hbx.heap k.blk (fun e => (h4 cb (.inl e)).2 rfl), k.bel.trans (hbx.below k.bel.size (fun x hx => (h4 x (.inl hx)).1))⟩
  · rcases q3 x hx with d | d
    · exact h3 x d
    · rw [d]; exact h2.new0 (Nat.le_refl _)
  · rcases hx with q | q
    · rcases q3 x q with d | d
      · exact h4 x (.inl d)
      · have := hb.size
        have := k.bel.size
        exact ⟨by omega, by omega⟩
    · exact h4 x (.inr q)
end
end Go.Proofs.Ytfnockbgkcgpkaa
set_option linter.all false
namespace Go.Proofs.Ytfnockbgkcgpkaa
open Go.RowKit Go.Proofs.Panes
set_option maxRecDepth 100000
/-- What 'opened' leaves. -/
def OpenPost (c : Cfg) (w : World) (e : Ending) (w' : World) : Prop := ∃ sp, e = .returned (.pointer (some ⟨sp, 0, none⟩)) ∧ Shop (fun x => w.heap.size ≤ x) w' sp (openS c c.clients.toNat) (openF c c.clients.toNat) ∧ Below w.heap.size w w'
theorem alloc_sz (w : World) (o : Obj) : (w.alloc o).heap.size = w.heap.size + 1 := World.size_alloc w o
def nilL : ShL := ⟨.slice none 0 0, .slice none 0 0, .slice none 0 0, .slice none 0 0, .slice none 0 0, .slice none 0 0, []⟩
theorem op_start {w w2 w3 : World} {d : Cfg} {o : Nat → Nat} {xp kb sb fb : Nat} {cps : List (Option Nat)} (h2 : Below w.heap.size w w2) (hM : ScrM o w3 xp kb sb fb cps (newS d)) (ho : ∀ x, o x ≠ 0 → (w2.alloc (.cells (cfgcells d) 48)).heap.size ≤ x) (hb3 : Below (w2.alloc (.cells (cfgcells d) 48)).heap.size (w2.alloc (.cells (cfgcells d) 48)) w3) :
    w3.heap[w2.heap.size]? = some (.cells (cfgcells d) 48) ∧ OpS w (w3.alloc (.cells (shcells xp (openF d 0) nilL) 57)) w3.heap.size xp kb sb fb w2.heap.size d (openS d 0) (openF d 0) := by
  have hc2 : (w2.alloc (.cells (cfgcells d) 48)).heap[w2.heap.size]? = some (.cells (cfgcells d) 48) := new_at w2 _ _ rfl
  have hc3 : w3.heap[w2.heap.size]? = some (.cells (cfgcells d) 48) := (hb3.block _ (lt_of_heap hc2)).trans hc2
  have hsz : (w2.alloc (.cells (cfgcells d) 48)).heap.size = w2.heap.size + 1 := alloc_sz _ _
  have h3s := hb3.size
  have h2s := h2.size
  have hb4 : Below w3.heap.size w3 (w3.alloc (.cells (shcells xp (openF d 0) nilL) 57)) := (Below.refl _ w3).alloc (Nat.le_refl _) _
  have h23 : Below w.heap.size w w3 := h2.trans ((((Below.refl _ w2).alloc (Nat.le_refl _) _).mono h2s).trans (hb3.mono (by omega)))
  have hn4 : (w3.alloc (.cells (shcells xp (openF d 0) nilL) 57)).heap[w3.heap.size]? = some (.cells (shcells xp (openF d 0) nilL) 57) := new_at w3 _ _ rfl
  have hs4 : (w3.alloc (.cells (shcells xp (openF d 0) nilL) 57)).heap.size = w3.heap.size + 1 := alloc_sz _ _
  refine ⟨hc3, ⟨fun x => if x = w3.heap.size then 1 else 0, o, cps, nilL, ⟨hn4, World.ownsRow_nil _ _ _ _, World.ownsRow_nil _ _ _ _, fun i v l hv _ => by simp [nilL] at hv, World.ownsRow_nil _ _ _ _, World.ownsRow_nil _ _ _ _, by simp, fun k hk => by simp [nilL, Value.ownBlock] at hk, fun k hk => by simp [nilL, Value.ownBlock] at hk, fun k hk => by simp [nilL, Value.ownBlock] at hk, fun k hk => by simp [nilL, Value.ownBlock] at hk, fun x hx => ?_⟩, ?_, fun x hx => ?_, fun x hx => ?_⟩, (But.of_below (S := fun _ => False) hb4).heap hc3 (fun h => h), h23.trans (hb4.mono h23.size)⟩
  · by_cases e : x = w3.heap.size
    · omega
    · simp only [if_neg e] at hx; exact absurd rfl hx
  · rw [openS_zero]; exact hM.below hb4
  · by_cases e : x = w3.heap.size
    · rw [e]; exact hM.new0 (Nat.le_refl _)
    · simp only [if_neg e] at hx; exact absurd rfl hx
  · rcases hx with q | q
    · by_cases e : x = w3.heap.size
      · omega
      · simp only [if_neg e] at q; exact absurd rfl q
    · have := ho x q
      omega
set_option maxHeartbeats 8000000 in
theorem opened_any (c : Cfg) (hc : FitC c) (w : World) : Calls Try.prog 25 #[cval c] w (OpenPost (confC c) w) := by
  have hok := confC_ok c
  have hcb := cfgB hok
  have hcl := hcb.clients
  obtain ⟨d, hd⟩ : ∃ d, d = confC c := ⟨_, rfl⟩
  rw [← hd] at hok hcb hcl ⊢
  obtain ⟨n, hn⟩ : ∃ n : Nat, d.clients = (n : Int) := ⟨d.clients.toNat, by omega⟩
  have hnn : d.clients.toNat = n := by omega
  have hn4 : n ≤ 4 := by omega
  have HCF : Hid (∀ w, Calls Try.prog 39 #[.agg #[.int .i64 c.w, .int .i64 c.h, .int .i64 c.clients, .int .i64 c.queue, .int .i64 c.most, .int .i64 c.quantum, .int .i64 c.surfaces, .int .i64 c.behind]] w fun e w' => e = .returned (.agg #[.int .i64 d.w, .int .i64 d.h, .int .i64 d.clients, .int .i64 d.queue, .int .i64 d.most, .int .i64 d.quantum, .int .i64 d.surfaces, .int .i64 d.behind]) ∧ Below w.heap.size w w') := fun w => by
    rw [hd]; exact config_any c hc w
  have HNW : Hid (∀ w, Calls Try.prog 38 #[.agg #[.int .i64 d.w, .int .i64 d.h, .int .i64 d.clients, .int .i64 d.queue, .int .i64 d.most, .int .i64 d.quantum, .int .i64 d.surfaces, .int .i64 d.behind]] w (NewPost d w)) := fun w => panesNew_ok d w hok n hn
  have HOK := hide hok
  have HN := hide hn
  have HNN := hide hnn
  clear hok hcb hcl hd hc hn hnn
  unfold cval
  go_enter Try.func25, Try.ntmps25
  go_wp2_with (first
    | (go_at_call 39; refine ((unhide HCF) _).mono ?_; rintro e w2 ⟨rfl, hb2⟩
       have HB2 : Hid (Below w.heap.size w w2) := ((Below.refl _ w).alloc (Nat.le_refl _) _).trans (hb2.mono ((Below.refl _ w).alloc (Nat.le_refl _) _).size)
       clear hb2)
    | (go_at_call 38; refine ((unhide HNW) _).mono ?_; rintro e w3 ⟨xp, kb, sb, fb, o, rfl, hM, ho, hb3⟩
       obtain ⟨hblk, hO⟩ := op_start (unhide HB2) hM ho hb3
       have b0 : w3.cell? ⟨w2.heap.size, 0, none⟩ = some (.int .i64 d.w) := blk_cell hblk 0
       have b1 : w3.cell? ⟨w2.heap.size, 1, none⟩ = some (.int .i64 d.h) := blk_cell hblk 1
       have b2 : w3.cell? ⟨w2.heap.size, 2, none⟩ = some (.int .i64 d.clients) := blk_cell hblk 2
       have b3 : w3.cell? ⟨w2.heap.size, 3, none⟩ = some (.int .i64 d.queue) := blk_cell hblk 3
       have b4 : w3.cell? ⟨w2.heap.size, 4, none⟩ = some (.int .i64 d.most) := blk_cell hblk 4
       have b5 : w3.cell? ⟨w2.heap.size, 5, none⟩ = some (.int .i64 d.quantum) := blk_cell hblk 5
       have b6 : w3.cell? ⟨w2.heap.size, 6, none⟩ = some (.int .i64 d.surfaces) := blk_cell hblk 6
       have b7 : w3.cell? ⟨w2.heap.size, 7, none⟩ = some (.int .i64 d.behind) := blk_cell hblk 7
       have HO := hide hO
       clear hM ho hb3 hO hblk))
  clear b0 b1 b2 b3 b4 b5 b6 b7 HCF HNW HB2
  have HO2 : Hid (OpS w (w3.alloc (.cells #[.pointer (some ⟨xp, 0, none⟩), .int .i64 d.w, .int .i64 d.h, .int .i64 d.clients, .int .i64 d.queue, .int .i64 d.most, .int .i64 d.quantum, .int .i64 d.surfaces, .int .i64 d.behind, .slice none 0 0, .slice none 0 0, .slice none 0 0, .slice none 0 0, .int .i64 0, .int .i64 0, .bool true, .int .i64 0, .int .i64 0, .int .i64 0, .int .i64 0, .slice none 0 0, .slice none 0 0] 57)) w3.heap.size xp kb sb fb w2.heap.size d (openS d 0) (openF d 0)) := HO
  clear HO
  generalize (w3.alloc (.cells #[.pointer (some ⟨xp, 0, none⟩), .int .i64 d.w, .int .i64 d.h, .int .i64 d.clients, .int .i64 d.queue, .int .i64 d.most, .int .i64 d.quantum, .int .i64 d.surfaces, .int .i64 d.behind, .slice none 0 0, .slice none 0 0, .slice none 0 0, .slice none 0 0, .int .i64 0, .int .i64 0, .bool true, .int .i64 0, .int .i64 0, .int .i64 0, .int .i64 0, .slice none 0 0, .slice none 0 0] 57)) = W at HO2 ⊢
  generalize w3.heap.size = sp at HO2 ⊢
  generalize w2.heap.size = cb at HO2 ⊢
  go_loopw [7] (fun x wr => ∃ k : Nat, k ≤ n ∧ x = .int .i64 k ∧ OpS w wr sp xp kb sb fb cb d (openS d k) (openF d k)) (fun x _ => n - (intOf x).toNat)
  case atStart => exact ⟨0, Nat.zero_le _, rfl, unhide HO2⟩
  case round =>
    clear HO2
    obtain ⟨k, hk, rfl, hO⟩ := hrel
    have c2 := hO.cl
    rw [unhide HN] at c2
    by_cases hlt : k < n
    · have HC := hide (hO.connect (unhide HOK) (by rw [unhide HNN]; exact hlt))
      have k1 : (k : Int) < (n : Int) := by omega
      have kk : ((k : Int) != (k : Int)) = false := by simp
      clear hO
      go_wp2_with (first
        | (go_at_call 51; refine (unhide HC).mono ?_; rintro e w4 ⟨rfl, hO1⟩
           obtain ⟨p1, q1, g1, r1, w5, s1, s2, s3, s4, s5, hO2⟩ := hO1.pushThere (by simp [openF]; omega)
           rw [show (openF d k).there.length = k from by simp [openF]] at s1 s2 s3 s4 hO2
           obtain ⟨p2, q2, g2, r2, w6, t1, t2, t3, t4, t5, hO3⟩ := hO2.pushNil (by simp [openF]; omega)
           rw [show ({ openF d k with there := (openF d k).there ++ [true] } : ShF).wait.length = k from by simp [openF]] at t1 t2 t3 t4 hO3
           obtain ⟨p3, q3, g3, r3, w7, v1, v2, v3, v4, v5, hO4⟩ := hO3.pushHad (by simp [openF]; omega)
           rw [show ({ ({ openF d k with there := (openF d k).there ++ [true] } : ShF) with wait := ({ openF d k with there := (openF d k).there ++ [true] } : ShF).wait ++ [[]] } : ShF).had.length = k from by simp [openF]] at v1 v2 v3 v4 hO4
           simp only [World.size_setCell] at t3 v3
           have HR1 := hide s3
           have HR2 := hide t3
           have HR3 := hide v3
           have HO4 : Hid (OpS w (w7.setCell ⟨sp, 11, none⟩ (.slice (some ⟨g3, 0, none⟩) (k + 1) r3)) sp xp kb sb fb cb d (openS d (k + 1)) (openF d (k + 1))) := by
             have e : openF d (k + 1) = { ({ ({ openF d k with there := (openF d k).there ++ [true] } : ShF) with wait := ({ openF d k with there := (openF d k).there ++ [true] } : ShF).wait ++ [[]] } : ShF) with had := ({ ({ openF d k with there := (openF d k).there ++ [true] } : ShF) with wait := ({ openF d k with there := (openF d k).there ++ [true] } : ShF).wait ++ [[]] } : ShF).had ++ [0] } := by
               simp [openF, List.replicate_succ']
             rw [e]; exact hO4
           clear hO1 hO2 hO3 hO4 s3 t3 v3)
        | (at_builtin; refine wpList_append_at rfl _ _ 50 50 rfl rfl _ _ _ _ rfl rfl (unhide HR1) ?_)
        | (at_builtin; refine wpList_append_at rfl _ _ 51 51 rfl rfl _ _ _ _ rfl rfl (unhide HR2) ?_)
        | (at_builtin; refine wpList_append_at rfl _ _ 23 23 rfl rfl _ _ _ _ rfl rfl (unhide HR3) ?_))
      go_roundw
      case rel => exact ⟨k + 1, by omega, by go_num, unhide HO4⟩
      case measure => simp [intOf]; omega
    · have ek : k = n := by omega
      subst ek
      have k1 : ¬ (k : Int) < (k : Int) := by omega
      have HC : Hid (Calls Try.prog 51 #[.pointer (some ⟨xp, 0, none⟩)] wr fun e w' => (∃ n : Int, e = .returned (.tuple #[.int .i64 n, .int .i64 5])) ∧ OpS w w' sp xp kb sb fb cb d (openS d d.clients.toNat) (openF d d.clients.toNat)) := by
        rw [← unhide HNN] at hO
        exact hO.full (unhide HOK)
      clear hO
      go_wp2_with (go_at_call 51; refine (unhide HC).mono ?_; rintro e w4 ⟨⟨n2, rfl⟩, hO1⟩
                   have HO1 := hide hO1
                   clear hO1)
      go_ret
      exact ⟨sp, rfl, (unhide HO1).done⟩
end Go.Proofs.Ytfnockbgkcgpkaa
set_option linter.all false
namespace Go.Proofs.Ytfnockbgkcgpkaa
open Go.RowKit Go.Proofs.Panes
set_option maxRecDepth 100000
/-- A shop that was opened since w. -/
structure ShN (w wr : World) (sp : Nat) (s : Scrn) (F : ShF) : Prop where
  shop : Shop (fun x => w.heap.size ≤ x) wr sp s F
  bel : Below w.heap.size w wr
def tickA (b : Nat) (st : Scrn × ShF) : Scrn × ShF := (tickS st.1 b, tickF st.1 st.2 b (firedM st.1 st.2))
section
variable {S : Nat → Prop} {w wr w' : World} {sp n : Nat} {s s' : Scrn} {F F' : ShF}
theorem ShN.below (h : ShN w wr sp s F) (hb : Below wr.heap.size wr w') : ShN w w' sp s F := ⟨h.shop.below hb, h.bel.trans (hb.mono h.bel.size)⟩
theorem ShN.to (h : ShN w wr sp s F) (k : ShopTo (fun x => w.heap.size ≤ x) wr sp s' F' w') : ShN w w' sp s' F' :=
  ⟨k.1.wide (fun x hx => by
    rcases hx with e | e
    · exact e
    · exact Nat.le_trans h.bel.size e), h.bel.trans (k.2.below h.bel.size (fun _ h => h))⟩
theorem Shop.lt (h : Shop S w sp s F) : Shop (fun x => S x ∧ x < w.heap.size) w sp s F := by
  obtain ⟨a, o, xp, kb, sb, fb, cps, L, h1, h2, h3, h4⟩ := h
  refine ⟨a, o, xp, kb, sb, fb, cps, L, h1, h2, h3, fun x hx => ⟨h4 x hx, ?_⟩⟩
  rcases hx with e | e
  · exact h1.lt x e
  · exact h2.lt x e
theorem ShN.cells (h : ShN w wr sp s F) : wr.cell? ⟨sp, 1, none⟩ = some (.int .i64 F.c.w) ∧ wr.cell? ⟨sp, 2, none⟩ = some (.int .i64 F.c.h) ∧ wr.cell? ⟨sp, 15, none⟩ = some (.bool true) ∧ wr.cell? ⟨sp, 16, none⟩ = some (.int .i64 F.flips) ∧ sp < wr.heap.size := by
  obtain ⟨a, o, xp, kb, sb, fb, cps, L, h1, h2, h3, h4⟩ := h.shop
  exact ⟨blk_cell h1.blk 1, blk_cell h1.blk 2, blk_cell h1.blk 15, blk_cell h1.blk 16, lt_of_heap h1.blk⟩
theorem ShN.tick (h : ShN w wr sp s F) (hI : ShI n s F) (hn : n ≤ 1300000) (b : Nat) (hb : b ≤ 1000) :
    Calls Try.prog 27 #[.pointer (some ⟨sp, 0, none⟩), .int .i64 (b : Int)] wr (fun e w' => (∃ u, e = .returned u) ∧ ShN w w' sp (tickA b (s, F)).1 (tickA b (s, F)).2 ∧ RepLen sp (flipF s.f).2.2.length w') ∧ ShI (n + 1) (tickA b (s, F)).1 (tickA b (s, F)).2 := by
  obtain ⟨h1, h2⟩ := shop_tick h.shop hI hn b hb
  refine ⟨h1.mono ?_, h2⟩
  rintro e w' ⟨g1, g2, g3⟩
  exact ⟨g1, h.to g2, g3⟩
theorem ShN.leave (h : ShN w wr sp s F) (hI : ShI n s F) (hn : n ≤ 1300000) (i : Nat) (hi : i < s.ks.length) :
    Calls Try.prog 50 #[.pointer (some ⟨sp, 0, none⟩), .int .i64 (i : Int)] wr (fun e w' => (∃ u, e = .returned u) ∧ ShN w w' sp (leftS s i) (leftF F i)) ∧ ShI (n + 1) (leftS s i) (leftF F i) := by
  obtain ⟨h1, h2⟩ := shop_leave h.shop hI hn i hi
  refine ⟨h1.mono ?_, h2⟩
  rintro e w' ⟨g1, g2⟩
  exact ⟨g1, h.to g2⟩
theorem ShN.sub (h : ShN w wr sp s F) (hI : ShI n s F) (hn : n ≤ 1300000) (i : Nat) (hi : i < s.ks.length) {U : Nat → Prop} {raw : List Opn} {ao : Option Addr} {cap : Nat} {w2 : World} (hb : Below wr.heap.size wr w2) (hR : RdO U w2 (.slice ao raw.length cap) raw) (hz : ao = none → cap = 0) (hU : ∀ y, U y → y < w2.heap.size ∧ wr.heap.size ≤ y) (hrl : raw.length ≤ 2000000) (hpx : ∀ x ∈ raw, x.px.length ≤ 100000000) :
    Calls Try.prog 49 #[.pointer (some ⟨sp, 0, none⟩), .int .i64 (i : Int), .slice ao raw.length cap] w2 (fun e w' => (∃ u, e = .returned u) ∧ ShN w w' sp (subAll s F i raw).1 (subAll s F i raw).2) ∧ ShI (n + 1) (subAll s F i raw).1 (subAll s F i raw).2 := by
  obtain ⟨h1, h2⟩ := shop_sub (h.shop.lt.below hb) hI hn i hi hR hz (fun y hy => ⟨(hU y hy).1, fun e => by have := (hU y hy).2; have := e.2; omega⟩) hrl hpx
  refine ⟨h1.mono ?_, h2⟩
  rintro e w' ⟨g1, g2, g3⟩
  have hb2 : Below w.heap.size w w2 := h.bel.trans (hb.mono h.bel.size)
  refine ⟨g1, g2.wide (fun x hx => ?_), hb2.trans (g3.below hb2.size (fun x hx => hx.1))⟩
  rcases hx with e | e
  · exact e.1
  · exact Nat.le_trans hb2.size e
theorem ShN.front (h : ShN w wr sp s F) (hI : ShI n s F) : ∃ xp, wr.cell? ⟨sp, 0, none⟩ = some (.pointer (some ⟨xp, 0, none⟩)) ∧ Calls Try.prog 32 #[.pointer (some ⟨xp, 0, none⟩)] wr (FrontPost wr (s.f.b s.f.front).px) := by
  obtain ⟨a, o, xp, kb, sb, fb, cps, L, h1, h2, h3, h4⟩ := h.shop
  exact ⟨xp, blk_cell h1.blk 0, FrontS_any h2 hI.scr.st.fr.fr (by have := hI.scr.st.fr.wh; simp only at this; omega)⟩
end
/-- The shop of 'lives'. -/
def lvC : Cfg := confC ⟨1, 0, 0, 0, 50, 0, 0, 8⟩
def lvRaw : List Opn := [⟨1, 0, 1, 0, 0, 0, [], 0⟩, ⟨3, 0, 0, 0, 1, 1, [5], 0⟩]
def lv0 : Scrn × ShF := (openS lvC lvC.clients.toNat, openF lvC lvC.clients.toNat)
def lv1 : Scrn × ShF := subAll lv0.1 lv0.2 0 lvRaw
def lv2 : Scrn × ShF := tickA 0 lv1
def lv3 : Scrn × ShF := tickA 1 lv2
def lv4 : Scrn × ShF := tickA 0 lv3
def lv5 : Scrn × ShF := (leftS lv4.1 0, leftF lv4.2 0)
def lv6 : Scrn × ShF := tickA 5 lv5
def lv7 : Scrn × ShF := tickA 0 lv6
theorem lv_c : lvC.w = 2 ∧ lvC.h = 1 := by decide +kernel
theorem lv_k0 : 0 < lv0.1.ks.length := by decide +kernel
theorem lv_k4 : 0 < lv4.1.ks.length := by decide +kernel
theorem lv_f2 : (flipF lv2.1.f).2.2.length = 0 := by decide +kernel
theorem lv_f3 : (flipF lv3.1.f).2.2.length = 1 := by decide +kernel
theorem lv_n4 : lv4.2.flips = 1 := by decide +kernel
theorem lv_p4 : (lv4.1.f.b lv4.1.f.front).px = [9, 5] := by decide +kernel
theorem lv_n7 : lv7.2.flips = 2 := by decide +kernel
theorem lv_p7 : (lv7.1.f.b lv7.1.f.front).px = [9, 9] := by decide +kernel
end Go.Proofs.Ytfnockbgkcgpkaa
set_option linter.all false
namespace Go.Proofs.Ytfnockbgkcgpkaa
open Go.RowKit Go.Proofs.Panes
set_option maxRecDepth 100000
/-- The transaction of 'lives' in memory. -/
def lvCells (h : Nat) : Array Value := #[.int .i64 1, .int .i64 0, .int .i64 1, .int .i64 0, .int .i64 0, .int .i64 0, .slice none 0 0, .int .i64 0, .int .i64 3, .int .i64 0, .int .i64 0, .int .i64 0, .int .i64 1, .int .i64 1, .slice (some ⟨h, 0, none⟩) 1 1, .int .i64 0]
def lvW (w : World) : World := (w.alloc (.cells #[.int .i64 5] 3)).alloc (.cells (lvCells w.heap.size) 72)
theorem lvW_below (w : World) : Below w.heap.size w (lvW w) := ((Below.refl _ w).alloc (Nat.le_refl _) _).alloc ((Below.refl _ w).alloc (Nat.le_refl _) _).size _
theorem lvW_size (w : World) : (lvW w).heap.size = w.heap.size + 2 := by
  unfold lvW; rw [alloc_sz, alloc_sz]
theorem lvRaw_rd (w : World) : RdO (fun x => x = w.heap.size ∨ x = w.heap.size + 1) (lvW w) (.slice (some ⟨w.heap.size + 1, 0, none⟩) 2 2) lvRaw := by
  have h1 : (lvW w).heap[w.heap.size + 1]? = some (.cells (lvCells w.heap.size) 72) := new_at _ _ _ (by rw [alloc_sz])
  have h0 : (lvW w).heap[w.heap.size]? = some (.cells #[.int .i64 5] 3) := by
    have e : (w.alloc (.cells #[.int .i64 5] 3)).heap[w.heap.size]? = some (.cells #[.int .i64 5] 3) := new_at w _ _ rfl
    have hb : Below (w.alloc (.cells #[.int .i64 5] 3)).heap.size (w.alloc (.cells #[.int .i64 5] 3)) (lvW w) := (Below.refl _ _).alloc (Nat.le_refl _) _
    exact (But.of_below (S := fun _ => False) hb).heap e (fun h => h)
  have hs := lvW_size w
  refine ⟨_, _, rfl, Nat.le_refl _, by simp [maxLen], fun _ => ⟨w.heap.size + 1, 0, rfl, .inr rfl, by omega, fun j o hj => ?_⟩⟩
  have c : ∀ k, (lvW w).cell? ⟨w.heap.size + 1, k, none⟩ = (lvCells w.heap.size)[k]? := fun k => blk_cell h1 k
  match j, hj with
  | 0, hj =>
    simp [lvRaw] at hj
    subst hj
    simp only [OAt, c]
    exact ⟨rfl, rfl, rfl, rfl, rfl, rfl, ⟨_, rfl, none, 0, rfl, Nat.le_refl _, by simp [maxLen], fun h => absurd rfl h⟩, rfl⟩
  | 1, hj =>
    simp [lvRaw] at hj
    subst hj
    simp only [OAt, c]
    refine ⟨rfl, rfl, rfl, rfl, rfl, rfl, ⟨_, rfl, some ⟨w.heap.size, 0, none⟩, 1, rfl, Nat.le_refl _, by simp [maxLen], fun _ => ⟨w.heap.size, 0, rfl, .inl rfl, by omega, fun j n hj => ?_⟩⟩, rfl⟩
    match j, hj with
    | 0, hj => simp at hj; subst hj; exact blk_cell h0 0
    | j + 1, hj => simp at hj
  | j + 2, hj => simp [lvRaw] at hj
set_option maxHeartbeats 1000000 in
theorem lives_any (w : World) : Calls Try.prog 24 #[] w fun e w' => e = .returned (.bool true) ∧ Below w.heap.size w w' := by
  have HO : Hid (∀ w, Calls Try.prog 25 #[.agg #[.int .i64 1, .int .i64 0, .int .i64 0, .int .i64 0, .int .i64 50, .int .i64 0, .int .i64 0, .int .i64 8]] w (OpenPost lvC w)) := fun w => opened_any ⟨1, 0, 0, 0, 50, 0, 0, 8⟩ (by constructor <;> (unfold FitI; decide)) w
  have i0 : ShI 0 lv0.1 lv0.2 := open_in (confC_ok _)
  go_enter Try.func24, Try.ntmps24
  go_wp2_with (go_at_call 25; refine ((unhide HO) _).mono ?_; rintro e w0 ⟨sp, rfl, hS, hB⟩
               have HN0 : Hid (ShN w w0 sp lv0.1 lv0.2) := ⟨hS, hB⟩
               obtain ⟨a1, a2, -, -, lsp⟩ := (unhide HN0).cells
               rw [show lv0.2.c.w = 2 from lv_c.1] at a1
               rw [show lv0.2.c.h = 1 from lv_c.2] at a2
               clear hS hB HO)
  obtain ⟨hc1, i1⟩ : Calls Try.prog 49 #[.pointer (some ⟨sp, 0, none⟩), .int .i64 0, .slice (some ⟨w0.heap.size + 1, 0, none⟩) 2 2] (lvW w0) (fun e w' => (∃ u, e = .returned u) ∧ ShN w w' sp lv1.1 lv1.2) ∧ ShI 1 lv1.1 lv1.2 :=
    (unhide HN0).sub i0 (by omega) 0 lv_k0 (lvW_below w0) (lvRaw_rd w0) (fun h => by cases h) (fun y hy => by have := lvW_size w0; omega) (by simp [lvRaw]) (fun x hx => by simp [lvRaw] at hx; rcases hx with rfl | rfl <;> simp)
  have HC1 := hide hc1
  clear hc1 a1 a2
  go_wp2_with (go_at_call 49; refine (unhide HC1).mono ?_; rintro e w1 ⟨⟨u1, rfl⟩, hN1⟩
               have HN1 := hide hN1
               clear hN1 HC1)
  obtain ⟨hc2, i2⟩ : Calls Try.prog 27 #[.pointer (some ⟨sp, 0, none⟩), .int .i64 0] w1 (fun e w' => (∃ u, e = .returned u) ∧ ShN w w' sp lv2.1 lv2.2 ∧ RepLen sp (flipF lv1.1.f).2.2.length w') ∧ ShI 2 lv2.1 lv2.2 := (unhide HN1).tick i1 (by omega) 0 (by omega)
  have HC2 := hide hc2
  clear hc2
  go_wp2_with (go_at_call 27; refine (unhide HC2).mono ?_; rintro e w2 ⟨⟨u2, rfl⟩, hN2, hR2⟩
               have HN2 := hide hN2
               have HR2 := hide hR2
               clear hN2 hR2 HC2)
  obtain ⟨hc3, i3⟩ : Calls Try.prog 27 #[.pointer (some ⟨sp, 0, none⟩), .int .i64 1] w2 (fun e w' => (∃ u, e = .returned u) ∧ ShN w w' sp lv3.1 lv3.2 ∧ RepLen sp (flipF lv2.1.f).2.2.length w') ∧ ShI 3 lv3.1 lv3.2 := (unhide HN2).tick i2 (by omega) 1 (by omega)
  have HC3 := hide hc3
  clear hc3
  go_wp2_with (go_at_call 27; refine (unhide HC3).mono ?_; rintro e w3 ⟨⟨u3, rfl⟩, hN3, hR3⟩
               have HN3 := hide hN3
               have HR3 := hide hR3
               clear hN3 hR3 HC3
               obtain ⟨ro3, rc3, x3⟩ := unhide HR3
               rw [lv_f2] at x3)
  obtain ⟨hc4, i4⟩ : Calls Try.prog 27 #[.pointer (some ⟨sp, 0, none⟩), .int .i64 0] w3 (fun e w' => (∃ u, e = .returned u) ∧ ShN w w' sp lv4.1 lv4.2 ∧ RepLen sp (flipF lv3.1.f).2.2.length w') ∧ ShI 4 lv4.1 lv4.2 := (unhide HN3).tick i3 (by omega) 0 (by omega)
  have HC4 := hide hc4
  clear hc4
  go_wp2_with (go_at_call 27; refine (unhide HC4).mono ?_; rintro e w4 ⟨⟨u4, rfl⟩, hN4, hR4⟩
               have HN4 := hide hN4
               have HR4 := hide hR4
               clear hN4 hR4 HC4
               obtain ⟨ro4, rc4, x4⟩ := unhide HR4
               rw [lv_f3] at x4
               obtain ⟨xp4, y4, hf4⟩ := (unhide HN4).front i4
               rw [lv_p4] at hf4
               obtain ⟨-, -, z4, t4, lp4⟩ := (unhide HN4).cells
               rw [lv_n4] at t4
               have HF4 := hide hf4
               clear hf4)
  obtain ⟨hc5, i5⟩ : (∀ wr, ShN w wr sp lv4.1 lv4.2 → Calls Try.prog 50 #[.pointer (some ⟨sp, 0, none⟩), .int .i64 0] wr (fun e w' => (∃ u, e = .returned u) ∧ ShN w w' sp lv5.1 lv5.2)) ∧ ShI 5 lv5.1 lv5.2 := ⟨fun wr h => (h.leave i4 (by omega) 0 lv_k4).1, ((unhide HN4).leave i4 (by omega) 0 lv_k4).2⟩
  have HC5 := hide hc5
  clear hc5
  go_wp2_with (first
    | (go_at_call 32; refine (unhide HF4).mono ?_; rintro e w5 ⟨fv, rfl, hO5, hB5⟩
       obtain ⟨g5, c5, hg5⟩ := row_some hO5 (by simp)
       subst hg5
       have p0 : w5.cell? ⟨g5, 0, none⟩ = some (.int .i64 9) := ownN_at hO5 rfl rfl
       have p1 : w5.cell? ⟨g5, 1, none⟩ = some (.int .i64 5) := ownN_at hO5 rfl rfl
       have x4' : w5.cell? ⟨sp, 21, none⟩ = _ := (hB5.cell lp4).trans x4
       have z4' : w5.cell? ⟨sp, 15, none⟩ = _ := (hB5.cell lp4).trans z4
       have t4' : w5.cell? ⟨sp, 16, none⟩ = _ := (hB5.cell lp4).trans t4
       have HN4b : Hid (ShN w w5 sp lv4.1 lv4.2) := (unhide HN4).below hB5
       clear hO5 hB5 HF4)
    | (go_at_call 50; refine ((unhide HC5) _ (unhide HN4b)).mono ?_; rintro e w6 ⟨⟨u6, rfl⟩, hN5⟩
       have HN5 := hide hN5
       clear hN5 HC5))
  obtain ⟨hc6, i6⟩ : Calls Try.prog 27 #[.pointer (some ⟨sp, 0, none⟩), .int .i64 5] w6 (fun e w' => (∃ u, e = .returned u) ∧ ShN w w' sp lv6.1 lv6.2 ∧ RepLen sp (flipF lv5.1.f).2.2.length w') ∧ ShI 6 lv6.1 lv6.2 := (unhide HN5).tick i5 (by omega) 5 (by omega)
  have HC6 := hide hc6
  clear hc6
  go_wp2_with (go_at_call 27; refine (unhide HC6).mono ?_; rintro e w7 ⟨⟨u6, rfl⟩, hN6, hR6⟩
               have HN6 := hide hN6
               have HR6 := hide hR6
               clear hN6 hR6 HC6)
  obtain ⟨hc7, i7⟩ : Calls Try.prog 27 #[.pointer (some ⟨sp, 0, none⟩), .int .i64 0] w7 (fun e w' => (∃ u, e = .returned u) ∧ ShN w w' sp lv7.1 lv7.2 ∧ RepLen sp (flipF lv6.1.f).2.2.length w') ∧ ShI 7 lv7.1 lv7.2 := (unhide HN6).tick i6 (by omega) 0 (by omega)
  have HC7 := hide hc7
  clear hc7
  go_wp2_with (go_at_call 27; refine (unhide HC7).mono ?_; rintro e w8 ⟨⟨u7, rfl⟩, hN7, hR7⟩
               have HN7 := hide hN7
               have HR7 := hide hR7
               clear hN7 hR7 HC7
               obtain ⟨xp7, y7, hf7⟩ := (unhide HN7).front i7
               rw [lv_p7] at hf7
               obtain ⟨-, -, z7, t7, lp7⟩ := (unhide HN7).cells
               rw [lv_n7] at t7
               have HF7 := hide hf7
               clear hf7)
  go_wp2_with (go_at_call 32; refine (unhide HF7).mono ?_; rintro e w9 ⟨fv, rfl, hO9, hB9⟩
               obtain ⟨g9, c9, hg9⟩ := row_some hO9 (by simp)
               subst hg9
               have p0 : w9.cell? ⟨g9, 0, none⟩ = some (.int .i64 9) := ownN_at hO9 rfl rfl
               have p1 : w9.cell? ⟨g9, 1, none⟩ = some (.int .i64 9) := ownN_at hO9 rfl rfl
               have z7' : w9.cell? ⟨sp, 15, none⟩ = _ := (hB9.cell lp7).trans z7
               have t7' : w9.cell? ⟨sp, 16, none⟩ = _ := (hB9.cell lp7).trans t7
               have HE : Hid (Below w.heap.size w w9) := ((unhide HN7).below hB9).bel
               clear hO9 hB9 HF7)
  go_ret
  exact ⟨rfl, unhide HE⟩
end Go.Proofs.Ytfnockbgkcgpkaa
set_option linter.all false
namespace Go.Proofs.Ytfnockbgkcgpkaa
open Go.RowKit Go.Proofs.Panes
set_option maxRecDepth 100000
theorem RdMv.below {w w' : World} {v : Value} {ms : List Mv} (h : RdMv w v ms) (hb : Below w.heap.size w w') : RdMv w' v ms := by
  obtain ⟨ao, cap, h1, h2, h3, h4⟩ := h
  refine ⟨ao, cap, h1, h2, h3, fun hne => ?_⟩
  obtain ⟨b, off, e, hlt, hc⟩ := h4 hne
  refine ⟨b, off, e, Nat.lt_of_lt_of_le hlt hb.size, fun j m hm => ?_⟩
  obtain ⟨c0, c1, c2⟩ := hc j m hm
  exact ⟨(hb.cell hlt).trans c0, (hb.cell hlt).trans c1, (hb.cell hlt).trans c2⟩
theorem RdOO.wide {U V : Nat → Prop} {w : World} {v : Value} {ops : List (List Opn)} (h : RdOO U w v ops) (hUV : ∀ x, U x → V x) : RdOO V w v ops := by
  obtain ⟨ao, cap, h1, h2, h3, h4⟩ := h
  refine ⟨ao, cap, h1, h2, h3, fun hne => ?_⟩
  obtain ⟨b, off, g1, g2, g3, g4⟩ := h4 hne
  refine ⟨b, off, g1, hUV b g2, g3, fun j l hl => ?_⟩
  obtain ⟨ao', cap', k1, k2, k3⟩ := g4 j l hl
  exact ⟨ao', cap', k1, k2.wide hUV, k3⟩
/-- The state behind k moves. -/
def plK (c : Cfg) (ops : List (List Opn)) (ms : List Mv) (k : Nat) : Scrn × ShF := (ms.take k).foldl (fun st m => mv ops m st) (openS c c.clients.toNat, openF c c.clients.toNat)
/-- What 'played' leaves. -/
def PlayPost (c : Cfg) (ops : List (List Opn)) (ms : List Mv) (w : World) (e : Ending) (w' : World) : Prop := ∃ sp, e = .returned (.pointer (some ⟨sp, 0, none⟩)) ∧ ShN w w' sp (plK c ops ms ms.length).1 (plK c ops ms ms.length).2
end Go.Proofs.Ytfnockbgkcgpkaa
set_option linter.all false
namespace Go.Proofs.Ytfnockbgkcgpkaa
open Go.RowKit Go.Proofs.Panes
set_option maxRecDepth 100000
end Go.Proofs.Ytfnockbgkcgpkaa
