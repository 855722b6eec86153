import Derived.Test.YtfnockbgkcgpkaaKabq
import Derived.BigQuiet
set_option linter.all false
namespace Go.Proofs.Ytfnockbgkcgpkaa
open Go.RowKit Go.Proofs.Panes
set_option maxRecDepth 100000
set_option maxHeartbeats 1000000 in
/-- The same list, twice. -/
theorem sameInts_eq (U V : Nat → Prop) (va vb : Value) (l : List Int) (w : World) (h1 : RdN U w va l) (h2 : RdN V w vb l) (hl : l.length ≤ 1000000) :
    Calls Try.prog 33 #[va, vb] w fun e w' => e = .returned (.bool true) ∧ ∃ q, w' = w.drewN q := by
  obtain ⟨ao, cap, rfl, -, -, g1⟩ := h1
  obtain ⟨bo, bap, rfl, -, -, g2⟩ := h2
  obtain ⟨n, hn⟩ : ∃ n, n = l.length := ⟨_, rfl⟩
  have hn9 : n ≤ 1000000 := by omega
  rw [← hn]
  have HC : Hid (∀ (k : Nat) (z : Int), l[k]? = some z → ∃ b off b2 off2, ao = some ⟨b, off, none⟩ ∧ bo = some ⟨b2, off2, none⟩ ∧ w.cell? ⟨b, off + k, none⟩ = some (.int .i64 z) ∧ w.cell? ⟨b2, off2 + k, none⟩ = some (.int .i64 z)) := fun k z hz => by
    have hne : l ≠ [] := fun e => by rw [e] at hz; simp at hz
    obtain ⟨b, off, e, _, _, hc⟩ := g1 hne
    obtain ⟨b2, off2, e2, _, _, hc2⟩ := g2 hne
    exact ⟨b, off, b2, off2, e, e2, hc k z hz, hc2 k z hz⟩
  have HN := hide hn
  have nn : ((n : Int) != (n : Int)) = false := by simp
  clear g1 g2 hl hn
  go_enter Try.func33, Try.ntmps33
  go_wp2
  go_loopw [5] (fun x wr => ∃ k q : Nat, k ≤ n ∧ x = .int .i64 k ∧ wr = w.drewN q) (fun x _ => n - (intOf x).toNat)
  case atStart => exact ⟨0, 0, Nat.zero_le _, rfl, rfl⟩
  case round =>
    obtain ⟨k, q, hk, rfl, rfl⟩ := hrel
    by_cases hlt : k < n
    · obtain ⟨z, hz⟩ : ∃ z, l[k]? = some z := ⟨l[k]'(by have := unhide HN; omega), by simp⟩
      obtain ⟨b, off, b2, off2, rfl, rfl, c0, c1⟩ := (unhide HC) k z hz
      have k0 : (0 : Int) ≤ (k : Int) := by omega
      have k1 : (k : Int) < (n : Int) := by omega
      have zz : (z != z) = false := by simp
      clear hz
      go_wp2
      go_quiet (fail)
      go_wp2
      go_roundw
      case rel => exact ⟨k + 1, _, by omega, by go_num, by first | rfl | exact World.drewN_drewN _ _ _⟩
      case measure => simp [intOf]; omega
    · have k1 : ¬ (k : Int) < (n : Int) := by omega
      go_wp2
      go_ret
      exact ⟨rfl, _, rfl⟩
end Go.Proofs.Ytfnockbgkcgpkaa
set_option linter.all false
namespace Go.Proofs.Ytfnockbgkcgpkaa
open Go.RowKit Go.Proofs.Panes
set_option maxRecDepth 100000
/-- Nothing waits: nothing is done. -/
theorem scAdm_idle (q : Int) (ks : List (Option Cli)) (st : List Srf × Frs) (h : ∀ (j : Nat) (k : Cli), ks[j]? = some (some k) → k.q = []) : ∀ j, scAdmI q ks st j = st
  | 0 => rfl
  | j + 1 => by
    have ih := scAdm_idle q ks st h j
    unfold scAdmI
    split
    · rename_i k hk
      have e : (admitC k q).1 = [] := by simp [admitC, h j k hk]
      rw [e, ih]; rfl
    · exact ih
theorem idle_tick (d : Cfg) (b : Nat) : (flipF (openS d d.clients.toNat).f).2.1 = 0 ∧ (flipF (openS d d.clients.toNat).f).2.2 = [] ∧ tickP (openS d d.clients.toNat) b = 0 ∧ (openS d d.clients.toNat).t = 0 := by
  refine ⟨rfl, rfl, ?_, rfl⟩
  have e : (openS d d.clients.toNat).ks = List.replicate d.clients.toNat (some (newC d)) := by simp [openS]
  have h4 : (tk4 (openS d d.clients.toNat)).f = (openS d d.clients.toNat).f := by
    show (scAdmI _ (openS d d.clients.toNat).ks _ _).2 = _
    rw [scAdm_idle _ _ _ (fun j k hk => by
      rw [e, List.getElem?_replicate] at hk
      split at hk
      · cases hk; rfl
      · cases hk)]
    rfl
  have h5 : (tk5 (openS d d.clients.toNat)).f = (openS d d.clients.toNat).f := by
    show beginF (tk4 (openS d d.clients.toNat)).f _ _ = _
    rw [h4]
    unfold beginF
    rw [if_pos (.inr rfl)]
  unfold tickP
  rw [h5]
  rfl
/-- Two shops that lie apart, and a row of numbers that was handed out. -/
structure Two (w wr : World) (sp sq : Nat) (s : Scrn) (F : ShF) (s2 : Scrn) (F2 : ShF) (av : Value) (px : List Int) : Prop where
  ex : ∃ (S T U : Nat → Prop), Shop S wr sp s F ∧ Shop T wr sq s2 F2 ∧ (∀ x, S x → w.heap.size ≤ x ∧ x < wr.heap.size ∧ ¬ T x ∧ ¬ U x) ∧ (∀ x, T x → w.heap.size ≤ x ∧ x < wr.heap.size ∧ ¬ U x) ∧ (∀ x, U x → x < wr.heap.size) ∧ RdN U wr av px
  bel : Below w.heap.size w wr
section
variable {w wr w' : World} {sp sq n : Nat} {s s2 : Scrn} {F F2 : ShF} {av : Value} {px : List Int} {ops : List (List Opn)} {m : Mv} {ov : Value}
theorem Two.moves (h : Two w wr sp sq s F s2 F2 av px) (hI : ShI n s F) (hn : n ≤ 1300000) (hm : FitM m) (hR : RdOO (fun k => k < w.heap.size) w ov ops) (hO : OpsB ops) :
    Calls Try.prog 26 #[.pointer (some ⟨sp, 0, none⟩), .agg #[.int .i64 m.kind, .int .i64 m.a, .int .i64 m.b], ov] wr fun e w' => (∃ u, e = .returned u) ∧ Two w w' sp sq (mv ops m (s, F)).1 (mv ops m (s, F)).2 s2 F2 av px := by
  obtain ⟨S, T, U, h1, h2, h3, h4, h5, h6⟩ := h.ex
  refine (moves_any h1 hI hn hm (hR.below h.bel) (fun y hy => ⟨Nat.lt_of_lt_of_le hy h.bel.size, fun e => by have := (h3 y e).1; omega⟩) hO).mono ?_
  rintro e w' ⟨g1, g2, g3⟩
  refine ⟨g1, ⟨fun x => (S x ∨ wr.heap.size ≤ x) ∧ x < w'.heap.size, T, U, g2.lt, h2.but g3 (fun x hx e => (h3 x e).2.2.1 hx), fun x hx => ?_, fun x hx => ?_, fun x hx => Nat.lt_of_lt_of_le (h5 x hx) g3.size, h6.but g3 (fun x hx e => (h3 x e).2.2.2 hx)⟩, h.bel.trans (g3.below h.bel.size (fun x hx => (h3 x hx).1))⟩
  · refine ⟨?_, hx.2, fun e => ?_, fun e => ?_⟩
    · rcases hx.1 with q | q
      · exact (h3 x q).1
      · exact Nat.le_trans h.bel.size q
    · rcases hx.1 with q | q
      · exact (h3 x q).2.2.1 e
      · have := (h4 x e).2.1; omega
    · rcases hx.1 with q | q
      · exact (h3 x q).2.2.2 e
      · have := h5 x e; omega
  · have := h4 x hx
    exact ⟨this.1, Nat.lt_of_lt_of_le this.2.1 g3.size, this.2.2⟩
/-- When the other one's front has been asked for again. -/
structure TwoB (w wr : World) (sp xq : Nat) (s2 : Scrn) (av bv : Value) (px : List Int) : Prop where
  ex : ∃ (o : Nat → Nat) (kb sb fb : Nat) (cps : List (Option Nat)) (U : Nat → Prop), ScrM o wr xq kb sb fb cps s2 ∧ o sp = 0 ∧ (∀ x, o x ≠ 0 → w.heap.size ≤ x) ∧ (∀ x, U x → o x = 0) ∧ RdN U wr av px ∧ RdN U wr bv px
  fine : wr.cell? ⟨sp, 15, none⟩ = some (.bool true) ∧ sp < wr.heap.size
  bel : Below w.heap.size w wr
structure TwoC (w wr : World) (sp : Nat) (av bv : Value) (px : List Int) : Prop where
  ex : ∃ U : Nat → Prop, RdN U wr av px ∧ RdN U wr bv px
  fine : wr.cell? ⟨sp, 15, none⟩ = some (.bool true) ∧ sp < wr.heap.size
  bel : Below w.heap.size w wr
theorem TwoC.below {bv : Value} (h : TwoC w wr sp av bv px) (hb : Below wr.heap.size wr w') : TwoC w w' sp av bv px := by
  obtain ⟨U, h1, h2⟩ := h.ex
  exact ⟨⟨U, h1.below hb, h2.below hb⟩, ⟨(hb.cell h.fine.2).trans h.fine.1, Nat.lt_of_lt_of_le h.fine.2 hb.size⟩, h.bel.trans (hb.mono h.bel.size)⟩
theorem ownN_rd {w : World} {base : Nat} {v : Value} {l : List Int} (h : OwnN w base v l) (hl : l.length ≤ 1000) : RdN (fun x => base ≤ x ∧ x < w.heap.size) w v l := by
  exact h.rdv (fun k e => World.ownsRow.lt h k e)
theorem Two.front (h : Two w wr sp sq s F s2 F2 av px) {n2 : Nat} (hI : ShI n2 s2 F2) (hpx : (s2.f.b s2.f.front).px = px) : ∃ xq, wr.cell? ⟨sq, 0, none⟩ = some (.pointer (some ⟨xq, 0, none⟩)) ∧ sq < wr.heap.size ∧
    Calls Try.prog 32 #[.pointer (some ⟨xq, 0, none⟩)] wr fun e w' => ∃ bv, e = .returned bv ∧ w'.cell? ⟨sq, 0, none⟩ = some (.pointer (some ⟨xq, 0, none⟩)) ∧ TwoB w w' sp xq s2 av bv px := by
  obtain ⟨S, T, U, h1, h2, h3, h4, h5, h6⟩ := h.ex
  obtain ⟨a, o, xp, kb, sb, fb, cps, L, k1, k2, k3, k4⟩ := h1
  obtain ⟨a2, o2, xq, kb2, sb2, fb2, cps2, L2, q1, q2, q3, q4⟩ := h2
  have lsq := lt_of_heap q1.blk
  have lsp := lt_of_heap k1.blk
  have hwh := hI.scr.st.fr.wh
  simp only at hwh
  have hlen := hI.scr.st.fr.px _ hI.scr.st.fr.fr
  simp only at hlen
  refine ⟨xq, blk_cell q1.blk 0, lsq, (FrontS_any q2 hI.scr.st.fr.fr (by omega)).mono ?_⟩
  rintro e w' ⟨fv, rfl, hO, hB⟩
  rw [hpx] at hO hlen
  refine ⟨fv, rfl, (hB.cell lsq).trans (blk_cell q1.blk 0), ⟨o2, kb2, sb2, fb2, cps2, fun x => U x ∨ wr.heap.size ≤ x, q2.below hB, ?_, fun x hx => (h4 x (q4 x (.inr hx))).1, fun x hx => ?_, (h6.below hB).wide (fun _ h => .inl h), (ownN_rd hO (by omega)).wide (fun x hx => .inr hx.1)⟩, ⟨(hB.cell lsp).trans (blk_cell k1.blk 15), Nat.lt_of_lt_of_le lsp hB.size⟩, h.bel.trans (hB.mono h.bel.size)⟩
  · rcases Nat.eq_zero_or_pos (o2 sp) with z | z
    · exact z
    · exact absurd (q4 sp (.inr (by omega))) (h3 sp (k4 sp (.inl (by rw [k1.asp]; omega)))).2.2.1
  · rcases hx with q | q
    · rcases Nat.eq_zero_or_pos (o2 x) with z | z
      · exact z
      · exact absurd q (h4 x (q4 x (.inr (by omega)))).2.2
    · exact q2.new0 q
theorem TwoB.tick {xq : Nat} {bv : Value} (h : TwoB w wr sp xq s2 av bv px) (b : Nat) (hb : b ≤ 1000) (hF : TickFine s2) (ht : s2.t = 0) (hp : tickP s2 b = 0) (h1 : (flipF s2.f).2.1 = 0) (h2 : (flipF s2.f).2.2 = []) :
    Calls Try.prog 30 #[.pointer (some ⟨xq, 0, none⟩), .int .i64 (b : Int)] wr fun e w' => ∃ (qo : Option Addr) (qn qc : Nat) (fo : Option Addr) (fc : Nat), e = .returned (.tuple #[.agg #[.int .i64 1, .int .i64 0, .int .i64 0, .slice qo qn qc, .slice fo 0 fc], .int .i64 0]) ∧ TwoC w w' sp av bv px := by
  obtain ⟨o, kb, sb, fb, cps, U, g1, g2, g3, g4, g5, g6⟩ := h.ex
  refine (Tick_any g1 hF b (by omega)).mono ?_
  rintro e w' ⟨o', qv, fv, rfl, k1, k2, k3, k4, k5, k6⟩
  rw [h2] at k5
  obtain ⟨fo, fc, hfv⟩ := row_slice k5
  simp only [List.map_nil, List.length_nil] at hfv
  subst hfv
  obtain ⟨qo, qc, hqv⟩ := row_slice k3
  subst hqv
  have hn : ∀ x, U x → ¬ (o x ≠ 0 ∧ o x ≠ 4) := fun x hx e => e.1 (g4 x hx)
  refine ⟨qo, _, qc, fo, fc, by rw [ht, hp, h1]; rfl, ⟨U, g5.but k2.but hn, g6.but k2.but hn⟩, ⟨(World.cell?_of_block (k2.but.block sp h.fine.2 (fun e => e.1 g2))).trans h.fine.1, Nat.lt_of_lt_of_le h.fine.2 k2.but.size⟩, h.bel.trans (k2.but.below h.bel.size (fun x hx => g3 x hx.1))⟩
end
end Go.Proofs.Ytfnockbgkcgpkaa
set_option linter.all false
namespace Go.Proofs.Ytfnockbgkcgpkaa
open Go.RowKit Go.Proofs.Panes
set_option maxRecDepth 100000
theorem two_start {w1 w2 w3 w4 w5 : World} {sp sq : Nat} {s s2 : Scrn} {F F2 : ShF} {av : Value} {px : List Int} (h12 : Below w1.heap.size w1 w2) (h23 : Below w2.heap.size w2 w3) (h34 : Below w3.heap.size w3 w4) (h45 : Below w4.heap.size w4 w5) (hp : Shop (fun x => w2.heap.size ≤ x) w3 sp s F) (hq : Shop (fun x => w3.heap.size ≤ x) w4 sq s2 F2) (ha : OwnN w5 w4.heap.size av px) (hl : px.length ≤ 1000) : Two w1 w5 sp sq s F s2 F2 av px := by
  have e12 := h12.size
  have e23 := h23.size
  have e34 := h34.size
  have e45 := h45.size
  have h35 : Below w3.heap.size w3 w5 := h34.trans (h45.mono e34)
  refine ⟨⟨_, _, _, hp.lt.below h35, hq.lt.below h45, fun x hx => ⟨by omega, by omega, fun e => by have := e.1; have := hx.2; omega, fun e => ?_⟩, fun x hx => ⟨by omega, by omega, fun e => ?_⟩, fun x hx => hx.2, ownN_rd ha hl⟩, (h12.trans ((h23.mono e12).trans ((h34.mono (by omega)).trans (h45.mono (by omega)))))⟩
  · have := e.1; have := hx.2; omega
  · have := e.1; have := hx.2; omega
set_option maxHeartbeats 2000000 in
theorem apart_any (c : Cfg) (hc : FitC c) (ops : List (List Opn)) (hO : OpsB ops) (ms : List Mv) (hms : ms.length ≤ 1200000) (hfit : ∀ m ∈ ms, FitM m) (w : World) (ov mvv : Value) (hR : RdOO (fun k => k < w.heap.size) w ov ops) (hM : RdMv w mvv ms) :
    Calls Try.prog 10 #[cval c, ov, mvv] w fun e w' => e = .returned (.bool true) ∧ Below w.heap.size w w' := by
  obtain ⟨W1, hW1⟩ : ∃ W1, W1 = w.alloc (.cells #[.int .i64 c.w, .int .i64 c.h, .int .i64 c.clients, .int .i64 c.queue, .int .i64 c.most, .int .i64 c.quantum, .int .i64 c.surfaces, .int .i64 c.behind] 40) := ⟨_, rfl⟩
  have hb01 : Below w.heap.size w W1 := by rw [hW1]; exact (Below.refl _ w).alloc (Nat.le_refl _) _
  have hX1 : W1.heap[w.heap.size]? = some (.cells #[.int .i64 c.w, .int .i64 c.h, .int .i64 c.clients, .int .i64 c.queue, .int .i64 c.most, .int .i64 c.quantum, .int .i64 c.surfaces, .int .i64 c.behind] 40) := by rw [hW1]; exact new_at w _ _ rfl
  have hR1 : RdOO (fun k => k < W1.heap.size) W1 ov ops := (hR.below hb01).wide (fun x hx => Nat.lt_of_lt_of_le hx hb01.size)
  have hM1 := hM.below hb01
  obtain ⟨ao, cap, rfl, hl1, hl2, hcl⟩ := hM1
  obtain ⟨d, hd⟩ : ∃ d, d = confC c := ⟨_, rfl⟩
  have hok := confC_ok c
  rw [← hd] at hok
  obtain ⟨n, hn⟩ : ∃ n, n = ms.length := ⟨_, rfl⟩
  rw [← hn]
  have hn9 : n ≤ 1200000 := by omega
  have hq0 := open_in hok
  obtain ⟨qs, hqs⟩ : ∃ qs, qs = openS d d.clients.toNat := ⟨_, rfl⟩
  obtain ⟨qF, hqF⟩ : ∃ qF, qF = openF d d.clients.toNat := ⟨_, rfl⟩
  have hidle := idle_tick d 9
  rw [← hqs] at hidle
  rw [← hqs, ← hqF] at hq0
  obtain ⟨px, hpx⟩ : ∃ px, px = (qs.f.b qs.f.front).px := ⟨_, rfl⟩
  have hpl : px.length ≤ 1000 := by
    rw [hpx, hq0.scr.st.fr.px _ hq0.scr.st.fr.fr]
    have := hq0.scr.st.fr.wh
    simp only at this ⊢
    omega
  have htf : TickFine qs := tick_fine hq0.scr (by omega) (by have := hq0.t; omega)
  have HL : Hid (∀ w, Calls Try.prog 24 #[] w fun e w' => e = .returned (.bool true) ∧ Below w.heap.size w w') := lives_any
  have HO1 : Hid (∀ w, Calls Try.prog 25 #[.agg #[.int .i64 c.w, .int .i64 c.h, .int .i64 c.clients, .int .i64 c.queue, .int .i64 c.most, .int .i64 c.quantum, .int .i64 c.surfaces, .int .i64 c.behind]] w (OpenPost d w)) := fun w => by rw [hd]; exact opened_any c hc w
  have HO2 := HO1
  have HCF : Hid (∀ w, Calls Try.prog 39 #[.agg #[.int .i64 c.w, .int .i64 c.h, .int .i64 c.clients, .int .i64 c.queue, .int .i64 c.most, .int .i64 c.quantum, .int .i64 c.surfaces, .int .i64 c.behind]] w fun e w' => e = .returned (.agg #[.int .i64 d.w, .int .i64 d.h, .int .i64 d.clients, .int .i64 d.queue, .int .i64 d.most, .int .i64 d.quantum, .int .i64 d.surfaces, .int .i64 d.behind]) ∧ Below w.heap.size w w') := fun w => by
    rw [hd]; exact config_any c hc w
  have HNW : Hid (∀ w, Calls Try.prog 38 #[.agg #[.int .i64 d.w, .int .i64 d.h, .int .i64 d.clients, .int .i64 d.queue, .int .i64 d.most, .int .i64 d.quantum, .int .i64 d.surfaces, .int .i64 d.behind]] w (NewPost d w)) := fun w => panesNew_ok d w hok d.clients.toNat (by have := (cfgB hok).clients; omega)
  have HMV : Hid (∀ (k : Nat) (m : Mv) (sp sq : Nat) (av : Value) (wr : World), ms[k]? = some m → Two W1 wr sp sq (plK d ops ms k).1 (plK d ops ms k).2 qs qF av px → Calls Try.prog 26 #[.pointer (some ⟨sp, 0, none⟩), .agg #[.int .i64 m.kind, .int .i64 m.a, .int .i64 m.b], ov] wr fun e w' => (∃ u, e = .returned u) ∧ Two W1 w' sp sq (plK d ops ms (k + 1)).1 (plK d ops ms (k + 1)).2 qs qF av px) := fun k m sp sq av wr hm h => by
    have hkl := (List.getElem?_eq_some_iff.1 hm).1
    rw [plK_succ hm]
    exact h.moves (plK_in hok hO ms k (by omega) (by omega)) (by omega) (hfit m (List.mem_of_getElem? hm)) hR1 hO
  have HCL : Hid (∀ (k : Nat) (m : Mv) (wr : World), ms[k]? = some m → Below W1.heap.size W1 wr → ∃ b off, ao = some ⟨b, off, none⟩ ∧ wr.cell? ⟨b, off + k * 3, none⟩ = some (.int .i64 m.kind) ∧ wr.cell? ⟨b, off + k * 3 + 1, none⟩ = some (.int .i64 m.a) ∧ wr.cell? ⟨b, off + k * 3 + 2, none⟩ = some (.int .i64 m.b)) := fun k m wr hm hb => by
    obtain ⟨b, off, e, hlt, hc⟩ := hcl (fun e => by rw [e] at hm; simp at hm)
    obtain ⟨c0, c1, c2⟩ := hc k m hm
    exact ⟨b, off, e, (hb.cell hlt).trans c0, (hb.cell hlt).trans (by rw [Nat.add_assoc]; exact c1), (hb.cell hlt).trans (by rw [Nat.add_assoc]; exact c2)⟩
  have HN := hide hn
  have HX1 := hide hX1
  have HB01 := hide hb01
  have HQ0 := hide hq0
  have HID := hide hidle
  have HPL := hide hpl
  have HPX := hide hpx
  have HTF := hide htf
  have HQS := hide (And.intro hqs hqF)
  have HW1 := hide hW1
  clear hc hO hms hfit hR hR1 hM hl1 hl2 hcl hd hok hn hX1 hb01 hq0 hidle hpl hpx htf hqs hqF hW1
  unfold cval
  go_enter Try.func10, Try.ntmps10
  go_wp2_with (first
    | (rw [← unhide HW1]; go_at_call 24; refine ((unhide HL) _).mono ?_; rintro e w2 ⟨rfl, hb2⟩
       have HB2 := hide hb2
       have hX2 : w2.heap[w.heap.size]? = _ := (hb2.block _ (lt_of_heap (unhide HX1))).trans (unhide HX1)
       have b0 : w2.cell? ⟨w.heap.size, 0, none⟩ = some (.int .i64 c.w) := blk_cell hX2 0
       have b1 : w2.cell? ⟨w.heap.size, 1, none⟩ = some (.int .i64 c.h) := blk_cell hX2 1
       have b2 : w2.cell? ⟨w.heap.size, 2, none⟩ = some (.int .i64 c.clients) := blk_cell hX2 2
       have b3 : w2.cell? ⟨w.heap.size, 3, none⟩ = some (.int .i64 c.queue) := blk_cell hX2 3
       have b4 : w2.cell? ⟨w.heap.size, 4, none⟩ = some (.int .i64 c.most) := blk_cell hX2 4
       have b5 : w2.cell? ⟨w.heap.size, 5, none⟩ = some (.int .i64 c.quantum) := blk_cell hX2 5
       have b6 : w2.cell? ⟨w.heap.size, 6, none⟩ = some (.int .i64 c.surfaces) := blk_cell hX2 6
       have b7 : w2.cell? ⟨w.heap.size, 7, none⟩ = some (.int .i64 c.behind) := blk_cell hX2 7
       have HX2 := hide hX2
       clear hb2 hX2 HL)
    | (go_at_call 25; refine ((unhide HO1) _).mono ?_; rintro e w3 ⟨sp, rfl, hS, hb3⟩
       have HS3 := hide hS
       have HB3 := hide hb3
       have hX3 : w3.heap[w.heap.size]? = _ := (hb3.block _ (lt_of_heap (unhide HX2))).trans (unhide HX2)
       have e0 : w3.cell? ⟨w.heap.size, 0, none⟩ = some (.int .i64 c.w) := blk_cell hX3 0
       have e1 : w3.cell? ⟨w.heap.size, 1, none⟩ = some (.int .i64 c.h) := blk_cell hX3 1
       have e2 : w3.cell? ⟨w.heap.size, 2, none⟩ = some (.int .i64 c.clients) := blk_cell hX3 2
       have e3 : w3.cell? ⟨w.heap.size, 3, none⟩ = some (.int .i64 c.queue) := blk_cell hX3 3
       have e4 : w3.cell? ⟨w.heap.size, 4, none⟩ = some (.int .i64 c.most) := blk_cell hX3 4
       have e5 : w3.cell? ⟨w.heap.size, 5, none⟩ = some (.int .i64 c.quantum) := blk_cell hX3 5
       have e6 : w3.cell? ⟨w.heap.size, 6, none⟩ = some (.int .i64 c.surfaces) := blk_cell hX3 6
       have e7 : w3.cell? ⟨w.heap.size, 7, none⟩ = some (.int .i64 c.behind) := blk_cell hX3 7
       have HX3 := hide hX3
       clear hb3 hX3 hS HO1 b0 b1 b2 b3 b4 b5 b6 b7))
  go_wp2_with (first
    | (go_at_call 25; refine ((unhide HO2) _).mono ?_; rintro e w4 ⟨sq, rfl, hS, hb4⟩
       have hQ : ShN w3 w4 sq qs qF := by rw [(unhide HQS).1, (unhide HQS).2]; exact ⟨hS, hb4⟩
       obtain ⟨xq, y4, hf4⟩ := hQ.front (unhide HQ0)
       rw [← unhide HPX] at hf4
       have HQ := hide hQ
       have HF4 := hide hf4
       have HB4 := hide hb4
       clear hS hb4 hQ hf4 HO2 e0 e1 e2 e3 e4 e5 e6 e7)
    | (go_at_call 32; refine (unhide HF4).mono ?_; rintro e w5 ⟨av, rfl, hO5, hb5⟩
       have HT0 : Hid (Two W1 w5 sp sq (plK d ops ms 0).1 (plK d ops ms 0).2 qs qF av px) := two_start (unhide HB2) (unhide HB3) (unhide HB4) hb5 (unhide HS3) (unhide HQ).shop hO5 (unhide HPL)
       clear hO5 hb5 HF4))
  clear HS3 HB2 HB3 HB4 HX2 HX3 HQ y4
  go_loopw [11] (fun x wr => ∃ k : Nat, k ≤ n ∧ x = .int .i64 k ∧ Two W1 wr sp sq (plK d ops ms k).1 (plK d ops ms k).2 qs qF av px) (fun x _ => n - (intOf x).toNat)
  case atStart => exact ⟨0, Nat.zero_le _, rfl, unhide HT0⟩
  case round =>
    clear HT0
    obtain ⟨k, hk, rfl, hS⟩ := hrel
    by_cases hlt : k < n
    · obtain ⟨m, hm⟩ : ∃ m, ms[k]? = some m := ⟨ms[k]'(by have := unhide HN; omega), by simp⟩
      obtain ⟨b, off, rfl, c0, c1, c2⟩ := (unhide HCL) k m wr hm hS.bel
      have HC := hide ((unhide HMV) k m sp sq av wr hm hS)
      have k0 : (0 : Int) ≤ (k : Int) := by omega
      have k1 : (k : Int) < (n : Int) := by omega
      obtain ⟨mk, ma, mb⟩ := m
      simp only at c0 c1 c2 HC
      clear hm hS
      go_wp2_with (go_at_call 26; refine (unhide HC).mono ?_; rintro e w3 ⟨⟨u, rfl⟩, hS3⟩
                   have HS3 := hide hS3
                   clear hS3 HC)
      go_roundw
      case rel => exact ⟨k + 1, by omega, by go_num, unhide HS3⟩
      case measure => simp [intOf]; omega
    · have ek : k = n := by omega
      subst ek
      have k1 : ¬ (k : Int) < (k : Int) := by omega
      obtain ⟨xr, y0, lsq, hfr⟩ := hS.front (unhide HQ0) (unhide HPX).symm
      have HFR := hide hfr
      clear hS hfr HMV HCL
      go_wp2_with (first
        | (go_at_call 32; refine (unhide HFR).mono ?_; rintro e w6 ⟨bv, rfl, y6, hB6⟩
           have HTK : Hid (Calls Try.prog 30 #[.pointer (some ⟨xr, 0, none⟩), .int .i64 9] w6 fun e w' => ∃ (qo : Option Addr) (qn qc : Nat) (fo : Option Addr) (fc : Nat), e = .returned (.tuple #[.agg #[.int .i64 1, .int .i64 0, .int .i64 0, .slice qo qn qc, .slice fo 0 fc], .int .i64 0]) ∧ TwoC W1 w' sp av bv px) := hB6.tick 9 (by omega) (unhide HTF) (unhide HID).2.2.2 (unhide HID).2.2.1 (unhide HID).1 (unhide HID).2.1
           clear hB6 HFR)
        | (go_at_call 30; refine (unhide HTK).mono ?_; rintro e w7 ⟨qo, qn, qc, fo, fc, rfl, hC7⟩
           have hb8 : Below w7.heap.size w7 (w7.alloc (.cells #[.int .i64 1, .int .i64 0, .int .i64 0, .slice qo qn qc, .slice fo 0 fc] 55)) := (Below.refl _ w7).alloc (Nat.le_refl _) _
           have hX7 : w7.heap[w.heap.size]? = some (.cells #[.int .i64 c.w, .int .i64 c.h, .int .i64 c.clients, .int .i64 c.queue, .int .i64 c.most, .int .i64 c.quantum, .int .i64 c.surfaces, .int .i64 c.behind] 40) := (hC7.bel.block _ (lt_of_heap (unhide HX1))).trans (unhide HX1)
           have hX8 : (w7.alloc (.cells #[.int .i64 1, .int .i64 0, .int .i64 0, .slice qo qn qc, .slice fo 0 fc] 55)).heap[w.heap.size]? = some (.cells #[.int .i64 c.w, .int .i64 c.h, .int .i64 c.clients, .int .i64 c.queue, .int .i64 c.most, .int .i64 c.quantum, .int .i64 c.surfaces, .int .i64 c.behind] 40) := (hb8.block _ (lt_of_heap hX7)).trans hX7
           have e0 : (w7.alloc (.cells #[.int .i64 1, .int .i64 0, .int .i64 0, .slice qo qn qc, .slice fo 0 fc] 55)).cell? ⟨w.heap.size, 0, none⟩ = some (.int .i64 c.w) := blk_cell hX8 0
           have e1 : (w7.alloc (.cells #[.int .i64 1, .int .i64 0, .int .i64 0, .slice qo qn qc, .slice fo 0 fc] 55)).cell? ⟨w.heap.size, 1, none⟩ = some (.int .i64 c.h) := blk_cell hX8 1
           have e2 : (w7.alloc (.cells #[.int .i64 1, .int .i64 0, .int .i64 0, .slice qo qn qc, .slice fo 0 fc] 55)).cell? ⟨w.heap.size, 2, none⟩ = some (.int .i64 c.clients) := blk_cell hX8 2
           have e3 : (w7.alloc (.cells #[.int .i64 1, .int .i64 0, .int .i64 0, .slice qo qn qc, .slice fo 0 fc] 55)).cell? ⟨w.heap.size, 3, none⟩ = some (.int .i64 c.queue) := blk_cell hX8 3
           have e4 : (w7.alloc (.cells #[.int .i64 1, .int .i64 0, .int .i64 0, .slice qo qn qc, .slice fo 0 fc] 55)).cell? ⟨w.heap.size, 4, none⟩ = some (.int .i64 c.most) := blk_cell hX8 4
           have e5 : (w7.alloc (.cells #[.int .i64 1, .int .i64 0, .int .i64 0, .slice qo qn qc, .slice fo 0 fc] 55)).cell? ⟨w.heap.size, 5, none⟩ = some (.int .i64 c.quantum) := blk_cell hX8 5
           have e6 : (w7.alloc (.cells #[.int .i64 1, .int .i64 0, .int .i64 0, .slice qo qn qc, .slice fo 0 fc] 55)).cell? ⟨w.heap.size, 6, none⟩ = some (.int .i64 c.surfaces) := blk_cell hX8 6
           have e7 : (w7.alloc (.cells #[.int .i64 1, .int .i64 0, .int .i64 0, .slice qo qn qc, .slice fo 0 fc] 55)).cell? ⟨w.heap.size, 7, none⟩ = some (.int .i64 c.behind) := blk_cell hX8 7
           have HR8 : Hid ((w7.alloc (.cells #[.int .i64 1, .int .i64 0, .int .i64 0, .slice qo qn qc, .slice fo 0 fc] 55)).heap[w7.heap.size]? = some (.cells #[.int .i64 1, .int .i64 0, .int .i64 0, .slice qo qn qc, .slice fo 0 fc] 55)) := new_at w7 _ _ rfl
           have HC8 := hide (hC7.below hb8)
           clear hC7 hb8 hX7 hX8 HTK)
        | (go_at_call 39; refine ((unhide HCF) _).mono ?_; rintro e w9 ⟨rfl, hb9⟩
           have HC9 := hide ((unhide HC8).below hb9)
           have HR9 : Hid (w9.heap[w7.heap.size]? = some (.cells #[.int .i64 1, .int .i64 0, .int .i64 0, .slice qo qn qc, .slice fo 0 fc] 55)) := (hb9.block _ (lt_of_heap (unhide HR8))).trans (unhide HR8)
           clear hb9 HCF HC8 HR8 e0 e1 e2 e3 e4 e5 e6 e7)
        | (go_at_call 38; refine ((unhide HNW) _).mono ?_; rintro e wa ⟨xz, kz, sz, fz, oz, rfl, -, -, hba⟩
           have hCa := (unhide HC9).below hba
           have hRa : wa.heap[w7.heap.size]? = some (.cells #[.int .i64 1, .int .i64 0, .int .i64 0, .slice qo qn qc, .slice fo 0 fc] 55) := (hba.block _ (lt_of_heap (unhide HR9))).trans (unhide HR9)
           have r0 : wa.cell? ⟨w7.heap.size, 0, none⟩ = some (.int .i64 1) := blk_cell hRa 0
           have r1 : wa.cell? ⟨w7.heap.size, 1, none⟩ = some (.int .i64 0) := blk_cell hRa 1
           have r2 : wa.cell? ⟨w7.heap.size, 2, none⟩ = some (.int .i64 0) := blk_cell hRa 2
           have r4 : wa.cell? ⟨w7.heap.size, 4, none⟩ = some (.slice fo 0 fc) := blk_cell hRa 4
           have zf := hCa.fine.1
           have HSM : Hid (Calls Try.prog 33 #[av, bv] wa fun e w' => e = .returned (.bool true) ∧ ∃ q, w' = wa.drewN q) := by
             obtain ⟨U, u1, u2⟩ := hCa.ex
             exact sameInts_eq U U av bv px wa u1 u2 (by have := unhide HPL; omega)
           have HCA := hide hCa
           clear hba hCa hRa HC9 HR9 HNW)
        | (go_at_call 33; refine (unhide HSM).mono ?_; rintro e wb ⟨rfl, q, rfl⟩
           clear HSM))
      go_ret
      exact ⟨rfl, (unhide HB01).trans (((unhide HCA).bel.trans ((below_drewN (Below.refl _ _) q).mono (unhide HCA).bel.size)).mono (unhide HB01).size)⟩
end Go.Proofs.Ytfnockbgkcgpkaa
