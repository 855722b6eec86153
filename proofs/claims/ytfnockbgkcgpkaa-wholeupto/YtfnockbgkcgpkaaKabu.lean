import Derived.Test.YtfnockbgkcgpkaaKabq
import Derived.Test.YtfnockbgkcgpkaaKabt
import Derived.BigQuiet
set_option linter.all false
namespace Go.Proofs.Ytfnockbgkcgpkaa
open Go.RowKit Go.Proofs.Panes
set_option maxRecDepth 100000
set_option maxHeartbeats 1000000 in
/-- The same list, twice. -/
theorem sameInts_eq (U V : Nat → Prop) (va vb : Value) (l : List Int) (w : World) (h1 : RdN U w va l) (h2 : RdN V w vb l) (hl : l.length ≤ 1000000) :
    Calls Try.prog 33 #[va, vb] w fun e w' => e = .returned (.bool true) ∧ ∃ q, w' = w.drewN q := by
  obtain ⟨ao, cap, rfl, -, -, g1⟩ := h1
  obtain ⟨bo, bap, rfl, -, -, g2⟩ := h2
  obtain ⟨n, hn⟩ : ∃ n, n = l.length := ⟨_, rfl⟩
  have hn9 : n ≤ 1000000 := by omega
  rw [← hn]
  have HC : Hid (∀ (k : Nat) (z : Int), l[k]? = some z → ∃ b off b2 off2, ao = some ⟨b, off, none⟩ ∧ bo = some ⟨b2, off2, none⟩ ∧ w.cell? ⟨b, off + k, none⟩ = some (.int .i64 z) ∧ w.cell? ⟨b2, off2 + k, none⟩ = some (.int .i64 z)) := fun k z hz => by
    have hne : l ≠ [] := fun e => by rw [e] at hz; simp at hz
    obtain ⟨b, off, e, _, _, hc⟩ := g1 hne
    obtain ⟨b2, off2, e2, _, _, hc2⟩ := g2 hne
    exact ⟨b, off, b2, off2, e, e2, hc k z hz, hc2 k z hz⟩
  have HN := hide hn
  have nn : ((n : Int) != (n : Int)) = false := by simp
  clear g1 g2 hl hn
  go_enter Try.func33, Try.ntmps33
  go_wp2
  go_loopw [5] (fun x wr => ∃ k q : Nat, k ≤ n ∧ x = .int .i64 k ∧ wr = w.drewN q) (fun x _ => n - (intOf x).toNat)
  case atStart => exact ⟨0, 0, Nat.zero_le _, rfl, rfl⟩
  case round =>
    obtain ⟨k, q, hk, rfl, rfl⟩ := hrel
    by_cases hlt : k < n
    · obtain ⟨z, hz⟩ : ∃ z, l[k]? = some z := ⟨l[k]'(by have := unhide HN; omega), by simp⟩
      obtain ⟨b, off, b2, off2, rfl, rfl, c0, c1⟩ := (unhide HC) k z hz
      have k0 : (0 : Int) ≤ (k : Int) := by omega
      have k1 : (k : Int) < (n : Int) := by omega
      have zz : (z != z) = false := by simp
      clear hz
      go_wp2
      go_quiet (fail)
      go_wp2
      go_roundw
      case rel => exact ⟨k + 1, _, by omega, by go_num, by first | rfl | exact World.drewN_drewN _ _ _⟩
      case measure => simp [intOf]; omega
    · have k1 : ¬ (k : Int) < (n : Int) := by omega
      go_wp2
      go_ret
      exact ⟨rfl, _, rfl⟩
end Go.Proofs.Ytfnockbgkcgpkaa
set_option linter.all false
namespace Go.Proofs.Ytfnockbgkcgpkaa
open Go.RowKit Go.Proofs.Panes
set_option maxRecDepth 100000
/-- The state behind k ticks of 400. -/
def setK (st : Scrn × ShF) : Nat → Scrn × ShF
  | 0 => st
  | k + 1 => tickA 400 (setK st k)
/-- All that 'Whole' knows of a shop. -/
structure WhI (n : Nat) (s : Scrn) (F : ShF) : Prop where
  sh : ShI n s F
  px : PxI s.l s.c.behind s.f
section
variable {n : Nat} {s : Scrn} {F : ShF}
theorem WhI.tick (h : WhI n s F) (hn : n ≤ 1300000) (b : Nat) (hb : b ≤ 1000) : WhI (n + 1) (tickA b (s, F)).1 (tickA b (s, F)).2 := by
  obtain ⟨ms, hm, hI'⟩ := tick_in h.sh hn hb
  have em : firedM s F = ms := by unfold firedM; rw [hm.fire]; rfl
  refine ⟨?_, tick_px h.sh.scr (by omega) h.px b⟩
  show ShI (n + 1) (tickS s b) (tickF s F b (firedM s F))
  rw [em]; exact hI'
theorem WhI.mv (h : WhI n s F) (hn : n ≤ 1300000) {ops : List (List Opn)} (hO : OpsB ops) (m : Mv) : WhI (n + 1) (Go.Proofs.Ytfnockbgkcgpkaa.mv ops m (s, F)).1 (Go.Proofs.Ytfnockbgkcgpkaa.mv ops m (s, F)).2 := by
  refine ⟨mv_in h.sh hn hO m, ?_⟩
  unfold Go.Proofs.Ytfnockbgkcgpkaa.mv
  split
  · simp only
    unfold subAll
    split
    · show PxI (subS s _ _).l (subS s _ _).c.behind (subS s _ _).f
      unfold subS
      split
      · split <;> exact h.px
      · exact h.px
    · exact h.px
  · split
    · exact tick_px h.sh.scr (by omega) h.px _
    · split
      · show PxI (cameS s).l (cameS s).c.behind (cameS s).f
        unfold cameS
        split <;> exact h.px
      · show PxI (leftS s _).l (leftS s _).c.behind (leftS s _).f
        unfold leftS
        split
        · exact disc_px h.sh.scr h.px _
        · exact h.px
theorem open_wh {c : Cfg} (h : okCfg c = true) : WhI 0 (openS c c.clients.toNat) (openF c c.clients.toNat) := ⟨open_in h, new_px c⟩
theorem setK_wh (h : WhI n s F) : ∀ k, n + k ≤ 1300000 → WhI (n + k) (setK (s, F) k).1 (setK (s, F) k).2
  | 0, _ => h
  | k + 1, hk => by
    have := (setK_wh h k (by omega)).tick (by omega) 400 (by omega)
    exact this
theorem setK_q {m : Nat} (h : WhI n s F) (hq : qMax s m) : ∀ k, n + k ≤ 1300000 → qMax (setK (s, F) k).1 (m - k)
  | 0, _ => hq
  | k + 1, hk => by
    have ih := setK_q h hq k (by omega)
    have hw := (setK_wh h k (by omega)).sh
    by_cases e : m - k = 0
    · have h0 : noQ (setK (s, F) k).1 := qMax_zero (by rw [e] at ih; exact ih)
      intro j c hc
      have := noQ_tick h0 400 j c hc
      rw [this]; simp
    · have e2 : m - k = (m - (k + 1)) + 1 := by omega
      rw [e2] at ih
      exact qMax_tick hw ih 400
end
section
variable {n : Nat} {st : Scrn × ShF}
theorem setK_add (st : Scrn × ShF) (a : Nat) : ∀ b, setK st (a + b) = setK (setK st a) b
  | 0 => rfl
  | b + 1 => by
    show tickA 400 (setK st (a + b)) = tickA 400 (setK (setK st a) b)
    rw [setK_add st a b]
theorem setK_sl (h : WhI n st.1 st.2) (hq : noQ st.1) {m : Nat} (hs : slMax st.1 m) (h0 : ∀ x ∈ st.1.l, 0 ≤ x.left) : ∀ k, n + k ≤ 1300000 → noQ (setK st k).1 ∧ slMax (setK st k).1 (m - k) ∧ ∀ x ∈ (setK st k).1.l, 0 ≤ x.left
  | 0, _ => ⟨hq, hs, h0⟩
  | k + 1, hk => by
    obtain ⟨i1, i2, i3⟩ := setK_sl h hq hs h0 k (by omega)
    refine ⟨noQ_tick i1 400, ?_⟩
    by_cases e : m - k = 0
    · have e2 : m - (k + 1) = 0 := by omega
      rw [e] at i2
      rw [e2]
      exact slMax_tick i1 (m := 0) (fun x hx => by have := i2 x hx; omega) i3 400
    · have e2 : m - k = (m - (k + 1)) + 1 := by omega
      rw [e2] at i2
      exact slMax_tick i1 i2 i3 400
theorem calm_of (h : WhI n st.1 st.2) (hq : noQ st.1) (hs : noSl st.1) (hn : n + 3 ≤ 1300000) : Calm (setK st 3).1 := by
  have w1 : WhI (n + 1) (setK st 1).1 (setK st 1).2 := h.tick (by omega) 400 (by omega)
  have w2 : WhI (n + 2) (setK st 2).1 (setK st 2).2 := w1.tick (by omega) 400 (by omega)
  have l1 : (setK st 1).1.l = st.1.l := (still_tick hq hs).1
  have q1 : noQ (setK st 1).1 := noQ_tick hq 400
  have s1 : noSl (setK st 1).1 := fun x hx => hs x (by rw [← l1]; exact hx)
  have l2 : (setK st 2).1.l = (setK st 1).1.l := (still_tick q1 s1).1
  have q2 : noQ (setK st 2).1 := noQ_tick q1 400
  have s2 : noSl (setK st 2).1 := fun x hx => s1 x (by rw [← l2]; exact hx)
  have l3 : (setK st 3).1.l = (setK st 2).1.l := (still_tick q2 s2).1
  have q3 : noQ (setK st 3).1 := noQ_tick q2 400
  have s3 : noSl (setK st 3).1 := fun x hx => s2 x (by rw [← l3]; exact hx)
  obtain ⟨-, -, -, a4⟩ := still_step h.sh (by omega) hq hs
  obtain ⟨b1, b2, b3, -⟩ := still_step w1.sh (by omega) q1 s1
  obtain ⟨c1, c2, c3, -⟩ := still_step w2.sh (by omega) q2 s2
  have hc : calmR (setK st 3).1 0 := by
    rcases a4 with x | x
    · rcases b3 x with y | y
      · exact c2 y
      · exact c1 y
    · exact c1 (b1 x)
  exact ⟨q3, s3, hc.1, hc.2⟩
theorem calm_on (h : Calm st.1) : ∀ k, Calm (setK st k).1 ∧ (setK st k).1.l = st.1.l
  | 0 => ⟨h, rfl⟩
  | k + 1 => by
    obtain ⟨i1, i2⟩ := calm_on h k
    obtain ⟨t1, t2, -⟩ := calm_tick i1 400
    exact ⟨t1, t2.trans i2⟩
/-- Behind so many ticks all is calm. -/
theorem settles (h : WhI n st.1 st.2) {k : Nat} (hk : st.1.c.queue.toNat + 23 ≤ k) (hn : n + k ≤ 1300000) : Calm (setK st k).1 := by
  obtain ⟨Q, hQ⟩ : ∃ Q, Q = st.1.c.queue.toNat := ⟨_, rfl⟩
  rw [← hQ] at hk
  have hqm : qMax st.1 Q := fun j c hc => by
    have h1 := (h.sh.scr.cl j c hc).ql
    omega
  have hw1 := setK_wh h Q (by omega)
  have hq1 : noQ (setK st Q).1 := qMax_zero (by have := setK_q h hqm Q (by omega); rw [Nat.sub_self] at this; exact this)
  have hsl : slMax (setK st Q).1 20 ∧ ∀ x ∈ (setK st Q).1.l, 0 ≤ x.left := by
    have hsc := hw1.sh.scr.st.sc.sf
    simp only at hsc
    exact ⟨fun x hx => (hsc x hx).lf.2, fun x hx => (hsc x hx).lf.1⟩
  obtain ⟨r1, r2, r3⟩ := setK_sl hw1 hq1 hsl.1 hsl.2 20 (by omega)
  have hw2 := setK_wh hw1 20 (by omega)
  have hs2 : noSl (setK (setK st Q) 20).1 := fun x hx => by
    have a := r2 x hx
    have b := r3 x hx
    simp only [Nat.sub_self] at a
    omega
  have hc := calm_of hw2 r1 hs2 (by omega)
  have e : setK st k = setK (setK (setK (setK st Q) 20) 3) (k - Q - 23) := by
    rw [← setK_add, ← setK_add, ← setK_add]
    congr 1
    omega
  rw [e]
  exact (calm_on hc _).1
end
/-- The fronts of two that are the same and calm. -/
theorem same_front {n1 n2 : Nat} {s1 s2 : Scrn} {F1 F2 : ShF} (h : Same s1 F1 s2 F2) (h1 : WhI n1 s1 F1) (h2 : WhI n2 s2 F2) (c1 : Calm s1) (c2 : Calm s2) : (s1.f.b s1.f.front).px = (s2.f.b s2.f.front).px ∧ (s1.f.b s1.f.front).px.length = s1.c.w.toNat * s1.c.h.toNat := by
  have e1 := front_is h1.px h1.sh.scr.st.fr c1.fr c1.du
  have e2 := front_is h2.px h2.sh.scr.st.fr c2.fr c2.du
  have w1 := h1.sh.scr.W
  have w2 := h2.sh.scr.W
  have k1 := h1.sh.scr.H
  have k2 := h2.sh.scr.H
  refine ⟨?_, ?_⟩
  · rw [e1, e2, w1, w2, k1, k2, h.l, h.c]
  · rw [e1, List.length_map, List.length_range, w1, k1]
theorem setK_same {n1 n2 : Nat} {st1 st2 : Scrn × ShF} (h : Same st1.1 st1.2 st2.1 st2.2) (h1 : WhI n1 st1.1 st1.2) (h2 : WhI n2 st2.1 st2.2) : ∀ k, n1 + k ≤ 1300000 → n2 + k ≤ 1300000 → Same (setK st1 k).1 (setK st1 k).2 (setK st2 k).1 (setK st2 k).2
  | 0, _, _ => h
  | k + 1, g1, g2 => (setK_same h h1 h2 k (by omega) (by omega)).tick (setK_wh h1 k (by omega)).sh (setK_wh h2 k (by omega)).sh (by omega) (by omega) (by omega) (by omega)
end Go.Proofs.Ytfnockbgkcgpkaa
set_option linter.all false
namespace Go.Proofs.Ytfnockbgkcgpkaa
open Go.RowKit Go.Proofs.Panes
set_option maxRecDepth 100000
section
variable {S : Nat → Prop} {w w1 w2 : World} {sp : Nat} {s s' : Scrn} {F F' : ShF} {n : Nat}
theorem ShopTo.then (h : ShopTo S w sp s F w1) (k : ShopTo (fun x => S x ∨ w.heap.size ≤ x) w1 sp s' F' w2) : ShopTo S w sp s' F' w2 := by
  have hs := h.2.size
  refine ⟨k.1.wide (fun x hx => ?_), h.2.step k.2 (fun x hx => hx)⟩
  rcases hx with e | e
  · exact e
  · exact .inr (Nat.le_trans hs e)
theorem ShopTo.refl (h : Shop S w sp s F) : ShopTo S w sp s F w := ⟨h.wide (fun _ h => .inl h), .refl _ _⟩
theorem ShopTo.below (h : ShopTo S w sp s F w1) (hb : Below w1.heap.size w1 w2) : ShopTo S w sp s F w2 := ⟨h.1.below hb, h.2.trans (.of_below hb)⟩
theorem Shop.rep (h : Shop S w sp s F) : (w.cell? ⟨sp, 1, none⟩ = some (.int .i64 F.c.w) ∧ w.cell? ⟨sp, 2, none⟩ = some (.int .i64 F.c.h) ∧ w.cell? ⟨sp, 4, none⟩ = some (.int .i64 F.c.queue)) ∧ w.cell? ⟨sp, 15, none⟩ = some (.bool true) ∧ w.cell? ⟨sp, 18, none⟩ = some (.int .i64 F.rf) ∧ w.cell? ⟨sp, 19, none⟩ = some (.int .i64 F.rp) ∧ sp < w.heap.size := by
  obtain ⟨a, o, xp, kb, sb, fb, cps, L, h1, h2, h3, h4⟩ := h
  exact ⟨⟨blk_cell h1.blk 1, blk_cell h1.blk 2, blk_cell h1.blk 4⟩, blk_cell h1.blk 15, blk_cell h1.blk 18, blk_cell h1.blk 19, lt_of_heap h1.blk⟩
/-- How many ticks 'settled' makes. -/
def setN (c : Cfg) : Nat := c.queue.toNat + 3 * (c.w.toNat * c.h.toNat) + 36
theorem setK_c (st : Scrn × ShF) : ∀ k, (setK st k).1.c = st.1.c
  | 0 => rfl
  | k + 1 => setK_c st k
theorem set_rep (h : WhI n s F) (hn : n + setN s.c ≤ 1300000) : (setK (s, F) (setN s.c)).2.rf = 0 ∧ (setK (s, F) (setN s.c)).2.rp = 0 := by
  obtain ⟨k, hk⟩ : ∃ k, setN s.c = k + 1 := ⟨setN s.c - 1, by unfold setN; omega⟩
  have hc : Calm (setK (s, F) k).1 := settles (st := (s, F)) h (by have : setN s.c = s.c.queue.toNat + 3 * (s.c.w.toNat * s.c.h.toNat) + 36 := rfl; simp only; omega) (by omega)
  obtain ⟨-, -, h1, h2⟩ := calm_tick hc 400
  rw [hk]
  exact ⟨h1, by show ((tickP (setK (s, F) k).1 400 : Nat) : Int) = 0; rw [h2]; rfl⟩
set_option maxHeartbeats 2000000 in
theorem settled_any (h : Shop S w sp s F) (hW : WhI n s F) (hn : n + setN s.c ≤ 1300000) :
    Calls Try.prog 31 #[.pointer (some ⟨sp, 0, none⟩)] w fun e w' => e = .returned (.bool true) ∧ ShopTo S w sp (setK (s, F) (setN s.c)).1 (setK (s, F) (setN s.c)).2 w' := by
  have hcfg := cfgB hW.sh.scr.cfg
  obtain ⟨dw, hdw⟩ : ∃ dw : Nat, s.c.w = (dw : Int) := ⟨s.c.w.toNat, by have := hcfg.w; omega⟩
  obtain ⟨dh, hdh⟩ : ∃ dh : Nat, s.c.h = (dh : Int) := ⟨s.c.h.toNat, by have := hcfg.h; omega⟩
  obtain ⟨dq, hdq⟩ : ∃ dq : Nat, s.c.queue = (dq : Int) := ⟨s.c.queue.toNat, by have := hcfg.queue; omega⟩
  have hw16 : dw ≤ 16 := by have := hcfg.w; omega
  have hh16 : dh ≤ 16 := by have := hcfg.h; omega
  have hq8 : dq ≤ 8 := by have := hcfg.queue; omega
  obtain ⟨wh, hwh⟩ : ∃ wh, wh = dw * dh := ⟨_, rfl⟩
  have hwh9 : wh ≤ 256 := by rw [hwh]; exact Nat.mul_le_mul hw16 hh16
  obtain ⟨K, hK⟩ : ∃ K, K = setN s.c := ⟨_, rfl⟩
  have hKe : K = dq + 3 * wh + 36 := by rw [hK]; unfold setN; rw [hdq, hdw, hdh, Int.toNat_natCast, Int.toNat_natCast, Int.toNat_natCast, ← hwh]
  obtain ⟨N1, hN1⟩ : ∃ N1, N1 = dq + 3 * wh + 26 := ⟨_, rfl⟩
  obtain ⟨⟨x1, x2, x4⟩, -, -, -, lsp⟩ := h.rep
  rw [hW.sh.c, hdw] at x1
  rw [hW.sh.c, hdh] at x2
  rw [hW.sh.c, hdq] at x4
  obtain ⟨hrf, hrp⟩ := set_rep hW hn
  rw [← hK] at hrf hrp hn ⊢
  have e1 : IntKind.i64.wrap (3 * (dw : Int)) = 3 * (dw : Int) := by rw [IntKind.wrap_i64]; omega
  have e2 : IntKind.i64.wrap (3 * (dw : Int) * (dh : Int)) = 3 * (wh : Int) := by
    rw [show 3 * (dw : Int) * (dh : Int) = 3 * (wh : Int) from by rw [hwh, Int.natCast_mul, Int.mul_assoc], IntKind.wrap_i64]; omega
  have e3 : IntKind.i64.wrap ((dq : Int) + 3 * (wh : Int)) = (dq : Int) + 3 * (wh : Int) := by rw [IntKind.wrap_i64]; omega
  have e4 : IntKind.i64.wrap ((dq : Int) + 3 * (wh : Int) + 20) = (dq : Int) + 3 * (wh : Int) + 20 := by rw [IntKind.wrap_i64]; omega
  have e5 : IntKind.i64.wrap ((dq : Int) + 3 * (wh : Int) + 20 + 6) = (N1 : Int) := by rw [IntKind.wrap_i64]; omega
  have e6 : IntKind.i64.wrap ((N1 : Int) + 10) = (K : Int) := by rw [IntKind.wrap_i64]; omega
  have HTK : Hid (∀ (k : Nat) (wr : World), k < K → ShopTo S w sp (setK (s, F) k).1 (setK (s, F) k).2 wr → Calls Try.prog 27 #[.pointer (some ⟨sp, 0, none⟩), .int .i64 400] wr (fun e w' => (∃ u, e = .returned u) ∧ ShopTo S w sp (setK (s, F) (k + 1)).1 (setK (s, F) (k + 1)).2 w')) := fun k wr hk hS => by
    refine ((shop_tick hS.1 (setK_wh hW k (by omega)).sh (by omega) 400 (by omega)).1).mono ?_
    rintro e w' ⟨g1, g2, -⟩
    exact ⟨g1, hS.then g2⟩
  have HS0 : Hid (ShopTo S w sp (setK (s, F) 0).1 (setK (s, F) 0).2 w) := ShopTo.refl h
  have HRF := hide hrf
  have HRP := hide hrp
  have hK9 : K ≤ 2000 := by omega
  clear h hW hn hcfg hdw hdh hdq hwh hK hKe hN1 hrf hrp
  go_enter Try.func31, Try.ntmps31
  go_wp2
  go_quiet (fail)
  go_wp2
  clear x1 x2 x4 e1 e2 e3 e4 e5
  have HS1 : Hid (ShopTo S w sp (setK (s, F) 0).1 (setK (s, F) 0).2 (w.drewN nq)) := (unhide HS0).below (below_drewN (Below.refl _ _) nq)
  generalize w.drewN nq = W3 at HS1 ⊢
  clear HS0
  go_loopw [4] (fun x wr => ∃ k : Nat, k ≤ K ∧ x = .int .i64 k ∧ ShopTo S w sp (setK (s, F) k).1 (setK (s, F) k).2 wr) (fun x _ => K - (intOf x).toNat)
  case atStart => exact ⟨0, Nat.zero_le _, rfl, unhide HS1⟩
  case round =>
    clear HS1
    obtain ⟨k, hk, rfl, hS⟩ := hrel
    by_cases hlt : k < K
    · have HC := hide ((unhide HTK) k wr hlt hS)
      have k1 : (k : Int) < (K : Int) := by omega
      clear hS
      go_wp2_with (go_at_call 27; refine (unhide HC).mono ?_; rintro e w3 ⟨⟨u, rfl⟩, hS3⟩
                   have HS3 := hide hS3
                   clear hS3 HC)
      go_roundw
      case rel => exact ⟨k + 1, by omega, by go_num, unhide HS3⟩
      case measure => simp [intOf]; omega
    · have ek : k = K := by omega
      subst ek
      have k1 : ¬ (k : Int) < (k : Int) := by omega
      obtain ⟨-, y15, y18, y19, -⟩ := hS.1.rep
      rw [unhide HRF] at y18
      rw [unhide HRP] at y19
      have HS := hide hS
      clear hS
      go_wp2
      go_ret
      exact ⟨rfl, unhide HS⟩
end
end Go.Proofs.Ytfnockbgkcgpkaa
set_option linter.all false
namespace Go.Proofs.Ytfnockbgkcgpkaa
open Go.RowKit Go.Proofs.Panes
set_option maxRecDepth 100000
/-- Nothing waits: nothing is done. -/
theorem scAdm_idle (q : Int) (ks : List (Option Cli)) (st : List Srf × Frs) (h : ∀ (j : Nat) (k : Cli), ks[j]? = some (some k) → k.q = []) : ∀ j, scAdmI q ks st j = st
  | 0 => rfl
  | j + 1 => by
    have ih := scAdm_idle q ks st h j
    unfold scAdmI
    split
    · rename_i k hk
      have e : (admitC k q).1 = [] := by simp [admitC, h j k hk]
      rw [e, ih]; rfl
    · exact ih
theorem idle_tick (d : Cfg) (b : Nat) : (flipF (openS d d.clients.toNat).f).2.1 = 0 ∧ (flipF (openS d d.clients.toNat).f).2.2 = [] ∧ tickP (openS d d.clients.toNat) b = 0 ∧ (openS d d.clients.toNat).t = 0 := by
  refine ⟨rfl, rfl, ?_, rfl⟩
  have e : (openS d d.clients.toNat).ks = List.replicate d.clients.toNat (some (newC d)) := by simp [openS]
  have h4 : (tk4 (openS d d.clients.toNat)).f = (openS d d.clients.toNat).f := by
    show (scAdmI _ (openS d d.clients.toNat).ks _ _).2 = _
    rw [scAdm_idle _ _ _ (fun j k hk => by
      rw [e, List.getElem?_replicate] at hk
      split at hk
      · cases hk; rfl
      · cases hk)]
    rfl
  have h5 : (tk5 (openS d d.clients.toNat)).f = (openS d d.clients.toNat).f := by
    show beginF (tk4 (openS d d.clients.toNat)).f _ _ = _
    rw [h4]
    unfold beginF
    rw [if_pos (.inr rfl)]
  unfold tickP
  rw [h5]
  rfl
/-- Two shops that lie apart, and a row of numbers that was handed out. -/
structure Two (w wr : World) (sp sq : Nat) (s : Scrn) (F : ShF) (s2 : Scrn) (F2 : ShF) (av : Value) (px : List Int) : Prop where
  ex : ∃ (S T U : Nat → Prop), Shop S wr sp s F ∧ Shop T wr sq s2 F2 ∧ (∀ x, S x → w.heap.size ≤ x ∧ x < wr.heap.size ∧ ¬ T x ∧ ¬ U x) ∧ (∀ x, T x → w.heap.size ≤ x ∧ x < wr.heap.size ∧ ¬ U x) ∧ (∀ x, U x → x < wr.heap.size) ∧ RdN U wr av px
  bel : Below w.heap.size w wr
section
variable {w wr w' : World} {sp sq n : Nat} {s s2 : Scrn} {F F2 : ShF} {av : Value} {px : List Int} {ops : List (List Opn)} {m : Mv} {ov : Value}
theorem Two.moves (h : Two w wr sp sq s F s2 F2 av px) (hI : ShI n s F) (hn : n ≤ 1300000) (hm : FitM m) (hR : RdOO (fun k => k < w.heap.size) w ov ops) (hO : OpsB ops) :
    Calls Try.prog 26 #[.pointer (some ⟨sp, 0, none⟩), .agg #[.int .i64 m.kind, .int .i64 m.a, .int .i64 m.b], ov] wr fun e w' => (∃ u, e = .returned u) ∧ Two w w' sp sq (mv ops m (s, F)).1 (mv ops m (s, F)).2 s2 F2 av px := by
  obtain ⟨S, T, U, h1, h2, h3, h4, h5, h6⟩ := h.ex
  refine (moves_any h1 hI hn hm (hR.below h.bel) (fun y hy => ⟨Nat.lt_of_lt_of_le hy h.bel.size, fun e => by have := (h3 y e).1; omega⟩) hO).mono ?_
  rintro e w' ⟨g1, g2, g3⟩
  refine ⟨g1, ⟨fun x => (S x ∨ wr.heap.size ≤ x) ∧ x < w'.heap.size, T, U, g2.lt, h2.but g3 (fun x hx e => (h3 x e).2.2.1 hx), fun x hx => ?_, fun x hx => ?_, fun x hx => Nat.lt_of_lt_of_le (h5 x hx) g3.size, h6.but g3 (fun x hx e => (h3 x e).2.2.2 hx)⟩, h.bel.trans (g3.below h.bel.size (fun x hx => (h3 x hx).1))⟩
  · refine ⟨?_, hx.2, fun e => ?_, fun e => ?_⟩
    · rcases hx.1 with q | q
      · exact (h3 x q).1
      · exact Nat.le_trans h.bel.size q
    · rcases hx.1 with q | q
      · exact (h3 x q).2.2.1 e
      · have := (h4 x e).2.1; omega
    · rcases hx.1 with q | q
      · exact (h3 x q).2.2.2 e
      · have := h5 x e; omega
  · have := h4 x hx
    exact ⟨this.1, Nat.lt_of_lt_of_le this.2.1 g3.size, this.2.2⟩
/-- When the other one's front has been asked for again. -/
structure TwoB (w wr : World) (sp xq : Nat) (s2 : Scrn) (av bv : Value) (px : List Int) : Prop where
  ex : ∃ (o : Nat → Nat) (kb sb fb : Nat) (cps : List (Option Nat)) (U : Nat → Prop), ScrM o wr xq kb sb fb cps s2 ∧ o sp = 0 ∧ (∀ x, o x ≠ 0 → w.heap.size ≤ x) ∧ (∀ x, U x → o x = 0) ∧ RdN U wr av px ∧ RdN U wr bv px
  fine : wr.cell? ⟨sp, 15, none⟩ = some (.bool true) ∧ sp < wr.heap.size
  bel : Below w.heap.size w wr
structure TwoC (w wr : World) (sp : Nat) (av bv : Value) (px : List Int) : Prop where
  ex : ∃ U : Nat → Prop, RdN U wr av px ∧ RdN U wr bv px
  fine : wr.cell? ⟨sp, 15, none⟩ = some (.bool true) ∧ sp < wr.heap.size
  bel : Below w.heap.size w wr
theorem TwoC.below {bv : Value} (h : TwoC w wr sp av bv px) (hb : Below wr.heap.size wr w') : TwoC w w' sp av bv px := by
  obtain ⟨U, h1, h2⟩ := h.ex
  exact ⟨⟨U, h1.below hb, h2.below hb⟩, ⟨(hb.cell h.fine.2).trans h.fine.1, Nat.lt_of_lt_of_le h.fine.2 hb.size⟩, h.bel.trans (hb.mono h.bel.size)⟩
theorem ownN_rd {w : World} {base : Nat} {v : Value} {l : List Int} (h : OwnN w base v l) (hl : l.length ≤ 1000) : RdN (fun x => base ≤ x ∧ x < w.heap.size) w v l := by
  exact h.rdv (fun k e => World.ownsRow.lt h k e)
theorem Two.front (h : Two w wr sp sq s F s2 F2 av px) {n2 : Nat} (hI : ShI n2 s2 F2) (hpx : (s2.f.b s2.f.front).px = px) : ∃ xq, wr.cell? ⟨sq, 0, none⟩ = some (.pointer (some ⟨xq, 0, none⟩)) ∧ sq < wr.heap.size ∧
    Calls Try.prog 32 #[.pointer (some ⟨xq, 0, none⟩)] wr fun e w' => ∃ bv, e = .returned bv ∧ w'.cell? ⟨sq, 0, none⟩ = some (.pointer (some ⟨xq, 0, none⟩)) ∧ TwoB w w' sp xq s2 av bv px := by
  obtain ⟨S, T, U, h1, h2, h3, h4, h5, h6⟩ := h.ex
  obtain ⟨a, o, xp, kb, sb, fb, cps, L, k1, k2, k3, k4⟩ := h1
  obtain ⟨a2, o2, xq, kb2, sb2, fb2, cps2, L2, q1, q2, q3, q4⟩ := h2
  have lsq := lt_of_heap q1.blk
  have lsp := lt_of_heap k1.blk
  have hwh := hI.scr.st.fr.wh
  simp only at hwh
  have hlen := hI.scr.st.fr.px _ hI.scr.st.fr.fr
  simp only at hlen
  refine ⟨xq, blk_cell q1.blk 0, lsq, (FrontS_any q2 hI.scr.st.fr.fr (by omega)).mono ?_⟩
  rintro e w' ⟨fv, rfl, hO, hB⟩
  rw [hpx] at hO hlen
  refine ⟨fv, rfl, (hB.cell lsq).trans (blk_cell q1.blk 0), ⟨o2, kb2, sb2, fb2, cps2, fun x => U x ∨ wr.heap.size ≤ x, q2.below hB, ?_, fun x hx => (h4 x (q4 x (.inr hx))).1, fun x hx => ?_, (h6.below hB).wide (fun _ h => .inl h), (ownN_rd hO (by omega)).wide (fun x hx => .inr hx.1)⟩, ⟨(hB.cell lsp).trans (blk_cell k1.blk 15), Nat.lt_of_lt_of_le lsp hB.size⟩, h.bel.trans (hB.mono h.bel.size)⟩
  · rcases Nat.eq_zero_or_pos (o2 sp) with z | z
    · exact z
    · exact absurd (q4 sp (.inr (by omega))) (h3 sp (k4 sp (.inl (by rw [k1.asp]; omega)))).2.2.1
  · rcases hx with q | q
    · rcases Nat.eq_zero_or_pos (o2 x) with z | z
      · exact z
      · exact absurd q (h4 x (q4 x (.inr (by omega)))).2.2
    · exact q2.new0 q
theorem TwoB.tick {xq : Nat} {bv : Value} (h : TwoB w wr sp xq s2 av bv px) (b : Nat) (hb : b ≤ 1000) (hF : TickFine s2) (ht : s2.t = 0) (hp : tickP s2 b = 0) (h1 : (flipF s2.f).2.1 = 0) (h2 : (flipF s2.f).2.2 = []) :
    Calls Try.prog 30 #[.pointer (some ⟨xq, 0, none⟩), .int .i64 (b : Int)] wr fun e w' => ∃ (qo : Option Addr) (qn qc : Nat) (fo : Option Addr) (fc : Nat), e = .returned (.tuple #[.agg #[.int .i64 1, .int .i64 0, .int .i64 0, .slice qo qn qc, .slice fo 0 fc], .int .i64 0]) ∧ TwoC w w' sp av bv px := by
  obtain ⟨o, kb, sb, fb, cps, U, g1, g2, g3, g4, g5, g6⟩ := h.ex
  refine (Tick_any g1 hF b (by omega)).mono ?_
  rintro e w' ⟨o', qv, fv, rfl, k1, k2, k3, k4, k5, k6⟩
  rw [h2] at k5
  obtain ⟨fo, fc, hfv⟩ := row_slice k5
  simp only [List.map_nil, List.length_nil] at hfv
  subst hfv
  obtain ⟨qo, qc, hqv⟩ := row_slice k3
  subst hqv
  have hn : ∀ x, U x → ¬ (o x ≠ 0 ∧ o x ≠ 4) := fun x hx e => e.1 (g4 x hx)
  refine ⟨qo, _, qc, fo, fc, by rw [ht, hp, h1]; rfl, ⟨U, g5.but k2.but hn, g6.but k2.but hn⟩, ⟨(World.cell?_of_block (k2.but.block sp h.fine.2 (fun e => e.1 g2))).trans h.fine.1, Nat.lt_of_lt_of_le h.fine.2 k2.but.size⟩, h.bel.trans (k2.but.below h.bel.size (fun x hx => g3 x hx.1))⟩
end
end Go.Proofs.Ytfnockbgkcgpkaa
set_option linter.all false
namespace Go.Proofs.Ytfnockbgkcgpkaa
open Go.RowKit Go.Proofs.Panes
set_option maxRecDepth 100000
section
variable {w wr w' : World} {sp sq n : Nat} {s s' s2 : Scrn} {F F' F2 : ShF} {av : Value} {px : List Int}
theorem Two.to (h : Two w wr sp sq s F s2 F2 av px) {f : FuncId} {args : Array Value} {Q : Ending → Prop} (hc : ∀ S, Shop S wr sp s F → Calls Try.prog f args wr (fun e w' => Q e ∧ ShopTo S wr sp s' F' w')) : Calls Try.prog f args wr (fun e w' => Q e ∧ Two w w' sp sq s' F' s2 F2 av px) := by
  obtain ⟨S, T, U, h1, h2, h3, h4, h5, h6⟩ := h.ex
  refine (hc S h1).mono ?_
  rintro e w' ⟨g1, g2, g3⟩
  refine ⟨g1, ⟨fun x => (S x ∨ wr.heap.size ≤ x) ∧ x < w'.heap.size, T, U, g2.lt, h2.but g3 (fun x hx e => (h3 x e).2.2.1 hx), fun x hx => ?_, fun x hx => ?_, fun x hx => Nat.lt_of_lt_of_le (h5 x hx) g3.size, h6.but g3 (fun x hx e => (h3 x e).2.2.2 hx)⟩, h.bel.trans (g3.below h.bel.size (fun x hx => (h3 x hx).1))⟩
  · refine ⟨?_, hx.2, fun e => ?_, fun e => ?_⟩
    · rcases hx.1 with q | q
      · exact (h3 x q).1
      · exact Nat.le_trans h.bel.size q
    · rcases hx.1 with q | q
      · exact (h3 x q).2.2.1 e
      · have := (h4 x e).2.1; omega
    · rcases hx.1 with q | q
      · exact (h3 x q).2.2.2 e
      · have := h5 x e; omega
  · have := h4 x hx
    exact ⟨this.1, Nat.lt_of_lt_of_le this.2.1 g3.size, this.2.2⟩
theorem Two.swap (h : Two w wr sp sq s F s2 F2 av px) : Two w wr sq sp s2 F2 s F av px := by
  obtain ⟨S, T, U, h1, h2, h3, h4, h5, h6⟩ := h.ex
  refine ⟨⟨T, S, U, h2, h1, fun x hx => ⟨(h4 x hx).1, (h4 x hx).2.1, fun e => (h3 x e).2.2.1 hx, (h4 x hx).2.2⟩, fun x hx => ⟨(h3 x hx).1, (h3 x hx).2.1, (h3 x hx).2.2.2⟩, h5, h6⟩, h.bel⟩
theorem Two.below (h : Two w wr sp sq s F s2 F2 av px) (hb : Below wr.heap.size wr w') : Two w w' sp sq s F s2 F2 av px := by
  obtain ⟨S, T, U, h1, h2, h3, h4, h5, h6⟩ := h.ex
  have hz := hb.size
  refine ⟨⟨S, T, U, h1.below hb, h2.below hb, fun x hx => ⟨(h3 x hx).1, by have := (h3 x hx).2.1; omega, (h3 x hx).2.2⟩, fun x hx => ⟨(h4 x hx).1, by have := (h4 x hx).2.1; omega, (h4 x hx).2.2⟩, fun x hx => by have := h5 x hx; omega, h6.below hb⟩, h.bel.trans (hb.mono h.bel.size)⟩
theorem Two.first (h : Two w wr sp sq s F s2 F2 av px) : ∃ S, Shop S wr sp s F := by
  obtain ⟨S, T, U, h1, -⟩ := h.ex
  exact ⟨S, h1⟩
/-- An operation that may not be. -/
def op9 : Opn := ⟨9, 0, 0, 0, 0, 0, [], 0⟩
theorem op9_code (c : Cfg) (cl : Cli) : subCode c cl [op9] ≠ 0 := by
  unfold subCode
  split
  · decide
  · have : vall cl.own [op9] = none := by
      show (vstep cl.own op9).bind _ = none
      have : vstep cl.own op9 = none := by
        unfold vstep op9
        simp [inB]
      rw [this]; rfl
    rw [this]
    simp
def op9cells : Array Value := #[.int .i64 9, .int .i64 0, .int .i64 0, .int .i64 0, .int .i64 0, .int .i64 0, .slice none 0 0, .int .i64 0]
/-- Calls that are refused. -/
theorem Shop.refused {S : Nat → Prop} (h : Shop S w sp s F) (hI : ShI n s F) : ∃ xp, w.cell? ⟨sp, 0, none⟩ = some (.pointer (some ⟨xp, 0, none⟩)) ∧ sp < w.heap.size ∧ ∀ w', Below w.heap.size w w' →
    Calls Try.prog 28 #[.pointer (some ⟨xp, 0, none⟩), .int .i64 9, .slice none 0 0] w' (fun e w2 => (∃ u, e = .returned u) ∧ Below w'.heap.size w' w2) ∧
    Calls Try.prog 29 #[.pointer (some ⟨xp, 0, none⟩), .int .i64 (-1)] w' (fun e w2 => (∃ u, e = .returned u) ∧ Below w'.heap.size w' w2) ∧
    Calls Try.prog 30 #[.pointer (some ⟨xp, 0, none⟩), .int .i64 (-1)] w' (fun e w2 => (∃ u, e = .returned u) ∧ Below w'.heap.size w' w2) ∧
    Calls Try.prog 28 #[.pointer (some ⟨xp, 0, none⟩), .int .i64 0, .slice (some ⟨w'.heap.size, 0, none⟩) 1 1] (w'.alloc (.cells op9cells 72)) (fun e w2 => (∃ u, e = .returned u) ∧ Below (w'.alloc (.cells op9cells 72)).heap.size (w'.alloc (.cells op9cells 72)) w2) := by
  obtain ⟨a, o, xp, kb, sb, fb, cps, L, h1, h2, h3, h4⟩ := h
  have hn4 := hI.n4
  have hcs := (cfgB hI.scr.cfg).surfaces
  have hcq := (cfgB hI.scr.cfg).queue
  refine ⟨xp, blk_cell h1.blk 0, lt_of_heap h1.blk, fun w' hb => ⟨?_, ?_, ?_, ?_⟩⟩
  · refine (Submit_none (h2.below hb) hn4.1 9 ?_ _).mono ?_
    · unfold conK
      rw [show (9 : Int).toNat = 9 from rfl, List.getElem?_eq_none (by omega)]
      rfl
    · rintro e w2 ⟨g1, g2⟩
      exact ⟨⟨_, g1⟩, g2⟩
  · refine (Disconnect_none (h2.below hb) hn4.1 (-1) (by unfold conK; simp)).mono ?_
    rintro e w2 ⟨g1, g2⟩
    exact ⟨⟨_, g1⟩, g2⟩
  · refine (Tick_neg w' xp (-1) (by omega)).mono ?_
    rintro e w2 ⟨g1, g2⟩
    exact ⟨⟨_, g1⟩, g2⟩
  · have hba : Below w'.heap.size w' (w'.alloc (.cells op9cells 72)) := (Below.refl _ w').alloc (Nat.le_refl _) _
    have hM := (h2.below hb).below hba
    cases hk : s.ks[0]? with
    | none => rw [List.getElem?_eq_none_iff] at hk; omega
    | some x =>
      cases x with
      | none =>
        refine (Submit_none hM hn4.1 0 (by unfold conK; simp [hk]) _).mono ?_
        rintro e w2 ⟨g1, g2⟩
        exact ⟨⟨_, g1⟩, g2⟩
      | some cl =>
        have hx : (w'.alloc (.cells op9cells 72)).heap[w'.heap.size]? = some (.cells op9cells 72) := new_at w' _ _ rfl
        have c : ∀ k, (w'.alloc (.cells op9cells 72)).cell? ⟨w'.heap.size, k, none⟩ = op9cells[k]? := fun k => blk_cell hx k
        have hR : RdO (fun x => x = w'.heap.size) (w'.alloc (.cells op9cells 72)) (.slice (some ⟨w'.heap.size, 0, none⟩) [op9].length 1) [op9] := by
          refine ⟨_, _, rfl, Nat.le_refl _, by simp [maxLen], fun _ => ⟨w'.heap.size, 0, rfl, rfl, lt_of_heap hx, fun j o hj => ?_⟩⟩
          match j, hj with
          | 0, hj =>
            simp at hj
            subst hj
            simp only [OAt, c]
            exact ⟨rfl, rfl, rfl, rfl, rfl, rfl, ⟨_, rfl, none, 0, rfl, Nat.le_refl _, by simp [maxLen], fun h => absurd rfl h⟩, rfl⟩
          | j + 1, hj => simp at hj
        have hql := (hI.scr.cl 0 cl hk).ql
        refine (Submit_some hM hn4.1 hk (by omega) (by omega) _ (some ⟨w'.heap.size, 0, none⟩) 1 [op9] hR (fun y hy => by rw [hy]; exact lt_of_heap hx) (by simp) (fun x hx => by simp at hx; rw [hx]; simp [op9])).mono ?_
        rintro e w2 ⟨g1, g2⟩
        rcases g2 with ⟨g3, -⟩ | ⟨-, g4⟩
        · exact absurd g3 (op9_code s.c cl)
        · exact ⟨⟨_, g1⟩, g4⟩
end
end Go.Proofs.Ytfnockbgkcgpkaa
set_option linter.all false
namespace Go.Proofs.Ytfnockbgkcgpkaa
open Go.RowKit Go.Proofs.Panes
set_option maxRecDepth 100000
/-- The move with another budget. -/
def mvB (bs : List Int) (i : Nat) (m : Mv) : Mv := if kpk m.kind 5 = 2 ∧ bs ≠ [] then ⟨m.kind, m.a, bs.getD (i % bs.length) 0⟩ else m
def msB (bs : List Int) (ms : List Mv) : List Mv := ms.mapIdx (mvB bs)
theorem msB_at {bs : List Int} {ms : List Mv} {k : Nat} {m : Mv} (h : ms[k]? = some m) : (msB bs ms)[k]? = some (mvB bs k m) := by
  unfold msB; rw [List.getElem?_mapIdx, h]; rfl
theorem msB_len (bs : List Int) (ms : List Mv) : (msB bs ms).length = ms.length := by simp [msB]
theorem plK_wh {c : Cfg} (hc : okCfg c = true) {ops : List (List Opn)} (hO : OpsB ops) (ms : List Mv) : ∀ k, k ≤ ms.length → k ≤ 1300000 → WhI k (plK c ops ms k).1 (plK c ops ms k).2
  | 0, _, _ => open_wh hc
  | k + 1, hk, hn => by
    obtain ⟨m, hm⟩ : ∃ m, ms[k]? = some m := ⟨ms[k], by simp⟩
    rw [plK_succ hm]
    exact (plK_wh hc hO ms k (by omega) (by omega)).mv (by omega) hO m
theorem plK_same {c : Cfg} (hc : okCfg c = true) {ops : List (List Opn)} (hO : OpsB ops) (bs : List Int) (ms : List Mv) : ∀ k, k ≤ ms.length → k ≤ 1300000 → Same (plK c ops ms k).1 (plK c ops ms k).2 (plK c ops (msB bs ms) k).1 (plK c ops (msB bs ms) k).2
  | 0, _, _ => ⟨rfl, rfl, rfl, rfl, rfl⟩
  | k + 1, hk, hn => by
    obtain ⟨m, hm⟩ : ∃ m, ms[k]? = some m := ⟨ms[k], by simp⟩
    rw [plK_succ hm, plK_succ (msB_at hm)]
    have h1 := (plK_wh hc hO ms k (by omega) (by omega)).sh
    have h2 := (plK_wh hc hO (msB bs ms) k (by rw [msB_len]; omega) (by omega)).sh
    have hS := plK_same hc hO bs ms k (by omega) (by omega)
    have key : mvB bs k m = ⟨m.kind, m.a, (mvB bs k m).b⟩ := by unfold mvB; split <;> rfl
    rw [key]
    refine hS.mv h1 h2 (by omega) (by omega) ops m _ (fun hne => ?_)
    unfold mvB
    rw [if_neg (fun e => hne e.1)]
theorem Shop.front2 {S : Nat → Prop} {w : World} {sp n : Nat} {s : Scrn} {F : ShF} (h : Shop S w sp s F) (hI : ShI n s F) : ∃ xp, w.cell? ⟨sp, 0, none⟩ = some (.pointer (some ⟨xp, 0, none⟩)) ∧ sp < w.heap.size ∧ Calls Try.prog 32 #[.pointer (some ⟨xp, 0, none⟩)] w (FrontPost w (s.f.b s.f.front).px) := by
  obtain ⟨a, o, xp, kb, sb, fb, cps, L, h1, h2, h3, h4⟩ := h
  exact ⟨xp, blk_cell h1.blk 0, lt_of_heap h1.blk, FrontS_any h2 hI.scr.st.fr.fr (by have := hI.scr.st.fr.wh; simp only at this; omega)⟩
theorem two_open {w1 w2 w3 : World} {sp sq : Nat} {s s2 : Scrn} {F F2 : ShF} (hp : ShN w1 w2 sp s F) (hq : Shop (fun x => w2.heap.size ≤ x) w3 sq s2 F2) (hb : Below w2.heap.size w2 w3) : Two w1 w3 sq sp s2 F2 s F (.slice none 0 0) [] := by
  have e1 := hp.bel.size
  have e2 := hb.size
  refine ⟨⟨_, _, fun _ => False, hq.lt, hp.shop.lt.below hb, fun x hx => ⟨by omega, hx.2, fun e => by have := e.2; omega, fun e => e⟩, fun x hx => ⟨hx.1, by have := hx.2; omega, fun e => e⟩, fun _ h => h.elim, ⟨none, 0, rfl, Nat.le_refl _, by simp [maxLen], fun h => absurd rfl h⟩⟩, hp.bel.trans (hb.mono e1)⟩
set_option maxHeartbeats 4000000 in
theorem whole_any (c : Cfg) (hc : FitC c) (ops : List (List Opn)) (hO : OpsB ops) (ms : List Mv) (hms : ms.length ≤ 1200000) (hfit : ∀ m ∈ ms, FitM m) (bs : List Int) (hbs : bs.length ≤ 1200000) (hfb : ∀ z ∈ bs, FitI z) (w : World) (ov mvv bv : Value) (hR : RdOO (fun k => k < w.heap.size) w ov ops) (hM : RdMv w mvv ms) (hB : RdN (fun k => k < w.heap.size) w bv bs) :
    Calls Try.prog 8 #[cval c, ov, mvv, bv] w fun e w' => e = .returned (.bool true) ∧ Below w.heap.size w w' := by
  obtain ⟨W1, hW1⟩ : ∃ W1, W1 = w.alloc (.cells #[.int .i64 c.w, .int .i64 c.h, .int .i64 c.clients, .int .i64 c.queue, .int .i64 c.most, .int .i64 c.quantum, .int .i64 c.surfaces, .int .i64 c.behind] 40) := ⟨_, rfl⟩
  have hb01 : Below w.heap.size w W1 := by rw [hW1]; exact (Below.refl _ w).alloc (Nat.le_refl _) _
  have hX1 : W1.heap[w.heap.size]? = some (.cells #[.int .i64 c.w, .int .i64 c.h, .int .i64 c.clients, .int .i64 c.queue, .int .i64 c.most, .int .i64 c.quantum, .int .i64 c.surfaces, .int .i64 c.behind] 40) := by rw [hW1]; exact new_at w _ _ rfl
  have hR1 : RdOO (fun k => k < W1.heap.size) W1 ov ops := (hR.below hb01).wide (fun x hx => Nat.lt_of_lt_of_le hx hb01.size)
  have hM1 := hM.below hb01
  have hB1 := hB.below hb01
  obtain ⟨d, hd⟩ : ∃ d, d = confC c := ⟨_, rfl⟩
  have hok := confC_ok c
  have hpl := played_any c hc ops hO ms hms hfit W1 ov mvv hR1 hM1
  rw [← hd] at hok hpl
  obtain ⟨ao, cap, rfl, -, -, hcl⟩ := id hM1
  obtain ⟨bo, bc, rfl, -, -, hbcl⟩ := hB1
  obtain ⟨n, hn⟩ : ∃ n, n = ms.length := ⟨_, rfl⟩
  obtain ⟨nb, hnb⟩ : ∃ nb, nb = bs.length := ⟨_, rfl⟩
  have hn9 : n ≤ 1200000 := by omega
  have hnb9 : nb ≤ 1200000 := by omega
  have hcfg := cfgB hok
  obtain ⟨dw, hdw⟩ : ∃ dw : Nat, d.w = (dw : Int) := ⟨d.w.toNat, by have := hcfg.w; omega⟩
  obtain ⟨dh, hdh⟩ : ∃ dh : Nat, d.h = (dh : Int) := ⟨d.h.toNat, by have := hcfg.h; omega⟩
  have hw16 : dw ≤ 16 := by have := hcfg.w; omega
  have hh16 : dh ≤ 16 := by have := hcfg.h; omega
  obtain ⟨wh, hwh⟩ : ∃ wh, wh = dw * dh := ⟨_, rfl⟩
  have hwh9 : wh ≤ 256 := by rw [hwh]; exact Nat.mul_le_mul hw16 hh16
  have hK9 : setN d ≤ 900 := by
    have := hcfg.queue
    unfold setN
    rw [hdw, hdh, Int.toNat_natCast, Int.toNat_natCast, ← hwh]
    omega
  obtain ⟨ms2, hms2⟩ : ∃ ms2, ms2 = msB bs ms := ⟨_, rfl⟩
  have hl2 : ms2.length = n := by rw [hms2, msB_len, hn]
  have hw1 := plK_wh hok hO ms n (by omega) (by omega)
  have hw2 := plK_wh hok hO ms2 n (by omega) (by omega)
  have hsm := plK_same hok hO bs ms n (by omega) (by omega)
  rw [← hms2] at hsm
  have hcP : (plK d ops ms n).1.c = d := by rw [← hw1.sh.c]; exact plK_c' n (by omega)
  have hcQ : (plK d ops ms2 n).1.c = d := by rw [← hw2.sh.c]; exact plK_c' n (by omega)
  obtain ⟨K, hK⟩ : ∃ K, K = setN d := ⟨_, rfl⟩
  have hP1 := setK_wh hw1 K (by omega)
  have hP2 := setK_wh hw2 K (by omega)
  have hcalm1 : Calm (setK (plK d ops ms n) K).1 := settles hw1 (by rw [hcP, hK]; unfold setN; omega) (by omega)
  have hcalm2 : Calm (setK (plK d ops ms2 n) K).1 := settles hw2 (by rw [hcQ, hK]; unfold setN; omega) (by omega)
  have hsmK := setK_same (st1 := plK d ops ms n) (st2 := plK d ops ms2 n) hsm hw1 hw2 K (by omega) (by omega)
  obtain ⟨hfe, hfl⟩ := same_front hsmK hP1 hP2 hcalm1 hcalm2
  rw [setK_c, hcP, hdw, hdh, Int.toNat_natCast, Int.toNat_natCast, ← hwh] at hfl
  have HPL : Hid (Calls Try.prog 23 #[.agg #[.int .i64 c.w, .int .i64 c.h, .int .i64 c.clients, .int .i64 c.queue, .int .i64 c.most, .int .i64 c.quantum, .int .i64 c.surfaces, .int .i64 c.behind], ov, .slice ao n cap] W1 fun e w' => ∃ sp, e = .returned (.pointer (some ⟨sp, 0, none⟩)) ∧ ShN W1 w' sp (plK d ops ms n).1 (plK d ops ms n).2) := by
    rw [hn]; exact hpl
  have HO1 : Hid (∀ w, Calls Try.prog 25 #[.agg #[.int .i64 c.w, .int .i64 c.h, .int .i64 c.clients, .int .i64 c.queue, .int .i64 c.most, .int .i64 c.quantum, .int .i64 c.surfaces, .int .i64 c.behind]] w (OpenPost d w)) := fun w => by rw [hd]; exact opened_any c hc w
  have HMV : Hid (∀ (k : Nat) (m : Mv) (sp sq : Nat) (wr w2 : World), ms[k]? = some m → Two W1 wr sq sp (plK d ops ms2 k).1 (plK d ops ms2 k).2 (plK d ops ms n).1 (plK d ops ms n).2 (.slice none 0 0) [] → Below wr.heap.size wr w2 → Calls Try.prog 26 #[.pointer (some ⟨sq, 0, none⟩), .agg #[.int .i64 (mvB bs k m).kind, .int .i64 (mvB bs k m).a, .int .i64 (mvB bs k m).b], ov] w2 fun e w' => (∃ u, e = .returned u) ∧ Two W1 w' sq sp (plK d ops ms2 (k + 1)).1 (plK d ops ms2 (k + 1)).2 (plK d ops ms n).1 (plK d ops ms n).2 (.slice none 0 0) []) := fun k m sp sq wr w2 hm h hb => by
    have hkl := (List.getElem?_eq_some_iff.1 hm).1
    have hm2 : ms2[k]? = some (mvB bs k m) := by rw [hms2]; exact msB_at hm
    rw [plK_succ hm2]
    have hfm : FitM (mvB bs k m) := by
      have h0 := hfit m (List.mem_of_getElem? hm)
      unfold mvB
      split
      · rename_i e
        refine ⟨h0.1, h0.2.1, hfb _ ?_⟩
        have hlt : k % bs.length < bs.length := Nat.mod_lt _ (List.length_pos_iff.2 e.2)
        rw [List.getD_eq_getElem?_getD, List.getElem?_eq_getElem hlt]
        exact List.getElem_mem hlt
      · exact h0
    exact (h.below hb).moves (plK_wh hok hO ms2 k (by omega) (by omega)).sh (by omega) hfm hR1 hO
  have HRF : Hid (∀ (k sp sq : Nat) (wr : World), k ≤ n → Two W1 wr sq sp (plK d ops ms2 k).1 (plK d ops ms2 k).2 (plK d ops ms n).1 (plK d ops ms n).2 (.slice none 0 0) [] → ∃ xq, wr.cell? ⟨sq, 0, none⟩ = some (.pointer (some ⟨xq, 0, none⟩)) ∧ sq < wr.heap.size ∧ ∀ w', Below wr.heap.size wr w' →
      Calls Try.prog 28 #[.pointer (some ⟨xq, 0, none⟩), .int .i64 9, .slice none 0 0] w' (fun e w2 => (∃ u, e = .returned u) ∧ Below w'.heap.size w' w2) ∧
      Calls Try.prog 29 #[.pointer (some ⟨xq, 0, none⟩), .int .i64 (-1)] w' (fun e w2 => (∃ u, e = .returned u) ∧ Below w'.heap.size w' w2) ∧
      Calls Try.prog 30 #[.pointer (some ⟨xq, 0, none⟩), .int .i64 (-1)] w' (fun e w2 => (∃ u, e = .returned u) ∧ Below w'.heap.size w' w2) ∧
      Calls Try.prog 28 #[.pointer (some ⟨xq, 0, none⟩), .int .i64 0, .slice (some ⟨w'.heap.size, 0, none⟩) 1 1] (w'.alloc (.cells #[.int .i64 9, .int .i64 0, .int .i64 0, .int .i64 0, .int .i64 0, .int .i64 0, .slice none 0 0, .int .i64 0] 72)) (fun e w2 => (∃ u, e = .returned u) ∧ Below (w'.alloc (.cells #[.int .i64 9, .int .i64 0, .int .i64 0, .int .i64 0, .int .i64 0, .int .i64 0, .slice none 0 0, .int .i64 0] 72)).heap.size (w'.alloc (.cells #[.int .i64 9, .int .i64 0, .int .i64 0, .int .i64 0, .int .i64 0, .int .i64 0, .slice none 0 0, .int .i64 0] 72)) w2)) := fun k sp sq wr hk h => by
    obtain ⟨S, hS⟩ := h.first
    exact hS.refused (plK_wh hok hO ms2 k (by omega) (by omega)).sh
  have HST : Hid (∀ (sp sq : Nat) (wr : World) (s2 : Scrn) (F2 : ShF), Two W1 wr sp sq (plK d ops ms n).1 (plK d ops ms n).2 s2 F2 (.slice none 0 0) [] → Calls Try.prog 31 #[.pointer (some ⟨sp, 0, none⟩)] wr fun e w' => e = .returned (.bool true) ∧ Two W1 w' sp sq (setK (plK d ops ms n) K).1 (setK (plK d ops ms n) K).2 s2 F2 (.slice none 0 0) []) := fun sp sq wr s2 F2 h => by
    refine h.to (fun S hS => ?_)
    have := settled_any hS hw1 (by rw [hcP]; omega)
    rw [hcP, ← hK] at this
    exact this
  have HST2 : Hid (∀ (sp sq : Nat) (wr : World) (s2 : Scrn) (F2 : ShF), Two W1 wr sq sp (plK d ops ms2 n).1 (plK d ops ms2 n).2 s2 F2 (.slice none 0 0) [] → Calls Try.prog 31 #[.pointer (some ⟨sq, 0, none⟩)] wr fun e w' => e = .returned (.bool true) ∧ Two W1 w' sq sp (setK (plK d ops ms2 n) K).1 (setK (plK d ops ms2 n) K).2 s2 F2 (.slice none 0 0) []) := fun sp sq wr s2 F2 h => by
    refine h.to (fun S hS => ?_)
    have := settled_any hS hw2 (by rw [hcQ]; omega)
    rw [hcQ, ← hK] at this
    exact this
  have HCL : Hid (∀ (k : Nat) (m : Mv) (wr : World), ms[k]? = some m → Below W1.heap.size W1 wr → ∃ b off, ao = some ⟨b, off, none⟩ ∧ wr.cell? ⟨b, off + k * 3, none⟩ = some (.int .i64 m.kind) ∧ wr.cell? ⟨b, off + k * 3 + 1, none⟩ = some (.int .i64 m.a) ∧ wr.cell? ⟨b, off + k * 3 + 2, none⟩ = some (.int .i64 m.b)) := fun k m wr hm hb => by
    obtain ⟨b, off, e, hlt, hc⟩ := hcl (fun e => by rw [e] at hm; simp at hm)
    obtain ⟨c0, c1, c2⟩ := hc k m hm
    exact ⟨b, off, e, (hb.cell hlt).trans c0, (hb.cell hlt).trans (by rw [Nat.add_assoc]; exact c1), (hb.cell hlt).trans (by rw [Nat.add_assoc]; exact c2)⟩
  have HBC : Hid (∀ (j : Nat) (z : Int) (wr : World), bs[j]? = some z → Below W1.heap.size W1 wr → ∃ b off, bo = some ⟨b, off, none⟩ ∧ b < W1.heap.size ∧ wr.cell? ⟨b, off + j, none⟩ = some (.int .i64 z)) := fun j z wr hz hb => by
    obtain ⟨b, off, e, _, hlt, hc⟩ := hbcl (fun e => by rw [e] at hz; simp at hz)
    exact ⟨b, off, e, hlt, (hb.cell hlt).trans (hc j z hz)⟩
  have HPK : Hid (∀ (k : Nat) (m : Mv), ms[k]? = some m → Pk m.kind 5 (kpk m.kind 5)) := fun k m hm => ⟨rfl, (hfit m (List.mem_of_getElem? hm)).1, by omega⟩
  rw [← hn, ← hnb]
  have ewh : IntKind.i64.wrap ((dw : Int) * (dh : Int)) = (wh : Int) := by
    rw [show (dw : Int) * (dh : Int) = (wh : Int) from by rw [hwh]; exact (Int.natCast_mul dw dh).symm, IntKind.wrap_i64]; omega
  have HFE := hide (And.intro hfe hfl)
  have HDW := hide (And.intro hdw hdh)
  have HP1 := hide hP1
  have HP2 := hide hP2
  have HCP : Hid ((setK (plK d ops ms n) K).2.c = d) := by show (setK (plK d ops ms n) K).2.c = d; rw [hP1.sh.c, setK_c]; exact hcP
  have HN := hide hn
  have HNB := hide hnb
  have HX1 := hide hX1
  have HB01 := hide hb01
  have HW1 := hide hW1
  clear hc hO hms hfit hbs hfb hR hR1 hM hM1 hB hcl hbcl hd hok hn hnb hX1 hb01 hW1 hpl hcfg hdw hdh hw16 hh16 hwh hK9 hms2 hl2 hw1 hw2 hsm hcP hcQ hK hP1 hP2 hcalm1 hcalm2 hsmK hfe hfl
  unfold cval
  go_enter Try.func8, Try.ntmps8
  go_wp2_with (first
    | (rw [← unhide HW1]; go_at_call 23; refine (unhide HPL).mono ?_; rintro e w2 ⟨sp, rfl, hN2⟩
       have hX2 : w2.heap[w.heap.size]? = _ := (hN2.bel.block _ (lt_of_heap (unhide HX1))).trans (unhide HX1)
       have b0 : w2.cell? ⟨w.heap.size, 0, none⟩ = some (.int .i64 c.w) := blk_cell hX2 0
       have b1 : w2.cell? ⟨w.heap.size, 1, none⟩ = some (.int .i64 c.h) := blk_cell hX2 1
       have b2 : w2.cell? ⟨w.heap.size, 2, none⟩ = some (.int .i64 c.clients) := blk_cell hX2 2
       have b3 : w2.cell? ⟨w.heap.size, 3, none⟩ = some (.int .i64 c.queue) := blk_cell hX2 3
       have b4 : w2.cell? ⟨w.heap.size, 4, none⟩ = some (.int .i64 c.most) := blk_cell hX2 4
       have b5 : w2.cell? ⟨w.heap.size, 5, none⟩ = some (.int .i64 c.quantum) := blk_cell hX2 5
       have b6 : w2.cell? ⟨w.heap.size, 6, none⟩ = some (.int .i64 c.surfaces) := blk_cell hX2 6
       have b7 : w2.cell? ⟨w.heap.size, 7, none⟩ = some (.int .i64 c.behind) := blk_cell hX2 7
       have HN2 := hide hN2
       clear hN2 hX2 HPL)
    | (go_at_call 25; refine ((unhide HO1) _).mono ?_; rintro e w3 ⟨sq, rfl, hS, hb3⟩
       have HT0 : Hid (Two W1 w3 sq sp (plK d ops ms2 0).1 (plK d ops ms2 0).2 (plK d ops ms n).1 (plK d ops ms n).2 (.slice none 0 0) []) := two_open (unhide HN2) hS hb3
       clear hS hb3 HO1 b0 b1 b2 b3 b4 b5 b6 b7))
  clear HN2
  go_loopw [11] (fun x wr => ∃ k : Nat, k ≤ n ∧ x = .int .i64 k ∧ Two W1 wr sq sp (plK d ops ms2 k).1 (plK d ops ms2 k).2 (plK d ops ms n).1 (plK d ops ms n).2 (.slice none 0 0) []) (fun x _ => n - (intOf x).toNat)
  case atStart => exact ⟨0, Nat.zero_le _, rfl, unhide HT0⟩
  case round =>
    clear HT0
    obtain ⟨k, hk, rfl, hS⟩ := hrel
    by_cases hlt : k < n
    · obtain ⟨m, hm⟩ : ∃ m, ms[k]? = some m := ⟨ms[k]'(by have := unhide HN; omega), by simp⟩
      obtain ⟨b, off, rfl, c0, c1, c2⟩ := (unhide HCL) k m wr hm hS.bel
      have hpk := (unhide HPK) k m hm
      obtain ⟨xq, y0, lsq, hrf⟩ := (unhide HRF) k sp sq wr (by omega) hS
      have k0 : (0 : Int) ≤ (k : Int) := by omega
      have k1 : (k : Int) < (n : Int) := by omega
      obtain ⟨z, hz⟩ : ∃ z, z = kpk m.kind 5 := ⟨_, rfl⟩
      rw [← hz] at hpk
      have HRF2 := hide hrf
      have HS := hide hS
      have HM := hide hm
      clear hrf hS hm
      by_cases hc2 : z = 2 ∧ bs ≠ []
      · obtain ⟨hz2, hbne⟩ := hc2
        have hem : mvB bs k m = ⟨m.kind, m.a, bs.getD (k % bs.length) 0⟩ := by unfold mvB; rw [if_pos ⟨by rw [← hz]; exact hz2, hbne⟩]
        have hnb1 : 0 < nb := by rw [unhide HNB]; exact List.length_pos_iff.2 hbne
        obtain ⟨j, hj⟩ : ∃ j, j = k % nb := ⟨_, rfl⟩
        have hjl : j < nb := by rw [hj]; exact Nat.mod_lt _ hnb1
        obtain ⟨bz, hbz⟩ : ∃ bz, bs[j]? = some bz := ⟨bs[j]'(by have := unhide HNB; omega), by simp⟩
        have hgd : bs.getD (k % bs.length) 0 = bz := by rw [← unhide HNB, ← hj, List.getD_eq_getElem?_getD, hbz]; rfl
        rw [hgd] at hem
        have qm : (k : Int).tmod (nb : Int) = (j : Int) := by rw [hj]; exact (Int.ofNat_tmod k nb).symm
        have nb0 : ¬ nb = 0 := by omega
        have nb1 : (0 : Int) < (nb : Int) := by omega
        have j0 : (0 : Int) ≤ (j : Int) := by omega
        have j1 : (j : Int) < (nb : Int) := by omega
        obtain ⟨mb3, hmb3⟩ : ∃ mb3, mb3 = bz := ⟨_, rfl⟩
        obtain ⟨mk, hmk⟩ : ∃ mk, mk = m.kind := ⟨_, rfl⟩
        obtain ⟨ma, hma⟩ : ∃ ma, ma = m.a := ⟨_, rfl⟩
        obtain ⟨mb, hmb⟩ : ∃ mb, mb = m.b := ⟨_, rfl⟩
        have HC0 : Hid (∀ w2, Below wr.heap.size wr w2 → Calls Try.prog 26 #[.pointer (some ⟨sq, 0, none⟩), .agg #[.int .i64 mk, .int .i64 ma, .int .i64 bz], ov] w2 fun e w' => (∃ u, e = .returned u) ∧ Two W1 w' sq sp (plK d ops ms2 (k + 1)).1 (plK d ops ms2 (k + 1)).2 (plK d ops ms n).1 (plK d ops ms n).2 (.slice none 0 0) []) := fun w2 hb => by
          have := (unhide HMV) k m sp sq wr w2 (unhide HM) (unhide HS) hb
          rw [hem] at this
          try simp only at this
          rw [hmk, hma]
          exact this
        obtain ⟨bb, boff, rfl, lbb, cbz⟩ := (unhide HBC) j bz wr hbz (unhide HS).bel
        have lbw : bb < wr.heap.size := Nat.lt_of_lt_of_le lbb (unhide HS).bel.size
        rw [← hmk] at c0 hpk
        rw [← hma] at c1
        rw [← hmb] at c2
        obtain ⟨wa, hwa⟩ : ∃ wa, wa = wr.alloc (.cells #[.int .i64 mk, .int .i64 ma, .int .i64 bz] 61) := ⟨_, rfl⟩
        have hba : Below wr.heap.size wr wa := by rw [hwa]; exact (Below.refl _ wr).alloc (Nat.le_refl _) _
        have hXa : wa.heap[wr.heap.size]? = some (.cells #[.int .i64 mk, .int .i64 ma, .int .i64 bz] 61) := by rw [hwa]; exact new_at wr _ _ rfl
        obtain ⟨r1, -, -, -⟩ := (unhide HRF2) wa hba
        have ya : wa.cell? ⟨sq, 0, none⟩ = some (.pointer (some ⟨xq, 0, none⟩)) := (hba.cell lsq).trans y0
        have hba0 : Below wr.heap.size wr (wr.alloc (.cells #[.int .i64 mk, .int .i64 ma, .int .i64 mb] 61)) := (Below.refl _ wr).alloc (Nat.le_refl _) _
        have cbz' : (wr.alloc (.cells #[.int .i64 mk, .int .i64 ma, .int .i64 mb] 61)).cell? ⟨bb, boff + j, none⟩ = some (.int .i64 bz) := (hba0.cell lbw).trans cbz
        subst hz2
        have HWA := hide hwa
        have HBA := hide hba
        have HXA := hide hXa
        have HR1 := hide r1
        clear hwa hba hXa r1 hmk hma hmb hem hz hbz hgd hj hba0 hmb3
        go_wp2_with (first
          | (go_at_call 20; refine Calls.mono (pk_any _ _ _ _ hpk) ?_; rintro e w4 ⟨rfl, rfl⟩)
          | (rw [← unhide HWA]; go_at_call 28; refine (unhide HR1).mono ?_; rintro e w5 ⟨⟨u5, rfl⟩, hb5⟩
             have hB5 : Below wr.heap.size wr w5 := (unhide HBA).trans (hb5.mono (unhide HBA).size)
             have y5 : w5.cell? ⟨sq, 0, none⟩ = some (.pointer (some ⟨xq, 0, none⟩)) := (hB5.cell lsq).trans y0
             have HX5 : Hid (w5.heap[wr.heap.size]? = some (.cells #[.int .i64 mk, .int .i64 ma, .int .i64 bz] 61)) := (hb5.block _ (lt_of_heap (unhide HXA))).trans (unhide HXA)
             have HR2 := hide ((unhide HRF2) w5 hB5).2.1
             have HB5 := hide hB5
             clear hb5 hB5 HR1 HWA)
          | (go_at_call 29; refine (unhide HR2).mono ?_; rintro e w6 ⟨⟨u6, rfl⟩, hb6⟩
             have hB6 : Below wr.heap.size wr w6 := (unhide HB5).trans (hb6.mono (unhide HB5).size)
             have y6 : w6.cell? ⟨sq, 0, none⟩ = some (.pointer (some ⟨xq, 0, none⟩)) := (hB6.cell lsq).trans y0
             have HX6 : Hid (w6.heap[wr.heap.size]? = some (.cells #[.int .i64 mk, .int .i64 ma, .int .i64 bz] 61)) := (hb6.block _ (lt_of_heap (unhide HX5))).trans (unhide HX5)
             have HR3 := hide ((unhide HRF2) w6 hB6).2.2.1
             have HB6 := hide hB6
             clear hb6 hB6 HR2)
          | (go_at_call 30; refine (unhide HR3).mono ?_; rintro e w7 ⟨⟨u7, rfl⟩, hb7⟩
             have hB7 : Below wr.heap.size wr w7 := (unhide HB6).trans (hb7.mono (unhide HB6).size)
             have y7 : w7.cell? ⟨sq, 0, none⟩ = some (.pointer (some ⟨xq, 0, none⟩)) := (hB7.cell lsq).trans y0
             have HX7 : Hid (w7.heap[wr.heap.size]? = some (.cells #[.int .i64 mk, .int .i64 ma, .int .i64 bz] 61)) := (hb7.block _ (lt_of_heap (unhide HX6))).trans (unhide HX6)
             have HR4 := hide ((unhide HRF2) w7 hB7).2.2.2
             have HB7 := hide hB7
             clear hb7 hB7 HR3)
          | (go_at_call 28; refine (unhide HR4).mono ?_; rintro e w8 ⟨⟨u8, rfl⟩, hb8⟩
             have hba8 : Below w7.heap.size w7 (w7.alloc (.cells #[.int .i64 9, .int .i64 0, .int .i64 0, .int .i64 0, .int .i64 0, .int .i64 0, .slice none 0 0, .int .i64 0] 72)) := (Below.refl _ w7).alloc (Nat.le_refl _) _
             have hb78 : Below w7.heap.size w7 w8 := hba8.trans (hb8.mono hba8.size)
             have hB8 : Below wr.heap.size wr w8 := (unhide HB7).trans (hb78.mono (unhide HB7).size)
             have hX8 : w8.heap[wr.heap.size]? = some (.cells #[.int .i64 mk, .int .i64 ma, .int .i64 bz] 61) := (hb78.block _ (lt_of_heap (unhide HX7))).trans (unhide HX7)
             have t0 : w8.cell? ⟨wr.heap.size, 0, none⟩ = some (.int .i64 mk) := blk_cell hX8 0
             have t1 : w8.cell? ⟨wr.heap.size, 1, none⟩ = some (.int .i64 ma) := blk_cell hX8 1
             have t2 : w8.cell? ⟨wr.heap.size, 2, none⟩ = some (.int .i64 bz) := blk_cell hX8 2
             have HC := hide ((unhide HC0) w8 hB8)
             clear hb8 hba8 hb78 hB8 hX8 HR4)
          | (go_at_call 26; refine (unhide HC).mono ?_; rintro e w9 ⟨⟨u9, rfl⟩, hS9⟩
             have HS9 := hide hS9
             clear hS9 HC))
        go_roundw
        case rel => exact ⟨k + 1, by omega, by go_num, unhide HS9⟩
        case measure => simp [intOf]; omega
      · have hem : mvB bs k m = m := by unfold mvB; rw [if_neg (fun e => hc2 ⟨by rw [hz]; exact e.1, e.2⟩)]
        by_cases hz2 : z = 2
        · have hbe : bs = [] := by
            rcases Classical.em (bs = []) with q | q
            · exact q
            · exact absurd ⟨hz2, q⟩ hc2
          have hnbz : nb = 0 := by rw [unhide HNB, hbe]; rfl
          subst hnbz
          obtain ⟨mk, hmk⟩ : ∃ mk, mk = m.kind := ⟨_, rfl⟩
          obtain ⟨ma, hma⟩ : ∃ ma, ma = m.a := ⟨_, rfl⟩
          obtain ⟨mb, hmb⟩ : ∃ mb, mb = m.b := ⟨_, rfl⟩
          have HC0 : Hid (∀ w2, Below wr.heap.size wr w2 → Calls Try.prog 26 #[.pointer (some ⟨sq, 0, none⟩), .agg #[.int .i64 mk, .int .i64 ma, .int .i64 mb], ov] w2 fun e w' => (∃ u, e = .returned u) ∧ Two W1 w' sq sp (plK d ops ms2 (k + 1)).1 (plK d ops ms2 (k + 1)).2 (plK d ops ms n).1 (plK d ops ms n).2 (.slice none 0 0) []) := fun w2 hb => by
            have := (unhide HMV) k m sp sq wr w2 (unhide HM) (unhide HS) hb
            rw [hem] at this
            try simp only at this
            rw [hmk, hma, hmb]
            exact this
          rw [← hmk] at c0 hpk
          rw [← hma] at c1
          rw [← hmb] at c2
          obtain ⟨wa, hwa⟩ : ∃ wa, wa = wr.alloc (.cells #[.int .i64 mk, .int .i64 ma, .int .i64 mb] 61) := ⟨_, rfl⟩
          have hba : Below wr.heap.size wr wa := by rw [hwa]; exact (Below.refl _ wr).alloc (Nat.le_refl _) _
          have hXa : wa.heap[wr.heap.size]? = some (.cells #[.int .i64 mk, .int .i64 ma, .int .i64 mb] 61) := by rw [hwa]; exact new_at wr _ _ rfl
          obtain ⟨r1, -, -, -⟩ := (unhide HRF2) wa hba
          have ya : wa.cell? ⟨sq, 0, none⟩ = some (.pointer (some ⟨xq, 0, none⟩)) := (hba.cell lsq).trans y0
          subst hz2
          have HWA := hide hwa
          have HBA := hide hba
          have HXA := hide hXa
          have HR1 := hide r1
          clear hwa hba hXa r1 hmk hma hmb hem hz
          go_wp2_with (first
            | (go_at_call 20; refine Calls.mono (pk_any _ _ _ _ hpk) ?_; rintro e w4 ⟨rfl, rfl⟩)
            | (rw [← unhide HWA]; go_at_call 28; refine (unhide HR1).mono ?_; rintro e w5 ⟨⟨u5, rfl⟩, hb5⟩
               have hB5 : Below wr.heap.size wr w5 := (unhide HBA).trans (hb5.mono (unhide HBA).size)
               have y5 : w5.cell? ⟨sq, 0, none⟩ = some (.pointer (some ⟨xq, 0, none⟩)) := (hB5.cell lsq).trans y0
               have HX5 : Hid (w5.heap[wr.heap.size]? = some (.cells #[.int .i64 mk, .int .i64 ma, .int .i64 mb] 61)) := (hb5.block _ (lt_of_heap (unhide HXA))).trans (unhide HXA)
               have HR2 := hide ((unhide HRF2) w5 hB5).2.1
               have HB5 := hide hB5
               clear hb5 hB5 HR1 HWA)
            | (go_at_call 29; refine (unhide HR2).mono ?_; rintro e w6 ⟨⟨u6, rfl⟩, hb6⟩
               have hB6 : Below wr.heap.size wr w6 := (unhide HB5).trans (hb6.mono (unhide HB5).size)
               have y6 : w6.cell? ⟨sq, 0, none⟩ = some (.pointer (some ⟨xq, 0, none⟩)) := (hB6.cell lsq).trans y0
               have HX6 : Hid (w6.heap[wr.heap.size]? = some (.cells #[.int .i64 mk, .int .i64 ma, .int .i64 mb] 61)) := (hb6.block _ (lt_of_heap (unhide HX5))).trans (unhide HX5)
               have HR3 := hide ((unhide HRF2) w6 hB6).2.2.1
               have HB6 := hide hB6
               clear hb6 hB6 HR2)
            | (go_at_call 30; refine (unhide HR3).mono ?_; rintro e w7 ⟨⟨u7, rfl⟩, hb7⟩
               have hB7 : Below wr.heap.size wr w7 := (unhide HB6).trans (hb7.mono (unhide HB6).size)
               have y7 : w7.cell? ⟨sq, 0, none⟩ = some (.pointer (some ⟨xq, 0, none⟩)) := (hB7.cell lsq).trans y0
               have HX7 : Hid (w7.heap[wr.heap.size]? = some (.cells #[.int .i64 mk, .int .i64 ma, .int .i64 mb] 61)) := (hb7.block _ (lt_of_heap (unhide HX6))).trans (unhide HX6)
               have HR4 := hide ((unhide HRF2) w7 hB7).2.2.2
               have HB7 := hide hB7
               clear hb7 hB7 HR3)
            | (go_at_call 28; refine (unhide HR4).mono ?_; rintro e w8 ⟨⟨u8, rfl⟩, hb8⟩
               have hba8 : Below w7.heap.size w7 (w7.alloc (.cells #[.int .i64 9, .int .i64 0, .int .i64 0, .int .i64 0, .int .i64 0, .int .i64 0, .slice none 0 0, .int .i64 0] 72)) := (Below.refl _ w7).alloc (Nat.le_refl _) _
               have hb78 : Below w7.heap.size w7 w8 := hba8.trans (hb8.mono hba8.size)
               have hB8 : Below wr.heap.size wr w8 := (unhide HB7).trans (hb78.mono (unhide HB7).size)
               have hX8 : w8.heap[wr.heap.size]? = some (.cells #[.int .i64 mk, .int .i64 ma, .int .i64 mb] 61) := (hb78.block _ (lt_of_heap (unhide HX7))).trans (unhide HX7)
               have t0 : w8.cell? ⟨wr.heap.size, 0, none⟩ = some (.int .i64 mk) := blk_cell hX8 0
               have t1 : w8.cell? ⟨wr.heap.size, 1, none⟩ = some (.int .i64 ma) := blk_cell hX8 1
               have t2 : w8.cell? ⟨wr.heap.size, 2, none⟩ = some (.int .i64 mb) := blk_cell hX8 2
               have HC := hide ((unhide HC0) w8 hB8)
               clear hb8 hba8 hb78 hB8 hX8 HR4)
            | (go_at_call 26; refine (unhide HC).mono ?_; rintro e w9 ⟨⟨u9, rfl⟩, hS9⟩
               have HS9 := hide hS9
               clear hS9 HC))
          go_roundw
          case rel => exact ⟨k + 1, by omega, by go_num, unhide HS9⟩
          case measure => simp [intOf]; omega
        · have hz3 : (z == 2) = false := by simpa using hz2
          obtain ⟨mk, hmk⟩ : ∃ mk, mk = m.kind := ⟨_, rfl⟩
          obtain ⟨ma, hma⟩ : ∃ ma, ma = m.a := ⟨_, rfl⟩
          obtain ⟨mb, hmb⟩ : ∃ mb, mb = m.b := ⟨_, rfl⟩
          have HC0 : Hid (∀ w2, Below wr.heap.size wr w2 → Calls Try.prog 26 #[.pointer (some ⟨sq, 0, none⟩), .agg #[.int .i64 mk, .int .i64 ma, .int .i64 mb], ov] w2 fun e w' => (∃ u, e = .returned u) ∧ Two W1 w' sq sp (plK d ops ms2 (k + 1)).1 (plK d ops ms2 (k + 1)).2 (plK d ops ms n).1 (plK d ops ms n).2 (.slice none 0 0) []) := fun w2 hb => by
            have := (unhide HMV) k m sp sq wr w2 (unhide HM) (unhide HS) hb
            rw [hem] at this
            try simp only at this
            rw [hmk, hma, hmb]
            exact this
          rw [← hmk] at c0 hpk
          rw [← hma] at c1
          rw [← hmb] at c2
          obtain ⟨wa, hwa⟩ : ∃ wa, wa = wr.alloc (.cells #[.int .i64 mk, .int .i64 ma, .int .i64 mb] 61) := ⟨_, rfl⟩
          have hba : Below wr.heap.size wr wa := by rw [hwa]; exact (Below.refl _ wr).alloc (Nat.le_refl _) _
          have hXa : wa.heap[wr.heap.size]? = some (.cells #[.int .i64 mk, .int .i64 ma, .int .i64 mb] 61) := by rw [hwa]; exact new_at wr _ _ rfl
          obtain ⟨r1, -, -, -⟩ := (unhide HRF2) wa hba
          have ya : wa.cell? ⟨sq, 0, none⟩ = some (.pointer (some ⟨xq, 0, none⟩)) := (hba.cell lsq).trans y0
          have HWA := hide hwa
          have HBA := hide hba
          have HXA := hide hXa
          have HR1 := hide r1
          clear hwa hba hXa r1 hmk hma hmb hem hz
          go_wp2_with (first
            | (go_at_call 20; refine Calls.mono (pk_any _ _ _ _ hpk) ?_; rintro e w4 ⟨rfl, rfl⟩)
            | (rw [← unhide HWA]; go_at_call 28; refine (unhide HR1).mono ?_; rintro e w5 ⟨⟨u5, rfl⟩, hb5⟩
               have hB5 : Below wr.heap.size wr w5 := (unhide HBA).trans (hb5.mono (unhide HBA).size)
               have y5 : w5.cell? ⟨sq, 0, none⟩ = some (.pointer (some ⟨xq, 0, none⟩)) := (hB5.cell lsq).trans y0
               have HX5 : Hid (w5.heap[wr.heap.size]? = some (.cells #[.int .i64 mk, .int .i64 ma, .int .i64 mb] 61)) := (hb5.block _ (lt_of_heap (unhide HXA))).trans (unhide HXA)
               have HR2 := hide ((unhide HRF2) w5 hB5).2.1
               have HB5 := hide hB5
               clear hb5 hB5 HR1 HWA)
            | (go_at_call 29; refine (unhide HR2).mono ?_; rintro e w6 ⟨⟨u6, rfl⟩, hb6⟩
               have hB6 : Below wr.heap.size wr w6 := (unhide HB5).trans (hb6.mono (unhide HB5).size)
               have y6 : w6.cell? ⟨sq, 0, none⟩ = some (.pointer (some ⟨xq, 0, none⟩)) := (hB6.cell lsq).trans y0
               have HX6 : Hid (w6.heap[wr.heap.size]? = some (.cells #[.int .i64 mk, .int .i64 ma, .int .i64 mb] 61)) := (hb6.block _ (lt_of_heap (unhide HX5))).trans (unhide HX5)
               have HR3 := hide ((unhide HRF2) w6 hB6).2.2.1
               have HB6 := hide hB6
               clear hb6 hB6 HR2)
            | (go_at_call 30; refine (unhide HR3).mono ?_; rintro e w7 ⟨⟨u7, rfl⟩, hb7⟩
               have hB7 : Below wr.heap.size wr w7 := (unhide HB6).trans (hb7.mono (unhide HB6).size)
               have y7 : w7.cell? ⟨sq, 0, none⟩ = some (.pointer (some ⟨xq, 0, none⟩)) := (hB7.cell lsq).trans y0
               have HX7 : Hid (w7.heap[wr.heap.size]? = some (.cells #[.int .i64 mk, .int .i64 ma, .int .i64 mb] 61)) := (hb7.block _ (lt_of_heap (unhide HX6))).trans (unhide HX6)
               have HR4 := hide ((unhide HRF2) w7 hB7).2.2.2
               have HB7 := hide hB7
               clear hb7 hB7 HR3)
            | (go_at_call 28; refine (unhide HR4).mono ?_; rintro e w8 ⟨⟨u8, rfl⟩, hb8⟩
               have hba8 : Below w7.heap.size w7 (w7.alloc (.cells #[.int .i64 9, .int .i64 0, .int .i64 0, .int .i64 0, .int .i64 0, .int .i64 0, .slice none 0 0, .int .i64 0] 72)) := (Below.refl _ w7).alloc (Nat.le_refl _) _
               have hb78 : Below w7.heap.size w7 w8 := hba8.trans (hb8.mono hba8.size)
               have hB8 : Below wr.heap.size wr w8 := (unhide HB7).trans (hb78.mono (unhide HB7).size)
               have hX8 : w8.heap[wr.heap.size]? = some (.cells #[.int .i64 mk, .int .i64 ma, .int .i64 mb] 61) := (hb78.block _ (lt_of_heap (unhide HX7))).trans (unhide HX7)
               have t0 : w8.cell? ⟨wr.heap.size, 0, none⟩ = some (.int .i64 mk) := blk_cell hX8 0
               have t1 : w8.cell? ⟨wr.heap.size, 1, none⟩ = some (.int .i64 ma) := blk_cell hX8 1
               have t2 : w8.cell? ⟨wr.heap.size, 2, none⟩ = some (.int .i64 mb) := blk_cell hX8 2
               have HC := hide ((unhide HC0) w8 hB8)
               clear hb8 hba8 hb78 hB8 hX8 HR4)
            | (go_at_call 26; refine (unhide HC).mono ?_; rintro e w9 ⟨⟨u9, rfl⟩, hS9⟩
               have HS9 := hide hS9
               clear hS9 HC))
          go_roundw
          case rel => exact ⟨k + 1, by omega, by go_num, unhide HS9⟩
          case measure => simp [intOf]; omega
    · have ek : k = n := by omega
      subst ek
      have k1 : ¬ (k : Int) < (k : Int) := by omega
      have HS := hide hS
      clear hS HMV HRF HCL HBC HPK
      have HC1 := hide ((unhide HST) sp sq wr _ _ (unhide HS).swap)
      clear HST
      go_wp2_with (first
        | (go_at_call 31; refine (unhide HC1).mono ?_; rintro e w4 ⟨rfl, hT4⟩
           have HT4 := hide hT4
           have HC2 := hide ((unhide HST2) sp sq w4 _ _ hT4.swap)
           clear hT4 HC1 HST2))
      go_wp2_with (first
        | (go_at_call 31; refine (unhide HC2).mono ?_; rintro e w5 ⟨rfl, hT5⟩
           obtain ⟨S5, hS5⟩ := hT5.swap.first
           obtain ⟨xp, y5, lsp, hf5⟩ := hS5.front2 (unhide HP1).sh
           obtain ⟨⟨p1, p2, -⟩, -⟩ := hS5.rep
           rw [unhide HCP, (unhide HDW).1] at p1
           rw [unhide HCP, (unhide HDW).2] at p2
           have HF5 := hide hf5
           have HT5 := hide hT5
           clear hS5 hf5 hT5 HC2))
      go_wp2_with (first
        | (go_at_call 32; refine (unhide HF5).mono ?_; rintro e w6 ⟨lv, rfl, hO6, hb6⟩
           obtain ⟨S6, hS6⟩ := ((unhide HT5).below hb6).first
           obtain ⟨xq, y6, lsq6, hf6⟩ := hS6.front2 (unhide HP2).sh
           rw [← (unhide HFE).1] at hf6
           have p1' : w6.cell? ⟨sp, 1, none⟩ = some (.int .i64 (dw : Int)) := (hb6.cell lsp).trans p1
           have p2' : w6.cell? ⟨sp, 2, none⟩ = some (.int .i64 (dh : Int)) := (hb6.cell lsp).trans p2
           have lsp6 : sp < w6.heap.size := Nat.lt_of_lt_of_le lsp hb6.size
           obtain ⟨lo, lc, hlv⟩ := row_slice hO6
           (try simp only [List.length_map] at hlv)
           rw [(unhide HFE).2] at hlv
           subst hlv
           have HO6 := hide hO6
           have HT6 := hide ((unhide HT5).below hb6)
           have HF6 := hide hf6
           clear hO6 hb6 hS6 hf6 HF5))
      go_wp2_with (first
        | (go_at_call 32; refine (unhide HF6).mono ?_; rintro e w7 ⟨kv, rfl, hO7, hb7⟩
           have q1 : w7.cell? ⟨sp, 1, none⟩ = some (.int .i64 (dw : Int)) := (hb7.cell lsp6).trans p1'
           have q2 : w7.cell? ⟨sp, 2, none⟩ = some (.int .i64 (dh : Int)) := (hb7.cell lsp6).trans p2'
           have hlen : ((setK (plK d ops ms k) K).1.f.b (setK (plK d ops ms k) K).1.f.front).px.length ≤ 1000 := by rw [(unhide HFE).2]; omega
           have hl7 := (ownN_rd (unhide HO6) hlen).below hb7
           have hk7 := ownN_rd hO7 hlen
           have HSM := hide (sameInts_eq _ _ _ _ _ w7 hl7 hk7 (by omega))
           have HE : Hid (Below W1.heap.size W1 w7) := (unhide HT6).bel.trans (hb7.mono (unhide HT6).bel.size)
           clear hO7 hb7 hlen hl7 hk7 HF6)
        | (go_at_call 33; refine (unhide HSM).mono ?_; rintro e w8 ⟨rfl, q, rfl⟩
           clear HSM))
      have ww : ((wh : Int) == (wh : Int)) = true := by simp
      go_quiet (fail)
      go_wp2
      go_ret
      exact ⟨rfl, (unhide HB01).trans (((unhide HE).trans ((by first | exact (below_drewN (below_drewN (Below.refl _ _) _) _) | exact (below_drewN (Below.refl _ _) _) : Below w7.heap.size w7 _).mono (unhide HE).size)).mono (unhide HB01).size)⟩
end Go.Proofs.Ytfnockbgkcgpkaa
