import Derived.Test.YtfnockbgkcgpkaaKabu
set_option linter.all false
namespace Go.Proofs.Ytfnockbgkcgpkaa
open Go.RowKit Go.Proofs.Panes
set_option maxRecDepth 100000
/-- An array of four operations. -/
def opc (o : Opn) (p : Value) : List Value := [.int .i64 o.kind, .int .i64 o.surf, .int .i64 o.x, .int .i64 o.y, .int .i64 o.w, .int .i64 o.h, p, .int .i64 o.mark]
def atc (at' : Nat → Opn) (pv : Nat → Value) : Array Value := #[.int .i64 (at' 0).kind, .int .i64 (at' 0).surf, .int .i64 (at' 0).x, .int .i64 (at' 0).y, .int .i64 (at' 0).w, .int .i64 (at' 0).h, pv 0, .int .i64 (at' 0).mark,
  .int .i64 (at' 1).kind, .int .i64 (at' 1).surf, .int .i64 (at' 1).x, .int .i64 (at' 1).y, .int .i64 (at' 1).w, .int .i64 (at' 1).h, pv 1, .int .i64 (at' 1).mark,
  .int .i64 (at' 2).kind, .int .i64 (at' 2).surf, .int .i64 (at' 2).x, .int .i64 (at' 2).y, .int .i64 (at' 2).w, .int .i64 (at' 2).h, pv 2, .int .i64 (at' 2).mark,
  .int .i64 (at' 3).kind, .int .i64 (at' 3).surf, .int .i64 (at' 3).x, .int .i64 (at' 3).y, .int .i64 (at' 3).w, .int .i64 (at' 3).h, pv 3, .int .i64 (at' 3).mark]
theorem atc_at (at' : Nat → Opn) (pv : Nat → Value) {q : Nat} (hq : q < 4) {j : Nat} (hj : j < 8) : (atc at' pv)[q * 8 + j]? = (opc (at' q) (pv q))[j]? := by
  rcases (show q = 0 ∨ q = 1 ∨ q = 2 ∨ q = 3 by omega) with rfl | rfl | rfl | rfl <;> rcases (show j = 0 ∨ j = 1 ∨ j = 2 ∨ j = 3 ∨ j = 4 ∨ j = 5 ∨ j = 6 ∨ j = 7 by omega) with rfl | rfl | rfl | rfl | rfl | rfl | rfl | rfl <;> rfl
/-- What the loop of 'shows' has found of a pixel behind k surfaces. -/
def wantK (ord : List Nat) (at' : Nat → Opn) (beh x y : Int) (k : Nat) : Int := picS ((lyL ord at').take k) beh x y
theorem wantK_succ {ord : List Nat} {at' : Nat → Opn} {beh x y : Int} {k q : Nat} (h : ord[k]? = some q) : wantK ord at' beh x y (k + 1) = if pixS (lySrf q (at' q)) x y = 0 then wantK ord at' beh x y k else pixS (lySrf q (at' q)) x y := by
  have e : (lyL ord at')[k]? = some (lySrf q (at' q)) := by unfold lyL; rw [List.getElem?_map, h]; rfl
  unfold wantK picS
  rw [List.take_add_one, e, List.foldl_append]
  rfl
section
variable {S : Nat → Prop} {w : World} {sp : Nat} {s : Scrn} {F : ShF} {n : Nat} {ord : List Nat} {at' : Nat → Opn}
theorem Shop.front3 (h : Shop S w sp s F) (hI : ShI n s F) : ∃ xp, w.cell? ⟨sp, 0, none⟩ = some (.pointer (some ⟨xp, 0, none⟩)) ∧ sp < w.heap.size ∧ Calls Try.prog 32 #[.pointer (some ⟨xp, 0, none⟩)] w (FrontPost w (s.f.b s.f.front).px) := by
  obtain ⟨a, o, xp, kb, sb, fb, cps, L, h1, h2, h3, h4⟩ := h
  exact ⟨xp, blk_cell h1.blk 0, lt_of_heap h1.blk, FrontS_any h2 hI.scr.st.fr.fr (by have := hI.scr.st.fr.wh; simp only at this; omega)⟩
theorem LyI.bounds (h : LyI n s F ord at') (hn : n ≤ 1300000) {q : Nat} (hq : q ∈ ord) : q < 4 ∧ ((0 ≤ (at' q).w ∧ (at' q).w ≤ 8) ∧ (0 ≤ (at' q).h ∧ (at' q).h ≤ 8)) ∧ ((at' q).px.length : Int) = (at' q).w * (at' q).h ∧ (-1000000000000 ≤ (at' q).x ∧ (at' q).x ≤ 1000000000000) ∧ (-1000000000000 ≤ (at' q).y ∧ (at' q).y ≤ 1000000000000) := by
  have hm : lySrf q (at' q) ∈ s.l := by rw [h.l]; exact List.mem_map.2 ⟨q, hq, rfl⟩
  have hb := h.wh.sh.scr.st.sc.sf (lySrf q (at' q)) hm
  have h1 := hb.xb
  have h2 := hb.yb
  simp only [lySrf] at h1 h2
  refine ⟨h.o4 q hq, ⟨hb.w0, hb.h0⟩, hb.px, by omega, by omega⟩
set_option maxHeartbeats 4000000 in
theorem shows_any (h : Shop S w sp s F) (hL : LyI n s F ord at') (hn : n + 22 ≤ 1300000) {U : Nat → Prop} (hU : ∀ x, U x → x < w.heap.size ∧ ¬ S x) {ov : Value} (hO : RdN U w ov (ord.map fun (i : Nat) => (i : Int))) (pv : Nat → Value) (hP : ∀ i, i < 4 → RdN U w (pv i) (at' i).px) :
    Calls Try.prog 37 #[.pointer (some ⟨sp, 0, none⟩), ov, .agg (atc at' pv)] w fun e w' => e = .returned (.bool true) ∧ ShopTo S w sp (showS s 22) (showF F 22) w' := by
  obtain ⟨W1, hW1⟩ : ∃ W1, W1 = w.alloc (.cells (atc at' pv) 77) := ⟨_, rfl⟩
  obtain ⟨bp, hbp⟩ : ∃ bp, bp = w.heap.size := ⟨_, rfl⟩
  have hb01 : Below w.heap.size w W1 := by rw [hW1]; exact (Below.refl _ w).alloc (Nat.le_refl _) _
  have hblk : W1.heap[bp]? = some (.cells (atc at' pv) 77) := by rw [hW1]; exact new_at w _ _ hbp
  obtain ⟨K, hK⟩ : ∃ K, K = 22 := ⟨_, rfl⟩
  have HS0 : Hid (ShopTo (fun x => S x ∧ x < w.heap.size) W1 sp (showS s 0) (showF F 0) W1) := by
    have e : showF F 0 = F := by unfold showF; simp
    rw [e]
    exact ShopTo.refl (h.lt.below hb01)
  have HEND : Hid (∀ W2 W3, ShopTo (fun x => S x ∧ x < w.heap.size) W1 sp (showS s K) (showF F K) W2 → Below W2.heap.size W2 W3 → ShopTo S w sp (showS s 22) (showF F 22) W3) := fun W2 W3 h2 h3 => by
    rw [hK] at h2
    have h4 := h2.below h3
    refine ⟨h4.1.wide (fun x hx => ?_), (But.of_below hb01).step h4.2 (fun x hx => .inl hx.1)⟩
    rcases hx with e | e
    · exact .inl e.1
    · exact .inr (Nat.le_trans hb01.size e)
  have HTK : Hid (∀ (k : Nat) (wr : World), k < 22 → ShopTo (fun x => S x ∧ x < w.heap.size) W1 sp (showS s k) (showF F k) wr → ∃ (xp : Nat) (t : Int), (wr.cell? ⟨sp, 0, none⟩ = some (.pointer (some ⟨xp, 0, none⟩)) ∧ sp < wr.heap.size) ∧ (0 ≤ t ∧ t ≤ 1300000) ∧
      Calls Try.prog 30 #[.pointer (some ⟨xp, 0, none⟩), .int .i64 400] wr fun e w' => ∃ r1 r2 a1 n1 c1 a2 n2 c2, e = .returned (.tuple #[.agg #[.int .i64 (t + 1), .int .i64 r1, .int .i64 r2, .slice a1 n1 c1, .slice a2 n2 c2], .int .i64 0]) ∧ (w'.cell? ⟨sp, 14, none⟩ = some (.int .i64 t) ∧ w'.frozen? ⟨sp, 14, none⟩ = false ∧ sp < w'.heap.size) ∧ (w'.setCell ⟨sp, 14, none⟩ (.int .i64 (t + 1))).cell? ⟨sp, 14, none⟩ = some (.int .i64 (t + 1)) ∧ ShopTo (fun x => S x ∧ x < w.heap.size) W1 sp (showS s (k + 1)) (showF F (k + 1)) (w'.setCell ⟨sp, 14, none⟩ (.int .i64 (t + 1)))) := fun k wr hk hS => by
    have hLk := hL.shows k (by omega)
    obtain ⟨xp, x0, lsp, hc⟩ := hS.1.showTick hLk.wh.sh (by omega)
    have ht := hLk.wh.sh.t
    refine ⟨xp, (showS s k).t, ⟨x0, lsp⟩, ⟨ht.1, by omega⟩, hc.mono ?_⟩
    rintro e w' ⟨r1, r2, a1, n1, c1, a2, n2, c2, rfl, hT⟩
    have hT2 := hS.then hT
    obtain ⟨c14, f14, -⟩ := hT2.1.cell14
    have etk : (showF F k).ticks = (showS s k).t := hLk.wh.sh.ticks
    rw [etk] at c14
    refine ⟨r1, r2, a1, n1, c1, a2, n2, c2, rfl, ⟨c14, f14, (hT2.1.rep).2.2.2.2⟩, ?_⟩
    have hT3 := hT2.ticks ((showS s k).t + 1)
    refine ⟨(hT3.1.cell14).1, ?_⟩
    have e2 : ({ showF F k with ticks := (showS s k).t + 1 } : ShF) = showF F (k + 1) := by
      rw [← etk]
      unfold showF
      simp only [ShF.mk.injEq, true_and, and_true]
      omega
    rw [e2] at hT3
    exact hT3
  have hcfg := cfgB hL.wh.sh.scr.cfg
  obtain ⟨dw, hdw⟩ : ∃ dw : Nat, s.c.w = (dw : Int) := ⟨s.c.w.toNat, by have := hcfg.w; omega⟩
  obtain ⟨dh, hdh⟩ : ∃ dh : Nat, s.c.h = (dh : Int) := ⟨s.c.h.toNat, by have := hcfg.h; omega⟩
  have hw16 : 1 ≤ dw ∧ dw ≤ 16 := by have := hcfg.w; omega
  have hh16 : 1 ≤ dh ∧ dh ≤ 16 := by have := hcfg.h; omega
  obtain ⟨N, hN⟩ : ∃ N, N = dw * dh := ⟨_, rfl⟩
  have hN9 : N ≤ 256 := by rw [hN]; exact Nat.mul_le_mul hw16.2 hh16.2
  obtain ⟨beh, hbeh⟩ : ∃ beh, beh = s.c.behind := ⟨_, rfl⟩
  obtain ⟨m, hm⟩ : ∃ m, m = ord.length := ⟨_, rfl⟩
  have eN : IntKind.i64.wrap ((dw : Int) * (dh : Int)) = (N : Int) := by
    rw [show (dw : Int) * (dh : Int) = (N : Int) from by rw [hN, Int.natCast_mul], IntKind.wrap_i64]; omega
  have hm9 : m ≤ 4 := by
    rw [hm]
    exact nodup_lt 4 ord hL.od hL.o4
  obtain ⟨oo, oc, rfl, -, -, hov⟩ := hO
  rw [List.length_map, ← hm]
  have HFR : Hid (∀ wr, ShopTo (fun x => S x ∧ x < w.heap.size) W1 sp (showS s K) (showF F K) wr → ∃ xp, (wr.cell? ⟨sp, 0, none⟩ = some (.pointer (some ⟨xp, 0, none⟩)) ∧ sp < wr.heap.size) ∧ Calls Try.prog 32 #[.pointer (some ⟨xp, 0, none⟩)] wr fun e w' => ∃ lb lo lc, e = .returned (.slice (some ⟨lb, lo, none⟩) N lc) ∧ lb < w'.heap.size ∧ Below wr.heap.size wr w' ∧ ∀ i, i < N → w'.cell? ⟨lb, lo + i, none⟩ = some (.int .i64 (wantK ord at' beh ((i % dw : Nat) : Int) ((i / dw : Nat) : Int) m))) := fun wr hS => by
    obtain ⟨xp, x0, lsp, hc⟩ := hS.1.front3 (hL.shows K (by omega)).wh.sh
    refine ⟨xp, ⟨x0, lsp⟩, hc.mono ?_⟩
    rintro e w' ⟨fv, rfl, hO, hb⟩
    have hpx := hL.front (k := K) (by omega) (by omega)
    rw [hpx] at hO
    have hlen : ((List.range (s.c.w.toNat * s.c.h.toNat)).map (picP (lyL ord at') s.c.behind s.c.w.toNat)).length = N := by
      rw [List.length_map, List.length_range, hdw, hdh, Int.toNat_natCast, Int.toNat_natCast, hN]
    obtain ⟨ao, cap, e1, -, -, hcell⟩ := OwnN.rd hO
    rw [hlen] at e1
    obtain ⟨lb, lo, rfl, -, hlt, hcc⟩ := hcell (fun e => by
      rw [e] at hlen
      have : 0 < N := by rw [hN]; exact Nat.mul_pos (by omega) (by omega)
      simp at hlen
      omega)
    refine ⟨lb, lo, cap, by rw [e1], hlt, hb, fun i hi => ?_⟩
    refine hcc i _ ?_
    rw [List.getElem?_map, List.getElem?_range (by rw [hdw, hdh, Int.toNat_natCast, Int.toNat_natCast, ← hN]; exact hi)]
    show some (picP (lyL ord at') s.c.behind s.c.w.toNat i) = _
    unfold picP wantK
    have : (lyL ord at').take m = lyL ord at' := List.take_of_length_le (by unfold lyL; rw [List.length_map, hm]; exact Nat.le_refl _)
    rw [this, hdw, Int.toNat_natCast, hbeh]
  have HRP : Hid (∀ wr, ShopTo (fun x => S x ∧ x < w.heap.size) W1 sp (showS s K) (showF F K) wr → wr.cell? ⟨sp, 1, none⟩ = some (.int .i64 (dw : Int)) ∧ wr.cell? ⟨sp, 2, none⟩ = some (.int .i64 (dh : Int)) ∧ wr.cell? ⟨sp, 15, none⟩ = some (.bool true) ∧ wr.cell? ⟨sp, 8, none⟩ = some (.int .i64 beh) ∧ sp < wr.heap.size) := fun wr hS => by
    obtain ⟨⟨x1, x2, -⟩, x15, -, -, lsp⟩ := hS.1.rep
    obtain ⟨-, -, x8⟩ := hS.1.cell14
    have ec : (showF F K).c = s.c := hL.wh.sh.c
    rw [ec, hdw] at x1
    rw [ec, hdh] at x2
    rw [ec, ← hbeh] at x8
    exact ⟨x1, x2, x15, x8, lsp⟩
  have HGD : Hid (∀ wr, ShopTo (fun x => S x ∧ x < w.heap.size) W1 sp (showS s K) (showF F K) wr → bp < wr.heap.size ∧ ∀ (k q : Nat), ord[k]? = some q → q < 4 ∧ (∃ ob oof, oo = some ⟨ob, oof, none⟩ ∧ ob < wr.heap.size ∧ wr.cell? ⟨ob, oof + k, none⟩ = some (.int .i64 (q : Int))) ∧ (∀ j, j < 8 → wr.cell? ⟨bp, q * 8 + j, none⟩ = (opc (at' q) (pv q))[j]?) ∧ RdN U wr (pv q) (at' q).px) := fun wr hS => by
    have hbt : But (fun x => S x ∧ x < w.heap.size) w wr := (But.of_below hb01).trans hS.2
    refine ⟨Nat.lt_of_lt_of_le (lt_of_heap hblk) hS.2.size, fun k q hq => ?_⟩
    have hq4 := hL.o4 q (List.mem_of_getElem? hq)
    refine ⟨hq4, ?_, fun j hj => ?_, (hP q hq4).but hbt (fun x hx e => (hU x hx).2 e.1)⟩
    · obtain ⟨ob, oof, e, hu, hlt, hc⟩ := hov (fun e => by
        have : ord = [] := by simpa using e
        rw [this] at hq; simp at hq)
      refine ⟨ob, oof, e, Nat.lt_of_lt_of_le hlt hbt.size, ?_⟩
      rw [World.cell?_of_block (hbt.block ob hlt (fun e => (hU ob hu).2 e.1))]
      exact hc k q (by rw [List.getElem?_map, hq]; rfl)
    · have hl := lt_of_heap hblk
      rw [World.cell?_of_block (hS.2.block bp hl (fun e => by rw [hbp] at e; exact absurd e.2 (Nat.lt_irrefl _)))]
      rw [← atc_at at' pv hq4 hj]
      exact blk_cell hblk _
  have HBD : Hid (∀ q, q ∈ ord → q < 4 ∧ ((0 ≤ (at' q).w ∧ (at' q).w ≤ 8) ∧ (0 ≤ (at' q).h ∧ (at' q).h ≤ 8)) ∧ ((at' q).px.length : Int) = (at' q).w * (at' q).h ∧ (-1000000000000 ≤ (at' q).x ∧ (at' q).x ≤ 1000000000000) ∧ (-1000000000000 ≤ (at' q).y ∧ (at' q).y ≤ 1000000000000)) := fun q hq => hL.bounds (by omega) hq
  have HW1 := hide hW1
  have HM := hide hm
  have HBP := hide hbp
  have hK2 : (K : Int) = 22 := by omega
  have hK3 := hK
  clear hb01 hblk hK hcfg hdw hdh hN hbeh hm hov hW1 hbp h hL hn hU hP
  unfold atc at HW1 ⊢
  go_enter Try.func37, Try.ntmps37
  go_wp2
  rw [← unhide HW1, ← unhide HBP]
  go_loopw [7] (fun x wr => ∃ k : Nat, k ≤ K ∧ x = .int .i64 k ∧ ShopTo (fun x => S x ∧ x < w.heap.size) W1 sp (showS s k) (showF F k) wr) (fun x _ => K - (intOf x).toNat)
  case atStart => exact ⟨0, Nat.zero_le _, rfl, unhide HS0⟩
  case round =>
    clear HS0
    obtain ⟨k, hk, rfl, hS⟩ := hrel
    by_cases hlt : k < K
    · obtain ⟨xp, t, ⟨x0, lsp⟩, ht, hC⟩ := (unhide HTK) k wr (by omega) hS
      have k1 : (k : Int) < 22 := by omega
      have HC := hide hC
      clear hC hS
      have et : IntKind.i64.wrap (t + 1) = t + 1 := by rw [IntKind.wrap_i64]; omega
      have tt : ((t + 1) != (t + 1)) = false := by simp
      go_wp2_with (go_at_call 30; refine (unhide HC).mono ?_; rintro e w3 ⟨r1, r2, a1, n1, c1, a2, n2, c2, rfl, ⟨c14, f14, l3⟩, d14, hS3⟩
                   have HS3 := hide hS3
                   have hb3 : Below w3.heap.size w3 (w3.alloc (.cells #[.int .i64 (t + 1), .int .i64 r1, .int .i64 r2, .slice a1 n1 c1, .slice a2 n2 c2] 55)) := (Below.refl _ w3).alloc (Nat.le_refl _) _
                   have a14 : (w3.alloc (.cells #[.int .i64 (t + 1), .int .i64 r1, .int .i64 r2, .slice a1 n1 c1, .slice a2 n2 c2] 55)).cell? ⟨sp, 14, none⟩ = some (.int .i64 t) := (hb3.cell l3).trans c14
                   clear hS3 HC)
      have lsz : (w3.setCell ⟨sp, 14, none⟩ (.int .i64 (t + 1))).heap.size = w3.heap.size := by simp
      have hb4 : Below w3.heap.size (w3.setCell ⟨sp, 14, none⟩ (.int .i64 (t + 1))) ((w3.setCell ⟨sp, 14, none⟩ (.int .i64 (t + 1))).alloc (.cells #[.int .i64 (t + 1), .int .i64 r1, .int .i64 r2, .slice a1 n1 c1, .slice a2 n2 c2] 55)) := by
        have := (Below.refl (w3.setCell ⟨sp, 14, none⟩ (.int .i64 (t + 1))).heap.size (w3.setCell ⟨sp, 14, none⟩ (.int .i64 (t + 1)))).alloc (Nat.le_refl _) (.cells #[.int .i64 (t + 1), .int .i64 r1, .int .i64 r2, .slice a1 n1 c1, .slice a2 n2 c2] 55)
        rw [lsz] at this
        exact this
      have y14 := (hb4.cell l3).trans d14
      have y0 : ((w3.setCell ⟨sp, 14, none⟩ (.int .i64 (t + 1))).alloc (.cells #[.int .i64 (t + 1), .int .i64 r1, .int .i64 r2, .slice a1 n1 c1, .slice a2 n2 c2] 55)).cell? ⟨w3.heap.size, 0, none⟩ = some (.int .i64 (t + 1)) := blk_cell (new_at _ _ _ lsz.symm) 0
      have HS4 : Hid (ShopTo (fun x => S x ∧ x < w.heap.size) W1 sp (showS s (k + 1)) (showF F (k + 1)) ((w3.setCell ⟨sp, 14, none⟩ (.int .i64 (t + 1))).alloc (.cells #[.int .i64 (t + 1), .int .i64 r1, .int .i64 r2, .slice a1 n1 c1, .slice a2 n2 c2] 55))) := (unhide HS3).below (by rw [lsz]; exact hb4)
      clear hb3 a14 c14 f14 d14 hb4 lsz HS3 x0 lsp
      generalize (w3.setCell ⟨sp, 14, none⟩ (.int .i64 (t + 1))).alloc (.cells #[.int .i64 (t + 1), .int .i64 r1, .int .i64 r2, .slice a1 n1 c1, .slice a2 n2 c2] 55) = W4 at y14 y0 HS4 ⊢
      go_quiet (fail)
      go_wp2
      go_roundw
      case rel => exact ⟨k + 1, by omega, by go_num, (unhide HS4).below (below_drewN (Below.refl _ _) _)⟩
      case measure => simp [intOf]; omega
    · have ek : k = K := by omega
      subst ek
      have k1 : ¬ (k : Int) < 22 := by omega
      obtain ⟨xp, ⟨x0, lsp⟩, hC⟩ := (unhide HFR) wr hS
      obtain ⟨y1, y2, y15, y8, -⟩ := (unhide HRP) wr hS
      have HC := hide hC
      have HS := hide hS
      have NN : ((N : Int) != (N : Int)) = false := by simp
      clear hC hS
      go_wp2_with (go_at_call 32; refine (unhide HC).mono ?_; rintro e w3 ⟨lb, lo, lc, rfl, hlb, hb, hcl⟩
                   have HCL := hide hcl
                   have HB := hide hb
                   have z1 := (hb.cell lsp).trans y1
                   have z2 := (hb.cell lsp).trans y2
                   have z15 := (hb.cell lsp).trans y15
                   have z8 := (hb.cell lsp).trans y8
                   have lsp3 := Nat.lt_of_lt_of_le lsp hb.size
                   clear hcl hb HC)
      clear x0 y1 y2 y15 y8
      go_quiet (fail)
      go_wp2
      have hb6 : Below w3.heap.size w3 (w3.drewN nq) := below_drewN (Below.refl _ _) nq
      have HS6 : Hid (ShopTo (fun x => S x ∧ x < w.heap.size) W1 sp (showS s k) (showF F k) (w3.drewN nq)) := ((unhide HS).below (unhide HB)).below hb6
      have HG6 := hide ((unhide HGD) _ (unhide HS6))
      have HC6 : Hid (∀ i, i < N → (w3.drewN nq).cell? ⟨lb, lo + i, none⟩ = some (.int .i64 (wantK ord at' beh ((i % dw : Nat) : Int) ((i / dw : Nat) : Int) m))) := fun i hi => (hb6.cell hlb).trans ((unhide HCL) i hi)
      have v1 := (hb6.cell lsp3).trans z1
      have v8 := (hb6.cell lsp3).trans z8
      have hlb6 : lb < (w3.drewN nq).heap.size := hlb
      have lsp6 : sp < (w3.drewN nq).heap.size := lsp3
      clear hb6 HS HB HCL z1 z2 z15 z8 hlb lsp3 lsp HGD HFR HRP HTK eN
      generalize w3.drewN nq = W6 at HS6 HG6 HC6 v1 v8 hlb6 lsp6 ⊢
      go_loopw [11] (fun x wr => ∃ i : Nat, i ≤ N ∧ x = .int .i64 i ∧ Below W6.heap.size W6 wr) (fun x _ => N - (intOf x).toNat)
      case atStart => exact ⟨0, Nat.zero_le _, rfl, Below.refl _ _⟩
      case round =>
        obtain ⟨i, hi, rfl, hbw⟩ := hrel
        by_cases hiN : i < N
        · have i0 : (0 : Int) ≤ (i : Int) := by omega
          have i1 : (i : Int) < (N : Int) := by omega
          obtain ⟨xi, hxi⟩ : ∃ xi : Nat, xi = i % dw := ⟨_, rfl⟩
          obtain ⟨yi, hyi⟩ : ∃ yi : Nat, yi = i / dw := ⟨_, rfl⟩
          have qm : (i : Int).tmod (dw : Int) = (xi : Int) := by rw [hxi]; exact (Int.ofNat_tmod i dw).symm
          have qd : (i : Int).tdiv (dw : Int) = (yi : Int) := by rw [hyi]; exact (Int.ofNat_tdiv i dw).symm
          have hxi9 : xi ≤ 1000 := by have : i % dw ≤ i := Nat.mod_le _ _; omega
          have hyi9 : yi ≤ 1000 := by have : i / dw ≤ i := Nat.div_le_self _ _; omega
          have x8 := (hbw.cell lsp6).trans v8
          have HCI : Hid (∀ wq, Below W6.heap.size W6 wq → wq.cell? ⟨lb, lo + i, none⟩ = some (.int .i64 (wantK ord at' beh (xi : Int) (yi : Int) m))) := fun wq hq => by
            rw [hxi, hyi]; exact (hq.cell hlb6).trans ((unhide HC6) i hiN)
          have w0 : wantK ord at' beh (xi : Int) (yi : Int) 0 = beh := rfl
          have HBW := hide hbw
          clear hxi hyi hbw
          go_wp2
          go_loopw [12, 13] (fun x y wr => ∃ j : Nat, j ≤ m ∧ x = .int .i64 (wantK ord at' beh (xi : Int) (yi : Int) j) ∧ y = .int .i64 j ∧ Below W6.heap.size W6 wr) (fun _ y _ => m - (intOf y).toNat)
          case atStart => exact ⟨0, Nat.zero_le _, by rw [w0], rfl, unhide HBW⟩
          case round =>
            clear HBW x8
            obtain ⟨j, hj, rfl, rfl, hbw⟩ := hrel
            by_cases hjm : j < m
            · obtain ⟨q, hq⟩ : ∃ q, ord[j]? = some q := ⟨ord[j]'(by have := unhide HM; omega), by simp⟩
              obtain ⟨hbp6, hgd⟩ := unhide HG6
              obtain ⟨hq4, ⟨ob, oof, rfl, hob, co⟩, hat, hpx⟩ := hgd j q hq
              obtain ⟨-, ⟨⟨bw0, bw8⟩, ⟨bh0, bh8⟩⟩, hpl, hbx, hby⟩ := (unhide HBD) q (List.mem_of_getElem? hq)
              have hwk := wantK_succ (at' := at') (beh := beh) (x := (xi : Int)) (y := (yi : Int)) hq
              obtain ⟨po, pc, hpv, -, -, hpc⟩ := hpx
              have j0 : (0 : Int) ≤ (j : Int) := by omega
              have j1 : (j : Int) < (m : Int) := by omega
              have q0 : (0 : Int) ≤ (q : Int) := by omega
              have q1 : (q : Int) < 4 := by omega
              have co' := (hbw.cell hob).trans co
              have hat' : ∀ j, j < 8 → wr.cell? ⟨bp, q * 8 + j, none⟩ = (opc (at' q) (pv q))[j]? := fun j hj => (hbw.cell hbp6).trans (hat j hj)
              have d0 := hat' 0 (by omega)
              have d1 := hat' 1 (by omega)
              have d2 := hat' 2 (by omega)
              have d3 := hat' 3 (by omega)
              have d4 := hat' 4 (by omega)
              have d5 := hat' 5 (by omega)
              have d6 := hat' 6 (by omega)
              have d7 := hat' 7 (by omega)
              rw [hpv] at d6
              simp only [opc, List.getElem?_cons_zero, List.getElem?_cons_succ, Nat.add_zero] at d0 d1 d2 d3 d4 d5 d6 d7
              have x1 := (hbw.cell lsp6).trans v1
              have lspw := Nat.lt_of_lt_of_le lsp6 hbw.size
              have HPC : Hid (∀ z (jj : Nat), (at' q).px[jj]? = some z → ∃ pb pf, po = some ⟨pb, pf, none⟩ ∧ pb < W6.heap.size ∧ W6.cell? ⟨pb, pf + jj, none⟩ = some (.int .i64 z)) := fun z jj hz => by
                obtain ⟨pb, pf, e, -, hlt, hc⟩ := hpc (fun e => by rw [e] at hz; simp at hz)
                exact ⟨pb, pf, e, hlt, hc jj z hz⟩
              have HBW := hide hbw
              clear hat hat' hpc hgd co hbw hpv
              obtain ⟨ox, hox⟩ : ∃ ox, ox = (at' q).x := ⟨_, rfl⟩
              obtain ⟨oy, hoy⟩ : ∃ oy, oy = (at' q).y := ⟨_, rfl⟩
              obtain ⟨ow, how⟩ : ∃ ow, ow = (at' q).w := ⟨_, rfl⟩
              obtain ⟨oh, hoh⟩ : ∃ oh, oh = (at' q).h := ⟨_, rfl⟩
              obtain ⟨ok, hok⟩ : ∃ ok, ok = (at' q).kind := ⟨_, rfl⟩
              obtain ⟨os, hos⟩ : ∃ os, os = (at' q).surf := ⟨_, rfl⟩
              obtain ⟨om, hom⟩ : ∃ om, om = (at' q).mark := ⟨_, rfl⟩
              obtain ⟨pl, hpll⟩ : ∃ pl, pl = (at' q).px.length := ⟨_, rfl⟩
              rw [← hox] at d2 hbx
              rw [← hoy] at d3 hby
              rw [← how] at d4 bw0 bw8 hpl
              rw [← hoh] at d5 bh0 bh8 hpl
              rw [← hok] at d0
              rw [← hos] at d1
              rw [← hom] at d7
              rw [← hpll] at d6 hpl
              obtain ⟨xx, hxx⟩ : ∃ xx : Int, xx = (xi : Int) - ox := ⟨_, rfl⟩
              obtain ⟨yy, hyy⟩ : ∃ yy : Int, yy = (yi : Int) - oy := ⟨_, rfl⟩
              have e1 : IntKind.i64.wrap ((xi : Int) - ox) = xx := by rw [IntKind.wrap_i64]; omega
              have e2 : IntKind.i64.wrap ((yi : Int) - oy) = yy := by rw [IntKind.wrap_i64]; omega
              have HPX : Hid (pixS (lySrf q (at' q)) (xi : Int) (yi : Int) = if (0 ≤ xx ∧ 0 ≤ yy ∧ xx < ow ∧ yy < oh) then (at' q).px.getD (yy * ow + xx).toNat 0 else 0) := by
                show pixS (lySrf q (at' q)) (xi : Int) (yi : Int) = _
                unfold pixS covS lySrf
                simp only [Bool.and_eq_true, decide_eq_true_eq]
                rw [← hox, ← hoy, ← how, ← hoh, ← hxx, ← hyy]
                by_cases hc : 0 ≤ xx ∧ 0 ≤ yy ∧ xx < ow ∧ yy < oh
                · rw [if_pos hc, if_pos (by omega)]
                · rw [if_neg hc, if_neg (by omega)]
              have hba : Below wr.heap.size wr (wr.alloc (.cells #[.int .i64 ok, .int .i64 os, .int .i64 ox, .int .i64 oy, .int .i64 ow, .int .i64 oh, .slice po pl pc, .int .i64 om] 72)) := (Below.refl _ wr).alloc (Nat.le_refl _) _
              have hba1 := (hba.cell lspw).trans x1
              have HBA : Hid (Below W6.heap.size W6 (wr.alloc (.cells #[.int .i64 ok, .int .i64 os, .int .i64 ox, .int .i64 oy, .int .i64 ow, .int .i64 oh, .slice po pl pc, .int .i64 om] 72))) := (unhide HBW).trans (hba.mono (unhide HBW).size)
              have hnb : (wr.alloc (.cells #[.int .i64 ok, .int .i64 os, .int .i64 ox, .int .i64 oy, .int .i64 ow, .int .i64 oh, .slice po pl pc, .int .i64 om] 72)).heap[wr.heap.size]? = some (.cells #[.int .i64 ok, .int .i64 os, .int .i64 ox, .int .i64 oy, .int .i64 ow, .int .i64 oh, .slice po pl pc, .int .i64 om] 72) := new_at wr _ _ rfl
              have n2 : (wr.alloc (.cells #[.int .i64 ok, .int .i64 os, .int .i64 ox, .int .i64 oy, .int .i64 ow, .int .i64 oh, .slice po pl pc, .int .i64 om] 72)).cell? ⟨wr.heap.size, 2, none⟩ = some (.int .i64 ox) := blk_cell hnb 2
              have n3 : (wr.alloc (.cells #[.int .i64 ok, .int .i64 os, .int .i64 ox, .int .i64 oy, .int .i64 ow, .int .i64 oh, .slice po pl pc, .int .i64 om] 72)).cell? ⟨wr.heap.size, 3, none⟩ = some (.int .i64 oy) := blk_cell hnb 3
              have n4 : (wr.alloc (.cells #[.int .i64 ok, .int .i64 os, .int .i64 ox, .int .i64 oy, .int .i64 ow, .int .i64 oh, .slice po pl pc, .int .i64 om] 72)).cell? ⟨wr.heap.size, 4, none⟩ = some (.int .i64 ow) := blk_cell hnb 4
              have n5 : (wr.alloc (.cells #[.int .i64 ok, .int .i64 os, .int .i64 ox, .int .i64 oy, .int .i64 ow, .int .i64 oh, .slice po pl pc, .int .i64 om] 72)).cell? ⟨wr.heap.size, 5, none⟩ = some (.int .i64 oh) := blk_cell hnb 5
              have n6 : (wr.alloc (.cells #[.int .i64 ok, .int .i64 os, .int .i64 ox, .int .i64 oy, .int .i64 ow, .int .i64 oh, .slice po pl pc, .int .i64 om] 72)).cell? ⟨wr.heap.size, 6, none⟩ = some (.slice po pl pc) := blk_cell hnb 6
              have dw0 : ¬ (dw : Int) = 0 := by omega
              have dw1 : ((dw : Int) == 0) = false := by simpa using dw0
              have HWK := hide hwk
              have HPLL := hide hpll
              have dwn : ¬ dw = 0 := by omega
              clear hpll hox hoy how hoh hok hos hom hwk hq
              go_wp2
              clear d0 d1 d2 d3 d4 d5 d6 d7 co' hba hnb HBW hbp6 hob
              generalize wr.alloc (.cells #[.int .i64 ok, .int .i64 os, .int .i64 ox, .int .i64 oy, .int .i64 ow, .int .i64 oh, .slice po pl pc, .int .i64 om] 72) = W7 at hba1 HBA n2 n3 n4 n5 n6 ⊢
              generalize wr.heap.size = hz at n2 n3 n4 n5 n6 ⊢
              by_cases p1 : 0 ≤ xx
              · by_cases p2 : 0 ≤ yy
                · by_cases p3 : xx < ow
                  · by_cases p4 : yy < oh
                    · obtain ⟨m1, m2, m3, m4⟩ := mul8 p2 p4 p1 p3 bh8 bw8
                      obtain ⟨jj, hjj⟩ : ∃ jj : Nat, yy * ow + xx = jj := ⟨(yy * ow + xx).toNat, by omega⟩
                      obtain ⟨yw, hyw⟩ : ∃ yw : Int, yw = yy * ow := ⟨_, rfl⟩
                      have e3 : IntKind.i64.wrap (yy * ow) = yw := by rw [IntKind.wrap_i64]; omega
                      have e4 : IntKind.i64.wrap (yw + xx) = (jj : Int) := by rw [IntKind.wrap_i64]; omega
                      have hjl : jj < pl := by omega
                      obtain ⟨z, hz'⟩ : ∃ z, (at' q).px[jj]? = some z := ⟨(at' q).px[jj]'(by have := unhide HPLL; omega), by simp⟩
                      obtain ⟨pb, pf, rfl, hpb, cz0⟩ := (unhide HPC) z jj hz'
                      have cz := ((unhide HBA).cell hpb).trans cz0
                      have g0 : (0 : Int) ≤ (jj : Int) := by omega
                      have g1 : (jj : Int) < (pl : Int) := by omega
                      have HZ : Hid (pixS (lySrf q (at' q)) (xi : Int) (yi : Int) = z) := by
                        show pixS (lySrf q (at' q)) (xi : Int) (yi : Int) = z
                        rw [unhide HPX, if_pos ⟨p1, p2, p3, p4⟩, hjj, Int.toNat_natCast, List.getD_eq_getElem?_getD, hz']; rfl
                      clear m1 m2 m3 m4 hjj hyw hjl hz' hpb cz0 hpl bw0 bw8 bh0 bh8 hbx hby hxx hyy
                      by_cases pz : z = 0
                      · have HWK2 : Hid (wantK ord at' beh (xi : Int) (yi : Int) (j + 1) = wantK ord at' beh (xi : Int) (yi : Int) j) := by
                          show wantK ord at' beh (xi : Int) (yi : Int) (j + 1) = _
                          rw [unhide HWK, unhide HZ, if_pos pz]
                        have pz' : (z != 0) = false := by simpa using pz
                        go_quiet (fail)
                        go_wp2
                        go_quiet (fail)
                        go_wp2
                        go_roundw
                        case rel => exact ⟨j + 1, by omega, by rw [unhide HWK2], by go_num, below_drewN (unhide HBA) _⟩
                        case measure => simp [intOf]; omega
                      · have HWK2 : Hid (wantK ord at' beh (xi : Int) (yi : Int) (j + 1) = z) := by
                          show wantK ord at' beh (xi : Int) (yi : Int) (j + 1) = _
                          rw [unhide HWK, unhide HZ, if_neg pz]
                        have pz' : (z != 0) = true := by simpa using pz
                        go_quiet (fail)
                        go_wp2
                        go_quiet (fail)
                        go_wp2
                        go_roundw
                        case rel => exact ⟨j + 1, by omega, by rw [unhide HWK2], by go_num, below_drewN (unhide HBA) _⟩
                        case measure => simp [intOf]; omega
                    · have HWK2 : Hid (wantK ord at' beh (xi : Int) (yi : Int) (j + 1) = wantK ord at' beh (xi : Int) (yi : Int) j) := by
                        show wantK ord at' beh (xi : Int) (yi : Int) (j + 1) = _
                        rw [unhide HWK, unhide HPX, if_neg (show ¬ (0 ≤ xx ∧ 0 ≤ yy ∧ xx < ow ∧ yy < oh) by omega), if_pos rfl]
                      clear hpl bw0 bw8 bh0 bh8 hbx hby hxx hyy
                      go_quiet (fail)
                      go_wp2
                      go_quiet (fail)
                      go_wp2
                      go_roundw
                      case rel => exact ⟨j + 1, by omega, by rw [unhide HWK2], by go_num, below_drewN (unhide HBA) _⟩
                      case measure => simp [intOf]; omega
                  · have HWK2 : Hid (wantK ord at' beh (xi : Int) (yi : Int) (j + 1) = wantK ord at' beh (xi : Int) (yi : Int) j) := by
                      show wantK ord at' beh (xi : Int) (yi : Int) (j + 1) = _
                      rw [unhide HWK, unhide HPX, if_neg (show ¬ (0 ≤ xx ∧ 0 ≤ yy ∧ xx < ow ∧ yy < oh) by omega), if_pos rfl]
                    clear hpl bw0 bw8 bh0 bh8 hbx hby hxx hyy
                    go_quiet (fail)
                    go_wp2
                    go_quiet (fail)
                    go_wp2
                    go_roundw
                    case rel => exact ⟨j + 1, by omega, by rw [unhide HWK2], by go_num, below_drewN (unhide HBA) _⟩
                    case measure => simp [intOf]; omega
                · have HWK2 : Hid (wantK ord at' beh (xi : Int) (yi : Int) (j + 1) = wantK ord at' beh (xi : Int) (yi : Int) j) := by
                    show wantK ord at' beh (xi : Int) (yi : Int) (j + 1) = _
                    rw [unhide HWK, unhide HPX, if_neg (show ¬ (0 ≤ xx ∧ 0 ≤ yy ∧ xx < ow ∧ yy < oh) by omega), if_pos rfl]
                  clear hpl bw0 bw8 bh0 bh8 hbx hby hxx hyy
                  go_quiet (fail)
                  go_wp2
                  go_quiet (fail)
                  go_wp2
                  go_roundw
                  case rel => exact ⟨j + 1, by omega, by rw [unhide HWK2], by go_num, below_drewN (unhide HBA) _⟩
                  case measure => simp [intOf]; omega
              · have HWK2 : Hid (wantK ord at' beh (xi : Int) (yi : Int) (j + 1) = wantK ord at' beh (xi : Int) (yi : Int) j) := by
                  show wantK ord at' beh (xi : Int) (yi : Int) (j + 1) = _
                  rw [unhide HWK, unhide HPX, if_neg (show ¬ (0 ≤ xx ∧ 0 ≤ yy ∧ xx < ow ∧ yy < oh) by omega), if_pos rfl]
                clear hpl bw0 bw8 bh0 bh8 hbx hby hxx hyy
                go_quiet (fail)
                go_wp2
                go_quiet (fail)
                go_wp2
                go_roundw
                case rel => exact ⟨j + 1, by omega, by rw [unhide HWK2], by go_num, below_drewN (unhide HBA) _⟩
                case measure => simp [intOf]; omega
            · have ej : j = m := by omega
              subst ej
              have j1 : ¬ (j : Int) < (j : Int) := by omega
              have cl := (unhide HCI) wr hbw
              have HBW := hide hbw
              have ww : (wantK ord at' beh (xi : Int) (yi : Int) j != wantK ord at' beh (xi : Int) (yi : Int) j) = false := by simp
              clear hbw
              generalize wantK ord at' beh (xi : Int) (yi : Int) j = wv at cl ww ⊢
              go_wp2
              go_roundw
              case rel => exact ⟨i + 1, by omega, by go_num, unhide HBW⟩
              case measure => simp [intOf]; omega
        · have ei : i = N := by omega
          subst ei
          have i1 : ¬ (i : Int) < (i : Int) := by omega
          have HBW := hide hbw
          clear hbw
          go_wp2
          go_ret
          exact ⟨rfl, (unhide HEND) W6 wr (unhide HS6) (unhide HBW)⟩
end
end Go.Proofs.Ytfnockbgkcgpkaa
