import Derived.Test.YtfnockbgkcgpkaaKabr
import Derived.BigQuiet
import Derived.Deep.CutBlock
import Derived.Deep.CutRange
import Derived.Deep.RegionHeld3
set_option linter.all false
namespace Go.Proofs.Ytfnockbgkcgpkaa
open Go.RowKit Go.Proofs.Panes
set_option maxRecDepth 100000
theorem mv_c (ops : List (List Opn)) (m : Mv) (st : Scrn × ShF) : (mv ops m st).2.c = st.2.c := by
  unfold mv
  split
  · unfold subAll
    split <;> rfl
  · split
    · rfl
    · split
      · simp only
        unfold cameF
        split <;> rfl
      · rfl
theorem plK_c {c : Cfg} {ops : List (List Opn)} {ms : List Mv} : ∀ k, k ≤ ms.length → (plK c ops ms k).2.c = c
  | 0, _ => rfl
  | k + 1, hk => by
    obtain ⟨m, hm⟩ : ∃ m, ms[k]? = some m := ⟨ms[k], by simp⟩
    rw [plK_succ hm, mv_c]
    exact plK_c k (by omega)
theorem fa_start {w1 w2 w3 : World} {sp : Nat} {s : Scrn} {F : ShF} (h12 : Below w1.heap.size w1 w2) (h23 : Below w2.heap.size w2 w3) (hp : Shop (fun x => w2.heap.size ≤ x) w3 sp s F) :
    FaS w1 ((w3.alloc (.cells #[.int .i64 0, .int .i64 0, .int .i64 0, .int .i64 0, .int .i64 0, .int .i64 0, .int .i64 0, .int .i64 0, .int .i64 0, .int .i64 0, .int .i64 0, .int .i64 0, .int .i64 0, .int .i64 0, .int .i64 0, .int .i64 0] 58)).alloc (.cells #[.bool false, .bool false, .bool false, .bool false, .bool false, .bool false, .bool false, .bool false, .bool false, .bool false, .bool false, .bool false, .bool false, .bool false, .bool false, .bool false] 59)) sp w3.heap.size (w3.heap.size + 1) s F (List.replicate 16 0) (List.replicate 16 false) := by
  have e12 := h12.size
  have e23 := h23.size
  have ha : Below w3.heap.size w3 (w3.alloc (.cells #[.int .i64 0, .int .i64 0, .int .i64 0, .int .i64 0, .int .i64 0, .int .i64 0, .int .i64 0, .int .i64 0, .int .i64 0, .int .i64 0, .int .i64 0, .int .i64 0, .int .i64 0, .int .i64 0, .int .i64 0, .int .i64 0] 58)) := (Below.refl _ w3).alloc (Nat.le_refl _) _
  have hb : Below (w3.alloc (.cells #[.int .i64 0, .int .i64 0, .int .i64 0, .int .i64 0, .int .i64 0, .int .i64 0, .int .i64 0, .int .i64 0, .int .i64 0, .int .i64 0, .int .i64 0, .int .i64 0, .int .i64 0, .int .i64 0, .int .i64 0, .int .i64 0] 58)).heap.size (w3.alloc (.cells #[.int .i64 0, .int .i64 0, .int .i64 0, .int .i64 0, .int .i64 0, .int .i64 0, .int .i64 0, .int .i64 0, .int .i64 0, .int .i64 0, .int .i64 0, .int .i64 0, .int .i64 0, .int .i64 0, .int .i64 0, .int .i64 0] 58)) ((w3.alloc (.cells #[.int .i64 0, .int .i64 0, .int .i64 0, .int .i64 0, .int .i64 0, .int .i64 0, .int .i64 0, .int .i64 0, .int .i64 0, .int .i64 0, .int .i64 0, .int .i64 0, .int .i64 0, .int .i64 0, .int .i64 0, .int .i64 0] 58)).alloc (.cells #[.bool false, .bool false, .bool false, .bool false, .bool false, .bool false, .bool false, .bool false, .bool false, .bool false, .bool false, .bool false, .bool false, .bool false, .bool false, .bool false] 59)) := (Below.refl _ _).alloc (Nat.le_refl _) _
  have hab : Below w3.heap.size w3 ((w3.alloc (.cells #[.int .i64 0, .int .i64 0, .int .i64 0, .int .i64 0, .int .i64 0, .int .i64 0, .int .i64 0, .int .i64 0, .int .i64 0, .int .i64 0, .int .i64 0, .int .i64 0, .int .i64 0, .int .i64 0, .int .i64 0, .int .i64 0] 58)).alloc (.cells #[.bool false, .bool false, .bool false, .bool false, .bool false, .bool false, .bool false, .bool false, .bool false, .bool false, .bool false, .bool false, .bool false, .bool false, .bool false, .bool false] 59)) := ha.trans (hb.mono ha.size)
  have hz : (w3.alloc (.cells #[.int .i64 0, .int .i64 0, .int .i64 0, .int .i64 0, .int .i64 0, .int .i64 0, .int .i64 0, .int .i64 0, .int .i64 0, .int .i64 0, .int .i64 0, .int .i64 0, .int .i64 0, .int .i64 0, .int .i64 0, .int .i64 0] 58)).heap[w3.heap.size]? = some (.cells #[.int .i64 0, .int .i64 0, .int .i64 0, .int .i64 0, .int .i64 0, .int .i64 0, .int .i64 0, .int .i64 0, .int .i64 0, .int .i64 0, .int .i64 0, .int .i64 0, .int .i64 0, .int .i64 0, .int .i64 0, .int .i64 0] 58) := new_at w3 _ _ rfl
  have s1 := hab.size
  refine ⟨⟨_, hp.lt.below hab, fun x hx => ⟨by omega, by omega, by omega, by have := hx.2; omega⟩⟩, ?_, ?_, by simp, by simp, by omega, by omega, (h12.trans ((h23.mono e12).trans (hab.mono (by omega))))⟩
  · exact (But.of_below (S := fun _ => False) hb).heap hz (fun h => h)
  · exact new_at _ _ _ (by rw [alloc_sz])
set_option maxHeartbeats 8000000 in
theorem fair_any (c : Cfg) (hc : FitC c) (ops : List (List Opn)) (hO : OpsB ops) (ms : List Mv) (hms : ms.length ≤ 1200000) (hfit : ∀ m ∈ ms, FitM m) (w : World) (ov mvv : Value) (hR : RdOO (fun k => k < w.heap.size) w ov ops) (hM : RdMv w mvv ms) :
    Calls Try.prog 6 #[cval c, ov, mvv] w fun e w' => e = .returned (.bool true) ∧ Below w.heap.size w w' := by
  obtain ⟨W1, hW1⟩ : ∃ W1, W1 = w.alloc (.cells #[.int .i64 c.w, .int .i64 c.h, .int .i64 c.clients, .int .i64 c.queue, .int .i64 c.most, .int .i64 c.quantum, .int .i64 c.surfaces, .int .i64 c.behind] 40) := ⟨_, rfl⟩
  have hb01 : Below w.heap.size w W1 := by rw [hW1]; exact (Below.refl _ w).alloc (Nat.le_refl _) _
  have hX1 : W1.heap[w.heap.size]? = some (.cells #[.int .i64 c.w, .int .i64 c.h, .int .i64 c.clients, .int .i64 c.queue, .int .i64 c.most, .int .i64 c.quantum, .int .i64 c.surfaces, .int .i64 c.behind] 40) := by rw [hW1]; exact new_at w _ _ rfl
  have hR1 : RdOO (fun k => k < W1.heap.size) W1 ov ops := (hR.below hb01).wide (fun x hx => Nat.lt_of_lt_of_le hx hb01.size)
  have hM1 := hM.below hb01
  obtain ⟨ao, cap, rfl, hl1, hl2, hcl⟩ := hM1
  obtain ⟨d, hd⟩ : ∃ d, d = confC c := ⟨_, rfl⟩
  have hok := confC_ok c
  rw [← hd] at hok
  obtain ⟨n, hn⟩ : ∃ n, n = ms.length := ⟨_, rfl⟩
  rw [← hn]
  have hn9 : n ≤ 1200000 := by omega
  have hcb := (cfgB hok).clients
  obtain ⟨N, hN⟩ : ∃ N : Nat, d.clients = (N : Int) := ⟨d.clients.toNat, by omega⟩
  have hN4 : 1 ≤ N ∧ N ≤ 4 := by omega
  have HL : Hid (∀ w, Calls Try.prog 24 #[] w fun e w' => e = .returned (.bool true) ∧ Below w.heap.size w w') := lives_any
  have HO1 : Hid (∀ w, Calls Try.prog 25 #[.agg #[.int .i64 c.w, .int .i64 c.h, .int .i64 c.clients, .int .i64 c.queue, .int .i64 c.most, .int .i64 c.quantum, .int .i64 c.surfaces, .int .i64 c.behind]] w (OpenPost d w)) := fun w => by rw [hd]; exact opened_any c hc w
  have HI : Hid (∀ k, k ≤ n → ShI k (plK d ops ms k).1 (plK d ops ms k).2 ∧ (plK d ops ms k).1.ks.length = N ∧ (plK d ops ms k).2.c = d) := fun k hk => by
    have h1 := plK_in hok hO ms k (by omega) (by omega)
    have h2 := plK_c (c := d) (ops := ops) (ms := ms) k (by omega)
    have h3 := h1.n4
    refine ⟨h1, ?_, h2⟩
    rw [← h1.c, h2] at h3
    omega
  have HST : Hid (∀ (k : Nat) (m : Mv) (a b : Nat) (f : Int) (la lb : List Int), ms[k]? = some m → (plK d ops ms (k + 1)).2.wait[a]? = some la → (plK d ops ms (k + 1)).2.wait[b]? = some lb → la ≠ [] → lb ≠ [] → FrI (plK d ops ms k).1 (plK d ops ms k).2 a b f → FrI (plK d ops ms (k + 1)).1 (plK d ops ms (k + 1)).2 a b f) := fun k m a b f la lb hm h1 h2 n1 n2 hf => by
    have hkl := (List.getElem?_eq_some_iff.1 hm).1
    rw [plK_succ hm] at h1 h2 ⊢
    exact hf.step (plK_in hok hO ms k (by omega) (by omega)) (by omega) hO m h1 h2 n1 n2
  have HMV : Hid (∀ (k : Nat) (m : Mv) (sp fb nb : Nat) (fr : List Int) (sn : List Bool) (wr : World), ms[k]? = some m → FaS W1 wr sp fb nb (plK d ops ms k).1 (plK d ops ms k).2 fr sn → Calls Try.prog 26 #[.pointer (some ⟨sp, 0, none⟩), .agg #[.int .i64 m.kind, .int .i64 m.a, .int .i64 m.b], ov] wr fun e w' => (∃ u, e = .returned u) ∧ FaS W1 w' sp fb nb (plK d ops ms (k + 1)).1 (plK d ops ms (k + 1)).2 fr sn) := fun k m sp fb nb fr sn wr hm h => by
    have hkl := (List.getElem?_eq_some_iff.1 hm).1
    rw [plK_succ hm]
    exact h.moves (plK_in hok hO ms k (by omega) (by omega)) (by omega) (hfit m (List.mem_of_getElem? hm)) hR1 hO
  have HCL : Hid (∀ (k : Nat) (m : Mv) (wr : World), ms[k]? = some m → Below W1.heap.size W1 wr → ∃ b off, ao = some ⟨b, off, none⟩ ∧ wr.cell? ⟨b, off + k * 3, none⟩ = some (.int .i64 m.kind) ∧ wr.cell? ⟨b, off + k * 3 + 1, none⟩ = some (.int .i64 m.a) ∧ wr.cell? ⟨b, off + k * 3 + 2, none⟩ = some (.int .i64 m.b)) := fun k m wr hm hb => by
    obtain ⟨b, off, e, hlt, hc⟩ := hcl (fun e => by rw [e] at hm; simp at hm)
    obtain ⟨c0, c1, c2⟩ := hc k m hm
    exact ⟨b, off, e, (hb.cell hlt).trans c0, (hb.cell hlt).trans (by rw [Nat.add_assoc]; exact c1), (hb.cell hlt).trans (by rw [Nat.add_assoc]; exact c2)⟩
  have HPK : Hid (∀ (k : Nat) (m : Mv), ms[k]? = some m → Pk m.kind 5 (kpk m.kind 5)) := fun k m hm => ⟨rfl, (hfit m (List.mem_of_getElem? hm)).1, by omega⟩
  have HCD : Hid (d.quantum ≤ 600 ∧ d.most ≤ 300 ∧ 1 ≤ d.most ∧ d.most ≤ d.quantum) := by
    have h1 := (cfgB hok).quantum
    have h2 := (cfgB hok).most
    show d.quantum ≤ 600 ∧ d.most ≤ 300 ∧ 1 ≤ d.most ∧ d.most ≤ d.quantum
    omega
  have HN := hide hn
  have HNN := hide hN
  have HX1 := hide hX1
  have HB01 := hide hb01
  have HW1 := hide hW1
  clear hc hO hms hfit hR hR1 hM hl1 hl2 hcl hd hok hn hX1 hb01 hW1 hN hcb
  unfold cval
  go_enter Try.func6, Try.ntmps6
  go_wp2_with (first
    | (rw [← unhide HW1]; go_at_call 24; refine ((unhide HL) _).mono ?_; rintro e w2 ⟨rfl, hb2⟩
       have HB2 := hide hb2
       have hX2 : w2.heap[w.heap.size]? = _ := (hb2.block _ (lt_of_heap (unhide HX1))).trans (unhide HX1)
       have b0 : w2.cell? ⟨w.heap.size, 0, none⟩ = some (.int .i64 c.w) := blk_cell hX2 0
       have b1 : w2.cell? ⟨w.heap.size, 1, none⟩ = some (.int .i64 c.h) := blk_cell hX2 1
       have b2 : w2.cell? ⟨w.heap.size, 2, none⟩ = some (.int .i64 c.clients) := blk_cell hX2 2
       have b3 : w2.cell? ⟨w.heap.size, 3, none⟩ = some (.int .i64 c.queue) := blk_cell hX2 3
       have b4 : w2.cell? ⟨w.heap.size, 4, none⟩ = some (.int .i64 c.most) := blk_cell hX2 4
       have b5 : w2.cell? ⟨w.heap.size, 5, none⟩ = some (.int .i64 c.quantum) := blk_cell hX2 5
       have b6 : w2.cell? ⟨w.heap.size, 6, none⟩ = some (.int .i64 c.surfaces) := blk_cell hX2 6
       have b7 : w2.cell? ⟨w.heap.size, 7, none⟩ = some (.int .i64 c.behind) := blk_cell hX2 7
       clear hb2 hX2 HL)
    | (go_at_call 25; refine ((unhide HO1) _).mono ?_; rintro e w3 ⟨sp, rfl, hS, hb3⟩
       obtain ⟨c3, lsp⟩ := hS.clients
       rw [show (openF d d.clients.toNat).c.clients = (N : Int) from unhide HNN] at c3
       have HF0 : Hid (FaS W1 ((w3.alloc (.cells #[.int .i64 0, .int .i64 0, .int .i64 0, .int .i64 0, .int .i64 0, .int .i64 0, .int .i64 0, .int .i64 0, .int .i64 0, .int .i64 0, .int .i64 0, .int .i64 0, .int .i64 0, .int .i64 0, .int .i64 0, .int .i64 0] 58)).alloc (.cells #[.bool false, .bool false, .bool false, .bool false, .bool false, .bool false, .bool false, .bool false, .bool false, .bool false, .bool false, .bool false, .bool false, .bool false, .bool false, .bool false] 59)) sp w3.heap.size (w3.heap.size + 1) (plK d ops ms 0).1 (plK d ops ms 0).2 (List.replicate 16 0) (List.replicate 16 false)) := fa_start (unhide HB2) hb3 hS
       clear hS hb3 HO1 b0 b1 b2 b3 b4 b5 b6 b7))
  clear HB2 c3 lsp
  generalize ((w3.alloc (.cells #[.int .i64 0, .int .i64 0, .int .i64 0, .int .i64 0, .int .i64 0, .int .i64 0, .int .i64 0, .int .i64 0, .int .i64 0, .int .i64 0, .int .i64 0, .int .i64 0, .int .i64 0, .int .i64 0, .int .i64 0, .int .i64 0] 58)).alloc (.cells #[.bool false, .bool false, .bool false, .bool false, .bool false, .bool false, .bool false, .bool false, .bool false, .bool false, .bool false, .bool false, .bool false, .bool false, .bool false, .bool false] 59)) = W5 at HF0 ⊢
  generalize w3.heap.size + 1 = nb at HF0 ⊢
  generalize w3.heap.size = fb at HF0 ⊢
  go_loopw [12] (fun x wr => ∃ (k : Nat) (fr : List Int) (sn : List Bool), k ≤ n ∧ x = .int .i64 k ∧ FaS W1 wr sp fb nb (plK d ops ms k).1 (plK d ops ms k).2 fr sn ∧ FaP N (plK d ops ms k).1 (plK d ops ms k).2 fr sn) (fun x _ => n - (intOf x).toNat)
  case atStart => exact ⟨0, _, _, Nat.zero_le _, rfl, unhide HF0, fun a b ha hb ht => by rw [List.getElem?_replicate] at ht; split at ht <;> simp at ht⟩
  case round =>
    clear HF0
    obtain ⟨k, fr, sn, hk, rfl, hS, hP⟩ := hrel
    by_cases hlt : k < n
    · obtain ⟨m, hm⟩ : ∃ m, ms[k]? = some m := ⟨ms[k]'(by have := unhide HN; omega), by simp⟩
      obtain ⟨b, off, rfl, c0, c1, c2⟩ := (unhide HCL) k m wr hm hS.bel
      have hpk := (unhide HPK) k m hm
      have k0 : (0 : Int) ≤ (k : Int) := by omega
      have k1 : (k : Int) < (n : Int) := by omega
      obtain ⟨z, hz⟩ : ∃ z, z = kpk m.kind 5 := ⟨_, rfl⟩
      rw [← hz] at hpk
      have HM := hide hm
      have HS := hide hS
      have HP := hide hP
      obtain ⟨mk, hmk⟩ : ∃ mk, mk = m.kind := ⟨_, rfl⟩
      obtain ⟨ma, hma⟩ : ∃ ma, ma = m.a := ⟨_, rfl⟩
      obtain ⟨mb, hmb⟩ : ∃ mb, mb = m.b := ⟨_, rfl⟩
      rw [← hmk] at hpk c0
      rw [← hma] at c1
      rw [← hmb] at c2
      have HME := hide (And.intro hmk (And.intro hma hmb))
      clear hz hm hS hP hmk hma hmb
      go_upto_block 2 with (go_at_call 20; refine Calls.mono (pk_any _ _ _ _ hpk) ?_; rintro e w4 ⟨rfl, rfl⟩)
      clear c0 c1 c2 hpk
      generalize (z == 2) = tk
      go_cut [14, 15] from 33 to 202 (fun s14 s15 wx => ∃ (fr : List Int) (sn : List Bool), FaS W1 wx sp fb nb (plK d ops ms k).1 (plK d ops ms k).2 fr sn ∧ FaP N (plK d ops ms k).1 (plK d ops ms k).2 fr sn)
      case first =>
        go_wp2
        go_loopw [14] (fun x wr => ∃ (a : Nat) (fr : List Int) (sn : List Bool), a ≤ N ∧ x = .int .i64 a ∧ FaS W1 wr sp fb nb (plK d ops ms k).1 (plK d ops ms k).2 fr sn ∧ FaP N (plK d ops ms k).1 (plK d ops ms k).2 fr sn) (fun x _ => N - (intOf x).toNat)
        case atStart => exact ⟨0, _, _, Nat.zero_le _, rfl, unhide HS, unhide HP⟩
        case round =>
          clear HS HP
          obtain ⟨a, fr2, sn2, ha, rfl, hS, hP⟩ := hrel
          have HS := hide hS
          have HP := hide hP
          clear hS hP
          by_cases haN : a < N
          · have a1 : (a : Int) < (N : Int) := by omega
            cases tk with
            | true =>
              go_wp2
              go_loopw [15] (fun x wr => ∃ (b2 : Nat) (fr : List Int) (sn : List Bool), b2 ≤ N ∧ x = .int .i64 b2 ∧ FaS W1 wr sp fb nb (plK d ops ms k).1 (plK d ops ms k).2 fr sn ∧ FaP N (plK d ops ms k).1 (plK d ops ms k).2 fr sn) (fun x _ => N - (intOf x).toNat)
              case atStart => exact ⟨0, _, _, Nat.zero_le _, rfl, unhide HS, unhide HP⟩
              case round =>
                clear HS HP
                obtain ⟨b2, fr3, sn3, hb, rfl, hS, hP⟩ := hrel
                by_cases hbN : b2 < N
                · obtain ⟨hI, hks, hcd⟩ := (unhide HI) k (by omega)
                  obtain ⟨y, hy⟩ : ∃ y, sn3[4 * a + b2]? = some y := ⟨sn3[4 * a + b2]'(by rw [hS.ln]; omega), by simp⟩
                  obtain ⟨f, hf⟩ : ∃ f, fr3[4 * a + b2]? = some f := ⟨fr3[4 * a + b2]'(by rw [hS.lf]; omega), by simp⟩
                  obtain ⟨u, hu⟩ : ∃ u, (plK d ops ms k).2.had[a]? = some u := ⟨(plK d ops ms k).2.had[a]'(by rw [hI.hl, hks]; exact haN), by simp⟩
                  obtain ⟨v, hv⟩ : ∃ v, (plK d ops ms k).2.had[b2]? = some v := ⟨(plK d ops ms k).2.had[b2]'(by rw [hI.hl, hks]; exact hbN), by simp⟩
                  have hwl : (plK d ops ms k).2.wait.length = N := by rw [hI.wait, List.length_map]; exact hks
                  obtain ⟨la, hla⟩ : ∃ la, (plK d ops ms k).2.wait[a]? = some la := ⟨(plK d ops ms k).2.wait[a]'(by omega), by simp⟩
                  obtain ⟨lb, hlb⟩ : ∃ lb, (plK d ops ms k).2.wait[b2]? = some lb := ⟨(plK d ops ms k).2.wait[b2]'(by omega), by simp⟩
                  have ub := hI.hb u (List.mem_of_getElem? hu)
                  have vb := hI.hb v (List.mem_of_getElem? hv)
                  have hlook := hP.look hN4.2 hI hS.lf hS.ln haN hbN hy hla hlb hu hv
                  obtain ⟨sc, sz, sset⟩ := hS.sinceAt hy
                  obtain ⟨fc, fz, fset⟩ := hS.fromAt hf
                  obtain ⟨x5, x6, x15, lsp, spf, spn⟩ := hS.base
                  obtain ⟨g, gc, gw, wc, ⟨r11, r10, gfb, lg⟩, rh, rwt⟩ := hS.rows hI N hks.symm
                  obtain ⟨vo, vc, ca⟩ := rwt a la hla
                  obtain ⟨vo2, vc2, cb⟩ := rwt b2 lb hlb
                  have cu := rh a u hu
                  have cv := rh b2 v hv
                  obtain ⟨j, hj⟩ : ∃ j, j = 4 * a + b2 := ⟨_, rfl⟩
                  obtain ⟨a4, ha4⟩ : ∃ a4, a4 = 4 * a := ⟨_, rfl⟩
                  obtain ⟨ll, hll⟩ : ∃ ll, ll = la.length := ⟨_, rfl⟩
                  obtain ⟨lm, hlm⟩ : ∃ lm, lm = lb.length := ⟨_, rfl⟩
                  rw [← hj] at hlook sc sz sset fc fz fset
                  rw [← hll] at ca hlook
                  rw [← hlm] at cb hlook
                  have e4 : IntKind.i64.wrap (4 * (a : Int)) = (a4 : Int) := by rw [IntKind.wrap_i64]; omega
                  have e5 : IntKind.i64.wrap ((a4 : Int) + (b2 : Int)) = (j : Int) := by rw [IntKind.wrap_i64]; omega
                  have eu : IntKind.i64.wrap (u - v) = u - v := by rw [IntKind.wrap_i64]; omega
                  have j0 : (0 : Int) ≤ (j : Int) := by omega
                  have j1 : (j : Int) < 16 := by omega
                  have j1' : j < 16 := by omega
                  have b1 : (b2 : Int) < (N : Int) := by omega
                  have a0 : (0 : Int) ≤ (a : Int) := by omega
                  have b0 : (0 : Int) ≤ (b2 : Int) := by omega
                  have HLK := hide hlook
                  have HSS := hide sset
                  have HFS := hide fset
                  have HHH := hide (And.intro hI (And.intro hks (And.intro hu (And.intro hv (And.intro hla hlb)))))
                  have HLL := hide (And.intro hll (And.intro hlm hj))
                  have HY := hide hy
                  clear hS hP hI hks hcd hy hf hu hv hwl hla hlb ub vb hlook sset fset rh rwt hj ha4 hll hlm
                  cases y with
                  | true =>
                    clear fc fz eu cu cv r11
                    by_cases l1 : 0 < ll
                    · have l1i : (0 : Int) < (ll : Int) := by omega
                      by_cases l2 : 0 < lm
                      · have l2i : (0 : Int) < (lm : Int) := by omega
                        have HN2 : Hid (FaS W1 (wr.setCell ⟨nb, j, none⟩ (.bool true)) sp fb nb (plK d ops ms k).1 (plK d ops ms k).2 fr3 (sn3.set j true)) := (unhide HSS) 0 true
                        have HP2 : Hid (FaP N (plK d ops ms k).1 (plK d ops ms k).2 fr3 (sn3.set j true)) := by
                          have := unhide HLK
                          rw [show (decide (0 < ll) && decide (0 < lm)) = true from by simp [l1, l2]] at this
                          exact this
                        clear HLK HSS HFS HHH HLL
                        go_wp2
                        go_roundw
                        case rel => exact ⟨b2 + 1, _, _, by omega, by go_num, unhide HN2, unhide HP2⟩
                        case measure => simp [intOf]; omega
                      · have l2i : ¬ (0 : Int) < (lm : Int) := by omega
                        have HN2 : Hid (FaS W1 (wr.setCell ⟨nb, j, none⟩ (.bool false)) sp fb nb (plK d ops ms k).1 (plK d ops ms k).2 fr3 (sn3.set j false)) := (unhide HSS) 0 false
                        have HP2 : Hid (FaP N (plK d ops ms k).1 (plK d ops ms k).2 fr3 (sn3.set j false)) := by
                          have := unhide HLK
                          rw [show (decide (0 < ll) && decide (0 < lm)) = false from by simp [l1, l2]] at this
                          exact this
                        clear HLK HSS HFS HHH HLL
                        go_wp2
                        go_roundw
                        case rel => exact ⟨b2 + 1, _, _, by omega, by go_num, unhide HN2, unhide HP2⟩
                        case measure => simp [intOf]; omega
                    · have l1i : ¬ (0 : Int) < (ll : Int) := by omega
                      have HN2 : Hid (FaS W1 (wr.setCell ⟨nb, j, none⟩ (.bool false)) sp fb nb (plK d ops ms k).1 (plK d ops ms k).2 fr3 (sn3.set j false)) := (unhide HSS) 0 false
                      have HP2 : Hid (FaP N (plK d ops ms k).1 (plK d ops ms k).2 fr3 (sn3.set j false)) := by
                        have := unhide HLK
                        rw [show (decide (0 < ll) && decide (0 < lm)) = false from by simp [l1]] at this
                        exact this
                      clear HLK HSS HFS HHH HLL
                      go_wp2
                      go_roundw
                      case rel => exact ⟨b2 + 1, _, _, by omega, by go_num, unhide HN2, unhide HP2⟩
                      case measure => simp [intOf]; omega

                  | false =>
                    have s11 : wr.drew.cell? ⟨sp, 11, none⟩ = some (.slice (some ⟨g, 0, none⟩) N gc) := r11
                    have su : wr.drew.cell? ⟨g, a, none⟩ = some (.int .i64 u) := cu
                    have sv : wr.drew.cell? ⟨g, b2, none⟩ = some (.int .i64 v) := cv
                    go_wp2
                    have hbw : But (fun x => x = fb) wr ((wr.setCell ⟨fb, j, none⟩ (.int .i64 (u - v))).drew) := ((But.refl (fun x => x = fb) wr).setCell (p := ⟨fb, j, none⟩) (.inl rfl) _).drew
                    have t11 : ((wr.setCell ⟨fb, j, none⟩ (.int .i64 (u - v))).drew).cell? ⟨sp, 11, none⟩ = some (.slice (some ⟨g, 0, none⟩) N gc) := (World.cell?_of_block (hbw.block sp lsp spf)).trans r11
                    have tu : ((wr.setCell ⟨fb, j, none⟩ (.int .i64 (u - v))).drew).cell? ⟨g, a, none⟩ = some (.int .i64 u) := (World.cell?_of_block (hbw.block g lg gfb)).trans cu
                    have tv : ((wr.setCell ⟨fb, j, none⟩ (.int .i64 (u - v))).drew).cell? ⟨g, b2, none⟩ = some (.int .i64 v) := (World.cell?_of_block (hbw.block g lg gfb)).trans cv
                    have HS6 : Hid (FaS W1 ((wr.setCell ⟨fb, j, none⟩ (.int .i64 (u - v))).drew) sp fb nb (plK d ops ms k).1 (plK d ops ms k).2 (fr3.set j (u - v)) sn3) := ((unhide HFS) 0 (u - v)).below ((Below.refl _ _).drew)
                    go_region_held3 (fun w' => w'.cell? ⟨sp, 11, none⟩ = some (.slice (some ⟨g, 0, none⟩) N gc) ∧ w'.cell? ⟨g, a, none⟩ = some (.int .i64 u) ∧ w'.cell? ⟨g, b2, none⟩ = some (.int .i64 v)) (first | exact ⟨s11, su, sv⟩ | exact ⟨t11, tu, tv⟩ | go_keep) (fail)
                    clear hbw t11 tu tv s11 su sv r11 r10 ca cb cu cv sc sz fc fz HSS HFS eu x5 x6 x15
                    generalize (wr.setCell ⟨fb, j, none⟩ (.int .i64 (u - v))).drew = W6 at HS6 ⊢
                    obtain ⟨hI, hks, hu, hv, hla, hlb⟩ := unhide HHH
                    obtain ⟨g6, gc6, gw6, wc6, ⟨-, r10, -, -⟩, -, rwt⟩ := (unhide HS6).rows hI N hks.symm
                    obtain ⟨vo6, vc6, ca⟩ := rwt a la hla
                    obtain ⟨vo7, vc7, cb⟩ := rwt b2 lb hlb
                    rw [← (unhide HLL).1] at ca
                    rw [← (unhide HLL).2.1] at cb
                    have hy6 : sn3[j]? = some false := by rw [(unhide HLL).2.2]; exact unhide HY
                    obtain ⟨sc, sz, sset6⟩ := (unhide HS6).sinceAt hy6
                    have HSS6 := hide sset6
                    clear hI hks hu hv hla hlb rwt hy6 sset6 HS6
                    by_cases l1 : 0 < ll
                    · have l1i : (0 : Int) < (ll : Int) := by omega
                      by_cases l2 : 0 < lm
                      · have l2i : (0 : Int) < (lm : Int) := by omega
                        have HN2 : Hid (FaS W1 (W6.setCell ⟨nb, j, none⟩ (.bool true)) sp fb nb (plK d ops ms k).1 (plK d ops ms k).2 (fr3.set j (u - v)) (sn3.set j true)) := (unhide HSS6) 0 true
                        have HP2 : Hid (FaP N (plK d ops ms k).1 (plK d ops ms k).2 (fr3.set j (u - v)) (sn3.set j true)) := by
                          have := unhide HLK
                          rw [show (decide (0 < ll) && decide (0 < lm)) = true from by simp [l1, l2]] at this
                          exact this
                        clear HLK HSS6 HHH HLL
                        go_wp2
                        go_roundw
                        case rel => exact ⟨b2 + 1, _, _, by omega, by go_num, unhide HN2, unhide HP2⟩
                        case measure => simp [intOf]; omega
                      · have l2i : ¬ (0 : Int) < (lm : Int) := by omega
                        have HN2 : Hid (FaS W1 (W6.setCell ⟨nb, j, none⟩ (.bool false)) sp fb nb (plK d ops ms k).1 (plK d ops ms k).2 (fr3.set j (u - v)) (sn3.set j false)) := (unhide HSS6) 0 false
                        have HP2 : Hid (FaP N (plK d ops ms k).1 (plK d ops ms k).2 (fr3.set j (u - v)) (sn3.set j false)) := by
                          have := unhide HLK
                          rw [show (decide (0 < ll) && decide (0 < lm)) = false from by simp [l1, l2]] at this
                          exact this
                        clear HLK HSS6 HHH HLL
                        go_wp2
                        go_roundw
                        case rel => exact ⟨b2 + 1, _, _, by omega, by go_num, unhide HN2, unhide HP2⟩
                        case measure => simp [intOf]; omega
                    · have l1i : ¬ (0 : Int) < (ll : Int) := by omega
                      have HN2 : Hid (FaS W1 (W6.setCell ⟨nb, j, none⟩ (.bool false)) sp fb nb (plK d ops ms k).1 (plK d ops ms k).2 (fr3.set j (u - v)) (sn3.set j false)) := (unhide HSS6) 0 false
                      have HP2 : Hid (FaP N (plK d ops ms k).1 (plK d ops ms k).2 (fr3.set j (u - v)) (sn3.set j false)) := by
                        have := unhide HLK
                        rw [show (decide (0 < ll) && decide (0 < lm)) = false from by simp [l1]] at this
                        exact this
                      clear HLK HSS6 HHH HLL
                      go_wp2
                      go_roundw
                      case rel => exact ⟨b2 + 1, _, _, by omega, by go_num, unhide HN2, unhide HP2⟩
                      case measure => simp [intOf]; omega

                · have b1 : ¬ (b2 : Int) < (N : Int) := by omega
                  have HS := hide hS
                  have HP := hide hP
                  clear hS hP
                  go_wp2
                  go_roundw
                  case rel => exact ⟨a + 1, _, _, by omega, by go_num, unhide HS, unhide HP⟩
                  case measure => simp [intOf]; omega
            | false =>
              go_wp2
              go_meet
              case rel => exact ⟨_, _, unhide HS, unhide HP⟩
          · have a1 : ¬ (a : Int) < (N : Int) := by omega
            go_wp2
            go_meet
            case rel => exact ⟨_, _, unhide HS, unhide HP⟩
      case rest =>
        clear HS HP
        obtain ⟨fr2, sn2, hS, hP⟩ := hcut
        have HS := hide hS
        have HP := hide hP
        clear hS hP
        obtain ⟨bq, offq, eq', c0, c1, c2⟩ := (unhide HCL) k m wc (unhide HM) (unhide HS).bel
        simp only [Option.some.injEq, Addr.mk.injEq, and_true] at eq'
        obtain ⟨rfl, rfl⟩ := eq'
        rw [← (unhide HME).1] at c0
        rw [← (unhide HME).2.1] at c1
        rw [← (unhide HME).2.2] at c2
        have HC := hide ((unhide HMV) k m sp fb nb fr2 sn2 wc (unhide HM) (unhide HS))
        rw [← (unhide HME).1, ← (unhide HME).2.1, ← (unhide HME).2.2] at HC
        obtain ⟨NN, hNN⟩ : ∃ NN, NN = N * N := ⟨_, rfl⟩
        have hNN9 : NN ≤ 16 := by rw [hNN]; exact Nat.mul_le_mul hN4.2 hN4.2
        have e6 : IntKind.i64.wrap ((N : Int) * (N : Int)) = (NN : Int) := by
          rw [show (N : Int) * (N : Int) = (NN : Int) from by rw [hNN]; exact (Int.natCast_mul N N).symm, IntKind.wrap_i64]; omega
        have HNQ := hide hNN
        have HPM := hide ((unhide HP).mix (s' := (plK d ops ms (k + 1)).1) (F' := (plK d ops ms (k + 1)).2))
        clear hNN
        go_wp2_with (go_at_call 26; refine (unhide HC).mono ?_; rintro e w6 ⟨⟨u6, rfl⟩, hS6⟩
                     obtain ⟨x5, x6, x15, lsp, spf, spn⟩ := hS6.base
                     have HS6 := hide hS6
                     clear hS6 HC)
        clear c0 c1 c2 x5 x6 x15 lsp spf spn HS HP
        go_loopw [16] (fun x wr => ∃ (q : Nat) (sn : List Bool), q ≤ NN ∧ x = .int .i64 q ∧ FaS W1 wr sp fb nb (plK d ops ms (k + 1)).1 (plK d ops ms (k + 1)).2 fr2 sn ∧ FaM N q (plK d ops ms k).1 (plK d ops ms k).2 (plK d ops ms (k + 1)).1 (plK d ops ms (k + 1)).2 fr2 sn) (fun x _ => NN - (intOf x).toNat)
        case atStart => exact ⟨0, sn2, Nat.zero_le _, rfl, unhide HS6, unhide HPM⟩
        case round =>
          clear HS6 HPM
          obtain ⟨q, sn3, hq, rfl, hS, hP⟩ := hrel
          by_cases hqN : q < NN
          · obtain ⟨a', hda⟩ : ∃ a', a' = q / N := ⟨_, rfl⟩
            obtain ⟨b2, hdb⟩ : ∃ b2, b2 = q % N := ⟨_, rfl⟩
            have hbN : b2 < N := by rw [hdb]; exact Nat.mod_lt _ (by omega)
            have haN' : a' < N := by rw [hda]; exact Nat.div_lt_of_lt_mul (by have := unhide HNQ; omega)
            have eab : a' * N + b2 = q := by rw [hda, hdb, Nat.mul_comm]; exact Nat.div_add_mod q N
            have qd : (q : Int) / (N : Int) = (a' : Int) := by rw [hda]; exact (Int.natCast_ediv q N).symm
            have qm : (q : Int).tmod (N : Int) = (b2 : Int) := by rw [hdb]; exact (Int.ofNat_tmod q N).symm
            have N0 : ¬ N = 0 := by omega
            obtain ⟨hI, hks, hcd⟩ := (unhide HI) (k + 1) (by omega)
            obtain ⟨y, hy⟩ : ∃ y, sn3[4 * a' + b2]? = some y := ⟨sn3[4 * a' + b2]'(by rw [hS.ln]; omega), by simp⟩
            obtain ⟨f, hf⟩ : ∃ f, fr2[4 * a' + b2]? = some f := ⟨fr2[4 * a' + b2]'(by rw [hS.lf]; omega), by simp⟩
            obtain ⟨u, hu⟩ : ∃ u, (plK d ops ms (k + 1)).2.had[a']? = some u := ⟨(plK d ops ms (k + 1)).2.had[a']'(by rw [hI.hl, hks]; exact haN'), by simp⟩
            obtain ⟨v, hv⟩ : ∃ v, (plK d ops ms (k + 1)).2.had[b2]? = some v := ⟨(plK d ops ms (k + 1)).2.had[b2]'(by rw [hI.hl, hks]; exact hbN), by simp⟩
            have hwl : (plK d ops ms (k + 1)).2.wait.length = N := by rw [hI.wait, List.length_map]; exact hks
            obtain ⟨la, hla⟩ : ∃ la, (plK d ops ms (k + 1)).2.wait[a']? = some la := ⟨(plK d ops ms (k + 1)).2.wait[a']'(by omega), by simp⟩
            obtain ⟨lb, hlb⟩ : ∃ lb, (plK d ops ms (k + 1)).2.wait[b2]? = some lb := ⟨(plK d ops ms (k + 1)).2.wait[b2]'(by omega), by simp⟩
            have ub := hI.hb u (List.mem_of_getElem? hu)
            have vb := hI.hb v (List.mem_of_getElem? hv)
            have HDR := hide (hP.drop hN4.2 hS.ln haN' hbN eab)
            have HKP : Hid (la ≠ [] → lb ≠ [] → FaM N (q + 1) (plK d ops ms k).1 (plK d ops ms k).2 (plK d ops ms (k + 1)).1 (plK d ops ms (k + 1)).2 fr2 sn3) := fun n1 n2 => hP.keep haN' hbN eab (fun f hf => (unhide HST) k m a' b2 f la lb (unhide HM) hla hlb n1 n2 hf)
            have HBD : Hid (FaM N (q + 1) (plK d ops ms k).1 (plK d ops ms k).2 (plK d ops ms (k + 1)).1 (plK d ops ms (k + 1)).2 fr2 sn3 → y = true → (-600 ≤ u - v - f ∧ u - v - f ≤ 600) ∧ u - v - f ≤ d.quantum + d.most) := fun h3 hyt => by
              rw [hyt] at hy
              obtain ⟨f', g1, g2⟩ := h3.at haN' hbN eab hy
              rw [hf] at g1
              cases g1
              have := g2.bound hI hu hv
              rw [← hI.c, hcd] at this
              exact ⟨g2.bd hI hu hv, this⟩
            obtain ⟨sc, sz, sset⟩ := hS.sinceAt hy
            obtain ⟨fc, fz, fset⟩ := hS.fromAt hf
            obtain ⟨x5, x6, x15, lsp, spf, spn⟩ := hS.base
            rw [hcd] at x5 x6
            obtain ⟨g, gc, gw, wc, ⟨r11, r10, gfb, lg⟩, rh, rwt⟩ := hS.rows hI N hks.symm
            obtain ⟨vo, vc, ca⟩ := rwt a' la hla
            obtain ⟨vo2, vc2, cb⟩ := rwt b2 lb hlb
            have cu := rh a' u hu
            have cv := rh b2 v hv
            obtain ⟨j, hj⟩ : ∃ j, j = 4 * a' + b2 := ⟨_, rfl⟩
            obtain ⟨a4, ha4⟩ : ∃ a4, a4 = 4 * a' := ⟨_, rfl⟩
            obtain ⟨ll, hll⟩ : ∃ ll, ll = la.length := ⟨_, rfl⟩
            obtain ⟨lm, hlm⟩ : ∃ lm, lm = lb.length := ⟨_, rfl⟩
            obtain ⟨Q, hQ⟩ : ∃ Q, Q = d.quantum := ⟨_, rfl⟩
            obtain ⟨M, hM⟩ : ∃ M, M = d.most := ⟨_, rfl⟩
            rw [← hj] at HDR sc sz sset fc fz fset
            rw [← hll] at ca
            rw [← hlm] at cb
            rw [← hQ] at x6 HBD
            rw [← hM] at x5 HBD
            have hcdd := unhide HCD
            rw [← hQ, ← hM] at hcdd
            have e4 : IntKind.i64.wrap (4 * (a' : Int)) = (a4 : Int) := by rw [IntKind.wrap_i64]; omega
            have e5 : IntKind.i64.wrap ((a4 : Int) + (b2 : Int)) = (j : Int) := by rw [IntKind.wrap_i64]; omega
            have eu : IntKind.i64.wrap (u - v) = u - v := by rw [IntKind.wrap_i64]; omega
            have eQ : IntKind.i64.wrap (Q + M) = Q + M := by rw [IntKind.wrap_i64]; omega
            have j0 : (0 : Int) ≤ (j : Int) := by omega
            have j1 : (j : Int) < 16 := by omega
            have j1' : j < 16 := by omega
            have b1 : (b2 : Int) < (N : Int) := by omega
            have a1' : (a' : Int) < (N : Int) := by omega
            have a0 : (0 : Int) ≤ (a' : Int) := by omega
            have b0 : (0 : Int) ≤ (b2 : Int) := by omega
            have q1 : (q : Int) < (NN : Int) := by omega
            have HSS := hide sset
            have HS := hide hS
            have HLL : Hid (ll = la.length ∧ lm = lb.length) := ⟨hll, hlm⟩
            clear hS hP hI hks hcd hy hf hu hv hwl hla hlb ub vb sset fset rh rwt hj ha4 hll hlm hda hdb eab hQ hM hcdd fz
            by_cases l1 : ll = 0
            · subst l1
              have HN2 : Hid (FaS W1 (wr.setCell ⟨nb, j, none⟩ (.bool false)) sp fb nb (plK d ops ms (k + 1)).1 (plK d ops ms (k + 1)).2 fr2 (sn3.set j false)) := (unhide HSS) 0 false
              clear cu cv r11 x5 x6 fc eu eQ HKP HBD HSS HLL cb
              go_wp2
              go_quiet (fail)
              go_wp2
              go_roundw
              case rel => exact ⟨q + 1, _, by omega, by go_num, by first | exact (unhide HN2).below (below_drewN (Below.refl _ _) _) | exact (unhide HN2).below ((Below.refl _ _).drew), unhide HDR⟩
              case measure => simp [intOf]; omega
            · have l1i : ¬ (ll : Int) = 0 := by omega
              have l1b : ((ll : Int) == 0) = false := by simpa using l1i
              by_cases l2 : lm = 0
              · subst l2
                have HN2 : Hid (FaS W1 (wr.setCell ⟨nb, j, none⟩ (.bool false)) sp fb nb (plK d ops ms (k + 1)).1 (plK d ops ms (k + 1)).2 fr2 (sn3.set j false)) := (unhide HSS) 0 false
                clear cu cv r11 x5 x6 fc eu eQ HKP HBD HSS HLL
                go_wp2
                go_quiet (fail)
                go_wp2
                go_roundw
                case rel => exact ⟨q + 1, _, by omega, by go_num, by first | exact (unhide HN2).below (below_drewN (Below.refl _ _) _) | exact (unhide HN2).below ((Below.refl _ _).drew), unhide HDR⟩
                case measure => simp [intOf]; omega
              · have l2i : ¬ (lm : Int) = 0 := by omega
                have l2b : ((lm : Int) == 0) = false := by simpa using l2i
                have HK2 := hide ((unhide HKP) (fun e => l1 (by rw [(unhide HLL).1, e]; rfl)) (fun e => l2 (by rw [(unhide HLL).2, e]; rfl)))
                have hbd := (unhide HBD) (unhide HK2)
                clear HKP HBD HLL HSS HDR
                cases y with
                | false =>
                  clear hbd cu cv r11 x5 x6 fc eu eQ
                  go_wp2
                  go_quiet (fail)
                  go_wp2
                  go_roundw
                  case rel => exact ⟨q + 1, _, by omega, by go_num, by first | exact (unhide HS).below (below_drewN (Below.refl _ _) _) | exact (unhide HS).below ((Below.refl _ _).drew), unhide HK2⟩
                  case measure => simp [intOf]; omega
                | true =>
                  obtain ⟨hb1, hb2⟩ := hbd rfl
                  have ef : IntKind.i64.wrap (u - v - f) = u - v - f := by rw [IntKind.wrap_i64]; omega
                  have dd : decide (Q + M < u - v - f) = false := by simp; omega
                  clear hbd
                  go_wp2
                  go_quiet (fail)
                  go_wp2
                  go_roundw
                  case rel => exact ⟨q + 1, _, by omega, by go_num, by first | exact (unhide HS).below (below_drewN (Below.refl _ _) _) | exact (unhide HS).below ((Below.refl _ _).drew), unhide HK2⟩
                  case measure => simp [intOf]; omega
          · have eq2 : q = NN := by omega
            subst eq2
            have q1 : ¬ (q : Int) < (q : Int) := by omega
            have HSQ := hide hS
            have HPQ : Hid (FaP N (plK d ops ms (k + 1)).1 (plK d ops ms (k + 1)).2 fr2 sn3) := by
              rw [unhide HNQ] at hP; exact hP.done
            clear hS hP
            go_wp2
            go_roundw
            case rel => exact ⟨k + 1, _, _, by omega, by go_num, unhide HSQ, unhide HPQ⟩
            case measure => simp [intOf]; omega
    · have ek : k = n := by omega
      subst ek
      have k1 : ¬ (k : Int) < (k : Int) := by omega
      have HS := hide hS
      clear hS hP
      go_wp2
      go_ret
      exact ⟨rfl, (unhide HB01).trans ((unhide HS).bel.mono (unhide HB01).size)⟩

end Go.Proofs.Ytfnockbgkcgpkaa
