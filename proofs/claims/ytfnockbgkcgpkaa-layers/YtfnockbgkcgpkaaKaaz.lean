import Derived.Test.YtfnockbgkcgpkaaKaay
import Derived.Deep.CutRange
set_option linter.all false
namespace Go.Proofs.Ytfnockbgkcgpkaa
open Go.RowKit Go.Proofs.Panes
set_option maxRecDepth 100000

set_option maxHeartbeats 4000000 in
theorem Damage_any {C : Nat → Prop} {w : World} {b0 : Nat} {f : Frs} {v : Fl} (h : Fr C w b0 f v) (hCl : ∀ k, C k → k < w.heap.size) (hW : 1 ≤ f.W ∧ f.W ≤ 16) (hH : 1 ≤ f.H ∧ f.H ≤ 16) {base : Nat} {lv : Value} {rs : List Rc} (hO : Own w base lv rs) (hlv : ∀ k, lv.ownBlock = some k → ¬ C k) (hok : ∀ r ∈ rs, RcOk r) (hl : rs.length ≤ 1000000) :
    Calls Try.prog 56 #[.pointer (some ⟨b0, 0, none⟩), lv] w fun e w' => (∃ u, e = .returned u) ∧ Fr C w' b0 (damL f rs) v ∧ But C w w' := by
  obtain ⟨ao, cap, hlf⟩ := row_slice hO
  obtain ⟨n, hn⟩ : ∃ n, n = rs.length := ⟨_, rfl⟩
  rw [← hn] at hlf
  subst hlf
  have hn1 : n ≤ 1000000 := by omega
  have HH := hide h
  have HO := hide hO
  have HN := hide hn
  have HOK := hide hok
  have HLV := hide hlv
  clear h hO hn hok hlv hl
  go_enter Try.func56, Try.ntmps56
  go_wp2
  go_loopw [10] (fun a wr => ∃ k : Nat, k ≤ n ∧ a = .int .i64 (k : Int) ∧ Fr C wr b0 (damL f (rs.take k)) v ∧ But C w wr) (fun a _ => n - (intOf a).toNat)
  case atStart => exact ⟨0, Nat.zero_le _, rfl, by simpa [damL] using unhide HH, .refl _ _⟩
  case round =>
    obtain ⟨k, hk, rfl, hFk, hBk⟩ := hrel
    by_cases hlt : k < n
    · obtain ⟨r, hr⟩ : ∃ r, rs[k]? = some r := ⟨rs[k]'(by rw [← unhide HN]; exact hlt), by simp⟩
      have hOk : Own wr base (.slice ao n cap) rs := Own.but (unhide HO) hBk (unhide HLV)
      obtain ⟨ao', cap', he, -, -, h3⟩ := hOk.rd
      simp only [Value.slice.injEq] at he
      obtain ⟨rfl, -, -⟩ := he
      obtain ⟨b, off, rfl, hblt, hc⟩ := h3 (by intro e; rw [e] at hr; simp at hr)
      obtain ⟨r0, r1, r2, r3⟩ := hc k r hr
      obtain ⟨fk, hfk⟩ : ∃ fk, fk = damL f (rs.take k) := ⟨_, rfl⟩
      rw [← hfk] at hFk
      have hW' : fk.W = f.W := by rw [hfk]; exact (damL_W _ f).1
      have hH' : fk.H = f.H := by rw [hfk]; exact (damL_W _ f).2
      obtain ⟨cc, hcc⟩ : ∃ cc, cc = cutR fk r := ⟨_, rfl⟩
      obtain ⟨B1, B2, B3, B4, B5, B6, B7, B8⟩ := cutR_b fk r (by omega) (by omega) ((unhide HOK) r (List.mem_of_getElem? hr))
      rw [← hcc] at B1 B2 B3 B4 B5 B6 B7 B8
      have hrok := (unhide HOK) r (List.mem_of_getElem? hr)
      obtain ⟨w1, hw1⟩ : ∃ w1 : World, w1 = wr.alloc (.cells #[.int .i64 r.x, .int .i64 r.y, .int .i64 r.w, .int .i64 r.h] 29) := ⟨_, rfl⟩
      have hB1 : Below wr.heap.size wr w1 := by rw [hw1]; exact (Below.refl _ wr).alloc (Nat.le_refl _) _
      have hK1 : w1.heap[wr.heap.size]? = some (.cells #[.int .i64 r.x, .int .i64 r.y, .int .i64 r.w, .int .i64 r.h] 29) := by rw [hw1]; exact new_at _ _ _ rfl
      have hF1 := hFk.below hB1
      have HCut : Hid (∀ W, Below w1.heap.size w1 W → Calls Try.prog 84 #[.agg #[.int .i64 r.x, .int .i64 r.y, .int .i64 r.w, .int .i64 r.h], .agg #[.int .i64 0, .int .i64 0, .int .i64 (fk.W : Int), .int .i64 (fk.H : Int)]] W fun e w' => e = .returned (.agg #[.int .i64 cc.x, .int .i64 cc.y, .int .i64 cc.w, .int .i64 cc.h]) ∧ Below w1.heap.size w1 w' ∧ ∀ x ob, W.heap[x]? = some ob → w'.heap[x]? = some ob) := fun W hbW => by
        obtain ⟨g1, g2, g3, g4⟩ := hrok
        have := cut_far r.x r.y r.w r.h 0 0 (fk.W : Int) (fk.H : Int) W (by omega) (by omega) (by omega) (by omega) (by omega) (by omega) (by omega) (by omega)
        rw [hcc]
        refine this.mono ?_
        rintro e w' ⟨he, hb'⟩
        exact ⟨he, hbW.trans (hb'.mono hbW.size), fun x ob hx => (hb'.block x (lt_of_heap hx)).trans hx⟩
      have HCutA := hide ((unhide HCut) w1.drew (Below.refl _ w1).drew)
      have HCutB := hide ((unhide HCut) (w1.alloc (.cells #[.int .i64 0, .int .i64 0, .int .i64 0, .int .i64 0] 29)).drew ((Below.refl _ w1).alloc (Nat.le_refl _) _).drew)
      have x0 : w1.cell? ⟨wr.heap.size, 0, none⟩ = some (.int .i64 r.x) := blk_cell hK1 0
      have x1 : w1.cell? ⟨wr.heap.size, 1, none⟩ = some (.int .i64 r.y) := blk_cell hK1 1
      have x2 : w1.cell? ⟨wr.heap.size, 2, none⟩ = some (.int .i64 r.w) := blk_cell hK1 2
      have x3 : w1.cell? ⟨wr.heap.size, 3, none⟩ = some (.int .i64 r.h) := blk_cell hK1 3
      have y0 : w1.cell? ⟨b0, 0, none⟩ = some (.int .i64 0) := blk_cell hF1.blk 0
      have y1 : w1.cell? ⟨b0, 1, none⟩ = some (.int .i64 0) := blk_cell hF1.blk 1
      have y2 : w1.cell? ⟨b0, 2, none⟩ = some (.int .i64 (fk.W : Int)) := blk_cell hF1.blk 2
      have y3 : w1.cell? ⟨b0, 3, none⟩ = some (.int .i64 (fk.H : Int)) := blk_cell hF1.blk 3
      have i0 : (0 : Int) ≤ (k : Int) := by omega
      have i1 : (k : Int) < (n : Int) := by omega
      have HFk := hide hFk
      have HF1 := hide hF1
      have HB1 := hide hB1
      have HK1 := hide hK1
      have HW1 := hide hw1
      have HBk := hide hBk
      have HR := hide hr
      have HFK := hide hfk
      have HCC := hide hcc
      have fW : 1 ≤ fk.W ∧ fk.W ≤ 16 := by omega
      have fH : 1 ≤ fk.H ∧ fk.H ≤ 16 := by omega
      clear hW' hH'
      have hlb : b0 < w1.heap.size := lt_of_heap hF1.blk
      have hlr : wr.heap.size < w1.heap.size := lt_of_heap hK1
      clear hOk h3 hc hFk hBk hF1 hB1 hK1 hw1 hr hfk hcc hrok
      go_wp2
      rw [← unhide HW1]
      go_cut [6, 10] from 10 to 52 (fun s6 s10 wx => s10 = .int .i64 (k : Int) ∧ ∃ sbx, s6 = .pointer (some ⟨sbx, 0, none⟩) ∧ wx.heap[sbx]? = some (.cells #[.int .i64 cc.x, .int .i64 cc.y, .int .i64 cc.w, .int .i64 cc.h] 29 (0, 0)) ∧ wr.heap.size < sbx ∧ Below wr.heap.size wr wx)
      case first =>
        go_region_held3 (fun w' => w'.cell? ⟨wr.heap.size, 0, none⟩ = some (.int .i64 r.x) ∧ w'.cell? ⟨wr.heap.size, 1, none⟩ = some (.int .i64 r.y) ∧ w'.cell? ⟨wr.heap.size, 2, none⟩ = some (.int .i64 r.w) ∧ w'.cell? ⟨wr.heap.size, 3, none⟩ = some (.int .i64 r.h) ∧ w'.cell? ⟨b0, 0, none⟩ = some (.int .i64 0) ∧ w'.cell? ⟨b0, 1, none⟩ = some (.int .i64 0) ∧ w'.cell? ⟨b0, 2, none⟩ = some (.int .i64 (fk.W : Int)) ∧ w'.cell? ⟨b0, 3, none⟩ = some (.int .i64 (fk.H : Int)))
          (first | exact unhide HS4 | go_keep | (refine ⟨?_, ?_, ?_, ?_, ?_, ?_, ?_, ?_⟩ <;> assumption))
          ((go_at_call 84
            first
            | (refine (unhide HCutA).mono ?_
               rintro e w2 ⟨rfl, hb2', hk2⟩
               have z0 : w2.cell? ⟨wr.heap.size, 0, none⟩ = some (.int .i64 r.x) := (hb2'.cell hlr).trans x0
               have z1 : w2.cell? ⟨wr.heap.size, 1, none⟩ = some (.int .i64 r.y) := (hb2'.cell hlr).trans x1
               have z2 : w2.cell? ⟨wr.heap.size, 2, none⟩ = some (.int .i64 r.w) := (hb2'.cell hlr).trans x2
               have z3 : w2.cell? ⟨wr.heap.size, 3, none⟩ = some (.int .i64 r.h) := (hb2'.cell hlr).trans x3
               have u0 : w2.cell? ⟨b0, 0, none⟩ = some (.int .i64 0) := (hb2'.cell hlb).trans y0
               have u1 : w2.cell? ⟨b0, 1, none⟩ = some (.int .i64 0) := (hb2'.cell hlb).trans y1
               have u2 : w2.cell? ⟨b0, 2, none⟩ = some (.int .i64 (fk.W : Int)) := (hb2'.cell hlb).trans y2
               have u3 : w2.cell? ⟨b0, 3, none⟩ = some (.int .i64 (fk.H : Int)) := (hb2'.cell hlb).trans y3
               have lb2 : b0 < w2.heap.size := Nat.lt_of_lt_of_le hlb hb2'.size
               have lr2 : wr.heap.size < w2.heap.size := Nat.lt_of_lt_of_le hlr hb2'.size
               have HB2 := hide hb2'
               clear hk2 hb2')
            | (refine (unhide HCutB).mono ?_
               rintro e w2 ⟨rfl, hb2', hk2⟩
               have z0 : w2.cell? ⟨wr.heap.size, 0, none⟩ = some (.int .i64 r.x) := (hb2'.cell hlr).trans x0
               have z1 : w2.cell? ⟨wr.heap.size, 1, none⟩ = some (.int .i64 r.y) := (hb2'.cell hlr).trans x1
               have z2 : w2.cell? ⟨wr.heap.size, 2, none⟩ = some (.int .i64 r.w) := (hb2'.cell hlr).trans x2
               have z3 : w2.cell? ⟨wr.heap.size, 3, none⟩ = some (.int .i64 r.h) := (hb2'.cell hlr).trans x3
               have u0 : w2.cell? ⟨b0, 0, none⟩ = some (.int .i64 0) := (hb2'.cell hlb).trans y0
               have u1 : w2.cell? ⟨b0, 1, none⟩ = some (.int .i64 0) := (hb2'.cell hlb).trans y1
               have u2 : w2.cell? ⟨b0, 2, none⟩ = some (.int .i64 (fk.W : Int)) := (hb2'.cell hlb).trans y2
               have u3 : w2.cell? ⟨b0, 3, none⟩ = some (.int .i64 (fk.H : Int)) := (hb2'.cell hlb).trans y3
               have lb2 : b0 < w2.heap.size := Nat.lt_of_lt_of_le hlb hb2'.size
               have lr2 : wr.heap.size < w2.heap.size := Nat.lt_of_lt_of_le hlr hb2'.size
               have HB2 := hide hb2'
               have hz2 : w2.heap[w1.heap.size]? = some (.cells #[.int .i64 0, .int .i64 0, .int .i64 0, .int .i64 0] 29 (0, 0)) := hk2 w1.heap.size _ (new_at w1 _ _ rfl)
               have v0 : w2.cell? ⟨w1.heap.size, 0, none⟩ = some (.int .i64 0) := blk_cell hz2 0
               have v1 : w2.cell? ⟨w1.heap.size, 1, none⟩ = some (.int .i64 0) := blk_cell hz2 1
               have v2 : w2.cell? ⟨w1.heap.size, 2, none⟩ = some (.int .i64 0) := blk_cell hz2 2
               have v3 : w2.cell? ⟨w1.heap.size, 3, none⟩ = some (.int .i64 0) := blk_cell hz2 3
               have vf : ∀ j, w2.frozen? ⟨w1.heap.size, j, none⟩ = false := fun j => blk_thaw hz2 j
               have vb : ¬ b0 = w1.heap.size := by omega
               have vr : ¬ wr.heap.size = w1.heap.size := by omega
               have kK := (hb2'.block wr.heap.size hlr).trans (unhide HK1)
               have kF := (hb2'.block b0 hlb).trans (unhide HF1).blk
               have kK4 := blk_other (blk_other (blk_other (blk_other kK (p := ⟨w1.heap.size, 0, none⟩) vr (.int .i64 cc.x)) (p := ⟨w1.heap.size, 1, none⟩) vr (.int .i64 cc.y)) (p := ⟨w1.heap.size, 2, none⟩) vr (.int .i64 cc.w)) (p := ⟨w1.heap.size, 3, none⟩) vr (.int .i64 cc.h)
               have kF4 := blk_other (blk_other (blk_other (blk_other kF (p := ⟨w1.heap.size, 0, none⟩) vb (.int .i64 cc.x)) (p := ⟨w1.heap.size, 1, none⟩) vb (.int .i64 cc.y)) (p := ⟨w1.heap.size, 2, none⟩) vb (.int .i64 cc.w)) (p := ⟨w1.heap.size, 3, none⟩) vb (.int .i64 cc.h)
               have hS4 : ((((w2.setCell ⟨w1.heap.size, 0, none⟩ (.int .i64 cc.x)).setCell ⟨w1.heap.size, 1, none⟩ (.int .i64 cc.y)).setCell ⟨w1.heap.size, 2, none⟩ (.int .i64 cc.w)).setCell ⟨w1.heap.size, 3, none⟩ (.int .i64 cc.h)).cell? ⟨wr.heap.size, 0, none⟩ = some (.int .i64 r.x) ∧ ((((w2.setCell ⟨w1.heap.size, 0, none⟩ (.int .i64 cc.x)).setCell ⟨w1.heap.size, 1, none⟩ (.int .i64 cc.y)).setCell ⟨w1.heap.size, 2, none⟩ (.int .i64 cc.w)).setCell ⟨w1.heap.size, 3, none⟩ (.int .i64 cc.h)).cell? ⟨wr.heap.size, 1, none⟩ = some (.int .i64 r.y) ∧ ((((w2.setCell ⟨w1.heap.size, 0, none⟩ (.int .i64 cc.x)).setCell ⟨w1.heap.size, 1, none⟩ (.int .i64 cc.y)).setCell ⟨w1.heap.size, 2, none⟩ (.int .i64 cc.w)).setCell ⟨w1.heap.size, 3, none⟩ (.int .i64 cc.h)).cell? ⟨wr.heap.size, 2, none⟩ = some (.int .i64 r.w) ∧ ((((w2.setCell ⟨w1.heap.size, 0, none⟩ (.int .i64 cc.x)).setCell ⟨w1.heap.size, 1, none⟩ (.int .i64 cc.y)).setCell ⟨w1.heap.size, 2, none⟩ (.int .i64 cc.w)).setCell ⟨w1.heap.size, 3, none⟩ (.int .i64 cc.h)).cell? ⟨wr.heap.size, 3, none⟩ = some (.int .i64 r.h) ∧ ((((w2.setCell ⟨w1.heap.size, 0, none⟩ (.int .i64 cc.x)).setCell ⟨w1.heap.size, 1, none⟩ (.int .i64 cc.y)).setCell ⟨w1.heap.size, 2, none⟩ (.int .i64 cc.w)).setCell ⟨w1.heap.size, 3, none⟩ (.int .i64 cc.h)).cell? ⟨b0, 0, none⟩ = some (.int .i64 0) ∧ ((((w2.setCell ⟨w1.heap.size, 0, none⟩ (.int .i64 cc.x)).setCell ⟨w1.heap.size, 1, none⟩ (.int .i64 cc.y)).setCell ⟨w1.heap.size, 2, none⟩ (.int .i64 cc.w)).setCell ⟨w1.heap.size, 3, none⟩ (.int .i64 cc.h)).cell? ⟨b0, 1, none⟩ = some (.int .i64 0) ∧ ((((w2.setCell ⟨w1.heap.size, 0, none⟩ (.int .i64 cc.x)).setCell ⟨w1.heap.size, 1, none⟩ (.int .i64 cc.y)).setCell ⟨w1.heap.size, 2, none⟩ (.int .i64 cc.w)).setCell ⟨w1.heap.size, 3, none⟩ (.int .i64 cc.h)).cell? ⟨b0, 2, none⟩ = some (.int .i64 (fk.W : Int)) ∧ ((((w2.setCell ⟨w1.heap.size, 0, none⟩ (.int .i64 cc.x)).setCell ⟨w1.heap.size, 1, none⟩ (.int .i64 cc.y)).setCell ⟨w1.heap.size, 2, none⟩ (.int .i64 cc.w)).setCell ⟨w1.heap.size, 3, none⟩ (.int .i64 cc.h)).cell? ⟨b0, 3, none⟩ = some (.int .i64 (fk.H : Int)) := ⟨blk_cell kK4 0, blk_cell kK4 1, blk_cell kK4 2, blk_cell kK4 3, blk_cell kF4 0, blk_cell kF4 1, blk_cell kF4 2, blk_cell kF4 3⟩
               have HS4 := hide hS4
               clear hS4 kK kF kK4 kF4
               have HZ2 := hide hz2
               clear hk2 hb2' hz2)))
        · go_wp2_with fail
          go_meet
          case rel => exact ⟨rfl, w2.heap.size, rfl, new_at w2 _ _ rfl, lr2, ((unhide HB1).trans ((unhide HB2).mono (unhide HB1).size)).alloc (Nat.le_trans (unhide HB1).size (unhide HB2).size) _⟩
        · go_wp2_with fail
          go_meet
          case rel => exact ⟨rfl, w1.heap.size, rfl, blk_set (i := 3) (blk_set (i := 2) (blk_set (i := 1) (blk_set (i := 0) (unhide HZ2) _) _) _) _, hlr, (((((unhide HB1).trans ((unhide HB2).mono (unhide HB1).size)).setCell (p := ⟨w1.heap.size, 0, none⟩) (unhide HB1).size _).setCell (p := ⟨w1.heap.size, 1, none⟩) (unhide HB1).size _).setCell (p := ⟨w1.heap.size, 2, none⟩) (unhide HB1).size _).setCell (p := ⟨w1.heap.size, 3, none⟩) (unhide HB1).size _⟩
      case rest =>
        obtain ⟨rfl, sbx, rfl, hsb, hsx, hBx⟩ := hcut
        have hFc := (unhide HFk).below hBx
        have hBc : But C w wc := (unhide HBk).trans (.of_below hBx)
        have hcl : ¬ C sbx := fun hc => by have := hCl _ hc; have := (unhide HBk).size; omega
        obtain ⟨cx, hcx⟩ : ∃ cx : Nat, cc.x = (cx : Int) := ⟨cc.x.toNat, by omega⟩
        obtain ⟨cy, hcy⟩ : ∃ cy : Nat, cc.y = (cy : Int) := ⟨cc.y.toNat, by omega⟩
        obtain ⟨cw, hcw⟩ : ∃ cw : Nat, cc.w = (cw : Int) := ⟨cc.w.toNat, by omega⟩
        obtain ⟨ch, hch⟩ : ∃ ch : Nat, cc.h = (ch : Int) := ⟨cc.h.toNat, by omega⟩
        rw [hcx, hcy, hcw, hch] at hsb
        have hcw8 : cw ≤ 8 := by omega
        have hch8 : ch ≤ 8 := by omega
        obtain ⟨m, hm⟩ : ∃ m, m = cw * ch := ⟨_, rfl⟩
        have hm64 : m ≤ 64 := by rw [hm]; exact Nat.mul_le_mul hcw8 hch8
        have hmw : IntKind.i64.wrap ((cw : Int) * (ch : Int)) = (m : Int) := by
          rw [show (cw : Int) * (ch : Int) = ((cw * ch : Nat) : Int) by simp, ← hm, IntKind.wrap_i64]; omega
        have s0 : wc.cell? ⟨sbx, 0, none⟩ = some (.int .i64 (cx : Int)) := blk_cell hsb 0
        have s1 : wc.cell? ⟨sbx, 1, none⟩ = some (.int .i64 (cy : Int)) := blk_cell hsb 1
        have s2 : wc.cell? ⟨sbx, 2, none⟩ = some (.int .i64 (cw : Int)) := blk_cell hsb 2
        have s3 : wc.cell? ⟨sbx, 3, none⟩ = some (.int .i64 (ch : Int)) := blk_cell hsb 3
        have HSB := hide hsb
        have HFc := hide hFc
        have HBc := hide hBc
        have HMm := hide hm
        have HX := hide (And.intro hcx (And.intro hcy (And.intro hcw hch)))
        clear hsb hFc hBc hm x0 x1 x2 x3 y0 y1 y2 y3 r0 r1 r2 r3 hBx
        go_wp2
        go_loopw [25] (fun a wq => ∃ i : Nat, i ≤ m ∧ a = .int .i64 (i : Int) ∧ Fr C wq b0 (damC fk cc i) v ∧ But C w wq ∧ wq.heap[sbx]? = some (.cells #[.int .i64 (cx : Int), .int .i64 (cy : Int), .int .i64 (cw : Int), .int .i64 (ch : Int)] 29 (0, 0))) (fun a _ => m - (intOf a).toNat)
        case atStart => exact ⟨0, Nat.zero_le _, rfl, by simpa [damC] using unhide HFc, unhide HBc, unhide HSB⟩
        case round =>
          obtain ⟨i, hi, rfl, hFi, hBi, hsi⟩ := hrel
          by_cases hilt : i < m
          · have hmm := unhide HMm
            obtain ⟨g1, g2, g3, g4⟩ := unhide HX
            have hcw0 : 0 < cw := Nat.pos_of_ne_zero (fun e => by rw [e] at hmm; simp at hmm; omega)
            have hq : i / cw < ch := (Nat.div_lt_iff_lt_mul hcw0).2 (by rw [Nat.mul_comm, ← hmm]; exact hilt)
            have hrm : i % cw < cw := Nat.mod_lt _ hcw0
            have hch0 : 0 < ch := Nat.lt_of_le_of_lt (Nat.zero_le _) hq
            have hxw : cx + cw ≤ fk.W := by have := B7 (by omega); omega
            have hyh : cy + ch ≤ fk.H := by have := B8 (by omega); omega
            obtain ⟨A, hA⟩ : ∃ A, A = cy + i / cw := ⟨_, rfl⟩
            obtain ⟨D, hD⟩ : ∃ D, D = A * fk.W := ⟨_, rfl⟩
            have hAl : A < fk.H := by omega
            have hDl : D + fk.W ≤ fk.W * fk.H := by
              rw [hD, Nat.mul_comm fk.W fk.H]
              have : (A + 1) * fk.W ≤ fk.H * fk.W := Nat.mul_le_mul_right _ hAl
              rw [Nat.add_mul, Nat.one_mul] at this; exact this
            have hWH : fk.W * fk.H ≤ 256 := by have := Nat.mul_le_mul fW.2 fH.2; omega
            obtain ⟨p, hp⟩ : ∃ p, p = D + cx + i % cw := ⟨_, rfl⟩
            have hpl : p < fk.W * fk.H := by omega
            have hpos : posC fk cc i = p := by
              unfold posC
              rw [g1, g2, g3, hp, hD, hA]
              rw [← Int.natCast_ediv, ← Int.natCast_emod, ← Int.natCast_add, ← Int.natCast_mul, ← Int.natCast_add, ← Int.natCast_add, Int.toNat_natCast]
            have hdW := damC_W fk cc i
            have hFd : Fr C wr.drew b0 (damC fk cc i) v := hFi.below ((Below.refl _ wr).drew)
            have HDm := hide (damage_at hFd p (by rw [hdW.1, hdW.2]; exact hpl) (by rw [hdW.1, hdW.2]; omega))
            rw [← hpos] at HDm
            rw [show damF (damC fk cc i) (posC fk cc i) = damC fk cc (i + 1) from (damC_succ _ _ _).symm, hpos] at HDm
            have qd : ((i / cw : Nat) : Int) = (i : Int) / (cw : Int) := Int.natCast_ediv _ _
            have qm : ((i % cw : Nat) : Int) = (i : Int) % (cw : Int) := Int.natCast_emod _ _
            have qD : ((cy : Int) + (i : Int) / (cw : Int)) * (fk.W : Int) = (D : Int) := by rw [← qd, ← Int.natCast_add, ← hA, ← Int.natCast_mul, ← hD]
            have e1 : IntKind.i64.wrap ((i : Int) / (cw : Int)) = (i : Int) / (cw : Int) := by rw [← qd, IntKind.wrap_i64]; omega
            have e2 : IntKind.i64.wrap ((cy : Int) + (i : Int) / (cw : Int)) = (cy : Int) + (i : Int) / (cw : Int) := by rw [← qd, IntKind.wrap_i64]; omega
            have e3 : IntKind.i64.wrap (((cy : Int) + (i : Int) / (cw : Int)) * (fk.W : Int)) = (D : Int) := by rw [qD, IntKind.wrap_i64]; omega
            have e4 : IntKind.i64.wrap ((D : Int) + (cx : Int)) = (D : Int) + (cx : Int) := by rw [IntKind.wrap_i64]; omega
            have e5 : IntKind.i64.wrap ((D : Int) + (cx : Int) + (i : Int).tmod (cw : Int)) = (p : Int) := by rw [Int.tmod_eq_emod_of_nonneg (Int.natCast_nonneg i), ← qm, IntKind.wrap_i64]; omega
            have t0 : wr.cell? ⟨sbx, 0, none⟩ = some (.int .i64 (cx : Int)) := blk_cell hsi 0
            have t1 : wr.cell? ⟨sbx, 1, none⟩ = some (.int .i64 (cy : Int)) := blk_cell hsi 1
            have t2 : wr.cell? ⟨sbx, 2, none⟩ = some (.int .i64 (cw : Int)) := blk_cell hsi 2
            have tW : wr.cell? ⟨b0, 2, none⟩ = some (.int .i64 (fk.W : Int)) := by
              have := blk_cell hFi.blk 2
              rw [this]
              show some (Value.int .i64 ((damC fk cc i).W : Int)) = _
              rw [hdW.1]
            have cw1 : ¬ cw = 0 := by omega
            have i1 : (i : Int) < (m : Int) := by omega
            have HSi := hide hsi
            have HBi := hide hBi
            clear hFd hFi hsi hBi hmm g1 g2 g3 g4 hq hrm hA hD hp hpos hdW qd qm qD hpl hDl hAl
            go_wp2
            go_region_held3 (fun w' => w'.cell? ⟨sbx, 0, none⟩ = some (.int .i64 (cx : Int)) ∧ w'.cell? ⟨sbx, 1, none⟩ = some (.int .i64 (cy : Int)) ∧ w'.cell? ⟨sbx, 2, none⟩ = some (.int .i64 (cw : Int)) ∧ w'.cell? ⟨b0, 2, none⟩ = some (.int .i64 (fk.W : Int)))
              (first | exact unhide HS5 | go_keep)
              ((go_at_call 85
                refine (unhide HDm).mono ?_
                rintro e w5 ⟨⟨u, rfl⟩, hF5, hb5, hsz5⟩
                have hs5 := hb5.heap (w := wr.drew) (unhide HSi) hcl
                have hS5 : w5.cell? ⟨sbx, 0, none⟩ = some (.int .i64 (cx : Int)) ∧ w5.cell? ⟨sbx, 1, none⟩ = some (.int .i64 (cy : Int)) ∧ w5.cell? ⟨sbx, 2, none⟩ = some (.int .i64 (cw : Int)) ∧ w5.cell? ⟨b0, 2, none⟩ = some (.int .i64 (fk.W : Int)) := ⟨blk_cell hs5 0, blk_cell hs5 1, blk_cell hs5 2, by
                  have := blk_cell hF5.blk 2
                  rw [this]
                  show some (Value.int .i64 ((damC fk cc (i + 1)).W : Int)) = _
                  rw [(damC_W fk cc (i + 1)).1]⟩
                have HS5 := hide hS5
                have HF5 := hide hF5
                have HB5 := hide (((unhide HBi).drew).trans hb5)
                have HSi5 := hide hs5
                clear hF5 hb5 hsz5 hs5 hS5))
            all_goals
              (try simp only [Exit.then])
              (try go_simp)
              go_wp2
              go_roundw
              case rel => exact ⟨i + 1, by omega, by go_num, unhide HF5, unhide HB5, unhide HSi5⟩
              case measure => simp [intOf]; omega
          · have : i = m := by omega
            subst this
            have e2 : damL f (rs.take (k + 1)) = damC fk cc i := by
              obtain ⟨g1, g2, g3, g4⟩ := unhide HX
              rw [List.take_add_one, unhide HR]
              show damL f (rs.take k ++ [r]) = _
              rw [damL_snoc, ← unhide HFK]
              unfold damR
              rw [← unhide HCC, g3, g4, show ((cw : Int) * (ch : Int)).toNat = i by rw [← Int.natCast_mul, Int.toNat_natCast]; exact (unhide HMm).symm]
            have HFi := hide hFi
            have HBi := hide hBi
            clear hFi hBi hsi
            go_wp2
            go_roundw
            case rel => exact ⟨k + 1, by omega, by go_num, by rw [e2]; exact unhide HFi, unhide HBi⟩
            case measure => simp [intOf]; omega
    · have : k = n := by omega
      subst this
      have e1 : rs.take k = rs := by rw [unhide HN]; simp
      rw [e1] at hFk
      have HF := hide hFk
      have HB := hide hBk
      clear hFk hBk
      go_wp2
      go_end0
      exact ⟨⟨_, rfl⟩, unhide HF, unhide HB⟩
end Go.Proofs.Ytfnockbgkcgpkaa
