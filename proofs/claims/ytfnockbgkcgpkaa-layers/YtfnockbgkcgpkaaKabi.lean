import Derived.Test.YtfnockbgkcgpkaaKabh
import Derived.ArgAppend
import Derived.Laws.ResultCell
import Derived.Laws.Rows
set_option linter.all false
namespace Go.Proofs.Ytfnockbgkcgpkaa
open Go.RowKit Go.Proofs.Panes
set_option maxRecDepth 100000

def kpk (c n : Int) : Int := (if c < 0 then -(c + 1) else c) % n
theorem kpk_bd (c n : Int) (hn : 0 < n) : 0 ≤ kpk c n ∧ kpk c n < n := by
  unfold kpk; exact ⟨Int.emod_nonneg _ (by omega), Int.emod_lt_of_pos _ hn⟩
set_option maxHeartbeats 400000 in
theorem kpick_any (c n : Int) (w : World) (hc : -9223372036854775808 ≤ c ∧ c ≤ 9223372036854775807) (hn : 0 < n ∧ n ≤ 9000000000) :
    Calls Try.prog 20 #[.int .i64 c, .int .i64 n] w fun e w' => e = .returned (.int .i64 (kpk c n)) ∧ w' = w := by
  by_cases h : c < 0
  · have e : kpk c n = -((c + 1).tmod n) := by unfold kpk; rw [if_pos h, ← Int.neg_tmod, Int.tmod_eq_emod_of_nonneg (by omega)]
    rw [e]
    go_enter Try.func20, Try.ntmps20
    go_wp2
    go_ret
    exact ⟨rfl, rfl⟩
  · have e : kpk c n = c % n := by unfold kpk; rw [if_neg h]
    rw [e]
    go_enter Try.func20, Try.ntmps20
    go_wp2
    go_ret
    exact ⟨rfl, rfl⟩
def FitI (c : Int) : Prop := -9223372036854775808 ≤ c ∧ c ≤ 9223372036854775807
/-- A configuration out of a raw one. -/
def confC (c : Cfg) : Cfg := ⟨1 + kpk c.w 16, 1 + kpk c.h 16, 1 + kpk c.clients 4, 1 + kpk c.queue 8, 1 + kpk c.most 300, 1 + kpk c.most 300 + kpk c.quantum (600 - (1 + kpk c.most 300) + 1), 1 + kpk c.surfaces 4, 1 + kpk c.behind 4294967295⟩
theorem confC_ok (c : Cfg) : okCfg (confC c) = true := by
  have h1 := kpk_bd c.w 16 (by omega)
  have h2 := kpk_bd c.h 16 (by omega)
  have h3 := kpk_bd c.clients 4 (by omega)
  have h4 := kpk_bd c.queue 8 (by omega)
  have h5 := kpk_bd c.most 300 (by omega)
  have h6 := kpk_bd c.quantum (600 - (1 + kpk c.most 300) + 1) (by omega)
  have h7 := kpk_bd c.surfaces 4 (by omega)
  have h8 := kpk_bd c.behind 4294967295 (by omega)
  simp only [okCfg, Bool.and_eq_true, inB_iff, confC]
  omega
structure FitC (c : Cfg) : Prop where
  w : FitI c.w
  h : FitI c.h
  clients : FitI c.clients
  queue : FitI c.queue
  most : FitI c.most
  quantum : FitI c.quantum
  surfaces : FitI c.surfaces
  behind : FitI c.behind

theorem results_cell1 {fn : Func} {p : Tmp} {ty : TypeId} (h : fn.results = #[.cell p ty]) (tmps : Array Value) (P : Program) (w : World) :
    (results fn tmps).run P w = ((asAddr (tmps.getD p undef)).run P w).andThen fun a w₁ => (loadVar ty a).run P w₁ := by
  simp only [results, h]
  simp [Sem.run_bind, Result.andThen]
theorem res_config (tmps : Array Value) (w : World) (g : Nat) (cs : Array Value) (hp : tmps.getD 2 undef = .pointer (some ⟨g, 0, none⟩)) (hg : w.heap[g]? = some (.cells cs 48)) (hs : cs.size = 8) : (results Try.f39 tmps).run Try.prog w = .ok (.agg cs) w := by
  rw [results_cell1 rfl, hp]
  have h := run_loadVar_row (P := Try.prog) w g 48 48 cs (0, 0) _ hg Try.underlying48 rfl (by rw [hs]; rfl)
  simp [asAddr, h, Result.andThen]
set_option maxHeartbeats 4000000 in
theorem config_any (c : Cfg) (hc : FitC c) (w : World) : Calls Try.prog 39 #[cval c] w fun e w' => e = .returned (cval (confC c)) ∧ Below w.heap.size w w' := by
  obtain ⟨cw, ch, cc, cq, cm, cu, cs, cb⟩ := c
  obtain ⟨f0, f1, f2, f3, f4, f5, f6, f7⟩ := hc
  simp only at f0 f1 f2 f3 f4 f5 f6 f7
  unfold cval confC
  simp only
  have HF := hide (And.intro f0 (And.intro f1 (And.intro f2 (And.intro f3 (And.intro f4 (And.intro f5 (And.intro f6 f7)))))))
  have b0 := kpk_bd cw 16 (by omega)
  have b1 := kpk_bd ch 16 (by omega)
  have b2 := kpk_bd cc 4 (by omega)
  have b3 := kpk_bd cq 8 (by omega)
  have b4 := kpk_bd cm 300 (by omega)
  have b6 := kpk_bd cs 4 (by omega)
  have b7 := kpk_bd cb 4294967295 (by omega)
  have b5 := kpk_bd cu (600 - (1 + kpk cm 300) + 1) (by omega)
  clear f0 f1 f2 f3 f4 f5 f6 f7
  have e0 : IntKind.i64.wrap (1 + kpk cw 16) = 1 + kpk cw 16 := by rw [IntKind.wrap_i64]; omega
  have e1 : IntKind.i64.wrap (1 + kpk ch 16) = 1 + kpk ch 16 := by rw [IntKind.wrap_i64]; omega
  have e2 : IntKind.i64.wrap (1 + kpk cc 4) = 1 + kpk cc 4 := by rw [IntKind.wrap_i64]; omega
  have e3 : IntKind.i64.wrap (1 + kpk cq 8) = 1 + kpk cq 8 := by rw [IntKind.wrap_i64]; omega
  have e4 : IntKind.i64.wrap (1 + kpk cm 300) = 1 + kpk cm 300 := by rw [IntKind.wrap_i64]; omega
  have e6 : IntKind.i64.wrap (1 + kpk cs 4) = 1 + kpk cs 4 := by rw [IntKind.wrap_i64]; omega
  have e7 : IntKind.i64.wrap (1 + kpk cb 4294967295) = 1 + kpk cb 4294967295 := by rw [IntKind.wrap_i64]; omega
  have e8 : IntKind.i64.wrap (600 - (1 + kpk cm 300)) = 600 - (1 + kpk cm 300) := by rw [IntKind.wrap_i64]; omega
  have e9 : IntKind.i64.wrap (600 - (1 + kpk cm 300) + 1) = 600 - (1 + kpk cm 300) + 1 := by rw [IntKind.wrap_i64]; omega
  have e5 : IntKind.i64.wrap (1 + kpk cm 300 + kpk cu (600 - (1 + kpk cm 300) + 1)) = 1 + kpk cm 300 + kpk cu (600 - (1 + kpk cm 300) + 1) := by rw [IntKind.wrap_i64]; omega
  go_enter Try.func39, Try.ntmps39
  go_wp2_with fail
  obtain ⟨W1, hW1⟩ : ∃ W1 : World, W1 = (w.alloc (.cells #[.int .i64 cw, .int .i64 ch, .int .i64 cc, .int .i64 cq, .int .i64 cm, .int .i64 cu, .int .i64 cs, .int .i64 cb] 40)).alloc (.cells #[.int .i64 0, .int .i64 0, .int .i64 0, .int .i64 0, .int .i64 0, .int .i64 0, .int .i64 0, .int .i64 0] 48) := ⟨_, rfl⟩
  rw [← hW1]
  have hN0 : W1.heap[w.heap.size]? = some (.cells #[.int .i64 cw, .int .i64 ch, .int .i64 cc, .int .i64 cq, .int .i64 cm, .int .i64 cu, .int .i64 cs, .int .i64 cb] 40) := by rw [hW1]; exact blk_alloc (new_at _ _ _ rfl) _
  have hN1 : W1.heap[w.heap.size + 1]? = some (.cells #[.int .i64 0, .int .i64 0, .int .i64 0, .int .i64 0, .int .i64 0, .int .i64 0, .int .i64 0, .int .i64 0] 48) := by rw [hW1]; exact new_at _ _ _ (by simp)
  have hB1 : Below w.heap.size w W1 := by rw [hW1]; exact ((Below.refl _ w).alloc (Nat.le_refl _) _).alloc (by simp) _
  have x0 : W1.cell? ⟨w.heap.size, 0, none⟩ = some (.int .i64 cw) := blk_cell hN0 0
  have x1 : W1.cell? ⟨w.heap.size, 1, none⟩ = some (.int .i64 ch) := blk_cell hN0 1
  have x2 : W1.cell? ⟨w.heap.size, 2, none⟩ = some (.int .i64 cc) := blk_cell hN0 2
  have x3 : W1.cell? ⟨w.heap.size, 3, none⟩ = some (.int .i64 cq) := blk_cell hN0 3
  have x4 : W1.cell? ⟨w.heap.size, 4, none⟩ = some (.int .i64 cm) := blk_cell hN0 4
  have x5 : W1.cell? ⟨w.heap.size, 5, none⟩ = some (.int .i64 cu) := blk_cell hN0 5
  have x6 : W1.cell? ⟨w.heap.size, 6, none⟩ = some (.int .i64 cs) := blk_cell hN0 6
  have x7 : W1.cell? ⟨w.heap.size, 7, none⟩ = some (.int .i64 cb) := blk_cell hN0 7
  have hlt : w.heap.size < W1.heap.size := lt_of_heap hN0
  have hne : w.heap.size ≠ W1.heap.size := by omega
  have HN1 := hide hN1
  have HN0 := hide hN0
  have HB1 := hide hB1
  clear hW1 hN0 hN1 hB1
  rename_i K aK
  have HK : Hid (K { tmps := #[.agg #[.int .i64 cw, .int .i64 ch, .int .i64 cc, .int .i64 cq, .int .i64 cm, .int .i64 cu, .int .i64 cs, .int .i64 cb], .pointer (some ⟨w.heap.size, 0, none⟩), .pointer (some ⟨w.heap.size + 1, 0, none⟩), .pointer (some ⟨W1.heap.size, 0, none⟩), .pointer (some ⟨w.heap.size, 0, none⟩), .int .i64 cw, .int .i64 (kpk cw 16), .int .i64 (1 + kpk cw 16), .pointer (some ⟨w.heap.size, 1, none⟩), .int .i64 ch, .int .i64 (kpk ch 16), .int .i64 (1 + kpk ch 16), .pointer (some ⟨w.heap.size, 2, none⟩), .int .i64 cc, .int .i64 (kpk cc 4), .int .i64 (1 + kpk cc 4), .pointer (some ⟨w.heap.size, 3, none⟩), .int .i64 cq, .int .i64 (kpk cq 8), .int .i64 (1 + kpk cq 8), .pointer (some ⟨w.heap.size, 6, none⟩), .int .i64 cs, .int .i64 (kpk cs 4), .int .i64 (1 + kpk cs 4), .pointer (some ⟨w.heap.size, 7, none⟩), .int .i64 cb, .int .i64 (kpk cb 4294967295), .int .i64 (1 + kpk cb 4294967295), .agg #[.int .i64 (1 + kpk cw 16), .int .i64 (1 + kpk ch 16), .int .i64 (1 + kpk cc 4), .int .i64 (1 + kpk cq 8), .int .i64 0, .int .i64 0, .int .i64 (1 + kpk cs 4), .int .i64 (1 + kpk cb 4294967295)], undef, undef, undef, undef, undef, undef, undef, undef, undef, undef, undef, undef, undef, undef, undef, undef, undef], defers := [] } (W1.alloc (.cells #[.int .i64 (1 + kpk cw 16), .int .i64 (1 + kpk ch 16), .int .i64 (1 + kpk cc 4), .int .i64 (1 + kpk cq 8), .int .i64 0, .int .i64 0, .int .i64 (1 + kpk cs 4), .int .i64 (1 + kpk cb 4294967295)] 48)).drew) := by
    refine aK _ _ ?_
    clear aK
    obtain ⟨W2, hW2⟩ : ∃ W2 : World, W2 = (W1.alloc (.cells #[.int .i64 (1 + kpk cw 16), .int .i64 (1 + kpk ch 16), .int .i64 (1 + kpk cc 4), .int .i64 (1 + kpk cq 8), .int .i64 0, .int .i64 0, .int .i64 (1 + kpk cs 4), .int .i64 (1 + kpk cb 4294967295)] 48)).drew := ⟨_, rfl⟩
    rw [← hW2]
    have hB2 : Below W1.heap.size W1 W2 := by rw [hW2]; exact ((Below.refl _ W1).alloc (Nat.le_refl _) _).drew
    have hM2 : W2.heap[W1.heap.size]? = some (.cells #[.int .i64 (1 + kpk cw 16), .int .i64 (1 + kpk ch 16), .int .i64 (1 + kpk cc 4), .int .i64 (1 + kpk cq 8), .int .i64 0, .int .i64 0, .int .i64 (1 + kpk cs 4), .int .i64 (1 + kpk cb 4294967295)] 48) := by rw [hW2]; exact new_at _ _ _ rfl
    have hC2 : W2.heap[w.heap.size]? = _ := (hB2.block _ hlt).trans (unhide HN0)
    have hR2 : W2.heap[w.heap.size + 1]? = _ := (hB2.block _ (lt_of_heap (unhide HN1))).trans (unhide HN1)
    have hBw : Below w.heap.size w W2 := (unhide HB1).trans (hB2.mono (unhide HB1).size)
    obtain ⟨sb, hsb⟩ : ∃ sb, sb = W1.heap.size := ⟨_, rfl⟩
    rw [← hsb] at hM2
    rw [← hsb]
    have y4 : W2.cell? ⟨w.heap.size, 4, none⟩ = some (.int .i64 cm) := blk_cell hC2 4
    have y5 : W2.cell? ⟨w.heap.size, 5, none⟩ = some (.int .i64 cu) := blk_cell hC2 5
    have z0 : W2.cell? ⟨sb, 0, none⟩ = some (.int .i64 (1 + kpk cw 16)) := blk_cell hM2 0
    have z1 : W2.cell? ⟨sb, 1, none⟩ = some (.int .i64 (1 + kpk ch 16)) := blk_cell hM2 1
    have z2 : W2.cell? ⟨sb, 2, none⟩ = some (.int .i64 (1 + kpk cc 4)) := blk_cell hM2 2
    have z3 : W2.cell? ⟨sb, 3, none⟩ = some (.int .i64 (1 + kpk cq 8)) := blk_cell hM2 3
    have z4 : W2.cell? ⟨sb, 4, none⟩ = some (.int .i64 0) := blk_cell hM2 4
    have z5 : W2.cell? ⟨sb, 5, none⟩ = some (.int .i64 0) := blk_cell hM2 5
    have z6 : W2.cell? ⟨sb, 6, none⟩ = some (.int .i64 (1 + kpk cs 4)) := blk_cell hM2 6
    have z7 : W2.cell? ⟨sb, 7, none⟩ = some (.int .i64 (1 + kpk cb 4294967295)) := blk_cell hM2 7
    have zz : ∀ t, W2.frozen? ⟨sb, t, none⟩ = false := blk_thaw hM2
    have rz : ∀ t, W2.frozen? ⟨w.heap.size + 1, t, none⟩ = false := blk_thaw hR2
    have r0 : W2.cell? ⟨w.heap.size + 1, 0, none⟩ = some (.int .i64 0) := blk_cell hR2 0
    have r1 : W2.cell? ⟨w.heap.size + 1, 1, none⟩ = some (.int .i64 0) := blk_cell hR2 1
    have r2 : W2.cell? ⟨w.heap.size + 1, 2, none⟩ = some (.int .i64 0) := blk_cell hR2 2
    have r3 : W2.cell? ⟨w.heap.size + 1, 3, none⟩ = some (.int .i64 0) := blk_cell hR2 3
    have r4 : W2.cell? ⟨w.heap.size + 1, 4, none⟩ = some (.int .i64 0) := blk_cell hR2 4
    have r5 : W2.cell? ⟨w.heap.size + 1, 5, none⟩ = some (.int .i64 0) := blk_cell hR2 5
    have r6 : W2.cell? ⟨w.heap.size + 1, 6, none⟩ = some (.int .i64 0) := blk_cell hR2 6
    have r7 : W2.cell? ⟨w.heap.size + 1, 7, none⟩ = some (.int .i64 0) := blk_cell hR2 7
    have n1 : ¬ sb = w.heap.size := by omega
    have n2 : ¬ sb = w.heap.size + 1 := by have := lt_of_heap (unhide HN1); omega
    have n3 : ¬ w.heap.size = w.heap.size + 1 := by omega
    have HR2 := hide hR2
    have HBw := hide hBw
    have HM2 := hide hM2
    have hsbw : w.heap.size ≤ sb := by omega
    clear hW2 hB2 hM2 hC2 hR2 hBw hsb x0 x1 x2 x3 x4 x5 x6 x7
    go_wp2_with (go_at_call 20; refine (kpick_any _ _ _ (by first | exact (unhide HF).2.2.2.2.1 | exact (unhide HF).2.2.2.2.2.1) (by omega)).mono ?_; rintro e w' ⟨rfl, hw'⟩; have hw2 := hw'.symm; clear hw'; subst hw2)
    have hM3 := blk_set (i := 4) (unhide HM2) (.int .i64 (1 + kpk cm 300))
    have hs3 : But (fun x => x = sb) W2 (W2.setCell ⟨sb, 4, none⟩ (.int .i64 (1 + kpk cm 300))) := (But.refl (fun x => x = sb) W2).setCell (p := ⟨sb, 4, none⟩) (.inl rfl) _
    have hR3 := hs3.heap (unhide HR2) (fun e => n2 e.symm)
    have hBw3 : Below w.heap.size w (W2.setCell ⟨sb, 4, none⟩ (.int .i64 (1 + kpk cm 300))) := (unhide HBw).setCell (p := ⟨sb, 4, none⟩) hsbw _
    have y5' : (W2.setCell ⟨sb, 4, none⟩ (.int .i64 (1 + kpk cm 300))).cell? ⟨w.heap.size, 5, none⟩ = some (.int .i64 cu) := (World.cell?_of_block (Below.heap_setCell _ _ _ _ (fun e => n1 e.symm))).trans y5
    clear y4 y5 z0 z1 z2 z3 z4 z5 z6 z7 zz rz r0 r1 r2 r3 r4 r5 r6 r7 hs3 HR2 HBw HM2
    generalize W2.setCell ⟨sb, 4, none⟩ (.int .i64 (1 + kpk cm 300)) = W3 at *
    have z4 : W3.cell? ⟨sb, 4, none⟩ = some (.int .i64 (1 + kpk cm 300)) := by have := blk_cell hM3 4; simpa using this
    have z5 : W3.cell? ⟨sb, 5, none⟩ = some (.int .i64 0) := by have := blk_cell hM3 5; simpa using this
    have zz : ∀ t, W3.frozen? ⟨sb, t, none⟩ = false := blk_thaw hM3
    have HS4 : Hid (∀ u : Value, (W3.setCell ⟨sb, 5, none⟩ u).drew.cell? ⟨sb, 4, none⟩ = some (.int .i64 (1 + kpk cm 300)) ∧ (W3.setCell ⟨sb, 5, none⟩ u).drew.cell? ⟨w.heap.size, 5, none⟩ = some (.int .i64 cu)) := fun u => ⟨by
      have : (W3.setCell ⟨sb, 5, none⟩ u).cell? ⟨sb, 4, none⟩ = some (.int .i64 (1 + kpk cm 300)) := by have := blk_cell (blk_set (i := 5) hM3 u) 4; simpa using this
      exact this, (World.cell?_of_block (Below.heap_setCell _ _ _ _ (fun e => n1 e.symm))).trans y5'⟩
    have HM3 := hide hM3
    have HR3 := hide hR3
    have HB3 := hide hBw3
    clear hM3 hR3 hBw3
    go_region_held3 (fun w' => w'.cell? ⟨sb, 4, none⟩ = some (.int .i64 (1 + kpk cm 300)) ∧ w'.cell? ⟨w.heap.size, 5, none⟩ = some (.int .i64 cu))
      (first | exact (unhide HS4) _ | (refine ⟨?_, ?_⟩ <;> assumption) | go_keep)
      ((go_at_call 20
        refine (kpick_any _ _ _ (by exact (unhide HF).2.2.2.2.2.1) (by omega)).mono ?_
        rintro e w' ⟨rfl, rfl⟩))
    have hM4 := blk_set (i := 5) (unhide HM3) (.int .i64 (1 + kpk cm 300 + kpk cu (600 - (1 + kpk cm 300) + 1)))
    have hs4 : But (fun x => x = sb) W3 (W3.setCell ⟨sb, 5, none⟩ (.int .i64 (1 + kpk cm 300 + kpk cu (600 - (1 + kpk cm 300) + 1)))) := (But.refl (fun x => x = sb) W3).setCell (p := ⟨sb, 5, none⟩) (.inl rfl) _
    have hR4 := hs4.heap (unhide HR3) (fun e => n2 e.symm)
    have hBw4 : Below w.heap.size w (W3.setCell ⟨sb, 5, none⟩ (.int .i64 (1 + kpk cm 300 + kpk cu (600 - (1 + kpk cm 300) + 1)))) := (unhide HB3).setCell (p := ⟨sb, 5, none⟩) hsbw _
    clear z4 z5 zz y5' hs4 HM3 HR3 HB3 HS4
    have hM5 : (W3.setCell ⟨sb, 5, none⟩ (.int .i64 (1 + kpk cm 300 + kpk cu (600 - (1 + kpk cm 300) + 1)))).drew.heap[sb]? = _ := hM4
    have hR5 : (W3.setCell ⟨sb, 5, none⟩ (.int .i64 (1 + kpk cm 300 + kpk cu (600 - (1 + kpk cm 300) + 1)))).drew.heap[w.heap.size + 1]? = _ := hR4
    have hB5 := hBw4.drew
    clear hM4 hR4 hBw4
    generalize (W3.setCell ⟨sb, 5, none⟩ (.int .i64 (1 + kpk cm 300 + kpk cu (600 - (1 + kpk cm 300) + 1)))).drew = W4 at *
    have z0 : W4.cell? ⟨sb, 0, none⟩ = some (.int .i64 (1 + kpk cw 16)) := by have := blk_cell hM5 0; simpa using this
    have z1 : W4.cell? ⟨sb, 1, none⟩ = some (.int .i64 (1 + kpk ch 16)) := by have := blk_cell hM5 1; simpa using this
    have z2 : W4.cell? ⟨sb, 2, none⟩ = some (.int .i64 (1 + kpk cc 4)) := by have := blk_cell hM5 2; simpa using this
    have z3 : W4.cell? ⟨sb, 3, none⟩ = some (.int .i64 (1 + kpk cq 8)) := by have := blk_cell hM5 3; simpa using this
    have z4 : W4.cell? ⟨sb, 4, none⟩ = some (.int .i64 (1 + kpk cm 300)) := by have := blk_cell hM5 4; simpa using this
    have z5 : W4.cell? ⟨sb, 5, none⟩ = some (.int .i64 (1 + kpk cm 300 + kpk cu (600 - (1 + kpk cm 300) + 1))) := by have := blk_cell hM5 5; simpa using this
    have z6 : W4.cell? ⟨sb, 6, none⟩ = some (.int .i64 (1 + kpk cs 4)) := by have := blk_cell hM5 6; simpa using this
    have z7 : W4.cell? ⟨sb, 7, none⟩ = some (.int .i64 (1 + kpk cb 4294967295)) := by have := blk_cell hM5 7; simpa using this
    have rz : ∀ t, W4.frozen? ⟨w.heap.size + 1, t, none⟩ = false := blk_thaw hR5
    have r0 : W4.cell? ⟨w.heap.size + 1, 0, none⟩ = some (.int .i64 0) := blk_cell hR5 0
    have r1 : W4.cell? ⟨w.heap.size + 1, 1, none⟩ = some (.int .i64 0) := blk_cell hR5 1
    have r2 : W4.cell? ⟨w.heap.size + 1, 2, none⟩ = some (.int .i64 0) := blk_cell hR5 2
    have r3 : W4.cell? ⟨w.heap.size + 1, 3, none⟩ = some (.int .i64 0) := blk_cell hR5 3
    have r4 : W4.cell? ⟨w.heap.size + 1, 4, none⟩ = some (.int .i64 0) := blk_cell hR5 4
    have r5 : W4.cell? ⟨w.heap.size + 1, 5, none⟩ = some (.int .i64 0) := blk_cell hR5 5
    have r6 : W4.cell? ⟨w.heap.size + 1, 6, none⟩ = some (.int .i64 0) := blk_cell hR5 6
    have r7 : W4.cell? ⟨w.heap.size + 1, 7, none⟩ = some (.int .i64 0) := blk_cell hR5 7
    have HR5 := hide hR5
    have HB5 := hide hB5
    clear hM5 hR5 hB5
    go_wp2
    refine bodyPost_ret (res_config _ _ (w.heap.size + 1) #[.int .i64 (1 + kpk cw 16), .int .i64 (1 + kpk ch 16), .int .i64 (1 + kpk cc 4), .int .i64 (1 + kpk cq 8), .int .i64 (1 + kpk cm 300), .int .i64 (1 + kpk cm 300 + kpk cu (600 - (1 + kpk cm 300) + 1)), .int .i64 (1 + kpk cs 4), .int .i64 (1 + kpk cb 4294967295)] (by kernel_rfl) ?_ rfl) rfl ⟨rfl, ?_⟩
    · have := blk_set (i := 7) (blk_set (i := 6) (blk_set (i := 5) (blk_set (i := 4) (blk_set (i := 3) (blk_set (i := 2) (blk_set (i := 1) (blk_set (i := 0) (unhide HR5) (.int .i64 (1 + kpk cw 16))) (.int .i64 (1 + kpk ch 16))) (.int .i64 (1 + kpk cc 4))) (.int .i64 (1 + kpk cq 8))) (.int .i64 (1 + kpk cm 300))) (.int .i64 (1 + kpk cm 300 + kpk cu (600 - (1 + kpk cm 300) + 1)))) (.int .i64 (1 + kpk cs 4))) (.int .i64 (1 + kpk cb 4294967295))
      simpa using this
    · have hS : ∀ (i : Nat) (u : Value) {v : World}, Below w.heap.size w v → Below w.heap.size w (v.setCell ⟨w.heap.size + 1, i, none⟩ u) := fun i u v hv => hv.setCell (p := ⟨w.heap.size + 1, i, none⟩) (by simp) _
      exact hS _ _ (hS _ _ (hS _ _ (hS _ _ (hS _ _ (hS _ _ (hS _ _ (hS _ _ (unhide HB5))))))))
  clear aK
  go_region_held3 (fun w' => w'.cell? ⟨w.heap.size, 0, none⟩ = some (.int .i64 cw) ∧ w'.cell? ⟨w.heap.size, 1, none⟩ = some (.int .i64 ch) ∧ w'.cell? ⟨w.heap.size, 2, none⟩ = some (.int .i64 cc) ∧ w'.cell? ⟨w.heap.size, 3, none⟩ = some (.int .i64 cq) ∧ w'.cell? ⟨w.heap.size, 4, none⟩ = some (.int .i64 cm) ∧ w'.cell? ⟨w.heap.size, 5, none⟩ = some (.int .i64 cu) ∧ w'.cell? ⟨w.heap.size, 6, none⟩ = some (.int .i64 cs) ∧ w'.cell? ⟨w.heap.size, 7, none⟩ = some (.int .i64 cb))
    (first | (refine ⟨?_, ?_, ?_, ?_, ?_, ?_, ?_, ?_⟩ <;> assumption) | go_keep)
    ((go_at_call 20
      refine (kpick_any _ _ _ (by first | exact (unhide HF).1 | exact (unhide HF).2.1 | exact (unhide HF).2.2.1 | exact (unhide HF).2.2.2.1 | exact (unhide HF).2.2.2.2.2.2.1 | exact (unhide HF).2.2.2.2.2.2.2) (by omega)).mono ?_
      rintro e w' ⟨rfl, rfl⟩))
  all_goals
    simp only [Exit.then]
    go_simp
    exact unhide HK
end Go.Proofs.Ytfnockbgkcgpkaa
