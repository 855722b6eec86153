import Derived.Test.YtfnockbgkcgpkaaKabw
set_option linter.all false
namespace Go.Proofs.Ytfnockbgkcgpkaa
open Go.RowKit Go.Proofs.Panes
set_option maxRecDepth 100000
/-- One more number, from a new block. -/
theorem pushT_run {w : World} {base : Nat} {v : Value} {l : List Int} (hO : OwnN w base v l) (hb : base ≤ w.heap.size) (hl : l.length ≤ 1000000) (n : Int) :
    ∃ g cap w', (Builtin.append_ #[23, 23] 23 #[v, .slice (some ⟨w.heap.size, 0, none⟩) 1 1]).run Try.prog (w.alloc (.cells #[.int .i64 n] 3)) = .ok (.slice (some ⟨g, 0, none⟩) (l.length + 1) cap) w' ∧ OwnN w' base (.slice (some ⟨g, 0, none⟩) (l.length + 1) cap) (l ++ [n]) ∧ Below base w w' ∧ But (fun k => v.ownBlock = some k) w w' ∧ (v.ownBlock = some g ∨ w.heap.size ≤ g) := by
  obtain ⟨W, hW⟩ : ∃ W, W = w.alloc (.cells #[.int .i64 n] 3) := ⟨_, rfl⟩
  have hO1 : OwnN W base v l := by rw [hW]; exact World.ownsRow.alloc hO _
  have ht : W.cell? ⟨w.heap.size, 0, none⟩ = some (.int .i64 n) := by rw [hW]; exact blk_cell (new_at w _ _ rfl) 0
  have hbW : Below w.heap.size w W := by rw [hW]; exact (Below.refl _ w).alloc (Nat.le_refl _) _
  obtain ⟨g, cap, w', h1, h2, h3, h4, h5⟩ := pushN_run hO1 (Nat.le_trans hb hbW.size) hl n w.heap.size ht
  rw [← hW]
  exact ⟨g, cap, w', h1, h2, (hbW.mono hb).trans h3, (But.of_below hbW).trans h4, h5.imp id (fun e => by rw [e]; exact hbW.size)⟩
theorem ownN_mono {w : World} {base base' : Nat} {v : Value} {l : List Int} (h : OwnN w base v l) (hb : base' ≤ base) : OwnN w base' v l :=
  ⟨h.1, h.2.imp id (fun ⟨g, cap, cur, h1, h2, h3⟩ => ⟨g, cap, cur, h1, Nat.le_trans hb h2, h3⟩)⟩
theorem ownN_keep {w w' : World} {base : Nat} {v : Value} {l : List Int} (hO : OwnN w base v l) (hb : Below w.heap.size w w') : OwnN w' base v l :=
  World.ownsRow.kept (row := none) hO ⟨hb.os, hb.tape, hb.output, hb.size, fun k hk _ => hb.block k hk⟩ (by cases v.ownBlock <;> simp)
/-- 'append(rest, i)' behind the operation's block. -/
theorem raise_run {w : World} {base : Nat} {v : Value} {l : List Int} (hO : OwnN w base v l) (hb : base ≤ w.heap.size) (hl : l.length ≤ 1000000) (n : Int) (o : Obj) :
    ∃ g cap w', (Builtin.append_ #[23, 23] 23 #[v, .slice (some ⟨w.heap.size + 1, 0, none⟩) 1 1]).run Try.prog ((w.alloc o).alloc (.cells #[.int .i64 n] 3)) = .ok (.slice (some ⟨g, 0, none⟩) (l.length + 1) cap) w' ∧ OwnN w' base (.slice (some ⟨g, 0, none⟩) (l.length + 1) cap) (l ++ [n]) ∧ Below base w w' ∧ w'.heap[w.heap.size]? = some o := by
  obtain ⟨W, hW⟩ : ∃ W, W = w.alloc o := ⟨_, rfl⟩
  have hO1 : OwnN W base v l := by rw [hW]; exact World.ownsRow.alloc hO _
  have hz : W.heap.size = w.heap.size + 1 := by rw [hW]; simp
  have hk : W.heap[w.heap.size]? = some o := by rw [hW]; exact new_at w o _ rfl
  have hbW : Below w.heap.size w W := by rw [hW]; exact (Below.refl _ w).alloc (Nat.le_refl _) _
  obtain ⟨g, cap, w', h1, h2, h3, h4, -⟩ := pushT_run hO1 (Nat.le_trans hb hbW.size) hl n
  rw [hz] at h1
  rw [← hW]
  exact ⟨g, cap, w', h1, h2, (hbW.mono hb).trans h3, h4.heap hk (fun e => absurd (World.ownsRow.lt hO _ e).2 (Nat.lt_irrefl _))⟩
/-- 'append(append(nil, i), rest...)' behind the operation's block. -/
theorem lower_run {w : World} {base : Nat} {v : Value} {l : List Int} (hO : OwnN w base v l) (hb : base ≤ w.heap.size) (hl : l.length ≤ 1000000) (n : Int) (o : Obj) :
    ∃ g cap w', (Builtin.append_ #[23, 23] 23 #[.slice none 0 0, .slice (some ⟨w.heap.size + 1, 0, none⟩) 1 1]).run Try.prog ((w.alloc o).alloc (.cells #[.int .i64 n] 3)) = .ok (.slice (some ⟨g, 0, none⟩) 1 cap) w' ∧
      ∃ v' w2, (Builtin.append_ #[23, 23] 23 #[.slice (some ⟨g, 0, none⟩) 1 cap, v]).run Try.prog w' = .ok v' w2 ∧ OwnN w2 base v' (n :: l) ∧ Below base w w2 ∧ w2.heap[w.heap.size]? = some o := by
  obtain ⟨W, hW⟩ : ∃ W, W = w.alloc o := ⟨_, rfl⟩
  have hO1 : OwnN W base v l := by rw [hW]; exact World.ownsRow.alloc hO _
  have hz : W.heap.size = w.heap.size + 1 := by rw [hW]; simp
  have hk : W.heap[w.heap.size]? = some o := by rw [hW]; exact new_at w o _ rfl
  have hbW : Below w.heap.size w W := by rw [hW]; exact (Below.refl _ w).alloc (Nat.le_refl _) _
  obtain ⟨g, cap, w', h1, h2, h3, h4, -⟩ := pushT_run (ownN_nil (w := W) W.heap.size) (Nat.le_refl _) (by simp) n
  have hO2 : OwnN w' base v l := ownN_keep hO1 h3
  have hbb : base ≤ W.heap.size := Nat.le_trans hb hbW.size
  obtain ⟨v', w2, k1, k2, k3, k4⟩ := catN_run (ownN_mono h2 hbb) hO2 (Nat.le_trans hbb h3.size) (by simp) hl
  rw [hz] at h1
  rw [← hW]
  refine ⟨g, cap, w', h1, v', w2, k1, by simpa using k2, (hbW.mono hb).trans ((h3.mono hbb).trans k3), k4.heap (h4.heap hk (fun e => by cases e)) (fun e => ?_)⟩
  have := (World.ownsRow.lt h2 _ e).1
  omega
/-- What 'turned' knows of its numbers. -/
theorem tu_nums (raw : Int) : kpk raw 4 = (tuI raw : Int) ∧ (kpk raw 12).tdiv 4 = (tuK raw : Int) ∧ (kpk raw 12) / 4 = (tuK raw : Int) ∧ (0 ≤ kpk raw 23 ∧ kpk raw 23 < 23) ∧ (0 ≤ kpk raw 17 ∧ kpk raw 17 < 17) ∧ kpk raw 3 = ((kpk raw 3).toNat : Int) ∧ (0 ≤ kpk raw 12 ∧ kpk raw 12 < 12) := by
  have h3 := kpk_bd raw 3 (by omega)
  have h12 := kpk_bd raw 12 (by omega)
  have h1 := (tuI_lt raw).2
  have h2 := (tuK_lt raw).2
  refine ⟨h1.symm, ?_, h2.symm, kpk_bd raw 23 (by omega), kpk_bd raw 17 (by omega), by omega, h12⟩
  rw [Int.tdiv_eq_ediv_of_nonneg h12.1]; exact h2.symm
theorem ordI_at {ord : List Nat} {k q : Nat} (h : ord[k]? = some q) : (ordI ord)[k]? = some (q : Int) := by unfold ordI; rw [List.getElem?_map, h]; rfl
def tuF (raw : Int) (ord : List Nat) (k : Nat) : List Nat := (ord.take k).filter fun j => decide (j ≠ tuI raw)
theorem tuF_succ {raw : Int} {ord : List Nat} {k q : Nat} (h : ord[k]? = some q) : tuF raw ord (k + 1) = if q = tuI raw then tuF raw ord k else tuF raw ord k ++ [q] := by
  unfold tuF
  rw [List.take_add_one, h, List.filter_append]
  simp only [Option.toList_some, List.filter_cons, List.filter_nil]
  by_cases e : q = tuI raw
  · rw [if_pos e, if_neg (by simpa using e), List.append_nil]
  · rw [if_neg e, if_pos (by simpa using e)]
theorem tuF_len (raw : Int) (ord : List Nat) (k : Nat) : (tuF raw ord k).length ≤ ord.length := by
  unfold tuF
  exact Nat.le_trans (List.length_filter_le _ _) (by rw [List.length_take]; omega)
theorem tuF_all {raw : Int} {ord : List Nat} {k : Nat} (h : k = ord.length) : tuF raw ord k = tuR raw ord := by
  unfold tuF tuR
  rw [h, List.take_length]
/-- One operation in a block of its own. -/
theorem rdo_one (U : Nat → Prop) (w : World) (o : Opn) (hpx : o.px = []) : RdO (fun x => x = w.heap.size ∨ U x) (w.alloc (.cells #[.int .i64 o.kind, .int .i64 o.surf, .int .i64 o.x, .int .i64 o.y, .int .i64 o.w, .int .i64 o.h, .slice none 0 0, .int .i64 o.mark] 72)) (.slice (some ⟨w.heap.size, 0, none⟩) [o].length 1) [o] := by
  refine ⟨_, 1, rfl, by simp, by simp [maxLen], fun _ => ⟨w.heap.size, 0, rfl, .inl rfl, by simp, fun j x hj => ?_⟩⟩
  have hb := new_at w (.cells #[.int .i64 o.kind, .int .i64 o.surf, .int .i64 o.x, .int .i64 o.y, .int .i64 o.w, .int .i64 o.h, .slice none 0 0, .int .i64 o.mark] 72) _ rfl
  cases j with
  | succ j => simp at hj
  | zero =>
    simp only [List.getElem?_cons_zero, Option.some.injEq] at hj
    subst hj
    refine ⟨blk_cell hb 0, blk_cell hb 1, blk_cell hb 2, blk_cell hb 3, blk_cell hb 4, blk_cell hb 5, ⟨.slice none 0 0, blk_cell hb 6, ?_⟩, blk_cell hb 7⟩
    rw [hpx]
    exact ⟨none, 0, rfl, Nat.le_refl _, by simp [maxLen], fun h => absurd rfl h⟩
section
variable {w w1 : World} {sp ap n : Nat} {s : Scrn} {F : ShF} {ov : Value} {ord : List Nat} {at' : Nat → Opn} {pv : Nat → Value}
set_option maxHeartbeats 4000000 in
theorem turned_any (h : Ly w w1 sp ap s F ov ord at' pv) (hL : LyI n s F ord at') (h4 : ∀ i, i < 4 → i ∈ ord) (hn : n + 2 ≤ 1300000) (raw : Int) (hraw : FitI raw) :
    Calls Try.prog 36 #[.pointer (some ⟨sp, 0, none⟩), ov, .pointer (some ⟨ap, 0, none⟩), .int .i64 raw] w1 fun e w' => ∃ ov', e = .returned ov' ∧ Ly w w' sp ap (tickA (kpk raw 3).toNat (subS s 0 [tuOp raw], handF F (costOf [tuOp raw]))).1 (tickA (kpk raw 3).toNat (subS s 0 [tuOp raw], handF F (costOf [tuOp raw]))).2 ov' (tuOrd raw ord) (tuAt raw at') pv := by
  obtain ⟨n4, n12, n12', n23, n17, n3, b12⟩ := tu_nums raw
  have hI4 := (tuI_lt raw).1
  have b3 := kpk_bd raw 3 (by omega)
  obtain ⟨hco, hsh, -⟩ := hL.turned hn raw (h4 _ hI4) (kpk raw 3).toNat (by omega)
  have hk3 := (tuK_lt raw).1
  have P4 : Pk raw 4 (tuI raw : Int) := ⟨n4, hraw, by omega⟩
  obtain ⟨z12, hz12⟩ : ∃ z, z = kpk raw 12 := ⟨_, rfl⟩
  obtain ⟨zx, hzx⟩ : ∃ z, z = kpk raw 23 - 5 := ⟨_, rfl⟩
  obtain ⟨zy, hzy⟩ : ∃ z, z = kpk raw 17 - 5 := ⟨_, rfl⟩
  obtain ⟨x23, hx23⟩ : ∃ z, z = kpk raw 23 := ⟨_, rfl⟩
  obtain ⟨x17, hx17⟩ : ∃ z, z = kpk raw 17 := ⟨_, rfl⟩
  obtain ⟨b, hb⟩ : ∃ b, b = (kpk raw 3).toNat := ⟨_, rfl⟩
  have P12 : Pk raw 12 z12 := ⟨hz12.symm, hraw, by omega⟩
  have P23 : Pk raw 23 x23 := ⟨hx23.symm, hraw, by omega⟩
  have P17 : Pk raw 17 x17 := ⟨hx17.symm, hraw, by omega⟩
  have P3 : Pk raw 3 (b : Int) := ⟨by omega, hraw, by omega⟩
  rw [← hz12] at n12 n12' b12
  rw [← hb]
  obtain ⟨kk, hkk⟩ : ∃ kk, kk = tuK raw := ⟨_, rfl⟩
  obtain ⟨i, hi⟩ : ∃ i, i = tuI raw := ⟨_, rfl⟩
  rw [← hkk] at n12 n12' hk3
  rw [← hi] at P4 hI4
  have hb9 : b ≤ 1000 := by omega
  obtain ⟨m, hm⟩ : ∃ m, m = ord.length := ⟨_, rfl⟩
  have hm9 : m ≤ 4 := by rw [hm]; exact nodup_lt 4 ord hL.od hL.o4
  have hord : ∃ oo oc, ov = .slice oo m oc ∧ ∀ (k q : Nat) (w2 : World), ord[k]? = some q → Below w1.heap.size w1 w2 → ∃ ob off, oo = some ⟨ob, off, none⟩ ∧ w2.cell? ⟨ob, off + k, none⟩ = some (.int .i64 (q : Int)) := by
    obtain ⟨S, U, h1, h2, h3, ⟨oo, oc, e, -, -, hc⟩, h5⟩ := h.ex
    refine ⟨oo, oc, by rw [e, hm]; simp [ordI], fun k q w2 hq hbl => ?_⟩
    have ha := ordI_at hq
    obtain ⟨ob, off, e2, -, hlt, hcc⟩ := hc (fun e => by rw [e] at ha; simp at ha)
    exact ⟨ob, off, e2, (hbl.cell hlt).trans (hcc k _ ha)⟩
  obtain ⟨oo, oc, rfl, hcell⟩ := hord
  have HQ : Hid (∀ k : Nat, k < m → ∃ q, ord[k]? = some q) := fun k hk => ⟨ord[k]'(by omega), by simp⟩
  have HCELL := hide hcell
  -- what is handed in, and the tick behind it
  have HEND : Hid (∀ (w3 : World) (ov2 : Value) (ord2 : List Nat) (at2 : Nat → Opn), Ly w w3 sp ap s F ov2 ord2 at2 pv → ∀ (o : Opn), o = tuOp raw → o.px = [] → 
      Calls Try.prog 35 #[.pointer (some ⟨sp, 0, none⟩), .slice (some ⟨w3.heap.size, 0, none⟩) 1 1] (w3.alloc (.cells #[.int .i64 o.kind, .int .i64 o.surf, .int .i64 o.x, .int .i64 o.y, .int .i64 o.w, .int .i64 o.h, .slice none 0 0, .int .i64 o.mark] 72)) fun e w4 => (∃ u, e = .returned u) ∧
        Calls Try.prog 27 #[.pointer (some ⟨sp, 0, none⟩), .int .i64 (b : Int)] w4 fun e w5 => (∃ u, e = .returned u) ∧ Ly w w5 sp ap (tickA b (subS s 0 [tuOp raw], handF F (costOf [tuOp raw]))).1 (tickA b (subS s 0 [tuOp raw], handF F (costOf [tuOp raw]))).2 ov2 ord2 at2 pv) := fun w3 ov2 ord2 at2 hY o ho hp => by
    have hc2 : subCo s 0 [o] = 0 := by rw [ho]; exact hco
    refine (hY.hand (ops := [o]) hL.wh.sh (by omega) (fun U hU => rdo_one U w3 o hp) (fun x hx => by rw [List.mem_singleton] at hx; rw [hx, hp]; simp) hc2).mono ?_
    rintro e w4 ⟨g1, g2⟩
    rw [ho] at g2
    exact ⟨g1, g2.tick hsh (by omega) b hb9⟩
  have HY := hide h
  have HI := hide hi
  have HKK := hide hkk
  have HM := hide hm
  have HZ := hide (And.intro hzx hzy)
  have ex5 : IntKind.i64.wrap (x23 - 5) = zx := by rw [IntKind.wrap_i64]; omega
  have ey5 : IntKind.i64.wrap (x17 - 5) = zy := by rw [IntKind.wrap_i64]; omega
  have eq4 : IntKind.i64.wrap (z12.tdiv 4) = (kk : Int) := by rw [n12, IntKind.wrap_i64]; omega
  have eq4' : IntKind.i64.wrap (z12 / 4) = (kk : Int) := by rw [n12', IntKind.wrap_i64]; omega
  clear n4 n23 n17 n3 b3 hco hsh hz12 hzx hzy hx23 hx17 hb hkk hi hm hcell h hL h4
  go_enter Try.func36, Try.ntmps36
  go_wp2_with (go_at_call 20; refine Calls.mono (pk_any _ _ _ _ (by first | exact P4 | exact P12)) ?_; rintro e wz ⟨rfl, hwz⟩; have hwy := hwz.symm; clear hwz; subst hwy)
  go_loopw [11, 12] (fun x y wr => ∃ k : Nat, k ≤ m ∧ y = .int .i64 k ∧ OwnN wr w1.heap.size x (ordI (tuF raw ord k)) ∧ Below w1.heap.size w1 wr) (fun _ y _ => m - (intOf y).toNat)
  case atStart => exact ⟨0, Nat.zero_le _, rfl, ownN_nil _, Below.refl _ _⟩
  case round =>
    obtain ⟨k, hk, rfl, hO, hbq⟩ := hrel
    have hlen : (ordI (tuF raw ord k)).length ≤ 1000000 := by
      have h1 := tuF_len raw ord k
      have h2 := unhide HM
      simp only [ordI, List.length_map]
      omega
    by_cases hlt : k < m
    · obtain ⟨q, hq⟩ := (unhide HQ) k hlt
      obtain ⟨ob, off, rfl, cq⟩ := (unhide HCELL) k q wr hq hbq
      have hF := tuF_succ (raw := raw) hq
      rw [← unhide HI] at hF
      have k0 : (0 : Int) ≤ (k : Int) := by omega
      have k1 : (k : Int) < (m : Int) := by omega
      by_cases e : q = i
      · have qi : ((q : Int) != (i : Int)) = false := by simp; omega
        have HS : Hid (OwnN wr w1.heap.size u11 (ordI (tuF raw ord (k + 1)))) := by
          show OwnN wr w1.heap.size u11 (ordI (tuF raw ord (k + 1)))
          rw [hF, if_pos e]; exact hO
        have HB := hide hbq
        clear hO hbq hF hq e hlen
        go_wp2
        go_roundw
        case rel => exact ⟨k + 1, by omega, by go_num, unhide HS, unhide HB⟩
        case measure => simp [intOf]; omega
      · have qi : ((q : Int) != (i : Int)) = true := by simp; omega
        obtain ⟨g, cap, w2, hrun, hO2, hb2, -⟩ := pushT_run hO hbq.size hlen (q : Int)
        have HR := hide hrun
        have HS : Hid (OwnN w2 w1.heap.size (.slice (some ⟨g, 0, none⟩) ((ordI (tuF raw ord k)).length + 1) cap) (ordI (tuF raw ord (k + 1)))) := by
          show OwnN w2 w1.heap.size (.slice (some ⟨g, 0, none⟩) ((ordI (tuF raw ord k)).length + 1) cap) (ordI (tuF raw ord (k + 1)))
          rw [hF, if_neg e]
          unfold ordI at hO2 ⊢
          rw [List.map_append]
          exact hO2
        have HB : Hid (Below w1.heap.size w1 w2) := hbq.trans hb2
        generalize (ordI (tuF raw ord k)).length = ln at HR HS hlen
        clear hO hbq hF hq e hrun hO2 hb2
        go_wp2_with (at_builtin; refine wpList_append_at rfl _ _ 23 23 rfl rfl _ _ _ _ rfl rfl (unhide HR) ?_)
        go_roundw
        case rel => exact ⟨k + 1, by omega, by go_num, unhide HS, unhide HB⟩
        case measure => simp [intOf]; omega
    · have ek : k = m := by omega
      have k1 : ¬ (k : Int) < (m : Int) := by omega
      have hR : tuF raw ord k = tuR raw ord := tuF_all (by rw [ek]; exact unhide HM)
      rw [hR] at hO hlen
      clear HQ HCELL
      rcases (show kk = 0 ∨ kk = 1 ∨ kk = 2 by omega) with e | e | e
      · have hto : tuOp raw = ⟨5, (i : Int), 0, 0, 0, 0, [], 0⟩ := by unfold tuOp; rw [← unhide HKK, if_pos e, ← unhide HI]
        have htd : tuOrd raw ord = tuR raw ord ++ [i] := by unfold tuOrd; rw [← unhide HKK, if_pos e, ← unhide HI]
        have hta : tuAt raw at' = at' := by unfold tuAt; rw [← unhide HKK, if_pos e]
        obtain ⟨g, cap, w3, hrun, hO3, hb3, hop⟩ := raise_run hO hbq.size hlen (i : Int) (.cells #[.int .i64 5, .int .i64 (i : Int), .int .i64 0, .int .i64 0, .int .i64 0, .int .i64 0, .slice none 0 0, .int .i64 0] 72)
        have hY3 : Ly w w3 sp ap s F (.slice (some ⟨g, 0, none⟩) ((ordI (tuR raw ord)).length + 1) cap) (tuOrd raw ord) (tuAt raw at') pv := by
          rw [htd, hta]
          refine (unhide HY).order (hbq.trans hb3) ?_
          unfold ordI at hO3 ⊢
          rw [List.map_append]
          exact hO3
        generalize (ordI (tuR raw ord)).length = ln at hrun hY3
        have HR := hide hrun
        have HR2 : Hid True := trivial
        have HE : Hid (Calls Try.prog 35 #[.pointer (some ⟨sp, 0, none⟩), .slice (some ⟨w3.heap.size, 0, none⟩) 1 1] (w3.alloc (.cells #[.int .i64 5, .int .i64 (i : Int), .int .i64 0, .int .i64 0, .int .i64 0, .int .i64 0, .slice none 0 0, .int .i64 0] 72)) _) := (unhide HEND) w3 _ _ _ hY3 ⟨5, (i : Int), 0, 0, 0, 0, [], 0⟩ hto.symm rfl
        have p0 : w3.cell? ⟨wr.heap.size, 0, none⟩ = some (.int .i64 5) := blk_cell hop 0
        have p1 : w3.cell? ⟨wr.heap.size, 1, none⟩ = some (.int .i64 (i : Int)) := blk_cell hop 1
        have p2 : w3.cell? ⟨wr.heap.size, 2, none⟩ = some (.int .i64 0) := blk_cell hop 2
        have p3 : w3.cell? ⟨wr.heap.size, 3, none⟩ = some (.int .i64 0) := blk_cell hop 3
        have p4 : w3.cell? ⟨wr.heap.size, 4, none⟩ = some (.int .i64 0) := blk_cell hop 4
        have p5 : w3.cell? ⟨wr.heap.size, 5, none⟩ = some (.int .i64 0) := blk_cell hop 5
        have p6 : w3.cell? ⟨wr.heap.size, 6, none⟩ = some (.slice none 0 0) := blk_cell hop 6
        have p7 : w3.cell? ⟨wr.heap.size, 7, none⟩ = some (.int .i64 0) := blk_cell hop 7
        clear hO hbq hlen hR hrun hO3 hb3 hop hY3 hto htd hta HEND P4 P12 P23 P17 ex5 ey5 n12 n12' b12
        subst e
        go_wp2_with (first
          | (at_builtin; refine wpList_append_at rfl _ _ 23 23 rfl rfl _ _ _ _ rfl rfl (unhide HR) ?_)
          | (go_at_call 35; refine (unhide HE).mono ?_; rintro e w4 ⟨⟨u, rfl⟩, hT⟩
             have HT := hide hT
             clear hT)
          | (go_at_call 20; refine Calls.mono (pk_any _ _ _ _ P3) ?_; rintro e wz ⟨rfl, hwz⟩; have hwy := hwz.symm; clear hwz; subst hwy)
          | (go_at_call 27; refine (unhide HT).mono ?_; rintro e w5 ⟨⟨u2, rfl⟩, hY5⟩
             have HY5 := hide hY5
             clear hY5))
        go_ret
        exact ⟨_, rfl, unhide HY5⟩
      · have hto : tuOp raw = ⟨6, (i : Int), 0, 0, 0, 0, [], 0⟩ := by unfold tuOp; rw [← unhide HKK, if_neg (by omega), if_pos e, ← unhide HI]
        have htd : tuOrd raw ord = i :: tuR raw ord := by unfold tuOrd; rw [← unhide HKK, if_neg (by omega), if_pos e, ← unhide HI]
        have hta : tuAt raw at' = at' := by unfold tuAt; rw [← unhide HKK, if_neg (by omega), if_pos e]
        obtain ⟨g, cap, w2, hrun, v', w3, hrun2, hO3, hb3, hop⟩ := lower_run hO hbq.size hlen (i : Int) (.cells #[.int .i64 6, .int .i64 (i : Int), .int .i64 0, .int .i64 0, .int .i64 0, .int .i64 0, .slice none 0 0, .int .i64 0] 72)
        have hY3 : Ly w w3 sp ap s F v' (tuOrd raw ord) (tuAt raw at') pv := by
          rw [htd, hta]
          exact (unhide HY).order (hbq.trans hb3) hO3
        have HR := hide hrun
        have HR2 := hide hrun2
        have HE : Hid (Calls Try.prog 35 #[.pointer (some ⟨sp, 0, none⟩), .slice (some ⟨w3.heap.size, 0, none⟩) 1 1] (w3.alloc (.cells #[.int .i64 6, .int .i64 (i : Int), .int .i64 0, .int .i64 0, .int .i64 0, .int .i64 0, .slice none 0 0, .int .i64 0] 72)) _) := (unhide HEND) w3 _ _ _ hY3 ⟨6, (i : Int), 0, 0, 0, 0, [], 0⟩ hto.symm rfl
        have p0 : w3.cell? ⟨wr.heap.size, 0, none⟩ = some (.int .i64 6) := blk_cell hop 0
        have p1 : w3.cell? ⟨wr.heap.size, 1, none⟩ = some (.int .i64 (i : Int)) := blk_cell hop 1
        have p2 : w3.cell? ⟨wr.heap.size, 2, none⟩ = some (.int .i64 0) := blk_cell hop 2
        have p3 : w3.cell? ⟨wr.heap.size, 3, none⟩ = some (.int .i64 0) := blk_cell hop 3
        have p4 : w3.cell? ⟨wr.heap.size, 4, none⟩ = some (.int .i64 0) := blk_cell hop 4
        have p5 : w3.cell? ⟨wr.heap.size, 5, none⟩ = some (.int .i64 0) := blk_cell hop 5
        have p6 : w3.cell? ⟨wr.heap.size, 6, none⟩ = some (.slice none 0 0) := blk_cell hop 6
        have p7 : w3.cell? ⟨wr.heap.size, 7, none⟩ = some (.int .i64 0) := blk_cell hop 7
        clear hO hbq hlen hR hrun hrun2 hO3 hb3 hop hY3 hto htd hta HEND P4 P12 P23 P17 ex5 ey5 n12 n12' b12
        subst e
        go_wp2_with (first
          | (at_builtin; refine wpList_append_at rfl _ _ 23 23 rfl rfl _ _ _ _ rfl rfl (unhide HR) ?_)
          | (at_builtin; refine wpList_append_at rfl _ _ 23 23 rfl rfl _ _ _ _ rfl rfl (unhide HR2) ?_)
          | (go_at_call 35; refine (unhide HE).mono ?_; rintro e w4 ⟨⟨u, rfl⟩, hT⟩
             have HT := hide hT
             clear hT)
          | (go_at_call 20; refine Calls.mono (pk_any _ _ _ _ P3) ?_; rintro e wz ⟨rfl, hwz⟩; have hwy := hwz.symm; clear hwz; subst hwy)
          | (go_at_call 27; refine (unhide HT).mono ?_; rintro e w5 ⟨⟨u2, rfl⟩, hY5⟩
             have HY5 := hide hY5
             clear hY5))
        go_ret
        exact ⟨_, rfl, unhide HY5⟩
      · have hto : tuOp raw = ⟨4, (i : Int), zx, zy, 0, 0, [], 0⟩ := by unfold tuOp; rw [← unhide HKK, if_neg (by omega), if_neg (by omega), ← unhide HI, ← (unhide HZ).1, ← (unhide HZ).2]
        have htd : tuOrd raw ord = ord := by unfold tuOrd; rw [← unhide HKK, if_neg (by omega), if_neg (by omega)]
        have hta : tuAt raw at' = updO (updO at' i { at' i with x := zx }) i { (updO at' i { at' i with x := zx }) i with y := zy } := by
          unfold tuAt
          rw [← unhide HKK, if_neg (by omega), if_neg (by omega), ← unhide HI, ← (unhide HZ).1, ← (unhide HZ).2]
          funext j
          unfold updO
          by_cases e : j = i <;> simp [e]
        have hYq := (unhide HY).below hbq
        have hblk := hYq.blk
        have hap : ap < wr.heap.size := lt_of_heap hblk
        have hy2 : Ly w ((wr.setCell ⟨ap, i * 8 + 2, none⟩ (.int .i64 zx)).setCell ⟨ap, i * 8 + 3, none⟩ (.int .i64 zy)) sp ap s F (.slice oo m oc) (tuOrd raw ord) (tuAt raw at') pv := by
          rw [htd, hta]
          exact (hYq.setX hI4 zx).setY hI4 zy
        have hy3 : Ly w (((wr.setCell ⟨ap, i * 8 + 2, none⟩ (.int .i64 zx)).setCell ⟨ap, i * 8 + 3, none⟩ (.int .i64 zy)).alloc (.cells #[.int .i64 4, .int .i64 (i : Int), .int .i64 zx, .int .i64 zy, .int .i64 0, .int .i64 0, .slice none 0 0, .int .i64 0] 72)).drew.drew sp ap s F (.slice oo m oc) (tuOrd raw ord) (tuAt raw at') pv := (hy2.below ((Below.refl _ _).alloc (Nat.le_refl _) _)).below ((Below.refl _ _).drew.drew)
        have hz : (((wr.setCell ⟨ap, i * 8 + 2, none⟩ (.int .i64 zx)).setCell ⟨ap, i * 8 + 3, none⟩ (.int .i64 zy)).alloc (.cells #[.int .i64 4, .int .i64 (i : Int), .int .i64 zx, .int .i64 zy, .int .i64 0, .int .i64 0, .slice none 0 0, .int .i64 0] 72)).drew.drew.heap.size = wr.heap.size + 1 := by simp
        have hE := (unhide HEND) _ _ _ _ hy3 ⟨4, (i : Int), zx, zy, 0, 0, [], 0⟩ hto.symm rfl
        rw [hz] at hE
        have HE : Hid (Calls Try.prog 35 #[.pointer (some ⟨sp, 0, none⟩), .slice (some ⟨wr.heap.size + 1, 0, none⟩) 1 1] ((((wr.setCell ⟨ap, i * 8 + 2, none⟩ (.int .i64 zx)).setCell ⟨ap, i * 8 + 3, none⟩ (.int .i64 zy)).alloc (.cells #[.int .i64 4, .int .i64 (i : Int), .int .i64 zx, .int .i64 zy, .int .i64 0, .int .i64 0, .slice none 0 0, .int .i64 0] 72)).alloc (.cells #[.int .i64 4, .int .i64 (i : Int), .int .i64 zx, .int .i64 zy, .int .i64 0, .int .i64 0, .slice none 0 0, .int .i64 0] 72)).drew.drew _) := hE
        obtain ⟨ox, c2⟩ : ∃ v, wr.cell? ⟨ap, i * 8 + 2, none⟩ = some v := ⟨_, (blk_cell hblk (i * 8 + 2)).trans (atc_at at' pv hI4 (show 2 < 8 by omega))⟩
        obtain ⟨oy, c3⟩ : ∃ v, wr.cell? ⟨ap, i * 8 + 3, none⟩ = some v := ⟨_, (blk_cell hblk (i * 8 + 3)).trans (atc_at at' pv hI4 (show 3 < 8 by omega))⟩
        have f2 : wr.frozen? ⟨ap, i * 8 + 2, none⟩ = false := blk_thaw hblk _
        have f3 : wr.frozen? ⟨ap, i * 8 + 3, none⟩ = false := blk_thaw hblk _
        have i0 : (0 : Int) ≤ (i : Int) := by omega
        have i4 : (i : Int) < 4 := by omega
        clear hO hbq hlen hR hto htd hta HEND P4 P12 n12 n12' b12 hYq hblk hy2 hy3 hz hE
        subst e
        go_wp2_with (go_at_call 20; refine Calls.mono (pk_any _ _ _ _ (by first | exact P23 | exact P17)) ?_; rintro e wz ⟨rfl, hwz⟩; have hwy := hwz.symm; clear hwz; subst hwy)
        go_region
        go_wp2
        go_region
        go_wp2_with (first
          | (go_at_call 35; refine (unhide HE).mono ?_; rintro e w4 ⟨⟨u, rfl⟩, hT⟩
             have HT := hide hT
             clear hT)
          | (go_at_call 20; refine Calls.mono (pk_any _ _ _ _ P3) ?_; rintro e wz ⟨rfl, hwz⟩; have hwy := hwz.symm; clear hwz; subst hwy)
          | (go_at_call 27; refine (unhide HT).mono ?_; rintro e w5 ⟨⟨u2, rfl⟩, hY5⟩
             have HY5 := hide hY5
             clear hY5))
        go_ret
        exact ⟨_, rfl, unhide HY5⟩
end
end Go.Proofs.Ytfnockbgkcgpkaa
