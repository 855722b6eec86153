import Derived.Test.YtfnockbgkcgpkaaGreatQbAI
import Derived.Test.YtfnockbgkcgpkaaGreatQbAK
import Derived.Test.YtfnockbgkcgpkaaGreatQbQ
set_option linter.all false
namespace Go.Proofs.YtfnockbgkcgpkaaGreat
open Go.RowKit Go.Proofs.Panes
set_option maxRecDepth 100000

theorem QNext.from {U : Nat → Prop} {base wb : Nat} {gr gc go : Value} {C : List Cfg} {O : List (List Opn)} {w w2 w' : World} {n : Nat} (hb : But (Wr base wb) w w2) (h : QNext U base wb gr gc go C O n w2 w') : QNext U base wb gr gc go C O n w w' := ⟨h.1, hb.trans h.2⟩
/-- Connect: the end of the step. -/
theorem QSt.connEnd {U : Nat → Prop} {base wb : Nat} {gr gc go : Value} {C : List Cfg} {O : List (List Opn)} {w w2 w3 : World} {ss : Value} {shs : List Sh} {o : Nat → Nat × Nat} (h : QSt U base wb gr gc go C O w ss shs o) {ia : Nat} {s : Sh} (hs : shs[ia]? = some s) {k cp g : Nat} (hk : firstNone (s.ks.map kptr) = some k)
    (hP : PScr w2 s.xp s.kb s.c ((s.ks.map kptr).set k (some cp))) (hcp : w.heap.size ≤ cp) (hcell : w2.heap[cp]? = some (.cells #[.slice none 0 0, .int .i64 0, .bool false, .bool false, .bool false, .bool false] 113)) (hb2 : But (fun g => g = s.kb) w w2)
    (hD : DocSt w3 s.sp s.cb s.c ((s.ks.map kdoc).set k ⟨true, .slice none 0 0, 0, .slice (some ⟨g, 0, none⟩) s.S s.S⟩)) (hg : w2.heap.size ≤ g) (hO : OwnB w3 w2.heap.size (.slice (some ⟨g, 0, none⟩) s.S s.S) (List.replicate s.S false)) (hb3 : But (fun g => g = s.cb) w2 w3) : QNext U base wb gr gc go C O shs.length w w3 := by
  have hsh := h.each ia s hs
  obtain ⟨r1, r2⟩ := hsh.connect h.base_le hk hP hcp hcell hb2 hD hg hO hb3
  have hq := h.put (s' := { s with ks := s.ks.set k (some ⟨cp, .slice none 0 0, 0, [false, false, false, false], 0, .slice none 0 0, 0, .slice (some ⟨g, 0, none⟩) s.S s.S⟩) }) hs rfl rfl r1 r2 (paint_same _ _ _) (fun u _ hu => by
    rcases hu with c | c
    · exact ⟨hsh.ge u (.inr (.inl c)), by rw [hsh.col u (.inr (.inl c))]⟩
    · exact ⟨hsh.ge u (.inr (.inr (.inr c))), by rw [hsh.col u (.inr (.inr (.inr c)))]⟩)
  exact ⟨⟨_, _, _, hq.1, by simp⟩, hq.2⟩

set_option maxHeartbeats 4000000 in
theorem step_conn {U : Nat → Prop} {base wb : Nat} {gr gc go : Value} {C : List Cfg} {O : List (List Opn)} {w : World} {ss : Value} {shs : List Sh} {o : Nat → Nat × Nat} (h : QSt U base wb gr gc go C O w ss shs o) (kind oA oB oC : Int) (hk : kind = 7) (hA : -9223372036854775808 ≤ oA ∧ oA ≤ 9223372036854775807) (hn : 0 < shs.length ∧ shs.length ≤ 4398046511104) :
    Calls Tryz.prog 10 #[.pointer (some ⟨wb, 0, none⟩), .agg #[.int .i64 kind, .int .i64 oA, .int .i64 oB, .int .i64 oC]] w fun e w' => e = .returned (.bool true) ∧ QNext U base wb gr gc go C O shs.length w w' := by
  obtain ⟨ia, ea, hia⟩ := pk_at oA shs.length hn.1
  obtain ⟨s, hs⟩ : ∃ s, shs[ia]? = some s := ⟨shs[ia], by simp [hia]⟩
  have HPA : Hid (∀ w', Calls Tryz.prog 14 #[.int .i64 oA, .int .i64 shs.length] w' fun e w'' => e = .returned (.int .i64 ia) ∧ w'' = w') := fun w' => by
    have h := pick_any oA shs.length w' hA (by omega)
    rw [ea] at h; exact h
  obtain ⟨sb, scap, ess⟩ : ∃ sb scap, ss = .slice (some ⟨sb, 0, none⟩) shs.length scap := by
    rcases h.own.2 with ⟨_, e⟩ | ⟨g, cap, cur, e, _⟩
    · omega
    · exact ⟨g, cap, e⟩
  have hown := h.own
  rw [ess] at hown
  have hbx := h.box
  rw [ess] at hbx
  obtain ⟨s0, s1⟩ := shcells_at shs ia s hs
  have p0 : w.cell? ⟨sb, ia * 2, none⟩ = some (.pointer (some ⟨s.xp, 0, none⟩)) := by rw [World.ownsRow.cellAt hown _ (by omega)]; exact s0
  have p1 : w.cell? ⟨sb, ia * 2 + 1, none⟩ = some (.pointer (some ⟨s.sp, 0, none⟩)) := by rw [World.ownsRow.cellAt hown _ (by omega)]; exact s1
  have c3 : w.cell? ⟨wb, 3, none⟩ = some (.slice (some ⟨sb, 0, none⟩) shs.length scap) := blk_cell hbx 3
  have hwb := lt_of_heap hbx
  have hsb : sb < w.heap.size := (World.ownsRow.lt hown sb rfl).2
  have nS : ¬ (shs.length : Int) = 0 := by omega
  have i0 : (0 : Int) ≤ (ia : Int) := by omega
  have i1 : (ia : Int) < (shs.length : Int) := by omega
  have k1 : ¬ kind < 1 := by omega
  have k2 : ¬ 11 < kind := by omega
  have k3 : ¬ kind ≤ 5 := by omega
  have k6 : ¬ kind = 6 := by omega
  have HH := hide h
  have HS := hide hs
  have HKD := hide hk
  clear h hbx hA ea hs hown s0 s1 hk
  go_enter Tryz.func10, Tryz.ntmps10
  go_wp2_with fail
  have hB1 : Below w.heap.size w (w.alloc (.cells #[.int .i64 kind, .int .i64 oA, .int .i64 oB, .int .i64 oC] 42)) := (Below.refl _ w).alloc (Nat.le_refl _) _
  have hX1 : (w.alloc (.cells #[.int .i64 kind, .int .i64 oA, .int .i64 oB, .int .i64 oC] 42)).heap[w.heap.size]? = some (.cells #[.int .i64 kind, .int .i64 oA, .int .i64 oB, .int .i64 oC] 42) := new_at _ _ _ rfl
  generalize w.alloc (.cells #[.int .i64 kind, .int .i64 oA, .int .i64 oB, .int .i64 oC] 42) = w1 at *
  have d3 := (hB1.cell (p := ⟨wb, 3, none⟩) hwb).trans c3
  have dA : w1.cell? ⟨w.heap.size, 1, none⟩ = some (.int .i64 oA) := blk_cell hX1 1
  have q0 := (hB1.cell (p := ⟨sb, ia * 2, none⟩) hsb).trans p0
  have q1 := (hB1.cell (p := ⟨sb, ia * 2 + 1, none⟩) hsb).trans p1
  have l1 : w.heap.size < w1.heap.size := lt_of_heap hX1
  have l2 : wb < w1.heap.size := by omega
  have l3 : sb < w1.heap.size := by omega
  have HB1 := hide hB1
  have HX1 := hide hX1
  clear hB1 hX1 p0 p1 c3
  rename_i K aK
  have HK : Hid (K { tmps := #[.pointer (some ⟨wb, 0, none⟩), .agg #[.int .i64 kind, .int .i64 oA, .int .i64 oB, .int .i64 oC], undef, .pointer (some ⟨w.heap.size, 0, none⟩), .bool false, .pointer (some ⟨w1.heap.size, 0, none⟩), undef, undef, undef, undef, undef, undef, undef, undef, undef, undef, undef, undef, undef, undef, .bool false, .pointer (some ⟨w.heap.size, 0, none⟩), .int .i64 kind, .bool false, .bool false, .pointer (some ⟨w.heap.size, 0, none⟩), .int .i64 kind, .bool false, .bool false, .bool false, .pointer (some ⟨w.heap.size, 0, none⟩), .int .i64 kind, .bool false, undef, undef, undef, .bool false, .pointer (some ⟨w.heap.size, 0, none⟩), .int .i64 kind, .bool false, undef, undef, undef, .bool false, .pointer (some ⟨wb, 0, none⟩), .pointer (some ⟨wb, 0, none⟩), .pointer (some ⟨wb, 3, none⟩), .slice (some ⟨sb, 0, none⟩) shs.length scap, .int .i64 shs.length, .bool false, .pointer (some ⟨wb, 0, none⟩), .pointer (some ⟨wb, 0, none⟩), .pointer (some ⟨wb, 3, none⟩), .slice (some ⟨sb, 0, none⟩) shs.length scap, .pointer (some ⟨w.heap.size, 1, none⟩), .int .i64 oA, .pointer (some ⟨wb, 0, none⟩), .pointer (some ⟨wb, 0, none⟩), .pointer (some ⟨wb, 3, none⟩), .slice (some ⟨sb, 0, none⟩) shs.length scap, .int .i64 shs.length, .int .i64 ia, .pointer (some ⟨sb, ia * 2, none⟩), .agg #[.pointer (some ⟨s.xp, 0, none⟩), .pointer (some ⟨s.sp, 0, none⟩)], undef, undef, undef, undef, undef, undef, undef, undef, undef, undef, undef, undef, undef, undef, undef, undef, undef, undef, undef, undef, undef, undef, undef, undef, undef, undef, undef, undef, undef, undef, undef, undef, undef, undef, undef, undef, undef, undef, undef, undef, undef, undef, undef, undef, undef, undef, undef, undef, undef, undef, undef, undef, undef, undef, undef, undef, undef, undef, undef, undef, undef, undef, undef, undef, undef, undef, undef, undef, undef, undef, undef, undef, undef, undef, undef, undef, undef, undef, undef, undef, undef, undef, undef, undef, undef, undef, undef, undef, undef, undef, undef, undef, undef, undef, undef, undef, undef, undef, undef, undef, undef, undef, undef, undef, undef, undef, undef, undef, undef, undef, undef, undef, undef], defers := [] } (w1.alloc (.cells #[.pointer (some ⟨s.xp, 0, none⟩), .pointer (some ⟨s.sp, 0, none⟩)] 57)).drew) := by
    refine aK _ _ ?_
    have hB2 : Below w.heap.size w (w1.alloc (.cells #[.pointer (some ⟨s.xp, 0, none⟩), .pointer (some ⟨s.sp, 0, none⟩)] 57)).drew := ((unhide HB1).alloc (Nat.le_of_lt l1) _).drew
    have hY2 : (w1.alloc (.cells #[.pointer (some ⟨s.xp, 0, none⟩), .pointer (some ⟨s.sp, 0, none⟩)] 57)).drew.heap[w1.heap.size]? = some (.cells #[.pointer (some ⟨s.xp, 0, none⟩), .pointer (some ⟨s.sp, 0, none⟩)] 57) := new_at _ _ _ rfl
    have hX2 : (w1.alloc (.cells #[.pointer (some ⟨s.xp, 0, none⟩), .pointer (some ⟨s.sp, 0, none⟩)] 57)).drew.heap[w.heap.size]? = some (.cells #[.int .i64 kind, .int .i64 oA, .int .i64 oB, .int .i64 oC] 42) := blk_alloc (unhide HX1) _
    clear d3 dA q0 q1 aK
    generalize (w1.alloc (.cells #[.pointer (some ⟨s.xp, 0, none⟩), .pointer (some ⟨s.sp, 0, none⟩)] 57)).drew = w2 at *
    have lx : w1.heap.size < w2.heap.size := lt_of_heap hY2
    have lo : w.heap.size < w2.heap.size := lt_of_heap hX2
    have x0 : w2.cell? ⟨w1.heap.size, 0, none⟩ = some (.pointer (some ⟨s.xp, 0, none⟩)) := blk_cell hY2 0
    have x1 : w2.cell? ⟨w1.heap.size, 1, none⟩ = some (.pointer (some ⟨s.sp, 0, none⟩)) := blk_cell hY2 1
    have o0 : w2.cell? ⟨w.heap.size, 0, none⟩ = some (.int .i64 kind) := blk_cell hX2 0
    have o2 : w2.cell? ⟨w.heap.size, 2, none⟩ = some (.int .i64 oB) := blk_cell hX2 2
    have o3 : w2.cell? ⟨w.heap.size, 3, none⟩ = some (.int .i64 oC) := blk_cell hX2 3
    have hQ2 := (unhide HH).below hB2
    have HQ2 := hide hQ2
    have hsh := hQ2.1.each ia s (unhide HS)
    have HSH := hide hsh
    have HB2 := hide hB2
    have HY2 := hide hY2
    have HX2 := hide hX2
    clear hB2 hQ2 hY2 hX2
    have hk7 : kind = 7 := unhide HKD
    subst hk7
    have HP := hide (pConnect_any hsh.scr (by simpa using hsh.len))
    have HD := hide (fun (w3 : World) (hd : DocSt w3 s.sp s.cb s.c (s.ks.map kdoc)) => docConnect_any hd s.S hsh.sur hsh.sbd.2.1 (by simpa using hsh.len))
    have HN : Hid (∀ (n : Int) w, Calls Tryz.prog 17 #[.int .i64 n] w fun e w' => e = .returned (.int .i64 n) ∧ w' = w) := fun n w => num_any n w
    have hkc : s.sp ≠ s.kb ∧ s.cb ≠ s.kb := by
      have h1 := hsh.scr.cls
      obtain ⟨cs, h2, _⟩ := hsh.doc.scr
      have h3 := hsh.doc.cls
      refine ⟨fun e => ?_, fun e => ?_⟩
      · rw [← e, h2] at h1; simp at h1
      · rw [← e, h3] at h1; simp at h1
    clear hsh HKD
    go_wp2_with fail
    refine (unhide HP).mono ?_
    rintro e w3 (⟨k, hk, rfl, cp, hcp, hP, hcell, hb3⟩ | ⟨hk, rfl, hb3⟩)
    · have hsz3 := hb3.size
      have hnk : w1.heap.size ≠ s.kb := fun e => by
        have h1 := (unhide HSH).scr.cls
        rw [← e, unhide HY2] at h1; simp at h1
      have y1 : w3.cell? ⟨w1.heap.size, 1, none⟩ = some (.pointer (some ⟨s.sp, 0, none⟩)) := (World.cell?_of_block (hb3.block _ lx hnk)).trans x1
      have HDk := hide ((unhide HD) w3 ((unhide HSH).doc.but hb3 hkc.1 hkc.2))
      rw [← first_same, hk] at HDk
      have HKk := hide hk
      have HPk := hide hP
      have HCk := hide hcell
      have HBk := hide hb3
      clear HD HP hk hP hcell hb3 x0 x1 hkc
      go_wp2_with fail
      refine (unhide HDk).mono ?_
      rintro e w4 (⟨k', hk', rfl, g, hg, hD, hO, hb4⟩ | ⟨hk', _⟩)
      · simp only [Option.some.injEq] at hk'
        subst hk'
        have HEnd := hide ((unhide HQ2).1.connEnd (unhide HS) (unhide HKk) (unhide HPk) hcp (unhide HCk) (unhide HBk) hD hg hO hb4)
        clear HDk HKk HPk HCk HBk hD hO hb4 y1
        go_wp2_with (go_at_call 17; refine ((unhide HN) _ _).mono ?_; rintro e w' ⟨rfl, hw'⟩; have hw2 := hw'.symm; clear hw'; subst hw2)
        go_ret
        exact ⟨by simp, QNext.from (unhide HQ2).2 (unhide HEnd)⟩
      · cases hk'
    · have y1 : w3.cell? ⟨w1.heap.size, 1, none⟩ = some (.pointer (some ⟨s.sp, 0, none⟩)) := (hb3.cell (p := ⟨w1.heap.size, 1, none⟩) lx).trans x1
      have HDk := hide ((unhide HD) w3 ((unhide HSH).doc.below hb3))
      rw [← first_same, hk] at HDk
      have HBk := hide hb3
      clear HD HP hk hb3 x0 x1 hkc
      go_wp2_with fail
      refine (unhide HDk).mono ?_
      rintro e w4 (⟨k', hk', _⟩ | ⟨_, rfl, hw4⟩)
      · cases hk'
      · have hw5 := hw4.symm
        clear hw4
        subst hw5
        clear HDk y1
        go_wp2_with (go_at_call 17; refine ((unhide HN) _ _).mono ?_; rintro e w' ⟨rfl, hw'⟩; have hw2 := hw'.symm; clear hw'; subst hw2)
        go_ret
        exact ⟨by simp, QNext.from (unhide HQ2).2 (QNext.same (unhide HQ2).1 (unhide HBk))⟩
  clear aK
  go_region_held3 (fun w' => w'.cell? ⟨wb, 3, none⟩ = some (.slice (some ⟨sb, 0, none⟩) shs.length scap) ∧ w'.cell? ⟨w.heap.size, 1, none⟩ = some (.int .i64 oA) ∧ w'.cell? ⟨sb, ia * 2, none⟩ = some (.pointer (some ⟨s.xp, 0, none⟩)) ∧ w'.cell? ⟨sb, ia * 2 + 1, none⟩ = some (.pointer (some ⟨s.sp, 0, none⟩)))
    (first | (refine ⟨?_, ?_, ?_, ?_⟩ <;> assumption) | go_keep)
    ((go_at_call 14; refine ((unhide HPA) _).mono ?_; rintro e w' ⟨rfl, hw'⟩; have hw2 := hw'.symm; clear hw'; subst hw2))
  all_goals
    simp only [Exit.then]
    go_simp
    exact unhide HK
end Go.Proofs.YtfnockbgkcgpkaaGreat

namespace Go.Proofs.YtfnockbgkcgpkaaGreat
open Go.RowKit Go.Proofs.Panes
set_option maxRecDepth 100000

/-- A transaction is lent, and looked at behind the calls. -/
def Lend (U : Nat → Prop) (mb : Nat) (l : List Opn) (w : World) (e : Ending) (w' : World) : Prop :=
  ∃ la lcap, e = .returned (.slice la l.length lcap) ∧ But (fun k => k = mb) w w' ∧ RdO (fun u => w.heap.size ≤ u ∧ u < w'.heap.size) w' (.slice la l.length lcap) l ∧
    ∀ (w2 : World) (T : Nat → Prop), But T w' w2 → (∀ u, T u → u < w.heap.size ∧ u ≠ mb ∧ ¬ U u) → Calls Tryz.prog 28 #[.pointer (some ⟨mb, 0, none⟩)] w2 fun e w3 => e = .returned (.bool true) ∧ But (fun k => w.heap.size ≤ k ∧ k < w'.heap.size) w2 w3

theorem lend_any (U : Nat → Prop) (mb : Nat) (ao : Option Addr) (cap : Nat) (l : List Opn) (w : World) (hm : w.heap[mb]? = some (.cells #[.slice none 0 0, .slice none 0 0, .slice none 0 0] 76)) (hR : RdO U w (.slice ao l.length cap) l) (hlen : l.length ≤ 1759218604390) (hpx : ∀ o ∈ l, o.px.length ≤ 17592186043904) (hU : ∀ k, U k → k < w.heap.size ∧ k ≠ mb) :
    Calls Tryz.prog 26 #[.pointer (some ⟨mb, 0, none⟩), .slice ao l.length cap] w fun e w' => Lend U mb l w e w' := by
  cases ao with
  | none =>
    have hl : l = [] := by
      obtain ⟨ao, cap', e, _, _, h3⟩ := hR
      cases l with
      | nil => rfl
      | cons x l =>
        obtain ⟨b, off, e1, _⟩ := h3 (by simp)
        simp only [Value.slice.injEq] at e
        rw [← e.1] at e1
        cases e1
    subst hl
    refine (opsOf_nil mb _ cap w).mono ?_
    rintro e w' ⟨rfl, rfl⟩
    refine ⟨none, 0, rfl, But.refl _ _, ⟨none, 0, rfl, Nat.le_refl _, by simp [maxLen], fun h => absurd rfl h⟩, fun w2 T hb hT => ?_⟩
    have hm2 := hb.heap hm (fun c => (hT mb c).2.1 rfl)
    refine (lwhole_any U mb 0 0 (.slice none 0 0) [] w2 hm2 (World.ownsRow_nil _ _ _ _) (Lent.none _ _ _) (by simp)).mono ?_
    rintro e w3 ⟨rfl, hb3⟩
    exact ⟨rfl, hb3.wide (fun k _ c => by obtain ⟨x, hx, _⟩ := c; simp at hx)⟩
  | some a =>
    refine (opsOf_any U mb (some a) cap l w hm (by simp) hR hlen hpx hU).mono ?_
    rintro e w' ⟨rfl, ms, li, ns, lo, h⟩
    refine ⟨_, _, rfl, h.but, h.lent' (by unfold maxLen; omega) (fun o ho => by have := hpx o ho; unfold maxLen; omega), fun w2 T hb hT => ?_⟩
    have hfar : ∀ k, w.heap.size ≤ k → ¬ T k := fun k hk c => by have := (hT k c).1; omega
    have hlt := (World.ownsRow.lt h.own w.heap.size rfl).2
    refine (lwhole2_any U mb w.heap.size w.heap.size li lo (.slice (some a) l.length cap) ns ms l w2 (hb.heap h.box (fun c => (hT mb c).2.1 rfl)) (row_but h.row hb (fun k hk => hfar k (World.ownsRow.lt h.row k hk).1)) (h.lent.but hb (fun k hk c => (hT k c).2.2 hk) (fun x hx => hfar _ (h.lent.lt hx).1)) (by have := h.cnt; omega)
      (row_but h.ops hb (fun k hk => hfar k (World.ownsRow.lt h.ops k hk).1)) (row_but h.own hb (fun k hk => hfar k (World.ownsRow.lt h.own k hk).1)) h.len h.mo (h.rd.but hb (fun k hk c => (hT k c).2.2 hk)) hlen hpx (fun c => by have := (hU _ c).1; omega)).mono ?_
    rintro e w3 ⟨rfl, hb3⟩
    refine ⟨rfl, hb3.wide (fun k _ c => ?_)⟩
    rcases c with ⟨x, hx, e⟩ | e
    · rw [e]; exact h.lent.lt hx
    · rw [e]; exact ⟨Nat.le_refl _, hlt⟩

/-- What is new bears no shelf's colour. -/
theorem QSt.fresh {U : Nat → Prop} {base wb : Nat} {gr gc go : Value} {C : List Cfg} {O : List (List Opn)} {w w' : World} {ss : Value} {shs : List Sh} {o : Nat → Nat × Nat} (h : QSt U base wb gr gc go C O w ss shs o) (hb : Below w.heap.size w w') : QSt U base wb gr gc go C O w' ss shs (paint w o (0, 0)) := by
  have hb' : But (fun _ => False) w w' := .of_below hb
  have hs := paint_same w o (0, 0)
  exact ⟨hb'.heap h.box (fun c => c), row_but h.own hb' (fun _ _ c => c), fun i s hs' => (h.each i s hs').but hb' hs (fun _ _ _ c => c), (hs wb (lt_of_heap h.box)).trans h.colw, fun g hg => (hs g (World.ownsRow.lt h.own g hg).2).trans (h.cols g hg), Nat.le_trans h.base_le hb.size, h.rdC.but hb' (fun _ _ c => c), h.rdO.but hb' (fun _ _ c => c), h.far⟩

/-- Submit: the end of the step. -/
theorem QSt.subEnd {U : Nat → Prop} {base wb : Nat} {gr gc go : Value} {C : List Cfg} {O : List (List Opn)} {w w4 w5 w6 : World} {ss : Value} {shs : List Sh} {o : Nat → Nat × Nat} (h : QSt U base wb gr gc go C O w ss shs o) {ia : Nat} {s : Sh} (hs : shs[ia]? = some s) (hb4 : Below w.heap.size w w4) {n : Int} {ops : List Opn} (hp : PSub s n ops base w4 w5) (hd : DSub s n ops base w5 w6) :
    ∃ T : Nat → Prop, But T w4 w6 ∧ (∀ u, T u → base ≤ u ∧ u < w.heap.size) ∧ ∀ (w7 : World), But (fun k => w.heap.size ≤ k ∧ k < w4.heap.size) w6 w7 → QNext U base wb gr gc go C O shs.length w w7 := by
  have h4 := h.fresh hb4
  have hsh := h4.each ia s hs
  obtain ⟨s', o', hx, hsp, hok, hsame, T, hB, hT⟩ := hsh.both h4.base_le hp hd
  have hq := h4.put hs hx hsp hok hB hsame (fun g _ hg => ⟨(hT g hg).1, (hT g hg).2.2⟩)
  refine ⟨T, hB, fun u hu => ⟨(hT u hu).1, ?_⟩, fun w7 hb7 => ?_⟩
  · rcases Nat.lt_or_ge u w.heap.size with c | c
    · exact c
    · have := (hT u hu).2.2
      rw [paint_new c] at this
      simp at this
  · have hwl := lt_of_heap h.box
    have hcol : ∀ g, w.heap.size ≤ g ∧ g < w4.heap.size → o' g = (0, 0) := fun g hg => (hsame g hg.2).trans (paint_new hg.1)
    have hwr : But (Wr base wb) w w7 := ((But.of_below hb4).trans hq.2).trans (hb7.wide (fun k _ c => .inr (by have := h.base_le; omega)))
    have hU : ∀ k, U k → ¬ (w.heap.size ≤ k ∧ k < w4.heap.size) := fun k hk c => by have := (h.far k hk).1; have := h.base_le; omega
    refine ⟨⟨ss, shs.set ia s', o', ⟨hb7.heap hq.1.box (fun c => by omega), row_but hq.1.own hb7 (fun g hg c => ?_), fun i t ht => (hq.1.each i t ht).but hb7 (fun _ _ => rfl) (fun g _ hc c => by rw [hcol g c] at hc; simp at hc), hq.1.colw, hq.1.cols, Nat.le_trans hq.1.base_le hb7.size, hq.1.rdC.but hb7 hU, hq.1.rdO.but hb7 hU, hq.1.far⟩, by simp⟩, hwr⟩
    have := (World.ownsRow.lt h.own g hg).2
    omega
end Go.Proofs.YtfnockbgkcgpkaaGreat

namespace Go.Proofs.YtfnockbgkcgpkaaGreat
open Go.RowKit Go.Proofs.Panes
set_option maxRecDepth 100000

theorem RdLO.at {U : Nat → Prop} {w : World} {v : Value} {L : List (List Opn)} (h : RdLO U w v L) {i : Nat} {l : List Opn} (hl : L[i]? = some l) : ∃ b off cap ao' cap', v = .slice (some ⟨b, off, none⟩) L.length cap ∧ b < w.heap.size ∧ w.cell? ⟨b, off + i, none⟩ = some (.slice ao' l.length cap') ∧ RdO U w (.slice ao' l.length cap') l := by
  obtain ⟨ao, cap, rfl, h1⟩ := h
  obtain ⟨b, off, rfl, hu, hlt, h2⟩ := h1 (by intro e; subst e; simp at hl)
  obtain ⟨v', e2, hR⟩ := h2 i l hl
  obtain ⟨ao', cap', ev, g⟩ := id hR
  rw [ev] at e2 hR
  exact ⟨b, off, cap, ao', cap', rfl, hlt, e2, hR⟩

set_option maxHeartbeats 4000000 in
theorem step_sub {U : Nat → Prop} {base wb : Nat} {gr gc go : Value} {C : List Cfg} {O : List (List Opn)} {w : World} {ss : Value} {shs : List Sh} {o : Nat → Nat × Nat} (h : QSt U base wb gr gc go C O w ss shs o) (kind oA oB oC : Int) (hk : kind = 8) (hA : -9223372036854775808 ≤ oA ∧ oA ≤ 9223372036854775807) (hC : -9223372036854775808 ≤ oC ∧ oC ≤ 9223372036854775807) (hn : 0 < shs.length ∧ shs.length ≤ 4398046511104) (hOn : O.length ≤ 10000000000000) (hol : ∀ l ∈ O, l.length ≤ 1759218604390 ∧ ∀ o ∈ l, o.px.length ≤ 17592186043904) :
    Calls Tryz.prog 10 #[.pointer (some ⟨wb, 0, none⟩), .agg #[.int .i64 kind, .int .i64 oA, .int .i64 oB, .int .i64 oC]] w fun e w' => e = .returned (.bool true) ∧ QNext U base wb gr gc go C O shs.length w w' := by
  obtain ⟨ia, ea, hia⟩ := pk_at oA shs.length hn.1
  obtain ⟨s, hs⟩ : ∃ s, shs[ia]? = some s := ⟨shs[ia], by simp [hia]⟩
  have HPA : Hid (∀ w', Calls Tryz.prog 14 #[.int .i64 oA, .int .i64 shs.length] w' fun e w'' => e = .returned (.int .i64 ia) ∧ w'' = w') := fun w' => by
    have h := pick_any oA shs.length w' hA (by omega)
    rw [ea] at h; exact h
  obtain ⟨sb, scap, ess⟩ : ∃ sb scap, ss = .slice (some ⟨sb, 0, none⟩) shs.length scap := by
    rcases h.own.2 with ⟨_, e⟩ | ⟨g, cap, cur, e, _⟩
    · omega
    · exact ⟨g, cap, e⟩
  have hown := h.own
  rw [ess] at hown
  have hbx := h.box
  rw [ess] at hbx
  obtain ⟨s0, s1⟩ := shcells_at shs ia s hs
  have p0 : w.cell? ⟨sb, ia * 2, none⟩ = some (.pointer (some ⟨s.xp, 0, none⟩)) := by rw [World.ownsRow.cellAt hown _ (by omega)]; exact s0
  have p1 : w.cell? ⟨sb, ia * 2 + 1, none⟩ = some (.pointer (some ⟨s.sp, 0, none⟩)) := by rw [World.ownsRow.cellAt hown _ (by omega)]; exact s1
  have c3 : w.cell? ⟨wb, 3, none⟩ = some (.slice (some ⟨sb, 0, none⟩) shs.length scap) := blk_cell hbx 3
  have hwb := lt_of_heap hbx
  have hsb : sb < w.heap.size := (World.ownsRow.lt hown sb rfl).2
  have nS : ¬ (shs.length : Int) = 0 := by omega
  have i0 : (0 : Int) ≤ (ia : Int) := by omega
  have i1 : (ia : Int) < (shs.length : Int) := by omega
  have k1 : ¬ kind < 1 := by omega
  have k2 : ¬ 11 < kind := by omega
  have k3 : ¬ kind ≤ 5 := by omega
  have k6 : ¬ kind = 6 := by omega
  have HH := hide h
  have HS := hide hs
  have HKD := hide hk
  have HOL := hide hol
  have HCC := hide hC
  clear h hbx hA ea hs hown s0 s1 hk hol hC
  go_enter Tryz.func10, Tryz.ntmps10
  go_wp2_with fail
  have hB1 : Below w.heap.size w (w.alloc (.cells #[.int .i64 kind, .int .i64 oA, .int .i64 oB, .int .i64 oC] 42)) := (Below.refl _ w).alloc (Nat.le_refl _) _
  have hX1 : (w.alloc (.cells #[.int .i64 kind, .int .i64 oA, .int .i64 oB, .int .i64 oC] 42)).heap[w.heap.size]? = some (.cells #[.int .i64 kind, .int .i64 oA, .int .i64 oB, .int .i64 oC] 42) := new_at _ _ _ rfl
  generalize w.alloc (.cells #[.int .i64 kind, .int .i64 oA, .int .i64 oB, .int .i64 oC] 42) = w1 at *
  have d3 := (hB1.cell (p := ⟨wb, 3, none⟩) hwb).trans c3
  have dA : w1.cell? ⟨w.heap.size, 1, none⟩ = some (.int .i64 oA) := blk_cell hX1 1
  have q0 := (hB1.cell (p := ⟨sb, ia * 2, none⟩) hsb).trans p0
  have q1 := (hB1.cell (p := ⟨sb, ia * 2 + 1, none⟩) hsb).trans p1
  have l1 : w.heap.size < w1.heap.size := lt_of_heap hX1
  have l2 : wb < w1.heap.size := by omega
  have l3 : sb < w1.heap.size := by omega
  have HB1 := hide hB1
  have HX1 := hide hX1
  clear hB1 hX1 p0 p1 c3
  rename_i K aK
  have HK : Hid (K { tmps := #[.pointer (some ⟨wb, 0, none⟩), .agg #[.int .i64 kind, .int .i64 oA, .int .i64 oB, .int .i64 oC], undef, .pointer (some ⟨w.heap.size, 0, none⟩), .bool false, .pointer (some ⟨w1.heap.size, 0, none⟩), undef, undef, undef, undef, undef, undef, undef, undef, undef, undef, undef, undef, undef, undef, .bool false, .pointer (some ⟨w.heap.size, 0, none⟩), .int .i64 kind, .bool false, .bool false, .pointer (some ⟨w.heap.size, 0, none⟩), .int .i64 kind, .bool false, .bool false, .bool false, .pointer (some ⟨w.heap.size, 0, none⟩), .int .i64 kind, .bool false, undef, undef, undef, .bool false, .pointer (some ⟨w.heap.size, 0, none⟩), .int .i64 kind, .bool false, undef, undef, undef, .bool false, .pointer (some ⟨wb, 0, none⟩), .pointer (some ⟨wb, 0, none⟩), .pointer (some ⟨wb, 3, none⟩), .slice (some ⟨sb, 0, none⟩) shs.length scap, .int .i64 shs.length, .bool false, .pointer (some ⟨wb, 0, none⟩), .pointer (some ⟨wb, 0, none⟩), .pointer (some ⟨wb, 3, none⟩), .slice (some ⟨sb, 0, none⟩) shs.length scap, .pointer (some ⟨w.heap.size, 1, none⟩), .int .i64 oA, .pointer (some ⟨wb, 0, none⟩), .pointer (some ⟨wb, 0, none⟩), .pointer (some ⟨wb, 3, none⟩), .slice (some ⟨sb, 0, none⟩) shs.length scap, .int .i64 shs.length, .int .i64 ia, .pointer (some ⟨sb, ia * 2, none⟩), .agg #[.pointer (some ⟨s.xp, 0, none⟩), .pointer (some ⟨s.sp, 0, none⟩)], undef, undef, undef, undef, undef, undef, undef, undef, undef, undef, undef, undef, undef, undef, undef, undef, undef, undef, undef, undef, undef, undef, undef, undef, undef, undef, undef, undef, undef, undef, undef, undef, undef, undef, undef, undef, undef, undef, undef, undef, undef, undef, undef, undef, undef, undef, undef, undef, undef, undef, undef, undef, undef, undef, undef, undef, undef, undef, undef, undef, undef, undef, undef, undef, undef, undef, undef, undef, undef, undef, undef, undef, undef, undef, undef, undef, undef, undef, undef, undef, undef, undef, undef, undef, undef, undef, undef, undef, undef, undef, undef, undef, undef, undef, undef, undef, undef, undef, undef, undef, undef, undef, undef, undef, undef, undef, undef, undef, undef, undef, undef, undef, undef], defers := [] } (w1.alloc (.cells #[.pointer (some ⟨s.xp, 0, none⟩), .pointer (some ⟨s.sp, 0, none⟩)] 57)).drew) := by
    refine aK _ _ ?_
    have hB2 : Below w.heap.size w (w1.alloc (.cells #[.pointer (some ⟨s.xp, 0, none⟩), .pointer (some ⟨s.sp, 0, none⟩)] 57)).drew := ((unhide HB1).alloc (Nat.le_of_lt l1) _).drew
    have hY2 : (w1.alloc (.cells #[.pointer (some ⟨s.xp, 0, none⟩), .pointer (some ⟨s.sp, 0, none⟩)] 57)).drew.heap[w1.heap.size]? = some (.cells #[.pointer (some ⟨s.xp, 0, none⟩), .pointer (some ⟨s.sp, 0, none⟩)] 57) := new_at _ _ _ rfl
    have hX2 : (w1.alloc (.cells #[.pointer (some ⟨s.xp, 0, none⟩), .pointer (some ⟨s.sp, 0, none⟩)] 57)).drew.heap[w.heap.size]? = some (.cells #[.int .i64 kind, .int .i64 oA, .int .i64 oB, .int .i64 oC] 42) := blk_alloc (unhide HX1) _
    clear d3 dA q0 q1 aK
    generalize (w1.alloc (.cells #[.pointer (some ⟨s.xp, 0, none⟩), .pointer (some ⟨s.sp, 0, none⟩)] 57)).drew = w2 at *
    have lx : w1.heap.size < w2.heap.size := lt_of_heap hY2
    have lo' : w.heap.size < w2.heap.size := lt_of_heap hX2
    have x0 : w2.cell? ⟨w1.heap.size, 0, none⟩ = some (.pointer (some ⟨s.xp, 0, none⟩)) := blk_cell hY2 0
    have x1 : w2.cell? ⟨w1.heap.size, 1, none⟩ = some (.pointer (some ⟨s.sp, 0, none⟩)) := blk_cell hY2 1
    have o0 : w2.cell? ⟨w.heap.size, 0, none⟩ = some (.int .i64 kind) := blk_cell hX2 0
    have o2 : w2.cell? ⟨w.heap.size, 2, none⟩ = some (.int .i64 oB) := blk_cell hX2 2
    have o3 : w2.cell? ⟨w.heap.size, 3, none⟩ = some (.int .i64 oC) := blk_cell hX2 3
    have hQ2 := (unhide HH).below hB2
    have HQ2 := hide hQ2
    have hsh := hQ2.1.each ia s (unhide HS)
    have HSH := hide hsh
    have HB2 := hide hB2
    have HY2 := hide hY2
    have HX2 := hide hX2
    clear hB2 hQ2 hY2 hX2
    have hk8 : kind = 8 := unhide HKD
    subst hk8
    clear HKD hsh
    by_cases h0 : O.length = 0
    · obtain ⟨gao, gcap, ego, _⟩ := (unhide HQ2).1.rdO
      have hbx := (unhide HQ2).1.box
      rw [ego, h0] at hbx
      have c2 : w2.cell? ⟨wb, 2, none⟩ = some (.slice gao 0 gcap) := blk_cell hbx 2
      clear hbx x0 x1 o2 o3 ego
      go_wp2
      go_ret
      exact ⟨rfl, QNext.from (unhide HQ2).2 (QNext.same (unhide HQ2).1 (Below.refl _ _))⟩
    · obtain ⟨ic, ec, hic⟩ := pk_at oC O.length (by omega)
      obtain ⟨l, hl⟩ : ∃ l, O[ic]? = some l := ⟨O[ic], by simp [hic]⟩
      obtain ⟨gb, goff, gcap, lo, lcap, ego, hgb, hgc, hRl⟩ := (unhide HQ2).1.rdO.at hl
      have hll := (unhide HOL) l (List.mem_of_getElem? hl)
      have hbx := (unhide HQ2).1.box
      rw [ego] at hbx
      have c2 : w2.cell? ⟨wb, 2, none⟩ = some (.slice (some ⟨gb, goff, none⟩) O.length gcap) := blk_cell hbx 2
      have HPC : Hid (∀ w', Calls Tryz.prog 14 #[.int .i64 oC, .int .i64 O.length] w' fun e w'' => e = .returned (.int .i64 ic) ∧ w'' = w') := fun w' => by
        have h := pick_any oC O.length w' (unhide HCC) (by omega)
        rw [ec] at h; exact h
      have nO : ¬ (O.length : Int) = 0 := by omega
      have j0 : (0 : Int) ≤ (ic : Int) := by omega
      have j1 : (ic : Int) < (O.length : Int) := by omega
      have HRl := hide hRl
      have HLL := hide hll
      clear hbx ego hRl hll ec hl HPA
      go_wp2_with fail
      go_quiet ((go_at_call 14; exact Calls.quiet_of_same ((unhide HPC) _)))
      have hB3 : Below w2.heap.size w2 (w2.drewN nq) := below_drewN (Below.refl _ _) _
      have y0 : (w2.drewN nq).cell? ⟨w1.heap.size, 0, none⟩ = some (.pointer (some ⟨s.xp, 0, none⟩)) := x0
      have y1 : (w2.drewN nq).cell? ⟨w1.heap.size, 1, none⟩ = some (.pointer (some ⟨s.sp, 0, none⟩)) := x1
      have z2 : (w2.drewN nq).cell? ⟨w.heap.size, 2, none⟩ = some (.int .i64 oB) := o2
      have es3 : (w2.drewN nq).heap.size = w2.heap.size := rfl
      clear x0 x1 o0 o2 o3 c2 hgc
      generalize w2.drewN nq = w3 at *
      have HB3 := hide hB3
      clear hB3
      go_wp2_with fail
      have hBA : Below w2.heap.size w2 (w3.alloc (.cells #[.slice none 0 0, .slice none 0 0, .slice none 0 0] 76)) := (unhide HB3).alloc (unhide HB3).size _
      have hmA : (w3.alloc (.cells #[.slice none 0 0, .slice none 0 0, .slice none 0 0] 76)).heap[w2.heap.size]? = some (.cells #[.slice none 0 0, .slice none 0 0, .slice none 0 0] 76) := new_at _ _ _ es3.symm
      have esA : (w3.alloc (.cells #[.slice none 0 0, .slice none 0 0, .slice none 0 0] 76)).heap.size = w2.heap.size + 1 := by show (w3.heap.push _).size = _; rw [Array.size_push, es3]
      have l3a : w1.heap.size < w3.heap.size := by rw [es3]; exact lx
      have l3b : w.heap.size < w3.heap.size := by rw [es3]; exact lo'
      have u0 : (w3.alloc (.cells #[.slice none 0 0, .slice none 0 0, .slice none 0 0] 76)).cell? ⟨w1.heap.size, 0, none⟩ = some (.pointer (some ⟨s.xp, 0, none⟩)) := (World.cell?_of_block (w := w3) (Below.heap_alloc _ _ _ l3a)).trans y0
      have u1 : (w3.alloc (.cells #[.slice none 0 0, .slice none 0 0, .slice none 0 0] 76)).cell? ⟨w1.heap.size, 1, none⟩ = some (.pointer (some ⟨s.sp, 0, none⟩)) := (World.cell?_of_block (w := w3) (Below.heap_alloc _ _ _ l3a)).trans y1
      have u2 : (w3.alloc (.cells #[.slice none 0 0, .slice none 0 0, .slice none 0 0] 76)).cell? ⟨w.heap.size, 2, none⟩ = some (.int .i64 oB) := (World.cell?_of_block (w := w3) (Below.heap_alloc _ _ _ l3b)).trans z2
      clear y0 y1 z2 HB3 es3
      generalize w3.alloc (.cells #[.slice none 0 0, .slice none 0 0, .slice none 0 0] 76) = wA at *
      have hBAw : Below w.heap.size w wA := (unhide HB2).trans (hBA.mono (unhide HB2).size)
      have hbl := (unhide HH).base_le
      have hfar := (unhide HH).far
      have HRA := hide ((unhide HRl).below hBA)
      have HL := hide (lend_any U w2.heap.size lo lcap l wA.drew hmA ((unhide HRA).below (Below.refl _ _).drew) (unhide HLL).1 (unhide HLL).2 (fun k hk => by have := hfar k hk; have := hBAw.size; exact ⟨by show k < wA.heap.size; omega, by omega⟩))
      have HBAw := hide hBAw
      have HMA := hide hmA
      have HFAR := hide hfar
      have hsw := hBAw.size
      have a1 : w1.heap.size < wA.drew.heap.size := by show _ < wA.heap.size; omega
      have a2 : w.heap.size < wA.drew.heap.size := by show _ < wA.heap.size; omega
      have a3 : ¬ w1.heap.size = w2.heap.size := by omega
      have a4 : ¬ w.heap.size = w2.heap.size := by omega
      clear hBA hmA hBAw HRl HPC hfar
      go_region_held3 (fun w' => w'.cell? ⟨w1.heap.size, 0, none⟩ = some (.pointer (some ⟨s.xp, 0, none⟩)) ∧ w'.cell? ⟨w.heap.size, 2, none⟩ = some (.int .i64 oB))
        (first | (refine ⟨?_, ?_⟩ <;> assumption) | go_keep)
        (first
          | (go_at_call 26
             refine (unhide HL).mono ?_
             rintro e w4 ⟨la, lc, rfl, hb4, hR4, hW4⟩
             have v0 : w4.cell? ⟨w1.heap.size, 0, none⟩ = some (.pointer (some ⟨s.xp, 0, none⟩)) := (World.cell?_of_block (hb4.block w1.heap.size a1 a3)).trans u0
             have v1 : w4.cell? ⟨w1.heap.size, 1, none⟩ = some (.pointer (some ⟨s.sp, 0, none⟩)) := (World.cell?_of_block (hb4.block w1.heap.size a1 a3)).trans u1
             have v2 : w4.cell? ⟨w.heap.size, 2, none⟩ = some (.int .i64 oB) := (World.cell?_of_block (hb4.block w.heap.size a2 a4)).trans u2
             have hB4w : Below w.heap.size w w4 := ((unhide HBAw).drew).trans (hb4.below (by show _ ≤ wA.heap.size; omega) (fun k e => by rw [e]; omega))
             have hs4 : wA.heap.size ≤ w4.heap.size := hb4.size
             have hsh4 := ((unhide HH).fresh hB4w).each ia s (unhide HS)
             have HSub := hide (pSubmit_sh _ hsh4 (Nat.le_trans hbl hB4w.size) oB la lc l hR4 (unhide HLL).1 (unhide HLL).2 (fun k hk => hk.2))
             have HSH4 := hide hsh4
             have HB4w := hide hB4w
             have HW4 := hide hW4
             have HR4 := hide (((unhide HRA).below ((Below.refl _ wA).drew)).but hb4 (fun k hk c => by have := (unhide HFAR) k hk; omega))
             clear hb4 hR4 hW4 hB4w hsh4)
          | (go_at_call 25
             refine (unhide HSub).mono ?_
             rintro e w5 ⟨rfl, hP5⟩
             have hD5 := (unhide HSH4).docs hP5
             have v0' : w5.cell? ⟨w1.heap.size, 0, none⟩ = some (.pointer (some ⟨s.xp, 0, none⟩)) := by
               obtain ⟨T, hB, hT⟩ := hD5.2.2.2
               exact (World.cell?_of_block (hB.block w1.heap.size (by omega) (fun c => by have := (hT _ c).2; rw [paint_new (Nat.le_of_lt l1)] at this; simp at this))).trans v0
             have v1' : w5.cell? ⟨w1.heap.size, 1, none⟩ = some (.pointer (some ⟨s.sp, 0, none⟩)) := by
               obtain ⟨T, hB, hT⟩ := hD5.2.2.2
               exact (World.cell?_of_block (hB.block w1.heap.size (by omega) (fun c => by have := (hT _ c).2; rw [paint_new (Nat.le_of_lt l1)] at this; simp at this))).trans v1
             have v2' : w5.cell? ⟨w.heap.size, 2, none⟩ = some (.int .i64 oB) := by
               obtain ⟨T, hB, hT⟩ := hD5.2.2.2
               exact (World.cell?_of_block (hB.block w.heap.size (by omega) (fun c => by have := (hT _ c).2; rw [paint_new (Nat.le_refl _)] at this; simp at this))).trans v2
             have HP5 := hide hP5
             have HD5 := hide hD5
             clear hP5 hD5))
      obtain ⟨code, hcode⟩ : ∃ code, code = subCode s.c s.S (look s.ks oB) l := ⟨_, rfl⟩
      rw [← hcode]
      have HCode := hide hcode
      clear hcode HSub HL
      have hR5 : RdO U w5 (.slice lo l.length lcap) l := by
        obtain ⟨T, hB, hT⟩ := (unhide HD5).2.2.2
        exact (unhide HR4).but hB (fun k hk c => by have := ((unhide HFAR) k hk).1; have := (hT k c).1.1; omega)
      have HDoc := hide (dSubmit_sh U (unhide HD5).1 (Nat.le_trans hbl (Nat.le_trans (unhide HB4w).size (unhide HD5).2.2.1)) (unhide HSH4).sur ⟨(unhide HSH4).sbd.1, (unhide HSH4).sbd.2.1⟩ (unhide HD5).2.1 oB lo lcap l hR5 (unhide HLL).1 (unhide HLL).2 (fun k hk => by have := ((unhide HFAR) k hk).1; have := (unhide HB4w).size; have := (unhide HD5).2.2.1; omega))
      rw [← unhide HCode] at HDoc
      have HN : Hid (∀ w, Calls Tryz.prog 17 #[.int .i64 code] w fun e w' => e = .returned (.int .i64 code) ∧ w' = w) := fun w => num_any code w
      clear hR5
      go_wp2_with fail
      refine (unhide HDoc).mono ?_
      rintro e w6 ⟨rfl, hD6⟩
      obtain ⟨T6, hB6, hT6, hEnd⟩ := (unhide HH).subEnd (unhide HS) (unhide HB4w) (unhide HP5) hD6
      have HWh := hide ((unhide HW4) w6 T6 hB6 (fun u hu => ⟨by have := (hT6 u hu).2; show u < wA.heap.size; omega, by have := (hT6 u hu).2; have := (unhide HB2).size; omega, fun c => by have := ((unhide HFAR) u c).1; have := (hT6 u hu).1; omega⟩))
      have HEnd := hide hEnd
      clear hB6 hT6 hD6 hEnd HDoc
      go_wp2_with fail
      refine (unhide HWh).mono ?_
      rintro e w7 ⟨rfl, hb7⟩
      have HFin := hide ((unhide HEnd) w7 (hb7.wide (fun k _ c => ⟨by have h1 := c.1; have h2 : wA.drew.heap.size = wA.heap.size := rfl; omega, c.2⟩)))
      clear hb7 HWh HEnd
      go_wp2_with (go_at_call 17; refine ((unhide HN) _).mono ?_; rintro e w' ⟨rfl, hw'⟩; have hw2 := hw'.symm; clear hw'; subst hw2)
      go_ret
      exact ⟨by simp, unhide HFin⟩
  clear aK
  go_region_held3 (fun w' => w'.cell? ⟨wb, 3, none⟩ = some (.slice (some ⟨sb, 0, none⟩) shs.length scap) ∧ w'.cell? ⟨w.heap.size, 1, none⟩ = some (.int .i64 oA) ∧ w'.cell? ⟨sb, ia * 2, none⟩ = some (.pointer (some ⟨s.xp, 0, none⟩)) ∧ w'.cell? ⟨sb, ia * 2 + 1, none⟩ = some (.pointer (some ⟨s.sp, 0, none⟩)))
    (first | (refine ⟨?_, ?_, ?_, ?_⟩ <;> assumption) | go_keep)
    ((go_at_call 14; refine ((unhide HPA) _).mono ?_; rintro e w' ⟨rfl, hw'⟩; have hw2 := hw'.symm; clear hw'; subst hw2))
  all_goals
    simp only [Exit.then]
    go_simp
    exact unhide HK
end Go.Proofs.YtfnockbgkcgpkaaGreat
