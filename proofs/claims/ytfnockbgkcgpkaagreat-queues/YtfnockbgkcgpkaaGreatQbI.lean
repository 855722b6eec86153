import Derived.Test.YtfnockbgkcgpkaaGreatQbH
import Derived.Deep.RegionLaw
set_option linter.all false
namespace Go.Proofs.YtfnockbgkcgpkaaGreat
open Go.RowKit Go.Proofs.Panes
set_option maxRecDepth 100000
attribute [local go_sem ↓] Go.wp_at_zero Go.wp_at_succ

/-- A client's queue and flags are other ones. -/
theorem dcells_two : ∀ (l : List DCl) (j : Nat) (d : DCl) (q' wv' : Value), l[j]? = some d → ((dcells l).set (j * 4 + 3) wv').set (j * 4 + 1) q' = dcells (l.set j ⟨d.there, q', d.cr, wv'⟩)
  | [], j, d, _, _, h => by simp at h
  | q :: l, 0, d, _, _, h => by
    simp at h; subst h; rfl
  | q :: l, j + 1, d, q', wv', h => by
    have ih := dcells_two l j d q' wv' (by simpa using h)
    show _ = dcell q ++ dcells (l.set j _)
    rw [← ih]
    have e : ∀ (X : List Value) (t : Nat) (u : Value), (dcell q ++ X).set ((j + 1) * 4 + t) u = dcell q ++ X.set (j * 4 + t) u := fun X t u => by
      rw [List.set_append_right _ _ (by simp [dcell]; omega)]
      congr 2
      simp [dcell]; omega
    show ((dcell q ++ dcells l).set _ _).set _ _ = _
    rw [e, e]
theorem new_at_drewq (w : World) (o : Obj) (n : Nat) (h : n = w.heap.size) : (w.alloc o).drew.heap[n]? = some o := new_at w o n h
theorem info_opl : (Tryz.prog.info? 53).map (fun i => (i.zero, i.size, i.bytes)) = some (some (.slice none 0 0), 1, 24) := by kernel_rfl

set_option maxHeartbeats 2000000 in
theorem docSubmit_bad {w : World} {sp cb : Nat} {c : Cfg} {cl : List DCl} (h : DocSt w sp cb c cl) (n : Int) (ao : Option Addr) (len cap : Nat) (hlen : len ≤ 17592186044416) (hbad : (isThere cl n && inB len 1 20) = false) :
    Calls Tryz.prog 27 #[.pointer (some ⟨sp, 0, none⟩), .int .i64 n, .slice ao len cap] w fun e w' => e = .returned (.int .i64 3) ∧ w' = w := by
  have HT := hide (there_any h n)
  clear h
  obtain ⟨t, ht⟩ : ∃ t, t = isThere cl n := ⟨_, rfl⟩
  rw [← ht] at hbad HT
  clear ht
  cases t with
  | false =>
    go_enter Tryz.func27, Tryz.ntmps27
    go_wp2_with (go_at_call 47; refine (unhide HT).mono ?_; rintro e w' ⟨rfl, hw'⟩; have hw2 := hw'.symm; clear hw'; subst hw2)
    go_ret
    exact ⟨rfl, rfl⟩
  | true =>
    have hb : (decide ((1 : Int) ≤ (len : Int)) && decide ((len : Int) ≤ (20 : Int))) = false := by simpa [inB] using hbad
    clear hbad
    go_enter Tryz.func27, Tryz.ntmps27
    go_wp2_with (first | (go_at_call 47; refine (unhide HT).mono ?_; rintro e w' ⟨rfl, hw'⟩; have hw2 := hw'.symm; clear hw'; subst hw2; clear HT) | (go_at_call 58; refine (in_any _ _ _ _).mono ?_; rintro e w' ⟨rfl, hw'⟩; have hw2 := hw'.symm; clear hw'; subst hw2))
    go_ret
    exact ⟨rfl, rfl⟩

theorem submit_end {w w5 w6 : World} {sp cb : Nat} {c : Cfg} {cl : List DCl} (h : DocSt w sp cb c cl) {j : Nat} {d : DCl} (hd : cl[j]? = some d) (hdt : d.there = true) {S bq m : Nat} {x : List Bool} {xs : List Value} {qo : Option Addr} {qc : Nat} {u : Value} {gg gk : Nat}
    (hC5 : w5.heap[cb]? = some (.cells ((dcells cl).set (j * 4 + 3) (.slice (some ⟨w.heap.size, 0, none⟩) S S)).toArray 123)) (hB5 : But (fun k => k = cb) w w5) (hO5 : OwnB w5 w.heap.size (.slice (some ⟨w.heap.size, 0, none⟩) S S) x) (hQ5 : w5.ownsRow bq 53 1 (.slice qo m qc) m xs)
    (hG : w5.grownBy w6 (Value.slice qo m qc).ownBlock) (hW : w6.ownsRow bq 53 1 (.slice (some ⟨gg, 0, none⟩) (m + 1) gk) (m + 1) (xs ++ [u])) (hat : (Value.slice qo m qc).ownBlock = some gg ∨ gg = w5.heap.size + 1) (hs : w.heap.size < w5.heap.size) (eq : d.q = .slice qo m qc) :
    DocSt (w6.setCell ⟨cb, j * 4 + 1, none⟩ (.slice (some ⟨gg, 0, none⟩) (m + 1) gk)) sp cb c (cl.set j ⟨true, .slice (some ⟨gg, 0, none⟩) (m + 1) gk, d.cr, .slice (some ⟨w.heap.size, 0, none⟩) S S⟩) ∧ OwnB (w6.setCell ⟨cb, j * 4 + 1, none⟩ (.slice (some ⟨gg, 0, none⟩) (m + 1) gk)) w.heap.size (.slice (some ⟨w.heap.size, 0, none⟩) S S) x ∧
      (∃ xs', (w6.setCell ⟨cb, j * 4 + 1, none⟩ (.slice (some ⟨gg, 0, none⟩) (m + 1) gk)).ownsRow bq 53 1 (.slice (some ⟨gg, 0, none⟩) (m + 1) gk) (m + 1) xs') ∧ (∀ k, (Value.slice (some ⟨gg, 0, none⟩) (m + 1) gk).ownBlock = some k → d.q.ownBlock = some k ∨ w.heap.size ≤ k) ∧ w.heap.size ≤ w.heap.size ∧ But (fun k => k = cb ∨ d.q.ownBlock = some k) w (w6.setCell ⟨cb, j * 4 + 1, none⟩ (.slice (some ⟨gg, 0, none⟩) (m + 1) gk)) := by
  have hkc : (Value.slice qo m qc).ownBlock ≠ some cb := row_kind hQ5 hC5 (by decide)
  have hC6 := grown_block hG hC5 hkc
  have hgc : gg ≠ cb := fun e => row_kind hW hC6 (by decide) (by rw [e]; rfl)
  obtain ⟨cs, hsc, q⟩ := h.scr
  have hS5 := hB5.heap hsc h.apart
  have hks : (Value.slice qo m qc).ownBlock ≠ some sp := row_kind hQ5 hS5 (by decide)
  have hS6 := grown_block hG hS5 hks
  have hO6 : OwnB w6 w.heap.size (.slice (some ⟨w.heap.size, 0, none⟩) S S) x := by
    refine World.ownsRow.kept hO5 hG (.inr (fun e => ?_))
    exact row_apart hO5 hQ5 (by decide) rfl e.symm
  rw [eq]
  refine ⟨⟨⟨cs, blk_other hS6 h.apart _, by simpa using q⟩, ?_⟩, ?_, ⟨_, ownsRow_setCell_other hW (by simp [Value.ownBlock]; exact hgc) _⟩, ?_, Nat.le_refl _, ?_⟩
  · have := blk_set (i := j * 4 + 1) hC6 (.slice (some ⟨gg, 0, none⟩) (m + 1) gk)
    rw [this]
    have e2 := dcells_two cl j d (.slice (some ⟨gg, 0, none⟩) (m + 1) gk) (.slice (some ⟨w.heap.size, 0, none⟩) S S) hd
    rw [hdt] at e2
    rw [← e2]
    simp
  · refine ownsRow_setCell_other hO6 (fun e => ?_) _
    simp only [Value.ownBlock, Option.some.injEq] at e
    have := lt_of_heap h.cls
    omega
  · intro k hk
    simp only [Value.ownBlock, Option.some.injEq] at hk
    subst hk
    rcases hat with c1 | c1
    · exact .inl c1
    · exact .inr (by omega)
  · refine But.setCell (S := fun k => k = cb ∨ (Value.slice qo m qc).ownBlock = some k) ?_ (p := ⟨cb, j * 4 + 1, none⟩) (.inl (.inl rfl)) _
    exact (hB5.wide (fun k _ h => .inl h)).grown hG (fun k e => .inl (.inr e))

set_option maxHeartbeats 8000000 in
theorem docSubmit_main (U : Nat → Prop) {w : World} {sp cb : Nat} {c : Cfg} {cl : List DCl} (h : DocSt w sp cb c cl) (j : Nat) (d : DCl) (hd : cl[j]? = some d) (hdt : d.there = true) (S : Nat) (hS : c.surfaces = S) (hS4 : 1 ≤ S ∧ S ≤ 4) (bw bq m : Nat) (will : List Bool) (hwl : will.length = S) (hW : OwnB w bw d.wv will) (xs : List Value) (hQ : w.ownsRow bq 53 1 d.q m xs) (hbq : bq ≤ w.heap.size) (hm : m ≤ 100000)
    (ops : List Opn) (ao : Option Addr) (cap : Nat) (hR : RdO U w (.slice ao ops.length cap) ops) (hlen : 1 ≤ ops.length ∧ ops.length ≤ 20) (hpx : ∀ o ∈ ops, o.px.length ≤ 17592186043904) (hU : ∀ k, U k → k < w.heap.size) :
    Calls Tryz.prog 27 #[.pointer (some ⟨sp, 0, none⟩), .int .i64 j, .slice ao ops.length cap] w fun e w' => ∃ code : Int, e = .returned (.int .i64 code) ∧
      ((vall will ops = none ∧ code = 3 ∧ Below w.heap.size w w') ∨ ∃ will', vall will ops = some will' ∧ ((c.most < costOf ops ∧ code = 3 ∧ Below w.heap.size w w') ∨ (costOf ops ≤ c.most ∧ c.queue ≤ (m : Int) ∧ code = 4 ∧ Below w.heap.size w w') ∨
        (costOf ops ≤ c.most ∧ (m : Int) < c.queue ∧ code = 0 ∧ ∃ g q', DocSt w' sp cb c (cl.set j ⟨true, q', d.cr, .slice (some ⟨g, 0, none⟩) S S⟩) ∧ OwnB w' w.heap.size (.slice (some ⟨g, 0, none⟩) S S) will' ∧ (∃ xs', w'.ownsRow bq 53 1 q' (m + 1) xs') ∧ (∀ k, q'.ownBlock = some k → d.q.ownBlock = some k ∨ w.heap.size ≤ k) ∧ w.heap.size ≤ g ∧ But (fun k => k = cb ∨ d.q.ownBlock = some k) w w'))) := by
  obtain ⟨cs, hs, q0, q1, q2, q3, q4, q5, q6, q7, q8⟩ := id h.scr
  have c8 : w.cell? ⟨sp, 8, none⟩ = some (.slice (some ⟨cb, 0, none⟩) cl.length cl.length) := by rw [blk_cell hs]; exact q8
  have c6 : w.cell? ⟨sp, 6, none⟩ = some (.int .i64 (S : Int)) := by rw [blk_cell hs, q6, hS]
  have hsp := lt_of_heap hs
  have hcb := lt_of_heap h.cls
  have hjl : j < cl.length := (List.getElem?_eq_some_iff.1 hd).1
  obtain ⟨a0, a1, a2, a3⟩ := dcells_at cl j d hd
  have b3 : w.cell? ⟨cb, j * 4 + 3, none⟩ = some d.wv := by rw [blk_cell h.cls]; simpa using a3
  have hmk := make_bools S (by omega)
  have ht : isThere cl (j : Int) = true := by simp [isThere, hd, hdt]
  have HT := hide (there_any h (j : Int))
  rw [ht] at HT
  have i0 : (0 : Int) ≤ (j : Int) := by omega
  have i1 : (j : Int) < (cl.length : Int) := by omega
  have hb : (decide ((1 : Int) ≤ (ops.length : Int)) && decide ((ops.length : Int) ≤ (20 : Int))) = true := by simp; omega
  obtain ⟨wo, wc, ewv⟩ := row_slice hW
  rw [hwl] at ewv
  rw [ewv] at b3
  have HH := hide h
  have HWw : Hid (OwnB w bw (.slice wo S wc) will) := by rw [← ewv]; exact hW
  have HQ := hide hQ
  have HR := hide hR
  have HU := hide hU
  have HD := hide hd
  have HPx := hide hpx
  clear hs q0 q1 q2 q3 q4 q5 q6 q7 q8 h hW hQ hR hU hd a0 a1 a2 a3 hpx ht
  go_enter Tryz.func27, Tryz.ntmps27
  go_wp2_with (first
    | (go_at_call 47; refine (unhide HT).mono ?_; rintro e w' ⟨rfl, hw'⟩; have hw2 := hw'.symm; clear hw'; subst hw2; clear HT)
    | (go_at_call 58; refine (in_any _ _ _ _).mono ?_; rintro e w' ⟨rfl, hw'⟩; have hw2 := hw'.symm; clear hw'; subst hw2)
    | (refine copy_bools rfl _ _ rfl w.heap.size bw w.heap.size S wc (List.replicate S false) will (.slice wo S wc) rfl rfl (own_bools w S _ (Nat.le_refl _) (by omega)) (by simp) (ownB_kept (unhide HWw) ((Below.refl _ w).alloc (Nat.le_refl _) _)) hwl (by omega) ?_
       intro w1 hown hgrow
       have hb1 : Below w.heap.size w w1 := ((Below.refl _ w).alloc (Nat.le_refl _) _).grown hgrow (by simp) (fun k e => by cases e; exact Nat.le_refl _)
       have hs1 : w.heap.size < w1.heap.size := by have := hgrow.size; simp at this; omega
       have HO1 := hide hown
       have HB1 := hide hb1
       clear hown hgrow hb1))
  have hmb : Hid (∀ wx : World, Below w.heap.size w wx → wx.cell? ⟨sp, 6, none⟩ = some (.int .i64 (S : Int))) := fun wx hb => (hb.cell hsp).trans c6
  clear hmk b3
  go_loopw [6, 9] (fun r6 i wr => r6 = .int .i64 0 ∧ ∃ k : Nat, k ≤ ops.length ∧ i = .int .i64 k ∧ Below w.heap.size w wr ∧ ∃ x, vall will (ops.take k) = some x ∧ x.length = S ∧ OwnB wr w.heap.size (.slice (some ⟨w.heap.size, 0, none⟩) S S) x) (fun _ i _ => ops.length - (intOf i).toNat)
  case atStart => exact ⟨rfl, 0, Nat.zero_le _, rfl, unhide HB1, will, rfl, hwl, unhide HO1⟩
  case round =>
    rename World => wq
    clear HO1 HB1
    obtain ⟨rfl, k, hk, rfl, hbel, x, hx, hxl, hO⟩ := hrel
    by_cases hlt : k < ops.length
    · obtain ⟨o, ho⟩ : ∃ o, ops[k]? = some o := ⟨ops[k], by simp [hlt]⟩
      obtain ⟨ao', cap', e, _, _, h3⟩ := (unhide HR).below hbel
      simp only [Value.slice.injEq, true_and] at e
      obtain ⟨rfl, rfl⟩ := e
      obtain ⟨b, off, rfl, _, _, hc⟩ := h3 (by intro e; rw [e] at hlt; simp at hlt)
      obtain ⟨c0, c1, c2, c3, c4, c5, ⟨pv, c6', hpv⟩, c7⟩ := hc k o ho
      obtain ⟨po, pc, epv, pjunk⟩ := id hpv
      have HV := hide (valid_any U sp w.heap.size w.heap.size S S x o pv wq ((unhide hmb) wq hbel) hO hxl.symm hS4 hpv ((unhide HPx) o (List.mem_of_getElem? ho)))
      unfold oval at HV
      rw [epv] at HV c6'
      clear pjunk h3 hc hpv epv
      have k0 : (0 : Int) ≤ (k : Int) := by omega
      have k1 : (k : Int) < (ops.length : Int) := by omega
      have HB := hide hbel
      have HX := hide hx
      have HO := hide ho
      clear hbel hx hO ho
      go_wp2_with fail
      refine (unhide HV).mono ?_
      rintro e w2 ⟨vb, rfl, hbut, hyes, hno⟩
      have hbel2 : Below w.heap.size w w2 := (unhide HB).trans (hbut.below (unhide HB).size (fun k e => by rw [e]; exact Nat.le_refl _))
      have HB2 := hide hbel2
      clear HV hbut hbel2
      cases vb with
      | true =>
        obtain ⟨x', hx', hxl', hO'⟩ := hyes rfl
        have HX' := hide (show vall will (ops.take (k + 1)) = some x' by rw [vall_succ (unhide HX) (unhide HO)]; exact hx')
        have HO' := hide hO'
        have hxl2 : x'.length = S := by omega
        clear hyes hno hx' hO'
        go_wp2
        go_roundw
        case rel => exact ⟨rfl, k + 1, by omega, by go_num, unhide HB2, x', unhide HX', hxl2, unhide HO'⟩
        case measure => simp [intOf]; omega
      | false =>
        have HN := hide (vall_fail (unhide HX) (unhide HO) (hno rfl))
        clear hyes hno
        go_wp2
        go_ret
        exact ⟨3, rfl, .inl ⟨unhide HN, rfl, unhide HB2⟩⟩
    · obtain rfl : k = ops.length := by omega
      rw [List.take_length] at hx
      have hcs := docCost_any U (.slice ao ops.length cap) ops wq ((unhide HR).below hbel) (by omega) (vall_small ops will x hx)
      have HCS := hide hcs
      obtain ⟨cs', hs', r0, r1, r2, r3, r4, r5, r6, r7, r8⟩ := (unhide HH).scr
      have e3 : w.cell? ⟨sp, 3, none⟩ = some (.int .i64 c.queue) := by rw [blk_cell hs']; exact r3
      have e4 : w.cell? ⟨sp, 4, none⟩ = some (.int .i64 c.most) := by rw [blk_cell hs']; exact r4
      have HE3 := hide e3
      have HE4 := hide e4
      have HB := hide hbel
      have HX := hide hx
      have HO := hide hO
      clear hs' r0 r1 r2 r3 r4 r5 r6 r7 r8 hcs hbel hx hO e3 e4
      go_wp2_with fail
      refine (unhide HCS).mono ?_
      rintro e w3 ⟨rfl, hb3⟩
      have hB3 : Below w.heap.size w w3 := (unhide HB).trans (hb3.mono (unhide HB).size)
      have d3 : w3.cell? ⟨sp, 3, none⟩ = some (.int .i64 c.queue) := (hB3.cell hsp).trans (unhide HE3)
      have d4 : w3.cell? ⟨sp, 4, none⟩ = some (.int .i64 c.most) := (hB3.cell hsp).trans (unhide HE4)
      have d8 : w3.cell? ⟨sp, 8, none⟩ = some (.slice (some ⟨cb, 0, none⟩) cl.length cl.length) := (hB3.cell hsp).trans c8
      obtain ⟨a0, a1, a2, a3⟩ := dcells_at cl j d (unhide HD)
      have hC3 : w3.heap[cb]? = some (.cells (dcells cl).toArray 123) := (hB3.block _ hcb).trans (unhide HH).cls
      obtain ⟨qo, qc, eq⟩ := row_slice (unhide HQ)
      have g1 : w3.cell? ⟨cb, j * 4 + 1, none⟩ = some (.slice qo m qc) := by rw [← eq, blk_cell hC3]; simpa using a1
      have g3 : w3.cell? ⟨cb, j * 4 + 3, none⟩ = some (.slice wo S wc) := by rw [← ewv, blk_cell hC3]; simpa using a3
      have gf : ∀ t, w3.frozen? ⟨cb, t, none⟩ = false := blk_thaw hC3
      have HO3 := hide (ownB_kept (unhide HO) hb3)
      have HB3 := hide hB3
      have HC3 := hide hC3
      have HEQ := hide eq
      have hs3 := hB3.size
      have l1 : sp < w3.heap.size := by omega
      have l2 : cb < w3.heap.size := by omega
      clear HCS HB HO hb3 hB3 hC3 a0 a1 a2 a3 eq c8 c6 HE3 HE4
      by_cases hmost : c.most < costOf ops
      · go_wp2
        go_ret
        exact ⟨3, rfl, .inr ⟨x, unhide HX, .inl ⟨hmost, rfl, unhide HB3⟩⟩⟩
      · by_cases hq : c.queue ≤ (m : Int)
        · go_wp2
          go_quiet (fail)
          go_wp2
          go_ret
          exact ⟨4, rfl, .inr ⟨x, unhide HX, .inr (.inl ⟨by omega, hq, rfl, below_drewN (unhide HB3) _⟩)⟩⟩
        · go_wp2
          go_quiet (fail)
          have hC4 : (w3.drewN nq).heap[cb]? = some (.cells (dcells cl).toArray 123) := unhide HC3
          have hB4 : Below w.heap.size w (w3.drewN nq) := below_drewN (unhide HB3) _
          have hO4 : OwnB (w3.drewN nq) w.heap.size (.slice (some ⟨w.heap.size, 0, none⟩) S S) x := unhide HO3
          have f8 : (w3.drewN nq).cell? ⟨sp, 8, none⟩ = some (.slice (some ⟨cb, 0, none⟩) cl.length cl.length) := d8
          have f1 : (w3.drewN nq).cell? ⟨cb, j * 4 + 1, none⟩ = some (.slice qo m qc) := g1
          have f3 : (w3.drewN nq).cell? ⟨cb, j * 4 + 3, none⟩ = some (.slice wo S wc) := g3
          clear HC3 HB3 HO3 d8 g1 g3 gf d3 d4
          generalize w3.drewN nq = w4 at *
          have ff : ∀ t, w4.frozen? ⟨cb, t, none⟩ = false := blk_thaw hC4
          have HC4 := hide hC4
          have HB4 := hide hB4
          have HO4 := hide hO4
          clear hC4 hB4 hO4
          go_wp2_with fail
          obtain ⟨jj, hj, hy0, hy1, hy2⟩ := info_parts info_opl
          have hC5 : (w4.setCell ⟨cb, j * 4 + 3, none⟩ (.slice (some ⟨w.heap.size, 0, none⟩) S S)).heap[cb]? = some (.cells ((dcells cl).set (j * 4 + 3) (.slice (some ⟨w.heap.size, 0, none⟩) S S)).toArray 123) := by simpa using blk_set (i := j * 4 + 3) (unhide HC4) (.slice (some ⟨w.heap.size, 0, none⟩) S S)
          have hB5 : But (fun k => k = cb) w (w4.setCell ⟨cb, j * 4 + 3, none⟩ (.slice (some ⟨w.heap.size, 0, none⟩) S S)) := (But.of_below (unhide HB4)).setCell (S := fun k => k = cb) (p := ⟨cb, j * 4 + 3, none⟩) (.inl rfl) _
          have hO5 : OwnB (w4.setCell ⟨cb, j * 4 + 3, none⟩ (.slice (some ⟨w.heap.size, 0, none⟩) S S)) w.heap.size (.slice (some ⟨w.heap.size, 0, none⟩) S S) x := ownsRow_setCell_other (unhide HO4) (by simp [Value.ownBlock]; omega) _
          have p8 : (w4.setCell ⟨cb, j * 4 + 3, none⟩ (.slice (some ⟨w.heap.size, 0, none⟩) S S)).cell? ⟨sp, 8, none⟩ = some (.slice (some ⟨cb, 0, none⟩) cl.length cl.length) := (World.cell?_of_block (Below.heap_setCell _ _ _ _ (unhide HH).apart)).trans f8
          have p1 : (w4.setCell ⟨cb, j * 4 + 3, none⟩ (.slice (some ⟨w.heap.size, 0, none⟩) S S)).cell? ⟨cb, j * 4 + 1, none⟩ = some (.slice qo m qc) := (World.cell?_setCell_other _ _ _ _ (by simp)).trans f1
          have hQ5 : (w4.setCell ⟨cb, j * 4 + 3, none⟩ (.slice (some ⟨w.heap.size, 0, none⟩) S S)).ownsRow bq 53 1 (.slice qo m qc) m xs := by
            have hq0 := unhide HQ
            rw [unhide HEQ] at hq0
            exact row_but hq0 hB5 (fun k hk e => row_kind hq0 (unhide HH).cls (by decide) (e ▸ hk))
          have hs5 : w.heap.size < (w4.setCell ⟨cb, j * 4 + 3, none⟩ (.slice (some ⟨w.heap.size, 0, none⟩) S S)).heap.size := (World.ownsRow.lt hO5 _ rfl).2
          clear f8 f1 f3 ff HC4 HB4 HO4
          generalize w4.setCell ⟨cb, j * 4 + 3, none⟩ (.slice (some ⟨w.heap.size, 0, none⟩) S S) = w5 at *
          have pf : ∀ t, w5.frozen? ⟨cb, t, none⟩ = false := blk_thaw hC5
          have l5 : cb < w5.heap.size := lt_of_heap hC5
          have l6 : sp < w5.heap.size := by omega
          have hkw : (Value.slice qo m qc).ownBlock ≠ some cb := row_kind hQ5 hC5 (by decide)
          have HKW := hide hkw
          have HC5 := hide hC5
          have HB5 := hide hB5
          have HO5 := hide hO5
          have HQ5 := hide hQ5
          obtain ⟨csx, hsx, _⟩ := (unhide HH).scr
          have hks : (Value.slice qo m qc).ownBlock ≠ some sp := row_kind hQ5 (hB5.heap hsx (unhide HH).apart) (by decide)
          have HKS := hide hks
          clear hsx hks
          clear hC5 hB5 hO5 hQ5 hkw
          go_region_law
            ((refine step_append_lies _ (by rfl) _ _ _ (by rfl) bq 53 jj _ 1 24 Tryz.underlying24 hj hy0 hy1 hy2 rfl (by omega) (.slice qo m qc) m xs (by rfl) (World.ownsRow.drew (World.ownsRow.alloc (unhide HQ5) _)) ⟨w5.heap.size, 0, none⟩ 1 1 [.slice ao ops.length cap] (by rfl) (by rfl) (newsN (new_at_drewq _ _ _ (by simp))) (by intro u hu; simp at hu; subst hu; rfl) (by omega) (by unfold maxLen; omega) (by omega) (by simp; omega) (w5.heap.size + 1) (by simp) ?_; intro gg gk w6 hown1 hgrow hat hltg; have qf : w6.frozen? ⟨cb, j * 4 + 1, none⟩ = false := (hgrow.frozen_far ⟨cb, j * 4 + 1, none⟩ (Nat.lt_of_lt_of_le l5 (by show _ ≤ (w5.heap.push _).size; rw [Array.size_push]; omega)) (Ne.symm (unhide HKW))).trans ((World.frozen?_of_block (w := w5) (Below.heap_alloc _ _ _ l5)).trans (pf _)); have qs : w6.cell? ⟨sp, 8, none⟩ = some (.slice (some ⟨cb, 0, none⟩) cl.length cl.length) := (hgrow.cell_far ⟨sp, 8, none⟩ (Nat.lt_of_lt_of_le l6 (by show _ ≤ (w5.heap.push _).size; rw [Array.size_push]; omega)) (Ne.symm (unhide HKS))).trans ((World.cell?_of_block (w := w5) (Below.heap_alloc _ _ _ l6)).trans p8); have qcc : w6.cell? ⟨cb, j * 4 + 1, none⟩ = some (.slice qo m qc) := (hgrow.cell_far ⟨cb, j * 4 + 1, none⟩ (Nat.lt_of_lt_of_le l5 (by show _ ≤ (w5.heap.push _).size; rw [Array.size_push]; omega)) (Ne.symm (unhide HKW))).trans ((World.cell?_of_block (w := w5) (Below.heap_alloc _ _ _ l5)).trans p1)))
          all_goals
            have HGG := hide (show w5.grownBy w6 (Value.slice qo m qc).ownBlock from grown_trans (World.grownBy_alloc w5 _ _) (grown_trans (grown_drewN _ 1 _) hgrow))
            have HW6 := hide hown1
            have HAT := hide hat
            clear hgrow hown1 hat
            go_wp2
            go_ret
            exact ⟨0, rfl, .inr ⟨x, unhide HX, .inr (.inr ⟨by omega, by omega, rfl, w.heap.size, .slice (some ⟨gg, 0, none⟩) (m + 1) gk, submit_end (unhide HH) (unhide HD) hdt (unhide HC5) (unhide HB5) (unhide HO5) (by have := unhide HQ5; exact this) (unhide HGG) (unhide HW6) (unhide HAT) hs5 (unhide HEQ)⟩)⟩⟩
end Go.Proofs.YtfnockbgkcgpkaaGreat
