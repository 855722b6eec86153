import Derived.Test.YtfnockbgkcgpkaaGreatQbO
import Derived.BigRegion
import Derived.BigQuiet
import Derived.Deep.QuietTactic
import Derived.Deep.RegionHeld3
set_option linter.all false
namespace Go.Proofs.YtfnockbgkcgpkaaGreat
open Go.RowKit Go.Proofs.Panes
set_option maxRecDepth 100000

theorem ncells_at : ∀ (l : List NLoan) (j : Nat) (r : NLoan), l[j]? = some r → (ncells l)[j * 2]? = some r.out ∧ (ncells l)[j * 2 + 1]? = some r.want
  | [], j, r, h => by simp at h
  | q :: l, 0, r, h => by
    simp at h; subst h
    show (ncell q ++ ncells l)[0]? = _ ∧ (ncell q ++ ncells l)[1]? = _
    simp [ncell]
  | q :: l, j + 1, r, h => by
    have h' : l[j]? = some r := by simpa using h
    have ih := ncells_at l j r h'
    have e : ∀ t, (ncells (q :: l))[(j + 1) * 2 + t]? = (ncells l)[j * 2 + t]? := by
      intro t
      show (ncell q ++ ncells l)[_]? = _
      rw [List.getElem?_append_right (by simp [ncell]; omega)]
      congr 1
      simp [ncell]; omega
    refine ⟨by have := e 0; simp only [Nat.add_zero] at this; rw [this]; exact ih.1, by rw [e 1]; exact ih.2⟩
def m5 : MOp := ⟨-5, 0, 0, 0, 0, 0, .slice none 0 0, 0⟩
def NLoan.full (x : NLoan) : List Int := x.l ++ [77, 77, 77]
theorem NLoan.full_len (x : NLoan) : x.full.length = x.l.length + 3 := by simp [NLoan.full]

/-- How far the lists of numbers have been looked at, and written over. -/
structure NOver (base : Nat) (ns : List NLoan) (w wr : World) (k : Nat) : Prop where
  but : But (fun k => ∃ x ∈ ns, k = x.g) w wr
  todo : ∀ x ∈ ns.drop k, OwnN wr base x.out x.full
  done : ∀ x ∈ ns.take k, OwnN wr base x.out (List.replicate (x.l.length + 3) (-5))

set_option maxHeartbeats 16000000 in
theorem lwhole2_any (U : Nat → Prop) (mb base g : Nat) (li lo v : Value) (ns : List NLoan) (ms : List MOp) (l : List Opn) (w : World) (hm : w.heap[mb]? = some (.cells #[.slice none 0 0, li, lo] 76)) (hL : OwnNL w base li ns) (hN : NLent U base w ns) (hns : ns.length ≤ 1759218604400)
    (hlo : w.ownsRow base 143 2 lo 1 [.slice (some ⟨g, 0, none⟩) (l.length + 3) (l.length + 3), v]) (hO : OwnO w base (.slice (some ⟨g, 0, none⟩) (l.length + 3) (l.length + 3)) (ms ++ [m77, m77, m77])) (hms : ms.length = l.length) (hmo : ∀ (i : Nat) (o : Opn) (m : MOp), l[i]? = some o → ms[i]? = some m → MO ns o m) (hR : RdO U w v l) (hl : l.length ≤ 1759218604390) (hpx : ∀ o ∈ l, o.px.length ≤ 17592186043904) (hUg : ¬ U g) :
    Calls Tryz.prog 28 #[.pointer (some ⟨mb, 0, none⟩)] w fun e w' => e = .returned (.bool true) ∧ But (fun k => (∃ x ∈ ns, k = x.g) ∨ k = g) w w' := by
  obtain ⟨ro, rc, rfl⟩ := row_slice hL
  have HM := hide hm
  have HL := hide hL
  have HN := hide hN
  have HLo := hide hlo
  have HOo := hide hO
  have HMo := hide hmo
  have HRo := hide hR
  have HPx := hide hpx
  have m0 : w.cell? ⟨mb, 0, none⟩ = some (.slice none 0 0) := blk_cell hm 0
  clear hm hL hN hlo hO hmo hR hpx
  go_enter Tryz.func28, Tryz.ntmps28
  go_wp2
  go_loopw [3, 4] (fun ok i wr => ok = .bool true ∧ i = .int .i64 0 ∧ wr = w) (fun _ _ _ => 0)
  case atStart => exact ⟨rfl, rfl, rfl⟩
  case round =>
    obtain ⟨rfl, rfl, ew⟩ := hrel
    have ew2 := ew.symm
    clear ew
    subst ew2
    go_wp2
    clear m0
    go_loopw [3, 7] (fun ok i wr => ok = .bool true ∧ ∃ k : Nat, k ≤ ns.length ∧ i = .int .i64 k ∧ NOver base ns w wr k) (fun _ i _ => ns.length - (intOf i).toNat)
    case atStart => exact ⟨rfl, 0, Nat.zero_le _, rfl, But.refl _ _, fun x hx => (unhide HN).own x (by simpa using hx), by simp⟩
    case round =>
      rename World => wq
      obtain ⟨rfl, k, hk, rfl, hV⟩ := hrel
      have hodd : ∀ j, (∃ x ∈ ns, j = x.g) → ∃ cs fz, w.heap[j]? = some (.cells cs 3 fz) := fun j ⟨x, hx, e⟩ => by subst e; exact (unhide HN).kind hx
      have hMr : wq.heap[mb]? = some (.cells #[.slice none 0 0, .slice ro ns.length rc, lo] 76) := hV.but.heap (unhide HM) (fun h => by
        obtain ⟨cs, fz, e⟩ := hodd _ h
        rw [unhide HM] at e
        simp at e)
      have hLr := row_but (unhide HL) hV.but (fun j hj h => by
        obtain ⟨cs, fz, e⟩ := hodd _ h
        exact row_kind (unhide HL) e (by decide) hj)
      have m1 : wq.cell? ⟨mb, 1, none⟩ = some (.slice ro ns.length rc) := blk_cell hMr 1
      have m2 : wq.cell? ⟨mb, 2, none⟩ = some lo := blk_cell hMr 2
      by_cases hlt : k < ns.length
      · obtain ⟨x, hx⟩ : ∃ x, ns[k]? = some x := ⟨ns[k], by simp [hlt]⟩
        obtain ⟨gr, c, e, _, _⟩ := World.ownsRow.form hLr (by omega)
        simp only [Value.slice.injEq, true_and] at e
        obtain ⟨rfl, rfl⟩ := e
        have x0 : wq.cell? ⟨gr, k * 2, none⟩ = some x.out := by rw [World.ownsRow.cellAt hLr _ (by omega)]; exact (ncells_at ns k x hx).1
        have x1 : wq.cell? ⟨gr, k * 2 + 1, none⟩ = some x.want := by rw [World.ownsRow.cellAt hLr _ (by omega)]; exact (ncells_at ns k x hx).2
        have hxm := List.mem_of_getElem? hx
        have hdrop : ns.drop k = x :: ns.drop (k + 1) := by
          obtain ⟨hk', e⟩ := List.getElem?_eq_some_iff.1 hx
          rw [List.drop_eq_getElem_cons hk', e]
        have htake : ns.take (k + 1) = ns.take k ++ [x] := by rw [List.take_add_one, hx]; rfl
        obtain ⟨wo, wc, ew, _⟩ := (unhide HN).rd x hxm
        simp only [NLoan.out] at x0
        rw [ew] at x1
        have HV := hide hV
        have HX := hide hx
        have HE := hide ew
        have HD := hide hdrop
        have HTk := hide htake
        have hfl := x.full_len
        have hnx := (unhide HN).len x hxm
        clear hV hLr hMr hx ew hdrop htake hodd
        have hpos : (0 : Int) ≤ (k : Int) := by omega
        have hlt' : (k : Int) < (ns.length : Int) := by omega
        go_wp2
        go_loopw [3, 9] (fun ok i wr => ok = .bool true ∧ ∃ j : Nat, j ≤ x.l.length + 3 ∧ i = .int .i64 j ∧ OwnN wr base x.out (List.replicate j (-5) ++ x.full.drop j) ∧ wr.heap[wq.heap.size]? = some (.cells #[.slice (some ⟨x.g, 0, none⟩) (x.l.length + 3) (x.l.length + 3), .slice wo x.l.length wc] 150) ∧ But (fun k => ∃ x ∈ ns, k = x.g) w wr ∧ (∀ y ∈ ns.drop (k + 1), OwnN wr base y.out y.full) ∧ ∀ y ∈ ns.take k, OwnN wr base y.out (List.replicate (y.l.length + 3) (-5))) (fun _ i _ => x.l.length + 3 - (intOf i).toNat)
        case atStart =>
          refine ⟨rfl, 0, Nat.zero_le _, rfl, ?_, new_at _ _ _ rfl, (unhide HV).but.alloc _, fun y hy => World.ownsRow.alloc ((unhide HV).todo y (by rw [unhide HD]; exact List.mem_cons_of_mem _ hy)) _, fun y hy => World.ownsRow.alloc ((unhide HV).done y hy) _⟩
          simpa using World.ownsRow.alloc ((unhide HV).todo x (by rw [unhide HD]; simp)) _
        case round =>
          rename World => wp
          obtain ⟨rfl, j, hj, rfl, hO, hbx, hBut, hOth, hDn⟩ := hrel
          have b0 : wp.cell? ⟨wq.heap.size, 0, none⟩ = some (.slice (some ⟨x.g, 0, none⟩) (x.l.length + 3) (x.l.length + 3)) := blk_cell hbx 0
          have b1 : wp.cell? ⟨wq.heap.size, 1, none⟩ = some (.slice wo x.l.length wc) := blk_cell hbx 1
          by_cases hlj : j < x.l.length + 3
          · obtain ⟨r, hr⟩ : ∃ r, x.full[j]? = some r := ⟨x.full[j]'(by omega), by simp⟩
            have hdj : x.full.drop j = r :: x.full.drop (j + 1) := by
              obtain ⟨hk', e⟩ := List.getElem?_eq_some_iff.1 hr
              rw [List.drop_eq_getElem_cons hk', e]
            rw [hdj] at hO
            have hrl : (List.replicate j (-5 : Int)).length = j := by simp
            have htot : x.l.length + 3 = (List.replicate j (-5 : Int) ++ r :: x.full.drop (j + 1)).length := by simp; omega
            have hP := ownN_put (-5) hO htot
            have c1 := ownN_at hO htot (j := j) (x := r) (by rw [List.getElem?_append_right (by omega)]; simp)
            have f1 := ownN_thaw hO htot j
            rw [hrl] at hP
            have hP' : OwnN (wp.setCell ⟨x.g, j, none⟩ (.int .i64 (-5))) base x.out (List.replicate (j + 1) (-5) ++ x.full.drop (j + 1)) := by
              rw [List.replicate_succ', List.append_assoc]; exact hP
            have HP := hide hP'
            have HBx := hide hbx
            have HBt := hide hBut
            have HOt := hide hOth
            have HDn := hide hDn
            have HR := hide hr
            have hgx : x.g ≠ wq.heap.size := fun e => by
              have := row_kind hO hbx (by decide)
              simp [NLoan.out, Value.ownBlock] at this
              exact this e
            have i0 : (0 : Int) ≤ (j : Int) := by omega
            have i1 : (j : Int) < ((x.l.length + 3 : Nat) : Int) := by omega
            have i1' : (j : Int) < (x.l.length : Int) + 3 := by omega
            have hRdv := ((unhide HN).rd x hxm).but hBut (fun k hu ⟨y, hy, e⟩ => (unhide HN).far y hy (e ▸ hu))
            obtain ⟨wo', wc', ew', _, _, hw3⟩ := hRdv
            have ew2 := ew'.symm.trans (unhide HE)
            simp only [Value.slice.injEq, true_and] at ew2
            obtain ⟨rfl, rfl⟩ := ew2
            have fin : Hid (NOver base ns w wp k → True) := fun _ => trivial
            clear hO hbx hBut hOth hDn hP hP' hr hdj htot hrl ew'
            by_cases hjn : j < x.l.length
            · have hxr : x.l[j]? = some r := by
                have := unhide HR
                unfold NLoan.full at this
                rwa [List.getElem?_append_left hjn] at this
              obtain ⟨b, off, rfl, _, hbB, hc⟩ := hw3 (by intro e; rw [e] at hjn; simp at hjn)
              have d1 := hc j r hxr
              have i2 : (j : Int) < (x.l.length : Int) := by omega
              clear hw3 hc hxr
              go_wp2
              go_quiet (fail)
              go_wp2
              go_roundw
              case rel =>
                refine ⟨?_, j + 1, by omega, by go_num, unhide HP, ?_, ?_, fun y hy => ?_, fun y hy => ?_⟩
                · rfl
                · exact blk_other (unhide HBx) (Ne.symm hgx) _
                · exact ((unhide HBt).drewN _).setCell (p := ⟨x.g, j, none⟩) (.inl ⟨x, hxm, rfl⟩) _
                · have hne : y.out.ownBlock ≠ some x.g := by
                    have hp := (unhide HN).apart
                    have hs : (ns.drop k).Pairwise (fun x y => x.g ≠ y.g) := hp.sublist (List.drop_sublist _ _)
                    rw [unhide HD] at hs
                    have := (List.pairwise_cons.1 hs).1 y hy
                    simp [NLoan.out, Value.ownBlock]
                    exact fun e => this e.symm
                  exact ownsRow_setCell_other ((unhide HOt) y hy) hne _
                · have hne : y.out.ownBlock ≠ some x.g := by
                    have hp := (unhide HN).apart
                    rw [← List.take_append_drop k ns, unhide HD] at hp
                    have := (List.pairwise_append.1 hp).2.2 y hy x (by simp)
                    simp [NLoan.out, Value.ownBlock]
                    exact this
                  exact ownsRow_setCell_other ((unhide HDn) y hy) hne _
              case measure => simp [intOf]; omega
            · have hr77 : r = 77 := by
                have := unhide HR
                unfold NLoan.full at this
                rw [List.getElem?_append_right (by omega)] at this
                have h3 := List.mem_of_getElem? this
                simpa using h3
              subst hr77
              have i2 : ¬ (j : Int) < (x.l.length : Int) := by omega
              have i3 : (x.l.length : Int) ≤ (j : Int) := by omega
              clear hw3
              go_wp2
              go_quiet (fail)
              go_wp2
              go_roundw
              case rel =>
                refine ⟨?_, j + 1, by omega, by go_num, unhide HP, ?_, ?_, fun y hy => ?_, fun y hy => ?_⟩
                · rfl
                · exact blk_other (unhide HBx) (Ne.symm hgx) _
                · exact ((unhide HBt).drewN _).setCell (p := ⟨x.g, j, none⟩) (.inl ⟨x, hxm, rfl⟩) _
                · have hne : y.out.ownBlock ≠ some x.g := by
                    have hp := (unhide HN).apart
                    have hs : (ns.drop k).Pairwise (fun x y => x.g ≠ y.g) := hp.sublist (List.drop_sublist _ _)
                    rw [unhide HD] at hs
                    have := (List.pairwise_cons.1 hs).1 y hy
                    simp [NLoan.out, Value.ownBlock]
                    exact fun e => this e.symm
                  exact ownsRow_setCell_other ((unhide HOt) y hy) hne _
                · have hne : y.out.ownBlock ≠ some x.g := by
                    have hp := (unhide HN).apart
                    rw [← List.take_append_drop k ns, unhide HD] at hp
                    have := (List.pairwise_append.1 hp).2.2 y hy x (by simp)
                    simp [NLoan.out, Value.ownBlock]
                    exact this
                  exact ownsRow_setCell_other ((unhide HDn) y hy) hne _
              case measure => simp [intOf]; omega
          · obtain rfl : j = x.l.length + 3 := by omega
            have hfin : NOver base ns w wp (k + 1) := ⟨hBut, hOth, fun y hy => by
              rw [unhide HTk] at hy
              rcases List.mem_append.1 hy with c | c
              · exact hDn y c
              · rw [List.mem_singleton.1 c]
                have := hO
                rw [List.drop_of_length_le (by omega), List.append_nil] at this
                exact this⟩
            have HF := hide hfin
            clear hO hbx hBut hOth hDn hfin
            go_wp2
            go_roundw
            case rel => exact ⟨rfl, k + 1, by omega, by go_num, unhide HF⟩
            case measure => simp [intOf]; omega
      · obtain rfl : k = ns.length := by omega
        have hB := hV.but
        have hDone : ∀ x ∈ ns, OwnN wq base x.out (List.replicate (x.l.length + 3) (-5)) := fun x hx => hV.done x (by rw [List.take_length]; exact hx)
        have hOq : OwnO wq base (.slice (some ⟨g, 0, none⟩) (l.length + 3) (l.length + 3)) (ms ++ [m77, m77, m77]) := row_but (unhide HOo) hB (fun j hj h => by
          obtain ⟨cs, fz, e⟩ := hodd _ h
          exact row_kind (unhide HOo) e (by decide) hj)
        have hLoq := row_but (unhide HLo) hB (fun j hj h => by
          obtain ⟨cs, fz, e⟩ := hodd _ h
          exact row_kind (unhide HLo) e (by decide) hj)
        have hRq := (unhide HRo).but hB (fun q hq ⟨x, hx, e⟩ => (unhide HN).far x hx (e ▸ hq))
        obtain ⟨gl, cl, el, _, _⟩ := World.ownsRow.form hLoq (by omega)
        subst el
        obtain ⟨vo, vcp, evv, _⟩ := id hRq
        subst evv
        have HB := hide hB
        have HDone := hide hDone
        have HOq := hide hOq
        have HLoq := hide hLoq
        have HRq := hide hRq
        have HMq := hide hMr
        have hgne : ∀ x ∈ ns, x.g ≠ g := fun x hx e => by
          obtain ⟨cs, fz, hg⟩ := (unhide HN).kind hx
          obtain ⟨cs', fz', hg'⟩ := row_heap (unhide HOo) (k := g) rfl
          rw [e, hg'] at hg
          simp at hg
        have HG := hide hgne
        clear hB hDone hOq hLoq hRq hV hLr hMr hodd hgne
        go_wp2
        clear m1 m2
        go_loopw [3, 10] (fun ok i wr => ok = .bool true ∧ ∃ k : Nat, k ≤ 1 ∧ i = .int .i64 k ∧ But (fun q => q = g) wq wr ∧ (k = 0 → OwnO wr base (.slice (some ⟨g, 0, none⟩) (l.length + 3) (l.length + 3)) (ms ++ [m77, m77, m77]))) (fun _ i _ => 1 - (intOf i).toNat)
        case atStart => exact ⟨rfl, 0, by omega, rfl, But.refl _ _, fun _ => unhide HOq⟩
        case round =>
          rename World => wp
          obtain ⟨rfl, k, hk, rfl, hB, hOk⟩ := hrel
          have hMr : wp.heap[mb]? = some (.cells #[.slice none 0 0, .slice ro ns.length rc, .slice (some ⟨gl, 0, none⟩) 1 cl] 76) := hB.heap (unhide HMq) (fun e => row_kind (unhide HOq) (unhide HMq) (by decide) (by rw [e]; rfl))
          have hLr := row_but (unhide HLoq) hB (fun q hq e => row_apart (unhide HLoq) (unhide HOq) (by decide) hq (by rw [e]; rfl))
          have n2 : wp.cell? ⟨mb, 2, none⟩ = some (.slice (some ⟨gl, 0, none⟩) 1 cl) := blk_cell hMr 2
          by_cases hlt : k < 1
          · have hO := hOk (by omega)
            have x0 : wp.cell? ⟨gl, k * 2, none⟩ = some (.slice (some ⟨g, 0, none⟩) (l.length + 3) (l.length + 3)) := by
              have e0 : k = 0 := by omega
              subst e0
              rw [World.ownsRow.cellAt hLr _ (by omega)]; rfl
            have x1 : wp.cell? ⟨gl, k * 2 + 1, none⟩ = some (.slice vo l.length vcp) := by
              have e0 : k = 0 := by omega
              subst e0
              rw [World.ownsRow.cellAt hLr _ (by omega)]; rfl
            have kk0 : (0 : Int) ≤ (k : Int) := by omega
            have kk1 : (k : Int) < 1 := by omega
            have HBp := hide hB
            have HOp := hide hO
            clear hB hOk hO hLr hMr
            go_wp2
            go_loopw [3, 12] (fun ok i wr => ok = .bool true ∧ ∃ j : Nat, j ≤ l.length + 3 ∧ i = .int .i64 j ∧ OwnO wr base (.slice (some ⟨g, 0, none⟩) (l.length + 3) (l.length + 3)) (List.replicate j m5 ++ (ms ++ [m77, m77, m77]).drop j) ∧ wr.heap[wp.heap.size]? = some (.cells #[.slice (some ⟨g, 0, none⟩) (l.length + 3) (l.length + 3), .slice vo l.length vcp] 143) ∧ But (fun q => q = g) wq wr) (fun _ i _ => l.length + 3 - (intOf i).toNat)
            case atStart => exact ⟨rfl, 0, Nat.zero_le _, rfl, by rw [List.replicate_zero, List.nil_append, List.drop_zero]; exact World.ownsRow.alloc (unhide HOp) _, new_at _ _ _ rfl, (unhide HBp).alloc _⟩
            case round =>
              rename World => wx
              obtain ⟨rfl, j, hj, rfl, hO, hbx, hBut⟩ := hrel
              have k0 : wx.cell? ⟨wp.heap.size, 0, none⟩ = some (.slice (some ⟨g, 0, none⟩) (l.length + 3) (l.length + 3)) := blk_cell hbx 0
              have k1 : wx.cell? ⟨wp.heap.size, 1, none⟩ = some (.slice vo l.length vcp) := blk_cell hbx 1
              have lso : wp.heap.size < wx.heap.size := lt_of_heap hbx
              have lsg : g < wx.heap.size := (World.ownsRow.lt hO g rfl).2
              by_cases hlj : j < l.length + 3
              · obtain ⟨r, hr⟩ : ∃ r, (ms ++ [m77, m77, m77])[j]? = some r := ⟨(ms ++ [m77, m77, m77])[j]'(by simp; omega), by simp⟩
                have hdj : (ms ++ [m77, m77, m77]).drop j = r :: (ms ++ [m77, m77, m77]).drop (j + 1) := by
                  obtain ⟨hk', e⟩ := List.getElem?_eq_some_iff.1 hr
                  rw [List.drop_eq_getElem_cons hk', e]
                rw [hdj] at hO
                have hrl : (List.replicate j m5).length = j := by simp
                have htot : l.length + 3 = (List.replicate j m5 ++ r :: (ms ++ [m77, m77, m77]).drop (j + 1)).length := by simp; omega
                have hP := ownO_put m5 hO htot
                rw [hrl] at hP
                have cel : ∀ t, t < 8 → wx.cell? ⟨g, j * 8 + t, none⟩ = (mcell r)[t]? := fun t ht => ownO_at hO htot (j := j) (m := r) (by rw [List.getElem?_append_right (by omega)]; simp) t ht
                have gz : ∀ t, wx.frozen? ⟨g, t, none⟩ = false := ownO_thaw hO htot
                have hgx : g ≠ wp.heap.size := fun e => by
                  have := row_kind hO hbx (by decide)
                  simp [Value.ownBlock] at this
                  exact this e
                have hP' : Hid (OwnO (putOp wx g j m5) base (.slice (some ⟨g, 0, none⟩) (l.length + 3) (l.length + 3)) (List.replicate (j + 1) m5 ++ (ms ++ [m77, m77, m77]).drop (j + 1))) := by
                  show OwnO _ _ _ _
                  rw [List.replicate_succ', List.append_assoc]; exact hP
                have i0 : (0 : Int) ≤ (j : Int) := by omega
                have i1 : (j : Int) < ((l.length + 3 : Nat) : Int) := by omega
                have i1' : (j : Int) < (l.length : Int) + 3 := by omega
                have HOx := hide hO
                have HBx := hide hbx
                have HBt := hide hBut
                have HTOT := hide htot
                clear hO hbx hBut hP hdj htot hrl
                by_cases hjn : j < l.length
                · obtain ⟨o, ho⟩ : ∃ o, l[j]? = some o := ⟨l[j], by simp [hjn]⟩
                  have hr' : ms[j]? = some r := by rwa [List.getElem?_append_left (by omega)] at hr
                  have hMO := (unhide HMo) j o r ho hr'
                  obtain ⟨rk, rs, rx, ry, rw', rh, rp, rm⟩ := r
                  obtain ⟨e1, e2, e3, e4, e5, e6, e7, hpv⟩ := hMO
                  simp only at e1 e2 e3 e4 e5 e6 e7 hpv
                  subst e1 e2 e3 e4 e5 e6 e7
                  obtain ⟨U', po, pc, erp, hRp⟩ : ∃ (U' : Nat → Prop) (po : Option Addr) (pc : Nat), rp = .slice po o.px.length pc ∧ RdN U' wx (.slice po o.px.length pc) (List.replicate o.px.length (-5)) := by
                    rcases hpv with ⟨e, e0⟩ | ⟨x, hx, e, _⟩
                    · exact ⟨fun _ => True, none, 0, by rw [e, e0]; rfl, by rw [e0]; exact ⟨none, 0, rfl, by simp, by simp [maxLen], fun h => absurd rfl h⟩⟩
                    · have hox := row_but ((unhide HDone) x hx) (unhide HBt) (fun q hq eq => (unhide HG) x hx (by simp only [NLoan.out, Value.ownBlock, Option.some.injEq] at hq; rw [hq, eq]))
                      rename_i exl
                      have hsp : List.replicate (x.l.length + 3) (-5 : Int) = List.replicate o.px.length (-5) ++ List.replicate 3 (-5) := by rw [List.replicate_append_replicate, exl]
                      rw [hsp] at hox
                      have hfr := ownN_front (A := List.replicate o.px.length (-5)) (B := List.replicate 3 (-5)) (by simp only [NLoan.out] at hox; exact hox)
                      rw [List.length_replicate, exl] at hfr
                      exact ⟨_, some ⟨x.g, 0, none⟩, o.px.length + 3, e, OwnN.rd hfr⟩
                  subst erp
                  have hRx := (unhide HRq).but (unhide HBt) (fun q hq e => hUg (e ▸ hq))
                  obtain ⟨vo', vcp', ev, _, _, h3⟩ := hRx
                  simp only [Value.slice.injEq, true_and] at ev
                  obtain ⟨rfl, rfl⟩ := ev
                  obtain ⟨b, off, rfl, _, lsb, hc⟩ := h3 (by intro e; rw [e] at hjn; simp at hjn)
                  obtain ⟨k10, k11, k12, k13, k14, k15, ⟨pv', k16, hpv'⟩, k17⟩ := hc j o ho
                  obtain ⟨qo, qc, epv, pjunk⟩ := id hpv'
                  rw [epv] at k16
                  have k2 : wx.cell? ⟨g, j * 8, none⟩ = some (.int .i64 o.kind) := cel 0 (by omega)
                  have k3 : wx.cell? ⟨g, j * 8 + 1, none⟩ = some (.int .i64 o.surf) := cel 1 (by omega)
                  have k4 : wx.cell? ⟨g, j * 8 + 2, none⟩ = some (.int .i64 o.x) := cel 2 (by omega)
                  have k5 : wx.cell? ⟨g, j * 8 + 3, none⟩ = some (.int .i64 o.y) := cel 3 (by omega)
                  have k6 : wx.cell? ⟨g, j * 8 + 4, none⟩ = some (.int .i64 o.w) := cel 4 (by omega)
                  have k7 : wx.cell? ⟨g, j * 8 + 5, none⟩ = some (.int .i64 o.h) := cel 5 (by omega)
                  have k8 : wx.cell? ⟨g, j * 8 + 6, none⟩ = some (.slice po o.px.length pc) := cel 6 (by omega)
                  have k9 : wx.cell? ⟨g, j * 8 + 7, none⟩ = some (.int .i64 o.mark) := cel 7 (by omega)
                  have HC := hide (sameOp_any U' o.kind o.surf o.x o.y o.w o.h o.mark po qo o.px.length pc qc (List.replicate o.px.length (-5)) wx.drew (hRp.below (Below.refl _ wx).drew) (by have := (unhide HPx) o (List.mem_of_getElem? ho); omega) (fun x hx => (List.mem_replicate.1 hx).2))
                  have i2 : (j : Int) < (l.length : Int) := by omega
                  clear cel hr hr' hpv hRp h3 hc pjunk hpv' epv HG HDone HMo HRq HOq HLoq HPx HN HL hms ho
                  go_wp2_with fail
                  go_region_held3 (fun w' => w'.cell? ⟨wp.heap.size, 0, none⟩ = some (.slice (some ⟨g, 0, none⟩) (l.length + 3) (l.length + 3)) ∧ w'.cell? ⟨wp.heap.size, 1, none⟩ = some (.slice (some ⟨b, off, none⟩) l.length vcp) ∧ w'.cell? ⟨g, j * 8, none⟩ = some (.int .i64 o.kind) ∧ w'.cell? ⟨g, j * 8 + 1, none⟩ = some (.int .i64 o.surf) ∧ w'.cell? ⟨g, j * 8 + 2, none⟩ = some (.int .i64 o.x) ∧ w'.cell? ⟨g, j * 8 + 3, none⟩ = some (.int .i64 o.y) ∧ w'.cell? ⟨g, j * 8 + 4, none⟩ = some (.int .i64 o.w) ∧ w'.cell? ⟨g, j * 8 + 5, none⟩ = some (.int .i64 o.h) ∧ w'.cell? ⟨g, j * 8 + 6, none⟩ = some (.slice po o.px.length pc) ∧ w'.cell? ⟨g, j * 8 + 7, none⟩ = some (.int .i64 o.mark) ∧ w'.cell? ⟨b, off + j * 8, none⟩ = some (.int .i64 o.kind) ∧ w'.cell? ⟨b, off + j * 8 + 1, none⟩ = some (.int .i64 o.surf) ∧ w'.cell? ⟨b, off + j * 8 + 2, none⟩ = some (.int .i64 o.x) ∧ w'.cell? ⟨b, off + j * 8 + 3, none⟩ = some (.int .i64 o.y) ∧ w'.cell? ⟨b, off + j * 8 + 4, none⟩ = some (.int .i64 o.w) ∧ w'.cell? ⟨b, off + j * 8 + 5, none⟩ = some (.int .i64 o.h) ∧ w'.cell? ⟨b, off + j * 8 + 6, none⟩ = some (.slice qo o.px.length qc) ∧ w'.cell? ⟨b, off + j * 8 + 7, none⟩ = some (.int .i64 o.mark))
                    (first | go_keep | (go_split_ands; refine ⟨?_, ?_, ?_, ?_, ?_, ?_, ?_, ?_, ?_, ?_, ?_, ?_, ?_, ?_, ?_, ?_, ?_, ?_⟩ <;> assumption))
                    ((go_at_call 61
                      refine (unhide HC).mono ?_
                      rintro e w3 ⟨rfl, hb3'⟩
                      have hb3 : Below wx.heap.size wx w3 := ((Below.refl _ wx).drew).trans hb3'
                      have s0 : w3.cell? ⟨wp.heap.size, 0, none⟩ = some (.slice (some ⟨g, 0, none⟩) (l.length + 3) (l.length + 3)) := (hb3.cell (p := ⟨wp.heap.size, 0, none⟩) lso).trans k0
                      have s1 : w3.cell? ⟨wp.heap.size, 1, none⟩ = some (.slice (some ⟨b, off, none⟩) l.length vcp) := (hb3.cell (p := ⟨wp.heap.size, 1, none⟩) lso).trans k1
                      have s2 : w3.cell? ⟨g, j * 8, none⟩ = some (.int .i64 o.kind) := (hb3.cell (p := ⟨g, j * 8, none⟩) lsg).trans k2
                      have s3 : w3.cell? ⟨g, j * 8 + 1, none⟩ = some (.int .i64 o.surf) := (hb3.cell (p := ⟨g, j * 8 + 1, none⟩) lsg).trans k3
                      have s4 : w3.cell? ⟨g, j * 8 + 2, none⟩ = some (.int .i64 o.x) := (hb3.cell (p := ⟨g, j * 8 + 2, none⟩) lsg).trans k4
                      have s5 : w3.cell? ⟨g, j * 8 + 3, none⟩ = some (.int .i64 o.y) := (hb3.cell (p := ⟨g, j * 8 + 3, none⟩) lsg).trans k5
                      have s6 : w3.cell? ⟨g, j * 8 + 4, none⟩ = some (.int .i64 o.w) := (hb3.cell (p := ⟨g, j * 8 + 4, none⟩) lsg).trans k6
                      have s7 : w3.cell? ⟨g, j * 8 + 5, none⟩ = some (.int .i64 o.h) := (hb3.cell (p := ⟨g, j * 8 + 5, none⟩) lsg).trans k7
                      have s8 : w3.cell? ⟨g, j * 8 + 6, none⟩ = some (.slice po o.px.length pc) := (hb3.cell (p := ⟨g, j * 8 + 6, none⟩) lsg).trans k8
                      have s9 : w3.cell? ⟨g, j * 8 + 7, none⟩ = some (.int .i64 o.mark) := (hb3.cell (p := ⟨g, j * 8 + 7, none⟩) lsg).trans k9
                      have s10 : w3.cell? ⟨b, off + j * 8, none⟩ = some (.int .i64 o.kind) := (hb3.cell (p := ⟨b, off + j * 8, none⟩) lsb).trans k10
                      have s11 : w3.cell? ⟨b, off + j * 8 + 1, none⟩ = some (.int .i64 o.surf) := (hb3.cell (p := ⟨b, off + j * 8 + 1, none⟩) lsb).trans k11
                      have s12 : w3.cell? ⟨b, off + j * 8 + 2, none⟩ = some (.int .i64 o.x) := (hb3.cell (p := ⟨b, off + j * 8 + 2, none⟩) lsb).trans k12
                      have s13 : w3.cell? ⟨b, off + j * 8 + 3, none⟩ = some (.int .i64 o.y) := (hb3.cell (p := ⟨b, off + j * 8 + 3, none⟩) lsb).trans k13
                      have s14 : w3.cell? ⟨b, off + j * 8 + 4, none⟩ = some (.int .i64 o.w) := (hb3.cell (p := ⟨b, off + j * 8 + 4, none⟩) lsb).trans k14
                      have s15 : w3.cell? ⟨b, off + j * 8 + 5, none⟩ = some (.int .i64 o.h) := (hb3.cell (p := ⟨b, off + j * 8 + 5, none⟩) lsb).trans k15
                      have s16 : w3.cell? ⟨b, off + j * 8 + 6, none⟩ = some (.slice qo o.px.length qc) := (hb3.cell (p := ⟨b, off + j * 8 + 6, none⟩) lsb).trans k16
                      have s17 : w3.cell? ⟨b, off + j * 8 + 7, none⟩ = some (.int .i64 o.mark) := (hb3.cell (p := ⟨b, off + j * 8 + 7, none⟩) lsb).trans k17
                      have z3 : ∀ t, w3.frozen? ⟨g, t, none⟩ = false := fun t => (hb3.frozen (p := ⟨g, t, none⟩) lsg).trans (gz t)
                      have HB3 := hide hb3
                      clear hb3 hb3' HC))
                  have hO3 := row_but (unhide HOx) (But.of_below (S := fun _ => False) (unhide HB3)) (fun _ _ h => h)
                  have hP3 := ownO_put m5 hO3 (unhide HTOT)
                  rw [List.length_replicate] at hP3
                  have HP3 : Hid (OwnO (putOp w3 g j m5) base (.slice (some ⟨g, 0, none⟩) (l.length + 3) (l.length + 3)) (List.replicate (j + 1) m5 ++ (ms ++ [m77, m77, m77]).drop (j + 1))) := by
                    show OwnO _ _ _ _
                    rw [List.replicate_succ', List.append_assoc]; exact hP3
                  have HB4 := hide ((unhide HBt).then (unhide HB3))
                  have HBx3 := hide (((unhide HB3).block _ lso).trans (unhide HBx))
                  clear hO3 hP3 hP' HOx HTOT k0 k1 k2 k3 k4 k5 k6 k7 k8 k9 k10 k11 k12 k13 k14 k15 k16 k17
                  go_wp2
                  go_roundw
                  case rel =>
                    refine ⟨rfl, j + 1, by omega, by go_num, ?_, ?_, ?_⟩
                    · exact unhide HP3
                    · exact (putOp_heap (i := j) (s := m5) (Ne.symm hgx)).trans (unhide HBx3)
                    · exact putOp_but (i := j) (s := m5) (unhide HB4) (.inl rfl)
                  case measure => simp [intOf]; omega
                · have hr77 : r = m77 := by
                    rw [List.getElem?_append_right (by omega)] at hr
                    have h3 := List.mem_of_getElem? hr
                    simpa using h3
                  subst hr77
                  have k2 : wx.cell? ⟨g, j * 8, none⟩ = some (.int .i64 77) := cel 0 (by omega)
                  have k3 : wx.cell? ⟨g, j * 8 + 1, none⟩ = some (.int .i64 0) := cel 1 (by omega)
                  have k4 : wx.cell? ⟨g, j * 8 + 2, none⟩ = some (.int .i64 0) := cel 2 (by omega)
                  have k5 : wx.cell? ⟨g, j * 8 + 3, none⟩ = some (.int .i64 0) := cel 3 (by omega)
                  have k6 : wx.cell? ⟨g, j * 8 + 4, none⟩ = some (.int .i64 0) := cel 4 (by omega)
                  have k7 : wx.cell? ⟨g, j * 8 + 5, none⟩ = some (.int .i64 0) := cel 5 (by omega)
                  have k8 : wx.cell? ⟨g, j * 8 + 6, none⟩ = some (.slice none 0 0) := cel 6 (by omega)
                  have k9 : wx.cell? ⟨g, j * 8 + 7, none⟩ = some (.int .i64 0) := cel 7 (by omega)
                  have i2 : ¬ (j : Int) < (l.length : Int) := by omega
                  have qn : ∀ (w : World) (a : Option Addr) (n c n' c' : Nat), (binOp .eql 50 (.slice a n c) (.slice none n' c')).run Tryz.prog w = .ok (.bool a.isNone) w := fun w a n c n' c' => Lib.run_eql_slice_nil w _ _ a n c n' c' Tryz.underlying50
                  clear cel hr HOx HG HDone HMo HRq HOq HLoq HPx HN HL hms
                  go_wp2
                  go_roundw
                  case rel =>
                    refine ⟨rfl, j + 1, by omega, by go_num, ?_, ?_, ?_⟩
                    · exact unhide hP'
                    · exact (putOp_heap (i := j) (s := m5) (Ne.symm hgx)).trans (unhide HBx)
                    · exact putOp_but (i := j) (s := m5) (unhide HBt) (.inl rfl)
                  case measure => simp [intOf]; omega
              · obtain rfl : j = l.length + 3 := by omega
                have HBt := hide hBut
                clear hO hbx hBut
                go_wp2
                go_roundw
                case rel => exact ⟨rfl, k + 1, by omega, by go_num, unhide HBt, fun h => by omega⟩
                case measure => simp [intOf]; omega
          · have HBp := hide hB
            have i2 : ¬ (k : Int) < 1 := by omega
            clear hB hOk hLr hMr
            go_wp2
            go_ret
            exact ⟨rfl, ((unhide HB).wide (fun q _ h => .inl h)).trans ((unhide HBp).wide (fun q _ h => .inr h))⟩
end Go.Proofs.YtfnockbgkcgpkaaGreat
