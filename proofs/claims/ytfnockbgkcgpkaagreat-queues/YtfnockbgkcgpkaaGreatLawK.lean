import Derived.Test.YtfnockbgkcgpkaaGreatLawE
import Derived.WalkSpells
import Derived.OwnWalk
import Derived.Deep.AppendLies
set_option linter.all false
namespace Go.Proofs.YtfnockbgkcgpkaaGreat
open Go.RowKit Go.Proofs.Panes
set_option maxRecDepth 100000

theorem Marked.slice {w : World} {base : Nat} {v : Value} {n : Int} (h : Marked w base v n) : ∃ o m c, v = .slice o m c := by
  obtain ⟨l, h1, _⟩ := h
  obtain ⟨ro, rc, e⟩ := row_slice h1
  exact ⟨_, _, _, e⟩
theorem Marked.below {w w' : World} {base : Nat} {v : Value} {n : Int} (h : Marked w base v n) (hb : Below w.heap.size w w') : Marked w' base v n := h.but (S := fun _ => False) (.of_below hb) (fun _ _ h => h)
theorem Marked.are {w : World} {base : Nat} {v : Value} {n : Int} (h : Marked w base v n) (hn : 0 ≤ n ∧ n ≤ 4000000) : Calls Tryz.prog 29 #[v, .int .i64 n] w fun e w' => e = .returned (.bool true) ∧ Below w.heap.size w w' := by
  obtain ⟨l, h1, h2, h3⟩ := h
  exact areRects_any v l n w h1.rd (by omega) (by omega) h3

set_option maxHeartbeats 8000000 in
theorem bwhole_any (wb base B : Nat) (kr : Value) (es : List Ent) (w : World) (h4 : w.cell? ⟨wb, 4, none⟩ = some kr) (h5 : w.cell? ⟨wb, 5, none⟩ = some (.slice none 0 0)) (h6 : w.cell? ⟨wb, 6, none⟩ = some (.slice none 0 0)) (hK : OwnE w base kr es) (hE : ∀ e ∈ es, EntOk B w e) (hn : es.length ≤ 4000000) :
    Calls Tryz.prog 11 #[.pointer (some ⟨wb, 4, none⟩)] w fun e w' => e = .returned (.bool true) ∧ Below w.heap.size w w' := by
  obtain ⟨ro, rc, rfl⟩ := row_slice hK
  have hwb : wb < w.heap.size := World.block_lt_of_cell? w _ h4
  have HK := hide hK
  have HE := hide hE
  have H4 := hide h4
  have H5 := hide h5
  have H6 := hide h6
  clear hK hE h4 h5 h6
  go_enter Tryz.func11, Tryz.ntmps11
  go_wp2
  go_loopw [3, 4] (fun ok i wr => ok = .bool true ∧ ∃ k : Nat, k ≤ es.length ∧ i = .int .i64 k ∧ Below w.heap.size w wr) (fun _ i _ => es.length - (intOf i).toNat)
  case atStart => exact ⟨rfl, 0, Nat.zero_le _, rfl, Below.refl _ _⟩
  case round =>
    rename World => wq
    obtain ⟨rfl, k, hk, rfl, hbel⟩ := hrel
    have m4 : wq.cell? ⟨wb, 4, none⟩ = some (.slice ro es.length rc) := (hbel.cell hwb).trans (unhide H4)
    have m5 : wq.cell? ⟨wb, 5, none⟩ = some (.slice none 0 0) := (hbel.cell hwb).trans (unhide H5)
    have m6 : wq.cell? ⟨wb, 6, none⟩ = some (.slice none 0 0) := (hbel.cell hwb).trans (unhide H6)
    have hsz := hbel.size
    by_cases hlt : k < es.length
    · obtain ⟨x, hx⟩ : ∃ x, es[k]? = some x := ⟨es[k], by simp [hlt]⟩
      have hKq : OwnE wq base (.slice ro es.length rc) es := OwnE.but (S := fun _ => False) (unhide HK) (.of_below hbel) (fun _ _ h => h)
      obtain ⟨g, c, e, _, _⟩ := World.ownsRow.form hKq (by omega)
      simp only [Value.slice.injEq, true_and] at e
      obtain ⟨rfl, rfl⟩ := e
      have hxo := ((unhide HE) x (List.mem_of_getElem? hx)).below hbel
      obtain ⟨n1, n2, n3, n4, n5⟩ := ecells_at es k x hx
      rw [← World.ownsRow.cellAt hKq _ (by omega)] at n1 n2 n3 n4 n5
      obtain ⟨hxn, hl, ha, hb, hc⟩ := hxo
      obtain ⟨l, a, b, c, n⟩ := x
      obtain ⟨o1, s1, c1, rfl⟩ := hl.slice
      obtain ⟨o2, s2, c2, rfl⟩ := ha.slice
      obtain ⟨o3, s3, c3, rfl⟩ := hb.slice
      obtain ⟨o4, s4, c4, rfl⟩ := hc.slice
      have HL := hide hl
      have HA := hide ha
      have HBb := hide hb
      have HC := hide hc
      have HB := hide hbel
      have HX := hide hxn
      have i0 : (0 : Int) ≤ (k : Int) := by omega
      have i1 : (k : Int) < (es.length : Int) := by omega
      clear hl ha hb hc hbel hxn hx hKq
      have T0 : Hid (Below wq.heap.size wq (wq.alloc (.cells #[.slice o1 s1 c1, .slice o2 s2 c2, .slice o3 s3 c3, .slice o4 s4 c4, .int .i64 n] 82))) := (Below.refl _ wq).alloc (Nat.le_refl _) _
      have N0 : Hid ((wq.alloc (.cells #[.slice o1 s1 c1, .slice o2 s2 c2, .slice o3 s3 c3, .slice o4 s4 c4, .int .i64 n] 82)).heap[wq.heap.size]? = some (.cells #[.slice o1 s1 c1, .slice o2 s2 c2, .slice o3 s3 c3, .slice o4 s4 c4, .int .i64 n] 82)) := new_at _ _ _ rfl
      go_wp2_with fail
      refine (((unhide HL).below (unhide T0)).are (unhide HX)).mono ?_
      rintro e w1 ⟨rfl, hb1⟩
      have T1 := hide ((unhide T0).trans (hb1.mono (unhide T0).size))
      have hbx : w1.heap[wq.heap.size]? = some (.cells #[.slice o1 s1 c1, .slice o2 s2 c2, .slice o3 s3 c3, .slice o4 s4 c4, .int .i64 n] 82) := (hb1.block _ (lt_of_heap (unhide N0))).trans (unhide N0)
      have N1 := hide hbx
      have p1 : w1.cell? ⟨wq.heap.size, 1, none⟩ = some (.slice o2 s2 c2) := blk_cell hbx 1
      have p2 : w1.cell? ⟨wq.heap.size, 2, none⟩ = some (.slice o3 s3 c3) := blk_cell hbx 2
      have p3 : w1.cell? ⟨wq.heap.size, 3, none⟩ = some (.slice o4 s4 c4) := blk_cell hbx 3
      have p4 : w1.cell? ⟨wq.heap.size, 4, none⟩ = some (.int .i64 n) := blk_cell hbx 4
      clear hb1 hbx T0 N0
      go_wp2_with fail
      clear p1 p2 p3 p4
      refine (((unhide HA).below (unhide T1)).are (unhide HX)).mono ?_
      rintro e w2 ⟨rfl, hb2⟩
      have T2 := hide ((unhide T1).trans (hb2.mono (unhide T1).size))
      have hbx : w2.heap[wq.heap.size]? = some (.cells #[.slice o1 s1 c1, .slice o2 s2 c2, .slice o3 s3 c3, .slice o4 s4 c4, .int .i64 n] 82) := (hb2.block _ (lt_of_heap (unhide N1))).trans (unhide N1)
      have N2 := hide hbx
      have p1 : w2.cell? ⟨wq.heap.size, 1, none⟩ = some (.slice o2 s2 c2) := blk_cell hbx 1
      have p2 : w2.cell? ⟨wq.heap.size, 2, none⟩ = some (.slice o3 s3 c3) := blk_cell hbx 2
      have p3 : w2.cell? ⟨wq.heap.size, 3, none⟩ = some (.slice o4 s4 c4) := blk_cell hbx 3
      have p4 : w2.cell? ⟨wq.heap.size, 4, none⟩ = some (.int .i64 n) := blk_cell hbx 4
      clear hb2 hbx T1 N1
      go_wp2_with fail
      clear p1 p2 p3 p4
      refine (((unhide HBb).below (unhide T2)).are (unhide HX)).mono ?_
      rintro e w3 ⟨rfl, hb3⟩
      have T3 := hide ((unhide T2).trans (hb3.mono (unhide T2).size))
      have hbx : w3.heap[wq.heap.size]? = some (.cells #[.slice o1 s1 c1, .slice o2 s2 c2, .slice o3 s3 c3, .slice o4 s4 c4, .int .i64 n] 82) := (hb3.block _ (lt_of_heap (unhide N2))).trans (unhide N2)
      have N3 := hide hbx
      have p1 : w3.cell? ⟨wq.heap.size, 1, none⟩ = some (.slice o2 s2 c2) := blk_cell hbx 1
      have p2 : w3.cell? ⟨wq.heap.size, 2, none⟩ = some (.slice o3 s3 c3) := blk_cell hbx 2
      have p3 : w3.cell? ⟨wq.heap.size, 3, none⟩ = some (.slice o4 s4 c4) := blk_cell hbx 3
      have p4 : w3.cell? ⟨wq.heap.size, 4, none⟩ = some (.int .i64 n) := blk_cell hbx 4
      clear hb3 hbx T2 N2
      go_wp2_with fail
      clear p1 p2 p3 p4
      refine (((unhide HC).below (unhide T3)).are (unhide HX)).mono ?_
      rintro e w4 ⟨rfl, hb4⟩
      have T4 := hide ((unhide T3).trans (hb4.mono (unhide T3).size))
      have hbx : w4.heap[wq.heap.size]? = some (.cells #[.slice o1 s1 c1, .slice o2 s2 c2, .slice o3 s3 c3, .slice o4 s4 c4, .int .i64 n] 82) := (hb4.block _ (lt_of_heap (unhide N3))).trans (unhide N3)
      have N4 := hide hbx
      have p1 : w4.cell? ⟨wq.heap.size, 1, none⟩ = some (.slice o2 s2 c2) := blk_cell hbx 1
      have p2 : w4.cell? ⟨wq.heap.size, 2, none⟩ = some (.slice o3 s3 c3) := blk_cell hbx 2
      have p3 : w4.cell? ⟨wq.heap.size, 3, none⟩ = some (.slice o4 s4 c4) := blk_cell hbx 3
      have p4 : w4.cell? ⟨wq.heap.size, 4, none⟩ = some (.int .i64 n) := blk_cell hbx 4
      clear hb4 hbx T3 N3
      go_wp2
      go_roundw
      case rel => exact ⟨rfl, k + 1, by omega, by go_num, (unhide HB).trans ((unhide T4).mono hsz)⟩
      case measure => simp [intOf]; omega
    · obtain rfl : k = es.length := by omega
      have HB := hide hbel
      have Hq : Hid (Below w.heap.size w wq) := hbel
      clear hbel
      go_wp2
      go_loopw [3, 6] (fun ok i wv => ok = .bool true ∧ i = .int .i64 0 ∧ wv.cell? ⟨wb, 5, none⟩ = some (.slice none 0 0) ∧ wv.cell? ⟨wb, 6, none⟩ = some (.slice none 0 0) ∧ Below w.heap.size w wv) (fun _ _ _ => 0)
      case atStart => exact ⟨rfl, rfl, m5, m6, unhide Hq⟩
      case round =>
        clear m4 m5 m6 HB Hq
        obtain ⟨rfl, rfl, m5, m6, hbel⟩ := hrel
        have HB := hide hbel
        clear hbel
        go_wp2
        go_loopw [3, 8] (fun ok i wv => ok = .bool true ∧ i = .int .i64 0 ∧ wv.cell? ⟨wb, 6, none⟩ = some (.slice none 0 0) ∧ Below w.heap.size w wv) (fun _ _ _ => 0)
        case atStart => exact ⟨rfl, rfl, m6, unhide HB⟩
        case round =>
          clear m5 m6 HB
          obtain ⟨rfl, rfl, m6, hbel⟩ := hrel
          have HB := hide hbel
          clear hbel
          go_wp2
          go_ret
          exact ⟨rfl, unhide HB⟩
end Go.Proofs.YtfnockbgkcgpkaaGreat
