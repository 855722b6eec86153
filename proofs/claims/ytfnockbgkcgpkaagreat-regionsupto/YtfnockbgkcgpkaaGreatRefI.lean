import Derived.Test.YtfnockbgkcgpkaaGreatRefH
set_option linter.all false
namespace Go.Proofs.YtfnockbgkcgpkaaGreat
open Go.RowKit Go.Proofs.Panes
attribute [local go_sem ↓] Go.wp_at_zero Go.wp_at_succ
set_option maxRecDepth 100000

theorem Doc.at {way : Int} {a b R : List Rc} (h : Doc way a b R) (ma : ∀ r ∈ a, May r) (mb : ∀ r ∈ b, May r) {px py : Int} (hc : covL R px py) : (-1000 ≤ px ∧ px < 2000) ∧ (-1000 ≤ py ∧ py < 2000) := by
  have := (h.cov px py).1 hc
  have key : covL a px py ∨ covL b px py := by
    cases ea : covA a px py
    · cases eb : covA b px py
      · rw [ea, eb, wayB_none] at this; cases this
      · exact .inr ((covA_iff b px py).1 eb)
    · exact .inl ((covA_iff a px py).1 ea)
  rcases key with ⟨r, hr, e⟩ | ⟨r, hr, e⟩
  · have := ma r hr; unfold May at this; unfold Rc.cov at e; omega
  · have := mb r hr; unfold May at this; unfold Rc.cov at e; omega
theorem Doc.inb {way : Int} {a b R : List Rc} (h : Doc way a b R) (ma : ∀ r ∈ a, May r) (mb : ∀ r ∈ b, May r) : ∀ r ∈ R, -1000 ≤ r.x ∧ r.x + r.w ≤ 2000 ∧ -1000 ≤ r.y ∧ r.y + r.h ≤ 2000 := fun r hr => by
  have hp := h.right.pos r hr
  have h1 := h.at ma mb (px := r.x) (py := r.y) ⟨r, hr, by unfold Rc.cov; omega⟩
  have h2 := h.at ma mb (px := r.x + r.w - 1) (py := r.y + r.h - 1) ⟨r, hr, by unfold Rc.cov; omega⟩
  omega

set_option maxHeartbeats 2000000 in
theorem docArea_ok (v : Value) (a : List Rc) (w : World) (hA : Rd w v a) (ka : okL a = true) :
    Calls Tryz.prog 34 #[v] w fun e w' => ∃ R, Doc 1 a [] R ∧ e = .returned (.tuple #[.int .i64 (areaL R), .int .i64 0]) ∧ Below w.heap.size w w' := by
  have HK := hide (okL_may ka)
  have H := hide (docCall_ok 1 v (.slice none 0 0) a [] w hA (rd_nil w) ka rfl)
  clear hA ka
  go_enter Tryz.func34, Tryz.ntmps34
  go_wp2_with fail
  refine (unhide H).mono ?_
  rintro e w1 ⟨v1, R, rfl, o1, d1, b1⟩
  have HD := hide d1
  have Hin := hide (d1.inb (unhide HK).2 (fun r hr => by simp at hr))
  have hlen := d1.len
  obtain ⟨ao, cap, ev, h1, h2, h3⟩ := o1.rd
  subst ev
  have G := hide b1
  have z1 := b1.size
  clear o1 d1 b1
  go_wp2
  go_loopw [6, 7] (fun c i wr => ∃ (k : Nat) (n : Int), k ≤ R.length ∧ i = .int .i64 k ∧ c = .int .i64 n ∧ n = areaL (R.take k) ∧ (0 ≤ n ∧ n ≤ 9000000 * k) ∧ Below w1.heap.size w1 wr) (fun _ i _ => R.length - (intOf i).toNat)
  case atStart => exact ⟨0, 0, Nat.zero_le _, rfl, rfl, rfl, by omega, Below.refl _ _⟩
  case round =>
    obtain ⟨k, n, hk, rfl, rfl, hc, hnk, hbel⟩ := hrel
    have hsz := hbel.size
    by_cases hlt : k < R.length
    · obtain ⟨b, off, rfl, hb, hcl⟩ := h3 (by intro e; subst e; simp at hlt)
      obtain ⟨r, hr⟩ : ∃ r, R[k]? = some r := ⟨R[k], by simp [hlt]⟩
      obtain ⟨c1, c2, c3, c4⟩ := (hcl k r hr).below hbel hb
      have hp := (unhide HD).right.pos r (List.mem_of_getElem? hr)
      have hin := (unhide Hin) r (List.mem_of_getElem? hr)
      have hm := mul_bd (a := r.w) (b := r.h) ⟨hp.1, by omega⟩ ⟨hp.2, by omega⟩
      have i0 : (0 : Int) ≤ (k : Int) := by omega
      have i1 : (k : Int) < (R.length : Int) := by omega
      have HC : Hid (areaL (R.take (k + 1)) = n + r.w * r.h) := by
        show _ = _
        rw [List.take_add_one, hr, hc]; exact areaL_snoc _ _
      have Hb := hide hbel
      clear hcl h3 hc hbel hr hp hin
      go_wp2
      go_quiet (fail)
      go_wp2
      go_roundw
      case rel => exact ⟨k + 1, n + r.w * r.h, by omega, by go_num, rfl, by rw [unhide HC], by push_cast; omega, below_drewN (unhide Hb) _⟩
      case measure => simp [intOf]; omega
    · have hkl : k = R.length := by omega
      have HC := hide hc
      have Hb := hide hbel
      clear hc h3 hbel
      go_wp2
      go_ret2
      exact ⟨R, unhide HD, by have := unhide HC; rw [hkl, List.take_length] at this; rw [← this]; rfl, (unhide G).trans ((unhide Hb).mono z1)⟩
end Go.Proofs.YtfnockbgkcgpkaaGreat
