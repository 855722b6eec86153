import Derived.Test.YtfnockbgkcgpkaaWalksRA
import Derived.Test.YtfnockbgkcgpkaaMathE
set_option linter.all false
namespace Go.Proofs.Ytfnockbgkcgpkaa
open Go.RowKit Go.Proofs.Panes
set_option maxRecDepth 100000

set_option maxHeartbeats 2000000 in
theorem rarea_any (v : Value) (a : List Rc) (w : World) (hA : Rd w v a) (na : a.length ≤ 1000) (ma : ∀ r ∈ a, May r) :
    Calls Try.prog 47 #[v] w fun e w' => ∃ R, Right R ∧ (∀ px py, covL R px py ↔ covL a px py) ∧ e = .returned (.int .i64 (areaL R)) ∧ Below w.heap.size w w' := by
  have H := hide (how_union v (.slice none 0 0) a [] w hA (rd_nil w) na (by simp) ma (fun r hr => by simp at hr))
  clear hA na ma
  go_enter Try.func47, Try.ntmps47
  go_wp2_with fail
  refine (unhide H).mono ?_
  rintro e w1 ⟨v1, R, rfl, hR⟩
  have hb1 := hR.below
  have HR := hide hR.right
  have Hc : Hid (∀ px py, covL R px py ↔ covL a px py) := fun px py => (hR.cov px py).trans ⟨fun h => h.resolve_right (covL_nil px py), .inl⟩
  have Hin := hide hR.inb
  have hlen := hR.len
  obtain ⟨ao, cap, ev, h1, h2, h3⟩ := hR.own.rd
  subst ev
  have G := hide hb1
  have z1 := hb1.size
  clear hR hb1
  go_wp2
  go_loopw [3, 9] (fun c i wr => ∃ (k : Nat) (n : Int), k ≤ R.length ∧ i = .int .i64 k ∧ c = .int .i64 n ∧ n = areaL (R.take k) ∧ (0 ≤ n ∧ n ≤ 9000000 * k) ∧ Below w1.heap.size w1 wr) (fun _ i _ => R.length - (intOf i).toNat)
  case atStart => exact ⟨0, 0, Nat.zero_le _, rfl, rfl, rfl, by omega, Below.refl _ _⟩
  case round =>
    obtain ⟨k, n, hk, rfl, rfl, hc, hnk, hbel⟩ := hrel
    have hsz := hbel.size
    by_cases hlt : k < R.length
    · obtain ⟨b, off, rfl, hb, hcl⟩ := h3 (by intro e; subst e; simp at hlt)
      obtain ⟨r, hr⟩ : ∃ r, R[k]? = some r := ⟨R[k], by simp [hlt]⟩
      obtain ⟨c1, c2, c3, c4⟩ := (hcl k r hr).below hbel hb
      have hp := (unhide HR).pos r (List.mem_of_getElem? hr)
      have hin := (unhide Hin) r (List.mem_of_getElem? hr)
      have hm := mul_bd (a := r.w) (b := r.h) ⟨hp.1, by omega⟩ ⟨hp.2, by omega⟩
      have HC : Hid (areaL (R.take (k + 1)) = n + r.w * r.h) := by
        show _ = _
        rw [List.take_add_one, hr, hc]; exact areaL_snoc _ _
      have Hb := hide hbel
      clear hcl h3 hc hbel hr hp hin
      go_wp2
      go_roundw
      case rel => exact ⟨k + 1, n + r.w * r.h, by omega, by go_num, rfl, by rw [unhide HC], by push_cast; omega, (unhide Hb).alloc hsz _⟩
      case measure => simp [intOf]; omega
    · have hkl : k = R.length := by omega
      have HC := hide hc
      have Hb := hide hbel
      clear hc h3 hbel
      go_wp2
      go_ret
      exact ⟨R, unhide HR, unhide Hc, by have := unhide HC; rw [hkl, List.take_length] at this; rw [← this]; rfl, (unhide G).trans ((unhide Hb).mono z1)⟩

set_option maxHeartbeats 2000000 in
theorem parea_ok (v : Value) (a : List Rc) (w : World) (hA : Rd w v a) (ka : okL a = true) :
    Calls Try.prog 17 #[v] w fun e w' => ∃ R, Right R ∧ (∀ px py, covL R px py ↔ covL a px py) ∧ e = .returned (.tuple #[.int .i64 (areaL R), .int .i64 0]) ∧ Below w.heap.size w w' := by
  have HA := hide hA
  have HK := hide (okL_may ka)
  have hca := hide (allowed_any v a w hA)
  rw [ka] at hca
  clear hA ka
  go_enter Try.func17, Try.ntmps17
  go_wp2_with fail
  refine (unhide hca).mono ?_
  rintro e w1 ⟨rfl, h1⟩
  have H1 := hide h1
  have z1 := h1.size
  clear h1
  go_wp2_with fail
  refine (rarea_any v a w1 ((unhide HA).below (unhide H1)) (by have := (unhide HK).1; omega) (unhide HK).2).mono ?_
  rintro e w2 ⟨R, hR, hc, rfl, h2⟩
  have HR := hide hR
  have Hc := hide hc
  have H2 := hide ((unhide H1).trans (h2.mono z1))
  clear hR hc h2
  go_wp2
  go_ret2
  exact ⟨R, unhide HR, unhide Hc, rfl, unhide H2⟩
end Go.Proofs.Ytfnockbgkcgpkaa
