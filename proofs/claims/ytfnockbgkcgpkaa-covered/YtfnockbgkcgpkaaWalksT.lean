import Derived.Test.YtfnockbgkcgpkaaWalksR
import Derived.Test.YtfnockbgkcgpkaaMathE
set_option linter.all false
namespace Go.Proofs.Ytfnockbgkcgpkaa
open Go.RowKit Go.Proofs.Panes
set_option maxRecDepth 100000

def Small (l : List Rc) : Prop := ∀ r ∈ l, (-10000 ≤ r.x ∧ r.x ≤ 10000) ∧ (-10000 ≤ r.y ∧ r.y ≤ 10000) ∧ (-10000 ≤ r.w ∧ r.w ≤ 10000) ∧ (-10000 ≤ r.h ∧ r.h ≤ 10000)

set_option maxHeartbeats 2000000 in
theorem covers_any (v : Value) (l : List Rc) (px py : Int) (w : World) (hR : Rd w v l) (hn : l.length ≤ 100000000) (hs : Small l) :
    Calls Try.prog 48 #[v, .int .i64 px, .int .i64 py] w fun e w' => e = .returned (.int .i64 (cnt l px py)) ∧ Below w.heap.size w w' := by
  obtain ⟨ao, cap, rfl, h1, h2, h3⟩ := hR
  go_enter Try.func48, Try.ntmps48
  go_wp2
  go_loopw [7, 8] (fun c i wr => ∃ (k n : Nat), k ≤ l.length ∧ i = .int .i64 k ∧ c = .int .i64 n ∧ n = cnt (l.take k) px py ∧ n ≤ k ∧ Below w.heap.size w wr) (fun _ i _ => l.length - (intOf i).toNat)
  case atStart => exact ⟨0, 0, Nat.zero_le _, rfl, rfl, rfl, Nat.le_refl _, Below.refl _ _⟩
  case round =>
    obtain ⟨k, n, hk, rfl, rfl, hc, hnk, hbel⟩ := hrel
    by_cases hlt : k < l.length
    · obtain ⟨b, off, rfl, hb, hcl⟩ := h3 (by intro e; subst e; simp at hlt)
      obtain ⟨r, hr⟩ : ∃ r, l[k]? = some r := ⟨l[k], by simp [hlt]⟩
      obtain ⟨c1, c2, c3, c4⟩ := (hcl k r hr).below hbel hb
      have hsr := hs r (List.mem_of_getElem? hr)
      obtain ⟨s1, s2, s3, s4⟩ := hsr
      have hbw := hbel.size
      have HC : Hid (cnt (l.take (k + 1)) px py = n + (covB r px py).toNat) := by
        show _ = _
        rw [List.take_add_one, hr, hc]; exact cnt_snoc _ _ _ _
      have Hb := hide hbel
      clear hcl h3 hc hbel hr hs
      by_cases hin : r.x ≤ px ∧ px < r.x + r.w ∧ r.y ≤ py ∧ py < r.y + r.h
      · have HB : Hid (covB r px py = true) := decide_eq_true hin
        obtain ⟨i1, i2, i3, i4⟩ := hin
        go_wp2
        go_roundw
        case rel => exact ⟨k + 1, n + 1, by omega, by go_num, by go_num, by rw [unhide HC, unhide HB]; rfl, by omega, (unhide Hb).alloc hbw _⟩
        case measure => simp [intOf]; omega
      · have HB : Hid (covB r px py = false) := decide_eq_false hin
        go_wp2
        all_goals first
          | (exfalso; apply hin; refine ⟨?_, ?_, ?_, ?_⟩ <;> omega)
          | (go_roundw
             case rel => exact ⟨k + 1, n, by omega, by go_num, rfl, by rw [unhide HC, unhide HB]; rfl, by omega, (unhide Hb).alloc hbw _⟩
             case measure => simp [intOf]; omega)
    · have hkl : k = l.length := by omega
      have HC := hide hc
      clear hc h3
      go_wp2
      go_ret
      exact ⟨by have := unhide HC; rw [hkl, List.take_length] at this; rw [← this]; rfl, hbel⟩

set_option maxHeartbeats 2000000 in
theorem area_any (v : Value) (l : List Rc) (w : World) (hR : Rd w v l) (hn : l.length ≤ 100000000) (hp : ∀ r ∈ l, (0 < r.w ∧ r.w ≤ 3000) ∧ (0 < r.h ∧ r.h ≤ 3000)) :
    Calls Try.prog 18 #[v] w fun e w' => e = .returned (.int .i64 (areaL l)) ∧ Below w.heap.size w w' := by
  obtain ⟨ao, cap, rfl, h1, h2, h3⟩ := hR
  go_enter Try.func18, Try.ntmps18
  go_wp2
  go_loopw [3, 4] (fun c i wr => ∃ (k : Nat) (n : Int), k ≤ l.length ∧ i = .int .i64 k ∧ c = .int .i64 n ∧ n = areaL (l.take k) ∧ (0 ≤ n ∧ n ≤ 9000000 * k) ∧ Below w.heap.size w wr) (fun _ i _ => l.length - (intOf i).toNat)
  case atStart => exact ⟨0, 0, Nat.zero_le _, rfl, rfl, rfl, by omega, Below.refl _ _⟩
  case round =>
    obtain ⟨k, n, hk, rfl, rfl, hc, hnk, hbel⟩ := hrel
    by_cases hlt : k < l.length
    · obtain ⟨b, off, rfl, hb, hcl⟩ := h3 (by intro e; subst e; simp at hlt)
      obtain ⟨r, hr⟩ : ∃ r, l[k]? = some r := ⟨l[k], by simp [hlt]⟩
      obtain ⟨c1, c2, c3, c4⟩ := (hcl k r hr).below hbel hb
      have hsr := hp r (List.mem_of_getElem? hr)
      have hm := mul_bd hsr.1 hsr.2
      have i0 : (0 : Int) ≤ (k : Int) := by omega
      have i1 : (k : Int) < (l.length : Int) := by omega
      have HC : Hid (areaL (l.take (k + 1)) = n + r.w * r.h) := by
        show _ = _
        rw [List.take_add_one, hr, hc]; exact areaL_snoc _ _
      have Hb := hide hbel
      clear hcl h3 hc hbel hr hp hsr
      go_wp2
      go_quiet (fail)
      go_wp2
      go_roundw
      case rel => exact ⟨k + 1, n + r.w * r.h, by omega, by go_num, rfl, by rw [unhide HC], by push_cast; omega, below_drewN (unhide Hb) _⟩
      case measure => simp [intOf]; omega
    · have hkl : k = l.length := by omega
      have HC := hide hc
      clear hc h3
      go_wp2
      go_ret
      exact ⟨by have := unhide HC; rw [hkl, List.take_length] at this; rw [← this]; rfl, hbel⟩
end Go.Proofs.Ytfnockbgkcgpkaa
