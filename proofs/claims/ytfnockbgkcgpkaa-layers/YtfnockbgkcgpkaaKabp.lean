import Derived.Test.YtfnockbgkcgpkaaKabj
set_option linter.all false
namespace Go.Proofs.Ytfnockbgkcgpkaa
open Go.RowKit Go.Proofs.Panes
set_option maxRecDepth 100000
section
variable {a o : Nat → Nat} {w : World} {sp xp kb sb fb : Nat} {cps : List (Option Nat)} {s : Scrn} {F : ShF} {L : ShL} {i : Nat}
def leftI (F : ShF) (i k : Nat) : ShF := { F with there := F.there.set i false, wait := F.wait.set i [], marks := goneI (i : Int) F.marks k }
theorem leftI_zero (F : ShF) (i : Nat) : leftI F i 0 = { F with there := F.there.set i false, wait := F.wait.set i [] } := by unfold leftI; rw [goneI_zero]
theorem leftI_all (F : ShF) (i : Nat) : leftI F i F.marks.length = leftF F i := by unfold leftI leftF; rw [goneI_all]
/-- The mark is turned, or need not be. -/
theorem leftI_set {k : Nat} {y : Ask} (hy : F.marks[k]? = some y) (hc : y.cl = (i : Int)) : { leftI F i k with marks := (leftI F i k).marks.set k { y with gone := y.gone || !y.fired } } = leftI F i (k + 1) := by
  unfold leftI
  rw [goneI_succ hy]
  simp only [gone1, if_pos hc]
theorem leftI_same {k : Nat} {y : Ask} (hy : F.marks[k]? = some y) (hc : ¬ y.cl = (i : Int)) : leftI F i k = leftI F i (k + 1) := by
  unfold leftI
  rw [goneI_succ hy]
  have h1 : gone1 (i : Int) y = y := by unfold gone1; rw [if_neg hc]
  rw [h1]
  have h2 := goneI_at (c := (i : Int)) hy
  have : (goneI (i : Int) F.marks k).set k y = goneI (i : Int) F.marks k := List.ext_getElem? fun j => by
    rw [List.getElem?_set]
    split
    · rename_i e; subst e
      rw [if_pos (List.getElem?_eq_some_iff.1 h2).1, h2]
    · rfl
  rw [this]
set_option maxHeartbeats 8000000 in
theorem leaves_any (hB : ShB a w sp xp F L) (hM : ScrM o w xp kb sb fb cps s) (hap : ∀ x, a x ≠ 0 → o x = 0) (hl : s.ks.length ≤ 4) (hi : i < s.ks.length) (hF : conK s.ks (i : Int) = true → DiscFine s i) (hth : F.there[i]? = some (conK s.ks (i : Int))) (hwl : F.wait.length = s.ks.length) (htl : F.there.length = s.ks.length) (hml : F.marks.length ≤ 1000000000) :
    Calls Try.prog 50 #[.pointer (some ⟨sp, 0, none⟩), .int .i64 (i : Int)] w fun e w' => (∃ u, e = .returned u) ∧ KtPost a o w sp xp kb sb fb (leftS s i) (leftF F i) w' := by
  have c0 : w.cell? ⟨sp, 0, none⟩ = some (.pointer (some ⟨xp, 0, none⟩)) := blk_cell hB.blk 0
  have HD := hide (leave_call hB hM hap hl i hF)
  obtain ⟨n, hn⟩ : ∃ n, n = s.ks.length := ⟨_, rfl⟩
  obtain ⟨mn, hmn⟩ : ∃ mn, mn = F.marks.length := ⟨_, rfl⟩
  have hin : i < n := by omega
  have hn4 : n ≤ 4 := by omega
  have hm9 : mn ≤ 1000000000 := by omega
  have HTH := hide hth
  have HWL : Hid (F.wait.length = n) := by show F.wait.length = n; rw [hwl, hn]
  have HTL : Hid (F.there.length = n) := by show F.there.length = n; rw [htl, hn]
  have HMN := hide hmn
  obtain ⟨tt, htt⟩ : ∃ tt, tt = conK s.ks (i : Int) := ⟨_, rfl⟩
  rw [← htt] at HD HTH
  obtain ⟨s2, hs2⟩ : ∃ s2, s2 = leftS s i := ⟨_, rfl⟩
  rw [← hs2] at HD ⊢
  clear hB hM hap hl hi hF hth hwl htl hml hn hmn htt hs2
  have i0 : (0 : Int) ≤ (i : Int) := by omega
  have i1 : (i : Int) < (n : Int) := by omega
  go_enter Try.func50, Try.ntmps50
  cases tt with
  | true =>
    go_wp2_with (go_at_call 29; refine (unhide HD).mono ?_; rintro e w1 ⟨rfl, hK⟩
                 obtain ⟨g, gc, g2, gc2, v, ⟨x9, xt, zt, x10, xw, zw, n1, n2⟩, hK2⟩ := hK.leave (unhide HTH) (by rw [unhide HWL]; exact hin)
                 rw [unhide HTL] at x9
                 rw [unhide HWL] at x10
                 have HK := hide hK2
                 clear hK hK2)
    have hK := unhide HK
    rw [← leftI_zero] at hK
    clear HK HD x9 xt zt x10 xw zw n1 n2 c0 HTH HWL HTL hin hn4 i1
    generalize (w1.setCell ⟨g, i, none⟩ (.bool false)).setCell ⟨g2, i, none⟩ (.slice none 0 0) = W at *
    have HK := hide hK
    clear hK
    go_loopw [5] (fun x wr => ∃ k : Nat, k ≤ mn ∧ x = .int .i64 k ∧ KtPost a o w sp xp kb sb fb s2 (leftI F i k) wr) (fun x _ => mn - (intOf x).toNat)
    case atStart => exact ⟨0, Nat.zero_le _, rfl, unhide HK⟩
    case round =>
      clear HK
      obtain ⟨k, hk, rfl, hK⟩ := hrel
      by_cases hlt : k < mn
      · obtain ⟨y, hy⟩ : ∃ y, F.marks[k]? = some y := ⟨F.marks[k]'(by have := unhide HMN; omega), by simp⟩
        obtain ⟨gm, mc, ⟨x12, xm, zm⟩, hset⟩ := hK.markAt (j := k) (y := y) (goneI_at hy)
        have eml : (leftI F i k).marks.length = mn := by rw [unhide HMN]; exact goneI_len _ _ _
        rw [eml] at x12
        have t0 : wr.cell? ⟨gm, k * 5, none⟩ = some (.int .i64 y.cl) := xm 0 (by omega)
        have t3 : wr.cell? ⟨gm, k * 5 + 3, none⟩ = some (.bool y.fired) := xm 3 (by omega)
        have t4 : wr.cell? ⟨gm, k * 5 + 4, none⟩ = some (.bool y.gone) := xm 4 (by omega)
        have k0 : (0 : Int) ≤ (k : Int) := by omega
        have k1 : (k : Int) < (mn : Int) := by omega
        by_cases hc : y.cl = (i : Int)
        · have HS : Hid (∀ q : Nat, KtPost a o w sp xp kb sb fb s2 (leftI F i (k + 1)) ((wr.drewN q).setCell ⟨gm, k * 5 + 4, none⟩ (.bool (y.gone || !y.fired)))) := fun q => by
            rw [← leftI_set hy hc]; exact hset q _
          rw [hc] at t0
          obtain ⟨yf, hyf⟩ : ∃ yf, yf = y.fired := ⟨_, rfl⟩
          obtain ⟨yg, hyg⟩ : ∃ yg, yg = y.gone := ⟨_, rfl⟩
          rw [← hyf] at t3 HS
          rw [← hyg] at t4 HS
          clear hK hset hy xm eml hc hyf hyg
          cases yg with
          | true =>
            go_wp2
            go_region
            go_wp2
            go_roundw
            case rel => exact ⟨k + 1, by omega, by go_num, ((unhide HS) 0).below ((Below.refl _ _).drew)⟩
            case measure => simp [intOf]; omega
          | false =>
            cases yf with
            | true =>
              go_wp2
              go_region
              go_wp2
              go_roundw
              case rel => exact ⟨k + 1, by omega, by go_num, ((unhide HS) 0).below ((Below.refl _ _).drew)⟩
              case measure => simp [intOf]; omega
            | false =>
              go_wp2
              go_region
              go_wp2
              go_roundw
              case rel => exact ⟨k + 1, by omega, by go_num, ((unhide HS) 0).below ((Below.refl _ _).drew)⟩
              case measure => simp [intOf]; omega
        · have HS : Hid (KtPost a o w sp xp kb sb fb s2 (leftI F i (k + 1)) wr) := by rw [← leftI_same hy hc]; exact hK
          obtain ⟨yc, hyc⟩ : ∃ yc, yc = y.cl := ⟨_, rfl⟩
          rw [← hyc] at t0 hc
          clear hK hset hy xm eml hyc t3 t4
          go_wp2
          go_roundw
          case rel => exact ⟨k + 1, by omega, by go_num, unhide HS⟩
          case measure => simp [intOf]; omega
      · obtain ⟨ao, mc, x12⟩ := hK.marksLen
        have eml : (leftI F i k).marks.length = mn := by rw [unhide HMN]; exact goneI_len _ _ _
        rw [eml] at x12
        have ek : k = F.marks.length := by have := unhide HMN; omega
        have HE : Hid (KtPost a o w sp xp kb sb fb s2 (leftF F i) wr) := by rw [ek, leftI_all] at hK; exact hK
        have k1 : ¬ (k : Int) < (mn : Int) := by omega
        clear hK eml ek
        go_wp2
        go_end0
        exact ⟨⟨_, rfl⟩, unhide HE⟩
  | false =>
    go_wp2_with (go_at_call 29; refine (unhide HD).mono ?_; rintro e w1 ⟨rfl, hK⟩
                 obtain ⟨g, gc, g2, gc2, v, ⟨x9, xt, zt, x10, xw, zw, n1, n2⟩, hK2⟩ := hK.leave (unhide HTH) (by rw [unhide HWL]; exact hin)
                 rw [unhide HTL] at x9
                 rw [unhide HWL] at x10
                 have HK := hide hK2
                 clear hK hK2)
    have hK := unhide HK
    rw [← leftI_zero] at hK
    clear HK HD x9 xt zt x10 xw zw n1 n2 c0 HTH HWL HTL hin hn4 i1
    generalize (w1.setCell ⟨g, i, none⟩ (.bool false)).setCell ⟨g2, i, none⟩ (.slice none 0 0) = W at *
    have HK := hide hK
    clear hK
    go_loopw [5] (fun x wr => ∃ k : Nat, k ≤ mn ∧ x = .int .i64 k ∧ KtPost a o w sp xp kb sb fb s2 (leftI F i k) wr) (fun x _ => mn - (intOf x).toNat)
    case atStart => exact ⟨0, Nat.zero_le _, rfl, unhide HK⟩
    case round =>
      clear HK
      obtain ⟨k, hk, rfl, hK⟩ := hrel
      by_cases hlt : k < mn
      · obtain ⟨y, hy⟩ : ∃ y, F.marks[k]? = some y := ⟨F.marks[k]'(by have := unhide HMN; omega), by simp⟩
        obtain ⟨gm, mc, ⟨x12, xm, zm⟩, hset⟩ := hK.markAt (j := k) (y := y) (goneI_at hy)
        have eml : (leftI F i k).marks.length = mn := by rw [unhide HMN]; exact goneI_len _ _ _
        rw [eml] at x12
        have t0 : wr.cell? ⟨gm, k * 5, none⟩ = some (.int .i64 y.cl) := xm 0 (by omega)
        have t3 : wr.cell? ⟨gm, k * 5 + 3, none⟩ = some (.bool y.fired) := xm 3 (by omega)
        have t4 : wr.cell? ⟨gm, k * 5 + 4, none⟩ = some (.bool y.gone) := xm 4 (by omega)
        have k0 : (0 : Int) ≤ (k : Int) := by omega
        have k1 : (k : Int) < (mn : Int) := by omega
        by_cases hc : y.cl = (i : Int)
        · have HS : Hid (∀ q : Nat, KtPost a o w sp xp kb sb fb s2 (leftI F i (k + 1)) ((wr.drewN q).setCell ⟨gm, k * 5 + 4, none⟩ (.bool (y.gone || !y.fired)))) := fun q => by
            rw [← leftI_set hy hc]; exact hset q _
          rw [hc] at t0
          obtain ⟨yf, hyf⟩ : ∃ yf, yf = y.fired := ⟨_, rfl⟩
          obtain ⟨yg, hyg⟩ : ∃ yg, yg = y.gone := ⟨_, rfl⟩
          rw [← hyf] at t3 HS
          rw [← hyg] at t4 HS
          clear hK hset hy xm eml hc hyf hyg
          cases yg with
          | true =>
            go_wp2
            go_region
            go_wp2
            go_roundw
            case rel => exact ⟨k + 1, by omega, by go_num, ((unhide HS) 0).below ((Below.refl _ _).drew)⟩
            case measure => simp [intOf]; omega
          | false =>
            cases yf with
            | true =>
              go_wp2
              go_region
              go_wp2
              go_roundw
              case rel => exact ⟨k + 1, by omega, by go_num, ((unhide HS) 0).below ((Below.refl _ _).drew)⟩
              case measure => simp [intOf]; omega
            | false =>
              go_wp2
              go_region
              go_wp2
              go_roundw
              case rel => exact ⟨k + 1, by omega, by go_num, ((unhide HS) 0).below ((Below.refl _ _).drew)⟩
              case measure => simp [intOf]; omega
        · have HS : Hid (KtPost a o w sp xp kb sb fb s2 (leftI F i (k + 1)) wr) := by rw [← leftI_same hy hc]; exact hK
          obtain ⟨yc, hyc⟩ : ∃ yc, yc = y.cl := ⟨_, rfl⟩
          rw [← hyc] at t0 hc
          clear hK hset hy xm eml hyc t3 t4
          go_wp2
          go_roundw
          case rel => exact ⟨k + 1, by omega, by go_num, unhide HS⟩
          case measure => simp [intOf]; omega
      · obtain ⟨ao, mc, x12⟩ := hK.marksLen
        have eml : (leftI F i k).marks.length = mn := by rw [unhide HMN]; exact goneI_len _ _ _
        rw [eml] at x12
        have ek : k = F.marks.length := by have := unhide HMN; omega
        have HE : Hid (KtPost a o w sp xp kb sb fb s2 (leftF F i) wr) := by rw [ek, leftI_all] at hK; exact hK
        have k1 : ¬ (k : Int) < (mn : Int) := by omega
        clear hK eml ek
        go_wp2
        go_end0
        exact ⟨⟨_, rfl⟩, unhide HE⟩
end
end Go.Proofs.Ytfnockbgkcgpkaa
