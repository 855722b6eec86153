import Derived.Test.YtfnockbgkcgpkaaBase
set_option linter.all false
namespace Go.Proofs.Ytfnockbgkcgpkaa
open Go.RowKit Go.Proofs.Panes
set_option maxRecDepth 100000

def taller (d : Int) (r : Rc) : Rc := ⟨r.x, r.y, r.w, r.h + d⟩

set_option maxHeartbeats 1600000 in
/-- lengthen, of a part of a row that somebody owns: from its n-th rectangle on. -/
theorem lengthen_any (base g cap n c2 : Nat) (pre band : List Rc) (d : Int) (w : World) (hO : Own w base (.slice (some ⟨g, 0, none⟩) (pre.length + band.length) cap) (pre ++ band)) (hn : pre.length = n) (hd : 0 ≤ d ∧ d ≤ 10000) (hlen : pre.length + band.length ≤ 100000000) (hb : ∀ r ∈ band, -10000 ≤ r.h ∧ r.h ≤ 10000) :
    Calls Try.prog 104 #[.slice (some ⟨g, n * 4, none⟩) band.length c2, .int .i64 d] w fun e w' => e = .returned (.tuple #[]) ∧
      Own w' base (.slice (some ⟨g, 0, none⟩) (pre.length + band.length) cap) (pre ++ band.map (taller d)) ∧ w.grownBy w' (some g) := by
  go_enter Try.func104, Try.ntmps104
  go_wp2
  go_loopw [7] (fun i wr => ∃ k : Nat, k ≤ band.length ∧ i = .int .i64 k ∧ Own wr base (.slice (some ⟨g, 0, none⟩) (pre.length + band.length) cap) (pre ++ (band.take k).map (taller d) ++ band.drop k) ∧ w.grownBy wr (some g)) (fun i _ => band.length - (intOf i).toNat)
  case atStart => exact ⟨0, Nat.zero_le _, rfl, by simpa using hO, grown_drewN w 0 _⟩
  case round =>
    obtain ⟨k, hk, rfl, hOr, hg⟩ := hrel
    clear hO
    by_cases hlt : k < band.length
    · obtain ⟨r, hr⟩ : ∃ r, band[k]? = some r := ⟨band[k], by simp [hlt]⟩
      have hdrop : band.drop k = r :: band.drop (k + 1) := by
        rw [List.drop_eq_getElem_cons hlt]; congr 1
        have := (List.getElem?_eq_getElem hlt).symm.trans hr; exact Option.some.inj this
      rw [hdrop] at hOr
      have hpl : (pre ++ (band.take k).map (taller d)).length = n + k := by simp; omega
      have hat : RAt wr g ((n + k) * 4) r := own_at hOr (by rw [← hpl]; simp)
      obtain ⟨_, _, _, c4⟩ := hat
      have hfz := own_thaw hOr (by simp; omega) (n * 4 + k * 4 + 3)
      have c4' : wr.cell? ⟨g, n * 4 + k * 4 + 3, none⟩ = some (.int .i64 r.h) := by rw [← Nat.add_mul]; exact c4
      have bh := hb r (List.mem_of_getElem? hr)
      have hst := own_setH (r.h + d) hOr (by simp; omega)
      rw [hpl, Nat.add_mul] at hst
      have HS := hide hst
      have HG := hide hg
      have HT : Hid (band.take (k + 1) = band.take k ++ [r]) := by show _ = _; rw [List.take_add_one, hr]; rfl
      clear c4 hst hg hOr hdrop hr
      go_wp2
      go_roundw
      case rel =>
        refine ⟨k + 1, by omega, by go_num, ?_, grown_trans (unhide HG) (unhide HS).2⟩
        rw [unhide HT, List.map_append, ← List.append_assoc, List.append_assoc]
        exact (unhide HS).1
      case measure => simp [intOf]; omega
    · have hkl : k = band.length := by omega
      have HO := hide hOr
      clear hOr
      go_wp2
      go_end0
      exact ⟨rfl, by have := unhide HO; rw [hkl, List.take_length, List.drop_length, List.append_nil] at this; exact this, hg⟩
end Go.Proofs.Ytfnockbgkcgpkaa
