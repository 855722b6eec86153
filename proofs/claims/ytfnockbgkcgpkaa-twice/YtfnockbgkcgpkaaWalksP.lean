import Derived.Test.YtfnockbgkcgpkaaMathD
import Derived.Test.YtfnockbgkcgpkaaBase
import Derived.WalkSpells
import Derived.StillTactics
import Derived.OwnWalk
import Derived.Laws.Pointers
import Derived.Deep.RegionHeld3
import Derived.Deep.AppendLies
import Derived.Deep.DrawnRows
set_option linter.all false
namespace Go.Proofs.Ytfnockbgkcgpkaa
open Go.RowKit Go.Proofs.Panes
set_option maxRecDepth 100000
attribute [local go_sem ↓] Go.wp_at_zero Go.wp_at_succ

def pk (c n : Int) : Int := (if c < 0 then -(c + 1) else c) % n
theorem pk_bd (c n : Int) (hn : 0 < n) : 0 ≤ pk c n ∧ pk c n < n := by
  unfold pk; exact ⟨Int.emod_nonneg _ (by omega), Int.emod_lt_of_pos _ hn⟩

set_option maxHeartbeats 400000 in
theorem pick_any (c n : Int) (w : World) (hc : -9223372036854775808 ≤ c ∧ c ≤ 9223372036854775807) (hn : 0 < n ∧ n ≤ 1000000) :
    Calls Try.prog 20 #[.int .i64 c, .int .i64 n] w fun e w' => e = .returned (.int .i64 (pk c n)) ∧ w' = w := by
  by_cases h : c < 0
  · have e : pk c n = -((c + 1).tmod n) := by unfold pk; rw [if_pos h, ← Int.neg_tmod, Int.tmod_eq_emod_of_nonneg (by omega)]
    rw [e]
    go_enter Try.func20, Try.ntmps20
    go_wp2
    go_ret
    exact ⟨rfl, rfl⟩
  · have e : pk c n = c % n := by unfold pk; rw [if_neg h]
    rw [e]
    go_enter Try.func20, Try.ntmps20
    go_wp2
    go_ret
    exact ⟨rfl, rfl⟩

def tameR (r : Rc) : Rc := ⟨IntKind.i64.wrap (pk r.x 2001 - 1000), IntKind.i64.wrap (pk r.y 2001 - 1000), pk r.w 1001, pk r.h 1001⟩
theorem wrap_small (x : Int) (h : -10000 ≤ x ∧ x ≤ 10000) : IntKind.i64.wrap x = x := by
  rw [IntKind.wrap_i64]; omega
theorem new_at_drew (w : World) (o : Obj) (n : Nat) (h : n = w.heap.size) : (w.alloc o).drew.heap[n]? = some o := new_at w o n h
theorem tame_may (r : Rc) : May (tameR r) := by
  have h1 := pk_bd r.x 2001 (by omega); have h2 := pk_bd r.y 2001 (by omega); have h3 := pk_bd r.w 1001 (by omega); have h4 := pk_bd r.h 1001 (by omega)
  unfold May tameR
  rw [wrap_small _ (by omega), wrap_small _ (by omega)]
  simp only; omega
/-- Its numbers are Go's. -/
def Fit (r : Rc) : Prop := (-9223372036854775808 ≤ r.x ∧ r.x ≤ 9223372036854775807) ∧ (-9223372036854775808 ≤ r.y ∧ r.y ≤ 9223372036854775807) ∧ (-9223372036854775808 ≤ r.w ∧ r.w ≤ 9223372036854775807) ∧ (-9223372036854775808 ≤ r.h ∧ r.h ≤ 9223372036854775807)

set_option maxHeartbeats 4000000 in
theorem tame_any (v : Value) (l : List Rc) (w : World) (hR : Rd w v l) (hf : ∀ r ∈ l, Fit r) (hn : l.length ≤ 9223372036854775807) :
    Calls Try.prog 11 #[v] w fun e w' => ∃ v', e = .returned v' ∧ Own w' w.heap.size v' ((l.take 40).map tameR) ∧ Below w.heap.size w w' := by
  obtain ⟨i0, hi, hz0, hz1, hz2⟩ := info_parts info_rect
  obtain ⟨ao, cap, rfl, h1, h2, h3⟩ := hR
  go_enter Try.func11, Try.ntmps11
  go_wp2
  go_loopw [3, 4] (fun v i wr => ∃ k : Nat, k ≤ l.length ∧ k ≤ 40 ∧ i = .int .i64 k ∧ Own wr w.heap.size v ((l.take k).map tameR) ∧ Below w.heap.size w wr) (fun _ i _ => l.length - (intOf i).toNat)
  case atStart => exact ⟨0, Nat.zero_le _, Nat.zero_le _, rfl, own_nil _, Below.refl _ _⟩
  case round =>
    obtain ⟨k, hk, hk2, rfl, hO, hbel⟩ := hrel
    by_cases hlt : k < l.length ∧ k < 40
    · obtain ⟨hl1, hl2⟩ := hlt
      obtain ⟨b, off, rfl, hb, hc⟩ := h3 (by intro e; subst e; simp at hl1)
      obtain ⟨r, hr⟩ : ∃ r, l[k]? = some r := ⟨l[k], by simp [hl1]⟩
      obtain ⟨c1, c2, c3, c4⟩ := (hc k r hr).below hbel hb
      have hbw := hbel.size
      have lt1 : b < wr.heap.size := by omega
      have HF := hide (hf r (List.mem_of_getElem? hr))
      have HT : Hid ((l.take (k + 1)).map tameR = (l.take k).map tameR ++ [tameR r]) := by show _ = _; rw [List.take_add_one, hr, List.map_append]; rfl
      have HLn : Hid (((l.take k).map tameR).length ≤ 40) := by show _ ≤ _; rw [List.length_map]; exact Nat.le_trans (List.length_take_le _ _) hk2
      have hlen : ((l.take k).map tameR).length = k := by rw [List.length_map, List.length_take]; omega
      have HLen := hide hlen
      obtain ⟨oo, oc, ev, _⟩ := own_slice hO
      rw [hlen] at ev
      subst ev
      have HO := hide hO
      have HOk : Hid (wr.ownsRow w.heap.size 29 4 (.slice oo k oc) k (rcells ((l.take k).map tameR))) := by
        have h := hO; unfold Own at h; rw [hlen] at h; exact h
      have Hb := hide hbel
      have hap : Hid ((some wr.heap.size : Option Nat) ≠ (Value.slice oo k oc).ownBlock) := fun e => by
        have := (World.ownsRow.lt hO _ e.symm).2; omega
      clear hlen
      have p1 := pk_bd r.x 2001 (by omega)
      have p2 := pk_bd r.y 2001 (by omega)
      have p3 := pk_bd r.w 1001 (by omega)
      have p4 := pk_bd r.h 1001 (by omega)
      clear hc h3 hO hbel hr hf
      go_wp2_with fail
      go_region_held3 (fun w' => w'.cell? ⟨wr.heap.size, 0, none⟩ = some (.int .i64 r.x) ∧ w'.cell? ⟨wr.heap.size, 1, none⟩ = some (.int .i64 r.y) ∧ w'.cell? ⟨wr.heap.size, 2, none⟩ = some (.int .i64 r.w) ∧ w'.cell? ⟨wr.heap.size, 3, none⟩ = some (.int .i64 r.h))
        (first
          | go_keep
          | (go_split_ands
             refine ⟨?_, ?_, ?_, ?_⟩
             · (rw [hgrow.cell_far _ (by simp; omega) (unhide hap)]; assumption)
             · (rw [hgrow.cell_far _ (by simp; omega) (unhide hap)]; assumption)
             · (rw [hgrow.cell_far _ (by simp; omega) (unhide hap)]; assumption)
             · (rw [hgrow.cell_far _ (by simp; omega) (unhide hap)]; assumption)))
        ((first
          | (go_at_call 20; refine (pick_any _ _ _ (by first | exact (unhide HF).1 | exact (unhide HF).2.1 | exact (unhide HF).2.2.1 | exact (unhide HF).2.2.2) (by omega)).mono ?_; rintro e w' ⟨rfl, rfl⟩)
          | (refine step_append_lies _ (by rfl) _ _ _ (by rfl) w.heap.size 29 i0 _ 4 32 Try.underlying22 hi hz0 hz1 hz2 rfl (by omega) (.slice oo k oc) k (rcells ((l.take k).map tameR)) (by rfl) ((((unhide HOk).alloc _).alloc _).drew) ⟨wr.heap.size + 1, 0, none⟩ 1 1 (rcell (tameR r)) (by rfl) (by rfl) (newcells (new_at_drew _ _ _ (by simp))) (rcell_one _) (by omega) (by have := unhide HLn; unfold maxLen; omega) (by have := unhide HLn; omega) (by simp; omega) (wr.heap.size + 2) (by simp) ?_; intro gg gc w1 hown1 hgrow hat hltg)))
      have HOn := hide (Own.snoc (l := (l.take k).map tameR) (r := tameR r) (by rw [unhide HLen]; exact hown1))
      have HG := hide (grown_trans (grown_trans (World.grownBy_alloc wr _ _) (World.grownBy_alloc _ _ _)) (grown_trans (grown_drewN _ 1 _) hgrow))
      clear hown1 hgrow
      go_wp2
      go_roundw
      case rel => exact ⟨k + 1, by omega, by omega, by go_num, by rw [unhide HT]; exact unhide HOn, (unhide Hb).grown (unhide HG) hbw (Own.row_ge (unhide HO))⟩
      case measure => simp [intOf]; omega
    · have hkk : l.take k = l.take 40 := by
        by_cases h : k < l.length
        · have : k = 40 := by omega
          rw [this]
        · rw [List.take_of_length_le (by omega), List.take_of_length_le (by omega)]
      rw [hkk] at hO
      have HO := hide hO
      have Hb := hide hbel
      clear hO hbel h3 hf hkk
      by_cases hll : k < l.length
      all_goals
        go_wp2
        go_ret
        exact ⟨_, rfl, unhide HO, unhide Hb⟩
end Go.Proofs.Ytfnockbgkcgpkaa
