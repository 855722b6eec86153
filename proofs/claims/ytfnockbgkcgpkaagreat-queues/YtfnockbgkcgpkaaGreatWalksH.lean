import Derived.Test.YtfnockbgkcgpkaaGreatWalksA
import Derived.Test.YtfnockbgkcgpkaaGreatMathD
set_option linter.all false
namespace Go.Proofs.YtfnockbgkcgpkaaGreat
open Go.RowKit Go.Proofs.Panes
set_option maxRecDepth 100000

def SaidJoin : Prop := ∀ (y h : Int) (base : Nat) (v : Value) (l : List Rc) (w : World) (_ : Own w base v l) (_ : Bits y h l) (_ : l.length ≤ 100000),
    Calls Tryz.prog 150 #[v] w fun e w' => ∃ v' J, e = .returned v' ∧ Own w' w.heap.size v' J ∧ Strip y h J ∧ (∀ px, col J px ↔ col l px) ∧ w.grownBy w' v.ownBlock

def inStrip (r : Rc) (top bot : Int) : Prop := 0 < r.w ∧ r.y ≤ top ∧ bot ≤ r.y + r.h

structure PI (top bot : Int) (F P : List Rc) : Prop where
  bits : Bits top (bot - top) F
  cols : ∀ px, col F px ↔ ∃ r ∈ P, r.y ≤ top ∧ bot ≤ r.y + r.h ∧ r.has px
theorem PI.start (top bot : Int) : PI top bot [] [] := ⟨Bits.nil _ _, fun px => ⟨fun c => absurd c (col_nil px), fun ⟨_, h, _⟩ => by simp at h⟩⟩
theorem PI.take {top bot : Int} {F P : List Rc} {r c : Rc} (i : PI top bot F P) (hm : May r) (hin : inStrip r top bot) (hx : c.x = r.x) (hy : c.y = top) (hw : c.w = r.w) (hh : c.h = bot - top) : PI top bot (F ++ [c]) (P ++ [r]) := by
  unfold May at hm; unfold inStrip at hin
  refine ⟨i.bits.snoc ⟨by omega, hy, hh, by omega, by omega⟩, fun px => ?_⟩
  rw [col_snoc, i.cols px]
  constructor
  · rintro (⟨q, hq, c⟩ | c)
    · exact ⟨q, by simp [hq], c⟩
    · exact ⟨r, by simp, hin.2.1, hin.2.2, by unfold Rc.has at *; omega⟩
  · rintro ⟨q, hq, c⟩
    rcases List.mem_append.1 hq with e | e
    · exact .inl ⟨q, e, c⟩
    · rw [List.mem_singleton.1 e] at c; exact .inr (by unfold Rc.has at *; omega)
theorem PI.skip {top bot : Int} {F P : List Rc} {r : Rc} (i : PI top bot F P) (hin : ¬ inStrip r top bot) : PI top bot F (P ++ [r]) := by
  unfold inStrip at hin
  refine ⟨i.bits, fun px => (i.cols px).trans ⟨fun ⟨q, hq, c⟩ => ⟨q, by simp [hq], c⟩, ?_⟩⟩
  rintro ⟨q, hq, c⟩
  rcases List.mem_append.1 hq with e | e
  · exact ⟨q, e, c⟩
  · rw [List.mem_singleton.1 e] at c; exact absurd c (by unfold Rc.has; omega)

set_option maxHeartbeats 4000000 in
theorem pieces_any (hj : SaidJoin) (v : Value) (l : List Rc) (top bot : Int) (w : World) (hR : Rd w v l) (hn : l.length ≤ 1000) (hm : ∀ r ∈ l, May r) (hcl : ∀ r ∈ l, Clear r top bot) (ht : -1000 ≤ top ∧ top < bot ∧ bot ≤ 2000) :
    Calls Tryz.prog 147 #[v, .int .i64 top, .int .i64 bot] w fun e w' => ∃ v' S, e = .returned v' ∧ Own w' w.heap.size v' S ∧ Strip top (bot - top) S ∧ (∀ px, col S px ↔ ∃ r ∈ l, r.y ≤ top ∧ bot ≤ r.y + r.h ∧ r.has px) ∧ Below w.heap.size w w' := by
  obtain ⟨i0, hi, hz0, hz1, hz2⟩ := info_parts info_rect
  obtain ⟨ao, cap, rfl, h1, h2, h3⟩ := hR
  go_enter Tryz.func147, Tryz.ntmps147
  go_wp2
  go_loopw [7, 13] (fun vf i wr => ∃ (k : Nat) (F : List Rc), k ≤ l.length ∧ i = .int .i64 k ∧ Own wr w.heap.size vf F ∧ PI top bot F (l.take k) ∧ F.length ≤ k ∧ Below w.heap.size w wr) (fun _ i _ => l.length - (intOf i).toNat)
  case atStart => exact ⟨0, [], Nat.zero_le _, rfl, World.ownsRow_nil _ _ _ _, PI.start top bot, Nat.le_refl _, Below.refl _ _⟩
  case round =>
    obtain ⟨k, F, hk, rfl, hO, hP, hF, hbel⟩ := hrel
    by_cases hlt : k < l.length
    · obtain ⟨b, off, rfl, hb, hc⟩ := h3 (by intro e; subst e; simp at hlt)
      obtain ⟨r, hr⟩ : ∃ r, l[k]? = some r := ⟨l[k], by simp [hlt]⟩
      obtain ⟨c1, c2, c3, c4⟩ := (hc k r hr).below hbel hb
      have hbw := hbel.size
      have lt1 : b < wr.heap.size := by omega
      have hmr := hm r (List.mem_of_getElem? hr)
      have hcr := hcl r (List.mem_of_getElem? hr)
      have HT : Hid (l.take (k + 1) = l.take k ++ [r]) := by show _ = _; rw [List.take_add_one, hr]; rfl
      have HO := hide hO
      have HP := hide hP
      have Hb := hide hbel
      have HM := hide hmr
      obtain ⟨fo, fc, rfl, _⟩ := own_slice hO
      unfold May at hmr
      obtain ⟨m1, m2, m3, m4⟩ := hmr
      clear hc h3 hO hP hbel hm hcl hr hj
      obtain ⟨c, hce⟩ : ∃ c : Rc, c = ⟨max r.x r.x, max r.y top, max 0 (min (r.x + r.w) (r.x + r.w) - max r.x r.x), max 0 (min (r.y + r.h) (top + (bot - top)) - max r.y top)⟩ := ⟨_, rfl⟩
      have HC : Hid (∀ W, Calls Tryz.prog 76 #[.agg #[.int .i64 r.x, .int .i64 r.y, .int .i64 r.w, .int .i64 r.h], .agg #[.int .i64 r.x, .int .i64 top, .int .i64 r.w, .int .i64 (bot - top)]] W fun e w' => e = .returned (.agg #[.int .i64 c.x, .int .i64 c.y, .int .i64 c.w, .int .i64 c.h]) ∧ Below W.heap.size W w') := by
        intro W; rw [hce]; exact cut_any r.x r.y r.w r.h r.x top r.w (bot - top) W (by omega) (by omega) (by omega) (by omega) (by omega) (by omega) (by omega) (by omega)
      by_cases hin : inStrip r top bot
      · have HE : Hid (c.x = r.x ∧ c.y = top ∧ c.w = r.w ∧ c.h = bot - top) := by
          unfold inStrip at hin
          subst hce
          show max r.x r.x = r.x ∧ max r.y top = top ∧ max 0 (min (r.x + r.w) (r.x + r.w) - max r.x r.x) = r.w ∧ max 0 (min (r.y + r.h) (top + (bot - top)) - max r.y top) = bot - top
          omega
        have g1 : 0 < c.w := by have := unhide HE; unfold inStrip at hin; omega
        have g2 : 0 < c.h := by have := unhide HE; omega
        have HI := hide hin
        clear hce hcr hin
        go_wp2_with (first
          | (go_at_call 76; refine (unhide HC _).mono ?_; rintro e w2 ⟨rfl, hb2⟩; have hsz2 : wr.heap.size + 1 ≤ w2.heap.size := by simpa using hb2.size)
          | (at_builtin; refine wpList_append_own _ rfl _ _ 47 rfl w.heap.size 46 i0 (.agg #[.int .i64 0, .int .i64 0, .int .i64 0, .int .i64 0]) 4 32 Tryz.underlying47 hi hz0 hz1 hz2 rfl (by decide) _ _ _ rfl (own_alloc (own_alloc (Own.kept (own_alloc (unhide HO) _) hb2) _) _) ⟨w2.heap.size + 1, 0, none⟩ 1 1 (rcell c) rfl rfl ?c1 ?c2 ?c3 ?c4 ?c5 ?_))
        case c1 => exact newcells (new_at _ _ _ (by simp))
        case c2 => exact rcell_one _
        case c3 => simp [maxLen]; omega
        case c4 => omega
        case c5 => simp; omega
        intro v' w3 hown hgrow _
        have HOn := hide (Own.snoc hown)
        have HGn := hide (grown_trans (grown_trans (World.grownBy_alloc wr _ _) (grown_of_below hb2 _)) (grown_trans (grown_trans (World.grownBy_alloc w2 _ _) (World.grownBy_alloc _ _ _)) hgrow))
        clear hown hgrow hb2
        go_wp2
        go_roundw
        case rel =>
          refine ⟨k + 1, F ++ [c], by omega, by go_num, unhide HOn, ?_, by simp; omega, (unhide Hb).grown (unhide HGn) hbw (Own.row_ge (unhide HO))⟩
          rw [unhide HT]; exact PI.take (unhide HP) (unhide HM) (unhide HI) (unhide HE).1 (unhide HE).2.1 (unhide HE).2.2.1 (unhide HE).2.2.2
        case measure => simp [intOf]; omega
      · have hno : c.w ≤ 0 ∨ c.h ≤ 0 := by
          unfold inStrip at hin
          unfold Clear at hcr
          subst hce
          show max 0 (min (r.x + r.w) (r.x + r.w) - max r.x r.x) ≤ 0 ∨ max 0 (min (r.y + r.h) (top + (bot - top)) - max r.y top) ≤ 0
          omega
        have HI := hide hin
        clear hce hcr hin
        rcases hno with g1 | g1
        · go_wp2_with (go_at_call 76; refine (unhide HC _).mono ?_; rintro e w2 ⟨rfl, hb2⟩; have hsz2 : wr.heap.size + 1 ≤ w2.heap.size := by simpa using hb2.size)
          go_roundw
          case rel =>
            refine ⟨k + 1, F, by omega, by go_num, own_alloc (Own.kept (own_alloc (unhide HO) _) hb2) _, ?_, by omega, (((unhide Hb).alloc hbw _).trans (hb2.mono (by simp; omega))).alloc (by omega) _⟩
            rw [unhide HT]; exact PI.skip (unhide HP) (unhide HI)
          case measure => simp [intOf]; omega
        · by_cases g0 : 0 < c.w
          all_goals
            go_wp2_with (go_at_call 76; refine (unhide HC _).mono ?_; rintro e w2 ⟨rfl, hb2⟩; have hsz2 : wr.heap.size + 1 ≤ w2.heap.size := by simpa using hb2.size)
            go_roundw
            case rel =>
              refine ⟨k + 1, F, by omega, by go_num, own_alloc (Own.kept (own_alloc (unhide HO) _) hb2) _, ?_, by omega, (((unhide Hb).alloc hbw _).trans (hb2.mono (by simp; omega))).alloc (by omega) _⟩
              rw [unhide HT]; exact PI.skip (unhide HP) (unhide HI)
            case measure => simp [intOf]; omega
    · have hkl : k = l.length := by omega
      have HO := hide hO
      have HP := hide hP
      have Hb := hide hbel
      have HR : Hid (∀ px, col F px ↔ ∃ r ∈ l, r.y ≤ top ∧ bot ≤ r.y + r.h ∧ r.has px) := by
        intro px; have := hP.cols px; rw [hkl, List.take_length] at this; exact this
      have hbw := hbel.size
      have hj' := hide hj
      clear hO hP hbel h3 hm hcl hj
      go_wp2_with (go_at_call 150; refine ((unhide hj') top (bot - top) w.heap.size _ F wr (unhide HO) (unhide HP).bits (by omega)).mono ?_; rintro e w2 ⟨v', J, rfl, hO2, hS, hcol, hgr⟩; have HO2 := hide hO2; have HS := hide hS; have Hc := hide hcol; have HG := hide hgr; clear hO2 hS hcol hgr)
      go_ret
      exact ⟨_, J, rfl, (unhide HO2).mono hbw, unhide HS, fun px => ((unhide Hc) px).trans ((unhide HR) px), (unhide Hb).grown (unhide HG) hbw (Own.row_ge (unhide HO))⟩
end Go.Proofs.YtfnockbgkcgpkaaGreat
