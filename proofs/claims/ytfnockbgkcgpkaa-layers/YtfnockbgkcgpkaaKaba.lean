import Derived.Test.YtfnockbgkcgpkaaKaaz
set_option linter.all false
namespace Go.Proofs.Ytfnockbgkcgpkaa
open Go.RowKit Go.Proofs.Panes
set_option maxRecDepth 100000

/-- The buffer for the next frame, as far as the first k have been looked at. -/
def nextK (f : Frs) : Nat → Option Nat
  | 0 => none
  | k + 1 => if k = f.front then nextK f k else match nextK f k with
    | none => some k
    | some j => if (f.b k).begun < (f.b j).begun then some k else some j
def nxt (o : Option Nat) : Int := match o with
  | none => -1
  | some j => (j : Int)
theorem nextK_lt (f : Frs) : ∀ k j, nextK f k = some j → j < k
  | 0, j, h => by simp [nextK] at h
  | k + 1, j, h => by
    unfold nextK at h
    split at h
    · have := nextK_lt f k j h; omega
    · cases hq : nextK f k with
      | none => rw [hq] at h; simp at h; omega
      | some q =>
        rw [hq] at h
        have := nextK_lt f k q hq
        simp only at h
        split at h <;> simp at h <;> omega

set_option maxHeartbeats 4000000 in
theorem next_any {C : Nat → Prop} {w : World} {b0 : Nat} {f : Frs} {v : Fl} (h : Fr C w b0 f v) (hfr : f.front < 3) :
    Calls Try.prog 94 #[.pointer (some ⟨b0, 0, none⟩)] w fun e w' => e = .returned (.int .i64 (nxt (nextK f 3))) ∧ ∃ q, w' = w.drewN q := by
  have c13 : w.cell? ⟨b0, 13, none⟩ = some (.int .i64 (f.front : Int)) := blk_cell h.blk 13
  have cbg : ∀ j : Nat, j < 3 → w.cell? ⟨b0, 4 + j * 3 + 2, none⟩ = some (.int .i64 (f.b j).begun) := fun j hj => by
    rw [blk_cell h.blk]
    have : j = 0 ∨ j = 1 ∨ j = 2 := by omega
    rcases this with rfl | rfl | rfl <;> rfl
  have HCB := hide cbg
  clear h cbg
  go_enter Try.func94, Try.ntmps94
  go_wp2
  go_loopw [3, 5] (fun a b wr => ∃ k : Nat, k ≤ 3 ∧ b = .int .i64 (k : Int) ∧ a = .int .i64 (nxt (nextK f k)) ∧ ∃ q, wr = w.drewN q) (fun a b _ => 3 - (intOf b).toNat)
  case atStart => exact ⟨0, by omega, rfl, rfl, 0, rfl⟩
  case round =>
    obtain ⟨k, hk, rfl, rfl, q, rfl⟩ := hrel
    by_cases hlt : k < 3
    · have j0 : (0 : Int) ≤ (k : Int) := by omega
      have j1 : (k : Int) < 3 := by omega
      have ck := (unhide HCB) k hlt
      by_cases hkf : k = f.front
      · have en : nextK f (k + 1) = nextK f k := by rw [nextK, if_pos hkf]
        have hkb : ((k : Int) == (f.front : Int)) = true := by rw [hkf]; simp
        have HEN := hide en
        obtain ⟨z, hz⟩ : ∃ z, z = nxt (nextK f k) := ⟨_, rfl⟩
        rw [← hz]
        have HZ := hide hz
        clear en hz
        go_wp2
        go_quiet (fail)
        go_wp2
        go_roundw
        case rel => exact ⟨k + 1, by omega, by go_num, by rw [unhide HEN, unhide HZ], q + nq, by rfl⟩
        case measure => simp [intOf]; omega
      · have hkb : ((k : Int) == (f.front : Int)) = false := by
          have : ¬ (k : Int) = (f.front : Int) := by omega
          simp [this]
        have hk1 : ((k : Int) != (f.front : Int)) = true := by
          have : ¬ (k : Int) = (f.front : Int) := by omega
          simp [this]
        have hk2 : (k == f.front) = false := by simp [hkf]
        have hk3 : (k != f.front) = true := by simp [hkf]
        have hk4 : ¬ (k : Int) = (f.front : Int) := by omega
        cases hq : nextK f k with
        | none =>
          have en : nextK f (k + 1) = some k := by rw [nextK, if_neg hkf, hq]
          have HEN := hide en
          clear en
          simp only [nxt]
          go_wp2
          go_quiet (fail)
          go_wp2
          go_roundw
          case rel => exact ⟨k + 1, by omega, by go_num, by rw [unhide HEN] <;> rfl, q + nq, by rfl⟩
          case measure => simp [intOf]; omega
        | some j =>
          have hj := nextK_lt f k j hq
          have cj := (unhide HCB) j (by omega)
          have i0 : (0 : Int) ≤ (j : Int) := by omega
          have i1 : (j : Int) < 3 := by omega
          by_cases hb : (f.b k).begun < (f.b j).begun
          · have en : nextK f (k + 1) = some k := by rw [nextK, if_neg hkf, hq]; simp [hb]
            have HEN := hide en
            clear en
            simp only [nxt]
            go_wp2
            go_quiet (fail)
            go_wp2
            go_roundw
            case rel => exact ⟨k + 1, by omega, by go_num, by rw [unhide HEN] <;> rfl, q + nq, by rfl⟩
            case measure => simp [intOf]; omega
          · have en : nextK f (k + 1) = some j := by rw [nextK, if_neg hkf, hq]; simp [hb]
            have HEN := hide en
            clear en
            simp only [nxt]
            go_wp2
            go_quiet (fail)
            go_wp2
            go_roundw
            case rel => exact ⟨k + 1, by omega, by go_num, by rw [unhide HEN] <;> rfl, q + nq, by rfl⟩
            case measure => simp [intOf]; omega
    · have : k = 3 := by omega
      subst this
      obtain ⟨z, hz⟩ : ∃ z, z = nxt (nextK f 3) := ⟨_, rfl⟩
      rw [← hz]
      have HZ := hide hz
      clear hz
      go_wp2
      go_ret
      exact ⟨by rw [← unhide HZ]; rfl, q, rfl⟩
end Go.Proofs.Ytfnockbgkcgpkaa
set_option linter.all false
namespace Go.Proofs.Ytfnockbgkcgpkaa
open Go.RowKit Go.Proofs.Panes
set_option maxRecDepth 100000

theorem info_dot : (Try.prog.info? 166).map (fun i => (i.zero, i.size, i.bytes)) = some (some (.agg #[.int .i64 0, .int .i64 0]), 2, 16) := by kernel_rfl
/-- What must be painted of the first i pixels. -/
def dotsI (st : List Bool) (W : Nat) (pic : Int → Int → Int) : Nat → List (Int × Int)
  | 0 => []
  | i + 1 => dotsI st W pic i ++ (if st[i]? = some true then [((i : Int), pic ((i % W : Nat) : Int) ((i / W : Nat) : Int))] else [])
theorem dotsI_len (st : List Bool) (W : Nat) (pic : Int → Int → Int) : ∀ i, (dotsI st W pic i).length ≤ i
  | 0 => by simp [dotsI]
  | i + 1 => by
    have := dotsI_len st W pic i
    unfold dotsI
    split <;> simp <;> omega

set_option maxHeartbeats 4000000 in
theorem dots_any {C : Nat → Prop} {w : World} {b0 : Nat} {f : Frs} {v : Fl} (h : Fr C w b0 f v) {q : Nat} (hq : q < 3) (hW : 1 ≤ f.W ∧ f.W ≤ 16) (hH : 1 ≤ f.H ∧ f.H ≤ 16) (sb : Nat) (pic : Int → Int → Int)
    (hP : ∀ (W : World) (x y : Nat), Below w.heap.size w W → x ≤ 16 → y ≤ 256 → Calls Try.prog 66 #[.pointer (some ⟨sb, 0, none⟩), .int .i64 (x : Int), .int .i64 (y : Int)] W fun e w' => e = .returned (.int .i64 (pic (x : Int) (y : Int))) ∧ Below W.heap.size W w') :
    Calls Try.prog 95 #[.pointer (some ⟨b0, 0, none⟩), pcell (v.st q) (f.W * f.H), .func (.func 66) #[.pointer (some ⟨sb, 0, none⟩)] #[]] w fun e w' => (∃ lv, e = .returned lv ∧ Own2 w' w.heap.size 166 lv ((dotsI (f.b q).st f.W pic (f.W * f.H)).map k2)) ∧ Below w.heap.size w w' := by
  obtain ⟨n, hn⟩ : ∃ n, n = f.W * f.H := ⟨_, rfl⟩
  obtain ⟨q1, q2, q3⟩ := h.st q hq
  have hn256 : n ≤ 256 := by rw [hn]; have := Nat.mul_le_mul hW.2 hH.2; omega
  rw [← hn] at q3 ⊢
  unfold pcell
  have c2 : w.cell? ⟨b0, 2, none⟩ = some (.int .i64 (f.W : Int)) := blk_cell h.blk 2
  have lb : b0 < w.heap.size := lt_of_heap h.blk
  have ls : v.st q < w.heap.size := lt_of_heap q1
  have hc : ∀ j z, (f.b q).st[j]? = some z → w.cell? ⟨v.st q, j, none⟩ = some (.bool z) := fun j z hz => by rw [blk_cell q1]; simp [hz]
  obtain ⟨st, hst⟩ : ∃ st, st = (f.b q).st := ⟨_, rfl⟩
  obtain ⟨Wd, hWd⟩ : ∃ Wd, Wd = f.W := ⟨_, rfl⟩
  rw [← hst] at hc q3 ⊢
  rw [← hWd] at c2 ⊢
  have hW1 : 1 ≤ Wd ∧ Wd ≤ 16 := by omega
  have HC := hide hc
  have HP := hide hP
  clear h q1 q2 hn hc hP hst hWd hW hH
  go_enter Try.func95, Try.ntmps95
  go_wp2
  go_loopw [7, 12] (fun a b wr => ∃ i : Nat, i ≤ n ∧ b = .int .i64 (i : Int) ∧ Own2 wr w.heap.size 166 a ((dotsI st Wd pic i).map k2) ∧ Below w.heap.size w wr) (fun a b _ => n - (intOf b).toNat)
  case atStart => exact ⟨0, Nat.zero_le _, rfl, ⟨rfl, .inl ⟨rfl, rfl⟩⟩, Below.refl _ _⟩
  case round =>
    obtain ⟨i, hi, rfl, hO, hB⟩ := hrel
    by_cases hlt : i < n
    · obtain ⟨z, hz⟩ : ∃ z, st[i]? = some z := ⟨st[i]'(by omega), by simp⟩
      have cz : wr.cell? ⟨v.st q, i, none⟩ = some (.bool z) := (hB.cell ls).trans ((unhide HC) i z hz)
      have cW : wr.cell? ⟨b0, 2, none⟩ = some (.int .i64 (Wd : Int)) := (hB.cell lb).trans c2
      have i0 : (0 : Int) ≤ (i : Int) := by omega
      have i1 : (i : Int) < (n : Int) := by omega
      cases z with
      | false =>
        have ed : dotsI st Wd pic (i + 1) = dotsI st Wd pic i := by unfold dotsI; rw [if_neg (by rw [hz]; simp), List.append_nil]; cases i <;> rfl
        have HO := hide hO
        have HB := hide hB
        have HED := hide ed
        clear hO hB hz ed
        go_wp2
        go_roundw
        case rel => exact ⟨i + 1, by omega, by go_num, by rw [unhide HED]; exact unhide HO, unhide HB⟩
        case measure => simp [intOf]; omega
      | true =>
        have ed : dotsI st Wd pic (i + 1) = dotsI st Wd pic i ++ [((i : Int), pic ((i % Wd : Nat) : Int) ((i / Wd : Nat) : Int))] := by
          conv => lhs; unfold dotsI
          rw [if_pos hz]
        have hxm : i % Wd ≤ 16 := by have := Nat.mod_lt i (show 0 < Wd by omega); omega
        have hyd : i / Wd ≤ 256 := Nat.le_trans (Nat.div_le_self _ _) (by omega)
        have qm : (i : Int).tmod (Wd : Int) = ((i % Wd : Nat) : Int) := by rw [Int.tmod_eq_emod_of_nonneg (Int.natCast_nonneg i)]; rfl
        have qd : (i : Int) / (Wd : Int) = ((i / Wd : Nat) : Int) := rfl
        obtain ⟨pp, hpp⟩ : ∃ pp, pp = pic ((i % Wd : Nat) : Int) ((i / Wd : Nat) : Int) := ⟨_, rfl⟩
        have HAt : Hid (Calls Try.prog 66 #[.pointer (some ⟨sb, 0, none⟩), .int .i64 ((i : Int).tmod (Wd : Int)), .int .i64 ((i : Int) / (Wd : Int))] wr.drew fun e w' => e = .returned (.int .i64 pp) ∧ Below wr.heap.size wr w') := by
          rw [qm, qd, hpp]
          refine ((unhide HP) wr.drew (i % Wd) (i / Wd) hB.drew hxm hyd).mono ?_
          rintro e w' ⟨he, hb⟩
          exact ⟨he, ((Below.refl _ wr).drew).trans hb⟩
        rw [← hpp] at ed
        have e1 : IntKind.i64.wrap ((i : Int) / (Wd : Int)) = (i : Int) / (Wd : Int) := by
          have h1 : (0 : Int) ≤ (i : Int) / (Wd : Int) := Int.ediv_nonneg (by omega) (by omega)
          have h2 : (i : Int) / (Wd : Int) ≤ 256 := by rw [qd]; exact Int.ofNat_le.2 hyd
          rw [IntKind.wrap_i64]; omega
        have W0 : ¬ Wd = 0 := by omega
        have hlen := dotsI_len st Wd pic i
        have lbr : b0 < wr.heap.size := Nat.lt_of_lt_of_le lb hB.size
        have HO := hide hO
        have HB := hide hB
        have HED := hide ed
        clear hO hB hz ed qm qd hpp hxm hyd
        go_wp2
        go_region_held3 (fun w' => w'.cell? ⟨b0, 2, none⟩ = some (.int .i64 (Wd : Int)))
          (first | assumption | go_keep)
          (first
            | (go_at_call 66
               refine (unhide HAt).mono ?_
               rintro e w2 ⟨rfl, hb2⟩
               have d2 : w2.cell? ⟨b0, 2, none⟩ = some (.int .i64 (Wd : Int)) := (hb2.cell lbr).trans cW
               have hO2 : Own2 w2 w.heap.size 166 u7 ((dotsI st Wd pic i).map k2) := row_but (unhide HO) (S := fun _ => False) (.of_below hb2) (fun _ _ h => h)
               have hN3 : (w2.alloc (.cells #[.int .i64 (i : Int), .int .i64 pp] 166)).heap[w2.heap.size]? = some (.cells #[.int .i64 (i : Int), .int .i64 pp] 166) := new_at w2 _ _ rfl
               have hO3 : Own2 (w2.alloc (.cells #[.int .i64 (i : Int), .int .i64 pp] 166)) w.heap.size 166 u7 ((dotsI st Wd pic i).map k2) := row_but hO2 (S := fun _ => False) ((But.refl _ w2).alloc _) (fun _ _ h => h)
               obtain ⟨i0', hi', hz0, hz1, hz2⟩ := info_parts info_dot
               obtain ⟨v', w5, hrun, hO5, hg5, -, hv5⟩ := run_append_own_at (P := Try.prog) (w := w2.alloc (.cells #[.int .i64 (i : Int), .int .i64 pp] 166)) w.heap.size 150 150 166 i0' _ 2 16 Try.underlying150 hi' hz0 hz1 hz2 rfl (by decide) u7 _ _ hO3 ⟨w2.heap.size, 0, none⟩ 1 1 [.int .i64 (i : Int), .int .i64 pp] rfl (newsN hN3) (by simp [Value.oneCell']) (by simp; simp only [maxLen]; omega) (by simp; omega) (by simp; have := (unhide HB).size; have := hb2.size; omega)
               have hB5 : Below w.heap.size w w5 := (((unhide HB).trans (hb2.mono (unhide HB).size)).alloc (Nat.le_trans (unhide HB).size hb2.size) _).trans ((But.of_grown (S := fun k => u7.ownBlock = some k) hg5 (fun k e => e)).below (by simp; have := (unhide HB).size; have := hb2.size; omega) (fun k e => (World.ownsRow.lt hO3 k e).1))
               have d5 : w5.cell? ⟨b0, 2, none⟩ = some (.int .i64 (Wd : Int)) := (hB5.cell lb).trans c2
               have hO5' : Own2 w5 w.heap.size 166 v' ((dotsI st Wd pic (i + 1)).map k2) := by
                 rw [unhide HED, List.map_append]
                 rw [Own2, c2_append, List.length_append]
                 exact hO5
               have HRun := hide hrun
               have HO5 := hide hO5'
               have HB5 := hide hB5
               clear hb2 hO2 hN3 hO3 hi' hz0 hz1 hz2 hrun hO5 hg5 hv5 hB5 hO5')
            | (refine step_append_at (by kernel_rfl) (.tmp 18) (.tmp 37) 150 150 (by kernel_rfl) (by kernel_rfl) u7 (.slice (some ⟨w2.heap.size, 0, none⟩) 1 1) _ _ (by kernel_rfl) (by kernel_rfl) (unhide HRun) ?_))
        all_goals
          (try simp only [Exit.then])
          (try go_simp)
          go_wp2
          go_roundw
          case rel => exact ⟨i + 1, by omega, by go_num, unhide HO5, unhide HB5⟩
          case measure => simp [intOf]; omega
    · have : i = n := by omega
      subst this
      have HO := hide hO
      have HB := hide hB
      clear hO hB
      go_wp2
      go_ret
      exact ⟨⟨_, rfl, unhide HO⟩, unhide HB⟩
end Go.Proofs.Ytfnockbgkcgpkaa
set_option linter.all false
namespace Go.Proofs.Ytfnockbgkcgpkaa
open Go.RowKit Go.Proofs.Panes
set_option maxRecDepth 100000

theorem zeroCells_one (z : Value) (m : Nat) : (Builtin.zeroCells #[z] m).toList = List.replicate m z := by
  apply List.ext_getElem?
  intro i
  by_cases h : i < m
  · simp [Builtin.zeroCells, h, List.getElem?_replicate, Nat.mod_one]
  · rw [List.getElem?_eq_none (by simp [Builtin.zeroCells]; omega), List.getElem?_eq_none (by simp; omega)]
theorem run_clear_bools {w : World} {g n : Nat} {l : List Bool} (hg : w.heap[g]? = some (.cells (l.map Value.bool).toArray 4 (0, 0))) (hn : l.length = n) (h0 : 0 < n) (ty : TypeId) :
    (Builtin.clear_ #[50] ty #[.slice (some ⟨g, 0, none⟩) n n]).run Try.prog w = .ok (.tuple #[]) (w.setRow g ((List.replicate n false).map Value.bool).toArray) := by
  have hz : (zeroValue 4).run Try.prog w = .ok (.bool false) w := by rfl
  have hst := run_storeCells_at Try.prog g 0 4 (List.replicate n (.bool false)) 0 _ w hg (by simp [hn]) (by intro u hu; rw [List.eq_of_mem_replicate hu]; rfl)
  have e1 : ((l.map Value.bool).take (0 + 0) ++ List.replicate n (Value.bool false) ++ (l.map Value.bool).drop (0 + 0 + (List.replicate n (Value.bool false)).length)) = (List.replicate n false).map Value.bool := by
    rw [List.length_replicate, List.drop_of_length_le (by simp [hn])]; simp
  rw [List.toList_toArray, e1] at hst
  cases n with
  | zero => omega
  | succ n =>
    have ez : (Value.bool false).cells = #[.bool false] := rfl
    simp [Builtin.clear_, run_underlying Try.underlying50, hz, ez, zeroCells_one, hst, -List.reduceReplicate]
theorem nextK_some (f : Frs) (h : f.front < 3) : ∃ q, nextK f 3 = some q ∧ q < 3 ∧ q ≠ f.front := by
  have key : ∀ k q, nextK f k = some q → q ≠ f.front := by
    intro k
    induction k with
    | zero => intro q h; simp [nextK] at h
    | succ k ih =>
      intro q h
      unfold nextK at h
      split at h
      · exact ih q h
      · rename_i hk
        cases hq : nextK f k with
        | none => rw [hq] at h; simp at h; omega
        | some j =>
          rw [hq] at h
          simp only at h
          split at h <;> simp at h
          · omega
          · rw [← h]; exact ih j hq
  cases hq : nextK f 3 with
  | some q => exact ⟨q, rfl, nextK_lt f 3 q hq, key 3 q hq⟩
  | none =>
    exfalso
    have step : ∀ k, nextK f (k + 1) = none → k = f.front ∧ nextK f k = none := by
      intro k hk
      unfold nextK at hk
      split at hk
      · rename_i e; exact ⟨e, hk⟩
      · cases hq : nextK f k with
        | none => rw [hq] at hk; simp at hk
        | some j => rw [hq] at hk; simp only at hk; split at hk <;> simp at hk
    have h2 := step 2 hq
    have h1 := step 1 h2.2
    omega
/-- A frame is begun. -/
def beginF (f : Frs) (t : Int) (pic : Int → Int → Int) : Frs :=
  if f.frame.isSome = true ∨ f.due = false then f else
    { f with frame := some ⟨(nextK f 3).getD 0, f.marks, dotsI (f.b ((nextK f 3).getD 0)).st f.W pic (f.W * f.H)⟩, due := false, marks := [], b := fun i => if i = (nextK f 3).getD 0 then { f.b i with st := List.replicate (f.W * f.H) false, begun := t } else f.b i }
/-- The frames when one has been begun. -/
theorem Fr.begun {C : Nat → Prop} {w w' : World} {b0 : Nat} {f : Frs} {v : Fl} (h : Fr C w b0 f v) (hCl : ∀ k, C k → k < w.heap.size) {q nb : Nat} {t : Int} {lv : Value} {ds : List (Int × Int)} (hq : q < 3) (hnb : w.heap.size ≤ nb) (hnl : nb < w'.heap.size)
    (hb : But (fun x => x = b0 ∨ x = v.st q) w w') (hblk : w'.heap[b0]? = some (.cells (frcells { f with frame := some ⟨q, f.marks, ds⟩, due := false, marks := [], b := fun i => if i = q then { f.b i with st := List.replicate (f.W * f.H) false, begun := t } else f.b i } { v with fb := nb, fm := v.mv, fl := lv, mv := .slice none 0 0 }) 139 (0, 0)))
    (hst : w'.heap[v.st q]? = some (.cells ((List.replicate (f.W * f.H) false).map Value.bool).toArray 4 (0, 0))) (hfb : w'.heap[nb]? = some (.cells #[.int .i64 (q : Int), v.mv, lv] 152 (0, 0))) (hds : Own2 w' w.heap.size 166 lv (ds.map k2)) :
    Fr (grow C w w') w' b0 { f with frame := some ⟨q, f.marks, ds⟩, due := false, marks := [], b := fun i => if i = q then { f.b i with st := List.replicate (f.W * f.H) false, begun := t } else f.b i } { v with fb := nb, fm := v.mv, fl := lv, mv := .slice none 0 0 } := by
  have hS : ∀ {x : Nat} {cs : Array Value} {ty : TypeId} {fz : Nat × Nat}, w.heap[x]? = some (.cells cs ty fz) → ty ≠ 4 → ty ≠ 139 → ¬ (x = b0 ∨ x = v.st q) := by
    rintro x cs ty fz hx t1 t2 (e | e)
    · have := h.blk; rw [← e, hx] at this; simp at this; exact t2 this.2.1
    · have := (h.st q hq).1; rw [← e, hx] at this; simp at this; exact t1 this.2.1
  refine ⟨hblk, .inl h.cb, ?_, ?_, h.pinj, h.sinj, ⟨rfl, .inl ⟨rfl, rfl⟩⟩, fun k hk => by simp [Value.ownBlock] at hk, ?_⟩
  · intro i hi
    obtain ⟨q1, q2, q3⟩ := h.px i hi
    have e : ((fun i => if i = q then ({ f.b i with st := List.replicate (f.W * f.H) false, begun := t } : Buf) else f.b i) i).px = (f.b i).px := by dsimp only; split <;> rfl
    refine ⟨?_, .inl q2, ?_⟩
    · show w'.heap[v.pb i]? = some (.cells ((((fun i => if i = q then ({ f.b i with st := List.replicate (f.W * f.H) false, begun := t } : Buf) else f.b i) i).px).map (Value.int .i64)).toArray 3 (0, 0))
      rw [e]; exact hb.heap q1 (hS q1 (by decide) (by decide))
    · show ((fun i => if i = q then ({ f.b i with st := List.replicate (f.W * f.H) false, begun := t } : Buf) else f.b i) i).px.length = _
      rw [e]; exact q3
  · intro i hi
    by_cases e : i = q
    · subst e
      simp only [if_pos]
      exact ⟨hst, .inl (h.st i hi).2.1, by simp⟩
    · obtain ⟨q1, q2, q3⟩ := h.st i hi
      simp only [if_neg e]
      refine ⟨hb.heap q1 ?_, .inl q2, q3⟩
      rintro (e' | e')
      · have := h.blk; rw [← e', q1] at this; simp at this
      · exact e (h.sinj i q hi hq e')
  · intro g hg
    simp only [Option.some.injEq] at hg
    subst hg
    refine ⟨hfb, .inr ⟨hnb, hnl⟩, hq, row_but h.mks hb (fun k hk => ?_), fun k hk => ⟨.inl (h.mc k hk), by simp [Value.ownBlock]⟩, ?_⟩
    · rintro (e | e)
      · exact row_kind h.mks h.blk (by decide) (by rw [hk, e])
      · exact row_kind h.mks (h.st q hq).1 (by decide) (by rw [hk, e])
    · rcases hds.2 with ⟨e, hn⟩ | ⟨g, cap, cur, e, hge, hg, hcc, hm, hz, ht⟩
      · have hd0 : ds = [] := List.eq_nil_of_length_eq_zero (by simpa using hn)
        subst hd0
        exact ⟨none, 0, e, Nat.le_refl _, Nat.zero_le _, fun h => absurd rfl h⟩
      · refine ⟨some ⟨g, 0, none⟩, cap, by rw [e]; simp, by simpa using hcc, hm, fun _ => ⟨g, 0, cur, rfl, .inr ⟨hge, lt_of_heap hg⟩, hg, fun j k hk => ?_⟩⟩
        have hlt : j < ds.length := (List.getElem?_eq_some_iff.1 hk).1
        have hat := c2_at (ds.map k2) j (k2 k) (by rw [List.getElem?_map, hk]; rfl)
        rw [Nat.zero_add, blk_cell hg, blk_cell hg, ← Array.getElem?_toList, ← Array.getElem?_toList]
        have hl2 : (ds.map k2).length = ds.length := by simp
        rw [← ht] at hat
        rw [List.getElem?_take, List.getElem?_take, if_pos (by omega), if_pos (by omega)] at hat
        exact hat
end Go.Proofs.Ytfnockbgkcgpkaa
set_option linter.all false
namespace Go.Proofs.Ytfnockbgkcgpkaa
open Go.RowKit Go.Proofs.Panes
set_option maxRecDepth 100000

set_option maxHeartbeats 4000000 in
theorem Begin_not {C : Nat → Prop} {w : World} {b0 : Nat} {f : Frs} {v : Fl} (h : Fr C w b0 f v) (t : Int) (sb : Nat) (hno : f.frame.isSome = true ∨ f.due = false) :
    Calls Try.prog 65 #[.pointer (some ⟨b0, 0, none⟩), .int .i64 t, .func (.func 66) #[.pointer (some ⟨sb, 0, none⟩)] #[]] w fun e w' => (∃ u, e = .returned u) ∧ w' = w := by
  have c14 : w.cell? ⟨b0, 14, none⟩ = some (fptr f v) := blk_cell h.blk 14
  have c15 : w.cell? ⟨b0, 15, none⟩ = some (.bool f.due) := blk_cell h.blk 15
  clear h
  cases hfr : f.frame with
  | some g =>
    simp only [fptr, hfr] at c14
    clear hno
    go_enter Try.func65, Try.ntmps65
    go_wp2
    refine bodyPost_ret (results_none rfl _ _ _) rfl ?_
    exact ⟨⟨_, rfl⟩, rfl⟩
  | none =>
    simp only [fptr, hfr] at c14
    rw [hfr] at hno
    have hd : f.due = false := by simpa using hno
    rw [hd] at c15
    clear hno hd
    go_enter Try.func65, Try.ntmps65
    go_wp2
    refine bodyPost_ret (results_none rfl _ _ _) rfl ?_
    exact ⟨⟨_, rfl⟩, rfl⟩
end Go.Proofs.Ytfnockbgkcgpkaa
set_option linter.all false
namespace Go.Proofs.Ytfnockbgkcgpkaa
open Go.RowKit Go.Proofs.Panes
set_option maxRecDepth 100000
theorem row_lower2 {w : World} {base base' : Nat} {e : TypeId} {size : Nat} {v : Value} {n : Nat} {xs : List Value} (h : w.ownsRow base e size v n xs) (hb : base' ≤ base) : w.ownsRow base' e size v n xs := by
  refine ⟨h.1, ?_⟩
  rcases h.2 with hn | ⟨g, cap, cur, e, hg, r⟩
  · exact .inl hn
  · exact .inr ⟨g, cap, cur, e, Nat.le_trans hb hg, r⟩

set_option maxHeartbeats 4000000 in
theorem Begin_0 {C : Nat → Prop} {w : World} {b0 : Nat} {f : Frs} {v : Fl} (h : Fr C w b0 f v) (hCl : ∀ k, C k → k < w.heap.size) (hfr3 : f.front < 3) (hW : 1 ≤ f.W ∧ f.W ≤ 16) (hH : 1 ≤ f.H ∧ f.H ≤ 16) (t : Int) (sb : Nat) (pic : Int → Int → Int) (hfn : f.frame = none) (hdue : f.due = true) (hnx : nextK f 3 = some 0)
    (hP : ∀ (W : World) (x y : Nat), Below w.heap.size w W → x ≤ 16 → y ≤ 256 → Calls Try.prog 66 #[.pointer (some ⟨sb, 0, none⟩), .int .i64 (x : Int), .int .i64 (y : Int)] W fun e w' => e = .returned (.int .i64 (pic (x : Int) (y : Int))) ∧ Below W.heap.size W w') :
    Calls Try.prog 65 #[.pointer (some ⟨b0, 0, none⟩), .int .i64 t, .func (.func 66) #[.pointer (some ⟨sb, 0, none⟩)] #[]] w fun e w' => (∃ u, e = .returned u) ∧ (∃ v', Fr (grow C w w') w' b0 (beginF f t pic) v') ∧ But C w w' := by
  have eb : beginF f t pic = { f with frame := some ⟨0, f.marks, dotsI (f.b 0).st f.W pic (f.W * f.H)⟩, due := false, marks := [], b := fun i => if i = 0 then { f.b i with st := List.replicate (f.W * f.H) false, begun := t } else f.b i } := by
    unfold beginF
    rw [if_neg (by rw [hfn, hdue]; simp), hnx]
    rfl
  rw [eb]
  clear eb
  have c14 : w.cell? ⟨b0, 14, none⟩ = some (.pointer none) := by rw [blk_cell h.blk]; simp [frcells, fptr, hfn]
  have c15 : w.cell? ⟨b0, 15, none⟩ = some (.bool true) := by rw [blk_cell h.blk]; simp [frcells, hdue]
  have HNx : Hid (Calls Try.prog 94 #[.pointer (some ⟨b0, 0, none⟩)] w fun e w' => e = .returned (.int .i64 0) ∧ ∃ q, w' = w.drewN q) := by
    have := next_any h hfr3
    rw [hnx] at this
    exact this
  obtain ⟨n, hn⟩ : ∃ n, n = f.W * f.H := ⟨_, rfl⟩
  have hn0 : 0 < n := by rw [hn]; exact Nat.mul_pos (by omega) (by omega)
  obtain ⟨ds, hds⟩ : ∃ ds, ds = dotsI (f.b 0).st f.W pic (f.W * f.H) := ⟨_, rfl⟩
  have HDt : Hid (∀ W, Below w.heap.size w W → Calls Try.prog 95 #[.pointer (some ⟨b0, 0, none⟩), .slice (some ⟨v.st 0, 0, none⟩) n n, .func (.func 66) #[.pointer (some ⟨sb, 0, none⟩)] #[]] W fun e w' => (∃ lv, e = .returned lv ∧ Own2 w' w.heap.size 166 lv (ds.map k2)) ∧ Below w.heap.size w w') := fun W hb => by
    have := dots_any (h.below hb) (q := 0) (by decide) hW hH sb pic (fun W' x y hb' hx hy => hP W' x y (hb.trans (hb'.mono hb.size)) hx hy)
    rw [← hds, pcell, ← hn] at this
    refine this.mono ?_
    rintro e w' ⟨⟨lv, he, hO⟩, hb'⟩
    exact ⟨⟨lv, he, row_lower2 hO hb.size⟩, hb.trans (hb'.mono hb.size)⟩
  rw [← hds]
  obtain ⟨ro, rc, hov⟩ := row_slice h.mks
  obtain ⟨mn, hmn⟩ : ∃ mn, mn = (f.marks.map k2).length := ⟨_, rfl⟩
  rw [← hmn] at hov
  have HH := hide h
  have HOV := hide hov
  have HN := hide hn
  have lb : b0 < w.heap.size := lt_of_heap h.blk
  have c16 : w.cell? ⟨b0, 16, none⟩ = some v.mv := blk_cell h.blk 16
  rw [hov] at c16
  have cs : w.cell? ⟨b0, 5, none⟩ = some (.slice (some ⟨v.st 0, 0, none⟩) n n) := by rw [blk_cell h.blk, hn]; rfl
  clear h hov hn hds hmn hP
  go_enter Try.func65, Try.ntmps65
  go_wp2_with (go_at_call 94; refine (unhide HNx).mono ?_; rintro e w1 ⟨rfl, q1, rfl⟩)
  go_region_held3 (fun w' => w'.cell? ⟨b0, 16, none⟩ = some (.slice ro mn rc) ∧ w'.cell? ⟨b0, 5, none⟩ = some (.slice (some ⟨v.st 0, 0, none⟩) n n))
    (first | exact unhide HS3 | exact unhide HS2 | go_keep)
    ((go_at_call 95
      refine ((unhide HDt) _ ?bb).mono ?_
      case bb => first | exact below_drewN (Below.refl _ w) _ | exact (below_drewN (Below.refl _ w) _).drew
      rintro e w2 ⟨⟨lv, rfl, hO2⟩, hb2⟩
      obtain ⟨lr, lc, hlv⟩ := row_slice hO2
      obtain ⟨ln, hln⟩ : ∃ ln, ln = (ds.map k2).length := ⟨_, rfl⟩
      rw [← hln] at hlv
      clear hln
      subst hlv
      have hF2 := (unhide HH).below hb2
      have g14 : w2.cell? ⟨b0, 14, none⟩ = some (.pointer none) := (hb2.cell lb).trans c14
      have g15 : w2.cell? ⟨b0, 15, none⟩ = some (.bool true) := (hb2.cell lb).trans c15
      have g16 : w2.cell? ⟨b0, 16, none⟩ = some (.slice ro mn rc) := (hb2.cell lb).trans c16
      have gs : w2.cell? ⟨b0, 5, none⟩ = some (.slice (some ⟨v.st 0, 0, none⟩) n n) := (hb2.cell lb).trans cs
      have gf : ∀ j, w2.frozen? ⟨b0, j, none⟩ = false := fun j => blk_thaw hF2.blk j
      have lb2 : b0 < w2.heap.size := Nat.lt_of_lt_of_le lb hb2.size
      have hX : ((w2.setCell ⟨b0, 14, none⟩ (.pointer (some ⟨w2.heap.size, 0, none⟩))).alloc (.cells #[.int .i64 0, .slice ro mn rc, .slice lr ln lc] 152)).heap[b0]? = _ := blk_alloc (blk_set (i := 14) hF2.blk (.pointer (some ⟨w2.heap.size, 0, none⟩))) _
      have k16 : ((w2.setCell ⟨b0, 14, none⟩ (.pointer (some ⟨w2.heap.size, 0, none⟩))).alloc (.cells #[.int .i64 0, .slice ro mn rc, .slice lr ln lc] 152)).cell? ⟨b0, 16, none⟩ = some v.mv := blk_cell hX 16
      rw [unhide HOV] at k16
      have ks : ((w2.setCell ⟨b0, 14, none⟩ (.pointer (some ⟨w2.heap.size, 0, none⟩))).alloc (.cells #[.int .i64 0, .slice ro mn rc, .slice lr ln lc] 152)).cell? ⟨b0, 5, none⟩ = some (pcell (v.st 0) (f.W * f.H)) := blk_cell hX 5
      rw [pcell, ← unhide HN] at ks
      have HS3 := hide (And.intro k16 ks)
      have HXX := hide hX
      clear k16 ks hX
      have HS2 := hide (And.intro g16 gs)
      have HF2 := hide hF2
      have HB2 := hide hb2
      have HO2 := hide hO2
      clear hb2 hO2 hF2))
  all_goals
    obtain ⟨X, hXe⟩ : ∃ X, X = (w2.setCell ⟨b0, 14, none⟩ (.pointer (some ⟨w2.heap.size, 0, none⟩))).alloc (.cells #[.int .i64 0, .slice ro mn rc, .slice lr ln lc] 152) := ⟨_, rfl⟩
    rw [← hXe]
    have hXb := unhide HXX
    rw [← hXe] at hXb
    have hXf : X.heap[w2.heap.size]? = some (.cells #[.int .i64 0, .slice ro mn rc, .slice lr ln lc] 152 (0, 0)) := by rw [hXe]; exact new_at _ _ _ (by simp [World.setCell])
    have hXB : But (fun x => x = b0) w X := by rw [hXe]; exact ((But.of_below (S := fun x => x = b0) (unhide HB2)).setCell (p := ⟨b0, 14, none⟩) (.inl rfl) _).alloc _
    have hXs := hXB.heap ((unhide HH).st 0 (by decide)).1 (fun e => by have := (unhide HH).blk; rw [← e, ((unhide HH).st 0 (by decide)).1] at this; simp at this)
    have hXd : Own2 X w.heap.size 166 (.slice lr ln lc) (ds.map k2) := by
      rw [hXe]
      refine row_but (row_but (unhide HO2) ((But.refl (fun k => k = b0) w2).setCell (p := ⟨b0, 14, none⟩) (.inl rfl) _) (fun k hk e => ?_)) (S := fun _ => False) ((But.refl _ _).alloc _) (fun _ _ h => h)
      have := (World.ownsRow.lt (unhide HO2) k hk).1
      omega
    obtain ⟨Y, hYe⟩ : ∃ Y, Y = (X.setCell ⟨b0, 15, none⟩ (.bool false)).setCell ⟨b0, 16, none⟩ (.slice none 0 0) := ⟨_, rfl⟩
    have hYb := blk_set (i := 16) (blk_set (i := 15) hXb (.bool false)) (.slice none 0 0)
    rw [← hYe] at hYb
    have hsb : ¬ v.st 0 = b0 := fun e => by have := (unhide HH).blk; rw [← e, ((unhide HH).st 0 (by decide)).1] at this; simp at this
    have hYs := blk_other (blk_other hXs (p := ⟨b0, 15, none⟩) hsb (.bool false)) (p := ⟨b0, 16, none⟩) hsb (.slice none 0 0)
    rw [← hYe] at hYs
    have hnb : ¬ w2.heap.size = b0 := by omega
    have hYf := blk_other (blk_other hXf (p := ⟨b0, 15, none⟩) hnb (.bool false)) (p := ⟨b0, 16, none⟩) hnb (.slice none 0 0)
    rw [← hYe] at hYf
    obtain ⟨Z, hZe⟩ : ∃ Z, Z = Y.setRow (v.st 0) ((List.replicate n false).map Value.bool).toArray := ⟨_, rfl⟩
    have hclr : ∀ ty, (Builtin.clear_ #[50] ty #[.slice (some ⟨v.st 0, 0, none⟩) n n]).run Try.prog Y = .ok (.tuple #[]) Z := fun ty => by
      rw [hZe]
      exact run_clear_bools hYs (by rw [((unhide HH).st 0 (by decide)).2.2, unhide HN]) hn0 ty
    have hZb := (setRow_other Y (v.st 0) b0 ((List.replicate n false).map Value.bool).toArray (fun e => hsb e.symm)).trans hYb
    rw [← hZe] at hZb
    have hZs : Z.heap[v.st 0]? = some (.cells ((List.replicate n false).map Value.bool).toArray 4 (0, 0)) := by rw [hZe]; exact setRow_heap _ _ _ _ _ _ hYs
    have hns : ¬ w2.heap.size = v.st 0 := fun e => by
      have h1 := lt_of_heap ((unhide HH).st 0 (by decide)).1
      have h2 := (unhide HB2).size
      omega
    have hZf := (setRow_other Y (v.st 0) w2.heap.size ((List.replicate n false).map Value.bool).toArray hns).trans hYf
    rw [← hZe] at hZf
    have hBZ : But (fun x => x = b0 ∨ x = v.st 0) w Z := by
      rw [hZe, hYe]
      refine (((hXB.wide (fun x _ e => .inl e)).setCell (p := ⟨b0, 15, none⟩) (.inl (.inl rfl)) _).setCell (p := ⟨b0, 16, none⟩) (.inl (.inl rfl)) _).trans ⟨rfl, rfl, rfl, by simp, fun k _ hk => setRow_other _ _ _ _ (fun e => hk (.inr e))⟩
    have hZd : Own2 Z w.heap.size 166 (.slice lr ln lc) (ds.map k2) := by
      rw [hZe, hYe]
      refine row_but (row_but hXd (((But.refl (fun k => k = b0) X).setCell (p := ⟨b0, 15, none⟩) (.inl rfl) _).setCell (p := ⟨b0, 16, none⟩) (.inl rfl) _) (fun k hk e => ?_)) (S := fun x => x = v.st 0) ⟨rfl, rfl, rfl, by simp, fun k _ hk => setRow_other _ _ _ _ hk⟩ (fun k hk e => ?_)
      · have := (World.ownsRow.lt (unhide HO2) k hk).1; omega
      · have := (World.ownsRow.lt (unhide HO2) k hk).1; have := lt_of_heap ((unhide HH).st 0 (by decide)).1; omega
    have a15 : X.cell? ⟨b0, 15, none⟩ = some (.bool true) := by rw [blk_cell hXb]; simp [frcells, hdue]
    have a16 : X.cell? ⟨b0, 16, none⟩ = some (.slice ro mn rc) := by rw [blk_cell hXb]; simp [frcells, unhide HOV]
    have aS : X.cell? ⟨b0, 5, none⟩ = some (.slice (some ⟨v.st 0, 0, none⟩) n n) := by rw [blk_cell hXb]; simp [frcells, pcell, unhide HN]
    have aB : Z.cell? ⟨b0, 6, none⟩ = some (.int .i64 (f.b 0).begun) := by rw [blk_cell hZb]; simp [frcells]
    have aF : ∀ j, X.frozen? ⟨b0, j, none⟩ = false := fun j => blk_thaw hXb j
    have aZ : ∀ j, Z.frozen? ⟨b0, j, none⟩ = false := fun j => blk_thaw hZb j
    have hsz2 := (unhide HB2).size
    have hZl : w2.heap.size < Z.heap.size := lt_of_heap hZf
    have hE : Fr (grow C w (Z.setCell ⟨b0, 6, none⟩ (.int .i64 t))) (Z.setCell ⟨b0, 6, none⟩ (.int .i64 t)) b0 { f with frame := some ⟨0, f.marks, ds⟩, due := false, marks := [], b := fun i => if i = 0 then { f.b i with st := List.replicate (f.W * f.H) false, begun := t } else f.b i } { v with fb := w2.heap.size, fm := v.mv, fl := .slice lr ln lc, mv := .slice none 0 0 } := by
      refine (unhide HH).begun hCl (by decide) hsz2 (by simp [World.setCell]; exact hZl) (hBZ.setCell (p := ⟨b0, 6, none⟩) (.inl (.inl rfl)) _) ?_ ?_ ?_ ?_
      · rw [blk_set (i := 6) hZb (.int .i64 t)]
        simp [frcells, fptr, pcell]
      · rw [← unhide HN]; exact blk_other hZs (p := ⟨b0, 6, none⟩) hsb _
      · have := blk_other hZf (p := ⟨b0, 6, none⟩) hnb (.int .i64 t)
        rw [this, unhide HOV]; rfl
      · exact row_but hZd ((But.refl (fun k => k = b0) Z).setCell (p := ⟨b0, 6, none⟩) (.inl rfl) _) (fun k hk e => by have := (World.ownsRow.lt hZd k hk).1; omega)
    have hEB : But C w (Z.setCell ⟨b0, 6, none⟩ (.int .i64 t)) := (hBZ.wide (fun x _ e => by rcases e with e | e; rw [e]; exact (unhide HH).cb; rw [e]; exact ((unhide HH).st 0 (by decide)).2.1)).setCell (p := ⟨b0, 6, none⟩) (.inl (unhide HH).cb) _
    have HE := hide hE
    have HEB := hide hEB
    have hclr0 := hclr 0
    rw [hYe] at hclr0
    clear hE hEB hclr hZd hBZ hZf hns hZs hZb hZe hYf hYs hYb hYe hXd hXs hXB hXf hXb hXe
    (try simp only [Exit.then])
    (try go_simp)
    go_wp2
    go_end0
    exact ⟨⟨_, rfl⟩, ⟨_, unhide HE⟩, unhide HEB⟩

set_option maxHeartbeats 4000000 in
theorem Begin_1 {C : Nat → Prop} {w : World} {b0 : Nat} {f : Frs} {v : Fl} (h : Fr C w b0 f v) (hCl : ∀ k, C k → k < w.heap.size) (hfr3 : f.front < 3) (hW : 1 ≤ f.W ∧ f.W ≤ 16) (hH : 1 ≤ f.H ∧ f.H ≤ 16) (t : Int) (sb : Nat) (pic : Int → Int → Int) (hfn : f.frame = none) (hdue : f.due = true) (hnx : nextK f 3 = some 1)
    (hP : ∀ (W : World) (x y : Nat), Below w.heap.size w W → x ≤ 16 → y ≤ 256 → Calls Try.prog 66 #[.pointer (some ⟨sb, 0, none⟩), .int .i64 (x : Int), .int .i64 (y : Int)] W fun e w' => e = .returned (.int .i64 (pic (x : Int) (y : Int))) ∧ Below W.heap.size W w') :
    Calls Try.prog 65 #[.pointer (some ⟨b0, 0, none⟩), .int .i64 t, .func (.func 66) #[.pointer (some ⟨sb, 0, none⟩)] #[]] w fun e w' => (∃ u, e = .returned u) ∧ (∃ v', Fr (grow C w w') w' b0 (beginF f t pic) v') ∧ But C w w' := by
  have eb : beginF f t pic = { f with frame := some ⟨1, f.marks, dotsI (f.b 1).st f.W pic (f.W * f.H)⟩, due := false, marks := [], b := fun i => if i = 1 then { f.b i with st := List.replicate (f.W * f.H) false, begun := t } else f.b i } := by
    unfold beginF
    rw [if_neg (by rw [hfn, hdue]; simp), hnx]
    rfl
  rw [eb]
  clear eb
  have c14 : w.cell? ⟨b0, 14, none⟩ = some (.pointer none) := by rw [blk_cell h.blk]; simp [frcells, fptr, hfn]
  have c15 : w.cell? ⟨b0, 15, none⟩ = some (.bool true) := by rw [blk_cell h.blk]; simp [frcells, hdue]
  have HNx : Hid (Calls Try.prog 94 #[.pointer (some ⟨b0, 0, none⟩)] w fun e w' => e = .returned (.int .i64 1) ∧ ∃ q, w' = w.drewN q) := by
    have := next_any h hfr3
    rw [hnx] at this
    exact this
  obtain ⟨n, hn⟩ : ∃ n, n = f.W * f.H := ⟨_, rfl⟩
  have hn0 : 0 < n := by rw [hn]; exact Nat.mul_pos (by omega) (by omega)
  obtain ⟨ds, hds⟩ : ∃ ds, ds = dotsI (f.b 1).st f.W pic (f.W * f.H) := ⟨_, rfl⟩
  have HDt : Hid (∀ W, Below w.heap.size w W → Calls Try.prog 95 #[.pointer (some ⟨b0, 0, none⟩), .slice (some ⟨v.st 1, 0, none⟩) n n, .func (.func 66) #[.pointer (some ⟨sb, 0, none⟩)] #[]] W fun e w' => (∃ lv, e = .returned lv ∧ Own2 w' w.heap.size 166 lv (ds.map k2)) ∧ Below w.heap.size w w') := fun W hb => by
    have := dots_any (h.below hb) (q := 1) (by decide) hW hH sb pic (fun W' x y hb' hx hy => hP W' x y (hb.trans (hb'.mono hb.size)) hx hy)
    rw [← hds, pcell, ← hn] at this
    refine this.mono ?_
    rintro e w' ⟨⟨lv, he, hO⟩, hb'⟩
    exact ⟨⟨lv, he, row_lower2 hO hb.size⟩, hb.trans (hb'.mono hb.size)⟩
  rw [← hds]
  obtain ⟨ro, rc, hov⟩ := row_slice h.mks
  obtain ⟨mn, hmn⟩ : ∃ mn, mn = (f.marks.map k2).length := ⟨_, rfl⟩
  rw [← hmn] at hov
  have HH := hide h
  have HOV := hide hov
  have HN := hide hn
  have lb : b0 < w.heap.size := lt_of_heap h.blk
  have c16 : w.cell? ⟨b0, 16, none⟩ = some v.mv := blk_cell h.blk 16
  rw [hov] at c16
  have cs : w.cell? ⟨b0, 8, none⟩ = some (.slice (some ⟨v.st 1, 0, none⟩) n n) := by rw [blk_cell h.blk, hn]; rfl
  clear h hov hn hds hmn hP
  go_enter Try.func65, Try.ntmps65
  go_wp2_with (go_at_call 94; refine (unhide HNx).mono ?_; rintro e w1 ⟨rfl, q1, rfl⟩)
  go_region_held3 (fun w' => w'.cell? ⟨b0, 16, none⟩ = some (.slice ro mn rc) ∧ w'.cell? ⟨b0, 8, none⟩ = some (.slice (some ⟨v.st 1, 0, none⟩) n n))
    (first | exact unhide HS3 | exact unhide HS2 | go_keep)
    ((go_at_call 95
      refine ((unhide HDt) _ ?bb).mono ?_
      case bb => first | exact below_drewN (Below.refl _ w) _ | exact (below_drewN (Below.refl _ w) _).drew
      rintro e w2 ⟨⟨lv, rfl, hO2⟩, hb2⟩
      obtain ⟨lr, lc, hlv⟩ := row_slice hO2
      obtain ⟨ln, hln⟩ : ∃ ln, ln = (ds.map k2).length := ⟨_, rfl⟩
      rw [← hln] at hlv
      clear hln
      subst hlv
      have hF2 := (unhide HH).below hb2
      have g14 : w2.cell? ⟨b0, 14, none⟩ = some (.pointer none) := (hb2.cell lb).trans c14
      have g15 : w2.cell? ⟨b0, 15, none⟩ = some (.bool true) := (hb2.cell lb).trans c15
      have g16 : w2.cell? ⟨b0, 16, none⟩ = some (.slice ro mn rc) := (hb2.cell lb).trans c16
      have gs : w2.cell? ⟨b0, 8, none⟩ = some (.slice (some ⟨v.st 1, 0, none⟩) n n) := (hb2.cell lb).trans cs
      have gf : ∀ j, w2.frozen? ⟨b0, j, none⟩ = false := fun j => blk_thaw hF2.blk j
      have lb2 : b0 < w2.heap.size := Nat.lt_of_lt_of_le lb hb2.size
      have hX : ((w2.setCell ⟨b0, 14, none⟩ (.pointer (some ⟨w2.heap.size, 0, none⟩))).alloc (.cells #[.int .i64 1, .slice ro mn rc, .slice lr ln lc] 152)).heap[b0]? = _ := blk_alloc (blk_set (i := 14) hF2.blk (.pointer (some ⟨w2.heap.size, 0, none⟩))) _
      have k16 : ((w2.setCell ⟨b0, 14, none⟩ (.pointer (some ⟨w2.heap.size, 0, none⟩))).alloc (.cells #[.int .i64 1, .slice ro mn rc, .slice lr ln lc] 152)).cell? ⟨b0, 16, none⟩ = some v.mv := blk_cell hX 16
      rw [unhide HOV] at k16
      have ks : ((w2.setCell ⟨b0, 14, none⟩ (.pointer (some ⟨w2.heap.size, 0, none⟩))).alloc (.cells #[.int .i64 1, .slice ro mn rc, .slice lr ln lc] 152)).cell? ⟨b0, 8, none⟩ = some (pcell (v.st 1) (f.W * f.H)) := blk_cell hX 8
      rw [pcell, ← unhide HN] at ks
      have HS3 := hide (And.intro k16 ks)
      have HXX := hide hX
      clear k16 ks hX
      have HS2 := hide (And.intro g16 gs)
      have HF2 := hide hF2
      have HB2 := hide hb2
      have HO2 := hide hO2
      clear hb2 hO2 hF2))
  all_goals
    obtain ⟨X, hXe⟩ : ∃ X, X = (w2.setCell ⟨b0, 14, none⟩ (.pointer (some ⟨w2.heap.size, 0, none⟩))).alloc (.cells #[.int .i64 1, .slice ro mn rc, .slice lr ln lc] 152) := ⟨_, rfl⟩
    rw [← hXe]
    have hXb := unhide HXX
    rw [← hXe] at hXb
    have hXf : X.heap[w2.heap.size]? = some (.cells #[.int .i64 1, .slice ro mn rc, .slice lr ln lc] 152 (0, 0)) := by rw [hXe]; exact new_at _ _ _ (by simp [World.setCell])
    have hXB : But (fun x => x = b0) w X := by rw [hXe]; exact ((But.of_below (S := fun x => x = b0) (unhide HB2)).setCell (p := ⟨b0, 14, none⟩) (.inl rfl) _).alloc _
    have hXs := hXB.heap ((unhide HH).st 1 (by decide)).1 (fun e => by have := (unhide HH).blk; rw [← e, ((unhide HH).st 1 (by decide)).1] at this; simp at this)
    have hXd : Own2 X w.heap.size 166 (.slice lr ln lc) (ds.map k2) := by
      rw [hXe]
      refine row_but (row_but (unhide HO2) ((But.refl (fun k => k = b0) w2).setCell (p := ⟨b0, 14, none⟩) (.inl rfl) _) (fun k hk e => ?_)) (S := fun _ => False) ((But.refl _ _).alloc _) (fun _ _ h => h)
      have := (World.ownsRow.lt (unhide HO2) k hk).1
      omega
    obtain ⟨Y, hYe⟩ : ∃ Y, Y = (X.setCell ⟨b0, 15, none⟩ (.bool false)).setCell ⟨b0, 16, none⟩ (.slice none 0 0) := ⟨_, rfl⟩
    have hYb := blk_set (i := 16) (blk_set (i := 15) hXb (.bool false)) (.slice none 0 0)
    rw [← hYe] at hYb
    have hsb : ¬ v.st 1 = b0 := fun e => by have := (unhide HH).blk; rw [← e, ((unhide HH).st 1 (by decide)).1] at this; simp at this
    have hYs := blk_other (blk_other hXs (p := ⟨b0, 15, none⟩) hsb (.bool false)) (p := ⟨b0, 16, none⟩) hsb (.slice none 0 0)
    rw [← hYe] at hYs
    have hnb : ¬ w2.heap.size = b0 := by omega
    have hYf := blk_other (blk_other hXf (p := ⟨b0, 15, none⟩) hnb (.bool false)) (p := ⟨b0, 16, none⟩) hnb (.slice none 0 0)
    rw [← hYe] at hYf
    obtain ⟨Z, hZe⟩ : ∃ Z, Z = Y.setRow (v.st 1) ((List.replicate n false).map Value.bool).toArray := ⟨_, rfl⟩
    have hclr : ∀ ty, (Builtin.clear_ #[50] ty #[.slice (some ⟨v.st 1, 0, none⟩) n n]).run Try.prog Y = .ok (.tuple #[]) Z := fun ty => by
      rw [hZe]
      exact run_clear_bools hYs (by rw [((unhide HH).st 1 (by decide)).2.2, unhide HN]) hn0 ty
    have hZb := (setRow_other Y (v.st 1) b0 ((List.replicate n false).map Value.bool).toArray (fun e => hsb e.symm)).trans hYb
    rw [← hZe] at hZb
    have hZs : Z.heap[v.st 1]? = some (.cells ((List.replicate n false).map Value.bool).toArray 4 (0, 0)) := by rw [hZe]; exact setRow_heap _ _ _ _ _ _ hYs
    have hns : ¬ w2.heap.size = v.st 1 := fun e => by
      have h1 := lt_of_heap ((unhide HH).st 1 (by decide)).1
      have h2 := (unhide HB2).size
      omega
    have hZf := (setRow_other Y (v.st 1) w2.heap.size ((List.replicate n false).map Value.bool).toArray hns).trans hYf
    rw [← hZe] at hZf
    have hBZ : But (fun x => x = b0 ∨ x = v.st 1) w Z := by
      rw [hZe, hYe]
      refine (((hXB.wide (fun x _ e => .inl e)).setCell (p := ⟨b0, 15, none⟩) (.inl (.inl rfl)) _).setCell (p := ⟨b0, 16, none⟩) (.inl (.inl rfl)) _).trans ⟨rfl, rfl, rfl, by simp, fun k _ hk => setRow_other _ _ _ _ (fun e => hk (.inr e))⟩
    have hZd : Own2 Z w.heap.size 166 (.slice lr ln lc) (ds.map k2) := by
      rw [hZe, hYe]
      refine row_but (row_but hXd (((But.refl (fun k => k = b0) X).setCell (p := ⟨b0, 15, none⟩) (.inl rfl) _).setCell (p := ⟨b0, 16, none⟩) (.inl rfl) _) (fun k hk e => ?_)) (S := fun x => x = v.st 1) ⟨rfl, rfl, rfl, by simp, fun k _ hk => setRow_other _ _ _ _ hk⟩ (fun k hk e => ?_)
      · have := (World.ownsRow.lt (unhide HO2) k hk).1; omega
      · have := (World.ownsRow.lt (unhide HO2) k hk).1; have := lt_of_heap ((unhide HH).st 1 (by decide)).1; omega
    have a15 : X.cell? ⟨b0, 15, none⟩ = some (.bool true) := by rw [blk_cell hXb]; simp [frcells, hdue]
    have a16 : X.cell? ⟨b0, 16, none⟩ = some (.slice ro mn rc) := by rw [blk_cell hXb]; simp [frcells, unhide HOV]
    have aS : X.cell? ⟨b0, 8, none⟩ = some (.slice (some ⟨v.st 1, 0, none⟩) n n) := by rw [blk_cell hXb]; simp [frcells, pcell, unhide HN]
    have aB : Z.cell? ⟨b0, 9, none⟩ = some (.int .i64 (f.b 1).begun) := by rw [blk_cell hZb]; simp [frcells]
    have aF : ∀ j, X.frozen? ⟨b0, j, none⟩ = false := fun j => blk_thaw hXb j
    have aZ : ∀ j, Z.frozen? ⟨b0, j, none⟩ = false := fun j => blk_thaw hZb j
    have hsz2 := (unhide HB2).size
    have hZl : w2.heap.size < Z.heap.size := lt_of_heap hZf
    have hE : Fr (grow C w (Z.setCell ⟨b0, 9, none⟩ (.int .i64 t))) (Z.setCell ⟨b0, 9, none⟩ (.int .i64 t)) b0 { f with frame := some ⟨1, f.marks, ds⟩, due := false, marks := [], b := fun i => if i = 1 then { f.b i with st := List.replicate (f.W * f.H) false, begun := t } else f.b i } { v with fb := w2.heap.size, fm := v.mv, fl := .slice lr ln lc, mv := .slice none 0 0 } := by
      refine (unhide HH).begun hCl (by decide) hsz2 (by simp [World.setCell]; exact hZl) (hBZ.setCell (p := ⟨b0, 9, none⟩) (.inl (.inl rfl)) _) ?_ ?_ ?_ ?_
      · rw [blk_set (i := 9) hZb (.int .i64 t)]
        simp [frcells, fptr, pcell]
      · rw [← unhide HN]; exact blk_other hZs (p := ⟨b0, 9, none⟩) hsb _
      · have := blk_other hZf (p := ⟨b0, 9, none⟩) hnb (.int .i64 t)
        rw [this, unhide HOV]; rfl
      · exact row_but hZd ((But.refl (fun k => k = b0) Z).setCell (p := ⟨b0, 9, none⟩) (.inl rfl) _) (fun k hk e => by have := (World.ownsRow.lt hZd k hk).1; omega)
    have hEB : But C w (Z.setCell ⟨b0, 9, none⟩ (.int .i64 t)) := (hBZ.wide (fun x _ e => by rcases e with e | e; rw [e]; exact (unhide HH).cb; rw [e]; exact ((unhide HH).st 1 (by decide)).2.1)).setCell (p := ⟨b0, 9, none⟩) (.inl (unhide HH).cb) _
    have HE := hide hE
    have HEB := hide hEB
    have hclr0 := hclr 0
    rw [hYe] at hclr0
    clear hE hEB hclr hZd hBZ hZf hns hZs hZb hZe hYf hYs hYb hYe hXd hXs hXB hXf hXb hXe
    (try simp only [Exit.then])
    (try go_simp)
    go_wp2
    go_end0
    exact ⟨⟨_, rfl⟩, ⟨_, unhide HE⟩, unhide HEB⟩

set_option maxHeartbeats 4000000 in
theorem Begin_2 {C : Nat → Prop} {w : World} {b0 : Nat} {f : Frs} {v : Fl} (h : Fr C w b0 f v) (hCl : ∀ k, C k → k < w.heap.size) (hfr3 : f.front < 3) (hW : 1 ≤ f.W ∧ f.W ≤ 16) (hH : 1 ≤ f.H ∧ f.H ≤ 16) (t : Int) (sb : Nat) (pic : Int → Int → Int) (hfn : f.frame = none) (hdue : f.due = true) (hnx : nextK f 3 = some 2)
    (hP : ∀ (W : World) (x y : Nat), Below w.heap.size w W → x ≤ 16 → y ≤ 256 → Calls Try.prog 66 #[.pointer (some ⟨sb, 0, none⟩), .int .i64 (x : Int), .int .i64 (y : Int)] W fun e w' => e = .returned (.int .i64 (pic (x : Int) (y : Int))) ∧ Below W.heap.size W w') :
    Calls Try.prog 65 #[.pointer (some ⟨b0, 0, none⟩), .int .i64 t, .func (.func 66) #[.pointer (some ⟨sb, 0, none⟩)] #[]] w fun e w' => (∃ u, e = .returned u) ∧ (∃ v', Fr (grow C w w') w' b0 (beginF f t pic) v') ∧ But C w w' := by
  have eb : beginF f t pic = { f with frame := some ⟨2, f.marks, dotsI (f.b 2).st f.W pic (f.W * f.H)⟩, due := false, marks := [], b := fun i => if i = 2 then { f.b i with st := List.replicate (f.W * f.H) false, begun := t } else f.b i } := by
    unfold beginF
    rw [if_neg (by rw [hfn, hdue]; simp), hnx]
    rfl
  rw [eb]
  clear eb
  have c14 : w.cell? ⟨b0, 14, none⟩ = some (.pointer none) := by rw [blk_cell h.blk]; simp [frcells, fptr, hfn]
  have c15 : w.cell? ⟨b0, 15, none⟩ = some (.bool true) := by rw [blk_cell h.blk]; simp [frcells, hdue]
  have HNx : Hid (Calls Try.prog 94 #[.pointer (some ⟨b0, 0, none⟩)] w fun e w' => e = .returned (.int .i64 2) ∧ ∃ q, w' = w.drewN q) := by
    have := next_any h hfr3
    rw [hnx] at this
    exact this
  obtain ⟨n, hn⟩ : ∃ n, n = f.W * f.H := ⟨_, rfl⟩
  have hn0 : 0 < n := by rw [hn]; exact Nat.mul_pos (by omega) (by omega)
  obtain ⟨ds, hds⟩ : ∃ ds, ds = dotsI (f.b 2).st f.W pic (f.W * f.H) := ⟨_, rfl⟩
  have HDt : Hid (∀ W, Below w.heap.size w W → Calls Try.prog 95 #[.pointer (some ⟨b0, 0, none⟩), .slice (some ⟨v.st 2, 0, none⟩) n n, .func (.func 66) #[.pointer (some ⟨sb, 0, none⟩)] #[]] W fun e w' => (∃ lv, e = .returned lv ∧ Own2 w' w.heap.size 166 lv (ds.map k2)) ∧ Below w.heap.size w w') := fun W hb => by
    have := dots_any (h.below hb) (q := 2) (by decide) hW hH sb pic (fun W' x y hb' hx hy => hP W' x y (hb.trans (hb'.mono hb.size)) hx hy)
    rw [← hds, pcell, ← hn] at this
    refine this.mono ?_
    rintro e w' ⟨⟨lv, he, hO⟩, hb'⟩
    exact ⟨⟨lv, he, row_lower2 hO hb.size⟩, hb.trans (hb'.mono hb.size)⟩
  rw [← hds]
  obtain ⟨ro, rc, hov⟩ := row_slice h.mks
  obtain ⟨mn, hmn⟩ : ∃ mn, mn = (f.marks.map k2).length := ⟨_, rfl⟩
  rw [← hmn] at hov
  have HH := hide h
  have HOV := hide hov
  have HN := hide hn
  have lb : b0 < w.heap.size := lt_of_heap h.blk
  have c16 : w.cell? ⟨b0, 16, none⟩ = some v.mv := blk_cell h.blk 16
  rw [hov] at c16
  have cs : w.cell? ⟨b0, 11, none⟩ = some (.slice (some ⟨v.st 2, 0, none⟩) n n) := by rw [blk_cell h.blk, hn]; rfl
  clear h hov hn hds hmn hP
  go_enter Try.func65, Try.ntmps65
  go_wp2_with (go_at_call 94; refine (unhide HNx).mono ?_; rintro e w1 ⟨rfl, q1, rfl⟩)
  go_region_held3 (fun w' => w'.cell? ⟨b0, 16, none⟩ = some (.slice ro mn rc) ∧ w'.cell? ⟨b0, 11, none⟩ = some (.slice (some ⟨v.st 2, 0, none⟩) n n))
    (first | exact unhide HS3 | exact unhide HS2 | go_keep)
    ((go_at_call 95
      refine ((unhide HDt) _ ?bb).mono ?_
      case bb => first | exact below_drewN (Below.refl _ w) _ | exact (below_drewN (Below.refl _ w) _).drew
      rintro e w2 ⟨⟨lv, rfl, hO2⟩, hb2⟩
      obtain ⟨lr, lc, hlv⟩ := row_slice hO2
      obtain ⟨ln, hln⟩ : ∃ ln, ln = (ds.map k2).length := ⟨_, rfl⟩
      rw [← hln] at hlv
      clear hln
      subst hlv
      have hF2 := (unhide HH).below hb2
      have g14 : w2.cell? ⟨b0, 14, none⟩ = some (.pointer none) := (hb2.cell lb).trans c14
      have g15 : w2.cell? ⟨b0, 15, none⟩ = some (.bool true) := (hb2.cell lb).trans c15
      have g16 : w2.cell? ⟨b0, 16, none⟩ = some (.slice ro mn rc) := (hb2.cell lb).trans c16
      have gs : w2.cell? ⟨b0, 11, none⟩ = some (.slice (some ⟨v.st 2, 0, none⟩) n n) := (hb2.cell lb).trans cs
      have gf : ∀ j, w2.frozen? ⟨b0, j, none⟩ = false := fun j => blk_thaw hF2.blk j
      have lb2 : b0 < w2.heap.size := Nat.lt_of_lt_of_le lb hb2.size
      have hX : ((w2.setCell ⟨b0, 14, none⟩ (.pointer (some ⟨w2.heap.size, 0, none⟩))).alloc (.cells #[.int .i64 2, .slice ro mn rc, .slice lr ln lc] 152)).heap[b0]? = _ := blk_alloc (blk_set (i := 14) hF2.blk (.pointer (some ⟨w2.heap.size, 0, none⟩))) _
      have k16 : ((w2.setCell ⟨b0, 14, none⟩ (.pointer (some ⟨w2.heap.size, 0, none⟩))).alloc (.cells #[.int .i64 2, .slice ro mn rc, .slice lr ln lc] 152)).cell? ⟨b0, 16, none⟩ = some v.mv := blk_cell hX 16
      rw [unhide HOV] at k16
      have ks : ((w2.setCell ⟨b0, 14, none⟩ (.pointer (some ⟨w2.heap.size, 0, none⟩))).alloc (.cells #[.int .i64 2, .slice ro mn rc, .slice lr ln lc] 152)).cell? ⟨b0, 11, none⟩ = some (pcell (v.st 2) (f.W * f.H)) := blk_cell hX 11
      rw [pcell, ← unhide HN] at ks
      have HS3 := hide (And.intro k16 ks)
      have HXX := hide hX
      clear k16 ks hX
      have HS2 := hide (And.intro g16 gs)
      have HF2 := hide hF2
      have HB2 := hide hb2
      have HO2 := hide hO2
      clear hb2 hO2 hF2))
  all_goals
    obtain ⟨X, hXe⟩ : ∃ X, X = (w2.setCell ⟨b0, 14, none⟩ (.pointer (some ⟨w2.heap.size, 0, none⟩))).alloc (.cells #[.int .i64 2, .slice ro mn rc, .slice lr ln lc] 152) := ⟨_, rfl⟩
    rw [← hXe]
    have hXb := unhide HXX
    rw [← hXe] at hXb
    have hXf : X.heap[w2.heap.size]? = some (.cells #[.int .i64 2, .slice ro mn rc, .slice lr ln lc] 152 (0, 0)) := by rw [hXe]; exact new_at _ _ _ (by simp [World.setCell])
    have hXB : But (fun x => x = b0) w X := by rw [hXe]; exact ((But.of_below (S := fun x => x = b0) (unhide HB2)).setCell (p := ⟨b0, 14, none⟩) (.inl rfl) _).alloc _
    have hXs := hXB.heap ((unhide HH).st 2 (by decide)).1 (fun e => by have := (unhide HH).blk; rw [← e, ((unhide HH).st 2 (by decide)).1] at this; simp at this)
    have hXd : Own2 X w.heap.size 166 (.slice lr ln lc) (ds.map k2) := by
      rw [hXe]
      refine row_but (row_but (unhide HO2) ((But.refl (fun k => k = b0) w2).setCell (p := ⟨b0, 14, none⟩) (.inl rfl) _) (fun k hk e => ?_)) (S := fun _ => False) ((But.refl _ _).alloc _) (fun _ _ h => h)
      have := (World.ownsRow.lt (unhide HO2) k hk).1
      omega
    obtain ⟨Y, hYe⟩ : ∃ Y, Y = (X.setCell ⟨b0, 15, none⟩ (.bool false)).setCell ⟨b0, 16, none⟩ (.slice none 0 0) := ⟨_, rfl⟩
    have hYb := blk_set (i := 16) (blk_set (i := 15) hXb (.bool false)) (.slice none 0 0)
    rw [← hYe] at hYb
    have hsb : ¬ v.st 2 = b0 := fun e => by have := (unhide HH).blk; rw [← e, ((unhide HH).st 2 (by decide)).1] at this; simp at this
    have hYs := blk_other (blk_other hXs (p := ⟨b0, 15, none⟩) hsb (.bool false)) (p := ⟨b0, 16, none⟩) hsb (.slice none 0 0)
    rw [← hYe] at hYs
    have hnb : ¬ w2.heap.size = b0 := by omega
    have hYf := blk_other (blk_other hXf (p := ⟨b0, 15, none⟩) hnb (.bool false)) (p := ⟨b0, 16, none⟩) hnb (.slice none 0 0)
    rw [← hYe] at hYf
    obtain ⟨Z, hZe⟩ : ∃ Z, Z = Y.setRow (v.st 2) ((List.replicate n false).map Value.bool).toArray := ⟨_, rfl⟩
    have hclr : ∀ ty, (Builtin.clear_ #[50] ty #[.slice (some ⟨v.st 2, 0, none⟩) n n]).run Try.prog Y = .ok (.tuple #[]) Z := fun ty => by
      rw [hZe]
      exact run_clear_bools hYs (by rw [((unhide HH).st 2 (by decide)).2.2, unhide HN]) hn0 ty
    have hZb := (setRow_other Y (v.st 2) b0 ((List.replicate n false).map Value.bool).toArray (fun e => hsb e.symm)).trans hYb
    rw [← hZe] at hZb
    have hZs : Z.heap[v.st 2]? = some (.cells ((List.replicate n false).map Value.bool).toArray 4 (0, 0)) := by rw [hZe]; exact setRow_heap _ _ _ _ _ _ hYs
    have hns : ¬ w2.heap.size = v.st 2 := fun e => by
      have h1 := lt_of_heap ((unhide HH).st 2 (by decide)).1
      have h2 := (unhide HB2).size
      omega
    have hZf := (setRow_other Y (v.st 2) w2.heap.size ((List.replicate n false).map Value.bool).toArray hns).trans hYf
    rw [← hZe] at hZf
    have hBZ : But (fun x => x = b0 ∨ x = v.st 2) w Z := by
      rw [hZe, hYe]
      refine (((hXB.wide (fun x _ e => .inl e)).setCell (p := ⟨b0, 15, none⟩) (.inl (.inl rfl)) _).setCell (p := ⟨b0, 16, none⟩) (.inl (.inl rfl)) _).trans ⟨rfl, rfl, rfl, by simp, fun k _ hk => setRow_other _ _ _ _ (fun e => hk (.inr e))⟩
    have hZd : Own2 Z w.heap.size 166 (.slice lr ln lc) (ds.map k2) := by
      rw [hZe, hYe]
      refine row_but (row_but hXd (((But.refl (fun k => k = b0) X).setCell (p := ⟨b0, 15, none⟩) (.inl rfl) _).setCell (p := ⟨b0, 16, none⟩) (.inl rfl) _) (fun k hk e => ?_)) (S := fun x => x = v.st 2) ⟨rfl, rfl, rfl, by simp, fun k _ hk => setRow_other _ _ _ _ hk⟩ (fun k hk e => ?_)
      · have := (World.ownsRow.lt (unhide HO2) k hk).1; omega
      · have := (World.ownsRow.lt (unhide HO2) k hk).1; have := lt_of_heap ((unhide HH).st 2 (by decide)).1; omega
    have a15 : X.cell? ⟨b0, 15, none⟩ = some (.bool true) := by rw [blk_cell hXb]; simp [frcells, hdue]
    have a16 : X.cell? ⟨b0, 16, none⟩ = some (.slice ro mn rc) := by rw [blk_cell hXb]; simp [frcells, unhide HOV]
    have aS : X.cell? ⟨b0, 11, none⟩ = some (.slice (some ⟨v.st 2, 0, none⟩) n n) := by rw [blk_cell hXb]; simp [frcells, pcell, unhide HN]
    have aB : Z.cell? ⟨b0, 12, none⟩ = some (.int .i64 (f.b 2).begun) := by rw [blk_cell hZb]; simp [frcells]
    have aF : ∀ j, X.frozen? ⟨b0, j, none⟩ = false := fun j => blk_thaw hXb j
    have aZ : ∀ j, Z.frozen? ⟨b0, j, none⟩ = false := fun j => blk_thaw hZb j
    have hsz2 := (unhide HB2).size
    have hZl : w2.heap.size < Z.heap.size := lt_of_heap hZf
    have hE : Fr (grow C w (Z.setCell ⟨b0, 12, none⟩ (.int .i64 t))) (Z.setCell ⟨b0, 12, none⟩ (.int .i64 t)) b0 { f with frame := some ⟨2, f.marks, ds⟩, due := false, marks := [], b := fun i => if i = 2 then { f.b i with st := List.replicate (f.W * f.H) false, begun := t } else f.b i } { v with fb := w2.heap.size, fm := v.mv, fl := .slice lr ln lc, mv := .slice none 0 0 } := by
      refine (unhide HH).begun hCl (by decide) hsz2 (by simp [World.setCell]; exact hZl) (hBZ.setCell (p := ⟨b0, 12, none⟩) (.inl (.inl rfl)) _) ?_ ?_ ?_ ?_
      · rw [blk_set (i := 12) hZb (.int .i64 t)]
        simp [frcells, fptr, pcell]
      · rw [← unhide HN]; exact blk_other hZs (p := ⟨b0, 12, none⟩) hsb _
      · have := blk_other hZf (p := ⟨b0, 12, none⟩) hnb (.int .i64 t)
        rw [this, unhide HOV]; rfl
      · exact row_but hZd ((But.refl (fun k => k = b0) Z).setCell (p := ⟨b0, 12, none⟩) (.inl rfl) _) (fun k hk e => by have := (World.ownsRow.lt hZd k hk).1; omega)
    have hEB : But C w (Z.setCell ⟨b0, 12, none⟩ (.int .i64 t)) := (hBZ.wide (fun x _ e => by rcases e with e | e; rw [e]; exact (unhide HH).cb; rw [e]; exact ((unhide HH).st 2 (by decide)).2.1)).setCell (p := ⟨b0, 12, none⟩) (.inl (unhide HH).cb) _
    have HE := hide hE
    have HEB := hide hEB
    have hclr0 := hclr 0
    rw [hYe] at hclr0
    clear hE hEB hclr hZd hBZ hZf hns hZs hZb hZe hYf hYs hYb hYe hXd hXs hXB hXf hXb hXe
    (try simp only [Exit.then])
    (try go_simp)
    go_wp2
    go_end0
    exact ⟨⟨_, rfl⟩, ⟨_, unhide HE⟩, unhide HEB⟩

theorem Begin_any {C : Nat → Prop} {w : World} {b0 : Nat} {f : Frs} {v : Fl} (h : Fr C w b0 f v) (hCl : ∀ k, C k → k < w.heap.size) (hfr3 : f.front < 3) (hW : 1 ≤ f.W ∧ f.W ≤ 16) (hH : 1 ≤ f.H ∧ f.H ≤ 16) (t : Int) (sb : Nat) (pic : Int → Int → Int)
    (hP : ∀ (W : World) (x y : Nat), Below w.heap.size w W → x ≤ 16 → y ≤ 256 → Calls Try.prog 66 #[.pointer (some ⟨sb, 0, none⟩), .int .i64 (x : Int), .int .i64 (y : Int)] W fun e w' => e = .returned (.int .i64 (pic (x : Int) (y : Int))) ∧ Below W.heap.size W w') :
    Calls Try.prog 65 #[.pointer (some ⟨b0, 0, none⟩), .int .i64 t, .func (.func 66) #[.pointer (some ⟨sb, 0, none⟩)] #[]] w fun e w' => (∃ u, e = .returned u) ∧ (∃ v', Fr (grow C w w') w' b0 (beginF f t pic) v') ∧ But C w w' := by
  by_cases hno : f.frame.isSome = true ∨ f.due = false
  · refine (Begin_not h t sb hno).mono ?_
    rintro e w' ⟨he, rfl⟩
    refine ⟨he, ⟨v, ?_⟩, .refl _ _⟩
    rw [show beginF f t pic = f from if_pos hno]
    exact h.mono grow_old
  · have hfn : f.frame = none := by
      cases hf : f.frame with
      | none => rfl
      | some g => exact absurd (.inl (by rw [hf]; rfl)) hno
    have hdue : f.due = true := by
      cases hd : f.due with
      | true => rfl
      | false => exact absurd (.inr hd) hno
    obtain ⟨q, hq, hq3, _⟩ := nextK_some f hfr3
    have : q = 0 ∨ q = 1 ∨ q = 2 := by omega
    rcases this with rfl | rfl | rfl
    · exact Begin_0 h hCl hfr3 hW hH t sb pic hfn hdue hq hP
    · exact Begin_1 h hCl hfr3 hW hH t sb pic hfn hdue hq hP
    · exact Begin_2 h hCl hfr3 hW hH t sb pic hfn hdue hq hP
end Go.Proofs.Ytfnockbgkcgpkaa
