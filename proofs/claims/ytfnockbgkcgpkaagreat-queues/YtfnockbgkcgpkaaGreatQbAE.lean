import Derived.Test.YtfnockbgkcgpkaaGreatQbQ
import Derived.Test.YtfnockbgkcgpkaaGreatQbM
import Derived.Test.YtfnockbgkcgpkaaGreatQbK
import Derived.Test.YtfnockbgkcgpkaaGreatQbI
set_option linter.all false
namespace Go.Proofs.YtfnockbgkcgpkaaGreat
open Go.RowKit Go.Proofs.Panes
set_option maxRecDepth 100000

def pptr (o : Option Nat) : Value := .pointer (o.map fun cp => ⟨cp, 0, none⟩)
/-- The program's screen, in memory: its block, its clients' block. -/
structure PScr (w : World) (xp kb : Nat) (c : Cfg) (ps : List (Option Nat)) : Prop where
  scr : ∃ sv fv tk : Value, w.heap[xp]? = some (.cells #[.int .i64 c.w, .int .i64 c.h, .int .i64 c.clients, .int .i64 c.queue, .int .i64 c.most, .int .i64 c.quantum, .int .i64 c.surfaces, .int .i64 c.behind, .slice (some ⟨kb, 0, none⟩) ps.length ps.length, sv, fv, tk] 108)
  cls : w.heap[kb]? = some (.cells (ps.map pptr).toArray 104)
theorem PScr.but {S : Nat → Prop} {w w' : World} {xp kb : Nat} {c : Cfg} {ps : List (Option Nat)} (h : PScr w xp kb c ps) (hb : But S w w') (h1 : ¬ S xp) (h2 : ¬ S kb) : PScr w' xp kb c ps := by
  obtain ⟨sv, fv, tk, hs⟩ := h.scr
  exact ⟨⟨sv, fv, tk, hb.heap hs h1⟩, hb.heap h.cls h2⟩
theorem PScr.below {w w' : World} {xp kb : Nat} {c : Cfg} {ps : List (Option Nat)} (h : PScr w xp kb c ps) (hb : Below w.heap.size w w') : PScr w' xp kb c ps := h.but (S := fun _ => False) (.of_below hb) (fun h => h) (fun h => h)
theorem PScr.apart {w : World} {xp kb : Nat} {c : Cfg} {ps : List (Option Nat)} (h : PScr w xp kb c ps) : xp ≠ kb := fun e => by
  obtain ⟨sv, fv, tk, hs⟩ := h.scr
  have := h.cls
  rw [← e, hs] at this
  simp at this
theorem PScr.at {w : World} {xp kb : Nat} {c : Cfg} {ps : List (Option Nat)} (h : PScr w xp kb c ps) {j : Nat} {o : Option Nat} (ho : ps[j]? = some o) : w.cell? ⟨kb, j, none⟩ = some (pptr o) := by
  rw [blk_cell h.cls]; simp [ho]

theorem run_equal_nil_ptr {P : Program} (t e : TypeId) (a : Addr) (d : Nat) (h : P.underlying t = some (.pointer e)) (u : World) : (Op.equalIn (d + 1) t (.pointer none) (.pointer (some a))).run P u = .ok false u := by
  simp [Op.equalIn, run_underlying h]
theorem run_eql_nil_ptr {P : Program} {e : TypeId} (t : TypeId) (a : Addr) (h : P.underlying t = some (.pointer e)) (u : World) : (binOp .eql t (.pointer none) (.pointer (some a))).run P u = .ok (.bool false) u := by
  have hh : (Op.equal t (.pointer none) (.pointer (some a))).run P u = .ok false u := run_equal_nil_ptr t e a 9999 h u
  simp only [binOp]
  simp [hh]
def firstNone : List (Option Nat) → Option Nat
  | [] => none
  | none :: _ => some 0
  | some _ :: l => (firstNone l).map (· + 1)
theorem firstNone_some : ∀ (l : List (Option Nat)) (k : Nat), (∀ (i : Nat) (d : Option Nat), i < k → l[i]? = some d → d ≠ none) → l[k]? = some none → firstNone l = some k
  | [], k, _, h => by simp at h
  | none :: l, 0, _, h => rfl
  | some d :: l, 0, _, h => by simp at h
  | none :: l, k + 1, hb, h => absurd rfl (hb 0 none (by omega) rfl)
  | some d :: l, k + 1, hb, h => by
    have ih := firstNone_some l k (fun i x hi hx => hb (i + 1) x (by omega) (by simpa using hx)) (by simpa using h)
    simp [firstNone, ih]
theorem firstNone_none : ∀ (l : List (Option Nat)), (∀ (i : Nat) (d : Option Nat), l[i]? = some d → d ≠ none) → firstNone l = none
  | [], _ => rfl
  | none :: l, hb => absurd rfl (hb 0 none rfl)
  | some d :: l, hb => by
    have ih := firstNone_none l (fun i x hx => hb (i + 1) x (by simpa using hx))
    simp [firstNone, ih]

theorem firstNone_at : ∀ (l : List (Option Nat)) (k : Nat), firstNone l = some k → l[k]? = some none
  | [], k, h => by simp [firstNone] at h
  | none :: l, k, h => by simp [firstNone] at h; subst h; rfl
  | some d :: l, k, h => by
    simp only [firstNone, Option.map_eq_some_iff] at h
    obtain ⟨q, hq, rfl⟩ := h
    simpa using firstNone_at l q hq

set_option maxHeartbeats 2000000 in
theorem pindex_any (kb : Nat) (ps : List (Option Nat)) (w : World) (hc : ∀ (j : Nat) (o : Option Nat), ps[j]? = some o → w.cell? ⟨kb, j, none⟩ = some (pptr o)) (hl : ps.length ≤ 1000) :
    Calls Tryz.prog 42 #[.slice (some ⟨kb, 0, none⟩) ps.length ps.length, .pointer none] w fun e w' => ∃ n : Int, e = .returned (.int .i64 n) ∧ (∃ q, w' = w.drewN q) ∧ ((firstNone ps = none ∧ n = -1) ∨ ∃ k : Nat, firstNone ps = some k ∧ n = (k : Int)) := by
  have HC := hide hc
  clear hc
  go_enter Tryz.func42, Tryz.ntmps42
  go_wp2
  go_loopw [8] (fun i wr => ∃ k : Nat, k ≤ ps.length ∧ i = .int .i64 k ∧ (∃ q, wr = w.drewN q) ∧ ∀ (i : Nat) (d : Option Nat), i < k → ps[i]? = some d → d ≠ none) (fun i _ => ps.length - (intOf i).toNat)
  case atStart => exact ⟨0, Nat.zero_le _, rfl, ⟨0, rfl⟩, fun i d hi => by omega⟩
  case round =>
    obtain ⟨k, hk, rfl, ⟨q, rfl⟩, hall⟩ := hrel
    have hall' := hide hall
    clear hall
    by_cases hlt : k < ps.length
    · obtain ⟨d, hd⟩ : ∃ d, ps[k]? = some d := ⟨ps[k], by simp [hlt]⟩
      have b0 : (w.drewN q).cell? ⟨kb, k, none⟩ = some (pptr d) := (unhide HC) k d hd
      have i0 : (0 : Int) ≤ (k : Int) := by omega
      have i1 : (k : Int) < (ps.length : Int) := by omega
      have HD := hide hd
      clear hd
      cases d with
      | none =>
        unfold pptr at b0
        simp only [Option.map_none] at b0
        go_wp2
        go_ret
        exact ⟨k, rfl, ⟨q, rfl⟩, .inr ⟨k, firstNone_some ps k (unhide hall') (unhide HD), rfl⟩⟩
      | some cp =>
        unfold pptr at b0
        simp only [Option.map_some] at b0
        have qn : ∀ u : World, (binOp .eql 104 (.pointer none) (.pointer (some ⟨cp, 0, none⟩))).run Tryz.prog u = .ok (.bool false) u := fun u => by
          exact run_eql_nil_ptr _ _ Tryz.underlying104 u
        go_wp2
        go_roundw
        case rel =>
          refine ⟨k + 1, by omega, by go_num, ⟨_, rfl⟩, fun i x hi hx => ?_⟩
          rcases Nat.lt_or_ge i k with c | c
          · exact (unhide hall') i x c hx
          · have e : i = k := by omega
            subst e
            rw [unhide HD] at hx
            cases hx
            exact fun h => by cases h
        case measure => simp [intOf]; omega
    · have i1 : ¬ (k : Int) < (ps.length : Int) := by omega
      go_wp2
      go_ret
      refine ⟨-1, rfl, ⟨q, rfl⟩, .inl ⟨firstNone_none ps fun i d hd => (unhide hall') i d ?_ hd, rfl⟩⟩
      have := (List.getElem?_eq_some_iff.1 hd).1
      omega

def isCon (ps : List (Option Nat)) (n : Int) : Bool := decide (0 ≤ n) && (match ps[n.toNat]? with | some (some _) => true | _ => false)

set_option maxHeartbeats 2000000 in
theorem connected_any {w : World} {xp kb : Nat} {c : Cfg} {ps : List (Option Nat)} (h : PScr w xp kb c ps) (hl : ps.length ≤ 4) (n : Int) :
    Calls Tryz.prog 43 #[.pointer (some ⟨xp, 0, none⟩), .int .i64 n] w fun e w' => e = .returned (.bool (isCon ps n)) ∧ Below w.heap.size w w' := by
  obtain ⟨sv, fv, tk, hs⟩ := h.scr
  have c8 : w.cell? ⟨xp, 8, none⟩ = some (.slice (some ⟨kb, 0, none⟩) ps.length ps.length) := blk_cell hs 8
  have hw : IntKind.i64.wrap ((ps.length : Int) - 1) = (ps.length : Int) - 1 := by rw [IntKind.wrap_i64]; omega
  have CW : Hid (∀ w, Calls Tryz.prog 75 #[.int .i64 n, .int .i64 0, .int .i64 ((ps.length : Int) - 1)] w fun e w' => e = .returned (.bool (inB n 0 ((ps.length : Int) - 1))) ∧ w' = w) := fun w => within_any _ _ _ w
  by_cases hin : inB n 0 ((ps.length : Int) - 1) = true
  · have hb := hin
    unfold inB at hb
    simp only [Bool.and_eq_true, decide_eq_true_eq] at hb
    obtain ⟨j, rfl⟩ : ∃ j : Nat, n = j := ⟨n.toNat, by omega⟩
    obtain ⟨d, hd⟩ : ∃ d, ps[j]? = some d := ⟨ps[j]'(by omega), by simp⟩
    have a0 := h.at hd
    have e : isCon ps (j : Int) = d.isSome := by simp [isCon, hd]; cases d <;> rfl
    have i0 : (0 : Int) ≤ (j : Int) := by omega
    have i1 : (j : Int) < (ps.length : Int) := by omega
    rw [hin] at CW
    rw [e]
    clear hs h hd e hb hin
    cases d with
    | none =>
      unfold pptr at a0
      simp only [Option.map_none] at a0
      go_enter Tryz.func43, Tryz.ntmps43
      go_wp2_with (go_at_call 75; refine ((unhide CW) _).mono ?_; rintro e w' ⟨rfl, rfl⟩)
      go_ret
      exact ⟨rfl, Below.refl _ _⟩
    | some cp =>
      unfold pptr at a0
      simp only [Option.map_some] at a0
      go_enter Tryz.func43, Tryz.ntmps43
      go_wp2_with (go_at_call 75; refine ((unhide CW) _).mono ?_; rintro e w' ⟨rfl, rfl⟩)
      go_ret
      exact ⟨rfl, Below.refl _ _⟩
  · have hin' : inB n 0 ((ps.length : Int) - 1) = false := by simpa using hin
    have e : isCon ps n = false := by
      unfold inB at hin'
      unfold isCon
      by_cases h0 : 0 ≤ n
      · have : ¬ n.toNat < ps.length := by
          intro hlt
          simp only [Bool.and_eq_false_iff, decide_eq_false_iff_not] at hin'
          omega
        rw [List.getElem?_eq_none (by omega)]
        simp
      · simp [h0]
    rw [hin'] at CW
    rw [e]
    clear hs h e hin hin'
    go_enter Tryz.func43, Tryz.ntmps43
    go_wp2_with (go_at_call 75; refine ((unhide CW) _).mono ?_; rintro e w' ⟨rfl, rfl⟩)
    go_ret
    exact ⟨rfl, Below.refl _ _⟩

theorem pconnect_end {w : World} {xp kb : Nat} {c : Cfg} {ps : List (Option Nat)} (h : PScr w xp kb c ps) {k : Nat} (hk : k < ps.length) {ob : Obj} :
    PScr ((w.setCell ⟨kb, k, none⟩ (.pointer (some ⟨w.heap.size, 0, none⟩))).alloc ob) xp kb c (ps.set k (some w.heap.size)) ∧ ((w.setCell ⟨kb, k, none⟩ (.pointer (some ⟨w.heap.size, 0, none⟩))).alloc ob).heap[w.heap.size]? = some ob ∧ But (fun k => k = kb) w ((w.setCell ⟨kb, k, none⟩ (.pointer (some ⟨w.heap.size, 0, none⟩))).alloc ob) := by
  obtain ⟨sv, fv, tk, hs⟩ := h.scr
  refine ⟨⟨⟨sv, fv, tk, ?_⟩, ?_⟩, new_at _ _ _ (by simp [World.setCell]), ((But.refl (fun k => k = kb) w).setCell (p := ⟨kb, k, none⟩) (.inl rfl) _).alloc _⟩
  · rw [List.length_set]
    exact blk_alloc (blk_other hs h.apart _) _
  · have := blk_alloc (blk_set (i := k) h.cls (.pointer (some ⟨w.heap.size, 0, none⟩))) ob
    rw [List.map_set]
    simpa [pptr] using this

set_option maxHeartbeats 4000000 in
theorem pConnect_any {w : World} {xp kb : Nat} {c : Cfg} {ps : List (Option Nat)} (h : PScr w xp kb c ps) (hl : ps.length ≤ 4) :
    Calls Tryz.prog 15 #[.pointer (some ⟨xp, 0, none⟩)] w fun e w' => (∃ k, firstNone ps = some k ∧ e = .returned (.tuple #[.int .i64 (k : Nat), .int .i64 0]) ∧ ∃ cp, w.heap.size ≤ cp ∧ PScr w' xp kb c (ps.set k (some cp)) ∧ w'.heap[cp]? = some (.cells #[.slice none 0 0, .int .i64 0, .bool false, .bool false, .bool false, .bool false] 113) ∧ But (fun k => k = kb) w w') ∨ (firstNone ps = none ∧ e = .returned (.tuple #[.int .i64 0, .int .i64 5]) ∧ Below w.heap.size w w') := by
  obtain ⟨sv, fv, tk, hs⟩ := id h.scr
  have c8 : w.cell? ⟨xp, 8, none⟩ = some (.slice (some ⟨kb, 0, none⟩) ps.length ps.length) := blk_cell hs 8
  have HI := hide (pindex_any kb ps w (fun j o ho => h.at ho) (by omega))
  have HH := hide h
  clear hs h
  go_enter Tryz.func15, Tryz.ntmps15
  go_wp2_with fail
  refine (unhide HI).mono ?_
  rintro e w1 ⟨n, rfl, ⟨q, rfl⟩, hn⟩
  clear HI
  rcases hn with ⟨hn, rfl⟩ | ⟨k, hn, rfl⟩
  · have HN := hide hn
    clear hn
    go_wp2
    go_ret2
    exact .inr ⟨unhide HN, rfl, below_drewN (Below.refl _ _) _⟩
  · have hat := firstNone_at ps k hn
    have hkl := (List.getElem?_eq_some_iff.1 hat).1
    have hkb := lt_of_heap (unhide HH).cls
    have a0 : (w.drewN q).cell? ⟨kb, k, none⟩ = some (.pointer none) := (unhide HH).at hat
    have az : ∀ t, (w.drewN q).frozen? ⟨kb, t, none⟩ = false := blk_thaw (unhide HH).cls
    have d8 : (w.drewN q).cell? ⟨xp, 8, none⟩ = some (.slice (some ⟨kb, 0, none⟩) ps.length ps.length) := c8
    have i0 : (0 : Int) ≤ (k : Int) := by omega
    have i1 : (k : Int) < (ps.length : Int) := by omega
    have i2 : ¬ (k : Int) < 0 := by omega
    have HN := hide hn
    have hkb' : kb < (w.drewN q).heap.size := hkb
    have hH1 : PScr (w.drewN q) xp kb c ps := (unhide HH).below (below_drewN (Below.refl _ _) _)
    have hB1 : But (fun k => k = kb) w (w.drewN q) := .of_below (below_drewN (Below.refl _ _) _)
    clear hn hat c8
    generalize w.drewN q = w1 at *
    have az1 : ∀ (t : Nat) (ob : Obj), (w1.alloc ob).frozen? ⟨kb, t, none⟩ = false := fun t ob => (World.frozen?_of_block (w := w1) (Below.heap_alloc _ _ _ hkb')).trans (az t)
    have HH1 := hide hH1
    have HB1 := hide hB1
    clear hH1 hB1 i2
    go_wp2
    go_ret2
    have hw1 := (unhide HB1).size
    obtain ⟨e1, e2, e3⟩ := pconnect_end (unhide HH1) hkl
    exact .inl ⟨k, unhide HN, rfl, w1.heap.size, hw1, e1, e2, (unhide HB1).step e3 (fun _ c => .inl c)⟩
end Go.Proofs.YtfnockbgkcgpkaaGreat

namespace Go.Proofs.YtfnockbgkcgpkaaGreat
open Go.RowKit Go.Proofs.Panes
set_option maxRecDepth 100000

/-- A client of a screen: as the program has it, and as the document has it. -/
structure Kl where
  cp : Nat
  pq : Value
  cr : Int
  b : List Bool
  m : Nat
  q : Value
  dcr : Int
  wv : Value
def kdoc : Option Kl → DCl
  | none => dnone
  | some k => ⟨true, k.q, k.dcr, k.wv⟩
def kptr (k : Option Kl) : Option Nat := k.map Kl.cp
def kcells (k : Kl) : List Value := [k.pq, .int .i64 k.cr] ++ k.b.map Value.bool
/-- A client is right: its blocks bear its colour. -/
structure KlOk (o : Nat → Nat × Nat) (i j : Nat) (w : World) (base S : Nat) (k : Kl) : Prop where
  blen : k.b.length = 4
  cell : w.heap[k.cp]? = some (.cells (kcells k).toArray 113)
  pq : ∃ xs, w.ownsRow base 195 2 k.pq k.m xs
  q : ∃ xs, w.ownsRow base 53 1 k.q k.m xs
  wv : OwnB w base k.wv (k.b.take S)
  ge : base ≤ k.cp
  col : ∀ g, (g = k.cp ∨ k.pq.ownBlock = some g ∨ k.q.ownBlock = some g ∨ k.wv.ownBlock = some g) → o g = (i, j + 1)
  few : k.m ≤ 8
theorem KlOk.lt {o : Nat → Nat × Nat} {i j : Nat} {w : World} {base S : Nat} {k : Kl} (h : KlOk o i j w base S k) (g : Nat) (hg : g = k.cp ∨ k.pq.ownBlock = some g ∨ k.q.ownBlock = some g ∨ k.wv.ownBlock = some g) : base ≤ g ∧ g < w.heap.size := by
  obtain ⟨xs, h1⟩ := h.pq
  obtain ⟨ys, h2⟩ := h.q
  rcases hg with e | e | e | e
  · subst e; exact ⟨h.ge, lt_of_heap h.cell⟩
  · exact World.ownsRow.lt h1 g e
  · exact World.ownsRow.lt h2 g e
  · exact World.ownsRow.lt h.wv g e
/-- Colours of what was there stay. -/
def Same (w : World) (o o' : Nat → Nat × Nat) : Prop := ∀ g, g < w.heap.size → o' g = o g
theorem KlOk.but {o o' : Nat → Nat × Nat} {i j : Nat} {w w' : World} {base S : Nat} {k : Kl} {T : Nat → Prop} (h : KlOk o i j w base S k) (hb : But T w w') (ho : Same w o o') (hT : ∀ g, base ≤ g → o g = (i, j + 1) → ¬ T g) : KlOk o' i j w' base S k := by
  have hn : ∀ g, (g = k.cp ∨ k.pq.ownBlock = some g ∨ k.q.ownBlock = some g ∨ k.wv.ownBlock = some g) → ¬ T g := fun g hg => hT g (h.lt g hg).1 (h.col g hg)
  obtain ⟨xs, h1⟩ := h.pq
  obtain ⟨ys, h2⟩ := h.q
  exact ⟨h.blen, hb.heap h.cell (hn _ (.inl rfl)), ⟨xs, row_but h1 hb (fun g hg => hn g (.inr (.inl hg)))⟩, ⟨ys, row_but h2 hb (fun g hg => hn g (.inr (.inr (.inl hg))))⟩, row_but h.wv hb (fun g hg => hn g (.inr (.inr (.inr hg)))), h.ge, fun g hg => (ho g (h.lt g hg).2).trans (h.col g hg), h.few⟩

/-- A screen of the program, the document's. -/
structure Sh where
  xp : Nat
  kb : Nat
  sp : Nat
  cb : Nat
  c : Cfg
  S : Nat
  ks : List (Option Kl)
structure ShOk (o : Nat → Nat × Nat) (i : Nat) (w : World) (base : Nat) (s : Sh) : Prop where
  scr : PScr w s.xp s.kb s.c (s.ks.map kptr)
  doc : DocSt w s.sp s.cb s.c (s.ks.map kdoc)
  cfg : okCfg s.c = true
  sur : s.c.surfaces = s.S
  len : s.ks.length ≤ 4
  cl : ∀ (j : Nat) (k : Kl), s.ks[j]? = some (some k) → KlOk o i j w base s.S k
  ge : ∀ g, (g = s.xp ∨ g = s.kb ∨ g = s.sp ∨ g = s.cb) → base ≤ g
  col : ∀ g, (g = s.xp ∨ g = s.kb ∨ g = s.sp ∨ g = s.cb) → o g = (i, 0)
theorem ShOk.lt {o : Nat → Nat × Nat} {i : Nat} {w : World} {base : Nat} {s : Sh} (h : ShOk o i w base s) (g : Nat) (hg : g = s.xp ∨ g = s.kb ∨ g = s.sp ∨ g = s.cb) : g < w.heap.size := by
  obtain ⟨sv, fv, tk, hs⟩ := h.scr.scr
  obtain ⟨cs, hs', _⟩ := h.doc.scr
  rcases hg with e | e | e | e
  · subst e; exact lt_of_heap hs
  · subst e; exact lt_of_heap h.scr.cls
  · subst e; exact lt_of_heap hs'
  · subst e; exact lt_of_heap h.doc.cls
theorem ShOk.sbd {o : Nat → Nat × Nat} {i : Nat} {w : World} {base : Nat} {s : Sh} (h : ShOk o i w base s) : 1 ≤ s.S ∧ s.S ≤ 4 ∧ s.c.queue ≤ 8 := by
  have h1 := h.cfg
  have h2 := h.sur
  unfold okCfg inB at h1
  simp only [Bool.and_eq_true, decide_eq_true_eq] at h1
  omega
theorem ShOk.but {o o' : Nat → Nat × Nat} {i : Nat} {w w' : World} {base : Nat} {s : Sh} {T : Nat → Prop} (h : ShOk o i w base s) (hb : But T w w') (ho : Same w o o') (hT : ∀ g, base ≤ g → (o g).1 = i → ¬ T g) : ShOk o' i w' base s := by
  have hn : ∀ g, (g = s.xp ∨ g = s.kb ∨ g = s.sp ∨ g = s.cb) → ¬ T g := fun g hg => hT g (h.ge g hg) (by rw [h.col g hg])
  exact ⟨h.scr.but hb (hn _ (.inl rfl)) (hn _ (.inr (.inl rfl))), h.doc.but hb (hn _ (.inr (.inr (.inl rfl)))) (hn _ (.inr (.inr (.inr rfl)))), h.cfg, h.sur, h.len, fun j k hk => (h.cl j k hk).but hb ho (fun g hg hc => hT g hg (by rw [hc])), h.ge, fun g hg => (ho g (h.lt g hg)).trans (h.col g hg)⟩
/-- What is new bears a colour. -/
def paint (w : World) (o : Nat → Nat × Nat) (q : Nat × Nat) : Nat → Nat × Nat := fun g => if g < w.heap.size then o g else q
theorem paint_same (w : World) (o : Nat → Nat × Nat) (q : Nat × Nat) : Same w o (paint w o q) := fun g hg => by simp [paint, hg]
theorem paint_new {w : World} {o : Nat → Nat × Nat} {q : Nat × Nat} {g : Nat} (hg : w.heap.size ≤ g) : paint w o q g = q := by simp [paint]; omega

def shcell (s : Sh) : List Value := [.pointer (some ⟨s.xp, 0, none⟩), .pointer (some ⟨s.sp, 0, none⟩)]
def shcells (l : List Sh) : List Value := l.flatMap shcell
theorem shcells_len (l : List Sh) : (shcells l).length = l.length * 2 := by
  induction l with
  | nil => rfl
  | cons r l ih => show (shcell r ++ shcells l).length = _; rw [List.length_append, ih]; simp [shcell]; omega
theorem shcells_append (k l : List Sh) : shcells (k ++ l) = shcells k ++ shcells l := by simp [shcells]
theorem shcells_at : ∀ (l : List Sh) (j : Nat) (s : Sh), l[j]? = some s → (shcells l)[j * 2]? = some (.pointer (some ⟨s.xp, 0, none⟩)) ∧ (shcells l)[j * 2 + 1]? = some (.pointer (some ⟨s.sp, 0, none⟩))
  | [], j, s, h => by simp at h
  | q :: l, 0, s, h => by
    simp at h; subst h
    show (shcell q ++ shcells l)[0]? = _ ∧ (shcell q ++ shcells l)[1]? = _
    simp [shcell]
  | q :: l, j + 1, s, h => by
    have h' : l[j]? = some s := by simpa using h
    have ih := shcells_at l j s h'
    have e : ∀ t, (shcells (q :: l))[(j + 1) * 2 + t]? = (shcells l)[j * 2 + t]? := by
      intro t
      show (shcell q ++ shcells l)[_]? = _
      rw [List.getElem?_append_right (by simp [shcell]; omega)]
      congr 1
      simp [shcell]; omega
    exact ⟨by have := e 0; simp only [Nat.add_zero] at this; rw [this]; exact ih.1, by rw [e 1]; exact ih.2⟩
/-- The pointers of a shelf stay where another state of it stands. -/
theorem shcells_set (l : List Sh) (j : Nat) (s s' : Sh) (h : l[j]? = some s) (hx : s'.xp = s.xp) (hp : s'.sp = s.sp) : shcells (l.set j s') = shcells l := by
  induction l generalizing j with
  | nil => simp at h
  | cons q l ih =>
    cases j with
    | zero => simp at h; subst h; show shcell s' ++ shcells l = shcell q ++ shcells l; rw [show shcell s' = shcell q by unfold shcell; rw [hx, hp]]
    | succ j => show shcell q ++ shcells (l.set j s') = shcell q ++ shcells l; rw [ih j (by simpa using h)]

/-- A list of configurations, in blocks of U. -/
def CAt (w : World) (b off : Nat) (c : Cfg) : Prop :=
  w.cell? ⟨b, off, none⟩ = some (.int .i64 c.w) ∧ w.cell? ⟨b, off + 1, none⟩ = some (.int .i64 c.h) ∧ w.cell? ⟨b, off + 2, none⟩ = some (.int .i64 c.clients) ∧ w.cell? ⟨b, off + 3, none⟩ = some (.int .i64 c.queue) ∧ w.cell? ⟨b, off + 4, none⟩ = some (.int .i64 c.most) ∧ w.cell? ⟨b, off + 5, none⟩ = some (.int .i64 c.quantum) ∧ w.cell? ⟨b, off + 6, none⟩ = some (.int .i64 c.surfaces) ∧ w.cell? ⟨b, off + 7, none⟩ = some (.int .i64 c.behind)
def RdC (U : Nat → Prop) (w : World) (v : Value) (l : List Cfg) : Prop :=
  ∃ ao cap, v = .slice ao l.length cap ∧ (l ≠ [] → ∃ b off, ao = some ⟨b, off, none⟩ ∧ U b ∧ b < w.heap.size ∧ ∀ (j : Nat) (c : Cfg), l[j]? = some c → CAt w b (off + j * 8) c)
theorem RdC.but {U S : Nat → Prop} {w w' : World} {v : Value} {l : List Cfg} (h : RdC U w v l) (hb : But S w w') (hs : ∀ k, U k → ¬ S k) : RdC U w' v l := by
  obtain ⟨ao, cap, e, h3⟩ := h
  refine ⟨ao, cap, e, fun hne => ?_⟩
  obtain ⟨b, off, e, hu, hlt, hc⟩ := h3 hne
  have eq : ∀ q, w'.cell? ⟨b, q, none⟩ = w.cell? ⟨b, q, none⟩ := fun q => World.cell?_of_block (hb.block b hlt (hs b hu))
  refine ⟨b, off, e, hu, Nat.lt_of_lt_of_le hlt hb.size, fun j c hj => ?_⟩
  obtain ⟨g0, g1, g2, g3, g4, g5, g6, g7⟩ := hc j c hj
  exact ⟨(eq _).trans g0, (eq _).trans g1, (eq _).trans g2, (eq _).trans g3, (eq _).trans g4, (eq _).trans g5, (eq _).trans g6, (eq _).trans g7⟩
/-- A list of lists of operations, in blocks of U. -/
def RdLO (U : Nat → Prop) (w : World) (v : Value) (L : List (List Opn)) : Prop :=
  ∃ ao cap, v = .slice ao L.length cap ∧ (L ≠ [] → ∃ b off, ao = some ⟨b, off, none⟩ ∧ U b ∧ b < w.heap.size ∧ ∀ (i : Nat) (l : List Opn), L[i]? = some l → ∃ v', w.cell? ⟨b, off + i, none⟩ = some v' ∧ RdO U w v' l)
theorem RdLO.but {U S : Nat → Prop} {w w' : World} {v : Value} {L : List (List Opn)} (h : RdLO U w v L) (hb : But S w w') (hs : ∀ k, U k → ¬ S k) : RdLO U w' v L := by
  obtain ⟨ao, cap, e, h3⟩ := h
  refine ⟨ao, cap, e, fun hne => ?_⟩
  obtain ⟨b, off, e, hu, hlt, hc⟩ := h3 hne
  refine ⟨b, off, e, hu, Nat.lt_of_lt_of_le hlt hb.size, fun i l hl => ?_⟩
  obtain ⟨v', h1, h2⟩ := hc i l hl
  exact ⟨v', (World.cell?_of_block (hb.block b hlt (hs b hu))).trans h1, h2.but hb hs⟩

/-- The world of a script, between its steps. -/
structure QSt (U : Nat → Prop) (base wb : Nat) (gr gc go : Value) (C : List Cfg) (O : List (List Opn)) (w : World) (ss : Value) (shs : List Sh) (o : Nat → Nat × Nat) : Prop where
  box : w.heap[wb]? = some (.cells #[gr, gc, go, ss, .slice none 0 0, .slice none 0 0, .slice none 0 0] 39)
  own : w.ownsRow base 57 2 ss shs.length (shcells shs)
  each : ∀ (i : Nat) (s : Sh), shs[i]? = some s → ShOk o (i + 1) w base s
  colw : o wb = (0, 0)
  cols : ∀ g, ss.ownBlock = some g → o g = (0, 0)
  base_le : base ≤ w.heap.size
  rdC : RdC U w gc C
  rdO : RdLO U w go O
  far : ∀ k, U k → k < base ∧ k ≠ wb
/-- What is written in a step. -/
def Wr (base wb : Nat) : Nat → Prop := fun k => k = wb ∨ base ≤ k
/-- A step that changes a shelf. -/
theorem QSt.put {U : Nat → Prop} {base wb : Nat} {gr gc go : Value} {C : List Cfg} {O : List (List Opn)} {w w' : World} {ss : Value} {shs : List Sh} {o o' : Nat → Nat × Nat} (h : QSt U base wb gr gc go C O w ss shs o) {i : Nat} {s s' : Sh} (hs : shs[i]? = some s) (hx : s'.xp = s.xp) (hp : s'.sp = s.sp) (hs' : ShOk o' (i + 1) w' base s') {T : Nat → Prop} (hb : But T w w') (ho : Same w o o') (hT : ∀ g, g < w.heap.size → T g → base ≤ g ∧ (o g).1 = i + 1) :
    QSt U base wb gr gc go C O w' ss (shs.set i s') o' ∧ But (Wr base wb) w w' := by
  have hb' : But (fun g => base ≤ g ∧ (o g).1 = i + 1) w w' := hb.wide hT
  have hU : ∀ k, U k → ¬ (base ≤ k ∧ (o k).1 = i + 1) := fun k hk c => by have := (h.far k hk).1; omega
  refine ⟨⟨hb'.heap h.box (fun c => ?_), ?_, fun j t ht => ?_, (ho wb (lt_of_heap h.box)).trans h.colw, fun g hg => (ho g (World.ownsRow.lt h.own g hg).2).trans (h.cols g hg), Nat.le_trans h.base_le hb.size, h.rdC.but hb' hU, h.rdO.but hb' hU, h.far⟩, hb'.wide (fun k _ c => .inr c.1)⟩
  · rw [h.colw] at c; simp at c
  · rw [shcells_set shs i s s' hs hx hp, List.length_set]
    exact row_but h.own hb' (fun g hg c => by rw [h.cols g hg] at c; simp at c)
  · by_cases e : j = i
    · subst e
      have hl := (List.getElem?_eq_some_iff.1 hs).1
      rw [List.getElem?_set_self hl] at ht
      cases ht
      exact hs'
    · rw [List.getElem?_set_ne (Ne.symm e)] at ht
      exact (h.each j t ht).but hb' ho (fun g hg hc c => by rw [hc] at c; omega)
/-- A step that changes nothing of it. -/
theorem QSt.below {U : Nat → Prop} {base wb : Nat} {gr gc go : Value} {C : List Cfg} {O : List (List Opn)} {w w' : World} {ss : Value} {shs : List Sh} {o : Nat → Nat × Nat} (h : QSt U base wb gr gc go C O w ss shs o) (hb : Below w.heap.size w w') :
    QSt U base wb gr gc go C O w' ss shs o ∧ But (Wr base wb) w w' := by
  have hb' : But (fun _ => False) w w' := .of_below hb
  exact ⟨⟨hb'.heap h.box (fun c => c), row_but h.own hb' (fun _ _ c => c), fun i s hs => (h.each i s hs).but hb' (fun _ _ => rfl) (fun _ _ _ c => c), h.colw, h.cols, Nat.le_trans h.base_le hb.size, h.rdC.but hb' (fun _ _ c => c), h.rdO.but hb' (fun _ _ c => c), h.far⟩, .of_below hb⟩
end Go.Proofs.YtfnockbgkcgpkaaGreat

namespace Go.Proofs.YtfnockbgkcgpkaaGreat
open Go.RowKit Go.Proofs.Panes
set_option maxRecDepth 100000

theorem row_lower {w : World} {base base' : Nat} {e : TypeId} {size : Nat} {v : Value} {n : Nat} {xs : List Value} (h : w.ownsRow base e size v n xs) (hb : base' ≤ base) : w.ownsRow base' e size v n xs := by
  refine ⟨h.1, ?_⟩
  rcases h.2 with ⟨e1, e2⟩ | ⟨g, cap, cur, e, hbk, r⟩
  · exact .inl ⟨e1, e2⟩
  · exact .inr ⟨g, cap, cur, e, Nat.le_trans hb hbk, r⟩
theorem first_same : ∀ ks : List (Option Kl), firstNone (ks.map kptr) = firstFree (ks.map kdoc)
  | [] => rfl
  | none :: l => rfl
  | some k :: l => by
    show (firstNone (l.map kptr)).map (· + 1) = (if (true : Bool) = false then some 0 else (firstFree (l.map kdoc)).map (· + 1))
    rw [first_same l]; rfl
theorem con_same (ks : List (Option Kl)) (n : Int) : isCon (ks.map kptr) n = isThere (ks.map kdoc) n := by
  unfold isCon isThere
  rw [List.getElem?_map, List.getElem?_map]
  cases ks[n.toNat]? with
  | none => rfl
  | some k => cases k <;> rfl
/-- Connect: a client more. -/
theorem ShOk.connect {o : Nat → Nat × Nat} {i : Nat} {w w2 w3 : World} {base : Nat} {s : Sh} (h : ShOk o i w base s) (hbase : base ≤ w.heap.size) {k cp g : Nat} (hk : firstNone (s.ks.map kptr) = some k)
    (hP : PScr w2 s.xp s.kb s.c ((s.ks.map kptr).set k (some cp))) (hcp : w.heap.size ≤ cp) (hcell : w2.heap[cp]? = some (.cells #[.slice none 0 0, .int .i64 0, .bool false, .bool false, .bool false, .bool false] 113)) (hb2 : But (fun g => g = s.kb) w w2)
    (hD : DocSt w3 s.sp s.cb s.c ((s.ks.map kdoc).set k ⟨true, .slice none 0 0, 0, .slice (some ⟨g, 0, none⟩) s.S s.S⟩)) (hg : w2.heap.size ≤ g) (hO : OwnB w3 w2.heap.size (.slice (some ⟨g, 0, none⟩) s.S s.S) (List.replicate s.S false)) (hb3 : But (fun g => g = s.cb) w2 w3) :
    ShOk (paint w o (i, k + 1)) i w3 base { s with ks := s.ks.set k (some ⟨cp, .slice none 0 0, 0, [false, false, false, false], 0, .slice none 0 0, 0, .slice (some ⟨g, 0, none⟩) s.S s.S⟩) } ∧ But (fun g => g = s.kb ∨ g = s.cb) w w3 := by
  have hs2 := hb2.size
  have hcbl := h.lt s.cb (.inr (.inr (.inr rfl)))
  have hxl := h.lt s.xp (.inl rfl)
  have hsbd := h.sbd
  have hB : But (fun g => g = s.kb ∨ g = s.cb) w w3 := (hb2.wide (fun _ _ e => .inl e)).step hb3 (fun _ e => .inl (.inr e))
  have hxcb : s.xp ≠ s.cb := fun e => by
    obtain ⟨sv, fv, tk, hs⟩ := h.scr.scr
    have := h.doc.cls
    rw [← e, hs] at this
    simp at this
  have hkcb : s.kb ≠ s.cb := fun e => by
    have h1 := h.scr.cls
    have := h.doc.cls
    rw [← e, h1] at this
    simp at this
  refine ⟨⟨?_, ?_, h.cfg, h.sur, by simpa using h.len, fun j q hq => ?_, h.ge, fun q hq => (paint_same _ _ _ q (h.lt q hq)).trans (h.col q hq)⟩, hB⟩
  · show PScr w3 s.xp s.kb s.c ((s.ks.set k _).map kptr)
    rw [List.map_set]
    exact hP.but hb3 hxcb hkcb
  · show DocSt w3 s.sp s.cb s.c ((s.ks.set k _).map kdoc)
    rw [List.map_set]
    exact hD
  · have hq' : (s.ks.set k (some ⟨cp, .slice none 0 0, 0, [false, false, false, false], 0, .slice none 0 0, 0, .slice (some ⟨g, 0, none⟩) s.S s.S⟩))[j]? = some (some q) := hq
    by_cases e : j = k
    · subst e
      have hl : j < s.ks.length := by have := (List.getElem?_eq_some_iff.1 (firstNone_at _ _ hk)).1; simpa using this
      rw [List.getElem?_set_self hl] at hq'
      simp only [Option.some.injEq] at hq'
      subst hq'
      refine ⟨rfl, hb3.heap hcell (fun e : cp = s.cb => by omega), ⟨[], World.ownsRow_nil _ _ _ _⟩, ⟨[], World.ownsRow_nil _ _ _ _⟩, ?_, by show base ≤ cp; omega, fun q hq => ?_, Nat.zero_le _⟩
      · have e : ([false, false, false, false] : List Bool).take s.S = List.replicate s.S false := by
          have : s.S = 1 ∨ s.S = 2 ∨ s.S = 3 ∨ s.S = 4 := by omega
          rcases this with c | c | c | c <;> rw [c] <;> rfl
        show OwnB w3 base _ (([false, false, false, false] : List Bool).take s.S)
        rw [e]
        exact row_lower hO (by omega)
      · refine paint_new ?_
        rcases hq with c | c | c | c
        · have c' : q = cp := c
          omega
        · cases c
        · cases c
        · simp only [Value.ownBlock, Option.some.injEq] at c
          omega
    · rw [List.getElem?_set_ne (Ne.symm e)] at hq'
      refine (h.cl j q hq').but hB (paint_same _ _ _) (fun u _ hc c => ?_)
      rcases c with c | c
      · rw [c, h.col _ (.inr (.inl rfl))] at hc; simp at hc
      · rw [c, h.col _ (.inr (.inr (.inr rfl)))] at hc; simp at hc

/-- Submit: a transaction more waits. -/
theorem ShOk.submit {o : Nat → Nat × Nat} {i : Nat} {w w2 w3 : World} {base : Nat} {s : Sh} (h : ShOk o i w base s) (hbase : base ≤ w.heap.size) {j g : Nat} {k : Kl} (hk : s.ks[j]? = some (some k)) {pq' q' : Value} {x : List Bool} (hx : x.length = 4) (hm : k.m < 8)
    (hcell : w2.heap[k.cp]? = some (.cells ([pq', .int .i64 k.cr] ++ x.map Value.bool).toArray 113)) (hpq : ∃ xs, w2.ownsRow base 195 2 pq' (k.m + 1) xs) (hlp : ∀ u, pq'.ownBlock = some u → k.pq.ownBlock = some u ∨ w.heap.size ≤ u) (hb2 : But (fun u => u = k.cp ∨ k.pq.ownBlock = some u) w w2)
    (hD : DocSt w3 s.sp s.cb s.c ((s.ks.map kdoc).set j ⟨true, q', k.dcr, .slice (some ⟨g, 0, none⟩) s.S s.S⟩)) (hO : OwnB w3 w2.heap.size (.slice (some ⟨g, 0, none⟩) s.S s.S) (x.take s.S)) (hq : ∃ xs, w3.ownsRow base 53 1 q' (k.m + 1) xs) (hlq : ∀ u, q'.ownBlock = some u → k.q.ownBlock = some u ∨ w2.heap.size ≤ u) (hg : w2.heap.size ≤ g) (hb3 : But (fun u => u = s.cb ∨ k.q.ownBlock = some u) w2 w3) :
    ShOk (paint w o (i, j + 1)) i w3 base { s with ks := s.ks.set j (some { k with pq := pq', b := x, m := k.m + 1, q := q', wv := .slice (some ⟨g, 0, none⟩) s.S s.S }) } ∧ But (fun u => (u = k.cp ∨ k.pq.ownBlock = some u) ∨ u = s.cb ∨ k.q.ownBlock = some u) w w3 := by
  have hK := h.cl j k hk
  have hs2 := hb2.size
  have hB : But (fun u => (u = k.cp ∨ k.pq.ownBlock = some u) ∨ u = s.cb ∨ k.q.ownBlock = some u) w w3 := (hb2.wide (fun _ _ e => .inl e)).step hb3 (fun _ e => .inl (.inr e))
  have colT : ∀ u, ((u = k.cp ∨ k.pq.ownBlock = some u) ∨ u = s.cb ∨ k.q.ownBlock = some u) → o u = (i, j + 1) ∨ u = s.cb := fun u hu => by
    rcases hu with (c | c) | c | c
    · exact .inl (hK.col u (.inl c))
    · exact .inl (hK.col u (.inr (.inl c)))
    · exact .inr c
    · exact .inl (hK.col u (.inr (.inr (.inl c))))
  have hcbl := h.lt s.cb (.inr (.inr (.inr rfl)))
  have hcbc := h.col s.cb (.inr (.inr (.inr rfl)))
  have fine : ∀ u, u = s.xp ∨ u = s.kb ∨ u = s.sp ∨ u = s.cb → u ≠ s.cb → ¬ ((u = k.cp ∨ k.pq.ownBlock = some u) ∨ u = s.cb ∨ k.q.ownBlock = some u) := fun u hu hne c => by
    rcases colT u c with e | e
    · rw [h.col u hu] at e; simp at e
    · exact hne e
  have hxcb : s.xp ≠ s.cb := fun e => by
    obtain ⟨sv, fv, tk, hs⟩ := h.scr.scr
    have := h.doc.cls
    rw [← e, hs] at this
    simp at this
  have hkcb : s.kb ≠ s.cb := fun e => by
    have h1 := h.scr.cls
    have := h.doc.cls
    rw [← e, h1] at this
    simp at this
  refine ⟨⟨?_, ?_, h.cfg, h.sur, by simpa using h.len, fun t q hq' => ?_, h.ge, fun u hu => (paint_same _ _ _ u (h.lt u hu)).trans (h.col u hu)⟩, hB⟩
  · have e : (s.ks.set j (some { k with pq := pq', b := x, m := k.m + 1, q := q', wv := .slice (some ⟨g, 0, none⟩) s.S s.S })).map kptr = s.ks.map kptr := by
      rw [List.map_set]
      refine List.ext_getElem? fun t => ?_
      by_cases e : t = j
      · subst e
        rw [List.getElem?_set_self (by have := (List.getElem?_eq_some_iff.1 hk).1; simpa using this), List.getElem?_map, hk]
        rfl
      · rw [List.getElem?_set_ne (Ne.symm e)]
    show PScr w3 s.xp s.kb s.c (List.map kptr _)
    rw [e]
    exact h.scr.but hB (fine _ (.inl rfl) hxcb) (fine _ (.inr (.inl rfl)) hkcb)
  · show DocSt w3 s.sp s.cb s.c (List.map kdoc _)
    rw [List.map_set]
    exact hD
  · have hq2 : (s.ks.set j (some { k with pq := pq', b := x, m := k.m + 1, q := q', wv := .slice (some ⟨g, 0, none⟩) s.S s.S }))[t]? = some (some q) := hq'
    by_cases e : t = j
    · subst e
      rw [List.getElem?_set_self (List.getElem?_eq_some_iff.1 hk).1] at hq2
      simp only [Option.some.injEq] at hq2
      subst hq2
      obtain ⟨xs, hp⟩ := hpq
      have n3 : ∀ u, u = k.cp ∨ (w2.ownsRow base 195 2 pq' (k.m + 1) xs ∧ pq'.ownBlock = some u) → ¬ (u = s.cb ∨ k.q.ownBlock = some u) := fun u hu c => by
        obtain ⟨ys, hqq⟩ := hK.q
        rcases hu with e | ⟨_, e⟩
        · subst e
          rcases c with c | c
          · have := h.doc.cls
            rw [← c, hK.cell] at this
            simp at this
          · exact row_kind hqq hK.cell (by decide) c
        · rcases hlp u e with e' | e'
          · obtain ⟨zs, hpp⟩ := hK.pq
            rcases c with c | c
            · subst c; exact row_kind hpp h.doc.cls (by decide) e'
            · exact row_apart hpp hqq (by decide) e' c
          · rcases c with c | c
            · omega
            · have := (World.ownsRow.lt hqq u c).2; omega
      refine ⟨hx, hb3.heap hcell (n3 _ (.inl rfl)), ⟨xs, row_but hp hb3 (fun u hu => n3 u (.inr ⟨hp, hu⟩))⟩, hq, row_lower hO (by omega), hK.ge, fun u hu => ?_, by show k.m + 1 ≤ 8; omega⟩
      have old : ∀ u, (u = k.cp ∨ k.pq.ownBlock = some u ∨ k.q.ownBlock = some u ∨ k.wv.ownBlock = some u) → paint w o (i, t + 1) u = (i, t + 1) := fun u hu => (paint_same _ _ _ u (hK.lt u hu).2).trans (hK.col u hu)
      rcases hu with c | c | c | c
      · exact old u (.inl c)
      · rcases hlp u c with c' | c'
        · exact old u (.inr (.inl c'))
        · exact paint_new c'
      · rcases hlq u c with c' | c'
        · exact old u (.inr (.inr (.inl c')))
        · exact paint_new (by omega)
      · simp only [Value.ownBlock, Option.some.injEq] at c
        exact paint_new (by omega)
    · rw [List.getElem?_set_ne (Ne.symm e)] at hq2
      refine (h.cl t q hq2).but hB (paint_same _ _ _) (fun u _ hc c => ?_)
      rcases colT u c with e' | e'
      · rw [hc] at e'; simp at e'; exact e e'
      · rw [e', hcbc] at hc; simp at hc
end Go.Proofs.YtfnockbgkcgpkaaGreat

namespace Go.Proofs.YtfnockbgkcgpkaaGreat
open Go.RowKit Go.Proofs.Panes
set_option maxRecDepth 100000

/-- New: a shelf more. -/
theorem QSt.more {U : Nat → Prop} {base wb : Nat} {gr gc go : Value} {C : List Cfg} {O : List (List Opn)} {w w3 w4 : World} {ss ss' : Value} {shs : List Sh} {o o' : Nat → Nat × Nat} {s : Sh} (h : QSt U base wb gr gc go C O w ss shs o) (hb : Below w.heap.size w w3) (hs : ShOk o' (shs.length + 1) w3 base s) (ho : Same w o o')
    (hg : But (fun g => ss.ownBlock = some g) w3 w4) (hown : w4.ownsRow base 57 2 ss' (shs.length + 1) (shcells shs ++ shcell s)) (hl : ∀ g, ss'.ownBlock = some g → ss.ownBlock = some g ∨ w3.heap.size ≤ g) :
    QSt U base wb gr gc go C O (w4.setCell ⟨wb, 3, none⟩ ss') ss' (shs ++ [s]) (paint w3 o' (0, 0)) ∧ But (Wr base wb) w (w4.setCell ⟨wb, 3, none⟩ ss') := by
  have hwl := lt_of_heap h.box
  have hs3 := hb.size
  have hs4 := hg.size
  have b3 : But (fun _ => False) w w3 := .of_below hb
  have hB : But (fun g => ss.ownBlock = some g ∨ g = wb) w3 (w4.setCell ⟨wb, 3, none⟩ ss') := (hg.wide (fun _ _ c => .inl c)).setCell (p := ⟨wb, 3, none⟩) (.inl (.inr rfl)) _
  have hBw : But (fun g => ss.ownBlock = some g ∨ g = wb) w (w4.setCell ⟨wb, 3, none⟩ ss') := (b3.wide (fun _ _ c => c.elim)).step hB (fun _ c => .inl c)
  have col : ∀ g, g < w.heap.size → (ss.ownBlock = some g ∨ g = wb) → o g = (0, 0) := fun g _ c => c.elim (h.cols g) (fun e => e ▸ h.colw)
  have hT : ∀ (i : Nat) (g : Nat), g < w.heap.size → (o g).1 = i + 1 → ¬ (ss.ownBlock = some g ∨ g = wb) := fun i g hg c d => by rw [col g hg d] at c; simp at c
  have hwr : But (Wr base wb) w (w4.setCell ⟨wb, 3, none⟩ ss') := hBw.wide (fun g _ c => c.elim (fun c => .inr (World.ownsRow.lt h.own g c).1) (fun e => .inl e))
  have hU : ∀ k, U k → ¬ Wr base wb k := fun k hk c => by
    have := h.far k hk
    rcases c with c | c
    · exact this.2 c
    · omega
  have hwo : ss.ownBlock ≠ some wb := row_kind h.own h.box (by decide)
  have hso : ss'.ownBlock ≠ some wb := fun e => by
    rcases hl wb e with c | c
    · exact hwo c
    · omega
  have hbx4 : w4.heap[wb]? = some (.cells #[gr, gc, go, ss, .slice none 0 0, .slice none 0 0, .slice none 0 0] 39) := hg.heap (b3.heap h.box (fun c => c)) hwo
  refine ⟨⟨?_, ?_, fun i t ht => ?_, ?_, fun g hg' => ?_, Nat.le_trans h.base_le hwr.size, h.rdC.but hwr hU, h.rdO.but hwr hU, h.far⟩, hwr⟩
  · simpa using blk_set (i := 3) hbx4 ss'
  · have e : shcells (shs ++ [s]) = shcells shs ++ shcell s := by rw [shcells_append]; simp [shcells]
    rw [e, List.length_append]
    exact ownsRow_setCell_other hown hso _
  · have hs' : Same w3 o' (paint w3 o' (0, 0)) := paint_same _ _ _
    rcases Nat.lt_or_ge i shs.length with c | c
    · rw [List.getElem?_append_left c] at ht
      have h1 : ShOk (paint w3 o' (0, 0)) (i + 1) (w4.setCell ⟨wb, 3, none⟩ ss') base t := by
        have h0 := h.each i t ht
        have h0' : ShOk o' (i + 1) w3 base t := h0.but b3 ho (fun _ _ _ c => c)
        have h00 : ShOk (fun g => if g < w.heap.size then o g else (0, 0)) (i + 1) w base t := h0.but (But.refl (fun _ => False) w) (fun g hg => by simp [hg]) (fun _ _ _ c => c)
        exact h00.but hBw (fun g hg => by show paint w3 o' (0, 0) g = _; rw [hs' g (by omega), ho g hg]; simp [hg]) (fun g hg hc d => by
          by_cases e : g < w.heap.size
          · simp only [e, if_true] at hc; exact hT i g e hc d
          · simp only [e, if_false] at hc; omega)
      exact h1
    · have e : i = shs.length := by have := (List.getElem?_eq_some_iff.1 ht).1; simp at this; omega
      subst e
      simp at ht
      subst ht
      refine hs.but hB hs' (fun g hgb hc d => ?_)
      have e : o' g = (0, 0) := by
        rcases d with d | d
        · rw [ho g (World.ownsRow.lt h.own g d).2]; exact h.cols g d
        · rw [d, ho wb hwl]; exact h.colw
      rw [e] at hc; simp at hc
  · rw [paint_same w3 o' (0, 0) wb (by omega), ho wb hwl]; exact h.colw
  · rcases hl g hg' with c | c
    · have := (World.ownsRow.lt h.own g c).2
      rw [paint_same w3 o' (0, 0) g (by omega), ho g this]; exact h.cols g c
    · exact paint_new c
end Go.Proofs.YtfnockbgkcgpkaaGreat
