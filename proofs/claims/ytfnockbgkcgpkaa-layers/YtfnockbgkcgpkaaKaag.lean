import Derived.Test.YtfnockbgkcgpkaaKaaf
import Derived.Laws.MakeOwn
import Derived.Laws.CopyRow
import Derived.Deep.DrawnRows
import Derived.Lib.Overlaps
import Derived.BigRegion
import Derived.BigQuiet
import Derived.Deep.QuietTactic
set_option linter.all false
namespace Go.Proofs.Ytfnockbgkcgpkaa
open Go.RowKit Go.Proofs.Panes
set_option maxRecDepth 100000

theorem inB_iff {n lo hi : Int} : inB n lo hi = true ↔ lo ≤ n ∧ n ≤ hi := by simp [inB]
theorem inB_false {n lo hi : Int} (h : ¬ (lo ≤ n ∧ n ≤ hi)) : inB n lo hi = false := by
  cases e : inB n lo hi
  · rfl
  · exact absurd (inB_iff.1 e) h
/-- A configuration. -/
structure Cfg where
  w : Int
  h : Int
  clients : Int
  queue : Int
  most : Int
  quantum : Int
  surfaces : Int
  behind : Int
/-- An operation lies at an address; its pixels in blocks of U. -/
def OAt (U : Nat → Prop) (w : World) (b off : Nat) (o : Opn) : Prop :=
  w.cell? ⟨b, off, none⟩ = some (.int .i64 o.kind) ∧ w.cell? ⟨b, off + 1, none⟩ = some (.int .i64 o.surf) ∧ w.cell? ⟨b, off + 2, none⟩ = some (.int .i64 o.x) ∧ w.cell? ⟨b, off + 3, none⟩ = some (.int .i64 o.y) ∧ w.cell? ⟨b, off + 4, none⟩ = some (.int .i64 o.w) ∧ w.cell? ⟨b, off + 5, none⟩ = some (.int .i64 o.h) ∧
  (∃ pv, w.cell? ⟨b, off + 6, none⟩ = some pv ∧ RdN U w pv o.px) ∧ w.cell? ⟨b, off + 7, none⟩ = some (.int .i64 o.mark)
theorem OAt.but {U S : Nat → Prop} {w w' : World} (hb : But S w w') {b off : Nat} {o : Opn} (hlt : b < w.heap.size) (hs : ¬ S b) (hU : ∀ k, U k → ¬ S k) (h : OAt U w b off o) : OAt U w' b off o := by
  have e : ∀ q, w'.cell? ⟨b, q, none⟩ = w.cell? ⟨b, q, none⟩ := fun q => World.cell?_of_block (hb.block b hlt hs)
  obtain ⟨h0, h1, h2, h3, h4, h5, ⟨pv, h6, h6'⟩, h7⟩ := h
  exact ⟨(e _).trans h0, (e _).trans h1, (e _).trans h2, (e _).trans h3, (e _).trans h4, (e _).trans h5, ⟨pv, (e _).trans h6, h6'.but hb hU⟩, (e _).trans h7⟩
/-- A list of operations, in blocks of U. -/
def RdO (U : Nat → Prop) (w : World) (v : Value) (l : List Opn) : Prop :=
  ∃ ao cap, v = .slice ao l.length cap ∧ l.length ≤ cap ∧ cap ≤ maxLen ∧ (l ≠ [] → ∃ b off, ao = some ⟨b, off, none⟩ ∧ U b ∧ b < w.heap.size ∧ ∀ j o, l[j]? = some o → OAt U w b (off + j * 8) o)
theorem RdO.but {U S : Nat → Prop} {w w' : World} {v : Value} {l : List Opn} (h : RdO U w v l) (hb : But S w w') (hs : ∀ k, U k → ¬ S k) : RdO U w' v l := by
  obtain ⟨ao, cap, e, h1, h2, h3⟩ := h
  refine ⟨ao, cap, e, h1, h2, fun hne => ?_⟩
  obtain ⟨b, off, e, hu, hlt, hc⟩ := h3 hne
  exact ⟨b, off, e, hu, Nat.lt_of_lt_of_le hlt hb.size, fun j r hr => (hc j r hr).but hb hlt (hs b hu) hs⟩
theorem RdO.below {U : Nat → Prop} {w w' : World} {v : Value} {l : List Opn} (h : RdO U w v l) (hb : Below w.heap.size w w') : RdO U w' v l := h.but (S := fun _ => False) (.of_below hb) (fun _ _ h => h)
/-- What a transaction costs. -/
def ocost (o : Opn) : Int := if o.kind = 3 then o.w * o.h else 0
def costOf (l : List Opn) : Int := (l.length : Int) + (l.map ocost).sum
theorem sum_take_succ {l : List Opn} {k : Nat} {o : Opn} (h : l[k]? = some o) : ((l.take (k + 1)).map ocost).sum = ((l.take k).map ocost).sum + ocost o := by
  rw [List.take_add_one, h]; simp
/-- An Attach within its bounds. -/
def Small (o : Opn) : Prop := o.kind = 3 → (1 ≤ o.w ∧ o.w ≤ 8) ∧ (1 ≤ o.h ∧ o.h ≤ 8)
theorem ocost_bd {o : Opn} (h : Small o) : 0 ≤ ocost o ∧ ocost o ≤ 64 := by
  unfold ocost
  split
  · rename_i hk
    obtain ⟨⟨h1, h2⟩, h3, h4⟩ := h hk
    generalize o.w = a at *
    generalize o.h = b at *
    have : a = 1 ∨ a = 2 ∨ a = 3 ∨ a = 4 ∨ a = 5 ∨ a = 6 ∨ a = 7 ∨ a = 8 := by omega
    rcases this with e | e | e | e | e | e | e | e <;> subst e <;> omega
  · omega
theorem sum_bd : ∀ (l : List Opn), (∀ o ∈ l, Small o) → 0 ≤ (l.map ocost).sum ∧ (l.map ocost).sum ≤ 64 * l.length
  | [], _ => by simp
  | o :: l, h => by
    have h1 := ocost_bd (h o (by simp))
    have h2 := sum_bd l (fun x hx => h x (by simp [hx]))
    simp only [List.map_cons, List.sum_cons, List.length_cons]
    omega
/-- All operations of a transaction, one behind the other. -/
def vall (will : List Bool) : List Opn → Option (List Bool)
  | [] => some will
  | o :: l => (vstep will o).bind fun x => vall x l
theorem vall_append (will : List Bool) : ∀ (k l : List Opn), vall will (k ++ l) = (vall will k).bind fun x => vall x l := by
  intro k
  induction k generalizing will with
  | nil => intro l; rfl
  | cons o k ih =>
    intro l
    show (vstep will o).bind (fun x => vall x (k ++ l)) = ((vstep will o).bind fun x => vall x k).bind fun x => vall x l
    cases vstep will o with
    | none => rfl
    | some x => exact ih x l
theorem vall_succ {will x : List Bool} {l : List Opn} {k : Nat} {o : Opn} (h : vall will (l.take k) = some x) (ho : l[k]? = some o) : vall will (l.take (k + 1)) = vstep x o := by
  rw [List.take_add_one, ho, vall_append, h]
  show vall x [o] = _
  show (vstep x o).bind (fun y => some y) = _
  cases vstep x o <;> rfl
theorem vall_fail {will x : List Bool} {l : List Opn} {k : Nat} {o : Opn} (h : vall will (l.take k) = some x) (ho : l[k]? = some o) (hn : vstep x o = none) : vall will l = none := by
  rw [← List.take_append_drop (k + 1) l, vall_append, vall_succ h ho, hn]; rfl
theorem vstep_small {will x : List Bool} {o : Opn} (h : vstep will o = some x) : Small o := by
  intro h3
  unfold vstep at h
  rw [if_neg (by omega)] at h
  split at h
  · rename_i hc
    simp only [Bool.and_eq_true] at hc
    have := hc.2
    unfold okArgs at this
    rw [if_neg (by omega), if_pos h3] at this
    simp only [Bool.and_eq_true, inB_iff] at this
    exact ⟨this.1.1.1, this.1.1.2⟩
  · cases h
theorem vall_small : ∀ (l : List Opn) (will x : List Bool), vall will l = some x → ∀ o ∈ l, Small o
  | [], _, _, _ => by simp
  | o :: l, will, x, h => by
    intro p hp
    have h' : (vstep will o).bind (fun y => vall y l) = some x := h
    cases hv : vstep will o with
    | none => rw [hv] at h'; cases h'
    | some y =>
      rw [hv] at h'
      cases List.mem_cons.1 hp with
      | inl e => subst e; exact vstep_small hv
      | inr e => exact vall_small l y x h' p e
theorem new_at_drewq (w : World) (o : Obj) (n : Nat) (h : n = w.heap.size) : (w.alloc o).drew.heap[n]? = some o := new_at w o n h
/-- May a configuration be? -/
def okCfg (c : Cfg) : Bool := inB c.w 1 16 && inB c.h 1 16 && inB c.clients 1 4 && inB c.queue 1 8 && inB c.most 1 300 && inB c.quantum c.most 600 && inB c.surfaces 1 4 && inB c.behind 1 4294967295
def cval (c : Cfg) : Value := .agg #[.int .i64 c.w, .int .i64 c.h, .int .i64 c.clients, .int .i64 c.queue, .int .i64 c.most, .int .i64 c.quantum, .int .i64 c.surfaces, .int .i64 c.behind]
/-- make([]int, n). -/
theorem make_intsq (n : Nat) (hn : n ≤ 17592186044416) (u : World) : (Instr.makeSlice 23 (.int .i64 (n : Int)) (.int .i64 (n : Int))).run Try.prog u = .ok (.slice (some ⟨u.heap.size, 0, none⟩) n n) (u.alloc (.cells (Array.replicate n (Value.int .i64 0)) 3)) := by
  obtain ⟨i0, hi, hz0, hz1, hz2⟩ := info_parts info_int
  have h := run_make (P := Try.prog) u 23 3 i0 _ Try.underlying23 hi hz0 .i64 .i64 (n : Int) (n : Int) (by omega) (Int.le_refl _) (by rw [hz2]; omega) (by omega)
  have e : madeCells #[Value.int .i64 0] n = Array.replicate n (Value.int .i64 0) := by
    apply Array.ext'
    rw [toList_madeCells_one, Array.toList_replicate]
  simp only [Int.toNat_natCast, hz1] at h
  rw [← e]
  simpa [Value.cells] using h
/-- 'copy' of elements of several cells, into a row that is known whole. -/
theorem run_copy_wide {P : Program} (w : World) (dT sT ty elem : TypeId) (size g o dLen dCap : Nat) (a : Addr) (sLen sCap : Nat) (cur : Array Value) (t : TypeId) (cs : List Value) (m : Nat)
    (hu : P.underlying dT = some (.slice elem)) (hs : (P.info? elem).map (·.size) = some size)
    (hg : w.heap[g]? = some (.cells cur t (0, 0))) (hm : m = Nat.min sLen dLen) (hn : cs.length = m * size)
    (hsrc : ∀ j v, cs[j]? = some v → w.cell? (a.add j) = some v) (hfit : o + cs.length ≤ cur.size) (h1 : ∀ v ∈ cs, v.oneCell' = true) :
    (Builtin.copy_ #[dT, sT] ty #[.slice (some ⟨g, o, none⟩) dLen dCap, .slice (some a) sLen sCap]).run P w =
      .ok (goInt m) (w.setRow g (cur.toList.take o ++ cs ++ cur.toList.drop (o + cs.length)).toArray) := by
  have hl := run_loadCells_list (P := P) w a cs hsrc
  have hst := run_storeCells_at P g o t cs 0 cur w hg (by simpa using hfit) h1
  cases hq : P.info? elem with
  | none => simp [hq] at hs
  | some i =>
    have hi : i.size = size := by simpa [hq] using hs
    rw [hn] at hl
    simp [Builtin.copy_, run_underlying hu, Builtin.lenOf, Builtin.firstCells, sizeOf, typeInfo, hq, hi, ← hm, hl, hst, hn]
theorem run_copy_zero {P : Program} (w : World) (dT sT ty elem : TypeId) (d a : Option Addr) (dLen dCap sLen sCap : Nat) (hu : P.underlying dT = some (.slice elem)) (hs : ((P.info? elem).map (·.size)).isSome = true) (hn : Nat.min sLen dLen = 0) :
    (Builtin.copy_ #[dT, sT] ty #[.slice d dLen dCap, .slice a sLen sCap]).run P w = .ok (goInt 0) w := by
  cases hq : P.info? elem with
  | none => simp [hq] at hs
  | some i =>
    have hl : ∀ (x : Addr), (loadCells x 0).run P w = .ok #[] w := fun x => by simpa using run_loadCells_list (P := P) w x [] (by simp)
    cases d <;> cases a <;> simp [Builtin.copy_, run_underlying hu, Builtin.lenOf, Builtin.firstCells, sizeOf, typeInfo, hq, hn, storeCells, hl]
/-- A row of numbers. -/
abbrev OwnN (w : World) (base : Nat) (v : Value) (l : List Int) : Prop := w.ownsRow base 3 1 v l.length (l.map (Value.int .i64))
theorem ownN_nil {w : World} (base : Nat) : OwnN w base (.slice none 0 0) [] := World.ownsRow_nil _ _ _ _
theorem ints_one (l : List Int) : ∀ u ∈ l.map (Value.int .i64), u.oneCell' = true := by
  intro u hu
  obtain ⟨b, _, rfl⟩ := List.mem_map.1 hu
  rfl
theorem ownN_at {w : World} {base g n cap : Nat} {l : List Int} (h : OwnN w base (.slice (some ⟨g, 0, none⟩) n cap) l) (hn : n = l.length) {j : Nat} {x : Int} (hx : l[j]? = some x) : w.cell? ⟨g, j, none⟩ = some (.int .i64 x) := by
  subst hn
  have hj := (List.getElem?_eq_some_iff.1 hx).1
  rw [World.ownsRow.cellAt h j (by omega)]
  simp [hx]
theorem ownN_thaw {w : World} {base g n cap : Nat} {l : List Int} (h : OwnN w base (.slice (some ⟨g, 0, none⟩) n cap) l) (hn : n = l.length) (j : Nat) : w.frozen? ⟨g, j, none⟩ = false := by
  subst hn; exact World.ownsRow.frozenAt h j
theorem ownN_put {w : World} {base g n cap : Nat} {A B : List Int} {r : Int} (s : Int) (h : OwnN w base (.slice (some ⟨g, 0, none⟩) n cap) (A ++ r :: B)) (hn : n = (A ++ r :: B).length) : OwnN (w.setCell ⟨g, A.length, none⟩ (.int .i64 s)) base (.slice (some ⟨g, 0, none⟩) n cap) (A ++ s :: B) := by
  subst hn
  have h1 := (World.ownsRow.stored h A.length (.int .i64 s)).1
  have e : ((A ++ r :: B).map (Value.int .i64)).set A.length (.int .i64 s) = (A ++ s :: B).map (Value.int .i64) := by simp
  rw [e] at h1
  have e2 : (A ++ s :: B).length = (A ++ r :: B).length := by simp
  unfold OwnN
  rw [e2]; exact h1
theorem ownN_front {w : World} {base g n cap : Nat} {A B : List Int} (h : OwnN w base (.slice (some ⟨g, 0, none⟩) n cap) (A ++ B)) : OwnN w base (.slice (some ⟨g, 0, none⟩) A.length cap) A := by
  rcases h.2 with ⟨e, _⟩ | ⟨k, c, cur, e, hb, hk, hc, hm, hz, ht⟩
  · cases e
  · simp only [Value.slice.injEq, Option.some.injEq, Addr.mk.injEq, and_true] at e
    obtain ⟨rfl, e, rfl⟩ := e
    refine ⟨by simp, .inr ⟨g, cap, cur, rfl, hb, hk, by simp at hc; omega, hm, hz, ?_⟩⟩
    have := congrArg (List.take (A.length * 1)) ht
    rw [List.take_take, List.map_append, List.take_append_of_le_length (by simp), Nat.min_eq_left (by simp)] at this
    rw [this, List.take_of_length_le (by simp)]
theorem OwnN.rd {w : World} {base : Nat} {v : Value} {l : List Int} (h : OwnN w base v l) : RdN (fun k => v.ownBlock = some k) w v l := by
  rcases h.2 with ⟨rfl, hn⟩ | ⟨g, cap, cur, rfl, hb, hg, hc, hm, hs, ht⟩
  · have : l = [] := List.length_eq_zero_iff.1 hn
    subst this
    exact ⟨none, 0, rfl, by simp, by simp [maxLen], fun h => absurd rfl h⟩
  · refine ⟨some ⟨g, 0, none⟩, cap, rfl, hc, hm, fun _ => ⟨g, 0, rfl, rfl, (Array.getElem?_eq_some_iff.1 hg).1, fun j x hx => ?_⟩⟩
    rw [Nat.zero_add]
    exact ownN_at h rfl hx
theorem own_intsq (w : World) (n base : Nat) (hb : base ≤ w.heap.size) (hn : n ≤ 17592186044416) : OwnN (w.alloc (.cells (Array.replicate n (Value.int .i64 0)) 3)) base (.slice (some ⟨w.heap.size, 0, none⟩) n n) (List.replicate n 0) := by
  have h := World.ownsRow_lit (base := base) (e := 3) (size := 1) w (Array.replicate n (Value.int .i64 0)) n hb (by unfold maxLen; omega) (by simp)
  unfold OwnN
  rw [List.length_replicate]
  simpa using h
/-- 'copy(dst, src)' of numbers: dst a whole row that somebody owns, src any list that reads. -/
theorem copy_ints {w : World} {ops : Array Oper} {rest : List Oper} {o : Oper} {a : Act} {Q : Exit → Act → World → Prop} (hgd : o.guard = none) (d s : Operand)
    (ho : o.op = .call { callee := .builtin .copy, args := #[d, s], argTypes := #[23, 23] }) (U : Nat → Prop) (base g n : Nat) (D l : List Int) (v : Value) (hd : a.eval d = .slice (some ⟨g, 0, none⟩) n n) (hs : a.eval s = v)
    (hO : OwnN w base (.slice (some ⟨g, 0, none⟩) n n) D) (hn : D.length = n) (hR : RdN U w v l) (hl : l.length ≤ n)
    (h : ∀ w', OwnN w' base (.slice (some ⟨g, 0, none⟩) n n) (l ++ D.drop l.length) → w.grownBy w' (some g) → wpList Try.prog ops Q rest (a.put o.dst (goInt l.length)) w') : wpList Try.prog ops Q (o :: rest) a w := by
  obtain ⟨i0, hi, hz0, hz1, hz2⟩ := info_parts info_int
  obtain ⟨ao, cap, rfl, h1, h2, h3⟩ := hR
  refine wpList_plain hgd fun K hK => ?_
  by_cases he : l = []
  · subst he
    have hrun := run_copy_zero (P := Try.prog) w 23 23 o.type 3 (some ⟨g, 0, none⟩) ao n n 0 cap Try.underlying23 (by rw [hi]; rfl) (by simp)
    have hh := h w (by simpa using hO) ⟨rfl, rfl, rfl, Nat.le_refl _, fun _ _ _ => rfl⟩
    unfold Oper.wp
    simp [execOp, ho, resolve, invoke, builtin, hd, hs, hrun, Result.andThen]
    exact hK _ _ (by simpa using hh)
  · obtain ⟨b, off, rfl, _, hb, hc⟩ := h3 he
    rcases hO.2 with ⟨e, _⟩ | ⟨k, c, cur, e, hbk, hk, hcc, hm, hz, ht⟩
    · cases e
    · simp only [Value.slice.injEq, Option.some.injEq, Addr.mk.injEq, and_true] at e
      obtain ⟨rfl, e, rfl⟩ := e
      subst hn
      have htl : cur.toList = D.map (Value.int .i64) := by rw [← ht, List.take_of_length_le (by simp [hz])]
      have hrun := run_copy_wide (P := Try.prog) w 23 23 o.type 3 1 g 0 D.length D.length ⟨b, off, none⟩ l.length cap cur 3 (l.map (Value.int .i64)) l.length Try.underlying23 (by rw [hi]; simp [hz1]) hk (Nat.min_eq_left hl).symm (by simp) (fun j v hj => ?_) (by simp [hz]; omega) (ints_one l)
      · have e : (cur.toList.take 0 ++ l.map (Value.int .i64) ++ cur.toList.drop (0 + (l.map (Value.int .i64)).length)) = (l ++ D.drop l.length).map (Value.int .i64) := by
          rw [htl, List.take_zero, List.nil_append, Nat.zero_add, List.length_map, List.map_append, List.map_drop]
        rw [e] at hrun
        have hh := h (w.setRow g ((l ++ D.drop l.length).map (Value.int .i64)).toArray) ?_ ?_
        · unfold Oper.wp
          simp [execOp, ho, resolve, invoke, builtin, hd, hs, hrun, Result.andThen]
          exact hK _ _ (by simpa using hh)
        · have el : (l ++ D.drop l.length).length = D.length := by simp; omega
          unfold OwnN
          rw [el]
          refine ⟨by rw [List.length_map, el]; omega, .inr ⟨g, D.length, _, rfl, hbk, setRow_heap w g cur _ _ _ hk, Nat.le_refl _, hm, by simp; omega, ?_⟩⟩
          rw [List.take_of_length_le (by rw [List.length_map, el]; omega)]
        · exact ⟨rfl, rfl, rfl, by simp [World.setRow], fun k hk hne => setRow_other w g k _ (fun e => hne (by rw [e]))⟩
      · have hadd : (⟨b, off, none⟩ : Addr).add j = ⟨b, off + j, none⟩ := by unfold Addr.add; split <;> simp_all
        rw [hadd]
        rw [List.getElem?_map] at hj
        obtain ⟨x, hx, rfl⟩ := Option.map_eq_some_iff.1 hj
        exact hc j x hx
/-- An operation as it lies in memory. -/
structure MOp where
  kind : Int
  surf : Int
  x : Int
  y : Int
  w : Int
  h : Int
  pv : Value
  mark : Int
def mcell (m : MOp) : List Value := [.int .i64 m.kind, .int .i64 m.surf, .int .i64 m.x, .int .i64 m.y, .int .i64 m.w, .int .i64 m.h, m.pv, .int .i64 m.mark]
def mcells (l : List MOp) : List Value := l.flatMap mcell
theorem mcells_cons (r : MOp) (l : List MOp) : mcells (r :: l) = mcell r ++ mcells l := rfl
theorem mcells_append (k l : List MOp) : mcells (k ++ l) = mcells k ++ mcells l := by simp [mcells]
theorem mcells_len (l : List MOp) : (mcells l).length = l.length * 8 := by
  induction l with
  | nil => rfl
  | cons r l ih => rw [mcells_cons, List.length_append, ih]; simp [mcell]; omega
theorem mcells_at : ∀ (l : List MOp) (j : Nat) (r : MOp), l[j]? = some r → ∀ t, t < 8 → (mcells l)[j * 8 + t]? = (mcell r)[t]?
  | [], j, r, h => by simp at h
  | q :: l, 0, r, h => by
    intro t ht
    simp at h; subst h
    rw [mcells_cons, Nat.zero_mul, Nat.zero_add, List.getElem?_append_left (by simp [mcell]; omega)]
  | q :: l, j + 1, r, h => by
    intro t ht
    rw [← mcells_at l j r (by simpa using h) t ht, mcells_cons, List.getElem?_append_right (by simp [mcell]; omega)]
    congr 1
    simp [mcell]; omega
abbrev OwnO (w : World) (base : Nat) (v : Value) (l : List MOp) : Prop := w.ownsRow base 72 8 v l.length (mcells l)
theorem ownO_at {w : World} {base g n cap : Nat} {l : List MOp} (h : OwnO w base (.slice (some ⟨g, 0, none⟩) n cap) l) (hn : n = l.length) {j : Nat} {m : MOp} (hm : l[j]? = some m) (t : Nat) (ht : t < 8) : w.cell? ⟨g, j * 8 + t, none⟩ = (mcell m)[t]? := by
  subst hn
  have hj := (List.getElem?_eq_some_iff.1 hm).1
  rw [World.ownsRow.cellAt h _ (by omega), mcells_at l j m hm t ht]
theorem ownO_thaw {w : World} {base g n cap : Nat} {l : List MOp} (h : OwnO w base (.slice (some ⟨g, 0, none⟩) n cap) l) (hn : n = l.length) (j : Nat) : w.frozen? ⟨g, j, none⟩ = false := by
  subst hn; exact World.ownsRow.frozenAt h j
/-- An operation written into a row, cell by cell. -/
theorem mcells_put (A : List MOp) (r s : MOp) (B : List MOp) :
    ((((((((mcells (A ++ r :: B)).set (A.length * 8) (.int .i64 s.kind)).set (A.length * 8 + 1) (.int .i64 s.surf)).set (A.length * 8 + 2) (.int .i64 s.x)).set (A.length * 8 + 3) (.int .i64 s.y)).set (A.length * 8 + 4) (.int .i64 s.w)).set (A.length * 8 + 5) (.int .i64 s.h)).set (A.length * 8 + 6) s.pv).set (A.length * 8 + 7) (.int .i64 s.mark) = mcells (A ++ s :: B) := by
  rw [mcells_append, mcells_append]
  have e : ∀ (X : List Value) (t : Nat) (u : Value), (mcells A ++ X).set (A.length * 8 + t) u = mcells A ++ X.set t u := fun X t u => by
    rw [List.set_append_right _ _ (by rw [mcells_len]; omega), mcells_len, Nat.add_sub_cancel_left]
  have e0 : ∀ (X : List Value) (u : Value), (mcells A ++ X).set (A.length * 8) u = mcells A ++ X.set 0 u := fun X u => e X 0 u
  rw [e0, e, e, e, e, e, e, e]
  rfl
/-- The world behind it. -/
def putOp (w : World) (g i : Nat) (s : MOp) : World :=
  (((((((w.setCell ⟨g, i * 8, none⟩ (.int .i64 s.kind)).setCell ⟨g, i * 8 + 1, none⟩ (.int .i64 s.surf)).setCell ⟨g, i * 8 + 2, none⟩ (.int .i64 s.x)).setCell ⟨g, i * 8 + 3, none⟩ (.int .i64 s.y)).setCell ⟨g, i * 8 + 4, none⟩ (.int .i64 s.w)).setCell ⟨g, i * 8 + 5, none⟩ (.int .i64 s.h)).setCell ⟨g, i * 8 + 6, none⟩ s.pv).setCell ⟨g, i * 8 + 7, none⟩ (.int .i64 s.mark)
theorem ownO_put {w : World} {base g n cap : Nat} {A B : List MOp} {r : MOp} (s : MOp) (h : OwnO w base (.slice (some ⟨g, 0, none⟩) n cap) (A ++ r :: B)) (hn : n = (A ++ r :: B).length) : OwnO (putOp w g A.length s) base (.slice (some ⟨g, 0, none⟩) n cap) (A ++ s :: B) := by
  subst hn
  have h1 := (World.ownsRow.stored h (A.length * 8) (.int .i64 s.kind)).1
  have h2 := (World.ownsRow.stored h1 (A.length * 8 + 1) (.int .i64 s.surf)).1
  have h3 := (World.ownsRow.stored h2 (A.length * 8 + 2) (.int .i64 s.x)).1
  have h4 := (World.ownsRow.stored h3 (A.length * 8 + 3) (.int .i64 s.y)).1
  have h5 := (World.ownsRow.stored h4 (A.length * 8 + 4) (.int .i64 s.w)).1
  have h6 := (World.ownsRow.stored h5 (A.length * 8 + 5) (.int .i64 s.h)).1
  have h7 := (World.ownsRow.stored h6 (A.length * 8 + 6) s.pv).1
  have h8 := (World.ownsRow.stored h7 (A.length * 8 + 7) (.int .i64 s.mark)).1
  rw [mcells_put] at h8
  have e : (A ++ s :: B).length = (A ++ r :: B).length := by simp
  unfold OwnO
  rw [e]; exact h8
theorem putOp_but {S : Nat → Prop} {a w : World} {g i : Nat} {s : MOp} (h : But S a w) (hg : S g ∨ a.heap.size ≤ g) : But S a (putOp w g i s) := by
  have hS : ∀ (j : Nat) (u : Value) {v : World}, But S a v → But S a (v.setCell ⟨g, j, none⟩ u) := fun j u v h => h.setCell (p := ⟨g, j, none⟩) hg u
  exact hS _ _ (hS _ _ (hS _ _ (hS _ _ (hS _ _ (hS _ _ (hS _ _ (hS _ _ h)))))))
theorem putOp_heap {w : World} {g i k : Nat} {s : MOp} (h : k ≠ g) : (putOp w g i s).heap[k]? = w.heap[k]? := by
  have e : ∀ (v : World) (j : Nat) (u : Value), (v.setCell ⟨g, j, none⟩ u).heap[k]? = v.heap[k]? := fun v j u => Below.heap_setCell _ _ _ _ h
  unfold putOp
  rw [e, e, e, e, e, e, e, e]
theorem vstep_none {will : List Bool} {o : Opn} (h8 : ¬ o.kind = 8) (h : (inB o.kind 1 7 && inB o.surf 0 ((will.length : Int) - 1) && (will.getD o.surf.toNat false != decide (o.kind = 1)) && okArgs o) = false) : vstep will o = none := by
  unfold vstep; rw [if_neg h8, if_neg (by rw [h]; simp)]
theorem vstep_some {will : List Bool} {o : Opn} (h8 : ¬ o.kind = 8) (h : (inB o.kind 1 7 && inB o.surf 0 ((will.length : Int) - 1) && (will.getD o.surf.toNat false != decide (o.kind = 1)) && okArgs o) = true) : vstep will o = some (will.set o.surf.toNat (decide (o.kind ≠ 2))) := by
  unfold vstep; rw [if_neg h8, if_pos h]
/-- Where the flag stands already, nothing is set. -/
theorem set_same {l : List Bool} {j : Nat} {b : Bool} (h : l[j]? = some b) : l.set j b = l := by
  apply List.ext_getElem?
  intro i
  by_cases e : j = i
  · subst e
    have := (List.getElem?_eq_some_iff.1 h).1
    rw [List.getElem?_set_self this, h]
  · rw [List.getElem?_set_ne e]
theorem all_take_succ {l : List Int} {f : Int → Bool} {k : Nat} {r : Int} (hr : l[k]? = some r) : (l.take (k + 1)).all f = ((l.take k).all f && f r) := by
  rw [List.take_add_one, hr, List.all_append]; simp
theorem all_of_take {l : List Int} {f : Int → Bool} {k : Nat} (h : (l.take k).all f = false) : l.all f = false := by
  rw [← List.take_append_drop k l, List.all_append, h]; rfl
end Go.Proofs.Ytfnockbgkcgpkaa
set_option linter.all false
namespace Go.Proofs.Ytfnockbgkcgpkaa
open Go.RowKit Go.Proofs.Panes
set_option maxRecDepth 100000

theorem info_tr : (Try.prog.info? 132).map (fun i => (i.zero, i.size, i.bytes)) = some (some (.agg #[.slice none 0 0, .int .i64 0]), 2, 32) := by kernel_rfl
theorem info_op : (Try.prog.info? 72).map (fun i => (i.zero, i.size, i.bytes)) = some (some (.agg #[.int .i64 0, .int .i64 0, .int .i64 0, .int .i64 0, .int .i64 0, .int .i64 0, .slice none 0 0, .int .i64 0]), 8, 80) := by kernel_rfl
set_option maxHeartbeats 1000000 in
theorem clN_any {w : World} {b off n cap : Nat} {xs : List Value} (hlen : xs.length = n * 1) (hc : ∀ (j : Nat) (u : Value), xs[j]? = some u → w.cell? ⟨b, off + j, none⟩ = some u) (h1 : ∀ u ∈ xs, u.oneCell' = true) (hn : n ≤ 100000000) (hlt : xs ≠ [] → b < w.heap.size) :
    Calls Try.prog 99 #[.slice (some ⟨b, off, none⟩) n cap] w fun e w' => (∃ cv, e = .returned cv ∧ w'.ownsRow w.heap.size 3 1 cv n xs) ∧ Below w.heap.size w w' := by
  obtain ⟨w1, hw1⟩ : ∃ w1 : World, w1 = w.alloc (.cells #[] 3) := ⟨_, rfl⟩
  have hB1 : Below w.heap.size w w1 := by rw [hw1]; exact (Below.refl _ w).alloc (Nat.le_refl _) _
  have hN1 : w1.heap[w.heap.size]? = some (.cells #[] 3) := by rw [hw1]; exact new_at _ _ _ rfl
  have hO1 : w1.ownsRow w.heap.size 3 1 (.slice (some ⟨w.heap.size, 0, none⟩) 0 0) 0 [] := ⟨rfl, .inr ⟨w.heap.size, 0, _, rfl, Nat.le_refl _, hN1, Nat.le_refl _, Nat.zero_le _, rfl, rfl⟩⟩
  obtain ⟨i0', hi', hz0, hz1, hz2⟩ := info_parts info_int
  obtain ⟨v', w2, hrun, hO2, hg2, _, _⟩ := run_append_own_at (P := Try.prog) (w := w1) w.heap.size 23 23 3 i0' _ 1 8 Try.underlying23 hi' hz0 hz1 hz2 rfl (by decide) (.slice (some ⟨w.heap.size, 0, none⟩) 0 0) 0 [] hO1 ⟨b, off, none⟩ n cap xs hlen (by
    intro j u hj
    have hb : b < w.heap.size := hlt (by intro e; rw [e] at hj; simp at hj)
    rw [add_at]
    exact (World.cell?_of_block (hB1.block b hb)).trans (hc j u hj)) h1 (by simp only [maxLen]; omega) (by omega) hB1.size
  have hB2 : Below w.heap.size w w2 := hB1.trans ((But.of_grown (S := fun k => k = w.heap.size) hg2 (fun k e => (Option.some.inj e).symm)).below hB1.size (fun k e => by rw [e]; exact Nat.le_refl _))
  have hO2' : w2.ownsRow w.heap.size 3 1 v' n xs := by rw [Nat.zero_add] at hO2; exact hO2
  have hen : (binOp .eql 23 (.slice (some ⟨b, off, none⟩) n cap) (.slice none 0 0)).run Try.prog w = .ok (.bool false) w := Lib.run_eql_slice_nil w _ _ _ _ _ _ _ Try.underlying23
  rw [hw1] at hrun
  have HR := hide hrun
  have HO2 := hide hO2'
  have HB2 := hide hB2
  have HW1 := hide hw1
  clear hO2 hO2' hB2 hg2 hrun hO1 hN1 hB1 hi' hz0 hz1 hz2 hw1 h1 hlen hc hlt
  go_enter Try.func99, Try.ntmps99
  go_wp2_with (at_builtin; refine wpList_append_at rfl _ _ 23 23 rfl rfl _ _ _ _ rfl rfl (unhide HR) ?_)
  go_ret
  exact ⟨⟨_, rfl, unhide HO2⟩, unhide HB2⟩
set_option maxHeartbeats 1000000 in
theorem clO_any {w : World} {b off n cap : Nat} {xs : List Value} (hlen : xs.length = n * 8) (hc : ∀ (j : Nat) (u : Value), xs[j]? = some u → w.cell? ⟨b, off + j, none⟩ = some u) (h1 : ∀ u ∈ xs, u.oneCell' = true) (hn : n ≤ 100000000) (hlt : xs ≠ [] → b < w.heap.size) :
    Calls Try.prog 110 #[.slice (some ⟨b, off, none⟩) n cap] w fun e w' => (∃ cv, e = .returned cv ∧ w'.ownsRow w.heap.size 72 8 cv n xs) ∧ Below w.heap.size w w' := by
  obtain ⟨w1, hw1⟩ : ∃ w1 : World, w1 = w.alloc (.cells #[] 72) := ⟨_, rfl⟩
  have hB1 : Below w.heap.size w w1 := by rw [hw1]; exact (Below.refl _ w).alloc (Nat.le_refl _) _
  have hN1 : w1.heap[w.heap.size]? = some (.cells #[] 72) := by rw [hw1]; exact new_at _ _ _ rfl
  have hO1 : w1.ownsRow w.heap.size 72 8 (.slice (some ⟨w.heap.size, 0, none⟩) 0 0) 0 [] := ⟨rfl, .inr ⟨w.heap.size, 0, _, rfl, Nat.le_refl _, hN1, Nat.le_refl _, Nat.zero_le _, rfl, rfl⟩⟩
  obtain ⟨i0', hi', hz0, hz1, hz2⟩ := info_parts info_op
  obtain ⟨v', w2, hrun, hO2, hg2, _, _⟩ := run_append_own_at (P := Try.prog) (w := w1) w.heap.size 73 73 72 i0' _ 8 80 Try.underlying73 hi' hz0 hz1 hz2 rfl (by decide) (.slice (some ⟨w.heap.size, 0, none⟩) 0 0) 0 [] hO1 ⟨b, off, none⟩ n cap xs hlen (by
    intro j u hj
    have hb : b < w.heap.size := hlt (by intro e; rw [e] at hj; simp at hj)
    rw [add_at]
    exact (World.cell?_of_block (hB1.block b hb)).trans (hc j u hj)) h1 (by simp only [maxLen]; omega) (by omega) hB1.size
  have hB2 : Below w.heap.size w w2 := hB1.trans ((But.of_grown (S := fun k => k = w.heap.size) hg2 (fun k e => (Option.some.inj e).symm)).below hB1.size (fun k e => by rw [e]; exact Nat.le_refl _))
  have hO2' : w2.ownsRow w.heap.size 72 8 v' n xs := by rw [Nat.zero_add] at hO2; exact hO2
  have hen : (binOp .eql 73 (.slice (some ⟨b, off, none⟩) n cap) (.slice none 0 0)).run Try.prog w = .ok (.bool false) w := Lib.run_eql_slice_nil w _ _ _ _ _ _ _ Try.underlying73
  rw [hw1] at hrun
  have HR := hide hrun
  have HO2 := hide hO2'
  have HB2 := hide hB2
  have HW1 := hide hw1
  clear hO2 hO2' hB2 hg2 hrun hO1 hN1 hB1 hi' hz0 hz1 hz2 hw1 h1 hlen hc hlt
  go_enter Try.func110, Try.ntmps110
  go_wp2_with (at_builtin; refine wpList_append_at rfl _ _ 73 73 rfl rfl _ _ _ _ rfl rfl (unhide HR) ?_)
  go_ret
  exact ⟨⟨_, rfl, unhide HO2⟩, unhide HB2⟩
set_option maxHeartbeats 1000000 in
theorem clT_any {w : World} {b off n cap : Nat} {xs : List Value} (hlen : xs.length = n * 2) (hc : ∀ (j : Nat) (u : Value), xs[j]? = some u → w.cell? ⟨b, off + j, none⟩ = some u) (h1 : ∀ u ∈ xs, u.oneCell' = true) (hn : n ≤ 100000000) (hlt : xs ≠ [] → b < w.heap.size) :
    Calls Try.prog 116 #[.slice (some ⟨b, off, none⟩) n cap] w fun e w' => (∃ cv, e = .returned cv ∧ w'.ownsRow w.heap.size 132 2 cv n xs) ∧ Below w.heap.size w w' := by
  obtain ⟨w1, hw1⟩ : ∃ w1 : World, w1 = w.alloc (.cells #[] 132) := ⟨_, rfl⟩
  have hB1 : Below w.heap.size w w1 := by rw [hw1]; exact (Below.refl _ w).alloc (Nat.le_refl _) _
  have hN1 : w1.heap[w.heap.size]? = some (.cells #[] 132) := by rw [hw1]; exact new_at _ _ _ rfl
  have hO1 : w1.ownsRow w.heap.size 132 2 (.slice (some ⟨w.heap.size, 0, none⟩) 0 0) 0 [] := ⟨rfl, .inr ⟨w.heap.size, 0, _, rfl, Nat.le_refl _, hN1, Nat.le_refl _, Nat.zero_le _, rfl, rfl⟩⟩
  obtain ⟨i0', hi', hz0, hz1, hz2⟩ := info_parts info_tr
  obtain ⟨v', w2, hrun, hO2, hg2, _, _⟩ := run_append_own_at (P := Try.prog) (w := w1) w.heap.size 122 122 132 i0' _ 2 32 Try.underlying122 hi' hz0 hz1 hz2 rfl (by decide) (.slice (some ⟨w.heap.size, 0, none⟩) 0 0) 0 [] hO1 ⟨b, off, none⟩ n cap xs hlen (by
    intro j u hj
    have hb : b < w.heap.size := hlt (by intro e; rw [e] at hj; simp at hj)
    rw [add_at]
    exact (World.cell?_of_block (hB1.block b hb)).trans (hc j u hj)) h1 (by simp only [maxLen]; omega) (by omega) hB1.size
  have hB2 : Below w.heap.size w w2 := hB1.trans ((But.of_grown (S := fun k => k = w.heap.size) hg2 (fun k e => (Option.some.inj e).symm)).below hB1.size (fun k e => by rw [e]; exact Nat.le_refl _))
  have hO2' : w2.ownsRow w.heap.size 132 2 v' n xs := by rw [Nat.zero_add] at hO2; exact hO2
  have hen : (binOp .eql 122 (.slice (some ⟨b, off, none⟩) n cap) (.slice none 0 0)).run Try.prog w = .ok (.bool false) w := Lib.run_eql_slice_nil w _ _ _ _ _ _ _ Try.underlying122
  rw [hw1] at hrun
  have HR := hide hrun
  have HO2 := hide hO2'
  have HB2 := hide hB2
  have HW1 := hide hw1
  clear hO2 hO2' hB2 hg2 hrun hO1 hN1 hB1 hi' hz0 hz1 hz2 hw1 h1 hlen hc hlt
  go_enter Try.func116, Try.ntmps116
  go_wp2_with (at_builtin; refine wpList_append_at rfl _ _ 122 122 rfl rfl _ _ _ _ rfl rfl (unhide HR) ?_)
  go_ret
  exact ⟨⟨_, rfl, unhide HO2⟩, unhide HB2⟩
set_option maxHeartbeats 1000000 in
theorem clT_nil (w : World) : Calls Try.prog 116 #[.slice none 0 0] w fun e w' => e = .returned (.slice none 0 0) ∧ w' = w := by
  have hen : (binOp .eql 122 (.slice none 0 0) (.slice none 0 0)).run Try.prog w = .ok (.bool true) w := Lib.run_eql_slice_nil w _ _ _ _ _ _ _ Try.underlying122
  go_enter Try.func116, Try.ntmps116
  go_wp2
  go_ret
  exact ⟨rfl, rfl⟩
end Go.Proofs.Ytfnockbgkcgpkaa
set_option linter.all false
namespace Go.Proofs.Ytfnockbgkcgpkaa
open Go.RowKit Go.Proofs.Panes
set_option maxRecDepth 100000

theorem RdN.wide {U V : Nat → Prop} {w : World} {v : Value} {l : List Int} (h : RdN U w v l) (hu : ∀ k, U k → V k) : RdN V w v l := by
  obtain ⟨ao, cap, e, h1, h2, h3⟩ := h
  refine ⟨ao, cap, e, h1, h2, fun hne => ?_⟩
  obtain ⟨b, off, e, hb, hlt, hc⟩ := h3 hne
  exact ⟨b, off, e, hu b hb, hlt, hc⟩
theorem RdO.wide {U V : Nat → Prop} {w : World} {v : Value} {l : List Opn} (h : RdO U w v l) (hu : ∀ k, U k → V k) : RdO V w v l := by
  obtain ⟨ao, cap, e, h1, h2, h3⟩ := h
  refine ⟨ao, cap, e, h1, h2, fun hne => ?_⟩
  obtain ⟨b, off, e, hb, hlt, hc⟩ := h3 hne
  refine ⟨b, off, e, hu b hb, hlt, fun j o ho => ?_⟩
  obtain ⟨h0, h1, h2, h3, h4, h5, ⟨pv, h6, h6'⟩, h7⟩ := hc j o ho
  exact ⟨h0, h1, h2, h3, h4, h5, ⟨pv, h6, h6'.wide hu⟩, h7⟩
/-- What reads lies in blocks that are there. -/
theorem RdN.lt {U : Nat → Prop} {w : World} {v : Value} {l : List Int} (h : RdN U w v l) : RdN (fun q => U q ∧ q < w.heap.size) w v l := by
  obtain ⟨ao, cap, e, h1, h2, h3⟩ := h
  refine ⟨ao, cap, e, h1, h2, fun hne => ?_⟩
  obtain ⟨b, off, e, hb, hlt, hc⟩ := h3 hne
  exact ⟨b, off, e, ⟨hb, hlt⟩, hlt, hc⟩
theorem RdO.lt {U : Nat → Prop} {w : World} {v : Value} {l : List Opn} (h : RdO U w v l) : RdO (fun q => U q ∧ q < w.heap.size) w v l := by
  obtain ⟨ao, cap, e, h1, h2, h3⟩ := h
  refine ⟨ao, cap, e, h1, h2, fun hne => ?_⟩
  obtain ⟨b, off, e, hb, hlt, hc⟩ := h3 hne
  refine ⟨b, off, e, ⟨hb, hlt⟩, hlt, fun j o ho => ?_⟩
  obtain ⟨h0, h1, h2, h3, h4, h5, ⟨pv, h6, h6'⟩, h7⟩ := hc j o ho
  exact ⟨h0, h1, h2, h3, h4, h5, ⟨pv, h6, h6'.lt⟩, h7⟩
/-- A row of numbers, kept only in blocks that are. -/
theorem OwnN.rdv {w : World} {base : Nat} {v : Value} {l : List Int} (h : OwnN w base v l) {V : Nat → Prop} (hV : ∀ k, v.ownBlock = some k → V k) : RdN V w v l := h.rd.wide hV

def mof (o : Opn) (pv : Value) : MOp := ⟨o.kind, o.surf, o.x, o.y, o.w, o.h, pv, o.mark⟩
/-- A list of operations as it lies, with its pixels' slices. -/
def mkO (l : List Opn) (pv : Nat → Value) : List MOp := l.mapIdx fun j o => mof o (pv j)
theorem mkO_len (l : List Opn) (pv : Nat → Value) : (mkO l pv).length = l.length := by simp [mkO]
theorem mkO_at (l : List Opn) (pv : Nat → Value) (j : Nat) : (mkO l pv)[j]? = (l[j]?).map fun o => mof o (pv j) := by simp [mkO]
theorem mkO_set (l : List Opn) (pv : Nat → Value) (k : Nat) (u : Value) (hk : k < l.length) : (mcells (mkO l pv)).set (k * 8 + 6) u = mcells (mkO l fun j => if j = k then u else pv j) := by
  apply List.ext_getElem?
  intro i
  by_cases hi : i < l.length * 8
  · obtain ⟨j, r, hr, rfl⟩ : ∃ j r, r < 8 ∧ i = j * 8 + r := ⟨i / 8, i % 8, by omega, by omega⟩
    have hj : j < l.length := by omega
    have e1 := mkO_at l pv j
    have e2 := mkO_at l (fun j => if j = k then u else pv j) j
    rw [List.getElem?_eq_getElem hj] at e1 e2
    simp only [Option.map_some] at e1 e2
    rw [mcells_at _ _ _ e2 r hr, List.getElem?_set]
    by_cases hq : k * 8 + 6 = j * 8 + r
    · have ek : k = j := by omega
      have er : r = 6 := by omega
      subst ek er
      rw [if_pos rfl, if_pos (by rw [mcells_len, mkO_len]; omega)]
      simp [mcell, mof]
    · rw [if_neg hq, mcells_at _ _ _ e1 r hr]
      by_cases ej : j = k
      · subst ej
        have hr' : r = 0 ∨ r = 1 ∨ r = 2 ∨ r = 3 ∨ r = 4 ∨ r = 5 ∨ r = 7 := by omega
        rcases hr' with e | e | e | e | e | e | e <;> subst e <;> simp [mcell, mof]
      · simp [ej]
  · rw [List.getElem?_eq_none (by rw [List.length_set, mcells_len, mkO_len]; omega), List.getElem?_eq_none (by rw [mcells_len, mkO_len]; omega)]
/-- The slices of the pixels of a list that reads. -/
theorem RdO.pvs {U : Nat → Prop} {w : World} {b off : Nat} (l : List Opn) (h : ∀ (j : Nat) (o : Opn), l[j]? = some o → OAt U w b (off + j * 8) o) : ∃ pv : Nat → Value, (∀ (j : Nat) (o : Opn), l[j]? = some o → RdN U w (pv j) o.px ∧ (pv j).oneCell' = true) ∧ ∀ (t : Nat) (u : Value), (mcells (mkO l pv))[t]? = some u → w.cell? ⟨b, off + t, none⟩ = some u ∧ u.oneCell' = true := by
  have hx : ∀ j : Nat, ∃ pv : Value, ∀ o, l[j]? = some o → (w.cell? ⟨b, off + j * 8 + 6, none⟩ = some pv ∧ RdN U w pv o.px) := by
    intro j
    cases hj : l[j]? with
    | none => exact ⟨undef, fun o ho => by cases ho⟩
    | some o =>
      obtain ⟨h0, h1, h2, h3, h4, h5, ⟨pv, h6, h6'⟩, h7⟩ := h j o hj
      exact ⟨pv, fun o' ho' => by cases ho'; exact ⟨h6, h6'⟩⟩
  obtain ⟨pv, hpv⟩ : ∃ pv : Nat → Value, ∀ (j : Nat) (o : Opn), l[j]? = some o → (w.cell? ⟨b, off + j * 8 + 6, none⟩ = some (pv j) ∧ RdN U w (pv j) o.px) := ⟨fun j => Classical.choose (hx j), fun j => Classical.choose_spec (hx j)⟩
  refine ⟨pv, fun j o ho => ?_, fun t u hu => ?_⟩
  · have := (hpv j o ho).2
    refine ⟨this, ?_⟩
    obtain ⟨ao, cap, e, _⟩ := this
    rw [e]; rfl
  · have ht := (List.getElem?_eq_some_iff.1 hu).1
    rw [mcells_len, mkO_len] at ht
    obtain ⟨j, r, hr, rfl⟩ : ∃ j r, r < 8 ∧ t = j * 8 + r := ⟨t / 8, t % 8, by omega, by omega⟩
    have hj : j < l.length := by omega
    have e1 := mkO_at l pv j
    have hlj : l[j]? = some l[j] := List.getElem?_eq_getElem hj
    rw [hlj] at e1
    simp only [Option.map_some] at e1
    rw [mcells_at _ _ _ e1 r hr] at hu
    obtain ⟨h0, h1, h2, h3, h4, h5, _, h7⟩ := h j _ hlj
    obtain ⟨h6, h6'⟩ := hpv j _ hlj
    have hr' : r = 0 ∨ r = 1 ∨ r = 2 ∨ r = 3 ∨ r = 4 ∨ r = 5 ∨ r = 6 ∨ r = 7 := by omega
    have ho6 : (pv j).oneCell' = true := by obtain ⟨ao, cap, e, _⟩ := h6'; rw [e]; rfl
    rw [← Nat.add_assoc]
    rcases hr' with e | e | e | e | e | e | e | e <;> subst e <;> simp [mcell, mof] at hu <;> subst hu
    · exact ⟨h0, rfl⟩
    · exact ⟨h1, rfl⟩
    · exact ⟨h2, rfl⟩
    · exact ⟨h3, rfl⟩
    · exact ⟨h4, rfl⟩
    · exact ⟨h5, rfl⟩
    · exact ⟨h6, ho6⟩
    · exact ⟨h7, rfl⟩

/-- Pixels that are not looked at are left out. -/
def stripO (o : Opn) : Opn := if o.kind = 3 then o else { o with px := [] }
theorem stripO_kind (o : Opn) : (stripO o).kind = o.kind := by unfold stripO; split <;> rfl
theorem stripO_mof (o : Opn) (pv : Value) : mof (stripO o) pv = mof o pv := by unfold stripO; split <;> rfl
/-- The copy of a transaction, while it is made. -/
structure KeptC (w wr : World) (g c' : Nat) (l : List Opn) (k : Nat) : Prop where
  own : ∃ pv, OwnO wr w.heap.size (.slice (some ⟨g, 0, none⟩) l.length c') (mkO l pv) ∧ ∀ (j : Nat) (o : Opn), j < k → l[j]? = some o → RdN (fun q => w.heap.size ≤ q ∧ q ≠ g) wr (pv j) (stripO o).px
  bel : Below w.heap.size w wr
theorem ownO_n {w : World} {base : Nat} {v : Value} {l : List Opn} {pv : Nat → Value} : OwnO w base v (mkO l pv) = w.ownsRow base 72 8 v l.length (mcells (mkO l pv)) := by unfold OwnO; rw [mkO_len]
theorem KeptC.below {w wr w2 : World} {g c' : Nat} {l : List Opn} {k : Nat} (h : KeptC w wr g c' l k) (hb : Below wr.heap.size wr w2) : KeptC w w2 g c' l k := by
  obtain ⟨pv, ho, hp⟩ := h.own
  exact ⟨⟨pv, row_but (S := fun _ => False) ho (.of_below hb) (fun _ _ h => h), fun j o hj hl => (hp j o hj hl).below hb⟩, h.bel.trans (hb.mono h.bel.size)⟩
theorem KeptC.set {w wr : World} {g c' : Nat} {l : List Opn} {k : Nat} (h : KeptC w wr g c' l k) (hk : k < l.length) (u : Value) : KeptC w (wr.setCell ⟨g, k * 8 + 6, none⟩ u) g c' l k := by
  obtain ⟨pv, ho, hp⟩ := h.own
  rw [ownO_n] at ho
  have h1 := (World.ownsRow.stored ho (k * 8 + 6) u).1
  rw [mkO_set l pv k u hk] at h1
  refine ⟨⟨_, by rw [ownO_n]; exact h1, fun j o hj hl => ?_⟩, h.bel.setCell (p := ⟨g, k * 8 + 6, none⟩) (World.ownsRow.lt ho g rfl).1 _⟩
  have hne : ¬ j = k := by omega
  simp only [hne, if_false]
  exact (hp j o hj hl).but (S := fun q => q = g) ((But.refl (fun q => q = g) wr).setCell (p := ⟨g, k * 8 + 6, none⟩) (.inl rfl) _) (fun q hq e => hq.2 e)
theorem KeptC.next {w wr : World} {g c' : Nat} {l : List Opn} {k : Nat} (h : KeptC w wr g c' l k) {o : Opn} (hk : l[k]? = some o) (u : Value) (hu : RdN (fun q => w.heap.size ≤ q ∧ q ≠ g) wr u (stripO o).px) : KeptC w (wr.setCell ⟨g, k * 8 + 6, none⟩ u) g c' l (k + 1) := by
  have hlt := (List.getElem?_eq_some_iff.1 hk).1
  obtain ⟨pv, ho, hp⟩ := h.own
  rw [ownO_n] at ho
  have h1 := (World.ownsRow.stored ho (k * 8 + 6) u).1
  rw [mkO_set l pv k u hlt] at h1
  have hs : But (fun q => q = g) wr (wr.setCell ⟨g, k * 8 + 6, none⟩ u) := (But.refl (fun q => q = g) wr).setCell (p := ⟨g, k * 8 + 6, none⟩) (.inl rfl) _
  refine ⟨⟨_, by rw [ownO_n]; exact h1, fun j o' hj hl => ?_⟩, h.bel.setCell (p := ⟨g, k * 8 + 6, none⟩) (World.ownsRow.lt ho g rfl).1 _⟩
  by_cases e : j = k
  · subst e
    rw [hk] at hl
    cases hl
    simp only [if_true]
    exact hu.but hs (fun q hq e => hq.2 e)
  · simp only [e, if_false]
    exact (hp j o' (by omega) hl).but hs (fun q hq e => hq.2 e)
theorem KeptC.cell {w wr : World} {g c' : Nat} {l : List Opn} {k : Nat} (h : KeptC w wr g c' l k) (i : Nat) (hi : i < l.length * 8) : ∃ u, wr.cell? ⟨g, i, none⟩ = some u := by
  obtain ⟨pv, ho, _⟩ := h.own
  rw [ownO_n] at ho
  rw [World.ownsRow.cellAt ho i hi]
  have hl : (mcells (mkO l pv)).length = l.length * 8 := ho.1
  exact ⟨(mcells (mkO l pv))[i]'(by omega), by simp⟩
theorem KeptC.thaw {w wr : World} {g c' : Nat} {l : List Opn} {k : Nat} (h : KeptC w wr g c' l k) (i : Nat) : wr.frozen? ⟨g, i, none⟩ = false := by
  obtain ⟨pv, ho, _⟩ := h.own
  rw [ownO_n] at ho
  exact World.ownsRow.frozenAt ho i
theorem KeptC.rd {w wr : World} {g c' : Nat} {l : List Opn} (h : KeptC w wr g c' l l.length) : RdO (fun q => w.heap.size ≤ q) wr (.slice (some ⟨g, 0, none⟩) l.length c') (l.map stripO) := by
  obtain ⟨pv, ho, hp⟩ := h.own
  have ho' := ho
  rw [ownO_n] at ho'
  have hg := World.ownsRow.lt ho' g rfl
  have hcap : l.length ≤ c' ∧ c' ≤ maxLen := by
    rcases ho'.2 with ⟨e, _⟩ | ⟨k, c, cur, e, _, _, hc, hm, _, _⟩
    · cases e
    · simp only [Value.slice.injEq, Option.some.injEq, Addr.mk.injEq, and_true] at e
      obtain ⟨rfl, _, rfl⟩ := e
      exact ⟨hc, hm⟩
  refine ⟨some ⟨g, 0, none⟩, c', by simp, by simpa using hcap.1, hcap.2, fun _ => ⟨g, 0, rfl, hg.1, hg.2, fun j o hj => ?_⟩⟩
  rw [List.getElem?_map] at hj
  cases hlj : l[j]? with
  | none => rw [hlj] at hj; cases hj
  | some o' =>
    rw [hlj] at hj
    simp only [Option.map_some, Option.some.injEq] at hj
    subst hj
    have hjl := (List.getElem?_eq_some_iff.1 hlj).1
    have e1 := mkO_at l pv j
    rw [hlj] at e1
    simp only [Option.map_some] at e1
    rw [← stripO_mof] at e1
    have c : ∀ t, t < 8 → wr.cell? ⟨g, 0 + j * 8 + t, none⟩ = (mcell (mof (stripO o') (pv j)))[t]? := fun t ht => by
      rw [Nat.zero_add]
      exact ownO_at ho (by rw [mkO_len]) e1 t ht
    exact ⟨c 0 (by omega), c 1 (by omega), c 2 (by omega), c 3 (by omega), c 4 (by omega), c 5 (by omega), ⟨pv j, c 6 (by omega), (hp j o' hjl hlj).wide (fun q hq => hq.1)⟩, c 7 (by omega)⟩

set_option maxHeartbeats 4000000 in
theorem copies_any (U : Nat → Prop) (ao : Option Addr) (cap : Nat) (l : List Opn) (w : World) (hR : RdO U w (.slice ao l.length cap) l) (hlen : 1 ≤ l.length ∧ l.length ≤ 20) (hatt : ∀ o ∈ l, o.kind = 3 → 1 ≤ o.px.length ∧ o.px.length ≤ 64) (hU : ∀ k, U k → k < w.heap.size) :
    Calls Try.prog 83 #[.slice ao l.length cap] w fun e w' => ∃ a' n' c', e = .returned (.slice a' n' c') ∧ RdO (fun q => w.heap.size ≤ q) w' (.slice a' n' c') (l.map stripO) ∧ Below w.heap.size w w' := by
  have hR' := hR
  obtain ⟨ao', cap', e, _, _, h3⟩ := hR'
  simp only [Value.slice.injEq, true_and] at e
  obtain ⟨rfl, rfl⟩ := e
  obtain ⟨b, off, rfl, _, hbl, hc⟩ := h3 (by intro e; subst e; simp at hlen)
  obtain ⟨pv, hpv, hcell⟩ := RdO.pvs l hc
  have hCL := clO_any (w := w) (b := b) (off := off) (n := l.length) (cap := cap) (xs := mcells (mkO l pv)) (by rw [mcells_len, mkO_len]) (fun j u hu => (hcell j u hu).1) (fun u hu => by
    obtain ⟨j, hj⟩ := List.mem_iff_getElem?.1 hu
    exact (hcell j u hj).2) (by omega) (fun _ => hbl)
  have CL : Hid (Calls Try.prog 110 #[.slice (some ⟨b, off, none⟩) l.length cap] w fun e w' => ∃ g c', e = .returned (.slice (some ⟨g, 0, none⟩) l.length c') ∧ KeptC w w' g c' l 0) := by
    refine hCL.mono ?_
    rintro e w' ⟨⟨cv, rfl, ho⟩, hb⟩
    rcases ho.2 with ⟨_, e⟩ | ⟨g, c', cur, rfl, hrest⟩
    · omega
    · exact ⟨g, c', rfl, ⟨pv, by rw [ownO_n]; exact ho, fun j o hj => by omega⟩, hb⟩
  have HR := hide hR
  have HAt := hide hatt
  have HU := hide hU
  clear hR hatt hU hCL hcell hpv hc h3
  go_enter Try.func83, Try.ntmps83
  go_wp2_with fail
  refine (unhide CL).mono ?_
  rintro e w1 ⟨g, c', rfl, hK1⟩
  have HK1 := hide hK1
  clear CL hK1
  go_wp2
  go_loopw [10] (fun i wr => ∃ k : Nat, k ≤ l.length ∧ i = .int .i64 k ∧ KeptC w wr g c' l k) (fun i _ => l.length - (intOf i).toNat)
  case atStart => exact ⟨0, Nat.zero_le _, rfl, unhide HK1⟩
  case round =>
    rename World => wq
    obtain ⟨k, hk, rfl, hK⟩ := hrel
    clear HK1
    by_cases hlt : k < l.length
    · obtain ⟨o, ho⟩ : ∃ o, l[k]? = some o := ⟨l[k], by simp [hlt]⟩
      have hR2 := (unhide HR).below hK.bel
      obtain ⟨ao', cap', e, _, _, h3⟩ := hR2
      simp only [Value.slice.injEq, true_and] at e
      obtain ⟨e1, rfl⟩ := e
      obtain ⟨b', off', e2, _, _, hc⟩ := h3 (by intro e; rw [e] at hlt; simp at hlt)
      rw [e2] at e1
      simp only [Option.some.injEq, Addr.mk.injEq, and_true] at e1
      obtain ⟨rfl, rfl⟩ := e1
      obtain ⟨c0, c1, c2, c3, c4, c5, ⟨pv, c6, hpv⟩, c7⟩ := hc k o ho
      have hpv' := hpv
      obtain ⟨po, pc, epv, _⟩ := hpv
      rw [epv] at c6 hpv'
      have hat := (unhide HAt) o (List.mem_of_getElem? ho)
      obtain ⟨u6, hu6⟩ := hK.cell (k * 8 + 6) (by omega)
      have hz := hK.thaw
      have lg : g < wq.heap.size := World.block_lt_of_cell? wq _ hu6
      have hz1 : ∀ (i : Nat) (ob : Obj), (wq.alloc ob).frozen? ⟨g, i, none⟩ = false := fun i ob => (World.frozen?_of_block (w := wq) (Below.heap_alloc _ _ _ lg)).trans (hz i)
      have i0 : (0 : Int) ≤ (k : Int) := by omega
      have i1 : (k : Int) < (l.length : Int) := by omega
      have HK := hide hK
      have HPV := hide hpv'
      have HO := hide ho
      have hgg : w.heap.size ≤ g := by
        obtain ⟨_, ho', _⟩ := hK.own
        exact (World.ownsRow.lt ho' g rfl).1
      clear epv h3 hc ho hK hpv' e2
      by_cases h3k : o.kind = 3
      · have hat' := hat h3k
        have hsp : (stripO o).px = o.px := by simp [stripO, h3k]
        have HC : Hid (∀ w', RdN U w' (.slice po o.px.length pc) o.px → Calls Try.prog 99 #[.slice po o.px.length pc] w' fun e w2 => ∃ a' n' c', e = .returned (.slice a' n' c') ∧ OwnN w2 w'.heap.size (.slice a' n' c') o.px ∧ Below w'.heap.size w' w2) := fun w' h => by
          obtain ⟨ao, cap, e, q1, q2, q3⟩ := h
          simp only [Value.slice.injEq, true_and] at e
          obtain ⟨rfl, rfl⟩ := e
          obtain ⟨b, off, rfl, _, hlt, hc⟩ := q3 (by intro e; rw [e] at hat'; simp at hat')
          refine (clN_any (w := w') (b := b) (off := off) (n := o.px.length) (cap := pc) (xs := o.px.map (Value.int .i64)) (by simp) (fun j u hj => ?_) (ints_one _) (by omega) (fun _ => hlt)).mono ?_
          · rw [List.getElem?_map] at hj
            obtain ⟨x, hx, rfl⟩ := Option.map_eq_some_iff.1 hj
            exact hc j x hx
          · rintro e w2 ⟨⟨cv, rfl, ho⟩, hb⟩
            obtain ⟨ro, rc, rfl⟩ := row_slice ho
            exact ⟨_, _, _, rfl, ho, hb⟩
        have q3 : (o.kind == 3) = true := by simp [h3k]
        clear hat
        have hpA : RdN U ((wq.setCell ⟨g, k * 8 + 6, none⟩ (.slice none 0 0)).alloc (.cells #[.int .i64 3, .int .i64 o.surf, .int .i64 o.x, .int .i64 o.y, .int .i64 o.w, .int .i64 o.h, .slice po o.px.length pc, .int .i64 o.mark] 72)) (.slice po o.px.length pc) o.px :=
          (unhide HPV).but (S := fun q => q = g) (((But.refl (fun q => q = g) wq).setCell (p := ⟨g, k * 8 + 6, none⟩) (.inl rfl) _).alloc _) (fun q hq e => by
            have h1 := (unhide HU) q hq
            omega)
        have hKA := ((unhide HK).set hlt (.slice none 0 0)).below ((Below.refl _ _).alloc (Nat.le_refl _) (.cells #[.int .i64 3, .int .i64 o.surf, .int .i64 o.x, .int .i64 o.y, .int .i64 o.w, .int .i64 o.h, .slice po o.px.length pc, .int .i64 o.mark] 72))
        have HPA := hide hpA
        have HKA := hide hKA
        have HSP := hide hsp
        rw [h3k] at c0
        have hszA : wq.heap.size ≤ ((wq.setCell ⟨g, k * 8 + 6, none⟩ (.slice none 0 0)).alloc (.cells #[.int .i64 3, .int .i64 o.surf, .int .i64 o.x, .int .i64 o.y, .int .i64 o.w, .int .i64 o.h, .slice po o.px.length pc, .int .i64 o.mark] 72)).heap.size := by simp [World.setCell]
        have HSZ := hide hszA
        clear hpA hKA hsp hszA
        go_wp2_with fail
        refine ((unhide HC) _ (unhide HPA)).mono ?_
        rintro e w3 ⟨a3, n3, c3', rfl, ho3, hb3⟩
        have hK3 := (unhide HKA).below hb3
        obtain ⟨u7, hu7⟩ := hK3.cell (k * 8 + 6) (by omega)
        have hz3 := hK3.thaw
        have hN3 := hK3.next (unhide HO) (.slice a3 n3 c3') (by
          rw [unhide HSP]
          refine ho3.rdv (fun q hq => ?_)
          have h1 := (World.ownsRow.lt ho3 q hq).1
          have h2 := unhide HSZ
          exact ⟨by omega, by omega⟩)
        have HN3 := hide hN3
        clear hK3 hb3 HC HPA HKA hN3 ho3
        go_wp2
        go_roundw
        case rel => exact ⟨k + 1, by omega, by go_num, unhide HN3⟩
        case measure => simp [intOf]; omega
      · have q3 : (o.kind == 3) = false := by simpa using h3k
        have hN3 := (unhide HK).next (unhide HO) (.slice none 0 0) (by
          rw [show (stripO o).px = [] by simp [stripO, h3k]]
          exact ⟨none, 0, rfl, by simp, by simp [maxLen], fun h => absurd rfl h⟩)
        have HN3 := hide hN3
        clear hat hN3
        go_wp2
        go_roundw
        case rel => exact ⟨k + 1, by omega, by go_num, (unhide HN3).below ((Below.refl _ _).alloc (Nat.le_refl _) _)⟩
        case measure => simp [intOf]; omega
    · have e : k = l.length := by omega
      have HE : Hid (RdO (fun q => w.heap.size ≤ q) wq (.slice (some ⟨g, 0, none⟩) l.length c') (l.map stripO)) := by
        rw [e] at hK; exact hK.rd
      have HB := hide hK.bel
      clear hK e
      go_wp2
      go_ret
      exact ⟨_, _, _, rfl, unhide HE, unhide HB⟩
end Go.Proofs.Ytfnockbgkcgpkaa
