import Derived.Test.YtfnockbgkcgpkaaGreatBase
import Derived.Test.YtfnockbgkcgpkaaGreatShelf
import Derived.Sort.OwnSorted
set_option linter.all false
namespace Go.Proofs.YtfnockbgkcgpkaaGreat
open Go.Shelf Go.RowKit Go.Lib Go.Sort Go.Proofs.Panes
set_option maxRecDepth 100000

theorem rcells_get (l : List Rc) (a m : Nat) (r : Rc) (hr : l[a]? = some r) (hm : m < 4) : (rcells l)[a * 4 + m]? = some ((rcell r)[m]!) := by
  have hat := rcells_at l a r hr
  match m, hm with
  | 0, _ => simpa [rcell] using hat.1
  | 1, _ => simpa [rcell] using hat.2.1
  | 2, _ => simpa [rcell] using hat.2.2.1
  | 3, _ => simpa [rcell] using hat.2.2.2
variable [Inhabited Rc]
theorem flat_eq (l : List Rc) : flatK rcell 4 l.toArray = (rcells l).toArray := by
  apply Array.ext
  · simp [size_flatK, rcells_len]
  · intro t h1 h2
    have h1' : t < l.length * 4 := by simpa [size_flatK] using h1
    have hd : t / 4 < l.length := by omega
    have hg := get_flatK rcell 4 l.toArray t (by simpa using h1')
    rw [getElem!_pos _ t h1] at hg
    rw [hg]
    have e : (l.toArray[t / 4]! : Rc) = l[t / 4] := by simp [hd]
    rw [e]
    have hm : t % 4 < 4 := Nat.mod_lt _ (by decide)
    have key := rcells_get l (t / 4) (t % 4) l[t / 4] (by simp [hd]) hm
    rw [show t / 4 * 4 + t % 4 = t by omega] at key
    have h2' : t < (rcells l).length := by simpa using h2
    rw [List.getElem?_eq_getElem h2'] at key
    simpa using (Option.some.inj key).symm

theorem holds_own {w : World} {g : Nat} {cur : Array Value} {e : TypeId} {l : List Rc} (hb : w.heap[g]? = some (.cells cur e (0, 0))) (ht : cur.toList.take (l.length * 4) = rcells l) : HoldsK rcell 4 w g 0 l.toArray := by
  unfold HoldsK
  rw [flat_eq]
  intro j hj
  have hj' : j < (rcells l).length := by simpa using hj
  refine ⟨?_, by simp [World.frozen?, hb]⟩
  have h1 : (cur.toList.take (l.length * 4))[j]? = (rcells l)[j]? := by rw [ht]
  rw [List.getElem?_take_of_lt (by rw [rcells_len] at hj'; exact hj')] at h1
  simp only [World.cell?, hb, Nat.zero_add]
  simp only [Option.isSome_none, Bool.false_eq_true, if_false]
  rw [← Array.getElem?_toList, h1]
  simp [hj']

theorem heap_sortedK {w : World} {g n : Nat} {os : Array Obj} {cur : Array Value} {e : TypeId} {fr : Nat × Nat} (d : Array Rc) (hb : w.heap[g]? = some (.cells cur e fr)) :
    (sortWorldK rcell 4 w g 0 n d os).heap[g]? = some (.cells (putCells id 0 (flatK rcell 4 d) cur) e fr) := by
  have hg : g < w.heap.size := (Array.getElem?_eq_some_iff.1 hb).1
  unfold sortWorldK putRowK
  rw [heap_grow_old _ _ (by simpa using hg)]
  simp [putRow, mapBlock, Sort.ahead, Array.getElem?_modify, hb, onCells]

theorem grownBy_sortedK {w : World} {g n : Nat} {os : Array Obj} (d : Array Rc) : w.grownBy (sortWorldK rcell 4 w g 0 n d os) (some g) := by
  unfold sortWorldK putRowK
  refine ⟨rfl, rfl, rfl, by simp, fun k hk hne => ?_⟩
  rw [heap_grow_old _ _ (by simpa using hk)]
  have : g ≠ k := fun e => hne (by rw [e])
  simp [putRow, mapBlock, Sort.ahead, Array.getElem?_modify, this]

theorem take_putCellsK (cur : Array Value) (xs : List Value) (h : xs.length ≤ cur.size) : (putCells id 0 xs.toArray cur).toList.take xs.length = xs := by
  apply List.ext_getElem?
  intro j
  by_cases hj : j < xs.length
  · rw [List.getElem?_take_of_lt hj, Array.getElem?_toList]
    simp [putCells, hj, show j < cur.size by omega]
  · rw [List.getElem?_take_eq_none (by omega), List.getElem?_eq_none (by omega)]

theorem own_sorted {w : World} {base g cap n : Nat} {os : Array Obj} {cur : Array Value} {l l' : List Rc} (hl : l'.length = l.length) (hbase : base ≤ g) (hb : w.heap[g]? = some (.cells cur 46 (0, 0)))
    (h1 : l.length ≤ cap) (h2 : cap ≤ maxLen) (h3 : cur.size = cap * 4) :
    Own (sortWorldK rcell 4 w g 0 n l'.toArray os) base (.slice (some ⟨g, 0, none⟩) l.length cap) l' := by
  refine ⟨rcells_len l', .inr ⟨g, cap, _, by rw [hl], hbase, heap_sortedK _ hb, by omega, h2, by simp [putCells, h3], ?_⟩⟩
  rw [flat_eq, ← rcells_len]
  exact take_putCellsK cur _ (by rw [rcells_len]; omega)

theorem ltX (p q : Rc) : ltOf (fun p q : Rc => Lib.compareInt p.x q.x) p q = decide (p.x < q.x) := by
  unfold ltOf Lib.compareInt
  by_cases h1 : p.x < q.x
  · simp [h1]
  · by_cases h2 : q.x < p.x <;> simp [h1, h2]

theorem swoX : SWO (ltOf fun p q : Rc => Lib.compareInt p.x q.x) where
  irrefl x := by rw [ltX]; simp
  trans x y z h1 h2 := by rw [ltX] at *; simp at *; omega
  ntrans x y z h1 h2 := by rw [ltX] at *; simp at *; omega

set_option maxHeartbeats 1000000 in
theorem less_any (p q : Rc) (W : World) : Calls Tryz.prog 165 #[.agg #[.int .i64 p.x, .int .i64 p.y, .int .i64 p.w, .int .i64 p.h], .agg #[.int .i64 q.x, .int .i64 q.y, .int .i64 q.w, .int .i64 q.h]] W fun e w' => e = .returned (.int .i64 (Lib.compareInt p.x q.x)) ∧ ∃ n os', w' = grow (W.drewN n) os' := by
  have hcon := fun W' => AnyG.cmp_Compare_int Tryz.layCmp p.x q.x W'
  change ∀ W', Calls Tryz.prog 166 _ _ _ at hcon
  generalize Lib.compareInt p.x q.x = r at hcon ⊢
  go_enter Tryz.func165, Tryz.ntmps165
  go_wp2_with (go_at_call 166; refine (hcon _).mono ?_; rintro e w' ⟨rfl, rfl⟩)
  go_ret
  exact ⟨rfl, 0, _, by rw [alloc_eq_grow, alloc_eq_grow, grow_grow]; rfl⟩

theorem less_lays (blk off size : Nat) (w : World) : CmpLays Tryz.prog 165 #[] rcell 4 (fun p q => Lib.compareInt p.x q.x) blk off size w :=
  fun _ _ _ _ p q => less_any p q _

theorem is_agg : ∀ w, (isAgg 46).run Tryz.prog w = .ok true w := Tryz.isAgg46
theorem size_of : ∀ w, (Go.sizeOf 46).run Tryz.prog w = .ok 4 w := Tryz.sizeOf46

theorem sorted_list {l : List Rc} {d' : Array Rc} (hs : SortedIn (ltOf fun p q : Rc => Lib.compareInt p.x q.x) 0 l.toArray.size d') (hsz : d'.size = l.toArray.size) : d'.toList.Pairwise (fun p q => p.x ≤ q.x) := by
  rw [List.pairwise_iff_getElem]
  intro i j hi hj hij
  have hi' : i < d'.size := by simpa using hi
  have hj' : j < d'.size := by simpa using hj
  have := hs i j (Nat.zero_le _) hij (by omega)
  rw [ltX, getElem!_pos d' j hj', getElem!_pos d' i hi'] at this
  simp at this
  simpa using this

/-- slices.SortFunc, of a row that somebody owns. -/
theorem sort_inh (base : Nat) (v : Value) (l : List Rc) (w : World) (hO : Own w base v l) (hn : l.length ≤ 1000000) :
    Calls Tryz.prog 164 #[v, .func (.func 165) #[] #[]] w fun e w' => e = .returned (.tuple #[]) ∧ ∃ l', l'.Perm l ∧ l'.Pairwise (fun p q => p.x ≤ q.x) ∧ Own w' base v l' ∧ w.grownBy w' v.ownBlock := by
  rcases hO.2 with ⟨rfl, h0⟩ | ⟨g, cap, cur, rfl, hb, hg, hc, hm, hs, ht⟩
  · have e0 : l = [] := List.length_eq_zero_iff.1 h0
    subst e0
    have hcon := AnyF.slices_SortFunc_none Tryz.laySortFunc none 0 (.func (.func 165) #[] #[]) w
    change Calls Tryz.prog 164 _ _ _ at hcon
    exact hcon.mono fun e w' ⟨he, hw⟩ => ⟨he, [], .nil, .nil, hw ▸ hO, hw ▸ grown_drewN w 0 _⟩
  · have eg : ∀ args w, (callFunc 165 args).run Tryz.prog w = .ok (.enter 165 args) w := enters_of Tryz.func165 (by kernel_rfl) rfl
    have hcon := AnyQ.slices_SortFunc Tryz.laySortFunc 4 is_agg size_of rcell (fun _ => rfl) (fun x => rcell_one x) (fun p q => Lib.compareInt p.x q.x) swoX 165 #[] g 0 cap l.toArray w eg (less_lays g 0 _ w) (holds_own hg ht) (Array.getElem?_eq_some_iff.1 hg).1 (by simp; omega)
    change Calls Tryz.prog 164 _ _ _ at hcon
    rw [List.size_toArray] at hcon
    refine hcon.mono fun e w' ⟨he, d', n, os, hp, hso, hw⟩ => ⟨he, d'.toList, ?_, sorted_list (l := l) (by simpa using hso) (by simpa using hp.1), ?_, ?_⟩
    · have := hp.2.2
      have e1 : d'.extract 0 l.length = d' := by rw [show l.length = d'.size by have := hp.1; simp at this; omega]; simp
      have e2 : l.toArray.extract 0 l.length = l.toArray := by rw [show l.length = l.toArray.size by simp]; simp
      rw [e1, e2] at this
      exact this
    · rw [hw]
      exact own_sorted (l' := d'.toList) (by have := hp.1; simpa using this) hb hg hc hm hs
    · rw [hw]; exact grownBy_sortedK _
end Go.Proofs.YtfnockbgkcgpkaaGreat
namespace Go.Proofs.YtfnockbgkcgpkaaGreat
open Go.RowKit Go.Proofs.Panes
theorem sort_any (base : Nat) (v : Value) (l : List Rc) (w : World) (hO : Own w base v l) (hn : l.length ≤ 1000000) :
    Calls Tryz.prog 164 #[v, .func (.func 165) #[] #[]] w fun e w' => e = .returned (.tuple #[]) ∧ ∃ l', l'.Perm l ∧ l'.Pairwise (fun p q => p.x ≤ q.x) ∧ Own w' base v l' ∧ w.grownBy w' v.ownBlock :=
  @sort_inh ⟨⟨0, 0, 0, 0⟩⟩ base v l w hO hn
end Go.Proofs.YtfnockbgkcgpkaaGreat
