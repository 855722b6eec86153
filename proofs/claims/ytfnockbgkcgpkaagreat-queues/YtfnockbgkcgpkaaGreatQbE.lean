import Derived.Test.YtfnockbgkcgpkaaGreatQbD
import Derived.Deep.RegionLaw
set_option linter.all false
namespace Go.Proofs.YtfnockbgkcgpkaaGreat
open Go.RowKit Go.Proofs.Panes
set_option maxRecDepth 100000
attribute [local go_sem ↓] Go.wp_at_zero Go.wp_at_succ

/-- A configuration. -/
structure Cfg where
  w : Int
  h : Int
  clients : Int
  queue : Int
  most : Int
  quantum : Int
  surfaces : Int
  behind : Int
/-- A client of the document's screen, in memory. -/
structure DCl where
  there : Bool
  q : Value
  cr : Int
  wv : Value
def dcell (c : DCl) : List Value := [.bool c.there, c.q, .int .i64 c.cr, c.wv]
def dcells (l : List DCl) : List Value := l.flatMap dcell
theorem dcells_len (l : List DCl) : (dcells l).length = l.length * 4 := by
  induction l with
  | nil => rfl
  | cons r l ih => show (dcell r ++ dcells l).length = _; rw [List.length_append, ih]; simp [dcell]; omega
theorem dcells_at : ∀ (l : List DCl) (j : Nat) (r : DCl), l[j]? = some r →
    (dcells l)[j * 4]? = some (.bool r.there) ∧ (dcells l)[j * 4 + 1]? = some r.q ∧ (dcells l)[j * 4 + 2]? = some (.int .i64 r.cr) ∧ (dcells l)[j * 4 + 3]? = some r.wv
  | [], j, r, h => by simp at h
  | q :: l, 0, r, h => by
    simp at h; subst h
    show (dcell q ++ dcells l)[0]? = _ ∧ (dcell q ++ dcells l)[1]? = _ ∧ (dcell q ++ dcells l)[2]? = _ ∧ (dcell q ++ dcells l)[3]? = _
    simp [dcell]
  | q :: l, j + 1, r, h => by
    have h' : l[j]? = some r := by simpa using h
    have ih := dcells_at l j r h'
    have e : ∀ t, (dcells (q :: l))[(j + 1) * 4 + t]? = (dcells l)[j * 4 + t]? := by
      intro t
      show (dcell q ++ dcells l)[_]? = _
      rw [List.getElem?_append_right (by simp [dcell]; omega)]
      congr 1
      simp [dcell]; omega
    refine ⟨by have := e 0; simp only [Nat.add_zero] at this; rw [this]; exact ih.1, by rw [e 1]; exact ih.2.1, by rw [e 2]; exact ih.2.2.1, by rw [e 3]; exact ih.2.2.2⟩
/-- One client is another one. -/
theorem dcells_put : ∀ (l : List DCl) (j : Nat) (c : DCl), j < l.length →
    ((((dcells l).set (j * 4) (.bool c.there)).set (j * 4 + 1) c.q).set (j * 4 + 2) (.int .i64 c.cr)).set (j * 4 + 3) c.wv = dcells (l.set j c)
  | [], j, c, h => by simp at h
  | q :: l, 0, c, h => rfl
  | q :: l, j + 1, c, h => by
    have ih := dcells_put l j c (by simpa using h)
    show _ = dcell q ++ dcells (l.set j c)
    rw [← ih]
    have e : ∀ (X : List Value) (t : Nat) (u : Value), (dcell q ++ X).set ((j + 1) * 4 + t) u = dcell q ++ X.set (j * 4 + t) u := fun X t u => by
      rw [List.set_append_right _ _ (by simp [dcell]; omega)]
      congr 2
      simp [dcell]; omega
    have e0 : ∀ (X : List Value) (u : Value), (dcell q ++ X).set ((j + 1) * 4) u = dcell q ++ X.set (j * 4) u := fun X u => e X 0 u
    show ((((dcell q ++ dcells l).set _ _).set _ _).set _ _).set _ _ = _
    rw [e0, e, e, e]

/-- The document's screen, in memory: its block, its clients' block. -/
structure DocSt (w : World) (sp cb : Nat) (c : Cfg) (cl : List DCl) : Prop where
  scr : ∃ cs, w.heap[sp]? = some (.cells cs 121) ∧ cs[0]? = some (.int .i64 c.w) ∧ cs[1]? = some (.int .i64 c.h) ∧ cs[2]? = some (.int .i64 c.clients) ∧ cs[3]? = some (.int .i64 c.queue) ∧ cs[4]? = some (.int .i64 c.most) ∧ cs[5]? = some (.int .i64 c.quantum) ∧ cs[6]? = some (.int .i64 c.surfaces) ∧ cs[7]? = some (.int .i64 c.behind) ∧ cs[8]? = some (.slice (some ⟨cb, 0, none⟩) cl.length cl.length)
  cls : w.heap[cb]? = some (.cells (dcells cl).toArray 123)
theorem DocSt.but {S : Nat → Prop} {w w' : World} {sp cb : Nat} {c : Cfg} {cl : List DCl} (h : DocSt w sp cb c cl) (hb : But S w w') (h1 : ¬ S sp) (h2 : ¬ S cb) : DocSt w' sp cb c cl := by
  obtain ⟨cs, hs, r⟩ := h.scr
  exact ⟨⟨cs, hb.heap hs h1, r⟩, hb.heap h.cls h2⟩
theorem DocSt.below {w w' : World} {sp cb : Nat} {c : Cfg} {cl : List DCl} (h : DocSt w sp cb c cl) (hb : Below w.heap.size w w') : DocSt w' sp cb c cl := h.but (S := fun _ => False) (.of_below hb) (fun h => h) (fun h => h)
theorem DocSt.apart {w : World} {sp cb : Nat} {c : Cfg} {cl : List DCl} (h : DocSt w sp cb c cl) : sp ≠ cb := fun e => by
  obtain ⟨cs, hs, _⟩ := h.scr
  have := h.cls
  rw [← e, hs] at this
  simp at this

/-- Is a client connected? -/
def isThere (cl : List DCl) (n : Int) : Bool := decide (0 ≤ n) && (match cl[n.toNat]? with | some c => c.there | none => false)

set_option maxHeartbeats 2000000 in
theorem there_any {w : World} {sp cb : Nat} {c : Cfg} {cl : List DCl} (h : DocSt w sp cb c cl) (n : Int) :
    Calls Tryz.prog 47 #[.pointer (some ⟨sp, 0, none⟩), .int .i64 n] w fun e w' => e = .returned (.bool (isThere cl n)) ∧ w' = w := by
  obtain ⟨cs, hs, _, _, _, _, _, _, _, _, h8⟩ := h.scr
  have c8 : w.cell? ⟨sp, 8, none⟩ = some (.slice (some ⟨cb, 0, none⟩) cl.length cl.length) := by rw [blk_cell hs]; exact h8
  have hcl := h.cls
  by_cases h0 : 0 ≤ n
  · obtain ⟨j, rfl⟩ : ∃ j : Nat, n = j := ⟨n.toNat, by omega⟩
    by_cases hj : j < cl.length
    · obtain ⟨d, hd⟩ : ∃ d, cl[j]? = some d := ⟨cl[j], by simp [hj]⟩
      have hat := (dcells_at cl j d hd).1
      have cc : w.cell? ⟨cb, j * 4, none⟩ = some (.bool d.there) := by rw [blk_cell hcl]; simpa using hat
      have e : isThere cl (j : Int) = d.there := by simp [isThere, hd]
      rw [e]
      have i1 : (j : Int) < (cl.length : Int) := by omega
      clear hs hcl h8 hat h e hd
      go_enter Tryz.func47, Tryz.ntmps47
      go_wp2
      go_ret
      exact ⟨rfl, rfl⟩
    · have e : isThere cl (j : Int) = false := by simp [isThere, hj]
      rw [e]
      have i1 : ¬ (j : Int) < (cl.length : Int) := by omega
      clear hs hcl h8 h e
      go_enter Tryz.func47, Tryz.ntmps47
      go_wp2
      go_ret
      exact ⟨rfl, rfl⟩
  · have e : isThere cl n = false := by simp [isThere, h0]
    rw [e]
    clear hs hcl h8 h e
    go_enter Tryz.func47, Tryz.ntmps47
    go_wp2
    go_ret
    exact ⟨rfl, rfl⟩
end Go.Proofs.YtfnockbgkcgpkaaGreat
