import Derived.Test.YtfnockbgkcgpkaaKaac
import Derived.MapKept
import Derived.WideKeyRuns
import Derived.Laws.StructEq
import Derived.WalkSpells
import Derived.StillTactics
import Derived.OwnWalk
import Derived.Laws.Pointers
import Derived.BigRegion
import Derived.BigQuiet
import Derived.Deep.QuietTactic
import Derived.Deep.RegionHeld3
import Derived.Deep.RegionLaw
import Derived.Deep.AppendLies
set_option linter.all false
namespace Go.Proofs.Ytfnockbgkcgpkaa
open Go.RowKit Go.Proofs.Panes
set_option maxRecDepth 100000

/-- A surface's key. -/
def kval (c n : Int) : Value := .agg #[.int .i64 c, .int .i64 n]
/-- An entry of the map of surfaces. -/
structure Ke where
  c : Int
  n : Int
  v : Value
  born : Nat
def ke (t : Ke) : MapEntry := { key := kval t.c t.n, val := t.v, born := t.born }
def findE (c n : Int) : List Ke → Nat → Option (Nat × Value)
  | [], _ => none
  | t :: l, i => if (c == t.c && n == t.n) = true then some (i, t.v) else findE c n l (i + 1)

theorem run_equal_key (a b c d : Int) (w : World) : (Op.equal 143 (kval a b) (kval c d)).run Try.prog w = .ok (a == c && b == d) w := by
  unfold kval Op.equal
  rw [show Op.maxDepth = 9999 + 1 from rfl, run_equalIn_struct w 9999 143 _ _ (by kernel_rfl) (by kernel_rfl)]
  go_simp
  by_cases e1 : a = c <;> by_cases e2 : b = d <;> simp [e1, e2]
theorem run_check_int (em : Bool) (a : Int) (n : Nat) (w : World) : (Instr.checkKey em (n + 1) 3 (.int .i64 a)).run Try.prog w = .ok () w := by
  simp only [Instr.checkKey, Sem.run_bind, run_underlying Try.underlying3, Result.andThen_ok, Sem.run_pure]
theorem run_check_key (em : Bool) (a b : Int) (w : World) : (Instr.checkKey em 10000 143 (kval a b)).run Try.prog w = .ok () w := by
  unfold kval
  rw [show (10000 : Nat) = 9998 + 1 + 1 from rfl]
  unfold Instr.checkKey
  simp only [Sem.run_bind, run_underlying Try.underlying143, Result.andThen_ok]
  rw [← Array.forIn_toList]
  simp only [List.forIn_cons, List.forIn_nil, Sem.run_bind, Sem.run_ite]
  go_simp
  simp only [run_check_int, Result.andThen_ok]
  go_simp
  simp only [run_check_int, Result.andThen_ok]

theorem run_find_key (c n : Int) (w : World) : ∀ (L : List Ke) (i : Nat), (Instr.findAsking 143 (kval c n) (L.map ke) i).run Try.prog w = .ok (findE c n L i) w
  | [], i => rfl
  | t :: L, i => by
    simp only [List.map_cons, Instr.findAsking, Sem.run_bind, ke, run_equal_key, Result.andThen_ok, findE, Sem.run_ite]
    split
    · simp only [Sem.run_pure]
    · exact run_find_key c n w L (i + 1)
theorem run_findKey_key (c n : Int) (w : World) (L : List Ke) : (Instr.findKey 143 (kval c n) (L.map ke)).run Try.prog w = .ok (findE c n L 0) w := by
  rw [run_findKey_eq w (by rw [Try.underlying143]), run_find_key]
/-- What lies at a key. -/
def atE (c n : Int) (L : List Ke) : Value := ((findE c n L 0).map (·.2)).getD (.pointer none)
theorem run_lookup_key {w : World} {mb clock : Nat} {L : List Ke} (hm : w.heap[mb]? = some (.map (L.map ke).toArray clock)) (c n : Int) : (Instr.lookup 144 (.map (some mb)) (kval c n) false).run Try.prog w = .ok (atE c n L) w := by
  have hz : (zeroValue 157).run Try.prog w = .ok (.pointer none) w := by rfl
  simp only [Instr.lookup, Sem.run_bind, run_underlying Try.underlying144, MapKept.run_getObj_map hm, Result.andThen_ok, Sem.run_pure, run_check_key, run_findKey_key]
  unfold atE
  cases findE c n L 0 with
  | none => simp [hz]
  | some p => simp
theorem run_update_key {w : World} {mb clock : Nat} {L : List Ke} (hm : w.heap[mb]? = some (.map (L.map ke).toArray clock)) (c n : Int) (v : Value) (hf : findE c n L 0 = none) : (Instr.mapUpdate 144 (.map (some mb)) (kval c n) v).run Try.prog w = .ok () { w with heap := w.heap.setIfInBounds mb (.map ((L ++ [Ke.mk c n v clock]).map ke).toArray (clock + 1)) } := by
  simp only [Instr.mapUpdate, Sem.run_bind, run_underlying Try.underlying144, MapKept.run_getObj_map hm, Result.andThen_ok, Sem.run_pure, run_check_key, run_findKey_key, hf, MapKept.run_setObj_map _ hm]
  simp [ke]
theorem map_erase {α β : Type} (f : α → β) : ∀ (l : List α) (i : Nat), (l.eraseIdx i).map f = (l.map f).eraseIdx i
  | [], _ => rfl
  | _ :: _, 0 => rfl
  | a :: l, i + 1 => by simp [map_erase f l i]
theorem run_delete_key {w : World} {mb clock : Nat} {L : List Ke} (hm : w.heap[mb]? = some (.map (L.map ke).toArray clock)) (c n : Int) (i : Nat) (v : Value) (hf : findE c n L 0 = some (i, v)) (ty : TypeId) : (Builtin.delete_ #[144, 143] ty #[.map (some mb), kval c n]).run Try.prog w = .ok (.tuple #[]) { w with heap := w.heap.setIfInBounds mb (.map ((L.eraseIdx i).map ke).toArray clock) } := by
  simp only [Builtin.delete_, Sem.run_bind, run_underlying Try.underlying144, MapKept.run_getObj_map hm, Result.andThen_ok, Sem.run_pure, run_check_key, run_findKey_key, hf, MapKept.run_setObj_map _ hm]
  have e : (#[Value.map (some mb), kval c n])[0]? = some (.map (some mb)) := rfl
  have e' : (#[Value.map (some mb), kval c n])[1]? = some (kval c n) := rfl
  simp [MapKept.run_getObj_map hm, run_check_key, run_findKey_key, hf, MapKept.run_setObj_map _ hm, map_erase, Result.andThen]
end Go.Proofs.Ytfnockbgkcgpkaa
