import Derived.Test.YtfnockbgkcgpkaaGreatTkac
import Derived.MapKept
import Derived.WideKeyRuns
import Derived.Laws.StructEq
import Derived.WalkSpells
import Derived.StillTactics
import Derived.OwnWalk
import Derived.Laws.Pointers
import Derived.BigRegion
import Derived.BigQuiet
import Derived.Deep.QuietTactic
import Derived.Deep.RegionHeld3
import Derived.Deep.RegionLaw
import Derived.Deep.AppendLies
set_option linter.all false
set_option maxRecDepth 100000
set_option maxHeartbeats 16000000
namespace Go.Proofs.YtfnockbgkcgpkaaGreat
open Go.RowKit Go.Proofs.Panes
def zZ (c n:Int):Value:=.agg #[.int .i64 c,.int .i64 n]
structure Ke where
 c:Int
 n:Int
 v:Value
 born:Nat
def ke (t:Ke):MapEntry:={key:=zZ t.c t.n,val:=t.v,born:=t.born}
def vz (c n:Int):List Ke->Nat->Option (Nat×Value)
 | [],_=>none
 | t::l,i=>if (c == t.c&&n == t.n)=true then some (i,t.v) else vz c n l (i+1)
theorem Xf (a b c d:Int)(w:World):(Op.equal 173 (zZ a b) (zZ c d)).run Tryz.prog w=.ok (a == c&&b == d) w:=by
 unfold zZ Op.equal;rw[show Op.maxDepth=9999+1 from rfl,run_equalIn_struct w 9999 173 _ _ (by kernel_rfl) (by kernel_rfl)];go_simp
 by_cases e1:a=c<;>by_cases e2:b=d<;>simp[e1,e2]
theorem Qf (em:Bool)(a:Int)(n:Nat)(w:World):(Instr.checkKey em (n+1) 3 (.int .i64 a)).run Tryz.prog w=.ok () w:=by
 simp only[Instr.checkKey,Sem.run_bind,run_underlying Tryz.underlying3,Result.andThen_ok,Sem.run_pure]
theorem xG (em:Bool)(a b:Int)(w:World):(Instr.checkKey em 10000 173 (zZ a b)).run Tryz.prog w=.ok () w:=by
 unfold zZ;rw[show (10000:Nat)=9998+1+1 from rfl];unfold Instr.checkKey;simp only[Sem.run_bind,run_underlying Tryz.underlying173,Result.andThen_ok];rw[<-Array.forIn_toList];simp only[List.forIn_cons,List.forIn_nil,Sem.run_bind,Sem.run_ite];go_simp;simp only[Qf,Result.andThen_ok];go_simp;simp only[Qf,Result.andThen_ok]
theorem QF (c n:Int)(w:World):∀ (L:List Ke)(i:Nat),(Instr.findAsking 173 (zZ c n) (L.map ke) i).run Tryz.prog w=.ok (vz c n L i) w
 | [],i=>rfl
 | t::L,i=>by
  simp only[List.map_cons,Instr.findAsking,Sem.run_bind,ke,Xf,Result.andThen_ok,vz,Sem.run_ite]
  split
  ·simp only[Sem.run_pure]
  ·exact QF c n w L (i+1)
theorem jY (c n:Int)(w:World)(L:List Ke):(Instr.findKey 173 (zZ c n) (L.map ke)).run Tryz.prog w=.ok (vz c n L 0) w:=by
 rw[run_findKey_eq w (by rw[Tryz.underlying173]),QF]
def atE (c n:Int)(L:List Ke):Value:=((vz c n L 0).map (·.2)).getD (.pointer none)
theorem zn {w:World}{mb clock:Nat}{L:List Ke}(hm:w.heap[mb]?=some (.map (L.map ke).toArray clock))(c n:Int):(Instr.lookup 174 (.map (some mb)) (zZ c n) false).run Tryz.prog w=.ok (atE c n L) w:=by
 have hz:(zeroValue 212).run Tryz.prog w=.ok (.pointer none) w:=(by rfl);simp only[Instr.lookup,Sem.run_bind,run_underlying Tryz.underlying174,MapKept.run_getObj_map hm,Result.andThen_ok,Sem.run_pure,xG,jY];unfold atE
 cases vz c n L 0 with
 | none=>simp[hz]
 | some p=>simp
theorem Jl {w:World}{mb clock:Nat}{L:List Ke}(hm:w.heap[mb]?=some (.map (L.map ke).toArray clock))(c n:Int)(v:Value)(hf:vz c n L 0=none):(Instr.mapUpdate 174 (.map (some mb)) (zZ c n) v).run Tryz.prog w=.ok () {w with heap:=w.heap.setIfInBounds mb (.map ((L++[Ke.mk c n v clock]).map ke).toArray (clock+1))}:=by
 simp only[Instr.mapUpdate,Sem.run_bind,run_underlying Tryz.underlying174,MapKept.run_getObj_map hm,Result.andThen_ok,Sem.run_pure,xG,jY,hf,MapKept.run_setObj_map _ hm];simp[ke]
theorem Zt {α β:Type}(f:α->β):∀ (l:List α)(i:Nat),(l.eraseIdx i).map f=(l.map f).eraseIdx i
 | [],_=>rfl
 | _::_,0=>rfl
 | a::l,i+1=>by simp[Zt f l i]
theorem Jn {w:World}{mb clock:Nat}{L:List Ke}(hm:w.heap[mb]?=some (.map (L.map ke).toArray clock))(c n:Int)(i:Nat)(v:Value)(hf:vz c n L 0=some (i,v))(ty:TypeId):(Builtin.delete_ #[174,173] ty #[.map (some mb),zZ c n]).run Tryz.prog w=.ok (.tuple #[]) {w with heap:=w.heap.setIfInBounds mb (.map ((L.eraseIdx i).map ke).toArray clock)}:=by
 simp only[Builtin.delete_,Sem.run_bind,run_underlying Tryz.underlying174,MapKept.run_getObj_map hm,Result.andThen_ok,Sem.run_pure,xG,jY,hf,MapKept.run_setObj_map _ hm];have e:(#[Value.map (some mb),zZ c n])[0]?=some (.map (some mb)):=rfl;have e':(#[Value.map (some mb),zZ c n])[1]?=some (zZ c n):=rfl;simp[MapKept.run_getObj_map hm,xG,jY,hf,MapKept.run_setObj_map _ hm,Zt,Result.andThen]
end Go.Proofs.YtfnockbgkcgpkaaGreat
