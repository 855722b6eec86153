import Derived.Test.YtfnockbgkcgpkaaGreatTkac
import Derived.Test.YtfnockbgkcgpkaaGreatTkah
import Derived.Test.YtfnockbgkcgpkaaGreatTkau
import Derived.Test.YtfnockbgkcgpkaaGreatTkav
import Derived.Deep.RegionHeld3
import Derived.Deep.AppendLies
import Derived.Deep.DrawnRows
import Derived.WalkSpells
import Derived.StillTactics
import Derived.OwnWalk
import Derived.Laws.Pointers
import Derived.BigRegion
import Derived.BigQuiet
import Derived.Deep.QuietTactic
import Derived.Deep.RegionLaw
set_option linter.all false
set_option maxRecDepth 100000
set_option maxHeartbeats 16000000
namespace Go.Proofs.YtfnockbgkcgpkaaGreat
open Go.RowKit Go.Proofs.Panes
section
attribute [local go_sem ↓] Go.wp_at_zero Go.wp_at_succ
theorem kc {w:World}{base g n cap:Nat}{l:List Bool}(h:ze w base (.slice (some ⟨g,0,none⟩) n cap) l)(hn:n=l.length)(j:Nat)(b:Bool):ze (w.setCell ⟨g,j,none⟩ (.bool b)) base (.slice (some ⟨g,0,none⟩) n cap) (l.set j b):=by
 subst hn;have:=(World.ownsRow.stored h j (.bool b)).1;unfold ze;rw[List.length_set,List.map_set];exact this
def Valid (w w':World)(base g n cap:Nat)(will:List Bool)(o:Opn)(b:Bool):Prop:=
 But (fun k=>k=g) w w'/\(b=true->∃ will',qP will o=some will'/\will'.length=will.length/\ze w' base (.slice (some ⟨g,0,none⟩) n cap) will')/\(b=false->qP will o=none)
end
section
attribute [local go_sem ↓] Go.wp_at_zero Go.wp_at_succ
def qd6 (o:Opn)(pv:Value):Value:=.agg #[.int .i64 o.kind,.int .i64 o.surf,.int .i64 o.x,.int .i64 o.y,.int .i64 o.w,.int .i64 o.h,pv,.int .i64 o.mark]
theorem qg4 (sp:Nat)(v:Value)(kind surf x y ww h mark:Int)(po:Option Addr)(pn pc:Nat)(w:World)(hk:kind=8) :
 Calls Tryz.prog 59 #[.pointer (some ⟨sp,0,none⟩),.agg #[.int .i64 kind,.int .i64 surf,.int .i64 x,.int .i64 y,.int .i64 ww,.int .i64 h,.slice po pn pc,.int .i64 mark],v] w fun e w'=>e=.returned (.bool true)/\Below w.heap.size w w':=by
 subst hk
 go_enter Tryz.func59,Tryz.ntmps59
 go_wp2;go_ret;exact⟨rfl,(Below.refl _ w).alloc (zzl _) _⟩
theorem qo9 (sp base g n cap:Nat)(will:List Bool)(x y ww h mark:Int)(po:Option Addr)(pn pc:Nat)(w:World)
 (hS:w.cell? ⟨sp,6,none⟩=some (.int .i64 n)) (hO:ze w base (.slice (some ⟨g,0,none⟩) n cap) will) (hn:n=will.length) (h4:1<=n/\n<=4) (j:Nat) (hjn:j<n) (hb:will[j]?=some false) :
 Calls Tryz.prog 59 #[.pointer (some ⟨sp,0,none⟩),.agg #[.int .i64 1,.int .i64 j,.int .i64 x,.int .i64 y,.int .i64 ww,.int .i64 h,.slice po pn pc,.int .i64 mark],.slice (some ⟨g,0,none⟩) n cap] w fun e w'=>e=.returned (.bool (inB x (-100) 100&&inB y (-100) 100))/\ze w' base (.slice (some ⟨g,0,none⟩) n cap) (will.set j true)/\But (fun k=>k=g) w w':=by
 have hg:=(World.ownsRow.lt hO g rfl).2;have hsp:sp<w.heap.size:=World.block_lt_of_cell? w _ hS;have cw:w.cell? ⟨g,j,none⟩=some (.bool false):=xm hO hb;have fw:w.frozen? ⟨g,j,none⟩=false:=(by subst hn;exact World.ownsRow.frozenAt hO j);have HO:=qg hO;have HN:=qg hn;have i0:(0:Int)<=(j:Int):=(by omega);have i1:(j:Int)<=(n:Int)-1:=(by omega);have i2:(j:Int)<(n:Int):=(by omega);have wr:IntKind.i64.wrap ((n:Int)-1)=(n:Int)-1:=(by rw[IntKind.wrap_i64];omega);clear hO hn hb
 go_enter Tryz.func59,Tryz.ntmps59
 go_wp2_with (go_at_call 58;refine (qZ _ _ _ _).mono ?_;rintro e w' ⟨rfl,rfl⟩)
 go_quiet ((go_at_call 58;exact Calls.quiet_of_same (qZ _ _ _ _)))
 have hb1:Below w.heap.size w ((w.alloc (.cells #[.int .i64 1,.int .i64 j,.int .i64 x,.int .i64 y,.int .i64 ww,.int .i64 h,.slice po pn pc,.int .i64 mark] 52)).drewN nq):=below_drewN ((Below.refl _ w).alloc (zzl _) _) _;have hx1:((w.alloc (.cells #[.int .i64 1,.int .i64 j,.int .i64 x,.int .i64 y,.int .i64 ww,.int .i64 h,.slice po pn pc,.int .i64 mark] 52)).drewN nq).heap[w.heap.size]?=some (.cells #[.int .i64 1,.int .i64 j,.int .i64 x,.int .i64 y,.int .i64 ww,.int .i64 h,.slice po pn pc,.int .i64 mark] 52):=qt _ _ _ rfl;generalize (w.alloc (.cells #[.int .i64 1,.int .i64 j,.int .i64 x,.int .i64 y,.int .i64 ww,.int .i64 h,.slice po pn pc,.int .i64 mark] 52)).drewN nq=w1 at *;have d0:w1.cell? ⟨w.heap.size,0,none⟩=some (.int .i64 1):=qe hx1 0;have d1:w1.cell? ⟨w.heap.size,1,none⟩=some (.int .i64 j):=qe hx1 1;have d2:w1.cell? ⟨w.heap.size,2,none⟩=some (.int .i64 x):=qe hx1 2;have d3:w1.cell? ⟨w.heap.size,3,none⟩=some (.int .i64 y):=qe hx1 3;have d4:w1.cell? ⟨w.heap.size,4,none⟩=some (.int .i64 ww):=qe hx1 4;have d5:w1.cell? ⟨w.heap.size,5,none⟩=some (.int .i64 h):=qe hx1 5;have d6:w1.cell? ⟨w.heap.size,6,none⟩=some (.slice po pn pc):=qe hx1 6;have dw:w1.cell? ⟨g,j,none⟩=some (.bool false):=(hb1.cell hg).trans cw;have df:w1.frozen? ⟨g,j,none⟩=false:=(hb1.frozen hg).trans fw;have HB1:=qg hb1;clear hb1 hx1 cw fw hS;have dd:(decide ((0:Int)<=(j:Int))&&decide ((j:Int)<=(n:Int)-1))=true:=by simp;omega
 go_wp2_with fail
 rw[dd]
 go_quiet (fail)
 have hb2:Below w.heap.size w (w1.drewN nq):=below_drewN (qb HB1) _;have e0:(w1.drewN nq).cell? ⟨w.heap.size,0,none⟩=some (.int .i64 1):=d0;have e1:(w1.drewN nq).cell? ⟨w.heap.size,1,none⟩=some (.int .i64 j):=d1;have e2:(w1.drewN nq).cell? ⟨w.heap.size,2,none⟩=some (.int .i64 x):=d2;have e3:(w1.drewN nq).cell? ⟨w.heap.size,3,none⟩=some (.int .i64 y):=d3;have e4:(w1.drewN nq).cell? ⟨w.heap.size,4,none⟩=some (.int .i64 ww):=d4;have e5:(w1.drewN nq).cell? ⟨w.heap.size,5,none⟩=some (.int .i64 h):=d5;have e6:(w1.drewN nq).cell? ⟨w.heap.size,6,none⟩=some (.slice po pn pc):=d6;have ew:(w1.drewN nq).cell? ⟨g,j,none⟩=some (.bool false):=dw;have ef:(w1.drewN nq).frozen? ⟨g,j,none⟩=false:=df;clear HB1 d0 d1 d2 d3 d4 d5 d6 dw df dd;generalize w1.drewN nq=w2 at *;have hO2:ze w2 base (.slice (some ⟨g,0,none⟩) n cap) will:=zm (qb HO) hb2;have HO2:=qg hO2;have HB2:=qg hb2;clear hb2 hO2
 go_wp2_with (go_at_call 58;refine (qZ _ _ _ _).mono ?_;rintro e w' ⟨rfl,rfl⟩)
 all_goals go_ret
 all_goals refine⟨?_,kc (qb HO2) (qb HN) j true,But.setCell (S:=fun k=>k=g) (But.of_below (qb HB2)) (p:=⟨g,j,none⟩) (.inl rfl) _⟩
 all_goals first | rfl | (simp_all [inB];done) | (simp_all [inB];omega)
theorem qo8 (sp base g n cap:Nat)(will:List Bool)(x y ww h mark:Int)(po:Option Addr)(pn pc:Nat)(w:World)
 (hS:w.cell? ⟨sp,6,none⟩=some (.int .i64 n)) (hO:ze w base (.slice (some ⟨g,0,none⟩) n cap) will) (hn:n=will.length) (h4:1<=n/\n<=4) (j:Nat) (hjn:j<n) (hb:will[j]?=some true) :
 Calls Tryz.prog 59 #[.pointer (some ⟨sp,0,none⟩),.agg #[.int .i64 2,.int .i64 j,.int .i64 x,.int .i64 y,.int .i64 ww,.int .i64 h,.slice po pn pc,.int .i64 mark],.slice (some ⟨g,0,none⟩) n cap] w fun e w'=>e=.returned (.bool (true))/\ze w' base (.slice (some ⟨g,0,none⟩) n cap) (will.set j false)/\But (fun k=>k=g) w w':=by
 have hg:=(World.ownsRow.lt hO g rfl).2;have hsp:sp<w.heap.size:=World.block_lt_of_cell? w _ hS;have cw:w.cell? ⟨g,j,none⟩=some (.bool true):=xm hO hb;have fw:w.frozen? ⟨g,j,none⟩=false:=(by subst hn;exact World.ownsRow.frozenAt hO j);have HO:=qg hO;have HN:=qg hn;have i0:(0:Int)<=(j:Int):=(by omega);have i1:(j:Int)<=(n:Int)-1:=(by omega);have i2:(j:Int)<(n:Int):=(by omega);have wr:IntKind.i64.wrap ((n:Int)-1)=(n:Int)-1:=(by rw[IntKind.wrap_i64];omega);clear hO hn hb
 go_enter Tryz.func59,Tryz.ntmps59
 go_wp2_with (go_at_call 58;refine (qZ _ _ _ _).mono ?_;rintro e w' ⟨rfl,rfl⟩)
 go_quiet ((go_at_call 58;exact Calls.quiet_of_same (qZ _ _ _ _)))
 have hb1:Below w.heap.size w ((w.alloc (.cells #[.int .i64 2,.int .i64 j,.int .i64 x,.int .i64 y,.int .i64 ww,.int .i64 h,.slice po pn pc,.int .i64 mark] 52)).drewN nq):=below_drewN ((Below.refl _ w).alloc (zzl _) _) _;have hx1:((w.alloc (.cells #[.int .i64 2,.int .i64 j,.int .i64 x,.int .i64 y,.int .i64 ww,.int .i64 h,.slice po pn pc,.int .i64 mark] 52)).drewN nq).heap[w.heap.size]?=some (.cells #[.int .i64 2,.int .i64 j,.int .i64 x,.int .i64 y,.int .i64 ww,.int .i64 h,.slice po pn pc,.int .i64 mark] 52):=qt _ _ _ rfl;generalize (w.alloc (.cells #[.int .i64 2,.int .i64 j,.int .i64 x,.int .i64 y,.int .i64 ww,.int .i64 h,.slice po pn pc,.int .i64 mark] 52)).drewN nq=w1 at *;have d0:w1.cell? ⟨w.heap.size,0,none⟩=some (.int .i64 2):=qe hx1 0;have d1:w1.cell? ⟨w.heap.size,1,none⟩=some (.int .i64 j):=qe hx1 1;have d2:w1.cell? ⟨w.heap.size,2,none⟩=some (.int .i64 x):=qe hx1 2;have d3:w1.cell? ⟨w.heap.size,3,none⟩=some (.int .i64 y):=qe hx1 3;have d4:w1.cell? ⟨w.heap.size,4,none⟩=some (.int .i64 ww):=qe hx1 4;have d5:w1.cell? ⟨w.heap.size,5,none⟩=some (.int .i64 h):=qe hx1 5;have d6:w1.cell? ⟨w.heap.size,6,none⟩=some (.slice po pn pc):=qe hx1 6;have dw:w1.cell? ⟨g,j,none⟩=some (.bool true):=(hb1.cell hg).trans cw;have df:w1.frozen? ⟨g,j,none⟩=false:=(hb1.frozen hg).trans fw;have HB1:=qg hb1;clear hb1 hx1 cw fw hS;have dd:(decide ((0:Int)<=(j:Int))&&decide ((j:Int)<=(n:Int)-1))=true:=by simp;omega
 go_wp2_with fail
 rw[dd]
 go_quiet (fail)
 have hb2:Below w.heap.size w (w1.drewN nq):=below_drewN (qb HB1) _;have e0:(w1.drewN nq).cell? ⟨w.heap.size,0,none⟩=some (.int .i64 2):=d0;have e1:(w1.drewN nq).cell? ⟨w.heap.size,1,none⟩=some (.int .i64 j):=d1;have e2:(w1.drewN nq).cell? ⟨w.heap.size,2,none⟩=some (.int .i64 x):=d2;have e3:(w1.drewN nq).cell? ⟨w.heap.size,3,none⟩=some (.int .i64 y):=d3;have e4:(w1.drewN nq).cell? ⟨w.heap.size,4,none⟩=some (.int .i64 ww):=d4;have e5:(w1.drewN nq).cell? ⟨w.heap.size,5,none⟩=some (.int .i64 h):=d5;have e6:(w1.drewN nq).cell? ⟨w.heap.size,6,none⟩=some (.slice po pn pc):=d6;have ew:(w1.drewN nq).cell? ⟨g,j,none⟩=some (.bool true):=dw;have ef:(w1.drewN nq).frozen? ⟨g,j,none⟩=false:=df;clear HB1 d0 d1 d2 d3 d4 d5 d6 dw df dd;generalize w1.drewN nq=w2 at *;have hO2:ze w2 base (.slice (some ⟨g,0,none⟩) n cap) will:=zm (qb HO) hb2;have HO2:=qg hO2;have HB2:=qg hb2;clear hb2 hO2
 go_wp2_with (go_at_call 58;refine (qZ _ _ _ _).mono ?_;rintro e w' ⟨rfl,rfl⟩)
 all_goals go_ret
 all_goals refine⟨?_,kc (qb HO2) (qb HN) j false,But.setCell (S:=fun k=>k=g) (But.of_below (qb HB2)) (p:=⟨g,j,none⟩) (.inl rfl) _⟩
 all_goals first | rfl | (simp_all [inB];done) | (simp_all [inB];omega)
theorem qo6 (sp base g n cap:Nat)(will:List Bool)(x y ww h mark:Int)(po:Option Addr)(pn pc:Nat)(w:World)
 (hS:w.cell? ⟨sp,6,none⟩=some (.int .i64 n)) (hO:ze w base (.slice (some ⟨g,0,none⟩) n cap) will) (hn:n=will.length) (h4:1<=n/\n<=4) (j:Nat) (hjn:j<n) (hb:will[j]?=some true) :
 Calls Tryz.prog 59 #[.pointer (some ⟨sp,0,none⟩),.agg #[.int .i64 4,.int .i64 j,.int .i64 x,.int .i64 y,.int .i64 ww,.int .i64 h,.slice po pn pc,.int .i64 mark],.slice (some ⟨g,0,none⟩) n cap] w fun e w'=>e=.returned (.bool (inB x (-100) 100&&inB y (-100) 100))/\ze w' base (.slice (some ⟨g,0,none⟩) n cap) will/\But (fun k=>k=g) w w':=by
 have hg:=(World.ownsRow.lt hO g rfl).2;have hsp:sp<w.heap.size:=World.block_lt_of_cell? w _ hS;have cw:w.cell? ⟨g,j,none⟩=some (.bool true):=xm hO hb;have fw:w.frozen? ⟨g,j,none⟩=false:=(by subst hn;exact World.ownsRow.frozenAt hO j);have HO:=qg hO;have HN:=qg hn;have i0:(0:Int)<=(j:Int):=(by omega);have i1:(j:Int)<=(n:Int)-1:=(by omega);have i2:(j:Int)<(n:Int):=(by omega);have wr:IntKind.i64.wrap ((n:Int)-1)=(n:Int)-1:=(by rw[IntKind.wrap_i64];omega);clear hO hn hb
 go_enter Tryz.func59,Tryz.ntmps59
 go_wp2_with (go_at_call 58;refine (qZ _ _ _ _).mono ?_;rintro e w' ⟨rfl,rfl⟩)
 go_quiet ((go_at_call 58;exact Calls.quiet_of_same (qZ _ _ _ _)))
 have hb1:Below w.heap.size w ((w.alloc (.cells #[.int .i64 4,.int .i64 j,.int .i64 x,.int .i64 y,.int .i64 ww,.int .i64 h,.slice po pn pc,.int .i64 mark] 52)).drewN nq):=below_drewN ((Below.refl _ w).alloc (zzl _) _) _;have hx1:((w.alloc (.cells #[.int .i64 4,.int .i64 j,.int .i64 x,.int .i64 y,.int .i64 ww,.int .i64 h,.slice po pn pc,.int .i64 mark] 52)).drewN nq).heap[w.heap.size]?=some (.cells #[.int .i64 4,.int .i64 j,.int .i64 x,.int .i64 y,.int .i64 ww,.int .i64 h,.slice po pn pc,.int .i64 mark] 52):=qt _ _ _ rfl;generalize (w.alloc (.cells #[.int .i64 4,.int .i64 j,.int .i64 x,.int .i64 y,.int .i64 ww,.int .i64 h,.slice po pn pc,.int .i64 mark] 52)).drewN nq=w1 at *;have d0:w1.cell? ⟨w.heap.size,0,none⟩=some (.int .i64 4):=qe hx1 0;have d1:w1.cell? ⟨w.heap.size,1,none⟩=some (.int .i64 j):=qe hx1 1;have d2:w1.cell? ⟨w.heap.size,2,none⟩=some (.int .i64 x):=qe hx1 2;have d3:w1.cell? ⟨w.heap.size,3,none⟩=some (.int .i64 y):=qe hx1 3;have d4:w1.cell? ⟨w.heap.size,4,none⟩=some (.int .i64 ww):=qe hx1 4;have d5:w1.cell? ⟨w.heap.size,5,none⟩=some (.int .i64 h):=qe hx1 5;have d6:w1.cell? ⟨w.heap.size,6,none⟩=some (.slice po pn pc):=qe hx1 6;have dw:w1.cell? ⟨g,j,none⟩=some (.bool true):=(hb1.cell hg).trans cw;have df:w1.frozen? ⟨g,j,none⟩=false:=(hb1.frozen hg).trans fw;have HB1:=qg hb1;clear hb1 hx1 cw fw hS;have dd:(decide ((0:Int)<=(j:Int))&&decide ((j:Int)<=(n:Int)-1))=true:=by simp;omega
 go_wp2_with fail
 rw[dd]
 go_quiet (fail)
 have hb2:Below w.heap.size w (w1.drewN nq):=below_drewN (qb HB1) _;have e0:(w1.drewN nq).cell? ⟨w.heap.size,0,none⟩=some (.int .i64 4):=d0;have e1:(w1.drewN nq).cell? ⟨w.heap.size,1,none⟩=some (.int .i64 j):=d1;have e2:(w1.drewN nq).cell? ⟨w.heap.size,2,none⟩=some (.int .i64 x):=d2;have e3:(w1.drewN nq).cell? ⟨w.heap.size,3,none⟩=some (.int .i64 y):=d3;have e4:(w1.drewN nq).cell? ⟨w.heap.size,4,none⟩=some (.int .i64 ww):=d4;have e5:(w1.drewN nq).cell? ⟨w.heap.size,5,none⟩=some (.int .i64 h):=d5;have e6:(w1.drewN nq).cell? ⟨w.heap.size,6,none⟩=some (.slice po pn pc):=d6;have ew:(w1.drewN nq).cell? ⟨g,j,none⟩=some (.bool true):=dw;have ef:(w1.drewN nq).frozen? ⟨g,j,none⟩=false:=df;clear HB1 d0 d1 d2 d3 d4 d5 d6 dw df dd;generalize w1.drewN nq=w2 at *;have hO2:ze w2 base (.slice (some ⟨g,0,none⟩) n cap) will:=zm (qb HO) hb2;have HO2:=qg hO2;have HB2:=qg hb2;clear hb2 hO2
 go_wp2_with (go_at_call 58;refine (qZ _ _ _ _).mono ?_;rintro e w' ⟨rfl,rfl⟩)
 all_goals go_ret
 all_goals refine⟨?_,qb HO2,But.of_below (qb HB2)⟩
 all_goals first | rfl | (simp_all [inB];done) | (simp_all [inB];omega)
theorem qo5 (sp base g n cap:Nat)(will:List Bool)(x y ww h mark:Int)(po:Option Addr)(pn pc:Nat)(w:World)
 (hS:w.cell? ⟨sp,6,none⟩=some (.int .i64 n)) (hO:ze w base (.slice (some ⟨g,0,none⟩) n cap) will) (hn:n=will.length) (h4:1<=n/\n<=4) (j:Nat) (hjn:j<n) (hb:will[j]?=some true) :
 Calls Tryz.prog 59 #[.pointer (some ⟨sp,0,none⟩),.agg #[.int .i64 5,.int .i64 j,.int .i64 x,.int .i64 y,.int .i64 ww,.int .i64 h,.slice po pn pc,.int .i64 mark],.slice (some ⟨g,0,none⟩) n cap] w fun e w'=>e=.returned (.bool (true))/\ze w' base (.slice (some ⟨g,0,none⟩) n cap) will/\But (fun k=>k=g) w w':=by
 have hg:=(World.ownsRow.lt hO g rfl).2;have hsp:sp<w.heap.size:=World.block_lt_of_cell? w _ hS;have cw:w.cell? ⟨g,j,none⟩=some (.bool true):=xm hO hb;have fw:w.frozen? ⟨g,j,none⟩=false:=(by subst hn;exact World.ownsRow.frozenAt hO j);have HO:=qg hO;have HN:=qg hn;have i0:(0:Int)<=(j:Int):=(by omega);have i1:(j:Int)<=(n:Int)-1:=(by omega);have i2:(j:Int)<(n:Int):=(by omega);have wr:IntKind.i64.wrap ((n:Int)-1)=(n:Int)-1:=(by rw[IntKind.wrap_i64];omega);clear hO hn hb
 go_enter Tryz.func59,Tryz.ntmps59
 go_wp2_with (go_at_call 58;refine (qZ _ _ _ _).mono ?_;rintro e w' ⟨rfl,rfl⟩)
 go_quiet ((go_at_call 58;exact Calls.quiet_of_same (qZ _ _ _ _)))
 have hb1:Below w.heap.size w ((w.alloc (.cells #[.int .i64 5,.int .i64 j,.int .i64 x,.int .i64 y,.int .i64 ww,.int .i64 h,.slice po pn pc,.int .i64 mark] 52)).drewN nq):=below_drewN ((Below.refl _ w).alloc (zzl _) _) _;have hx1:((w.alloc (.cells #[.int .i64 5,.int .i64 j,.int .i64 x,.int .i64 y,.int .i64 ww,.int .i64 h,.slice po pn pc,.int .i64 mark] 52)).drewN nq).heap[w.heap.size]?=some (.cells #[.int .i64 5,.int .i64 j,.int .i64 x,.int .i64 y,.int .i64 ww,.int .i64 h,.slice po pn pc,.int .i64 mark] 52):=qt _ _ _ rfl;generalize (w.alloc (.cells #[.int .i64 5,.int .i64 j,.int .i64 x,.int .i64 y,.int .i64 ww,.int .i64 h,.slice po pn pc,.int .i64 mark] 52)).drewN nq=w1 at *;have d0:w1.cell? ⟨w.heap.size,0,none⟩=some (.int .i64 5):=qe hx1 0;have d1:w1.cell? ⟨w.heap.size,1,none⟩=some (.int .i64 j):=qe hx1 1;have d2:w1.cell? ⟨w.heap.size,2,none⟩=some (.int .i64 x):=qe hx1 2;have d3:w1.cell? ⟨w.heap.size,3,none⟩=some (.int .i64 y):=qe hx1 3;have d4:w1.cell? ⟨w.heap.size,4,none⟩=some (.int .i64 ww):=qe hx1 4;have d5:w1.cell? ⟨w.heap.size,5,none⟩=some (.int .i64 h):=qe hx1 5;have d6:w1.cell? ⟨w.heap.size,6,none⟩=some (.slice po pn pc):=qe hx1 6;have dw:w1.cell? ⟨g,j,none⟩=some (.bool true):=(hb1.cell hg).trans cw;have df:w1.frozen? ⟨g,j,none⟩=false:=(hb1.frozen hg).trans fw;have HB1:=qg hb1;clear hb1 hx1 cw fw hS;have dd:(decide ((0:Int)<=(j:Int))&&decide ((j:Int)<=(n:Int)-1))=true:=by simp;omega
 go_wp2_with fail
 rw[dd]
 go_quiet (fail)
 have hb2:Below w.heap.size w (w1.drewN nq):=below_drewN (qb HB1) _;have e0:(w1.drewN nq).cell? ⟨w.heap.size,0,none⟩=some (.int .i64 5):=d0;have e1:(w1.drewN nq).cell? ⟨w.heap.size,1,none⟩=some (.int .i64 j):=d1;have e2:(w1.drewN nq).cell? ⟨w.heap.size,2,none⟩=some (.int .i64 x):=d2;have e3:(w1.drewN nq).cell? ⟨w.heap.size,3,none⟩=some (.int .i64 y):=d3;have e4:(w1.drewN nq).cell? ⟨w.heap.size,4,none⟩=some (.int .i64 ww):=d4;have e5:(w1.drewN nq).cell? ⟨w.heap.size,5,none⟩=some (.int .i64 h):=d5;have e6:(w1.drewN nq).cell? ⟨w.heap.size,6,none⟩=some (.slice po pn pc):=d6;have ew:(w1.drewN nq).cell? ⟨g,j,none⟩=some (.bool true):=dw;have ef:(w1.drewN nq).frozen? ⟨g,j,none⟩=false:=df;clear HB1 d0 d1 d2 d3 d4 d5 d6 dw df dd;generalize w1.drewN nq=w2 at *;have hO2:ze w2 base (.slice (some ⟨g,0,none⟩) n cap) will:=zm (qb HO) hb2;have HO2:=qg hO2;have HB2:=qg hb2;clear hb2 hO2
 go_wp2_with (go_at_call 58;refine (qZ _ _ _ _).mono ?_;rintro e w' ⟨rfl,rfl⟩)
 all_goals go_ret
 all_goals refine⟨?_,qb HO2,But.of_below (qb HB2)⟩
 all_goals first | rfl | (simp_all [inB];done) | (simp_all [inB];omega)
theorem qo4 (sp base g n cap:Nat)(will:List Bool)(x y ww h mark:Int)(po:Option Addr)(pn pc:Nat)(w:World)
 (hS:w.cell? ⟨sp,6,none⟩=some (.int .i64 n)) (hO:ze w base (.slice (some ⟨g,0,none⟩) n cap) will) (hn:n=will.length) (h4:1<=n/\n<=4) (j:Nat) (hjn:j<n) (hb:will[j]?=some true) :
 Calls Tryz.prog 59 #[.pointer (some ⟨sp,0,none⟩),.agg #[.int .i64 6,.int .i64 j,.int .i64 x,.int .i64 y,.int .i64 ww,.int .i64 h,.slice po pn pc,.int .i64 mark],.slice (some ⟨g,0,none⟩) n cap] w fun e w'=>e=.returned (.bool (true))/\ze w' base (.slice (some ⟨g,0,none⟩) n cap) will/\But (fun k=>k=g) w w':=by
 have hg:=(World.ownsRow.lt hO g rfl).2;have hsp:sp<w.heap.size:=World.block_lt_of_cell? w _ hS;have cw:w.cell? ⟨g,j,none⟩=some (.bool true):=xm hO hb;have fw:w.frozen? ⟨g,j,none⟩=false:=(by subst hn;exact World.ownsRow.frozenAt hO j);have HO:=qg hO;have HN:=qg hn;have i0:(0:Int)<=(j:Int):=(by omega);have i1:(j:Int)<=(n:Int)-1:=(by omega);have i2:(j:Int)<(n:Int):=(by omega);have wr:IntKind.i64.wrap ((n:Int)-1)=(n:Int)-1:=(by rw[IntKind.wrap_i64];omega);clear hO hn hb
 go_enter Tryz.func59,Tryz.ntmps59
 go_wp2_with (go_at_call 58;refine (qZ _ _ _ _).mono ?_;rintro e w' ⟨rfl,rfl⟩)
 go_quiet ((go_at_call 58;exact Calls.quiet_of_same (qZ _ _ _ _)))
 have hb1:Below w.heap.size w ((w.alloc (.cells #[.int .i64 6,.int .i64 j,.int .i64 x,.int .i64 y,.int .i64 ww,.int .i64 h,.slice po pn pc,.int .i64 mark] 52)).drewN nq):=below_drewN ((Below.refl _ w).alloc (zzl _) _) _;have hx1:((w.alloc (.cells #[.int .i64 6,.int .i64 j,.int .i64 x,.int .i64 y,.int .i64 ww,.int .i64 h,.slice po pn pc,.int .i64 mark] 52)).drewN nq).heap[w.heap.size]?=some (.cells #[.int .i64 6,.int .i64 j,.int .i64 x,.int .i64 y,.int .i64 ww,.int .i64 h,.slice po pn pc,.int .i64 mark] 52):=qt _ _ _ rfl;generalize (w.alloc (.cells #[.int .i64 6,.int .i64 j,.int .i64 x,.int .i64 y,.int .i64 ww,.int .i64 h,.slice po pn pc,.int .i64 mark] 52)).drewN nq=w1 at *;have d0:w1.cell? ⟨w.heap.size,0,none⟩=some (.int .i64 6):=qe hx1 0;have d1:w1.cell? ⟨w.heap.size,1,none⟩=some (.int .i64 j):=qe hx1 1;have d2:w1.cell? ⟨w.heap.size,2,none⟩=some (.int .i64 x):=qe hx1 2;have d3:w1.cell? ⟨w.heap.size,3,none⟩=some (.int .i64 y):=qe hx1 3;have d4:w1.cell? ⟨w.heap.size,4,none⟩=some (.int .i64 ww):=qe hx1 4;have d5:w1.cell? ⟨w.heap.size,5,none⟩=some (.int .i64 h):=qe hx1 5;have d6:w1.cell? ⟨w.heap.size,6,none⟩=some (.slice po pn pc):=qe hx1 6;have dw:w1.cell? ⟨g,j,none⟩=some (.bool true):=(hb1.cell hg).trans cw;have df:w1.frozen? ⟨g,j,none⟩=false:=(hb1.frozen hg).trans fw;have HB1:=qg hb1;clear hb1 hx1 cw fw hS;have dd:(decide ((0:Int)<=(j:Int))&&decide ((j:Int)<=(n:Int)-1))=true:=by simp;omega
 go_wp2_with fail
 rw[dd]
 go_quiet (fail)
 have hb2:Below w.heap.size w (w1.drewN nq):=below_drewN (qb HB1) _;have e0:(w1.drewN nq).cell? ⟨w.heap.size,0,none⟩=some (.int .i64 6):=d0;have e1:(w1.drewN nq).cell? ⟨w.heap.size,1,none⟩=some (.int .i64 j):=d1;have e2:(w1.drewN nq).cell? ⟨w.heap.size,2,none⟩=some (.int .i64 x):=d2;have e3:(w1.drewN nq).cell? ⟨w.heap.size,3,none⟩=some (.int .i64 y):=d3;have e4:(w1.drewN nq).cell? ⟨w.heap.size,4,none⟩=some (.int .i64 ww):=d4;have e5:(w1.drewN nq).cell? ⟨w.heap.size,5,none⟩=some (.int .i64 h):=d5;have e6:(w1.drewN nq).cell? ⟨w.heap.size,6,none⟩=some (.slice po pn pc):=d6;have ew:(w1.drewN nq).cell? ⟨g,j,none⟩=some (.bool true):=dw;have ef:(w1.drewN nq).frozen? ⟨g,j,none⟩=false:=df;clear HB1 d0 d1 d2 d3 d4 d5 d6 dw df dd;generalize w1.drewN nq=w2 at *;have hO2:ze w2 base (.slice (some ⟨g,0,none⟩) n cap) will:=zm (qb HO) hb2;have HO2:=qg hO2;have HB2:=qg hb2;clear hb2 hO2
 go_wp2_with (go_at_call 58;refine (qZ _ _ _ _).mono ?_;rintro e w' ⟨rfl,rfl⟩)
 all_goals go_ret
 all_goals refine⟨?_,qb HO2,But.of_below (qb HB2)⟩
 all_goals first | rfl | (simp_all [inB];done) | (simp_all [inB];omega)
theorem qo3 (sp base g n cap:Nat)(will:List Bool)(x y ww h mark:Int)(po:Option Addr)(pn pc:Nat)(w:World)
 (hS:w.cell? ⟨sp,6,none⟩=some (.int .i64 n)) (hO:ze w base (.slice (some ⟨g,0,none⟩) n cap) will) (hn:n=will.length) (h4:1<=n/\n<=4) (j:Nat) (hjn:j<n) (hb:will[j]?=some true) :
 Calls Tryz.prog 59 #[.pointer (some ⟨sp,0,none⟩),.agg #[.int .i64 7,.int .i64 j,.int .i64 x,.int .i64 y,.int .i64 ww,.int .i64 h,.slice po pn pc,.int .i64 mark],.slice (some ⟨g,0,none⟩) n cap] w fun e w'=>e=.returned (.bool (inB ww 1 20&&inB x (-4) 4&&inB y (-4) 4))/\ze w' base (.slice (some ⟨g,0,none⟩) n cap) will/\But (fun k=>k=g) w w':=by
 have hg:=(World.ownsRow.lt hO g rfl).2;have hsp:sp<w.heap.size:=World.block_lt_of_cell? w _ hS;have cw:w.cell? ⟨g,j,none⟩=some (.bool true):=xm hO hb;have fw:w.frozen? ⟨g,j,none⟩=false:=(by subst hn;exact World.ownsRow.frozenAt hO j);have HO:=qg hO;have HN:=qg hn;have i0:(0:Int)<=(j:Int):=(by omega);have i1:(j:Int)<=(n:Int)-1:=(by omega);have i2:(j:Int)<(n:Int):=(by omega);have wr:IntKind.i64.wrap ((n:Int)-1)=(n:Int)-1:=(by rw[IntKind.wrap_i64];omega);clear hO hn hb
 go_enter Tryz.func59,Tryz.ntmps59
 go_wp2_with (go_at_call 58;refine (qZ _ _ _ _).mono ?_;rintro e w' ⟨rfl,rfl⟩)
 go_quiet ((go_at_call 58;exact Calls.quiet_of_same (qZ _ _ _ _)))
 have hb1:Below w.heap.size w ((w.alloc (.cells #[.int .i64 7,.int .i64 j,.int .i64 x,.int .i64 y,.int .i64 ww,.int .i64 h,.slice po pn pc,.int .i64 mark] 52)).drewN nq):=below_drewN ((Below.refl _ w).alloc (zzl _) _) _;have hx1:((w.alloc (.cells #[.int .i64 7,.int .i64 j,.int .i64 x,.int .i64 y,.int .i64 ww,.int .i64 h,.slice po pn pc,.int .i64 mark] 52)).drewN nq).heap[w.heap.size]?=some (.cells #[.int .i64 7,.int .i64 j,.int .i64 x,.int .i64 y,.int .i64 ww,.int .i64 h,.slice po pn pc,.int .i64 mark] 52):=qt _ _ _ rfl;generalize (w.alloc (.cells #[.int .i64 7,.int .i64 j,.int .i64 x,.int .i64 y,.int .i64 ww,.int .i64 h,.slice po pn pc,.int .i64 mark] 52)).drewN nq=w1 at *;have d0:w1.cell? ⟨w.heap.size,0,none⟩=some (.int .i64 7):=qe hx1 0;have d1:w1.cell? ⟨w.heap.size,1,none⟩=some (.int .i64 j):=qe hx1 1;have d2:w1.cell? ⟨w.heap.size,2,none⟩=some (.int .i64 x):=qe hx1 2;have d3:w1.cell? ⟨w.heap.size,3,none⟩=some (.int .i64 y):=qe hx1 3;have d4:w1.cell? ⟨w.heap.size,4,none⟩=some (.int .i64 ww):=qe hx1 4;have d5:w1.cell? ⟨w.heap.size,5,none⟩=some (.int .i64 h):=qe hx1 5;have d6:w1.cell? ⟨w.heap.size,6,none⟩=some (.slice po pn pc):=qe hx1 6;have dw:w1.cell? ⟨g,j,none⟩=some (.bool true):=(hb1.cell hg).trans cw;have df:w1.frozen? ⟨g,j,none⟩=false:=(hb1.frozen hg).trans fw;have HB1:=qg hb1;clear hb1 hx1 cw fw hS;have dd:(decide ((0:Int)<=(j:Int))&&decide ((j:Int)<=(n:Int)-1))=true:=by simp;omega
 go_wp2_with fail
 rw[dd]
 go_quiet (fail)
 have hb2:Below w.heap.size w (w1.drewN nq):=below_drewN (qb HB1) _;have e0:(w1.drewN nq).cell? ⟨w.heap.size,0,none⟩=some (.int .i64 7):=d0;have e1:(w1.drewN nq).cell? ⟨w.heap.size,1,none⟩=some (.int .i64 j):=d1;have e2:(w1.drewN nq).cell? ⟨w.heap.size,2,none⟩=some (.int .i64 x):=d2;have e3:(w1.drewN nq).cell? ⟨w.heap.size,3,none⟩=some (.int .i64 y):=d3;have e4:(w1.drewN nq).cell? ⟨w.heap.size,4,none⟩=some (.int .i64 ww):=d4;have e5:(w1.drewN nq).cell? ⟨w.heap.size,5,none⟩=some (.int .i64 h):=d5;have e6:(w1.drewN nq).cell? ⟨w.heap.size,6,none⟩=some (.slice po pn pc):=d6;have ew:(w1.drewN nq).cell? ⟨g,j,none⟩=some (.bool true):=dw;have ef:(w1.drewN nq).frozen? ⟨g,j,none⟩=false:=df;clear HB1 d0 d1 d2 d3 d4 d5 d6 dw df dd;generalize w1.drewN nq=w2 at *;have hO2:ze w2 base (.slice (some ⟨g,0,none⟩) n cap) will:=zm (qb HO) hb2;have HO2:=qg hO2;have HB2:=qg hb2;clear hb2 hO2
 go_wp2_with (go_at_call 58;refine (qZ _ _ _ _).mono ?_;rintro e w' ⟨rfl,rfl⟩)
 all_goals go_ret
 all_goals refine⟨?_,qb HO2,But.of_below (qb HB2)⟩
 all_goals first | rfl | (simp_all [inB];done) | (simp_all [inB];omega)
end
section
attribute [local go_sem ↓] Go.wp_at_zero Go.wp_at_succ
theorem qo7 (sp base g n cap:Nat)(will:List Bool)(x y ww h mark:Int)(po:Option Addr)(pn pc:Nat)(w:World)
 (hS:w.cell? ⟨sp,6,none⟩=some (.int .i64 n)) (hO:ze w base (.slice (some ⟨g,0,none⟩) n cap) will) (hn:n=will.length) (h4:1<=n/\n<=4) (j:Nat) (hjn:j<n) (hb:will[j]?=some true) (U:Nat->Prop) (px:List Int) (hpx:RdN U w (.slice po pn pc) px) (hpl:px.length<=17592186043904) :
 Calls Tryz.prog 59 #[.pointer (some ⟨sp,0,none⟩),.agg #[.int .i64 3,.int .i64 j,.int .i64 x,.int .i64 y,.int .i64 ww,.int .i64 h,.slice po pn pc,.int .i64 mark],.slice (some ⟨g,0,none⟩) n cap] w fun e w'=>e=.returned (.bool (inB ww 1 8&&inB h 1 8&&decide ((px.length:Int)=ww*h)&&px.all (fun n=>inB n 0 4294967295)))/\ze w' base (.slice (some ⟨g,0,none⟩) n cap) will/\But (fun k=>k=g) w w':=by
 have hg:=(World.ownsRow.lt hO g rfl).2;have hsp:sp<w.heap.size:=World.block_lt_of_cell? w _ hS;have cw:w.cell? ⟨g,j,none⟩=some (.bool true):=xm hO hb;have fw:w.frozen? ⟨g,j,none⟩=false:=(by subst hn;exact World.ownsRow.frozenAt hO j);have HO:=qg hO;have HN:=qg hn;have i0:(0:Int)<=(j:Int):=(by omega);have i1:(j:Int)<=(n:Int)-1:=(by omega);have i2:(j:Int)<(n:Int):=(by omega);have wr:IntKind.i64.wrap ((n:Int)-1)=(n:Int)-1:=(by rw[IntKind.wrap_i64];omega);clear hO hn hb;have HPX:=qg hpx;clear hpx
 go_enter Tryz.func59,Tryz.ntmps59
 go_wp2_with (go_at_call 58;refine (qZ _ _ _ _).mono ?_;rintro e w' ⟨rfl,rfl⟩)
 go_quiet ((go_at_call 58;exact Calls.quiet_of_same (qZ _ _ _ _)))
 have hb1:Below w.heap.size w ((w.alloc (.cells #[.int .i64 3,.int .i64 j,.int .i64 x,.int .i64 y,.int .i64 ww,.int .i64 h,.slice po pn pc,.int .i64 mark] 52)).drewN nq):=below_drewN ((Below.refl _ w).alloc (zzl _) _) _;have hx1:((w.alloc (.cells #[.int .i64 3,.int .i64 j,.int .i64 x,.int .i64 y,.int .i64 ww,.int .i64 h,.slice po pn pc,.int .i64 mark] 52)).drewN nq).heap[w.heap.size]?=some (.cells #[.int .i64 3,.int .i64 j,.int .i64 x,.int .i64 y,.int .i64 ww,.int .i64 h,.slice po pn pc,.int .i64 mark] 52):=qt _ _ _ rfl;generalize (w.alloc (.cells #[.int .i64 3,.int .i64 j,.int .i64 x,.int .i64 y,.int .i64 ww,.int .i64 h,.slice po pn pc,.int .i64 mark] 52)).drewN nq=w1 at *;have d0:w1.cell? ⟨w.heap.size,0,none⟩=some (.int .i64 3):=qe hx1 0;have d1:w1.cell? ⟨w.heap.size,1,none⟩=some (.int .i64 j):=qe hx1 1;have d2:w1.cell? ⟨w.heap.size,2,none⟩=some (.int .i64 x):=qe hx1 2;have d3:w1.cell? ⟨w.heap.size,3,none⟩=some (.int .i64 y):=qe hx1 3;have d4:w1.cell? ⟨w.heap.size,4,none⟩=some (.int .i64 ww):=qe hx1 4;have d5:w1.cell? ⟨w.heap.size,5,none⟩=some (.int .i64 h):=qe hx1 5;have d6:w1.cell? ⟨w.heap.size,6,none⟩=some (.slice po pn pc):=qe hx1 6;have dw:w1.cell? ⟨g,j,none⟩=some (.bool true):=(hb1.cell hg).trans cw;have df:w1.frozen? ⟨g,j,none⟩=false:=(hb1.frozen hg).trans fw;have HB1:=qg hb1;clear hb1 hx1 cw fw hS;have dd:(decide ((0:Int)<=(j:Int))&&decide ((j:Int)<=(n:Int)-1))=true:=by simp;omega
 go_wp2_with fail
 rw[dd]
 go_quiet (fail)
 have hb2:Below w.heap.size w (w1.drewN nq):=below_drewN (qb HB1) _;have e0:(w1.drewN nq).cell? ⟨w.heap.size,0,none⟩=some (.int .i64 3):=d0;have e1:(w1.drewN nq).cell? ⟨w.heap.size,1,none⟩=some (.int .i64 j):=d1;have e2:(w1.drewN nq).cell? ⟨w.heap.size,2,none⟩=some (.int .i64 x):=d2;have e3:(w1.drewN nq).cell? ⟨w.heap.size,3,none⟩=some (.int .i64 y):=d3;have e4:(w1.drewN nq).cell? ⟨w.heap.size,4,none⟩=some (.int .i64 ww):=d4;have e5:(w1.drewN nq).cell? ⟨w.heap.size,5,none⟩=some (.int .i64 h):=d5;have e6:(w1.drewN nq).cell? ⟨w.heap.size,6,none⟩=some (.slice po pn pc):=d6;have ew:(w1.drewN nq).cell? ⟨g,j,none⟩=some (.bool true):=dw;have ef:(w1.drewN nq).frozen? ⟨g,j,none⟩=false:=df;clear HB1 d0 d1 d2 d3 d4 d5 d6 dw df dd;generalize w1.drewN nq=w2 at *;have hO2:ze w2 base (.slice (some ⟨g,0,none⟩) n cap) will:=zm (qb HO) hb2;have HO2:=qg hO2;have HB2:=qg hb2;clear hb2 hO2;obtain⟨po',pc',epx,hp1,hp2,hp3⟩:=(qb HPX).below (qb HB2);simp only[Value.slice.injEq] at epx;obtain⟨rfl,rfl,rfl⟩:=epx;clear HPX
 by_cases hwh:(inB ww 1 8&&inB h 1 8)=true
 ·have hw8:1<=ww/\ww<=8/\1<=h/\h<=8:=(by simp[inB] at hwh;omega);obtain⟨w1',w2',w3',w4'⟩:=hw8;have hml:1<=ww*h/\ww*h<=64:=by
   have:ww=1\/ww=2\/ww=3\/ww=4\/ww=5\/ww=6\/ww=7\/ww=8:=by omega
   rcases this with e | e | e | e | e | e | e | e<;>subst e<;>omega
  have hmul:IntKind.i64.wrap (ww*h)=ww*h:=(by rw[IntKind.wrap_i64];omega);have HH:=qg hwh;clear hwh
  by_cases hpl2:(px.length:Int)=ww*h
  ·have hdec:Hid (decide ((px.length:Int)=ww*h)=true):=(by show _=_;simp[hpl2]);have HP3:=qg hp3;clear hp3
   go_wp2_with (go_at_call 58;refine (qZ _ _ _ _).mono ?_;rintro e w' ⟨rfl,rfl⟩)
   clear hpl2 hmul hml w1' w2' w3' w4' i0 i1 i2 wr
   go_loopw [13,14] (fun ok i wr=>∃ k:Nat,k<=px.length/\i=.int .i64 k/\ok=.bool ((px.take k).all (fun n=>inB n 0 4294967295))/\wr.cell? ⟨w.heap.size,6,none⟩=some (.slice po px.length pc)/\ze wr base (.slice (some ⟨g,0,none⟩) n cap) will/\Below w.heap.size w wr/\RdN U wr (.slice po px.length pc) px) (fun _ i _=>px.length-(intOf i).toNat)
   case atStart=>exact⟨0,Nat.zero_le _,rfl,rfl,e6,qb HO2,qb HB2,⟨po,pc,rfl,hp1,hp2,qb HP3⟩⟩
   case round=>
    rename World=>wq;clear HO2 HB2 HP3 e0 e1 e2 e3 e4 e5 e6 ew ef hp1 hp2;obtain⟨k,hk,rfl,rfl,q6,hO3,hB3,hR3⟩:=hrel;have HO3:=qg hO3;have HB3:=qg hB3;have HR3:=qg hR3;clear hO3 hB3 hR3;obtain⟨ok,hok⟩:∃ ok,ok=(px.take k).all (fun n=>inB n 0 4294967295):=⟨_,rfl⟩;rw[<-hok];have HOK:=qg hok;clear hok
    by_cases hlt:k<px.length
    ·cases ok with
     | true=>
      obtain⟨r,hr⟩:∃ r,px[k]?=some r:=⟨px[k],by simp[hlt]⟩;obtain⟨po',pc',epx,g1,g2,g3⟩:=qb HR3;simp only[Value.slice.injEq,true_and] at epx;obtain⟨rfl,rfl⟩:=epx;obtain⟨b,off,rfl,_,_,hc⟩:=g3 (by intro e;rw[e] at hlt;simp at hlt);have c1:=hc k r hr;have i0:(0:Int)<=(k:Int):=(by omega);have i1:(k:Int)<(px.length:Int):=(by omega);have HT:=qg (Xq (f:=fun n=>inB n 0 4294967295) hr);clear g1 g2 g3 hc hr
      go_wp2_with (go_at_call 58;refine (qZ _ _ _ _).mono ?_;rintro e w' ⟨rfl,rfl⟩)
      go_roundw
      case rel=>exact⟨k+1,by omega,by go_num,by rw[qb HT,<-qb HOK];rfl,q6,qb HO3,qb HB3,qb HR3⟩
      case measure=>simp[intOf];omega
     | false=>
      have i1:(k:Int)<(px.length:Int):=(by omega);have hfin:=YU (qb HOK).symm;have HF:=qg hfin;clear hfin;go_wp2;go_ret;refine⟨?_,qb HO3,But.of_below (qb HB3)⟩;rw[qb HF,Bool.and_false];rfl
    ·have hkl:k=px.length:=(by omega);have hfin:ok=px.all (fun n=>inB n 0 4294967295):=(by rw[qb HOK,hkl,List.take_length]);have HF:=qg hfin;have i1:¬(k:Int)<(px.length:Int):=(by omega);clear hfin hkl;go_wp2;go_ret;refine⟨?_,qb HO3,But.of_below (qb HB3)⟩;rw[<-qb HF,qb HH,qb hdec];rfl
  ·have hdec:Hid (decide ((px.length:Int)=ww*h)=false):=(by show _=_;simp[hpl2]);clear hp3
   go_wp2_with (go_at_call 58;refine (qZ _ _ _ _).mono ?_;rintro e w' ⟨rfl,rfl⟩)
   go_loopw [13,14] (fun ok i wr=>i=.int .i64 0/\ok=.bool false/\wr.cell? ⟨w.heap.size,6,none⟩=some (.slice po px.length pc)/\ze wr base (.slice (some ⟨g,0,none⟩) n cap) will/\Below w.heap.size w wr) (fun _ _ _=>0)
   case atStart=>exact⟨rfl,by simp[hpl2],e6,qb HO2,qb HB2⟩
   case round=>
    rename World=>wq;clear HO2 HB2 e0 e1 e2 e3 e4 e5 e6 ew ef hp1 hp2 hmul hml hpl2;obtain⟨rfl,rfl,q6,hO3,hB3⟩:=hrel;have HO3:=qg hO3;have HB3:=qg hB3;clear hO3 hB3
    by_cases hz:(0:Int)<(px.length:Int)
    all_goals
     go_wp2;go_ret;refine⟨?_,qb HO3,But.of_below (qb HB3)⟩;rw[qb hdec,Bool.and_false,Bool.false_and];rfl
 ·have hwf:Hid ((inB ww 1 8&&inB h 1 8)=false):=(by show _=_;simpa using hwh);have hcases:¬(1<=ww/\ww<=8)\/((1<=ww/\ww<=8)/\¬(1<=h/\h<=8)):=(by simp[inB] at hwh;omega);clear hp3 hwh
  rcases hcases with hA | ⟨hA,hB⟩
  all_goals
   go_wp2_with (go_at_call 58;refine (qZ _ _ _ _).mono ?_;rintro e w' ⟨rfl,rfl⟩)
   go_loopw [13,14] (fun ok i wr=>i=.int .i64 0/\ok=.bool false/\wr.cell? ⟨w.heap.size,6,none⟩=some (.slice po px.length pc)/\ze wr base (.slice (some ⟨g,0,none⟩) n cap) will/\Below w.heap.size w wr) (fun _ _ _=>0)
   case atStart=>exact⟨rfl,by first | rfl | simp_all,e6,qb HO2,qb HB2⟩
   case round=>
    rename World=>wq;clear HO2 HB2 e0 e1 e2 e3 e4 e5 e6 ew ef hp1 hp2;obtain⟨rfl,rfl,q6,hO3,hB3⟩:=hrel;have HO3:=qg hO3;have HB3:=qg hB3;clear hO3 hB3
    by_cases hz:(0:Int)<(px.length:Int)
    all_goals
     go_wp2;go_ret;refine⟨?_,qb HO3,But.of_below (qb HB3)⟩;rw[qb hwf,Bool.false_and,Bool.false_and];rfl
end
section
attribute [local go_sem ↓] Go.wp_at_zero Go.wp_at_succ
theorem qp3 (sp n:Nat)(kind surf x y ww h mark:Int)(po:Option Addr)(pn pc:Nat)(w:World)(hS:w.cell? ⟨sp,6,none⟩=some (.int .i64 n))(h4:1<=n/\n<=4)(k8:¬kind=8)(v:Value)(hk:¬(1<=kind/\kind<=7)) :
 Calls Tryz.prog 59 #[.pointer (some ⟨sp,0,none⟩),.agg #[.int .i64 kind,.int .i64 surf,.int .i64 x,.int .i64 y,.int .i64 ww,.int .i64 h,.slice po pn pc,.int .i64 mark],v] w fun e w'=>e=.returned (.bool false)/\Below w.heap.size w w':=by
 have hsp:sp<w.heap.size:=World.block_lt_of_cell? w _ hS;have wr:IntKind.i64.wrap ((n:Int)-1)=(n:Int)-1:=(by rw[IntKind.wrap_i64];omega);have d7:(decide ((1:Int)<=kind)&&decide (kind<=(7:Int)))=false:=by simp;omega
 go_enter Tryz.func59,Tryz.ntmps59
 go_wp2_with (go_at_call 58;refine (qZ _ _ _ _).mono ?_;rintro e w' ⟨rfl,rfl⟩)
 go_quiet ((go_at_call 58;exact Calls.quiet_of_same (qZ _ _ _ _)))
 have hb1:Below w.heap.size w ((w.alloc (.cells #[.int .i64 kind,.int .i64 surf,.int .i64 x,.int .i64 y,.int .i64 ww,.int .i64 h,.slice po pn pc,.int .i64 mark] 52)).drewN nq):=below_drewN ((Below.refl _ w).alloc (zzl _) _) _;have hx1:((w.alloc (.cells #[.int .i64 kind,.int .i64 surf,.int .i64 x,.int .i64 y,.int .i64 ww,.int .i64 h,.slice po pn pc,.int .i64 mark] 52)).drewN nq).heap[w.heap.size]?=some (.cells #[.int .i64 kind,.int .i64 surf,.int .i64 x,.int .i64 y,.int .i64 ww,.int .i64 h,.slice po pn pc,.int .i64 mark] 52):=qt _ _ _ rfl;generalize (w.alloc (.cells #[.int .i64 kind,.int .i64 surf,.int .i64 x,.int .i64 y,.int .i64 ww,.int .i64 h,.slice po pn pc,.int .i64 mark] 52)).drewN nq=w1 at *;have d0:w1.cell? ⟨w.heap.size,0,none⟩=some (.int .i64 kind):=qe hx1 0;have d1:w1.cell? ⟨w.heap.size,1,none⟩=some (.int .i64 surf):=qe hx1 1;have d2:w1.cell? ⟨w.heap.size,2,none⟩=some (.int .i64 x):=qe hx1 2;have d3:w1.cell? ⟨w.heap.size,3,none⟩=some (.int .i64 y):=qe hx1 3;have d4:w1.cell? ⟨w.heap.size,4,none⟩=some (.int .i64 ww):=qe hx1 4;have d5:w1.cell? ⟨w.heap.size,5,none⟩=some (.int .i64 h):=qe hx1 5;have d6:w1.cell? ⟨w.heap.size,6,none⟩=some (.slice po pn pc):=qe hx1 6;have HB1:=qg hb1;clear hb1 hx1 hS
 go_wp2_with fail
 go_quiet (fail)
 have HB2:=qg (below_drewN (qb HB1) nq);go_wp2;go_ret;exact⟨rfl,qb HB2⟩
theorem qp2 (sp n:Nat)(kind surf x y ww h mark:Int)(po:Option Addr)(pn pc:Nat)(w:World)(hS:w.cell? ⟨sp,6,none⟩=some (.int .i64 n))(h4:1<=n/\n<=4)(k8:¬kind=8)(v:Value)(hk:1<=kind/\kind<=7)(hs:¬(0<=surf/\surf<=(n:Int)-1)) :
 Calls Tryz.prog 59 #[.pointer (some ⟨sp,0,none⟩),.agg #[.int .i64 kind,.int .i64 surf,.int .i64 x,.int .i64 y,.int .i64 ww,.int .i64 h,.slice po pn pc,.int .i64 mark],v] w fun e w'=>e=.returned (.bool false)/\Below w.heap.size w w':=by
 have hsp:sp<w.heap.size:=World.block_lt_of_cell? w _ hS;have wr:IntKind.i64.wrap ((n:Int)-1)=(n:Int)-1:=(by rw[IntKind.wrap_i64];omega);have d7:(decide ((1:Int)<=kind)&&decide (kind<=(7:Int)))=true:=(by simp;omega);have d8:(decide ((0:Int)<=surf)&&decide (surf<=(n:Int)-1))=false:=by simp;omega
 go_enter Tryz.func59,Tryz.ntmps59
 go_wp2_with (go_at_call 58;refine (qZ _ _ _ _).mono ?_;rintro e w' ⟨rfl,rfl⟩)
 go_quiet ((go_at_call 58;exact Calls.quiet_of_same (qZ _ _ _ _)))
 have hb1:Below w.heap.size w ((w.alloc (.cells #[.int .i64 kind,.int .i64 surf,.int .i64 x,.int .i64 y,.int .i64 ww,.int .i64 h,.slice po pn pc,.int .i64 mark] 52)).drewN nq):=below_drewN ((Below.refl _ w).alloc (zzl _) _) _;have hx1:((w.alloc (.cells #[.int .i64 kind,.int .i64 surf,.int .i64 x,.int .i64 y,.int .i64 ww,.int .i64 h,.slice po pn pc,.int .i64 mark] 52)).drewN nq).heap[w.heap.size]?=some (.cells #[.int .i64 kind,.int .i64 surf,.int .i64 x,.int .i64 y,.int .i64 ww,.int .i64 h,.slice po pn pc,.int .i64 mark] 52):=qt _ _ _ rfl;generalize (w.alloc (.cells #[.int .i64 kind,.int .i64 surf,.int .i64 x,.int .i64 y,.int .i64 ww,.int .i64 h,.slice po pn pc,.int .i64 mark] 52)).drewN nq=w1 at *;have d0:w1.cell? ⟨w.heap.size,0,none⟩=some (.int .i64 kind):=qe hx1 0;have d1:w1.cell? ⟨w.heap.size,1,none⟩=some (.int .i64 surf):=qe hx1 1;have d2:w1.cell? ⟨w.heap.size,2,none⟩=some (.int .i64 x):=qe hx1 2;have d3:w1.cell? ⟨w.heap.size,3,none⟩=some (.int .i64 y):=qe hx1 3;have d4:w1.cell? ⟨w.heap.size,4,none⟩=some (.int .i64 ww):=qe hx1 4;have d5:w1.cell? ⟨w.heap.size,5,none⟩=some (.int .i64 h):=qe hx1 5;have d6:w1.cell? ⟨w.heap.size,6,none⟩=some (.slice po pn pc):=qe hx1 6;have HB1:=qg hb1;clear hb1 hx1 hS
 go_wp2_with fail
 try rw[d8]
 go_quiet (fail)
 have HB2:=qg (below_drewN (qb HB1) nq);go_wp2;go_ret;exact⟨rfl,qb HB2⟩
theorem qp1 (sp g n cap:Nat)(x y ww h mark:Int)(po:Option Addr)(pn pc:Nat)(w:World)(hS:w.cell? ⟨sp,6,none⟩=some (.int .i64 n))(h4:1<=n/\n<=4)(j:Nat)(hjn:j<n)(cw:w.cell? ⟨g,j,none⟩=some (.bool true)) :
 Calls Tryz.prog 59 #[.pointer (some ⟨sp,0,none⟩),.agg #[.int .i64 1,.int .i64 j,.int .i64 x,.int .i64 y,.int .i64 ww,.int .i64 h,.slice po pn pc,.int .i64 mark],.slice (some ⟨g,0,none⟩) n cap] w fun e w'=>e=.returned (.bool false)/\Below w.heap.size w w':=by
 have hsp:sp<w.heap.size:=World.block_lt_of_cell? w _ hS;have hg:g<w.heap.size:=World.block_lt_of_cell? w _ cw;have wr:IntKind.i64.wrap ((n:Int)-1)=(n:Int)-1:=(by rw[IntKind.wrap_i64];omega);have i0:(0:Int)<=(j:Int):=(by omega);have i1:(j:Int)<=(n:Int)-1:=(by omega);have i2:(j:Int)<(n:Int):=by omega
 go_enter Tryz.func59,Tryz.ntmps59
 go_wp2_with (go_at_call 58;refine (qZ _ _ _ _).mono ?_;rintro e w' ⟨rfl,rfl⟩)
 go_quiet ((go_at_call 58;exact Calls.quiet_of_same (qZ _ _ _ _)))
 have hb1:Below w.heap.size w ((w.alloc (.cells #[.int .i64 1,.int .i64 j,.int .i64 x,.int .i64 y,.int .i64 ww,.int .i64 h,.slice po pn pc,.int .i64 mark] 52)).drewN nq):=below_drewN ((Below.refl _ w).alloc (zzl _) _) _;have hx1:((w.alloc (.cells #[.int .i64 1,.int .i64 j,.int .i64 x,.int .i64 y,.int .i64 ww,.int .i64 h,.slice po pn pc,.int .i64 mark] 52)).drewN nq).heap[w.heap.size]?=some (.cells #[.int .i64 1,.int .i64 j,.int .i64 x,.int .i64 y,.int .i64 ww,.int .i64 h,.slice po pn pc,.int .i64 mark] 52):=qt _ _ _ rfl;generalize (w.alloc (.cells #[.int .i64 1,.int .i64 j,.int .i64 x,.int .i64 y,.int .i64 ww,.int .i64 h,.slice po pn pc,.int .i64 mark] 52)).drewN nq=w1 at *;have d0:w1.cell? ⟨w.heap.size,0,none⟩=some (.int .i64 1):=qe hx1 0;have d1:w1.cell? ⟨w.heap.size,1,none⟩=some (.int .i64 j):=qe hx1 1;have d2:w1.cell? ⟨w.heap.size,2,none⟩=some (.int .i64 x):=qe hx1 2;have d3:w1.cell? ⟨w.heap.size,3,none⟩=some (.int .i64 y):=qe hx1 3;have d4:w1.cell? ⟨w.heap.size,4,none⟩=some (.int .i64 ww):=qe hx1 4;have d5:w1.cell? ⟨w.heap.size,5,none⟩=some (.int .i64 h):=qe hx1 5;have d6:w1.cell? ⟨w.heap.size,6,none⟩=some (.slice po pn pc):=qe hx1 6;have dw:w1.cell? ⟨g,j,none⟩=some (.bool true):=(hb1.cell hg).trans cw;have HB1:=qg hb1;clear hb1 hx1 hS cw;have dd:(decide ((0:Int)<=(j:Int))&&decide ((j:Int)<=(n:Int)-1))=true:=by simp;omega
 go_wp2_with fail
 rw[dd]
 go_quiet (fail)
 have HB2:=qg (below_drewN (qb HB1) nq);go_wp2;go_ret;exact⟨rfl,qb HB2⟩
theorem qp0 (sp g n cap:Nat)(kind:Int)(x y ww h mark:Int)(po:Option Addr)(pn pc:Nat)(w:World)(hS:w.cell? ⟨sp,6,none⟩=some (.int .i64 n))(h4:1<=n/\n<=4)(k8:¬kind=8)(k1:¬kind=1)(hk:1<=kind/\kind<=7)(j:Nat)(hjn:j<n)(cw:w.cell? ⟨g,j,none⟩=some (.bool false)) :
 Calls Tryz.prog 59 #[.pointer (some ⟨sp,0,none⟩),.agg #[.int .i64 kind,.int .i64 j,.int .i64 x,.int .i64 y,.int .i64 ww,.int .i64 h,.slice po pn pc,.int .i64 mark],.slice (some ⟨g,0,none⟩) n cap] w fun e w'=>e=.returned (.bool false)/\Below w.heap.size w w':=by
 have hsp:sp<w.heap.size:=World.block_lt_of_cell? w _ hS;have hg:g<w.heap.size:=World.block_lt_of_cell? w _ cw;have wr:IntKind.i64.wrap ((n:Int)-1)=(n:Int)-1:=(by rw[IntKind.wrap_i64];omega);have i0:(0:Int)<=(j:Int):=(by omega);have i1:(j:Int)<=(n:Int)-1:=(by omega);have i2:(j:Int)<(n:Int):=(by omega);have d7:(decide ((1:Int)<=kind)&&decide (kind<=(7:Int)))=true:=(by simp;omega);have k1b:(kind == 1)=false:=(by simpa using k1);have k8b:(kind == 8)=false:=by simpa using k8
 go_enter Tryz.func59,Tryz.ntmps59
 go_wp2_with (go_at_call 58;refine (qZ _ _ _ _).mono ?_;rintro e w' ⟨rfl,rfl⟩)
 go_quiet ((go_at_call 58;exact Calls.quiet_of_same (qZ _ _ _ _)))
 have hb1:Below w.heap.size w ((w.alloc (.cells #[.int .i64 kind,.int .i64 j,.int .i64 x,.int .i64 y,.int .i64 ww,.int .i64 h,.slice po pn pc,.int .i64 mark] 52)).drewN nq):=below_drewN ((Below.refl _ w).alloc (zzl _) _) _;have hx1:((w.alloc (.cells #[.int .i64 kind,.int .i64 j,.int .i64 x,.int .i64 y,.int .i64 ww,.int .i64 h,.slice po pn pc,.int .i64 mark] 52)).drewN nq).heap[w.heap.size]?=some (.cells #[.int .i64 kind,.int .i64 j,.int .i64 x,.int .i64 y,.int .i64 ww,.int .i64 h,.slice po pn pc,.int .i64 mark] 52):=qt _ _ _ rfl;generalize (w.alloc (.cells #[.int .i64 kind,.int .i64 j,.int .i64 x,.int .i64 y,.int .i64 ww,.int .i64 h,.slice po pn pc,.int .i64 mark] 52)).drewN nq=w1 at *;have d0:w1.cell? ⟨w.heap.size,0,none⟩=some (.int .i64 kind):=qe hx1 0;have d1:w1.cell? ⟨w.heap.size,1,none⟩=some (.int .i64 j):=qe hx1 1;have d2:w1.cell? ⟨w.heap.size,2,none⟩=some (.int .i64 x):=qe hx1 2;have d3:w1.cell? ⟨w.heap.size,3,none⟩=some (.int .i64 y):=qe hx1 3;have d4:w1.cell? ⟨w.heap.size,4,none⟩=some (.int .i64 ww):=qe hx1 4;have d5:w1.cell? ⟨w.heap.size,5,none⟩=some (.int .i64 h):=qe hx1 5;have d6:w1.cell? ⟨w.heap.size,6,none⟩=some (.slice po pn pc):=qe hx1 6;have dw:w1.cell? ⟨g,j,none⟩=some (.bool false):=(hb1.cell hg).trans cw;have HB1:=qg hb1;clear hb1 hx1 hS cw;have dd:(decide ((0:Int)<=(j:Int))&&decide ((j:Int)<=(n:Int)-1))=true:=by simp;omega
 go_wp2_with fail
 rw[dd]
 go_quiet (fail)
 have HB2:=qg (below_drewN (qb HB1) nq);go_wp2;go_ret;exact⟨rfl,qb HB2⟩
theorem Xv (U:Nat->Prop)(sp base g n cap:Nat)(will:List Bool)(o:Opn)(pv:Value)(w:World)(hS:w.cell? ⟨sp,6,none⟩=some (.int .i64 n))(hO:ze w base (.slice (some ⟨g,0,none⟩) n cap) will)(hn:n=will.length)(h4:1<=n/\n<=4)(hP:RdN U w pv o.px)(hpl:o.px.length<=17592186043904) :
 Calls Tryz.prog 59 #[.pointer (some ⟨sp,0,none⟩),qd6 o pv,.slice (some ⟨g,0,none⟩) n cap] w fun e w'=>∃ b,e=.returned (.bool b)/\Valid w w' base g n cap will o b:=by
 obtain⟨kind,surf,x,y,ww,h,px,mark⟩:=o;obtain⟨po,pc,epv,hpr⟩:=id hP;simp only at epv hpl hP;subst epv;have hg:=(World.ownsRow.lt hO g rfl).2;unfold qd6 Valid;simp only
 by_cases k8:kind=8
 ·refine (qg4 sp _ kind surf x y ww h mark po _ pc w k8).mono fun e w' ⟨he,hb⟩=>⟨true,he,.of_below hb,fun _=>⟨will,by unfold qP;rw[if_pos k8],rfl,zm hO hb⟩,fun h=>by cases h⟩
 have no:∀ (Q:World->Prop),Calls Tryz.prog 59 #[.pointer (some ⟨sp,0,none⟩),.agg #[.int .i64 kind,.int .i64 surf,.int .i64 x,.int .i64 y,.int .i64 ww,.int .i64 h,.slice po px.length pc,.int .i64 mark],.slice (some ⟨g,0,none⟩) n cap] w (fun e w'=>e=.returned (.bool false)/\Below w.heap.size w w')->(inB kind 1 7&&inB surf 0 ((will.length:Int)-1)&&(will.getD surf.toNat false != decide (kind=1))&&zt ⟨kind,surf,x,y,ww,h,px,mark⟩)=false->Calls Tryz.prog 59 #[.pointer (some ⟨sp,0,none⟩),.agg #[.int .i64 kind,.int .i64 surf,.int .i64 x,.int .i64 y,.int .i64 ww,.int .i64 h,.slice po px.length pc,.int .i64 mark],.slice (some ⟨g,0,none⟩) n cap] w fun e w'=>∃ b,e=.returned (.bool b)/\But (fun k=>k=g) w w'/\(b=true->∃ will',qP will ⟨kind,surf,x,y,ww,h,px,mark⟩=some will'/\will'.length=will.length/\ze w' base (.slice (some ⟨g,0,none⟩) n cap) will')/\(b=false->qP will ⟨kind,surf,x,y,ww,h,px,mark⟩=none):=
  fun Q hc hf=>hc.mono fun e w' ⟨he,hb⟩=>⟨false,he,.of_below hb,(fun h=>by cases h),fun _=>vq (o:=⟨kind,surf,x,y,ww,h,px,mark⟩) k8 hf⟩
 by_cases hk:1<=kind/\kind<=7
 case neg=>exact no (fun _=>True) (qp3 sp n kind surf x y ww h mark po _ pc w hS h4 k8 _ hk) (by rw[XK hk];rfl)
 by_cases hs:0<=surf/\surf<=(n:Int)-1
 case neg=>exact no (fun _=>True) (qp2 sp n kind surf x y ww h mark po _ pc w hS h4 k8 _ hk hs) (by rw[XK (n:=surf) (by rw[<-hn];exact hs),Bool.and_false];rfl)
 obtain⟨j,rfl⟩:∃ j:Nat,surf=j:=⟨surf.toNat,by omega⟩;have hjn:j<n:=(by omega);obtain⟨b,hb⟩:∃ b,will[j]?=some b:=⟨will[j]'(by omega),List.getElem?_eq_getElem _⟩;have cw:w.cell? ⟨g,j,none⟩=some (.bool b):=xm hO hb;have hgd:will.getD (j:Int).toNat false=b:=(by simp[List.getD,hb]);have hk':inB kind 1 7=true:=jh.2 hk;have hs':inB (j:Int) 0 ((will.length:Int)-1)=true:=jh.2 (by rw[<-hn];exact hs);have yes:∀ (wl:List Bool)(r:Bool),wl=will.set j (decide (kind≠2))->(b != decide (kind=1))=true->zt ⟨kind,j,x,y,ww,h,px,mark⟩=r->Calls Tryz.prog 59 #[.pointer (some ⟨sp,0,none⟩),.agg #[.int .i64 kind,.int .i64 j,.int .i64 x,.int .i64 y,.int .i64 ww,.int .i64 h,.slice po px.length pc,.int .i64 mark],.slice (some ⟨g,0,none⟩) n cap] w (fun e w'=>e=.returned (.bool r)/\ze w' base (.slice (some ⟨g,0,none⟩) n cap) wl/\But (fun k=>k=g) w w')->Calls Tryz.prog 59 #[.pointer (some ⟨sp,0,none⟩),.agg #[.int .i64 kind,.int .i64 j,.int .i64 x,.int .i64 y,.int .i64 ww,.int .i64 h,.slice po px.length pc,.int .i64 mark],.slice (some ⟨g,0,none⟩) n cap] w fun e w'=>∃ b,e=.returned (.bool b)/\But (fun k=>k=g) w w'/\(b=true->∃ will',qP will ⟨kind,j,x,y,ww,h,px,mark⟩=some will'/\will'.length=will.length/\ze w' base (.slice (some ⟨g,0,none⟩) n cap) will')/\(b=false->qP will ⟨kind,j,x,y,ww,h,px,mark⟩=none):=
  fun wl r hwl hbk hr hc=>hc.mono fun e w' ⟨he,ho,hbt⟩=>⟨r,he,hbt,fun h'=>⟨wl,by rw[hwl];exact Jb (o:=⟨kind,j,x,y,ww,h,px,mark⟩) k8 (by simp only[hk',hs',hgd,hbk,hr,h',Bool.and_self]),by rw[hwl,List.length_set],ho⟩,fun h'=>vq (o:=⟨kind,j,x,y,ww,h,px,mark⟩) k8 (by simp only[hr,h',Bool.and_false])⟩
 by_cases k1:kind=1
 ·subst k1
  cases b with
  | true=>exact no (fun _=>True) (qp1 sp g n cap x y ww h mark po _ pc w hS h4 j hjn cw) (by simp only[hgd];simp)
  | false=>exact yes _ _ (by simp) (by simp) (by simp[zt]) (qo9 sp base g n cap will x y ww h mark po _ pc w hS hO hn h4 j hjn hb)
 ·cases b with
  | false=>exact no (fun _=>True) (qp0 sp g n cap kind x y ww h mark po _ pc w hS h4 k8 k1 hk j hjn cw) (by simp only[hgd];simp[k1])
  | true=>
   have hb1:(true != decide (kind=1))=true:=(by simp[k1]);have hcs:kind=2\/kind=3\/kind=4\/kind=5\/kind=6\/kind=7:=by omega
   rcases hcs with e | e | e | e | e | e<;>subst e
   ·exact yes _ _ (by simp) hb1 (by simp[zt]) (qo8 sp base g n cap will x y ww h mark po _ pc w hS hO hn h4 j hjn hb)
   ·exact yes _ _ (by simp[yZ hb]) hb1 (by simp[zt]) (qo7 sp base g n cap will x y ww h mark po _ pc w hS hO hn h4 j hjn hb U px hP hpl)
   ·exact yes _ _ (by simp[yZ hb]) hb1 (by simp[zt]) (qo6 sp base g n cap will x y ww h mark po _ pc w hS hO hn h4 j hjn hb)
   ·exact yes _ _ (by simp[yZ hb]) hb1 (by simp[zt]) (qo5 sp base g n cap will x y ww h mark po _ pc w hS hO hn h4 j hjn hb)
   ·exact yes _ _ (by simp[yZ hb]) hb1 (by simp[zt]) (qo4 sp base g n cap will x y ww h mark po _ pc w hS hO hn h4 j hjn hb)
   ·exact yes _ _ (by simp[yZ hb]) hb1 (by simp[zt]) (qo3 sp base g n cap will x y ww h mark po _ pc w hS hO hn h4 j hjn hb)
end
section
attribute [local go_sem ↓] Go.wp_at_zero Go.wp_at_succ
structure DCl where
 there:Bool
 q:Value
 cr:Int
 wv:Value
def zK (c:DCl):List Value:=[.bool c.there,c.q,.int .i64 c.cr,c.wv]
def qG (l:List DCl):List Value:=l.flatMap zK
theorem qa8 (l:List DCl):(qG l).length=l.length*4:=by
 induction l with
 | nil=>rfl
 | cons r l ih=>show (zK r++qG l).length=_;rw[List.length_append,ih];simp[zK];omega
theorem jC:∀ (l:List DCl)(j:Nat)(r:DCl),l[j]?=some r->
 (qG l)[j*4]?=some (.bool r.there)/\(qG l)[j*4+1]?=some r.q/\(qG l)[j*4+2]?=some (.int .i64 r.cr)/\(qG l)[j*4+3]?=some r.wv
 | [],j,r,h=>by simp at h
 | q::l,0,r,h=>by
  simp at h;subst h;show (zK q++qG l)[0]?=_/\(zK q++qG l)[1]?=_/\(zK q++qG l)[2]?=_/\(zK q++qG l)[3]?=_;simp[zK]
 | q::l,j+1,r,h=>by
  have h':l[j]?=some r:=(by simpa using h);have ih:=jC l j r h';have e:∀ t,(qG (q::l))[(j+1)*4+t]?=(qG l)[j*4+t]?:=by
   intro t;show (zK q++qG l)[_]?=_;rw[List.getElem?_append_right (by simp[zK];omega)]
   congr 1
   simp[zK];omega
  refine⟨by have:=e 0;simp only[Nat.add_zero] at this;rw[this];exact ih.1,by rw[e 1];exact ih.2.1,by rw[e 2];exact ih.2.2.1,by rw[e 3];exact ih.2.2.2⟩
theorem JQ:∀ (l:List DCl)(j:Nat)(c:DCl),j<l.length->
 ((((qG l).set (j*4) (.bool c.there)).set (j*4+1) c.q).set (j*4+2) (.int .i64 c.cr)).set (j*4+3) c.wv=qG (l.set j c)
 | [],j,c,h=>by simp at h
 | q::l,0,c,h=>rfl
 | q::l,j+1,c,h=>by
  have ih:=JQ l j c (by simpa using h);show _=zK q++qG (l.set j c);rw[<-ih];have e:∀ (X:List Value)(t:Nat)(u:Value),(zK q++X).set ((j+1)*4+t) u=zK q++X.set (j*4+t) u:=fun X t u=>by
   rw[List.set_append_right _ _ (by simp[zK];omega)]
   congr 2
   simp[zK];omega
  have e0:∀ (X:List Value)(u:Value),(zK q++X).set ((j+1)*4) u=zK q++X.set (j*4) u:=fun X u=>e X 0 u;show ((((zK q++qG l).set _ _).set _ _).set _ _).set _ _=_;rw[e0,e,e,e]
structure jR (w:World)(sp cb:Nat)(c:Cfg)(cl:List DCl):Prop where
 scr:∃ cs,w.heap[sp]?=some (.cells cs 121)/\cs[0]?=some (.int .i64 c.w)/\cs[1]?=some (.int .i64 c.h)/\cs[2]?=some (.int .i64 c.clients)/\cs[3]?=some (.int .i64 c.queue)/\cs[4]?=some (.int .i64 c.most)/\cs[5]?=some (.int .i64 c.quantum)/\cs[6]?=some (.int .i64 c.surfaces)/\cs[7]?=some (.int .i64 c.behind)/\cs[8]?=some (.slice (some ⟨cb,0,none⟩) cl.length cl.length)
 cls:w.heap[cb]?=some (.cells (qG cl).toArray 123)
theorem jR.apart {w:World}{sp cb:Nat}{c:Cfg}{cl:List DCl}(h:jR w sp cb c cl):sp≠cb:=fun e=>by
 obtain⟨cs,hs,_⟩:=h.scr;have:=h.cls;rw[<-e,hs] at this;simp at this
def jt (cl:List DCl)(n:Int):Bool:=decide (0<=n)&&(match cl[n.toNat]? with | some c=>c.there | none=>false)
theorem v6 {w:World}{sp cb:Nat}{c:Cfg}{cl:List DCl}(h:jR w sp cb c cl)(n:Int) :
 Calls Tryz.prog 47 #[.pointer (some ⟨sp,0,none⟩),.int .i64 n] w fun e w'=>e=.returned (.bool (jt cl n))/\w'=w:=by
 obtain⟨cs,hs,_,_,_,_,_,_,_,_,h8⟩:=h.scr;have c8:w.cell? ⟨sp,8,none⟩=some (.slice (some ⟨cb,0,none⟩) cl.length cl.length):=(by rw[qe hs];exact h8);have hcl:=h.cls
 by_cases h0:0<=n
 ·obtain⟨j,rfl⟩:∃ j:Nat,n=j:=⟨n.toNat,by omega⟩
  by_cases hj:j<cl.length
  ·obtain⟨d,hd⟩:∃ d,cl[j]?=some d:=⟨cl[j],by simp[hj]⟩;have hat:=(jC cl j d hd).1;have cc:w.cell? ⟨cb,j*4,none⟩=some (.bool d.there):=(by rw[qe hcl];simpa using hat);have e:jt cl (j:Int)=d.there:=(by simp[jt,hd]);rw[e];have i1:(j:Int)<(cl.length:Int):=(by omega);clear hs hcl h8 hat h e hd
   go_enter Tryz.func47,Tryz.ntmps47
   go_wp2;go_ret;exact⟨rfl,rfl⟩
  ·have e:jt cl (j:Int)=false:=(by simp[jt,hj]);rw[e];have i1:¬(j:Int)<(cl.length:Int):=(by omega);clear hs hcl h8 h e
   go_enter Tryz.func47,Tryz.ntmps47
   go_wp2;go_ret;exact⟨rfl,rfl⟩
 ·have e:jt cl n=false:=(by simp[jt,h0]);rw[e];clear hs hcl h8 h e
  go_enter Tryz.func47,Tryz.ntmps47
  go_wp2;go_ret;exact⟨rfl,rfl⟩
end
end Go.Proofs.YtfnockbgkcgpkaaGreat
