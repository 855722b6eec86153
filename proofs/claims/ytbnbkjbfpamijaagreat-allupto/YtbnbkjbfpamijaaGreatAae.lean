import Derived.Test.YtbnbkjbfpamijaaGreatAad
set_option linter.all false
set_option maxRecDepth 100000
set_option maxHeartbeats 0
namespace Go.Proofs.YtbnbkjbfpamijaaGreat
open Go.RowKit Go.Proofs.Panes
variable{w:World}{n:Nat}{u:gv}{v:Value}
def hd (a:gv):gv:=if a.left=0 then a else {a with x:=a.x+a.dx,y:=a.y+a.dy,left:=a.left-1}
def nJ (a:gv):Bool:=if a.left=0 then false else !(a.x == a.x+a.dx&&a.y == a.y+a.dy)
def qt8 (a:yL w n u v)(j:0<=u.left/\u.left<=1000)(k:-2000000000000000<=u.x+u.dx/\u.x+u.dx<=2000000000000000)(l:-2000000000000000<=u.y+u.dy/\u.y+u.dy<=2000000000000000):Calls Tryz.prog 113 #[.pointer (some ⟨n,0,none⟩)] w fun m o=>m=.returned (.bool (nJ u))/\yL o n (hd u) v/\gp (fun b=>b=n) w o:=by
 obtain⟨B,C,-,-,-,D,E,F,-⟩:=zzc a;have G:=fun H=>qj a H;have R:=qh a;have I:IntKind.i64.wrap (u.x+u.dx)=u.x+u.dx:=(by rw[af];omega);have J:IntKind.i64.wrap (u.y+u.dy)=u.y+u.dy:=(by rw[af];omega);have K:IntKind.i64.wrap (u.left-1)=u.left-1:=(by rw[af];omega);by_cases h0:u.left=0
 ·have f:hd u=u:=(by simp[hd,h0]);have g:nJ u=false:=(by simp[nJ,h0]);rw[f,g];have L:=qg a;clear a f g j k l I J K;go_enter Tryz.func113,Tryz.ntmps113;go_wp2;go_ret;exact⟨rfl,qb L,gp.refl _ _⟩
 ·have f:hd u={u with x:=u.x+u.dx,y:=u.y+u.dy,left:=u.left-1}:=(by simp[hd,h0]);have g:nJ u=!(u.x == u.x+u.dx&&u.y == u.y+u.dy):=(by simp[nJ,h0]);rw[f,g];obtain⟨M,h⟩:=zx (!(u.x == u.x+u.dx&&u.y == u.y+u.dy));rw[<-h];have N:=qg h;have e:yL (w.setCell ⟨n,7,none⟩ (.int .i64 (u.left-1))) n {u with left:=u.left-1} v:=qp (i:=7) a _;have q:=qg e;obtain⟨c,d⟩:=zx (w.setCell ⟨n,7,none⟩ (.int .i64 (u.left-1)));have S:c.cell? ⟨n,0,none⟩=some (.int .i64 u.x):=(by rw[d];exact qe e 0);have T:c.cell? ⟨n,1,none⟩=some (.int .i64 u.y):=(by rw[d];exact qe e 1);have U:c.cell? ⟨n,5,none⟩=some (.int .i64 u.dx):=(by rw[d];exact qe e 5);have V:c.cell? ⟨n,6,none⟩=some (.int .i64 u.dy):=(by rw[d];exact qe e 6);have r:gp (fun b=>b=n) w c:=(by rw[d];exact (gp.refl (fun b=>b=n) w).setCell (p:=⟨n,7,none⟩) (.inl rfl) _);have O:=qg r;have s:=qg d;clear a f g j k l e r d h;go_enter Tryz.func113,Tryz.ntmps113;go_wp2;rw[<-qb s];rw[<-qb s] at q;clear B C D E F G
  go_region_with
   (first
     | (go_at_call 133;refine (Xy (w:=c.drew) (pv:=v) (s:={u with left:=u.left-1}) (qb q) _ _).mono ?_;rintro m W ⟨t,z,A⟩;rw[show (!(({u with left:=u.left-1}:gv).x == u.x+u.dx&&({u with left:=u.left-1}:gv).y == u.y+u.dy))=M from (qb N).symm] at t;subst t;have P:=qg z;have Q:=qg A;clear z A))
  all_goals
   simp only[Exit.then];go_simp;go_wp2;go_ret;exact⟨rfl,qb P,(qb O).trans ((gp.refl (fun b=>b=n) c).drew.trans (qb Q))⟩
end Go.Proofs.YtbnbkjbfpamijaaGreat
