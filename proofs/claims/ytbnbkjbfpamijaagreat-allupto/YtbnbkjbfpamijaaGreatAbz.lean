import Derived.Test.YtbnbkjbfpamijaaGreatAaf
import Derived.Test.YtbnbkjbfpamijaaGreatAag
set_option linter.all false
set_option maxRecDepth 100000
set_option maxHeartbeats 0
namespace Go.Proofs.YtbnbkjbfpamijaaGreat
open Go.RowKit Go.Proofs.Panes
variable{w:World}{g i j n:Nat}{x:List Bool}
section
attribute [local go_sem ↓] Go.wp_at_zero Go.wp_at_succ
def kc (c:ze w n (.slice (some ⟨i,0,none⟩) j g) x)(d:j=x.length)(a:Nat)(b:Bool):ze (w.setCell ⟨i,a,none⟩ (.bool b)) n (.slice (some ⟨i,0,none⟩) j g) (x.set a b):=by
 subst d;have:=(aT c a (.bool b)).1;unfold ze;rw[aG,dh];exact this
def rJ (g c:World)(h d i j:Nat)(a:List Bool)(e:gt)(f:Bool):Prop:=
 gp (fun k=>k=d) g c/\(f=true->∃ b,qP a e=some b/\b.length=a.length/\ze c h (.slice (some ⟨d,0,none⟩) i j) b)/\(f=false->qP a e=none)
end
section
attribute [local go_sem ↓] Go.wp_at_zero Go.wp_at_succ
def qd6 (a:gt)(b:Value):Value:=.agg #[.int .i64 a.kind,.int .i64 a.iV,.int .i64 a.x,.int .i64 a.y,.int .i64 a.w,.int .i64 a.h,b,.int .i64 a.mark]
def qg4 (c:Nat)(d:Value)(b e f g h i mark:Int)(j:Option Addr)(k l:Nat)(a:World)(m:b=8):Calls Tryz.prog 56 #[.pointer (some ⟨c,0,none⟩),.agg #[.int .i64 b,.int .i64 e,.int .i64 f,.int .i64 g,.int .i64 h,.int .i64 i,.slice j k l,.int .i64 mark],d] a fun n o=>n=.returned (.bool true)/\Below a.heap.size a o:=by
 subst m;go_enter Tryz.func56,Tryz.ntmps56;go_wp2;go_ret;exact⟨rfl,(aa _ a).alloc (zzl _) _⟩
def valid_ks (x y e c q:Nat)(g:List Bool)(i j m r mark:Int)(s:Option Addr)(t u:Nat)(a:World)(F:a.cell? ⟨x,6,none⟩=some (.int .i64 c)) (n:ze a y (.slice (some ⟨e,0,none⟩) c q) g) (z:c=g.length) (h4:1<=c/\c<=4) (b:Nat) (a1:b<c) (h:Int) (k l:Bool) (rs:List Bool) (G:g[b]?=some k) (f:h=1/\k=false/\l=(gz i (-100) 100&&gz j (-100) 100)/\rs=g.set b true\/h=2/\k=true/\l=true/\rs=g.set b false\/h=4/\k=true/\l=(gz i (-100) 100&&gz j (-100) 100)/\rs=g\/h=5/\k=true/\l=true/\rs=g\/h=6/\k=true/\l=true/\rs=g\/h=7/\k=true/\l=(gz m 1 20&&gz i (-4) 4&&gz j (-4) 4)/\rs=g):Calls Tryz.prog 56 #[.pointer (some ⟨x,0,none⟩),.agg #[.int .i64 h,.int .i64 b,.int .i64 i,.int .i64 j,.int .i64 m,.int .i64 r,.slice s t u,.int .i64 mark],.slice (some ⟨e,0,none⟩) c q] a fun A v=>A=.returned (.bool l)/\ze v y (.slice (some ⟨e,0,none⟩) c q) rs/\gp (fun B=>B=e) a v:=by
 have H:=(ab n e rfl).2;have a2:x<a.heap.size:=aJ a _ F;have I:=xm n G;have J:a.frozen? ⟨e,b,none⟩=false:=(by subst z;exact bs n b);have Y:=qg n;have Z:=qg z;have a3:(0:Int)<=(b:Int):=(by omega);have a4:(b:Int)<=(c:Int)-1:=(by omega);have a5:(b:Int)<(c:Int):=(by omega);have wr:IntKind.i64.wrap ((c:Int)-1)=(c:Int)-1:=(by rw[af];omega);clear n z G;rcases f with ⟨f,rfl,rfl,rfl⟩ | ⟨f,rfl,rfl,rfl⟩ | ⟨f,rfl,rfl,rfl⟩ | ⟨f,rfl,rfl,rfl⟩ | ⟨f,rfl,rfl,rfl⟩ | ⟨f,rfl,rfl,rfl⟩
 all_goals
  rw[f];go_enter Tryz.func56,Tryz.ntmps56;go_wp2_with (go_at_call 55;refine (qZ _ _ _ _).mono ?_;rintro A v ⟨rfl,rfl⟩)
  go_quiet ((go_at_call 55;exact Calls.quiet_of_same (qZ _ _ _ _)))
  obtain⟨d,o⟩:=zx ((a.alloc (.cells #[.int .i64 h,.int .i64 b,.int .i64 i,.int .i64 j,.int .i64 m,.int .i64 r,.slice s t u,.int .i64 mark] 52)).drewN nq);have w:Below a.heap.size a d:=(by rw[o];exact ax ((aa _ a).alloc (zzl _) _) _);have C:d.heap[a.heap.size]?=some (.cells #[.int .i64 h,.int .i64 b,.int .i64 i,.int .i64 j,.int .i64 m,.int .i64 r,.slice s t u,.int .i64 mark] 52):=(by rw[o];exact qt _ _ _ rfl);rw[f] at o;rw[<-o];obtain⟨D,-⟩:=zzc C;rw[f] at D;clear o f;obtain⟨-,K,L,M,N,O,P,-⟩:=zzc C;have Q:d.cell? ⟨e,b,none⟩=_:=(w.cell H).trans I;have R:=(w.frozen H).trans J;have T:=qg w;clear w C I J F;have U:(decide ((0:Int)<=(b:Int))&&decide ((b:Int)<=(c:Int)-1))=true:=(by simp;omega);go_wp2_with fail
  rw[U];go_quiet (fail)
  have E:Below a.heap.size a (d.drewN nq):=ax (qb T) _;have a6:(d.drewN nq).cell? ⟨a.heap.size,0,none⟩=_:=D;have a7:(d.drewN nq).cell? ⟨a.heap.size,1,none⟩=some (.int .i64 b):=K;have a8:(d.drewN nq).cell? ⟨a.heap.size,2,none⟩=some (.int .i64 i):=L;have a9:(d.drewN nq).cell? ⟨a.heap.size,3,none⟩=some (.int .i64 j):=M;have b0:(d.drewN nq).cell? ⟨a.heap.size,4,none⟩=some (.int .i64 m):=N;have b1:(d.drewN nq).cell? ⟨a.heap.size,5,none⟩=some (.int .i64 r):=O;have b2:(d.drewN nq).cell? ⟨a.heap.size,6,none⟩=some (.slice s t u):=P;have b3:(d.drewN nq).cell? ⟨e,b,none⟩=_:=Q;have b4:(d.drewN nq).frozen? ⟨e,b,none⟩=false:=R;clear T D K L M N O P Q R U;generalize d.drewN nq=a0 at *;have V:ze a0 y (.slice (some ⟨e,0,none⟩) c q) _:=zm (qb Y) E;have W:=qg V;have X:=qg E;clear E V;go_wp2_with (go_at_call 55;refine (qZ _ _ _ _).mono ?_;rintro A v ⟨rfl,rfl⟩)
  all_goals go_ret
  all_goals first | refine⟨?_,qb W,gp.aD (qb X)⟩ | refine⟨?_,kc (qb W) (qb Z) b _,gp.setCell (S:=fun B=>B=e) (gp.aD (qb X)) (p:=⟨e,b,none⟩) (.inl rfl) _⟩
  all_goals first | rfl | (simp_all [gz];done) | (simp_all [gz];omega)
end
section
attribute [local go_sem ↓] Go.wp_at_zero Go.wp_at_succ
def qo7 (N D l c x:Nat)(q:List Bool)(y z b e mark:Int)(j:Option Addr)(r k:Nat)(a:World)(a6:a.cell? ⟨N,6,none⟩=some (.int .i64 c)) (E:ze a D (.slice (some ⟨l,0,none⟩) c x) q) (O:c=q.length) (h4:1<=c/\c<=4) (g:Nat) (f4:g<c) (a7:q[g]?=some true) (a8:Nat->Prop) (d:List Int) (a9:gS a8 a (.slice j r k) d) (f5:d.length<=17592186043904):Calls Tryz.prog 56 #[.pointer (some ⟨N,0,none⟩),.agg #[.int .i64 3,.int .i64 g,.int .i64 y,.int .i64 z,.int .i64 b,.int .i64 e,.slice j r k,.int .i64 mark],.slice (some ⟨l,0,none⟩) c x] a fun h s=>h=.returned (.bool (gz b 1 8&&gz e 1 8&&decide ((d.length:Int)=b*e)&&d.all (fun c=>gz c 0 4294967295)))/\ze s D (.slice (some ⟨l,0,none⟩) c x) q/\gp (fun i=>i=l) a s:=by
 have b0:=(ab E l rfl).2;have f6:N<a.heap.size:=aJ a _ a6;have b1:=xm E a7;have b2:a.frozen? ⟨l,g,none⟩=false:=(by subst O;exact bs E g);have d7:=qg E;have f7:=qg O;have b3:(0:Int)<=(g:Int):=(by omega);have I:(g:Int)<=(c:Int)-1:=(by omega);have d8:(g:Int)<(c:Int):=(by omega);have wr:IntKind.i64.wrap ((c:Int)-1)=(c:Int)-1:=(by rw[af];omega);clear E O a7;have b4:=qg a9;clear a9;go_enter Tryz.func56,Tryz.ntmps56;go_wp2_with (go_at_call 55;refine (qZ _ _ _ _).mono ?_;rintro h s ⟨rfl,rfl⟩)
 go_quiet ((go_at_call 55;exact Calls.quiet_of_same (qZ _ _ _ _)))
 have J:Below a.heap.size a ((a.alloc (.cells #[.int .i64 3,.int .i64 g,.int .i64 y,.int .i64 z,.int .i64 b,.int .i64 e,.slice j r k,.int .i64 mark] 52)).drewN nq):=ax ((aa _ a).alloc (zzl _) _) _;have b5:((a.alloc (.cells #[.int .i64 3,.int .i64 g,.int .i64 y,.int .i64 z,.int .i64 b,.int .i64 e,.slice j r k,.int .i64 mark] 52)).drewN nq).heap[a.heap.size]?=some (.cells #[.int .i64 3,.int .i64 g,.int .i64 y,.int .i64 z,.int .i64 b,.int .i64 e,.slice j r k,.int .i64 mark] 52):=qt _ _ _ rfl;generalize (a.alloc (.cells #[.int .i64 3,.int .i64 g,.int .i64 y,.int .i64 z,.int .i64 b,.int .i64 e,.slice j r k,.int .i64 mark] 52)).drewN nq=m at *;obtain⟨b6,b7,b8,b9,c0,c1,c2,-⟩:=zzc b5;have c3:=(J.cell b0).trans b1;have c4:=(J.frozen b0).trans b2;have c5:=qg J;clear J b5 b1 b2 a6;have c6:(decide ((0:Int)<=(g:Int))&&decide ((g:Int)<=(c:Int)-1))=true:=(by simp;omega);go_wp2_with fail
 rw[c6];go_quiet (fail)
 have P:Below a.heap.size a (m.drewN nq):=ax (qb c5) _;have Q:(m.drewN nq).cell? ⟨a.heap.size,0,none⟩=some (.int .i64 3):=b6;have R:(m.drewN nq).cell? ⟨a.heap.size,1,none⟩=some (.int .i64 g):=b7;have S:(m.drewN nq).cell? ⟨a.heap.size,2,none⟩=some (.int .i64 y):=b8;have T:(m.drewN nq).cell? ⟨a.heap.size,3,none⟩=some (.int .i64 z):=b9;have U:(m.drewN nq).cell? ⟨a.heap.size,4,none⟩=some (.int .i64 b):=c0;have V:(m.drewN nq).cell? ⟨a.heap.size,5,none⟩=some (.int .i64 e):=c1;have A:(m.drewN nq).cell? ⟨a.heap.size,6,none⟩=some (.slice j r k):=c2;have W:(m.drewN nq).cell? ⟨l,g,none⟩=some (.bool true):=c3;have X:(m.drewN nq).frozen? ⟨l,g,none⟩=false:=c4;clear c5 b6 b7 b8 b9 c0 c1 c2 c3 c4 c6;generalize m.drewN nq=f8 at *;have c7:=zm (qb d7) P;have B:=qg c7;have t:=qg P;clear P c7;obtain⟨d9,e0,F,K,L,M⟩:=(qb b4).below (qb t);simp only[ai] at F;obtain⟨rfl,rfl,rfl⟩:=F;clear b4;by_cases C:(gz b 1 8&&gz e 1 8)=true
 ·have e1:1<=b/\b<=8/\1<=e/\e<=8:=(by simp[gz] at C;omega);obtain⟨e2,e3,e4,e5⟩:=e1;have c8:1<=b*e/\b*e<=64:=(by have:b=1\/b=2\/b=3\/b=4\/b=5\/b=6\/b=7\/b=8:=(by omega);rcases this with h | h | h | h | h | h | h | h<;>subst h<;>omega);have c9:IntKind.i64.wrap (b*e)=b*e:=(by rw[af];omega);have e6:=qg C;clear C;by_cases G:(d.length:Int)=b*e
  ·have Y:Hid (decide ((d.length:Int)=b*e)=true):=(by show _=_;simp[G]);have d0:=qg M;clear M;go_wp2_with (go_at_call 55;refine (qZ _ _ _ _).mono ?_;rintro h s ⟨rfl,rfl⟩)
   clear G c9 c8 e2 e3 e4 e5 b3 I d8 wr;go_loopw [13,14] (fun n u wr=>∃ i:Nat,i<=d.length/\u=.int .i64 i/\n=.bool ((d.take i).all (fun c=>gz c 0 4294967295))/\wr.cell? ⟨a.heap.size,6,none⟩=some (.slice j d.length k)/\ze wr D (.slice (some ⟨l,0,none⟩) c x) q/\Below a.heap.size a wr/\gS a8 wr (.slice j d.length k) d) (fun _ u _=>d.length-(intOf u).toNat)
   case atStart=>exact⟨0,aj _,rfl,rfl,A,qb B,qb t,⟨j,k,rfl,K,L,qb d0⟩⟩
   case round=>
    rename World=>d1;clear B t d0 Q R S T U V A W X K L;obtain⟨i,f9,rfl,rfl,Z,o,p,d2⟩:=hrel;have v:=qg o;have w:=qg p;have d3:=qg d2;clear o p d2;obtain⟨n,a0⟩:=zx ((d.take i).all (fun c=>gz c 0 4294967295));rw[<-a0];have a1:=qg a0;clear a0;by_cases a2:i<d.length
    ·cases n with
     | true=>
      obtain⟨a3,a4⟩:∃ a3,d[i]?=some a3:=⟨d[i],by simp[a2]⟩;obtain⟨d9,e0,F,e7,e8,d4⟩:=qb d3;simp only[ai,cj] at F;obtain⟨rfl,rfl⟩:=F;obtain⟨g0,g1,rfl,_,_,d5⟩:=d4 (by intro h;rw[h] at a2;simp at a2);have g2:=d5 i a3 a4;have b3:(0:Int)<=(i:Int):=(by omega);have I:(i:Int)<(d.length:Int):=(by omega);have e9:=qg (Xq (f:=fun c=>gz c 0 4294967295) a4);clear e7 e8 d4 d5 a4;go_wp2_with (go_at_call 55;refine (qZ _ _ _ _).mono ?_;rintro h s ⟨rfl,rfl⟩)
      go_roundw
      case rel=>exact⟨i+1,by omega,by go_num,by rw[qb e9,<-qb a1];rfl,Z,qb v,qb w,qb d3⟩
      case measure=>simp[intOf];omega
     | false=>
      have I:(i:Int)<(d.length:Int):=(by omega);have H:=YU (qb a1).symm;have a5:=qg H;clear H;go_wp2;go_ret;refine⟨?_,qb v,gp.aD (qb w)⟩;rw[qb a5,dN];rfl
    ·have d6:i=d.length:=(by omega);have H:n=d.all (fun c=>gz c 0 4294967295):=(by rw[qb a1,d6,aP]);have a5:=qg H;have I:¬(i:Int)<(d.length:Int):=(by omega);clear H d6;go_wp2;go_ret;refine⟨?_,qb v,gp.aD (qb w)⟩;rw[<-qb a5,qb e6,qb Y];rfl
  ·have Y:Hid (decide ((d.length:Int)=b*e)=false):=(by show _=_;simp[G]);clear M;go_wp2_with (go_at_call 55;refine (qZ _ _ _ _).mono ?_;rintro h s ⟨rfl,rfl⟩)
   go_loopw [13,14] (fun n u wr=>u=.int .i64 0/\n=.bool false/\wr.cell? ⟨a.heap.size,6,none⟩=some (.slice j d.length k)/\ze wr D (.slice (some ⟨l,0,none⟩) c x) q/\Below a.heap.size a wr) (fun _ _ _=>0)
   case atStart=>exact⟨rfl,by simp[G],A,qb B,qb t⟩
   case round=>
    rename World=>d1;clear B t Q R S T U V A W X K L c9 c8 G;obtain⟨rfl,rfl,Z,o,p⟩:=hrel;have v:=qg o;have w:=qg p;clear o p;by_cases f0:(0:Int)<(d.length:Int);all_goals
     go_wp2;go_ret;refine⟨?_,qb v,gp.aD (qb w)⟩;rw[qb Y,dN,Bool.false_and];rfl
 ·have f1:Hid ((gz b 1 8&&gz e 1 8)=false):=(by show _=_;simpa using C);have f2:¬(1<=b/\b<=8)\/((1<=b/\b<=8)/\¬(1<=e/\e<=8)):=(by simp[gz] at C;omega);clear M C;rcases f2 with f3 | ⟨f3,g3⟩
  all_goals
   go_wp2_with (go_at_call 55;refine (qZ _ _ _ _).mono ?_;rintro h s ⟨rfl,rfl⟩)
   go_loopw [13,14] (fun n u wr=>u=.int .i64 0/\n=.bool false/\wr.cell? ⟨a.heap.size,6,none⟩=some (.slice j d.length k)/\ze wr D (.slice (some ⟨l,0,none⟩) c x) q/\Below a.heap.size a wr) (fun _ _ _=>0)
   case atStart=>exact⟨rfl,by first | rfl | simp_all,A,qb B,qb t⟩
   case round=>
    rename World=>d1;clear B t Q R S T U V A W X K L;obtain⟨rfl,rfl,Z,o,p⟩:=hrel;have v:=qg o;have w:=qg p;clear o p;by_cases f0:(0:Int)<(d.length:Int);all_goals
     go_wp2;go_ret;refine⟨?_,qb v,gp.aD (qb w)⟩;rw[qb f1,Bool.false_and,Bool.false_and];rfl
end
section
attribute [local go_sem ↓] Go.wp_at_zero Go.wp_at_succ
def qp3 (l c:Nat)(b d e f g h mark:Int)(i:Option Addr)(j k:Nat)(a:World)(m:a.cell? ⟨l,6,none⟩=some (.int .i64 c))(h4:1<=c/\c<=4)(u:¬b=8)(r:Value)(v:¬(1<=b/\b<=7)):Calls Tryz.prog 56 #[.pointer (some ⟨l,0,none⟩),.agg #[.int .i64 b,.int .i64 d,.int .i64 e,.int .i64 f,.int .i64 g,.int .i64 h,.slice i j k,.int .i64 mark],r] a fun n o=>n=.returned (.bool false)/\Below a.heap.size a o:=by
 have w:l<a.heap.size:=aJ a _ m;have wr:IntKind.i64.wrap ((c:Int)-1)=(c:Int)-1:=(by rw[af];omega);have x:(decide ((1:Int)<=b)&&decide (b<=(7:Int)))=false:=(by simp;omega);go_enter Tryz.func56,Tryz.ntmps56;go_wp2_with (go_at_call 55;refine (qZ _ _ _ _).mono ?_;rintro n o ⟨rfl,rfl⟩)
 go_quiet ((go_at_call 55;exact Calls.quiet_of_same (qZ _ _ _ _)))
 have p:Below a.heap.size a ((a.alloc (.cells #[.int .i64 b,.int .i64 d,.int .i64 e,.int .i64 f,.int .i64 g,.int .i64 h,.slice i j k,.int .i64 mark] 52)).drewN nq):=ax ((aa _ a).alloc (zzl _) _) _;have q:((a.alloc (.cells #[.int .i64 b,.int .i64 d,.int .i64 e,.int .i64 f,.int .i64 g,.int .i64 h,.slice i j k,.int .i64 mark] 52)).drewN nq).heap[a.heap.size]?=some (.cells #[.int .i64 b,.int .i64 d,.int .i64 e,.int .i64 f,.int .i64 g,.int .i64 h,.slice i j k,.int .i64 mark] 52):=qt _ _ _ rfl;generalize (a.alloc (.cells #[.int .i64 b,.int .i64 d,.int .i64 e,.int .i64 f,.int .i64 g,.int .i64 h,.slice i j k,.int .i64 mark] 52)).drewN nq=y at *;obtain⟨z,A,B,C,D,E,F,-⟩:=zzc q;have s:=qg p;clear p q m;go_wp2_with fail
 go_quiet (fail)
 have t:=qg (ax (qb s) nq);go_wp2;go_ret;exact⟨rfl,qb t⟩
def qp2 (l d:Nat)(b c e f g h mark:Int)(i:Option Addr)(j k:Nat)(a:World)(m:a.cell? ⟨l,6,none⟩=some (.int .i64 d))(h4:1<=d/\d<=4)(v:¬b=8)(r:Value)(w:1<=b/\b<=7)(x:¬(0<=c/\c<=(d:Int)-1)):Calls Tryz.prog 56 #[.pointer (some ⟨l,0,none⟩),.agg #[.int .i64 b,.int .i64 c,.int .i64 e,.int .i64 f,.int .i64 g,.int .i64 h,.slice i j k,.int .i64 mark],r] a fun n o=>n=.returned (.bool false)/\Below a.heap.size a o:=by
 have y:l<a.heap.size:=aJ a _ m;have wr:IntKind.i64.wrap ((d:Int)-1)=(d:Int)-1:=(by rw[af];omega);have z:(decide ((1:Int)<=b)&&decide (b<=(7:Int)))=true:=(by simp;omega);have s:(decide ((0:Int)<=c)&&decide (c<=(d:Int)-1))=false:=(by simp;omega);go_enter Tryz.func56,Tryz.ntmps56;go_wp2_with (go_at_call 55;refine (qZ _ _ _ _).mono ?_;rintro n o ⟨rfl,rfl⟩)
 go_quiet ((go_at_call 55;exact Calls.quiet_of_same (qZ _ _ _ _)))
 have p:Below a.heap.size a ((a.alloc (.cells #[.int .i64 b,.int .i64 c,.int .i64 e,.int .i64 f,.int .i64 g,.int .i64 h,.slice i j k,.int .i64 mark] 52)).drewN nq):=ax ((aa _ a).alloc (zzl _) _) _;have q:((a.alloc (.cells #[.int .i64 b,.int .i64 c,.int .i64 e,.int .i64 f,.int .i64 g,.int .i64 h,.slice i j k,.int .i64 mark] 52)).drewN nq).heap[a.heap.size]?=some (.cells #[.int .i64 b,.int .i64 c,.int .i64 e,.int .i64 f,.int .i64 g,.int .i64 h,.slice i j k,.int .i64 mark] 52):=qt _ _ _ rfl;generalize (a.alloc (.cells #[.int .i64 b,.int .i64 c,.int .i64 e,.int .i64 f,.int .i64 g,.int .i64 h,.slice i j k,.int .i64 mark] 52)).drewN nq=A at *;obtain⟨B,C,D,E,F,G,H,-⟩:=zzc q;have t:=qg p;clear p q m;go_wp2_with fail
 try rw[s]
 go_quiet (fail)
 have u:=qg (ax (qb t) nq);go_wp2;go_ret;exact⟨rfl,qb u⟩
def qp1 (k l c s:Nat)(d e f g mark:Int)(h:Option Addr)(i j:Nat)(a:World)(o:a.cell? ⟨k,6,none⟩=some (.int .i64 c))(h4:1<=c/\c<=4)(b:Nat)(x:b<c)(m:a.cell? ⟨l,b,none⟩=some (.bool true)):Calls Tryz.prog 56 #[.pointer (some ⟨k,0,none⟩),.agg #[.int .i64 1,.int .i64 b,.int .i64 d,.int .i64 e,.int .i64 f,.int .i64 g,.slice h i j,.int .i64 mark],.slice (some ⟨l,0,none⟩) c s] a fun p q=>p=.returned (.bool false)/\Below a.heap.size a q:=by
 have y:k<a.heap.size:=aJ a _ o;have t:l<a.heap.size:=aJ a _ m;have wr:IntKind.i64.wrap ((c:Int)-1)=(c:Int)-1:=(by rw[af];omega);have z:(0:Int)<=(b:Int):=(by omega);have A:(b:Int)<=(c:Int)-1:=(by omega);have B:(b:Int)<(c:Int):=(by omega);go_enter Tryz.func56,Tryz.ntmps56;go_wp2_with (go_at_call 55;refine (qZ _ _ _ _).mono ?_;rintro p q ⟨rfl,rfl⟩)
 go_quiet ((go_at_call 55;exact Calls.quiet_of_same (qZ _ _ _ _)))
 have n:Below a.heap.size a ((a.alloc (.cells #[.int .i64 1,.int .i64 b,.int .i64 d,.int .i64 e,.int .i64 f,.int .i64 g,.slice h i j,.int .i64 mark] 52)).drewN nq):=ax ((aa _ a).alloc (zzl _) _) _;have r:((a.alloc (.cells #[.int .i64 1,.int .i64 b,.int .i64 d,.int .i64 e,.int .i64 f,.int .i64 g,.slice h i j,.int .i64 mark] 52)).drewN nq).heap[a.heap.size]?=some (.cells #[.int .i64 1,.int .i64 b,.int .i64 d,.int .i64 e,.int .i64 f,.int .i64 g,.slice h i j,.int .i64 mark] 52):=qt _ _ _ rfl;generalize (a.alloc (.cells #[.int .i64 1,.int .i64 b,.int .i64 d,.int .i64 e,.int .i64 f,.int .i64 g,.slice h i j,.int .i64 mark] 52)).drewN nq=C at *;obtain⟨D,E,F,G,H,I,J,-⟩:=zzc r;have K:=(n.cell t).trans m;have u:=qg n;clear n r o m;have v:(decide ((0:Int)<=(b:Int))&&decide ((b:Int)<=(c:Int)-1))=true:=(by simp;omega);go_wp2_with fail
 rw[v];go_quiet (fail)
 have w:=qg (ax (qb u) nq);go_wp2;go_ret;exact⟨rfl,qb w⟩
def qp0 (l m d t:Nat)(b:Int)(e f g h mark:Int)(i:Option Addr)(j k:Nat)(a:World)(p:a.cell? ⟨l,6,none⟩=some (.int .i64 d))(h4:1<=d/\d<=4)(u:¬b=8)(v:¬b=1)(A:1<=b/\b<=7)(c:Nat)(B:c<d)(n:a.cell? ⟨m,c,none⟩=some (.bool false)):Calls Tryz.prog 56 #[.pointer (some ⟨l,0,none⟩),.agg #[.int .i64 b,.int .i64 c,.int .i64 e,.int .i64 f,.int .i64 g,.int .i64 h,.slice i j k,.int .i64 mark],.slice (some ⟨m,0,none⟩) d t] a fun q r=>q=.returned (.bool false)/\Below a.heap.size a r:=by
 have C:l<a.heap.size:=aJ a _ p;have w:m<a.heap.size:=aJ a _ n;have wr:IntKind.i64.wrap ((d:Int)-1)=(d:Int)-1:=(by rw[af];omega);have D:(0:Int)<=(c:Int):=(by omega);have E:(c:Int)<=(d:Int)-1:=(by omega);have F:(c:Int)<(d:Int):=(by omega);have G:(decide ((1:Int)<=b)&&decide (b<=(7:Int)))=true:=(by simp;omega);have H:(b == 1)=false:=(by simpa using v);have I:(b == 8)=false:=(by simpa using u);go_enter Tryz.func56,Tryz.ntmps56;go_wp2_with (go_at_call 55;refine (qZ _ _ _ _).mono ?_;rintro q r ⟨rfl,rfl⟩)
 go_quiet ((go_at_call 55;exact Calls.quiet_of_same (qZ _ _ _ _)))
 have o:Below a.heap.size a ((a.alloc (.cells #[.int .i64 b,.int .i64 c,.int .i64 e,.int .i64 f,.int .i64 g,.int .i64 h,.slice i j k,.int .i64 mark] 52)).drewN nq):=ax ((aa _ a).alloc (zzl _) _) _;have s:((a.alloc (.cells #[.int .i64 b,.int .i64 c,.int .i64 e,.int .i64 f,.int .i64 g,.int .i64 h,.slice i j k,.int .i64 mark] 52)).drewN nq).heap[a.heap.size]?=some (.cells #[.int .i64 b,.int .i64 c,.int .i64 e,.int .i64 f,.int .i64 g,.int .i64 h,.slice i j k,.int .i64 mark] 52):=qt _ _ _ rfl;generalize (a.alloc (.cells #[.int .i64 b,.int .i64 c,.int .i64 e,.int .i64 f,.int .i64 g,.int .i64 h,.slice i j k,.int .i64 mark] 52)).drewN nq=J at *;obtain⟨K,L,M,N,O,P,Q,-⟩:=zzc s;have R:=(o.cell w).trans n;have x:=qg o;clear o s p n;have y:(decide ((0:Int)<=(c:Int))&&decide ((c:Int)<=(d:Int)-1))=true:=(by simp;omega);go_wp2_with fail
 rw[y];go_quiet (fail)
 have z:=qg (ax (qb x) nq);go_wp2;go_ret;exact⟨rfl,qb z⟩
def Xv (R:Nat->Prop)(n u j c k:Nat)(h:List Bool)(E:gt)(S:Value)(d:World)(v:d.cell? ⟨n,6,none⟩=some (.int .i64 c))(x:ze d u (.slice (some ⟨j,0,none⟩) c k) h)(y:c=h.length)(w:1<=c/\c<=4)(M:gS R d S E.px)(T:E.px.length<=17592186043904):Calls Tryz.prog 56 #[.pointer (some ⟨n,0,none⟩),qd6 E S,.slice (some ⟨j,0,none⟩) c k] d fun l s=>∃ o,l=.returned (.bool o)/\rJ d s u j c k h E o:=by
 obtain⟨a,p,e,f,g,b,t,mark⟩:=E;obtain⟨q,r,U,a6⟩:=id M;simp only at U T M;subst U;have a7:=(ab x j rfl).2;unfold qd6 rJ;simp only;by_cases A:a=8
 ·refine (qg4 n _ a p e f g b mark q _ r d A).mono fun l s ⟨F,m⟩=>⟨true,F,.aD m,fun _=>⟨h,by unfold qP;rw[an A],rfl,zm x m⟩,fun b=>by cases b⟩
 have I:∀ (Y:World->Prop),Calls Tryz.prog 56 #[.pointer (some ⟨n,0,none⟩),.agg #[.int .i64 a,.int .i64 p,.int .i64 e,.int .i64 f,.int .i64 g,.int .i64 b,.slice q t.length r,.int .i64 mark],.slice (some ⟨j,0,none⟩) c k] d (fun l s=>l=.returned (.bool false)/\Below d.heap.size d s)->(gz a 1 7&&gz p 0 ((h.length:Int)-1)&&(h.getD p.toNat false != decide (a=1))&&zt ⟨a,p,e,f,g,b,t,mark⟩)=false->Calls Tryz.prog 56 #[.pointer (some ⟨n,0,none⟩),.agg #[.int .i64 a,.int .i64 p,.int .i64 e,.int .i64 f,.int .i64 g,.int .i64 b,.slice q t.length r,.int .i64 mark],.slice (some ⟨j,0,none⟩) c k] d fun l s=>∃ o,l=.returned (.bool o)/\gp (fun G=>G=j) d s/\(o=true->∃ B,qP h ⟨a,p,e,f,g,b,t,mark⟩=some B/\B.length=h.length/\ze s u (.slice (some ⟨j,0,none⟩) c k) B)/\(o=false->qP h ⟨a,p,e,f,g,b,t,mark⟩=none):=
  fun Y N Z=>N.mono fun l s ⟨F,m⟩=>⟨false,F,.aD m,(fun b=>by cases b),fun _=>vq (o:=⟨a,p,e,f,g,b,t,mark⟩) A Z⟩
 by_cases H:1<=a/\a<=7
 case neg=>exact I (fun _=>True) (qp3 n c a p e f g b mark q _ r d v w A _ H) (by rw[XK H];rfl)
 by_cases O:0<=p/\p<=(c:Int)-1
 case neg=>exact I (fun _=>True) (qp2 n c a p e f g b mark q _ r d v w A _ H O) (by rw[XK (n:=p) (by rw[<-y];exact O),dN];rfl)
 obtain⟨i,rfl⟩:∃ i:Nat,p=i:=⟨p.toNat,by omega⟩;have z:i<c:=(by omega);obtain⟨o,m⟩:∃ o,h[i]?=some o:=⟨h[i]'(by omega),aB _⟩;have V:=xm x m;have P:h.getD (i:Int).toNat false=o:=(by simp[List.getD,m]);have a0:=jh.2 H;have a1:gz (i:Int) 0 ((h.length:Int)-1)=true:=jh.2 (by rw[<-y];exact O);have C:∀ (J:List Bool)(K:Bool),J=h.set i (decide (a≠2))->(o != decide (a=1))=true->zt ⟨a,i,e,f,g,b,t,mark⟩=K->Calls Tryz.prog 56 #[.pointer (some ⟨n,0,none⟩),.agg #[.int .i64 a,.int .i64 i,.int .i64 e,.int .i64 f,.int .i64 g,.int .i64 b,.slice q t.length r,.int .i64 mark],.slice (some ⟨j,0,none⟩) c k] d (fun l s=>l=.returned (.bool K)/\ze s u (.slice (some ⟨j,0,none⟩) c k) J/\gp (fun G=>G=j) d s)->Calls Tryz.prog 56 #[.pointer (some ⟨n,0,none⟩),.agg #[.int .i64 a,.int .i64 i,.int .i64 e,.int .i64 f,.int .i64 g,.int .i64 b,.slice q t.length r,.int .i64 mark],.slice (some ⟨j,0,none⟩) c k] d fun l s=>∃ o,l=.returned (.bool o)/\gp (fun G=>G=j) d s/\(o=true->∃ B,qP h ⟨a,i,e,f,g,b,t,mark⟩=some B/\B.length=h.length/\ze s u (.slice (some ⟨j,0,none⟩) c k) B)/\(o=false->qP h ⟨a,i,e,f,g,b,t,mark⟩=none):=
  fun J K W a2 X N=>N.mono fun l s ⟨F,a3,a4⟩=>⟨K,F,a4,fun Q=>⟨J,by rw[W];exact Jb (o:=⟨a,i,e,f,g,b,t,mark⟩) A (by simp only[a0,a1,P,a2,X,Q,Bool.and_self]),by rw[W,aG],a3⟩,fun Q=>vq (o:=⟨a,i,e,f,g,b,t,mark⟩) A (by simp only[X,Q,dN])⟩
 by_cases L:a=1
 ·subst L;cases o with
  | true=>exact I (fun _=>True) (qp1 n j c k e f g b mark q _ r d v w i z V) (by simp only[P];simp)
  | false=>exact C _ _ (by simp) (by simp) (by simp[zt]) (valid_ks n u j c k h e f g b mark q _ r d v x y w i z 1 _ _ _ m (.inl ⟨rfl,rfl,rfl,rfl⟩))
 ·cases o with
  | false=>exact I (fun _=>True) (qp0 n j c k a e f g b mark q _ r d v w A L H i z V) (by simp only[P];simp[L])
  | true=>
   have D:(true != decide (a=1))=true:=(by simp[L]);have a5:a=2\/a=3\/a=4\/a=5\/a=6\/a=7:=(by omega);rcases a5 with l | l | l | l | l | l<;>subst l
   ·exact C _ _ (by simp) D (by simp[zt]) (valid_ks n u j c k h e f g b mark q _ r d v x y w i z 2 _ _ _ m (.inr (.inl ⟨rfl,rfl,rfl,rfl⟩)))
   ·exact C _ _ (by simp[yZ m]) D (by simp[zt]) (qo7 n u j c k h e f g b mark q _ r d v x y w i z m R t M T)
   ·exact C _ _ (by simp[yZ m]) D (by simp[zt]) (valid_ks n u j c k h e f g b mark q _ r d v x y w i z 4 _ _ _ m (.inr (.inr (.inl ⟨rfl,rfl,rfl,rfl⟩))))
   ·exact C _ _ (by simp[yZ m]) D (by simp[zt]) (valid_ks n u j c k h e f g b mark q _ r d v x y w i z 5 _ _ _ m (.inr (.inr (.inr (.inl ⟨rfl,rfl,rfl,rfl⟩)))))
   ·exact C _ _ (by simp[yZ m]) D (by simp[zt]) (valid_ks n u j c k h e f g b mark q _ r d v x y w i z 6 _ _ _ m (.inr (.inr (.inr (.inr (.inl ⟨rfl,rfl,rfl,rfl⟩))))))
   ·exact C _ _ (by simp[yZ m]) D (by simp[zt]) (valid_ks n u j c k h e f g b mark q _ r d v x y w i z 7 _ _ _ m (.inr (.inr (.inr (.inr (.inr ⟨rfl,rfl,rfl,rfl⟩))))))
end
variable{E:hg}
section
attribute [local go_sem ↓] Go.wp_at_zero Go.wp_at_succ
structure hJ where
 there:Bool
 q:Value
 cr:Int
 wv:Value
def zK (a:hJ):List Value:=[.bool a.there,a.q,.int .i64 a.cr,a.wv]
def qG (a:List hJ):List Value:=a.flatMap zK
def qa8 (a:List hJ):(qG a).length=a.length*4:=by
 induction a with
 | nil=>rfl
 | cons b a c=>show (zK b++qG a).length=_;rw[ae,c];simp[zK];omega
def jC:∀ (a:List hJ)(b:Nat)(c:hJ),a[b]?=some c-> (qG a)[b*4]?=some (.bool c.there)/\(qG a)[b*4+1]?=some c.q/\(qG a)[b*4+2]?=some (.int .i64 c.cr)/\(qG a)[b*4+3]?=some c.wv
 | [],b,c,e=>by simp at e
 | d::a,0,c,e=>by
  simp at e;subst e;show (zK d++qG a)[0]?=_/\(zK d++qG a)[1]?=_/\(zK d++qG a)[2]?=_/\(zK d++qG a)[3]?=_;simp[zK]
 | d::a,b+1,c,e=>by
  have i:a[b]?=some c:=(by simpa using e);have f:=jC a b c i;have g:∀ h,(qG (d::a))[(b+1)*4+h]?=(qG a)[b*4+h]?:=by
   intro h;show (zK d++qG a)[_]?=_;rw[aq (by simp[zK];omega)];congr 1
   simp[zK];omega
  refine⟨by have:=g 0;simp only[bL] at this;rw[this];exact f.1,by rw[g 1];exact f.2.1,by rw[g 2];exact f.2.2.1,by rw[g 3];exact f.2.2.2⟩
def JQ:∀ (c:List hJ)(a:Nat)(b:hJ),a<c.length-> ((((qG c).set (a*4) (.bool b.there)).set (a*4+1) b.q).set (a*4+2) (.int .i64 b.cr)).set (a*4+3) b.wv=qG (c.set a b)
 | [],a,b,g=>by simp at g
 | f::c,0,b,g=>rfl
 | f::c,a+1,b,g=>by
  have j:=JQ c a b (by simpa using g);show _=zK f++qG (c.set a b);rw[<-j];have h:∀ (d:List Value)(i:Nat)(e:Value),(zK f++d).set ((a+1)*4+i) e=zK f++d.set (a*4+i) e:=fun d i e=>by
   rw[bG _ _ (by simp[zK];omega)];congr 2
   simp[zK];omega
  have k:∀ (d:List Value)(e:Value),(zK f++d).set ((a+1)*4) e=zK f++d.set (a*4) e:=fun d e=>h d 0 e;show ((((zK f++qG c).set _ _).set _ _).set _ _).set _ _=_;rw[k,h,h,h]
structure jR (w:World)(sp cb:Nat)(c:hg)(cl:List hJ):Prop where
 tY:∃ cs,w.heap[sp]?=some (.cells cs 121)/\cs[0]?=some (.int .i64 c.w)/\cs[1]?=some (.int .i64 c.h)/\cs[2]?=some (.int .i64 c.oA)/\cs[3]?=some (.int .i64 c.queue)/\cs[4]?=some (.int .i64 c.tK)/\cs[5]?=some (.int .i64 c.hD)/\cs[6]?=some (.int .i64 c.iE)/\cs[7]?=some (.int .i64 c.behind)/\cs[8]?=some (.slice (some ⟨cb,0,none⟩) cl.length cl.length)
 cls:w.heap[cb]?=some (.cells (qG cl).toArray 123)
def jR.apart {b:List hJ}(a:jR w n i E b):n≠i:=fun c=>by
 obtain⟨e,d,_⟩:=a.tY;have:=a.cls;rw[<-c,d] at this;simp at this
def jt (b:List hJ)(a:Int):Bool:=decide (0<=a)&&(match b[a.toNat]? with | some c=>c.there | none=>false)
def v6 {a:List hJ}(e:jR w n i E a)(d:Int):Calls Tryz.prog 44 #[.pointer (some ⟨n,0,none⟩),.int .i64 d] w fun c m=>c=.returned (.bool (jt a d))/\m=w:=by
 obtain⟨p,g,_,_,_,_,_,_,_,_,h8⟩:=e.tY;have q:w.cell? ⟨n,8,none⟩=some (.slice (some ⟨i,0,none⟩) a.length a.length):=(by rw[qe g];exact h8);have h:=e.cls;by_cases h0:0<=d
 ·obtain⟨b,rfl⟩:∃ b:Nat,d=b:=⟨d.toNat,by omega⟩;by_cases k:b<a.length
  ·obtain⟨f,j⟩:∃ f,a[b]?=some f:=⟨a[b],by simp[k]⟩;have l:=(jC a b f j).1;have r:w.cell? ⟨i,b*4,none⟩=some (.bool f.there):=(by rw[qe h];simpa using l);have c:jt a (b:Int)=f.there:=(by simp[jt,j]);rw[c];have o:(b:Int)<(a.length:Int):=(by omega);clear g h h8 l e c j;go_enter Tryz.func44,Tryz.ntmps44;go_wp2;go_ret;exact⟨rfl,rfl⟩
  ·have c:jt a (b:Int)=false:=(by simp[jt,k]);rw[c];have o:¬(b:Int)<(a.length:Int):=(by omega);clear g h h8 e c;go_enter Tryz.func44,Tryz.ntmps44;go_wp2;go_ret;exact⟨rfl,rfl⟩
 ·have c:jt a d=false:=(by simp[jt,h0]);rw[c];clear g h h8 e c;go_enter Tryz.func44,Tryz.ntmps44;go_wp2;go_ret;exact⟨rfl,rfl⟩
end
section
attribute [local go_sem ↓] Go.wp_at_zero Go.wp_at_succ
def kO (b:World)(a c:Nat)(d:c<=b.heap.size)(g:a<=1000000):ze (b.alloc (.cells (Array.replicate a (Value.bool false)) 4)) c (.slice (some ⟨b.heap.size,0,none⟩) a a) (List.replicate a false):=by
 have f:=eD (base:=c) (e:=4) (size:=1) b (Array.replicate a (Value.bool false)) a d (by unfold maxLen;omega) (by simp);unfold ze;rw[aS];simpa using f
def zy:List hJ->Option Nat
 | []=>none
 | a::b=>if a.there=false then some 0 else (zy b).map (· + 1)
def ku:∀ (a:List hJ)(b:Nat)(c:hJ),(∀ (f:Nat)(e:hJ),f<b->a[f]?=some e->e.there=true)->a[b]?=some c->c.there=false->zy a=some b
 | [],b,c,_,d,_=>by simp at d
 | e::a,0,c,_,d,g=>by
  simp at d;subst d;simp[zy,g]
 | e::a,b+1,c,h,d,g=>by
  have i:=h 0 e (by omega) rfl;have j:=ku a b c (fun f k m l=>h (f+1) k (by omega) (by simpa using l)) (by simpa using d) g;simp[zy,i,j]
def kw:∀ (a:List hJ),(∀ (c:Nat)(b:hJ),a[c]?=some b->b.there=true)->zy a=none
 | [],_=>rfl
 | b::a,d=>by
  have e:=d 0 b rfl;have f:=kw a (fun c g h=>d (c+1) g (by simpa using h));simp[zy,e,f]
def qf4 {b:List hJ}(c:w.heap[n]?=some (.cells (qG b).toArray 123))(a:hJ)(d:j<b.length):((((w.setCell ⟨n,j*4,none⟩ (.bool a.there)).setCell ⟨n,j*4+1,none⟩ a.q).setCell ⟨n,j*4+2,none⟩ (.int .i64 a.cr)).setCell ⟨n,j*4+3,none⟩ a.wv).heap[n]?=some (.cells (qG (b.set j a)).toArray 123):=by
 have e:=qp (i:=j*4) c (.bool a.there);have f:=qp (i:=j*4+1) e a.q;have g:=qp (i:=j*4+2) f (.int .i64 a.cr);have h:=qp (i:=j*4+3) g a.wv;rw[h,<-JQ b j a d];simp
def YO {d:List hJ}(c:jR w n i E d)(l:j<d.length)(a:Nat)(b:a<=1000000):jR ((((((w.setCell ⟨i,j*4,none⟩ (.bool true)).setCell ⟨i,j*4+1,none⟩ (.slice none 0 0)).setCell ⟨i,j*4+2,none⟩ (.int .i64 0)).setCell ⟨i,j*4+3,none⟩ (.slice (some ⟨w.heap.size,0,none⟩) a a)).alloc (.cells (Array.replicate a (Value.bool false)) 4)).drew) n i E (d.set j ⟨true,.slice none 0 0,0,.slice (some ⟨w.heap.size,0,none⟩) a a⟩)/\ ze ((((((w.setCell ⟨i,j*4,none⟩ (.bool true)).setCell ⟨i,j*4+1,none⟩ (.slice none 0 0)).setCell ⟨i,j*4+2,none⟩ (.int .i64 0)).setCell ⟨i,j*4+3,none⟩ (.slice (some ⟨w.heap.size,0,none⟩) a a)).alloc (.cells (Array.replicate a (Value.bool false)) 4)).drew) w.heap.size (.slice (some ⟨w.heap.size,0,none⟩) a a) (List.replicate a false)/\ gp (fun j=>j=i) w ((((((w.setCell ⟨i,j*4,none⟩ (.bool true)).setCell ⟨i,j*4+1,none⟩ (.slice none 0 0)).setCell ⟨i,j*4+2,none⟩ (.int .i64 0)).setCell ⟨i,j*4+3,none⟩ (.slice (some ⟨w.heap.size,0,none⟩) a a)).alloc (.cells (Array.replicate a (Value.bool false)) 4)).drew):=by
 have h:=qf4 c.cls ⟨true,.slice none 0 0,0,.slice (some ⟨w.heap.size,0,none⟩) a a⟩ l;simp only at h;have m:((((w.setCell ⟨i,j*4,none⟩ (.bool true)).setCell ⟨i,j*4+1,none⟩ (.slice none 0 0)).setCell ⟨i,j*4+2,none⟩ (.int .i64 0)).setCell ⟨i,j*4+3,none⟩ (.slice (some ⟨w.heap.size,0,none⟩) a a)).heap.size=w.heap.size:=(by simp[World.setCell]);have k:gp (fun j=>j=i) w ((((w.setCell ⟨i,j*4,none⟩ (.bool true)).setCell ⟨i,j*4+1,none⟩ (.slice none 0 0)).setCell ⟨i,j*4+2,none⟩ (.int .i64 0)).setCell ⟨i,j*4+3,none⟩ (.slice (some ⟨w.heap.size,0,none⟩) a a)):=(by have b:∀ (e:Nat)(f:Value){g:World},gp (fun j=>j=i) w g->gp (fun j=>j=i) w (g.setCell ⟨i,e,none⟩ f):=fun e f g c=>c.setCell (p:=⟨i,e,none⟩) (.inl rfl) f;exact b _ _ (b _ _ (b _ _ (b _ _ (gp.refl _ w)))));generalize (((w.setCell ⟨i,j*4,none⟩ (.bool true)).setCell ⟨i,j*4+1,none⟩ (.slice none 0 0)).setCell ⟨i,j*4+2,none⟩ (.int .i64 0)).setCell ⟨i,j*4+3,none⟩ (.slice (some ⟨w.heap.size,0,none⟩) a a)=o at *;obtain⟨q,r,s⟩:=c.tY;refine⟨⟨⟨q,?_,by simpa using s⟩,?_⟩,?_,(k.alloc _).drew⟩
 ·exact (k.alloc _).heap r c.apart
 ·exact qx h _
 ·have:=kO o a w.heap.size (by omega) b;rw[m] at this;exact dP this
def JO {b:List hJ}(g:jR w n i E b)(e:Nat)(D:E.iE=e)(V:e<=4)(W:b.length<=4):Calls Tryz.prog 13 #[.pointer (some ⟨n,0,none⟩)] w fun j k=>(∃ a,zy b=some a/\j=.returned (.tuple #[.int .i64 (a:Nat),.int .i64 0])/\∃ m,w.heap.size<=m/\jR k n i E (b.set a ⟨true,.slice none 0 0,0,.slice (some ⟨m,0,none⟩) e e⟩)/\ze k w.heap.size (.slice (some ⟨m,0,none⟩) e e) (List.replicate e false)/\gp (fun a=>a=i) w k)\/(zy b=none/\j=.returned (.tuple #[.int .i64 0,.int .i64 5])/\k=w):=by
 obtain⟨X,l,F,G,H,I,J,K,s,L,t⟩:=id g.tY;have Y:w.cell? ⟨n,8,none⟩=some (.slice (some ⟨i,0,none⟩) b.length b.length):=(by rw[qe l];exact t);have Z:w.cell? ⟨n,6,none⟩=some (.int .i64 (e:Int)):=(by rw[qe l,s,D]);have o:=g.cls;have a0:=qh l;have a1:=qh o;have a2:=g.apart;have a3:=xB e (by omega);have M:=qg g;have h:=qg o;clear l F G H I J K s L t g o;go_enter Tryz.func13,Tryz.ntmps13;go_wp2;go_loopw [2,3,4] (fun N O d wr=>N=.int .i64 0/\O=.int .i64 0/\∃ a:Nat,a<=b.length/\d=.int .i64 a/\wr=w/\∀ d c,d<a->b[d]?=some c->c.there=true) (fun _ _ d _=>b.length-(intOf d).toNat)
 case atStart=>exact⟨rfl,rfl,0,aj _,rfl,rfl,fun d c P=>by omega⟩
 case round=>
  obtain⟨rfl,rfl,a,a4,rfl,Q,u⟩:=hrel;have p:=qg u;clear u;subst Q;by_cases v:a<b.length
  ·obtain⟨c,f⟩:∃ c,b[a]?=some c:=⟨b[a],by simp[v]⟩;obtain⟨x,y,z,A⟩:=jC b a c f;have R:wr.cell? ⟨i,a*4,none⟩=some (.bool c.there):=(by rw[qe (qb h)];simpa using x);have a5:wr.cell? ⟨i,a*4+1,none⟩=some c.q:=(by rw[qe (qb h)];simpa using y);have a6:wr.cell? ⟨i,a*4+2,none⟩=some (.int .i64 c.cr):=(by rw[qe (qb h)];simpa using z);have a7:wr.cell? ⟨i,a*4+3,none⟩=some c.wv:=(by rw[qe (qb h)];simpa using A);have a8:=qj (qb h);have a9:(0:Int)<=(a:Int):=(by omega);have S:(a:Int)<(b.length:Int):=(by omega);obtain⟨T,q⟩:=zx c.there;rw[<-q] at R;have B:=qg q;have C:=qg f;clear x y z A q f;cases T with
   | true=>
    go_wp2;go_roundw
    case rel=>
     refine⟨rfl,rfl,a+1,by omega,by go_num,by first | rfl | trivial,fun d U P r=>?_⟩;rcases cz d a with E | E
     ·exact (qb p) d U E r
     ·have j:d=a:=(by omega);subst j;rw[qb C] at r;cases r
      exact (qb B).symm
    case measure=>simp[intOf];omega
   | false=>
    go_wp2;go_region;go_wp2;go_ret2
    exact .inl ⟨a,ku b a c (qb p) (qb C) (qb B).symm,rfl,wr.heap.size,zzl _,YO (qb M) v e (by omega)⟩
  ·have S:¬(a:Int)<(b.length:Int):=(by omega);go_wp2;go_ret2
   refine .inr ⟨kw b fun d c f=>(qb p) d c ?_ f,rfl,rfl⟩;have:=(zzg f).1;omega
end
section
attribute [local go_sem ↓] Go.wp_at_zero Go.wp_at_succ
def kz (y:Nat->Prop)(s:Value)(a:List gt)(e:World)(m:gW y e s a)(F:a.length<=1000)(f:∀ b∈a,Qk b):Calls Tryz.prog 57 #[s] e fun d z=>d=.returned (.int .i64 (qA a))/\Below e.heap.size e z:=by
 obtain⟨G,H,rfl,h1,h2,h3⟩:=id m;have A:=qg m;have t:=qg f;clear m f h3;go_enter Tryz.func57,Tryz.ntmps57;go_wp2;go_loopw [3,4] (fun B n wr=>∃ c:Nat,c<=a.length/\n=.int .i64 c/\B=.int .i64 ((a.length:Int)+((a.take c).map jw).sum)/\Below e.heap.size e wr) (fun _ n _=>a.length-(intOf n).toNat)
 case atStart=>exact⟨0,aj _,rfl,by simp,aa _ _⟩
 case round=>
  rename World=>I;obtain⟨c,J,rfl,rfl,g⟩:=hrel;by_cases o:c<a.length
  ·obtain⟨b,i⟩:∃ b,a[c]?=some b:=⟨a[c],by simp[o]⟩;obtain⟨K,L,d,_,_,h3⟩:=(qb A).below g;simp only[ai,cj] at d;obtain⟨rfl,rfl⟩:=d;obtain⟨M,N,rfl,_,_,u⟩:=h3 (by intro d;rw[d] at o;simp at o);obtain⟨C,_,_,_,O,P,_,_⟩:=u c b i;have p:=(qb t) b (zzn i);have v:=QN p;have j:=X4 (a.take c) (fun D E=>(qb t) D (br E));have q:=Qc i;rw[ao] at j;have Q:(0:Int)<=(c:Int):=(by omega);have R:(c:Int)<(a.length:Int):=(by omega);obtain⟨w,f⟩:=zx (((a.take c).map jw).sum);rw[<-f] at j q ⊢;have k:=qg g;have S:=qg f;have x:=qg q;clear g h3 u f q i;by_cases l:b.kind=3
   ·have h:jw b=b.w*b.h:=(by unfold jw;rw[an l]);have T:IntKind.i64.wrap (b.w*b.h)=b.w*b.h:=(by rw[af];omega);have U:IntKind.i64.wrap ((a.length:Int)+w+b.w*b.h)=(a.length:Int)+w+b.w*b.h:=(by rw[af];omega);have r:=qg h;rw[l] at C;clear h v j p;go_wp2;go_quiet (fail)
    go_wp2;go_roundw
    case rel=>
     refine⟨c+1,by omega,by go_num,?_,ax (qb k) _⟩;rw[qb x,qb r];congr 1
     omega
    case measure=>simp[intOf];omega
   ·have h:jw b=0:=(by unfold jw;rw[ah l]);have r:=qg h;have V:(b.kind == 3)=false:=(by simpa using l);clear h v j p;go_wp2;go_roundw
    case rel=>
     refine⟨c+1,by omega,by go_num,?_,qb k⟩;rw[qb x,qb r,Int.add_zero]
    case measure=>simp[intOf];omega
  ·obtain rfl:c=a.length:=(by omega);have k:=qg g;clear g;have d:(a.length:Int)+((a.take a.length).map jw).sum=qA a:=(by rw[aP];rfl);rw[d];clear d;go_wp2;go_ret;exact⟨rfl,qb k⟩
end
variable{F:Array Oper}{J:List Oper}{p:Oper}{s:Act}{D:Exit→Act→World→Prop}
section
attribute [local go_sem ↓] Go.wp_at_zero Go.wp_at_succ
def qm2 (b:List Bool):∀ a∈b.map Value.bool,a.oneCell'=true:=by
 intro a c;obtain⟨d,_,rfl⟩:=aC.1 c;rfl
def JT (r:p.guard=none)(h i:Operand)(t:p.op=.call {callee:=.builtin .copy,args:=#[h,i],argTypes:=#[116,116]}) (j u c a N:Nat) (k b:List Bool) (l:Value) (v:s.eval h=.slice (some ⟨c,0,none⟩) a a) (x:s.eval i=l)(y:ze w j (.slice (some ⟨c,0,none⟩) a a) k) (O:k.length=a) (m:ze w u l b) (d:b.length=a) (Q:0<a)(z:∀ w',ze w' j (.slice (some ⟨c,0,none⟩) a a) b->w.grownBy w' (some c)->wpList Tryz.prog F D J (s.put p.dst (goInt a)) w'):wpList Tryz.prog F D (p::J) s w:=by
 obtain⟨R,A,S,B,T⟩:=aZ JB;obtain⟨C,E,rfl,_,_⟩:=qi6 m (by intro e;subst e;simp at d;omega);refine eA r fun U G=>?_;rcases y.2 with ⟨e,_⟩ | ⟨n,V,f,e,H,g,W,I,o,X⟩
 ·cases e
 ·simp only[ai,ac,bz,bB] at e;obtain⟨rfl,e,rfl⟩:=e;have q:=vU (P:=Tryz.prog) w 116 116 p.type 4 1 c 0 a a ⟨C,0,none⟩ b.length E f 4 (b.map Value.bool) a Tryz.underlying116 (by rw[A];simp[B]) g (by rw[d];exact (dR a).symm) (by simp[d]) (dq m rfl) (by simp[d,o]) (qm2 b);have K:(f.toList.take 0++b.map Value.bool++f.toList.drop (0+(b.map Value.bool).length))=b.map Value.bool:=(by rw[dw,cd,bA,ak,bI (by simp[o,d]),aW]);rw[K] at q;have L:=z (w.setRow c (b.map Value.bool).toArray) ?_ ?_
  ·unfold Oper.wp;simp[execOp,t,resolve,invoke,builtin,v,x,q,Result.andThen];exact G _ _ L
  ·unfold ze;rw[d];refine⟨by simp[d],.inr ⟨c,a,_,rfl,H,da w c f _ _ _ g,zzl _,I,by simp[d],?_⟩⟩;rw[aL (by simp[d])]
  ·exact⟨rfl,rfl,rfl,by simp[World.setRow],fun n g M=>ct w c n _ (fun e=>M (by rw[e]))⟩
end
section
attribute [local go_sem ↓] Go.wp_at_zero Go.wp_at_succ
def yA (i:hg)(d:World):Calls Tryz.prog 70 #[vF i] d fun a b=>a=.returned (.bool (jU i))/\Below d.heap.size d b:=by
 obtain⟨q,r,s,a,e,t,u,v⟩:=i;unfold vF jU;simp only;have w:∀ (f g h:Int)(d:World),Calls Tryz.prog 55 #[.int .i64 f,.int .i64 g,.int .i64 h] d fun a b=>a=.returned (.bool (gz f g h))/\b=d:=fun f g h d=>qZ f g h d;have c:=qg w;clear w;obtain⟨x,h1⟩:=zx (gz q 1 16);obtain⟨y,h2⟩:=zx (gz r 1 16);obtain⟨z,h3⟩:=zx (gz s 1 4);obtain⟨A,h4⟩:=zx (gz a 1 8);obtain⟨B,h5⟩:=zx (gz e 1 300);obtain⟨C,h6⟩:=zx (gz t e 600);obtain⟨D,h7⟩:=zx (gz u 1 4);obtain⟨E,h8⟩:=zx (gz v 1 4294967295);have j:=qg ((qb c) q 1 16);have c2:=qg ((qb c) r 1 16);have k:=qg ((qb c) s 1 4);have l:=qg ((qb c) a 1 8);have m:=qg ((qb c) e 1 300);have n:=qg ((qb c) t e 600);have o:=qg ((qb c) u 1 4);have p:=qg ((qb c) v 1 4294967295);rw[<-h1] at j ⊢;rw[<-h2] at c2 ⊢;rw[<-h3] at k ⊢;rw[<-h4] at l ⊢;rw[<-h5] at m ⊢;rw[<-h6] at n ⊢;rw[<-h7] at o ⊢;rw[<-h8] at p ⊢;clear c h1 h2 h3 h4 h5 h6 h7 h8;go_enter Tryz.func70,Tryz.ntmps70
 go_wp2_with (go_at_call 55;first
   | (refine ((qb j) _).mono ?_;rintro a b ⟨rfl,rfl⟩;clear j)
   | (refine ((qb c2) _).mono ?_;rintro a b ⟨rfl,rfl⟩;clear c2)
   | (refine ((qb k) _).mono ?_;rintro a b ⟨rfl,rfl⟩;clear k)
   | (refine ((qb l) _).mono ?_;rintro a b ⟨rfl,rfl⟩;clear l)
   | (refine ((qb m) _).mono ?_;rintro a b ⟨rfl,rfl⟩;clear m)
   | (refine ((qb n) _).mono ?_;rintro a b ⟨rfl,rfl⟩;clear n)
   | (refine ((qb o) _).mono ?_;rintro a b ⟨rfl,rfl⟩;clear o)
   | (refine ((qb p) _).mono ?_;rintro a b ⟨rfl,rfl⟩;clear p))
 all_goals go_ret
 all_goals refine⟨by first | rfl | simp_all,?_⟩
 all_goals repeat (first | exact aa _ _ | refine cP ?_ (zzl _) _)
end
section
attribute [local go_sem ↓] Go.wp_at_zero Go.wp_at_succ
def Qx:∀ (b:List hJ)(a:Nat)(c:hJ)(f g:Value),b[a]?=some c->((qG b).set (a*4+3) g).set (a*4+1) f=qG (b.set a ⟨c.there,f,c.cr,g⟩)
 | [],a,c,_,_,d=>by simp at d
 | e::b,0,c,_,_,d=>by
  simp at d;subst d;rfl
 | e::b,a+1,c,f,g,d=>by
  have l:=Qx b a c f g (by simpa using d);show _=zK e++qG (b.set a _);rw[<-l];have k:∀ (h:List Value)(i:Nat)(j:Value),(zK e++h).set ((a+1)*4+i) j=zK e++h.set (a*4+i) j:=fun h i j=>by
   rw[bG _ _ (by simp[zK];omega)];congr 2
   simp[zK];omega
  show ((zK e++qG b).set _ _).set _ _=_;rw[k,k]
def Xm {h:List hJ}(k:jR w n i E h)(d:Int)(m:Option Addr)(b o:Nat)(q:b<=17592186044416)(j:(jt h d&&gz b 1 20)=false):Calls Tryz.prog 24 #[.pointer (some ⟨n,0,none⟩),.int .i64 d,.slice m b o] w fun e f=>e=.returned (.int .i64 3)/\f=w:=by
 have g:=qg (v6 k d);clear k;obtain⟨p,l⟩:=zx (jt h d);rw[<-l] at j g;clear l;cases p with
 | false=>
  go_enter Tryz.func24,Tryz.ntmps24;go_wp2_with (go_at_call 44;refine (qb g).mono ?_;rintro e f ⟨rfl,a⟩;have c:=a.symm;clear a;subst c)
  go_ret;exact⟨rfl,rfl⟩
 | true=>
  have r:(decide ((1:Int)<=(b:Int))&&decide ((b:Int)<=(20:Int)))=false:=(by simpa[gz] using j);clear j;go_enter Tryz.func24,Tryz.ntmps24;go_wp2_with (first | (go_at_call 44;refine (qb g).mono ?_;rintro e f ⟨rfl,a⟩;have c:=a.symm;clear a;subst c;clear g) | (go_at_call 55;refine (qZ _ _ _ _).mono ?_;rintro e f ⟨rfl,a⟩;have c:=a.symm;clear a;subst c))
  go_ret;exact⟨rfl,rfl⟩
end
section
attribute [local go_sem ↓] Go.wp_at_zero Go.wp_at_succ
def jp:hJ:=⟨false,.slice none 0 0,0,.slice none 0 0⟩
def Yv:(Tryz.prog.info? 123).map (fun a=>(a.zero,a.size,a.bytes))=some (some (.agg #[.bool false,.slice none 0 0,.int .i64 0,.slice none 0 0]),4,64):=by kernel_rfl
def Vq (a:Nat):madeCells #[.bool false,.slice none 0 0,.int .i64 0,.slice none 0 0] (a*4)=(qG (List.replicate a jp)).toArray:=by
 apply fx;apply bh;intro b;by_cases f:b<a*4
 ·obtain⟨d,c,g,h⟩:∃ d c,b=d*4+c/\c<4:=⟨b/4,b%4,by omega,by omega⟩;have i:d<a:=(by omega);have e:=jC (List.replicate a jp) d jp (by simp[i]);have j:(madeCells #[.bool false,.slice none 0 0,.int .i64 0,.slice none 0 0] (a*4)).toList[b]?=some ((#[Value.bool false,.slice none 0 0,.int .i64 0,.slice none 0 0]:Array Value)[b%4]!):=(by simp[madeCells,f]);rw[j];subst g;have k:(d*4+c)%4=c:=(by omega);rw[k]
  match c,h with
  | 0,_=>exact e.1.symm
  | 1,_=>exact e.2.1.symm
  | 2,_=>exact e.2.2.1.symm
  | 3,_=>exact e.2.2.2.symm
 ·have l:(qG (List.replicate a jp)).length=a*4:=(by rw[qa8];simp);rw[aI (by simp[size_madeCells];omega),aI (by simp;omega)]
def QR (a:Nat)(i:a<=1000)(b:World):(Instr.makeSlice 114 (.int .i64 (a:Int)) (.int .i64 (a:Int))).run Tryz.prog b=.ok (.slice (some ⟨b.heap.size,0,none⟩) a a) (b.alloc (.cells (qG (List.replicate a jp)).toArray 123)):=by
 obtain⟨d,e,f,g,h⟩:=aZ Yv;have c:=fQ (P:=Tryz.prog) b 114 123 d _ Tryz.underlying114 e f .i64 .i64 (a:Int) (a:Int) (by omega) (co _) (by rw[h];omega) (by omega);simp only[bF,g] at c;rw[<-Vq];simpa[Value.cells] using c
def qa6 (c:hg)(a:World)(d:jU c=false):Calls Tryz.prog 38 #[vF c] a fun b g=>b=.returned (.tuple #[.pointer none,.int .i64 2])/\Below a.heap.size a g:=by
 obtain⟨h,i,j,b,k,l,m,n⟩:=c;have e:=fun a=>by
  have:=yA ⟨h,i,j,b,k,l,m,n⟩ a;rw[d] at this;exact this
 unfold vF;simp only;clear d;go_enter Tryz.func38,Tryz.ntmps38;go_wp2_with fail
 refine ((qb e) _).mono ?_;rintro b p ⟨rfl,f⟩;have o:=qg (((aa _ a).alloc (zzl _) _).trans (f.mono (by simp)));clear f e;go_wp2;go_ret2
 exact⟨rfl,qb o⟩
end
end Go.Proofs.YtbnbkjbfpamijaaGreat
