import Derived.Test.YtbnbkjbfpamijaaGreatAae
set_option linter.all false
set_option maxRecDepth 100000
set_option maxHeartbeats 0
namespace Go.Proofs.YtbnbkjbfpamijaaGreat
open Go.RowKit Go.Proofs.Panes
variable{S U:Nat→Prop}{w:World}{g j n:Nat}{q:Int}{l':List gv}{z:Value}{a0:List Ke}{a8:Int→Int→Nat}{a9:Int→Int→Value}{s':gv}
def yt (a b c d e f:Int)(g:Value)(h:Int):Value:=.agg #[.int .i64 a,.int .i64 b,.int .i64 c,.int .i64 d,.int .i64 e,.int .i64 f,g,.int .i64 h]
abbrev ix (a:World)(b c:Int)(d e f g h i:Int)(j:Value)(k:Int):World:=(a.alloc (.cells #[.int .i64 b,.int .i64 c] 173)).alloc (.cells #[.int .i64 d,.int .i64 e,.int .i64 f,.int .i64 g,.int .i64 h,.int .i64 i,j,.int .i64 k] 52)
def zL (a:World)(c d:Int)(e f g h i j:Int)(k:Value)(l:Int)(b:Nat):Below a.heap.size a ((ix a c d e f g h i j k l).drewN b):=ax (((aa _ a).alloc (zzl _) _).alloc (by simp) _) b
def kY (a:World)(b c:Int)(d e f g h i:Int)(j:Value)(k:Int)(l:Nat):((ix a b c d e f g h i j k).drewN l).heap[a.heap.size]?=some (.cells #[.int .i64 b,.int .i64 c] 173):=qx (qt a _ _ rfl) _
def Qz (a:World)(j k:Int)(b c d e f g:Int)(h:Value)(i:Int)(l:Nat):((ix a j k b c d e f g h i).drewN l).heap[a.heap.size+1]?=some (.cells #[.int .i64 b,.int .i64 c,.int .i64 d,.int .i64 e,.int .i64 f,.int .i64 g,h,.int .i64 i] 52):=qt _ _ _ (by simp)
def qw7 (h:gX S U w n q l' j z a0 g a8 a9)(H:∀ k,S k->¬U k)(s:s'∈l')(l m b c mk:Int)(d:Option Addr)(e f:Nat)(t:List Int)(I:gS U w (.slice d e f) t):Calls Tryz.prog 111 #[.pointer (some ⟨n,0,none⟩),zZ s'.cl s'.num,yt 3 s'.num l m b c (.slice d e f) mk] w fun o J=>o=.returned (.bool true)/\(∃ M,gX S U J n q (xr l' {s' with w:=b,h:=c,px:=t}) j z a0 g a8 M)/\gp S w J:=by
 obtain⟨N,-⟩:=zzc h.tP.nS;have Z:=qh h.tP.nS;have x:=(h.iV s' s).1;obtain⟨a,y⟩:=zx (a8 s'.cl s'.num);rw[<-y] at x;have O:=qh x;have P:∀ r,(Instr.lookup 174 (.map (some j)) (.agg #[.int .i64 s'.cl,.int .i64 s'.num]) false).run Tryz.prog ((ix w s'.cl s'.num 3 s'.num l m b c (.slice d e f) mk).drewN r)=.ok (.pointer (some ⟨a,0,none⟩)) ((ix w s'.cl s'.num 3 s'.num l m b c (.slice d e f) mk).drewN r):=fun r=>by
  have:=zn (w:=(ix w s'.cl s'.num 3 s'.num l m b c (.slice d e f) mk).drewN r) (((zL w s'.cl s'.num 3 s'.num l m b c (.slice d e f) mk r).block _ (qh h.tP.map)).trans h.tP.map) s'.cl s'.num;rw[h.tS s,<-y] at this;exact this
 have K:=qg h;have Q:=qg x;have A:=qg y;unfold zZ yt;clear h x y;go_enter Tryz.func111,Tryz.ntmps111;go_wp2;go_quiet (fail);go_wp2;obtain⟨B,C⟩:=zx ((ix w s'.cl s'.num 3 s'.num l m b c (.slice d e f) mk).drewN nq);rw[<-C];have E:Below w.heap.size w B:=(by rw[C];exact zL _ _ _ _ _ _ _ _ _ _ _ _);have F:=Qz w s'.cl s'.num 3 s'.num l m b c (.slice d e f) mk nq;rw[<-C] at F;have D:yL B a s' (a9 s'.cl s'.num):=(E.block _ O).trans (qb Q);obtain⟨a1,a2,a3,-⟩:=zzk F 4;obtain⟨-,-,a4,a5,a6,-⟩:=zzc D;have a7:=fun R=>qj D R;have b0:¬a=w.heap.size+1:=(by omega);have T:=qg D;have V:=qg E;clear P E F D C N;have W:=qg I;clear I;go_region;all_goals
  simp only[Exit.then];go_simp;go_wp2;go_ret;have G:gp (fun k=>k=a8 s'.cl s'.num) w (((B.setCell ⟨a,2,none⟩ (.int .i64 b)).setCell ⟨a,3,none⟩ (.int .i64 c)).setCell ⟨a,4,none⟩ (.slice d e f)):=((gp.aD (qb V)).setCell (p:=⟨a,2,none⟩) (.inl (qb A)) _ |>.setCell (p:=⟨a,3,none⟩) (.inl (qb A)) _).setCell (p:=⟨a,4,none⟩) (.inl (qb A)) _;have X:yL (((B.setCell ⟨a,2,none⟩ (.int .i64 b)).setCell ⟨a,3,none⟩ (.int .i64 c)).setCell ⟨a,4,none⟩ (.slice d e f)) a {s' with w:=b,h:=c,px:=t} (.slice d e f):=qp (i:=4) (qp (i:=3) (qp (i:=2) (qb T) _) _) _;have L:=((qb K).iV s' s).2.1;refine⟨rfl,⟨_,(qb K).upd (u:={s' with w:=b,h:=c,px:=t}) (v:=.slice d e f) H s rfl G.drew (by rw[<-qb A];exact X) (((qb W).but G (fun k Y o=>H k (by rw[o];exact L) Y)).below (ax (aa _ _) 1))⟩,(G.wide (fun k _ o=>by rw[o];exact L)).drew⟩
def qw3 (e:gX S U w n q l' j z a0 g a8 a9)(H:∀ m,S m->¬U m)(o:s'∈l')(a b c f mk:Int)(h:Option Addr)(k l:Nat):Calls Tryz.prog 111 #[.pointer (some ⟨n,0,none⟩),zZ s'.cl s'.num,yt 7 s'.num a b c f (.slice h k l) mk] w fun r I=>r=.returned (.bool false)/\(∃ L,gX S U I n q (xr l' {s' with dx:=a,dy:=b,left:=c}) j z a0 g a8 L)/\gp S w I:=by
 obtain⟨M,-⟩:=zzc e.tP.nS;have X:=qh e.tP.nS;have t:=(e.iV s' o).1;obtain⟨d,x⟩:=zx (a8 s'.cl s'.num);rw[<-x] at t;have N:=qh t;have O:∀ s,(Instr.lookup 174 (.map (some j)) (.agg #[.int .i64 s'.cl,.int .i64 s'.num]) false).run Tryz.prog ((ix w s'.cl s'.num 7 s'.num a b c f (.slice h k l) mk).drewN s)=.ok (.pointer (some ⟨d,0,none⟩)) ((ix w s'.cl s'.num 7 s'.num a b c f (.slice h k l) mk).drewN s):=fun s=>by
  have:=zn (w:=(ix w s'.cl s'.num 7 s'.num a b c f (.slice h k l) mk).drewN s) (((zL w s'.cl s'.num 7 s'.num a b c f (.slice h k l) mk s).block _ (qh e.tP.map)).trans e.tP.map) s'.cl s'.num;rw[e.tS o,<-x] at this;exact this
 have D:=qg e;have P:=qg t;have y:=qg x;unfold zZ yt;clear e t x;go_enter Tryz.func111,Tryz.ntmps111;go_wp2;go_quiet (fail);obtain⟨A,B⟩:=zx ((ix w s'.cl s'.num 7 s'.num a b c f (.slice h k l) mk).drewN nq);rw[<-B];have E:Below w.heap.size w A:=(by rw[B];exact zL _ _ _ _ _ _ _ _ _ _ _ _);have F:=Qz w s'.cl s'.num 7 s'.num a b c f (.slice h k l) mk nq;have J:=kY w s'.cl s'.num 7 s'.num a b c f (.slice h k l) mk nq;rw[<-B] at F J;have C:yL A d s' (a9 s'.cl s'.num):=(E.block _ N).trans (qb P);obtain⟨Y,-,Z,a1,a2,-⟩:=zzc F;obtain⟨a3,a4,a5,-⟩:=zzk C 5;have a6:=fun Q=>qj C Q;have a7:¬d=w.heap.size+1:=(by omega);have R:=qg C;have T:=qg E;clear O E F C J B M;go_wp2;go_ret;have G:gp (fun m=>m=a8 s'.cl s'.num) w (((A.setCell ⟨d,5,none⟩ (.int .i64 a)).setCell ⟨d,6,none⟩ (.int .i64 b)).setCell ⟨d,7,none⟩ (.int .i64 c)):=((gp.aD (qb T)).setCell (p:=⟨d,5,none⟩) (.inl (qb y)) _ |>.setCell (p:=⟨d,6,none⟩) (.inl (qb y)) _).setCell (p:=⟨d,7,none⟩) (.inl (qb y)) _;have V:yL (((A.setCell ⟨d,5,none⟩ (.int .i64 a)).setCell ⟨d,6,none⟩ (.int .i64 b)).setCell ⟨d,7,none⟩ (.int .i64 c)) d {s' with dx:=a,dy:=b,left:=c} (a9 s'.cl s'.num):=qp (i:=7) (qp (i:=6) (qp (i:=5) (qb R) _) _) _;have K:=((qb D).iV s' o).2.1;refine⟨rfl,⟨_,(qb D).upd (u:={s' with dx:=a,dy:=b,left:=c}) (v:=a9 s'.cl s'.num) H o rfl G (by rw[<-qb y];exact V) (((qb D).iV s' o).2.2.but G (fun m W r=>H m (by rw[r];exact K) W))⟩,G.wide (fun m _ r=>by rw[r];exact K)⟩
def qw6 (d:gX S U w n q l' j z a0 g a8 a9)(J:∀ e,S e->¬U e)(r:s'∈l')(a b f h mk:Int)(k:Option Addr)(l m:Nat):Calls Tryz.prog 111 #[.pointer (some ⟨n,0,none⟩),zZ s'.cl s'.num,yt 4 s'.num a b f h (.slice k l m) mk] w fun o K=>o=.returned (.bool (!(s'.x == a&&s'.y == b)))/\(∃ Q,gX S U K n q (xr l' {s' with x:=a,y:=b,dx:=0,dy:=0,left:=0}) j z a0 g a8 Q)/\gp S w K:=by
 obtain⟨a7,C⟩:=zx (!(s'.x == a&&s'.y == b));rw[<-C];have R:=qg C;clear C;obtain⟨T,-⟩:=zzc d.tP.nS;have b0:=qh d.tP.nS;have x:=(d.iV s' r).1;obtain⟨c,y⟩:=zx (a8 s'.cl s'.num);rw[<-y] at x;have V:=qh x;have W:∀ s,(Instr.lookup 174 (.map (some j)) (.agg #[.int .i64 s'.cl,.int .i64 s'.num]) false).run Tryz.prog ((ix w s'.cl s'.num 4 s'.num a b f h (.slice k l m) mk).drewN s)=.ok (.pointer (some ⟨c,0,none⟩)) ((ix w s'.cl s'.num 4 s'.num a b f h (.slice k l m) mk).drewN s):=fun s=>by
  have:=zn (w:=(ix w s'.cl s'.num 4 s'.num a b f h (.slice k l m) mk).drewN s) (((zL w s'.cl s'.num 4 s'.num a b f h (.slice k l m) mk s).block _ (qh d.tP.map)).trans d.tP.map) s'.cl s'.num;rw[d.tS r,<-y] at this;exact this
 have D:=qg d;have X:=qg x;have t:=qg y;unfold zZ yt;clear d x y;go_enter Tryz.func111,Tryz.ntmps111;go_wp2;go_quiet (fail);obtain⟨E,A⟩:=zx ((ix w s'.cl s'.num 4 s'.num a b f h (.slice k l m) mk).drewN nq);rw[<-A];have F:Below w.heap.size w E:=(by rw[A];exact zL _ _ _ _ _ _ _ _ _ _ _ _);have G:=Qz w s'.cl s'.num 4 s'.num a b f h (.slice k l m) mk nq;have L:=kY w s'.cl s'.num 4 s'.num a b f h (.slice k l m) mk nq;rw[<-A] at G L;have B:yL E c s' (a9 s'.cl s'.num):=(F.block _ V).trans (qb X);obtain⟨b1,-,b2,b3,-⟩:=zzc G;obtain⟨b4,b5,b6,-⟩:=zzk B 5;have b7:=fun Y=>qj B Y;have b8:¬c=w.heap.size+1:=(by omega);have M:yL (((E.setCell ⟨c,5,none⟩ (.int .i64 0)).setCell ⟨c,6,none⟩ (.int .i64 0)).setCell ⟨c,7,none⟩ (.int .i64 0)) c {s' with dx:=0,dy:=0,left:=0} (a9 s'.cl s'.num):=qp (i:=7) (qp (i:=6) (qp (i:=5) B _) _) _;have Z:=qg (Xy M a b);have a1:=qg F;clear W F G B M L A T;go_wp2_with (go_at_call 133;refine (qb Z).mono ?_;rintro o a2 ⟨H,N,O⟩;have H:=H.trans (congrArg (fun a3=>Ending.returned (.bool a3)) (qb R).symm);subst H;have a4:=qg N;have a5:=qg O;clear N O);go_ret;have I:gp (fun e=>e=a8 s'.cl s'.num) w a2:=(((gp.aD (qb a1)).setCell (p:=⟨c,5,none⟩) (.inl (qb t)) _ |>.setCell (p:=⟨c,6,none⟩) (.inl (qb t)) _).setCell (p:=⟨c,7,none⟩) (.inl (qb t)) _).trans ((qb a5).wide (fun e _ o=>by rw[o];exact qb t));have P:=((qb D).iV s' r).2.1;refine⟨rfl,⟨_,(qb D).upd (u:={s' with x:=a,y:=b,dx:=0,dy:=0,left:=0}) (v:=a9 s'.cl s'.num) J r rfl I (by rw[<-qb t];exact qb a4) (((qb D).iV s' r).2.2.but I (fun e a6 o=>J e (by rw[o];exact P) a6))⟩,I.wide (fun e _ o=>by rw[o];exact P)⟩
variable{b i:Nat}{v:Value}{u:gv}
def qw5 (c:gX S U w n q l' i v a0 j a8 a9)(N:∀ k,S k->¬U k)(O:∀ k,S k->k<w.heap.size)(P:l'.length<=1000)(y:l'[g]?=some u)(Q:b=l'.length-1)(e f a h mk:Int)(l:Option Addr)(m o:Nat):Calls Tryz.prog 111 #[.pointer (some ⟨n,0,none⟩),zZ u.cl u.num,yt 5 u.num e f a h (.slice l m o) mk] w fun r d=>r=.returned (.bool (!((g:Int) == (b:Int))))/\gX S U d n q (vy l' g b u) i v a0 j a8 a9/\gp S w d:=by
 have I:=zzn y;have R:=(zzg y).1;obtain⟨T,J,-⟩:=zzc c.tP.nS;have V:=qh c.tP.nS;have z:=(c.iV u I).1;obtain⟨W,A⟩:=zx (a8 u.cl u.num);rw[<-A] at z;have b0:=qh z;obtain⟨X,Y,B⟩:=qr c.row;rw[ak] at B;have Z:∀ p,(Instr.lookup 174 (.map (some i)) (.agg #[.int .i64 u.cl,.int .i64 u.num]) false).run Tryz.prog ((ix w u.cl u.num 5 u.num e f a h (.slice l m o) mk).drewN p)=.ok (.pointer (some ⟨W,0,none⟩)) ((ix w u.cl u.num 5 u.num e f a h (.slice l m o) mk).drewN p):=fun p=>by
  have:=zn (w:=(ix w u.cl u.num 5 u.num e f a h (.slice l m o) mk).drewN p) (((zL w u.cl u.num 5 u.num e f a h (.slice l m o) mk p).block _ (qh c.tP.map)).trans c.tP.map) u.cl u.num;rw[c.tS I,<-A] at this;exact this
 have C:Hid (∀ a,Below w.heap.size w a->Calls Tryz.prog 134 #[.pointer (some ⟨n,0,none⟩),.agg #[.int .i64 u.cl,.int .i64 u.num],.int .i64 (IntKind.i64.wrap ((l'.length:Int)-1))] a fun r d=>r=.returned (.bool (!((g:Int) == (b:Int))))/\gX S U d n q (vy l' g b u) i v a0 j a8 a9/\gp S a d):=fun a a1=>by
  have:=qe3 (c.below a1) N y b (by omega) P;rw[show (IntKind.i64.wrap ((l'.length:Int)-1))=(b:Int) by rw[af];omega];exact this
 obtain⟨a2,s⟩:=zx l'.length;rw[<-s] at B;rw[<-s] at C;subst B;obtain⟨b1,K⟩:=zx (!((g:Int) == (b:Int)));rw[<-K] at C ⊢;have b2:=qg s;unfold zZ yt;clear c z A s K Q R;go_enter Tryz.func111,Tryz.ntmps111;go_wp2;go_quiet (fail);obtain⟨D,t⟩:=zx ((ix w u.cl u.num 5 u.num e f a h (.slice l m o) mk).drewN nq);rw[<-t];have E:Below w.heap.size w D:=(by rw[t];exact zL _ _ _ _ _ _ _ _ _ _ _ _);have F:=Qz w u.cl u.num 5 u.num e f a h (.slice l m o) mk nq;have x:=kY w u.cl u.num 5 u.num e f a h (.slice l m o) mk nq;rw[<-t] at F x;obtain⟨b3,-⟩:=zzc F;obtain⟨b4,b5,-⟩:=zzc x;have b6:=(E.cell V).trans J;have L:=qg E;have a3:=qg x;clear Z E F x t T J;go_wp2;go_region_held3 (fun d=>d.cell? ⟨n,1,none⟩=some (.slice X a2 Y)/\d.cell? ⟨w.heap.size,0,none⟩=some (.int .i64 u.cl)/\d.cell? ⟨w.heap.size,1,none⟩=some (.int .i64 u.num))
  (first | (refine⟨?_,?_,?_⟩<;>assumption) | go_keep)
  ((go_at_call 134;refine ((qb C) D.drew (qb L).drew).mono ?_;rintro r b7 ⟨a4,G,H⟩;subst a4;have M:=H.heap (w:=D.drew) (qb a3) (fun a5=>Nat.lt_irrefl _ (O _ a5));obtain⟨-,b8,-⟩:=zzc G.tP.nS;obtain⟨b9,c0,-⟩:=zzc M;have a6:=qg G;have a7:=qg H;clear G H M))
 all_goals
  simp only[Exit.then];go_simp;go_wp2;go_ret;exact⟨rfl,qb a6,(gp.aD ((qb L).drew)).trans (qb a7)⟩
def qw4 (c:gX S U w n q l' i v a0 j a8 a9)(M:∀ k,S k->¬U k)(a1:∀ k,S k->k<w.heap.size)(N:l'.length<=1000)(x:l'[g]?=some u)(O:b=0)(d e a f mk:Int)(h:Option Addr)(l m:Nat):Calls Tryz.prog 111 #[.pointer (some ⟨n,0,none⟩),zZ u.cl u.num,yt 6 u.num d e a f (.slice h l m) mk] w fun r o=>r=.returned (.bool (!((g:Int) == (b:Int))))/\gX S U o n q (vy l' g b u) i v a0 j a8 a9/\gp S w o:=by
 have E:=zzn x;have P:=(zzg x).1;obtain⟨Q,F,-⟩:=zzc c.tP.nS;have R:=qh c.tP.nS;have y:=(c.iV u E).1;obtain⟨T,z⟩:=zx (a8 u.cl u.num);rw[<-z] at y;have a2:=qh y;obtain⟨a3,a4,A⟩:=qr c.row;rw[ak] at A;have V:∀ p,(Instr.lookup 174 (.map (some i)) (.agg #[.int .i64 u.cl,.int .i64 u.num]) false).run Tryz.prog ((ix w u.cl u.num 6 u.num d e a f (.slice h l m) mk).drewN p)=.ok (.pointer (some ⟨T,0,none⟩)) ((ix w u.cl u.num 6 u.num d e a f (.slice h l m) mk).drewN p):=fun p=>by
  have:=zn (w:=(ix w u.cl u.num 6 u.num d e a f (.slice h l m) mk).drewN p) (((zL w u.cl u.num 6 u.num d e a f (.slice h l m) mk p).block _ (qh c.tP.map)).trans c.tP.map) u.cl u.num;rw[c.tS E,<-z] at this;exact this
 have G:Hid (∀ a,Below w.heap.size w a->Calls Tryz.prog 134 #[.pointer (some ⟨n,0,none⟩),.agg #[.int .i64 u.cl,.int .i64 u.num],.int .i64 (0:Int)] a fun r o=>r=.returned (.bool (!((g:Int) == (b:Int))))/\gX S U o n q (vy l' g b u) i v a0 j a8 a9/\gp S a o):=fun a W=>by
  have:=qe3 (c.below W) M x b (by omega) N;rw[show (0:Int)=(b:Int) by omega];exact this
 obtain⟨a5,B⟩:=zx l'.length;rw[<-B] at A;subst A;obtain⟨a6,H⟩:=zx (!((g:Int) == (b:Int)));rw[<-H] at G ⊢;have a7:=qg B;unfold zZ yt;clear c y z B H O P;go_enter Tryz.func111,Tryz.ntmps111;go_wp2;go_quiet (fail);obtain⟨I,s⟩:=zx ((ix w u.cl u.num 6 u.num d e a f (.slice h l m) mk).drewN nq);rw[<-s];have C:Below w.heap.size w I:=(by rw[s];exact zL _ _ _ _ _ _ _ _ _ _ _ _);have D:=Qz w u.cl u.num 6 u.num d e a f (.slice h l m) mk nq;have t:=kY w u.cl u.num 6 u.num d e a f (.slice h l m) mk nq;rw[<-s] at D t;obtain⟨b0,-⟩:=zzc D;obtain⟨b1,b2,-⟩:=zzc t;have b3:=(C.cell R).trans F;have J:=qg C;have b4:=qg t;clear V C D t s Q F;go_wp2_with (go_at_call 134;refine ((qb G) I (qb J)).mono ?_;rintro r b5 ⟨X,K,L⟩;subst X;have Y:=qg K;have Z:=qg L;clear K L);go_ret;exact⟨rfl,qb Y,(gp.aD (qb J)).trans (qb Z)⟩
variable{P:Program}{F:Array Oper}{p:Oper}{s:Act}{b3:Act→World→Prop}{D:Exit→Act→World→Prop}{b2:Prop}{o':Obj}
def ZP (i:p.guard=none)(a b:Operand)(c d:TypeId)(j:p.op=Op.call {callee:=Callee.builtin Builtin.delete,args:=#[a,b],argTypes:=#[c,d]})(e f g:Value) (h:World) (k:s.eval a=e) (l:s.eval b=f) (m:∀ ty,(Builtin.delete_ #[c,d] ty #[e,f]).run P w=.ok g h) (n:b3 (s.put p.dst g) h):if Region.wanted p (yielded F s.tmps)=true then Oper.wp P p s w b3 D else b2:=by
 have o:Region.wanted p (yielded F s.tmps)=true:=(by simp[Region.wanted,i]);rw[an o];unfold Oper.wp;simp[execOp,j,resolve,invoke,builtin,k,l,m,Result.andThen];exact n
def zS (i:p.guard=none)(b c:Operand)(a d:TypeId)(j:p.op=Op.call {callee:=Callee.builtin Builtin.append,args:=#[b,c],argTypes:=#[a,a]})(k:p.type=d)(e f g:Value) (h:World) (l:s.eval b=e) (m:s.eval c=f) (n:(Builtin.append_ #[a,a] d #[e,f]).run P w=.ok g h) (o:b3 (s.put p.dst g) h):if Region.wanted p (yielded F s.tmps)=true then Oper.wp P p s w b3 D else b2:=by
 have q:Region.wanted p (yielded F s.tmps)=true:=(by simp[Region.wanted,i]);rw[an q];unfold Oper.wp;simp[execOp,j,k,resolve,invoke,builtin,l,m,n,Result.andThen];exact o
def Vp {b:Obj}(c:w.heap[n]?=some b):({w with heap:=w.heap.setIfInBounds n o'}:World).heap[n]?=some o'/\gp (fun a=>a=n) w {w with heap:=w.heap.setIfInBounds n o'}:=by
 have d:=qh c;refine⟨by simp[d],⟨rfl,rfl,rfl,by simp,fun a _ e=>?_⟩⟩;simp only[gn];rw[ah (fun f=>e f.symm)]
def qw8 (c:gX S U w n q l' i v a0 j a8 a9)(c2:∀ a,S a->¬U a)(c3:∀ a,S a->a<w.heap.size)(f0:l'.length<=1000)(J:u∈l')(f g e h mk:Int)(k:Option Addr)(l m:Nat):Calls Tryz.prog 111 #[.pointer (some ⟨n,0,none⟩),zZ u.cl u.num,yt 2 u.num f g e h (.slice k l m) mk] w fun b a2=>b=.returned (.bool true)/\(∃ c4 c5,gX S U a2 n q (yT l' u.cl u.num) i c4 c5 j a8 a9)/\gp S w a2:=by
 obtain⟨a3,c6,-⟩:=zzc c.tP.nS;have c7:=qh c.tP.nS;have c8:=qh c.tP.map;have K:=(c.iV u J).1;obtain⟨c9,L⟩:=zx (a8 u.cl u.num);rw[<-L] at K;have f1:=qh K;have a4:=c.uW;have d0:∀ r,(Instr.lookup 174 (.map (some i)) (.agg #[.int .i64 u.cl,.int .i64 u.num]) false).run Tryz.prog ((ix w u.cl u.num 2 u.num f g e h (.slice k l m) mk).drewN r)=.ok (.pointer (some ⟨c9,0,none⟩)) ((ix w u.cl u.num 2 u.num f g e h (.slice k l m) mk).drewN r):=fun r=>by
  have:=zn (w:=(ix w u.cl u.num 2 u.num f g e h (.slice k l m) mk).drewN r) (((zL w u.cl u.num 2 u.num f g e h (.slice k l m) mk r).block _ (qh c.tP.map)).trans c.tP.map) u.cl u.num;rw[c.tS J,<-L] at this;exact this
 obtain⟨B,a5,b,a6,a7⟩:=c.some J;obtain⟨M,N,O⟩:=qr c.row;rw[ak] at O;obtain⟨P,Q⟩:=zx l'.length;rw[<-Q] at O;subst O;obtain⟨s,C⟩:=zx (l'.map qw);have b0:(l'.map fun u=>k2 (qw u))=s.map k2:=(by rw[C,cB];rfl);have hF:(yT l' u.cl u.num).map (fun u=>k2 (qw u))=(s.filter fun a=>!(a.1 == u.cl&&a.2 == u.num)).map k2:=(by have b1:=congrArg (List.map k2) (yk l' u.cl u.num);rw[cB] at b1;refine Eq.trans (show _=_ from rfl) (b1.trans ?_);rw[<-C];refine congrArg (List.map k2) (fV fun a _=>?_);rw[cC];obtain⟨d1,k2⟩:=a;by_cases b2:d1=u.cl<;>simp[b2]);have d:=qg c;have f2:=qg Q;have d2:=qg hF;have d3:=qg b0;have d4:=qg C;have d5:=qg a5;have d6:=qg a6;have d7:=qg a7;unfold zZ yt;clear c K L Q hF b0 C a5 a6 a7;go_enter Tryz.func111,Tryz.ntmps111;go_wp2;go_quiet (fail);obtain⟨o,D⟩:=zx ((ix w u.cl u.num 2 u.num f g e h (.slice k l m) mk).drewN nq);rw[<-D];have t:Below w.heap.size w o:=(by rw[D];exact zL _ _ _ _ _ _ _ _ _ _ _ _);have R:=Qz w u.cl u.num 2 u.num f g e h (.slice k l m) mk nq;have E:=kY w u.cl u.num 2 u.num f g e h (.slice k l m) mk nq;rw[<-D] at R E;obtain⟨f3,-⟩:=zzc R;obtain⟨f4,f5,-⟩:=zzc E;have f6:=(t.cell c7).trans a3;have T:=(t.block _ c8).trans (qb d).tP.map;obtain⟨F,V⟩:∃ F:World,F={o.drew with heap:=o.drew.heap.setIfInBounds i (.map ((a0.eraseIdx B).map ke).toArray j)}:=⟨_,rfl⟩;have b3:∀ W,(Builtin.delete_ #[174,173] W #[.map (some i),.agg #[.int .i64 u.cl,.int .i64 u.num]]).run Tryz.prog o.drew=.ok (.tuple #[]) F:=fun W=>by
  rw[V];exact Jn (w:=o.drew) T u.cl u.num B _ (qb d5) W
 obtain⟨X,G⟩:=Vp (w:=o.drew) (o':=.map ((a0.eraseIdx B).map ke).toArray j) T;rw[<-V] at X G;have H:=(gp.aD t.drew).trans G;have b4:=G.heap (w:=o.drew) E (by omega);have Y:=H.heap (qb d).tP.nS a4;have b5:qN F 0 173 (.slice M P N) (s.map k2):=(by rw[<-qb d3];exact qi (qb d).row H (fun a x b=>(qb d).uC (by rw[x,b])));obtain⟨-,f7,-⟩:=zzc Y;have d8:=qg (qk2 b5 (by rw[qb d4,ak];omega) (fun a=>a.1 == u.cl&&a.2 == u.num) w.heap.size (fun e a d9=>qw9 (d9.heap b4 (fun b=>by have:=c3 _ ((qb d).tO _ b);omega)) a) _ rfl);have e0:=qg b3;have f8:=qg t;have e1:=qg X;have e2:=qg H;have e3:=qg Y;clear d0 t R E D a3 c6 T b3 G V X H Y b5 b4;go_wp2;go_region_law (refine ZP (by kernel_rfl) (.tmp 45) (.tmp 46) 174 173 (by kernel_rfl) (.map (some i)) (.agg #[.int .i64 u.cl,.int .i64 u.num]) _ _ (by kernel_rfl) (by kernel_rfl) (qb e0) ?_);all_goals
  simp only[Exit.then];go_simp;go_wp2_with (go_at_call 131;refine (qb d8).mono ?_;rintro b y ⟨⟨f9,rfl,Z,b6⟩,a1⟩;obtain⟨z,A,b7⟩:=qr Z;obtain⟨m3,b8⟩:∃ m3,m3=(List.map k2 (List.filter (fun a=>!(a.1 == u.cl&&a.2 == u.num)) s)).length:=⟨_,rfl⟩;rw[<-b8] at b7;clear b8;have I:=a1.heap (qb e3) (qb d).uA;have b2:y.cell? ⟨n,1,none⟩=some (.slice M P N):=qe I 1;have g0:=fun e4=>qj I e4;have e5:=qg Z;have b9:=qg b6;have e6:=qg I;have c0:=qg a1;clear Z b6 I a1;subst b7);go_ret;have e7:=qp (i:=1) (qb e6) (.slice z m3 A);have e8:qN (y.setCell ⟨n,1,none⟩ (.slice z m3 A)) 0 173 (.slice z m3 A) (List.map k2 (List.filter (fun a=>!(a.1 == u.cl&&a.2 == u.num)) s)):=qi (qb e5) ((gp.refl (fun a=>a=n) y).setCell (p:=⟨n,1,none⟩) (.inl rfl) _) (fun a x b=>(qb d).uA (by rw[<-qb b9,x,b]));have c1:gp (fun a=>a=n\/a=i\/(Value.slice M P N).ownBlock=some a) w (y.setCell ⟨n,1,none⟩ (.slice z m3 A)):=(((qb e2).wide (fun a _ b=>.inr (.inl b))).trans ((qb c0).wide (fun a _ b=>.inr (.inr b)))).setCell (p:=⟨n,1,none⟩) (.inl (.inl rfl)) _;have e9:(y.setCell ⟨n,1,none⟩ (.slice z m3 A)).heap[i]?=some (.map ((a0.eraseIdx B).map ke).toArray j):=qu ((qb c0).heap (qb e1) (qb d).uC) (fun b=>a4 b.symm) _;refine⟨rfl,⟨_,_,(qb d).less (qb d6) (qb d7) (fun _ c=>c) c1 (fun _ c=>c) c2 e7 e9 (by rw[qb d2];exact e8) (fun a x=>(qb d).tO a (by rw[<-qb b9];exact x))⟩,c1.wide ?_⟩;rintro a _ (b | b | b)
  ·rw[b];exact (qb d).uz
  ·rw[b];exact (qb d).uK
  ·exact (qb d).tO _ b
variable{V:Nat→Prop}
def ql9 (f:gX U V w n q l' j z a0 g a8 a9)(e4:∀ b,U b->¬V b)(e5:∀ b,U b->b<w.heap.size)(j4:l'.length<=1000)(c a:Int)(a5:(c,a)∉l'.map qw)(h k B C mk:Int)(D:Option Addr)(E F:Nat):Calls Tryz.prog 111 #[.pointer (some ⟨n,0,none⟩),zZ c a,yt 1 a h k B C (.slice D E F) mk] w fun d x=>d=.returned (.bool false)/\(∃ e6 e7 e8 e9 f0,gX (grow U w x) V x n q (l'++[⟨c,a,h,k,0,0,[],0,0,0⟩]) j e6 e7 e8 e9 f0)/\gp U w x:=by
 obtain⟨c0,f1,-⟩:=zzc f.tP.nS;have f2:=qh f.tP.nS;have f3:=qh f.tP.map;have c1:=f.uW;have f4:∀ o,(Instr.lookup 174 (.map (some j)) (.agg #[.int .i64 c,.int .i64 a]) false).run Tryz.prog ((ix w c a 1 a h k B C (.slice D E F) mk).drewN o)=.ok (.pointer none) ((ix w c a 1 a h k B C (.slice D E F) mk).drewN o):=fun o=>by
  have:=zn (w:=(ix w c a 1 a h k B C (.slice D E F) mk).drewN o) (((zL w c a 1 a h k B C (.slice D E F) mk o).block _ (qh f.tP.map)).trans f.tP.map) c a;rw[f.uR a5] at this;exact this
 obtain⟨I,J,a6⟩:=qr f.row;rw[ak] at a6;obtain⟨K,a7⟩:=zx l'.length;rw[<-a7] at a6;subst a6;have c3:=f.none a5;have r:=qg f;have j5:=qg a7;have f5:=qg c3;unfold zZ yt;clear f a7 c3;go_enter Tryz.func111,Tryz.ntmps111;go_wp2;go_quiet (fail);obtain⟨l,Z⟩:=zx ((ix w c a 1 a h k B C (.slice D E F) mk).drewN nq);rw[<-Z];have R:Below w.heap.size w l:=(by rw[Z];exact zL _ _ _ _ _ _ _ _ _ _ _ _);have T:=Qz w c a 1 a h k B C (.slice D E F) mk nq;have W:=kY w c a 1 a h k B C (.slice D E F) mk nq;rw[<-Z] at T W;obtain⟨j6,-,j7,j8,-⟩:=zzc T;obtain⟨j9,k0,-⟩:=zzc W;have k1:=(R.cell f2).trans c0;have c4:=(R.block _ f3).trans (qb r).tP.map;obtain⟨y,O⟩:∃ y:World,y=(l.alloc (.cells #[.int .i64 h,.int .i64 k,.int .i64 0,.int .i64 0,.slice none 0 0,.int .i64 0,.int .i64 0,.int .i64 0] 236)).drew:=⟨_,rfl⟩;have b0:y.heap[j]?=some (.map (a0.map ke).toArray g):=(by rw[O];exact qx c4 _);obtain⟨e,a1⟩:∃ e:World,e={y with heap:=y.heap.setIfInBounds j (.map ((a0++[Ke.mk c a (.pointer (some ⟨l.heap.size,0,none⟩)) g]).map ke).toArray (g+1))}:=⟨_,rfl⟩;have b1:=Jl b0 c a (.pointer (some ⟨l.heap.size,0,none⟩)) (qb f5);rw[<-a1,O] at b1;unfold zZ at b1;have f6:=qh W;have f7:=qh T;have a2:Below l.heap.size l y:=(by rw[O];exact ((aa _ l).alloc (zzl _) _).drew);obtain⟨b2,Q⟩:=Vp (w:=y) (o':=.map ((a0++[Ke.mk c a (.pointer (some ⟨l.heap.size,0,none⟩)) g]).map ke).toArray (g+1)) b0;rw[<-a1] at b2 Q;have c5:y.heap[l.heap.size]?=some (.cells #[.int .i64 h,.int .i64 k,.int .i64 0,.int .i64 0,.slice none 0 0,.int .i64 0,.int .i64 0,.int .i64 0] 236 (0,0)):=(by rw[O];exact qt l _ _ rfl);have c6:=Q.heap c5 (by omega);have b3:=Q.heap ((a2.block _ f6).trans W) (by omega);have c7:=Q.heap ((a2.block _ f7).trans T) (by omega);have b4:=((gp.aD R).trans (.aD a2)).trans Q;have X:=b4.heap (qb r).tP.nS c1;obtain⟨k3,-⟩:=zzc X;obtain⟨k4,k5,-⟩:=zzc b3;obtain⟨-,-,k6,k7,-⟩:=zzc c7;obtain⟨-,f8,-⟩:=zzc X;have b5:e.heap.size=l.heap.size+1:=(by have:y.heap.size=l.heap.size+1:=(by rw[O];simp);rw[a1];simp[this]);have k8:=fun b6=>qj X b6;have f9:=qg R;have g0:=qg c6;have g1:=qg b2;have b7:=qg b4;have b8:=qg X;have g2:=qg b5;have g3:=qg b3;clear f4 R T W Z c0 f1 c4 O a1 b0 b2 a2 Q c5 c6 b3 c7 b4 X b5;go_wp2;go_region_held3 (fun x=>x.cell? ⟨n,0,none⟩=some (.map (some j))/\x.cell? ⟨w.heap.size,0,none⟩=some (.int .i64 c)/\x.cell? ⟨w.heap.size,1,none⟩=some (.int .i64 a)/\x.cell? ⟨w.heap.size+1,2,none⟩=some (.int .i64 h)/\x.cell? ⟨w.heap.size+1,3,none⟩=some (.int .i64 k))
  (first | (refine⟨?_,?_,?_,?_,?_⟩<;>assumption) | go_keep)
  (fail)
 simp only[Exit.then];go_simp;go_wp2;obtain⟨L,a3⟩:∃ L:World,L=(e.alloc (.cells #[.int .i64 c,.int .i64 a] 173)).drew:=⟨_,rfl⟩;have A:Below e.heap.size e L:=(by rw[a3];exact ((aa _ e).alloc (zzl _) _).drew);have c8:L.heap[e.heap.size]?=some (.cells #[.int .i64 c,.int .i64 a] 173):=(by rw[a3];exact qt e _ _ rfl);have b9:qN e 0 173 (.slice I K J) (l'.map fun m=>k2 (qw m)):=qi (qb r).row (qb b7) (fun b s d=>(qb r).uC (by rw[s,d]));have c9:qN L 0 173 (.slice I K J) (l'.map fun m=>k2 (qw m)):=qi b9 (S:=fun _=>False) (.aD A) (fun _ _ f=>f);obtain⟨g4,d0,d1,d2,d3⟩:=aZ QW;obtain⟨k9,M,d4,N,d5,_,d6⟩:=cE (P:=Tryz.prog) (w:=L) 0 170 170 173 g4 _ 2 16 Tryz.underlying170 d0 d1 d2 d3 rfl (by decide) (.slice I K J) _ _ c9 ⟨e.heap.size,0,none⟩ 1 1 [.int .i64 c,.int .i64 a] rfl (xT c8) (by simp[Value.oneCell']) (by simp;simp only[maxLen];omega) (by simp;omega) (aj _);obtain⟨t,G,d7⟩:=jH N (by omega);obtain⟨m5,Y⟩:=zx ((l'.map fun m=>k2 (qw m)).length+1);rw[<-Y] at d7 N;subst d7;have d8:=fun b s=>(ab b9 b s).2;have d9:=(A.block _ (qh (qb b8))).trans (qb b8);have H:gp (fun b=>(Value.slice I K J).ownBlock=some b) L M:=.tJ d5 (fun b d=>d);have a4:=H.heap d9 (qb r).uA;obtain⟨-,l0,-⟩:=zzc a4;have l1:=fun b6=>qj a4 b6;have g5:=qg d4;have g6:=qg N;have e0:=qg d6;have g7:=qg a4;have g8:=qg H;have g9:=qg A;have l2:=qg a3;have i0:=qg Y;have l3:=qg d8;clear A c8 b9 c9 d0 d1 d2 d3 d4 N d5 d6 d9 H a4 Y b1 d8;subst a3;have i1:=qh (qb b8);have l4:=qh (qb g3);have l5:(e.alloc (.cells #[.int .i64 c,.int .i64 a] 173)).cell? ⟨n,1,none⟩=some (.slice I K J):=((aa e.heap.size e).alloc (zzl _) _).cell i1 |>.trans f8;go_region_law (refine zS (by kernel_rfl) (.tmp 34) (.tmp 36) 170 170 (by kernel_rfl) (by kernel_rfl) (.slice I K J) (.slice (some ⟨e.heap.size,0,none⟩) 1 1) _ _ (by kernel_rfl) (by kernel_rfl) (qb g5) ?_);all_goals
  simp only[Exit.inBlock,Exit.then];go_simp;go_wp2;go_ret;refine⟨rfl,?_⟩;have A:=qb g9;have H:=qb g8;have e1:=(qb f9).size;have l6:=(qb b7).size;have b5:=qb g2;have l7:=A.size;have l8:=H.size;have i2:j<e.heap.size:=(by omega);have i3:l.heap.size<e.heap.size:=(by omega);have i4:=fun b s=>e5 b ((qb r).tO b s);have i5:=H.heap ((A.block _ i2).trans (qb g1)) (qb r).uC;have i6:=H.heap ((A.block _ i3).trans (qb g0)) (fun d=>by have:=i4 _ d;omega);have i7:c2 (l'.map fun m=>k2 (qw m))++[.int .i64 c,.int .i64 a]=c2 ((l'++[(⟨c,a,h,k,0,0,[],0,0,0⟩:gv)]).map fun m=>k2 (qw m)):=(by rw[aE,zs];rfl);have Y:m5=((l'++[(⟨c,a,h,k,0,0,[],0,0,0⟩:gv)]).map fun m=>k2 (qw m)).length:=(by rw[qb i0];simp);have N:qN M 0 173 (.slice (some ⟨t,0,none⟩) m5 G) ((l'++[(⟨c,a,h,k,0,0,[],0,0,0⟩:gv)]).map fun m=>k2 (qw m)):=(by have:=qb g6;rw[i7] at this;rw[qN,<-Y];exact this);have i8:¬t=n:=fun d=>by
   rcases qb e0 with o | o
   ·exact (qb r).uA (by rw[<-o,<-d];rfl)
   ·have:t=(e.alloc (.cells #[.int .i64 c,.int .i64 a] 173)).drew.heap.size:=(by have:=o;simp only[Value.ownBlock,ac] at this;exact this);rw[d] at this;omega
  have i9:qN (M.setCell ⟨n,1,none⟩ (.slice (some ⟨t,0,none⟩) m5 G)) 0 173 (.slice (some ⟨t,0,none⟩) m5 G) ((l'++[(⟨c,a,h,k,0,0,[],0,0,0⟩:gv)]).map fun m=>k2 (qw m)):=qi N ((gp.refl (fun b=>b=n) M).setCell (p:=⟨n,1,none⟩) (.inl rfl) _) (fun b s d=>by cases s;exact i8 d);have j0:=qp (i:=1) (qb g7) (.slice (some ⟨t,0,none⟩) m5 G);have j1:=qu i5 (p:=⟨n,1,none⟩) (fun d=>c1 d.symm) (.slice (some ⟨t,0,none⟩) m5 G);have j2:=qu i6 (p:=⟨n,1,none⟩) (by show l.heap.size≠n;omega) (.slice (some ⟨t,0,none⟩) m5 G);have e2:gp (fun b=>b=n\/b=j\/(Value.slice I K J).ownBlock=some b) w (M.setCell ⟨n,1,none⟩ (.slice (some ⟨t,0,none⟩) m5 G)):=((((qb b7).wide (fun b _ d=>.inr (.inl d))).trans (.aD A)).trans (H.wide (fun b _ d=>.inr (.inr d)))).setCell (p:=⟨n,1,none⟩) (.inl (.inl rfl)) _;have e3:(M.setCell ⟨n,1,none⟩ (.slice (some ⟨t,0,none⟩) m5 G)).heap.size=M.heap.size:=(by simp[World.setCell]);refine⟨⟨_,_,_,_,_,(qb r).more (u:=⟨c,a,h,k,0,0,[],0,0,0⟩) (v:=.slice none 0 0) (nb:=l.heap.size) a5 xn (.inr ⟨e1,by rw[e3];omega⟩) e1 e2 (fun _ f=>f) e4 j0 j1 i9 ?_ j2 ⟨none,0,rfl,zzl _,aj _,fun f=>absurd rfl f⟩⟩,e2.wide ?_⟩
  ·intro b s;rcases qb e0 with o | o
   ·exact .inl ((qb r).tO b (by rw[<-o];exact s))
   ·have j3:=(ab N b s).2;have:b=(e.alloc (.cells #[.int .i64 c,.int .i64 a] 173)).drew.heap.size:=(by rw[s] at o;exact aA o);exact .inr ⟨by rw[this];omega,by rw[e3];exact j3⟩
  ·rintro b _ (d | d | d)
   ·rw[d];exact (qb r).uz
   ·rw[d];exact (qb r).uK
   ·exact (qb r).tO _ d
def Xg (a b:Rc):Bool:=a.x == b.x&&a.y == b.y&&a.w == b.w&&a.h == b.h
def Jm (a b:Rc)(c:World):(Op.equal 46 (yQ a) (yQ b)).run Tryz.prog c=.ok (Xg a b) c:=by
 unfold yQ Op.equal Xg;rw[show Op.maxDepth=9999+1 from rfl,run_equalIn_struct c 9999 46 _ _ (by kernel_rfl) (by kernel_rfl)];go_simp;by_cases d:a.x=b.x<;>by_cases e:a.y=b.y<;>by_cases f:a.w=b.w<;>by_cases g:a.h=b.h<;>simp[d,e,f,g]
def QH (a b:Rc)(c:World):(binOp .eql 46 (yQ a) (yQ b)).run Tryz.prog c=.ok (.bool (Xg a b)) c:=by
 have:=Jm a b c;unfold yQ at this ⊢;simp only[binOp];simp[this]
def xu (a b:Nat->Prop)(c:World)(d:Nat)(e:Int)(f:List gv):Prop:=∃ g h i j k l,gX a b c d e f g h i j k l
def xu.but {a b S:Nat->Prop}{d e:World}{f:Nat}{g:Int}{h:List gv}(c:xu a b d f g h)(i:gp S d e)(j:∀ k,a k->¬S k)(l:∀ k,b k->¬S k):xu a b e f g h:=by
 obtain⟨m,n,o,p,q,r,c⟩:=c;exact⟨m,n,o,p,q,r,c.but i j l⟩
def xu.mono {b c d e:Nat->Prop}{f:World}{g:Nat}{h:Int}{i:List gv}(a:xu b c f g h i)(j:∀ k,b k->d k)(l:∀ k,c k->e k):xu d e f g h i:=by
 obtain⟨m,n,o,p,q,r,a⟩:=a;exact⟨m,n,o,p,q,r,a.mono j l⟩
def xu.below {c U:Nat->Prop}{a d:World}{e:Nat}{f:Int}{g:List gv}(b:xu c U a e f g)(h:Below a.heap.size a d):xu c U d e f g:=by
 obtain⟨i,j,k,l,m,n,b⟩:=b;exact⟨i,j,k,l,m,n,b.below h⟩
def xu.nd {c d:Nat->Prop}{e:World}{f:Nat}{g:Int}{b:List gv}(a:xu c d e f g b):(b.map qw).Nodup:=by
 obtain⟨h,i,j,k,l,m,a⟩:=a;exact a.nd
def zi (b:List gv)(c:Int)(a:gt):List gv×Bool:=
 if a.kind=1 then (b++[⟨c,a.iV,a.x,a.y,0,0,[],0,0,0⟩],false)
 else match b[b.findIdx (gN c a.iV)]? with
  | none=>(b,false)
  | some d=>
   if a.kind=2 then (yT b c a.iV,true)
   else if a.kind=3 then (xr b {d with w:=a.w,h:=a.h,px:=a.px},true)
   else if a.kind=4 then (xr b {d with x:=a.x,y:=a.y,dx:=0,dy:=0,left:=0},!(d.x == a.x&&d.y == a.y))
   else if a.kind=5 then (vy b (b.findIdx (gN c a.iV)) (b.length-1) d,!decide (b.findIdx (gN c a.iV)=b.length-1))
   else if a.kind=6 then (vy b (b.findIdx (gN c a.iV)) 0 d,!decide (b.findIdx (gN c a.iV)=0))
   else (xr b {d with dx:=a.x,dy:=a.y,left:=a.w},false)
def ZS (b:List gv)(c:Int)(a:gt):Prop:=(a.kind=1/\(c,a.iV)∉b.map qw)\/((2<=a.kind/\a.kind<=7)/\(c,a.iV)∈b.map qw)
def xC {l:List gv}{c n:Int}(d:(c,n)∈l.map qw):∃ a,l[l.findIdx (gN c n)]?=some a/\a.cl=c/\a.num=n:=by
 obtain⟨a,e,f⟩:=aC.1 d;have b:=List.findIdx_lt_length_of_exists ⟨a,e,ju.2 f⟩;have g:=List.findIdx_getElem (w:=b);have:=ju.1 g;simp only[qw,bP] at this;exact⟨_,aB b,this.1,this.2⟩
def qs2 (a b:Nat):(!((a:Int) == (b:Int)))=!decide (a=b):=by
 by_cases c:a=b
 ·simp[c]
 ·have:¬(a:Int)=(b:Int):=(by omega);simp[c,this]
def ZI (a:gt)(b:Value):Value:=yt a.kind a.iV a.x a.y a.w a.h b a.mark
def qb3 (a:xu S U w n q l')(i:∀ k,S k->¬U k)(u:∀ k,S k->k<w.heap.size)(v:l'.length<=1000)(t:Int)(j:gt)(c:Option Addr)(d e:Nat)(z:gS U w (.slice c d e) j.px)(A:ZS l' t j):Calls Tryz.prog 111 #[.pointer (some ⟨n,0,none⟩),zZ t j.iV,ZI j (.slice c d e)] w fun r h=>r=.returned (.bool (zi l' t j).2)/\xu (grow S w h) U h n q (zi l' t j).1/\gp S w h:=by
 obtain⟨J,K,L,M,N,O,a⟩:=a;obtain⟨s,B,l,m,o,p,C,mk⟩:=j;rcases A with ⟨x,D⟩ | ⟨x,E⟩
 ·simp only at x;subst x;refine (ql9 a i u v t B D l m o p mk c d e).mono ?_;rintro r h ⟨rfl,⟨F,G,P,Q,H,f⟩,g⟩;exact⟨by simp[zi],⟨_,_,_,_,_,_,f⟩,g⟩
 ·obtain⟨R,b,rfl,rfl⟩:=xC E;simp only at x b z;have y:=zzn b;have T:=(zzg b).1;have I:s=2\/s=3\/s=4\/s=5\/s=6\/s=7:=(by omega);rcases I with rfl | rfl | rfl | rfl | rfl | rfl
  ·refine (qw8 a i u v y l m o p mk c d e).mono ?_;rintro r h ⟨rfl,⟨F,G,f⟩,g⟩;exact⟨by simp[zi,b],⟨_,_,_,_,_,_,by simp only[zi,b];exact f.mono xn (fun _ a=>a)⟩,g⟩
  focus
   refine (qw7 a i y l m o p mk c d e C z).mono ?_
  rotate_left
  focus
   refine (qw6 a i y l m o p mk c d e).mono ?_
  rotate_left
  ·refine (qw5 a i u v b rfl l m o p mk c d e).mono ?_;rintro r h ⟨rfl,f,g⟩;exact⟨by rw[qs2];simp[zi,b],⟨_,_,_,_,_,_,by simp only[zi,b];exact f.mono xn (fun _ a=>a)⟩,g⟩
  ·refine (qw4 a i u v b rfl l m o p mk c d e).mono ?_;rintro r h ⟨rfl,f,g⟩;exact⟨by rw[qs2];simp[zi,b],⟨_,_,_,_,_,_,by simp only[zi,b];exact f.mono xn (fun _ a=>a)⟩,g⟩
  focus
   refine (qw3 a i y l m o p mk c d e).mono ?_
  rotate_left
  all_goals
   rintro r h ⟨rfl,⟨H,f⟩,g⟩;exact⟨by simp[zi,b],⟨_,_,_,_,_,_,by simp only[zi,b];exact f.mono xn (fun _ a=>a)⟩,g⟩
def zc7 (l:xu S U w n q l')(s:∀ k,S k->¬U k)(t:∀ k,S k->k<w.heap.size)(u:l'.length<=1000)(b:Int)(a:gt)(e:Option Addr)(f h:Nat)(m:gS U w (.slice e f h) a.px)(o:ZS l' b a)(h1:w.heap[i]?=some (.cells #[.pointer (some ⟨n,0,none⟩)] 105)) (h2:w.heap[j]?=some (.cells #[.int .i64 b,.int .i64 a.iV] 173)) (h3:w.heap[g]?=some (.cells #[.int .i64 a.kind,.int .i64 a.iV,.int .i64 a.x,.int .i64 a.y,.int .i64 a.w,.int .i64 a.h,.slice e f h,.int .i64 a.mark] 52)):Calls Tryz.prog 110 #[.pointer (some ⟨i,0,none⟩),.pointer (some ⟨j,0,none⟩),.pointer (some ⟨g,0,none⟩)] w fun p c=>p=.returned (.bool (zi l' b a).2)/\xu (grow S w c) U c n q (zi l' b a).1/\gp S w c:=by
 have d:=qb3 l s t u b a e f h m o;unfold ZI yt zZ at d;obtain⟨z,r⟩:=zx ((zi l' b a).2);rw[<-r] at d ⊢;have v:=qg d;obtain⟨A,-⟩:=zzc h1;obtain⟨B,C,-⟩:=zzc h2;obtain⟨D,E,F,G,H,I,J,K,-⟩:=zzc h3;clear d r l m o h1 h2 h3;go_enter Tryz.func110,Tryz.ntmps110;go_wp2_with (go_at_call 111;refine (qb v).mono ?_;rintro p c ⟨rfl,h1,h2⟩;have x:=qg h1;have y:=qg h2;clear h1 h2);go_ret;exact⟨rfl,qb x,qb y⟩
variable{b9 m w2:World}{l:List Rc}{a5:List gv}
structure Gr (C C':Nat->Prop)(w w':World):Prop where
 uH:∀ k,C k->C' k
 new:∀ k,C' k->C k\/(w.heap.size<=k/\k<w'.heap.size)
def Gr.refl (b:Nat->Prop)(c d:World):Gr b b c d:=⟨fun _ a=>a,fun _ a=>.inl a⟩
def Gr.grow (b:Nat->Prop)(c d:World):Gr b (grow b c d) c d:=⟨fun _ a=>.inl a,fun _ a=>a⟩
def Gr.trans (e:Gr S U w w2)(f:Gr U V w2 m)(g:w.heap.size<=w2.heap.size)(h:w2.heap.size<=m.heap.size):Gr S V w m:=
 ⟨fun a b=>f.uH a (e.uH a b),fun a b=>by
  rcases f.new a b with c | c
  ·rcases e.new a c with d | d
   ·exact .inl d
   ·exact .inr ⟨d.1,by omega⟩
  ·exact .inr ⟨by omega,c.2⟩⟩
def Gr.wide (a:Gr S U w w2)(e:m.heap.size<=w.heap.size)(f:w2.heap.size<=b9.heap.size):Gr S U m b9:=
 ⟨a.uH,fun c d=>by
  rcases a.new c d with b | b
  ·exact .inl b
  ·exact .inr ⟨by omega,by omega⟩⟩
def Gr.lt (c:Gr S U w w2)(d:∀ a,S a->a<w.heap.size)(f:w.heap.size<=w2.heap.size):∀ a,U a->a<w2.heap.size:=fun a e=>by
 rcases c.new a e with b | b
 ·have:=d a b;omega
 ·exact b.2
def Gr.apart (d:Gr S U w w2)(e:∀ a,S a->¬V a)(f:∀ a,V a->a<w.heap.size):∀ a,U a->¬V a:=fun a g b=>by
 rcases d.new a g with c | c
 ·exact e a c b
 ·have:=f a b;omega
def vd (c:Bool)(a b:Rc):List Rc:=if c=false then [] else if Xg b a=true then [a] else [a,b]
def kN (a:w.heap[n]?=some (.cells (qK l).toArray 46 (0,0)))(b:i<=n)(c:l.length<=maxLen):gw w i (.slice (some ⟨n,0,none⟩) l.length l.length) l:=
 ⟨qM l,.inr ⟨n,l.length,_,rfl,b,a,zzl _,c,by simp[qM],by rw[dI,aL (by rw[qM];exact zzl _)]⟩⟩
def ql4 (x:xu S U w n q a5)(y:∀ e,S e->e<w.heap.size)(f g:Int)(D:Bool)(J K L:Nat)(M:∀ c,Below w.heap.size w c->Calls Tryz.prog 110 #[.pointer (some ⟨J,0,none⟩),.pointer (some ⟨K,0,none⟩),.pointer (some ⟨L,0,none⟩)] c fun h i=>h=.returned (.bool D)/\xu (grow S c i) U i n q l'/\gp S c i):Calls Tryz.prog 109 #[.pointer (some ⟨n,0,none⟩),zZ f g,.func (.func 110) #[] #[.pointer (some ⟨J,0,none⟩),.pointer (some ⟨K,0,none⟩),.pointer (some ⟨L,0,none⟩)]] w fun h i=>(∃ E p,h=.returned E/\Gr S p w i/\xu p U i n q l'/\gw i w.heap.size E (vd D (jW a5 f g) (jW l' f g))/\∀ e,E.ownBlock=some e->¬p e)/\gp S w i:=by
 have z:Hid (∀ c,Below w.heap.size w c->Calls Tryz.prog 130 #[.pointer (some ⟨n,0,none⟩),.agg #[.int .i64 f,.int .i64 g]] c fun h i=>h=.returned (yQ (jW a5 f g))/\Below c.heap.size c i):=fun c A=>by
  obtain⟨X,Y,Z,a0,a1,a2,x⟩:=x;exact (x.below A).covered f g
 have F:Hid (∀ c p,xu p U c n q l'->Calls Tryz.prog 130 #[.pointer (some ⟨n,0,none⟩),.agg #[.int .i64 f,.int .i64 g]] c fun h i=>h=.returned (yQ (jW l' f g))/\Below c.heap.size c i):=fun c p G=>by
  obtain⟨X,Y,Z,a0,a1,a2,G⟩:=G;exact G.covered f g
 obtain⟨a,N⟩:=zx (jW a5 f g);obtain⟨b,A⟩:=zx (jW l' f g);rw[<-N] at z ⊢;rw[<-A] at F ⊢;unfold yQ at z F;have O:=qg M;unfold zZ;clear x M N A;cases D with
 | false=>
  go_enter Tryz.func109,Tryz.ntmps109
  go_wp2_with (first
    | (go_at_call 130;refine ((qb z) _ ((aa _ w).alloc (zzl _) _)).mono ?_;rintro h B ⟨rfl,r⟩;have t:=((aa _ w).alloc (zzl _) _).trans (r.mono (by simp));have j:=qg t;clear r t)
    | (go_at_call 110;refine ((qb O) _ ((qb j).alloc (qb j).size _)).mono ?_;rintro h k ⟨rfl,u,l⟩;have v:=qg u;have s:=qg l;clear u l))
  go_ret;have a3:=((gp.aD (qb j)).alloc _).trans (qb s);have a4:=(qb j).size;have P:=(qb s).size;refine⟨⟨_,_,rfl,(Gr.grow _ _ _).wide (by simp;omega) (zzl _),qb v,?_,fun e m=>by simp[Value.ownBlock] at m⟩,a3⟩;exact⟨rfl,.inl ⟨rfl,rfl⟩⟩
 | true=>
  go_enter Tryz.func109,Tryz.ntmps109;have a7:∀ c,(binOp .eql 46 (.agg #[.int .i64 b.x,.int .i64 b.y,.int .i64 b.w,.int .i64 b.h]) (.agg #[.int .i64 a.x,.int .i64 a.y,.int .i64 a.w,.int .i64 a.h])).run Tryz.prog c=.ok (.bool (Xg b a)) c:=fun c=>QH b a c
  go_wp2_with (first
    | (go_at_call 110;refine ((qb O) _ ((qb j).alloc (qb j).size _)).mono ?_;rintro h k ⟨rfl,u,l⟩;have Q:=l.heap (qx (qb a6) _) (fun d=>Nat.lt_irrefl _ (y _ d));have hA2:k.heap[B.heap.size]?=some (.cells #[.int .i64 a.x,.int .i64 a.y,.int .i64 a.w,.int .i64 a.h] 46):=l.heap (qt B _ _ rfl) (fun d=>by have:=y _ d;have:=(qb j).size;omega);obtain⟨a8,a9,-⟩:=zzc Q;have v:=qg u;have s:=qg l;have R:=qg hA2;clear u l hA2 Q)
    | (go_at_call 130
       first
         | (refine ((qb F) k _ (qb v)).mono ?_;rintro h C ⟨rfl,H⟩;have hA3:=(H.block _ (qh (qb R))).trans (qb R);obtain⟨u0,u1,u2,u3,-⟩:=zzc hA3;have b0:=qh hA3;have I:=qg H;clear H hA3)
         | (refine ((qb z) _ ((aa _ w).alloc (zzl _) _)).mono ?_;rintro h B ⟨rfl,r⟩;have t:=((aa _ w).alloc (zzl _) _).trans (r.mono (by simp));have T:B.heap[w.heap.size]?=some (.cells #[.int .i64 f,.int .i64 g] 173):=(r.block _ (by simp)).trans (qt w _ _ rfl);have j:=qg t;have a6:=qg T;clear r t T)))
  all_goals
   rename_i V;go_ret;have a4:=(qb j).size;have P:=(qb s).size;have W:=(qb I).size;simp only[World.size_alloc] at P
  ·have o:Below k.heap.size k ((C.alloc (.cells #[.int .i64 b.x,.int .i64 b.y,.int .i64 b.w,.int .i64 b.h] 46)).alloc (.cells #[.int .i64 a.x,.int .i64 a.y,.int .i64 a.w,.int .i64 a.h] 46)):=((qb I).alloc W _).alloc (by simp;omega) _;refine⟨⟨_,_,rfl,(Gr.grow S _ k).wide (by simp;omega) o.size,(qb v).below o,?_,?_⟩,(((gp.aD (qb j)).alloc _).trans (qb s)).trans (.aD o)⟩
   ·rw[show vd true a b=[a] by simp[vd,V]];exact kN (l:=[a]) (qt _ _ _ (by simp)) (by omega) (by simp[maxLen])
   ·intro e m d;have m:C.heap.size+1=e:=aA m;rcases d with d | d
    ·have:=y e d;omega
    ·omega
  ·have o:Below k.heap.size k ((C.alloc (.cells #[.int .i64 b.x,.int .i64 b.y,.int .i64 b.w,.int .i64 b.h] 46)).alloc (.cells #[.int .i64 a.x,.int .i64 a.y,.int .i64 a.w,.int .i64 a.h,.int .i64 b.x,.int .i64 b.y,.int .i64 b.w,.int .i64 b.h] 46)):=((qb I).alloc W _).alloc (by simp;omega) _;refine⟨⟨_,_,rfl,(Gr.grow S _ k).wide (by simp;omega) o.size,(qb v).below o,?_,?_⟩,(((gp.aD (qb j)).alloc _).trans (qb s)).trans (.aD o)⟩
   ·rw[show vd true a b=[a,b] by simp[vd,V]];exact kN (l:=[a,b]) (qt _ _ _ (by simp)) (by omega) (by simp[maxLen])
   ·intro e m d;have m:C.heap.size+1=e:=aA m;rcases d with d | d
    ·have:=y e d;omega
    ·omega
def ql3 {C:Nat->Prop}{sb:Nat}(A:∀ k,C k->k<w.heap.size)(r s:Int)(u:Bool)(B:Nat)(a b:Rc)(m:World->Prop)(D:∀ c W',m c->Below c.heap.size c W'->m W')(E:∀ c,Below w.heap.size w c->Calls Tryz.prog 130 #[.pointer (some ⟨sb,0,none⟩),zZ r s] c fun d f=>d=.returned (yQ a)/\Below c.heap.size c f)(F:∀ c,m c->Calls Tryz.prog 130 #[.pointer (some ⟨sb,0,none⟩),zZ r s] c fun d f=>d=.returned (yQ b)/\Below c.heap.size c f)(G:∀ c,Below w.heap.size w c->Calls Tryz.prog 113 #[.pointer (some ⟨B,0,none⟩)] c fun d f=>d=.returned (.bool u)/\m f/\gp C c f):Calls Tryz.prog 109 #[.pointer (some ⟨sb,0,none⟩),zZ r s,.func (.func 113) #[.pointer (some ⟨B,0,none⟩)] #[]] w fun d f=>(∃ H,d=.returned H/\m f/\gw f w.heap.size H (vd u a b))/\gp C w f:=by
 have v:=qg E;have I:=qg F;have J:=qg D;unfold yQ zZ at v I;have K:=qg G;clear E F G D;unfold zZ;cases u with
 | false=>
  go_enter Tryz.func109,Tryz.ntmps109
  go_wp2_with (first
    | (go_at_call 130;refine ((qb v) _ ((aa _ w).alloc (zzl _) _)).mono ?_;rintro d t ⟨rfl,i⟩;have n:=((aa _ w).alloc (zzl _) _).trans (i.mono (by simp));have e:=qg n;clear i n)
    | (go_at_call 113;refine ((qb K) _ ((qb e).alloc (qb e).size _)).mono ?_;rintro d g ⟨rfl,o,h⟩;have p:=qg o;have j:=qg h;clear o h))
  go_ret;have S:=((gp.aD (qb e)).alloc _).trans (qb j);have T:=(qb e).size;have L:=(qb j).size;refine⟨⟨_,rfl,qb p,?_⟩,S⟩;exact⟨rfl,.inl ⟨rfl,rfl⟩⟩
 | true=>
  go_enter Tryz.func109,Tryz.ntmps109;have V:∀ c,(binOp .eql 46 (.agg #[.int .i64 b.x,.int .i64 b.y,.int .i64 b.w,.int .i64 b.h]) (.agg #[.int .i64 a.x,.int .i64 a.y,.int .i64 a.w,.int .i64 a.h])).run Tryz.prog c=.ok (.bool (Xg b a)) c:=fun c=>QH b a c
  go_wp2_with (first
    | (go_at_call 113;refine ((qb K) _ ((qb e).alloc (qb e).size _)).mono ?_;rintro d g ⟨rfl,o,h⟩;have M:=h.heap (qx (qb U) _) (fun x=>Nat.lt_irrefl _ (A _ x));have hA2:g.heap[t.heap.size]?=some (.cells #[.int .i64 a.x,.int .i64 a.y,.int .i64 a.w,.int .i64 a.h] 46):=h.heap (qt t _ _ rfl) (fun x=>by have:=A _ x;have:=(qb e).size;omega);obtain⟨W,X,-⟩:=zzc M;have p:=qg o;have j:=qg h;have N:=qg hA2;clear o h hA2 M)
    | (go_at_call 130
       first
         | (refine ((qb I) g (qb p)).mono ?_;rintro d O ⟨rfl,y⟩;have hA3:=(y.block _ (qh (qb N))).trans (qb N);obtain⟨u0,u1,u2,u3,-⟩:=zzc hA3;have Y:=qh hA3;have z:=qg y;clear y hA3)
         | (refine ((qb v) _ ((aa _ w).alloc (zzl _) _)).mono ?_;rintro d t ⟨rfl,i⟩;have n:=((aa _ w).alloc (zzl _) _).trans (i.mono (by simp));have P:t.heap[w.heap.size]?=some (.cells #[.int .i64 r,.int .i64 s] 173):=(i.block _ (by simp)).trans (qt w _ _ rfl);have e:=qg n;have U:=qg P;clear i n P)))
  all_goals
   rename_i Q;go_ret;have T:=(qb e).size;have L:=(qb j).size;have R:=(qb z).size;simp only[World.size_alloc] at L
  ·have q:Below g.heap.size g ((O.alloc (.cells #[.int .i64 b.x,.int .i64 b.y,.int .i64 b.w,.int .i64 b.h] 46)).alloc (.cells #[.int .i64 a.x,.int .i64 a.y,.int .i64 a.w,.int .i64 a.h] 46)):=((qb z).alloc R _).alloc (by simp;omega) _;refine⟨⟨_,rfl,(qb J) _ _ (qb p) q,?_⟩,(((gp.aD (qb e)).alloc _).trans (qb j)).trans (.aD q)⟩
   ·rw[show vd true a b=[a] by simp[vd,Q]];exact kN (l:=[a]) (qt _ _ _ (by simp)) (by omega) (by simp[maxLen])
  ·have q:Below g.heap.size g ((O.alloc (.cells #[.int .i64 b.x,.int .i64 b.y,.int .i64 b.w,.int .i64 b.h] 46)).alloc (.cells #[.int .i64 a.x,.int .i64 a.y,.int .i64 a.w,.int .i64 a.h,.int .i64 b.x,.int .i64 b.y,.int .i64 b.w,.int .i64 b.h] 46)):=((qb z).alloc R _).alloc (by simp;omega) _;refine⟨⟨_,rfl,(qb J) _ _ (qb p) q,?_⟩,(((gp.aD (qb e)).alloc _).trans (qb j)).trans (.aD q)⟩
   ·rw[show vd true a b=[a,b] by simp[vd,Q]];exact kN (l:=[a,b]) (qt _ _ _ (by simp)) (by omega) (by simp[maxLen])
def yh (c:List gv)(a:Int)(b:gt):List Rc:=vd (zi c a b).2 (jW c a b.iV) (jW (zi c a b).1 a b.iV)
def xK (e g:Nat->Prop)(b:World)(h:Nat)(i:Int)(j:List gv)(rs:List Rc)(k:Ending)(a:World):Prop:=(∃ c d,k=.returned c/\Gr e d b a/\xu d g a h i j/\gw a b.heap.size c rs/\∀ f,c.ownBlock=some f->¬d f)/\gp e b a
def xK.from {rs:List Rc}{b:Ending}(c:xK S U w2 n q l' rs b m)(a:Below w.heap.size w w2):xK S U w n q l' rs b m:=by
 obtain⟨⟨d,e,f,g,h,i,j⟩,k⟩:=c;exact⟨⟨d,e,f,g.wide a.size (zzl _),h,i.mono a.size,j⟩,(gp.aD a).trans k⟩
def qz1 (l:xu S U w n q a5)(D:∀ c,S c->¬U c)(t:∀ c,S c->c<w.heap.size)(E:a5.length<=1000)(b:Int)(a:gt)(h:Option Addr)(i j:Nat)(u:gS U w (.slice h i j) a.px)(v:ZS a5 b a):Calls Tryz.prog 76 #[.pointer (some ⟨n,0,none⟩),.int .i64 b,ZI a (.slice h i j)] w (xK S U w n q (zi a5 b a).1 (yh a5 b a)):=by
 obtain⟨d,f⟩:∃ d:World,d=((w.alloc (.cells #[.pointer (some ⟨n,0,none⟩)] 105)).alloc (.cells #[.int .i64 a.kind,.int .i64 a.iV,.int .i64 a.x,.int .i64 a.y,.int .i64 a.w,.int .i64 a.h,.slice h i j,.int .i64 a.mark] 52)).alloc (.cells #[.int .i64 b,.int .i64 a.iV] 173):=⟨_,rfl⟩;have e:Below w.heap.size w d:=(by rw[f];exact (((aa _ w).alloc (zzl _) _).alloc (by simp) _).alloc (by simp;omega) _);have m:d.heap[w.heap.size]?=some (.cells #[.pointer (some ⟨n,0,none⟩)] 105):=(by rw[f];exact qx (qx (qt w _ _ rfl) _) _);have o:d.heap[w.heap.size+1]?=some (.cells #[.int .i64 a.kind,.int .i64 a.iV,.int .i64 a.x,.int .i64 a.y,.int .i64 a.w,.int .i64 a.h,.slice h i j,.int .i64 a.mark] 52):=(by rw[f];exact qx (qt _ _ _ (by simp)) _);have p:d.heap[w.heap.size+2]?=some (.cells #[.int .i64 b,.int .i64 a.iV] 173):=(by rw[f];exact qt _ _ _ (by simp));have x:=ql4 (l.below e) (fun c r=>zzm (t c r) e.size) b a.iV (zi a5 b a).2 w.heap.size (w.heap.size+2) (w.heap.size+1) (l':=(zi a5 b a).1) (fun M g=>zc7 ((l.below e).below g) D (fun c r=>zzm (t c r) (aO e.size g.size)) E b a h i j ((u.below e).below g) v ((g.block _ (qh m)).trans m) ((g.block _ (qh p)).trans p) ((g.block _ (qh o)).trans o));have y:Calls Tryz.prog 109 #[.pointer (some ⟨n,0,none⟩),.agg #[.int .i64 b,.int .i64 a.iV],.func (.func 110) #[] #[.pointer (some ⟨w.heap.size,0,none⟩),.pointer (some ⟨w.heap.size+2,0,none⟩),.pointer (some ⟨w.heap.size+1,0,none⟩)]] d (xK S U w n q (zi a5 b a).1 (yh a5 b a)):=x.mono (fun F G k=>xK.from k e);have z:=qg y;obtain⟨N,s⟩:=zx (xK S U w n q (zi a5 b a).1 (yh a5 b a));rw[<-s] at z ⊢;have H:=qg f;have A:=qg s;unfold ZI yt;clear x y m o p e l u v s f;go_enter Tryz.func76,Tryz.ntmps76;go_wp2_with (go_at_call 109;rw[<-qb H];refine (qb z).mono ?_;rintro F G k;rw[qb A] at k;obtain⟨⟨I,J,rfl,B⟩,C⟩:=k;have K:=qg B;have L:=qg C;clear B C);rw[qb A];exact⟨⟨I,J,rfl,qb K⟩,qb L⟩
variable{B:List Rc}
def KY:(Tryz.prog.info? 46).map (fun a=>(a.zero,a.size,a.bytes))=some (some (.agg #[.int .i64 0,.int .i64 0,.int .i64 0,.int .i64 0]),4,32):=by kernel_rfl
def Q6 (c:gw w n v l)(p:gw w i z B)(K:l.length+B.length<=1000000000)(q:n<=w.heap.size):∃ a b,(Builtin.append_ #[47,47] 47 #[v,z]).run Tryz.prog w=.ok a b/\gw b n a (l++B)/\gp (fun e=>v.ownBlock=some e) w b/\(a.ownBlock=v.ownBlock\/a.ownBlock=some w.heap.size):=by
 obtain⟨f,g,r,s,t⟩:=aZ KY;rcases p.2 with ⟨rfl,u⟩ | ⟨d,x,L,rfl,_,y,M,_,N,A⟩
 ·have C:=bX u;subst C;exact⟨v,w,run_append_owned_none w n _ _ 46 f 4 Tryz.underlying47 g v _ _ c,by rw[aW];exact c,.refl _ _,.inl rfl⟩
 ·obtain⟨a,b,D,E,F,_,G⟩:=cE (P:=Tryz.prog) (w:=w) n 47 47 46 f _ 4 32 Tryz.underlying47 g r s t rfl (by decide) v _ _ c ⟨d,0,none⟩ B.length x (qK B) (qM B) (by
   intro h H j;have I:(⟨d,0,none⟩:Addr).add h=⟨d,h,none⟩:=(by unfold Addr.add;split<;>simp_all);have k:=(zzg j).1;rw[I,qe y,<-dB,<-j,<-A,ey,an (by rw[qM] at k;exact k)]) (by
   intro H m;simp only[qK,du] at m;obtain⟨O,_,o⟩:=m;simp[vt] at o;rcases o with rfl | rfl | rfl | rfl<;>rfl) (by simp only[maxLen];omega) (by omega) q
  refine⟨a,b,D,?_,.tJ F (fun e J=>J),G⟩;rw[gw,zp,ae];exact E
def zW (a:gv):List Rc:=vd (nJ a) ⟨a.x,a.y,a.w,a.h⟩ ⟨(hd a).x,(hd a).y,(hd a).w,(hd a).h⟩
def xH (a:gv):qw (hd a)=qw a:=by unfold hd;split<;>rfl
def se (a:gv):(hd a).px=a.px:=by unfold hd;split<;>rfl
def mE (a:List gv)(b:Nat):List gv:=(a.take b).map hd++a.drop b
def Jk (a:List gv)(b:Nat):(mE a b).map qw=a.map qw:=by
 unfold mE;rw[aE,cB];have:(a.take b).map (qw ∘ hd)=(a.take b).map qw:=bN fun c _=>xH c;rw[this,<-aE,ap]
def rP (a:l'[n]?=some u):(mE l' n)[n]?=some u:=by
 have b:=(zzg a).1;unfold mE;rw[aq (by simp;omega)];simp[bK (cA b),a]
def V0 (h:(l'.map qw).Nodup)(c:l'[n]?=some u):mE l' (n+1)=xr (mE l' n) (hd u):=by
 have m:=(zzg c).1;have i:=(zzg c).2;have f:l'.drop n=u::l'.drop (n+1):=(by rw[<-i,bo]);have b:=h;rw[<-Jk l' n] at b;unfold mE at b ⊢;rw[f,am,c];rw[f,aE,aY,cO] at b;obtain⟨-,g,j⟩:=b;rw[dS] at g;unfold xr;rw[aE,aE,aY,aN];have k:((l'.take n).map hd).map (fun a=>if qw a=qw (hd u) then hd u else a)=(l'.take n).map hd:=by
  conv=>rhs;rw[<-List.map_id ((l'.take n).map hd)]
  refine bN fun a d=>?_;rw[ah]
  ·rfl
  ·rw[xH];intro e;exact j (qw a) (aC.2 ⟨a,d,rfl⟩) (qw u) (by simp) e
 have l:(l'.drop (n+1)).map (fun a=>if qw a=qw (hd u) then hd u else a)=l'.drop (n+1):=by
  conv=>rhs;rw[<-List.map_id (l'.drop (n+1))]
  refine bN fun a d=>?_;rw[ah]
  ·rfl
  ·rw[xH];intro e;exact g.1 (by rw[<-e];exact aC.2 ⟨a,d,rfl⟩)
 rw[k,l,an (xH u).symm];simp
def rx (a:gv):Prop:=(0<=a.left/\a.left<=1000)/\(-2000000000000000<=a.x+a.dx/\a.x+a.dx<=2000000000000000)/\(-2000000000000000<=a.y+a.dy/\a.y+a.dy<=2000000000000000)
def Xz (a:gv):(zW a).length<=2:=by unfold zW vd;split<;>(try split)<;>simp
def JF:∀ a:List gv,(a.flatMap zW).length<=2*a.length
 | []=>by simp
 | b::a=>by have:=JF a;have:=Xz b;simp only[eG,ae,aX];omega
def qn1 (B:gX S U w n q l' i v a0 g a8 a9)(b0:∀ b,S b->¬U b)(b1:∀ b,S b->b<w.heap.size)(d2:∀ b,U b->b<w.heap.size)(d3:l'.length<=1000)(b2:∀ a∈l',rx a):Calls Tryz.prog 83 #[.pointer (some ⟨n,0,none⟩)] w fun d s=>(∃ G h,d=.returned G/\gX S U s n q (l'.map hd) i v a0 g a8 h/\gw s w.heap.size G (l'.flatMap zW))/\gp S w s:=by
 obtain⟨-,f7,-⟩:=zzc B.tP.nS;have f8:=qh B.tP.nS;obtain⟨d4,T,V⟩:=qr B.row;rw[ak] at V;obtain⟨o,W⟩:=zx l'.length;rw[<-W] at V;subst V;have H:=qg B;have I:=qg W;have d5:=qg b2;have f9:o<=1000:=(by omega);clear B W b2 d3;go_enter Tryz.func83,Tryz.ntmps83;go_wp2;go_loopw [3,11] (fun b3 k wr=>∃ (c:Nat)(J:Int->Int->Value),k=.int .i64 (c:Int)/\c<=o/\gX S U wr n q (mE l' c) i (.slice d4 o T) a0 g a8 J/\gw wr w.heap.size b3 ((l'.take c).flatMap zW)/\gp S w wr) (fun b3 k _=>o-(intOf k).toNat)
 case atStart=>exact⟨0,a9,rfl,aj _,by simpa[mE] using qb H,⟨rfl,.inl ⟨rfl,rfl⟩⟩,.refl _ _⟩
 case round=>
  obtain⟨c,J,rfl,g0,l,C,K⟩:=hrel;by_cases d6:c<o
  ·obtain⟨a,x⟩:∃ a,l'[c]?=some a:=⟨l'[c]'(by rw[<-qb I];exact d6),by simp⟩;have b4:=rP x;have m:=zzn b4;have b5:(mE l' c).map (fun a=>k2 (qw a))=(l'.map qw).map k2:=(by rw[<-Jk l' c,cB];rfl);have D:=l.row;rw[b5] at D;obtain⟨X,g1,b6⟩:=jH D (by simp;rw[<-qb I];omega);simp only[ai] at b6;obtain⟨rfl,-,-⟩:=b6;obtain⟨d7,d8⟩:=kR D (p:=k2 (qw a)) (j:=c) (by rw[aF,aF,x];rfl);simp only[k2,qw] at d7 d8;have g2:=(ab D X rfl).2;obtain⟨k,t⟩:=zx (a8 a.cl a.num);have L:=(l.iV a m).1;rw[<-t] at L;have M:=(l.iV a m).2.1;rw[<-t] at M;obtain⟨f,N⟩:∃ f:World,f=wr.alloc (.cells #[.int .i64 a.cl,.int .i64 a.num] 173):=⟨_,rfl⟩;have O:Below wr.heap.size wr f:=(by rw[N];exact (aa _ wr).alloc (zzl _) _);have Y:f.heap[wr.heap.size]?=some (.cells #[.int .i64 a.cl,.int .i64 a.num] 173):=(by rw[N];exact qt _ _ _ rfl);have u:=l.below O;have g3:(Instr.lookup 174 (.map (some i)) (.agg #[.int .i64 a.cl,.int .i64 a.num]) false).run Tryz.prog f.drew=.ok (.pointer (some ⟨k,0,none⟩)) f.drew:=(by have:=zn (w:=f.drew) u.tP.map a.cl a.num;rw[u.tS m,<-t] at this;exact this);have b7:∀ b,b=k->b<f.drew.heap.size:=fun b d=>by rw[d];exact zzm (qh L) O.size
   have P:=(qb d5) a (zzn x);have Z:=qg (ql3 (C:=fun b=>b=k) (w:=f.drew) (sb:=n) b7 a.cl a.num (nJ a) k (jW (mE l' c) a.cl a.num) (jW (mE l' (c+1)) a.cl a.num) (fun y=>∃ h,gX S U y n q (mE l' (c+1)) i (.slice (some ⟨X,0,none⟩) o T) a0 g a8 h)
    (fun y g4 e E=>by obtain⟨h,e⟩:=e;exact⟨h,e.below E⟩)
    (fun y E=>(u.below (Below.trans ((aa _ f).drew) E)).covered a.cl a.num)
    (fun y e=>by obtain⟨h,e⟩:=e;exact e.covered a.cl a.num)
    (fun y E=>by
     have d9:=Below.trans ((aa _ f).drew) E;have a1:=u.below d9;have e0:yL y k a (J a.cl a.num):=(by rw[t];exact (a1.iV a m).1);refine (qt8 e0 P.1 P.2.1 P.2.2).mono ?_;rintro d s ⟨rfl,e1,a2⟩;refine⟨rfl,?_,a2⟩;rw[V0 (qb H).nd x];exact⟨_,a1.upd b0 m (xH a) (v:=J a.cl a.num) (a2.wide (fun b _ d=>d.trans t)) (by rw[<-t];exact e1) (by rw[se];exact (a1.iV a m).2.2.but a2 (fun b a3 d=>b0 b (by rw[d];exact M) a3))⟩))
   have b8:=Q4 m l.nd;have b9:jW (mE l' (c+1)) a.cl a.num=⟨(hd a).x,(hd a).y,(hd a).w,(hd a).h⟩:=(by have e2:hd a∈mE l' (c+1):=(by rw[V0 (qb H).nd x];exact aC.2 ⟨a,m,by rw[an (xH a).symm]⟩);have:=Q4 e2 (by rw[Jk];exact (qb H).nd);have r:=xH a;simp only[qw,bP] at r;rw[r.1,r.2] at this;exact this);rw[b8,b9] at Z;unfold zZ at Z;obtain⟨g5,-⟩:=zzc u.tP.nS;obtain⟨g6,g7,-⟩:=zzc Y;have g8:=l.uz;have e3:¬n=k:=fun d=>l.uG m (by rw[<-t,d]);have g9:=qh u.tP.nS;have e4:=qg u.tP.nS;have e5:¬wr.heap.size=k:=(by have:=qh L;omega);have e6:=qg Y;have a4:=qg O;have e7:=qg N;have Q:=qg C;have R:=qg K;have a5:=qg x;have i0:(0:Int)<=(c:Int):=(by omega);have i1:(c:Int)<(o:Int):=(by omega);clear b4 m b5 D L t l u b7 P b8 b9 Y O N C K x;go_wp2;rw[<-qb e7];have i2:=b1 k M;have e8:=JF (l'.take c);have e9:(l'.take c).length<=1000:=(by rw[ao];omega);have f0:=qg (show ((l'.take c).flatMap zW).length+(zW a).length<=1000000000 by have:=Xz a;omega);have c0:=fun b r=>ab (qb Q) b r;have z:=qg c0;clear e8 e9 c0;go_region_held3 (fun s=>s.cell? ⟨n,0,none⟩=some (.map (some i))/\s.cell? ⟨wr.heap.size,0,none⟩=some (.int .i64 a.cl)/\s.cell? ⟨wr.heap.size,1,none⟩=some (.int .i64 a.num))
    (first | (refine⟨?_,?_,?_⟩<;>assumption) | go_keep)
    (first
      | (go_at_call 109
         refine (qb Z).mono ?_
         rintro d i3 ⟨⟨G,rfl,e,c1⟩,A⟩
         have c2:=gw.but (gw.kept (qb Q) (qb a4).drew) A (fun b r d=>by have:=(qb z) b r;omega)
         have c3:=aO (qb R).size (aO (qb a4).size A.size)
         obtain⟨i4,f1,c4,c5,F,f2⟩:=Q6 c2 c1 (qb f0) c3
         have a6:=A.heap (w:=f.drew) (qb e4) e3
         have a7:=A.heap (w:=f.drew) (qb e6) e5
         have c6:=F.heap a6 (fun d=>by have:=(qb z) _ d;omega)
         have c7:=F.heap a7 (fun d=>by have:=(qb z) _ d;omega)
         obtain⟨i5,-⟩:=zzc a6
         obtain⟨c8,c9,-⟩:=zzc a7
         obtain⟨i6,-⟩:=zzc c6
         obtain⟨i7,i8,-⟩:=zzc c7
         have d0:∃ h,gX S U f1 n q (mE l' (c+1)) i (.slice (some ⟨X,0,none⟩) o T) a0 g a8 h:=by
           obtain⟨h,e⟩:=e
           refine⟨h,e.but F (fun b r d=>?_) (fun b a3 d=>?_)⟩
           · have:=(qb z) b d;have:=b1 b r;omega
           · have:=(qb z) b d;have:=d2 b a3;omega
         have d1:=(((qb R).trans (.aD (qb a4).drew)).trans (A.wide (fun b _ d=>by rw[d];exact M))).step F (fun b d=>.inr ((qb z) b d).1)
         have f3:=qg c4
         have f4:=qg c5
         have f5:=qg d0
         have f6:=qg d1
         clear c2 c1 c4 c5 F f2 a6 a7 c6 c7 e d0 d1 A c3)
      | (refine zS (by kernel_rfl) (.tmp 15) (.tmp 25) 47 47 (by kernel_rfl) (by kernel_rfl) u3 G _ _ (by kernel_rfl) (by kernel_rfl) (qb f3) ?_))
   all_goals
    (try simp only[Exit.then])
    (try go_simp)
    go_wp2;go_roundw
    case rel=>
     obtain⟨h,e⟩:=qb f5;refine⟨c+1,h,by go_num,by omega,e,?_,qb f6⟩;have:(l'.take (c+1)).flatMap zW=(l'.take c).flatMap zW++zW a:=(by rw[am,qb a5];simp);rw[this];exact qb f4
    case measure=>simp[intOf];omega
  ·have:c=o:=(by omega);subst this;have c8:mE l' c=l'.map hd:=(by unfold mE;rw[qb I];simp);have c9:l'.take c=l':=(by rw[qb I];simp);rw[c8] at l;rw[c9] at C;have a5:=qg l;have Q:=qg C;have R:=qg K;clear l C K;go_wp2;go_ret;exact⟨⟨_,_,rfl,qb a5,qb Q⟩,qb R⟩
def Qg (a:gv):Rc:=⟨a.x,a.y,a.w,a.h⟩
def jf (a:gv):List Rc:=vd true (Qg a) ox
def nI (a:List gv)(c:Int)(b:Nat):List gv:=(a.take b).filter (fun d=>!(d.cl == c))++a.drop b
def pj (a:List gv)(b:Int)(c:Nat):List Rc:=((a.take c).filter (fun d=>d.cl == b)).flatMap jf
def qe1 (a:List gv)(c:Int)(b:Nat):(nI a c b).Sublist a:=by
 unfold nI
 conv=>rhs;rw[<-ap b a]
 exact List.Sublist.append eQ (List.Sublist.refl _)
def zb4 (a:l'[n]?=some u):u∈nI l' q n:=by
 have b:=(zzg a).1;have c:=(zzg a).2;exact List.mem_append_right _ (by rw[<-bo (h:=b),c];simp)
def qj7 (a:l'[n]?=some u)(b:¬u.cl=q):nI l' q (n+1)=nI l' q n:=by
 have c:=(zzg a).1;have d:=(zzg a).2;unfold nI;rw[<-bo (h:=c),d,am,a,ce];simp[b]
def zb3 (e:(l'.map qw).Nodup)(b:l'[n]?=some u)(c:u.cl=q):nI l' q (n+1)=yT (nI l' q n) q u.num:=by
 have g:=(zzg b).1;have h:=(zzg b).2;have f:l'.drop n=u::l'.drop (n+1):=(by rw[<-bo (h:=g),h]);unfold nI yT;rw[f,am,b,ce,ce,eK];rw[show gN q u.num u=true by simp[gN,c]];have i:((l'.take n).filter (fun u=>!(u.cl == q))).filter (fun a=>!gN q u.num a)=(l'.take n).filter (fun u=>!(u.cl == q)):=(by rw[eS];intro a d;have:=(cS.1 d).2;simp only[dp,em] at this;simp[gN,this]);have j:(l'.drop (n+1)).filter (fun a=>!gN q u.num a)=l'.drop (n+1):=by
  rw[eS];intro a d;cases k:gN q u.num a
  ·rfl
  ·exfalso;have l:=ju.1 k;have m:l'=l'.take n++u::l'.drop (n+1):=(by rw[<-f,ap]);rw[m,aE,aY,cO] at e;have:=(dS.1 e.2.1).1;exact this (aC.2 ⟨a,d,by rw[l];simp[qw,c]⟩)
 rw[i,j];simp[c]
def qj8 (a:l'[n]?=some u)(b:¬u.cl=q):pj l' q (n+1)=pj l' q n:=by
 unfold pj;rw[am,a,ce];simp[b]
def zb5 (a:l'[n]?=some u)(b:u.cl=q):pj l' q (n+1)=pj l' q n++jf u:=by
 unfold pj;rw[am,a,ce];simp[b]
def zb6 (a:List gv)(d:Int)(e:Nat):(pj a d e).length<=2*a.length:=by
 unfold pj;have f:∀ b:List gv,(b.flatMap jf).length<=2*b.length:=by
  intro b;induction b with
  | nil=>simp
  | cons c b g=>
   have:(jf c).length<=2:=(by unfold jf vd;split<;>(try split)<;>simp);simp only[eG,ae,aX];omega
 have h:=f ((a.take e).filter (fun c=>c.cl == d));have i:((a.take e).filter (fun c=>c.cl == d)).length<=a.length:=aO (dA _ _) (by rw[ao];omega);omega
def ri (a:Int):gt:=⟨2,a,0,0,0,0,[],0⟩
def qt3 (a:u∈l'):zi l' u.cl (ri u.num)=(yT l' u.cl u.num,true):=by
 obtain⟨d,b,_,_⟩:=xC (l:=l') (c:=u.cl) (n:=u.num) (aC.2 ⟨u,a,rfl⟩);simp[zi,ri,b]
def sj (a:u∈l')(b:(l'.map qw).Nodup):yh l' u.cl (ri u.num)=jf u:=by
 unfold yh jf;rw[qt3 a];rw[show jW l' u.cl (ri u.num).iV=Qg u from Q4 a b];rw[show jW (yT l' u.cl u.num) u.cl (ri u.num).iV=ox from YM (by
  show (u.cl,u.num)∉_;rw[yk,cS];simp)]
variable{m':List (Int×Int)}
structure pg where
 px:List Int
 st:List Bool
 begun:Int
structure pt where
 buf:Nat
 marks:List (Int×Int)
 left:List (Int×Int)
structure gB where
 W:Nat
 H:Nat
 b:Nat->pg
 front:Nat
 frame:Option pt
 due:Bool
 marks:List (Int×Int)
def zJ (b a:Nat):Value:=.slice (some ⟨b,0,none⟩) a a
structure Fl where
 pb:Nat->Nat
 st:Nat->Nat
 fb:Nat
 fm:Value
 fl:Value
 mv:Value
def xD (a:gB)(b:Fl):Value:=match a.frame with
 | none=>.pointer none
 | some _=>.pointer (some ⟨b.fb,0,none⟩)
def qT (a:gB)(b:Fl):Array Value:=
 #[.int .i64 0,.int .i64 0,.int .i64 (a.W:Int),.int .i64 (a.H:Int),
  zJ (b.pb 0) (a.W*a.H),zJ (b.st 0) (a.W*a.H),.int .i64 (a.b 0).begun,
  zJ (b.pb 1) (a.W*a.H),zJ (b.st 1) (a.W*a.H),.int .i64 (a.b 1).begun,
  zJ (b.pb 2) (a.W*a.H),zJ (b.st 2) (a.W*a.H),.int .i64 (a.b 2).begun,
  .int .i64 (a.front:Int),xD a b,.bool a.due,b.mv]
def nr (i:Nat->Prop)(c:World)(j:Value)(b:List (Int×Int)):Prop:=
 ∃ h d,j=.slice h b.length d/\b.length<=d/\d<=maxLen/\(b≠[]->∃ a e k,h=some ⟨a,e,none⟩/\i a/\c.heap[a]?=some (.cells k 222 (0,0))/\∀ f g,b[f]?=some g->c.cell? ⟨a,e+f*2,none⟩=some (.int .i64 g.1)/\c.cell? ⟨a,e+f*2+1,none⟩=some (.int .i64 g.2))
def nr.but (i:nr U w v m')(j:gp S w w2)(k:∀ a,U a->¬S a):nr U w2 v m':=by
 obtain⟨l,m,b,n,o,p⟩:=i;refine⟨l,m,b,n,o,fun q=>?_⟩;obtain⟨c,r,s,b,e,f,qF⟩:=p q;have d:=j.block c (qh f) (k c e);exact⟨c,r,s,b,e,d.trans f,fun g a h=>⟨(aH d).trans (qF g a h).1,(aH d).trans (qF g a h).2⟩⟩
def nr.mono (c:nr S w v m')(d:∀ k,S k->U k):nr U w v m':=by
 obtain⟨e,f,a,g,h,i⟩:=c;refine⟨e,f,a,g,h,fun j=>?_⟩;obtain⟨b,l,m,a,n,o,qF⟩:=i j;exact⟨b,l,m,a,d b n,o,qF⟩
structure Fr (C:Nat->Prop)(w:World)(b0:Nat)(f:gB)(v:Fl):Prop where
 nS:w.heap[b0]?=some (.cells (qT f v) 169 (0,0))
 cb:C b0
 px:∀ i,i<3->w.heap[v.pb i]?=some (.cells ((f.b i).px.map (Value.int .i64)).toArray 3 (0,0))/\C (v.pb i)/\(f.b i).px.length=f.W*f.H
 st:∀ i,i<3->w.heap[v.st i]?=some (.cells ((f.b i).st.map Value.bool).toArray 4 (0,0))/\C (v.st i)/\(f.b i).st.length=f.W*f.H
 tW:∀ i j,i<3->j<3->v.pb i=v.pb j->i=j
 tV:∀ i j,i<3->j<3->v.st i=v.st j->i=j
 tN:qN w 0 153 v.mv (f.marks.map k2)
 mc:∀ k,v.mv.ownBlock=some k->C k
 fr:∀ g,f.frame=some g->w.heap[v.fb]?=some (.cells #[.int .i64 (g.buf:Int),v.fm,v.fl] 182 (0,0))/\C v.fb/\g.buf<3/\qN w 0 153 v.fm (g.marks.map k2)/\(∀ k,v.fm.ownBlock=some k->C k/\v.mv.ownBlock≠some k)/\nr C w v.fl g.left
def Fr.but {g S:Nat->Prop}{i j:World}{k:Nat}{l:gB}{m:Fl}(a:Fr g i k l m)(c:gp S i j)(d:∀ b,g b->¬S b):Fr g j k l m where
 nS:=c.heap a.nS (d _ a.cb)
 cb:=a.cb
 px:=fun e f=>⟨c.heap (a.px e f).1 (d _ (a.px e f).2.1),(a.px e f).2⟩
 st:=fun e f=>⟨c.heap (a.st e f).1 (d _ (a.st e f).2.1),(a.st e f).2⟩
 tW:=a.tW
 tV:=a.tV
 tN:=qi a.tN c (fun b h=>d b (a.mc b h))
 mc:=a.mc
 fr:=fun p q=>by
  obtain⟨r,n,s,t,o,u⟩:=a.fr p q;exact⟨c.heap r (d _ n),n,s,qi t c (fun b h=>d b (o b h).1),o,u.but c d⟩
def Fr.mono {g h:Nat->Prop}{i:World}{j:Nat}{k:gB}{l:Fl}(a:Fr g i j k l)(c:∀ b,g b->h b):Fr h i j k l where
 nS:=a.nS
 cb:=c _ a.cb
 px:=fun d e=>⟨(a.px d e).1,c _ (a.px d e).2.1,(a.px d e).2.2⟩
 st:=fun d e=>⟨(a.st d e).1,c _ (a.st d e).2.1,(a.st d e).2.2⟩
 tW:=a.tW
 tV:=a.tV
 tN:=a.tN
 mc:=fun b f=>c b (a.mc b f)
 fr:=fun n o=>by
  obtain⟨p,q,r,s,m,t⟩:=a.fr n o;exact⟨p,c _ q,r,s,fun b f=>⟨c b (m b f).1,(m b f).2⟩,t.mono c⟩
def Fr.below {b:gB}{c:Fl}(a:Fr U w n b c)(d:Below w.heap.size w w2):Fr U w2 n b c:=a.but (S:=fun _=>False) (.aD d) (fun _ _ a=>a)
def Fr.set {h:gB}{i:Fl}(a:Fr S w n h i)(e:gp (fun f=>f=n) w w2)(l:Bool)(r:w2.heap[n]?=some (.cells (qT {h with due:=l} i) 169 (0,0))):Fr S w2 n {h with due:=l} i where
 nS:=r
 cb:=a.cb
 px:=fun c d=>⟨e.heap (a.px c d).1 (fun b=>by have:=(a.px c d).1;rw[b,a.nS] at this;simp at this),(a.px c d).2⟩
 st:=fun c d=>⟨e.heap (a.st c d).1 (fun b=>by have:=(a.st c d).1;rw[b,a.nS] at this;simp at this),(a.st c d).2⟩
 tW:=a.tW
 tV:=a.tV
 tN:=qi a.tN e (fun f g b=>qq a.tN a.nS (by decide) (by rw[g,b]))
 mc:=a.mc
 fr:=fun s t=>by
  obtain⟨m,u,v,o,x,y⟩:=a.fr s t;refine⟨e.heap m (fun b=>by have:=m;rw[b,a.nS] at this;simp at this),u,v,qi o e (fun f g b=>qq o a.nS (by decide) (by rw[g,b])),x,?_⟩;obtain⟨z,A,b,B,C,D⟩:=y;refine⟨z,A,b,B,C,fun E=>?_⟩;obtain⟨p,F,G,b,H,j,qF⟩:=D E;have k:=e.block p (qh j) (fun b=>by have:=j;rw[b,a.nS] at this;simp at this);exact⟨p,F,G,b,H,k.trans j,fun q f g=>⟨(aH k).trans (qF q f g).1,(aH k).trans (qF q f g).2⟩⟩
def YY {d:gB}{e:Fl}(a:Fr S w n d e):Calls Tryz.prog 137 #[.pointer (some ⟨n,0,none⟩)] w fun g f=>(∃ h,g=.returned h)/\Fr S f n {d with due:=true} e/\gp (fun b=>b=n) w f:=by
 obtain⟨m,-⟩:=zzk a.nS 15;have o:=fun j=>qj a.nS j;have c:gp (fun b=>b=n) w (w.setCell ⟨n,15,none⟩ (.bool true)):=(gp.refl (fun b=>b=n) w).setCell (p:=⟨n,15,none⟩) (.inl rfl) _;have k:=qg (a.set c true (qp (i:=15) a.nS _));have l:=qg c;clear a c;go_enter Tryz.func137,Tryz.ntmps137;go_wp2;go_end0;exact⟨⟨_,rfl⟩,qb k,qb l⟩
variable{a:gB}{y:Fl}
def Qv:(Tryz.prog.info? 153).map (fun a=>(a.zero,a.size,a.bytes))=some (some (.agg #[.int .i64 0,.int .i64 0]),2,16):=by kernel_rfl
def Fr.marked (d:Fr S w n a y)(g:∀ c,S c->U c)(h:gp (fun c=>c=n\/y.mv.ownBlock=some c) w w2)(x:w2.heap[n]?=some (.cells (qT {a with marks:=m'} {y with mv:=v}) 169 (0,0))) (z:qN w2 0 153 v (m'.map k2)) (A:∀ c,v.ownBlock=some c->U c) (B:∀ k,a.frame=some k->∀ c,y.fm.ownBlock=some c->v.ownBlock≠some c):Fr U w2 n {a with marks:=m'} {y with mv:=v} where
 nS:=x
 cb:=g _ d.cb
 px:=fun m o=>by
  obtain⟨e,i,j⟩:=d.px m o;refine⟨h.heap e ?_,g _ i,j⟩;rintro (b | b)
  ·have:=e;rw[b,d.nS] at this;simp at this
  ·exact qq d.tN e (by decide) b
 st:=fun m o=>by
  obtain⟨e,i,j⟩:=d.st m o;refine⟨h.heap e ?_,g _ i,j⟩;rintro (b | b)
  ·have:=e;rw[b,d.nS] at this;simp at this
  ·exact qq d.tN e (by decide) b
 tW:=d.tW
 tV:=d.tV
 tN:=z
 mc:=A
 fr:=fun k r=>by
  obtain⟨e,i,j,s,t,C⟩:=d.fr k r;refine⟨h.heap e ?_,g _ i,j,qi s h ?_,fun c f=>⟨g c (t c f).1,B k r c f⟩,?_⟩
  ·rintro (b | b)
   ·have:=e;rw[b,d.nS] at this;simp at this
   ·exact qq d.tN e (by decide) b
  ·rintro c f (b | b)
   ·exact qq s d.nS (by decide) (by rw[f,b])
   ·exact (t c f).2 b
  ·obtain⟨D,E,b,F,G,H⟩:=C;refine⟨D,E,b,F,G,fun I=>?_⟩;obtain⟨p,J,K,b,L,l,qF⟩:=H I;have q:=h.block p (qh l) (by
    rintro (b | b)
    ·have:=l;rw[b,d.nS] at this;simp at this
    ·exact qq d.tN l (by decide) b)
   exact⟨p,J,K,b,g p L,q.trans l,fun u c f=>⟨(aH q).trans (qF u c f).1,(aH q).trans (qF u c f).2⟩⟩
def zf0 (h:Fr S w n a y)(A:∀ b,S b->b<w.heap.size)(e f:Int)(b9:a.marks.length<=1000000000):Calls Tryz.prog 138 #[.pointer (some ⟨n,0,none⟩),.agg #[.int .i64 e,.int .i64 f]] w fun c B=>(∃ Z,c=.returned Z)/\(∃ s,Fr (grow S w B) B n {a with marks:=a.marks++[(e,f)]} s)/\gp S w B:=by
 obtain⟨a0,a1,C⟩:=qr h.tN;obtain⟨a2,J⟩:=zx ((a.marks.map k2).length);rw[<-J] at C;obtain⟨d,t⟩:∃ d:World,d=w.alloc (.cells #[.int .i64 e,.int .i64 f] 153):=⟨_,rfl⟩;have q:Below w.heap.size w d:=(by rw[t];exact (aa _ w).alloc (zzl _) _);have D:d.heap[w.heap.size]?=some (.cells #[.int .i64 e,.int .i64 f] 153):=(by rw[t];exact qt _ _ _ rfl);have E:=h.below q;obtain⟨o,F⟩:∃ o:World,o=(d.alloc (.cells #[.int .i64 e,.int .i64 f] 153)).drew:=⟨_,rfl⟩;have u:Below d.heap.size d o:=(by rw[F];exact ((aa _ d).alloc (zzl _) _).drew);have K:o.heap[d.heap.size]?=some (.cells #[.int .i64 e,.int .i64 f] 153):=(by rw[F];exact qt d _ _ rfl);have G:=E.below u;obtain⟨a3,L,M,N,O⟩:=aZ Qv;obtain⟨s,k,Q,r,R,-,v⟩:=cE (P:=Tryz.prog) (w:=o) 0 87 87 153 a3 _ 2 16 Tryz.underlying87 L M N O rfl (by decide) y.mv _ _ G.tN ⟨d.heap.size,0,none⟩ 1 1 [.int .i64 e,.int .i64 f] rfl (xT K) (by simp[Value.oneCell']) (by simp;simp only[maxLen];omega) (by simp;omega) (aj _);obtain⟨j,m,T⟩:=jH r (by omega);obtain⟨m5,H⟩:=zx ((a.marks.map k2).length+1);rw[<-H] at T r;subst T;have x:gp (fun b=>y.mv.ownBlock=some b) o k:=.tJ R (fun b c=>c);have I:=qq h.tN h.nS (by decide);have z:=x.heap G.nS I;have a4:=A _ h.cb;have a5:=zzm a4 q.size;have c0:=qh D;obtain⟨U,-⟩:=zzk E.nS 16;obtain⟨c1,c3,-⟩:=zzc D;have a6:(d.alloc (.cells #[.int .i64 e,.int .i64 f] 153)).cell? ⟨n,16,none⟩=some y.mv:=((aa d.heap.size d).alloc (zzl _) _).cell a5 |>.trans U;obtain⟨a7,-⟩:=zzk z 16;have c4:=fun a8=>qj z a8;have V:(∃ s,Fr (grow S w (k.setCell ⟨n,16,none⟩ (.slice (some ⟨j,0,none⟩) m5 m))) (k.setCell ⟨n,16,none⟩ (.slice (some ⟨j,0,none⟩) m5 m)) n {a with marks:=a.marks++[(e,f)]} s)/\gp S w (k.setCell ⟨n,16,none⟩ (.slice (some ⟨j,0,none⟩) m5 m)):=by
  have c5:=q.size;have c6:=u.size;have c7:=x.size;have a9:(k.setCell ⟨n,16,none⟩ (.slice (some ⟨j,0,none⟩) m5 m)).heap.size=k.heap.size:=(by simp[World.setCell]);have c8:=fun b l=>A b (h.mc b l);have W:gp (fun b=>b=n\/y.mv.ownBlock=some b) w (k.setCell ⟨n,16,none⟩ (.slice (some ⟨j,0,none⟩) m5 m)):=(((gp.aD q).trans (.aD u)).trans (x.wide (fun b _ c=>.inr c))).setCell (p:=⟨n,16,none⟩) (.inl (.inl rfl)) _;have b0:c2 (a.marks.map k2)++[.int .i64 e,.int .i64 f]=c2 ((a.marks++[(e,f)]).map k2):=(by rw[aE,zs];rfl);have b1:m5=((a.marks++[(e,f)]).map k2).length:=(by rw[H];simp);have X:qN k 0 153 (.slice (some ⟨j,0,none⟩) m5 m) ((a.marks++[(e,f)]).map k2):=(by rw[b0] at r;rw[qN,<-b1];exact r);have b2:¬j=n:=fun c=>by
   rcases v with g | g
   ·exact I (by rw[<-g,<-c];rfl)
   ·have:=aA (show some j=some o.heap.size from g);omega
  have b3:qN (k.setCell ⟨n,16,none⟩ (.slice (some ⟨j,0,none⟩) m5 m)) 0 153 (.slice (some ⟨j,0,none⟩) m5 m) ((a.marks++[(e,f)]).map k2):=qi X ((gp.refl (fun b=>b=n) k).setCell (p:=⟨n,16,none⟩) (.inl rfl) _) (fun b l c=>by cases l;exact b2 c);refine⟨⟨{y with mv:=.slice (some ⟨j,0,none⟩) m5 m},h.marked xn W (qp (i:=16) z _) b3 ?_ ?_⟩,W.wide ?_⟩
  ·intro b l;rcases v with g | g
   ·exact .inl (h.mc b (by rw[<-g];exact l))
   ·have b4:=(ab X b l).2;rw[l] at g;have:=aA g;exact .inr ⟨by omega,by rw[a9];exact b4⟩
  ·intro b5 b6 b l c;obtain⟨-,-,-,-,h5,-⟩:=h.fr b5 b6;rcases v with g | g
   ·exact (h5 b l).2 (by rw[<-g];exact c)
   ·rw[c] at g;have:=aA g;have:=A b (h5 b l).1;omega
  ·rintro b _ (c | c)
   ·rw[c];exact h.cb
   ·exact h.mc b c
 have b7:=qg V;have Y:=qg Q;have b8:=qg t;rw[C] at U a6 a7 Y;subst F;clear V Q t q E u K G L M N O r R v H x I z h J C D;go_enter Tryz.func138,Tryz.ntmps138;go_wp2;rw[<-qb b8];go_region_law (refine zS (by kernel_rfl) (.tmp 8) (.tmp 10) 87 87 (by kernel_rfl) (by kernel_rfl) (.slice a0 a2 a1) (.slice (some ⟨d.heap.size,0,none⟩) 1 1) _ _ (by kernel_rfl) (by kernel_rfl) (qb Y) ?_);all_goals
  (try simp only[Exit.then])
  (try go_simp)
  (try go_wp2)
  go_end0;exact⟨⟨_,rfl⟩,qb b7⟩
def zd (a:gB):gB×Int×List (Int×Int):=match a.frame with
 | none=>(a,0,[])
 | some b=>if b.left=[] then ({a with front:=b.buf,frame:=none},1,b.marks) else (a,0,[])
def oO (b:Nat->Prop)(c:Value):Nat->Prop:=fun a=>b a/\c.ownBlock≠some a
def Yr (a:Nat->Prop):oO a (.slice none 0 0)=a:=by funext k;simp[oO,Value.ownBlock]
def Fr.shown {m:pt}(b:Fr S w n a y)(p:a.frame=some m)(g:gp (fun e=>e=n) w w2)(o:Nat)(q:w2.heap[n]?=some (.cells (qT {a with front:=o,frame:=none} y) 169 (0,0))):Fr (oO S y.fm) w2 n {a with front:=o,frame:=none} y:=by
 obtain⟨t,u,v,h,r,x⟩:=b.fr m p;refine⟨q,⟨b.cb,qq h b.nS (by decide)⟩,?_,?_,b.tW,b.tV,qi b.tN g (fun e f c=>qq b.tN b.nS (by decide) (by rw[f,c])),fun e f=>⟨b.mc e f,fun c=>(r e c).2 f⟩,fun z s=>by simp at s⟩
 ·intro i j;obtain⟨d,k,l⟩:=b.px i j;exact⟨g.heap d (fun c=>by have:=d;rw[c,b.nS] at this;simp at this),⟨k,qq h d (by decide)⟩,l⟩
 ·intro i j;obtain⟨d,k,l⟩:=b.st i j;exact⟨g.heap d (fun c=>by have:=d;rw[c,b.nS] at this;simp at this),⟨k,qq h d (by decide)⟩,l⟩
def qz0 (c:Fr S w n a y):Calls Tryz.prog 82 #[.pointer (some ⟨n,0,none⟩)] w fun j q=>(∃ e,j=.returned (.tuple #[.int .i64 (zd a).2.1,e])/\Fr (oO S e) q n (zd a).1 y/\qN q 0 153 e ((zd a).2.2.map k2)/\∀ b,e.ownBlock=some b->S b)/\gp (fun b=>b=n) w q:=by
 obtain⟨M,v,-⟩:=zzk c.nS 13;have N:=fun E=>qj c.nS E;have O:=qh c.nS;cases g:a.frame with
 | none=>
  have f:zd a=(a,0,[]):=(by simp[zd,g]);rw[f];simp only[xD,g] at v;have r:=qg c;clear c f;go_enter Tryz.func82,Tryz.ntmps82;go_wp2;go_ret2;exact⟨⟨.slice none 0 0,rfl,by rw[Yr];exact qb r,⟨rfl,.inl ⟨rfl,rfl⟩⟩,fun b h=>by simp[Value.ownBlock] at h⟩,.refl _ _⟩
 | some d=>
  simp only[xD,g] at v;obtain⟨h1,h2,h3,h4,h5,h6⟩:=c.fr d g;obtain⟨P,F,x,-⟩:=zzc h1;have Q:¬y.fb=n:=fun j=>by have:=h1;rw[j,c.nS] at this;simp at this
  obtain⟨R,T,s,U,V,z⟩:=h6;rw[s] at x;obtain⟨G,H,k⟩:=qr h4;obtain⟨I,t⟩:=zx ((d.marks.map k2).length);rw[<-t] at k;rw[k] at F;obtain⟨u,l⟩:=zx d.left.length;rw[<-l] at x;by_cases m:d.left=[]
  ·have f:zd a=({a with front:=d.buf,frame:=none},1,d.marks):=(by simp[zd,g,m]);rw[f];have o:gp (fun b=>b=n) w (((w.setCell ⟨n,13,none⟩ (.int .i64 (d.buf:Int))).setCell ⟨n,14,none⟩ (.pointer none))):=((gp.refl (fun b=>b=n) w).setCell (p:=⟨n,13,none⟩) (.inl rfl) _).setCell (p:=⟨n,14,none⟩) (.inl rfl) _;have hF:=c.shown g o d.buf (qp (i:=14) (qp (i:=13) c.nS _) _);have A:=qi h4 o (fun b h j=>qq h4 c.nS (by decide) (by rw[h,j]));have B:(∃ e,e=(Value.slice G I H)/\Fr (oO S e) ((w.setCell ⟨n,13,none⟩ (.int .i64 (d.buf:Int))).setCell ⟨n,14,none⟩ (.pointer none)) n {a with front:=d.buf,frame:=none} y/\qN ((w.setCell ⟨n,13,none⟩ (.int .i64 (d.buf:Int))).setCell ⟨n,14,none⟩ (.pointer none)) 0 153 e (d.marks.map k2)/\∀ b,e.ownBlock=some b->S b):=⟨_,k.symm ▸ rfl,hF,A,fun b h=>(h5 b h).1⟩;have J:=qg B;have K:=qg o;have C:u=0:=(by rw[l,m];rfl);subst C;clear c hF A B o h1 h4 h5 z t l s k f;go_enter Tryz.func82,Tryz.ntmps82;go_wp2;go_quiet (fail);go_wp2;go_ret2;obtain⟨e,L,D⟩:=qb J;exact⟨⟨e,by rw[L];rfl,D.1.below (ax (aa _ _) nq),D.2⟩,(qb K).drewN _⟩
  ·have f:zd a=(a,0,[]):=(by simp[zd,g,m]);rw[f];have r:=qg c;have C:0<u:=(by rw[l];exact cZ.2 m);have W:(0:Int)<(u:Int):=(by omega);clear c f h1 h4 h5 z t l s k;go_enter Tryz.func82,Tryz.ntmps82;go_wp2;go_ret2;exact⟨⟨.slice none 0 0,rfl,by rw[Yr];exact qb r,⟨rfl,.inl ⟨rfl,rfl⟩⟩,fun b h=>by simp[Value.ownBlock] at h⟩,.refl _ _⟩
structure tB (C U:Nat->Prop)(w wr:World)(sb:Nat)(beh:Int)(l:List gv)(c:Int)(cv dv:Value)(i:Nat)(C':Nat->Prop):Prop where
 gr:Gr C C' w wr
 sc:xu C' U wr sb beh (nI l c i)
 cl:qN wr w.heap.size 173 cv ((l.map qw).map k2)
 cf:∀ k,cv.ownBlock=some k->¬C' k
 dm:gw wr w.heap.size dv (pj l c i)
 df:∀ k,dv.ownBlock=some k->¬C' k
 but:gp C w wr
def qn3 (k:xu U V w n q l')(c1:∀ a,U a->¬V a)(C:∀ a,U a->a<w.heap.size)(O:∀ a,V a->a<w.heap.size)(c2:l'.length<=1000)(f:Int):Calls Tryz.prog 42 #[.pointer (some ⟨n,0,none⟩),.int .i64 f] w (xK U V w n q (l'.filter fun c=>!(c.cl == f)) ((l'.filter fun c=>c.cl == f).flatMap jf)):=by
 have P:=k.nd;have Q:=k;obtain⟨e6,e7,e8,e9,f0,f1,m⟩:=k;obtain⟨-,f2,-⟩:=zzc m.tP.nS;have f3:=qh m.tP.nS;have R:(l'.map fun c=>k2 (qw c))=(l'.map qw).map k2:=(by rw[cB];rfl);have D:=m.row;rw[R] at D;have c3:=qg (KV D (Vs _) (by simp;omega));obtain⟨c4,E⟩:=zx (xK U V w n q (l'.filter fun c=>!(c.cl == f)) ((l'.filter fun c=>c.cl == f).flatMap jf));rw[<-E];have c5:=qg E;have c6:=qg Q;have T:=qg P;obtain⟨o,y⟩:=zx l'.length;have r:=qg y;have c7:o<=1000:=(by omega);clear m Q P R D E y c2;go_enter Tryz.func42,Tryz.ntmps42;go_wp2_with (go_at_call 75;refine (qb c3).mono ?_;rintro s f4 ⟨⟨f5,rfl,F⟩,W⟩;obtain⟨c8,c9,X⟩:=qr F;rw[ak,ak,<-qb r] at X;subst X;have Y:=qg F;have Z:=qg W;clear F W);go_loopw [5,14] (fun a0 G wr=>∃ (e:Nat)(t:Nat->Prop),G=.int .i64 (e:Int)/\e<=o/\tB U V w wr n q l' f (.slice c8 o c9) a0 e t) (fun a0 G _=>o-(intOf G).toNat)
 case atStart=>
  refine⟨0,U,rfl,aj _,.refl _ _ _,?_,qb Y,fun a d g=>?_,⟨rfl,.inl ⟨rfl,rfl⟩⟩,fun a d=>by simp[Value.ownBlock] at d,.aD (qb Z)⟩
  ·rw[show nI l' f 0=l' by simp[nI]];exact (qb c6).below (qb Z)
  ·have:=(ab (qb Y) a d).1;have:=C a g;omega
 case round=>
  obtain⟨e,t,rfl,f6,b⟩:=hrel;by_cases d0:e<o
  ·obtain⟨c,m⟩:∃ c,l'[e]?=some c:=⟨l'[e]'(by rw[<-qb r];exact d0),by simp⟩;obtain⟨d1,f7,a1⟩:=jH b.cl (by simp;rw[<-qb r];omega);simp only[ai] at a1;obtain⟨rfl,-,-⟩:=a1;obtain⟨d2,d3⟩:=kR b.cl (p:=k2 (qw c)) (j:=e) (by rw[aF,aF,m];rfl);simp only[k2,qw] at d2 d3;have f8:=(ab b.cl d1 rfl).2;have f9:(0:Int)<=(e:Int):=(by omega);have g0:(e:Int)<(o:Int):=(by omega);have l:=qg b;have u:=qg m;clear b m;by_cases g:c.cl=f
   ·have z:c∈nI l' f e:=zb4 (qb u);have a2:=aO (qe1 l' f e).length_le (by rw[<-qb r];exact c7);obtain⟨H,I⟩:∃ H:World,H=wr.alloc (.cells #[.int .i64 c.cl,.int .i64 c.num] 173):=⟨_,rfl⟩;have i:Below wr.heap.size wr H:=(by rw[I];exact (aa _ wr).alloc (zzl _) _);have J:=(qb l).gr.lt C (qb l).but.size;have K:=(qb l).gr.apart c1 O;have a3:=(qb T).sublist ((qe1 l' f e).map qw);have v:=qz1 ((qb l).sc.below i) K (fun a d=>zzm (J a d) i.size) a2 c.cl (ri c.num) none 0 0 ⟨none,0,rfl,zzl _,aj _,fun k=>absurd rfl k⟩ (.inr ⟨⟨by simp[ri],by simp[ri]⟩,aC.2 ⟨c,z,rfl⟩⟩);rw[qt3 z,sj z a3] at v;unfold ZI yt ri at v;simp only at v;have d4:=qg v;have d5:=qg I;have x:=qg i;have g1:=qg J;have g2:=qg K;obtain rfl:=g;have d6:=qg (show (pj l' c.cl e).length+(jf c).length<=1000000000 by
     have h1:=zb6 l' c.cl e;have h2:(jf c).length<=2:=(by unfold jf vd;split<;>(try split)<;>simp);have h3:=qb r;omega)
    clear v I i J K z a2 a3
    go_wp2_with (first
      | (go_at_call 76;rw[<-qb d5];refine (qb d4).mono ?_;rintro s g3 ⟨⟨g4,a4,rfl,a5,a6,a7,d7⟩,A⟩;have L:=gw.but (gw.kept (qb l).dm (qb x)) A (fun a d=>(qb l).df a d);have a8:=aO (qb l).but.size (aO (qb x).size A.size);obtain⟨g5,g6,a9,b0,b1,b2⟩:=Q6 L a7 (qb d6) a8;have d8:=qg a9;have b3:=qg a5;have d9:=qg a6;have M:=qg A;have g7:=qg L;have e0:=qg b0;have B:=qg b1;have e1:=qg b2;clear a5 a6 a7 d7 A L a9 b0 b1 b2 a8)
      | (at_builtin;refine zq rfl _ _ 47 47 rfl rfl _ _ _ _ rfl rfl (qb d8) ?_))
    go_roundw
    case rel=>
     have b:=qb l;have N:=(qb x).size;have b4:=(qb M).size;have e2:=(qb B).size;have b5:=b.gr.trans ((qb b3).wide N (zzl _)) b.but.size (aO N b4);have e3:=b5.lt C (aO b.but.size (aO N b4));have b6:∀ a,a<wr.heap.size->¬t a->¬a4 a:=fun a d y g=>by
      rcases (qb b3).new a g with h | h
      ·exact y h
      ·omega
     have b7:=fun a d=>b6 a (ab b.dm a d).2 (b.df a d);refine⟨e+1,a4,by go_num,by omega,b5.wide (zzl _) e2,?_,?_,?_,?_,?_,?_⟩
     ·rw[zb3 (qb T) (qb u) rfl];refine (qb d9).but (qb B) (fun a d s=>b7 a s d) (fun a e4 s=>?_);have:=(ab b.dm a s).1;have:=O a e4;omega
     ·refine qi (qi (qi b.cl (S:=fun _=>False) (.aD (qb x)) (fun _ _ k=>k)) (qb M) (fun a d=>b.cf a d)) (qb B) (fun a d s=>?_);exact qS b.cl b.dm (by decide) d s
     ·exact fun a d=>b6 a (ab b.cl a d).2 (b.cf a d)
     ·rw[zb5 (qb u) rfl];exact qb e0
     ·intro a d g;rcases qb e1 with h | h
      ·exact b7 a (by rw[<-h];exact d) g
      ·rw[d] at h;have:=aA h;have:=e3 a g;omega
     ·refine ((((b.but.trans (.aD (qb x))).step (qb M) (fun a d=>?_))).step (qb B) (fun a d=>.inr (ab b.dm a d).1));rcases b.gr.new a d with h | h
      ·exact .inl h
      ·exact .inr h.1
    case measure=>simp[intOf];omega
   ·have g8:(c.cl == f)=false:=(by simp[g]);go_wp2;go_roundw
    case rel=>
     have b:=qb l;have i:Below wr.heap.size wr (wr.alloc (.cells #[.int .i64 c.cl,.int .i64 c.num] 173)):=(aa _ wr).alloc (zzl _) _;refine⟨e+1,t,by go_num,by omega,b.gr.wide (zzl _) i.size,?_,qi b.cl (S:=fun _=>False) (.aD i) (fun _ _ k=>k),b.cf,?_,b.df,b.but.trans (.aD i)⟩
     ·rw[qj7 (qb u) g];exact b.sc.below i
     ·rw[qj8 (qb u) g];exact gw.kept b.dm i
    case measure=>simp[intOf];omega
  ·have:e=o:=(by omega);subst this;have b8:nI l' f e=l'.filter fun c=>!(c.cl == f):=(by unfold nI;rw[qb r];simp);have b9:pj l' f e=(l'.filter fun c=>c.cl == f).flatMap jf:=(by unfold pj;rw[qb r];simp);have c0:c4 (.returned u5) wr:=(by rw[qb c5,<-b8,<-b9];exact⟨⟨u5,t,rfl,b.gr,b.sc,b.dm,b.df⟩,b.but⟩);have e5:=qg c0;clear b c0 b8 b9;go_wp2;exact qb e5
variable{R:List Int}{G k:Nat→Nat}{ob t:Nat}
def JB:(Tryz.prog.info? 4).map (fun a=>(a.zero,a.size,a.bytes))=some (some (.bool false),1,1):=by kernel_rfl
def xB (a:Nat)(j:a<=1000000)(b:World):(Instr.makeSlice 116 (.int .i64 (a:Int)) (.int .i64 (a:Int))).run Tryz.prog b=.ok (.slice (some ⟨b.heap.size,0,none⟩) a a) (b.alloc (.cells (Array.replicate a (Value.bool false)) 4)):=by
 obtain⟨d,e,f,g,h⟩:=aZ JB;have c:=fQ (P:=Tryz.prog) b 116 4 d _ Tryz.underlying116 e f .i64 .i64 (a:Int) (a:Int) (by omega) (co _) (by rw[h];omega) (by omega);have i:madeCells #[Value.bool false] a=Array.replicate a (Value.bool false):=(by apply fx;rw[eN,Array.toList_replicate]);simp only[bF,g] at c;rw[<-i];simpa[Value.cells] using c
def qi5 (c:zh w n (.slice (some ⟨i,0,none⟩) j j) R)(g:R.length=j):w.heap[i]?=some (.cells (R.map (Value.int .i64)).toArray 3 (0,0))/\n<=i:=by
 rcases c.2 with ⟨a,_⟩ | ⟨h,k,l,a,d,e,m,o,f,b⟩
 ·cases a
 ·simp only[ai,ac,bz,bB] at a;obtain⟨rfl,_,rfl⟩:=a;refine⟨?_,d⟩;rw[aL (by simp[f];omega)] at b;rw[e,<-b]
def QQ (a c:Nat)(d:Int):gB:={W:=a,H:=c,b:=fun _=>⟨List.replicate (a*c) d,List.replicate (a*c) false,0⟩,front:=0,frame:=none,due:=false,marks:=[]}
def QX (b:Nat->Nat)(c d a:Nat):Value:=if a<d then zJ (b a) c else .slice none 0 0
def xI (f g a:Nat)(b c:Nat->Nat)(d e:Nat):Array Value:=
 #[.int .i64 0,.int .i64 0,.int .i64 (f:Int),.int .i64 (g:Int),QX b a d 0,QX c a e 0,.int .i64 0,QX b a d 1,QX c a e 1,.int .i64 0,QX b a d 2,QX c a e 2,.int .i64 0,.int .i64 0,.pointer none,.bool false,.slice none 0 0]
structure nt (w wr:World)(fb W H N:Nat)(n:Int)(pb st:Nat->Nat)(kp ks:Nat):Prop where
 nS:wr.heap[fb]?=some (.cells (xI W H N pb st kp ks) 169 (0,0))
 px:∀ i,i<kp->wr.heap[pb i]?=some (.cells ((List.replicate N n).map (Value.int .i64)).toArray 3 (0,0))/\w.heap.size<=pb i
 vo:∀ i,i<ks->wr.heap[st i]?=some (.cells ((List.replicate N false).map Value.bool).toArray 4 (0,0))/\w.heap.size<=st i
 tW:∀ i j,i<kp->j<kp->pb i=pb j->i=j
 tV:∀ i j,i<ks->j<ks->st i=st j->i=j
 tT:Below w.heap.size w wr
 ge:w.heap.size<=fb
def Xc (b:Nat->Nat)(c d:Nat):Nat->Nat:=fun a=>if a=c then d else b a
def zc2 (d e b:Nat)(f g:Nat->Nat)(a h:Nat)(i:a<3):(xI d e b f g a a).setIfInBounds (4+a*3) (zJ h b)=xI d e b (Xc f a h) g (a+1) a:=by
 have:a=0\/a=1\/a=2:=(by omega);rcases this with c | c | c<;>subst c<;>simp[xI,QX,Xc]
def zc1 (d e b:Nat)(f g:Nat->Nat)(a h:Nat)(i:a<3):(xI d e b f g (a+1) a).setIfInBounds (4+a*3+1) (zJ h b)=xI d e b f (Xc g a h) (a+1) (a+1):=by
 have:a=0\/a=1\/a=2:=(by omega);rcases this with c | c | c<;>subst c<;>simp[xI,QX,Xc]
def nt.below (a:nt w w2 n i j g q k G b t)(e:Below w2.heap.size w2 m):nt w m n i j g q k G b t:=
 ⟨(e.block _ (qh a.nS)).trans a.nS,fun c d=>⟨(e.block _ (qh (a.px c d).1)).trans (a.px c d).1,(a.px c d).2⟩,fun c d=>⟨(e.block _ (qh (a.vo c d).1)).trans (a.vo c d).1,(a.vo c d).2⟩,a.tW,a.tV,a.tT.trans (e.mono a.tT.size),a.ge⟩
def nt.stepP (c:nt w w2 n i j g q k G b b)(y:b<3)(F:w2.heap.size<=ob)(z:Below w2.heap.size w2 m)(A:zh m ob (.slice (some ⟨t,0,none⟩) g g) (List.replicate g q)):nt w (m.setCell ⟨n,4+b*3,none⟩ (zJ t g)) n i j g q (Xc k b t) G (b+1) b:=by
 have e:=c.below z;obtain⟨v,H⟩:=qi5 A (by simp);have l:gp (fun f=>f=n) m (m.setCell ⟨n,4+b*3,none⟩ (zJ t g)):=(gp.refl (fun f=>f=n) m).setCell (p:=⟨n,4+b*3,none⟩) (.inl rfl) _;have o:∀ {f:Nat}{B:Array Value}{x:TypeId}{C:Nat×Nat},m.heap[f]?=some (.cells B x C)->x≠169->¬f=n:=fun r D d=>by rw[d,e.nS] at r;simp at r;exact D r.2.1.symm
 refine⟨?_,fun a h=>?_,fun a h=>⟨l.heap (e.vo a h).1 (o (e.vo a h).1 (by decide)),(e.vo a h).2⟩,fun a s h I=>?_,c.tV,e.tT.setCell (p:=⟨n,4+b*3,none⟩) c.ge _,c.ge⟩
 ·rw[qp (i:=4+b*3) e.nS,zc2 i j g k G b t y]
 ·unfold Xc;by_cases d:a=b
  ·rw[an d];exact⟨l.heap v (o v (by decide)),aO c.tT.size (by omega)⟩
  ·rw[ah d];have:=e.px a (by omega);exact⟨l.heap this.1 (o this.1 (by decide)),this.2⟩
 ·unfold Xc;by_cases d:a=b<;>by_cases u:s=b
  ·intro _;omega
  ·rw[an d,ah u];intro E;have:=qh (c.px s (by omega)).1;omega
  ·rw[ah d,an u];intro E;have:=qh (c.px a (by omega)).1;omega
  ·rw[ah d,ah u];exact c.tW a s (by omega) (by omega)
def nt.stepS (a:nt w w2 n i j g q k G (b+1) b)(v:b<3):nt w ((w2.setCell ⟨n,4+b*3+1,none⟩ (zJ w2.heap.size g)).alloc (.cells (Array.replicate g (Value.bool false)) 4)).drew n i j g q k (Xc G b w2.heap.size) (b+1) (b+1):=by
 obtain⟨l,h⟩:∃ l:World,l=((w2.setCell ⟨n,4+b*3+1,none⟩ (zJ w2.heap.size g)).alloc (.cells (Array.replicate g (Value.bool false)) 4)).drew:=⟨_,rfl⟩;rw[<-h];have m:gp (fun e=>e=n) w2 l:=(by rw[h];exact (((gp.refl (fun e=>e=n) w2).setCell (p:=⟨n,4+b*3+1,none⟩) (.inl rfl) _).alloc _).drew);have t:∀ {e:Nat}{x:Array Value}{u:TypeId}{y:Nat×Nat},w2.heap[e]?=some (.cells x u y)->u≠169->¬e=n:=fun o z c=>by rw[c,a.nS] at o;simp at o;exact z o.2.1.symm
 refine⟨?_,fun d f=>⟨m.heap (a.px d f).1 (t (a.px d f).1 (by decide)),(a.px d f).2⟩,fun d f=>?_,a.tW,fun d r f D=>?_,a.tT.trans (m.below a.tT.size (fun e c=>by rw[c];exact a.ge)),a.ge⟩
 ·rw[<-zc1 i j g k G b w2.heap.size v,h];exact qx (qp (i:=4+b*3+1) a.nS _) _
 ·unfold Xc;by_cases c:d=b
  ·rw[an c];refine⟨?_,a.tT.size⟩;rw[h];have:(w2.setCell ⟨n,4+b*3+1,none⟩ (zJ w2.heap.size g)).heap.size=w2.heap.size:=(by simp[World.setCell]);have A:=qt (w2.setCell ⟨n,4+b*3+1,none⟩ (zJ w2.heap.size g)) (.cells (Array.replicate g (Value.bool false)) 4) w2.heap.size this.symm;have B:((w2.setCell ⟨n,4+b*3+1,none⟩ (zJ w2.heap.size g)).alloc (.cells (Array.replicate g (Value.bool false)) 4)).drew.heap[w2.heap.size]?=some (.cells (Array.replicate g (Value.bool false)) 4):=A;rw[B];simp
  ·rw[ah c];have:=a.vo d (by omega);exact⟨m.heap this.1 (t this.1 (by decide)),this.2⟩
 ·unfold Xc;by_cases c:d=b<;>by_cases s:r=b
  ·intro _;omega
  ·rw[an c,ah s];intro C;have:=qh (a.vo r (by omega)).1;omega
  ·rw[ah c,an s];intro C;have:=qh (a.vo d (by omega)).1;omega
  ·rw[ah c,ah s];exact a.tV d r (by omega) (by omega)
def nt.cell (c:nt w w2 n i j g q k G b t)(a:Nat)(e:a<17):∃ d,w2.cell? ⟨n,a,none⟩=some d:=by
 rw[qe c.nS];exact⟨(xI i j g k G b t)[a]'(by simp[xI];omega),by simp⟩
def qu0 (b c:World):Nat->Prop:=fun a=>b.heap.size<=a/\a<c.heap.size
def nt.done (a:nt w w2 n i j (i*j) q k G 3 3):Fr (qu0 w w2) w2 n (QQ i j q) ⟨k,G,0,.slice none 0 0,.slice none 0 0,.slice none 0 0⟩:=by
 refine⟨?_,⟨a.ge,qh a.nS⟩,fun c d=>?_,fun c d=>?_,a.tW,a.tV,⟨rfl,.inl ⟨rfl,rfl⟩⟩,fun h f=>by simp[Value.ownBlock] at f,fun l g=>by simp[QQ] at g⟩
 ·rw[a.nS];simp[xI,qT,QX,QQ,xD]
 ·obtain⟨b,e⟩:=a.px c d;exact⟨b,⟨e,qh b⟩,by simp[QQ]⟩
 ·obtain⟨b,e⟩:=a.vo c d;exact⟨b,⟨e,qh b⟩,by simp[QQ]⟩
def qy9 (a b:World)(c d:Nat)(e:Int)(f:Nat):Prop:=(∃ g,Fr (qu0 a b) b f (QQ c d e) g)/\Below a.heap.size a b
def Xl (b c:Nat)(h:Int)(a:World)(H:1<=b/\b<=16/\1<=c/\c<=16):Calls Tryz.prog 69 #[.int .i64 (b:Int),.int .i64 (c:Int),.int .i64 h] a fun m n=>∃ v,m=.returned (.pointer (some ⟨v,0,none⟩))/\qy9 a n b c h v:=by
 have w:1<=b*c/\b*c<=256:=(by have:=cK (show b<=16 by omega) (show c<=16 by omega);have:=cK (show 1<=b by omega) (show 1<=c by omega);omega);obtain⟨e,o⟩:=zx (b*c);have U:IntKind.i64.wrap ((b:Int)*(c:Int))=(e:Int):=(by rw[o,af];have:((b:Int)*(c:Int))=((b*c:Nat):Int):=(by simp);rw[this];omega);have V:=xB e (by omega);rw[<-o] at w;have x:Hid (∀ j a,a.cell? ⟨j,0,none⟩=some (.int .i64 h)->j<a.heap.size->Calls Tryz.prog 107 #[.slice (some ⟨j,0,none⟩) 1 1,.int .i64 (e:Int)] a fun m n=>∃ p,m=.returned (.slice (some ⟨p,0,none⟩) e e)/\zh n a.heap.size (.slice (some ⟨p,0,none⟩) e e) (List.replicate e h)/\Below a.heap.size a n):=fun j a h1 h2=>Km j e h a w h1 h2;have I:=qg o;clear o H;go_enter Tryz.func69,Tryz.ntmps69;have y:nt a (a.alloc (.cells #[.int .i64 0,.int .i64 0,.int .i64 b,.int .i64 c,.slice none 0 0,.slice none 0 0,.int .i64 0,.slice none 0 0,.slice none 0 0,.int .i64 0,.slice none 0 0,.slice none 0 0,.int .i64 0,.int .i64 0,.pointer none,.bool false,.slice none 0 0] 169)) a.heap.size b c e h (fun _=>0) (fun _=>0) 0 0:=⟨qt _ _ _ rfl,fun f q=>by omega,fun f q=>by omega,fun f J q=>by omega,fun f J q=>by omega,(aa _ a).alloc (zzl _) _,zzl _⟩;have z:=qg y;clear y;go_wp2;go_loopw [14] (fun f wr=>∃ (d:Nat)(r s:Nat->Nat),d<=3/\f=.int .i64 d/\nt a wr a.heap.size b c e h r s d d) (fun f _=>3-(intOf f).toNat)
 case atStart=>exact⟨0,_,_,by omega,rfl,qb z⟩
 case round=>
  rename World=>i;obtain⟨d,r,s,W,rfl,g⟩:=hrel;clear z;by_cases A:d<3
  ·have X:(0:Int)<=(d:Int):=(by omega);have K:(d:Int)<3:=(by omega);obtain⟨u4,B⟩:=g.cell (4+d*3) (by omega);obtain⟨u5,L⟩:=g.cell (4+d*3+1) (by omega);have M:=fun f=>qj g.nS f;have N:a.heap.size<i.heap.size:=aJ i _ B;have k:=qg g;clear g;have O:a.heap.size≠i.heap.size:=(by omega);go_wp2_with fail;go_region_held3 (fun _=>True) (trivial)
    ((go_at_call 107;refine ((qb x) i.heap.size _ (by simp) (by simp)).mono ?_;rintro m P ⟨p,rfl,C,D⟩;have t:=(((aa _ i).alloc (zzl _) _).drew).trans (D.mono (by simp));have u:=(qb k).below t;obtain⟨Y,Q⟩:=u.cell (4+d*3) (by omega);have R:=fun f=>qj u.nS f;have E:=qg ((qb k).stepP A (by simp) t C);clear D t u C))
   have l:=qb E;unfold zJ at l;generalize P.setCell ⟨a.heap.size,4+d*3,none⟩ (.slice (some ⟨p,0,none⟩) e e)=F at *;obtain⟨u6,S⟩:=l.cell (4+d*3+1) (by omega);have Z:=fun f=>qj l.nS f;have a0:a.heap.size<F.heap.size:=aJ F _ S;have T:=qg (l.stepS A);clear l E k Q R B L M N O x;go_wp2;go_region;go_wp2;go_roundw
   case rel=>exact⟨d+1,_,_,by omega,by go_num,qb T⟩
   case measure=>simp[intOf];omega
  ·have K:¬(d:Int)<3:=(by omega);have G:d=3:=(by omega);have k:Hid (nt a i a.heap.size b c e h r s 3 3):=(by rw[G] at g;exact g);clear g G;go_wp2;go_ret;have g:=qb k;rw[qb I] at g;exact⟨_,rfl,⟨_,g.done⟩,g.tT⟩
def qy7 (a b:World)(c:Int)(d:Nat):Prop:=(∀ e:Nat->Prop,xu (qu0 a b) e b d c [])/\Below a.heap.size a b
def X8 (c:Int)(a:World):Calls Tryz.prog 68 #[.int .i64 c] a fun d h=>∃ e,d=.returned (.pointer (some ⟨e,0,none⟩))/\qy7 a h c e:=by
 have l:∀ a,(Instr.makeMap 174 none).run Tryz.prog a=.ok (.map (some a.heap.size)) (a.alloc (.map #[] 0)):=fun a=>rfl;have f:qy7 a ((a.alloc (.map #[] 0)).alloc (.cells #[.map (some a.heap.size),.slice none 0 0,.int .i64 c] 176)) c (a.heap.size+1):=by
  refine⟨fun m=>?_,((aa _ a).alloc (zzl _) _).alloc (by simp) _⟩;refine⟨a.heap.size,.slice none 0 0,[],0,fun _ _=>0,fun _ _=>undef,⟨?_,?_⟩,?_,?_,fun n i=>by simp[Value.ownBlock] at i,⟨rfl,.inl ⟨rfl,rfl⟩⟩,fun g b=>by simp at b,fun g b=>by simp at b,by simp,fun d j=>by simp at j,fun g b=>by simp at b,by simp⟩
  ·exact qt _ _ _ (by simp)
  ·exact qx (qt a _ _ rfl) _
  ·exact⟨by simp,by simp⟩
  ·exact⟨zzl _,by simp;omega⟩
 have k:=qg f;clear f;go_enter Tryz.func68,Tryz.ntmps68;go_wp2;go_ret;exact⟨_,rfl,qb k⟩
def kZ (a:World)(d:List Int)(e:Ending)(b:World):Prop:=∃ c,e=.returned c/\zh b a.heap.size c d/\Below a.heap.size a b
def qn4 (g:Fr S w n a y)(r:a.front<3)(s:a.W*a.H<=1000):Calls Tryz.prog 52 #[.pointer (some ⟨n,0,none⟩)] w (kZ w (a.b a.front).px):=by
 obtain⟨j,-⟩:=zzk g.nS 13;obtain⟨c,k⟩:=zx (a.W*a.H);have o:w.cell? ⟨n,4+a.front*3,none⟩=some (.slice (some ⟨y.pb a.front,0,none⟩) c c):=(by rw[qe g.nS,k];have:a.front=0\/a.front=1\/a.front=2:=(by omega);rcases this with f | f | f<;>rw[f]<;>rfl);obtain⟨l,t,m⟩:=g.px a.front r;have u:Hid (∀ h,Calls Tryz.prog 91 #[.slice (some ⟨y.pb a.front,0,none⟩) c c] (w.drewN h) (kZ w (a.b a.front).px)):=(by intro h;have:=qf5 (w:=w.drewN h) (b:=y.pb a.front) (off:=0) (n:=c) (cap:=c) (xs:=(a.b a.front).px.map (Value.int .i64)) (by rw[ak,m];omega) (fun v E x=>by rw[bA];exact (qe l v).trans (by rw[bR];exact x)) (QU _) (by omega) (fun _=>qh l);refine this.mono ?_;rintro f d ⟨⟨z,rfl,A⟩,B⟩;refine⟨z,rfl,?_,(ax (aa _ w) h).trans B⟩;unfold zh;rw[m,<-k];exact A);clear l t m k s g;generalize (a.b a.front).px=F at *;generalize y.pb a.front=p at *;generalize a.front=e at *;have G:(0:Int)<=(e:Int):=(by omega);have H:(e:Int)<3:=(by omega);have q:=aJ w _ j;go_enter Tryz.func52,Tryz.ntmps52;go_wp2_with fail;go_region_held3 (fun d=>d.cell? ⟨n,13,none⟩=some (.int .i64 (e:Int))/\d.cell? ⟨n,4+e*3,none⟩=some (.slice (some ⟨p,0,none⟩) c c)) (first | go_keep | exact⟨j,o⟩ | exact qb C)
  ((go_at_call 91;refine ((qb u) 1).mono ?_;rintro f d ⟨I,rfl,i⟩;have C:Hid (d.cell? ⟨n,13,none⟩=some (.int .i64 (e:Int))/\d.cell? ⟨n,4+e*3,none⟩=some (.slice (some ⟨p,0,none⟩) c c)):=⟨(i.2.cell q).trans j,(i.2.cell q).trans o⟩;have D:=qg i;clear i))
 go_wp2;go_ret;exact⟨_,rfl,qb D⟩
end Go.Proofs.YtbnbkjbfpamijaaGreat
