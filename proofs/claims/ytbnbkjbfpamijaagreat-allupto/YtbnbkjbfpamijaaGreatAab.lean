import Derived.Test.YtbnbkjbfpamijaaGreatAaa
import Derived.Laws.CopyRow
import Derived.WalkSpells
import Derived.StillTactics
import Derived.OwnWalk
import Derived.Laws.Pointers
import Derived.BigRegion
import Derived.BigQuiet
import Derived.Deep.QuietTactic
import Derived.Deep.RegionHeld3
import Derived.Deep.RegionLaw
import Derived.Lib.Overlaps
import Derived.Laws.Externs
import Derived.Laws.AppendOwnNone
import Derived.Laws.MakeOwn
import Derived.Deep.DrawnRows
import Derived.Deep.CutBlock
import Derived.Deep.CutRange
import Derived.Laws.Bits64b
import Derived.Laws.StructEq
import Derived.MapKept
import Derived.WideKeyRuns
set_option linter.all false
set_option maxRecDepth 100000
set_option maxHeartbeats 0
namespace Go.Proofs.YtbnbkjbfpamijaaGreat
open Go.RowKit Go.Proofs.Panes
variable{w:World}{b g i j n t:Nat}{a1 d:TypeId}{P:Program}
abbrev P2:=Value×Value
def c2 (b:List P2):List Value:=b.flatMap fun a=>[a.1,a.2]
def qx3:c2 []=[]:=rfl
def jd (a:P2)(b:List P2):c2 (a::b)=a.1::a.2::c2 b:=rfl
def zs (a b:List P2):c2 (a++b)=c2 a++c2 b:=by simp[c2]
def zV (a:List P2):(c2 a).length=a.length*2:=by
 induction a with
 | nil=>rfl
 | cons c a b=>rw[jd];simp[b];omega
def yG:∀ (b:List P2)(a:Nat),(c2 b).take (a*2)=c2 (b.take a)
 | [],a=>by simp[c2]
 | c::b,0=>by simp[c2]
 | c::b,a+1=>by
  rw[show (a+1)*2=a*2+1+1 by omega,jd,dJ,dJ,yG b a,dJ,jd]
def yH:∀ (b:List P2)(a:Nat),(c2 b).drop (a*2)=c2 (b.drop a)
 | [],a=>by simp[c2]
 | c::b,0=>by simp
 | c::b,a+1=>by
  rw[show (a+1)*2=a*2+1+1 by omega,jd,fK,fK,yH b a,fK]
def XV:∀ (c:List P2)(a:Nat)(b:P2),c[a]?=some b->(c2 c)[a*2]?=some b.1/\(c2 c)[a*2+1]?=some b.2
 | [],a,b,d=>by simp at d
 | e::c,0,b,d=>by simp at d;subst d;simp[jd]
 | e::c,a+1,b,d=>by
  have f:=XV c a b (by simpa using d);rw[jd,show (a+1)*2=a*2+1+1 by omega,show a*2+1+1+1=(a*2+1)+1+1 by omega];simpa using f
def qx4:∀ (b c:List P2),c2 b=c2 c->b=c
 | [],[],_=>rfl
 | [],d::c,a=>by simp[jd,qx3] at a
 | e::b,[],a=>by simp[jd,qx3] at a
 | e::b,d::c,a=>by
  rw[jd,jd] at a;simp only[bE] at a;rw[qx4 b c a.2.2,show e=d from Prod.ext a.1 a.2.1]
def rI:∀ (a:Nat)(c:List Value),c.length=a*2->∃ d:List P2,d.length=a/\c2 d=c
 | 0,c,b=>⟨[],rfl,(bX (by omega)).symm⟩
 | a+1,[],b=>by simp at b
 | a+1,[e],b=>by simp at b;omega
 | a+1,e::f::c,b=>by
  obtain⟨d,g,h⟩:=rI a c (by simp at b;omega);exact⟨(e,f)::d,by simp[g],by rw[jd,h]⟩
def yN (b:List P2):Prop:=∀ a∈b,a.1.oneCell'=true/\a.2.oneCell'=true
def yN.cells {a:List P2}(b:yN a):∀ c∈c2 a,c.oneCell'=true:=by
 intro c d;simp only[c2,du] at d;obtain⟨e,f,g⟩:=d;simp at g;rcases g with rfl | rfl
 ·exact (b e f).1
 ·exact (b e f).2
abbrev vi (a:World)(b:Nat)(c:TypeId)(d:List P2):Prop:=a.heap[b]?=some (.cells (c2 d).toArray c (0,0))
abbrev qN (b:World)(c:Nat)(d:TypeId)(e:Value)(a:List P2):Prop:=b.ownsRow c d 2 e a.length (c2 a)
def qN.row {a:List P2}(h:qN w n d (.slice (some ⟨i,0,none⟩) j g) a):∃ e,vi w i d (a++e)/\(a++e).length=g/\j=a.length/\n<=i/\g<=maxLen:=by
 rcases h.2 with ⟨b,_⟩ | ⟨k,t,l,b,m,o,u,p,q,r⟩
 ·cases b
 ·simp only[ai,ac,bz,bB] at b;obtain⟨rfl,rfl,rfl⟩:=b;obtain⟨c,v,f⟩:=rI g l.toList (by simpa using q);have s:c.take a.length=a:=(by apply qx4;rw[<-yG,f,r]);refine⟨c.drop a.length,?_,?_,rfl,m,p⟩
  ·rw[show a++c.drop a.length=c by conv=>lhs;rw[<-s];rw[ao,bK (by omega)];rw[ap]];show w.heap[i]?=_;rw[f,o]
  ·rw[ae,aV];omega
def kQ {cap:Nat}{a b:List P2}(e:vi w i d (a++b))(c:(a++b).length=cap)(f:n<=i)(g:cap<=maxLen):qN w n d (.slice (some ⟨i,0,none⟩) a.length cap) a:=by
 refine⟨zV a,.inr ⟨i,cap,_,rfl,f,e,by simp at c;omega,g,by simp[zV];simp at c;omega,?_⟩⟩;rw[dI,yG];simp
def qx2 (c:P2):∀ (b a:Nat),a<b*2->(c2 (List.replicate b c))[a]?=some (#[c.1,c.2][a%2]!)
 | 0,a,d=>by omega
 | b+1,0,d=>by simp[bU,jd]
 | b+1,1,d=>by simp[bU,jd]
 | b+1,a+2,d=>by
  have:=qx2 c b a (by omega);rw[bU,jd,show (a+2)%2=a%2 by omega];simpa using this
def J9 (a:P2)(b:Nat):(Builtin.zeroCells #[a.1,a.2] b).toList=c2 (List.replicate b a):=by
 apply bh;intro c;by_cases d:c<b*2
 ·rw[qx2 a b c d];simp[Builtin.zeroCells,d]
 ·rw[aI (by simp[Builtin.zeroCells];omega),aI (by rw[zV];simp;omega)]
def jv {e:TypeId}{c a:List P2}{f:Addr}(p:P.underlying d=some (.slice e))(l:(P.info? e).map (·.size)=some 2)(q:vi w n e c) (B:c.length=g) (h:a.length=b) (r:∀ j v,(c2 a)[j]?=some v->w.cell? (f.add j)=some v) (s:i+b<=g) (u:yN a):(Builtin.append_ #[d,d] a1 #[.slice (some ⟨n,0,none⟩) i g,.slice (some f) b t]).run P w=.ok (.slice (some ⟨n,0,none⟩) (i+b) g) (w.setRow n (c2 (c.take i++a++c.drop (i+b))).toArray):=by
 have m:=eV (P:=P) w f (c2 a) r;have o:=eB P n (i*2) e (c2 a) 0 _ w q (by simp[zV,h];omega) u.cells;cases k:P.info? e with
 | none=>simp[k] at l
 | some x=>
  have y:x.size=2:=(by simpa[k] using l);rw[zV,h] at m;have z:(⟨n,0,none⟩:Addr).add (i*2)=⟨n,i*2,none⟩:=(by unfold Addr.add;split<;>simp_all);have A:(c2 c).take (i*2+0)++c2 a++(c2 c).drop (i*2+0+(c2 a).length)=c2 (c.take i++a++c.drop (i+b)):=(by rw[bL,yG,zV,h,<-dO,yH,zs,zs]);rw[dI,A] at o;simp[Builtin.append_,cV p,Builtin.lenOf,Builtin.firstCells,sizeOf,typeInfo,k,y,m,z,o,s]
def Qe {e:TypeId}{c a:List P2}{f:Addr}{sl:Nat}(o:P.underlying d=some (.slice e))(k:(P.info? e).map (·.size)=some 2)(p:vi w n e c) (q:a.length=Nat.min sl g) (r:∀ j v,(c2 a)[j]?=some v->w.cell? (f.add j)=some v) (z:i+a.length<=c.length) (s:yN a):(Builtin.copy_ #[d,d] a1 #[.slice (some ⟨n,i*2,none⟩) g b,.slice (some f) sl t]).run P w=.ok (goInt a.length) (w.setRow n (c2 (c.take i++a++c.drop (i+a.length))).toArray):=by
 have l:=eV (P:=P) w f (c2 a) r;have m:=eB P n (i*2) e (c2 a) 0 _ w p (by simp[zV];omega) s.cells;cases h:P.info? e with
 | none=>simp[h] at k
 | some u=>
  have x:u.size=2:=(by simpa[h] using k);rw[zV] at l;have y:(c2 c).take (i*2+0)++c2 a++(c2 c).drop (i*2+0+(c2 a).length)=c2 (c.take i++a++c.drop (i+a.length)):=(by rw[bL,yG,zV,<-dO,yH,zs,zs]);rw[dI,y] at m;simp[Builtin.copy_,cV o,Builtin.lenOf,Builtin.firstCells,sizeOf,typeInfo,h,x,<-q,l,m]
def xj {b:TypeId}{o m:Nat}{a:List P2}{z:P2}(e:P.underlying d=some (.slice b))(f:(zeroValue b).run P w=.ok (.agg #[z.1,z.2]) w)(g:vi w n b a) (q:0<m) (r:o+m<=a.length) (h:z.1.oneCell'=true/\z.2.oneCell'=true):(Builtin.clear_ #[d] a1 #[.slice (some ⟨n,o*2,none⟩) m i]).run P w=.ok (.tuple #[]) (w.setRow n (c2 (a.take o++List.replicate m z++a.drop (o+m))).toArray):=by
 have j:yN (List.replicate m z):=fun s k=>by rw[List.eq_of_mem_replicate k];exact h
 have c:=eB P n (o*2) b (c2 (List.replicate m z)) 0 _ w g (by simp[zV];omega) j.cells;have l:(c2 a).take (o*2+0)++c2 (List.replicate m z)++(c2 a).drop (o*2+0+(c2 (List.replicate m z)).length)=c2 (a.take o++List.replicate m z++a.drop (o+m)):=(by rw[bL,yG,zV,aS,<-dO,yH,zs,zs]);rw[dI,l] at c;cases m with
 | zero=>omega
 | succ m=>
  have p:(Value.agg #[z.1,z.2]).cells=#[z.1,z.2]:=rfl;simp[Builtin.clear_,cV e,f,p,J9,c,-List.reduceReplicate]
variable{F:Array Oper}{p:Oper}{s:Act}{b3:Act→World→Prop}{D:Exit→Act→World→Prop}{b2:Prop}
def yO (h:p.guard=none)(b c:Operand)(a:TypeId)(i:p.op=Op.call {callee:=Callee.builtin Builtin.append,args:=#[b,c],argTypes:=#[a,a]})(d e f:Value) (g:World) (j:s.eval b=d) (k:s.eval c=e) (l:∀ ty,(Builtin.append_ #[a,a] ty #[d,e]).run P w=.ok f g) (m:b3 (s.put p.dst f) g):if Region.wanted p (yielded F s.tmps)=true then Oper.wp P p s w b3 D else b2:=by
 have n:Region.wanted p (yielded F s.tmps)=true:=(by simp[Region.wanted,h]);rw[an n];unfold Oper.wp;simp[execOp,i,resolve,invoke,builtin,j,k,l,Result.andThen];exact m
def Xd (h:p.guard=none)(b c:Operand)(a:TypeId)(i:p.op=Op.call {callee:=Callee.builtin Builtin.copy,args:=#[b,c],argTypes:=#[a,a]})(d e f:Value) (g:World) (j:s.eval b=d) (k:s.eval c=e) (l:∀ ty,(Builtin.copy_ #[a,a] ty #[d,e]).run P w=.ok f g) (m:b3 (s.put p.dst f) g):if Region.wanted p (yielded F s.tmps)=true then Oper.wp P p s w b3 D else b2:=by
 have n:Region.wanted p (yielded F s.tmps)=true:=(by simp[Region.wanted,h]);rw[an n];unfold Oper.wp;simp[execOp,i,resolve,invoke,builtin,j,k,l,Result.andThen];exact m
def QW:(Tryz.prog.info? 173).map (fun a=>(a.zero,a.size,a.bytes))=some (some (.agg #[.int .i64 0,.int .i64 0]),2,16):=by kernel_rfl
def X0:P2:=(.int .i64 0,.int .i64 0)
def Yu {base cap:Nat}{l:List P2}(J:qN w base 173 (.slice (some ⟨g,0,none⟩) l.length cap) l)(h1:yN l)(a c:Nat)(K:a<c)(L:c<=l.length)(d0:l.length<=1000)(m:List P2)(B:m=l.take a++l.drop c):Calls Tryz.prog 155 #[.slice (some ⟨g,0,none⟩) l.length cap,.int .i64 (a:Int),.int .i64 (c:Int)] w fun a9 M=> a9=.returned (.slice (some ⟨g,0,none⟩) m.length cap)/\qN M base 173 (.slice (some ⟨g,0,none⟩) m.length cap) m/\gp (fun s=>s=g) w M:=by
 obtain⟨b0,N,u,_,b1,b2⟩:=J.row;obtain⟨e,n⟩:=zx l.length;have d1:e<=cap:=(by simp at u;omega);rw[<-n];have O:=qg N;have C:=qg n;have b3:=qg h1;have d2:(0:Int)<=(a:Int):=(by omega);have d3:(a:Int)<=(c:Int):=(by omega);have d4:(c:Int)<=(e:Int):=(by omega);have d5:(e:Int)<=(cap:Int):=(by omega);have d6:((a:Int) == (c:Int))=false:=(by simp;omega);clear J N h1 n;go_enter Tryz.func155,Tryz.ntmps155;go_wp2;obtain⟨d,v⟩:=zx (l++b0);have x:d.length=cap:=(by rw[v];exact u);have n:=qb C;have P:d.take e=l:=(by rw[v,n];simp);obtain⟨i,D⟩:=zx (e-c);obtain⟨f,t⟩:=zx (l.drop c);have p:f.length=i:=(by rw[t,aV];omega);have E:yN f:=fun b4 b5=>(qb b3) b4 (bm (t ▸ b5));have Q:∀ (j:Nat)(q:Value),(c2 f)[j]?=some q->w.cell? ⟨g,c*2+j,none⟩=some q:=by
  intro j q k;have:=qb O;rw[qe this];rw[bR,zs,aM (by
   have:=(zzg k).1;rw[zV,p] at this;rw[zV];omega)]
  rw[t,<-yH,bw] at k;exact k
 have y:vi w.drew g 173 d:=(by rw[v];exact qb O);obtain⟨d7,R,b6,S,b7⟩:=aZ QW;have F:(Tryz.prog.info? 173).map (·.size)=some 2:=(by rw[R];simp[S]);obtain⟨r,A⟩:=zx (w.drew.setRow g (c2 (d.take a++f++d.drop (a+i))).toArray);obtain⟨b,T⟩:=zx (a+(e-c));have U:∀ V,(Builtin.append_ #[170,170] V #[.slice (some ⟨g,0,none⟩) a cap,.slice (if cap=c then some ⟨g,0,none⟩ else some ⟨g,c*2,none⟩) (e-c) (cap-c)]).run Tryz.prog w.drew=.ok (.slice (some ⟨g,0,none⟩) b cap) r:=by
  intro V;rw[T,A,<-D];by_cases W:cap=c
  ·rw[an W];refine jv Tryz.underlying170 F y x p ?_ (by omega) E;intro j q k;rw[bX (p.trans (by omega))] at k;simp[c2] at k
  ·rw[ah W];refine jv Tryz.underlying170 F y x p ?_ (by omega) E;intro j q k;have b8:(⟨g,c*2,none⟩:Addr).add j=⟨g,c*2+j,none⟩:=(by unfold Addr.add;split<;>simp_all);rw[b8];exact Q j q k
 have X:vi r g 173 (d.take a++f++d.drop (a+i)):=(by rw[A];exact da _ _ _ _ _ _ y);have Y:gp (fun s=>s=g) w r:=(by rw[A];exact⟨rfl,rfl,rfl,by simp,fun s _ G=>ct _ _ _ _ G⟩);have b9:=qg U;have Z:=qg X;have c0:=qg Y;have c1:=qg t;have c3:=qg P;have H:=qg x;have a0:=qg p;have d8:=qg u;clear U X Y Q y E v t P x p u n b6 S b7 F R;have d9:(a:Int)<=(cap:Int):=(by omega);have e0:(c:Int)<=(cap:Int):=(by omega);have e1:(b:Int)<=(e:Int):=(by omega);have e2:¬cap=b:=(by omega);have e3:(0:Int)<=(b:Int):=(by omega);have c4:0<e-b:=(by omega);have a1:b=a+i:=(by omega);have a2:b+(e-b)=e:=(by omega);have a3:m.length=b:=(by rw[B,ae,ao,aV,<-qb C];omega);have a4:=qg (ci a1 (ci a2 (ci a3 (ci K (ci L D)))));have c5:=qg B;clear A D T a1 a2 a3 L K B;obtain⟨c6,I⟩:=zx (r.setRow g (c2 ((d.take a++f++d.drop (a+i)).take b++List.replicate (e-b) X0++(d.take a++f++d.drop (a+i)).drop (b+(e-b)))).toArray);have e4:∀ a5,(Builtin.clear_ #[170] 0 #[.slice (some ⟨g,b*2,none⟩) (e-b) a5]).run Tryz.prog r=.ok (.tuple #[]) c6:=fun a5=>by
  rw[I];exact xj (m:=e-b) (o:=b) (z:=X0) Tryz.underlying170 (by rfl) (qb Z) c4 (by rw[ae,ae,ao,aV,qb a0,qb H];have:=qb a4;omega) ⟨rfl,rfl⟩
 have c7:=qg I;clear I;go_region_law (refine yO (by rfl) _ _ 170 (by rfl) _ _ _ _ (by rfl) (by rfl) (qb b9) ?_);simp only[Exit.then];go_simp;go_wp2;all_goals
  go_ret;rw[qb c7];obtain⟨e5,e6,a6,e7,e8,e9⟩:=qb a4;have n:=qb C;have c8:(d.take a++f).length=b:=(by rw[ae,ao,qb a0,qb H];omega);have c9:d.take a++f=m:=by
   rw[qb c1,qb c5];congr 1;rw[<-qb c3,dz,bK (by omega)]
  have a7:(d.take a++f++d.drop (a+i)).take b=m:=(by rw[bi (by omega),aL (by omega),c9]);refine⟨by rw[a6];rfl,?_,?_⟩
  ·have a8:=da r g _ (c2 ((d.take a++f++d.drop (a+i)).take b++List.replicate (e-b) X0++(d.take a++f++d.drop (a+i)).drop (b+(e-b)))).toArray _ _ (qb Z);rw[a7,aN] at a8;rw[a7,aN];refine kQ a8 ?_ b1 (by first | exact b2 | omega);rw[ae,a6,ae,aS,aV,ae,c8,aV,qb H];omega
  ·exact (qb c0).trans ⟨rfl,rfl,rfl,by simp,fun s _ G=>ct _ _ _ _ G⟩
variable{J:List Oper}
def QB (h:p.guard=none)(b c:Operand)(a:TypeId)(i:p.op=.call {callee:=.builtin .append,args:=#[b,c],argTypes:=#[a,a]}) (d e f:Value) (g:World) (j:s.eval b=d) (k:s.eval c=e) (l:∀ ty,(Builtin.append_ #[a,a] ty #[d,e]).run P w=.ok f g)(m:wpList P F D J (s.put p.dst f) g):wpList P F D (p::J) s w:=by
 refine eA h fun o n=>?_;unfold Oper.wp;simp[execOp,i,resolve,invoke,builtin,j,k,l,Result.andThen];exact n _ _ m
def Zy (a b c:Nat):(⟨a,b,none⟩:Addr).add c=⟨a,b+c,none⟩:=by unfold Addr.add;split<;>simp_all
def Yt {base cap vb:Nat}{l:List P2}{p:P2}(O:qN w base 173 (.slice (some ⟨g,0,none⟩) l.length cap) l)(h1:yN l)(P:p.1.oneCell'=true/\p.2.oneCell'=true)(n:w.heap[vb]?=some (.cells #[p.1,p.2] 173 (0,0)))(a0:vb≠g)(a:Nat)(b8:a<=l.length)(b9:l.length<cap)(c0:l.length<=1000)(i:List P2)(v:i=l.take a++p::l.drop a):Calls Tryz.prog 154 #[.slice (some ⟨g,0,none⟩) l.length cap,.int .i64 (a:Int),.slice (some ⟨vb,0,none⟩) 1 1] w fun c1 a1=> c1=.returned (.slice (some ⟨g,0,none⟩) i.length cap)/\qN a1 base 173 (.slice (some ⟨g,0,none⟩) i.length cap) i/\gp (fun c=>c=g) w a1:=by
 obtain⟨c3,j,k,_,a2,a3⟩:=O.row;obtain⟨b,x⟩:=zx l.length;obtain⟨m,y⟩:=zx (l++c3);rw[<-y] at j k;rw[<-x];have G:m.take b=l:=(by rw[y,x];simp);have s:i.length=b+1:=(by rw[v];simp;omega);obtain⟨d0,Q,a4,R,a5⟩:=aZ QW;have z:(Tryz.prog.info? 173).map (·.size)=some 2:=(by rw[Q];simp[R]);have H:∀ (S:World),S.heap[vb]?=some (.cells #[p.1,p.2] 173 (0,0))->∀ (I:Nat)(J:Value),(c2 [p])[I]?=some J->S.cell? ((⟨vb,0,none⟩:Addr).add I)=some J:=(by intro S c4 I J A;rw[Zy,bA,qe c4];simpa[c2] using A);have K:yN [p]:=fun a6 L=>by simp at L;subst L;exact P
 have d1:(0:Int)<=(a:Int):=(by omega);have d2:(a:Int)<=(b:Int):=(by omega);have d3:(b:Int)<=(cap:Int):=(by omega);by_cases a7:a=b
 ·have a8:i=l++[p]:=(by rw[v,a7,x];simp);obtain⟨d,e⟩:=zx (w.setRow g (c2 (m.take b++[p]++m.drop (b+1))).toArray);have a9:∀ f,(Builtin.append_ #[170,170] f #[.slice (some ⟨g,0,none⟩) b cap,.slice (some ⟨vb,0,none⟩) 1 1]).run Tryz.prog w=.ok (.slice (some ⟨g,0,none⟩) (b+1) cap) d:=fun f=>by
   rw[e];exact jv Tryz.underlying170 z j k rfl (H w n) (by omega) K
  have o:vi d g 173 (m.take b++[p]++m.drop (b+1)):=(by rw[e];exact da _ _ _ _ _ _ j);rw[G,aN,<-aN,<-a8] at o;have B:=kQ o (by rw[ae,s,aV,k];omega) a2 a3;have C:gp (fun c=>c=g) w d:=(by rw[e];exact⟨rfl,rfl,rfl,by simp,fun c _ D=>ct _ _ _ _ D⟩);have T:=qg B;have U:=qg C;have c5:=qg a9;have V:=qg s;subst a7;clear B C a9 s o e a8 v G H K j n h1 O Q a4 R a5 z y x P;go_enter Tryz.func154,Tryz.ntmps154;go_wp2_with (at_builtin;refine QB rfl _ _ 170 rfl _ _ _ _ rfl rfl (qb c5) ?_);go_ret;exact⟨by rw[qb V];rfl,qb T,qb U⟩
 ·have d4:a<b:=(by omega);have c6:∀ W X,(callFunc 165 #[.slice (some ⟨vb,0,none⟩) 1 1,.slice (some ⟨g,(a+1)*2,none⟩) W X]).run Tryz.prog w=.ok (.value (.bool false)) w:=fun W X=>by
   rw[run_callFunc_extern Tryz.func165 (by kernel_rfl) (by kernel_rfl) (by kernel_rfl) (e:=Extern.SlicesOverlaps.overlaps #[170,170] #[4]) (by kernel_rfl),
    Lib.run_overlaps_apart w 170 4 173 Tryz.underlying170 2 (fun w=>by rfl) ⟨vb,0,none⟩ ⟨g,(a+1)*2,none⟩ 1 1 W X a0 173 173 2 (cap*2) (by simp[World.shape?,n]) (by simp[World.shape?,j,zV,k]) (by omega) (qj n _) (qj n _)]
   rfl
  obtain⟨q,t⟩:=zx (l.drop a);have u:q.length=b-a:=(by rw[t,aV];omega);have b0:yN q:=fun a6 L=>h1 a6 (bm (t ▸ L));obtain⟨h,E⟩:=zx (m.take (a+1)++q++m.drop (a+1+q.length));obtain⟨d,e⟩:=zx (w.drew.setRow g (c2 h).toArray);have b1:∀ r F sl b2 f,Nat.min sl r=b-a->(Builtin.copy_ #[170,170] f #[.slice (some ⟨g,(a+1)*2,none⟩) r F,.slice (some ⟨g,a*2,none⟩) sl b2]).run Tryz.prog w.drew=.ok (goInt q.length) d:=fun r F sl b2 f Y=>by
   rw[e,E];refine Qe (w:=w.drew) Tryz.underlying170 z j (by rw[u,Y]) ?_ (by rw[u,k];omega) b0;intro I J A;rw[Zy];show w.cell? _=_;rw[qe j,bR];have c7:=(zzg A).1;rw[zV,u] at c7;rw[y,zs,aM (by rw[zV];omega)];rw[t,<-yH,bw] at A;exact A
  have o:vi d g 173 h:=(by rw[e];exact da w.drew g _ _ _ _ j);have b3:d.heap[vb]?=some (.cells #[p.1,p.2] 173 (0,0)):=(by rw[e];exact (ct _ _ _ _ a0).trans n);have b4:h.length=cap:=(by rw[E];simp[u,k];omega);obtain⟨M,N⟩:=zx (d.setRow g (c2 (h.take a++[p]++h.drop (a + [p].length))).toArray);have b5:∀ r F f,1<=r->(Builtin.copy_ #[170,170] f #[.slice (some ⟨g,a*2,none⟩) r F,.slice (some ⟨vb,0,none⟩) 1 1]).run Tryz.prog d=.ok (goInt [p].length) M:=fun r F f d5=>by
   rw[N];exact Qe Tryz.underlying170 z o (by show 1=_;simp only[Nat.min_def];split<;>omega) (H d b3) (by rw[b4];simp;omega) K
  have Z:vi M g 173 (h.take a++[p]++h.drop (a+1)):=(by rw[N];exact da _ _ _ _ _ _ o);have b6:h.take a=l.take a:=(by rw[E,aN,bi (by rw[ao,k];omega),dz,bK (by omega),<-G,dz,bK (by omega)]);have b7:h.drop (a+1)=q++m.drop (a+1+q.length):=(by rw[E,aN,eO (by rw[ao,k];omega),bI (by rw[ao];omega),cd]);have B:qN M base 173 (.slice (some ⟨g,0,none⟩) i.length cap) i:=(by rw[b6,b7,<-aN,t,show l.take a++[p]++l.drop a=i by rw[v];simp] at Z;exact kQ Z (by rw[ae,s,aV,k,<-t,u];omega) a2 a3);have C:gp (fun c=>c=g) w M:=(by rw[N,e];exact (show gp (fun c=>c=g) w (w.drew.setRow g (c2 h).toArray) from⟨rfl,rfl,rfl,by simp,fun c _ D=>ct _ _ _ _ D⟩).trans ⟨rfl,rfl,rfl,by simp,fun c _ D=>ct _ _ _ _ D⟩);have T:=qg B;have U:=qg C;have V:=qg s;have c8:=qg b1;have c9:=qg b5;have d6:IntKind.i64.wrap ((b:Int)+1)=((b+1:Nat):Int):=(by rw[af];omega);have d7:IntKind.i64.wrap ((a:Int)+1)=((a+1:Nat):Int):=(by rw[af];omega);have d8:((b+1:Nat):Int)<=(cap:Int):=(by omega);have d9:((a:Int) == (b:Int))=false:=(by simp;omega);have e0:((a+1:Nat):Int)<=((b+1:Nat):Int):=(by omega);have e1:(a:Int)<=((b+1:Nat):Int):=(by omega);have e2:(0:Int)<=((a+1:Nat):Int):=(by omega);have e3:(0:Int)<=((b+1:Nat):Int):=(by omega);have e4:¬cap=a+1:=(by omega);have e5:¬cap=a:=(by omega);have e6:(0:Int)<=(a:Int)+1:=(by omega);have e7:(a:Int)+1<=(b:Int)+1:=(by omega);have e8:(a:Int)<=(b:Int)+1:=(by omega);have e9:¬((b+1:Nat):Int) > (cap:Int):=(by omega);have Y:Nat.min (b+1-a) (b-a)=b-a:=(by simp only[Nat.min_def];split<;>omega);clear B C b1 b5 o Z b3 e N E b0 u t b6 b7 s v G H K j n h1 O Q a4 R a5 z y P b4 x c0 b9 b8;go_enter Tryz.func154,Tryz.ntmps154;go_wp2_with (simp only[c6]);go_region_law (refine Xd (by kernel_rfl) (.tmp 73) (.tmp 76) 170 (by kernel_rfl) (.slice (some ⟨g,(a+1)*2,none⟩) (b-a) (cap-(a+1))) (.slice (some ⟨g,a*2,none⟩) (b+1-a) (cap-a)) _ _ (by kernel_rfl) (by kernel_rfl) (fun f=>(qb c8) _ _ _ _ f Y) ?_);simp only[Exit.then];go_simp;have f0:=(qb c9) (b+1-a) (cap-a) 3 (by omega);go_wp2;go_ret;exact⟨by rw[qb V];rfl,qb T,qb U⟩
variable{v:Value}{b1:List P2}
def zq (i:p.guard=none)(b c:Operand)(a d:TypeId)(j:p.op=.call {callee:=.builtin .append,args:=#[b,c],argTypes:=#[a,a]}) (k:p.type=d) (e f g:Value) (h:World) (l:s.eval b=e) (m:s.eval c=f) (n:(Builtin.append_ #[a,a] d #[e,f]).run P w=.ok g h)(o:wpList P F D J (s.put p.dst g) h):wpList P F D (p::J) s w:=by
 refine eA i fun r q=>?_;unfold Oper.wp;simp[execOp,j,k,resolve,invoke,builtin,l,m,n,Result.andThen];exact q _ _ o
def KV (e:qN w 0 173 v b1)(h1:yN b1)(D:b1.length<=100000000):Calls Tryz.prog 75 #[v] w fun b k=>(∃ l,b=.returned l/\qN k w.heap.size 173 l b1)/\Below w.heap.size w k:=by
 rcases e.2 with ⟨rfl,m⟩ | ⟨f,n,Q,rfl,_,g,E,F,G,o⟩
 ·have H:=bX m;subst H;have I:(binOp .eql 170 (.slice none 0 0) (.slice none 0 0)).run Tryz.prog w=.ok (.bool true) w:=Lib.run_eql_slice_nil w _ _ _ _ _ _ _ Tryz.underlying170;clear e h1 D m;go_enter Tryz.func75,Tryz.ntmps75;go_wp2;go_ret;exact⟨⟨_,rfl,⟨rfl,.inl ⟨rfl,rfl⟩⟩⟩,aa _ _⟩
 ·obtain⟨a,c⟩:∃ a:World,a=w.alloc (.cells #[] 173):=⟨_,rfl⟩;have d:Below w.heap.size w a:=(by rw[c];exact (aa _ w).alloc (zzl _) _);have p:a.heap[w.heap.size]?=some (.cells #[] 173):=(by rw[c];exact qt _ _ _ rfl);have q:a.ownsRow w.heap.size 173 2 (.slice (some ⟨w.heap.size,0,none⟩) 0 0) 0 []:=⟨rfl,.inr ⟨w.heap.size,0,_,rfl,zzl _,p,zzl _,aj _,rfl,rfl⟩⟩;obtain⟨J,r,s,t,u⟩:=aZ QW;have x:a.heap[f]?=_:=(d.block _ (qh g)).trans g;obtain⟨K,L,h,i,y,_,_⟩:=cE (P:=Tryz.prog) (w:=a) w.heap.size 170 170 173 J _ 2 16 Tryz.underlying170 r s t u rfl (by decide) (.slice (some ⟨w.heap.size,0,none⟩) 0 0) 0 [] q ⟨f,0,none⟩ b1.length n (c2 b1) (zV b1) (by
   intro R T z;have A:=(zzg z).1;rw[Zy,bA,qe x,<-dB,<-z,<-o,ey,an (by rw[zV] at A;exact A)]) h1.cells (by simp only[maxLen];omega) (by omega) d.size
  have B:=d.trans ((gp.tJ (S:=fun j=>j=w.heap.size) y (fun j b=>(aA b).symm)).below d.size (fun j b=>by rw[b];exact zzl _));have C:qN L w.heap.size 173 K b1:=(by rw[bA] at i;exact i);have I:(binOp .eql 170 (.slice (some ⟨f,0,none⟩) b1.length n) (.slice none 0 0)).run Tryz.prog w=.ok (.bool false) w:=Lib.run_eql_slice_nil w _ _ _ _ _ _ _ Tryz.underlying170;rw[c] at h;have M:=qg h;have N:=qg C;have O:=qg B;have U:=qg c;clear i C B y h q p d x r s t u g E F G o e c h1;go_enter Tryz.func75,Tryz.ntmps75;go_wp2_with (at_builtin;refine zq rfl _ _ 170 170 rfl rfl _ _ _ _ rfl rfl (qb M) ?_);go_ret;exact⟨⟨_,rfl,qb N⟩,qb O⟩
variable{B' a7 q:Int}{S U:Nat→Prop}{w2:World}{h:List gt}{o:gt}{C x:List Bool}{R a2:List Int}{ch:Bool}
def jh:gz q B' a7=true↔B'<=q/\q<=a7:=by simp[gz]
def XK {n:Int}(a:¬(q<=n/\n<=B')):gz n q B'=false:=by
 cases b:gz n q B'
 ·rfl
 ·exact absurd (jh.1 b) a
structure hg where
 w:Int
 h:Int
 oA:Int
 queue:Int
 tK:Int
 hD:Int
 iE:Int
 behind:Int
def td (f:Nat->Prop)(a:World)(b c:Nat)(d:gt):Prop:=
 a.cell? ⟨b,c,none⟩=some (.int .i64 d.kind)/\a.cell? ⟨b,c+1,none⟩=some (.int .i64 d.iV)/\a.cell? ⟨b,c+2,none⟩=some (.int .i64 d.x)/\a.cell? ⟨b,c+3,none⟩=some (.int .i64 d.y)/\a.cell? ⟨b,c+4,none⟩=some (.int .i64 d.w)/\a.cell? ⟨b,c+5,none⟩=some (.int .i64 d.h)/\
 (∃ e,a.cell? ⟨b,c+6,none⟩=some e/\gS f a e d.px)/\a.cell? ⟨b,c+7,none⟩=some (.int .i64 d.mark)
def td.but {d S:Nat->Prop}{c e:World}(g:gp S c e){b h:Nat}{i:gt}(j:b<c.heap.size)(l:¬S b)(m:∀ k,d k->¬S k)(n:td d c b h i):td d e b h i:=by
 have a:∀ f,e.cell? ⟨b,f,none⟩=c.cell? ⟨b,f,none⟩:=fun f=>aH (g.block b j l);obtain⟨o,p,q,r,s,t,⟨u,v,w⟩,x⟩:=n;exact⟨(a _).trans o,(a _).trans p,(a _).trans q,(a _).trans r,(a _).trans s,(a _).trans t,⟨u,(a _).trans v,w.but g m⟩,(a _).trans x⟩
def gW (d:Nat->Prop)(e:World)(j:Value)(a:List gt):Prop:=
 ∃ f c,j=.slice f a.length c/\a.length<=c/\c<=maxLen/\(a≠[]->∃ b g,f=some ⟨b,g,none⟩/\d b/\b<e.heap.size/\∀ h i,a[h]?=some i->td d e b (g+h*8) i)
def gW.but {a S:Nat->Prop}{c d:World}{e:Value}{f:List gt}(m:gW a c e f)(g:gp S c d)(h:∀ k,a k->¬S k):gW a d e f:=by
 obtain⟨n,o,b,p,q,r⟩:=m;refine⟨n,o,b,p,q,fun s=>?_⟩;obtain⟨i,t,b,j,l,u⟩:=r s;exact⟨i,t,b,j,zzm l g.size,fun v w x=>(u v w x).but g l (h i j) h⟩
def gW.below (a:gW U w v h)(b:Below w.heap.size w w2):gW U w2 v h:=a.but (S:=fun _=>False) (.aD b) (fun _ _ a=>a)
def jw (a:gt):Int:=if a.kind=3 then a.w*a.h else 0
def qA (a:List gt):Int:=(a.length:Int)+(a.map jw).sum
def Qc (a:h[n]?=some o):((h.take (n+1)).map jw).sum=((h.take n).map jw).sum+jw o:=by
 rw[am,a];simp
def Qk (a:gt):Prop:=a.kind=3->(1<=a.w/\a.w<=8)/\(1<=a.h/\a.h<=8)
def QN (c:Qk o):0<=jw o/\jw o<=64:=by
 unfold jw;split
 ·rename_i d;obtain⟨⟨e,f⟩,g,h⟩:=c d;generalize o.w=a at *;generalize o.h=i at *;have:a=1\/a=2\/a=3\/a=4\/a=5\/a=6\/a=7\/a=8:=(by omega);rcases this with b | b | b | b | b | b | b | b<;>subst b<;>omega
 ·omega
def X4:∀ (a:List gt),(∀ b∈a,Qk b)->0<=(a.map jw).sum/\(a.map jw).sum<=64*a.length
 | [],_=>by simp
 | b::a,c=>by
  have f:=QN (c b (by simp));have g:=X4 a (fun d e=>c d (by simp[e]));simp only[aY,List.sum_cons,aX];omega
def qR (a:List Bool):List gt->Option (List Bool)
 | []=>some a
 | b::c=>(qP a b).bind fun d=>qR d c
def zF (d:List Bool):∀ (b c:List gt),qR d (b++c)=(qR d b).bind fun a=>qR a c:=by
 intro b;induction b generalizing d with
 | nil=>intro c;rfl
 | cons e b f=>
  intro c;show (qP d e).bind (fun a=>qR a (b++c))=((qP d e).bind fun a=>qR a b).bind fun a=>qR a c;cases qP d e with
  | none=>rfl
  | some a=>exact f a c
def vj (a:qR x (h.take n)=some C)(b:h[n]?=some o):qR x (h.take (n+1))=qP C o:=by
 rw[am,b,zF,a];show qR C [o]=_;show (qP C o).bind (fun c=>some c)=_;cases qP C o<;>rfl
def vk (a:qR x (h.take n)=some C)(b:h[n]?=some o)(c:qP C o=none):qR x h=none:=by
 rw[<-ap (n+1) h,zF,vj a b,c];rfl
def VS (a:qP x o=some C):Qk o:=by
 intro c;unfold qP at a;rw[ah (by omega)] at a;split at a
 ·rename_i b;simp only[aK] at b;have:=b.2;unfold zt at this;rw[ah (by omega),an c] at this;simp only[aK,jh] at this;exact⟨this.1.1.1,this.1.1.2⟩
 ·cases a
def xy:∀ (a:List gt)(b c:List Bool),qR b a=some c->∀ d∈a,Qk d
 | [],_,_,_=>by simp
 | d::a,b,c,i=>by
  intro j k;have e:(qP b d).bind (fun f=>qR f a)=some c:=i;cases g:qP b d with
  | none=>rw[g] at e;cases e
  | some f=>
   rw[g] at e;cases bf.1 k with
   | inl h=>subst h;exact VS g
   | inr h=>exact xy a f c e j h
def QP (a:World)(b:Obj)(c:Nat)(d:c=a.heap.size):(a.alloc b).drew.heap[c]?=some b:=qt a b c d
def jU (a:hg):Bool:=gz a.w 1 16&&gz a.h 1 16&&gz a.oA 1 4&&gz a.queue 1 8&&gz a.tK 1 300&&gz a.hD a.tK 600&&gz a.iE 1 4&&gz a.behind 1 4294967295
def vF (a:hg):Value:=.agg #[.int .i64 a.w,.int .i64 a.h,.int .i64 a.oA,.int .i64 a.queue,.int .i64 a.tK,.int .i64 a.hD,.int .i64 a.iE,.int .i64 a.behind]
def vx (a:Nat)(j:a<=17592186044416)(b:World):(Instr.makeSlice 50 (.int .i64 (a:Int)) (.int .i64 (a:Int))).run Tryz.prog b=.ok (.slice (some ⟨b.heap.size,0,none⟩) a a) (b.alloc (.cells (Array.replicate a (Value.int .i64 0)) 3)):=by
 obtain⟨d,e,f,g,h⟩:=aZ yg;have c:=fQ (P:=Tryz.prog) b 50 3 d _ Tryz.underlying50 e f .i64 .i64 (a:Int) (a:Int) (by omega) (co _) (by rw[h];omega) (by omega);have i:madeCells #[Value.int .i64 0] a=Array.replicate a (Value.int .i64 0):=(by apply fx;rw[eN,Array.toList_replicate]);simp only[bF,g] at c;rw[<-i];simpa[Value.cells] using c
def vU (b:World)(l r s f:TypeId)(g e c m t:Nat)(h:Addr)(Xe u:Nat)(d:Array Value)(n:TypeId)(a:List Value)(i:Nat)(w:P.underlying l=some (.slice f)) (o:(P.info? f).map (·.size)=some g)(x:b.heap[e]?=some (.cells d n (0,0))) (y:i=Nat.min Xe m) (p:a.length=i*g)(z:∀ j v,a[j]?=some v->b.cell? (h.add j)=some v) (A:c+a.length<=d.size) (B:∀ v∈a,v.oneCell'=true):(Builtin.copy_ #[l,r] s #[.slice (some ⟨e,c,none⟩) m t,.slice (some h) Xe u]).run P b = .ok (goInt i) (b.setRow e (d.toList.take c++a++d.toList.drop (c+a.length)).toArray):=by
 have q:=eV (P:=P) b h a z;have C:=eB P e c n a 0 d b x (by simpa using A) B;cases k:P.info? f with
 | none=>simp[k] at o
 | some D=>
  have E:D.size=g:=(by simpa[k] using o);rw[p] at q;simp[Builtin.copy_,cV w,Builtin.lenOf,Builtin.firstCells,sizeOf,typeInfo,k,E,<-y,q,C,p]
def Qd (a:World)(c h i b:TypeId)(d e:Option Addr)(f j Xe k:Nat)(l:P.underlying c=some (.slice b))(m:((P.info? b).map (·.size)).isSome=true)(n:Nat.min Xe f=0):(Builtin.copy_ #[c,h] i #[.slice d f j,.slice e Xe k]).run P a=.ok (goInt 0) a:=by
 cases g:P.info? b with
 | none=>simp[g] at m
 | some q=>
  have o:=fun p=>by simpa using eV (P:=P) a p [] (by simp)
  cases d<;>cases e<;>simp[Builtin.copy_,cV l,Builtin.lenOf,Builtin.firstCells,sizeOf,typeInfo,g,n,storeCells,o]
abbrev zh (b:World)(c:Nat)(d:Value)(a:List Int):Prop:=b.ownsRow c 3 1 d a.length (a.map (Value.int .i64))
def qr5 (a:Nat):zh w a (.slice none 0 0) []:=aQ _ _ _ _
def QU (b:List Int):∀ a∈b.map (Value.int .i64),a.oneCell'=true:=by
 intro a c;obtain⟨d,_,rfl⟩:=aC.1 c;rfl
def kP {cap:Nat}(b:zh w i (.slice (some ⟨g,0,none⟩) n cap) R)(c:n=R.length){x:Int}(a:R[j]?=some x):w.cell? ⟨g,j,none⟩=some (.int .i64 x):=by
 subst c;have d:=(zzg a).1;rw[aU b j (by omega)];simp[a]
def Zm (b:zh w n (.slice (some ⟨i,0,none⟩) j g) R)(c:j=R.length)(a:Nat):w.frozen? ⟨i,a,none⟩=false:=by
 subst c;exact bs b a
def Yh (a:Int)(c:zh w n (.slice (some ⟨i,0,none⟩) j g) (R++q::a2))(d:j=(R++q::a2).length):zh (w.setCell ⟨i,R.length,none⟩ (.int .i64 a)) n (.slice (some ⟨i,0,none⟩) j g) (R++a::a2):=by
 subst d;have b:=(aT c R.length (.int .i64 a)).1;have e:((R++q::a2).map (Value.int .i64)).set R.length (.int .i64 a)=(R++a::a2).map (Value.int .i64):=(by simp);rw[e] at b;have f:(R++a::a2).length=(R++q::a2).length:=(by simp);unfold zh;rw[f];exact b
def Js {A B:List Int}(b:zh w n (.slice (some ⟨i,0,none⟩) j g) (A++B)):zh w n (.slice (some ⟨i,0,none⟩) A.length g) A:=by
 rcases b.2 with ⟨a,_⟩ | ⟨m,o,c,a,d,e,f,h,k,l⟩
 ·cases a
 ·simp only[ai,ac,bz,bB] at a;obtain⟨rfl,a,rfl⟩:=a;refine⟨by simp,.inr ⟨i,g,c,rfl,d,e,by simp at f;omega,h,k,?_⟩⟩;have:=congrArg (List.take (A.length*1)) l;rw[dz,aE,bi (by simp),bK (by simp)] at this;rw[this,aL (by simp)]
def zh.rd {base:Nat}(a:zh w base v R):gS (fun c=>v.ownBlock=some c) w v R:=by
 rcases a.2 with ⟨rfl,d⟩ | ⟨b,e,j,rfl,k,f,g,h,l,m⟩
 ·have:=bQ.1 d;subst this;exact⟨none,0,rfl,by simp,by simp[maxLen],fun a=>absurd rfl a⟩
 ·refine⟨some ⟨b,0,none⟩,e,rfl,g,h,fun _=>⟨b,0,rfl,rfl,(bM.1 f).1,fun n o i=>?_⟩⟩;rw[bA];exact kP a rfl i
def Zk (b:World)(a c:Nat)(d:c<=b.heap.size)(g:a<=17592186044416):zh (b.alloc (.cells (Array.replicate a (Value.int .i64 0)) 3)) c (.slice (some ⟨b.heap.size,0,none⟩) a a) (List.replicate a 0):=by
 have f:=eD (base:=c) (e:=3) (size:=1) b (Array.replicate a (Value.int .i64 0)) a d (by unfold maxLen;omega) (by simp);unfold zh;rw[aS];simpa using f
def XT (I:p.guard=none)(o q:Operand)(r:p.op=.call {callee:=.builtin .copy,args:=#[o,q],argTypes:=#[50,50]}) (K:Nat->Prop) (t c d:Nat) (b a:List Int) (h:Value) (u:s.eval o=.slice (some ⟨c,0,none⟩) d d) (v:s.eval q=h)(x:zh w t (.slice (some ⟨c,0,none⟩) d d) b) (L:b.length=d) (M:gS K w h a) (N:a.length<=d)(y:∀ w',zh w' t (.slice (some ⟨c,0,none⟩) d d) (a++b.drop a.length)->w.grownBy w' (some c)->wpList Tryz.prog F D J (s.put p.dst (goInt a.length)) w'):wpList Tryz.prog F D (p::J) s w:=by
 obtain⟨a1,z,a2,O,a3⟩:=aZ yg;obtain⟨Q,A,rfl,a4,a5,R⟩:=M;refine eA I fun a6 B=>?_;by_cases C:a=[]
 ·subst C;have g:=Qd (P:=Tryz.prog) w 50 50 p.type 3 (some ⟨c,0,none⟩) Q d d 0 A Tryz.underlying50 (by rw[z];rfl) (by simp);have i:=y w (by simpa using x) ⟨rfl,rfl,rfl,zzl _,fun _ _ _=>rfl⟩;unfold Oper.wp;simp[execOp,r,resolve,invoke,builtin,u,v,g,Result.andThen];exact B _ _ (by simpa using i)
 ·obtain⟨j,k,rfl,_,a7,S⟩:=R C;rcases x.2 with ⟨e,_⟩ | ⟨E,a8,f,e,T,l,a9,U,G,V⟩
  ·cases e
  ·simp only[ai,ac,bz,bB] at e;obtain⟨rfl,e,rfl⟩:=e;subst L;have W:f.toList=b.map (Value.int .i64):=(by rw[<-V,aL (by simp[G])]);have g:=vU (P:=Tryz.prog) w 50 50 p.type 3 1 c 0 b.length b.length ⟨j,k,none⟩ a.length A f 3 (a.map (Value.int .i64)) a.length Tryz.underlying50 (by rw[z];simp[O]) l (bK N).symm (by simp) (fun m h H=>?_) (by simp[G];omega) (QU a)
   ·have e:(f.toList.take 0++a.map (Value.int .i64)++f.toList.drop (0+(a.map (Value.int .i64)).length))=(a++b.drop a.length).map (Value.int .i64):=(by rw[W,dw,cd,bA,ak,aE,ds]);rw[e] at g;have i:=y (w.setRow c ((a++b.drop a.length).map (Value.int .i64)).toArray) ?_ ?_
    ·unfold Oper.wp;simp[execOp,r,resolve,invoke,builtin,u,v,g,Result.andThen];exact B _ _ (by simpa using i)
    ·have n:(a++b.drop a.length).length=b.length:=(by simp;omega);unfold zh;rw[n];refine⟨by rw[ak,n];omega,.inr ⟨c,b.length,_,rfl,T,da w c f _ _ _ l,zzl _,U,by simp;omega,?_⟩⟩;rw[aL (by rw[ak,n];omega)]
    ·exact⟨rfl,rfl,rfl,by simp[World.setRow],fun E l X=>ct w c E _ (fun e=>X (by rw[e]))⟩
   ·have Y:(⟨j,k,none⟩:Addr).add m=⟨j,k+m,none⟩:=(by unfold Addr.add;split<;>simp_all);rw[Y];rw[aF] at H;obtain⟨Z,a0,rfl⟩:=cN.1 H;exact S m Z a0
structure hK where
 kind:Int
 iV:Int
 x:Int
 y:Int
 w:Int
 h:Int
 pv:Value
 mark:Int
def hS (a:hK):List Value:=[.int .i64 a.kind,.int .i64 a.iV,.int .i64 a.x,.int .i64 a.y,.int .i64 a.w,.int .i64 a.h,a.pv,.int .i64 a.mark]
def zv (a:List hK):List Value:=a.flatMap hS
def kh (a:hK)(b:List hK):zv (a::b)=hS a++zv b:=rfl
def vV (a b:List hK):zv (a++b)=zv a++zv b:=by simp[zv]
def zO (a:List hK):(zv a).length=a.length*8:=by
 induction a with
 | nil=>rfl
 | cons c a b=>rw[kh,ae,b];simp[hS];omega
def vn:∀ (d:List hK)(e:Nat)(a:hK),d[e]?=some a->∀ b,b<8->(zv d)[e*8+b]?=(hS a)[b]?
 | [],e,a,c=>by simp at c
 | g::d,0,a,c=>by
  intro b f;simp at c;subst c;rw[kh,ft,bA,aM (by simp[hS];omega)]
 | g::d,e+1,a,c=>by
  intro b f;rw[<-vn d e a (by simpa using c) b f,kh,aq (by simp[hS];omega)];congr 1;simp[hS];omega
abbrev vH (b:World)(c:Nat)(d:Value)(a:List hK):Prop:=b.ownsRow c 52 8 d a.length (zv a)
def QM {a:List hK}(e:vH w n (.slice (some ⟨i,0,none⟩) g b) a)(f:g=a.length){m:hK}(d:a[j]?=some m)(c:Nat)(h:c<8):w.cell? ⟨i,j*8+c,none⟩=(hS m)[c]?:=by
 subst f;have k:=(zzg d).1;rw[aU e _ (by omega),vn a j m d c h]
def Zl {a:List hK}(c:vH w n (.slice (some ⟨i,0,none⟩) j g) a)(d:j=a.length)(b:Nat):w.frozen? ⟨i,b,none⟩=false:=by
 subst d;exact bs c b
def KP (a:List hK)(h b:hK)(g:List hK):((((((((zv (a++h::g)).set (a.length*8) (.int .i64 b.kind)).set (a.length*8+1) (.int .i64 b.iV)).set (a.length*8+2) (.int .i64 b.x)).set (a.length*8+3) (.int .i64 b.y)).set (a.length*8+4) (.int .i64 b.w)).set (a.length*8+5) (.int .i64 b.h)).set (a.length*8+6) b.pv).set (a.length*8+7) (.int .i64 b.mark)=zv (a++b::g):=by
 rw[vV,vV];have c:∀ (d:List Value)(f:Nat)(e:Value),(zv a++d).set (a.length*8+f) e=zv a++d.set f e:=fun d f e=>by
  rw[bG _ _ (by rw[zO];omega),zO,ez]
 have i:∀ (d:List Value)(e:Value),(zv a++d).set (a.length*8) e=zv a++d.set 0 e:=fun d e=>c d 0 e;rw[i,c,c,c,c,c,c,c];rfl
def ZF (d:World)(a b:Nat)(c:hK):World:=
 (((((((d.setCell ⟨a,b*8,none⟩ (.int .i64 c.kind)).setCell ⟨a,b*8+1,none⟩ (.int .i64 c.iV)).setCell ⟨a,b*8+2,none⟩ (.int .i64 c.x)).setCell ⟨a,b*8+3,none⟩ (.int .i64 c.y)).setCell ⟨a,b*8+4,none⟩ (.int .i64 c.w)).setCell ⟨a,b*8+5,none⟩ (.int .i64 c.h)).setCell ⟨a,b*8+6,none⟩ c.pv).setCell ⟨a,b*8+7,none⟩ (.int .i64 c.mark)
def QL {a c:List hK}{d:hK}(b:hK)(f:vH w n (.slice (some ⟨i,0,none⟩) j g) (a++d::c))(h:j=(a++d::c).length):vH (ZF w i a.length b) n (.slice (some ⟨i,0,none⟩) j g) (a++b::c):=by
 subst h;have k:=(aT f (a.length*8) (.int .i64 b.kind)).1;have l:=(aT k (a.length*8+1) (.int .i64 b.iV)).1;have m:=(aT l (a.length*8+2) (.int .i64 b.x)).1;have o:=(aT m (a.length*8+3) (.int .i64 b.y)).1;have p:=(aT o (a.length*8+4) (.int .i64 b.w)).1;have q:=(aT p (a.length*8+5) (.int .i64 b.h)).1;have r:=(aT q (a.length*8+6) b.pv).1;have e:=(aT r (a.length*8+7) (.int .i64 b.mark)).1;rw[KP] at e;have s:(a++b::c).length=(a++d::c).length:=(by simp);unfold vH;rw[s];exact e
def kM {s:hK}(b:gp S w w2)(f:S n\/w.heap.size<=n):gp S w (ZF w2 n i s):=by
 have a:∀ (c:Nat)(d:Value){e:World},gp S w e->gp S w (e.setCell ⟨n,c,none⟩ d):=fun c d e b=>b.setCell (p:=⟨n,c,none⟩) f d;exact a _ _ (a _ _ (a _ _ (a _ _ (a _ _ (a _ _ (a _ _ (a _ _ b)))))))
def Qo {s:hK}(e:j≠n):(ZF w n i s).heap[j]?=w.heap[j]?:=by
 have a:∀ (b:World)(c:Nat)(d:Value),(b.setCell ⟨n,c,none⟩ d).heap[j]?=b.heap[j]?:=fun b c d=>eZ _ _ _ _ e;unfold ZF;rw[a,a,a,a,a,a,a,a]
def vq (a:¬o.kind=8)(b:(gz o.kind 1 7&&gz o.iV 0 ((x.length:Int)-1)&&(x.getD o.iV.toNat false != decide (o.kind=1))&&zt o)=false):qP x o=none:=by
 unfold qP;rw[ah a,ah (by rw[b];simp)]
def Jb (a:¬o.kind=8)(b:(gz o.kind 1 7&&gz o.iV 0 ((x.length:Int)-1)&&(x.getD o.iV.toNat false != decide (o.kind=1))&&zt o)=true):qP x o=some (x.set o.iV.toNat (decide (o.kind≠2))):=by
 unfold qP;rw[ah a,an b]
def yZ (a:x[n]?=some ch):x.set n ch=x:=by
 apply bh;intro c;by_cases b:n=c
 ·subst b;have:=(zzg a).1;rw[ar this,a]
 ·rw[bc b]
def Xq {f:Int->Bool}(a:R[n]?=some q):(R.take (n+1)).all f=((R.take n).all f&&f q):=by
 rw[am,a,List.all_append];simp
def YU {a:Int->Bool}(b:(R.take n).all a=false):R.all a=false:=by
 rw[<-ap n R,List.all_append,b];rfl
variable{ro:Option Addr}{xs:List Value}
def X9 (b:List Value)(d:Nat)(e:d<b.length):∀ (c a:Nat),a<c->(rep c b)[a*b.length+d]?=b[d]?
 | 0,a,f=>absurd f (et a)
 | c+1,0,_=>by
  unfold rep;rw[bU,dG,ft,bA,aM e]
 | c+1,a+1,f=>by
  have g:=X9 b d e c a (by omega);unfold rep at g ⊢;rw[bU,dG,aq (by rw[Nat.succ_mul];omega),<-g];congr 1;rw[Nat.succ_mul];omega
def mF (a:Int):List Value:=[.int .i64 (-1000-a)]
def lG (a:Int):List Value:=[.int .i64 (-1000-a),.int .i64 0]
def xA (h:w.ownsRow n d i (.slice ro j g) j xs)(m:0<j):∃ a,ro=some ⟨a,0,none⟩/\a<w.heap.size/\∀ b e,xs[b]?=some e->w.cell? ⟨a,b,none⟩=some e:=by
 rcases h.2 with ⟨d,k⟩ | ⟨a,o,p,d,q,f,r,s,k,l⟩
 ·omega
 ·simp only[ai] at d;obtain⟨rfl,-,rfl⟩:=d;refine⟨a,rfl,qh f,fun b e c=>?_⟩;rw[ea w a b _ _ _ f];rw[<-l,ey] at c;split at c
  ·simpa using c
  ·cases c
def XA (t u:Nat->Prop)(o p:Value)(c:List Int)(e:World)(h1:gS t e o c)(h2:gS u e p c)(v:c.length<=1000000):Calls Tryz.prog 20 #[o,p] e fun g w=>g=.returned (.bool true)/\∃ l,w=e.drewN l:=by
 obtain⟨x,F,rfl,-,-,q⟩:=h1;obtain⟨y,G,rfl,-,-,r⟩:=h2;obtain⟨d,m⟩:=zx c.length;have H:d<=1000000:=(by omega);rw[<-m];have z:Hid (∀ (a:Nat)(b:Int),c[a]?=some b->∃ h i j k,x=some ⟨h,i,none⟩/\y=some ⟨j,k,none⟩/\e.cell? ⟨h,i+a,none⟩=some (.int .i64 b)/\e.cell? ⟨j,k+a,none⟩=some (.int .i64 b)):=fun a b f=>by
  have s:c≠[]:=fun g=>by rw[g] at f;simp at f
  obtain⟨h,i,g,_,_,A⟩:=q s;obtain⟨j,k,B,_,_,C⟩:=r s;exact⟨h,i,j,k,g,B,A a b f,C a b f⟩
 have D:=qg m;have I:((d:Int) != (d:Int))=false:=(by simp);clear q r v m;go_enter Tryz.func20,Tryz.ntmps20;go_wp2;go_loopw [5] (fun n wr=>∃ a l:Nat,a<=d/\n=.int .i64 a/\wr=e.drewN l) (fun n _=>d-(intOf n).toNat)
 case atStart=>exact⟨0,0,aj _,rfl,rfl⟩
 case round=>
  obtain⟨a,l,J,rfl,rfl⟩:=hrel;by_cases K:a<d
  ·obtain⟨b,f⟩:∃ b,c[a]?=some b:=⟨c[a]'(by have:=qb D;omega),by simp⟩;obtain⟨h,i,j,k,rfl,rfl,L,M⟩:=(qb z) a b f;have N:(0:Int)<=(a:Int):=(by omega);have E:(a:Int)<(d:Int):=(by omega);have O:(b != b)=false:=(by simp);clear f;go_wp2;go_quiet (fail);go_wp2;go_roundw
   case rel=>exact⟨a+1,_,by omega,by go_num,by first | rfl | exact World.drewN_drewN _ _ _⟩
   case measure=>simp[intOf];omega
  ·have E:¬(a:Int)<(d:Int):=(by omega);go_wp2;go_ret;exact⟨rfl,_,rfl⟩
def Kl (m o:Value)(d:List (Int×Int))(c:World)(h1:jM c n m d)(h2:jM c i o d)(t:d.length<=1000000000):Calls Tryz.prog 50 #[m,o] c fun j u=>j=.returned (.bool true)/\∃ g,u=c.drewN g:=by
 obtain⟨v,H,rfl⟩:=qr h1;obtain⟨w,I,rfl⟩:=qr h2;obtain⟨e,k⟩:=zx d.length;have J:e<=1000000000:=(by omega);have x:Hid (∀ (a:Nat)(b:Int×Int),d[a]?=some b->∃ h i,v=some ⟨h,0,none⟩/\w=some ⟨i,0,none⟩/\c.cell? ⟨h,a*2,none⟩=some (.int .i64 b.1)/\c.cell? ⟨h,a*2+1,none⟩=some (.int .i64 b.2)/\c.cell? ⟨i,a*2,none⟩=some (.int .i64 b.1)/\c.cell? ⟨i,a*2+1,none⟩=some (.int .i64 b.2)):=fun a b f=>by
  have y:=(zzg f).1;obtain⟨z,j,-,p⟩:=xA h1 (by omega);obtain⟨A,B,-,q⟩:=xA h2 (by omega);obtain⟨r,s⟩:=kU d a b f;exact⟨z,A,j,B,p _ _ r,p _ _ s,q _ _ r,q _ _ s⟩
 rw[<-k];have C:=qg k;have K:((e:Int) != (e:Int))=false:=(by simp);clear h1 h2 t k;go_enter Tryz.func50,Tryz.ntmps50;go_wp2;go_loopw [5] (fun l wr=>∃ a g:Nat,a<=e/\l=.int .i64 a/\wr=c.drewN g) (fun l _=>e-(intOf l).toNat)
 case atStart=>exact⟨0,0,aj _,rfl,rfl⟩
 case round=>
  obtain⟨a,g,L,rfl,rfl⟩:=hrel;by_cases y:a<e
  ·obtain⟨b,f⟩:∃ b,d[a]?=some b:=⟨d[a]'(by have:=qb C;omega),by simp⟩;obtain⟨h,i,rfl,rfl,D,E,c2,F⟩:=(qb x) a b f;have M:(0:Int)<=(a:Int):=(by omega);have G:(a:Int)<(e:Int):=(by omega);obtain⟨N,O⟩:=b;simp only at D E c2 F;clear f;go_wp2;go_quiet (fail);go_wp2;go_roundw
   case rel=>exact⟨a+1,_,by omega,by go_num,by first | rfl | exact World.drewN_drewN _ _ _⟩
   case measure=>simp[intOf];omega
  ·have G:¬(a:Int)<(e:Int):=(by omega);go_wp2;go_ret;exact⟨rfl,_,rfl⟩
def YT (m:Value)(b:Int)(c:World)(q:zM 3 1 c n m (mF b))(u:0<=b/\b<=4000000):Calls Tryz.prog 27 #[m,.int .i64 b] c fun h r=>h=.returned (.bool true)/\Below c.heap.size c r:=by
 obtain⟨d,i,v⟩:=q;obtain⟨s,w,rfl⟩:=qr i;have x:IntKind.i64.wrap (-1000-b)=-1000-b:=(by rw[af];omega);have o:Hid (0<d->∃ e,s=some ⟨e,0,none⟩/\e<c.heap.size/\∀ a,a<d->c.cell? ⟨e,a,none⟩=some (.int .i64 (-1000-b))):=fun h0=>by
  obtain⟨e,h,j,g⟩:=xA i h0;refine⟨e,h,j,fun a p=>g _ _ ?_⟩;have:=X9 (mF b) 0 (by simp[mF]) d a p;simpa[mF] using this
 clear i;go_enter Tryz.func27,Tryz.ntmps27;go_wp2;go_loopw [5] (fun k wr=>∃ a:Nat,a<=d/\k=.int .i64 a/\Below c.heap.size c wr) (fun k _=>d-(intOf k).toNat)
 case atStart=>exact⟨0,aj _,rfl,aa _ _⟩
 case round=>
  obtain⟨a,p,rfl,f⟩:=hrel;by_cases t:a<d
  ·obtain⟨e,rfl,j,g⟩:=(qb o) (by omega);have y:=(f.cell j).trans (g a t);have z:(0:Int)<=(a:Int):=(by omega);have A:(a:Int)<(d:Int):=(by omega);have l:=qg f;clear g f o;go_wp2;go_roundw
   case rel=>exact⟨a+1,by omega,by go_num,qb l⟩
   case measure=>simp[intOf];omega
  ·have l:=qg f;clear f;go_wp2;go_ret;exact⟨rfl,qb l⟩
def VJ (o:Value)(b:Int)(c:World)(r:zM 153 2 c n o (lG b))(u:0<=b/\b<=4000000):Calls Tryz.prog 28 #[o,.int .i64 b] c fun i s=>i=.returned (.bool true)/\Below c.heap.size c s:=by
 obtain⟨d,j,v⟩:=r;obtain⟨t,w,rfl⟩:=qr j;have x:IntKind.i64.wrap (-1000-b)=-1000-b:=(by rw[af];omega);have p:Hid (0<d->∃ e,t=some ⟨e,0,none⟩/\e<c.heap.size/\∀ a,a<d->c.cell? ⟨e,a*2,none⟩=some (.int .i64 (-1000-b))/\c.cell? ⟨e,a*2+1,none⟩=some (.int .i64 0)):=fun h0=>by
  obtain⟨e,i,h,f⟩:=xA j h0;refine⟨e,i,h,fun a k=>⟨f _ _ ?_,f _ _ ?_⟩⟩
  ·have:=X9 (lG b) 0 (by simp[lG]) d a k;simpa[lG] using this
  ·have:=X9 (lG b) 1 (by simp[lG]) d a k;simpa[lG] using this
 clear j;go_enter Tryz.func28,Tryz.ntmps28;go_wp2;go_loopw [5] (fun l wr=>∃ a:Nat,a<=d/\l=.int .i64 a/\Below c.heap.size c wr) (fun l _=>d-(intOf l).toNat)
 case atStart=>exact⟨0,aj _,rfl,aa _ _⟩
 case round=>
  obtain⟨a,k,rfl,g⟩:=hrel;by_cases q:a<d
  ·obtain⟨e,rfl,h,f⟩:=(qb p) (by omega);have y:=(g.cell h).trans (f a q).1;have c2:=(g.cell h).trans (f a q).2;have z:(0:Int)<=(a:Int):=(by omega);have A:(a:Int)<(d:Int):=(by omega);have m:=qg g;clear f g p;go_wp2;go_roundw
   case rel=>exact⟨a+1,by omega,by go_num,qb m⟩
   case measure=>simp[intOf];omega
  ·have m:=qg g;clear g;go_wp2;go_ret;exact⟨rfl,qb m⟩
variable{f:Array Value}{m:World}{c ob:Nat}{pv va vf z:Value}{b7:List he}
def Vv:qg0 50 3 1 8:=by
 have b:(Tryz.prog.info? 3).map (fun a=>(a.zero,a.size,a.bytes))=some (some (.int .i64 0),1,8):=(by kernel_rfl);obtain⟨c,d,e,f,g⟩:=aZ b;exact⟨c,_,Tryz.underlying50,d,e,f,g,rfl,by decide,by decide⟩
def Zw:qg0 87 153 2 16:=by
 have b:(Tryz.prog.info? 153).map (fun a=>(a.zero,a.size,a.bytes))=some (some (.agg #[.int .i64 0,.int .i64 0]),2,16):=(by kernel_rfl);obtain⟨c,d,e,f,g⟩:=aZ b;exact⟨c,_,Tryz.underlying87,d,e,f,g,rfl,by decide,by decide⟩
def qk5:(Tryz.prog.info? 85).map (fun a=>(a.zero,a.size,a.bytes))=some (some (.agg #[.slice none 0 0,.slice none 0 0,.slice none 0 0,.slice none 0 0,.int .i64 0]),5,104):=by kernel_rfl
def qk6:(Tryz.prog.info? 89).map (fun a=>(a.zero,a.size,a.bytes))=some (some (.agg #[.slice none 0 0,.slice none 0 0,.slice none 0 0,.slice none 0 0,.int .i64 0]),5,104):=by kernel_rfl
def XQ (c d e f:Option Addr)(g h i j k c2 l m:Nat)(n:Int):∀ a∈xw ⟨.slice c g k,.slice d h c2,.slice e i l,.slice f j m,n⟩,a.oneCell'=true:=by
 intro a b;simp[xw] at b;rcases b with rfl | rfl | rfl | rfl | rfl<;>rfl
def ZK (a:World)(b:Obj)(c:Nat)(d:c=a.heap.size):(a.alloc b).drew.heap[c]?=some b:=qt a b c d
def Vl (c:Int):∀ a∈mF c,a.oneCell'=true:=by intro a b;simp[mF] at b;subst b;rfl
def Vm (c:Int):∀ a∈lG c,a.oneCell'=true:=by intro a b;simp[lG] at b;rcases b with rfl | rfl<;>rfl
structure qc1 (ety:TypeId)(sz:Nat)(mk:Int->List Value)(bt:TypeId)(q:Nat)(cs:Array Value)(w w':World)(wb base B:Nat)(kv v:Value)(es:List he)(kv':Value)(en:he):Prop where
 box:w'.heap[wb]?=some (.cells (cs.setIfInBounds q kv') 39)
 own:vI bt w' base kv' (es++[en])
 uk:ym ety sz mk B w' en
 uh:∀ k,kv'.ownBlock=some k->kv.ownBlock=some k\/w.heap.size<=k
 but:gp (fun k=>k=wb\/kv.ownBlock=some k\/v.ownBlock=some k) w w'
 wz:∀ k,en.nS k->v.ownBlock=some k\/w.heap.size<=k
def JA {mk:Int->List Value}{h:Nat}(F:gp (fun e=>v.ownBlock=some e) w w2) (G:w2.ownsRow t d n v h (rep h (mk b7.length))) (H:ZV d n v w2 t z (h+1) (mk b7.length)) (I:ZV d n v w2 t vf (h+2) (mk b7.length)) (J:ZV d n v w2 t va (h+3) (mk b7.length))(s:vI a1 w2 b pv b7) (q:w2.heap[g]?=some (.cells f 39)) (u:w2.grownBy m pv.ownBlock)(x:m.ownsRow b a1 5 (.slice (some ⟨ob,0,none⟩) (b7.length+1) c) (b7.length+1) (zQ b7++xw ⟨v,z,vf,va,b7.length⟩)) (K:pv.ownBlock=some ob\/ob=w2.heap.size+1) (T:w.heap.size<=w2.heap.size) (U:b7.length<=2000000) (y:h<=1000000000) (A:39≠a1) (L:39≠d) (M:a1≠d)(N:∀ e,z.ownBlock=some e->v.ownBlock=some e\/w.heap.size<=e) (O:∀ e,vf.ownBlock=some e->v.ownBlock=some e\/w.heap.size<=e) (P:∀ e,va.ownBlock=some e->v.ownBlock=some e\/w.heap.size<=e):qc1 d n mk a1 j f w (m.setCell ⟨g,j,none⟩ (.slice (some ⟨ob,0,none⟩) (b7.length+1) c)) g b t pv v b7 (.slice (some ⟨ob,0,none⟩) (b7.length+1) c) ⟨v,z,vf,va,b7.length⟩:=by
 have Q:=qq s q A;have B:=zl u q Q;have R:ob≠g:=fun k=>qq x B A (by rw[k];rfl);have C:gp (fun e=>e=g\/pv.ownBlock=some e) w2 (m.setCell ⟨g,j,none⟩ (.slice (some ⟨ob,0,none⟩) (b7.length+1) c)):=((gp.refl _ w2).grown u (fun e k=>.inl (.inr k))).setCell (.inl (.inl rfl)) _;have S:∀ e,(e=g\/pv.ownBlock=some e)->e<w2.heap.size->∃ f D E,w2.heap[e]?=some (.cells f D E)/\D≠d:=fun e o _=>by
  rcases o with rfl | o
  ·exact⟨_,_,_,q,L⟩
  ·obtain⟨f,E,k⟩:=qE s o;exact⟨_,_,_,k,M⟩
 have p:∀ r h,h<=1000000003->w2.ownsRow t d n r h (rep h (mk b7.length))->zM d n (m.setCell ⟨g,j,none⟩ (.slice (some ⟨ob,0,none⟩) (b7.length+1) c)) t r (mk b7.length):=fun r h y l=>
  zM.uf ⟨h,l,y⟩ C S
 refine⟨?_,?_,⟨by simp;omega,p v _ (by omega) G,p z _ (by omega) H.own,p vf _ (by omega) I.own,p va _ (by omega) J.own⟩,?_,?_,?_⟩
 ·exact qp (i:=j) B _
 ·have:=aw x (a:=⟨g,j,none⟩) (by simp[Value.ownBlock];exact R) (.slice (some ⟨ob,0,none⟩) (b7.length+1) c);unfold vI;rw[ae,YB];exact this
 ·intro e o;simp only[Value.ownBlock,ac] at o;subst o;rcases K with h | h
  ·exact .inl h
  ·exact .inr (by omega)
 ·exact (F.wide (fun e _ l=>.inr (.inr l))).trans (C.wide (fun e _ l=>l.elim .inl (fun l=>.inr (.inl l))))
 ·rintro e (k | k | k | k)
  ·exact .inl k
  ·exact N e k
  ·exact O e k
  ·exact P e k
def Vr (z v o:Nat)(w:Array Value)(a2 a3:Value)(c:List he)(A:List Int)(h:World)(a4:h.heap[z]?=some (.cells w 39))(a5:w[5]?=some a2)(a6:vI 85 h v a2 c)(k8:v<=h.heap.size)(M:zh h o a3 A)(k9:o<=h.heap.size)(f5:c.length<=2000000)(f6:A.length<=1000000000):Calls Tryz.prog 21 #[.pointer (some ⟨z,4,none⟩),a3] h fun d f7=>d=.returned (.tuple #[])/\∃ f8 f9,qc1 3 1 mF 85 5 w h f7 z v o a2 a3 c f8 f9:=by
 obtain⟨G,H,rfl⟩:=qr a6;obtain⟨i,j,rfl⟩:=qr M;obtain⟨l,N⟩:=zx A.length;have g0:=(qe a4 5).trans a5;have g1:IntKind.i64.wrap (-1000-(c.length:Int))=-1000-(c.length:Int):=(by rw[af];omega);have l0:l<=1000000000:=(by omega);have O:h.ownsRow o 3 1 (.slice i l j) l (rep 0 (mF c.length)++(A.map (Value.int .i64)).drop (0*1)):=(by rw[N];exact M);rw[<-N];have I:=qg a4;have P:=qg a6;have g2:=qg O;have b8:(A.map (Value.int .i64)).length=l*1:=(by rw[N];exact M.1);have a7:=qg b8;have Q:=fun f q=>(ab O f q).2;have b9:∀ (f:Nat)(w:Array Value)(a8:TypeId)(a9:Nat×Nat),h.heap[f]?=some (.cells w a8 a9)->a8≠3->(Value.slice i l j).ownBlock≠some f:=fun f w a8 a9 q g3=>qq O q g3;have b0:=qg b9;have c0:=qg a5;generalize A.map (Value.int .i64)=x at *;clear a4 a6 M O N f6 b8 b9 a5;go_enter Tryz.func21,Tryz.ntmps21;go_wp2;go_loopw [6] (fun b1 wr=>∃ b:Nat,b<=l/\b1=.int .i64 b/\wr.ownsRow o 3 1 (.slice i l j) l (rep b (mF c.length)++x.drop (b*1))/\h.heap.size<=wr.heap.size/\gp (fun b=>(Value.slice i l j).ownBlock=some b) h wr) (fun b1 _=>l-(intOf b1).toNat)
 case atStart=>
  refine⟨0,aj _,rfl,qb g2,zzl _,gp.refl _ _⟩
 case round=>
  rename World=>e;obtain⟨b,l1,rfl,y,c1,B⟩:=hrel;by_cases l2:b<l
  ·obtain⟨b2,g4,l3,c2⟩:=xA y (by omega);subst g4;have g5:=qb a7;have b3:(rep b (mF c.length)).length=b*1:=(by rw[Z2];rfl);obtain⟨c3,J⟩:∃ g6,x[b*1]?=some g6:=⟨x[b*1]'(by omega),by simp⟩;have g7:=c2 (b*1) c3 (by rw[aq (by omega),b3,cL,bw];exact J);have g8:e.frozen? ⟨b2,b*1,none⟩=false:=bs y _;have R:=(aT y (b*1) (.int .i64 (-1000-(c.length:Int)))).1;have c4:(rep b (mF c.length)++x.drop (b*1)).set (b*1) (.int .i64 (-1000-(c.length:Int)))=rep (b+1) (mF c.length)++x.drop ((b+1)*1):=(by rw[Z3];have g9:x.drop (b*1)=c3::x.drop ((b+1)*1):=(by have c5:=(zzg J);rw[bu c5.1,c5.2,show b*1+1=(b+1)*1 by omega]);rw[g9,bG _ _ (by omega),b3,cL,aN];rfl);rw[c4] at R;rw[gd] at R g7 g8;have c6:=Q b2 rfl;have i0:=qg R;have S:=qg B;have l4:(0:Int)<=(b:Int):=(by omega);have l5:(b:Int)<(l:Int):=(by omega);have i1:=qg c1;have l6:=qg c6;clear y B R c4 c2 J b3 g5 Q c1 c6 g0 g1 a7;go_wp2;go_roundw
   case rel=>
    refine⟨b+1,by omega,by go_num,qb i0,by simpa[World.setCell] using qb i1,?_⟩;exact (qb S).setCell (p:=⟨b2,b,none⟩) (.inl rfl) _
   case measure=>simp[intOf];omega
  ·obtain rfl:b=l:=(by omega);rw[cY (by have:=qb a7;omega),aW] at y;have b4:∀ f,(Value.slice G c.length H).ownBlock=some f->(Value.slice i b j).ownBlock≠some f:=fun f q=>by
    obtain⟨w,a9,d⟩:=qE (qb P) q;exact (qb b0) _ _ _ _ d (by decide)
   have c7:vI 85 e v (.slice G c.length H) c:=qi (qb P) B b4;have b5:=B.heap (qb I) ((qb b0) _ _ _ _ (qb I) (by decide));have l7:=(qe b5 5).trans (qb c0);have S:=qg B;have c8:=qg y;have l8:=qg c7;have l9:=qg b5;clear y B c7 b5;have n0:o<=e.heap.size:=(by omega);have c9:∀ f,h.heap.size<=f->(Value.slice i b j).ownBlock≠some f:=fun f q d=>by have:=Q f d;omega
   have C:=qg c9;clear c9 Q;go_wp2_with
    (first
     | (at_builtin
        refine jE Vv rfl _ _ rfl o _ b 1 (mF c.length) rfl (Vl _) rfl (aR (aR (qb c8) _) _) (e.heap.size+1) rfl (qt _ _ _ (by simp)) (by decide) (by omega) (by simp;omega) ?_
        intro D T U r s t u g
        have d0:e.grownBy U (Value.slice i b j).ownBlock:=zB (au _ _ _) (zB (au _ _ _) g)
        have V:U.heap[e.heap.size]?=some (.cells #[.slice i b j,.slice none 0 0,.slice none 0 0,.slice none 0 0,.int .i64 c.length] 85):=zl g (qx (qt _ _ _ rfl) _) ((qb C) _ (by omega))
        obtain⟨-,i2,-⟩:=zzc V
        have i3:=qj V
        have n1:e.heap.size+1<U.heap.size:=by have:=g.size;simp at this;omega
        have i4:Hid ((Value.slice i b j).ownBlock=some D\/h.heap.size<=D):=s.imp id (fun d=>by simp at d;omega)
        have d1:=qg t
        have d2:=qg r
        have d3:=qg ((qb S).grown d0 (fun b d=>.inl d))
        have b6:=qg V
        clear c8 S r t u g d0 V s )
     | (at_builtin
        refine jE Vv rfl _ _ rfl o _ b 2 (mF c.length) rfl (Vl _) rfl (aR (aw (qb d1) ((qb C) _ (by simp;omega)) _) _) U.heap.size rfl (qt _ _ _ (by simp)) (by decide) (by omega) (by simp;omega) ?_
        intro E W d4 r s t u g
        have d5:=(((qb d3).setCell (p:=⟨e.heap.size,1,none⟩) (.inr (by simp;omega)) _).alloc _).grown g (fun b d=>.inl d)
        have hA2:=u _ _ (((qb d2).set (qb b6) (by decide) 1 _).alloc _) (by omega)
        have X:=zl g (qx (by simpa using qp (i:=1) (qb b6) (.slice (some ⟨D,0,none⟩) (b+1) T)) _) ((qb C) _ (by omega))
        obtain⟨-,-,i5,-⟩:=zzc X
        have i6:=qj X
        have n2:e.heap.size+1<d4.heap.size:=by have:=g.size;simp[World.setCell] at this;omega
        have i7:Hid ((Value.slice i b j).ownBlock=some E\/h.heap.size<=E):=s.imp id (fun d=>by simp[World.setCell] at d;omega)
        have d6:=qg t
        have d7:=qg r
        have d8:=qg hA2
        have d9:=qg d5
        have Y:=qg X
        clear d1 d2 d3 b6 r t u g hA2 d5 X i2 i3 s )
     | (at_builtin
        refine jE Vv rfl _ _ rfl o _ b 3 (mF c.length) rfl (Vl _) rfl (aR (aw (qb d6) ((qb C) _ (by simp;omega)) _) _) d4.heap.size rfl (qt _ _ _ (by simp)) (by decide) (by omega) (by simp;omega) ?_
        intro k m K r s t u g
        have e0:=(((qb d9).setCell (p:=⟨e.heap.size,2,none⟩) (.inr (by simp;omega)) _).alloc _).grown g (fun b d=>.inl d)
        have hA3:=u _ _ (((qb d8).set (qb Y) (by decide) 2 _).alloc _) (by omega)
        have e1:=u _ _ (((qb d7).set (qb Y) (by decide) 2 _).alloc _) (by omega)
        have Z:=zl g (qx (by simpa using qp (i:=2) (qb Y) (.slice (some ⟨E,0,none⟩) (b+2) W)) _) ((qb C) _ (by omega))
        obtain⟨i8,-⟩:=zzk Z 3
        have i9:=qj Z
        have j0:e.heap.size+1<K.heap.size:=by have:=g.size;simp[World.setCell] at this;omega
        have j1:Hid ((Value.slice i b j).ownBlock=some k\/h.heap.size<=k):=s.imp id (fun d=>by simp[World.setCell] at d;omega)
        have e2:=qg t
        have e3:=qg r
        have e4:=qg hA3
        have e5:=qg e1
        have e6:=qg e0
        have L:=qg Z
        clear d6 d8 d7 d9 Y r t u g hA3 e1 e0 Z i5 i6 s ))
   obtain⟨j2,q,J,j3,j4⟩:=aZ qk5;have e7:(K.setCell ⟨e.heap.size,3,none⟩ (.slice (some ⟨k,0,none⟩) (b+3) m)).heap[e.heap.size]?=some (.cells #[.slice i b j,.slice (some ⟨D,0,none⟩) (b+1) T,.slice (some ⟨E,0,none⟩) (b+2) W,.slice (some ⟨k,0,none⟩) (b+3) m,.int .i64 c.length] 85):=(by simpa using qp (i:=3) (qb L) (.slice (some ⟨k,0,none⟩) (b+3) m));have a0:gp (fun f=>(Value.slice i b j).ownBlock=some f) h (K.setCell ⟨e.heap.size,3,none⟩ (.slice (some ⟨k,0,none⟩) (b+3) m)):=(qb e6).setCell (p:=⟨e.heap.size,3,none⟩) (.inr (by simp;omega)) _;have hA4:=(qb e4).set (qb L) (by decide) 3 (.slice (some ⟨k,0,none⟩) (b+3) m);have e8:=(qb e5).set (qb L) (by decide) 3 (.slice (some ⟨k,0,none⟩) (b+3) m);have e9:=(qb e3).set (qb L) (by decide) 3 (.slice (some ⟨k,0,none⟩) (b+3) m);have f0:=aw (qb e2) (a:=⟨e.heap.size,3,none⟩) ((qb C) _ (by simp;omega)) (.slice (some ⟨k,0,none⟩) (b+3) m);have n3:e.heap.size+1<(K.setCell ⟨e.heap.size,3,none⟩ (.slice (some ⟨k,0,none⟩) (b+3) m)).heap.size:=(by simpa[World.setCell] using j0);clear L e6 e4 e5 e3 e2 i8 i9;generalize K.setCell ⟨e.heap.size,3,none⟩ (.slice (some ⟨k,0,none⟩) (b+3) m)=n at *;have b7:vI 85 n v (.slice G c.length H) c:=qi (qb P) a0 b4;have F:=a0.heap (qb I) ((qb b0) _ _ _ _ (qb I) (by decide));have f1:=qq b7 F (by decide);have f2:(Value.slice G c.length H).ownBlock≠some e.heap.size:=fun d=>by have:=(ab (qb P) _ d).2;omega
   have n4:z≠e.heap.size:=fun d=>by have:=qh (qb I);omega
   have j5:=(qe F 5).trans (qb c0);have j6:=qj F 5;obtain⟨n5,n6,n7,n8,n9,-⟩:=zzc e7;have a1:=qh F;have o0:e.heap.size<n.heap.size:=(by omega);have j7:=qg a0;have j8:=qg hA4;have j9:=qg e8;have k0:=qg e9;have k1:=qg f0;have f3:=qg b7;have k2:=qg F;have f4:=qg f1;have o1:=qg f2;have k3:Hid (v<=n.heap.size):=(by show _<=_;omega);clear a0 hA4 e8 e9 f0 b7 F e7 b4 f1 f2;go_region_law
    ((refine step_append_lies _ (by rfl) _ _ _ (by rfl) v 85 j2 _ 5 104 Tryz.underlying34 q J j3 j4 rfl (by omega) (.slice G c.length H) c.length (zQ c) (by rfl) (dP (aR (qb f3) _)) ⟨n.heap.size,0,none⟩ 1 1 (xw ⟨.slice i b j,.slice (some ⟨D,0,none⟩) (b+1) T,.slice (some ⟨E,0,none⟩) (b+2) W,.slice (some ⟨k,0,none⟩) (b+3) m,c.length⟩) (by rfl) (by rfl) (xT (ZK _ _ _ (by simp))) (XQ _ _ _ _ _ _ _ _ _ _ _ _ _) (by omega) (by unfold maxLen;omega) (by omega) (by have:=qb k3;simp;omega) (n.heap.size+1) (by simp) ?_;intro k4 gk o2 k5 g k6 o3;have o4:=(g.frozen_far ⟨z,5,none⟩ (zzm a1 (by show _<=(n.heap.push _).size;rw[bJ];omega)) (cu (qb f4))).trans ((cW (w:=n) (bH _ _ _ a1)).trans j6);have o5:=(g.cell_far ⟨z,5,none⟩ (zzm a1 (by show _<=(n.heap.push _).size;rw[bJ];omega)) (cu (qb f4))).trans ((aH (w:=n) (bH _ _ _ a1)).trans j5)))
   all_goals
    go_end0;refine⟨rfl,.slice (some ⟨k4,0,none⟩) (c.length+1) gk,⟨.slice i b j,.slice (some ⟨D,0,none⟩) (b+1) T,.slice (some ⟨E,0,none⟩) (b+2) W,.slice (some ⟨k,0,none⟩) (b+3) m,c.length⟩,?_⟩;have k7:=zB (au n _ _) (zB (km _ 1 _) g);exact JA (qb j7) (qb k1) (qb j8) (qb j9) (qb k0) (qb f3) (qb k2) k7 k5 k6 (by omega) f5 (by omega) (by decide) (by decide) (by decide) (fun f d=>by simp only[Value.ownBlock,ac] at d;subst d;exact qb i4) (fun f d=>by simp only[Value.ownBlock,ac] at d;subst d;exact qb i7) (fun f d=>by simp only[Value.ownBlock,ac] at d;subst d;exact qb j1)
def Xj (B z o:Nat)(A:Array Value)(a7 a8:Value)(c:List he)(C:List (Int×Int))(g:World)(a9:g.heap[B]?=some (.cells A 39))(b0:A[6]?=some a7)(b1:vI 89 g z a7 c)(n1:z<=g.heap.size)(Q:jM g o a8 C)(n2:o<=g.heap.size)(i1:c.length<=2000000)(i2:C.length<=1000000000):Calls Tryz.prog 51 #[.pointer (some ⟨B,4,none⟩),a8] g fun d i3=>d=.returned (.tuple #[])/\∃ i4 i5,qc1 153 2 lG 89 6 A g i3 B z o a7 a8 c i4 i5:=by
 obtain⟨H,I,rfl⟩:=qr b1;obtain⟨j,i,rfl⟩:=qr Q;obtain⟨k,R⟩:=zx C.length;have i6:=(qe a9 6).trans b0;have i7:IntKind.i64.wrap (-1000-(c.length:Int))=-1000-(c.length:Int):=(by rw[af];omega);have n3:k<=1000000000:=(by omega);have S:g.ownsRow o 153 2 (.slice j k i) k (rep 0 (lG c.length)++(jk C).drop (0*2)):=(by rw[R];exact Q);rw[<-R];have J:=qg a9;have T:=qg b1;have i8:=qg S;have d2:(jk C).length=k*2:=(by rw[R];exact Q.1);have b2:=qg d2;have U:=fun f r=>(ab S f r).2;have d3:∀ (f:Nat)(A:Array Value)(b3:TypeId)(b4:Nat×Nat),g.heap[f]?=some (.cells A b3 b4)->b3≠153->(Value.slice j k i).ownBlock≠some f:=fun f A b3 b4 r i9=>qq S r i9;have b5:=qg d3;have d4:=qg b0;generalize jk C=q at *;clear a9 b1 Q S R i2 d2 d3 b0;go_enter Tryz.func51,Tryz.ntmps51;go_wp2;go_loopw [6] (fun b6 wr=>∃ b:Nat,b<=k/\b6=.int .i64 b/\wr.ownsRow o 153 2 (.slice j k i) k (rep b (lG c.length)++q.drop (b*2))/\wr.heap[g.heap.size]?=some (.cells #[.int .i64 (-1000-(c.length:Int)),.int .i64 0] 153)/\g.heap.size<wr.heap.size/\gp (fun b=>(Value.slice j k i).ownBlock=some b) g wr) (fun b6 _=>k-(intOf b6).toNat)
 case atStart=>
  refine⟨0,aj _,rfl,aR (qb i8) _,qt _ _ _ rfl,by simp,(gp.refl _ _).alloc _⟩
 case round=>
  rename World=>e;obtain⟨b,n4,rfl,s,K,d5,D⟩:=hrel;obtain⟨b7,b8,-⟩:=zzc K;by_cases n5:b<k
  ·obtain⟨t,j0,n6,b9⟩:=xA s (by omega);subst j0;have j1:=qb b2;have L:(rep b (lG c.length)).length=b*2:=(by rw[Z2];rfl);obtain⟨d6,M⟩:∃ c0,q[b*2]?=some c0:=⟨q[b*2]'(by omega),by simp⟩;obtain⟨V,N⟩:∃ c0,q[b*2+1]?=some c0:=⟨q[b*2+1]'(by omega),by simp⟩;have n7:=b9 (b*2) d6 (by rw[aq (by omega),L,cL,bw];exact M);have c2:=b9 (b*2+1) V (by rw[aq (by omega),L,show b*2+1-b*2=1 by omega,bw];exact N);have n8:e.frozen? ⟨t,b*2,none⟩=false:=bs s _;have n9:e.frozen? ⟨t,b*2+1,none⟩=false:=bs s _;have c1:=(aT (aT s (b*2) (.int .i64 (-1000-(c.length:Int)))).1 (b*2+1) (.int .i64 0)).1;have d7:((rep b (lG c.length)++q.drop (b*2)).set (b*2) (.int .i64 (-1000-(c.length:Int)))).set (b*2+1) (.int .i64 0)=rep (b+1) (lG c.length)++q.drop ((b+1)*2):=(by rw[Z3];have j2:q.drop (b*2)=d6::V::q.drop ((b+1)*2):=(by have d8:=(zzg M);have d9:=(zzg N);rw[bu d8.1,d8.2,bu d9.1,d9.2,show b*2+1+1=(b+1)*2 by omega]);rw[j2,bG _ _ (by omega),L,cL,bG _ _ (by omega),L,show b*2+1-b*2=1 by omega,aN];rfl);rw[d7] at c1;have e0:=U t rfl;have j3:=qg c1;have W:=qg K;have X:=qg D;have o0:(0:Int)<=(b:Int):=(by omega);have o1:(b:Int)<(k:Int):=(by omega);have j4:=qg d5;have o2:=qg e0;have e1:g.heap.size≠t:=(by omega);clear s K D c1 d7 b9 M N L j1 U d5 e0 i6 i7 b2;go_wp2;go_roundw
   case rel=>
    refine⟨b+1,by omega,by go_num,qb j3,?_,by simpa[World.setCell] using qb j4,?_⟩
    ·exact qu (qu (qb W) e1 _) e1 _
    ·have e2:∀ (f:Nat)(c3:Value){c4:World},gp (fun b=>(Value.slice (some ⟨t,0,none⟩) k i).ownBlock=some b) g c4->gp (fun b=>(Value.slice (some ⟨t,0,none⟩) k i).ownBlock=some b) g (c4.setCell ⟨t,f,none⟩ c3):=fun f c3 c4 j5=>j5.setCell (p:=⟨t,f,none⟩) (.inl rfl) c3;exact e2 _ _ (e2 _ _ (qb X))
   case measure=>simp[intOf];omega
  ·obtain rfl:b=k:=(by omega);rw[cY (by have:=qb b2;omega),aW] at s;have c5:∀ f,(Value.slice H c.length I).ownBlock=some f->(Value.slice j b i).ownBlock≠some f:=fun f r=>by
    obtain⟨A,b4,d⟩:=qE (qb T) r;exact (qb b5) _ _ _ _ d (by decide)
   have e3:vI 89 e z (.slice H c.length I) c:=qi (qb T) D c5;have c6:=D.heap (qb J) ((qb b5) _ _ _ _ (qb J) (by decide));have o3:=(qe c6 6).trans (qb d4);have X:=qg D;have W:=qg K;have e4:=qg s;have o4:=qg e3;have o5:=qg c6;clear s D K e3 c6;have o6:o<=e.heap.size:=(by omega);have e5:∀ f,g.heap.size<=f->(Value.slice j b i).ownBlock≠some f:=fun f r d=>by have:=U f d;omega
   have u:=qg e5;clear e5 U;go_wp2_with
    (first
     | (at_builtin
        refine jE Zw rfl _ _ rfl o _ b 1 (lG c.length) rfl (Vm _) rfl (aR (aR (qb e4) _) _) (e.heap.size+1) rfl (qt _ _ _ (by simp)) (by decide) (by omega) (by simp;omega) ?_
        intro E Y Z v w x y h
        have c7:e.grownBy Z (Value.slice j b i).ownBlock:=zB (au _ _ _) (zB (au _ _ _) h)
        have a0:Z.heap[e.heap.size]?=some (.cells #[.slice j b i,.slice none 0 0,.slice none 0 0,.slice none 0 0,.int .i64 c.length] 89):=zl h (qx (qt _ _ _ rfl) _) ((qb u) _ (by omega))
        have c8:=zl c7 (qb W) ((qb u) _ (zzl _))
        obtain⟨-,j6,-⟩:=zzc a0
        have V:=qj a0
        obtain⟨b7,b8,-⟩:=zzc c8
        have o7:e.heap.size≠g.heap.size:=by omega
        have o8:e.heap.size+1<Z.heap.size:=by have:=h.size;simp at this;omega
        have j7:Hid ((Value.slice j b i).ownBlock=some E\/g.heap.size<=E):=w.imp id (fun d=>by simp at d;omega)
        have e6:=qg x
        have e7:=qg v
        have e8:=qg ((qb X).grown c7 (fun b d=>.inl d))
        have c9:=qg a0
        have e9:=qg c8
        clear e4 X v x y h c7 a0 w c8 W)
     | (at_builtin
        refine jE Zw rfl _ _ rfl o _ b 2 (lG c.length) rfl (Vm _) rfl (aR (aw (qb e6) ((qb u) _ (by simp;omega)) _) _) Z.heap.size rfl (qt _ _ _ (by simp)) (by decide) (by omega) (by simp;omega) ?_
        intro F a1 f0 v w x y h
        have f1:=(((qb e8).setCell (p:=⟨e.heap.size,1,none⟩) (.inr (by simp;omega)) _).alloc _).grown h (fun b d=>.inl d)
        have hA2:=y _ _ (((qb e7).set (qb c9) (by decide) 1 _).alloc _) (by omega)
        have a2:=zl h (qx (by simpa using qp (i:=1) (qb c9) (.slice (some ⟨E,0,none⟩) (b+1) Y)) _) ((qb u) _ (by omega))
        have d0:=zl h (qx (qu (qb e9) (by simp;omega) _) _) ((qb u) _ (zzl _))
        obtain⟨-,-,j8,-⟩:=zzc a2
        have j9:=qj a2
        obtain⟨b7,b8,-⟩:=zzc d0
        have o9:e.heap.size+1<f0.heap.size:=by have:=h.size;simp[World.setCell] at this;omega
        have k0:Hid ((Value.slice j b i).ownBlock=some F\/g.heap.size<=F):=w.imp id (fun d=>by simp[World.setCell] at d;omega)
        have f2:=qg x
        have f3:=qg v
        have f4:=qg hA2
        have f5:=qg f1
        have a3:=qg a2
        have k1:=qg d0
        clear e6 e7 e8 c9 v x y h hA2 f1 a2 j6 V w d0 e9)
     | (at_builtin
        refine jE Zw rfl _ _ rfl o _ b 3 (lG c.length) rfl (Vm _) rfl (aR (aw (qb f2) ((qb u) _ (by simp;omega)) _) _) f0.heap.size rfl (qt _ _ _ (by simp)) (by decide) (by omega) (by simp;omega) ?_
        intro l m O v w x y h
        have f6:=(((qb f5).setCell (p:=⟨e.heap.size,2,none⟩) (.inr (by simp;omega)) _).alloc _).grown h (fun b d=>.inl d)
        have hA3:=y _ _ (((qb f4).set (qb a3) (by decide) 2 _).alloc _) (by omega)
        have f7:=y _ _ (((qb f3).set (qb a3) (by decide) 2 _).alloc _) (by omega)
        have a4:=zl h (qx (by simpa using qp (i:=2) (qb a3) (.slice (some ⟨F,0,none⟩) (b+2) a1)) _) ((qb u) _ (by omega))
        obtain⟨k2,-⟩:=zzk a4 3
        have k3:=qj a4
        have k4:e.heap.size+1<O.heap.size:=by have:=h.size;simp[World.setCell] at this;omega
        have k5:Hid ((Value.slice j b i).ownBlock=some l\/g.heap.size<=l):=w.imp id (fun d=>by simp[World.setCell] at d;omega)
        have f8:=qg x
        have f9:=qg v
        have g0:=qg hA3
        have g1:=qg f7
        have g2:=qg f6
        have P:=qg a4
        clear f2 f4 f3 f5 a3 v x y h hA3 f7 f6 a4 j8 j9 w k1 b7 b8))
   obtain⟨k6,r,M,N,k7⟩:=aZ qk6;have g3:(O.setCell ⟨e.heap.size,3,none⟩ (.slice (some ⟨l,0,none⟩) (b+3) m)).heap[e.heap.size]?=some (.cells #[.slice j b i,.slice (some ⟨E,0,none⟩) (b+1) Y,.slice (some ⟨F,0,none⟩) (b+2) a1,.slice (some ⟨l,0,none⟩) (b+3) m,.int .i64 c.length] 89):=(by simpa using qp (i:=3) (qb P) (.slice (some ⟨l,0,none⟩) (b+3) m));have a5:gp (fun f=>(Value.slice j b i).ownBlock=some f) g (O.setCell ⟨e.heap.size,3,none⟩ (.slice (some ⟨l,0,none⟩) (b+3) m)):=(qb g2).setCell (p:=⟨e.heap.size,3,none⟩) (.inr (by simp;omega)) _;have hA4:=(qb g0).set (qb P) (by decide) 3 (.slice (some ⟨l,0,none⟩) (b+3) m);have g4:=(qb g1).set (qb P) (by decide) 3 (.slice (some ⟨l,0,none⟩) (b+3) m);have g5:=(qb f9).set (qb P) (by decide) 3 (.slice (some ⟨l,0,none⟩) (b+3) m);have g6:=aw (qb f8) (a:=⟨e.heap.size,3,none⟩) ((qb u) _ (by simp;omega)) (.slice (some ⟨l,0,none⟩) (b+3) m);have p0:e.heap.size+1<(O.setCell ⟨e.heap.size,3,none⟩ (.slice (some ⟨l,0,none⟩) (b+3) m)).heap.size:=(by simpa[World.setCell] using k4);clear P g2 g0 g1 f9 f8 k2 k3;generalize O.setCell ⟨e.heap.size,3,none⟩ (.slice (some ⟨l,0,none⟩) (b+3) m)=n at *;have d1:vI 89 n z (.slice H c.length I) c:=qi (qb T) a5 c5;have G:=a5.heap (qb J) ((qb b5) _ _ _ _ (qb J) (by decide));have g7:=qq d1 G (by decide);have g8:(Value.slice H c.length I).ownBlock≠some e.heap.size:=fun d=>by have:=(ab (qb T) _ d).2;omega
   have p1:B≠e.heap.size:=fun d=>by have:=qh (qb J);omega
   have k8:=(qe G 6).trans (qb d4);have k9:=qj G 6;obtain⟨p2,p3,p4,p5,p6,-⟩:=zzc g3;have a6:=qh G;have p7:e.heap.size<n.heap.size:=(by omega);have l0:=qg a5;have l1:=qg hA4;have l2:=qg g4;have l3:=qg g5;have l4:=qg g6;have g9:=qg d1;have l5:=qg G;have i0:=qg g7;have p8:=qg g8;have l6:Hid (z<=n.heap.size):=(by show _<=_;omega);clear a5 hA4 g4 g5 g6 d1 G g3 c5 g7 g8;go_region_law
    ((refine step_append_lies _ (by rfl) _ _ _ (by rfl) z 89 k6 _ 5 104 Tryz.underlying35 r M N k7 rfl (by omega) (.slice H c.length I) c.length (zQ c) (by rfl) (dP (aR (qb g9) _)) ⟨n.heap.size,0,none⟩ 1 1 (xw ⟨.slice j b i,.slice (some ⟨E,0,none⟩) (b+1) Y,.slice (some ⟨F,0,none⟩) (b+2) a1,.slice (some ⟨l,0,none⟩) (b+3) m,c.length⟩) (by rfl) (by rfl) (xT (ZK _ _ _ (by simp))) (XQ _ _ _ _ _ _ _ _ _ _ _ _ _) (by omega) (by unfold maxLen;omega) (by omega) (by have:=qb l6;simp;omega) (n.heap.size+1) (by simp) ?_;intro l7 gk p9 l8 h l9 q0;have q1:=(h.frozen_far ⟨B,6,none⟩ (zzm a6 (by show _<=(n.heap.push _).size;rw[bJ];omega)) (cu (qb i0))).trans ((cW (w:=n) (bH _ _ _ a6)).trans k9);have q2:=(h.cell_far ⟨B,6,none⟩ (zzm a6 (by show _<=(n.heap.push _).size;rw[bJ];omega)) (cu (qb i0))).trans ((aH (w:=n) (bH _ _ _ a6)).trans k8)))
   all_goals
    go_end0;refine⟨rfl,.slice (some ⟨l7,0,none⟩) (c.length+1) gk,⟨.slice j b i,.slice (some ⟨E,0,none⟩) (b+1) Y,.slice (some ⟨F,0,none⟩) (b+2) a1,.slice (some ⟨l,0,none⟩) (b+3) m,c.length⟩,?_⟩;have n0:=zB (au n _ _) (zB (km _ 1 _) h);exact JA (qb l0) (qb l4) (qb l1) (qb l2) (qb l3) (qb g9) (qb l5) n0 l8 l9 (by omega) i1 (by omega) (by decide) (by decide) (by decide) (fun f d=>by simp only[Value.ownBlock,ac] at d;subst d;exact qb j7) (fun f d=>by simp only[Value.ownBlock,ac] at d;subst d;exact qb k0) (fun f d=>by simp only[Value.ownBlock,ac] at d;subst d;exact qb k5)
def Vu:(Tryz.prog.info? 195).map (fun a=>(a.zero,a.size,a.bytes))=some (some (.agg #[.slice none 0 0,.int .i64 0]),2,32):=by kernel_rfl
def qe6:(Tryz.prog.info? 52).map (fun a=>(a.zero,a.size,a.bytes))=some (some (.agg #[.int .i64 0,.int .i64 0,.int .i64 0,.int .i64 0,.int .i64 0,.int .i64 0,.slice none 0 0,.int .i64 0]),8,80):=by kernel_rfl
def qf5 {off cap:Nat}(l:xs.length=n*1)(m:∀ (g:Nat)(c:Value),xs[g]?=some c->w.cell? ⟨b,off+g,none⟩=some c)(h1:∀ c∈xs,c.oneCell'=true)(I:n<=100000000)(o:xs≠[]->b<w.heap.size):Calls Tryz.prog 91 #[.slice (some ⟨b,off,none⟩) n cap] w fun a p=>(∃ q,a=.returned q/\p.ownsRow w.heap.size 3 1 q n xs)/\Below w.heap.size w p:=by
 obtain⟨d,e⟩:∃ d:World,d=w.alloc (.cells #[] 3):=⟨_,rfl⟩;have f:Below w.heap.size w d:=(by rw[e];exact (aa _ w).alloc (zzl _) _);have r:d.heap[w.heap.size]?=some (.cells #[] 3):=(by rw[e];exact qt _ _ _ rfl);have s:d.ownsRow w.heap.size 3 1 (.slice (some ⟨w.heap.size,0,none⟩) 0 0) 0 []:=⟨rfl,.inr ⟨w.heap.size,0,_,rfl,zzl _,r,zzl _,aj _,rfl,rfl⟩⟩;obtain⟨B,t,u,v,x⟩:=aZ yg;obtain⟨C,D,h,i,y,_,_⟩:=cE (P:=Tryz.prog) (w:=d) w.heap.size 50 50 3 B _ 1 8 Tryz.underlying50 t u v x rfl (by decide) (.slice (some ⟨w.heap.size,0,none⟩) 0 0) 0 [] s ⟨b,off,none⟩ n cap xs l (by
  intro g c j;have E:=o (by intro a;rw[a] at j;simp at j);rw[Zy];exact (aH (f.block b E)).trans (m g c j)) h1 (by simp only[maxLen];omega) (by omega) f.size
 have z:=f.trans ((gp.tJ (S:=fun k=>k=w.heap.size) y (fun k a=>(aA a).symm)).below f.size (fun k a=>by rw[a];exact zzl _));have A:D.ownsRow w.heap.size 3 1 C n xs:=(by rw[bA] at i;exact i);have J:(binOp .eql 50 (.slice (some ⟨b,off,none⟩) n cap) (.slice none 0 0)).run Tryz.prog w=.ok (.bool false) w:=Lib.run_eql_slice_nil w _ _ _ _ _ _ _ Tryz.underlying50;rw[e] at h;have F:=qg h;have G:=qg A;have H:=qg z;have K:=qg e;clear i A z y h s r f t u v x e h1 l m o;go_enter Tryz.func91,Tryz.ntmps91;go_wp2_with (at_builtin;refine zq rfl _ _ 50 50 rfl rfl _ _ _ _ rfl rfl (qb F) ?_);go_ret;exact⟨⟨_,rfl,qb G⟩,qb H⟩
def ze0 {off cap:Nat}(l:xs.length=n*8)(m:∀ (g:Nat)(c:Value),xs[g]?=some c->w.cell? ⟨b,off+g,none⟩=some c)(h1:∀ c∈xs,c.oneCell'=true)(I:n<=100000000)(o:xs≠[]->b<w.heap.size):Calls Tryz.prog 123 #[.slice (some ⟨b,off,none⟩) n cap] w fun a p=>(∃ q,a=.returned q/\p.ownsRow w.heap.size 52 8 q n xs)/\Below w.heap.size w p:=by
 obtain⟨d,e⟩:∃ d:World,d=w.alloc (.cells #[] 52):=⟨_,rfl⟩;have f:Below w.heap.size w d:=(by rw[e];exact (aa _ w).alloc (zzl _) _);have r:d.heap[w.heap.size]?=some (.cells #[] 52):=(by rw[e];exact qt _ _ _ rfl);have s:d.ownsRow w.heap.size 52 8 (.slice (some ⟨w.heap.size,0,none⟩) 0 0) 0 []:=⟨rfl,.inr ⟨w.heap.size,0,_,rfl,zzl _,r,zzl _,aj _,rfl,rfl⟩⟩;obtain⟨B,t,u,v,x⟩:=aZ qe6;obtain⟨C,D,h,i,y,_,_⟩:=cE (P:=Tryz.prog) (w:=d) w.heap.size 53 53 52 B _ 8 80 Tryz.underlying53 t u v x rfl (by decide) (.slice (some ⟨w.heap.size,0,none⟩) 0 0) 0 [] s ⟨b,off,none⟩ n cap xs l (by
  intro g c j;have E:=o (by intro a;rw[a] at j;simp at j);rw[Zy];exact (aH (f.block b E)).trans (m g c j)) h1 (by simp only[maxLen];omega) (by omega) f.size
 have z:=f.trans ((gp.tJ (S:=fun k=>k=w.heap.size) y (fun k a=>(aA a).symm)).below f.size (fun k a=>by rw[a];exact zzl _));have A:D.ownsRow w.heap.size 52 8 C n xs:=(by rw[bA] at i;exact i);have J:(binOp .eql 53 (.slice (some ⟨b,off,none⟩) n cap) (.slice none 0 0)).run Tryz.prog w=.ok (.bool false) w:=Lib.run_eql_slice_nil w _ _ _ _ _ _ _ Tryz.underlying53;rw[e] at h;have F:=qg h;have G:=qg A;have H:=qg z;have K:=qg e;clear i A z y h s r f t u v x e h1 l m o;go_enter Tryz.func123,Tryz.ntmps123;go_wp2_with (at_builtin;refine zq rfl _ _ 53 53 rfl rfl _ _ _ _ rfl rfl (qb F) ?_);go_ret;exact⟨⟨_,rfl,qb G⟩,qb H⟩
def zd9 {off cap:Nat}(l:xs.length=n*2)(m:∀ (g:Nat)(c:Value),xs[g]?=some c->w.cell? ⟨b,off+g,none⟩=some c)(h1:∀ c∈xs,c.oneCell'=true)(I:n<=100000000)(o:xs≠[]->b<w.heap.size):Calls Tryz.prog 135 #[.slice (some ⟨b,off,none⟩) n cap] w fun a p=>(∃ q,a=.returned q/\p.ownsRow w.heap.size 195 2 q n xs)/\Below w.heap.size w p:=by
 obtain⟨d,e⟩:∃ d:World,d=w.alloc (.cells #[] 195):=⟨_,rfl⟩;have f:Below w.heap.size w d:=(by rw[e];exact (aa _ w).alloc (zzl _) _);have r:d.heap[w.heap.size]?=some (.cells #[] 195):=(by rw[e];exact qt _ _ _ rfl);have s:d.ownsRow w.heap.size 195 2 (.slice (some ⟨w.heap.size,0,none⟩) 0 0) 0 []:=⟨rfl,.inr ⟨w.heap.size,0,_,rfl,zzl _,r,zzl _,aj _,rfl,rfl⟩⟩;obtain⟨B,t,u,v,x⟩:=aZ Vu;obtain⟨C,D,h,i,y,_,_⟩:=cE (P:=Tryz.prog) (w:=d) w.heap.size 109 109 195 B _ 2 32 Tryz.underlying109 t u v x rfl (by decide) (.slice (some ⟨w.heap.size,0,none⟩) 0 0) 0 [] s ⟨b,off,none⟩ n cap xs l (by
  intro g c j;have E:=o (by intro a;rw[a] at j;simp at j);rw[Zy];exact (aH (f.block b E)).trans (m g c j)) h1 (by simp only[maxLen];omega) (by omega) f.size
 have z:=f.trans ((gp.tJ (S:=fun k=>k=w.heap.size) y (fun k a=>(aA a).symm)).below f.size (fun k a=>by rw[a];exact zzl _));have A:D.ownsRow w.heap.size 195 2 C n xs:=(by rw[bA] at i;exact i);have J:(binOp .eql 109 (.slice (some ⟨b,off,none⟩) n cap) (.slice none 0 0)).run Tryz.prog w=.ok (.bool false) w:=Lib.run_eql_slice_nil w _ _ _ _ _ _ _ Tryz.underlying109;rw[e] at h;have F:=qg h;have G:=qg A;have H:=qg z;have K:=qg e;clear i A z y h s r f t u v x e h1 l m o;go_enter Tryz.func135,Tryz.ntmps135;go_wp2_with (at_builtin;refine zq rfl _ _ 109 109 rfl rfl _ _ _ _ rfl rfl (qb F) ?_);go_ret;exact⟨⟨_,rfl,qb G⟩,qb H⟩
def zd8 (a:World):Calls Tryz.prog 135 #[.slice none 0 0] a fun b c=>b=.returned (.slice none 0 0)/\c=a:=by
 have d:(binOp .eql 109 (.slice none 0 0) (.slice none 0 0)).run Tryz.prog a=.ok (.bool true) a:=Lib.run_eql_slice_nil a _ _ _ _ _ _ _ Tryz.underlying109;go_enter Tryz.func135,Tryz.ntmps135;go_wp2;go_ret;exact⟨rfl,rfl⟩
variable{V:Nat→Prop}
def gS.wide (c:gS S w v R)(d:∀ k,S k->V k):gS V w v R:=by
 obtain⟨e,f,a,g,h,i⟩:=c;refine⟨e,f,a,g,h,fun j=>?_⟩;obtain⟨b,l,a,m,n,o⟩:=i j;exact⟨b,l,a,d b m,n,o⟩
def gW.wide {e V:Nat->Prop}{f:World}{g:Value}{h:List gt}(l:gW e f g h)(i:∀ k,e k->V k):gW V f g h:=by
 obtain⟨m,n,a,b,c,d⟩:=l;refine⟨m,n,a,b,c,fun o=>?_⟩;obtain⟨j,p,a,q,r,s⟩:=d o;refine⟨j,p,a,i j q,r,fun t u v=>?_⟩;obtain⟨w,b,c,d,x,y,⟨z,A,B⟩,C⟩:=s t u v;exact⟨w,b,c,d,x,y,⟨z,A,B.wide i⟩,C⟩
def gS.lt (d:gS S w v R):gS (fun b=>S b/\b<w.heap.size) w v R:=by
 obtain⟨e,f,a,g,h,i⟩:=d;refine⟨e,f,a,g,h,fun j=>?_⟩;obtain⟨k,l,a,m,c,n⟩:=i j;exact⟨k,l,a,⟨m,c⟩,c,n⟩
def gW.lt {f:Nat->Prop}{a:World}{g:Value}{h:List gt}(k:gW f a g h):gW (fun i=>f i/\i<a.heap.size) a g h:=by
 obtain⟨l,m,b,c,d,e⟩:=k;refine⟨l,m,b,c,d,fun n=>?_⟩;obtain⟨o,p,b,q,j,r⟩:=e n;refine⟨o,p,b,⟨q,j⟩,j,fun s t u=>?_⟩;obtain⟨v,c,d,e,w,x,⟨y,z,A⟩,B⟩:=r s t u;exact⟨v,c,d,e,w,x,⟨y,z,A.lt⟩,B⟩
def zh.rdv (a:zh w n v R)(b:∀ k,v.ownBlock=some k->S k):gS S w v R:=a.rd.wide b
def rG (a:gt)(b:Value):hK:=⟨a.kind,a.iV,a.x,a.y,a.w,a.h,b,a.mark⟩
def pi (a:List gt)(b:Nat->Value):List hK:=a.mapIdx fun c d=>rG d (b c)
def yw (a:List gt)(b:Nat->Value):(pi a b).length=a.length:=by simp[pi]
def Vk (b:List gt)(c:Nat->Value)(a:Nat):(pi b c)[a]?=(b[a]?).map fun d=>rG d (c a):=by simp[pi]
def qe0 (c:List gt)(f:Nat->Value)(d:Nat)(h:Value)(r:d<c.length):(zv (pi c f)).set (d*8+6) h=zv (pi c fun a=>if a=d then h else f a):=by
 apply bh;intro g;by_cases s:g<c.length*8
 ·obtain⟨a,b,k,rfl⟩:∃ a b,b<8/\g=a*8+b:=⟨g/8,g%8,by omega,by omega⟩;have m:a<c.length:=(by omega);have i:=Vk c f a;have j:=Vk c (fun a=>if a=d then h else f a) a;rw[aB m] at i j;simp only[bO] at i j;rw[vn _ _ _ j b k,cG];by_cases n:d*8+6=a*8+b
  ·have o:d=a:=(by omega);have p:b=6:=(by omega);subst o p;rw[an rfl,an (by rw[zO,yw];omega)];simp[hS,rG]
  ·rw[ah n,vn _ _ _ i b k];by_cases l:a=d
   ·subst l;have q:b=0\/b=1\/b=2\/b=3\/b=4\/b=5\/b=7:=(by omega);rcases q with e | e | e | e | e | e | e<;>subst e<;>simp[hS,rG]
   ·simp[l]
 ·rw[aI (by rw[aG,zO,yw];omega),aI (by rw[zO,yw];omega)]
def gW.tI (f:List gt)(r:∀ (a:Nat)(b:gt),f[a]?=some b->td S w n (i+a*8) b):∃ c:Nat->Value,(∀ (a:Nat)(b:gt),f[a]?=some b->gS S w (c a) b.px/\(c a).oneCell'=true)/\∀ (g:Nat)(h:Value),(zv (pi f c))[g]?=some h->w.cell? ⟨n,i+g,none⟩=some h/\h.oneCell'=true:=by
 have s:∀ a:Nat,∃ c:Value,∀ b,f[a]?=some b->(w.cell? ⟨n,i+a*8+6,none⟩=some c/\gS S w c b.px):=by
  intro a;cases k:f[a]? with
  | none=>exact⟨undef,fun b l=>by cases l⟩
  | some b=>
   obtain⟨t,u,v,x,y,z,⟨c,m,o⟩,A⟩:=r a b k;exact⟨c,fun J C=>by cases C;exact⟨m,o⟩⟩
 obtain⟨c,B⟩:∃ c:Nat->Value,∀ (a:Nat)(b:gt),f[a]?=some b->(w.cell? ⟨n,i+a*8+6,none⟩=some (c a)/\gS S w (c a) b.px):=⟨fun a=>Classical.choose (s a),fun a=>bS (s a)⟩;refine⟨c,fun a b l=>?_,fun g h j=>?_⟩
 ·have:=(B a b l).2;refine⟨this,?_⟩;obtain⟨D,E,d,_⟩:=this;rw[d];rfl
 ·have F:=(zzg j).1;rw[zO,yw] at F;obtain⟨a,e,G,rfl⟩:∃ a e,e<8/\g=a*8+e:=⟨g/8,g%8,by omega,by omega⟩;have k:a<f.length:=(by omega);have p:=Vk f c a;have q:=aB k;rw[q] at p;simp only[bO] at p;rw[vn _ _ _ p e G] at j;obtain⟨t,u,v,x,y,z,_,A⟩:=r a _ q;obtain⟨m,o⟩:=B a _ q;have H:e=0\/e=1\/e=2\/e=3\/e=4\/e=5\/e=6\/e=7:=(by omega);have I:(c a).oneCell'=true:=(by obtain⟨D,E,d,_⟩:=o;rw[d];rfl);rw[<-Nat.add_assoc];rcases H with d | d | d | d | d | d | d | d<;>subst d<;>simp[hS,rG] at j<;>subst j
  ·exact⟨t,rfl⟩
  ·exact⟨u,rfl⟩
  ·exact⟨v,rfl⟩
  ·exact⟨x,rfl⟩
  ·exact⟨y,rfl⟩
  ·exact⟨z,rfl⟩
  ·exact⟨m,I⟩
  ·exact⟨A,rfl⟩
def qy (a:gt):gt:=if a.kind=3 then a else {a with px:=[]}
def Kb (a:gt)(b:Value):rG (qy a) b=rG a b:=by unfold qy;split<;>rfl
structure xP (w wr:World)(g c':Nat)(l:List gt)(k:Nat):Prop where
 own:∃ pv,vH wr w.heap.size (.slice (some ⟨g,0,none⟩) l.length c') (pi l pv)/\∀ (j:Nat)(o:gt),j<k->l[j]?=some o->gS (fun q=>w.heap.size<=q/\q≠g) wr (pv j) (qy o).px
 tT:Below w.heap.size w wr
def y9 {a:Nat->Value}:vH w n v (pi h a)=w.ownsRow n 52 8 v h.length (zv (pi h a)):=by unfold vH;rw[yw]
def xP.below {d b e:World}{f g:Nat}{h:List gt}{i:Nat}(a:xP d b f g h i)(c:Below b.heap.size b e):xP d e f g h i:=by
 obtain⟨j,k,l⟩:=a.own;exact⟨⟨j,qi (S:=fun _=>False) k (.aD c) (fun _ _ a=>a),fun m o n p=>(l m o n p).below c⟩,a.tT.trans (c.mono a.tT.size)⟩
def xP.set (d:xP w w2 n i h j)(g:j<h.length)(b:Value):xP w (w2.setCell ⟨n,j*8+6,none⟩ b) n i h j:=by
 obtain⟨k,c,l⟩:=d.own;rw[y9] at c;have e:=(aT c (j*8+6) b).1;rw[qe0 h k j b g] at e;refine⟨⟨_,by rw[y9];exact e,fun f m o q=>?_⟩,d.tT.setCell (p:=⟨n,j*8+6,none⟩) (ab c n rfl).1 _⟩;have r:¬f=j:=(by omega);simp only[r,dE];exact (l f m o q).but (S:=fun a=>a=n) ((gp.refl (fun a=>a=n) w2).setCell (p:=⟨n,j*8+6,none⟩) (.inl rfl) _) (fun a s t=>s.2 t)
def xP.next (g:xP w w2 n i h j)(k:h[j]?=some o)(c:Value)(r:gS (fun a=>w.heap.size<=a/\a≠n) w2 c (qy o).px):xP w (w2.setCell ⟨n,j*8+6,none⟩ c) n i h (j+1):=by
 have s:=(zzg k).1;obtain⟨t,d,u⟩:=g.own;rw[y9] at d;have l:=(aT d (j*8+6) c).1;rw[qe0 h t j c s] at l;have m:gp (fun a=>a=n) w2 (w2.setCell ⟨n,j*8+6,none⟩ c):=(gp.refl (fun a=>a=n) w2).setCell (p:=⟨n,j*8+6,none⟩) (.inl rfl) _;refine⟨⟨_,by rw[y9];exact l,fun q v x e=>?_⟩,g.tT.setCell (p:=⟨n,j*8+6,none⟩) (ab d n rfl).1 _⟩;by_cases b:q=j
 ·subst b;rw[k] at e;cases e;simp only[dH];exact r.but m (fun a f b=>f.2 b)
 ·simp only[b,dE];exact (u q v (by omega) e).but m (fun a f b=>f.2 b)
def xP.cell (c:xP w w2 n i h j)(a:Nat)(d:a<h.length*8):∃ e,w2.cell? ⟨n,a,none⟩=some e:=by
 obtain⟨f,b,_⟩:=c.own;rw[y9] at b;rw[aU b a d];have g:=b.1;exact⟨(zv (pi h f))[a]'(by omega),by simp⟩
def xP.thaw (c:xP w w2 n i h j)(a:Nat):w2.frozen? ⟨n,a,none⟩=false:=by
 obtain⟨d,b,_⟩:=c.own;rw[y9] at b;exact bs b a
def xP.rd (r:xP w w2 n i h h.length):gW (fun l=>w.heap.size<=l) w2 (.slice (some ⟨n,0,none⟩) h.length i) (h.map qy):=by
 obtain⟨j,m,s⟩:=r.own;have k:=m;rw[y9] at k;have o:=ab k n rfl;have p:h.length<=i/\i<=maxLen:=by
  rcases k.2 with ⟨f,_⟩ | ⟨z,a,A,f,_,_,t,u,_,_⟩
  ·cases f
  ·simp only[ai,ac,bz,bB] at f;obtain⟨rfl,_,rfl⟩:=f;exact⟨t,u⟩
 refine⟨some ⟨n,0,none⟩,i,by simp,by simpa using p.1,p.2,fun _=>⟨n,0,rfl,o.1,o.2,fun b B c=>?_⟩⟩;rw[aF] at c;cases d:h[b]? with
 | none=>rw[d] at c;cases c
 | some q=>
  rw[d] at c;simp only[bO,ac] at c;subst c;have v:=(zzg d).1;have g:=Vk h j b;rw[d] at g;simp only[bO] at g;rw[<-Kb] at g;have a:∀ e,e<8->w2.cell? ⟨n,0+b*8+e,none⟩=(hS (rG (qy q) (j b)))[e]?:=fun e x=>by
   rw[bA];exact QM m (by rw[yw]) g e x
  exact⟨a 0 (by omega),a 1 (by omega),a 2 (by omega),a 3 (by omega),a 4 (by omega),a 5 (by omega),⟨j b,a 6 (by omega),(s b q v d).wide (fun l y=>y.1)⟩,a 7 (by omega)⟩
def qb2 (A:Nat->Prop)(G:Option Addr)(v:Nat)(c:List gt)(h:World)(H:gW A h (.slice G c.length v) c)(b5:1<=c.length/\c.length<=20)(V:∀ a∈c,a.kind=3->1<=a.px.length/\a.px.length<=64)(W:∀ d,A d->d<h.heap.size):Calls Tryz.prog 94 #[.slice G c.length v] h fun b f=>∃ w x g,b=.returned (.slice w x g)/\gW (fun i=>h.heap.size<=i) f (.slice w x g) (c.map qy)/\Below h.heap.size h f:=by
 have b6:=H;obtain⟨b7,b8,b,_,_,h3⟩:=b6;simp only[ai,cj] at b;obtain⟨rfl,rfl⟩:=b;obtain⟨B,C,rfl,_,b9,m⟩:=h3 (by intro b;subst b;simp at b5);obtain⟨I,D,qF⟩:=gW.tI c m;have X:=ze0 (w:=h) (b:=B) (off:=C) (n:=c.length) (cap:=v) (xs:=zv (pi c I)) (by rw[zO,yw]) (fun r E J=>(qF r E J).1) (fun E J=>by
  obtain⟨r,y⟩:=fB.1 J;exact (qF r E y).2) (by omega) (fun _=>b9)
 have Y:Hid (Calls Tryz.prog 123 #[.slice (some ⟨B,C,none⟩) c.length v] h fun b f=>∃ e g,b=.returned (.slice (some ⟨e,0,none⟩) c.length g)/\xP h f e g c 0):=by
  refine X.mono ?_;rintro b f ⟨⟨c0,rfl,j⟩,K⟩;rcases j.2 with ⟨_,b⟩ | ⟨e,g,e2,rfl,e3⟩
  ·omega
  ·exact⟨e,g,rfl,⟨I,by rw[y9];exact j,fun r a y=>by omega⟩,K⟩
 have c1:=qg H;have c3:=qg V;have c4:=qg W;clear H V W X qF D m h3;go_enter Tryz.func94,Tryz.ntmps94;go_wp2_with fail;refine (qb Y).mono ?_;rintro b e4 ⟨e,g,rfl,Z⟩;have a0:=qg Z;clear Y Z;go_wp2;go_loopw [10] (fun o wr=>∃ d:Nat,d<=c.length/\o=.int .i64 d/\xP h wr e g c d) (fun o _=>c.length-(intOf o).toNat)
 case atStart=>exact⟨0,aj _,rfl,qb a0⟩
 case round=>
  rename World=>l;obtain⟨d,e5,rfl,k⟩:=hrel;clear a0;by_cases s:d<c.length
  ·obtain⟨a,j⟩:∃ a,c[d]?=some a:=⟨c[d],by simp[s]⟩;have c5:=(qb c1).below k.tT;obtain⟨b7,b8,b,_,_,h3⟩:=c5;simp only[ai,cj] at b;obtain⟨L,rfl⟩:=b;obtain⟨e6,e7,a1,_,_,m⟩:=h3 (by intro b;rw[b] at s;simp at s);rw[a1] at L;simp only[ac,bz,bB] at L;obtain⟨rfl,rfl⟩:=L;obtain⟨c6,e8,c2,e9,f0,f1,⟨I,c7,D⟩,f2⟩:=m d a j;have M:=D;obtain⟨t,q,a2,_⟩:=D;rw[a2] at c7 M;have N:=(qb c3) a (zzn j);obtain⟨u6,c8⟩:=k.cell (d*8+6) (by omega);have c9:=k.thaw;have d0:e<l.heap.size:=aJ l _ c8;have f3:∀ (o:Nat)(a3:Obj),(l.alloc a3).frozen? ⟨e,o,none⟩=false:=fun o a3=>(cW (w:=l) (bH _ _ _ d0)).trans (c9 o);have f4:(0:Int)<=(d:Int):=(by omega);have f5:(d:Int)<(c.length:Int):=(by omega);have a4:=qg k;have d1:=qg M;have a5:=qg j;have f6:h.heap.size<=e:=(by obtain⟨_,d2,_⟩:=k.own;exact (ab d2 e rfl).1);clear a2 h3 m j k M a1;by_cases u:a.kind=3
   ·have a6:=N u;have a7:(qy a).px=a.px:=(by simp[qy,u]);have a8:Hid (∀ f,gS A f (.slice t a.px.length q) a.px->Calls Tryz.prog 91 #[.slice t a.px.length q] f fun b O=>∃ w x g,b=.returned (.slice w x g)/\zh O f.heap.size (.slice w x g) a.px/\Below f.heap.size f O):=fun f P=>by
     obtain⟨G,v,b,f7,f8,Q⟩:=P;simp only[ai,cj] at b;obtain⟨rfl,rfl⟩:=b;obtain⟨B,C,rfl,_,s,m⟩:=Q (by intro b;rw[b] at a6;simp at a6);refine (qf5 (w:=f) (b:=B) (off:=C) (n:=a.px.length) (cap:=q) (xs:=a.px.map (Value.int .i64)) (by simp) (fun r E y=>?_) (QU _) (by omega) (fun _=>s)).mono ?_
     ·rw[aF] at y;obtain⟨d3,d4,rfl⟩:=cN.1 y;exact m r d3 d4
     ·rintro b O ⟨⟨c0,rfl,j⟩,K⟩;obtain⟨f9,g0,rfl⟩:=qr j;exact⟨_,_,_,rfl,j,K⟩
    have Q:(a.kind == 3)=true:=(by simp[u]);clear N;have a9:gS A ((l.setCell ⟨e,d*8+6,none⟩ (.slice none 0 0)).alloc (.cells #[.int .i64 3,.int .i64 a.iV,.int .i64 a.x,.int .i64 a.y,.int .i64 a.w,.int .i64 a.h,.slice t a.px.length q,.int .i64 a.mark] 52)) (.slice t a.px.length q) a.px:=
     (qb d1).but (S:=fun i=>i=e) (((gp.refl (fun i=>i=e) l).setCell (p:=⟨e,d*8+6,none⟩) (.inl rfl) _).alloc _) (fun i R b=>by
      have h1:=(qb c4) i R;omega)
    have b0:=((qb a4).set s (.slice none 0 0)).below ((aa _ _).alloc (zzl _) (.cells #[.int .i64 3,.int .i64 a.iV,.int .i64 a.x,.int .i64 a.y,.int .i64 a.w,.int .i64 a.h,.slice t a.px.length q,.int .i64 a.mark] 52));have b1:=qg a9;have b2:=qg b0;have d5:=qg a7;rw[u] at c6;have b3:l.heap.size<=((l.setCell ⟨e,d*8+6,none⟩ (.slice none 0 0)).alloc (.cells #[.int .i64 3,.int .i64 a.iV,.int .i64 a.x,.int .i64 a.y,.int .i64 a.w,.int .i64 a.h,.slice t a.px.length q,.int .i64 a.mark] 52)).heap.size:=(by simp[World.setCell]);have d6:=qg b3;clear a9 b0 a7 b3;go_wp2_with fail;refine ((qb a8) _ (qb b1)).mono ?_;rintro b g1 ⟨d7,d8,d9,rfl,T,b4⟩;have F:=(qb b2).below b4;obtain⟨u7,g2⟩:=F.cell (d*8+6) (by omega);have g3:=F.thaw;have z:=F.next (qb a5) (.slice d7 d8 d9) (by
     rw[qb d5];refine T.rdv (fun i R=>?_);have h1:=(ab T i R).1;have h2:=qb d6;exact⟨by omega,by omega⟩)
    have U:=qg z;clear F b4 a8 b1 b2 z T;go_wp2;go_roundw
    case rel=>exact⟨d+1,by omega,by go_num,qb U⟩
    case measure=>simp[intOf];omega
   ·have Q:(a.kind == 3)=false:=(by simpa using u);have z:=(qb a4).next (qb a5) (.slice none 0 0) (by
     rw[show (qy a).px=[] by simp[qy,u]];exact⟨none,0,rfl,by simp,by simp[maxLen],fun P=>absurd rfl P⟩)
    have U:=qg z;clear N z;go_wp2;go_roundw
    case rel=>exact⟨d+1,by omega,by go_num,(qb U).below ((aa _ _).alloc (zzl _) _)⟩
    case measure=>simp[intOf];omega
  ·have b:d=c.length:=(by omega);have e0:Hid (gW (fun i=>h.heap.size<=i) l (.slice (some ⟨e,0,none⟩) c.length g) (c.map qy)):=(by rw[b] at k;exact k.rd);have e1:=qg k.tT;clear k b;go_wp2;go_ret;exact⟨_,_,_,rfl,qb e0,qb e1⟩
def V9 (a:List Rc)(b:Nat):(qK a).drop (b*4)=qK (a.drop b):=by
 by_cases c:b<=a.length
 ·conv=>lhs;rw[<-ap b a,zp]
  rw[eO (by rw[qM,ao];omega),bI (by rw[qM,ao];omega),cd]
 ·rw[bI (by rw[qM];omega),bI (by omega)];rfl
def qb1 (Q:p.guard=none)(x y:Operand)(z:p.op=.call {callee:=.builtin .copy,args:=#[x,y],argTypes:=#[47,47]}) (A c d:Nat) (b a:List Rc) (q:Value) (B:s.eval x=.slice (some ⟨c,0,none⟩) d d) (C:s.eval y=q)(E:gw w A (.slice (some ⟨c,0,none⟩) d d) b) (R:b.length=d) (S:Rd w q a) (T:a.length<=d)(G:∀ w',gw w' A (.slice (some ⟨c,0,none⟩) d d) (a++b.drop a.length)->w.grownBy w' (some c)->wpList Tryz.prog F D J (s.put p.dst (goInt a.length)) w'):wpList Tryz.prog F D (p::J) s w:=by
 obtain⟨a6,H,a7,U,a8⟩:=aZ XI;obtain⟨V,I,rfl,a9,b0,W⟩:=S;refine eA Q fun b1 K=>?_;by_cases L:a=[]
 ·subst L;have k:=Qd (P:=Tryz.prog) w 47 47 p.type 46 (some ⟨c,0,none⟩) V d d 0 I Tryz.underlying47 (by rw[H];rfl) (by simp);have r:=G w (by simpa using E) ⟨rfl,rfl,rfl,zzl _,fun _ _ _=>rfl⟩;unfold Oper.wp;simp[execOp,z,resolve,invoke,builtin,B,C,k,Result.andThen];exact K _ _ (by simpa using r)
 ·obtain⟨t,u,rfl,b2,X⟩:=W L;rcases E.2 with ⟨f,_⟩ | ⟨M,b3,i,f,Y,v,b4,Z,N,a0⟩
  ·cases f
  ·simp only[ai,ac,bz,bB] at f;obtain⟨rfl,f,rfl⟩:=f;subst R;have a1:i.toList=qK b:=(by rw[<-a0,aL (by simp[N])]);have k:=vU (P:=Tryz.prog) w 47 47 p.type 46 4 c 0 b.length b.length ⟨t,u,none⟩ a.length I i 46 (qK a) a.length Tryz.underlying47 (by rw[H];simp[U]) v (bK T).symm (qM a) (fun g q e=>?_) (by rw[qM];simp only[bA,N];omega) (Ko a)
   ·have f:(i.toList.take 0++qK a++i.toList.drop (0+(qK a).length))=qK (a++b.drop a.length):=(by rw[a1,qM,dw,cd,bA,V9,zp]);rw[f] at k;have r:=G (w.setRow c (qK (a++b.drop a.length)).toArray) ?_ ?_
    ·unfold Oper.wp;simp[execOp,z,resolve,invoke,builtin,B,C,k,Result.andThen];exact K _ _ r
    ·have l:(a++b.drop a.length).length=b.length:=(by simp;omega);unfold gw;rw[l];refine⟨by rw[qM,l],.inr ⟨c,b.length,_,rfl,Y,da w c i _ _ _ v,zzl _,Z,by simp[qM,l],?_⟩⟩;rw[aL (by simp[qM,l])]
    ·exact⟨rfl,rfl,rfl,by simp[World.setRow],fun M v a2=>ct w c M _ (fun f=>a2 (by rw[f]))⟩
   ·obtain⟨h,m,a3⟩:∃ h m,g=h*4+m/\m<4:=⟨g/4,g%4,by omega,by omega⟩;have a4:(⟨t,u,none⟩:Addr).add g=⟨t,u+g,none⟩:=(by unfold Addr.add;split<;>simp_all);rw[a4];have b5:g<a.length*4:=(by have:=(zzg e).1;rwa[qM] at this);obtain⟨n,O⟩:∃ n,a[h]?=some n:=⟨a[h]'(by omega),by simp⟩;have o:=kL a h n O;have j:=X h n O;obtain⟨rfl,a5⟩:=a3;unfold oa at j
    match m,a5 with
    | 0,_=>rw[bL] at e ⊢;rw[o.1] at e;cases e;rw[<-j.1]
    | 1,_=>rw[o.2.1] at e;cases e;rw[<-j.2.1];rfl
    | 2,_=>rw[o.2.2.1] at e;cases e;rw[<-j.2.2.1];rfl
    | 3,_=>rw[o.2.2.2] at e;cases e;rw[<-j.2.2.2];rfl
def rz:Rc:=⟨0,0,0,0⟩
def KR (a:Nat):madeCells #[.int .i64 0,.int .i64 0,.int .i64 0,.int .i64 0] (a*4)=(qK (List.replicate a rz)).toArray:=by
 apply fx;have d:∀ (a:Nat),qK (List.replicate a rz)=List.replicate (a*4) (Value.int .i64 0):=by
  intro a;induction a with
  | zero=>rfl
  | succ a e=>rw[bU,xL,e,show (a+1)*4=a*4+1+1+1+1 by omega];rfl
 rw[d];apply bh;intro f;have g:∀ b,(#[Value.int .i64 0,.int .i64 0,.int .i64 0,.int .i64 0]:Array Value)[b%4]! = .int .i64 0:=by
  intro b;have:b%4<4:=eJ _ (by omega)
  match b%4,this with
  | 0,_=>rfl
  | 1,_=>rfl
  | 2,_=>rfl
  | 3,_=>rfl
 by_cases c:f<a*4
 ·simp[madeCells,c,g]
 ·simp[madeCells,c]
def qr2 (b:World)(a:Nat)(c:Nat)(d:c<=b.heap.size)(g:a<=100000000):gw (b.alloc (.cells (qK (List.replicate a rz)).toArray 46)) c (.slice (some ⟨b.heap.size,0,none⟩) a a) (List.replicate a rz):=by
 have f:=eD (base:=c) (e:=46) (size:=4) b (qK (List.replicate a rz)).toArray a d (by unfold maxLen;omega) (by simp[qM]);unfold gw;rw[aS];simpa using f
variable{b4:he}
def J7 (d:FuncId)(b:World)(c:Value)(e:Int):Prop:=(∃ f g h,c=.slice f g h)/\∀ a,Below b.heap.size b a->Calls Tryz.prog d #[c,.int .i64 e] a fun i j=>i=.returned (.bool true)/\Below a.heap.size a j
structure YZ (f:FuncId)(w:World)(e:he):Prop where
 l:J7 f w e.l e.n
 a:J7 f w e.a e.n
 b:J7 f w e.b e.n
 c:J7 f w e.c e.n
def ym.areI (a:ym 3 1 mF n w b4):YZ 27 w b4:=by
 have b:∀ {c:Value},zM 3 1 w n c (mF b4.n)->J7 27 w c b4.n:=fun d=>⟨d.slice,fun e f=>YT _ _ e (d.but (S:=fun _=>False) (.aD f) (fun _ _ a=>a)) a.num⟩;exact⟨b a.l,b a.a,b a.b,b a.c⟩
def ym.areF (a:ym 153 2 lG n w b4):YZ 28 w b4:=by
 have b:∀ {c:Value},zM 153 2 w n c (lG b4.n)->J7 28 w c b4.n:=fun d=>⟨d.slice,fun e f=>VJ _ _ e (d.but (S:=fun _=>False) (.aD f) (fun _ _ a=>a)) a.num⟩;exact⟨b a.l,b a.a,b a.b,b a.c⟩
def xx.areR (a:xx n w b4):YZ 26 w b4:=by
 have b:∀ {c:Value},jN w n c b4.n->J7 26 w c b4.n:=fun g=>by
  obtain⟨d,e,k,h⟩:=g;refine⟨?_,fun f i=>?_⟩
  ·obtain⟨l,m,b4⟩:=qr e;exact⟨_,_,_,b4⟩
  ·have j:gw f n _ d:=e.but (S:=fun _=>False) (.aD i) (fun _ _ a=>a);have:=a.num;exact VI _ d b4.n f j.rd (by omega) (by omega) h
 exact⟨b a.l,b a.a,b a.b,b a.c⟩
structure tD (f:FuncId)(w wq:World)(r:Option Addr)(k:Nat)(l a b c:Value)(n:Int)(g:Nat):Prop where
 at':r=some ⟨g,0,none⟩
 c0:wq.cell? ⟨g,k*5,none⟩=some l
 c1:wq.cell? ⟨g,k*5+1,none⟩=some a
 c2:wq.cell? ⟨g,k*5+2,none⟩=some b
 c3:wq.cell? ⟨g,k*5+3,none⟩=some c
 c4:wq.cell? ⟨g,k*5+4,none⟩=some (.int .i64 n)
 ok:YZ f w ⟨l,a,b,c,n⟩
def qu5 {y:FuncId}(E:w.ownsRow n d 5 (.slice ro b7.length i) b7.length (zQ b7))(F:∀ g∈b7,YZ y w g)(a:Below w.heap.size w w2)(G:j<b7.length):∃ h k l m o c2 p q r s t u v x,tD y w w2 ro j (.slice h k l) (.slice m o c2) (.slice p q r) (.slice s t u) v x:=by
 obtain⟨b,z⟩:∃ b,b7[j]?=some b:=⟨b7[j],by simp[G]⟩;obtain⟨x,g,c,e⟩:=xA E (by omega);obtain⟨H,I,J,K,L⟩:=XP b7 j b z;have f:=F b (zzn z);obtain⟨M,N,O,P,v⟩:=b;obtain⟨h,k,l,A⟩:=f.l.1;obtain⟨m,o,c2,B⟩:=f.a.1;obtain⟨p,q,r,C⟩:=f.b.1;obtain⟨s,t,u,D⟩:=f.c.1;simp only at A B C D;subst A;subst B;subst C;subst D;exact⟨h,k,l,m,o,c2,p,q,r,s,t,u,v,x,g,(a.cell c).trans (e _ _ H),(a.cell c).trans (e _ _ I),(a.cell c).trans (e _ _ J),(a.cell c).trans (e _ _ K),(a.cell c).trans (e _ _ L),f⟩
def ze1 (V W:Nat)(a1 a2 a3:Value)(M N O:List he)(k:World)(h4:k.cell? ⟨V,4,none⟩=some a1)(h5:k.cell? ⟨V,5,none⟩=some a2)(h6:k.cell? ⟨V,6,none⟩=some a3)(X:vI 82 k W a1 M)(Y:vI 85 k W a2 N)(Z:vI 89 k W a3 O)(a4:∀ l∈M,YZ 26 k l)(a5:∀ l∈N,YZ 27 k l)(a6:∀ l∈O,YZ 28 k l)(c9:M.length<=4000000/\N.length<=4000000/\O.length<=4000000):Calls Tryz.prog 8 #[.pointer (some ⟨V,4,none⟩)] k fun l d0=>l=.returned (.bool true)/\Below k.heap.size k d0:=by
 obtain⟨d2,d3,rfl⟩:=qr X;obtain⟨d4,d5,rfl⟩:=qr Y;obtain⟨d6,d7,rfl⟩:=qr Z;have Q:=aJ k _ h4;have a7:=qg X;have a8:=qg Y;have a9:=qg Z;have b0:=qg a4;have b1:=qg a5;have b2:=qg a6;have d1:=qg h4;have b3:=qg h5;have a0:=qg h6;obtain⟨d8,d9,e0⟩:=c9;clear X Y Z a4 a5 a6 h4 h5 h6;go_enter Tryz.func8,Tryz.ntmps8;go_wp2;go_loopw [3,4] (fun R q wr=>R=.bool true/\∃ b:Nat,b<=M.length/\q=.int .i64 b/\Below k.heap.size k wr) (fun _ q _=>M.length-(intOf q).toNat)
 case atStart=>exact⟨rfl,0,aj _,rfl,aa _ _⟩
 case round=>
  rename World=>e;obtain⟨rfl,b,b4,rfl,c⟩:=hrel;have m4:=(c.cell Q).trans (qb d1);have m5:=(c.cell Q).trans (qb b3);have m6:=(c.cell Q).trans (qb a0);have r:=c.size;have f:=qg r;by_cases S:b<M.length
  ·obtain⟨s,t,u,v,w,c2,x,y,z,A,B,C,D,b5,T,b6,b7,b8,b9,c0,P⟩:=qu5 (qb a7) (qb b0) c S;subst T;have m:=qg P;have d:=qg c;have c1:(0:Int)<=(b:Int):=(by omega);have c3:(b:Int)<(M.length:Int):=(by omega);clear P c r;have n:Hid (Below e.heap.size e (e.alloc (.cells #[.slice s t u,.slice v w c2,.slice x y z,.slice A B C,.int .i64 D] 82))):=(aa _ e).alloc (zzl _) _;have E:Hid ((e.alloc (.cells #[.slice s t u,.slice v w c2,.slice x y z,.slice A B C,.int .i64 D] 82)).heap[e.heap.size]?=some (.cells #[.slice s t u,.slice v w c2,.slice x y z,.slice A B C,.int .i64 D] 82)):=qt _ _ _ rfl;go_wp2_with fail;refine ((qb m).l.2 _ ((qb d).trans ((qb n).mono (qb f)))).mono ?_;rintro l c4 ⟨rfl,F⟩;have o:=qg ((qb n).trans (F.mono (qb n).size));have a:=(F.block _ (qh (qb E))).trans (qb E);have G:=qg a;obtain⟨-,g,h,i,j,-⟩:=zzc a;clear F a n E;go_wp2_with fail;clear g h i j;refine ((qb m).a.2 _ ((qb d).trans ((qb o).mono (qb f)))).mono ?_;rintro l c5 ⟨rfl,H⟩;have p:=qg ((qb o).trans (H.mono (qb o).size));have a:=(H.block _ (qh (qb G))).trans (qb G);have I:=qg a;obtain⟨-,g,h,i,j,-⟩:=zzc a;clear H a o G;go_wp2_with fail;clear g h i j;refine ((qb m).b.2 _ ((qb d).trans ((qb p).mono (qb f)))).mono ?_;rintro l c6 ⟨rfl,J⟩;have T3:=qg ((qb p).trans (J.mono (qb p).size));have a:=(J.block _ (qh (qb I))).trans (qb I);have K:=qg a;obtain⟨-,g,h,i,j,-⟩:=zzc a;clear J a p I;go_wp2_with fail;clear g h i j;refine ((qb m).c.2 _ ((qb d).trans ((qb T3).mono (qb f)))).mono ?_;rintro l c7 ⟨rfl,L⟩;have U:=qg ((qb T3).trans (L.mono (qb T3).size));have a:=(L.block _ (qh (qb K))).trans (qb K);have c8:=qg a;obtain⟨-,g,h,i,j,-⟩:=zzc a;clear L a T3 K;go_wp2;go_roundw
   case rel=>exact⟨rfl,b+1,by omega,by go_num,(qb d).trans ((qb U).mono (qb f))⟩
   case measure=>simp[intOf];omega
  ·obtain rfl:b=M.length:=(by omega);have d:=qg c;clear c r f a7 b0;go_wp2;clear m4 m5 m6;go_loopw [3,6] (fun R q wr=>R=.bool true/\∃ b:Nat,b<=N.length/\q=.int .i64 b/\Below k.heap.size k wr) (fun _ q _=>N.length-(intOf q).toNat)
   case atStart=>exact⟨rfl,0,aj _,rfl,qb d⟩
   case round=>
    clear d;rename World=>e;obtain⟨rfl,b,b4,rfl,c⟩:=hrel;have m5:=(c.cell Q).trans (qb b3);have m6:=(c.cell Q).trans (qb a0);have r:=c.size;have f:=qg r;by_cases S:b<N.length
    ·obtain⟨s,t,u,v,w,c2,x,y,z,A,B,C,D,b5,T,b6,b7,b8,b9,c0,P⟩:=qu5 (qb a8) (qb b1) c S;subst T;have m:=qg P;have d:=qg c;have c1:(0:Int)<=(b:Int):=(by omega);have c3:(b:Int)<(N.length:Int):=(by omega);clear P c r;have n:Hid (Below e.heap.size e (e.alloc (.cells #[.slice s t u,.slice v w c2,.slice x y z,.slice A B C,.int .i64 D] 85))):=(aa _ e).alloc (zzl _) _;have E:Hid ((e.alloc (.cells #[.slice s t u,.slice v w c2,.slice x y z,.slice A B C,.int .i64 D] 85)).heap[e.heap.size]?=some (.cells #[.slice s t u,.slice v w c2,.slice x y z,.slice A B C,.int .i64 D] 85)):=qt _ _ _ rfl;go_wp2_with fail;refine ((qb m).l.2 _ ((qb d).trans ((qb n).mono (qb f)))).mono ?_;rintro l c4 ⟨rfl,F⟩;have o:=qg ((qb n).trans (F.mono (qb n).size));have a:=(F.block _ (qh (qb E))).trans (qb E);have G:=qg a;obtain⟨-,g,h,i,j,-⟩:=zzc a;clear F a n E;go_wp2_with fail;clear g h i j;refine ((qb m).a.2 _ ((qb d).trans ((qb o).mono (qb f)))).mono ?_;rintro l c5 ⟨rfl,H⟩;have p:=qg ((qb o).trans (H.mono (qb o).size));have a:=(H.block _ (qh (qb G))).trans (qb G);have I:=qg a;obtain⟨-,g,h,i,j,-⟩:=zzc a;clear H a o G;go_wp2_with fail;clear g h i j;refine ((qb m).b.2 _ ((qb d).trans ((qb p).mono (qb f)))).mono ?_;rintro l c6 ⟨rfl,J⟩;have T3:=qg ((qb p).trans (J.mono (qb p).size));have a:=(J.block _ (qh (qb I))).trans (qb I);have K:=qg a;obtain⟨-,g,h,i,j,-⟩:=zzc a;clear J a p I;go_wp2_with fail;clear g h i j;refine ((qb m).c.2 _ ((qb d).trans ((qb T3).mono (qb f)))).mono ?_;rintro l c7 ⟨rfl,L⟩;have U:=qg ((qb T3).trans (L.mono (qb T3).size));have a:=(L.block _ (qh (qb K))).trans (qb K);have c8:=qg a;obtain⟨-,g,h,i,j,-⟩:=zzc a;clear L a T3 K;go_wp2;go_roundw
     case rel=>exact⟨rfl,b+1,by omega,by go_num,(qb d).trans ((qb U).mono (qb f))⟩
     case measure=>simp[intOf];omega
    ·obtain rfl:b=N.length:=(by omega);have d:=qg c;clear c r f a8 b1;go_wp2;clear m5 m6;go_loopw [3,8] (fun R q wr=>R=.bool true/\∃ b:Nat,b<=O.length/\q=.int .i64 b/\Below k.heap.size k wr) (fun _ q _=>O.length-(intOf q).toNat)
     case atStart=>exact⟨rfl,0,aj _,rfl,qb d⟩
     case round=>
      clear d;rename World=>e;obtain⟨rfl,b,b4,rfl,c⟩:=hrel;have m6:=(c.cell Q).trans (qb a0);have r:=c.size;have f:=qg r;by_cases S:b<O.length
      ·obtain⟨s,t,u,v,w,c2,x,y,z,A,B,C,D,b5,T,b6,b7,b8,b9,c0,P⟩:=qu5 (qb a9) (qb b2) c S;subst T;have m:=qg P;have d:=qg c;have c1:(0:Int)<=(b:Int):=(by omega);have c3:(b:Int)<(O.length:Int):=(by omega);clear P c r;have n:Hid (Below e.heap.size e (e.alloc (.cells #[.slice s t u,.slice v w c2,.slice x y z,.slice A B C,.int .i64 D] 89))):=(aa _ e).alloc (zzl _) _;have E:Hid ((e.alloc (.cells #[.slice s t u,.slice v w c2,.slice x y z,.slice A B C,.int .i64 D] 89)).heap[e.heap.size]?=some (.cells #[.slice s t u,.slice v w c2,.slice x y z,.slice A B C,.int .i64 D] 89)):=qt _ _ _ rfl;go_wp2_with fail;refine ((qb m).l.2 _ ((qb d).trans ((qb n).mono (qb f)))).mono ?_;rintro l c4 ⟨rfl,F⟩;have o:=qg ((qb n).trans (F.mono (qb n).size));have a:=(F.block _ (qh (qb E))).trans (qb E);have G:=qg a;obtain⟨-,g,h,i,j,-⟩:=zzc a;clear F a n E;go_wp2_with fail;clear g h i j;refine ((qb m).a.2 _ ((qb d).trans ((qb o).mono (qb f)))).mono ?_;rintro l c5 ⟨rfl,H⟩;have p:=qg ((qb o).trans (H.mono (qb o).size));have a:=(H.block _ (qh (qb G))).trans (qb G);have I:=qg a;obtain⟨-,g,h,i,j,-⟩:=zzc a;clear H a o G;go_wp2_with fail;clear g h i j;refine ((qb m).b.2 _ ((qb d).trans ((qb p).mono (qb f)))).mono ?_;rintro l c6 ⟨rfl,J⟩;have T3:=qg ((qb p).trans (J.mono (qb p).size));have a:=(J.block _ (qh (qb I))).trans (qb I);have K:=qg a;obtain⟨-,g,h,i,j,-⟩:=zzc a;clear J a p I;go_wp2_with fail;clear g h i j;refine ((qb m).c.2 _ ((qb d).trans ((qb T3).mono (qb f)))).mono ?_;rintro l c7 ⟨rfl,L⟩;have U:=qg ((qb T3).trans (L.mono (qb T3).size));have a:=(L.block _ (qh (qb K))).trans (qb K);have c8:=qg a;obtain⟨-,g,h,i,j,-⟩:=zzc a;clear L a T3 K;go_wp2;go_roundw
       case rel=>exact⟨rfl,b+1,by omega,by go_num,(qb d).trans ((qb U).mono (qb f))⟩
       case measure=>simp[intOf];omega
      ·obtain rfl:b=O.length:=(by omega);have d:=qg c;clear c r f a9 b2;go_wp2;go_ret;exact⟨rfl,qb d⟩
def qs3 (a:Nat)(c:a<4294967296):bits .and .u64 (a:Int) 4294967295=(a:Int):=by
 have b:=bits_and_u64_nat a 4294967295 (by omega) (by omega);have d:=Nat.and_two_pow_sub_one_eq_mod a 32;rw[d,Nat.mod_eq_of_lt c] at b;exact b
def qj2 (a:Nat)(f:a<=1000000)(b:World):Calls Tryz.prog 151 #[.int .u64 1,.int .u64 (a:Int)] b fun c d=>c=.returned (.tuple #[.int .u64 0,.int .u64 (a:Int)])/\d=b:=by
 have m1:bits .and .u64 1 4294967295=1:=qs3 1 (by omega);have g:=qs3 a (by omega);have m0:bits .and .u64 0 4294967295=0:=qs3 0 (by omega);have h:(a:Int)/4294967296=0:=(by omega);have e:IntKind.u64.wrap (a:Int)=(a:Int):=(by rw[fj];omega);have i:IntKind.u64.wrap 0=0:=(by rw[fj];omega);go_enter Tryz.func151,Tryz.ntmps151;go_wp2;go_ret2;refine⟨?_,rfl⟩;simp[e]
def zb2 (a:Nat)(c:a<=1000000)(b:World):Calls Tryz.prog 129 #[.int .u64 1,.int .u64 (a:Int)] b fun d e=>d=.returned (.tuple #[.int .u64 0,.int .u64 (a:Int)])/\e=b:=by
 have g:=qg (qj2 a c b);clear c;go_enter Tryz.func129,Tryz.ntmps129;go_wp2_with (go_at_call 151;refine (qb g).mono ?_;rintro d e ⟨rfl,f⟩;have h:=f.symm;clear f;subst h);go_ret2;exact⟨rfl,rfl⟩
def ZR (m:TypeId)(n d e a c:Nat)(b:List Int)(o:zh w n (.slice (some ⟨d,0,none⟩) e e) b)(u:b.length=e)(v:a<=e)(i:c=Nat.min a (e-a)):∃ j,(Builtin.copy_ #[50,50] m #[.slice (some ⟨d,a,none⟩) (e-a) (e-a),.slice (some ⟨d,0,none⟩) a e]).run Tryz.prog w=.ok (goInt c) j/\zh j n (.slice (some ⟨d,0,none⟩) e e) (b.take a++b.take c++b.drop (a+c))/\w.grownBy j (some d):=by
 obtain⟨H,x,I,y,J⟩:=aZ yg;have K:c<=a:=(by rw[i];exact Nat.min_le_left _ _);have L:c<=e-a:=(by rw[i];exact Nat.min_le_right _ _);rcases o.2 with ⟨f,_⟩ | ⟨M,N,g,f,z,p,O,A,q,B⟩
 ·cases f
 ·simp only[ai,ac,bz,bB] at f;obtain⟨rfl,f,rfl⟩:=f;subst u;have C:g.toList=b.map (Value.int .i64):=(by rw[<-B,aL (by simp[q])]);have h:((b.take c).map (Value.int .i64)).length=c:=(by rw[ak,ao];omega);have D:a+((b.take c).map (Value.int .i64)).length<=g.size:=(by rw[h,q];omega);have r:=run_copy_row (P:=Tryz.prog) w 50 50 m 3 d a (b.length-a) (b.length-a) ⟨d,0,none⟩ a b.length g 3 ((b.take c).map (Value.int .i64)) Tryz.underlying50 (by rw[x];simp[y]) p (by rw[h];exact i) (fun s Q t=>by
   have E:(⟨d,0,none⟩:Addr).add s=⟨d,s,none⟩:=(by unfold Addr.add;split<;>simp_all);rw[E];rw[aF] at t;obtain⟨R,k,rfl⟩:=cN.1 t;have F:=(zzg k).1;rw[ao] at F;rw[cQ (by omega)] at k;exact kP o rfl k) D (QU _)
  have f:(g.toList.take a++(b.take c).map (Value.int .i64)++g.toList.drop (a+((b.take c).map (Value.int .i64)).length))=(b.take a++b.take c++b.drop (a+c)).map (Value.int .i64):=(by rw[C,h,aE,aE,dg,dg,ds]);rw[f,h] at r;refine⟨_,r,?_,rfl,rfl,rfl,by simp[World.setRow],fun a v G=>ct w d a _ (fun f=>G (by rw[f]))⟩;have l:(b.take a++b.take c++b.drop (a+c)).length=b.length:=(by simp;omega);unfold zh;rw[l];refine⟨by rw[ak,l];omega,.inr ⟨d,b.length,_,rfl,z,da w d g _ _ _ p,zzl _,A,by simp;omega,?_⟩⟩;rw[aL (by rw[ak,l];omega)]
def Zb (j:p.guard=none)(h i:Operand)(k:p.op=.call {callee:=.builtin .copy,args:=#[h,i],argTypes:=#[50,50]}) (g c a b e:Nat) (d:List Int) (l:s.eval h=.slice (some ⟨c,b,none⟩) (a-b) (a-b)) (m:s.eval i=.slice (some ⟨c,0,none⟩) b a)(n:zh w g (.slice (some ⟨c,0,none⟩) a a) d) (o:d.length=a) (q:b<=a) (r:e=Nat.min b (a-b))(t:∀ f,zh f g (.slice (some ⟨c,0,none⟩) a a) (d.take b++d.take e++d.drop (b+e))->w.grownBy f (some c)->b3 (s.put p.dst (goInt e)) f):if Region.wanted p (yielded F s.tmps)=true then Oper.wp Tryz.prog p s w b3 D else b2:=by
 have u:Region.wanted p (yielded F s.tmps)=true:=(by simp[Region.wanted,j]);rw[an u];obtain⟨f,v,x,y⟩:=ZR p.type g c a b e d n o q r;have z:=t f x y;unfold Oper.wp;simp[execOp,k,resolve,invoke,builtin,l,m,v,Result.andThen];exact z
def qq8 (d:Int)(c a b:Nat)(e:b<=a)(f:b<=c-a):(List.replicate a d++List.replicate (c-a) (0:Int)).take a++(List.replicate a d++List.replicate (c-a) (0:Int)).take b++(List.replicate a d++List.replicate (c-a) (0:Int)).drop (a+b)=List.replicate (a+b) d++List.replicate (c-(a+b)) 0:=by
 rw[bi (by simp),bi (by simp;omega),fZ,aS,bI (by simp),cd,fL,fI,fI,dR,bK e,db];congr 2;omega
def Km (g a:Nat)(d:Int)(c:World)(R:1<=a/\a<=256)(F:c.cell? ⟨g,0,none⟩=some (.int .i64 d))(G:g<c.heap.size):Calls Tryz.prog 107 #[.slice (some ⟨g,0,none⟩) 1 1,.int .i64 (a:Int)] c fun e q=>∃ m,e=.returned (.slice (some ⟨m,0,none⟩) a a)/\zh q c.heap.size (.slice (some ⟨m,0,none⟩) a a) (List.replicate a d)/\Below c.heap.size c q:=by
 have r:=qg (zb2 a (by omega));have s:gS (fun _=>True) c (.slice (some ⟨g,0,none⟩) 1 1) [d]:=⟨some ⟨g,0,none⟩,1,rfl,by simp,by simp[maxLen],fun _=>⟨g,0,rfl,trivial,G,fun t S h=>by
  match t,h with
  | 0,h=>simp at h;subst h;exact F
  | t+1,h=>simp at h⟩⟩
 have H:=vx a (by omega);have I:=qg s;have T:IntKind.u64.wrap (1:Int)=1:=(by rw[fj];omega);have U:IntKind.u64.wrap (a:Int)=(a:Int):=(by rw[fj];omega);have V:IntKind.i64.wrap (a:Int)=(a:Int):=(by rw[af];omega);clear s;go_enter Tryz.func107,Tryz.ntmps107;go_wp2_with fail;refine ((qb r) _).mono ?_;rintro e u ⟨rfl,v⟩;have J:=v.symm;clear v r;subst J
 go_wp2_with (refine XT rfl _ _ rfl (fun _=>True) c.heap.size c.heap.size a (List.replicate a 0) [d] (.slice (some ⟨g,0,none⟩) 1 1) rfl rfl (Zk c a _ (zzl _) (by omega)) (by simp) ((qb I).below ((aa _ c).alloc (zzl _) _)) (by simp;omega) ?_;intro u w x;have y:=((aa _ c).alloc (zzl _) _).grown x (by simp) (fun b e=>by cases e;exact zzl _);have z:zh u c.heap.size (.slice (some ⟨c.heap.size,0,none⟩) a a) (List.replicate 1 d++List.replicate (a-1) 0):=(by have e:[d]++(List.replicate a (0:Int)).drop [d].length=List.replicate 1 d++List.replicate (a-1) 0:=(by simp);rw[<-e];exact w);have A:=qg z;have B:=qg y;clear w z x y)
 go_loopw [8] (fun n wr=>∃ b:Nat,1<=b/\b<=a/\n=.int .i64 b/\Below c.heap.size c wr/\zh wr c.heap.size (.slice (some ⟨c.heap.size,0,none⟩) a a) (List.replicate b d++List.replicate (a-b) 0)) (fun n _=>a-(intOf n).toNat)
 case atStart=>exact⟨1,by omega,by omega,rfl,qb B,qb A⟩
 case round=>
  rename World=>K;obtain⟨b,W,L,rfl,j,k⟩:=hrel;clear B A;by_cases X:b<a
  ·obtain⟨f,i⟩:=zx (Nat.min b (a-b));have M:f<=b:=(by rw[i];exact Nat.min_le_left _ _);have N:f<=a-b:=(by rw[i];exact Nat.min_le_right _ _);have Y:1<=f:=(by rw[i];exact Nat.le_min.2 ⟨by omega,by omega⟩);have Z:(0:Int)<=(b:Int):=(by omega);have a0:(b:Int)<(a:Int):=(by omega);have a1:(b:Int)<=(a:Int):=(by omega);have a2:IntKind.i64.wrap ((b:Int)+(f:Int))=(b:Int)+(f:Int):=(by rw[af];omega);have a3:¬a=b:=(by omega);have o:=qg k;have l:=qg j;have O:=qg i;clear k j i H;go_wp2_with fail;go_region_law
    ((refine Zb (by rfl) _ _ (by rfl) c.heap.size c.heap.size a b f (List.replicate b d++List.replicate (a-b) 0) (by go_simp) (by go_simp) (dP (qb o)) (by simp;omega) L (qb O) ?_;intro a4 p C))
   have D:=((qb l).drew).grown C (qb l).size (fun m e=>by cases e;exact zzl _);rw[qq8 d a b f M N] at p;have P:=qg p;have Q:=qg D;clear p D C;go_simp;go_wp2;go_roundw
   case rel=>exact⟨b+f,by omega,by omega,by first | rfl | go_num,qb Q,qb P⟩
   case measure=>simp[intOf];omega
  ·obtain rfl:b=a:=(by omega);have E:zh K c.heap.size (.slice (some ⟨c.heap.size,0,none⟩) b b) (List.replicate b d):=(by have e:List.replicate b d++List.replicate (b-b) (0:Int)=List.replicate b d:=(by simp);rw[<-e];exact k);have o:=qg E;have l:=qg j;clear k E j;go_wp2;go_ret;exact⟨c.heap.size,rfl,qb o,qb l⟩
variable{m':List (Int×Int)}
def k2 (a:Int×Int):P2:=(.int .i64 a.1,.int .i64 a.2)
def Vs (a:List (Int×Int)):yN (a.map k2):=by
 intro c b;obtain⟨d,_,rfl⟩:=aC.1 b;exact⟨rfl,rfl⟩
def kR (e:qN w n d (.slice (some ⟨i,0,none⟩) g b) b1){p:P2}(a:b1[j]?=some p):w.cell? ⟨i,j*2,none⟩=some p.1/\w.cell? ⟨i,j*2+1,none⟩=some p.2:=by
 obtain⟨f,c,_⟩:=e.row;have h:(b1++f)[j]?=some p:=(by rw[aM (zzg a).1];exact a);have:=XV _ j p h;rw[qe c,qe c,bR,bR];exact this
def KU {cap:Nat}(j:∀ (b:Nat)(a:Int×Int),m'[b]?=some a->w.cell? ⟨n,b*2,none⟩=some (.int .i64 a.1)/\w.cell? ⟨n,b*2+1,none⟩=some (.int .i64 a.2))(s:m'≠[]->n<w.heap.size)(M:m'.length<=1000)(c d:Int)(f:Nat)(k:m'[f]?=some (c,d))(t:∀ b,b<f->m'[b]?≠some (c,d)):Calls Tryz.prog 153 #[.slice (some ⟨n,0,none⟩) m'.length cap,.agg #[.int .i64 c,.int .i64 d]] w fun l B=>l=.returned (.int .i64 (f:Int))/\Below w.heap.size w B:=by
 have u:=(zzg k).1;have m:=s (by intro l;rw[l] at u;simp at u);obtain⟨o,g⟩:=zx (w.alloc (.cells #[.int .i64 c,.int .i64 d] 173));have v:o.heap[w.heap.size]?=some (.cells #[.int .i64 c,.int .i64 d] 173):=(by rw[g];exact qt _ _ _ rfl);have h:Below w.heap.size w o:=(by rw[g];exact (aa _ w).alloc (zzl _) _);have C:=qg fun b a p=>ci ((h.cell m).trans (j b a p).1) ((h.cell m).trans (j b a p).2);obtain⟨N,O,-⟩:=zzc v;have D:=qg k;have E:=qg t;have F:=qg h;have G:=qg g;clear j k t v h g s m;go_enter Tryz.func153,Tryz.ntmps153;go_wp2;rw[<-qb G];go_loopw [8] (fun q wr=>∃ a:Nat,a<=f/\q=.int .i64 a/\(∃ i,wr=o.drewN i)) (fun q _=>m'.length-(intOf q).toNat)
 case atStart=>exact⟨0,aj _,rfl,⟨0,rfl⟩⟩
 case round=>
  obtain⟨a,p,rfl,⟨i,rfl⟩⟩:=hrel;obtain⟨⟨x,y⟩,e⟩:∃ H,m'[a]?=some H:=⟨m'[a]'(by omega),by simp⟩;obtain⟨I,J⟩:=(qb C) a _ e;simp only at I J;have P:(0:Int)<=(a:Int):=(by omega);have Q:(a:Int)<(m'.length:Int):=(by omega);by_cases K:a=f
  ·subst K;rw[qb D] at e;simp only[ac,bP] at e;obtain⟨rfl,rfl⟩:=e;go_wp2;go_quiet (fail);go_wp2;go_ret;exact⟨rfl,ax (ax (qb F) _) _⟩
  ·have r:¬(c=x/\d=y):=fun z=>(qb E) a (by omega) (by rw[e,z.1,z.2]);clear e;by_cases A:c=x
   ·have R:¬d=y:=fun L=>r ⟨A,L⟩;subst A;clear r;go_wp2;go_quiet (fail);go_wp2;go_roundw
    case rel=>exact⟨a+1,by omega,by go_num,⟨i+nq,by rfl⟩⟩
    case measure=>simp[intOf];omega
   ·clear r;go_wp2;go_quiet (fail);go_wp2;go_roundw
    case rel=>exact⟨a+1,by omega,by go_num,⟨i+nq,by rfl⟩⟩
    case measure=>simp[intOf];omega
def qx1:∀ (c:List P2)(a:Nat)(b:P2),c2 (c.set a b)=((c2 c).set (a*2) b.1).set (a*2+1) b.2
 | [],a,b=>by simp[c2]
 | d::c,0,b=>by simp[jd]
 | d::c,a+1,b=>by
  rw[List.set_cons_succ,jd,jd,qx1 c a b,show (a+1)*2=a*2+1+1 by omega,show a*2+1+1+1=(a*2+1)+1+1 by omega];simp
def V5 (c:vi w n d b1)(a:Nat)(b:P2):vi ((w.setCell ⟨n,a*2,none⟩ b.1).setCell ⟨n,a*2+1,none⟩ b.2) n d (b1.set a b):=by
 have e:=qp (i:=a*2) c b.1;have f:=qp (i:=a*2+1) e b.2;rw[vi,qx1,f];simp
def Z1 (b:vi w n d b1){a:P2}(c:b1[i]?=some a):w.cell? ⟨n,i*2,none⟩=some a.1/\w.cell? ⟨n,i*2+1,none⟩=some a.2:=by
 have:=XV _ i a c;rw[qe b,qe b,bR,bR];exact this
def qw9 (b:w.heap[n]?=some (.cells #[.int .i64 q,.int .i64 B'] 173 (0,0)))(a:Int×Int):Calls Tryz.prog 132 #[.agg #[.int .i64 a.1,.int .i64 a.2],.pointer (some ⟨n,0,none⟩)] w fun e f=>e=.returned (.bool (a.1 == q&&a.2 == B'))/\Below w.heap.size w f:=by
 obtain⟨g,h⟩:=a;obtain⟨i,j,-⟩:=zzc b;have k:=qh b;clear b;by_cases c:g=q
 ·by_cases d:h=B'
  ·subst c d;go_enter Tryz.func132,Tryz.ntmps132;go_wp2;go_ret;exact⟨by simp,(aa _ w).alloc (zzl _) _⟩
  ·subst c;go_enter Tryz.func132,Tryz.ntmps132;go_wp2;go_ret;exact⟨by simp[d],(aa _ w).alloc (zzl _) _⟩
 ·go_enter Tryz.func132,Tryz.ntmps132;go_wp2;go_ret;exact⟨by simp[c],(aa _ w).alloc (zzl _) _⟩
def jH (c:w.ownsRow n d i v j xs)(e:0<j):∃ a b,v=.slice (some ⟨a,0,none⟩) j b:=by
 rcases c.2 with ⟨rfl,rfl⟩ | ⟨a,b,f,rfl,_⟩
 ·omega
 ·exact⟨a,b,rfl⟩
def tj (d:Int×Int->Bool)(b:List (Int×Int))(e:Int):Prop:=(e=-1/\∀ a∈b,d a=false)\/∃ c:Nat,e=c/\c<b.length/\(∀ a∈b.take c,d a=false)/\∀ a,b[c]?=some a->d a=true
def qk1 (l:qN w 0 173 v (m'.map k2))(P:m'.length<=100000000)(m:Int×Int->Bool)(x:Nat)(y:∀ (W:World)(a:Int×Int),Below w.heap.size w W->Calls Tryz.prog 132 #[.agg #[.int .i64 a.1,.int .i64 a.2],.pointer (some ⟨x,0,none⟩)] W fun c i=>c=.returned (.bool (m a))/\Below W.heap.size W i):Calls Tryz.prog 152 #[v,.func (.func 132) #[] #[.pointer (some ⟨x,0,none⟩)]] w fun c i=>(∃ z:Int,c=.returned (.int .i64 z)/\tj m m' z)/\Below w.heap.size w i:=by
 obtain⟨J,Q,rfl⟩:=qr l;have o:(m'.map k2).length=m'.length:=(by simp);rw[o];have A:∀ (j:Nat)(a:Int×Int),m'[j]?=some a->∃ d,J=some ⟨d,0,none⟩/\d<w.heap.size/\w.cell? ⟨d,j*2,none⟩=some (.int .i64 a.1)/\w.cell? ⟨d,j*2+1,none⟩=some (.int .i64 a.2):=by
  intro j a p;have R:=(zzg p).1;rcases l.2 with ⟨c,K⟩ | ⟨d,S,T,c,_,L,_⟩
  ·rw[o] at K;omega
  ·simp only[ai] at c;obtain⟨rfl,_,rfl⟩:=c;have:=kR l (p:=k2 a) (j:=j) (by rw[aF,p];rfl);exact⟨d,rfl,qh L,this⟩
 have M:=qg A;have N:=qg y;clear A y l o;go_enter Tryz.func152,Tryz.ntmps152;go_wp2;go_loopw [8] (fun q wr=>∃ a:Nat,a<=m'.length/\q=.int .i64 a/\(∀ f∈m'.take a,m f=false)/\Below w.heap.size w wr) (fun q _=>m'.length-(intOf q).toNat)
 case atStart=>exact⟨0,aj _,rfl,by simp,aa _ w⟩
 case round=>
  obtain⟨a,p,rfl,B,e⟩:=hrel;have r:=qg B;clear B;by_cases C:a<m'.length
  ·obtain⟨⟨D,E⟩,s⟩:∃ O,m'[a]?=some O:=⟨m'[a],by simp[C]⟩;obtain⟨d,rfl,F,G,H⟩:=(qb M) a _ s;have G:=(e.cell F).trans G;have H:=(e.cell F).trans H;have U:(0:Int)<=(a:Int):=(by omega);have V:(a:Int)<(m'.length:Int):=(by omega);have n:=qg ((qb N) wr (D,E) e);have I:=qg s;have g:=qg e;clear s e;cases h:m (D,E)
   ·rw[h] at n;have t:=qg h;clear h;go_wp2_with (go_at_call 132;refine (qb n).mono ?_;rintro c i ⟨rfl,k⟩;have u:=qg k;clear k);go_roundw
    case rel=>
     refine⟨a+1,by omega,by go_num,?_,(qb g).trans ((qb u).mono (qb g).size)⟩;intro f b;rw[am,qb I] at b;rcases al.1 b with b | b
     ·exact (qb r) f b
     ·simp at b;rw[b];exact qb t
    case measure=>simp[intOf];omega
   ·rw[h] at n;have t:=qg h;clear h;go_wp2_with (go_at_call 132;refine (qb n).mono ?_;rintro c i ⟨rfl,k⟩;have u:=qg k;clear k);go_ret;exact⟨⟨_,rfl,.inr ⟨a,rfl,C,qb r,fun f b=>by rw[qb I] at b;rw[<-aA b];exact qb t⟩⟩,(qb g).trans ((qb u).mono (qb g).size)⟩
  ·have g:=qg e;clear e;go_wp2;go_ret;exact⟨⟨_,rfl,.inl ⟨rfl,fun f b=>(qb r) f (by rw[aL (by omega)];exact b)⟩⟩,qb g⟩
def vR {c:Type}(d:c->Bool):∀ b:List c,(∀ a∈b,d a=false)->b.filter (fun a=>!d a)=b:=by
 intro b e;rw[eS];intro a f;simp[e a f]
def Yx {a:Int×Int->Bool}(c:∀ k∈m',a k=false)(d:tj a m' q):q=-1:=by
 rcases d with ⟨rfl,_⟩ | ⟨e,rfl,b,_,f⟩
 ·rfl
 ·have:=f m'[e] (by simp[b]);rw[c _ (fY b)] at this;cases this
def Yw {b:Int×Int->Bool}{c:Int×Int}(d:m'[n]?=some c)(f:∀ k∈m'.take n,b k=false)(e:b c=true)(g:tj b m' q):q=n:=by
 have o:=(zzg d).1;have h:=(zzg d).2;rcases g with ⟨rfl,i⟩ | ⟨a,rfl,j,l,k2⟩
 ·rw[i c (zzn d)] at e;cases e
 ·rcases Nat.lt_trichotomy n a with p | m | r
  ·have:=l m'[n] (List.mem_take_iff_getElem.2 ⟨n,by omega,rfl⟩);rw[h,e] at this;cases this
  ·rw[m]
  ·have:=f m'[a] (List.mem_take_iff_getElem.2 ⟨a,by omega,rfl⟩);rw[k2 m'[a] (by simp[j])] at this;cases this
def qt9 (d:Int×Int->Bool)(c:List (Int×Int)):(∀ b∈c,d b=false)\/∃ e f,c[e]?=some f/\(∀ b∈c.take e,d b=false)/\d f=true:=by
 induction c with
 | nil=>exact .inl (by simp)
 | cons i c g=>
  cases h:d i
  ·rcases g with g | ⟨e,f,j,k,l⟩
   ·exact .inl (fun b a=>by rcases bf.1 a with rfl | a;exact h;exact g b a)
   ·exact .inr ⟨e+1,f,by simpa using j,fun b a=>by rw[dJ] at a;rcases bf.1 a with rfl | a;exact h;exact k b a,l⟩
  ·exact .inr ⟨0,i,rfl,by simp,h⟩
def xg {d:Type}(a:d->Bool)(e:List d)(b:d):(e++[b]).filter a=if a b=true then e.filter a++[b] else e.filter a:=by
 rw[ce];by_cases c:a b=true
 ·rw[an c];simp[c]
 ·rw[ah c];simp[c]
def qk2 (t:qN w 0 173 v (m'.map k2))(F:m'.length<=100000000)(g:Int×Int->Bool)(G:Nat)(y:∀ (j:World)(c:Int×Int),gp (fun e=>v.ownBlock=some e) w j->Calls Tryz.prog 132 #[.agg #[.int .i64 c.1,.int .i64 c.2],.pointer (some ⟨G,0,none⟩)] j fun f d=>f=.returned (.bool (g c))/\Below j.heap.size j d)(u:List (Int×Int)) (hF:u=m'.filter fun c=>!g c):Calls Tryz.prog 131 #[v,.func (.func 132) #[] #[.pointer (some ⟨G,0,none⟩)]] w fun f d=>(∃ x,f=.returned x/\qN d 0 173 x (u.map k2)/\x.ownBlock=v.ownBlock)/\gp (fun e=>v.ownBlock=some e) w d:=by
 have p:=qk1 t F g G (fun j c m=>y j c (.aD m));rcases qt9 g m' with b1 | ⟨q,e,H,h1,h2⟩
 ·have p:=p.mono (R':=fun f d=>f=.returned (.int .i64 (-1))/\Below w.heap.size w d) (by rintro f d ⟨⟨n,rfl,V⟩,m⟩;rw[Yx b1 V];exact⟨rfl,m⟩);have b2:u=m':=(by rw[hF,vR g m' b1]);have W:∀ d,Below w.heap.size w d->(∃ x,Ending.returned v=.returned x/\qN d 0 173 x (u.map k2)/\x.ownBlock=v.ownBlock)/\gp (fun e=>v.ownBlock=some e) w d:=fun d m=>⟨⟨v,rfl,by rw[b2];exact qi t (S:=fun _=>False) (.aD m) (fun _ _ X=>X),rfl⟩,.aD m⟩;obtain⟨g2,r,rfl⟩:=qr t;have I:(m'.map k2).length=m'.length:=(by simp);rw[I] at p W ⊢;have Y:=qg p;have d7:=qg W;clear p W y t hF b2;go_enter Tryz.func131,Tryz.ntmps131;go_wp2_with (go_at_call 152;refine (qb Y).mono ?_;rintro f d8 ⟨rfl,C⟩;have J:=qg C;clear C);go_ret;exact (qb d7) _ (qb J)
 ·have p:=p.mono (R':=fun f d=>f=.returned (.int .i64 (q:Int))/\Below w.heap.size w d) (by rintro f d ⟨⟨n,rfl,V⟩,m⟩;rw[Yw H h1 h2 V];exact⟨rfl,m⟩);have d9:=(zzg H).1;have I:(m'.map k2).length=m'.length:=(by simp);obtain⟨i,r,rfl⟩:=jH t (by omega);obtain⟨e0,Z,K,_,g3,e1⟩:=qN.row t;obtain⟨L,D⟩:=zx (m'.map k2++e0);rw[<-D] at Z K;rw[I] at p ⊢;have e2:m'.length<=r:=(by rw[<-K,D];simp);obtain⟨n,M⟩:=zx m'.length;rw[<-M] at p ⊢;have F:=F;have y:∀ (j:World)(c:Int×Int),gp (fun e=>e=i) w j->Calls Tryz.prog 132 #[.agg #[.int .i64 c.1,.int .i64 c.2],.pointer (some ⟨G,0,none⟩)] j fun f d=>f=.returned (.bool (g c))/\Below j.heap.size j d:=fun j c m=>y j c (m.wide (fun e _ f=>by rw[f];rfl));have b3:∀ d,gp (fun e=>e=i) w d->gp (fun e=>(Value.slice (some ⟨i,0,none⟩) n r).ownBlock=some e) w d:=fun d m=>m.wide (fun e _ f=>by rw[f];rfl);have b4:∀ a c,m'[a]?=some c->L[a]?=some (k2 c):=fun a c N=>by
   rw[D,aM (by simp;exact (zzg N).1),aF,N];rfl
  have Y:=qg p;have e3:=qg y;have e4:=qg b3;have e5:=qg Z;have a0:=qg M;have e6:=qg hF;have e7:=qg b4;have e8:=qg D;have e9:=qg K;have f0:=qg h1;have f1:=qg h2;have f2:=qg H;have g4:IntKind.i64.wrap ((q:Int)+1)=((q+1:Nat):Int):=(by rw[af];omega);have g5:((q:Int) == -1)=false:=(by simp);have g6:q<n:=(by omega);have g7:n<=r:=(by omega);have g8:n<=100000000:=(by omega);clear p y b3 Z hF b4 D K h1 h2 H t I d9 e2 F M;go_enter Tryz.func131,Tryz.ntmps131;go_wp2_with (go_at_call 152;refine (qb Y).mono ?_;rintro f d8 ⟨rfl,C⟩;have J:=qg C;clear C);go_loopw [5,6] (fun b5 a1 wr=>∃ (b a:Nat)(h:List P2),b5=.int .i64 (b:Int)/\a1=.int .i64 (a:Int)/\b<a/\a<=n/\vi wr i 173 h/\h.length=r/\h.take b=((m'.take a).filter fun c=>!g c).map k2/\b=((m'.take a).filter fun c=>!g c).length/\h.drop a=L.drop a/\gp (fun e=>e=i) w wr) (fun b5 a1 _=>n-(intOf a1).toNat)
  case atStart=>
   have M:=qb a0;have b6:(m'.take (q+1)).filter (fun c=>!g c)=m'.take q:=(by rw[am,qb f2];show (m'.take q++[e]).filter _=_;rw[xg,ah (by rw[qb f1];simp),vR g _ (qb f0)]);refine⟨q,q+1,L,rfl,by go_num,by omega,by omega,(gp.aD (S:=fun _=>False) (qb J)).heap (qb e5) (fun X=>X),qb e9,?_,?_,rfl,.aD (qb J)⟩
   ·rw[b6,qb e8,bi (by simp;omega),dg]
   ·rw[b6,ao];omega
  case round=>
   obtain⟨b,a,h,rfl,rfl,g9,b7,a2,b8,b9,c0,c1,c3⟩:=hrel;have O:=qg a2;have a3:=qg b9;have a4:=qg c0;have a5:=qg c1;have c4:=qg c3;have A:=qg b8;have i0:=qh a2;clear a2 b9 c0 c1 c3 b8;by_cases f3:a<n
   ·obtain⟨⟨k,l⟩,a6⟩:∃ f4,m'[a]?=some f4:=⟨m'[a]'(by rw[<-qb a0];exact f3),by simp⟩;have c5:h[a]?=some (k2 (k,l)):=(by have h1:(h.drop a)[0]?=(L.drop a)[0]?:=(by rw[qb a5]);simp only[bw,bL] at h1;rw[h1];exact (qb e7) a _ a6);obtain⟨f5,f6⟩:=Z1 (qb O) c5;simp only[k2] at f5 f6;have i1:(0:Int)<=(a:Int):=(by omega);have i2:(a:Int)<(n:Int):=(by omega);have i3:(0:Int)<=(b:Int):=(by omega);have i4:(b:Int)<(n:Int):=(by omega);have i5:IntKind.i64.wrap ((a:Int)+1)=((a+1:Nat):Int):=(by rw[af];omega);have i6:IntKind.i64.wrap ((b:Int)+1)=((b+1:Nat):Int):=(by rw[af];omega);have a7:gp (fun e=>e=i) w (wr.alloc (.cells #[.int .i64 k,.int .i64 l] 173)):=(qb c4).alloc _;have P:=qg ((qb e3) _ (k,l) a7);have c6:(wr.alloc (.cells #[.int .i64 k,.int .i64 l] 173)).heap[wr.heap.size]?=some (.cells #[.int .i64 k,.int .i64 l] 173):=qt _ _ _ rfl;have c7:vi (wr.alloc (.cells #[.int .i64 k,.int .i64 l] 173)) i 173 h:=qx (qb O) _;have c8:=qg c6;have c9:=qg c7;have d0:=qg a7;have i7:¬i=wr.heap.size:=(by omega);obtain⟨⟨i8,i9⟩,d1⟩:∃ f7,h[b]?=some f7:=⟨h[b]'(by rw[qb A];omega),by simp⟩;have f8:=qg d1;clear d1;have d2:=qg a6;clear a6 c5 c6 c7 a7;cases B:g (k,l)
    ·rw[B] at P;have a8:=qg B;clear B;go_wp2_with (go_at_call 132;refine (qb P).mono ?_;rintro f d ⟨rfl,s⟩;have j0:d.cell? ⟨wr.heap.size,0,none⟩=some (.int .i64 k):=qe ((s.block _ (by simp)).trans (qb c8)) 0;have j1:d.cell? ⟨wr.heap.size,1,none⟩=some (.int .i64 l):=qe ((s.block _ (by simp)).trans (qb c8)) 1;have Q:=(s.block _ (by simp;omega)).trans (qb c9);have j2:=qj Q;obtain⟨u0,u1⟩:=Z1 Q (qb f8);have f9:=qg Q;have R:=qg s;clear s Q);go_roundw
     case rel=>
      have E:(m'.take (a+1)).filter (fun c=>!g c)=(m'.take a).filter (fun c=>!g c)++[(k,l)]:=(by rw[am,qb d2];show (m'.take a++[(k,l)]).filter _=_;rw[xg,an (by rw[qb a8];rfl)]);refine⟨b+1,a+1,h.set b (k2 (k,l)),by go_num,by go_num,by omega,by omega,V5 (qb f9) b (k2 (k,l)),by rw[aG];exact qb A,?_,?_,?_,(((qb d0).trans (.aD (qb R))).setCell (p:=⟨i,b*2,none⟩) (.inl rfl) _).setCell (p:=⟨i,b*2+1,none⟩) (.inl rfl) _⟩
      ·rw[E,aE,<-qb a3];rw[am,ar (by rw[qb A];omega),fH (zzl _)];rfl
      ·rw[E,ae,<-qb a4];rfl
      ·rw[eT (by omega)];have:=congrArg (List.drop 1) (qb a5);rw[dj,dj] at this;exact this
     case measure=>simp[intOf];omega
    ·rw[B] at P;have a8:=qg B;clear B;go_wp2_with (go_at_call 132;refine (qb P).mono ?_;rintro f d ⟨rfl,s⟩;have R:=qg s;clear s);go_roundw
     case rel=>
      have E:(m'.take (a+1)).filter (fun c=>!g c)=(m'.take a).filter (fun c=>!g c):=(by rw[am,qb d2];show (m'.take a++[(k,l)]).filter _=_;rw[xg,ah (by rw[qb a8];simp)]);refine⟨b,a+1,h,rfl,by go_num,by omega,by omega,((qb R).block _ (by simp;omega)).trans (qb c9),qb A,by rw[E];exact qb a3,by rw[E];exact qb a4,?_,(qb d0).trans (.aD (qb R))⟩;have:=congrArg (List.drop 1) (qb a5);rw[dj,dj] at this;exact this
     case measure=>simp[intOf];omega
   ·have b7:a=n:=(by omega);subst b7;have a9:u=(m'.take a).filter fun c=>!g c:=(by rw[qb e6,aL (by rw[qb a0];exact zzl _)]);obtain⟨b0,T⟩:=zx (wr.setRow i (c2 (h.take b++List.replicate (a-b) X0++h.drop (b+(a-b)))).toArray);have j3:∀ d3,(Builtin.clear_ #[170] 0 #[.slice (some ⟨i,b*2,none⟩) (a-b) d3]).run Tryz.prog wr=.ok (.tuple #[]) b0:=fun d3=>by
     rw[T];exact xj (m:=a-b) (o:=b) (z:=X0) Tryz.underlying170 (by rfl) (qb O) (by omega) (by rw[qb A];omega) ⟨rfl,rfl⟩
    have d4:qN b0 0 173 (.slice (some ⟨i,0,none⟩) b r) (u.map k2):=(by have d5:=da wr i _ (c2 (h.take b++List.replicate (a-b) X0++h.drop (b+(a-b)))).toArray _ _ (qb O);rw[<-T,aN,qb a3,<-a9] at d5;have U:(u.map k2).length=b:=(by rw[ak,a9];exact (qb a4).symm);have:=kQ d5 (cap:=r) (by rw[ae,U,ae,aS,aV,qb A];omega) (aj _) e1;rw[U] at this;rw[qN,U];rw[qN,U] at this;exact this);have d6:gp (fun e=>e=i) w b0:=(by rw[T];exact (qb c4).trans ⟨rfl,rfl,rfl,by simp,fun c _ N=>ct _ _ _ _ N⟩);have g0:=qg d4;have g1:=qg d6;have j4:(0:Int)<=(b:Int):=(by omega);have j5:(b:Int)<=(a:Int):=(by omega);have j6:(a:Int)<=(r:Int):=(by omega);have j7:¬r=b:=(by omega);have j8:(b:Int)<=(r:Int):=(by omega);clear d4 d6 T a9;go_wp2;go_ret;exact⟨⟨_,rfl,qb g0,rfl⟩,(qb e4) _ (qb g1)⟩
def YA (b:w.heap[n]?=some (.cells #[.int .i64 q] 3 (0,0)))(a:Int×Int):Calls Tryz.prog 77 #[.agg #[.int .i64 a.1,.int .i64 a.2],.pointer (some ⟨n,0,none⟩)] w fun c d=>c=.returned (.bool (a.1 == q))/\Below w.heap.size w d:=by
 obtain⟨e,f⟩:=a;obtain⟨g,-⟩:=zzc b;have h:=qh b;clear b;go_enter Tryz.func77,Tryz.ntmps77;go_wp2;go_ret;exact⟨by simp,(aa _ w).alloc (zzl _) _⟩
def qk8 (l:qN w 0 153 v (m'.map k2))(P:m'.length<=1000000000)(m:Int×Int->Bool)(x:Nat)(y:∀ (W:World)(a:Int×Int),Below w.heap.size w W->Calls Tryz.prog 77 #[.agg #[.int .i64 a.1,.int .i64 a.2],.pointer (some ⟨x,0,none⟩)] W fun c i=>c=.returned (.bool (m a))/\Below W.heap.size W i):Calls Tryz.prog 112 #[v,.func (.func 77) #[] #[.pointer (some ⟨x,0,none⟩)]] w fun c i=>(∃ z:Int,c=.returned (.int .i64 z)/\tj m m' z)/\Below w.heap.size w i:=by
 obtain⟨J,Q,rfl⟩:=qr l;have o:(m'.map k2).length=m'.length:=(by simp);rw[o];have A:∀ (j:Nat)(a:Int×Int),m'[j]?=some a->∃ d,J=some ⟨d,0,none⟩/\d<w.heap.size/\w.cell? ⟨d,j*2,none⟩=some (.int .i64 a.1)/\w.cell? ⟨d,j*2+1,none⟩=some (.int .i64 a.2):=by
  intro j a p;have R:=(zzg p).1;rcases l.2 with ⟨c,K⟩ | ⟨d,S,T,c,_,L,_⟩
  ·rw[o] at K;omega
  ·simp only[ai] at c;obtain⟨rfl,_,rfl⟩:=c;have:=kR l (p:=k2 a) (j:=j) (by rw[aF,p];rfl);exact⟨d,rfl,qh L,this⟩
 have M:=qg A;have N:=qg y;clear A y l o;go_enter Tryz.func112,Tryz.ntmps112;go_wp2;go_loopw [8] (fun q wr=>∃ a:Nat,a<=m'.length/\q=.int .i64 a/\(∀ f∈m'.take a,m f=false)/\Below w.heap.size w wr) (fun q _=>m'.length-(intOf q).toNat)
 case atStart=>exact⟨0,aj _,rfl,by simp,aa _ w⟩
 case round=>
  obtain⟨a,p,rfl,B,e⟩:=hrel;have r:=qg B;clear B;by_cases C:a<m'.length
  ·obtain⟨⟨D,E⟩,s⟩:∃ O,m'[a]?=some O:=⟨m'[a],by simp[C]⟩;obtain⟨d,rfl,F,G,H⟩:=(qb M) a _ s;have G:=(e.cell F).trans G;have H:=(e.cell F).trans H;have U:(0:Int)<=(a:Int):=(by omega);have V:(a:Int)<(m'.length:Int):=(by omega);have n:=qg ((qb N) wr (D,E) e);have I:=qg s;have g:=qg e;clear s e;cases h:m (D,E)
   ·rw[h] at n;have t:=qg h;clear h;go_wp2_with (go_at_call 77;refine (qb n).mono ?_;rintro c i ⟨rfl,k⟩;have u:=qg k;clear k);go_roundw
    case rel=>
     refine⟨a+1,by omega,by go_num,?_,(qb g).trans ((qb u).mono (qb g).size)⟩;intro f b;rw[am,qb I] at b;rcases al.1 b with b | b
     ·exact (qb r) f b
     ·simp at b;rw[b];exact qb t
    case measure=>simp[intOf];omega
   ·rw[h] at n;have t:=qg h;clear h;go_wp2_with (go_at_call 77;refine (qb n).mono ?_;rintro c i ⟨rfl,k⟩;have u:=qg k;clear k);go_ret;exact⟨⟨_,rfl,.inr ⟨a,rfl,C,qb r,fun f b=>by rw[qb I] at b;rw[<-aA b];exact qb t⟩⟩,(qb g).trans ((qb u).mono (qb g).size)⟩
  ·have g:=qg e;clear e;go_wp2;go_ret;exact⟨⟨_,rfl,.inl ⟨rfl,fun f b=>(qb r) f (by rw[aL (by omega)];exact b)⟩⟩,qb g⟩
def XN (t:qN w 0 153 v (m'.map k2))(F:m'.length<=1000000000)(g:Int×Int->Bool)(G:Nat)(y:∀ (j:World)(c:Int×Int),gp (fun e=>v.ownBlock=some e) w j->Calls Tryz.prog 77 #[.agg #[.int .i64 c.1,.int .i64 c.2],.pointer (some ⟨G,0,none⟩)] j fun f d=>f=.returned (.bool (g c))/\Below j.heap.size j d)(u:List (Int×Int)) (hF:u=m'.filter fun c=>!g c):Calls Tryz.prog 78 #[v,.func (.func 77) #[] #[.pointer (some ⟨G,0,none⟩)]] w fun f d=>(∃ x,f=.returned x/\qN d 0 153 x (u.map k2)/\x.ownBlock=v.ownBlock)/\gp (fun e=>v.ownBlock=some e) w d:=by
 have p:=qk8 t F g G (fun j c m=>y j c (.aD m));rcases qt9 g m' with b1 | ⟨q,e,H,h1,h2⟩
 ·have p:=p.mono (R':=fun f d=>f=.returned (.int .i64 (-1))/\Below w.heap.size w d) (by rintro f d ⟨⟨n,rfl,V⟩,m⟩;rw[Yx b1 V];exact⟨rfl,m⟩);have b2:u=m':=(by rw[hF,vR g m' b1]);have W:∀ d,Below w.heap.size w d->(∃ x,Ending.returned v=.returned x/\qN d 0 153 x (u.map k2)/\x.ownBlock=v.ownBlock)/\gp (fun e=>v.ownBlock=some e) w d:=fun d m=>⟨⟨v,rfl,by rw[b2];exact qi t (S:=fun _=>False) (.aD m) (fun _ _ X=>X),rfl⟩,.aD m⟩;obtain⟨g2,r,rfl⟩:=qr t;have I:(m'.map k2).length=m'.length:=(by simp);rw[I] at p W ⊢;have Y:=qg p;have d7:=qg W;clear p W y t hF b2;go_enter Tryz.func78,Tryz.ntmps78;go_wp2_with (go_at_call 112;refine (qb Y).mono ?_;rintro f d8 ⟨rfl,C⟩;have J:=qg C;clear C);go_ret;exact (qb d7) _ (qb J)
 ·have p:=p.mono (R':=fun f d=>f=.returned (.int .i64 (q:Int))/\Below w.heap.size w d) (by rintro f d ⟨⟨n,rfl,V⟩,m⟩;rw[Yw H h1 h2 V];exact⟨rfl,m⟩);have d9:=(zzg H).1;have I:(m'.map k2).length=m'.length:=(by simp);obtain⟨i,r,rfl⟩:=jH t (by omega);obtain⟨e0,Z,K,_,g3,e1⟩:=qN.row t;obtain⟨L,D⟩:=zx (m'.map k2++e0);rw[<-D] at Z K;rw[I] at p ⊢;have e2:m'.length<=r:=(by rw[<-K,D];simp);obtain⟨n,M⟩:=zx m'.length;rw[<-M] at p ⊢;have F:=F;have y:∀ (j:World)(c:Int×Int),gp (fun e=>e=i) w j->Calls Tryz.prog 77 #[.agg #[.int .i64 c.1,.int .i64 c.2],.pointer (some ⟨G,0,none⟩)] j fun f d=>f=.returned (.bool (g c))/\Below j.heap.size j d:=fun j c m=>y j c (m.wide (fun e _ f=>by rw[f];rfl));have b3:∀ d,gp (fun e=>e=i) w d->gp (fun e=>(Value.slice (some ⟨i,0,none⟩) n r).ownBlock=some e) w d:=fun d m=>m.wide (fun e _ f=>by rw[f];rfl);have b4:∀ a c,m'[a]?=some c->L[a]?=some (k2 c):=fun a c N=>by
   rw[D,aM (by simp;exact (zzg N).1),aF,N];rfl
  have Y:=qg p;have e3:=qg y;have e4:=qg b3;have e5:=qg Z;have a0:=qg M;have e6:=qg hF;have e7:=qg b4;have e8:=qg D;have e9:=qg K;have f0:=qg h1;have f1:=qg h2;have f2:=qg H;have g4:IntKind.i64.wrap ((q:Int)+1)=((q+1:Nat):Int):=(by rw[af];omega);have g5:((q:Int) == -1)=false:=(by simp);have g6:q<n:=(by omega);have g7:n<=r:=(by omega);have g8:n<=1000000000:=(by omega);clear p y b3 Z hF b4 D K h1 h2 H t I d9 e2 F M;go_enter Tryz.func78,Tryz.ntmps78;go_wp2_with (go_at_call 112;refine (qb Y).mono ?_;rintro f d8 ⟨rfl,C⟩;have J:=qg C;clear C);go_loopw [5,6] (fun b5 a1 wr=>∃ (b a:Nat)(h:List P2),b5=.int .i64 (b:Int)/\a1=.int .i64 (a:Int)/\b<a/\a<=n/\vi wr i 153 h/\h.length=r/\h.take b=((m'.take a).filter fun c=>!g c).map k2/\b=((m'.take a).filter fun c=>!g c).length/\h.drop a=L.drop a/\gp (fun e=>e=i) w wr) (fun b5 a1 _=>n-(intOf a1).toNat)
  case atStart=>
   have M:=qb a0;have b6:(m'.take (q+1)).filter (fun c=>!g c)=m'.take q:=(by rw[am,qb f2];show (m'.take q++[e]).filter _=_;rw[xg,ah (by rw[qb f1];simp),vR g _ (qb f0)]);refine⟨q,q+1,L,rfl,by go_num,by omega,by omega,(gp.aD (S:=fun _=>False) (qb J)).heap (qb e5) (fun X=>X),qb e9,?_,?_,rfl,.aD (qb J)⟩
   ·rw[b6,qb e8,bi (by simp;omega),dg]
   ·rw[b6,ao];omega
  case round=>
   obtain⟨b,a,h,rfl,rfl,g9,b7,a2,b8,b9,c0,c1,c3⟩:=hrel;have O:=qg a2;have a3:=qg b9;have a4:=qg c0;have a5:=qg c1;have c4:=qg c3;have A:=qg b8;have i0:=qh a2;clear a2 b9 c0 c1 c3 b8;by_cases f3:a<n
   ·obtain⟨⟨k,l⟩,a6⟩:∃ f4,m'[a]?=some f4:=⟨m'[a]'(by rw[<-qb a0];exact f3),by simp⟩;have c5:h[a]?=some (k2 (k,l)):=(by have h1:(h.drop a)[0]?=(L.drop a)[0]?:=(by rw[qb a5]);simp only[bw,bL] at h1;rw[h1];exact (qb e7) a _ a6);obtain⟨f5,f6⟩:=Z1 (qb O) c5;simp only[k2] at f5 f6;have i1:(0:Int)<=(a:Int):=(by omega);have i2:(a:Int)<(n:Int):=(by omega);have i3:(0:Int)<=(b:Int):=(by omega);have i4:(b:Int)<(n:Int):=(by omega);have i5:IntKind.i64.wrap ((a:Int)+1)=((a+1:Nat):Int):=(by rw[af];omega);have i6:IntKind.i64.wrap ((b:Int)+1)=((b+1:Nat):Int):=(by rw[af];omega);have a7:gp (fun e=>e=i) w (wr.alloc (.cells #[.int .i64 k,.int .i64 l] 153)):=(qb c4).alloc _;have P:=qg ((qb e3) _ (k,l) a7);have c6:(wr.alloc (.cells #[.int .i64 k,.int .i64 l] 153)).heap[wr.heap.size]?=some (.cells #[.int .i64 k,.int .i64 l] 153):=qt _ _ _ rfl;have c7:vi (wr.alloc (.cells #[.int .i64 k,.int .i64 l] 153)) i 153 h:=qx (qb O) _;have c8:=qg c6;have c9:=qg c7;have d0:=qg a7;have i7:¬i=wr.heap.size:=(by omega);obtain⟨⟨i8,i9⟩,d1⟩:∃ f7,h[b]?=some f7:=⟨h[b]'(by rw[qb A];omega),by simp⟩;have f8:=qg d1;clear d1;have d2:=qg a6;clear a6 c5 c6 c7 a7;cases B:g (k,l)
    ·rw[B] at P;have a8:=qg B;clear B;go_wp2_with (go_at_call 77;refine (qb P).mono ?_;rintro f d ⟨rfl,s⟩;have j0:d.cell? ⟨wr.heap.size,0,none⟩=some (.int .i64 k):=qe ((s.block _ (by simp)).trans (qb c8)) 0;have j1:d.cell? ⟨wr.heap.size,1,none⟩=some (.int .i64 l):=qe ((s.block _ (by simp)).trans (qb c8)) 1;have Q:=(s.block _ (by simp;omega)).trans (qb c9);have j2:=qj Q;obtain⟨u0,u1⟩:=Z1 Q (qb f8);have f9:=qg Q;have R:=qg s;clear s Q);go_roundw
     case rel=>
      have E:(m'.take (a+1)).filter (fun c=>!g c)=(m'.take a).filter (fun c=>!g c)++[(k,l)]:=(by rw[am,qb d2];show (m'.take a++[(k,l)]).filter _=_;rw[xg,an (by rw[qb a8];rfl)]);refine⟨b+1,a+1,h.set b (k2 (k,l)),by go_num,by go_num,by omega,by omega,V5 (qb f9) b (k2 (k,l)),by rw[aG];exact qb A,?_,?_,?_,(((qb d0).trans (.aD (qb R))).setCell (p:=⟨i,b*2,none⟩) (.inl rfl) _).setCell (p:=⟨i,b*2+1,none⟩) (.inl rfl) _⟩
      ·rw[E,aE,<-qb a3];rw[am,ar (by rw[qb A];omega),fH (zzl _)];rfl
      ·rw[E,ae,<-qb a4];rfl
      ·rw[eT (by omega)];have:=congrArg (List.drop 1) (qb a5);rw[dj,dj] at this;exact this
     case measure=>simp[intOf];omega
    ·rw[B] at P;have a8:=qg B;clear B;go_wp2_with (go_at_call 77;refine (qb P).mono ?_;rintro f d ⟨rfl,s⟩;have R:=qg s;clear s);go_roundw
     case rel=>
      have E:(m'.take (a+1)).filter (fun c=>!g c)=(m'.take a).filter (fun c=>!g c):=(by rw[am,qb d2];show (m'.take a++[(k,l)]).filter _=_;rw[xg,ah (by rw[qb a8];simp)]);refine⟨b,a+1,h,rfl,by go_num,by omega,by omega,((qb R).block _ (by simp;omega)).trans (qb c9),qb A,by rw[E];exact qb a3,by rw[E];exact qb a4,?_,(qb d0).trans (.aD (qb R))⟩;have:=congrArg (List.drop 1) (qb a5);rw[dj,dj] at this;exact this
     case measure=>simp[intOf];omega
   ·have b7:a=n:=(by omega);subst b7;have a9:u=(m'.take a).filter fun c=>!g c:=(by rw[qb e6,aL (by rw[qb a0];exact zzl _)]);obtain⟨b0,T⟩:=zx (wr.setRow i (c2 (h.take b++List.replicate (a-b) X0++h.drop (b+(a-b)))).toArray);have j3:∀ d3,(Builtin.clear_ #[87] 0 #[.slice (some ⟨i,b*2,none⟩) (a-b) d3]).run Tryz.prog wr=.ok (.tuple #[]) b0:=fun d3=>by
     rw[T];exact xj (m:=a-b) (o:=b) (z:=X0) Tryz.underlying87 (by rfl) (qb O) (by omega) (by rw[qb A];omega) ⟨rfl,rfl⟩
    have d4:qN b0 0 153 (.slice (some ⟨i,0,none⟩) b r) (u.map k2):=(by have d5:=da wr i _ (c2 (h.take b++List.replicate (a-b) X0++h.drop (b+(a-b)))).toArray _ _ (qb O);rw[<-T,aN,qb a3,<-a9] at d5;have U:(u.map k2).length=b:=(by rw[ak,a9];exact (qb a4).symm);have:=kQ d5 (cap:=r) (by rw[ae,U,ae,aS,aV,qb A];omega) (aj _) e1;rw[U] at this;rw[qN,U];rw[qN,U] at this;exact this);have d6:gp (fun e=>e=i) w b0:=(by rw[T];exact (qb c4).trans ⟨rfl,rfl,rfl,by simp,fun c _ N=>ct _ _ _ _ N⟩);have g0:=qg d4;have g1:=qg d6;have j4:(0:Int)<=(b:Int):=(by omega);have j5:(b:Int)<=(a:Int):=(by omega);have j6:(a:Int)<=(r:Int):=(by omega);have j7:¬r=b:=(by omega);have j8:(b:Int)<=(r:Int):=(by omega);clear d4 d6 T a9;go_wp2;go_ret;exact⟨⟨_,rfl,qb g0,rfl⟩,(qb e4) _ (qb g1)⟩
def zZ (a b:Int):Value:=.agg #[.int .i64 a,.int .i64 b]
structure Ke where
 c:Int
 n:Int
 v:Value
 born:Nat
def ke (a:Ke):MapEntry:={key:=zZ a.c a.n,val:=a.v,born:=a.born}
def vz (b c:Int):List Ke->Nat->Option (Nat×Value)
 | [],_=>none
 | a::e,d=>if (b == a.c&&c == a.n)=true then some (d,a.v) else vz b c e (d+1)
def Xf (a b c d:Int)(e:World):(Op.equal 173 (zZ a b) (zZ c d)).run Tryz.prog e=.ok (a == c&&b == d) e:=by
 unfold zZ Op.equal;rw[show Op.maxDepth=9999+1 from rfl,run_equalIn_struct e 9999 173 _ _ (by kernel_rfl) (by kernel_rfl)];go_simp;by_cases f:a=c<;>by_cases g:b=d<;>simp[f,g]
def Qf (b:Bool)(c:Int)(d:Nat)(a:World):(Instr.checkKey b (d+1) 3 (.int .i64 c)).run Tryz.prog a=.ok () a:=by
 simp only[Instr.checkKey,ee,cV Tryz.underlying3,cX,fs]
def xG (b:Bool)(c d:Int)(a:World):(Instr.checkKey b 10000 173 (zZ c d)).run Tryz.prog a=.ok () a:=by
 unfold zZ;rw[show (10000:Nat)=9998+1+1 from rfl];unfold Instr.checkKey;simp only[ee,cV Tryz.underlying173,cX];rw[<-Array.forIn_toList];simp only[List.forIn_cons,List.forIn_nil,ee,Sem.run_ite];go_simp;simp only[Qf,cX];go_simp;simp only[Qf,cX]
def QF (c d:Int)(e:World):∀ (b:List Ke)(a:Nat),(Instr.findAsking 173 (zZ c d) (b.map ke) a).run Tryz.prog e=.ok (vz c d b a) e
 | [],a=>rfl
 | f::b,a=>by
  simp only[aY,Instr.findAsking,ee,ke,Xf,cX,vz,Sem.run_ite];split
  ·simp only[fs]
  ·exact QF c d e b (a+1)
def jY (b c:Int)(a:World)(d:List Ke):(Instr.findKey 173 (zZ b c) (d.map ke)).run Tryz.prog a=.ok (vz b c d 0) a:=by
 rw[run_findKey_eq a (by rw[Tryz.underlying173]),QF]
def ru (a b:Int)(c:List Ke):Value:=((vz a b c 0).map (·.2)).getD (.pointer none)
def zn {a:List Ke}(d:w.heap[n]?=some (.map (a.map ke).toArray i))(b c:Int):(Instr.lookup 174 (.map (some n)) (zZ b c) false).run Tryz.prog w=.ok (ru b c a) w:=by
 have e:(zeroValue 212).run Tryz.prog w=.ok (.pointer none) w:=(by rfl);simp only[Instr.lookup,ee,cV Tryz.underlying174,fu d,cX,fs,xG,jY];unfold ru;cases vz b c a 0 with
 | none=>simp[e]
 | some f=>simp
def Jl {a:List Ke}(d:w.heap[n]?=some (.map (a.map ke).toArray i))(b c:Int)(e:Value)(f:vz b c a 0=none):(Instr.mapUpdate 174 (.map (some n)) (zZ b c) e).run Tryz.prog w=.ok () {w with heap:=w.heap.setIfInBounds n (.map ((a++[Ke.mk b c e i]).map ke).toArray (i+1))}:=by
 simp only[Instr.mapUpdate,ee,cV Tryz.underlying174,fu d,cX,xG,jY,f,MapKept.run_setObj_map _ d];simp[ke]
def Zt {d e:Type}(c:d->e):∀ (a:List d)(b:Nat),(a.eraseIdx b).map c=(a.map c).eraseIdx b
 | [],_=>rfl
 | _::_,0=>rfl
 | f::a,b+1=>by simp[Zt c a b]
def Jn {c:List Ke}(d:w.heap[n]?=some (.map (c.map ke).toArray i))(a b:Int)(e:Nat)(g:Value)(f:vz a b c 0=some (e,g))(h:TypeId):(Builtin.delete_ #[174,173] h #[.map (some n),zZ a b]).run Tryz.prog w=.ok (.tuple #[]) {w with heap:=w.heap.setIfInBounds n (.map ((c.eraseIdx e).map ke).toArray i)}:=by
 simp only[Builtin.delete_,f];have j:(#[Value.map (some n),zZ a b])[0]?=some (.map (some n)):=rfl;have k:(#[Value.map (some n),zZ a b])[1]?=some (zZ a b):=rfl;simp[fu d,xG,jY,f,MapKept.run_setObj_map _ d,Zt,Result.andThen]
end Go.Proofs.YtbnbkjbfpamijaaGreat
