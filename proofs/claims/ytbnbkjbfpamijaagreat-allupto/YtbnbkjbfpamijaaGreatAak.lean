import Derived.Test.YtbnbkjbfpamijaaGreatAab
set_option linter.all false
set_option maxRecDepth 100000
set_option maxHeartbeats 0
namespace Go.Proofs.YtbnbkjbfpamijaaGreat
open Go.RowKit Go.Proofs.Panes
variable{w:World}{i j n:Nat}{b1:List P2}
def tm:P2:=(.slice none 0 0,.int .i64 0)
def VX (J:qN w n 195 (.slice (some ⟨i,0,none⟩) b1.length j) b1)(h1:yN b1)(a c:Nat)(K:a<c)(L:c<=b1.length)(d1:b1.length<=1000)(l:List P2)(B:l=b1.take a++b1.drop c):Calls Tryz.prog 136 #[.slice (some ⟨i,0,none⟩) b1.length j,.int .i64 (a:Int),.int .i64 (c:Int)] w fun a9 M=> a9=.returned (.slice (some ⟨i,0,none⟩) l.length j)/\qN M n 195 (.slice (some ⟨i,0,none⟩) l.length j) l/\gp (fun s=>s=i) w M:=by
 obtain⟨b0,N,u,_,b2,b3⟩:=J.row;obtain⟨e,m⟩:=zx b1.length;have d2:e<=j:=(by simp at u;omega);rw[<-m];have O:=qg N;have C:=qg m;have b4:=qg h1;have d3:(0:Int)<=(a:Int):=(by omega);have d4:(a:Int)<=(c:Int):=(by omega);have d5:(c:Int)<=(e:Int):=(by omega);have d6:(e:Int)<=(j:Int):=(by omega);have d7:((a:Int) == (c:Int))=false:=(by simp;omega);clear J N h1 m;go_enter Tryz.func136,Tryz.ntmps136;go_wp2;obtain⟨d,v⟩:=zx (b1++b0);have x:d.length=j:=(by rw[v];exact u);have m:=qb C;have P:d.take e=b1:=(by rw[v,m];simp);obtain⟨g,D⟩:=zx (e-c);obtain⟨f,t⟩:=zx (b1.drop c);have p:f.length=g:=(by rw[t,aV];omega);have E:yN f:=fun b5 b6=>(qb b4) b5 (bm (t ▸ b6));have Q:∀ (h:Nat)(q:Value),(c2 f)[h]?=some q->w.cell? ⟨i,c*2+h,none⟩=some q:=by
  intro h q k;have:=qb O;rw[qe this];rw[bR,zs,aM (by
   have:=(zzg k).1;rw[zV,p] at this;rw[zV];omega)]
  rw[t,<-yH,bw] at k;exact k
 have y:vi w.drew i 195 d:=(by rw[v];exact qb O);obtain⟨d8,R,b7,S,b8⟩:=aZ Vu;have F:(Tryz.prog.info? 195).map (·.size)=some 2:=(by rw[R];simp[S]);obtain⟨r,A⟩:=zx (w.drew.setRow i (c2 (d.take a++f++d.drop (a+g))).toArray);obtain⟨b,T⟩:=zx (a+(e-c));have U:∀ V,(Builtin.append_ #[109,109] V #[.slice (some ⟨i,0,none⟩) a j,.slice (if j=c then some ⟨i,0,none⟩ else some ⟨i,c*2,none⟩) (e-c) (j-c)]).run Tryz.prog w.drew=.ok (.slice (some ⟨i,0,none⟩) b j) r:=by
  intro V;rw[T,A,<-D];by_cases W:j=c
  ·rw[an W];refine jv Tryz.underlying109 F y x p ?_ (by omega) E;intro h q k;rw[bX (p.trans (by omega))] at k;simp[c2] at k
  ·rw[ah W];refine jv Tryz.underlying109 F y x p ?_ (by omega) E;intro h q k;have b9:(⟨i,c*2,none⟩:Addr).add h=⟨i,c*2+h,none⟩:=(by unfold Addr.add;split<;>simp_all);rw[b9];exact Q h q k
 have X:vi r i 195 (d.take a++f++d.drop (a+g)):=(by rw[A];exact da _ _ _ _ _ _ y);have Y:gp (fun s=>s=i) w r:=(by rw[A];exact⟨rfl,rfl,rfl,by simp,fun s _ G=>ct _ _ _ _ G⟩);have c0:=qg U;have Z:=qg X;have c1:=qg Y;have c3:=qg t;have c4:=qg P;have H:=qg x;have a0:=qg p;have d9:=qg u;clear U X Y Q y E v t P x p u m b7 S b8 F R;have e0:(a:Int)<=(j:Int):=(by omega);have e1:(c:Int)<=(j:Int):=(by omega);have e2:(b:Int)<=(e:Int):=(by omega);have e3:¬j=b:=(by omega);have e4:(0:Int)<=(b:Int):=(by omega);have c5:0<e-b:=(by omega);have a1:b=a+g:=(by omega);have a2:b+(e-b)=e:=(by omega);have a3:l.length=b:=(by rw[B,ae,ao,aV,<-qb C];omega);have a4:=qg (ci a1 (ci a2 (ci a3 (ci K (ci L D)))));have c6:=qg B;clear A D T a1 a2 a3 L K B;obtain⟨c7,I⟩:=zx (r.setRow i (c2 ((d.take a++f++d.drop (a+g)).take b++List.replicate (e-b) tm++(d.take a++f++d.drop (a+g)).drop (b+(e-b)))).toArray);have e5:∀ a5,(Builtin.clear_ #[109] 0 #[.slice (some ⟨i,b*2,none⟩) (e-b) a5]).run Tryz.prog r=.ok (.tuple #[]) c7:=fun a5=>by
  rw[I];exact xj (m:=e-b) (o:=b) (z:=tm) Tryz.underlying109 (by rfl) (qb Z) c5 (by rw[ae,ae,ao,aV,qb a0,qb H];have:=qb a4;omega) ⟨rfl,rfl⟩
 have c8:=qg I;clear I;go_region_law (refine yO (by rfl) _ _ 109 (by rfl) _ _ _ _ (by rfl) (by rfl) (qb c0) ?_);simp only[Exit.then];go_simp;go_wp2;all_goals
  go_ret;rw[qb c8];obtain⟨e6,e7,a6,e8,e9,f0⟩:=qb a4;have m:=qb C;have c9:(d.take a++f).length=b:=(by rw[ae,ao,qb a0,qb H];omega);have d0:d.take a++f=l:=by
   rw[qb c3,qb c6];congr 1;rw[<-qb c4,dz,bK (by omega)]
  have a7:(d.take a++f++d.drop (a+g)).take b=l:=(by rw[bi (by omega),aL (by omega),d0]);refine⟨by rw[a6];rfl,?_,?_⟩
  ·have a8:=da r i _ (c2 ((d.take a++f++d.drop (a+g)).take b++List.replicate (e-b) tm++(d.take a++f++d.drop (a+g)).drop (b+(e-b)))).toArray _ _ (qb Z);rw[a7,aN] at a8;rw[a7,aN];refine kQ a8 ?_ b2 (by first | exact b3 | omega);rw[ae,a6,ae,aS,aV,ae,c9,aV,qb H];omega
  ·exact (qb c1).trans ⟨rfl,rfl,rfl,by simp,fun s _ G=>ct _ _ _ _ G⟩
def QD (c:World)(d:Option Addr)(a b:Nat)(h:a<=b):Calls Tryz.prog 136 #[.slice d a b,.int .i64 0,.int .i64 0] c fun e f=>e=.returned (.slice d a b)/\∃ g,f=c.drewN g:=by
 have i:(0:Int)<=(a:Int):=(by omega);have j:(a:Int)<=(b:Int):=(by omega);go_enter Tryz.func136,Tryz.ntmps136;go_wp2;go_ret;exact⟨rfl,0,rfl⟩
end Go.Proofs.YtbnbkjbfpamijaaGreat
