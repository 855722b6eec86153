import Derived.Test.YtbnbkjbfpamijaaGreatAao
import Derived.Conc.LoneCalls
import Derived.Conc.LoneSelect
set_option linter.all false
set_option maxRecDepth 100000
set_option maxHeartbeats 0
namespace Go.Proofs.YtbnbkjbfpamijaaGreat
open Go.RowKit Go.Proofs.Panes
variable{S:Nat→Prop}{w:World}{n:Nat}{a:gB}{y:Fl}
def za (b:gB):Nat->Option Nat
 | 0=>none
 | a+1=>if a=b.front then za b a else match za b a with
  | none=>some a
  | some c=>if (b.b a).begun<(b.b c).begun then some a else some c
def pJ (a:Option Nat):Int:=match a with
 | none=>-1
 | some b=>(b:Int)
def ya (d:gB):∀ b c,za d b=some c->c<b
 | 0,c,a=>by simp[za] at a
 | b+1,c,a=>by
  unfold za at a;split at a
  ·have:=ya d b c a;omega
  ·cases e:za d b with
   | none=>rw[e] at a;simp at a;omega
   | some f=>
    rw[e] at a;have:=ya d b f e;simp only at a;split at a<;>simp at a<;>omega
def Jv (j:Fr S w n a y)(z:a.front<3):Calls Tryz.prog 116 #[.pointer (some ⟨n,0,none⟩)] w fun r s=>r=.returned (.int .i64 (pJ (za a 3)))/\∃ e,s=w.drewN e:=by
 obtain⟨A,-⟩:=zzk j.nS 13;have m:∀ c:Nat,c<3->w.cell? ⟨n,4+c*3+2,none⟩=some (.int .i64 (a.b c).begun):=fun c t=>by
  rw[qe j.nS];have:c=0\/c=1\/c=2:=(by omega);rcases this with rfl | rfl | rfl<;>rfl
 have o:=qg m;clear j m;go_enter Tryz.func116,Tryz.ntmps116;go_wp2;go_loopw [3,5] (fun p k wr=>∃ b:Nat,b<=3/\k=.int .i64 (b:Int)/\p=.int .i64 (pJ (za a b))/\∃ e,wr=w.drewN e) (fun p k _=>3-(intOf k).toNat)
 case atStart=>exact⟨0,by omega,rfl,rfl,0,rfl⟩
 case round=>
  obtain⟨b,B,rfl,rfl,e,rfl⟩:=hrel;by_cases u:b<3
  ·have C:(0:Int)<=(b:Int):=(by omega);have D:(b:Int)<3:=(by omega);have E:=(qb o) b u;by_cases f:b=a.front
   ·have d:za a (b+1)=za a b:=(by rw[za,an f]);have v:((b:Int) == (a.front:Int))=true:=(by rw[f];simp);have h:=qg d;obtain⟨x,g⟩:=zx (pJ (za a b));rw[<-g];have l:=qg g;clear d g;go_wp2;go_quiet (fail)
    go_wp2;go_roundw
    case rel=>exact⟨b+1,by omega,by go_num,by rw[qb h,qb l],e+nq,by rfl⟩
    case measure=>simp[intOf];omega
   ·have v:((b:Int) == (a.front:Int))=false:=(by have:¬(b:Int)=(a.front:Int):=(by omega);simp[this]);have F:((b:Int) != (a.front:Int))=true:=(by have:¬(b:Int)=(a.front:Int):=(by omega);simp[this]);have G:(b == a.front)=false:=(by simp[f]);have H:(b != a.front)=true:=(by simp[f]);have I:¬(b:Int)=(a.front:Int):=(by omega);cases i:za a b with
    | none=>
     have d:za a (b+1)=some b:=(by rw[za,ah f,i]);have h:=qg d;clear d;simp only[pJ];go_wp2;go_quiet (fail)
     go_wp2;go_roundw
     case rel=>exact⟨b+1,by omega,by go_num,by rw[qb h]<;>rfl,e+nq,by rfl⟩
     case measure=>simp[intOf];omega
    | some c=>
     have t:=ya a b c i;have J:=(qb o) c (by omega);have K:(0:Int)<=(c:Int):=(by omega);have L:(c:Int)<3:=(by omega);by_cases q:(a.b b).begun<(a.b c).begun
     focus
      have d:za a (b+1)=some b:=by rw[za,ah f,i];simp[q]
     rotate_left
     focus
      have d:za a (b+1)=some c:=by rw[za,ah f,i];simp[q]
     rotate_left
     all_goals
      have h:=qg d;clear d;simp only[pJ];go_wp2;go_quiet (fail)
      go_wp2;go_roundw
      case rel=>exact⟨b+1,by omega,by go_num,by rw[qb h]<;>rfl,e+nq,by rfl⟩
      case measure=>simp[intOf];omega
  ·have:b=3:=(by omega);subst this;obtain⟨x,g⟩:=zx (pJ (za a 3));rw[<-g];have l:=qg g;clear g;go_wp2;go_ret;exact⟨by rw[<-qb l];rfl,e,rfl⟩
variable{U:Nat→Prop}
def qt6:(Tryz.prog.info? 222).map (fun a=>(a.zero,a.size,a.bytes))=some (some (.agg #[.int .i64 0,.int .i64 0]),2,16):=by kernel_rfl
def zH (c:List Bool)(b:Nat)(d:Int->Int->Int):Nat->List (Int×Int)
 | 0=>[]
 | a+1=>zH c b d a++(if c[a]?=some true then [((a:Int),d ((a%b:Nat):Int) ((a/b:Nat):Int))] else [])
def kV (b:List Bool)(c:Nat)(d:Int->Int->Int):∀ a,(zH b c d a).length<=a
 | 0=>by simp[zH]
 | a+1=>by
  have:=kV b c d a;unfold zH;split<;>simp<;>omega
def JM {z:Fl}(k:Fr U w n a z){q:Nat}(b1:q<3)(N:1<=a.W/\a.W<=16)(O:1<=a.H/\a.H<=16)(A:Nat)(d:Int->Int->Int)(Q:∀ (W:World)(x y:Nat),Below w.heap.size w W->x<=16->y<=256->Calls Tryz.prog 86 #[.pointer (some ⟨A,0,none⟩),.int .i64 (x:Int),.int .i64 (y:Int)] W fun e h=>e=.returned (.int .i64 (d (x:Int) (y:Int)))/\Below W.heap.size W h):Calls Tryz.prog 117 #[.pointer (some ⟨n,0,none⟩),zJ (z.st q) (a.W*a.H),.func (.func 86) #[.pointer (some ⟨A,0,none⟩)] #[]] w fun e h=>(∃ R,e=.returned R/\qN h w.heap.size 222 R ((zH (a.b q).st a.W d (a.W*a.H)).map k2))/\Below w.heap.size w h:=by
 obtain⟨p,B⟩:=zx (a.W*a.H);obtain⟨C,b2,T⟩:=k.st q b1;have c9:p<=256:=(by rw[B];have:=cK N.2 O.2;omega);rw[<-B] at T ⊢;unfold zJ;obtain⟨-,-,c2,-⟩:=zzc k.nS;have D:=qh k.nS;have b3:=qh C;have E:∀ F l,(a.b q).st[F]?=some l->w.cell? ⟨z.st q,F,none⟩=some (.bool l):=fun F l m=>by rw[qe C];simp[m]
 obtain⟨f,V⟩:=zx ((a.b q).st);obtain⟨c,X⟩:=zx a.W;rw[<-V] at E T ⊢;rw[<-X] at c2 ⊢;have d0:1<=c/\c<=16:=(by omega);have b4:=qg E;have b5:=qg Q;clear k C b2 B E Q V X N O;go_enter Tryz.func117,Tryz.ntmps117;go_wp2;go_loopw [7,12] (fun Y G wr=>∃ b:Nat,b<=p/\G=.int .i64 (b:Int)/\qN wr w.heap.size 222 Y ((zH f c d b).map k2)/\Below w.heap.size w wr) (fun Y G _=>p-(intOf G).toNat)
 case atStart=>exact⟨0,aj _,rfl,⟨rfl,.inl ⟨rfl,rfl⟩⟩,aa _ _⟩
 case round=>
  obtain⟨b,d1,rfl,r,g⟩:=hrel;by_cases d2:b<p
  ·obtain⟨l,m⟩:∃ l,f[b]?=some l:=⟨f[b]'(by omega),by simp⟩;have d3:=(g.cell b3).trans ((qb b4) b l m);have b6:=(g.cell D).trans c2;have d4:(0:Int)<=(b:Int):=(by omega);have d5:(b:Int)<(p:Int):=(by omega);cases l with
   | false=>
    have s:zH f c d (b+1)=zH f c d b:=(by unfold zH;rw[ah (by rw[m];simp),aW];cases b<;>rfl);have u:=qg r;have i:=qg g;have H:=qg s;clear r g m s;go_wp2;go_roundw
    case rel=>exact⟨b+1,by omega,by go_num,by rw[qb H];exact qb u,qb i⟩
    case measure=>simp[intOf];omega
   | true=>
    have s:zH f c d (b+1)=zH f c d b++[((b:Int),d ((b%c:Nat):Int) ((b/c:Nat):Int))]:=by
     conv=>lhs;unfold zH
     rw[an m]
    have Z:b%c<=16:=(by have:=eJ b (show 0<c by omega);omega);have I:b/c<=256:=aO (Nat.div_le_self _ _) (by omega);have a0:(b:Int).tmod (c:Int)=((b%c:Nat):Int):=(by rw[eY (Int.natCast_nonneg b)];rfl);have J:(b:Int)/(c:Int)=((b/c:Nat):Int):=rfl;obtain⟨t,K⟩:=zx (d ((b%c:Nat):Int) ((b/c:Nat):Int));have b7:Hid (Calls Tryz.prog 86 #[.pointer (some ⟨A,0,none⟩),.int .i64 ((b:Int).tmod (c:Int)),.int .i64 ((b:Int)/(c:Int))] wr.drew fun e h=>e=.returned (.int .i64 t)/\Below wr.heap.size wr h):=(by rw[a0,J,K];refine ((qb b5) wr.drew (b%c) (b/c) g.drew Z I).mono ?_;rintro e h ⟨b8,b9⟩;exact⟨b8,((aa _ wr).drew).trans b9⟩);rw[<-K] at s;have d6:IntKind.i64.wrap ((b:Int)/(c:Int))=(b:Int)/(c:Int):=(by have h1:(0:Int)<=(b:Int)/(c:Int):=gm (by omega) (by omega);have h2:(b:Int)/(c:Int)<=256:=(by rw[J];exact Int.ofNat_le.2 I);rw[af];omega);have d7:¬c=0:=(by omega);have d8:=kV f c d b;have c0:=zzm D g.size;have u:=qg r;have i:=qg g;have H:=qg s;clear r g m s a0 J K Z I;go_wp2;go_region_held3 (fun h=>h.cell? ⟨n,2,none⟩=some (.int .i64 (c:Int)))
     (first | assumption | go_keep)
     (first
       | (go_at_call 86;refine (qb b7).mono ?_;rintro e j ⟨rfl,o⟩;have d9:=(o.cell c0).trans b6;have a1:qN j w.heap.size 222 u7 ((zH f c d b).map k2):=qi (qb u) (S:=fun _=>False) (.aD o) (fun _ _ k=>k);have a2:(j.alloc (.cells #[.int .i64 (b:Int),.int .i64 t] 222)).heap[j.heap.size]?=some (.cells #[.int .i64 (b:Int),.int .i64 t] 222):=qt j _ _ rfl;have L:qN (j.alloc (.cells #[.int .i64 (b:Int),.int .i64 t] 222)) w.heap.size 222 u7 ((zH f c d b).map k2):=qi a1 (S:=fun _=>False) ((gp.refl _ j).alloc _) (fun _ _ k=>k);obtain⟨c1,a3,a4,a5,a6⟩:=aZ qt6;obtain⟨c3,c4,a7,a8,a9,-,c5⟩:=cE (P:=Tryz.prog) (w:=j.alloc (.cells #[.int .i64 (b:Int),.int .i64 t] 222)) w.heap.size 180 180 222 c1 _ 2 16 Tryz.underlying180 a3 a4 a5 a6 rfl (by decide) u7 _ _ L ⟨j.heap.size,0,none⟩ 1 1 [.int .i64 (b:Int),.int .i64 t] rfl (xT a2) (by simp[Value.oneCell']) (by simp;simp only[maxLen];omega) (by simp;omega) (by simp;have:=(qb i).size;have:=o.size;omega);have M:=(((qb i).trans (o.mono (qb i).size)).alloc (aO (qb i).size o.size) _).trans ((gp.tJ (S:=fun v=>u7.ownBlock=some v) a9 (fun v e=>e)).below (by simp;have:=(qb i).size;have:=o.size;omega) (fun v e=>(ab L v e).1));have e0:=(M.cell D).trans c2;have b0:qN c4 w.heap.size 222 c3 ((zH f c d (b+1)).map k2):=(by rw[qb H,aE];rw[qN,zs,ae];exact a8);have c6:=qg a7;have c7:=qg b0;have c8:=qg M;clear o a1 a2 L a3 a4 a5 a6 a7 a8 a9 c5 M b0)
       | (refine zS (by kernel_rfl) (.tmp 18) (.tmp 37) 180 180 (by kernel_rfl) (by kernel_rfl) u7 (.slice (some ⟨j.heap.size,0,none⟩) 1 1) _ _ (by kernel_rfl) (by kernel_rfl) (qb c6) ?_))
    all_goals
     (try simp only[Exit.then])
     (try go_simp)
     go_wp2;go_roundw
     case rel=>exact⟨b+1,by omega,by go_num,qb c7,qb c8⟩
     case measure=>simp[intOf];omega
  ·have:b=p:=(by omega);subst this;have u:=qg r;have i:=qg g;clear r g;go_wp2;go_ret;exact⟨⟨_,rfl,qb u⟩,qb i⟩
variable{i:Nat}{x:List Bool}
def Xa (b:Value)(a:Nat):(Builtin.zeroCells #[b] a).toList=List.replicate a b:=by
 apply bh;intro c;by_cases d:c<a
 ·simp[Builtin.zeroCells,d,Nat.mod_one]
 ·rw[aI (by simp[Builtin.zeroCells];omega),aI (by simp;omega)]
def xQ (c:w.heap[n]?=some (.cells (x.map Value.bool).toArray 4 (0,0)))(a:x.length=i)(j:0<i)(d:TypeId):(Builtin.clear_ #[116] d #[.slice (some ⟨n,0,none⟩) i i]).run Tryz.prog w=.ok (.tuple #[]) (w.setRow n ((List.replicate i false).map Value.bool).toArray):=by
 have e:(zeroValue 4).run Tryz.prog w=.ok (.bool false) w:=(by rfl);have b:=eB Tryz.prog n 0 4 (List.replicate i (.bool false)) 0 _ w c (by simp[a]) (by intro k f;rw[List.eq_of_mem_replicate f];rfl);have g:((x.map Value.bool).take (0+0)++List.replicate i (Value.bool false)++(x.map Value.bool).drop (0+0+(List.replicate i (Value.bool false)).length))=(List.replicate i false).map Value.bool:=(by rw[aS,bI (by simp[a])];simp);rw[dI,g] at b;cases i with
 | zero=>omega
 | succ i=>
  have h:(Value.bool false).cells=#[.bool false]:=rfl;simp[Builtin.clear_,cV Tryz.underlying116,e,h,Xa,b,-List.reduceReplicate]
def Jw (c:gB)(a:c.front<3):∃ b,za c 3=some b/\b<3/\b≠c.front:=by
 have j:∀ d b,za c d=some b->b≠c.front:=by
  intro d;induction d with
  | zero=>intro b a;simp[za] at a
  | succ d g=>
   intro b a;unfold za at a;split at a
   ·exact g b a
   ·rename_i e;cases f:za c d with
    | none=>rw[f] at a;simp at a;omega
    | some h=>
     rw[f] at a;simp only at a;split at a<;>simp at a
     ·omega
     ·rw[<-a];exact g h f
 cases f:za c 3 with
 | some b=>exact⟨b,rfl,ya c 3 b f,j 3 b f⟩
 | none=>
  exfalso;have i:∀ d,za c (d+1)=none->d=c.front/\za c d=none:=by
   intro d e;unfold za at e;split at e
   ·rename_i k;exact⟨k,e⟩
   ·cases f:za c d with
    | none=>rw[f] at e;simp at e
    | some h=>rw[f] at e;simp only at e;split at e<;>simp at e
  have l:=i 2 f;have m:=i 1 l.2;omega
def zR (a:gB)(d:Int)(e:Int->Int->Int):gB:=
 if a.frame.isSome=true\/a.due=false then a else
  {a with frame:=some ⟨(za a 3).getD 0,a.marks,zH (a.b ((za a 3).getD 0)).st a.W e (a.W*a.H)⟩,due:=false,marks:=[],b:=fun c=>if c=(za a 3).getD 0 then {a.b c with st:=List.replicate (a.W*a.H) false,begun:=d} else a.b c}
def Fr.begun {w:Nat->Prop}{k h:World}{o:Nat}{c:gB}{g:Fl}(d:Fr w k o c g)(Y:∀ j,w j->j<k.heap.size){f p:Nat}{q:Int}{t:Value}{l:List (Int×Int)}(u:f<3)(H:k.heap.size<=p)(I:p<h.heap.size)(x:gp (fun m=>m=o\/m=g.st f) k h) (J:h.heap[o]?=some (.cells (qT {c with frame:=some ⟨f,c.marks,l⟩,due:=false,marks:=[],b:=fun a=>if a=f then {c.b a with st:=List.replicate (c.W*c.H) false,begun:=q} else c.b a} {g with fb:=p,fm:=g.mv,fl:=t,mv:=.slice none 0 0}) 169 (0,0)))(K:h.heap[g.st f]?=some (.cells ((List.replicate (c.W*c.H) false).map Value.bool).toArray 4 (0,0))) (L:h.heap[p]?=some (.cells #[.int .i64 (f:Int),g.mv,t] 182 (0,0))) (M:qN h k.heap.size 222 t (l.map k2)):Fr (grow w k h) h o {c with frame:=some ⟨f,c.marks,l⟩,due:=false,marks:=[],b:=fun a=>if a=f then {c.b a with st:=List.replicate (c.W*c.H) false,begun:=q} else c.b a} {g with fb:=p,fm:=g.mv,fl:=t,mv:=.slice none 0 0}:=by
 have N:∀ {m:Nat}{D:Array Value}{v:TypeId}{E:Nat×Nat},k.heap[m]?=some (.cells D v E)->v≠4->v≠169->¬(m=o\/m=g.st f):=by
  rintro m D v E F O P (e | e)
  ·have:=d.nS;rw[<-e,F] at this;simp at this;exact P this.2.1
  ·have:=(d.st f u).1;rw[<-e,F] at this;simp at this;exact O this.2.1
 refine⟨J,.inl d.cb,?_,?_,d.tW,d.tV,⟨rfl,.inl ⟨rfl,rfl⟩⟩,fun j i=>by simp[Value.ownBlock] at i,?_⟩
 ·intro a r;obtain⟨s,y,z⟩:=d.px a r;have e:((fun a=>if a=f then ({c.b a with st:=List.replicate (c.W*c.H) false,begun:=q}:pg) else c.b a) a).px=(c.b a).px:=(by dsimp only;split<;>rfl);refine⟨?_,.inl y,?_⟩
  ·show h.heap[g.pb a]?=some (.cells ((((fun a=>if a=f then ({c.b a with st:=List.replicate (c.W*c.H) false,begun:=q}:pg) else c.b a) a).px).map (Value.int .i64)).toArray 3 (0,0));rw[e];exact x.heap s (N s (by decide) (by decide))
  ·show ((fun a=>if a=f then ({c.b a with st:=List.replicate (c.W*c.H) false,begun:=q}:pg) else c.b a) a).px.length=_;rw[e];exact z
 ·intro a r;by_cases e:a=f
  ·subst e;simp only[an];exact⟨K,.inl (d.st a r).2.1,by simp⟩
  ·obtain⟨s,y,z⟩:=d.st a r;simp only[ah e];refine⟨x.heap s ?_,.inl y,z⟩;rintro (A | A)
   ·have:=d.nS;rw[<-A,s] at this;simp at this
   ·exact e (d.tV a f r u A)
 ·intro B n;simp only[ac] at n;subst n;refine⟨L,.inr ⟨H,I⟩,u,qi d.tN x (fun j i=>?_),fun j i=>⟨.inl (d.mc j i),by simp[Value.ownBlock]⟩,?_⟩
  ·rintro (e | e)
   ·exact qq d.tN d.nS (by decide) (by rw[i,e])
   ·exact qq d.tN (d.st f u).1 (by decide) (by rw[i,e])
  ·rcases M.2 with ⟨e,Q⟩ | ⟨B,R,S,e,T,n,U,V,Z,W⟩
   ·have X:=bX (by simpa using Q);subst X;exact⟨none,0,e,zzl _,aj _,fun d=>absurd rfl d⟩
   ·refine⟨some ⟨B,0,none⟩,R,by rw[e];simp,by simpa using U,V,fun _=>⟨B,0,S,rfl,.inr ⟨T,qh n⟩,n,fun G j i=>?_⟩⟩;have a0:G<l.length:=(zzg i).1;have C:=XV (l.map k2) G (k2 j) (by rw[aF,i];rfl);rw[bA,qe n,qe n,<-dB,<-dB];have a1:(l.map k2).length=l.length:=(by simp);rw[<-W] at C;rw[ey,ey,an (by omega),an (by omega)] at C;exact C
def qn5 (d:Fr S w n a y)(g:Int)(h:Nat)(b:a.frame.isSome=true\/a.due=false):Calls Tryz.prog 85 #[.pointer (some ⟨n,0,none⟩),.int .i64 g,.func (.func 86) #[.pointer (some ⟨h,0,none⟩)] #[]] w fun i j=>(∃ k,i=.returned k)/\j=w:=by
 obtain⟨e,l,-⟩:=zzk d.nS 14;clear d;cases c:a.frame with
 | some m=>
  simp only[xD,c] at e;clear b;go_enter Tryz.func85,Tryz.ntmps85;go_wp2;refine bV (ed rfl _ _ _) rfl ?_;exact⟨⟨_,rfl⟩,rfl⟩
 | none=>
  simp only[xD,c] at e;rw[c] at b;have f:a.due=false:=(by simpa using b);rw[f] at l;clear b f;go_enter Tryz.func85,Tryz.ntmps85;go_wp2;refine bV (ed rfl _ _ _) rfl ?_;exact⟨⟨_,rfl⟩,rfl⟩
variable{d:TypeId}{g j:Nat}{v:Value}{xs:List Value}
def Qm (a:w.ownsRow n d j v g xs)(b:i<=n):w.ownsRow i d j v g xs:=by
 refine⟨a.1,?_⟩;rcases a.2 with c | ⟨e,f,h,d,k,l⟩
 ·exact .inl c
 ·exact .inr ⟨e,f,h,d,aO b k,l⟩
def rB (o:n<3)(k:Fr U w i a y)(d3:∀ d,U d->d<w.heap.size)(d4:a.front<3)(d5:1<=a.W/\a.W<=16)(d6:1<=a.H/\a.H<=16)(m:Int)(Q:Nat)(D:Int->Int->Int)(b7:a.frame=none)(a2:a.due=true)(b8:za a 3=some n)(b9:∀ (r:World)(e J:Nat),Below w.heap.size w r->e<=16->J<=256->Calls Tryz.prog 86 #[.pointer (some ⟨Q,0,none⟩),.int .i64 (e:Int),.int .i64 (J:Int)] r fun c g=>c=.returned (.int .i64 (D (e:Int) (J:Int)))/\Below r.heap.size r g):Calls Tryz.prog 85 #[.pointer (some ⟨i,0,none⟩),.int .i64 m,.func (.func 86) #[.pointer (some ⟨Q,0,none⟩)] #[]] w fun c g=>(∃ d7,c=.returned d7)/\(∃ d8,Fr (grow U w g) g i (zR a m D) d8)/\gp U w g:=by
 have c0:zR a m D={a with frame:=some ⟨n,a.marks,zH (a.b n).st a.W D (a.W*a.H)⟩,due:=false,marks:=[],b:=fun u=>if u=n then {a.b u with st:=List.replicate (a.W*a.H) false,begun:=m} else a.b u}:=(by unfold zR;rw[ah (by rw[b7,a2];simp),b8];rfl);rw[c0];clear c0;have d9:w.cell? ⟨i,14,none⟩=some (.pointer none):=(by rw[qe k.nS];simp[qT,xD,b7]);have e0:w.cell? ⟨i,15,none⟩=some (.bool true):=(by rw[qe k.nS];simp[qT,a2]);have e1:Hid (Calls Tryz.prog 116 #[.pointer (some ⟨i,0,none⟩)] w fun c g=>c=.returned (.int .i64 (n:Int))/\∃ n,g=w.drewN n):=(by have:=Jv k d4;rw[b8] at this;exact this);obtain⟨f,K⟩:=zx (a.W*a.H);have e2:0<f:=(by rw[K];exact Nat.mul_pos (by omega) (by omega));obtain⟨L,a3⟩:=zx (zH (a.b n).st a.W D (a.W*a.H));have e3:Hid (∀ r,Below w.heap.size w r->Calls Tryz.prog 117 #[.pointer (some ⟨i,0,none⟩),.slice (some ⟨y.st n,0,none⟩) f f,.func (.func 86) #[.pointer (some ⟨Q,0,none⟩)] #[]] r fun c g=>(∃ M,c=.returned M/\qN g w.heap.size 222 M (L.map k2))/\Below w.heap.size w g):=fun r E=>by
  have:=JM (k.below E) (q:=n) o d5 d6 Q D (fun e4 e J a4 e5 e6=>b9 e4 e J (E.trans (a4.mono E.size)) e5 e6);rw[<-a3,zJ,<-K] at this;refine this.mono ?_;rintro c g ⟨⟨M,e7,e8⟩,a4⟩;exact⟨⟨M,e7,Qm e8 E.size⟩,E.trans (a4.mono E.size)⟩
 rw[<-a3];obtain⟨F,G,R⟩:=qr k.tN;obtain⟨H,c1⟩:=zx ((a.marks.map k2).length);rw[<-c1] at R;have h:=qg k;have a5:=qg R;have T:=qg K;have N:=qh k.nS;obtain⟨c2,-⟩:=zzk k.nS 16;rw[R] at c2;have e9:w.cell? ⟨i,4+n*3+1,none⟩=some (.slice (some ⟨y.st n,0,none⟩) f f):=(by rw[qe k.nS,K];rcases (by omega:n=0\/n=1\/n=2) with rfl | rfl | rfl<;>rfl);clear k R K a3 c1 b9;go_enter Tryz.func85,Tryz.ntmps85;go_wp2_with (go_at_call 116;refine (qb e1).mono ?_;rintro c g0 ⟨rfl,g1,rfl⟩)
 go_region_held3 (fun g=>g.cell? ⟨i,16,none⟩=some (.slice F H G)/\g.cell? ⟨i,4+n*3+1,none⟩=some (.slice (some ⟨y.st n,0,none⟩) f f))
  (first | exact qb f0 | exact qb f1 | go_keep)
  ((go_at_call 117
    refine ((qb e3) _ ?bb).mono ?_
    case bb=>first | exact ax (aa _ w) _ | exact (ax (aa _ w) _).drew
    rintro c j ⟨⟨M,rfl,a6⟩,s⟩
    obtain⟨v,x,c3⟩:=qr a6
    obtain⟨z,c4⟩:=zx ((L.map k2).length)
    rw[<-c4] at c3
    clear c4
    subst c3
    have V:=(qb h).below s
    have g2:=(s.cell N).trans d9
    have g3:=(s.cell N).trans e0
    have f2:=(s.cell N).trans c2
    have f3:=(s.cell N).trans e9
    have g4:=fun O=>qj V.nS O
    have g5:=zzm N s.size
    have W:((j.setCell ⟨i,14,none⟩ (.pointer (some ⟨j.heap.size,0,none⟩))).alloc (.cells #[.int .i64 (n:Int),.slice F H G,.slice v z x] 182)).heap[i]?=_:=qx (qp (i:=14) V.nS (.pointer (some ⟨j.heap.size,0,none⟩))) _
    obtain⟨a7,-⟩:=zzk W 16
    rw[qb a5] at a7
    have a8:((j.setCell ⟨i,14,none⟩ (.pointer (some ⟨j.heap.size,0,none⟩))).alloc (.cells #[.int .i64 (n:Int),.slice F H G,.slice v z x] 182)).cell? ⟨i,4+n*3+1,none⟩=some (zJ (y.st n) (a.W*a.H)):=by rw[qe W];rcases (by omega:n=0\/n=1\/n=2) with rfl | rfl | rfl<;>rfl
    rw[zJ,<-qb T] at a8
    have f0:=qg (ci a7 a8)
    have f4:=qg W
    clear a7 a8 W
    have f1:=qg (ci f2 f3)
    have g6:=qg V
    have a9:=qg s
    have X:=qg a6
    clear s a6 V))
 all_goals
  obtain⟨t,I⟩:=zx ((j.setCell ⟨i,14,none⟩ (.pointer (some ⟨j.heap.size,0,none⟩))).alloc (.cells #[.int .i64 (n:Int),.slice F H G,.slice v z x] 182));rw[<-I];have A:=qb f4;rw[<-I] at A;have c5:t.heap[j.heap.size]?=some (.cells #[.int .i64 (n:Int),.slice F H G,.slice v z x] 182 (0,0)):=(by rw[I];exact qt _ _ _ (by simp[World.setCell]));have b0:gp (fun e=>e=i) w t:=(by rw[I];exact ((gp.aD (S:=fun e=>e=i) (qb a9)).setCell (p:=⟨i,14,none⟩) (.inl rfl) _).alloc _);have c6:=b0.heap ((qb h).st n o).1 (fun c=>by have:=(qb h).nS;rw[<-c,((qb h).st n o).1] at this;simp at this);have c7:qN t w.heap.size 222 (.slice v z x) (L.map k2):=(by rw[I];refine qi (qi (qb X) ((gp.refl (fun d=>d=i) j).setCell (p:=⟨i,14,none⟩) (.inl rfl) _) (fun d l c=>?_)) (S:=fun _=>False) ((gp.refl _ _).alloc _) (fun _ _ k=>k);have:=(ab (qb X) d l).1;omega);obtain⟨Y,B⟩:=zx ((t.setCell ⟨i,15,none⟩ (.bool false)).setCell ⟨i,16,none⟩ (.slice none 0 0));have b1:=qp (i:=16) (qp (i:=15) A (.bool false)) (.slice none 0 0);rw[<-B] at b1;have Z:¬y.st n=i:=fun c=>by have:=(qb h).nS;rw[<-c,((qb h).st n o).1] at this;simp at this
  have a0:=qu (qu c6 (p:=⟨i,15,none⟩) Z (.bool false)) (p:=⟨i,16,none⟩) Z (.slice none 0 0);rw[<-B] at a0;have b2:¬j.heap.size=i:=(by omega);have b3:=qu (qu c5 (p:=⟨i,15,none⟩) b2 (.bool false)) (p:=⟨i,16,none⟩) b2 (.slice none 0 0);rw[<-B] at b3;obtain⟨q,C⟩:=zx (Y.setRow (y.st n) ((List.replicate f false).map Value.bool).toArray);have c8:∀ b4,(Builtin.clear_ #[116] b4 #[.slice (some ⟨y.st n,0,none⟩) f f]).run Tryz.prog Y=.ok (.tuple #[]) q:=fun b4=>by
   rw[C];exact xQ a0 (by rw[((qb h).st n o).2.2,qb T]) e2 b4
  have P:=(ct Y (y.st n) i ((List.replicate f false).map Value.bool).toArray (fun c=>Z c.symm)).trans b1;rw[<-C] at P;have c9:q.heap[y.st n]?=some (.cells ((List.replicate f false).map Value.bool).toArray 4 (0,0)):=(by rw[C];exact da _ _ _ _ _ _ a0);have d0:¬j.heap.size=y.st n:=fun c=>by
   have h1:=qh ((qb h).st n o).1;have h2:=(qb a9).size;omega
  have a1:=(ct Y (y.st n) j.heap.size ((List.replicate f false).map Value.bool).toArray d0).trans b3;rw[<-C] at a1;have b5:gp (fun e=>e=i\/e=y.st n) w q:=(by rw[C,B];refine (((b0.wide (fun e _ c=>.inl c)).setCell (p:=⟨i,15,none⟩) (.inl (.inl rfl)) _).setCell (p:=⟨i,16,none⟩) (.inl (.inl rfl)) _).trans ⟨rfl,rfl,rfl,by simp,fun d _ l=>ct _ _ _ _ (fun c=>l (.inr c))⟩);have b6:qN q w.heap.size 222 (.slice v z x) (L.map k2):=by
   rw[C,B];refine qi (qi c7 (((gp.refl (fun d=>d=i) t).setCell (p:=⟨i,15,none⟩) (.inl rfl) _).setCell (p:=⟨i,16,none⟩) (.inl rfl) _) (fun d l c=>?_)) (S:=fun e=>e=y.st n) ⟨rfl,rfl,rfl,by simp,fun d _ l=>ct _ _ _ _ l⟩ (fun d l c=>?_)
   ·have:=(ab (qb X) d l).1;omega
   ·have:=(ab (qb X) d l).1;have:=qh ((qb h).st n o).1;omega
  have g7:t.cell? ⟨i,15,none⟩=some (.bool true):=(by rw[qe A];simp[qT,a2]);have g8:t.cell? ⟨i,16,none⟩=some (.slice F H G):=(by rw[qe A];simp[qT,qb a5]);have g9:t.cell? ⟨i,4+n*3+1,none⟩=some (.slice (some ⟨y.st n,0,none⟩) f f):=(by rw[qe A];rcases (by omega:n=0\/n=1\/n=2) with rfl | rfl | rfl<;>simp[qT,zJ,qb T]);have i0:q.cell? ⟨i,4+n*3+2,none⟩=some (.int .i64 (a.b n).begun):=(by rw[qe P];rcases (by omega:n=0\/n=1\/n=2) with rfl | rfl | rfl<;>simp[qT]);have i1:=fun O=>qj A O;have i2:=fun O=>qj P O;have f5:=(qb a9).size;have f6:=qh a1;have d1:Fr (grow U w (q.setCell ⟨i,4+n*3+2,none⟩ (.int .i64 m))) (q.setCell ⟨i,4+n*3+2,none⟩ (.int .i64 m)) i {a with frame:=some ⟨n,a.marks,L⟩,due:=false,marks:=[],b:=fun u=>if u=n then {a.b u with st:=List.replicate (a.W*a.H) false,begun:=m} else a.b u} {y with fb:=j.heap.size,fm:=y.mv,fl:=.slice v z x,mv:=.slice none 0 0}:=by
   refine (qb h).begun d3 o f5 (by simp[World.setCell];exact f6) (b5.setCell (p:=⟨i,4+n*3+2,none⟩) (.inl (.inl rfl)) _) ?_ ?_ ?_ ?_
   ·rw[qp (i:=(4+n*3+2)) P (.int .i64 m)];rcases (by omega:n=0\/n=1\/n=2) with rfl | rfl | rfl<;>simp[qT,xD,zJ]
   ·rw[<-qb T];exact qu c9 (p:=⟨i,4+n*3+2,none⟩) Z _
   ·have:=qu a1 (p:=⟨i,4+n*3+2,none⟩) b2 (.int .i64 m);rw[this,qb a5]
   ·exact qi b6 ((gp.refl (fun d=>d=i) q).setCell (p:=⟨i,4+n*3+2,none⟩) (.inl rfl) _) (fun d l c=>by have:=(ab b6 d l).1;omega)
  have d2:gp U w (q.setCell ⟨i,4+n*3+2,none⟩ (.int .i64 m)):=(b5.wide (fun e _ c=>by rcases c with c | c;rw[c];exact (qb h).cb;rw[c];exact ((qb h).st n o).2.1)).setCell (p:=⟨i,4+n*3+2,none⟩) (.inl (qb h).cb) _;have f7:=qg d1;have f8:=qg d2;have f9:=c8 0;rw[B] at f9;clear d1 d2 c8 b6 b5 a1 d0 c9 P C b3 a0 b1 B c7 c6 b0 c5 A I
  (try simp only[Exit.then])
  (try go_simp)
  go_wp2;go_end0;exact⟨⟨_,rfl⟩,⟨_,qb f7⟩,qb f8⟩
def qn6 {i:Fl}(h:Fr S w n a i)(l:∀ k,S k->k<w.heap.size)(j:a.front<3)(m:1<=a.W/\a.W<=16)(o:1<=a.H/\a.H<=16)(c:Int)(d:Nat)(e:Int->Int->Int)(p:∀ (W:World)(x y:Nat),Below w.heap.size w W->x<=16->y<=256->Calls Tryz.prog 86 #[.pointer (some ⟨d,0,none⟩),.int .i64 (x:Int),.int .i64 (y:Int)] W fun f b=>f=.returned (.int .i64 (e (x:Int) (y:Int)))/\Below W.heap.size W b):Calls Tryz.prog 85 #[.pointer (some ⟨n,0,none⟩),.int .i64 c,.func (.func 86) #[.pointer (some ⟨d,0,none⟩)] #[]] w fun f b=>(∃ q,f=.returned q)/\(∃ r,Fr (grow S w b) b n (zR a c e) r)/\gp S w b:=by
 by_cases g:a.frame.isSome=true\/a.due=false
 ·refine (qn5 h c d g).mono ?_;rintro f b ⟨s,rfl⟩;refine⟨s,⟨i,?_⟩,.refl _ _⟩;rw[show zR a c e=a from an g];exact h.mono xn
 ·have t:a.frame=none:=by
   cases u:a.frame with
   | none=>rfl
   | some C=>exact absurd (.inl (by rw[u];rfl)) g
  have v:a.due=true:=by
   cases z:a.due with
   | true=>rfl
   | false=>exact absurd (.inr z) g
  obtain⟨D,A,B,_⟩:=Jw a j;exact rB B h l j m o c d e t v A p
variable{w2:World}{o':Obj}{b:Nat}
section
open Go.RowKit Go.Conc Go.Proofs.Panes
structure iY (w:World)(bb cb:Nat)(l s:Nat):Prop where
 nS:w.heap[bb]?=some (.cells #[.int .i64 (l:Int),.int .i64 (s:Int),.chan (some cb)] 211 (0,0))
 uI:w.heap[cb]?=some (.chan 0 #[] (decide (l=0)) 0 0 false)
def iY.but (a:iY w n i j g)(b:gp S w w2)(c:¬S n)(d:¬S i):iY w2 n i j g:=⟨b.heap a.nS c,b.heap a.uI d⟩
def iY.ne (a:iY w n i j g):n≠i:=fun b=>by have:=a.nS;rw[b,a.uI] at this;simp at this
def tv (a:World):(Instr.makeChan 209 (.int .i64 0)).run Tryz.prog a=.ok (.chan (some a.heap.size)) (a.alloc (.chan 0 #[] false 0 0 false)):=by
 have b:(Tryz.prog.info? 220).map (fun c=>c.bytes)=some 0:=(by kernel_rfl);obtain⟨c,b,d⟩:=cN.1 b;simpa using run_makeChan (P:=Tryz.prog) (w:=a) Tryz.underlying209 b .i64 0 (by omega) (by rw[d];omega)
def JW {a:Obj}(b:w.heap[n]?=some a):({w with heap:=w.heap.setIfInBounds n o'}:World).heap[n]?=some o'/\gp (fun c=>c=n) w {w with heap:=w.heap.setIfInBounds n o'}:=Vp b
def Xr (d:Nat)(a:World):Calls Tryz.prog 79 #[.int .i64 (d:Int)] a fun l p=>l=.returned (.pointer (some ⟨a.heap.size+1,0,none⟩))/\iY p (a.heap.size+1) a.heap.size d 0/\Below a.heap.size a p:=by
 obtain⟨b,c⟩:∃ b:World,b=(a.alloc (.chan 0 #[] false 0 0 false)).alloc (.cells #[.int .i64 (d:Int),.int .i64 0,.chan (some a.heap.size)] 211):=⟨_,rfl⟩;have e:Below a.heap.size a b:=(by rw[c];exact ((aa _ a).alloc (zzl _) _).alloc (by simp) _);have h1:b.heap[a.heap.size+1]?=some (.cells #[.int .i64 (d:Int),.int .i64 0,.chan (some a.heap.size)] 211 (0,0)):=(by rw[c];exact qt _ _ _ (by simp));have h2:b.heap[a.heap.size]?=some (.chan 0 #[] false 0 0 false):=(by rw[c];exact qx (qt a _ _ rfl) _);have r:=tv a;by_cases h0:d=0
 ·subst h0;obtain⟨f,m⟩:∃ f:World,f={b with heap:=b.heap.setIfInBounds a.heap.size (.chan 0 #[] true 0 0 false)}:=⟨_,rfl⟩;have n:∀ g h,(Builtin.close_ g h #[.chan (some a.heap.size)]).run Tryz.prog b=.ok (.tuple #[]) f:=fun g h=>by rw[m];exact run_close_open g h h2
  obtain⟨o,k2⟩:=JW (o':=.chan 0 #[] true 0 0 false) h2;rw[<-m] at o k2;have i:iY f (a.heap.size+1) a.heap.size 0 0:=⟨k2.heap h1 (by omega),o⟩;have q:=e.trans (k2.below e.size (fun s l=>by rw[l];exact zzl _));have j:=qg i;have k:=qg q;rw[c] at n;have t:∀ g h,(Builtin.close_ g h #[.chan (some a.heap.size)]).run Tryz.prog ((a.alloc (.chan 0 #[] false 0 0 false)).alloc (.cells #[.int .i64 0,.int .i64 0,.chan (some a.heap.size)] 211))=.ok (.tuple #[]) f:=n;clear n;clear i q o k2 m h1 h2 e c;go_enter Tryz.func79,Tryz.ntmps79;go_wp2;go_ret;exact⟨rfl,qb j,qb k⟩
 ·have i:iY b (a.heap.size+1) a.heap.size d 0:=⟨h1,by rw[bY h0];exact h2⟩;have j:=qg i;have k:=qg e;rw[c] at j k;clear i h1 h2 e c;go_enter Tryz.func79,Tryz.ntmps79;go_wp2;go_ret;exact⟨rfl,qb j,qb k⟩
def qh2 (e:iY w n j (g+1) b)(E:b<=1000000000/\g<=9223372036854775807):Calls Tryz.prog 120 #[.pointer (some ⟨n,0,none⟩)] w fun f s=>(∃ C,f=.returned C)/\iY s n j g (b+1)/\gp (fun c=>c=n\/c=j) w s/\s.heap.size=w.heap.size:=by
 have t:=e.ne;obtain⟨F,G,c2,-⟩:=zzc e.nS;have H:=fun D=>qj e.nS D;have I:IntKind.i64.wrap (((g+1:Nat):Int)-1)=(g:Int):=(by rw[af];omega);have J:IntKind.i64.wrap ((g:Int)+1-1)=(g:Int):=(by rw[af];omega);have K:IntKind.i64.wrap ((b:Int)+1)=((b+1:Nat):Int):=(by rw[af];omega);obtain⟨a,d⟩:∃ a:World,a=(w.setCell ⟨n,0,none⟩ (.int .i64 (g:Int))).setCell ⟨n,1,none⟩ (.int .i64 ((b+1:Nat):Int)):=⟨_,rfl⟩;have o:gp (fun c=>c=n\/c=j) w a:=(by rw[d];exact ((gp.refl (fun c=>c=n\/c=j) w).setCell (p:=⟨n,0,none⟩) (.inl (.inl rfl)) _).setCell (p:=⟨n,1,none⟩) (.inl (.inl rfl)) _);have h1:a.heap[n]?=some (.cells #[.int .i64 (g:Int),.int .i64 ((b+1:Nat):Int),.chan (some j)] 211 (0,0)):=(by rw[d];exact qp (i:=1) (qp (i:=0) e.nS _) _);have h2:a.heap[j]?=some (.chan 0 #[] false 0 0 false):=(by rw[d];have:=e.uI;rw[bY (by omega)] at this;exact qu (qu this (p:=⟨n,0,none⟩) (fun f=>t f.symm) _) (p:=⟨n,1,none⟩) (fun f=>t f.symm) _);have q:a.heap.size=w.heap.size:=(by rw[d];simp[World.setCell]);by_cases h0:g=0
 focus
  subst h0;obtain⟨h,r⟩:∃ h:World,h={a with heap:=a.heap.setIfInBounds j (.chan 0 #[] true 0 0 false)}:=⟨_,rfl⟩;have u:∀ k l,(Builtin.close_ k l #[.chan (some j)]).run Tryz.prog a=.ok (.tuple #[]) h:=fun k l=>by rw[r];exact run_close_open k l h2
  obtain⟨v,k2⟩:=JW (o':=.chan 0 #[] true 0 0 false) h2;rw[<-r] at v k2;have m:iY h n j 0 (b+1):=⟨k2.heap h1 t,v⟩;have A:=o.trans (k2.wide (fun c _ f=>.inr f));have B:h.heap.size=w.heap.size:=(by rw[r];simp[q]);have x:=qg m;have y:=qg A;have z:=qg B;rw[d] at u;have L:∀ k l,(Builtin.close_ k l #[.chan (some j)]).run Tryz.prog ((w.setCell ⟨n,0,none⟩ (.int .i64 0)).setCell ⟨n,1,none⟩ (.int .i64 ((b:Int)+1)))=.ok (.tuple #[]) h:=u;clear u m A v k2 r h1 h2 o d e q B
 rotate_left
 focus
  have m:iY a n j g (b+1):=⟨h1,by rw[bY h0];exact h2⟩;have x:=qg m;have y:=qg o;have z:=qg q;rw[d] at x y z;clear m h1 h2 o d e q
 rotate_left
 all_goals
  go_enter Tryz.func120,Tryz.ntmps120;go_wp2;go_end0;exact⟨⟨_,rfl⟩,qb x,qb y,qb z⟩
def ze5 (c:iY w n j g b):Calls Tryz.prog 81 #[.pointer (some ⟨n,0,none⟩)] w fun e t=>e=.returned (.int .i64 (b:Int))/\gp (fun a=>a=n\/a=j) w t:=by
 have o:=c.ne;obtain⟨y,z,c2,-⟩:=zzc c.nS;have A:=fun u=>qj c.nS u;by_cases h0:g=0
 ·subst h0;clear c;go_enter Tryz.func81,Tryz.ntmps81;go_wp2;go_ret;exact⟨rfl,.refl _ _⟩
 ·have B:(0:Int)<(g:Int):=(by omega);obtain⟨d,f⟩:∃ d:World,d=w.setCell ⟨n,0,none⟩ (.int .i64 0):=⟨_,rfl⟩;have h1:=qp (i:=0) c.nS (.int .i64 0);rw[<-f] at h1;have h2:d.heap[j]?=some (.chan 0 #[] false 0 0 false):=(by rw[f];have:=c.uI;rw[bY h0] at this;exact qu this (p:=⟨n,0,none⟩) (fun e=>o e.symm) _);obtain⟨h,k⟩:∃ h:World,h={d with heap:=d.heap.setIfInBounds j (.chan 0 #[] true 0 0 false)}:=⟨_,rfl⟩;have v:∀ l m,(Builtin.close_ l m #[.chan (some j)]).run Tryz.prog d=.ok (.tuple #[]) h:=fun l m=>by rw[k];exact run_close_open l m h2
  obtain⟨q,k2⟩:=JW (o':=.chan 0 #[] true 0 0 false) h2;rw[<-k] at q k2;have r:=k2.heap h1 o;obtain⟨-,C,-⟩:=zzc r;have s:=(by rw[f];exact (gp.refl (fun a=>a=n\/a=j) w).setCell (p:=⟨n,0,none⟩) (.inl (.inl rfl)) _:gp (fun a=>a=n\/a=j) w d).trans (k2.wide (fun a _ e=>.inr e));have x:=qg s;rw[f] at v;clear s q k2 k h1 h2 f c r;go_enter Tryz.func81,Tryz.ntmps81;go_wp2;go_ret;exact⟨rfl,qb x⟩
end
variable{b5 c3:Code}{p:Oper}{J:List Oper}{ch:Bool}{z:Value}
section
open Go.RowKit Go.Conc Go.Proofs.Panes
def nu (P:Program)(h:Code)(Q:Exit->Act->World->Prop)(a:Act)(w:World):Prop:=
 ∀ (b:Frame)(c:List Item)(d:List Frame),b.kind≠.early->∃ e f g,Q e f g/\Arrives P (lone (b.at a (.code h::c)) d w) b c d e f g
section
variable {P:Program}{Q:Exit->Act->World->Prop}{a:Act}{w:World}
def vp (b:b5.wp P Q a w):nu P b5 Q a w:=fun c d e _=>b c d e
def qz4 (h:nu P b5 (Exit.then (nu P c3 Q) Q) a w):nu P (.seq b5 c3) Q a w:=by
 intro b c d e;obtain⟨i,j,k,f,g⟩:=h b (.code c3::c) d e;cases i with
 | normal=>
  obtain⟨l,m,n,o,p⟩:=f b c d e;exact⟨l,m,n,o,.of_steps (.head step_seq g) p⟩
 | _=>exact⟨_,j,k,f,.of_steps (.one step_seq) (.pass (x:=.code c3) rfl (fun _ _=>.inl (by simp)) g)⟩
def jA (b:∀ K:Act->World->Prop,(∀ a w,nu P c3 Q a w->K a w)->nu P b5 (Exit.then K Q) a w):nu P (.seq b5 c3) Q a w:=qz4 (b _ fun _ _ b=>b)
def VQ {b:Operand}{t:Bool}(c:a.eval b=.bool t)(d:nu P (if t then b5 else c3) Q a w):nu P (.cond b b5 c3) Q a w:=
 fun e f g h=>let ⟨i,j,k,l,m⟩:=d e f g h;⟨i,j,k,l,.of_steps (.one (step_cond c)) m⟩
def kI {id:Nat}(g:nu P b5 (Exit.inBlock id Q) a w):nu P (.block id b5) Q a w:=by
 intro l h m n;obtain⟨o,c,d,b,e⟩:=g l (.inBlock id::h) m n;cases o with
 | normal=>exact⟨.normal,c,d,b,.head eU (ga e (.one step_inBlock))⟩
 | exit i=>
  by_cases f:i=id
  ·simp only[Exit.inBlock,f,dH] at b;exact⟨.normal,c,d,b,.head eU (e h (by simp[exitTo,f]))⟩
  ·simp only[Exit.inBlock,f,dE] at b;refine⟨.exit i,c,d,b,fun j k=>.head eU (e j ?_)⟩;have:(id == i)=false:=(by simp;exact fun g=>f g.symm);simp[exitTo,this,k]
 | goto p=>exact⟨_,c,d,b,fun j k=>.head eU (e j (by simp[gotoIn,k]))⟩
 | ret=>exact⟨_,c,d,b,.of_steps (.one eU) e⟩
 | panic q=>exact⟨_,c,d,b,.of_steps (.one eU) e⟩
 | outgrown=>exact⟨_,c,d,b,.of_steps (b:=l) (k:=h) (cs:=m) (e:=.outgrown) (.one eU) e⟩
def qo1 (e:Act->World->Prop)(f:Act->World->Nat)(o:e a w)(p:∀ a w,e a w->nu P b5 (Exit.then (fun b c=>e b c/\f b c<f a w) Q) a w):nu P (.loop b5) Q a w:=by
 intro j k l q;have r:∀ g a w,f a w=g->e a w->∃ d b c,Q d b c/\Arrives P (lone (j.at a (.code b5 :: .inLoop b5::k)) l w) j k l d b c:=by
  intro g;induction g using Nat.strongRecOn with
  | _ g s=>
   intro a w t u;obtain⟨d,m,n,h,i⟩:=p a w u j (.inLoop b5::k) l q;cases d with
   | normal=>
    obtain⟨v,y⟩:=h;obtain⟨z,A,B,C,D⟩:=s (f m n) (t ▸ y) m n rfl v;exact⟨z,A,B,C,.of_steps (ga i (.one step_inLoop)) D⟩
   | _=>exact⟨_,m,n,h,.pass (x:=.inLoop b5) rfl (fun _ _=>.inl (by simp)) i⟩
 obtain⟨d,b,c,h,i⟩:=r _ a w rfl o;exact⟨d,b,c,h,.of_steps (.one step_loop) i⟩
def Y2 {id:Nat}(h:p.guard=none)(j:(execOp a.eval p).run P w=.ok (.comm #[rcase n z] false .select) w)(e:w.heap[n]?=some (.chan 0 #[] ch 0 0 false))(k:wpList P (p::J).toArray Q J (a.put p.dst (.tuple #[goInt (if ch then 0 else -1),.bool false,z])) w):nu P (.region id (p::J).toArray false) Q a w:=by
 intro b c d l;have m:Region.wanted p (yielded (p::J).toArray a.tmps)=true:=(by simp[Region.wanted,h]);have o:List.range (p::J).toArray.size=0::List.range' 1 J.length:=(by rw[List.range_eq_range'];simp[List.range'_succ]);have f:=step_region (P:=P) (b:=b) (a:=a) (ops:=(p::J).toArray) (k:=c) (cs:=d) (w:=w) (id:=id);rw[o] at f;have g:=stepG_comm (P:=P) (b:=b) (a:=a) (k:=c) (cs:=d) (w:=w) (main:=true) (ops:=(p::J).toArray) (i:=0) (rest:=List.range' 1 J.length) (o:=p) (cases:=#[rcase n z]) (blocking:=false) (shape:=.select) (w':=w) (by simp) m l j;have q:step P (lone (b.at a (.inRegion (p::J).toArray (0::List.range' 1 J.length)::c)) d w)=.next (lone (b.at (a.put p.dst (.tuple #[goInt (if ch then 0 else -1),.bool false,z])) (.inRegion (p::J).toArray (List.range' 1 J.length)::c)) d w):=by
  rw[lone_eq_solo,lone_eq_solo];cases ch with
  | false=>
   rw[step_lone_select_default g e,Frame.finish_at];simp
  | true=>
   rw[step_lone_select_recv_shut g e,Frame.finish_at];simp
 have r:wpOps P (p::J).toArray Q (List.range' 1 J.length) (a.put p.dst (.tuple #[goInt (if ch then 0 else -1),.bool false,z])) w:=(by rw[wpOps_eq_wpList J 1 (fun y=>by simp[Nat.add_comm])];exact k);obtain⟨s,t,u,v,x⟩:=wp_ops _ _ _ r b c d;exact⟨s,t,u,v,.of_steps (ga (.one f) (.one q)) x⟩
end
end
variable{P:Program}{f:Array Value}{m':List (Int×Int)}{R:List Int}
section
open Go.RowKit Go.Conc Go.Proofs.Panes
def VF {h:FuncId}{a:Func}{n:Ending->World->Prop}(i:P.funcs[h]?=some a)(o:a.body=some b5)(p:nu P b5 (bodyPost P a n) {tmps:=f++Array.replicate (a.ntmps-f.size) undef,defers:=[]} w):Calls P h f w n:=by
 intro q
 let b:Frame:={ (default:Frame) with fn:=h,kind:=.normal}
 have r:Frame.enter P h f .normal=b.at {tmps:=f++Array.replicate (a.ntmps-f.size) undef,defers:=[]} [.code b5]:=(by simp[Frame.enter,Frame.at,i,o,b]);obtain⟨s,v,j,c,d⟩:=p b [] q (by simp[b]);rw[<-r] at d;cases s with
 | normal=>
  obtain⟨e,k,l,g⟩:=c;exact⟨.returned k,j,_,g,ga d (.one step_end),rfl,rfl,e,rfl,a,i,l⟩
 | ret=>
  obtain⟨e,k,l,g⟩:=c;obtain⟨t,m⟩:=d;exact⟨.returned k,j,_,g,m,rfl,rfl,e,rfl,a,i,l⟩
 | panic u=>
  obtain⟨e,g⟩:=c;obtain⟨t,m⟩:=d;exact⟨.panicked u,j,_,g,m,rfl,rfl,e,a,i⟩
 | exit id=>exact c.elim
 | goto x=>exact c.elim
 | outgrown=>exact⟨.outgrown,j,b,c,d.resolve_left (by simp[b]),rfl,trivial⟩
def xl (a:List Int)(c:List (Int×Int)):List Int:=c.foldl (fun a b=>a.set b.1.toNat b.2) a
def Yc (b:List Int)(c:List (Int×Int))(a:Int×Int):xl b (c++[a])=(xl b c).set a.1.toNat a.2:=by simp[xl]
def Ku (b:List (Int×Int)):∀ a:List Int,(xl a b).length=a.length:=by
 induction b with
 | nil=>intro a;rfl
 | cons d b c=>intro a;exact (c _).trans (by simp)
def zzp (a:gB)(c:pt)(e:Nat):gB:={a with frame:=some {c with left:=c.left.drop e},b:=fun d=>if d=c.buf then {a.b d with px:=xl (a.b d).px (c.left.take e)} else a.b d}
def je (a:gB)(c:Nat):gB:=match a.frame with
 | none=>a
 | some b=>zzp a b (min c b.left.length)
def vu (a:gB)(b:Nat):Nat:=match a.frame with
 | none=>0
 | some c=>min b c.left.length
def qs4 (b:List Int)(a:Nat)(c:Int):(b.set a c).map (Value.int .i64)=(b.map (Value.int .i64)).set a (.int .i64 c):=by
 induction b generalizing a with
 | nil=>rfl
 | cons e b d=>cases a with
  | zero=>rfl
  | succ a=>simp[d]
def Fr.dot {f:pt}(g:Fr S w n a y)(D:a.frame=some f){d:Int×Int}(k:gp (fun h=>h=y.pb f.buf\/h=y.fb) w w2)(G:w2.heap[y.pb f.buf]?=some (.cells (R.map (Value.int .i64)).toArray 3 (0,0))) (H:R.length=a.W*a.H) (I:w2.heap[y.fb]?=some (.cells #[.int .i64 (f.buf:Int),y.fm,v] 182 (0,0))) (J:nr S w v m'):Fr S w2 n {a with frame:=some {f with left:=m'},b:=fun c=>if c=f.buf then {a.b c with px:=R} else a.b c} {y with fl:=v}:=by
 obtain⟨q,K,l,z,L,W⟩:=g.fr f D;have A:∀ {h:Nat}{r:Array Value}{s:TypeId}{E:Nat×Nat},w.heap[h]?=some (.cells r s E)->s≠3->s≠182->¬(h=y.pb f.buf\/h=y.fb):=by
  rintro h r s E t M N (e | e)
  ·have:=(g.px f.buf l).1;rw[<-e,t] at this;simp at this;exact M this.2.1
  ·rw[e,q] at t;simp at t;exact N t.2.1.symm
 have O:∀ c,(if c=f.buf then ({a.b c with px:=R}:pg) else a.b c).begun=(a.b c).begun:=fun c=>by split<;>rfl
 refine⟨?_,g.cb,?_,?_,g.tW,g.tV,qi g.tN k (fun u i=>?_),g.mc,?_⟩
 ·have:=k.heap g.nS (A g.nS (by decide) (by decide));rw[this];simp[qT,xD,D,O]
 ·intro c x;by_cases e:c=f.buf
  ·subst e;simp only[an];exact⟨G,(g.px f.buf l).2.1,H⟩
  ·obtain⟨j,o,p⟩:=g.px c x;simp only[ah e];refine⟨k.heap j ?_,o,p⟩;rintro (B | B)
   ·exact e (g.tW c f.buf x l B)
   ·rw[B,q] at j;simp at j
 ·intro c x;obtain⟨j,o,p⟩:=g.st c x;have e:(if c=f.buf then ({a.b c with px:=R}:pg) else a.b c).st=(a.b c).st:=(by split<;>rfl);show w2.heap[y.st c]?=some (.cells (((if c=f.buf then ({a.b c with px:=R}:pg) else a.b c).st).map Value.bool).toArray 4 (0,0))/\S (y.st c)/\(if c=f.buf then ({a.b c with px:=R}:pg) else a.b c).st.length=a.W*a.H;rw[e];exact⟨k.heap j (A j (by decide) (by decide)),o,p⟩
 ·rintro (e | e)
  ·exact qq g.tN (g.px f.buf l).1 (by decide) (by rw[i,e])
  ·exact qq g.tN q (by decide) (by rw[i,e])
 ·intro X m;simp only[ac] at m;subst m;refine⟨I,K,l,qi z k (fun u i=>?_),L,?_⟩
  ·rintro (e | e)
   ·exact qq z (g.px f.buf l).1 (by decide) (by rw[i,e])
   ·exact qq z q (by decide) (by rw[i,e])
  ·obtain⟨P,Q,e,j,o,p⟩:=J;refine⟨P,Q,e,j,o,fun T=>?_⟩;obtain⟨h,U,r,e,V,m,qF⟩:=p T;have C:=k.block h (qh m) (A m (by decide) (by decide));exact⟨h,U,r,e,V,C.trans m,fun F u i=>⟨(aH C).trans (qF F u i).1,(aH C).trans (qF F u i).2⟩⟩
def nr.tail {d:Int×Int}(e:nr S w (.slice (some ⟨n,i,none⟩) (m'.length+1) j) (d::m')):nr S w (.slice (if j=1 then some ⟨n,i,none⟩ else some ⟨n,i+2,none⟩) m'.length (j-1)) m':=by
 obtain⟨q,r,a,c,s,f⟩:=e;simp only[ai] at a;obtain⟨rfl,-,rfl⟩:=a;obtain⟨t,u,g,a,h,k,qF⟩:=f (by simp);simp only[ac,bz,bB] at a;obtain⟨rfl,rfl⟩:=a;refine⟨_,_,rfl,by simp at c;omega,by omega,fun l=>?_⟩;have v:=cZ.2 l;have m:¬j=1:=(by simp at c;omega);rw[ah m];refine⟨n,i+2,g,rfl,h,k,fun b o p=>?_⟩;have:=qF (b+1) o (by simpa using p);rw[show i+(b+1)*2=i+2+b*2 by omega] at this;exact this
end
variable{vf:Value}{q:Int}{m:World}{c ob t:Nat}{ro:Option Addr}
section
open Go.RowKit Go.Conc Go.Proofs.Panes
def sa (b c d:Value)(a:Nat->Value):Act:={tmps:=#[b,c,a 2,a 3,d,a 5,a 6,a 7,a 8,a 9,a 10,a 11,a 12,a 13,a 14,a 15,a 16,a 17,a 18,a 19,a 20,a 21,a 22,a 23,a 24,a 25,a 26,a 27,a 28,a 29,a 30,a 31,a 32,a 33,a 34,a 35,a 36,a 37,a 38,a 39,a 40,a 41,a 42,a 43,a 44,a 45,a 46,a 47,a 48,a 49,a 50,a 51,a 52,a 53,a 54,a 55,a 56,a 57,a 58,a 59,a 60,a 61,a 62,a 63,a 64,a 65,a 66,a 67,a 68,a 69,a 70],defers:=[]}
def qu4 {p:Nat->Value->Prop}(c:({tmps:=f,defers:=[]}:Act)=sa v z vf (fun i=>f.getD i undef))(d:∃ a b,p a b):∃ e a b,({tmps:=f,defers:=[]}:Act)=sa v z vf e/\p a b:=by
 obtain⟨a,b,g⟩:=d;exact⟨_,a,b,c,g⟩
def Qs (a:Nat)(b:World):Nat:=match b.cell? ⟨a,2,none⟩ with
 | some (.slice _ n _)=>n
 | _=>0
structure sK (C:Nat->Prop)(w wr:World)(b0 bb cb:Nat)(f:gB)(v:Fl)(g:pt)(l s j:Nat)(fl:Value):Prop where
 jl:j<=l
 jn:j<=g.left.length
 fr:Fr C wr b0 (zzp f g j) {v with fl:=fl}
 bd:iY wr bb cb (l-j) (s+j)
 but:gp (fun k=>C k\/k=bb\/k=cb) w wr
def Yd {c:pt}(e:c.left.drop n=((i:Int),q)::m'):({zzp a c n with frame:=some { ({c with left:=c.left.drop n}:pt) with left:=m'},b:=fun d=>if d=c.buf then { (zzp a c n).b d with px:=(((zzp a c n).b c.buf).px).set i q} else (zzp a c n).b d}:gB)=zzp a c (n+1):=by
 have g:n<c.left.length:=(by have:=congrArg List.length e;simp at this;omega);have j:c.left[n]=((i:Int),q):=(by have:=List.getElem_drop (xs:=c.left) (i:=n) (j:=0) (h:=by simp;omega);simp only[e,List.getElem_cons_zero,bL] at this;exact this.symm);have k:c.left.drop (n+1)=m':=(by rw[<-dj (i:=1) (j:=n),e];rfl);have l:c.left.take (n+1)=c.left.take n++[((i:Int),q)]:=(by rw[am,aB g,j];rfl);unfold zzp;simp only[k,l,Yc];congr 1
 funext d
 by_cases f:d=c.buf
 ·subst f;simp
 ·simp[f]
def qk9 {e:pt}(h:Fr S w2 n (zzp a e ob) {y with fl:=v})(J:iY w2 j g (b-ob) (t+ob))(K:gp (fun f=>S f\/f=j\/f=g) w w2)(r:e.buf<3)(s:¬S j)(u:¬S g)(a1:t<=1000000/\b<=9223372036854775807)(L:ob<b)(x:e.left.drop ob=((c:Int),q)::m')(a2:e.left.length<=1000)(a3:c<a.W*a.H)(M:gp (fun f=>f=y.pb e.buf) w2 m) (A:m.heap[y.pb e.buf]?=some (.cells (((((zzp a e ob).b e.buf).px).set c q).map (Value.int .i64)).toArray 3 (0,0))) (B:m.heap[y.fb]?=some (.cells #[.int .i64 (e.buf:Int),y.fm,v] 182 (0,0))) {N:Nat} (O:z=.slice ro m'.length N) (P:nr S w2 z m'):Calls Tryz.prog 120 #[.pointer (some ⟨j,0,none⟩)] (m.setCell ⟨y.fb,2,none⟩ z).drew fun c k=>(∃ Q,c=.returned Q)/\sK S w k n j g a y e b t (ob+1) z/\Qs y.fb k=m'.length:=by
 have R:ob<e.left.length:=(by have:=congrArg List.length x;simp at this;omega);obtain⟨a4,k2,a5,a6,a7,a8⟩:=h.fr _ rfl;have l:=(h.px e.buf r).2.1;have o:gp (fun C=>C=y.pb e.buf\/C=y.fb) w2 (m.setCell ⟨y.fb,2,none⟩ z).drew:=((M.wide (fun _ _ c=>.inl c)).setCell (p:=⟨y.fb,2,none⟩) (.inl (.inr rfl)) _).drew;have T:¬y.pb e.buf=y.fb:=fun c=>by
  have D:=A;rw[c,B] at D;simp at D
 have U:(m.setCell ⟨y.fb,2,none⟩ z).drew.heap[y.fb]?=some (.cells #[.int .i64 (e.buf:Int),y.fm,z] 182 (0,0)):=(by have:=qp (i:=2) B z;exact this);have V:(m.setCell ⟨y.fb,2,none⟩ z).drew.heap[y.pb e.buf]?=_:=qu A (p:=⟨y.fb,2,none⟩) T z;have E:=h.dot (d:=(0,0)) rfl o V (by rw[aG];exact (h.px e.buf r).2.2) U P;rw[Yd x] at E;have W:¬(j=y.pb e.buf\/j=y.fb):=by
  rintro (c | c)
  ·exact s (by rw[c];exact l)
  ·exact s (by rw[c];exact k2)
 have X:¬(g=y.pb e.buf\/g=y.fb):=by
  rintro (c | c)
  ·exact u (by rw[c];exact l)
  ·exact u (by rw[c];exact k2)
 have F:=J.but o W X;rw[show b-ob=(b-(ob+1))+1 by omega] at F;refine (qh2 F (by omega)).mono ?_;rintro a9 k ⟨Y,Z,G,-⟩;have H:=E.but G (fun f b0=>by rintro (c | c)<;>subst c<;>contradiction);refine⟨Y,⟨L,R,H,by rw[show t+(ob+1)=t+ob+1 by omega];exact Z,?_⟩,?_⟩
 ·refine K.trans ((o.wide (fun f _ c=>?_)).trans (G.wide (fun f _ c=>.inr c)));rcases c with c | c
  ·exact .inl (by rw[c];exact l)
  ·exact .inl (by rw[c];exact k2)
 ·obtain⟨a0,-⟩:=H.fr _ rfl;have I:=qe a0 2;simp only at I;simp[Qs,I,O]
def sN (f:Nat->Prop)(g:World)(a b h:Nat)(i:gB)(c:Fl)(d:pt)(j k e:Nat)(l:Act)(m:World):Prop:=∃ n o p,l=sa (.pointer (some ⟨a,0,none⟩)) (.pointer (some ⟨b,0,none⟩)) (.slice (some ⟨c.pb d.buf,0,none⟩) e e) n/\sK f g m a b h i c d j k o p
def qn2 (t:Fr S w n a y)(g9:∀ f,S f->f<w.heap.size)(i0:a.W*a.H<=1000)(b3:∀ c,a.frame=some c->c.left.length<=1000/\∀ k∈c.left,0<=k.1/\k.1<((a.W*a.H:Nat):Int))(T:iY w i j g b)(d9:¬S i)(e0:¬S j)(e1:b<=1000000/\g<=9223372036854775807):Calls Tryz.prog 87 #[.pointer (some ⟨n,0,none⟩),.pointer (some ⟨i,0,none⟩)] w fun d u=>(∃ U,d=.returned U)/\(∃ D,Fr S u n (je a g) D)/\iY u i j (g-vu a g) (b+vu a g)/\gp (fun f=>S f\/f=i\/f=j) w u:=by
 have b4:w.cell? ⟨n,14,none⟩=some (xD a y):=qe t.nS 14;refine VF Tryz.func87 rfl ?_;simp only[Tryz.ntmps87,dW,aX,cM,Nat.reduceAdd,Nat.reduceSub,ec,eb,eE,eo,cd,eh];cases l:a.frame with
 | none=>
  have E:je a g=a:=(by simp[je,l]);have v:vu a g=0:=(by simp[vu,l]);simp only[xD,l] at b4;rw[E,v];have e2:=qg t;have V:=qg T;clear t T E v;refine jA (fun e3 e4=>?_);refine vp ?_;go_wp2;refine bV (ed rfl _ _ _) rfl ?_;exact⟨⟨_,rfl⟩,⟨y,qb e2⟩,by simpa using qb V,.refl _ _⟩
 | some c=>
  have E:je a g=zzp a c (min g c.left.length):=(by simp[je,l]);have v:vu a g=min g c.left.length:=(by simp[vu,l]);simp only[xD,l] at b4;rw[E,v];obtain⟨h1,h2,h3,h4,h5,h6⟩:=t.fr c l;have i1:w.cell? ⟨y.fb,0,none⟩=some (.int .i64 (c.buf:Int)):=qe h1 0;obtain⟨m,a3⟩:=zx (a.W*a.H);have i2:w.cell? ⟨n,4+c.buf*3,none⟩=some (.slice (some ⟨y.pb c.buf,0,none⟩) m m):=(by rw[qe t.nS,a3];have:c.buf=0\/c.buf=1\/c.buf=2:=(by omega);rcases this with d | d | d<;>rw[d]<;>rfl);have i3:(0:Int)<=(c.buf:Int):=(by omega);have i4:(c.buf:Int)<3:=(by omega);have b5:zzp a c 0=a:=by
   unfold zzp;have d:(fun F=>if F=c.buf then ({a.b F with px:=xl (a.b F).px (c.left.take 0)}:pg) else a.b F)=a.b:=by
    funext F
    split
    ·simp[xl]
    ·rfl
   rw[d,eH];cases a
   simp at l;simp[l]
  have b6:sK S w w n i j a y c g b 0 y.fl:=⟨aj _,aj _,by rw[b5];exact t,by simpa using T,.refl _ _⟩;have e5:=qg b6;have b7:=qg (b3 c l);have b8:=qg a3;have i5:m<=1000:=(by omega);have b9:=h3;clear t T E v h1 h2 h4 h5 h6 b5 b6 b3 a3;refine jA (fun e3 e4=>?_);refine vp ?_;go_wp2;refine jA (fun i6 i7=>?_);refine vp ?_;go_quiet (fail)
  go_wp2;refine kI ?_;refine qo1 (sN S w n i j a y c g b m) (fun _ wr=>Qs y.fb wr) ?start ?round
  case start=>
   refine qu4 (p:=fun e G=>sK S w (w.drewN nq) n i j a y c g b e G) (by kernel_rfl) ⟨0,y.fl,?_⟩;obtain⟨c0,e6,e7,c1,e8⟩:=qb e5;exact⟨c0,e6,e7.below (ax (aa _ w) nq),⟨c1.nS,c1.uI⟩,e8.drewN nq⟩
  case round=>
   rintro i8 wr ⟨c2,e,G,rfl,e9⟩;obtain⟨i9,j0,hF,x,W⟩:=e9;have a4:(zzp a c e).frame=some {c with left:=c.left.drop e}:=rfl;obtain⟨A,k2,j1,c3,c4,H⟩:=hF.fr _ a4;have j2:wr.cell? ⟨n,14,none⟩=some (.pointer (some ⟨y.fb,0,none⟩)):=qe hF.nS 14;have v:wr.cell? ⟨y.fb,2,none⟩=some G:=qe A 2;have j3:wr.cell? ⟨i,2,none⟩=some (.chan (some j)):=qe x.nS 2;have j4:∀ o,wr.frozen? ⟨y.fb,o,none⟩=false:=fun o=>qj A o;obtain⟨j5,C,c5,f0,j6,a5⟩:=H;have r:(c.left.drop e).length=c.left.length-e:=(by simp);obtain⟨h,I⟩:=zx (c.left.length-e);simp only[r,<-I] at c5 f0;subst c5;have a6:Qs y.fb wr=h:=(by simp[Qs,v]);have f1:=qg a6;have j7:=qg I;by_cases h0:h=0
   ·have J:min g c.left.length=e:=(by omega);have a7:Hid ((∃ D,Fr S wr n (zzp a c (min g c.left.length)) D)/\iY wr i j (g-min g c.left.length) (b+min g c.left.length)/\gp (fun f=>S f\/f=i\/f=j) w wr):=(by rw[J];exact⟨⟨_,hF⟩,x,W⟩);subst h0;clear hF x W A k2 c3 c4 a5 I r a6 J a4;rw[show sa (.pointer (some ⟨n,0,none⟩)) (.pointer (some ⟨i,0,none⟩)) (.slice (some ⟨y.pb c.buf,0,none⟩) m m) c2=_ from rfl];unfold sa;refine jA (fun f2 f3=>?_);refine vp ?_;go_wp2;go_end0;exact⟨⟨_,rfl⟩,qb a7⟩
   ·obtain⟨f4,c6⟩:=qb b7;obtain⟨K,L,j8,f5,j9,a8,qF⟩:=a5 (by intro d;have f6:c.left.drop e=[]:=d;rw[f6] at r;simp at r;omega);subst f5;obtain⟨k,q,M⟩:∃ k q,c.left.drop e=k::q:=by
     cases f7:c.left.drop e with
     | nil=>rw[f7] at r;simp at r;omega
     | cons k q=>exact⟨k,q,rfl⟩
    have c7:k∈c.left:=bm (i:=e) (by rw[M];simp);obtain⟨c8,c9⟩:=c6 k c7;have d0:=qF 0 k (by simp[M]);obtain⟨d1,N⟩:=k;simp only[ft,bL] at d0 c8 c9;obtain⟨k0,c0⟩:=d0;obtain⟨d,rfl⟩:∃ d:Nat,d1=(d:Int):=⟨d1.toNat,by omega⟩;have d2:d<a.W*a.H:=(by omega);have d3:h=q.length+1:=(by rw[I,<-r,M];rfl);have k1:(0:Int)<(h:Int):=(by omega);have k3:(1:Int)<=(h:Int):=(by omega);have k4:(0:Int)<=(d:Int):=(by omega);have k5:(d:Int)<(m:Int):=(by have:=qb b8;omega);obtain⟨s,k6,X⟩:=hF.px c.buf b9;have k7:∀ o,wr.frozen? ⟨y.pb c.buf,o,none⟩=false:=fun o=>qj s o;obtain⟨a9,b0⟩:=zx (((zzp a c e).b c.buf).px);rw[<-b0] at s X;have k8:wr.cell? ⟨y.pb c.buf,d,none⟩=some (.int .i64 (a9.getD d 0)):=(by have h1:d<a9.length:=(by rw[X];exact d2);have:=qe s d;rw[this];simp[h1]);have k9:=qh a8;have l0:y.pb c.buf<wr.heap.size:=qh s;have l1:y.fb<wr.heap.size:=qh A;have l2:=qh hF.nS;have f8:¬y.pb c.buf=y.fb:=fun d=>by
     have h1:=A;simp only at h1;rw[<-d] at h1;have h2:=s;simp only at h2;rw[h1] at h2;simp at h2
    have f9:¬y.pb c.buf=n:=fun d=>by
     have h1:=hF.nS;rw[<-d] at h1;have h2:=s;simp only at h2;rw[h1] at h2;simp at h2
    have Y:=qg hF;have V:=qg x;have d4:=qg W;have g0:=qg A;have g1:=qg s;have l3:=qg X;have d5:=qg M;have g2:=qg b0;have Z:=qg d3;have l4:=qg qF;have l5:=qg a8;have b1:=x.uI;clear hF W A k2 c3 c4 a5 I r a6 a4 s X M b0 c7 f4 c6 d3 c8 c9 d2 qF a8;rw[show sa (.pointer (some ⟨n,0,none⟩)) (.pointer (some ⟨i,0,none⟩)) (.slice (some ⟨y.pb c.buf,0,none⟩) m m) c2=_ from rfl];unfold sa;refine jA (fun f2 f3=>?_);refine vp ?_;go_wp2;refine kI ?_;refine jA (fun l6 l7=>?_);refine vp ?_;go_wp2;refine jA (fun l8 l9=>?_);refine Y2 (z:=.agg #[]) rfl (by simp[go_sem,execOp,rcase,Act.eval]) b1 ?_;by_cases n0:g=e
    ·have J:min g c.left.length=e:=(by omega);have a7:Hid ((∃ D,Fr S wr n (zzp a c (min g c.left.length)) D)/\iY wr i j (g-min g c.left.length) (b+min g c.left.length)/\gp (fun f=>S f\/f=i\/f=j) w wr):=(by rw[J];exact⟨⟨_,qb Y⟩,qb V,qb d4⟩);have O:decide (g-e=0)=true:=(by simp;omega);rw[O];simp only[dH];clear x b1 J O;go_wp2;refine kI ?_;refine VQ (t:=true) rfl ?_;refine vp ?_;simp only[dH];go_wp2;refine bV (ed rfl _ _ _) rfl ?_;exact⟨⟨_,rfl⟩,qb a7⟩
    ·have O:decide (g-e=0)=false:=(by simp;omega);rw[O];simp only[cT,dE];clear x b1 O;go_wp2;refine kI ?_;refine VQ (t:=false) rfl ?_;simp only[cT,dE];refine jA (fun n1 n2=>?_);refine vp ?_;go_wp2;refine jA (fun n3 n4=>?_);refine vp ?_;go_wp2;obtain⟨B,a0⟩:∃ B:World,B=(wr.setCell ⟨y.pb c.buf,d,none⟩ (.int .i64 N)).alloc (.cells #[.int .i64 (d:Int),.int .i64 N] 222):=⟨_,rfl⟩;rw[<-a0];have P:gp (fun f=>f=y.pb c.buf) wr B:=(by rw[a0];exact ((gp.refl (fun f=>f=y.pb c.buf) wr).setCell (p:=⟨y.pb c.buf,d,none⟩) (.inl rfl) _).alloc _);have b2:B.heap[y.pb c.buf]?=some (.cells ((a9.set d N).map (Value.int .i64)).toArray 3 (0,0)):=(by rw[a0,qs4];have:=qx (qp (i:=d) (qb g1) (.int .i64 N)) (.cells #[.int .i64 (d:Int),.int .i64 N] 222);simpa using this);have Q:=P.heap (qb g0) (fun d=>f8 d.symm);have d6:=P.heap (qb Y).nS (fun d=>f9 d.symm);have n5:B.cell? ⟨n,14,none⟩=some (.pointer (some ⟨y.fb,0,none⟩)):=qe d6 14;have n6:B.cell? ⟨y.fb,2,none⟩=some (.slice (some ⟨K,L,none⟩) h C):=qe Q 2;have n7:=fun o=>qj Q o;have R:nr S wr (.slice (if C=1 then some ⟨K,L,none⟩ else some ⟨K,L+2,none⟩) (h-1) (C-1)) q:=(by obtain⟨-,-,-,-,-,H⟩:=(qb Y).fr _ rfl;simp only at H;rw[qb d5,qb Z] at H;rw[qb Z];exact H.tail);have g3:Hid (C=1->nr S wr (.slice (some ⟨K,L,none⟩) (h-1) 0) q):=fun d=>by rw[d] at R;exact R
     have g4:Hid (¬C=1->nr S wr (.slice (some ⟨K,L+2,none⟩) (h-1) (C-1)) q):=fun d=>by rw[ah d] at R;exact R
     have d7:∀ a1 a2,nr S wr (.slice a1 (h-1) a2) q->Calls Tryz.prog 120 #[.pointer (some ⟨i,0,none⟩)] (B.setCell ⟨y.fb,2,none⟩ (.slice a1 (h-1) a2)).drew fun d u=>(∃ U,d=.returned U)/\sK S w u n i j a y c g b (e+1) (.slice a1 (h-1) a2)/\Qs y.fb u<Qs y.fb wr:=fun a1 a2 g5=>by
      refine (qk9 (qb Y) (qb V) (qb d4) b9 d9 e0 e1 (by omega) (qb d5) (qb b7).1 (by have:=qb b8;omega) P (by rw[<-qb g2];exact b2) Q (by rw[qb Z];rfl) g5).mono ?_;rintro d u ⟨h1,h2,h3⟩;exact⟨h1,h2,by rw[h3,qb f1,qb Z];omega⟩
     have d8:=qg d7;clear R d7;have n8:=qg P;have n9:=qg b2;have o0:=qg Q;clear P b2 Q d6 a0;refine jA (fun o1 o2=>?_);refine vp ?_;go_region;go_wp2;all_goals
      refine vp ?_;go_wp2_with (go_at_call 120;(first | refine ((qb d8) _ _ ((qb g3) (by assumption))).mono ?_ | refine ((qb d8) _ _ ((qb g4) (by assumption))).mono ?_);rintro d g6 ⟨⟨U,rfl⟩,g7,g8⟩)
      refine⟨qu4 (p:=fun e G=>sK S w g6 n i j a y c g b e G) (by kernel_rfl) ⟨_,_,g7⟩,g8⟩
end
end Go.Proofs.YtbnbkjbfpamijaaGreat
