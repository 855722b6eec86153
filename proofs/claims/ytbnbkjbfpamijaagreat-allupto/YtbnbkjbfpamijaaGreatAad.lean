import Derived.Test.YtbnbkjbfpamijaaGreatAab
import Derived.Test.YtbnbkjbfpamijaaGreatAac
set_option linter.all false
set_option maxRecDepth 100000
set_option maxHeartbeats 0
namespace Go.Proofs.YtbnbkjbfpamijaaGreat
open Go.RowKit Go.Proofs.Panes
variable{U:Nat→Prop}{w:World}{n:Nat}{u:gv}{pv v:Value}
def za0 (a:gv)(b:Value):Array Value:=#[.int .i64 a.x,.int .i64 a.y,.int .i64 a.w,.int .i64 a.h,b,.int .i64 a.dx,.int .i64 a.dy,.int .i64 a.left]
abbrev yL (a:World)(b:Nat)(c:gv)(d:Value):Prop:=a.heap[b]?=some (.cells (za0 c d) 236 (0,0))
def ZO (a:World)(b c:Nat):(a.drewN b).drewN c=a.drewN (b+c):=by simp[World.drewN,Nat.add_assoc]
def za2 (d:yL w n u v)(F:xq u)(l:gS U w v u.px)(a b:Int)(m:0<=a/\a<=1000)(o:0<=b/\b<=1000):Calls Tryz.prog 119 #[.pointer (some ⟨n,0,none⟩),.int .i64 a,.int .i64 b] w fun g p=>g=.returned (.int .i64 (zC u a b))/\∃ G,p=w.drewN G:=by
 obtain⟨q,h,h0,h8,r,s,t⟩:=F;have J:IntKind.i64.wrap (a-u.x)=a-u.x:=(by rw[af];omega);have K:IntKind.i64.wrap (b-u.y)=b-u.y:=(by rw[af];omega);have L:IntKind.i64.wrap (u.w-1)=u.w-1:=(by rw[af];omega);have M:IntKind.i64.wrap (u.h-1)=u.h-1:=(by rw[af];omega);obtain⟨N,O,c2,P,Q,-⟩:=zzc d;by_cases e:xE u a b=true
 ·have d:=e;unfold xE at d;simp only[aK,be] at d;obtain⟨⟨⟨A,B⟩,C⟩,D⟩:=d;obtain⟨m1,m2,m3,m4⟩:=sS B D A C h8 h;obtain⟨c,E⟩:∃ c:Nat,(b-u.y)*u.w+(a-u.x)=c:=⟨((b-u.y)*u.w+(a-u.x)).toNat,by omega⟩;have R:IntKind.i64.wrap ((b-u.y)*u.w)=(b-u.y)*u.w:=(by rw[af];omega);have S:IntKind.i64.wrap ((b-u.y)*u.w+(a-u.x))=(c:Int):=(by rw[af];omega);have i:c<u.px.length:=(by omega);obtain⟨j,x⟩:∃ j,u.px[c]?=some j:=⟨u.px[c],by simp[i]⟩;have f:zC u a b=j:=(by unfold zC;rw[an e,E,bF,bW,x];rfl);rw[f];obtain⟨T,V,rfl,h1,h2,h3⟩:=l;obtain⟨W,X,rfl,_,_,qF⟩:=h3 (by intro g;rw[g] at i;simp at i);have Y:=qF c j x;have Z:(0:Int)<=(c:Int):=(by omega);have a0:(c:Int)<(u.px.length:Int):=(by omega);have k:(decide (0<=a-u.x)&&decide (a-u.x<=u.w-1))=true:=(by simp;omega);have y:(decide (0<=b-u.y)&&decide (b-u.y<=u.h-1))=true:=(by simp;omega);clear e A B C D m1 m2 m3 m4 E i x f h1 h2 h3 qF s t q h h0 h8 r d m o;go_enter Tryz.func119,Tryz.ntmps119;go_wp2;go_quiet (fail);go_wp2_with (go_at_call 72;refine (zk _ _ _ _).mono ?_;rintro g p ⟨rfl,rfl⟩;first | rw[k] | rw[y]);go_quiet (fail);go_wp2;go_ret;exact⟨rfl,⟨_,ZO _ _ _⟩⟩
 ·have f:zC u a b=0:=(by unfold zC;rw[ah e]);rw[f];have H:¬(0<=a-u.x/\a-u.x<=u.w-1)\/((0<=a-u.x/\a-u.x<=u.w-1)/\¬(0<=b-u.y/\b-u.y<=u.h-1)):=(by unfold xE at e;simp only[aK,be] at e;omega);rcases H with z | ⟨z,I⟩
  focus
   have k:(decide (0<=a-u.x)&&decide (a-u.x<=u.w-1))=false:=(by simp only[dV,cg];omega);clear z e f q h h0 h8 r d l m o s t
  rotate_left
  focus
   have k:(decide (0<=a-u.x)&&decide (a-u.x<=u.w-1))=true:=(by simp;omega);have y:(decide (0<=b-u.y)&&decide (b-u.y<=u.h-1))=false:=(by simp only[dV,cg];omega);clear z I e f q h h0 h8 r d l m o s t
  rotate_left
  all_goals
   go_enter Tryz.func119,Tryz.ntmps119;go_wp2;go_quiet (fail);go_wp2_with (go_at_call 72;refine (zk _ _ _ _).mono ?_;rintro g p ⟨rfl,rfl⟩;first | rw[k] | rw[y]);go_ret;exact⟨rfl,⟨_,rfl⟩⟩
def Xy {s:gv}(a:yL w n s pv)(b c:Int):Calls Tryz.prog 133 #[.pointer (some ⟨n,0,none⟩),.agg #[.int .i64 b,.int .i64 c]] w fun f e=>f=.returned (.bool (!(s.x == b&&s.y == c)))/\yL e n {s with x:=b,y:=c} pv/\gp (fun d=>d=n) w e:=by
 obtain⟨j,k,-⟩:=zzc a;have l:=fun g=>qj a g;have m:=qh a;have h:=qg a;clear a;go_enter Tryz.func133,Tryz.ntmps133;go_wp2;all_goals go_ret;all_goals
  refine⟨by simp_all,?_,?_⟩
  ·have h1:=qp (i:=0) (qb h) (.int .i64 b);have h2:=qp (i:=1) h1 (.int .i64 c);exact qx (qx h2 _) _
  ·exact ((((gp.refl (fun d=>d=n) w).setCell (p:=⟨n,0,none⟩) (.inl rfl) _).setCell (p:=⟨n,1,none⟩) (.inl rfl) _).alloc _).alloc _
variable{S:Nat→Prop}{w2:World}{i j:Nat}{vf z:Value}{a0:List Ke}
def ox:Rc:=⟨0,0,0,0⟩
def yQ (a:Rc):Value:=.agg #[.int .i64 a.x,.int .i64 a.y,.int .i64 a.w,.int .i64 a.h]
structure sZ (w:World)(sb mb:Nat)(ov bv:Value)(L:List Ke)(clock:Nat):Prop where
 nS:w.heap[sb]?=some (.cells #[.map (some mb),ov,bv] 176 (0,0))
 map:w.heap[mb]?=some (.map (L.map ke).toArray clock)
def sZ.but (a:sZ w n i v z a0 j)(b:gp S w w2)(c:¬S n)(d:¬S i):sZ w2 n i v z a0 j:=
 ⟨b.heap a.nS c,b.heap a.map d⟩
def YL (e:sZ w n i z vf a0 j)(a b:Int)(l:Rc)(y:(ru a b a0=.pointer none/\l=ox)\/∃ g c r,ru a b a0=.pointer (some ⟨g,0,none⟩)/\yL w g c r/\l=⟨c.x,c.y,c.w,c.h⟩):Calls Tryz.prog 130 #[.pointer (some ⟨n,0,none⟩),zZ a b] w fun A B=>A=.returned (yQ l)/\Below w.heap.size w B:=by
 obtain⟨H,-⟩:=zzc e.nS;have I:=qh e.nS;have m:∀ h,(Instr.lookup 174 (.map (some i)) (.agg #[.int .i64 a,.int .i64 b]) false).run Tryz.prog ((((w.alloc (.cells #[.int .i64 a,.int .i64 b] 173)).alloc (.cells #[.int .i64 0,.int .i64 0,.int .i64 0,.int .i64 0] 46))).drewN h)=.ok (ru a b a0) ((((w.alloc (.cells #[.int .i64 a,.int .i64 b] 173)).alloc (.cells #[.int .i64 0,.int .i64 0,.int .i64 0,.int .i64 0] 46))).drewN h):=
  fun h=>zn (w:=World.drewN _ h) (qx (qx e.map _) _) a b
 unfold zZ;rcases y with ⟨f,rfl⟩ | ⟨g,c,r,f,o,rfl⟩
 ·rw[f] at m;clear e f;go_enter Tryz.func130,Tryz.ntmps130;go_wp2;go_quiet (fail);go_wp2;refine bV (v:=yQ ox) (by simp[results,Tryz.results130,go_sem,yQ,ox]) rfl ⟨rfl,?_⟩;have d:=ax (((aa _ w).alloc (zzl _) (.cells #[.int .i64 a,.int .i64 b] 173)).alloc (by simp) (.cells #[.int .i64 0,.int .i64 0,.int .i64 0,.int .i64 0] 46)) nq;exact (((d.setCell (p:=⟨w.heap.size+1,0,none⟩) (cm _) _).setCell (p:=⟨w.heap.size+1,1,none⟩) (cm _) _).setCell (p:=⟨w.heap.size+1,2,none⟩) (cm _) _).setCell (p:=⟨w.heap.size+1,3,none⟩) (cm _) _
 ·rw[f] at m;obtain⟨s,t,u,x,-⟩:=zzc o;have k:=qh o;clear e f o;go_enter Tryz.func130,Tryz.ntmps130;go_wp2;go_quiet (fail);go_wp2;have d:=ax (((aa _ w).alloc (zzl _) (.cells #[.int .i64 a,.int .i64 b] 173)).alloc (by simp) (.cells #[.int .i64 0,.int .i64 0,.int .i64 0,.int .i64 0] 46)) nq;have q:(((w.alloc (.cells #[.int .i64 a,.int .i64 b] 173)).alloc (.cells #[.int .i64 0,.int .i64 0,.int .i64 0,.int .i64 0] 46)).drewN nq).heap[w.heap.size+1]?=some (.cells #[.int .i64 0,.int .i64 0,.int .i64 0,.int .i64 0] 46):=qt _ _ _ (by simp);have s:=(d.cell k).trans s;have t:=(d.cell k).trans t;have u:=(d.cell k).trans u;have x:=(d.cell k).trans x;generalize ((w.alloc (.cells #[.int .i64 a,.int .i64 b] 173)).alloc (.cells #[.int .i64 0,.int .i64 0,.int .i64 0,.int .i64 0] 46)).drewN nq=J at *;obtain⟨C,D,E,F,-⟩:=zzc q;have K:=qj q;have L:g≠w.heap.size+1:=(by omega);have G:=qg d;clear d q m;go_region;go_wp2;refine bV (v:=yQ ⟨c.x,c.y,c.w,c.h⟩) (by simp[results,Tryz.results130,go_sem,yQ,C,D,E,F]) rfl ⟨rfl,?_⟩;exact (((((qb G).setCell (p:=⟨w.heap.size+1,0,none⟩) (cm _) _).setCell (p:=⟨w.heap.size+1,1,none⟩) (cm _) _).setCell (p:=⟨w.heap.size+1,2,none⟩) (cm _) _).setCell (p:=⟨w.heap.size+1,3,none⟩) (cm _) _).drew
variable{B' q:Int}{V:Nat→Prop}
def qw (a:gv):Int×Int:=(a.cl,a.num)
def kk (a:Ke):Int×Int:=(a.c,a.n)
def jW (l:List gv)(b c:Int):Rc:=
 match l.find? (fun a=>a.cl == b&&a.num == c) with
 | none=>ox
 | some a=>⟨a.x,a.y,a.w,a.h⟩
def JJ {a b:Int}:∀ (L:List Ke)(c:Nat),(a,b)∉L.map kk->vz a b L c=none
 | [],_,_=>rfl
 | d::L,c,e=>by
  simp only[aY,bf,not_or] at e;have:(a == d.c&&b == d.n)=false:=by
   have g:=e.1;simp only[kk,bP,not_and] at g;by_cases f:a=d.c
   ·simp[f,g f]
   ·simp[f]
  simp only[vz,this];exact JJ L (c+1) e.2
def Yz:∀ (L:List Ke)(c:Nat),(L.map kk).Nodup->∀ (d:Nat)(a:Ke),L[d]?=some a->vz a.c a.n L c=some (c+d,a.v)
 | [],_,_,d,a,b=>by simp at b
 | e::L,c,f,0,a,b=>by simp at b;subst b;simp[vz]
 | e::L,c,f,d+1,a,b=>by
  rw[aY,dS] at f;have i:=zzn (by simpa using b);have:(a.c == e.c&&a.n == e.n)=false:=by
   by_cases g:a.c=e.c
   ·by_cases h:a.n=e.n
    ·exact absurd (aC.2 ⟨a,i,by simp[kk,g,h]⟩) f.1
    ·simp[h]
   ·simp[g]
  simp only[vz,this];rw[ah (by simp),Yz L (c+1) f.2 d a (by simpa using b)];congr 2;omega
structure gX (C U:Nat->Prop)(w:World)(sb:Nat)(beh:Int)(l:List gv)(mb:Nat)(ov:Value)(L:List Ke)(clock:Nat)(bk:Int->Int->Nat)(pv:Int->Int->Value):Prop where
 tP:sZ w sb mb ov (.int .i64 beh) L clock
 uz:C sb
 uK:C mb
 tO:∀ k,ov.ownBlock=some k->C k
 row:qN w 0 173 ov (l.map fun s=>k2 (qw s))
 iV:∀ s∈l,yL w (bk s.cl s.num) s (pv s.cl s.num)/\C (bk s.cl s.num)/\gS U w (pv s.cl s.num) s.px
 inj:∀ s∈l,∀ t∈l,bk s.cl s.num=bk t.cl t.num->qw s=qw t
 nd:(l.map qw).Nodup
 uk:∀ e∈L,(e.c,e.n)∈l.map qw/\e.v=.pointer (some ⟨bk e.c e.n,0,none⟩)
 rev:∀ s∈l,(s.cl,s.num)∈L.map kk
 uU:(L.map kk).Nodup
section
variable {C U:Nat->Prop}{w:World}{sb:Nat}{beh:Int}{l:List gv}{mb:Nat}{ov:Value}{L:List Ke}{clock:Nat}{bk:Int->Int->Nat}{pv:Int->Int->Value}
def gX.some (d:gX C U w sb beh l mb ov L clock bk pv){a:gv}(i:a∈l):∃ b,vz a.cl a.num L 0=Option.some (b,.pointer (Option.some ⟨bk a.cl a.num,0,none⟩))/\∃ e,L[b]?=Option.some e/\kk e=qw a:=by
 obtain⟨e,f,c⟩:=aC.1 (d.rev a i);obtain⟨b,j,rfl⟩:=di.1 f;have g:L[b]?=Option.some L[b]:=(by simp[j]);have:=Yz L 0 d.uU b _ g;have h:=(d.uk _ f).2;simp only[kk,bP] at c;rw[c.1,c.2,bA] at this;rw[c.1,c.2] at h;exact⟨b,by rw[this,h],_,g,by simp[kk,qw,c]⟩
def gX.none (b:gX C U w sb beh l mb ov L clock bk pv)(c:(q,B')∉l.map qw):vz q B' L 0=Option.none:=by
 refine JJ L 0 (fun d=>?_);obtain⟨e,f,a⟩:=aC.1 d;have:=(b.uk e f).1;simp only[kk,bP] at a;rw[a.1,a.2] at this;exact c this
def gX.tS (a:gX C U w sb beh l mb ov L clock bk pv)(b:u∈l):ru u.cl u.num L=.pointer (Option.some ⟨bk u.cl u.num,0,Option.none⟩):=by
 obtain⟨d,c,_⟩:=a.some b;simp[ru,c]
def gX.uR (a:gX C U w sb beh l mb ov L clock bk pv)(b:(q,B')∉l.map qw):ru q B' L=.pointer Option.none:=by simp[ru,a.none b]
def gX.but {S:Nat->Prop}{g:World}(a:gX C U w sb beh l mb ov L clock bk pv)(c:gp S w g)(d:∀ b,C b->¬S b)(h:∀ b,U b->¬S b):gX C U g sb beh l mb ov L clock bk pv where
 tP:=a.tP.but c (d _ a.uz) (d _ a.uK)
 uz:=a.uz
 uK:=a.uK
 tO:=a.tO
 row:=qi a.row c (fun b i=>d b (a.tO b i))
 iV:=fun e f=>⟨c.heap (a.iV e f).1 (d _ (a.iV e f).2.1),(a.iV e f).2.1,(a.iV e f).2.2.but c h⟩
 inj:=a.inj
 nd:=a.nd
 uk:=a.uk
 rev:=a.rev
 uU:=a.uU
def gX.mono (a:gX C U w sb beh l mb ov L clock bk pv)(c:∀ b,C b->S b)(h:∀ b,U b->V b):gX S V w sb beh l mb ov L clock bk pv where
 tP:=a.tP
 uz:=c _ a.uz
 uK:=c _ a.uK
 tO:=fun b i=>c b (a.tO b i)
 row:=a.row
 iV:=fun d e=>⟨(a.iV d e).1,c _ (a.iV d e).2.1,by
  obtain⟨j,k,f,m,n,o⟩:=(a.iV d e).2.2;refine⟨j,k,f,m,n,fun p=>?_⟩;obtain⟨g,q,f,r,s⟩:=o p;exact⟨g,q,f,h g r,s⟩⟩
 inj:=a.inj
 nd:=a.nd
 uk:=a.uk
 rev:=a.rev
 uU:=a.uU
def gX.below (a:gX C U w sb beh l mb ov L clock bk pv)(b:Below w.heap.size w w2):gX C U w2 sb beh l mb ov L clock bk pv:=a.but (S:=fun _=>False) (.aD b) (fun _ _ a=>a) (fun _ _ a=>a)
def kx {l:List gv}(b:u∈l)(c:(l.map qw).Nodup):l.find? (fun a=>a.cl == u.cl&&a.num == u.num)=Option.some u:=by
 induction l with
 | nil=>simp at b
 | cons a l f=>
  rw[aY,dS] at c;rcases bf.1 b with rfl | b
  ·simp
  ·have g:(a.cl == u.cl&&a.num == u.num)=false:=by
    by_cases d:a.cl=u.cl
    ·by_cases e:a.num=u.num
     ·exact absurd (aC.2 ⟨u,b,by simp[qw,d,e]⟩) c.1
     ·simp[e]
    ·simp[d]
   simp only[List.find?_cons,g];exact f b c.2
def qu1 {l:List gv}(c:(q,B')∉l.map qw):l.find? (fun a=>a.cl == q&&a.num == B')=Option.none:=by
 simp only[eX];intro a d b;simp at b;exact c (aC.2 ⟨a,d,by simp[qw,b]⟩)
def Q4 {l:List gv}(a:u∈l)(b:(l.map qw).Nodup):jW l u.cl u.num=⟨u.x,u.y,u.w,u.h⟩:=by unfold jW;rw[kx a b]
def YM {l:List gv}(a:(q,B')∉l.map qw):jW l q B'=ox:=by unfold jW;rw[qu1 a]
def gX.covered (a:gX C U w sb beh l mb ov L clock bk pv)(b c:Int):Calls Tryz.prog 130 #[.pointer (Option.some ⟨sb,0,Option.none⟩),zZ b c] w fun h i=>h=.returned (yQ (jW l b c))/\Below w.heap.size w i:=by
 refine YL a.tP b c _ ?_;by_cases d:(b,c)∈l.map qw
 ·obtain⟨f,e,g⟩:=aC.1 d;simp only[qw,bP] at g;obtain⟨rfl,rfl⟩:=g;exact .inr ⟨_,f,_,a.tS e,(a.iV f e).1,Q4 e a.nd⟩
 ·exact .inl ⟨a.uR d,YM d⟩
end
variable{s':gv}{l':List gv}
def grow (C:Nat->Prop)(w b:World):Nat->Prop:=fun a=>C a\/(w.heap.size<=a/\a<b.heap.size)
def xn {C:Nat->Prop}{w:World}:∀ a,C a->grow C w w2 a:=fun _ b=>.inl b
def gN (b c:Int)(a:gv):Bool:=a.cl == b&&a.num == c
def ju:gN q B' u=true↔qw u=(q,B'):=by simp[gN,qw]
def yT (l:List gv)(a b:Int):List gv:=l.filter fun c=>!gN a b c
def xr (l:List gv)(a:gv):List gv:=l.map fun b=>if qw b=qw a then a else b
def jB (l:List gv)(a:gv):(xr l a).map qw=l.map qw:=by
 unfold xr;rw[cB];refine bN fun c _=>?_;simp only[Function.comp];split
 ·rename_i b;exact b.symm
 ·rfl
def QI {l:List gv}(b:s'∈xr l u):s'=u\/(s'∈l/\qw s'≠qw u):=by
 obtain⟨e,c,a⟩:=aC.1 b;split at a
 ·exact .inl a.symm
 ·rename_i d;subst a;exact .inr ⟨c,d⟩
def Q0 {l:List gv}:u∈yT l q B'↔u∈l/\qw u≠(q,B'):=by
 unfold yT;rw[cS];constructor
 ·rintro⟨b,a⟩;exact⟨b,fun c=>by rw[ju.2 c] at a;simp at a⟩
 ·rintro⟨b,a⟩;exact⟨b,by cases d:gN q B' u;rfl;exact absurd (ju.1 d) a⟩
def yk (l:List gv)(a b:Int):(yT l a b).map qw=(l.map qw).filter fun c=>!(c == (a,b)):=by
 unfold yT;rw[List.filter_map];refine congrArg (List.map qw) (fV fun d _=>?_);rw[cC];by_cases e:d.cl=a<;>simp[gN,qw,e]
def zd0 {l:List gv}(a:(l.map qw).Nodup)(b c:Int):((yT l b c).map qw).Nodup:=by
 rw[yk];exact a.sublist eQ
section
variable {C U:Nat->Prop}{w:World}{sb:Nat}{beh:Int}{l:List gv}{mb:Nat}{ov:Value}{L:List Ke}{clock:Nat}{bk:Int->Int->Nat}{pv:Int->Int->Value}
def gX.uG (a:gX C U w sb beh l mb ov L clock bk pv)(c:u∈l):bk u.cl u.num≠sb:=by
 intro d;have b:=(a.iV u c).1;rw[yL,d,a.tP.nS] at b;simp at b
def gX.vg (a:gX C U w sb beh l mb ov L clock bk pv)(c:u∈l):bk u.cl u.num≠mb:=by
 intro d;have b:=(a.iV u c).1;rw[yL,d,a.tP.map] at b;simp at b
def gX.uQ (a:gX C U w sb beh l mb ov L clock bk pv)(b:u∈l):ov.ownBlock≠Option.some (bk u.cl u.num):=qq a.row (a.iV u b).1 (by decide)
def gX.uW (a:gX C U w sb beh l mb ov L clock bk pv):sb≠mb:=by
 intro c;have b:=a.tP.nS;rw[c,a.tP.map] at b;simp at b
def gX.uA (a:gX C U w sb beh l mb ov L clock bk pv):ov.ownBlock≠Option.some sb:=qq a.row a.tP.nS (by decide)
def gX.uC (a:gX C U w sb beh l mb ov L clock bk pv):ov.ownBlock≠Option.some mb:=by
 intro c;obtain⟨d,e,b⟩:=qE a.row c;rw[a.tP.map] at b;simp at b
def gX.upd (b:gX C U w sb beh l mb ov L clock bk pv)(D:∀ d,C d->¬U d)(e:s'∈l)(f:qw u=qw s')(i:gp (fun d=>d=bk s'.cl s'.num) w w2)(E:yL w2 (bk s'.cl s'.num) u v)(F:gS U w2 v u.px):gX C U w2 sb beh (xr l u) mb ov L clock bk (fun q r=>if (q,r)=qw s' then v else pv q r) where
 tP:=b.tP.but i (fun a=>b.uG e a.symm) (fun a=>b.vg e a.symm)
 uz:=b.uz
 uK:=b.uK
 tO:=b.tO
 row:=by
  have a:(xr l u).map (fun s'=>k2 (qw s'))=l.map (fun s'=>k2 (qw s')):=(by have:=congrArg (List.map k2) (jB l u);simpa[cB,Function.comp_def] using this);rw[a];exact qi b.row i (fun d f a=>b.uQ e (by rw[f,a]))
 iV:=by
  intro c g;rcases QI g with rfl | ⟨g,G⟩
  ·have H:c.cl=s'.cl:=(by have:=f;simp[qw] at this;exact this.1);have I:c.num=s'.num:=(by have:=f;simp[qw] at this;exact this.2);rw[H,I,an (show (s'.cl,s'.num)=qw s' from rfl)];exact⟨E,(b.iV s' e).2.1,F⟩
  ·have s:¬(c.cl,c.num)=qw s':=fun a=>G (by rw[f,<-a];rfl);rw[ah s];have ⟨J,K,M⟩:=b.iV c g;refine⟨i.heap J (fun a=>s (b.inj c g s' e a)),K,M.but i (fun d N a=>D d (by rw[a];exact (b.iV s' e).2.1) N)⟩
 inj:=by
  intro j O k P a;have t:∀ m∈xr l u,∃ h∈l,qw h=qw m:=by
   intro m n;rcases QI n with rfl | ⟨n,_⟩
   ·exact⟨s',e,f.symm⟩
   ·exact⟨m,n,rfl⟩
  obtain⟨o,Q,x⟩:=t j O;obtain⟨p,R,y⟩:=t k P;have z:o.cl=j.cl/\o.num=j.num:=(by simpa[qw] using x);have A:p.cl=k.cl/\p.num=k.num:=(by simpa[qw] using y);rw[<-x,<-y];refine b.inj o Q p R ?_;rw[z.1,z.2,A.1,A.2];exact a
 nd:=by rw[jB];exact b.nd
 uk:=by intro a S;rw[jB];exact b.uk a S
 rev:=by
  intro c g;have:qw c∈(xr l u).map qw:=aC.2 ⟨c,g,rfl⟩;rw[jB] at this;obtain⟨h,T,a⟩:=aC.1 this;have:=b.rev h T;have B:h.cl=c.cl/\h.num=c.num:=(by simpa[qw] using a);rw[B.1,B.2] at this;exact this
 uU:=b.uU
def gX.order (a:gX C U w sb beh l mb ov L clock bk pv)(f:l'.Perm l)(g:∀ b,C b->S b)(h:gp V w w2)(i:∀ b,V b->b=sb\/ov.ownBlock=Option.some b)(m:∀ b,C b->¬U b)(p:w2.heap[sb]?=Option.some (.cells #[.map (Option.some mb),v,.int .i64 beh] 176 (0,0))) (q:qN w2 0 173 v (l'.map fun d=>k2 (qw d))) (r:∀ b,v.ownBlock=Option.some b->S b):gX S U w2 sb beh l' mb v L clock bk pv where
 tP:=⟨p,h.heap a.tP.map (fun e=>by rcases i _ e with c | c;exact a.uW c.symm;exact a.uC c)⟩
 uz:=g _ a.uz
 uK:=g _ a.uK
 tO:=r
 row:=q
 iV:=fun d e=>by
  have j:=f.mem_iff.1 e;have ⟨s,t,u⟩:=a.iV d j;refine⟨h.heap s (fun k=>by rcases i _ k with c | c;exact a.uG j c;exact a.uQ j c),g _ t,u.but h (fun b n k=>?_)⟩;rcases i _ k with c | c
  ·exact m b (by rw[c];exact a.uz) n
  ·exact m b (a.tO b c) n
 inj:=fun d e x y c=>a.inj d (f.mem_iff.1 e) x (f.mem_iff.1 y) c
 nd:=(f.map qw).nodup_iff.2 a.nd
 uk:=fun c o=>⟨(f.map qw).mem_iff.2 (a.uk c o).1,(a.uk c o).2⟩
 rev:=fun d e=>a.rev d (f.mem_iff.1 e)
 uU:=a.uU
def gX.more (e:gX C U w sb beh l mb ov L clock bk pv)(f:qw u∉l.map qw){nb:Nat}(q:∀ d,C d->S d)(E:S nb)(Z:w.heap.size<=nb)(y:gp V w w2)(A:∀ d,V d->d=sb\/d=mb\/ov.ownBlock=Option.some d)(r:∀ d,C d->¬U d)(F:w2.heap[sb]?=Option.some (.cells #[.map (Option.some mb),z,.int .i64 beh] 176 (0,0))) (G:w2.heap[mb]?=Option.some (.map ((L++[Ke.mk u.cl u.num (.pointer (Option.some ⟨nb,0,Option.none⟩)) clock]).map ke).toArray (clock+1)))(H:qN w2 0 173 z ((l++[u]).map fun a=>k2 (qw a))) (I:∀ d,z.ownBlock=Option.some d->S d) (J:yL w2 nb u v) (K:gS U w2 v u.px):gX S U w2 sb beh (l++[u]) mb z (L++[Ke.mk u.cl u.num (.pointer (Option.some ⟨nb,0,Option.none⟩)) clock]) (clock+1) (fun i j=>if (i,j)=qw u then nb else bk i j) (fun i j=>if (i,j)=qw u then v else pv i j):=by
 have g:∀ a∈l,¬(a.cl,a.num)=qw u:=fun a c b=>f (aC.2 ⟨a,c,b⟩);have B:=fun a c=>qh (e.iV a c).1;have n:(u.cl,u.num)=qw u:=rfl;have o:∀ a,a∈l++[u]↔a∈l\/a=u:=fun a=>by simp
 refine⟨⟨F,G⟩,q _ e.uz,q _ e.uK,I,H,?_,?_,?_,?_,?_,?_⟩
 ·intro a c;rcases (o a).1 c with c | rfl
  ·rw[ah (g a c),ah (g a c)];have ⟨M,N,O⟩:=e.iV a c;refine⟨y.heap M (fun s=>?_),q _ N,O.but y (fun d f s=>?_)⟩
   ·rcases A _ s with b | b | b
    ·exact e.uG c b
    ·exact e.vg c b
    ·exact e.uQ c b
   ·rcases A _ s with b | b | b
    ·exact r d (by rw[b];exact e.uz) f
    ·exact r d (by rw[b];exact e.uK) f
    ·exact r d (e.tO d b) f
  ·rw[an n,an n];exact⟨J,E,K⟩
 ·intro a P k Q;rcases (o a).1 P with c | rfl<;>rcases (o k).1 Q with p | rfl
  ·rw[ah (g a c),ah (g k p)];exact e.inj a c k p
  ·rw[ah (g a c),an n];intro b;have:=B a c;omega
  ·rw[ah (g k p),an n];intro b;have:=B k p;omega
  ·intro _;rfl
 ·rw[aE,cO];refine⟨e.nd,by simp,?_⟩;intro R t T m b;simp at m;subst m b;exact f t
 ·intro b h;rcases al.1 h with h | h
  ·obtain⟨D,W⟩:=e.uk b h;refine⟨by rw[aE];exact List.mem_append_left _ D,?_⟩;rw[ah (fun X:(b.c,b.n)=qw u=>f (by rw[<-X];exact D))];exact W
  ·simp at h;subst h;refine⟨by simp[qw],?_⟩;simp[qw]
 ·intro a c;rw[aE];rcases (o a).1 c with c | rfl
  ·exact List.mem_append_left _ (e.rev a c)
  ·exact List.mem_append_right _ (by simp[kk])
 ·rw[aE,cO];refine⟨e.uU,by simp,?_⟩;intro R t T m b;simp[kk] at m;subst m b;obtain⟨x,Y,b⟩:=aC.1 t;have:=(e.uk x Y).1;rw[show (x.c,x.n)=(u.cl,u.num) from b] at this;exact f this
def gX.less (c:gX C U w sb beh l mb ov L clock bk pv){x:Ke}(y:L[n]?=Option.some x)(z:kk x=(q,B'))(m:∀ b,C b->S b)(A:gp V w w2)(B:∀ b,V b->b=sb\/b=mb\/ov.ownBlock=Option.some b)(o:∀ b,C b->¬U b)(H:w2.heap[sb]?=Option.some (.cells #[.map (Option.some mb),v,.int .i64 beh] 176 (0,0))) (I:w2.heap[mb]?=Option.some (.map ((L.eraseIdx n).map ke).toArray clock))(J:qN w2 0 173 v ((yT l q B').map fun f=>k2 (qw f))) (K:∀ b,v.ownBlock=Option.some b->S b):gX S U w2 sb beh (yT l q B') mb v (L.eraseIdx n) clock bk pv:=by
 have D:∀ a,a∈L.eraseIdx n↔a∈L/\kk a≠(q,B'):=by
  intro a;rw[List.mem_eraseIdx_iff_getElem?];have E:∀ j h:Nat,j<h->h<(L.map kk).length->(L.map kk)[j]?≠(L.map kk)[h]?:=fun j h M F a=>by
   have:=cH.1 c.uU j h (by omega) F M;rw[aB (by omega),aB F] at a;exact this (aA a)
  constructor
  ·rintro⟨i,g,e⟩;refine⟨zzn e,fun p=>?_⟩;have r:(L.map kk)[i]?=Option.some (q,B'):=(by rw[aF,e];simp[p]);have k2:(L.map kk)[n]?=Option.some (q,B'):=(by rw[aF,y];simp[z]);have N:=(zzg k2).1;have O:=(zzg r).1;rcases Nat.lt_or_gt_of_ne g with P | Q
   ·exact E i n P N (by rw[r,k2])
   ·exact E n i Q O (by rw[r,k2])
  ·rintro⟨e,p⟩;obtain⟨i,g⟩:=fB.1 e;refine⟨i,fun R=>p ?_,g⟩;subst R;rw[y] at g;simp only[ac] at g;rw[<-g,z]
 refine⟨⟨H,I⟩,m _ c.uz,m _ c.uK,K,J,?_,?_,zd0 c.nd q B',?_,?_,?_⟩
 ·intro f d;have d:=(Q0.1 d).1;have ⟨T,W,X⟩:=c.iV f d;refine⟨A.heap T (fun s=>?_),m _ W,X.but A (fun b t s=>?_)⟩
  ·rcases B _ s with a | a | a
   ·exact c.uG d a
   ·exact c.vg d a
   ·exact c.uQ d a
  ·rcases B _ s with a | a | a
   ·exact o b (by rw[a];exact c.uz) t
   ·exact o b (by rw[a];exact c.uK) t
   ·exact o b (c.tO b a) t
 ·intro f d Y Z;exact c.inj f (Q0.1 d).1 Y (Q0.1 Z).1
 ·intro a e;obtain⟨k,u⟩:=(D a).1 e;refine⟨?_,(c.uk a k).2⟩;rw[yk,cS];refine⟨(c.uk a k).1,?_⟩;have:¬(a.c,a.n)=(q,B'):=u;simp only[bP] at this;simp only[dp,em,ne_eq,bP];exact this
 ·intro f d;obtain⟨k,u⟩:=Q0.1 d;obtain⟨a,e,G⟩:=aC.1 (c.rev f k);refine aC.2 ⟨a,(D a).2 ⟨e,?_⟩,G⟩;rw[G];exact u
 ·rw[Zt];exact c.uU.sublist (List.eraseIdx_sublist _ _)
end
variable{a8:Int→Int→Nat}{a9:Int→Int→Value}{g:Nat}
def vy (a:List gv)(b c:Nat)(d:gv):List gv:=(a.take b++a.drop (b+1)).take c++d::(a.take b++a.drop (b+1)).drop c
def yf (a:l'[n]?=some u):(vy l' n i u).Perm l':=by
 have f:=(zzg a).1;have c:=(zzg a).2;have d:l'.take n++u::l'.drop (n+1)=l':=(by rw[<-c,bo,ap]);have e:(vy l' n i u).Perm (u::(l'.take n++l'.drop (n+1))):=by
  unfold vy
  conv=>rhs;rw[<-ap i (l'.take n++l'.drop (n+1))]
  exact List.perm_middle
 have b:(u::(l'.take n++l'.drop (n+1))).Perm (l'.take n++u::l'.drop (n+1)):=List.perm_middle.symm;rw[d] at b;exact e.trans b
def qe3 (k:gX U V w n q l' i v a0 j a8 a9)(d9:∀ b,U b->¬V b)(M:l'[g]?=some u)(o:Nat)(e0:o<l'.length)(e1:l'.length<=1000):Calls Tryz.prog 134 #[.pointer (some ⟨n,0,none⟩),zZ u.cl u.num,.int .i64 (o:Int)] w fun c f=>c=.returned (.bool (!((g:Int) == (o:Int))))/\gX U V f n q (vy l' g o u) i v a0 j a8 a9/\gp U w f:=by
 have e2:=(zzg M).1;have r:=k.row;obtain⟨a,e,rfl⟩:=jH r (by simp;omega);obtain⟨m,C⟩:=zx (l'.map qw);have a1:(l'.map fun u=>k2 (qw u))=m.map k2:=(by rw[C,cB];rfl);obtain⟨d,N⟩:=zx l'.length;have a2:m.length=d:=(by rw[C,N];simp);have y:(m.map k2).length=d:=(by simp[a2]);rw[a1] at r;have O:m[g]?=some (u.cl,u.num):=(by rw[C,aF,M];rfl);have b6:∀ l,l<g->m[l]?≠some (u.cl,u.num):=(by intro l e3 c;have b7:=k.nd;rw[<-C] at b7;have:=cH.1 b7 l g (by omega) (by omega) e3;rw[aB (by omega)] at c O;exact this ((aA c).trans (aA O).symm));have b8:(List.map (fun u=>k2 (qw u)) l').length=d:=(by simp[N]);rw[b8] at k ⊢;have r:qN w 0 173 (.slice (some ⟨a,0,none⟩) d e) (m.map k2):=(by rw[qN,y];rw[qN,y] at r;exact r);obtain⟨g1,e4,b9,-,-,g2⟩:=qN.row r;have g3:d<=e:=(by simp at b9;omega);have zE:∀ (l:Nat)(b:Int×Int),m[l]?=some b->w.cell? ⟨a,l*2,none⟩=some (.int .i64 b.1)/\w.cell? ⟨a,l*2+1,none⟩=some (.int .i64 b.2):=fun l b s=>kR r (p:=k2 b) (by rw[aF,s];rfl);have D:=(ab r a rfl).2;have c0:=qh k.tP.nS;have a3:¬a=n:=fun c=>k.uA (by rw[<-c];rfl);obtain⟨a4,P⟩:=zx (w.alloc (.cells #[.int .i64 u.cl,.int .i64 u.num] 173));have a5:Below w.heap.size w a4:=(by rw[P];exact (aa _ w).alloc (zzl _) _);have a6:a4.heap[w.heap.size]?=some (.cells #[.int .i64 u.cl,.int .i64 u.num] 173):=(by rw[P];exact qt _ _ _ rfl);obtain⟨E,c1⟩:=zx (d-1);obtain⟨t,F⟩:=zx ((m.map k2).take g++(m.map k2).drop (g+1));have G:t.length=E:=(by rw[F,ae,ao,aV,y];omega);obtain⟨H,Q⟩:=zx (t.take o++k2 (u.cl,u.num)::t.drop o);have c2:H.length=d:=(by rw[Q,ae,aX,ao,aV,G];omega);have c3:yN t:=by
  intro c4 z;rw[F] at z;rcases al.1 z with z | z
  ·exact Vs m c4 (br z)
  ·exact Vs m c4 (bm z)
 have c5:H=(vy l' g o u).map fun u=>k2 (qw u):=(by rw[Q,F,<-a1];unfold vy;simp only[aE,aY,dg,ds];rfl);have e5:Hid (∀ h,Below w.heap.size w h->h.heap[w.heap.size]?=some (.cells #[.int .i64 u.cl,.int .i64 u.num] 173)->Calls Tryz.prog 155 #[.slice (some ⟨a,0,none⟩) d e,.int .i64 (g:Int),.int .i64 (IntKind.i64.wrap ((g:Int)+1))] h fun c f=>c=.returned (.slice (some ⟨a,0,none⟩) E e)/\qN f 0 173 (.slice (some ⟨a,0,none⟩) E e) t/\gp (fun b=>b=a) w f/\f.heap[w.heap.size]?=some (.cells #[.int .i64 u.cl,.int .i64 u.num] 173)/\∀ R a7,h.heap[R]?=some a7->R≠a->f.heap[R]?=some a7):=fun h A e6=>by
  have I:=qi r (S:=fun _=>False) (.aD A) (fun _ _ k=>k);rw[<-y] at I;have:=Yu (w:=h) (l:=m.map k2) (g:=a) (cap:=e) (base:=0) I (Vs m) g (g+1) (by omega) (by omega) (by omega) t F;rw[y,G] at this;rw[show IntKind.i64.wrap ((g:Int)+1)=((g+1:Nat):Int) by rw[af];omega];refine this.mono ?_;rintro c f ⟨h1,h2,h3⟩;exact⟨h1,h2,(gp.aD A).trans h3,h3.heap e6 (by omega),fun R a7 e7 b0=>h3.heap e7 b0⟩
 have e8:Hid (∀ h J,qN h 0 173 (.slice (some ⟨a,0,none⟩) E e) t->h.heap[J]?=some (.cells #[.int .i64 u.cl,.int .i64 u.num] 173)->J≠a->Calls Tryz.prog 154 #[.slice (some ⟨a,0,none⟩) E e,.int .i64 (o:Int),.slice (some ⟨J,0,none⟩) 1 1] h fun c f=>c=.returned (.slice (some ⟨a,0,none⟩) d e)/\qN f 0 173 (.slice (some ⟨a,0,none⟩) d e) H/\gp (fun b=>b=a) h f):=fun h J I e9 b0=>by
  rw[<-G] at I;have:=Yt (w:=h) (l:=t) (p:=k2 (u.cl,u.num)) (g:=a) (cap:=e) (base:=0) (vb:=J) I c3 ⟨rfl,rfl⟩ e9 b0 o (by omega) (by omega) (by omega) H Q;rw[G,c2] at this;exact this
 have f0:Hid (∀ h,Below w.heap.size w h->Calls Tryz.prog 153 #[.slice (some ⟨a,0,none⟩) d e,.agg #[.int .i64 u.cl,.int .i64 u.num]] h fun c f=>c=.returned (.int .i64 (g:Int))/\Below h.heap.size h f):=fun h A=>by
  have:=KU (w:=h) (cap:=e) (fun l b s=>⟨(A.cell D).trans (zE l b s).1,(A.cell D).trans (zE l b s).2⟩) (fun _=>zzm D A.size) (by omega) u.cl u.num g O b6;rw[a2] at this;exact this
 have f1:=(a5.cell c0).trans (qe k.tP.nS 1);obtain⟨g4,b1,-⟩:=zzc a6;have T:=qg a5;have c6:=qg a6;have f2:=qg P;have B:=qg k;have f3:=qg M;have g5:=qg N;unfold zZ;have g6:g<d:=(by omega);have g7:o<d:=(by omega);have g8:d<=1000:=(by omega);have g9:=qg c1;have f4:=qg c5;have c7:¬n=w.heap.size:=(by omega);have c8:¬w.heap.size=a:=(by omega);clear c1 F G Q c2 c3 c5;clear a5 a6 P k M N e2 e0 e1 C a1 a2 y O b6 b8 r e4 b9 zE;go_enter Tryz.func134,Tryz.ntmps134;go_wp2;rw[<-qb f2];go_region_held3 (fun f=>f.cell? ⟨n,1,none⟩=some (.slice (some ⟨a,0,none⟩) d e)/\f.cell? ⟨w.heap.size,0,none⟩=some (.int .i64 u.cl)/\f.cell? ⟨w.heap.size,1,none⟩=some (.int .i64 u.num))
  (first | (refine⟨?_,?_,?_⟩<;>assumption) | go_keep)
  ((go_at_call 153;refine ((qb f0) a4.drew (qb T).drew).mono ?_;rintro c c9 ⟨rfl,W⟩;have d0:=((qb T).drew).trans (W.mono (qb T).size);have b2:=(W.block _ (qh (qb c6))).trans (qb c6);have i0:=(W.cell (zzm c0 (qb T).size)).trans f1;obtain⟨i1,i2,-⟩:=zzc b2;have X:=qg d0;have d1:=qg b2;clear W d0 b2))
 simp only[Exit.then];go_simp;go_wp2;go_region_held3 (fun f=>f.cell? ⟨n,1,none⟩=some (.slice (some ⟨a,0,none⟩) d e)/\f.cell? ⟨w.heap.size,0,none⟩=some (.int .i64 u.cl)/\f.cell? ⟨w.heap.size,1,none⟩=some (.int .i64 u.num))
  (first | (refine⟨?_,?_,?_⟩<;>assumption) | go_keep)
  (first
    | (go_at_call 155
       refine ((qb e5) _ ?b1 ?b2).mono ?_
       case b1=>first | exact (qb X).drew | exact ((qb X).alloc (qb X).size _).drew
       case b2=>first | exact qb d1 | exact qx (qb d1) _
       rintro c b3 ⟨rfl,d2,Y,b4,d3⟩
       have i3:b3.cell? ⟨n,1,none⟩=some (.slice (some ⟨a,0,none⟩) d e):=qe (Y.heap (qb B).tP.nS (fun c=>a3 c.symm)) 1
       obtain⟨i4,i5,-⟩:=zzc b4
       have i6:=zzm D (qb X).size
       have i7:=zzm D Y.size
       have d4:=qg d2
       have d5:=qg b4
       have d6:=qg Y
       have f5:=qg d3
       clear d2 b4 Y d3)
    | (go_at_call 154
       refine ((qb e8) _ _ ?i1 ?i2 ?i3).mono ?_
       case i1=>first | exact qi (qb d4) (S:=fun _=>False) ((gp.refl _ b3).alloc _) (fun _ _ k=>k) | exact qb d4
       case i2=>first | exact qt b3 _ _ rfl | exact (qb f5) c9.heap.size _ (qt c9 _ _ rfl) (by omega)
       case i3=>omega
       rintro c x ⟨rfl,d7,K⟩
       have b5:gp (fun b=>b=a) w x:=by first | exact ((qb d6).alloc _).trans K | exact (qb d6).trans K
       have L:=b5.heap (qb B).tP.nS (fun c=>a3 c.symm)
       have Z:x.heap[w.heap.size]?=some (.cells #[.int .i64 u.cl,.int .i64 u.num] 173):=by first | exact K.heap (qx (qb d5) _) c8 | exact K.heap (qb d5) c8
       obtain⟨-,i8,-⟩:=zzc L
       obtain⟨i9,j0,-⟩:=zzc Z
       have j1:=fun l=>qj L l
       have j2:(x.setCell ⟨n,1,none⟩ (.slice (some ⟨a,0,none⟩) d e)).cell? ⟨n,1,none⟩=some (.slice (some ⟨a,0,none⟩) d e):=qe (qp (i:=1) L _) 1
       have j3:(x.setCell ⟨n,1,none⟩ (.slice (some ⟨a,0,none⟩) d e)).cell? ⟨w.heap.size,0,none⟩=some (.int .i64 u.cl):=qe (qu Z (fun c=>c7 c.symm) _) 0
       have j4:(x.setCell ⟨n,1,none⟩ (.slice (some ⟨a,0,none⟩) d e)).cell? ⟨w.heap.size,1,none⟩=some (.int .i64 u.num):=qe (qu Z (fun c=>c7 c.symm) _) 1
       have f6:=qg d7
       have f7:=qg L
       have f8:=qg b5
       clear d7 L b5 K Z))
 all_goals
  simp only[Exit.then];go_simp;go_wp2;go_ret;have f9:=qp (i:=1) (qb f7) (.slice (some ⟨a,0,none⟩) d e);have d8:gp (fun b=>b=n\/b=a) w (x.setCell ⟨n,1,none⟩ (.slice (some ⟨a,0,none⟩) d e)):=((qb f8).wide (fun b _ c=>.inr c)).setCell (p:=⟨n,1,none⟩) (.inl (.inl rfl)) _;have g0:qN (x.setCell ⟨n,1,none⟩ (.slice (some ⟨a,0,none⟩) d e)) 0 173 (.slice (some ⟨a,0,none⟩) d e) H:=qi (qb f6) ((gp.refl (fun b=>b=n) x).setCell (p:=⟨n,1,none⟩) (.inl rfl) _) (fun b s c=>by cases s;exact a3 c);refine⟨rfl,(qb B).order (yf (qb f3)) (fun _ k=>k) d8 ?_ d9 f9 ?_ ?_,?_⟩
  ·rintro b (rfl | rfl)
   ·exact .inl rfl
   ·exact .inr rfl
  ·rw[<-qb f4];exact g0
  ·intro b s;exact (qb B).tO b s
  ·refine d8.wide ?_;rintro b _ (rfl | rfl)
   ·exact (qb B).uz
   ·exact (qb B).tO _ rfl
end Go.Proofs.YtbnbkjbfpamijaaGreat
