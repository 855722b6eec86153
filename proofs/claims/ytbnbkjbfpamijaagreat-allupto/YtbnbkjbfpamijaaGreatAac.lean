import Derived.Test.YtbnbkjbfpamijaaGreatAaa
import Derived.RegionTactic
import Derived.ChangeAlike
import Derived.BigRegion
import Derived.BigQuiet
import Derived.Deep.QuietTactic
set_option linter.all false
set_option maxRecDepth 100000
set_option maxHeartbeats 0
namespace Go.Proofs.YtbnbkjbfpamijaaGreat
open Go.RowKit Go.Proofs.Panes
def zk (a b c:Int)(d:World):Calls Tryz.prog 72 #[.int .i64 a,.int .i64 b,.int .i64 c] d fun e f=>e=.returned (.bool (decide (b<=a)&&decide (a<=c)))/\f=d:=by
 go_enter Tryz.func72,Tryz.ntmps72;go_wp2;all_goals go_ret;all_goals exact⟨by simp_all<;>omega,rfl⟩
def oq (c d g h e f i j:Int)(k:World)(n:-10000<=c/\c<=10000) (o:-10000<=d/\d<=10000) (p:-10000<=g/\g<=10000) (q:-10000<=h/\h<=10000)(r:-10000<=e/\e<=10000) (c2:-10000<=f/\f<=10000) (s:-10000<=i/\i<=10000) (t:-10000<=j/\j<=10000):Calls Tryz.prog 73 #[.agg #[.int .i64 c,.int .i64 d,.int .i64 g,.int .i64 h],.agg #[.int .i64 e,.int .i64 f,.int .i64 i,.int .i64 j]] k fun l m=> l=.returned (.agg #[.int .i64 (max c e),.int .i64 (max d f),.int .i64 (max 0 (min (c+g) (e+i)-max c e)),.int .i64 (max 0 (min (d+h) (f+j)-max d f))])/\Below k.heap.size k m:=by
 have u:∀ a b:Int,(if a<b then b else a)=max a b:=fun a b=>by omega
 have w:∀ a b:Int,(if b<a then b else a)=min a b:=fun a b=>by omega
 have mz:∀ a b:Int,(if b<a then a-b else 0)=max 0 (a-b):=fun a b=>by omega
 go_enter Tryz.func73,Tryz.ntmps73;go_wp2;go_quiet (fail);go_wp2;go_quiet (fail);go_wp2;refine bV (v:=.agg #[.int .i64 (max c e),.int .i64 (max d f),.int .i64 (max 0 (min (c+g) (e+i)-max c e)),.int .i64 (max 0 (min (d+h) (f+j)-max d f))]) (by simp[results,Tryz.results73,go_sem]) rfl ⟨rfl,?_⟩;repeat (first | exact aa _ _ | refine Below.setCell ?_ (by first | (simp;done) | (simp;omega)) _ | refine ax ?_ _ | refine fa ?_ | refine cP ?_ (by first | (simp;done) | (simp;omega)) _)
variable{B' q:Int}{B l:List Rc}{c4 r:Rc}
def iF:Prop:=∀ (e f:Int)(j:Nat)(c:Value)(a:List Rc)(b:World)(_:gw b j c a)(_:ik e f a)(_:a.length<=100000),
 Calls Tryz.prog 147 #[c] b fun k g=>∃ h d,k=.returned h/\gw g b.heap.size h d/\gA e f d/\(∀ i,gq d i↔gq a i)/\b.grownBy g c.ownBlock
def hG (a:Rc)(b c:Int):Prop:=0<a.w/\a.y<=b/\c<=a.y+a.h
structure PI (top bot:Int)(F P:List Rc):Prop where
 bits:ik top (bot-top) F
 tR:∀ px,gq F px↔∃ r∈P,r.y<=top/\bot<=r.y+r.h/\r.has px
def PI.start (a b:Int):PI a b [] []:=⟨ik.nil _ _,fun c=>⟨fun d=>absurd d (qf1 c),fun ⟨_,e,_⟩=>by simp at e⟩⟩
def PI.take (e:PI q B' l B)(f:ia r)(a:hG r q B')(j:c4.x=r.x)(g:c4.y=q)(k:c4.w=r.w)(h:c4.h=B'-q):PI q B' (l++[c4]) (B++[r]):=by
 unfold ia at f;unfold hG at a;refine⟨e.bits.snoc ⟨by omega,g,h,by omega,by omega⟩,fun i=>?_⟩;rw[gK,e.tR i];constructor
 ·rintro (⟨b,c,c4⟩ | c4)
  ·exact⟨b,by simp[c],c4⟩
  ·exact⟨r,by simp,a.2.1,a.2.2,by unfold Rc.has at *;omega⟩
 ·rintro⟨b,c,c4⟩;rcases al.1 c with d | d
  ·exact .inl ⟨b,d,c4⟩
  ·rw[ay.1 d] at c4;exact .inr (by unfold Rc.has at *;omega)
def PI.skip (e:PI q B' l B)(f:¬hG r q B'):PI q B' l (B++[r]):=by
 unfold hG at f;refine⟨e.bits,fun g=>(e.tR g).trans ⟨fun ⟨b,c,a⟩=>⟨b,by simp[c],a⟩,?_⟩⟩;rintro⟨b,c,a⟩;rcases al.1 c with d | d
 ·exact⟨b,d,a⟩
 ·rw[ay.1 d] at a;exact absurd a (by unfold Rc.has;omega)
def kK (B:iF)(K:Value)(e:List Rc)(b c:Int)(h:World)(V:Rd h K e)(b6:e.length<=1000)(C:∀ a∈e,ia a)(D:∀ a∈e,iU a b c)(b7:-1000<=b/\b<c/\c<=2000):Calls Tryz.prog 144 #[K,.int .i64 b,.int .i64 c] h fun j y=>∃ z E,j=.returned z/\gw y h.heap.size z E/\gA b (c-b) E/\(∀ i,gq E i↔∃ a∈e,a.y<=b/\c<=a.y+a.h/\a.has i)/\Below h.heap.size h y:=by
 obtain⟨W,X,Y,Z,a0⟩:=aZ XI;obtain⟨b8,b9,rfl,h1,h2,h3⟩:=V;go_enter Tryz.func144,Tryz.ntmps144;go_wp2;go_loopw [7,13] (fun a1 F wr=>∃ (f:Nat)(k:List Rc),f<=e.length/\F=.int .i64 f/\gw wr h.heap.size a1 k/\PI b c k (e.take f)/\k.length<=f/\Below h.heap.size h wr) (fun _ F _=>e.length-(intOf F).toNat)
 case atStart=>exact⟨0,[],aj _,rfl,aQ _ _ _ _,PI.start b c,zzl _,aa _ _⟩
 case round=>
  obtain⟨f,k,c0,rfl,r,s,hF,m⟩:=hrel;by_cases L:f<e.length
  ·obtain⟨a2,c5,rfl,a3,M⟩:=h3 (by intro j;subst j;simp at L);obtain⟨a,t⟩:∃ a,e[f]?=some a:=⟨e[f],by simp[L]⟩;obtain⟨c1,c2,c3,c4⟩:=(M f a t).below m a3;have p:=m.size;have c6:a2<wr.heap.size:=(by omega);have G:=C a (zzn t);have H:=D a (zzn t);have I:Hid (e.take (f+1)=e.take f++[a]):=(by show _=_;rw[am,t];rfl);have n:=qg r;have u:=qg s;have v:=qg m;have a4:=qg G;obtain⟨c7,c8,rfl,_⟩:=gC r;unfold ia at G;obtain⟨m1,m2,m3,m4⟩:=G;clear M h3 r s m C D t B;obtain⟨d,w⟩:∃ d:Rc,d=⟨max a.x a.x,max a.y b,max 0 (min (a.x+a.w) (a.x+a.w)-max a.x a.x),max 0 (min (a.y+a.h) (b+(c-b))-max a.y b)⟩:=⟨_,rfl⟩;have J:Hid (∀ x,Calls Tryz.prog 73 #[.agg #[.int .i64 a.x,.int .i64 a.y,.int .i64 a.w,.int .i64 a.h],.agg #[.int .i64 a.x,.int .i64 b,.int .i64 a.w,.int .i64 (c-b)]] x fun j y=>j=.returned (.agg #[.int .i64 d.x,.int .i64 d.y,.int .i64 d.w,.int .i64 d.h])/\Below x.heap.size x y):=(by intro x;rw[w];exact oq a.x a.y a.w a.h a.x b a.w (c-b) x (by omega) (by omega) (by omega) (by omega) (by omega) (by omega) (by omega) (by omega));by_cases o:hG a b c
   ·have q:Hid (d.x=a.x/\d.y=b/\d.w=a.w/\d.h=c-b):=(by unfold hG at o;subst w;show max a.x a.x=a.x/\max a.y b=b/\max 0 (min (a.x+a.w) (a.x+a.w)-max a.x a.x)=a.w/\max 0 (min (a.y+a.h) (b+(c-b))-max a.y b)=c-b;omega);have N:0<d.w:=(by have:=qb q;unfold hG at o;omega);have c9:0<d.h:=(by have:=qb q;omega);have A:=qg o;clear w H o
    go_wp2_with (first
      | (go_at_call 73;refine (qb J _).mono ?_;rintro j l ⟨rfl,g⟩;have O:wr.heap.size+1<=l.heap.size:=by simpa using g.size)
      | (at_builtin;refine bT _ rfl _ _ 47 rfl h.heap.size 46 W (.agg #[.int .i64 0,.int .i64 0,.int .i64 0,.int .i64 0]) 4 32 Tryz.underlying47 X Y Z a0 rfl (by decide) _ _ _ rfl (gu (gu (gw.kept (gu (qb n) _) g) _) _) ⟨l.heap.size+1,0,none⟩ 1 1 (vt d) rfl rfl ?c1 ?c2 ?c3 ?c4 ?c5 ?_))
    case c1=>exact hl (qt _ _ _ (by simp))
    case c2=>exact gU _
    case c3=>simp[maxLen];omega
    case c4=>omega
    case c5=>simp;omega
    intro z d0 P Q _;have a5:=qg (gw.snoc P);have a6:=qg (zB (zB (au wr _ _) (kj g _)) (zB (zB (au l _ _) (au _ _ _)) Q));clear P Q g;go_wp2;go_roundw
    case rel=>
     refine⟨f+1,k++[d],by omega,by go_num,qb a5,?_,by simp;omega,(qb v).grown (qb a6) p (gw.tM (qb n))⟩;rw[qb I];exact PI.take (qb u) (qb a4) (qb A) (qb q).1 (qb q).2.1 (qb q).2.2.1 (qb q).2.2.2
    case measure=>simp[intOf];omega
   ·have a7:d.w<=0\/d.h<=0:=(by unfold hG at o;unfold iU at H;subst w;show max 0 (min (a.x+a.w) (a.x+a.w)-max a.x a.x)<=0\/max 0 (min (a.y+a.h) (b+(c-b))-max a.y b)<=0;omega);have A:=qg o;clear w H o;rcases a7 with N | N
    ·go_wp2_with (go_at_call 73;refine (qb J _).mono ?_;rintro j l ⟨rfl,g⟩;have O:wr.heap.size+1<=l.heap.size:=by simpa using g.size)
     go_roundw
     case rel=>
      refine⟨f+1,k,by omega,by go_num,gu (gw.kept (gu (qb n) _) g) _,?_,by omega,(((qb v).alloc p _).trans (g.mono (by simp;omega))).alloc (by omega) _⟩;rw[qb I];exact PI.skip (qb u) (qb A)
     case measure=>simp[intOf];omega
    ·by_cases d1:0<d.w;all_goals
      go_wp2_with (go_at_call 73;refine (qb J _).mono ?_;rintro j l ⟨rfl,g⟩;have O:wr.heap.size+1<=l.heap.size:=by simpa using g.size)
      go_roundw
      case rel=>
       refine⟨f+1,k,by omega,by go_num,gu (gw.kept (gu (qb n) _) g) _,?_,by omega,(((qb v).alloc p _).trans (g.mono (by simp;omega))).alloc (by omega) _⟩;rw[qb I];exact PI.skip (qb u) (qb A)
      case measure=>simp[intOf];omega
  ·have a8:f=e.length:=(by omega);have n:=qg r;have u:=qg s;have v:=qg m;have a9:Hid (∀ i,gq k i↔∃ a∈e,a.y<=b/\c<=a.y+a.h/\a.has i):=(by intro i;have:=s.tR i;rw[a8,aP] at this;exact this);have p:=m.size;have b0:=qg B;clear r s m h3 C D B;go_wp2_with (go_at_call 147;refine ((qb b0) b (c-b) h.heap.size _ k wr (qb n) (qb u).bits (by omega)).mono ?_;rintro j l ⟨z,b1,rfl,R,S,T,U⟩;have b2:=qg R;have b3:=qg S;have b4:=qg T;have b5:=qg U;clear R S T U);go_ret;exact⟨_,b1,rfl,(qb b2).mono p,qb b3,fun i=>((qb b4) i).trans ((qb a9) i),(qb v).grown (qb b5) p (gw.tM (qb n))⟩
variable{n:Nat}
def lQ (a:l[n]?=some r):l.take (n+1)=l.take n++[r]:=by rw[am,a];rfl
def lk (b:l.Pairwise pe)(c:l[n]?=some r):∀ a∈l.take n,a.x+a.w<r.x:=by
 intro a d;have e:(l.take n++l.drop n).Pairwise pe:=(by rw[ap];exact b);exact (bj.1 e).2.2 a d r (zzn (i:=0) (by rw[bw];simpa using c))
def pV (k l:Int)(a6 a7:Value)(f d:List Rc)(g:World)(c8:Rd g a6 f)(c9:Rd g a7 d)(T:gA k l f)(U:gA k l d)(a8:0<l/\l<=3000)(f2:-1000<=k/\k<=2000):Calls Tryz.prog 127 #[a6,a7] g fun b K=>∃ L m,b=.returned L/\gw K g.heap.size L m/\gA k l m/\(∀ y,gq m y↔gq f y/\gq d y)/\Below g.heap.size g K:=by
 obtain⟨a9,b0,b1,b2,b3⟩:=aZ XI;obtain⟨f3,f4,rfl,h1,h2,h3⟩:=c8;obtain⟨f5,f6,rfl,f7,f8,M⟩:=c9;have f9:=T.len;have g0:=U.len;have b4:=qg T;have b5:=qg U;clear T U;go_enter Tryz.func127,Tryz.ntmps127;go_wp2;go_loopw [5,13] (fun v V wr=>∃ (h:Nat)(m:List Rc),h<=f.length/\V=.int .i64 h/\gw wr g.heap.size v m/\(m=[]->v=.slice none 0 0)/\BO k l (f.take h) d m/\Below g.heap.size g wr) (fun _ V _=>f.length-(intOf V).toNat)
 case atStart=>exact⟨0,[],aj _,rfl,za7 _,fun _=>rfl,BO.start k l d,aa _ _⟩
 case round=>
  obtain⟨h,m,g1,rfl,N,W,O,w⟩:=hrel;obtain⟨r,d0⟩:∃ r:World,r=wr:=⟨_,rfl⟩;subst d0;by_cases b6:h<f.length
  ·obtain⟨d5,g2,rfl,d6,b7⟩:=h3 (by intro b;subst b;simp at b6);obtain⟨a,z⟩:∃ X,f[h]?=some X:=⟨f[h],by simp[b6]⟩;obtain⟨c1,c2,c3,c4⟩:=(b7 h a z).below w d6;have d7:=w.size;have g3:d5<r.heap.size:=(by omega);have d8:=qg (lQ z);have s:=qg ((qb b4).1 a (zzn z));have d9:0<a.w/\-1000<=a.x/\a.x+a.w<=2000:=⟨(qb s).1,(qb s).2.2.2.1,(qb s).2.2.2.2⟩;have e0:=qg (O.begin d9.1 (lk (qb b4).2 z));have P:=qg N;have Y:=qg w;clear b7 h3 N O w z;have e1:=qg W;clear W;go_wp2;go_loopw [5,19] (fun v Z wr=>∃ (i:Nat)(n:List Rc),i<=d.length/\Z=.int .i64 i/\gw wr g.heap.size v n/\(n=[]->v=.slice none 0 0)/\v.ownBlock≠some r.heap.size/\BN k l (f.take h) a d (d.take i) n/\Below g.heap.size g wr/\wr.heap[r.heap.size]?=some (.cells #[.int .i64 a.x,.int .i64 a.y,.int .i64 a.w,.int .i64 a.h] 46)) (fun _ Z _=>d.length-(intOf Z).toNat)
   case atStart=>exact⟨0,m,aj _,rfl,gu (qb P) _,qb e1,fun b=>by have:=(ab (qb P) _ b).2;omega,qb e0,(qb Y).alloc d7 _,qt _ _ _ rfl⟩
   case round=>
    obtain⟨i,n,g4,rfl,Q,t,a0,A,x,B⟩:=hrel;by_cases b8:i<d.length
    ·obtain⟨e2,g5,rfl,e3,b9⟩:=M (by intro b;subst b;simp at b8);obtain⟨c,C⟩:∃ X,d[i]?=some X:=⟨d[i],by simp[b8]⟩;obtain⟨d1,d2,d3,d4⟩:=(b9 i c C).below x e3;obtain⟨g6,g7,g8,g9⟩:=nY B;have e4:=x.size;have i0:=qh B;have i1:e2<wr.heap.size:=(by omega);have a1:=qg (lQ C);have u:=qg ((qb b5).1 c (zzn C));have c0:=qg (lk (qb b5).2 C);have i2:0<c.w/\-1000<=c.x/\c.x+c.w<=2000:=⟨(qb u).1,(qb u).2.2.2.1,(qb u).2.2.2.2⟩;obtain⟨j,a2⟩:∃ j:Rc,j=⟨max a.x c.x,max a.y c.y,max 0 (min (a.x+a.w) (c.x+c.w)-max a.x c.x),max 0 (min (a.y+a.h) (c.y+c.h)-max a.y c.y)⟩:=⟨_,rfl⟩;have a3:Hid (∀ D,Calls Tryz.prog 73 #[.agg #[.int .i64 a.x,.int .i64 a.y,.int .i64 a.w,.int .i64 a.h],.agg #[.int .i64 c.x,.int .i64 c.y,.int .i64 c.w,.int .i64 c.h]] D fun b K=>b=.returned (.agg #[.int .i64 j.x,.int .i64 j.y,.int .i64 j.w,.int .i64 j.h])/\Below D.heap.size D K):=(by intro D;rw[a2];have i3:=(qb s).2.1;have i4:=(qb s).2.2.1;have i5:=(qb u).2.1;have i6:=(qb u).2.2.1;exact oq a.x a.y a.w a.h c.x c.y c.w c.h D (by omega) (by omega) (by omega) (by omega) (by omega) (by omega) (by omega) (by omega));have E:=qg a2;have q:=qg Q;have o:=qg A;have F:=qg x;have a4:=qg B;have c5:=qg a0;clear a2 b9 M Q A x B a0 C c1 c2 c3 c4;by_cases i7:0<j.w
     ·by_cases R:n=[]
      ·have e5:=t R;subst R;subst e5;clear t;try simp only[cM] at *
       go_wp2_with (first
         | (go_at_call 73;refine (qb a3 _).mono ?_;rintro b p ⟨rfl,e⟩;have c6:wr.heap.size+1<=p.heap.size:=by simpa using e.size)
         | (at_builtin;refine bT _ rfl _ _ 47 rfl (r.heap.size+1) 46 a9 (.agg #[.int .i64 0,.int .i64 0,.int .i64 0,.int .i64 0]) 4 32 Tryz.underlying47 b0 b1 b2 b3 rfl (by decide) _ _ _ rfl (gu (gu (gw.kept (gu (za7 (w:=wr) (r.heap.size+1)) _) e) _) _) ⟨p.heap.size+1,0,none⟩ 1 1 (vt j) rfl rfl ?c1 ?c2 ?c3 ?c4 ?c5 ?_))
       case c1=>exact hl (qt _ _ _ (by simp))
       case c2=>exact gU _
       case c3=>have:=(qb o).strip.len;first | (simp[maxLen];done) | (simp[maxLen];omega)
       case c4=>have:=(qb o).strip.len;first | (simp;done) | (simp;omega) | omega
       case c5=>simp;omega
       intro L e6 G H _;have I:=qg (gw.snoc G);have J:=qg (zB (zB (au wr _ _) (kj e _)) (zB (zB (au p _ _) (au _ _ _)) H));clear G H e;go_wp2;go_roundw
       case rel=>
        have S:=zl (qb J) (qb a4) (by simp[Value.ownBlock]);refine⟨i+1,[]++[j],by omega,by go_num,(qb I).mono (by omega),fun b=>by simp at b,?_,?_,(qb F).grown (qb J) (by omega) (gw.tM (qb q)),S⟩
        ·exact oj (qb I) (by omega)
        ·rw[qb a1,qb E];exact BN.take (qb o) a8.1 (qb s) (qb u) (qb c0) (by have b:=congrArg Rc.w (qb E);simp only at b;omega)
       case measure=>simp[intOf];omega
      ·have e7:=qg R;obtain⟨e8,e9,rfl,_⟩:=gC (qb q);clear t R
       go_wp2_with (first
         | (go_at_call 73;refine (qb a3 _).mono ?_;rintro b p ⟨rfl,e⟩;have c6:wr.heap.size+1<=p.heap.size:=by simpa using e.size)
         | (at_builtin;refine bT _ rfl _ _ 47 rfl g.heap.size 46 a9 (.agg #[.int .i64 0,.int .i64 0,.int .i64 0,.int .i64 0]) 4 32 Tryz.underlying47 b0 b1 b2 b3 rfl (by decide) _ _ _ rfl (gu (gu (gw.kept (gu (qb q) _) e) _) _) ⟨p.heap.size+1,0,none⟩ 1 1 (vt j) rfl rfl ?d1 ?d2 ?d3 ?d4 ?d5 ?_))
       case d1=>exact hl (qt _ _ _ (by simp))
       case d2=>exact gU _
       case d3=>have:=(qb o).strip.len;first | (simp[maxLen];done) | (simp[maxLen];omega)
       case d4=>have:=(qb o).strip.len;first | (simp;done) | (simp;omega) | omega
       case d5=>simp;omega
       intro L e6 G H _;have I:=qg (gw.snoc G);have J:=qg (zB (zB (au wr _ _) (kj e _)) (zB (zB (au p _ _) (au _ _ _)) H));clear G H e;go_wp2;go_roundw
       case rel=>
        have S:=zl (qb J) (qb a4) (qb c5);refine⟨i+1,n++[j],by omega,by go_num,(qb I).mono (by omega),fun b=>by simp at b,?_,?_,(qb F).grown (qb J) (by omega) (gw.tM (qb q)),S⟩
        ·exact lT (qb I) (by have:=cZ.2 (qb e7);simp;omega) S rfl
        ·rw[qb a1,qb E];exact BN.take (qb o) a8.1 (qb s) (qb u) (qb c0) (by have b:=congrArg Rc.w (qb E);simp only at b;omega)
       case measure=>simp[intOf];omega
     ·obtain⟨e8,e9,rfl,_⟩:=gC (qb q);have a5:=qg t;clear t;go_wp2_with (go_at_call 73;refine (qb a3 _).mono ?_;rintro b p ⟨rfl,e⟩;have c6:wr.heap.size+1<=p.heap.size:=by simpa using e.size);go_roundw
      case rel=>
       refine⟨i+1,n,by omega,by go_num,gu (gw.kept (gu (qb q) _) e) _,qb a5,qb c5,?_,(((qb F).alloc e4 _).trans (e.mono (by simp;omega))).alloc (by omega) _,?_⟩
       ·rw[qb a1];exact BN.skip (qb o) (by have b:=congrArg Rc.w (qb E);simp only at b;omega)
       ·exact zl (zB (zB (au wr _ none) (kj e none)) (au _ _ none)) (qb a4) (by simp)
      case measure=>simp[intOf];omega
    ·have f0:i=d.length:=(by omega);have q:=qg Q;have o:Hid (BO k l (f.take (h+1)) d n):=(by show BO k l (f.take (h+1)) d n;rw[qb d8];rw[f0,aP] at A;exact A.finish);have F:=qg x;have a5:=qg t;clear Q A x t a0 B M c1 c2 c3 c4;go_wp2;go_roundw
     case rel=>exact⟨h+1,n,by omega,by go_num,qb q,qb a5,qb o,qb F⟩
     case measure=>simp[intOf];omega
  ·have f1:h=f.length:=(by omega);have P:=qg N;have c7:=qg O;have Y:=qg w;clear N O w h3 M W;go_wp2;go_ret;exact⟨_,m,rfl,qb P,(qb c7).strip,fun y=>by have:=(qb c7).tR y;rw[f1,aP] at this;exact this,qb Y⟩
variable{w:World}{v:Value}
def nl:Prop:=∀ (e:Nat)(a:Value)(b:List Rc)(c:World)(_:gw c e a b)(_:b.length<=1000000),
 Calls Tryz.prog 161 #[a,.func (.func 162) #[] #[]] c fun g f=>g=.returned (.tuple #[])/\∃ d,d.Perm b/\d.Pairwise (fun h i=>h.x<=i.x)/\gw f e a d/\c.grownBy f a.ownBlock
def pS (d:l.Perm B)(e:Int):gq l e↔gq B e:=
 ⟨fun ⟨a,b,c⟩=>⟨a,d.mem_iff.1 b,c⟩,fun ⟨a,b,c⟩=>⟨a,d.mem_iff.2 b,c⟩⟩
def oi (b:gw w n v l):∀ a,v.ownBlock=some a->n<=a:=gw.tM b
def pN (J:nl)(y z:Int)(Z:Nat)(K:Value)(h:List Rc)(s:World)(L:gw s Z K h)(M:ik y z h)(e2:h.length<=100000):Calls Tryz.prog 147 #[K] s fun i a0=>∃ C e,i=.returned C/\gw a0 s.heap.size C e/\gA y z e/\(∀ t,gq e t↔gq h t)/\s.grownBy a0 K.ownBlock:=by
 obtain⟨a1,a2,a3,a4,a5⟩:=aZ XI;obtain⟨b6,e3,rfl,e4⟩:=gC L;have b7:=qg L;clear L;go_enter Tryz.func147,Tryz.ntmps147;go_wp2_with (go_at_call 161;refine (J Z _ h s (qb b7) (by omega)).mono ?_;rintro i j ⟨rfl,f,N,a6,O,a7⟩;have a8:=qg N;have b8:=qg a6;have a9:=qg a7;have b9:=qg N.length_eq;clear N a6 a7);have D:=qb b9;have qF:f≠[]->∃ g P,b6=some ⟨g,P,none⟩/\g<j.heap.size/\∀ E l,f[E]?=some l->oa j g (P+E*4) l:=(by obtain⟨e5,e6,i,_,_,h3⟩:=O.rd;simp only[ai] at i;rw[i.1];exact h3);have Q:=fun l R=>M l ((qb a8).mem_iff.1 R);have e7:∀ F g:Int,(if F<g then g else F)=max F g:=fun F g=>by omega
 go_loopw [3,11] (fun c0 S wr=>∃ (c:Nat)(e:List Rc),c<=h.length/\S=.int .i64 c/\gw wr j.heap.size c0 e/\JI y z e (f.take c)/\e.length<=c/\Below j.heap.size j wr) (fun _ S _=>h.length-(intOf S).toNat)
 case atStart=>exact⟨0,[],aj _,rfl,aQ _ _ _ _,JI.start y z,zzl _,aa _ _⟩
 case round=>
  obtain⟨c,e,e8,rfl,k,G,e9,o⟩:=hrel;by_cases c5:c<h.length
  ·obtain⟨g,P,rfl,c6,b0⟩:=qF (by intro i;rw[i] at D;simp at D;omega);obtain⟨a,u⟩:∃ l,f[c]?=some l:=⟨f[c]'(by omega),by simp[D,c5]⟩;obtain⟨c1,c2,c3,c4⟩:=(b0 c a u).below o c6;have p:=qg (Q a (zzn u));have f0:0<a.w/\-1000<=a.x/\a.x+a.w<=2000:=⟨(qb p).1,(qb p).2.2.2.1,(qb p).2.2.2.2⟩;have H:=o.size;have f1:g<wr.heap.size:=(by omega);have T:Hid (f.take (c+1)=f.take c++[a]):=(by show _=_;rw[am,u];rfl);have c7:Hid (∀ b∈f.take c,b.x<=a.x):=(by intro b c8;have h2:=(qb b8);have h3:(f.take c++f.drop c).Pairwise (fun a b=>a.x<=b.x):=(by rw[ap];exact h2);exact (bj.1 h3).2.2 b c8 a (zzn (i:=0) (by rw[bw];simpa using u)));have m:=qg G;have v:=qg k;have q:=qg o;clear b0 qF G Q M J O u;rcases List.eq_nil_or_concat e with rfl | ⟨d,b,rfl⟩
   ·obtain⟨f2,b1,rfl,_⟩:=gC k;clear k o;simp only[cM] at *;go_wp2;go_quiet (fail);go_wp2_with (at_builtin;refine bT _ rfl _ _ 47 rfl j.heap.size 46 a1 (.agg #[.int .i64 0,.int .i64 0,.int .i64 0,.int .i64 0]) 4 32 Tryz.underlying47 a2 a3 a4 a5 rfl (by decide) _ _ _ rfl (ig (gu (gu (qb v) _) _) _) ⟨wr.heap.size+1,0,none⟩ 1 1 (vt a) rfl rfl ?c1 ?c2 ?c3 ?c4 ?c5 ?_)
    case c1=>exact hl (qt _ _ _ (by simp))
    case c2=>exact gU _
    case c3=>simp[maxLen]
    case c4=>simp
    case c5=>simp;omega
    intro C c9 w x _;have U:=qg (gw.snoc w);have V:=qg (zB (zB (zB (au wr _ _) (km _ _ _)) (au _ _ _)) x);clear w x;go_wp2;go_roundw
    case rel=>
     refine⟨c+1,[a],by omega,by go_num,qb U,?_,by simp,(qb q).grown (qb V) H (oi (qb v))⟩;rw[qb T];exact JI.first (qb m) (qb p)
    case measure=>simp[intOf];omega
   ·rw[List.concat_eq_append] at *;obtain⟨r,b1,rfl,b2,f3⟩:=ld k (by simp);obtain⟨d1,d2,d3,d4⟩:=qr3 k (qz3 (A:=d) (q:=b));have f4:=xM k rfl (d.length*4+2);rw[ae,dT] at *;have W:=qg ((qb m).strip.1 b (by simp));have f5:0<b.w/\-1000<=b.x/\b.x+b.w<=2000:=⟨(qb W).1,(qb W).2.2.2.1,(qb W).2.2.2.2⟩;have f6:decide ((d.length:Int)<0)=false:=(by rw[cg];omega);have f7:r≠wr.heap.size:=(by omega);clear k o;by_cases b3:b.x+b.w<a.x
    ·go_wp2;go_quiet (fail);go_wp2_with (at_builtin;refine bT _ rfl _ _ 47 rfl j.heap.size 46 a1 (.agg #[.int .i64 0,.int .i64 0,.int .i64 0,.int .i64 0]) 4 32 Tryz.underlying47 a2 a3 a4 a5 rfl (by decide) _ _ _ rfl (ig (gu (gu (qb v) _) _) _) ⟨wr.heap.size+1,0,none⟩ 1 1 (vt a) rfl rfl ?d1 ?d2 ?d3 ?d4 ?d5 ?_)
     case d1=>exact hl (qt _ _ _ (by simp))
     case d2=>exact gU _
     case d3=>simp[maxLen];omega
     case d4=>simp;omega
     case d5=>simp;omega
     intro C c9 w x _;have U:=qg (gw.snoc (l:=d++[b]) (r:=a) (by rw[ae,dT];exact w));have V:=qg (zB (zB (zB (au wr _ _) (km _ _ _)) (au _ _ _)) x);clear w x;go_wp2;go_roundw
     case rel=>
      refine⟨c+1,d++[b]++[a],by omega,by go_num,qb U,?_,by simp;omega,(qb q).grown (qb V) H (oi (qb v))⟩;rw[qb T];exact JI.apart (qb m) (qb p) b3
     case measure=>simp[intOf];omega
    ·have d0:Hid (b.x<=a.x):=(by obtain⟨l,R,i⟩:=(qb m).src b (by simp);rw[i];exact (qb c7) l R);have f8:decide (b.x+b.w<a.x)=false:=(by rw[cg];exact b3);go_wp2;go_quiet (fail);go_wp2;have d5:((wr.alloc (Obj.cells #[Value.int IntKind.i64 a.x,Value.int IntKind.i64 a.y,Value.int IntKind.i64 a.w,Value.int IntKind.i64 a.h] 46)).drewN nq).cell? ⟨r,d.length*4,none⟩=some (.int .i64 b.x):=(by go_simp);have d6:((wr.alloc (Obj.cells #[Value.int IntKind.i64 a.x,Value.int IntKind.i64 a.y,Value.int IntKind.i64 a.w,Value.int IntKind.i64 a.h] 46)).drewN nq).cell? ⟨r,d.length*4+2,none⟩=some (.int .i64 b.w):=(by go_simp);have d7:((wr.alloc (Obj.cells #[Value.int IntKind.i64 a.x,Value.int IntKind.i64 a.y,Value.int IntKind.i64 a.w,Value.int IntKind.i64 a.h] 46)).drewN nq).cell? ⟨wr.heap.size,0,none⟩=some (.int .i64 a.x):=(by go_simp);have d8:((wr.alloc (Obj.cells #[Value.int IntKind.i64 a.x,Value.int IntKind.i64 a.y,Value.int IntKind.i64 a.w,Value.int IntKind.i64 a.h] 46)).drewN nq).cell? ⟨wr.heap.size,2,none⟩=some (.int .i64 a.w):=(by go_simp);have d9:((wr.alloc (Obj.cells #[Value.int IntKind.i64 a.x,Value.int IntKind.i64 a.y,Value.int IntKind.i64 a.w,Value.int IntKind.i64 a.h] 46)).drewN nq).frozen? ⟨r,d.length*4+2,none⟩=false:=(by go_simp);generalize X:((wr.alloc (Obj.cells #[Value.int IntKind.i64 a.x,Value.int IntKind.i64 a.y,Value.int IntKind.i64 a.w,Value.int IntKind.i64 a.h] 46)).drewN nq)=b4 at d5 d6 d7 d8 d9 ⊢;have I:=qg (pF (base:=j.heap.size) (g:=r) (n:=d.length+1) (cap:=b1) (A:=d) (r:=b) (B:=[]) (max b.w (a.x+a.w-b.x)) (show gw b4 j.heap.size _ (d++b::[]) from by rw[<-X];exact ig (gu (qb v) _) nq) (by simp));have b5:=qg (show wr.grownBy b4 (some r) from by rw[<-X];exact zB (au wr _ _) (km _ _ _));clear X;go_region;go_wp2;go_roundw
     case rel=>
      refine⟨c+1,d++[⟨b.x,b.y,max b.w (a.x+a.w-b.x),b.h⟩],by omega,by go_num,?_,?_,by simp;omega,?_⟩
      ·first
       | exact (qb I).1
       | exact own_drew (qb I).1
      ·rw[qb T];exact JI.touch (qb m) (qb p) (qb d0) (by omega)
      ·first
       | exact (qb q).grown (zB (qb b5) (qb I).2) H (fun E Y=>by cases Y;exact b2)
       | exact ((qb q).grown (zB (qb b5) (qb I).2) H (fun E Y=>by cases Y;exact b2)).drew
     case measure=>simp[intOf];omega
  ·have e0:c=h.length:=(by omega);have e1:=qg k;have m:=qg G;have q:=qg o;clear k G o qF Q M J O;go_wp2;go_ret;refine⟨_,e,rfl,(qb e1).mono (qb a9).size,(qb m).strip,fun t=>?_,zB (qb a9) (kj (qb q) _)⟩;rw[(qb m).tR t,e0,<-D,aP];exact pS (qb a8) t
end Go.Proofs.YtbnbkjbfpamijaaGreat
