import Derived.Test.YtbnbkjbfpamijaaGreatAac
set_option linter.all false
set_option maxRecDepth 100000
set_option maxHeartbeats 0
namespace Go.Proofs.YtbnbkjbfpamijaaGreat
open Go.RowKit Go.Proofs.Panes
variable{w w2:World}{b g i j n:Nat}{v:Value}{x:List Bool}{ch:Bool}
abbrev ze (b:World)(c:Nat)(d:Value)(a:List Bool):Prop:=b.ownsRow c 4 1 d a.length (a.map Value.bool)
def zm (a:ze w n v x)(b:Below w.heap.size w w2):ze w2 n v x:=ck a (kj b none) (by cases c:v.ownBlock<;>simp)
def iv (b:ze w n v x):∃ c a,v=.slice c x.length a/\x.length<=a:=by
 rcases b.2 with ⟨rfl,d⟩ | ⟨f,a,g,rfl,_,_,e,_⟩
 ·exact⟨none,0,by rw[d],by omega⟩
 ·exact⟨_,a,rfl,e⟩
def qi6 (c:ze w n v x)(d:x≠[]):∃ a b,v=.slice (some ⟨a,0,none⟩) x.length b/\n<=a/\a<w.heap.size:=by
 rcases c.2 with ⟨_,e⟩ | ⟨a,b,h,rfl,f,g,_⟩
 ·exact absurd (bQ.1 e) d
 ·exact⟨a,b,rfl,f,(bM.1 g).1⟩
def xm (a:ze w n (.slice (some ⟨i,0,none⟩) j g) x)(c:x[b]?=some ch):w.cell? ⟨i,b,none⟩=some (.bool ch):=by
 have:=dq a (g:=i) rfl b (.bool ch) (by simp[c]);have d:(⟨i,0,none⟩:Addr).add b=⟨i,b,none⟩:=(by unfold Addr.add;split<;>simp_all);rwa[d] at this
def lB (a:Rc):Bool:=!(decide (-1000<=a.x)&&decide (a.x<=1000))||!(decide (-1000<=a.y)&&decide (a.y<=1000))||!(decide (0<=a.w)&&decide (a.w<=1000))||!(decide (0<=a.h)&&decide (a.h<=1000))
def qd8 (a:Rc)(b:World):Calls Tryz.prog 97 #[.agg #[.int .i64 a.x,.int .i64 a.y,.int .i64 a.w,.int .i64 a.h]] b fun c d=>c=.returned (.bool (lB a))/\Below b.heap.size b d:=by
 go_enter Tryz.func97,Tryz.ntmps97;go_wp2;all_goals (go_ret;exact⟨by simp_all [lB]<;>omega,(aa _ _).alloc (zzl _) _⟩)
def qk7 (l:Value)(a:List Rc)(d:World)(q:Rd d l a)(x:a.length<=1000000):Calls Tryz.prog 124 #[l,.func (.func 97) #[] #[]] d fun f h=>∃ m:Int,f=.returned (.int .i64 m)/\decide (0<=m)=a.any lB/\Below d.heap.size d h:=by
 obtain⟨y,z,rfl,h1,h2,h3⟩:=q;go_enter Tryz.func124,Tryz.ntmps124;go_wp2;go_loopw [8] (fun i wr=>∃ b:Nat,b<=a.length/\i=.int .i64 b/\(a.take b).any lB=false/\Below d.heap.size d wr) (fun i _=>a.length-(intOf i).toNat)
 case atStart=>exact⟨0,aj _,rfl,rfl,aa _ _⟩
 case round=>
  obtain⟨b,A,rfl,g,e⟩:=hrel;by_cases n:b<a.length
  ·obtain⟨B,C,rfl,r,o⟩:=h3 (by intro f;subst f;simp at n);obtain⟨c,j⟩:∃ c,a[b]?=some c:=⟨a[b],by simp[n]⟩;obtain⟨D,c2,E,F⟩:=(o b c j).below e r;clear o h3;have s:Hid ((a.take (b+1)).any lB=lB c):=(by show _=_;rw[am,j,ev,g];simp);have t:Hid (lB c=true->a.any lB=true):=fun u=>ca.2 ⟨c,zzn j,u⟩;clear g;cases p:lB c
   ·go_wp2_with (go_at_call 97;refine (qd8 c _).mono ?_;rintro f h ⟨rfl,k⟩)
    go_roundw
    case rel=>exact⟨b+1,by omega,by go_num,by rw[s.out,p],e.trans (k.mono e.size)⟩
    case measure=>simp[intOf];omega
   ·go_wp2_with (go_at_call 97;refine (qd8 c _).mono ?_;rintro f h ⟨rfl,k⟩)
    go_ret;exact⟨b,rfl,by rw[t.out p];simp,e.trans (k.mono e.size)⟩
  ·have v:b=a.length:=(by omega);have w:Hid (a.any lB=false):=(by rw[v,aP] at g;exact g);clear g;go_wp2;go_ret;exact⟨-1,rfl,by rw[w.out];rfl,e⟩
def gH (a:List Rc):Bool:=decide (a.length<=40)&&!a.any lB
def VD (c:Value)(b:List Rc)(a:World)(g:Rd a c b)(h:b.length<=1000000):Calls Tryz.prog 96 #[c,.func (.func 97) #[] #[]] a fun d e=>d=.returned (.bool (b.any lB))/\Below a.heap.size a e:=by
 go_enter Tryz.func96,Tryz.ntmps96;go_wp2_with (go_at_call 124;refine (qk7 c b a g h).mono ?_;rintro d e ⟨k,rfl,f,i⟩;have j:=qg f;clear f);go_ret;exact⟨by rw[<-qb j];rfl,i⟩
def zf5 (d:Value)(b:List Rc)(a:World)(h:Rd a d b):Calls Tryz.prog 59 #[d] a fun c f=>c=.returned (.bool (gH b))/\Below a.heap.size a f:=by
 obtain⟨i,j,c,h1,h2,h3⟩:=h;have e:Rd a d b:=⟨i,j,c,h1,h2,h3⟩;subst c;clear h3;unfold maxLen at h2;by_cases g:b.length<=40
 ·have k:=qg e;clear e;go_enter Tryz.func59,Tryz.ntmps59;go_wp2_with (go_at_call 96;refine (VD _ b a (qb k) (by omega)).mono ?_;rintro c f ⟨rfl,l⟩);go_ret;exact⟨by simp[gH,g],l⟩
 ·clear e;go_enter Tryz.func59,Tryz.ntmps59;go_wp2;go_ret;exact⟨by simp[gH,g],aa _ _⟩
def qZ (a b c:Int)(d:World):Calls Tryz.prog 55 #[.int .i64 a,.int .i64 b,.int .i64 c] d fun e f=>e=.returned (.bool (decide (b<=a)&&decide (a<=c)))/\f=d:=by
 go_enter Tryz.func55,Tryz.ntmps55;go_wp2;all_goals go_ret;all_goals exact⟨by simp_all<;>omega,rfl⟩
def gQ (c:Int)(a b:Bool):Bool:=if c=1 then a||b else if c=2 then a&&b else a&&!b
def nO (c:Int)(a b:Bool)(d:World):Calls Tryz.prog 104 #[.int .i64 c,.bool a,.bool b] d fun e f=>e=.returned (.bool (gQ c a b))/\f=d:=by
 by_cases h1:c=1
 ·subst h1;cases a<;>cases b<;>
   (go_enter Tryz.func104,Tryz.ntmps104;go_wp2;go_ret;exact⟨rfl,rfl⟩)
 ·by_cases h2:c=2
  ·subst h2;cases a<;>cases b<;>
    (go_enter Tryz.func104,Tryz.ntmps104;go_wp2;go_ret;exact⟨rfl,rfl⟩)
  ·cases a<;>cases b<;>
    (go_enter Tryz.func104,Tryz.ntmps104;go_wp2;go_ret;exact⟨by simp[gQ,h1,h2],rfl⟩)
def zf3 (k:Value)(a:List Rc)(c:World)(q:Rd c k a):Calls Tryz.prog 65 #[k] c fun f l=>f=.returned (.bool (gH a))/\Below c.heap.size c l:=by
 obtain⟨x,y,rfl,h1,h2,h3⟩:=q;unfold maxLen at h2;by_cases m:a.length<=40
 ·have g:Hid (gH a=!a.any lB):=(by show _=_;simp[gH,m]);clear h2;go_enter Tryz.func65,Tryz.ntmps65;go_wp2;go_loopw [3] (fun j wr=>∃ b:Nat,b<=a.length/\j=.int .i64 b/\(a.take b).any lB=false/\Below c.heap.size c wr) (fun j _=>a.length-(intOf j).toNat)
  case atStart=>exact⟨0,aj _,rfl,rfl,aa _ _⟩
  case round=>
   obtain⟨b,z,rfl,e,h⟩:=hrel;by_cases n:b<a.length
   ·obtain⟨A,B,rfl,r,o⟩:=h3 (by intro f;subst f;simp at n);obtain⟨d,i⟩:∃ d,a[b]?=some d:=⟨a[b],by simp[n]⟩;obtain⟨C,c2,D,E⟩:=(o b d i).below h r;have s:Hid ((a.take (b+1)).any lB=lB d):=(by show _=_;rw[am,i,ev,e];simp);have t:Hid (lB d=true->a.any lB=true):=fun u=>ca.2 ⟨d,zzn i,u⟩;have p:=qg h;clear e o h3 h i;go_wp2_with (go_at_call 55;refine (qZ _ _ _ _).mono ?_;rintro f l ⟨rfl,rfl⟩);all_goals first
     | (go_roundw
        case rel=>exact⟨b+1,by omega,by go_num,by rw[qb s];simp_all [lB]<;>omega,qb p⟩
        case measure=>simp[intOf];omega)
     | (go_ret;exact⟨by rw[qb g,(qb t) (by simp_all [lB]<;>omega)];rfl,qb p⟩)
   ·have v:b=a.length:=(by omega);have w:Hid (a.any lB=false):=(by rw[v,aP] at e;exact e);clear e h3;go_wp2;go_ret;exact⟨by rw[qb g,qb w];rfl,h⟩
 ·have g:Hid (gH a=false):=(by show _=_;simp[gH,m]);clear h3;go_enter Tryz.func65,Tryz.ntmps65;go_wp2;go_ret;exact⟨by rw[qb g];rfl,aa _ _⟩
def ip (u:Value)(c:List Rc)(d e:Int)(h:World)(z:Rd h u c)(E:c.length<=100000000)(v:∀ a∈c,ia a):Calls Tryz.prog 103 #[u,.int .i64 d,.int .i64 e] h fun n A=>n=.returned (.bool (gx c d e))/\Below h.heap.size h A:=by
 obtain⟨F,G,rfl,h1,h2,h3⟩:=z;go_enter Tryz.func103,Tryz.ntmps103;go_wp2;go_loopw [7] (fun o wr=>∃ (b:Nat),b<=c.length/\o=.int .i64 b/\gx (c.take b) d e=false/\Below h.heap.size h wr) (fun o _=>c.length-(intOf o).toNat)
 case atStart=>exact⟨0,aj _,rfl,rfl,aa _ _⟩
 case round=>
  obtain⟨b,H,rfl,j,m⟩:=hrel;by_cases w:b<c.length
  ·obtain⟨I,J,rfl,B,x⟩:=h3 (by intro n;subst n;simp at w);obtain⟨a,k⟩:∃ a,c[b]?=some a:=⟨c[b],by simp[w]⟩;obtain⟨K,c2,L,M⟩:=(x b a k).below m B;have y:=v a (zzn k);unfold ia at y;obtain⟨N,O,P,Q⟩:=y;have R:(0:Int)<=(b:Int):=(by omega);have S:(b:Int)<(c.length:Int):=(by omega);have i:Hid (gx (c.take (b+1)) d e=mB a d e):=(by show _=_;unfold gx at *;rw[am,k,ev,j];simp);have C:Hid (mB a d e=true->gx c d e=true):=fun f=>ca.2 ⟨a,zzn k,f⟩;have l:=qg m;clear x h3 j m k v;by_cases p:a.x<=d
   ·by_cases q:d<a.x+a.w
    ·by_cases r:a.y<=e
     ·by_cases s:e<a.y+a.h
      ·have g:=(qb C) (eC ⟨p,q,r,s⟩);go_wp2;go_quiet (fail);go_wp2;go_ret;exact⟨by rw[qb g];rfl,ax (qb l) _⟩
      ·have g:Hid (mB a d e=false):=bY (fun f=>s f.2.2.2);have t:=bY s;go_wp2;go_quiet (fail);go_wp2;go_roundw
       case rel=>exact⟨b+1,by omega,by go_num,by rw[qb i,qb g],ax (qb l) _⟩
       case measure=>simp[intOf];omega
     ·have g:Hid (mB a d e=false):=bY (fun f=>r f.2.2.1);have t:=bY r;go_wp2;go_quiet (fail);go_wp2;go_roundw
      case rel=>exact⟨b+1,by omega,by go_num,by rw[qb i,qb g],ax (qb l) _⟩
      case measure=>simp[intOf];omega
    ·have g:Hid (mB a d e=false):=bY (fun f=>q f.2.1);have t:=bY q;go_wp2;go_quiet (fail);go_wp2;go_roundw
     case rel=>exact⟨b+1,by omega,by go_num,by rw[qb i,qb g],ax (qb l) _⟩
     case measure=>simp[intOf];omega
   ·have g:Hid (mB a d e=false):=bY (fun f=>p f.1);have t:=bY p;go_wp2;go_quiet (fail);go_wp2;go_roundw
    case rel=>exact⟨b+1,by omega,by go_num,by rw[qb i,qb g],ax (qb l) _⟩
    case measure=>simp[intOf];omega
  ·have D:b=c.length:=(by omega);have i:Hid (gx c d e=false):=(by rw[D,aP] at j;exact j);clear j h3;go_wp2;go_ret;exact⟨by rw[qb i];rfl,m⟩
variable{l:List Rc}{r:Rc}
def kA (a:l[n]?=some r):l.take (n+1)=l.take n++[r]:=by rw[am,a];rfl
def mU (b:l.Pairwise pe)(c:l[n]?=some r):∀ a∈l.take n,a.x+a.w<r.x:=by
 intro a d;have e:(l.take n++l.drop n).Pairwise pe:=(by rw[ap];exact b);exact (bj.1 e).2.2 a d r (zzn (i:=0) (by rw[bw];simpa using c))
def pP (a:l[n]?=some r):l=l.take n++r::l.drop (n+1):=by
 have b:=(zzg a).1
 conv=>lhs;rw[<-ap n l,bu b]
 congr 2
 exact (zzg a).2
def oU (b:l.Pairwise pe)(c:l[n]?=some r):∀ a∈l.drop (n+1),r.x+r.w<a.x:=by
 intro a d;rw[pP c] at b;exact (bn.1 (bj.1 b).2.1).1 a d
def me (i j:Int)(Y Z:Value)(c b:List Rc)(d:World)(b4:Rd d Y c)(b5:Rd d Z b)(K:gA i j c)(L:gA i j b):Calls Tryz.prog 128 #[Y,Z] d fun f a0=>∃ C g,f=.returned C/\gw a0 d.heap.size C g/\gA i j g/\(∀ u,gq g u↔gq c u/\¬gq b u)/\Below d.heap.size d a0:=by
 obtain⟨d4,d5,rfl,h1,h2,h3⟩:=b4;obtain⟨d6,d7,rfl,d8,d9,D⟩:=b5;have e0:=K.len;have e1:=L.len;have a1:=qg K;have a2:=qg L;clear K L;have e2:∀ c b:Int,(if c<b then b else c)=max c b:=fun c b=>by omega
 have e3:∀ c b:Int,(if b<c then b else c)=min c b:=fun c b=>by omega
 go_enter Tryz.func128,Tryz.ntmps128;go_wp2;go_loopw [5,14] (fun p M wr=>∃ (e:Nat)(g:List Rc),e<=c.length/\M=.int .i64 e/\gw wr d.heap.size p g/\(g=[]->p=.slice none 0 0)/\WO i j (c.take e) b g/\Below d.heap.size d wr) (fun _ M _=>c.length-(intOf M).toNat)
 case atStart=>exact⟨0,[],aj _,rfl,za7 _,fun _=>rfl,WO.start i j b,aa _ _⟩
 case round=>
  obtain⟨e,g,e4,rfl,E,N,F,q⟩:=hrel;obtain⟨v,b6⟩:∃ v:World,v=wr:=⟨_,rfl⟩;subst b6;by_cases a3:e<c.length
  ·obtain⟨b7,e5,rfl,b8,a4⟩:=h3 (by intro f;subst f;simp at a3);obtain⟨a,w⟩:∃ O,c[e]?=some O:=⟨c[e],by simp[a3]⟩;obtain⟨a5,c2,a6,a7⟩:=(a4 e a w).below q b8;have b9:=q.size;have e6:b7<v.heap.size:=(by omega);have c0:=qg (kA w);have x:=qg ((qb a1).1 a (zzn w));have a8:0<a.w/\-1000<=a.x/\a.x+a.w<=2000:=⟨(qb x).1,(qb x).2.2.2.1,(qb x).2.2.2.2⟩;have c1:=qg (F.begin ⟨a8.1,a8.2.2⟩ (mU (qb a1).2 w));have G:=qg E;have P:=qg q;have c3:=qg N;clear a4 h3 E F q w N;go_wp2;go_quiet (fail);go_wp2;go_loopw [5,8,27] (fun p c4 Q wr=>∃ (h:Nat)(k:List Rc)(l:Int),h<=b.length/\Q=.int .i64 h/\c4=.int .i64 l/\gw wr d.heap.size p k/\(k=[]->p=.slice none 0 0)/\p.ownBlock≠some v.heap.size/\WN i j (c.take e) a b (b.take h) l k/\Below d.heap.size d wr/\wr.heap[v.heap.size]?=some (Obj.cells #[.int .i64 a.x,.int .i64 a.y,.int .i64 a.w,.int .i64 a.h] 46)) (fun _ _ Q _=>b.length-(intOf Q).toNat)
   case atStart=>exact⟨0,g,a.x,aj _,rfl,rfl,ig (gu (qb G) _) _,qb c3,fun f=>by have:=(ab (qb G) _ f).2;omega,qb c1,ax ((qb P).alloc b9 _) _,qt _ _ _ rfl⟩
   case round=>
    obtain⟨h,k,l,e7,rfl,rfl,H,I,R,m,r,y⟩:=hrel;have e8:=m.lo;have e9:=r.size;have f0:=qh y;have f1:=m.strip.len;obtain⟨f2,f3,f4,f5⟩:=nY y;by_cases a9:h<b.length
    ·obtain⟨c5,f6,rfl,c6,b0⟩:=D (by intro f;subst f;simp at a9);obtain⟨n,s⟩:∃ O,b[h]?=some O:=⟨b[h],by simp[a9]⟩;obtain⟨f7,f8,f9,g0⟩:=(b0 h n s).below r c6;have g1:c5<wr.heap.size:=(by omega);have c7:=qg (kA s);have S:=qg ((qb a2).1 n (zzn s));have c8:0<n.w/\-1000<=n.x/\n.x+n.w<=2000:=⟨(qb S).1,(qb S).2.2.2.1,(qb S).2.2.2.2⟩;have T:=qg (m.step (pP s) (qb x) c8 (oU (qb a2).2 s));have t:=qg H;have U:=qg r;have b1:=qg y;have b2:=qg R;have V:=qg I;clear b0 D H m r y R s a5 c2 a6 a7 I;go_wp2_with (go_at_call 149;refine (hZ d.heap.size _ k a.x a.y a.w a.h l (min n.x (a.x+a.w)) _ (gu (qb t) _) (qb V) (by simp;omega) (by omega) (by omega) (by omega)).mono ?_;rintro f c9 ⟨C,rfl,z,A,o,J⟩;have W:=qg z;have X:=qg A;have d0:=qg J;have g2:=qg o;have B:=qg (zB (au wr _ _) o);obtain⟨g3,g4,g5,g6⟩:=nY (zl o (qt wr _ _ rfl) (by intro f;have:=(ab (qb t) _ f).2;omega));clear z A J o);have g7:=(qb B).size;have d1:=qg (zl (qb B) (qb b1) (qb b2));go_roundw
     case rel=>
      refine⟨h+1,_,_,by omega,by go_num,rfl,qb W,qb X,(qb d0) _ _ _ _ (zl (au wr _ none) (qb b1) (by simp)) rfl (qb b2),?_,(qb U).grown (qb B) (by omega) (gw.tM (qb t)),qb d1⟩;rw[qb c7];exact qb T
     case measure=>simp[intOf];omega
    ·have d2:h=b.length:=(by omega);have T:Hid (WO i j (c.take (e+1)) b (k++iD a l (a.x+a.w))):=(by show WO i j (c.take (e+1)) b (k++iD a l (a.x+a.w));rw[qb c0];rw[d2,aP] at m;exact m.finish (qb x));have t:=qg H;have U:=qg r;have V:=qg I;clear H m r I R y D a5 c2 a6 a7;go_wp2_with (go_at_call 149;refine (hZ d.heap.size _ k a.x a.y a.w a.h l (a.x+a.w) _ (qb t) (qb V) (by omega) (by omega) (by omega) (by omega)).mono ?_;rintro f c9 ⟨C,rfl,z,A,o,J⟩;have W:=qg z;have X:=qg A;have B:=qg o;clear z A J o);go_roundw
     case rel=>exact⟨e+1,_,by omega,by go_num,qb W,qb X,qb T,(qb U).grown (qb B) (by omega) (gw.tM (qb t))⟩
     case measure=>simp[intOf];omega
  ·have d3:e=c.length:=(by omega);have G:=qg E;have b3:=qg F;have P:=qg q;clear E F q h3 D N;go_wp2;go_ret;exact⟨_,g,rfl,qb G,(qb b3).strip,fun u=>by have:=(qb b3).tR u;rw[d3,aP] at this;exact this,qb P⟩
section
open Go.RowKit Go.Proofs.Panes Classical
def lD (y z:Value)(b c:List Rc)(e:World)(K:Rd e y b)(L:Rd e z c)(a1:b.length<=100000000)(a2:c.length<=100000000):Calls Tryz.prog 35 #[y,z] e fun d M=>d=.returned (.bool (decide (b=c)))/\Below e.heap.size e M:=by
 obtain⟨a3,a4,rfl,h1,h2,h3⟩:=K;obtain⟨a5,a6,rfl,a7,a8,A⟩:=L;by_cases f:b.length=c.length
 ·go_enter Tryz.func35,Tryz.ntmps35;rw[<-f];have B:=qg f;clear f;go_wp2;go_loopw [5] (fun q wr=>∃ a:Nat,a<=b.length/\q=.int .i64 a/\b.take a=c.take a/\Below e.heap.size e wr) (fun q _=>b.length-(intOf q).toNat)
  case atStart=>exact⟨0,aj _,rfl,rfl,aa _ _⟩
  case round=>
   obtain⟨a,a9,rfl,g,h⟩:=hrel;by_cases C:a<b.length
   ·have D:a<c.length:=(by have:=qb B;omega);obtain⟨b0,b1,rfl,N,E⟩:=h3 (by intro d;subst d;simp at C);obtain⟨b2,b3,rfl,O,F⟩:=A (by intro d;subst d;simp at D);obtain⟨l,m⟩:∃ r,b[a]?=some r:=⟨b[a],by simp[C]⟩;obtain⟨n,i⟩:∃ r,c[a]?=some r:=⟨c[a],by simp[D]⟩;obtain⟨P,c2,Q,R⟩:=(E a l m).below h N;obtain⟨S,T,U,V⟩:=(F a n i).below h O;have b4:(0:Int)<=(a:Int):=(by omega);have b5:(a:Int)<(b.length:Int):=(by omega);have s:Hid (l=n->b.take (a+1)=c.take (a+1)):=fun d=>by rw[am,am,m,i,g,d]
    have t:Hid (l≠n->decide (b=c)=false):=fun d=>by
     rw[cg];intro W;subst W;rw[m] at i;exact d (aA i)
    have G:=qg h;clear E h3 F A g m i h;obtain⟨j,o,u,H⟩:=l;obtain⟨k,p,v,I⟩:=n;simp only at P c2 Q R S T U V;by_cases w:j=k/\o=p/\u=v/\H=I
    ·obtain⟨rfl,rfl,rfl,rfl⟩:=w;have X:=qg ((qb s) rfl);clear s t;go_wp2;go_quiet (fail);go_wp2;go_roundw
     case rel=>exact⟨a+1,by omega,by go_num,qb X,ax (qb G) _⟩
     case measure=>simp[intOf];omega
    ·have Y:Hid (decide (b=c)=false):=(qb t) (by intro d;injection d with e1 e2 e3 e4;exact w ⟨e1,e2,e3,e4⟩);clear s t;rcases (show j≠k\/(j=k/\o≠p)\/(j=k/\o=p/\u≠v)\/(j=k/\o=p/\u=v/\H≠I) by omega) with x | ⟨rfl,x⟩ | ⟨rfl,rfl,x⟩ | ⟨rfl,rfl,rfl,x⟩;all_goals
      clear w;go_wp2;go_quiet (fail);go_wp2;go_ret;exact⟨by rw[Y.out];rfl,ax (qb G) _⟩
   ·have Z:a=b.length:=(by omega);have a0:Hid (decide (b=c)=true):=(by rw[Z,aP,qb B,aP] at g;exact eC g);clear g;go_wp2;go_ret;exact⟨by rw[a0.out];rfl,h⟩
 ·have J:decide (b=c)=false:=(by rw[cg];intro d;exact f (by rw[d]));rw[J];have b6:((b.length:Int) != (c.length:Int))=true:=(by rw[bne_iff_ne];omega);have b7:=qg f;clear f J;go_enter Tryz.func35,Tryz.ntmps35;go_wp2;all_goals (go_ret;exact⟨rfl,aa _ _⟩)
end
end Go.Proofs.YtbnbkjbfpamijaaGreat
