import Derived.Test.YtbnbkjbfpamijaaGreatAbd
import Derived.Test.YtbnbkjbfpamijaaGreatAbi
set_option linter.all false
set_option maxRecDepth 100000
set_option maxHeartbeats 0
namespace Go.Proofs.YtbnbkjbfpamijaaGreat
open Go.RowKit Go.Proofs.Panes
section
attribute [local go_sem ↓] Go.wp_at_zero Go.wp_at_succ
structure pu (way:Int)(a b R:List Rc):Prop where
 right:ha R
 tO:∀ px py,Qa R px py↔gQ way (gx a px py) (gx b px py)=true
 len:R.length<=100000
def ll (e:Int)(f g:Value)(b c:List Rc)(a:World)(k:Rd a f b)(l:Rd a g c)(m:gH b=true)(n:gH c=true):Calls Tryz.prog 33 #[.int .i64 e,f,g] a fun h q=>∃ i d,h=.returned (.tuple #[i,.int .i64 0])/\gw q a.heap.size i d/\pu e b c d/\Below a.heap.size a q:=by
 have B:=qg k;have C:=qg l;have r:=qg (ii m);have s:=qg (ii n);have t:=qg (zf3 f b a k);rw[m] at t;have D:=fun o h1=>by
  have:=zf3 g c o (l.below h1);rw[n] at this;exact this
 clear k l m n;go_enter Tryz.func33,Tryz.ntmps33;go_wp2_with fail;refine (qb t).mono ?_;rintro h o ⟨rfl,h1⟩;have p:=qg h1;clear h1;go_wp2_with fail;refine ((qb D) o (qb p)).mono ?_;rintro h E ⟨rfl,h2⟩;have F:=(qb p).size;have j:=qg ((qb p).trans (h2.mono F));clear h2;go_wp2_with fail;refine (mg e f g b c E ((qb B).below (qb j)) ((qb C).below (qb j)) (qb r).1 (qb s).1 (qb r).2 (qb s).2).mono ?_;rintro h u ⟨i,d,rfl,v,w,x,y,z⟩;have A:=(qb j).size;have G:=qg (show gw u a.heap.size i d/\pu e b c d/\Below a.heap.size a u from⟨v.mono A,⟨w,x,y⟩,(qb j).trans (z.mono A)⟩);clear v w x y z;go_wp2;go_ret2;exact⟨_,d,rfl,qb G⟩
def iP (q:Int)(d e:Value)(b c:List Rc)(a:World)(j:Rd a d b)(k:Rd a e c)(f:(gH b&&gH c)=false):Calls Tryz.prog 33 #[.int .i64 q,d,e] a fun g r=>g=.returned (.tuple #[.slice none 0 0,.int .i64 1])/\Below a.heap.size a r:=by
 have l:=qg (zf3 d b a j);have m:=fun h h1=>zf3 e c h (k.below h1);clear j k;obtain⟨s,n⟩:=zx (gH b);obtain⟨t,o⟩:=zx (gH c);rw[<-n] at l f;rw[<-o] at m f;clear n o;go_enter Tryz.func33,Tryz.ntmps33;go_wp2_with fail;refine (qb l).mono ?_;rintro g h ⟨rfl,h1⟩;have i:=qg h1;clear h1;go_wp2_with fail;refine ((qb m) h (qb i)).mono ?_;rintro g v ⟨rfl,h2⟩;have u:=(qb i).size;have p:=qg ((qb i).trans (h2.mono u));clear h2;cases s
 ·go_wp2;go_ret2;exact⟨rfl,qb p⟩
 ·cases t
  ·go_wp2;go_ret2;exact⟨rfl,qb p⟩
  ·cases f
end
variable{q:Int}{A B l:List Rc}
section
attribute [local go_sem ↓] Go.wp_at_zero Go.wp_at_succ
def pu.at {i:Int}{b c f:List Rc}(j:pu i b c f)(k:∀ a∈b,ia a)(l:∀ a∈c,ia a){px py:Int}(m:Qa f px py):(-1000<=px/\px<2000)/\(-1000<=py/\py<2000):=by
 have:=(j.tO px py).1 m;have n:Qa b px py\/Qa c px py:=by
  cases g:gx b px py
  ·cases h:gx c px py
   ·rw[g,h,lO] at this;cases this
   ·exact .inr ((gP c px py).1 h)
  ·exact .inl ((gP b px py).1 g)
 rcases n with ⟨a,d,e⟩ | ⟨a,d,e⟩
 ·have:=k a d;unfold ia at this;unfold Rc.tO at e;omega
 ·have:=l a d;unfold ia at this;unfold Rc.tO at e;omega
def pu.inb (b:pu q l B A)(d:∀ a∈l,ia a)(e:∀ a∈B,ia a):∀ a∈A,-1000<=a.x/\a.x+a.w<=2000/\-1000<=a.y/\a.y+a.h<=2000:=fun a c=>by
 have f:=b.right.pos a c;have g:=b.at d e (px:=a.x) (py:=a.y) ⟨a,c,by unfold Rc.tO;omega⟩;have h:=b.at d e (px:=a.x+a.w-1) (py:=a.y+a.h-1) ⟨a,c,by unfold Rc.tO;omega⟩;omega
def nN (l:Value)(h:List Rc)(f:World)(s:Rd f l h)(m:gH h=true):Calls Tryz.prog 31 #[l] f fun i y=>∃ b,pu 1 h [] b/\i=.returned (.tuple #[.int .i64 (hU b),.int .i64 0])/\Below f.heap.size f y:=by
 have z:=qg (ii m);have A:=qg (ll 1 l (.slice none 0 0) h [] f s (kF f) m rfl);clear s m;go_enter Tryz.func31,Tryz.ntmps31;go_wp2_with fail;refine (qb A).mono ?_;rintro i t ⟨J,b,rfl,u,j,n⟩;have v:=qg j;have B:=qg (j.inb (qb z).2 (fun c d=>by simp at d));have K:=j.len;obtain⟨L,M,C,h1,h2,h3⟩:=u.rd;subst C;have D:=qg n;have E:=n.size;clear u j n;go_wp2;go_loopw [6,7] (fun F o wr=>∃ (a:Nat)(e:Int),a<=b.length/\o=.int .i64 a/\F=.int .i64 e/\e=hU (b.take a)/\(0<=e/\e<=9000000*a)/\Below t.heap.size t wr) (fun _ o _=>b.length-(intOf o).toNat)
 case atStart=>exact⟨0,0,aj _,rfl,rfl,rfl,by omega,aa _ _⟩
 case round=>
  obtain⟨a,e,N,rfl,rfl,k,O,g⟩:=hrel;have P:=g.size;by_cases w:a<b.length
  ·obtain⟨Q,R,rfl,G,x⟩:=h3 (by intro i;subst i;simp at w);obtain⟨c,d⟩:∃ c,b[a]?=some c:=⟨b[a],by simp[w]⟩;obtain⟨S,c2,T,U⟩:=(x a c d).below g G;have p:=(qb v).right.pos c (zzn d);have H:=(qb B) c (zzn d);have V:=pL (a:=c.w) (b:=c.h) ⟨p.1,by omega⟩ ⟨p.2,by omega⟩;have W:(0:Int)<=(a:Int):=(by omega);have X:(a:Int)<(b.length:Int):=(by omega);have q:Hid (hU (b.take (a+1))=e+c.w*c.h):=(by show _=_;rw[am,d,k];exact lw _ _);have r:=qg g;clear x h3 k g d p H;go_wp2;go_quiet (fail);go_wp2;go_roundw
   case rel=>exact⟨a+1,e+c.w*c.h,by omega,by go_num,rfl,by rw[qb q],by push_cast;omega,ax (qb r) _⟩
   case measure=>simp[intOf];omega
  ·have I:a=b.length:=(by omega);have q:=qg k;have r:=qg g;clear k h3 g;go_wp2;go_ret2;exact⟨b,qb v,by have:=qb q;rw[I,aP] at this;rw[<-this];rfl,(qb D).trans ((qb r).mono E)⟩
end
section
attribute [local go_sem ↓] Go.wp_at_zero Go.wp_at_succ
def mY (b:Value)(c:List Rc)(a:World)(e:Rd a b c)(f:gH c=false):Calls Tryz.prog 31 #[b] a fun g j=>g=.returned (.tuple #[.int .i64 0,.int .i64 1])/\Below a.heap.size a j:=by
 have k:=qg (iP 1 b (.slice none 0 0) c [] a e (kF a) (by rw[f];rfl));clear e f;go_enter Tryz.func31,Tryz.ntmps31;go_wp2_with fail;refine (qb k).mono ?_;rintro g h ⟨rfl,d⟩;have l:=qg d;have m:=d.size;clear d;go_wp2;go_loopw [6,7] (fun n o wr=>n=.int .i64 0/\o=.int .i64 0/\Below h.heap.size h wr) (fun _ _ _=>0)
 case atStart=>exact⟨rfl,rfl,aa _ _⟩
 case round=>
  obtain⟨rfl,rfl,i⟩:=hrel;have p:=qg i;clear i;go_wp2;go_ret2;exact⟨rfl,(qb l).trans ((qb p).mono m)⟩
def oJ (b:Value)(c:List Rc)(a:World)(d:Rd a b c)(e:gH c=false):Calls Tryz.prog 29 #[b] a fun f h=>f=.returned (.tuple #[.int .i64 0,.int .i64 1])/\Below a.heap.size a h:=by
 have g:=qg (zf5 b c a d);rw[e] at g;clear d e;go_enter Tryz.func29,Tryz.ntmps29;go_wp2_with fail;refine (qb g).mono ?_;rintro f j ⟨rfl,h1⟩;have i:=qg h1;clear h1;go_wp2;go_ret2;exact⟨rfl,qb i⟩
def hs (p:Nat)(g h:Value)(c d:List Rc)(a:World)(k:Rd a g c)(l:Rd a h d)(i:(gH c&&gH d)=false):Calls Tryz.prog 99 #[g,h,.func (.func p) #[] #[]] a fun e q=>e=.returned (.tuple #[.slice none 0 0,.int .i64 1])/\Below a.heap.size a q:=by
 have j:=qg (zf5 g c a k);have m:=fun f h1=>zf5 h d f (l.below h1);clear k l;obtain⟨r,n⟩:=zx (gH c);obtain⟨s,o⟩:=zx (gH d);rw[<-n] at j i;rw[<-o] at m i;clear n o;cases r
 ·go_enter Tryz.func99,Tryz.ntmps99;go_wp2_with fail;refine (qb j).mono ?_;rintro e f ⟨rfl,h1⟩;have b:=qg h1;clear h1;go_wp2;go_ret2;exact⟨rfl,qb b⟩
 ·cases s
  ·go_enter Tryz.func99,Tryz.ntmps99;go_wp2_with fail;refine (qb j).mono ?_;rintro e f ⟨rfl,h1⟩;have b:=qg h1;clear h1;go_wp2_with fail;refine ((qb m) f (qb b)).mono ?_;rintro e v ⟨rfl,h2⟩;have t:=(qb b).size;have u:=qg ((qb b).trans (h2.mono t));clear h2;go_wp2;go_ret2;exact⟨rfl,qb u⟩
  ·cases i
def oz (b c:Value)(d e:List Rc)(a:World)(f:Rd a b d)(g:Rd a c e)(h:(gH d&&gH e)=false):Calls Tryz.prog 61 #[b,c] a fun i j=>i=.returned (.tuple #[.slice none 0 0,.int .i64 1])/\Below a.heap.size a j:=by
 have k:=qg (hs 98 b c d e a f g h);clear f g h;go_enter Tryz.func61,Tryz.ntmps61;go_wp2_with fail;refine (qb k).mono ?_;rintro i j ⟨rfl,h1⟩;have l:=qg h1;clear h1;go_wp2;go_ret2;exact⟨rfl,qb l⟩
def lH (b c:Value)(d e:List Rc)(a:World)(f:Rd a b d)(g:Rd a c e)(h:(gH d&&gH e)=false):Calls Tryz.prog 62 #[b,c] a fun i j=>i=.returned (.tuple #[.slice none 0 0,.int .i64 1])/\Below a.heap.size a j:=by
 have k:=qg (hs 100 b c d e a f g h);clear f g h;go_enter Tryz.func62,Tryz.ntmps62;go_wp2_with fail;refine (qb k).mono ?_;rintro i j ⟨rfl,h1⟩;have l:=qg h1;clear h1;go_wp2;go_ret2;exact⟨rfl,qb l⟩
def mh (b c:Value)(d e:List Rc)(a:World)(f:Rd a b d)(g:Rd a c e)(h:(gH d&&gH e)=false):Calls Tryz.prog 63 #[b,c] a fun i j=>i=.returned (.tuple #[.slice none 0 0,.int .i64 1])/\Below a.heap.size a j:=by
 have k:=qg (hs 101 b c d e a f g h);clear f g h;go_enter Tryz.func63,Tryz.ntmps63;go_wp2_with fail;refine (qb k).mono ?_;rintro i j ⟨rfl,h1⟩;have l:=qg h1;clear h1;go_wp2;go_ret2;exact⟨rfl,qb l⟩
def oX (b:Value)(c:List Rc)(a:World)(d:Rd a b c)(e:gH c=false):Calls Tryz.prog 64 #[b] a fun f g=>f=.returned (.tuple #[.slice none 0 0,.int .i64 1])/\Below a.heap.size a g:=by
 have h:=qg (hs 98 b (.slice none 0 0) c [] a d (kF a) (by rw[e];rfl));clear d e;go_enter Tryz.func64,Tryz.ntmps64;go_wp2_with fail;refine (qb h).mono ?_;rintro f g ⟨rfl,h1⟩;have i:=qg h1;clear h1;go_wp2;go_ret2;exact⟨rfl,qb i⟩
end
variable{w w2:World}{v:Value}
section
attribute [local go_sem ↓] Go.wp_at_zero Go.wp_at_succ
def hk (a:Int):Int:=if a=3 then 2 else if a=4 then 3 else 1
def oe (a:Int)(b:World):Calls Tryz.prog 34 #[.int .i64 a] b fun c d=>c=.returned (.int .i64 (hk a))/\d=b:=by
 by_cases h3:a=3
 ·subst h3;go_enter Tryz.func34,Tryz.ntmps34;go_wp2;go_ret;exact⟨rfl,rfl⟩
 ·by_cases h4:a=4
  ·subst h4;go_enter Tryz.func34,Tryz.ntmps34;go_wp2;go_ret;exact⟨rfl,rfl⟩
  ·have e:Hid (hk a=1):=(by show _=_;simp[hk,h3,h4]);go_enter Tryz.func34,Tryz.ntmps34;go_wp2;go_ret;exact⟨by rw[qb e];rfl,rfl⟩
def sX {c:List Rc}{d:Int->Int->Prop}(e:ou w w2 v A d)(f:pu q l B c)(g:∀ a b,d a b↔gQ q (gx l a b) (gx B a b)=true):A=c:=
 za3 e.right f.right fun a b=>(e.tO a b).trans ((g a b).trans (f.tO a b).symm)
def oy (c d:List Rc)(a b:Int):(Qa c a b\/Qa d a b)↔gQ 1 (gx c a b) (gx d a b)=true:=by
 rw[<-gP,<-gP];cases gx c a b<;>cases gx d a b<;>simp[gQ]
def lC (c d:List Rc)(a b:Int):(Qa c a b/\Qa d a b)↔gQ 2 (gx c a b) (gx d a b)=true:=by
 rw[<-gP,<-gP];cases gx c a b<;>cases gx d a b<;>simp[gQ]
def mf (c d:List Rc)(a b:Int):(Qa c a b/\¬Qa d a b)↔gQ 3 (gx c a b) (gx d a b)=true:=by
 rw[<-gP,<-gP];cases gx c a b<;>cases gx d a b<;>simp[gQ]
def lN (c:List Rc)(a b:Int):Qa c a b↔gQ 1 (gx c a b) (gx [] a b)=true:=by
 rw[<-gP,pR];cases gx c a b<;>simp[gQ]
end
section
attribute [local go_sem ↓] Go.wp_at_zero Go.wp_at_succ
structure lL (w w':World)(v:Value)(way:Int)(a b R:List Rc):Prop where
 own:gw w' w.heap.size v R
 only:∀ D,pu way a b D->R=D
 len:R.length<=20000000
 below:Below w.heap.size w w'
def ou.fits {b:Int->Int->Prop}(a:ou w w2 v A b)(c:∀ px py,b px py↔gQ q (gx l px py) (gx B px py)=true):lL w w2 v q l B A:=
 ⟨a.own,fun _ d=>sX a d c,a.len,a.below⟩
def nW (g h:Value)(a b:List Rc)(c:World)(j:Rd c g a)(k:Rd c h b)(l:gH a=true)(m:gH b=true):Calls Tryz.prog 32 #[.int .i64 2,g,h] c fun i d=>∃ e f,i=.returned (.tuple #[e,.int .i64 0])/\lL c d e (hk 2) a b f:=by
 have o:=qg (pA g h a b c j k l m);clear j l m k;go_enter Tryz.func32,Tryz.ntmps32;go_wp2_with fail;refine (qb o).mono ?_;rintro i d ⟨e,f,rfl,n⟩;have p:=qg (show lL c d e (hk 2) a b f from n.fits fun q r=>oy a b q r);clear n;go_wp2_with (go_at_call 14;refine (Z4 _ _).mono ?_;rintro i d ⟨rfl,rfl⟩);go_ret2;exact⟨_,f,rfl,qb p⟩
def ng (b c:Value)(d e:List Rc)(a:World)(h:Rd a b d)(i:Rd a c e)(kk:(gH d&&gH e)=false):Calls Tryz.prog 32 #[.int .i64 2,b,c] a fun f g=>f=.returned (.tuple #[.slice none 0 0,.int .i64 1])/\Below a.heap.size a g:=by
 have j:=qg (oz b c d e a h i kk);clear h i kk;go_enter Tryz.func32,Tryz.ntmps32;go_wp2_with fail;refine (qb j).mono ?_;rintro f g ⟨rfl,h1⟩;have k:=qg h1;clear h1;go_wp2_with (go_at_call 14;refine (Z4 _ _).mono ?_;rintro f g ⟨rfl,rfl⟩);go_ret2;exact⟨rfl,qb k⟩
def nV (g h:Value)(a b:List Rc)(c:World)(j:Rd c g a)(k:Rd c h b)(l:gH a=true)(m:gH b=true):Calls Tryz.prog 32 #[.int .i64 3,g,h] c fun i d=>∃ e f,i=.returned (.tuple #[e,.int .i64 0])/\lL c d e (hk 3) a b f:=by
 have o:=qg (mu g h a b c j k l m);clear j l m k;go_enter Tryz.func32,Tryz.ntmps32;go_wp2_with fail;refine (qb o).mono ?_;rintro i d ⟨e,f,rfl,n⟩;have p:=qg (show lL c d e (hk 3) a b f from n.fits fun q r=>lC a b q r);clear n;go_wp2_with (go_at_call 14;refine (Z4 _ _).mono ?_;rintro i d ⟨rfl,rfl⟩);go_ret2;exact⟨_,f,rfl,qb p⟩
def nf (b c:Value)(d e:List Rc)(a:World)(h:Rd a b d)(i:Rd a c e)(kk:(gH d&&gH e)=false):Calls Tryz.prog 32 #[.int .i64 3,b,c] a fun f g=>f=.returned (.tuple #[.slice none 0 0,.int .i64 1])/\Below a.heap.size a g:=by
 have j:=qg (lH b c d e a h i kk);clear h i kk;go_enter Tryz.func32,Tryz.ntmps32;go_wp2_with fail;refine (qb j).mono ?_;rintro f g ⟨rfl,h1⟩;have k:=qg h1;clear h1;go_wp2_with (go_at_call 14;refine (Z4 _ _).mono ?_;rintro f g ⟨rfl,rfl⟩);go_ret2;exact⟨rfl,qb k⟩
def nT (g h:Value)(a b:List Rc)(c:World)(j:Rd c g a)(k:Rd c h b)(l:gH a=true)(m:gH b=true):Calls Tryz.prog 32 #[.int .i64 4,g,h] c fun i d=>∃ e f,i=.returned (.tuple #[e,.int .i64 0])/\lL c d e (hk 4) a b f:=by
 have o:=qg (mL g h a b c j k l m);clear j l m k;go_enter Tryz.func32,Tryz.ntmps32;go_wp2_with fail;refine (qb o).mono ?_;rintro i d ⟨e,f,rfl,n⟩;have p:=qg (show lL c d e (hk 4) a b f from n.fits fun q r=>mf a b q r);clear n;go_wp2_with (go_at_call 14;refine (Z4 _ _).mono ?_;rintro i d ⟨rfl,rfl⟩);go_ret2;exact⟨_,f,rfl,qb p⟩
def nc (b c:Value)(d e:List Rc)(a:World)(h:Rd a b d)(i:Rd a c e)(kk:(gH d&&gH e)=false):Calls Tryz.prog 32 #[.int .i64 4,b,c] a fun f g=>f=.returned (.tuple #[.slice none 0 0,.int .i64 1])/\Below a.heap.size a g:=by
 have j:=qg (mh b c d e a h i kk);clear h i kk;go_enter Tryz.func32,Tryz.ntmps32;go_wp2_with fail;refine (qb j).mono ?_;rintro f g ⟨rfl,h1⟩;have k:=qg h1;clear h1;go_wp2_with (go_at_call 14;refine (Z4 _ _).mono ?_;rintro f g ⟨rfl,rfl⟩);go_ret2;exact⟨rfl,qb k⟩
def nX (g i:Value)(a c:List Rc)(b:World)(j:Rd b g a)(m:Rd b i c)(k:gH a=true)(n:gH c=true)(o:c=[]):Calls Tryz.prog 32 #[.int .i64 1,g,i] b fun h d=>∃ e f,h=.returned (.tuple #[e,.int .i64 0])/\lL b d e (hk 1) a c f:=by
 have p:=qg (pU g a b j k);subst o;clear j k n m;go_enter Tryz.func32,Tryz.ntmps32;go_wp2_with fail;refine (qb p).mono ?_;rintro h d ⟨e,f,rfl,l⟩;have q:=qg (show lL b d e (hk 1) a [] f from l.fits fun r s=>lN a r s);clear l;go_wp2_with (go_at_call 14;refine (Z4 _ _).mono ?_;rintro h d ⟨rfl,rfl⟩);go_ret2;exact⟨_,f,rfl,qb q⟩
def nh (c g:Value)(b d:List Rc)(a:World)(h:Rd a c b)(i:Rd a g d)(kk:(gH b&&gH d)=false)(j:d=[]):Calls Tryz.prog 32 #[.int .i64 1,c,g] a fun e f=>e=.returned (.tuple #[.slice none 0 0,.int .i64 1])/\Below a.heap.size a f:=by
 have k:=qg (oX c b a h (by subst j;cases l:gH b;rfl;rw[l] at kk;cases kk));clear h i kk;go_enter Tryz.func32,Tryz.ntmps32;go_wp2_with fail;refine (qb k).mono ?_;rintro e f ⟨rfl,h1⟩;have m:=qg h1;clear h1;go_wp2_with (go_at_call 14;refine (Z4 _ _).mono ?_;rintro e f ⟨rfl,rfl⟩);go_ret2;exact⟨rfl,qb m⟩
end
end Go.Proofs.YtbnbkjbfpamijaaGreat
