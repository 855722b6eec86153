import Derived.Test.YtbnbkjbfpamijaaGreatAbb
set_option linter.all false
set_option maxRecDepth 100000
set_option maxHeartbeats 0
namespace Go.Proofs.YtbnbkjbfpamijaaGreat
open Go.RowKit Go.Proofs.Panes
variable{q:Int}{u:gv}{m':List (Int×Int)}{i n:Nat}{z:Value}
def vW (a:List gv)(b:Int)(k:Nat):Nat:=((a.take k).filter (fun c=>!(c.cl == b))).length
def sT (a:List gv)(b:Int)(k:Nat):(Qr a b k)[vW a b k]?=a[k]?:=by
 unfold Qr vW;rw[aq (zzl _),cL,bw];rfl
def qt0 (a:List gv)(b:Int)(k:Nat):(Qr a b k).length=vW a b k+(a.length-k):=by
 unfold Qr vW;rw[ae,aV]
def qs9 {d:Dc}{k:Nat}(a:d.l[k]?=some u)(b:¬u.cl=q):jV d q (k+1)=jV d q k/\vW d.l q (k+1)=vW d.l q k+1:=by
 have c:d.l.take (k+1)=d.l.take k++[u]:=(by rw[am,a];rfl);have f:d.l.drop k=u::d.l.drop (k+1):=(by obtain⟨g,h⟩:=zzg a;rw[bu g,h]);have e:[u].filter (fun u=>!(u.cl == q))=[u]:=(by simp[b]);have i:xa d q (k+1)=xa d q k:=by
  conv=>lhs;unfold xa
  rw[a];simp only;rw[ah b]
 refine⟨?_,?_⟩
 ·unfold jV;rw[i];have:Qr d.l q (k+1)=Qr d.l q k:=(by unfold Qr;rw[c,ce,e,aN,f];rfl);rw[this]
 ·unfold vW;rw[c,ce,e,ae];rfl
def rH {d:Dc}{k:Nat}(a:d.l[k]?=some u)(b:u.cl=q):jV d q (k+1)={zw (jV d q k) u with l:=(jV d q k).l.eraseIdx (vW d.l q k)}/\vW d.l q (k+1)=vW d.l q k:=by
 have c:d.l.take (k+1)=d.l.take k++[u]:=(by rw[am,a];rfl);have f:d.l.drop k=u::d.l.drop (k+1):=(by obtain⟨g,h⟩:=zzg a;rw[bu g,h]);have e:[u].filter (fun u=>!(u.cl == q))=[]:=(by simp[b]);have i:xa d q (k+1)=zw (xa d q k) u:=by
  conv=>lhs;unfold xa
  rw[a];simp only;rw[an b]
 refine⟨?_,?_⟩
 ·have:Qr d.l q (k+1)=(Qr d.l q k).eraseIdx (vW d.l q k):=(by unfold Qr vW;rw[c,ce,e,aW,f,List.eraseIdx_append_of_length_le (zzl _),cL];rfl);unfold jV;rw[i];simp only;rw[this];rfl
 ·unfold vW;rw[c,ce,e,aW]
def ZJ (b:List (Int×Int))(a:Int):jQ b a=zT a b:=by
 unfold jQ zT;refine fV fun c _=>?_;by_cases e:c.1=a<;>simp[e]
def Xe (w:World)(rp:Nat):Nat:=match w.cell? ⟨rp,9,none⟩ with | some (.slice _ n _)=>n | _=>0
section
variable {D U:Nat->Prop}{qo:Nat->Nat}{w w1 w2 w':World}{rp cb j:Nat}{d d' d'':Dc}{v:Dv}{tI:List Value}{k:gF}
def qU.wi (b:qU D U qo w rp d v tI)(a:Int):jt v.cl a=jS d.ks a:=by
 unfold jt jS;by_cases i:0<=a
 ·obtain⟨c,l⟩:=zx a.toNat;rw[<-l];cases e:d.ks[c]? with
  | none=>
   have m:v.cl.length<=c:=(by rw[b.kn];exact fc.1 e);rw[aI m]
  | some f=>
   obtain⟨o,g,p⟩:=b.kl c f e;obtain⟨q,h,n⟩:=b.there g;rw[e] at h;have:=aA h;subst this;rw[g];simp only[n];cases f<;>simp
 ·simp[i]
def qU.vr (a:qU D U qo w rp d v tI):Xe w rp=d.l.length/\(∃ b c,w.cell? ⟨rp,9,none⟩=some (.slice b d.l.length c))/\rp<w.heap.size/\d.l.length<=16:=by
 obtain⟨b,c,e⟩:=qr a.sc.sf.own;rw[yn a.sc] at e;have f:w.cell? ⟨rp,9,none⟩=some (.slice b d.l.length c):=(by rw[a.sc.c9,e]);exact⟨by unfold Xe;rw[f],⟨b,c,f⟩,qh a.sc.nS,a.sc.len⟩
def qX.vr (a:qX D U qo w rp cb d w1):Xe w1 rp=d.l.length/\(∃ b c,w1.cell? ⟨rp,9,none⟩=some (.slice b d.l.length c))/\rp<w1.heap.size/\d.l.length<=16:=by
 obtain⟨f,g,h,e,-⟩:=a;exact e.vr
def qU.rows (c:qU D U qo w rp d v tI)(y:∀ a,U a->a<w.heap.size)(i:gp (fun a=>a=rp) w w'){mv' wv':Value}{wt':List (Int×Int)}(G:w'.heap[rp]?=some (.cells (iC {d with marks:=m',wait:=wt'} {v with mv:=mv',wv:=wv'}) 121))(z:jM w' 0 mv' m')(A:jM w' 0 wv' wt')(H:∀ a,mv'.ownBlock=some a->wv'.ownBlock≠some a)(I:∀ a,mv'.ownBlock=some a->v.mv.ownBlock=some a\/w.heap.size<=a) (B:∀ a,wv'.ownBlock=some a->v.wv.ownBlock=some a\/w.heap.size<=a):qX D U qo w rp v.cb {d with marks:=m',wait:=wt'} w':=by
 obtain⟨q,c2,J,K,L,M⟩:=c.cb;have n:∀ {k:Nat}{o:Array Value}{C:TypeId}{r:Nat×Nat},w.heap[k]?=some (.cells o C r)->C≠121->¬k=rp:=fun f s b=>by
  rw[b,c.sc.nS] at f;simp only[ac,cJ] at f;exact s f.2.1.symm
 have t:∀ {b:TypeId}{N:Nat}{E:Value}{O:Nat}{P:List Value}{Q:Nat},w.ownsRow Q b N E O P->121≠b->∀ k,E.ownBlock=some k->¬k=rp:=fun R s k f b=>qq R c.sc.nS s (by rw[<-b];exact f);have F:∀ k,U k->¬k=rp:=fun k p b=>c.dU k (by rw[b];exact q) p;have X:=i.size;have u:∀ a,D a->grow D w w' a:=fun a e=>.inl e;have S:∀ k,wv'.ownBlock=some k->¬U k:=fun k f p=>by
  rcases B k f with b | b
  ·exact c.sc.wU k b p
  ·have:=y k p;omega
 refine⟨grow D w w',{v with mv:=mv',wv:=wv'},tI,⟨⟨G,fun h l=>⟨qi (c.sc.st h l).1 i (t (c.sc.st h l).1 (by decide)),(c.sc.st h l).2⟩,c.sc.gi,c.sc.sf.but i (t c.sc.sf.own (by decide)) F,c.sc.pl,c.sc.tL,c.sc.cfg,c.sc.len,A,S⟩,i.heap c.cls (n c.cls (by decide)),c.kn,fun h a e=>?_,fun h l=>((c.uP h l).but i (fun k o r m=>n m (by decide))).mono u,fun g=>((c.uT g).but i (fun k o r m=>n m (by decide))).mono u,z,H,c.wg,⟨.inl q,.inl c2,fun h l=>.inl (J h l),fun a e=>.inl (K a e),fun a e=>?_,fun a e=>?_⟩,fun a e=>.inl (c.qd a e),fun a e b=>?_,fun a e=>?_⟩,fun a e=>e.imp id (fun g=>g.1),rfl,i.wide fun a _ b=>by rw[b];exact q⟩
 ·obtain⟨T,V,x⟩:=c.kl h a e;refine⟨T,V,(x.but i (fun k f b=>?_) (fun k o _ m=>n m (by decide)) F).mono u (fun _ b=>b)⟩;cases a with
  | none=>
   have:=x;rw[this] at f;cases f
  | some kk=>
   obtain⟨Y,W⟩:=x;exact t W.wl (by decide) k f b
 ·rcases B a e with b | b
  ·exact .inl (L a b)
  ·exact .inr ⟨b,(ab A a e).2⟩
 ·rcases I a e with b | b
  ·exact .inl (M a b)
  ·exact .inr ⟨b,(ab z a e).2⟩
 ·rcases e with g | g
  ·exact c.dU a g b
  ·have:=y a b;omega
 ·rcases e with g | g
  ·have:=c.dl a g;omega
  ·exact g.2
def XC {w:World}{v:Value}(a:jM w n v m')(b:i<=n):jM w i v m':=
 ⟨a.1,a.2.imp id (fun ⟨c,e,f,g,h,l⟩=>⟨c,e,f,g,aO b h,l⟩)⟩
def qU.uY (c:qU D U qo w rp d v tI)(m:∀ a,U a->a<w.heap.size)(l:Below w.heap.size w w1)(e:jM w1 w.heap.size z m'):qX D U qo w rp v.cb {d with marks:=m'} (w1.setCell ⟨rp,24,none⟩ z):=by
 have f:=c.below l;have h:gp (fun a=>a=rp) w1 (w1.setCell ⟨rp,24,none⟩ z):=(gp.refl (fun a=>a=rp) w1).setCell (p:=⟨rp,24,none⟩) (.inl rfl) _;have n:=qh c.sc.nS;refine c.rows m ((gp.aD l).trans h) (mv':=z) (wv':=v.wv) (m':=m') (wt':=d.wait) (qp (i:=24) f.sc.nS _) (qi (XC e (aj _)) h (fun a b g=>?_)) (qi f.sc.wt h (fun a b g=>qq f.sc.wt f.sc.nS (by decide) (by rw[<-g];exact b))) (fun a b g=>?_) (fun a b=>.inr (ab e a b).1) (fun a b=>.inl b)
 ·have:=(ab e a b).1;omega
 ·have o:=(ab e a b).1;have q:=(ab c.sc.wt a g).2;omega
def qU.vv (c:qU D U qo w rp d v tI)(m:∀ a,U a->a<w.heap.size)(l:Below w.heap.size w w1)(e:jM w1 w.heap.size z m'):qX D U qo w rp v.cb {d with wait:=m'} (w1.setCell ⟨rp,25,none⟩ z):=by
 have f:=c.below l;have h:gp (fun a=>a=rp) w1 (w1.setCell ⟨rp,25,none⟩ z):=(gp.refl (fun a=>a=rp) w1).setCell (p:=⟨rp,25,none⟩) (.inl rfl) _;have n:=qh c.sc.nS;refine c.rows m ((gp.aD l).trans h) (mv':=v.mv) (wv':=z) (m':=d.marks) (wt':=m') (qp (i:=25) f.sc.nS _) (qi f.tN h (fun a b g=>qq f.tN f.sc.nS (by decide) (by rw[<-g];exact b))) (qi (XC e (aj _)) h (fun a b g=>?_)) (fun a b g=>?_) (fun a b=>.inl b) (fun a b=>.inr (ab e a b).1)
 ·have:=(ab e a b).1;omega
 ·have o:=(ab e a g).1;have q:=(ab c.tN a b).2;omega
def qU.gone (a:qU D U qo w rp d v tI)(l:j<d.ks.length):qX D U qo w rp v.cb {d with ks:=d.ks.set j none} ((((w.setCell ⟨v.cb,j*4,none⟩ (.bool false)).setCell ⟨v.cb,j*4+1,none⟩ (.slice none 0 0)).setCell ⟨v.cb,j*4+2,none⟩ (.int .i64 0)).setCell ⟨v.cb,j*4+3,none⟩ (.slice none 0 0)):=by
 have n:j<v.cl.length:=(by rw[a.kn];exact l);obtain⟨m,o⟩:∃ m,v.cl[j]?=some m:=⟨v.cl[j],by simp⟩;have g:gp (fun k=>k=v.cb) w ((((w.setCell ⟨v.cb,j*4,none⟩ (.bool false)).setCell ⟨v.cb,j*4+1,none⟩ (.slice none 0 0)).setCell ⟨v.cb,j*4+2,none⟩ (.int .i64 0)).setCell ⟨v.cb,j*4+3,none⟩ (.slice none 0 0)):=(by have f:∀ (j:Nat)(h:Value){i:World},gp (fun k=>k=v.cb) w i->gp (fun k=>k=v.cb) w (i.setCell ⟨v.cb,j,none⟩ h):=fun j h i a=>a.setCell (p:=⟨v.cb,j,none⟩) (.inl rfl) h;exact f _ _ (f _ _ (f _ _ (f _ _ (gp.refl _ w)))));have q:=qf4 a.cls ⟨false,.slice none 0 0,0,.slice none 0 0⟩ n;have r:=a.wK (D':=D) (qo':=qo) (x':=none) (cl':=⟨false,.slice none 0 0,0,.slice none 0 0⟩) l o g (fun b c=>.inl c) q rfl (fun s t c=>by cases c) (fun b e=>e) a.dU (fun b e=>zzm (a.dl b e) g.size) (fun b _=>rfl) a.qd;exact⟨D,_,tI,r,fun b e=>.inl e,rfl,g.wide fun b _ c=>by rw[c];exact a.cb.2.1⟩
def qU.take1 (b:qU D U qo w rp d v tI)(x:∀ m,U m->m<w.heap.size)(o:d.l[n]?=some u):∃ p q e y f,qz w rp p d.l.length q n u e y f/\ Calls Tryz.prog 45 #[.pointer (some ⟨rp,0,none⟩),.agg #[.int .i64 u.cl,.int .i64 u.num,.int .i64 u.x,.int .i64 u.y,.int .i64 u.w,.int .i64 u.h,.slice e y f,.int .i64 u.dx,.int .i64 u.dy,.int .i64 u.left]] w fun a r=>a=.returned (.tuple #[])/\ Calls Tryz.prog 46 #[.pointer (some ⟨rp,0,none⟩),.int .i64 (n:Int)] r fun a c=>∃ g z h,a=.returned (.slice g z h)/\(∃ G,c.cell? ⟨rp,9,none⟩=some G)/\c.frozen? ⟨rp,9,none⟩=false/\rp<c.heap.size/\qX D U qo w rp v.cb {zw d u with l:=d.l.eraseIdx n} (c.setCell ⟨rp,9,none⟩ (.slice g z h)):=by
 obtain⟨p,q,e,f,H,-,-,-,-,I,-,J,-,-⟩:=b.sc.at o;have K:=(zzg o).1;have V:=b.sc.len;refine⟨p,q,e,u.px.length,f,(b.sc.wj o H I).1,(jK b.sc u J e u.px.length f).mono ?_⟩;rintro a r ⟨rfl,i,A⟩;have W:=A.size;refine⟨rfl,(vN (i:=n) i K).mono ?_⟩;rintro a c ⟨B,rfl,C,E⟩;have s:=(E.block rp (qh i.nS)).trans i.nS;obtain⟨g,h,F⟩:=qr C.own;have L:((zw d u).l.eraseIdx n).length<=16:=(by show (d.l.eraseIdx n).length<=16;rw[bZ];split<;>omega);obtain⟨M,k2,N⟩:=i.lay (fun k t=>by have:=x k t;omega) E C (by rw[bZ,bZ,b.sc.pl];rfl) L;have O:jX U w rp v {zw d u with l:=d.l.eraseIdx n} (c.setCell ⟨rp,9,none⟩ B):=(by refine⟨⟨B,v.wv,_,M,fun k t=>.inr (by have:=N k t;omega),fun k a=>.inl a⟩,?_⟩;have P:gp (sL rp v) w r:=A.wide fun k _ a=>.inl a;exact P.step k2 fun k a=>.inl (.inl (.inl a)));obtain⟨X,Y,Z,Q,R⟩:=b.go x O ⟨rfl,rfl,rfl,rfl,rfl,rfl,rfl,rfl,rfl,rfl,rfl,rfl⟩;refine⟨g,_,h,by rw[F],⟨_,qe s 9⟩,qj s 9,qh s,?_⟩;rw[<-F];exact⟨_,_,_,Q,fun m S=>S.imp id (fun T=>T.1),rfl,R⟩
end
variable{ro:Option Addr}
section
variable {D U:Nat->Prop}{qo:Nat->Nat}{w w1 w2 w':World}{rp cb j:Nat}{d d' d'':Dc}{v:Dv}{tI:List Value}{k:gF}
def Zx (a:qU D U qo w rp d v tI)(b:Int)(e:jS d.ks b=false):Calls Tryz.prog 16 #[.pointer (some ⟨rp,0,none⟩),.int .i64 b] w fun f w'=>f=.returned (.int .i64 3)/\w'=w:=by
 have c:=v6 a.uD b;rw[a.wi,e] at c;have g:=qg c;clear c a e;go_enter Tryz.func16,Tryz.ntmps16;go_wp2_with (go_at_call 44;refine (qb g).mono ?_;rintro f w1 ⟨rfl,rfl⟩)
 go_ret;exact⟨rfl,rfl⟩
def qX.mcell (h:qX D U qo w rp cb d w1):∃ b c e f,w1.cell? ⟨rp,24,none⟩=some (.slice b d.marks.length c)/\w1.cell? ⟨rp,25,none⟩=some (.slice e d.wait.length f)/\rp<w1.heap.size/\(∀ g,w1.frozen? ⟨rp,g,none⟩=false):=by
 obtain⟨m,n,o,a,-⟩:=h;obtain⟨b,c,i⟩:=qr a.tN;obtain⟨e,f,l⟩:=qr a.sc.wt;refine⟨b,c,e,f,?_,?_,qh a.sc.nS,fun g=>qj a.sc.nS g⟩
 ·rw[<-i];exact qe a.sc.nS 24
 ·rw[<-l];exact qe a.sc.nS 25
def qX.oth1 (f:qX D U qo w rp cb d w1)(p:∀ b,U b->b<w.heap.size)(g:Int)(q:d.marks.length<=1000000000)(r:w1.cell? ⟨rp,24,none⟩=some (.slice ro d.marks.length n))(s:w1.cell? ⟨rp,25,none⟩=some z):Calls Tryz.prog 47 #[.slice ro d.marks.length n,.int .i64 g] w1 fun l w2=>∃ c m e,l=.returned (.slice c m e)/\(∃ t,w2.cell? ⟨rp,24,none⟩=some t)/\w2.cell? ⟨rp,25,none⟩=some z/\w2.frozen? ⟨rp,24,none⟩=false/\rp<w2.heap.size/\qX D U qo w rp cb {d with marks:=zT g d.marks} (w2.setCell ⟨rp,24,none⟩ (.slice c m e)):=by
 have u:=f.choose_spec.choose_spec.choose_spec.2.2.2.size;have x:=f;obtain⟨F,y,G,a,H,I,J⟩:=f;have A:y.mv=.slice ro d.marks.length n:=(by have:=qe a.sc.nS 24;rw[r] at this;exact (aA this).symm);rw[<-A];refine (Jt a.tN q g).mono ?_;rintro l w2 ⟨K,rfl,o,h⟩;obtain⟨c,e,rfl⟩:=qr o;have i:w2.heap[rp]?=_:=(h.block rp (qh a.sc.nS)).trans a.sc.nS;refine⟨c,_,e,rfl,⟨_,qe i 24⟩,by rw[<-s];exact h.cell (qh a.sc.nS),qj i 24,qh i,?_⟩;rw[<-ZJ];exact x.trans fun L M N B C=>by rw[<-C];exact B.uY (fun b E=>zzm (p b E) u) h o
def qX.oth2 (f:qX D U qo w rp cb d w1)(o:∀ a,U a->a<w.heap.size)(g:Int)(p:d.wait.length<=1000000000){mo:Option Addr}{mc:Nat}(q:w1.cell? ⟨rp,25,none⟩=some (.slice mo d.wait.length mc)):Calls Tryz.prog 47 #[.slice mo d.wait.length mc,.int .i64 g] w1 fun i w2=>∃ b l c,i=.returned (.slice b l c)/\(∃ r,w2.cell? ⟨rp,25,none⟩=some r)/\w2.frozen? ⟨rp,25,none⟩=false/\rp<w2.heap.size/\qX D U qo w rp cb {d with wait:=zT g d.wait} (w2.setCell ⟨rp,25,none⟩ (.slice b l c)):=by
 have s:=f.choose_spec.choose_spec.choose_spec.2.2.2.size;have t:=f;obtain⟨B,u,C,e,E,F,G⟩:=f;have x:u.wv=.slice mo d.wait.length mc:=(by have:=qe e.sc.nS 25;rw[q] at this;exact (aA this).symm);rw[<-x];refine (Jt e.sc.wt p g).mono ?_;rintro i w2 ⟨H,rfl,m,n⟩;obtain⟨b,c,rfl⟩:=qr m;have h:w2.heap[rp]?=_:=(n.block rp (qh e.sc.nS)).trans e.sc.nS;refine⟨b,_,c,rfl,⟨_,qe h 25⟩,qj h 25,qh h,?_⟩;rw[<-ZJ];exact t.trans fun I J K y z=>by rw[<-z];exact y.vv (fun a A=>zzm (o a A) s) n m
def qX.wH (m:qX D U qo w rp cb (jV d q n) w1)(z:∀ b,U b->b<w.heap.size)(o:d.l[n]?=some u):∃ p r e f g,qz w1 rp p (jV d q n).l.length r (vW d.l q n) u e f g/\ (¬u.cl=q->qX D U qo w rp cb (jV d q (n+1)) w1)/\ (u.cl=q->Calls Tryz.prog 45 #[.pointer (some ⟨rp,0,none⟩),.agg #[.int .i64 u.cl,.int .i64 u.num,.int .i64 u.x,.int .i64 u.y,.int .i64 u.w,.int .i64 u.h,.slice e f g,.int .i64 u.dx,.int .i64 u.dy,.int .i64 u.left]] w1 fun a t=>a=.returned (.tuple #[])/\ Calls Tryz.prog 46 #[.pointer (some ⟨rp,0,none⟩),.int .i64 (vW d.l q n:Int)] t fun a c=>∃ h i l,a=.returned (.slice h i l)/\(∃ A,c.cell? ⟨rp,9,none⟩=some A)/\c.frozen? ⟨rp,9,none⟩=false/\rp<c.heap.size/\qX D U qo w rp cb (jV d q (n+1)) (c.setCell ⟨rp,9,none⟩ (.slice h i l))):=by
 have B:=m.choose_spec.choose_spec.choose_spec.2.2.2.size;have C:=m;obtain⟨Y,Z,a0,E,x,F,y⟩:=m;have G:=fun b s=>zzm (z b s) B;have H:=(sT d.l q n).trans o;obtain⟨p,r,e,f,g,I,J⟩:=E.take1 G H;refine⟨p,r,e,f,g,I,fun K=>by rw[(qs9 o K).1];exact C,fun L=>J.mono ?_⟩;rintro a t ⟨rfl,M⟩;refine⟨rfl,M.mono ?_⟩;rintro a c ⟨h,i,l,rfl,N,k2,O,P⟩;refine⟨h,i,l,rfl,N,k2,O,?_⟩;rw[(rH o L).1];have a1:=y;obtain⟨Q,R,S,T,V,W,X⟩:=P;refine⟨Q,R,S,T,fun b s=>?_,W.trans F,y.step X x⟩;rcases V b s with a | a
 ·exact x b a
 ·exact .inr (by omega)
def JP (e:qU D U qo w rp d v tI)(a7:∀ p,U p->p<w.heap.size)(a:Nat)(s:jS d.ks a=true)(O:d.marks.length<=1000000000)(a8:d.wait.length<=1000000000)(f9:d.ks.length<=1000):Calls Tryz.prog 16 #[.pointer (some ⟨rp,0,none⟩),.int .i64 (a:Int)] w fun l w'=>l=.returned (.int .i64 0)/\qX D U qo w rp v.cb (yj d a) w':=by
 have P:=v6 e.uD (a:Int);rw[e.wi,s] at P;have Q:a<d.ks.length:=by
  rcases cz a d.ks.length with t | t
  ·exact t
  ·unfold jS at s;rw[bF,aI t] at s;simp at s
 obtain⟨cb,i⟩:=zx v.cb;obtain⟨R,a9⟩:=zx d.ks.length;obtain⟨f,C⟩:=zx d.l.length;obtain⟨b,u⟩:∃ b:Dc,b={d with ks:=d.ks.set a none}:=⟨_,rfl⟩;have E:=e.gone Q;rw[<-u,<-i] at E;have d7:w.cell? ⟨rp,8,none⟩=some (.slice (some ⟨cb,0,none⟩) R R):=(by rw[a9,i,<-e.kn];exact qe e.sc.nS 8);have b0:=qh e.sc.nS;have d8:cb<w.heap.size:=(by rw[i];exact qh e.cls);have x:∀ S,w.frozen? ⟨cb,S,none⟩=false:=fun S=>by rw[i];exact qj e.cls S
 obtain⟨g,b1⟩:∃ g,v.cl[a]?=some g:=⟨v.cl[a]'(by rw[e.kn];exact Q),by simp⟩;obtain⟨b2,b3,b4,b5⟩:=jC v.cl a g b1;have F:w.cell? ⟨cb,a*4,none⟩=some (.bool g.there):=(by rw[i,qe e.cls];simpa using b2);have T:w.cell? ⟨cb,a*4+1,none⟩=some g.q:=(by rw[i,qe e.cls];simpa using b3);have V:w.cell? ⟨cb,a*4+2,none⟩=some (.int .i64 g.cr):=(by rw[i,qe e.cls];simpa using b4);have W:w.cell? ⟨cb,a*4+3,none⟩=some g.wv:=(by rw[i,qe e.cls];simpa using b5);have b6:Hid (yj d a={jV b a f with marks:=zT a (jV b a f).marks,wait:=zT a (jV b a f).wait}):=(by show yj d a=_;unfold yj;rw[<-u,<-C]);have X:=Zu b a f;have Y:Hid ((jV b a f).marks.length<=1000000000/\(jV b a f).wait.length<=1000000000):=(by show (xa b a f).marks.length<=_/\(xa b a f).wait.length<=_;rw[X.2.2.2.2.1,X.2.2.2.2.2,u];exact⟨O,a8⟩);have b7:b.l.length=f:=(by rw[u,C]);have b8:=qg P;have b9:jV b a 0=b:=(by unfold jV Qr;rw[dw,eH];rfl);rw[<-b9] at E;have c0:=qg E;have Z:=qg a7;have g0:(0:Int)<=(a:Int):=(by omega);have g1:(a:Int)<(R:Int):=(by omega);have g2:f<=16:=(by rw[C];exact e.sc.len);rw[<-i];clear P e a7 s O a8 i a9 C u E b9 X b1 b2 b3 b4 b5 Q;generalize g.there=g3 at *;generalize g.q=g4 at *;generalize g.cr=g5 at *;generalize g.wv=g6 at *;have d9:=x (a*4);have e0:=x (a*4+1);have e1:=x (a*4+2);have e2:=x (a*4+3);go_enter Tryz.func16,Tryz.ntmps16;go_wp2_with (go_at_call 44;refine (qb b8).mono ?_;rintro l w1 ⟨rfl,rfl⟩)
 go_loopw [6] (fun p wr=>∃ c:Nat,c<=f/\p=.int .i64 (vW b.l a c)/\qX D U qo w1 rp cb (jV b a c) wr) (fun p wr=>Xe wr rp-(intOf p).toNat)
 case atStart=>exact⟨0,aj _,rfl,qb c0⟩
 case round=>
  clear c0 b8 d7 b0 d8 F T V W d9 e0 e1 e2 x;obtain⟨c,O,rfl,m⟩:=hrel;obtain⟨G,⟨a0,a1,H⟩,b0,g7⟩:=m.vr;have n:(jV b a c).l.length=vW b.l a c+(f-c):=(by rw[<-b7];exact qt0 b.l a c);have e3:=qg m;by_cases I:c<f
  ·obtain⟨y,z⟩:∃ y,b.l[c]?=some y:=⟨b.l[c]'(by omega),by simp⟩;obtain⟨g8,g9,i0,i1,i2,c1,a2,J⟩:=m.wH (qb Z) z;obtain⟨A,o⟩:=zx (vW b.l a c);obtain⟨t,a3⟩:=zx ((jV b a c).l.length);have K:=fun h:¬y.cl=(a:Int)=>(qs9 z h).2;have L:=fun h:y.cl=(a:Int)=>(rH z h).2;rw[<-o,<-a3] at c1;rw[<-o] at J K L n ⊢;rw[<-a3] at n H G;obtain⟨e4,i3,i4,i5,i6,F,T,V,W,e5,e6,e7,e8,e9,f0⟩:=c1;have i7:(0:Int)<=(A:Int):=(by omega);have i8:(A:Int)<(t:Int):=(by omega);have i9:IntKind.i64.wrap ((A:Int)+1)=((A+1:Nat):Int):=(by rw[af];omega);have c2:=qg n;have c3:=qg G;clear o a3 n G;by_cases h:y.cl=(a:Int)
   ·have c4:=qg (J h);have c5:=L h;have f1:=qg h;have c6:=qg c5;rw[h] at F;have B:=I;clear J a2 K L c5 m z h H I
    go_wp2_with (first
      | (go_at_call 45;refine ((qb f1) ▸ qb c4).mono ?_;rintro l q ⟨rfl,c7⟩;have f2:=qg c7;clear c7 e4 F T V W e5 e6 e7 e8 e9 f0 c4)
      | (go_at_call 46;refine (qb f2).mono ?_;rintro l j0 ⟨j1,a4,j2,rfl,⟨r,j3⟩,j4,j5,c8⟩;have c9:=qg c8;clear c8))
    go_roundw
    case rel=>exact⟨c+1,qb B,by rw[qb c6],qb c9⟩
    case measure=>
     have f3:=(qb c9).vr.1;have d0:(jV b a (c+1)).l.length=vW b.l a (c+1)+(f-(c+1)):=(by rw[<-b7];exact qt0 b.l a (c+1));rw[qb c6] at d0;have:=qb B;rw[f3,d0,qb c3,qb c2];simp[intOf];omega
   ·have f4:=qg (a2 h);have d1:=K h;have f5:=qg d1;have B:=I;clear J a2 K L d1 m z H I;go_wp2;go_roundw
    case rel=>exact⟨c+1,qb B,by rw[qb f5];go_num,qb f4⟩
    case measure=>
     have:=qb B;rw[qb c3,qb c2];simp[intOf];omega
  ·obtain rfl:c=f:=(by omega);obtain⟨A,o⟩:=zx (vW b.l a c);rw[<-o,cL,bL] at n;rw[n] at H;rw[<-o];obtain⟨j6,j7,a5,wc,m24,m25,-,d2⟩:=m.mcell;have M:=qg (m.oth1 (qb Z) (a:Int) (qb Y).1 m24 m25);have a6:Hid (∀ (w2:World)(r:Value),w2.cell? ⟨rp,25,none⟩=some (.slice a5 (jV b a c).wait.length wc)->qX D U qo w1 rp cb {jV b a c with marks:=zT a (jV b a c).marks} (w2.setCell ⟨rp,24,none⟩ r)->Calls Tryz.prog 47 #[.slice a5 (jV b a c).wait.length wc,.int .i64 a] (w2.setCell ⟨rp,24,none⟩ r) fun l q=>∃ a0 a4 a1,l=.returned (.slice a0 a4 a1)/\(∃ r,q.cell? ⟨rp,25,none⟩=some r)/\q.frozen? ⟨rp,25,none⟩=false/\rp<q.heap.size/\qX D U qo w1 rp cb (yj d a) (q.setCell ⟨rp,25,none⟩ (.slice a0 a4 a1))):=fun w2 r f6 N=>by
    have:=N.oth2 (qb Z) (a:Int) (qb Y).2 (mo:=a5) (mc:=wc) ((World.cell?_setCell_other _ _ _ _ (by simp)).trans f6);rw[qb b6];exact this
   obtain⟨j8,d3⟩:=zx ((jV b a c).marks.length);rw[<-d3] at M m24;obtain⟨j9,d4⟩:=zx ((jV b a c).wait.length);rw[<-d4] at M a6;have k0:=d2 24;clear m e3 d3 d4 m25 b6 Y d2 o n G
   go_wp2_with (first
     | (go_at_call 47;refine (qb M).mono ?_;rintro l w2 ⟨k1,k2,k3,rfl,⟨u2,k4⟩,f7,k5,k6,N⟩;have d5:=qg ((qb a6) _ _ f7 N);clear M a6 N)
     | (go_at_call 47;refine (qb d5).mono ?_;rintro l q ⟨k7,k8,k9,rfl,⟨u3,l0⟩,l1,l2,d6⟩;have f8:=qg d6;clear d5 d6))
   go_ret;exact⟨rfl,qb f8⟩
end
variable{j:Nat}{v:Value}{e:gF}
def XO:∀ a:List (Int×Int),jk a=c2 (a.map k2)
 | []=>rfl
 | x::a=>by
  show Qi x++jk a=_;rw[XO a];rfl
def rV {w:World}(a:qN w j 153 v (m'.map k2)):jM w j v m':=by
 unfold jM;rw[XO];have:(m'.map k2).length=m'.length:=(by simp);unfold qN at a;rw[this] at a;exact a
section
variable {U:Nat->Prop}{wb:Nat}{gr gc go:Value}{C:List hg}{O:List (List gt)}{w w':World}{ss kr ki kf:Value}{sh:List gY}{er ei ef:List he}{gq col':Nat->Nat}{i:Nat}{x:gY}
def qW.ul (b:qW U wb gr gc go C O w ss kr ki kf sh er ei ef gq):∀ a,U a->a<w.heap.size:=fun a c=>(b.tL a c).2
def qW.pTick (f:qW U wb gr gc go C O w ss kr ki kf sh er ei ef gq)(g:sh[i]?=some x)(o:xO x.s)(b:Nat)(p:b<=9223372036854775807):Calls Tryz.prog 48 #[.pointer (some ⟨x.xp,0,none⟩),.int .i64 (b:Int)] w fun h w'=>∃ c d col',h=.returned (.tuple #[.agg #[.int .i64 (x.s.t+1),.int .i64 (zd x.s.f).2.1,.int .i64 (Je x.s b:Int),c,d],.int .i64 0])/\qW U wb gr gc go C O w' ss kr ki kf (sh.set i {x with s:=vZ x.s b}) er ei ef col'/\iT U gq col' w w'/\zh w' 0 c (ZC x.s)/\jM w' 0 d (zd x.s.f).2.2/\(∀ a,c.ownBlock=some a->col' a=0/\¬U a)/\∀ a,d.ownBlock=some a->col' a=0/\¬U a:=by
 obtain⟨z,A,B,D,E,j,q⟩:=f.pr i x g;refine (qy4 j o b p).mono ?_;rintro h w' ⟨F,c,d,rfl,r,t,u,k,v,l⟩;obtain⟨col',y,k2,m⟩:=f.prog g j q t r;exact⟨c,d,col',rfl,y,k2,u,rV v,fun a e=>m a (k a e).1 (k a e).2,fun a e=>m a (l a e).1 (l a e).2⟩
def qW.dTick (e:qW U wb gr gc go C O w ss kr ki kf sh er ei ef gq)(f:sh[i]?=some x)(h:VL x.d)(a:Nat)(j:a<=9223372036854775807):Calls Tryz.prog 49 #[.pointer (some ⟨x.rp,0,none⟩),.int .i64 (a:Int)] w fun g w'=>∃ b c col',g=.returned (.tuple #[.agg #[.int .i64 (x.d.t+1),.int .i64 (om x.d),.int .i64 (nF (il x.d) a),b,c],.int .i64 0])/\qW U wb gr gc go C O w' ss kr ki kf (sh.set i {x with d:=xS x.d a}) er ei ef col'/\iT U gq col' w w'/\zh w' w.heap.size b (x.d.ks.map (xF x.d.c.hD))/\jM w' 0 c (nK x.d):=by
 obtain⟨t,u,v,y,k,l⟩:=e.dc i x f;refine (qq1 k e.ul h a j).mono ?_;rintro g w' ⟨b,c,z,A,rfl,⟨B,D,m,-⟩,o,p,q,r⟩;obtain⟨col',s,k2⟩:=e.wa f l p o m;exact⟨b,c,col',rfl,s,k2,q,r⟩
def qW.wu (e:qW U wb gr gc go C O w ss kr ki kf sh er ei ef gq)(f:sh[i]?=some x)(h:x.s.ks.length<=4)(b:x.s.c.iE.toNat<=4):Calls Tryz.prog 12 #[.pointer (some ⟨x.xp,0,none⟩)] w fun c w'=>(∃ (a:Nat)(col':Nat->Nat),qC x.s.ks=some a/\c=.returned (.tuple #[.int .i64 (a:Int),.int .i64 0])/\qW U wb gr gc go C O w' ss kr ki kf (sh.set i {x with s:={x.s with ks:=x.s.ks.set a (some (yS x.s.c))}}) er ei ef col'/\iT U gq col' w w')\/(qC x.s.ks=none/\c=.returned (.tuple #[.int .i64 0,.int .i64 5])/\Below w.heap.size w w'):=by
 obtain⟨o,p,q,r,t,g,j⟩:=e.pr i x f;refine (Y0 g h b).mono ?_;rintro c w' (⟨a,u,v,d,rfl,k,b⟩ | ⟨d,rfl,l⟩)
 ·obtain⟨col',m,k2,-⟩:=e.prog f g j b k;exact .inl ⟨a,col',d,rfl,m,k2⟩
 ·exact .inr ⟨d,rfl,l⟩
def qW.wA (b:qW U wb gr gc go C O w ss kr ki kf sh er ei ef gq)(f:sh[i]?=some x)(g:x.d.ks.length<=4):Calls Tryz.prog 13 #[.pointer (some ⟨x.rp,0,none⟩)] w fun c w'=>(∃ (a:Nat)(col':Nat->Nat),qC x.d.ks=some a/\c=.returned (.tuple #[.int .i64 (a:Int),.int .i64 0])/\qW U wb gr gc go C O w' ss kr ki kf (sh.set i {x with d:={x.d with ks:=x.d.ks.set a (some (yS x.d.c))}}) er ei ef col'/\iT U gq col' w w')\/(qC x.d.ks=none/\c=.returned (.tuple #[.int .i64 0,.int .i64 5])/\w'=w):=by
 obtain⟨p,q,r,s,h,j⟩:=b.dc i x f;refine (YP h b.ul g).mono ?_;rintro c w' (⟨a,e,rfl,t,u,v,k,l,-,m⟩ | ⟨e,rfl,rfl⟩)
 ·obtain⟨col',o,k2⟩:=b.wa f j m l k;exact .inl ⟨a,col',e,rfl,o,k2⟩
 ·exact .inr ⟨e,rfl,rfl⟩
def qW.pDisc (a:qW U wb gr gc go C O w ss kr ki kf sh er ei ef gq)(b:sh[i]?=some x)(e:x.s.ks.length<=4)(n:Nat)(f:jS x.s.ks (n:Int)=true)(g:J5 x.s n):Calls Tryz.prog 15 #[.pointer (some ⟨x.xp,0,none⟩),.int .i64 (n:Int)] w fun c w'=>c=.returned (.int .i64 0)/\∃ col',qW U wb gr gc go C O w' ss kr ki kf (sh.set i {x with s:=yi x.s n}) er ei ef col'/\iT U gq col' w w':=by
 obtain⟨m,o,p,q,r,d,h⟩:=a.pr i x b;refine (ZW d e n f g).mono ?_;rintro c w' ⟨t,u,rfl,j,k⟩;obtain⟨col',l,k2,-⟩:=a.prog b d h k j;exact⟨rfl,col',l,k2⟩
def qW.vs (a:qW U wb gr gc go C O w ss kr ki kf sh er ei ef gq)(b:sh[i]?=some x)(c:x.s.ks.length<=4)(n:Int)(d:jS x.s.ks n=false):Calls Tryz.prog 15 #[.pointer (some ⟨x.xp,0,none⟩),.int .i64 n] w fun e w'=>e=.returned (.int .i64 3)/\Below w.heap.size w w':=by
 obtain⟨g,h,j,k,l,f,m⟩:=a.pr i x b;exact ZX f c n d
def qW.dDisc (a:qW U wb gr gc go C O w ss kr ki kf sh er ei ef gq)(b:sh[i]?=some x)(n:Nat)(e:jS x.d.ks n=true)(f:x.d.marks.length<=1000000000)(g:x.d.wait.length<=1000000000)(h:x.d.ks.length<=1000):Calls Tryz.prog 16 #[.pointer (some ⟨x.rp,0,none⟩),.int .i64 (n:Int)] w fun c w'=>c=.returned (.int .i64 0)/\∃ col',qW U wb gr gc go C O w' ss kr ki kf (sh.set i {x with d:=yj x.d n}) er ei ef col'/\iT U gq col' w w':=by
 obtain⟨q,r,s,t,j,k⟩:=a.dc i x b;refine (JP j a.ul n e f g h).mono ?_;rintro c w' ⟨rfl,u,v,y,l,m,-,o⟩;obtain⟨col',p,k2⟩:=a.wa b k o m l;exact⟨rfl,col',p,k2⟩
def qW.we (a:qW U wb gr gc go C O w ss kr ki kf sh er ei ef gq)(b:sh[i]?=some x)(n:Int)(c:jS x.d.ks n=false):Calls Tryz.prog 16 #[.pointer (some ⟨x.rp,0,none⟩),.int .i64 n] w fun d w'=>d=.returned (.int .i64 3)/\w'=w:=by
 obtain⟨f,g,h,j,e,k⟩:=a.dc i x b;exact Zx e n c
def qW.wC (b:qW U wb gr gc go C O w ss kr ki kf sh er ei ef gq)(c:sh[i]?=some x)(d:x.s.ks.length<=4)(n:Int)(e:jS x.s.ks n=false)(a:Value):Calls Tryz.prog 22 #[.pointer (some ⟨x.xp,0,none⟩),.int .i64 n,a] w fun f w'=>f=.returned (.int .i64 3)/\Below w.heap.size w w':=by
 obtain⟨h,j,k,l,m,g,o⟩:=b.pr i x c;exact YX g d n e a
def qW.pSub (h:qW U wb gr gc go C O w ss kr ki kf sh er ei ef gq)(k:sh[i]?=some x)(o:x.s.ks.length<=4)(p:x.s.ks[j]?=some (some e))(q:(x.s.c.iE.toNat:Int)=x.s.c.iE/\1<=x.s.c.iE.toNat/\x.s.c.iE.toNat<=4)(r:e.q.length<=100000)(b:Nat->Prop)(c:Option Addr)(d:Nat)(a:List gt)(t:gW b w (.slice c a.length d) a)(u:∀ y,b y->y<w.heap.size)(v:a.length<=1759218604390)(z:∀ x∈a,x.px.length<=17592186043904):Calls Tryz.prog 22 #[.pointer (some ⟨x.xp,0,none⟩),.int .i64 (j:Int),.slice c a.length d] w fun l w'=>l=.returned (.int .i64 (qL x.s.c e a))/\(qL x.s.c e a=0->∃ col',qW U wb gr gc go C O w' ss kr ki kf (sh.set i {x with s:={x.s with ks:=x.s.ks.set j (some (X5 e a))}}) er ei ef col'/\iT U gq col' w w')/\(qL x.s.c e a≠0->Below w.heap.size w w'):=by
 obtain⟨G,H,I,J,K,m,A⟩:=h.pr i x k;refine (YW m o p q r b c d a t u v z).mono ?_;rintro l w' ⟨rfl,⟨f,L,B,D⟩ | ⟨f,E⟩⟩
 ·obtain⟨col',F,k2,-⟩:=h.prog k m A D B;exact⟨rfl,fun _=>⟨col',F,k2⟩,fun g=>absurd f g⟩
 ·exact⟨rfl,fun g=>absurd g f,fun _=>E⟩
def qW.uZ (e:qW U wb gr gc go C O w ss kr ki kf sh er ei ef gq)(f:sh[i]?=some x)(n:Int)(b:Option Addr)(a c:Nat)(g:a<=17592186044416)(h:(jS x.d.ks n&&gz a 1 20)=false):Calls Tryz.prog 24 #[.pointer (some ⟨x.rp,0,none⟩),.int .i64 n,.slice b a c] w fun j w'=>j=.returned (.int .i64 3)/\w'=w:=by
 obtain⟨k,l,m,o,d,p⟩:=e.dc i x f;exact Xm d.uD n b a c g (by rw[d.wi];exact h)
def qW.dSub (b:qW U wb gr gc go C O w ss kr ki kf sh er ei ef gq)(g:sh[i]?=some x)(k:x.d.ks[j]?=some (some e))(l:e.q.length<=100000)(m:e.own.length=x.d.c.iE.toNat)(a:List gt)(c:Option Addr)(f:Nat)(p:gW U w (.slice c a.length f) a)(q:1<=a.length/\a.length<=20)(r:∀ o∈a,o.px.length<=17592186043904):Calls Tryz.prog 24 #[.pointer (some ⟨x.rp,0,none⟩),.int .i64 (j:Int),.slice c a.length f] w fun h w'=>h=.returned (.int .i64 (qL x.d.c e a))/\(qL x.d.c e a=0->∃ col',qW U wb gr gc go C O w' ss kr ki kf (sh.set i {x with d:={x.d with ks:=x.d.ks.set j (some (Ji e a))}}) er ei ef col'/\iT U gq col' w w')/\(qL x.d.c e a≠0->Below w.heap.size w w'):=by
 obtain⟨E,F,G,H,s,t⟩:=b.dc i x g;refine (Y9 s b.ul k l m a c f p q r).mono ?_;rintro h w' ⟨rfl,u,v⟩;refine⟨rfl,fun y=>?_,u⟩;obtain⟨I,J,K,z,A,-,B⟩:=v y;obtain⟨col',D,k2⟩:=b.wa g t B A z;exact⟨col',D,k2⟩
def qW.wD (a:qW U wb gr gc go C O w ss kr ki kf sh er ei ef gq)(b:sh[i]?=some x)(c:x.s.f.front<3)(d:x.s.f.W*x.s.f.H<=1000):Calls Tryz.prog 18 #[.pointer (some ⟨x.xp,0,none⟩)] w (kZ w (x.s.f.b x.s.f.front).px):=by
 obtain⟨f,g,h,j,k,e,l⟩:=a.pr i x b;exact qc4 e c d
def qW.wJ (b:qW U wb gr gc go C O w ss kr ki kf sh er ei ef gq)(c:sh[i]?=some x)(d:x.d.front<3):Calls Tryz.prog 19 #[.pointer (some ⟨x.rp,0,none⟩)] w fun e w'=>(∃ a,e=.returned (.slice (some ⟨a,0,none⟩) (x.d.p x.d.front).length (x.d.p x.d.front).length)/\w.heap[a]?=some (.cells ((x.d.p x.d.front).map (Value.int .i64)).toArray 3 (0,0)))/\Below w.heap.size w w':=by
 obtain⟨g,h,j,k,f,l⟩:=b.dc i x c;exact qh3 f d
end
structure jz (n:Nat)(x:gY):Prop where
 r:DR x.s x.d
 ok:jg (640*n) x.s
 px:hw x.s.l x.s.c.behind x.s.f
 t:0<=x.s.t/\x.s.t<=(n:Int)
 fm:0<=x.d.tH/\x.d.tH<=(n:Int)
section
variable {n:Nat}{x:gY}
def jg.mono {b D':Nat}{c:qY}(a:jg b c)(d:b<=D'):jg D' c:=⟨a.cfg,a.len,a.W,a.H,a.st.mono d,a.cl,a.no⟩
def jz.more (a:jz n x):jz (n+1) x:=⟨a.r,a.ok.mono (by omega),a.px,⟨a.t.1,by have:=a.t.2;omega⟩,⟨a.fm.1,by have:=a.fm.2;omega⟩⟩
def jz.wI (a:jz n x)(d:n<=1100000):xO x.s/\VL x.d:=by
 have b:=a.t;have c:=a.fm;exact⟨qg8 a.ok (by omega) ⟨b.1,by omega⟩,Y7 a.r a.ok (by omega) a.px ⟨b.1,by omega⟩ ⟨c.1,by omega⟩⟩
def jz.tick (b:jz n x)(g:n<=1100000)(a:Nat):jz (n+1) {x with s:=vZ x.s a,d:=xS x.d a}:=by
 have h:=b.t;have e:=b.fm;have f:=X3 (d:=x.d) a e.1;refine⟨(VV b.r b.ok (by omega) b.px a).1,?_,qz7 b.ok (by omega) b.px a,?_,⟨f.1,by show (xS x.d a).tH<=_;omega⟩⟩
 ·have:=qz8 b.ok (by omega) a;have c:640*n+640=640*(n+1):=(by omega);rw[c] at this;exact this
 ·show 0<=(vZ x.s a).t/\(vZ x.s a).t<=_;have c:(vZ x.s a).t=x.s.t+1:=rfl;rw[c];omega
end
variable{K:List Bool}{o:gt}{h:List gt}{E:hg}
def qg1 {x:List Bool}(a:qP K o=some x):x.length=K.length:=by
 unfold qP at a;split at a
 ·rw[<-aA a]
 ·split at a
  ·rw[<-aA a,aG]
  ·cases a
def VT:∀ (b:List gt)(a x:List Bool),qR a b=some x->x.length=a.length
 | [],a,x,d=>by
  have:some a=some x:=d;rw[aA this]
 | g::b,a,x,d=>by
  have c:(qP a g).bind (fun e=>qR e b)=some x:=d;cases f:qP a g with
  | none=>rw[f] at c;cases c
  | some e=>
   rw[f] at c;rw[VT b e x c,qg1 f]
section
variable {n:Nat}{x:gY}
def jz.vw (a:jz n x):x.s.ks.length<=4/\x.d.ks.length<=4/\x.s.c.iE.toNat<=4/\1<=x.s.c.iE.toNat/\(x.s.c.iE.toNat:Int)=x.s.c.iE:=by
 have b:=Qy a.ok.cfg;have c:=b.oA;have d:=b.iE;have e:=a.ok.len;have f:x.s.ks.length=x.d.ks.length:=(by have:=congrArg List.length a.r.ks;simpa using this);omega
def jz.conn (a:jz n x)(b:qC x.s.ks=some j):jz n {x with s:={x.s with ks:=x.s.ks.set j (some (yS x.s.c))},d:={x.d with ks:=x.d.ks.set j (some (yS x.d.c))}}:=
 ⟨qw1 a.r j,zd7 a.ok (yC _ _ b),a.px,a.t,a.fm⟩
def ZM (a:Dc)(n:Int):∀ b,(xa a n b).tH=a.tH
 | 0=>rfl
 | b+1=>by
  have c:=ZM a n b;unfold xa;split
  ·split
   ·exact c
   ·exact c
  ·exact c
def jz.wi (b:jz n x)(a:Int):jS x.s.ks a=jS x.d.ks a:=by
 unfold jS;rw[b.r.ks,aF];congr 1
 cases x.d.ks[a.toNat]? with
 | none=>rfl
 | some c=>cases c<;>rfl
def jz.disc (a:jz n x)(c:jS x.s.ks (j:Int)=true):jz n {x with s:=yi x.s j,d:=yj x.d j}:=by
 obtain⟨e,g,b,f⟩:=VE c;have:j=e:=(by omega);subst this;exact⟨qv3 a.r a.ok j,zc9 a.ok f,zc8 a.ok a.px j,a.t,by
  have b:(yj x.d j).tH=x.d.tH:=ZM _ _ _;show 0<=(yj x.d j).tH/\(yj x.d j).tH<=_;rw[b];exact a.fm⟩
def jz.marks (a:jz n x)(e:n<=1100000):x.d.marks.length<=1000000000/\x.d.wait.length<=1000000000:=by
 have d:=a.ok.st.fr.tN;refine⟨?_,by rw[a.r.f.wait];have f:x.s.f.marks.length<=640*n:=d;omega⟩;cases b:x.s.f.frame with
 | none=>rw[a.r.f.wx b];simp
 | some c=>
  rw[(a.r.f.uV c b).2.2.1];have:=(a.ok.st.fr.fm c b).2.2.2.2;omega
def jz.subm (a:jz n x){i:Nat}(b:x.d.ks[i]?=some (some e))(c:qL x.d.c e h=0):jz n {x with s:={x.s with ks:=x.s.ks.set i (some (X5 (qH e) h))},d:={x.d with ks:=x.d.ks.set i (some (Ji e h))}}:=by
 obtain⟨f,g⟩:=qc9 a.r b h;refine⟨g,rO a.ok f ?_,a.px,a.t,a.fm⟩;rw[a.r.c,JV];exact c
def jz.uL (a:jz n x){i:Nat}(f:x.d.ks[i]?=some (some e)):x.s.ks[i]?=some (some (qH e))/\e.q.length<=100000/\(qH e).q.length<=100000/\e.own.length=x.d.c.iE.toNat/\∀ b,qL x.s.c (qH e) b=qL x.d.c e b:=by
 have c:=(qc9 a.r f []).1;have d:=a.ok.cl i _ c;have g:=Qy a.ok.cfg;have h:=d.ql;have j:=g.queue;have k:(qH e).q.length=e.q.length:=(by unfold qH;simp);refine⟨c,by omega,by omega,?_,fun b=>by rw[a.r.c,JV]⟩;have:=VT _ _ _ d.own;rw[vQ] at this;rw[<-a.r.c,<-this];rfl
def tq (a:jU E=true)(b c n:Nat):jz n ⟨b,c,xZ E,Vj E⟩:=
 ⟨zb0 E,(rZ a).mono (aj _),rY E,⟨co 0,by show (0:Int)<=_;omega⟩,⟨co 0,by show (0:Int)<=_;omega⟩⟩
end
structure mI (U:Nat->Prop)(wb:Nat)(gr gc go:Value)(C:List hg)(O:List (List gt))(n:Nat)(w:World)(ss kr ki kf:Value)(sh:List gY)(er ei ef:List he)(gq:Nat->Nat):Prop where
 mem:qW U wb gr gc go C O w ss kr ki kf sh er ei ef gq
 each:∀ x∈sh,jz n x
 len:sh.length<=n/\er.length<=n/\ei.length<=n/\ef.length<=n
def xf (U:Nat->Prop)(wb:Nat)(gr gc go:Value)(C:List hg)(O:List (List gt))(n:Nat)(w:World):Prop:=∃ ss kr ki kf sh er ei ef gq,mI U wb gr gc go C O n w ss kr ki kf sh er ei ef gq
section
variable {U:Nat->Prop}{wb:Nat}{gr gc go:Value}{C:List hg}{O:List (List gt)}{n:Nat}{w w':World}{ss kr ki kf ss' kr' ki' kf':Value}{sh:List gY}{er ei ef:List he}{gq col':Nat->Nat}{i:Nat}{x x':gY}
def mI.at (a:mI U wb gr gc go C O n w ss kr ki kf sh er ei ef gq)(b:sh[i]?=some x):jz n x:=a.each x (zzn b)
def mI.same (a:mI U wb gr gc go C O n w ss kr ki kf sh er ei ef gq)(b:Below w.heap.size w w'):xf U wb gr gc go C O (n+1) w':=
 ⟨ss,kr,ki,kf,sh,er,ei,ef,gq,a.mem.below b,fun x c=>(a.each x c).more,by have:=a.len;omega⟩
def mI.more (a:mI U wb gr gc go C O n w ss kr ki kf sh er ei ef gq):xf U wb gr gc go C O (n+1) w:=a.same (aa _ _)
def mI.put (b:mI U wb gr gc go C O n w ss kr ki kf sh er ei ef gq)(g:sh[i]?=some x)(c:qW U wb gr gc go C O w' ss kr ki kf (sh.set i x') er ei ef col')(d:jz (n+1) x'):xf U wb gr gc go C O (n+1) w':=by
 refine⟨ss,kr,ki,kf,sh.set i x',er,ei,ef,col',c,fun e f=>?_,by have:=b.len;rw[aG];omega⟩;rcases ej f with a | a
 ·exact (b.each e a).more
 ·rw[a];exact d
def yq {sh:List gY}{i:Nat}{b a:gY}:(sh.set i b).set i a=sh.set i a:=eg ..
def iT.toU (b:iT U gq col' w w')(c:∀ k,U k->gq k=0):gp (fun a=>¬U a) w w':=b.but.wide (fun a _ d e=>d (c a e))
end
variable{m w w2:World}{b g:Nat}{G k:Nat→Nat}
def sG (a c:Nat)(d:Nat->Nat)(b:Nat):Value:=if b<c then .slice (some ⟨d b,0,none⟩) a a else .slice none 0 0
def sR (a:hg)(g f b c:Nat)(d e:Nat->Nat):Array Value:=#[.int .i64 a.w,.int .i64 a.h,.int .i64 a.oA,.int .i64 a.queue,.int .i64 a.tK,.int .i64 a.hD,.int .i64 a.iE,.int .i64 a.behind,.slice (some ⟨g,0,none⟩) f f,.slice none 0 0,
 sG b c d 0,sG b c e 0,.int .i64 0,sG b c d 1,sG b c e 1,.int .i64 0,sG b c d 2,sG b c e 2,.int .i64 0,.int .i64 0,.bool false,.int .i64 0,.int .i64 0,.slice none 0 0,.slice none 0 0,.slice none 0 0,.int .i64 0,.bool false,.int .i64 0]
def yV (b:Nat->Nat)(c d:Nat):Nat->Nat:=fun a=>if a=c then d else b a
structure qD (c:hg)(w wr:World)(cb n N k:Nat)(P G:Nat->Nat):Prop where
 tT:Below w.heap.size w wr
 nS:wr.heap[cb+1]?=some (.cells (sR c cb n N k P G) 121)
 cls:wr.heap[cb]?=some (.cells (qG (List.replicate n jp)).toArray 123)
 cfg:wr.heap[w.heap.size]?=some (.cells #[.int .i64 c.w,.int .i64 c.h,.int .i64 c.oA,.int .i64 c.queue,.int .i64 c.tK,.int .i64 c.hD,.int .i64 c.iE,.int .i64 c.behind] 49)
 pc:∀ i,i<k->w.heap.size<=P i/\wr.heap[P i]?=some (.cells ((List.replicate N c.behind).map (Value.int .i64)).toArray 3 (0,0))
 st:∀ i,i<k->w.heap.size<=G i/\ze wr 0 (.slice (some ⟨G i,0,none⟩) N N) (List.replicate N false)
 gi:∀ i j,i<j->j<k->G i≠G j
 lcb:w.heap.size<=cb
 ne:w.heap.size≠cb/\w.heap.size≠cb+1
def qD.below (a:qD E w w2 n i j g k G)(b:Below w2.heap.size w2 m):qD E w m n i j g k G:=
 ⟨a.tT.trans (b.mono a.tT.size),(b.block _ (qh a.nS)).trans a.nS,(b.block _ (qh a.cls)).trans a.cls,(b.block _ (qh a.cfg)).trans a.cfg,fun c d=>⟨(a.pc c d).1,(b.block _ (qh (a.pc c d).2)).trans (a.pc c d).2⟩,fun c d=>⟨(a.st c d).1,zm (a.st c d).2 b⟩,a.gi,a.lcb,a.ne⟩
def za8 (c:hg)(d e b a f g:Nat)(h i:Nat->Nat)(k:a<3):((sR c d e b a h i).setIfInBounds (10+3*a) (.slice (some ⟨f,0,none⟩) b b)).setIfInBounds (11+3*a) (.slice (some ⟨g,0,none⟩) b b)=sR c d e b (a+1) (yV h a f) (yV i a g):=by
 have j:a=0\/a=1\/a=2:=(by omega);rcases j with rfl | rfl | rfl<;>rfl
def qD.round (D:qD E w w2 n i j g k G)(F:g<3)(H:Below w2.heap.size w2 m)(I:w.heap.size<=b)(J:m.heap[b]?=some (.cells ((List.replicate j E.behind).map (Value.int .i64)).toArray 3 (0,0)))(O:j<=256):qD E w (((m.setCell ⟨n+1,10+3*g,none⟩ (.slice (some ⟨b,0,none⟩) j j)).setCell ⟨n+1,11+3*g,none⟩ (.slice (some ⟨m.heap.size,0,none⟩) j j)).alloc (.cells (Array.replicate j (Value.bool false)) 4)).drew n i j (g+1) (yV k g b) (yV G g m.heap.size):=by
 have c:=D.below H;have v:gp (fun e=>e=n+1) m ((m.setCell ⟨n+1,10+3*g,none⟩ (.slice (some ⟨b,0,none⟩) j j)).setCell ⟨n+1,11+3*g,none⟩ (.slice (some ⟨m.heap.size,0,none⟩) j j)):=((gp.refl (fun e=>e=n+1) m).setCell (p:=⟨n+1,10+3*g,none⟩) (.inl rfl) _).setCell (p:=⟨n+1,11+3*g,none⟩) (.inl rfl) _;have x:=qp (i:=11+3*g) (qp (i:=10+3*g) c.nS (.slice (some ⟨b,0,none⟩) j j)) (.slice (some ⟨m.heap.size,0,none⟩) j j);rw[za8 E n i j g b m.heap.size k G F] at x;have K:((m.setCell ⟨n+1,10+3*g,none⟩ (.slice (some ⟨b,0,none⟩) j j)).setCell ⟨n+1,11+3*g,none⟩ (.slice (some ⟨m.heap.size,0,none⟩) j j)).heap.size=m.heap.size:=(by simp[World.setCell]);generalize ((m.setCell ⟨n+1,10+3*g,none⟩ (.slice (some ⟨b,0,none⟩) j j)).setCell ⟨n+1,11+3*g,none⟩ (.slice (some ⟨m.heap.size,0,none⟩) j j))=l at *;have r:Below l.heap.size l (l.alloc (.cells (Array.replicate j (Value.bool false)) 4)).drew:=((aa _ l).alloc (zzl _) _).drew;have L:∀ {e:Nat}{s:Array Value}{o:TypeId}{t:Nat×Nat},m.heap[e]?=some (.cells s o t)->o≠121->¬e=n+1:=fun f y d=>by
  rw[d,c.nS] at f;simp only[ac,cJ] at f;exact y f.2.1.symm
 have z:=c.tT.size;have u:∀ {e:Nat}{s:Array Value}{o:TypeId}{t:Nat×Nat},m.heap[e]?=some (.cells s o t)->o≠121->(l.alloc (.cells (Array.replicate j (Value.bool false)) 4)).drew.heap[e]?=some (.cells s o t):=fun f y=>by
  have A:=v.heap f (L f y);exact (r.block _ (qh A)).trans A
 have P:=c.lcb;have Q:=c.ne;refine⟨?_,(r.block _ (qh x)).trans x,u c.cls (by decide),u c.cfg (by decide),fun a q=>?_,fun a q=>?_,fun a B q R=>?_,c.lcb,c.ne⟩
 ·exact (c.tT.trans (v.below z (fun e d=>by omega))).trans (r.mono (by omega))
 ·by_cases d:a=g
  ·subst d;have h:yV k a b a=b:=(by unfold yV;rw[an rfl]);rw[h];exact⟨I,u J (by decide)⟩
  ·have h:yV k g b a=k a:=(by unfold yV;rw[ah d]);rw[h];exact⟨(c.pc a (by omega)).1,u (c.pc a (by omega)).2 (by decide)⟩
 ·by_cases d:a=g
  ·subst d;have h:yV G a m.heap.size a=m.heap.size:=(by unfold yV;rw[an rfl]);rw[h];refine⟨z,?_⟩;have:=kO l j 0 (aj _) (by omega);rw[K] at this;exact dP this
  ·have h:yV G g m.heap.size a=G a:=(by unfold yV;rw[ah d]);rw[h];obtain⟨M,C⟩:=c.st a (by omega);refine⟨M,zm (qi C v (fun e f d=>?_)) r⟩;exact qq C c.nS (by decide) (by rw[<-d];exact f)
 ·have N:∀ a,a<g->G a<m.heap.size:=fun a q=>(ab (c.st a q).2 _ rfl).2;unfold yV;by_cases d:B=g
  ·rw[an d,ah (by omega)];have:=N a (by omega);omega
  ·rw[ah d,ah (by omega)];exact c.gi a B q (by omega)
def qD.doc (b:qD E w w2 n i j 3 k G)(v:jU E=true)(F:E.oA=i)(h:j=E.w.toNat*E.h.toNat)(s:Nat->Prop)(p:∀ c,s c->c<w.heap.size):∃ x,qU (fun c=>w.heap.size<=c/\c<w2.heap.size) s (fun _=>0) w2 (n+1) (Vj E) x []:=by
 have y:=b.lcb;have z:E.oA.toNat=i:=(by omega);have A:∀ a,a<3->G a<w2.heap.size:=fun a e=>(ab (b.st a e).2 _ rfl).2;have t:(Vj E).N=j:=h.symm;refine⟨⟨n,List.replicate i jp,.slice none 0 0,fun a=>.slice (some ⟨k a,0,none⟩) j j,G,.slice none 0 0,.slice none 0 0,.slice none 0 0⟩,⟨⟨?_,fun a e=>⟨?_,?_⟩,⟨b.gi 0 1 (by omega) (by omega),b.gi 0 2 (by omega) (by omega),b.gi 1 2 (by omega) (by omega)⟩,⟨aQ _ _ _ _,fun B f=>absurd f (dM),fun B f=>absurd f (dM)⟩,rfl,⟨fun g=>?_,fun a e g=>?_,fun C q=>(by cases q)⟩,v,aj _,aQ _ _ _ _,fun C q=>(by cases q)⟩,b.cls,?_,fun l c d=>?_,fun a e=>?_,fun f=>(by cases f),aQ _ _ _ _,fun c d=>(by cases d),fun l D a u e=>?_,⟨⟨by omega,qh b.nS⟩,⟨y,qh b.cls⟩,fun a e=>⟨(b.st a e).1,A a e⟩,fun c d=>(by cases d),fun c d=>(by cases d),fun c d=>(by cases d)⟩,fun c d=>absurd rfl d,fun c d g=>?_,fun c d=>d.2⟩⟩
 ·have r:iC (Vj E) ⟨n,List.replicate i jp,.slice none 0 0,fun a=>.slice (some ⟨k a,0,none⟩) j j,G,.slice none 0 0,.slice none 0 0,.slice none 0 0⟩=sR E n i j 3 k G:=(by unfold iC sR;rw[t,aS];rfl);rw[r];exact b.nS
 ·rw[t];show ze w2 0 _ (List.replicate (E.w.toNat*E.h.toNat) false);rw[<-h];exact (b.st a e).2
 ·show (List.replicate (E.w.toNat*E.h.toNat) false).length=E.w.toNat*E.h.toNat;simp
 ·have:=p (n+1) g;omega
 ·have:=p (G a) g;have:=(b.st a e).1;omega
 ·show (List.replicate i jp).length=(List.replicate E.oA.toNat none).length;rw[aS,aS,z]
 ·have m:(List.replicate E.oA.toNat (none:Option gF))[l]?=some c:=d;rw[bD] at m;split at m
  ·rename_i u;have:=aA m;subst this;refine⟨jp,?_,rfl⟩;show (List.replicate i jp)[l]?=_;rw[bD,an (by omega)]
  ·cases m
 ·refine⟨k a,?_,⟨(b.pc a e).1,qh (b.pc a e).2⟩,?_⟩
  ·show Value.slice (some ⟨k a,0,none⟩) j j=.slice (some ⟨k a,0,none⟩) (List.replicate (E.w.toNat*E.h.toNat) E.behind).length (List.replicate (E.w.toNat*E.h.toNat) E.behind).length;rw[aS,h]
  ·show w2.heap[k a]?=some (.cells ((List.replicate (E.w.toNat*E.h.toNat) E.behind).map (Value.int .i64)).toArray 3 (0,0));rw[<-h];exact (b.pc a e).2
 ·have o:(List.replicate i jp)[l]?=some D:=u;rw[bD] at o;split at o
  ·have:=aA o;subst this;intro r;cases r
  ·cases o
 ·have:=p c g;omega
def zb1 (i:hg)(k:World)(v:jU i=true)(w:Nat->Prop)(O:∀ o,w o->o<k.heap.size):Calls Tryz.prog 38 #[vF i] k fun p D=>∃ P q,p=.returned (.tuple #[.pointer (some ⟨P,0,none⟩),.int .i64 0])/\qU (fun o=>k.heap.size<=o/\o<D.heap.size) w (fun _=>0) D P (Vj i) q []/\Below k.heap.size k D:=by
 have x:=Qy v;have b1:=x.w;have b2:=x.h;have b3:=x.oA;obtain⟨d,Q⟩:∃ d:Nat,i.w=d:=⟨i.w.toNat,by omega⟩;obtain⟨e,R⟩:∃ e:Nat,i.h=e:=⟨i.h.toNat,by omega⟩;obtain⟨c,S⟩:∃ c:Nat,i.oA=c:=⟨i.oA.toNat,by omega⟩;have f:=qg (yA i);rw[v] at f;have b4:=qg v;obtain⟨d3,d4,d5,p,r,s,t,g⟩:=i;simp only at Q R S b1 b2 b3;subst Q R S;unfold vF at f ⊢;simp only at f ⊢;have b5:=QR c (by omega);have b6:=qg O;clear v x O;go_enter Tryz.func38,Tryz.ntmps38;go_wp2_with fail
 refine ((qb f) _).mono ?_;rintro o l ⟨rfl,E⟩;have T:=((aa _ k).alloc (zzl _) _).trans (E.mono (by simp));have y:l.heap[k.heap.size]?=some (.cells #[.int .i64 d,.int .i64 e,.int .i64 c,.int .i64 p,.int .i64 r,.int .i64 s,.int .i64 t,.int .i64 g] 49):=(E.block _ (by simp)).trans (qt _ _ _ rfl);obtain⟨U,V,b7,b8,b9,c0,c1,c2,-⟩:=zzc y;have d6:=qh y;have c3:k.heap.size≠l.heap.size:=(by omega);have W:=qg T;have X:=qg y;clear E T y f;go_wp2;go_region;have c4:d*e<=256:=(by have:=cK (show d<=16 by omega) (show e<=16 by omega);omega);obtain⟨b,F⟩:=zx (d*e);have d7:IntKind.i64.wrap ((d:Int)*(e:Int))=(b:Int):=(by rw[F,af];have:((d:Int)*(e:Int))=((d*e:Nat):Int):=(by simp);rw[this];omega);have c5:b<=256:=(by omega);have Y:=qg F;have d8:=xB b (by omega);have Z:Hid (qD ⟨d,e,c,p,r,s,t,g⟩ k (((l.alloc (.cells (qG (List.replicate c jp)).toArray 123)).alloc (.cells #[Value.int .i64 d,.int .i64 e,.int .i64 c,.int .i64 p,.int .i64 r,.int .i64 s,.int .i64 t,.int .i64 g,.slice (some ⟨l.heap.size,0,none⟩) c c,.slice none 0 0,.slice none 0 0,.slice none 0 0,.int .i64 0,.slice none 0 0,.slice none 0 0,.int .i64 0,.slice none 0 0,.slice none 0 0,.int .i64 0,.int .i64 0,.bool false,.int .i64 0,.int .i64 0,.slice none 0 0,.slice none 0 0,.slice none 0 0,.int .i64 0,.bool false,.int .i64 0] 121)).drew) l.heap.size c b 0 (fun _=>0) (fun _=>0)):=
  ⟨(((qb W).alloc (by omega) _).alloc (by simp;omega) _).drew,qt _ _ _ (by simp),qx (qt _ _ _ rfl) _,qx (qx (qb X) _) _,fun g G=>absurd G (et g),fun g G=>absurd G (et g),fun g c6 _ c7=>absurd c7 (et c6),by omega,⟨c3,by omega⟩⟩
 clear U V b7 b8 b9 c0 c1 c2 W X b5 F c4;generalize ((l.alloc (.cells (qG (List.replicate c jp)).toArray 123)).alloc (.cells #[Value.int .i64 d,.int .i64 e,.int .i64 c,.int .i64 p,.int .i64 r,.int .i64 s,.int .i64 t,.int .i64 g,.slice (some ⟨l.heap.size,0,none⟩) c c,.slice none 0 0,.slice none 0 0,.slice none 0 0,.int .i64 0,.slice none 0 0,.slice none 0 0,.int .i64 0,.slice none 0 0,.slice none 0 0,.int .i64 0,.int .i64 0,.bool false,.int .i64 0,.int .i64 0,.slice none 0 0,.slice none 0 0,.slice none 0 0,.int .i64 0,.bool false,.int .i64 0] 121)).drew=d9 at *;generalize l.heap.size=j at *;go_wp2;go_loopw [6] (fun H wr=>∃ a:Nat,a<=3/\H=.int .i64 a/\∃ a0 a1,qD ⟨d,e,c,p,r,s,t,g⟩ k wr j c b a a0 a1) (fun H _=>3-(intOf H).toNat)
 case atStart=>exact⟨0,by omega,rfl,_,_,qb Z⟩
 case round=>
  rename World=>h;clear Z;obtain⟨a,e0,rfl,a0,a1,z⟩:=hrel;have u:=z.below ((aa _ h).drew);have a2:Calls Tryz.prog 71 #[.pointer (some ⟨j+1,0,none⟩)] h.drew fun a3 m=>a3=.returned (.slice (some ⟨h.heap.size,0,none⟩) b b)/\Below h.heap.size h m/\m.heap[h.heap.size]?=some (.cells ((List.replicate b g).map (Value.int .i64)).toArray 3 (0,0)):=by
   have c8:xv w h.drew 0 (.slice none 0 0) []:=⟨aQ _ _ _ _,fun c9 I=>absurd I (dM),fun c9 I=>absurd I (dM)⟩;have:=ZG (sp:=j+1) c8 d e g (qe u.nS 0) (qe u.nS 1) (qe u.nS 7) (qe u.nS 9) (by simp) ⟨by omega,by omega⟩ ⟨by omega,by omega⟩;rw[<-qb Y] at this;refine this.mono ?_;rintro a3 m ⟨rfl,a4⟩;refine⟨rfl,((aa _ h).drew).trans a4.tT,?_⟩;have d0:(List.range b).map (Ks [] g d)=List.replicate b g:=by
    apply bh;intro d1;rw[aF,bD];by_cases A:d1<b
    ·rw[an A,List.getElem?_range A];rfl
    ·rw[ah A,aI (by simpa using A)];rfl
   have:=a4.nS;rw[d0] at this;exact this
  have e1:=z.tT.size;have a5:=qg a2;have f:=qg z;clear a2 z u;by_cases e2:a<3
  ·have e3:(0:Int)<=(a:Int):=(by omega);have e4:(a:Int)<3:=(by omega);go_wp2_with fail
   go_region_held3 (fun _=>True) (trivial)
    ((go_at_call 71;refine (qb a5).mono ?_;rintro o m ⟨rfl,J,a6⟩;have n:=(qb f).below J;obtain⟨B,a7⟩:∃ B,m.cell? ⟨j+1,10+a*3,none⟩=some B:=(by rcases (by omega:a=0\/a=1\/a=2) with rfl | rfl | rfl<;>exact⟨_,qe n.nS _⟩);have a8:=qj n.nS;have K:=qg J;have a9:=qg a6;clear J a6 n a5))
   have n:=(qb f).below (qb K);have C:=qp (i:=10+a*3) n.nS (.slice (some ⟨h.heap.size,0,none⟩) b b);have L:=qu n.cfg (p:=⟨j+1,10+a*3,none⟩) (n.ne.2) (.slice (some ⟨h.heap.size,0,none⟩) b b);have M:=qg ((qb f).round (by omega) (qb K) (by omega) (qb a9) c5);have b0:m.heap.size=(m.setCell ⟨j+1,10+a*3,none⟩ (.slice (some ⟨h.heap.size,0,none⟩) b b)).heap.size:=(by simp[World.setCell]);rw[b0] at M;clear K a9 f a7 a8 n b0;rw[show 10+3*a=10+a*3 by omega,show 11+3*a=10+a*3+1 by omega] at M;generalize m.setCell ⟨j+1,10+a*3,none⟩ (.slice (some ⟨h.heap.size,0,none⟩) b b)=d2 at *;obtain⟨u4,a7⟩:∃ B,d2.cell? ⟨j+1,10+a*3+1,none⟩=some B:=(by rcases (by omega:a=0\/a=1\/a=2) with rfl | rfl | rfl<;>exact⟨_,qe C _⟩);have a8:=qj C;obtain⟨U,V,-⟩:=zzc L;have e5:=qh C;have e6:=qh L;clear C L;go_wp2;go_region;go_wp2;go_roundw
   case rel=>exact⟨a+1,by omega,by go_num,_,_,qb M⟩
   case measure=>simp[intOf];omega
  ·have e7:¬(a:Int)<3:=(by omega);obtain rfl:a=3:=(by omega);go_wp2;go_ret2
   obtain⟨q,N⟩:=(qb f).doc (qb b4) rfl (qb Y) w (qb b6)
   first | exact⟨j+1,q,rfl,N,(qb f).tT⟩ | exact⟨j+1,rfl,q,N,(qb f).tT⟩ | exact⟨j+1,rfl,⟨q,N⟩,(qb f).tT⟩
end Go.Proofs.YtbnbkjbfpamijaaGreat
