import Derived.Test.YtbnbkjbfpamijaaGreatAat
set_option linter.all false
set_option maxRecDepth 100000
set_option maxHeartbeats 0
namespace Go.Proofs.YtbnbkjbfpamijaaGreat
open Go.RowKit Go.Proofs.Panes
variable{S V:Nat→Prop}{z:Value}{R:List Int}{n:Nat}{f:Array Value}{a1:TypeId}{I:Nat×Nat}
structure pf (d:Dc)(c:Nat)(o:gt):Prop where
 ask:o.kind=8->d.wait.length<=1000000000
 cre:o.kind=1->(iq o.x/\iq o.y)/\d.l.length<16
 key:o.kind≠8->o.kind≠1->(2<=o.kind/\o.kind<=7)/\((c:Int),o.iV)∈d.l.map qw
 mov:o.kind=4->iq o.x/\iq o.y
 att:o.kind=3->((0<=o.w/\o.w<=8)/\(0<=o.h/\o.h<=8))/\(o.px.length:Int)=o.w*o.h
section
variable {U:Nat->Prop}{w w1 w2 w':World}{rp:Nat}{d d' d'':Dc}{v:Dv}{tI:List Value}
def qu7 (h:gT U w rp d v tI)(i:∀ b,U b->b<w.heap.size)(c:Nat)(a:gt)(f:Option Addr)(e g:Nat)(p:e=a.px.length)(q:gS U w (.slice f e g) a.px)(k:pf d c a):Calls Tryz.prog 121 #[.pointer (some ⟨rp,0,none⟩),.int .i64 (c:Int),.agg #[.int .i64 a.kind,.int .i64 a.iV,.int .i64 a.x,.int .i64 a.y,.int .i64 a.w,.int .i64 a.h,.slice f e g,.int .i64 a.mark]] w fun r w'=>(∃ s,r=.returned s)/\jX U w rp v (qO d c a) w':=by
 by_cases l:a.kind=8
 ·exact qu8 h i c a f e g l (k.ask l)
 ·by_cases m:a.kind=1
  ·obtain⟨⟨n,o⟩,t⟩:=k.cre m;exact YD h i c a f e g m n o t
  ·obtain⟨y,j⟩:=k.key l m;rcases (show a.kind=2\/a.kind=3\/a.kind=4\/a.kind=5\/a.kind=6\/a.kind=7 by omega) with b | b | b | b | b | b
   ·exact Vw h i c a f e g b j
   ·obtain⟨u,x⟩:=k.att b;exact YE h i c a f e g b j u x p q
   ·obtain⟨n,o⟩:=k.mov b;exact ql0 h i c a f e g b j n o
   ·exact qa4 h i c a f e g b j
   ·exact qa5 h i c a f e g b j
   ·exact qa3 h i c a f e g b j
end
structure xW (d d':Dc):Prop where
 c:d'.c=d.c
 ks:d'.ks=d.ks
 p:d'.p=d.p
 fn:d'.fn=d.fn
 front:d'.front=d.front
 tQ:d'.tQ=d.tQ
 tU:d'.tU=d.tU
 left:d'.left=d.left
 fp:d'.fp=d.fp
 marks:d'.marks=d.marks
 tH:d'.tH=d.tH
 t:d'.t=d.t
def xW.refl (d:Dc):xW d d:=⟨rfl,rfl,rfl,rfl,rfl,rfl,rfl,rfl,rfl,rfl,rfl,rfl⟩
def xW.trans {c e f:Dc}(a:xW c e)(b:xW e f):xW c f:=⟨b.c.trans a.c,b.ks.trans a.ks,b.p.trans a.p,b.fn.trans a.fn,b.front.trans a.front,b.tQ.trans a.tQ,b.tU.trans a.tU,b.left.trans a.left,b.fp.trans a.fp,b.marks.trans a.marks,b.tH.trans a.tH,b.t.trans a.t⟩
def ZL (d:Dc)(a:Nat)(b c:Int):xW d (zu d a b c):=by
 unfold zu;split
 ·exact .refl d
 ·split<;>exact⟨rfl,rfl,rfl,rfl,rfl,rfl,rfl,rfl,rfl,rfl,rfl,rfl⟩
def JN (d:Dc)(c:Int)(e:gt):xW d (qO d c e):=by
 unfold qO;have a:∀ b,xW d {d with l:=b}:=fun b=>⟨rfl,rfl,rfl,rfl,rfl,rfl,rfl,rfl,rfl,rfl,rfl,rfl⟩;split
 ·exact⟨rfl,rfl,rfl,rfl,rfl,rfl,rfl,rfl,rfl,rfl,rfl,rfl⟩
 ·split
  ·exact a _
  ·split
   ·exact .refl d
   ·split
    ·exact⟨rfl,rfl,rfl,rfl,rfl,rfl,rfl,rfl,rfl,rfl,rfl,rfl⟩
    ·split
     ·exact⟨rfl,rfl,rfl,rfl,rfl,rfl,rfl,rfl,rfl,rfl,rfl,rfl⟩
     ·split
      ·exact (a _).trans (ZL _ _ _ _)
      ·split
       ·split
        ·exact⟨rfl,rfl,rfl,rfl,rfl,rfl,rfl,rfl,rfl,rfl,rfl,rfl⟩
        ·exact .refl d
       ·split
        ·split
         ·exact⟨rfl,rfl,rfl,rfl,rfl,rfl,rfl,rfl,rfl,rfl,rfl,rfl⟩
         ·exact .refl d
        ·exact a _
def xi.wM {w w':World}{v:Value}{c:List T3}(b:xi S w v c)(h:gp V w w')(i:∀ x a,S x->w.heap[x]?=some (.cells a 53 (0,0))->¬V x):xi S w' v c:=by
 rcases b with b | ⟨e,j,k,a,l,f,g,m⟩
 ·exact .inl b
 ·exact .inr ⟨e,j,k,a,l,f,h.heap g (i e a f g),m⟩
def vS (D:Nat->Prop)(w:World)(c:Value)(a:List Int):Prop:=∃ b,c=.slice (some ⟨b,0,none⟩) a.length a.length/\D b/\w.heap[b]?=some (.cells (a.map (Value.int .i64)).toArray 3 (0,0))
structure tE (D Q U:Nat->Prop)(w:World)(cl:hJ)(k:gF)(mq:List (T3×List gt)):Prop where
 th:cl.there=true
 cr:cl.cr=k.cr
 wl:ze w 0 cl.wv k.own
 cw:∀ x,cl.wv.ownBlock=some x->D x
 q:mq.map Prod.snd=k.q
 rd:∀ t∈mq,gW U w (sl t.1) t.2
 row:xi Q w cl.q (mq.map Prod.fst)
def DK (D b U:Nat->Prop)(w:World)(a:hJ)(c:Option gF):Prop:=match c with
 | none=>a=⟨false,.slice none 0 0,0,.slice none 0 0⟩
 | some e=>∃ f,tE D b U w a e f
structure qU (D U:Nat->Prop)(qo:Nat->Nat)(w:World)(rp:Nat)(d:Dc)(v:Dv)(tI:List Value):Prop where
 sc:gT U w rp d v tI
 cls:w.heap[v.cb]?=some (.cells (qG v.cl).toArray 123 (0,0))
 kn:v.cl.length=d.ks.length
 kl:∀ (j:Nat)(x:Option gF),d.ks[j]?=some x->∃ cl,v.cl[j]?=some cl/\DK D (fun y=>qo y=j+1) U w cl x
 uP:∀ i,i<3->vS D w (v.pp i) (d.p i)
 uT:d.tQ=true->vS D w v.uJ d.fp
 tN:jM w 0 v.mv d.marks
 mw:∀ x,v.mv.ownBlock=some x->v.wv.ownBlock≠some x
 wg:∀ (j:Nat)(cl:hJ)(i:Nat),v.cl[j]?=some cl->i<3->cl.wv.ownBlock≠some (v.g i)
 cb:D rp/\D v.cb/\(∀ i,i<3->D (v.g i))/\(∀ x,v.sv.ownBlock=some x->D x)/\(∀ x,v.wv.ownBlock=some x->D x)/\(∀ x,v.mv.ownBlock=some x->D x)
 qd:∀ x,qo x≠0->D x
 dU:∀ x,D x->¬U x
 dl:∀ x,D x->x<w.heap.size
section
variable {D U:Nat->Prop}{qo:Nat->Nat}{w w1 w2 w':World}{rp:Nat}{d d' d'':Dc}{v:Dv}{tI:List Value}
def vS.but (c:vS D w z R)(e:gp S w w')(f:∀ k cs fz,w.heap[k]?=some (.cells cs 3 fz)->¬S k):vS D w' z R:=by
 obtain⟨a,g,h,b⟩:=c;exact⟨a,g,h,e.heap b (f a _ _ b)⟩
def vS.mono {D':Nat->Prop}(b:vS D w z R)(c:∀ x,D x->D' x):vS D' w z R:=by
 obtain⟨a,e,f,g⟩:=b;exact⟨a,e,c a f,g⟩
def DK.but {c S:Nat->Prop}{e:hJ}{f:Option gF}(h:DK D c U w e f)(g:gp S w w')(i:∀ a,e.wv.ownBlock=some a->¬S a)(j:∀ a cs,c a->w.heap[a]?=some (.cells cs 53 (0,0))->¬S a)(k:∀ a,U a->¬S a):DK D c U w' e f:=by
 cases f with
 | none=>exact h
 | some a=>
  obtain⟨l,b⟩:=h;exact⟨l,b.th,b.cr,qi b.wl g i,b.cw,b.q,fun m n=>(b.rd m n).but g k,b.row.wM g j⟩
def DK.mono {D' c e:Nat->Prop}{f:hJ}{a:Option gF}(g:DK D c U w f a)(h:∀ a,D a->D' a)(i:∀ a,c a->e a):DK D' e U w f a:=by
 cases a with
 | none=>exact g
 | some l=>
  obtain⟨j,b⟩:=g;exact⟨j,b.th,b.cr,b.wl,fun a k=>h a (b.cw a k),b.q,b.rd,b.row.mono i⟩
def gT.ty (c:gT U w rp d v tI)(b:w.heap[n]?=some (.cells f a1 I))(g:a1≠121)(h:a1≠128)(i:a1≠153)(e:a1≠4):¬sL rp v n:=fun a=>by
 rcases a with (a | a | a | a) | a | a
 ·rw[a,c.nS] at b;simp only[ac,cJ] at b;exact g b.2.1.symm
 ·exact qq (c.st 0 (by omega)).1 b e (by rw[a];rfl)
 ·exact qq (c.st 1 (by omega)).1 b e (by rw[a];rfl)
 ·exact qq (c.st 2 (by omega)).1 b e (by rw[a];rfl)
 ·exact qq c.sf.own b h a
 ·exact qq c.wt b i a
def qU.dsw (e:qU D U qo w rp d v tI):∀ b,sL rp v b->D b:=fun b a=>by
 obtain⟨f,c2,c,g,h,i⟩:=e.cb;rcases a with (a | a | a | a) | a | a
 ·rw[a];exact f
 ·rw[a];exact c 0 (by omega)
 ·rw[a];exact c 1 (by omega)
 ·rw[a];exact c 2 (by omega)
 ·exact g b a
 ·exact h b a
def qU.go (a:qU D U qo w rp d v tI)(C:∀ h,U h->h<w.heap.size)(z:jX U w rp v d' w')(j:xW d d'):∃ o p q,qU (grow D w w') U qo w' rp d' {v with sv:=o,wv:=p} q/\gp D w w':=by
 obtain⟨o,p,q,r,E,A⟩:=z.ex;have i:=z.but;have F:=i.wide fun h _ b=>a.dsw h b;have P:=i.size;obtain⟨G,c2,H,I,J,K⟩:=a.cb;have L:=fun h M b=>a.dU h (a.dsw h b) M;have s:∀ c,D c->grow D w w' c:=fun c e=>.inl e;refine⟨o,p,q,⟨r,i.heap a.cls (a.sc.ty a.cls (by decide) (by decide) (by decide) (by decide)),by rw[j.ks];exact a.kn,fun l c e=>?_,fun t u=>?_,fun N=>?_,?_,fun c e b=>?_,a.wg,⟨.inl G,.inl c2,fun t u=>.inl (H t u),fun c e=>?_,fun c e=>?_,fun c e=>.inl (K c e)⟩,fun c e=>.inl (a.qd c e),fun c e b=>?_,fun c e=>?_⟩,F⟩
 ·rw[j.ks] at e;obtain⟨m,n,x⟩:=a.kl l c e;refine⟨m,n,(x.but i (fun h g b=>?_) (fun h B _ k=>a.sc.ty k (by decide) (by decide) (by decide) (by decide)) L).mono s (fun _ b=>b)⟩;cases c with
  | none=>
   have:=x;rw[this] at g;cases g
  | some kk=>
   obtain⟨Q,y⟩:=x;rcases b with (b | b | b | b) | b | b
   ·exact qq y.wl a.sc.nS (by decide) (by rw[<-b];exact g)
   ·exact a.wg l m 0 n (by omega) (by rw[<-b];exact g)
   ·exact a.wg l m 1 n (by omega) (by rw[<-b];exact g)
   ·exact a.wg l m 2 n (by omega) (by rw[<-b];exact g)
   ·exact qS y.wl a.sc.sf.own (by decide) g b
   ·exact qS y.wl a.sc.wt (by decide) g b
 ·rw[j.p];exact ((a.uP t u).but i (fun h B O k=>a.sc.ty k (by decide) (by decide) (by decide) (by decide))).mono s
 ·rw[j.fp];exact ((a.uT (by rw[<-j.tQ];exact N)).but i (fun h B O k=>a.sc.ty k (by decide) (by decide) (by decide) (by decide))).mono s
 ·rw[j.marks];refine qi a.tN i (fun h g b=>?_);rcases b with (b | b | b | b) | b | b
  ·exact qq a.tN a.sc.nS (by decide) (by rw[<-b];exact g)
  ·exact qS a.tN (a.sc.st 0 (by omega)).1 (by decide) g (by rw[b];rfl)
  ·exact qS a.tN (a.sc.st 1 (by omega)).1 (by decide) g (by rw[b];rfl)
  ·exact qS a.tN (a.sc.st 2 (by omega)).1 (by decide) g (by rw[b];rfl)
  ·exact qS a.tN a.sc.sf.own (by decide) g b
  ·exact a.mw h g b
 ·rcases A c b with f | f
  ·exact a.mw c e f
  ·have:=(ab a.tN c e).2;omega
 ·rcases E c e with f | f
  ·exact .inl (I c f)
  ·exact .inr ⟨f,(ab r.sf.own c e).2⟩
 ·rcases A c e with f | f
  ·exact .inl (J c f)
  ·exact .inr ⟨f,(ab r.wt c e).2⟩
 ·rcases e with f | f
  ·exact a.dU c f b
  ·have:=C c b;omega
 ·rcases e with f | f
  ·have:=a.dl c f;omega
  ·exact f.2
end
variable{q:Int}{h:List gt}{b8:hJ}{e:gF}
def lm (a:Int)(b:List (List gt))(c:Nat):Int:=a-((b.take c).map qA).sum
def Q2 (a:Int)(b:List (List gt)):lm a b 0=a:=by simp[lm]
def YK {a:List (List gt)}(b:a[n]?=some h):lm q a (n+1)=lm q a n-qA h:=by
 unfold lm;rw[am,b];simp only[fN,aE,aY,dr,List.sum_append,List.sum_cons,List.sum_nil];omega
def Jh:∀ (a:List (List gt))(e:Int)(b:Nat),b<=a.length->(∀ (f:Nat)(c:List gt),f<b->a[f]?=some c->qA c<=lm e a f)->(b=a.length\/∃ c,a[b]?=some c/\lm e a b<qA c)->zP e a=(b,lm e a b)
 | [],e,b,g,_,_=>by
  have:b=0:=(by simpa using g);subst this;simp[zP,lm]
 | c::a,e,0,g,_,j=>by
  rcases j with k | ⟨r,h,i⟩
  ·simp at k
  ·simp only[bp,ac] at h;subst h;rw[Q2] at i ⊢;unfold zP;rw[ah (by omega)]
 | c::a,e,b+1,g,n,j=>by
  have o:=n 0 c (by omega) rfl;rw[Q2] at o;have l:∀ f,lm e (c::a) (f+1)=lm (e-qA c) a f:=fun f=>by
   unfold lm;simp only[dJ,aY,List.sum_cons];omega
  have p:=Jh a (e-qA c) b (by simpa using g) (fun f m s q=>by
   have:=n (f+1) m (by omega) (by simpa using q);rw[l] at this;exact this) (by
   rcases j with k | ⟨m,h,i⟩
   ·exact .inl (by simpa using k)
   ·rw[l] at i;exact .inr ⟨m,by simpa using h,i⟩)
  unfold zP;rw[an o,p,l]
def yE:∀ (a:List hJ)(b:Nat)(g:hJ),a[b]?=some g->∀ (c:Nat)(e:Value)(f:hJ),c<4->zK f=(zK g).set c e->(qG a).set (b*4+c) e=qG (a.set b f)
 | [],b,g,h,_,_,_,_,_=>by simp at h
 | i::a,0,g,h,c,e,f,k,j=>by
  simp only[bp,ac] at h;subst h;show (zK i++qG a).set (0*4+c) e=zK f++qG a;rw[ft,bA,List.set_append_left _ _ (by simp[zK];omega),j]
 | i::a,b+1,g,h,c,e,f,k,j=>by
  have l:=yE a b g (by simpa using h) c e f k j;show (zK i++qG a).set ((b+1)*4+c) e=zK i++qG (a.set b f);rw[bG _ _ (by simp[zK];omega),<-l];congr 2
  simp[zK];omega
section
variable {D U:Nat->Prop}{qo:Nat->Nat}{w w1 w2 w':World}{rp:Nat}{d d' d'':Dc}{v:Dv}{tI:List Value}
def qv5 (d:Dc)(v:Dv)(a:List (Option gF))(b:Nat)(c:hJ):iC {d with ks:=a} {v with cl:=v.cl.set b c}=iC d v:=by
 unfold iC;simp only[aG];rfl
def qU.cli (a:qU D U qo w rp d v tI){cl':hJ}{x':Option gF}(E:n<d.ks.length)(u:v.cl[n]?=some b8)(g:gp (fun o=>o=v.cb) w w')(F:w'.heap[v.cb]?=some (.cells (qG (v.cl.set n cl')).toArray 123 (0,0)))(G:DK D (fun f=>qo f=n+1) U w cl' x')(H:cl'.wv=b8.wv):qU D U qo w' rp {d with ks:=d.ks.set n x'} {v with cl:=v.cl.set n cl'} tI:=by
 obtain⟨V,c2,W,X,Y,Z⟩:=a.cb;have s:∀ {c:Nat}{t:Array Value}{p:TypeId}{x:Nat×Nat},w.heap[c]?=some (.cells t p x)->p≠123->¬c=v.cb:=fun h k b=>by
  rw[b,a.cls] at h;simp only[ac,cJ] at h;exact k h.2.1.symm
 have q:∀ {b:TypeId}{I:Nat}{A:Value}{J:Nat}{K:List Value}{L:Nat},w.ownsRow L b I A J K->123≠b->∀ c,A.ownBlock=some c->¬c=v.cb:=fun M k c h b=>qq M a.cls k (by rw[<-b];exact h);have B:∀ c,U c->¬c=v.cb:=fun c N b=>a.dU c (by rw[b];exact c2) N;have O:gT U w' rp {d with ks:=d.ks.set n x'} {v with cl:=v.cl.set n cl'} tI:=(by refine⟨?_,fun e r=>⟨qi (a.sc.st e r).1 g (q (a.sc.st e r).1 (by decide)),(a.sc.st e r).2⟩,a.sc.gi,a.sc.sf.but g (q a.sc.sf.own (by decide)) B,a.sc.pl,a.sc.tL,a.sc.cfg,a.sc.len,qi a.sc.wt g (q a.sc.wt (by decide)),a.sc.wU⟩;rw[qv5];exact g.heap a.sc.nS (s a.sc.nS (by decide)));refine⟨O,F,by rw[aG,aG];exact a.kn,fun e o y=>?_,fun e r=>(a.uP e r).but g (fun c t x i=>s i (by decide)),fun P=>(a.uT P).but g (fun c t x i=>s i (by decide)),qi a.tN g (q a.tN (by decide)),a.mw,fun e j p i k=>?_,a.cb,a.qd,a.dU,fun o y=>zzm (a.dl o y) g.size⟩
 ·have l:=y;rw[cG] at l;have Q:=(zzg u).1;have C:∀ {j:hJ}{f:Option gF},DK D (fun f=>qo f=e+1) U w j f->DK D (fun f=>qo f=e+1) U w' j f:=fun {j f} z=>z.but g (fun c h b=>by
   cases f with
   | none=>
    have:=z;rw[this] at h;cases h
   | some kk=>
    obtain⟨a0,R⟩:=z;exact q R.wl (by decide) c h b) (fun c t _ i=>s i (by decide)) B
  by_cases b:n=e
  ·subst b;rw[an rfl,an E] at l;simp only[ac] at l;subst l;exact⟨cl',ar Q,C G⟩
  ·rw[ah b] at l;obtain⟨j,S,T⟩:=a.kl e o l;exact⟨j,by show (v.cl.set n cl')[e]?=_;rw[bc b];exact S,C T⟩
 ·have m:=i;rw[cG] at m;by_cases b:n=e
  ·subst b;rw[an rfl,an (zzg u).1] at m;simp only[ac] at m;subst m;rw[H];exact a.wg n b8 p u k
  ·rw[ah b] at m;exact a.wg e j p m k
def qU.ud (f:qU D U qo w rp d v tI){g:List (T3×List gt)}(j:d.ks[n]?=some (some e))(h:v.cl[n]?=some b8)(b:tE D (fun y=>qo y=n+1) U w b8 e g)(a:Int):qU D U qo (w.setCell ⟨v.cb,n*4+2,none⟩ (.int .i64 a)) rp {d with ks:=d.ks.set n (some {e with cr:=a})} {v with cl:=v.cl.set n {b8 with cr:=a}} tI:=by
 have k:gp (fun c=>c=v.cb) w (w.setCell ⟨v.cb,n*4+2,none⟩ (.int .i64 a)):=(gp.refl (fun c=>c=v.cb) w).setCell (p:=⟨v.cb,n*4+2,none⟩) (.inl rfl) _;refine f.cli (x':=some {e with cr:=a}) (zzg j).1 h k ?_ ⟨g,b.th,rfl,b.wl,b.cw,b.q,b.rd,b.row⟩ rfl;have l:=qp (i:=n*4+2) f.cls (.int .i64 a);rw[l];have:=yE v.cl n b8 h 2 (.int .i64 a) {b8 with cr:=a} (by omega) rfl;rw[<-this];simp
def qU.queue (c:qU D U qo w rp d v tI){g mq':List (T3×List gt)}(h:d.ks[n]?=some (some e))(f:v.cl[n]?=some b8)(a:tE D (fun y=>qo y=n+1) U w b8 e g)(j:xi (fun y=>qo y=n+1) w z (mq'.map Prod.fst))(k:∀ t∈mq',gW U w (sl t.1) t.2):qU D U qo (w.setCell ⟨v.cb,n*4+1,none⟩ z) rp {d with ks:=d.ks.set n (some {e with q:=mq'.map Prod.snd})} {v with cl:=v.cl.set n {b8 with q:=z}} tI:=by
 have l:gp (fun b=>b=v.cb) w (w.setCell ⟨v.cb,n*4+1,none⟩ z):=(gp.refl (fun b=>b=v.cb) w).setCell (p:=⟨v.cb,n*4+1,none⟩) (.inl rfl) _;refine c.cli (x':=some {e with q:=mq'.map Prod.snd}) (zzg h).1 f l ?_ ⟨mq',a.th,a.cr,a.wl,a.cw,rfl,k,j⟩ rfl;have m:=qp (i:=n*4+1) c.cls z;rw[m];have:=yE v.cl n b8 f 1 z {b8 with q:=z} (by omega) rfl;rw[<-this];simp
def qU.below (a:qU D U qo w rp d v tI)(e:Below w.heap.size w w'):qU D U qo w' rp d v tI:=by
 have c:gp (fun _=>False) w w':=.aD e;exact⟨a.sc.below e,c.heap a.cls (fun b=>b),a.kn,fun h f g=>by
  obtain⟨i,j,k⟩:=a.kl h f g;exact⟨i,j,k.but c (fun _ _ b=>b) (fun _ _ _ _ b=>b) (fun _ _ b=>b)⟩,fun l m=>(a.uP l m).but c (fun _ _ _ _ b=>b),fun n=>(a.uT n).but c (fun _ _ _ _ b=>b),qi a.tN c (fun _ _ b=>b),a.mw,a.wg,a.cb,a.qd,a.dU,fun f g=>zzm (a.dl f g) e.size⟩
def qU.wL (a:qU D U qo w rp d v tI):qU D U qo (w.setCell ⟨rp,27,none⟩ (.bool true)) rp {d with ch:=true} v tI:=by
 have e:gp (fun g=>g=rp) w (w.setCell ⟨rp,27,none⟩ (.bool true)):=(gp.refl (fun g=>g=rp) w).setCell (p:=⟨rp,27,none⟩) (.inl rfl) _;have l:∀ {b:Nat}{m:Array Value}{s:TypeId}{n:Nat×Nat},w.heap[b]?=some (.cells m s n)->s≠121->¬b=rp:=fun f o c=>by
  rw[c,a.sc.nS] at f;simp only[ac,cJ] at f;exact o f.2.1.symm
 have h:∀ {c:TypeId}{x:Nat}{t:Value}{y:Nat}{z:List Value}{A:Nat},w.ownsRow A c x t y z->121≠c->∀ b,t.ownBlock=some b->¬b=rp:=fun B o b f c=>qq B a.sc.nS o (by rw[<-c];exact f);have u:∀ b,U b->¬b=rp:=fun b C c=>a.dU b (by rw[c];exact a.cb.1) C;have E:gT U (w.setCell ⟨rp,27,none⟩ (.bool true)) rp {d with ch:=true} v tI:=(by refine⟨?_,fun i j=>⟨qi (a.sc.st i j).1 e (h (a.sc.st i j).1 (by decide)),(a.sc.st i j).2⟩,a.sc.gi,a.sc.sf.but e (h a.sc.sf.own (by decide)) u,a.sc.pl,a.sc.tL,a.sc.cfg,a.sc.len,qi a.sc.wt e (h a.sc.wt (by decide)),a.sc.wU⟩;exact qp (i:=27) a.sc.nS _);refine⟨E,e.heap a.cls (l a.cls (by decide)),a.kn,fun F g q=>?_,fun i j=>(a.uP i j).but e (fun b m n k=>l k (by decide)),fun G=>(a.uT G).but e (fun b m n k=>l k (by decide)),qi a.tN e (h a.tN (by decide)),a.mw,a.wg,a.cb,a.qd,a.dU,fun g q=>zzm (a.dl g q) e.size⟩;obtain⟨H,I,r⟩:=a.kl F g q;refine⟨H,I,r.but e (fun b f c=>?_) (fun b m _ k=>l k (by decide)) u⟩;cases g with
 | none=>
  have:=r;rw[this] at f;cases f
 | some kk=>
  obtain⟨K,J⟩:=r;exact h J.wl (by decide) b f c
def qX (D U:Nat->Prop)(qo:Nat->Nat)(w:World)(rp e:Nat)(d':Dc)(w':World):Prop:=∃ b c f,qU b U qo w' rp d' c f/\(∀ a,b a->D a\/w.heap.size<=a)/\c.cb=e/\gp D w w'
def qX.refl (a:qU D U qo w rp d v tI):qX D U qo w rp v.cb d w:=⟨D,v,tI,a,fun c b=>.inl b,rfl,gp.refl _ _⟩
def qX.below {a:Nat}(c:qX D U qo w rp a d w1)(b:Below w1.heap.size w1 w'):qX D U qo w rp a d w':=by
 obtain⟨e,f,g,h,i,j,k⟩:=c;exact⟨e,f,g,h.below b,i,j,k.trans (.aD b)⟩
def qX.wL {a:Nat}(e:qX D U qo w rp a d w1):qX D U qo w rp a {d with ch:=true} (w1.setCell ⟨rp,27,none⟩ (.bool true)):=by
 obtain⟨f,g,h,b,c,i,j⟩:=e;refine⟨f,g,h,b.wL,c,i,j.setCell (p:=⟨rp,27,none⟩) (c rp b.cb.1) _⟩
def qX.done (p:qX D U qo w rp n d w1)(q:∀ c,U c->c<w.heap.size)(b:Nat)(a:gt)(f:Option Addr)(e g:Nat)(r:e=a.px.length)(s:gS U w1 (.slice f e g) a.px)(h:pf d b a):Calls Tryz.prog 121 #[.pointer (some ⟨rp,0,none⟩),.int .i64 (b:Int),.agg #[.int .i64 a.kind,.int .i64 a.iV,.int .i64 a.x,.int .i64 a.y,.int .i64 a.w,.int .i64 a.h,.slice f e g,.int .i64 a.mark]] w1 fun k w'=>(∃ t,k=.returned t)/\qX D U qo w rp n (qO d b a) w':=by
 obtain⟨u,x,I,l,m,y,i⟩:=p;have o:=fun c h=>zzm (q c h) i.size;refine (qu7 l.sc o b a f e g r s h).mono ?_;rintro k w' ⟨z,A⟩;obtain⟨B,C,E,F,k2⟩:=l.go o A (JN d b a);refine⟨z,grow u w1 w',{x with sv:=B,wv:=C},E,F,fun G H=>?_,y,i.step k2 m⟩;rcases H with j | j
 ·exact m G j
 ·exact .inr (aO i.size j.1)
end
variable{ro:Option Addr}
def qj3 (d:Dc)(a:List (Option gF))(b:Nat)(c e:Int):zu {d with ks:=a} b c e={zu d b c e with ks:=a}:=by
 unfold zu;simp only;split
 ·rfl
 ·split<;>rfl
def qu9 (d:Dc)(a:List (Option gF))(b:Int)(c:gt):qO {d with ks:=a} b c={qO d b c with ks:=a}:=by
 unfold qO;simp only;split
 ·rfl
 ·split
  ·rfl
  ·split
   ·rfl
   ·rename_i e _;split
    ·rfl
    ·split
     ·rfl
     ·split
      ·exact qj3 {d with l:=d.l.set (d.l.findIdx (gN b c.iV)) {e with left:=0}} a _ _ _
      ·split
       ·split<;>rfl
       ·split
        ·split<;>rfl
        ·rfl
structure tG (w:World)(rp cb j nk:Nat)(qn:Int)(ro:Option Addr)(n qc:Nat)(cr:Int):Prop where
 c8:w.cell? ⟨rp,8,none⟩=some (.slice (some ⟨cb,0,none⟩) nk nk)
 c5:w.cell? ⟨rp,5,none⟩=some (.int .i64 qn)
 q1:w.cell? ⟨cb,j*4+1,none⟩=some (.slice ro n qc)
 q2:w.cell? ⟨cb,j*4+2,none⟩=some (.int .i64 cr)
 lr:rp<w.heap.size
 lc:cb<w.heap.size
 fz:∀ t,w.frozen? ⟨cb,t,none⟩=false
 fr:∀ t,w.frozen? ⟨rp,t,none⟩=false
 ne:¬rp=cb
 ne':¬cb=rp
section
variable {D U:Nat->Prop}{qo:Nat->Nat}{w w1 w2 w':World}{rp cb j:Nat}{d d' d'':Dc}{v:Dv}{tI:List Value}{k:gF}
def qU.adf (a:qU D U qo w rp d v tI)(f:v.cl[j]?=some b8){qc:Nat}(g:b8.q=.slice ro n qc):tG w rp v.cb j d.ks.length d.c.hD ro n qc b8.cr:=by
 obtain⟨l,h,i,m⟩:=jC v.cl j b8 f;have e:¬rp=v.cb:=fun b=>by
  have:=a.cls;rw[<-b,a.sc.nS] at this;simp at this
 refine⟨?_,qe a.sc.nS 5,?_,?_,qh a.sc.nS,qh a.cls,fun c=>qj a.cls c,fun c=>qj a.sc.nS c,e,fun b=>e b.symm⟩
 ·rw[qe a.sc.nS 8];show some (Value.slice (some ⟨v.cb,0,none⟩) v.cl.length v.cl.length)=_;rw[a.kn]
 ·rw[qe a.cls];simpa[g] using h
 ·rw[qe a.cls];simpa using i
def qX.get (R:qX D U qo w rp cb d w1)(y:d.ks[j]?=some (some k)):∃ r e,tG w1 rp cb j d.ks.length d.c.hD r k.q.length e k.cr/\k.q.length<=e/\(∀ o:Int,qX D U qo w rp cb {d with ks:=d.ks.set j (some {k with cr:=o})} (w1.setCell ⟨cb,j*4+2,none⟩ (.int .i64 o)))/\ (∀ c,k.q[0]?=some c->∃ b f s t,r=some ⟨b,f,none⟩/\w1.cell? ⟨b,f,none⟩=some (.slice s c.length t)/\b<w1.heap.size/\¬b=cb/\gW U w1 (.slice s c.length t) c/\qX D U qo w rp cb {d with ks:=d.ks.set j (some {k with q:=k.q.drop 1})} (w1.setCell ⟨cb,j*4+1,none⟩ (.slice (if e=1 then some ⟨b,f,none⟩ else some ⟨b,f+1,none⟩) (k.q.length-1) (e-1)))):=by
 obtain⟨H,u,I,m,z,g,S⟩:=R;obtain⟨T,A,h,a⟩:=m.kl j _ y;have B:(h.map Prod.fst).length=k.q.length:=(by rw[ak,<-a.q,ak]);obtain⟨r,e,x,J⟩:=a.row.slice;rw[B] at x J;have K:=m.adf A x;rw[g,a.cr] at K;have L:=fun V W=>S.setCell (p:=⟨cb,V,none⟩) (by rw[<-g];exact z u.cb m.cb.2.1) W;refine⟨r,e,K,J,fun o=>⟨H,{u with cl:=u.cl.set j {T with cr:=o}},I,by rw[<-g];exact m.ud y A a o,z,g,L _ _⟩,fun c i=>?_⟩;have M:h≠[]:=fun C=>by rw[C] at a;rw[<-a.q] at i;simp at i
 rcases a.row with ⟨l,X⟩ | ⟨b,f,a3,a4,l,a5,E,a6,a7,a8,Y⟩
 ·exact absurd (fJ.1 X) M
 ·rw[B,x] at l;simp only[ai,cj] at l;obtain⟨l,rfl⟩:=l;obtain⟨p,F⟩:∃ p,h[0]?=some p:=by
   cases h with
   | nil=>exact absurd rfl M
   | cons Z a9=>exact⟨Z,rfl⟩
  have a0:p.2=c:=(by rw[<-a.q,aF,F] at i;exact aA i);have G:=a.rd p (zzn F);rw[a0] at G;obtain⟨s,t,N,-⟩:=id G;have O:=Y 0 p.1 (by rw[aF,F];rfl);rw[bL,N] at O;have a1:¬b=u.cb:=fun C=>by
   have:=m.cls;rw[<-C,E] at this;simp at this
  refine⟨b,f,s,t,l,by rw[qe E];exact O,qh E,by rw[<-g];exact a1,by rw[<-N];exact G,?_⟩;have P:=xi.cut (g:=b) (off:=f) (n:=k.q.length) (cap:=e) (l:=h.map Prod.fst) (k:=1) (by
   have:=a.row;rw[x,l] at this;exact this) (by rw[B];exact (zzg i).1)
  rw[<-ds] at P;have Q:=m.queue (mq':=h.drop 1) y A a P (fun c i=>a.rd c (bm i));have a2:(h.drop 1).map Prod.snd=k.q.drop 1:=(by rw[ds,a.q]);rw[a2] at Q;rw[<-g];exact⟨H,_,I,Q,z,rfl,by rw[g];exact L _ _⟩
end
end Go.Proofs.YtbnbkjbfpamijaaGreat
