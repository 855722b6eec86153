import Derived.Test.YtbnbkjbfpamijaaGreatAav
set_option linter.all false
set_option maxRecDepth 100000
set_option maxHeartbeats 0
namespace Go.Proofs.YtbnbkjbfpamijaaGreat
open Go.RowKit Go.Proofs.Panes
section
variable {D U:Nat->Prop}{qo:Nat->Nat}{w w1 w2 w':World}{rp cb j:Nat}{d d' d'':Dc}{v:Dv}{tI:List Value}{k:gF}
def YV (a:qU D U qo w rp d v tI)(e:d.ks[j]?=some none)(y:d.ks.length<=1000):Calls Tryz.prog 89 #[.pointer (some ⟨rp,0,none⟩),.int .i64 (j:Int)] w fun z w'=>z=.returned (.int .i64 0)/\qX D U qo w rp v.cb d w':=by
 obtain⟨f,c,l⟩:=a.kl j none e;have g:=l;have o:=(zzg e).1;have h:=a.adf c (ro:=none) (n:=0) (qc:=0) (by rw[g]);have q:f.cr=0:=(by rw[g]);rw[q] at h;have m:qX D U qo w rp v.cb d (w.setCell ⟨v.cb,j*4+2,none⟩ (.int .i64 0)):=by
  have A:gp (fun b=>b=v.cb) w (w.setCell ⟨v.cb,j*4+2,none⟩ (.int .i64 0)):=(gp.refl (fun b=>b=v.cb) w).setCell (p:=⟨v.cb,j*4+2,none⟩) (.inl rfl) _;have h1:=qp (i:=j*4+2) a.cls (.int .i64 0);have h2:=yE v.cl j f c 2 (.int .i64 0) f (by omega) (by rw[g];rfl);have r:=a.cli (x':=none) (cl':=f) o c A (by
   rw[h1,<-h2];simp) l rfl
  rw[vP e,vP c] at r;exact⟨D,v,tI,r,fun b B=>.inl B,rfl,(gp.refl D w).setCell (p:=⟨v.cb,j*4+2,none⟩) (.inl a.cb.2.1) _⟩
 obtain⟨cb,s⟩:=zx v.cb;obtain⟨C,t⟩:=zx d.ks.length;obtain⟨G,u⟩:=zx d.c.hD;rw[<-s] at m h ⊢;rw[<-t,<-u] at h;have H:(0:Int)<=(j:Int):=(by omega);have I:(j:Int)<(C:Int):=(by omega);obtain⟨J,K,L,M,N,O,x,E,P,Q⟩:=h;have R:=x (j*4+2);have F:=qg m;clear m a e y c l g o q s t u x E;go_enter Tryz.func89,Tryz.ntmps89;go_wp2;go_loopw [5] (fun b wr=>b=.int .i64 0/\wr=w) (fun _ _=>0)
 case atStart=>exact⟨rfl,rfl⟩
 case round=>
  obtain⟨rfl,rfl⟩:=hrel;go_wp2;go_ret;exact⟨rfl,qb F⟩
def qX.trans (i:qX D U qo w rp cb d w1)(l:∀ a b c,qU a U qo w1 rp d b c->b.cb=cb->qX a U qo w1 rp cb d' w'):qX D U qo w rp cb d' w':=by
 obtain⟨a,b,c,m,e,n,f⟩:=i;obtain⟨o,p,q,r,k2,s,t⟩:=l a b c m n;have x:=f.size;refine⟨o,p,q,r,fun g u=>?_,s,f.step t e⟩;rcases k2 g u with h | h
 ·exact e g h
 ·exact .inr (by omega)
end
variable{i:Nat}
section
variable {D U:Nat->Prop}{qo:Nat->Nat}{w w1 w2 w':World}{rp cb j:Nat}{d d' d'':Dc}{v:Dv}{tI:List Value}{k:gF}
def gT.buf (a:gT U w rp d v tI)(b:i<3):w.cell? ⟨rp,10+i*3,none⟩=some (v.pp i)/\w.cell? ⟨rp,10+i*3+1,none⟩=some (.slice (some ⟨v.g i,0,none⟩) d.N d.N)/\w.cell? ⟨rp,10+i*3+2,none⟩=some (.int .i64 (d.fn i)):=by
 rcases (show i=0\/i=1\/i=2 by omega) with rfl | rfl | rfl
 ·exact⟨qe a.nS 10,qe a.nS 11,qe a.nS 12⟩
 ·exact⟨qe a.nS 13,qe a.nS 14,qe a.nS 15⟩
 ·exact⟨qe a.nS 16,qe a.nS 17,qe a.nS 18⟩
def qh3 (a:qU D U qo w rp d v tI)(c:d.front<3):Calls Tryz.prog 19 #[.pointer (some ⟨rp,0,none⟩)] w fun m w'=>(∃ b,m=.returned (.slice (some ⟨b,0,none⟩) (d.p d.front).length (d.p d.front).length)/\w.heap[b]?=some (.cells ((d.p d.front).map (Value.int .i64)).toArray 3 (0,0)))/\Below w.heap.size w w':=by
 obtain⟨b,h,-,i⟩:=a.uP d.front c;obtain⟨e,-,-⟩:=a.sc.buf c;rw[h] at e;obtain⟨f,g⟩:=zx d.front;obtain⟨o,l⟩:=zx ((d.p d.front).length);have p:w.cell? ⟨rp,19,none⟩=some (.int .i64 (f:Int)):=(by rw[g];exact qe a.sc.nS 19);rw[<-l] at e ⊢;rw[<-g] at e;have q:(0:Int)<=(f:Int):=(by omega);have r:(f:Int)<3:=(by omega);have s:=qh a.sc.nS;have n:=qg i;clear g l h i a c;go_enter Tryz.func19,Tryz.ntmps19;go_wp2
 (try go_quiet (fail))
 (try go_wp2)
 (try go_region)
 (try go_wp2)
 go_ret;exact⟨⟨b,rfl,qb n⟩,by first | exact aa _ _ | exact ax (aa _ _) _ | exact (aa _ _).drew⟩
end
variable{b8:hJ}{n:Nat}
section
variable {D D' U S:Nat->Prop}{qo qo':Nat->Nat}{w w1 w2 w':World}{rp cb j:Nat}{d d' d'':Dc}{v:Dv}{tI:List Value}{k:gF}
def qU.wK (a:qU D U qo w rp d v tI){cl':hJ}{x':Option gF}(J:j<d.ks.length)(F:v.cl[j]?=some b8)(i:gp S w w')(x:∀ b,S b->b=v.cb\/(qo b=j+1/\∃ l,w.heap[b]?=some (.cells l 53 (0,0))))(K:w'.heap[v.cb]?=some (.cells (qG (v.cl.set j cl')).toArray 123 (0,0))) (L:DK D' (fun t=>qo' t=j+1) U w' cl' x') (M:∀ c,c<3->cl'.wv.ownBlock≠some (v.g c)) (h:∀ b,D b->D' b) (N:∀ b,D' b->¬U b) (O:∀ b,D' b->b<w'.heap.size) (P:∀ b,qo b≠0->qo' b=qo b) (Q:∀ b,qo' b≠0->D' b):qU D' U qo' w' rp {d with ks:=d.ks.set j x'} {v with cl:=v.cl.set j cl'} tI:=by
 obtain⟨R,c2,T,V,W,X⟩:=a.cb;have y:∀ {k:Nat}{l:Array Value}{p:TypeId}{z:Nat×Nat},w.heap[k]?=some (.cells l p z)->p≠123->p≠53->¬S k:=fun f q A e=>by
  rcases x _ e with g | ⟨-,l,g⟩
  ·rw[g,a.cls] at f;simp only[ac,cJ] at f;exact q f.2.1.symm
  ·rw[g] at f;simp only[ac,cJ] at f;exact A f.2.1.symm
 have u:∀ {e:TypeId}{Y:Nat}{G:Value}{Z:Nat}{a0:List Value}{a1:Nat},w.ownsRow a1 e Y G Z a0->123≠e->53≠e->∀ k,G.ownBlock=some k->¬S k:=fun H q A k f e=>by
  rcases x _ e with g | ⟨-,l,g⟩
  ·exact qq H a.cls q (by rw[<-g];exact f)
  ·exact qq H g A f
 have a2:∀ k,S k->D k:=fun k e=>by
  rcases x k e with g | ⟨g,-⟩
  ·rw[g];exact c2
  ·exact a.qd k (by omega)
 have I:=fun k a3 e=>a.dU k (a2 k e) a3;have a4:gT U w' rp {d with ks:=d.ks.set j x'} {v with cl:=v.cl.set j cl'} tI:=(by refine⟨?_,fun c n=>⟨qi (a.sc.st c n).1 i (u (a.sc.st c n).1 (by decide) (by decide)),(a.sc.st c n).2⟩,a.sc.gi,a.sc.sf.but i (u a.sc.sf.own (by decide) (by decide)) I,a.sc.pl,a.sc.tL,a.sc.cfg,a.sc.len,qi a.sc.wt i (u a.sc.wt (by decide) (by decide)),a.sc.wU⟩;rw[qv5];exact i.heap a.sc.nS (y a.sc.nS (by decide) (by decide)));refine⟨a4,K,by rw[aG,aG];exact a.kn,fun c b o=>?_,fun c n=>((a.uP c n).but i (fun k l z m=>y m (by decide) (by decide))).mono h,fun a5=>((a.uT a5).but i (fun k l z m=>y m (by decide) (by decide))).mono h,qi a.tN i (u a.tN (by decide) (by decide)),a.mw,fun c B p m q=>?_,⟨h _ R,h _ c2,fun c n=>h _ (T c n),fun b o=>h _ (V b o),fun b o=>h _ (W b o),fun b o=>h _ (X b o)⟩,Q,N,O⟩
 ·have r:=o;rw[cG] at r;have a6:=(zzg F).1;by_cases e:j=c
  ·subst e;rw[an rfl,an J] at r;simp only[ac] at r;subst r;exact⟨cl',ar a6,L⟩
  ·rw[ah e] at r;obtain⟨B,a7,C⟩:=a.kl c b r;refine⟨B,by show (v.cl.set j cl')[c]?=_;rw[bc e];exact a7,?_⟩;refine (C.but i (fun k f E=>?_) (fun k l a8 m E=>?_) I).mono h (fun t (a9:qo t=c+1)=>show qo' t=c+1 by rw[P t (by omega)];exact a9)
   ·cases b with
    | none=>
     have:=C;rw[this] at f;cases f
    | some kk=>
     obtain⟨b1,b0⟩:=C;exact u b0.wl (by decide) (by decide) k f E
   ·rcases x k E with g | ⟨g,-⟩
    ·rw[g,a.cls] at m;simp at m
    ·have b2:=a8;omega
 ·have s:=m;rw[cG] at s;by_cases e:j=c
  ·subst e;rw[an rfl,an (zzg F).1] at s;simp only[ac] at s;subst s;exact M p q
  ·rw[ah e] at s;exact a.wg c B p s q
def qU.uD (a:qU D U qo w rp d v tI):jR w rp v.cb d.c v.cl:=⟨⟨_,a.sc.nS,rfl,rfl,rfl,rfl,rfl,rfl,rfl,rfl,rfl⟩,a.cls⟩
def qU.there (c:qU D U qo w rp d v tI)(e:v.cl[n]?=some b8):∃ a,d.ks[n]?=some a/\b8.there=a.isSome:=by
 have i:n<d.ks.length:=(by rw[<-c.kn];exact (zzg e).1);obtain⟨a,f⟩:∃ a,d.ks[n]?=some a:=⟨d.ks[n],by simp⟩;obtain⟨l,b,g⟩:=c.kl n a f;rw[e] at b;simp only[ac] at b;subst b;refine⟨a,f,?_⟩;cases a with
 | none=>
  have:=g;rw[this];rfl
 | some kk=>obtain⟨m,h⟩:=g;exact h.th
def JD:∀ (c:List hJ)(e:List (Option gF)),c.length=e.length->(∀ (g:Nat)(b:hJ)(a:Option gF),c[g]?=some b->e[g]?=some a->b.there=a.isSome)->zy c=qC e
 | [],[],_,_=>rfl
 | [],_::_,f,_=>by simp at f
 | _::_,[],f,_=>by simp at f
 | b::c,a::e,f,h=>by
  have i:=h 0 b a rfl rfl;have l:=JD c e (by simpa using f) (fun g b a m n=>h (g+1) b a (by simpa using m) (by simpa using n));cases a with
  | none=>
   have:=i;simp[zy,qC,this]
  | some kk=>
   have:=i;simp[zy,qC,this,l]
end
variable{x:List Bool}
section
variable {D D' U S:Nat->Prop}{qo qo':Nat->Nat}{w w1 w2 w':World}{rp cb j:Nat}{d d' d'':Dc}{v:Dv}{tI:List Value}{k:gF}
def XD {w:World}{v:Value}(a:ze w n v x)(b:i<=n):ze w i v x:=
 ⟨a.1,a.2.imp id (fun ⟨c,e,f,g,h,l⟩=>⟨c,e,f,g,aO b h,l⟩)⟩
def YP (a:qU D U qo w rp d v tI)(z:∀ b,U b->b<w.heap.size)(A:d.ks.length<=4):Calls Tryz.prog 13 #[.pointer (some ⟨rp,0,none⟩)] w fun e w'=>(∃ c,qC d.ks=some c/\e=.returned (.tuple #[.int .i64 ((c:Nat):Int),.int .i64 0])/\qX D U qo w rp v.cb {d with ks:=d.ks.set c (some (yS d.c))} w')\/(qC d.ks=none/\e=.returned (.tuple #[.int .i64 0,.int .i64 5])/\w'=w):=by
 have B:=Qy a.sc.cfg;have L:=B.iE;have o:=JD _ _ a.kn (fun c r b h C=>by
  obtain⟨M,s,e⟩:=a.there h;rw[C] at s;rw[e,<-aA s])
 refine (JO a.uD d.c.iE.toNat (by omega) (by omega) (by rw[a.kn];exact A)).mono ?_;rintro e w' (⟨c,h,rfl,n,N,t,u,p⟩ | ⟨h,rfl,rfl⟩)
 ·left
  rw[o] at h;refine⟨c,h,rfl,?_⟩;have x:c<d.ks.length:=by
   rw[<-o] at h;have:=t.cls;cases f:v.cl[c]? with
   | none=>
    have O:=fc.1 f;rcases cz c d.ks.length with g | g
    ·exact g
    ·exfalso;have E:∀ (l:List hJ)(c:Nat),zy l=some c->c<l.length:=by
      intro l;induction l with
      | nil=>intro c a;simp[zy] at a
      | cons r l F=>
       intro c a;unfold zy at a;split at a
       ·simp only[ac] at a;subst a;simp
       ·cases q:zy l with
        | none=>rw[q] at a;simp at a
        | some G=>
         rw[q] at a;simp only[bO,ac] at a;subst a;have:=F G q;simp only[aX];omega
     have:=E v.cl c h;omega
   | some r=>rw[<-a.kn];exact (zzg f).1
  obtain⟨y,H⟩:∃ y,v.cl[c]?=some y:=⟨v.cl[c]'(by rw[a.kn];exact x),by simp⟩;have P:=p.size;have I:=ab u n rfl;have J:∀ i,i<3->v.g i<w.heap.size:=fun i m=>(ab (a.sc.st i m).1 _ rfl).2;have K:=a.wK (D':=grow D w w') (qo':=qo) (x':=some (yS d.c)) (cl':=⟨true,.slice none 0 0,0,.slice (some ⟨n,0,none⟩) d.c.iE.toNat d.c.iE.toNat⟩) x H p (fun b e=>.inl e) t.cls ⟨[],rfl,rfl,XD u (aj _),fun b f=>?_,rfl,fun i m=>absurd m (dM),.inl ⟨rfl,rfl⟩⟩ (fun i m e=>?_) (fun b f=>.inl f) (fun b f e=>?_) (fun b f=>?_) (fun b _=>rfl) (fun b f=>.inl (a.qd b f))
  ·refine⟨_,_,tI,K,fun b f=>?_,rfl,p.wide fun b _ e=>by rw[e];exact a.cb.2.1⟩;rcases f with g | g
   ·exact .inl g
   ·exact .inr g.1
  ·have:some n=some b:=f;have:=aA this;subst this;exact .inr I
  ·have:some n=some (v.g i):=e;have:=aA this;have:=J i m;omega
  ·rcases f with g | g
   ·exact a.dU b g e
   ·have:=z b e;omega
  ·rcases f with g | g
   ·have:=a.dl b g;omega
   ·exact g.2
 ·right
  rw[o] at h;exact⟨h,rfl,rfl⟩
end
end Go.Proofs.YtbnbkjbfpamijaaGreat
