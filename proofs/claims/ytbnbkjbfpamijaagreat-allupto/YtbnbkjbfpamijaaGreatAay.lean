import Derived.Test.YtbnbkjbfpamijaaGreatAax
set_option linter.all false
set_option maxRecDepth 100000
set_option maxHeartbeats 0
namespace Go.Proofs.YtbnbkjbfpamijaaGreat
open Go.RowKit Go.Proofs.Panes
variable{V:Nat→Prop}
section
variable {D D' U S:Nat->Prop}{qo qo':Nat->Nat}{w w1 w2 w':World}{rp cb j:Nat}{d d' d'':Dc}{v:Dv}{tI:List Value}{k:gF}
def xi.typed {w:World}{v:Value}{c:List T3}(b:xi V w v c):xi (fun e=>V e/\∃ a,w.heap[e]?=some (.cells a 53 (0,0))) w v c:=by
 rcases b with b | ⟨g,h,i,a,l,m,f,n⟩
 ·exact .inl b
 ·exact .inr ⟨g,h,i,a,l,⟨m,a,f⟩,f,n⟩
def Y9 (g:qU D U qo w rp d v tI)(C:∀ a,U a->a<w.heap.size)(E:d.ks[j]?=some (some k))(Q:k.q.length<=100000)(R:k.own.length=d.c.iE.toNat)(f:List gt)(s:Option Addr)(t:Nat)(F:gW U w (.slice s f.length t) f)(T:1<=f.length/\f.length<=20)(V:∀ o∈f,o.px.length<=17592186043904):Calls Tryz.prog 24 #[.pointer (some ⟨rp,0,none⟩),.int .i64 (j:Int),.slice s f.length t] w fun b w'=>b=.returned (.int .i64 (qL d.c k f))/\(qL d.c k f≠0->Below w.heap.size w w')/\ (qL d.c k f=0->∃ D' qo' G,qU D' U qo' w' rp {d with ks:=d.ks.set j (some (Ji k f))} G tI/\(∀ a,D' a->D a\/w.heap.size<=a)/\G.cb=v.cb/\gp D w w'):=by
 have W:=Qy g.sc.cfg;have b2:=W.iE;have X:=(zzg E).1;obtain⟨y,H,u,m⟩:=g.kl j _ E;have Y:(u.map Prod.fst).length=k.q.length:=(by rw[ak,<-m.q,ak]);obtain⟨i,I⟩:∃ i:Nat->Prop,i=fun a=>qo a=j+1/\∃ n,w.heap[a]?=some (.cells n 53 (0,0)):=⟨_,rfl⟩;have p:∀ a,i a->qo a=j+1/\∃ n,w.heap[a]?=some (.cells n 53 (0,0)):=fun a e=>by rw[I] at e;exact e
 have Z:xi i w y.q (u.map Prod.fst):=(by rw[I];exact m.row.typed);have J:¬i v.cb/\¬i rp/\∀ a,i a->a<w.heap.size:=by
  refine⟨fun b=>?_,fun b=>?_,fun a b=>?_⟩
  ·obtain⟨-,n,c⟩:=p _ b;rw[g.cls] at c;simp at c
  ·obtain⟨-,n,c⟩:=p _ b;rw[g.sc.nS] at c;simp at c
  ·obtain⟨-,n,c⟩:=p _ b;exact qh c
 have x:qL d.c k f=(match qR k.own f with | none=>3 | some _=>if d.c.tK<qA f then 3 else if d.c.queue<=(k.q.length:Int) then 4 else 0):=(by unfold qL;rw[jh.2 (by omega),ah (by simp)];cases qR k.own f<;>rfl);refine (VZ U i g.uD j y H m.th d.c.iE.toNat (by omega) (by omega) 0 k.q.length k.own R m.wl (u.map Prod.fst) Z Y J Q f s t F T V C).mono ?_;rintro b w' ⟨b3,rfl,z⟩;rcases z with ⟨q,rfl,h⟩ | ⟨a0,q,z⟩
 ·rw[x,q];exact⟨rfl,fun _=>h,fun b=>by simp at b⟩
 ·rcases z with ⟨A,rfl,h⟩ | ⟨A,K,rfl,h⟩ | ⟨A,K,rfl,a1,a2,L,a3,h⟩
  ·rw[x,q];simp only[A,dH];exact⟨trivial,fun _=>h,fun b=>by simp at b⟩
  ·rw[x,q];simp only[K,dH,ah (show ¬d.c.tK<qA f by omega)];exact⟨trivial,fun _=>h,fun b=>by simp at b⟩
  ·rw[x,q];simp only[ah (show ¬d.c.tK<qA f by omega),ah (show ¬d.c.queue<=(k.q.length:Int) by omega)];refine⟨trivial,fun b=>absurd rfl b,fun _=>?_⟩;have b4:=h.size;have M:∀ a,(a=v.cb\/i a)->D a:=fun a e=>by
    rcases e with b | b
    ·rw[b];exact g.cb.2.1
    ·exact g.qd a (by have:=(p a b).1;omega)
   have N:∀ a,U a->¬(a=v.cb\/i a):=fun a a4 b=>g.dU a (M a b) a4;have a5:(Value.slice (some (⟨w.heap.size,0,none⟩:Addr)) d.c.iE.toNat d.c.iE.toNat).ownBlock=some w.heap.size:=rfl;have a6:=ab L w.heap.size a5;have a7:∀ l,l<3->v.g l<w.heap.size:=fun l r=>(ab (g.sc.st l r).1 _ rfl).2;obtain⟨qo',B⟩:∃ qo':Nat->Nat,qo'=fun a=>if w.heap.size<=a/\a<w'.heap.size then j+1 else qo a:=⟨_,rfl⟩;have O:∀ a,a<w.heap.size->qo' a=qo a:=fun a e=>by rw[B];simp only;rw[ah (by omega)]
   have a8:∀ a,w.heap.size<=a/\a<w'.heap.size->qo' a=j+1:=fun a e=>by rw[B];simp only;rw[an e]
   have a9:=fun a e=>g.dl a (g.qd a e);have b0:=g.wK (D':=grow D w w') (qo':=qo') (x':=some (Ji k f)) (cl':=⟨true,a1,y.cr,.slice (some ⟨w.heap.size,0,none⟩) d.c.iE.toNat d.c.iE.toNat⟩) X H h (fun a b=>by
    rcases b with b | b
    ·exact .inl b
    ·exact .inr (p a b)) a2 ⟨u++[((s,f.length,t),f)],rfl,m.cr,by
     have b1:(Ji k f).own=a0:=(by unfold Ji;rw[q];rfl);rw[b1];exact XD L (aj _),fun a e=>?_,by
     rw[aE,m.q];rfl,fun l r=>?_,by
     rw[aE];refine a3.mono (fun a e=>?_);rcases e with c | c
     ·show qo' a=j+1;rw[O a (J.2.2 a c)];exact (p a c).1
     ·exact a8 a c⟩ (fun l r b=>?_) (fun a e=>.inl e) (fun a e b=>?_) (fun a e=>?_) (fun a e=>O a (a9 a e)) (fun a e=>?_)
   ·refine⟨_,qo',_,b0,fun a e=>?_,rfl,h.wide fun a _ b=>M a b⟩;rcases e with c | c
    ·exact .inl c
    ·exact .inr c.1
   ·have:some w.heap.size=some a:=e;have:=aA this;subst this;exact .inr a6
   ·rcases al.1 r with c | c
    ·exact (m.rd l c).but h N
    ·rw[ay] at c;subst c;exact F.but h N
   ·have:some w.heap.size=some (v.g l):=b;have:=aA this;have:=a7 l r;omega
   ·rcases e with c | c
    ·exact g.dU a c b
    ·have:=C a b;omega
   ·rcases e with c | c
    ·have:=g.dl a c;omega
    ·exact c.2
   ·by_cases P:w.heap.size<=a/\a<w'.heap.size
    ·exact .inr P
    ·have:qo' a=qo a:=(by rw[B];simp only;rw[ah P]);rw[this] at e;exact .inl (g.qd a e)
end
variable{x:List Bool}{n:Nat}{ch:Bool}
def sU (d:Dc):gB:={W:=0,H:=0,b:=fun a=>⟨[],[],d.fn a⟩,front:=d.front,frame:=none,due:=false,marks:=[]}
def Jy (d:Dc):∀ k,zG d k=za (sU d) k
 | 0=>rfl
 | k+1=>by
  unfold zG za;rw[Jy d k];rfl
def Yn (d:Dc)(k j:Nat)(a:zG d k=some j):j<k:=by rw[Jy] at a;exact ya _ _ _ a
def hT (d:Dc):Nat:=(zG d 3).getD 0
def pm (d:Dc):Dc:={d with tH:=d.tH+1,tQ:=true,tU:=hT d,fp:=(List.range d.N).map (Qq d.l d.c.behind d.W),left:=(ny (d.st (hT d)) d.N:Int),st:=fun a=>if a=hT d then List.replicate d.N false else d.st a,fn:=fun a=>if a=hT d then d.tH+1 else d.fn a,marks:=d.wait,wait:=[],ch:=false}
def qm3 {d:Dc}(a:d.tQ=false)(b:d.ch=true):jF d=pm d:=by
 unfold jF;rw[ah (by rw[a,b];simp)];rfl
def qs (d:Dc)(a:List Int)(b:Nat):Dc:={d with tH:=d.tH+1,tQ:=true,tU:=hT d,fp:=a,left:=(ny (d.st (hT d)) b:Int)}
def ot (b:List Bool)(a:Nat):List Bool:=List.replicate a false++b.drop a
def qx9 (a:n<x.length):(ot x n).set n false=ot x (n+1):=by
 unfold ot;rw[bG _ _ (by simp),aS,cL,cU,aN];congr 1
 have:=(bo a).symm;rw[this];rfl
def sy (a:x[n]?=some ch):(ot x n)[n]?=some ch:=by
 unfold ot;rw[aq (by simp),aS,cL,bw];exact a
section
variable {D U:Nat->Prop}{qo:Nat->Nat}{w w1 w2 w':World}{rp cb j:Nat}{d d' d'':Dc}{v:Dv}{tI:List Value}{k:gF}
def qU.begun (c:qU D U qo w rp d v tI)(l:hT d<3){fb:Nat}(P:w.heap.size<=fb)(Q:∀ b,U b->b<w.heap.size)(i:gp (fun b=>b=rp\/b=v.g (hT d)) w w')(R:w'.heap[rp]?=some (.cells (iC (pm d) {v with uJ:=.slice (some ⟨fb,0,none⟩) d.N d.N,mv:=v.wv,wv:=.slice none 0 0}) 121)) (S:w'.heap[v.g (hT d)]?=some (.cells ((List.replicate d.N false).map Value.bool).toArray 4 (0,0))) (A:w'.heap[fb]?=some (.cells (((List.range d.N).map (Qq d.l d.c.behind d.W)).map (Value.int .i64)).toArray 3 (0,0))):qX D U qo w rp v.cb (pm d) w':=by
 obtain⟨o,c2,p,T,V,a4⟩:=c.cb;have a5:=i.size;have a6:=(ab (c.sc.st (hT d) l).1 _ rfl).2;have q:∀ {b:Nat}{r:Array Value}{s:TypeId}{B:Nat×Nat},w.heap[b]?=some (.cells r s B)->s≠121->s≠4->¬(b=rp\/b=v.g (hT d)):=fun m t u a=>by
  rcases a with a | a
  ·rw[a,c.sc.nS] at m;simp only[ac,cJ] at m;exact t m.2.1.symm
  ·exact qq (c.sc.st (hT d) l).1 m u (by rw[a];rfl)
 have C:∀ {a:TypeId}{W:Nat}{E:Value}{X:Nat}{Y:List Value}{Z:Nat},w.ownsRow Z a W E X Y->121≠a->a≠4->∀ b,E.ownBlock=some b->¬(b=rp\/b=v.g (hT d)):=fun F t u b e a=>by
  rcases a with a | a
  ·exact qq F c.sc.nS t (by rw[<-a];exact e)
  ·exact qS F (c.sc.st (hT d) l).1 u e (by rw[a];rfl)
 have G:∀ b,U b->¬(b=rp\/b=v.g (hT d)):=fun b H a=>by
  rcases a with a | a
  ·exact c.dU b (by rw[a];exact o) H
  ·exact c.dU b (by rw[a];exact p _ l) H
 have a0:∀ f,f<3->f≠hT d->¬(v.g f=rp\/v.g f=v.g (hT d)):=fun f h I a=>by
  rcases a with a | a
  ·exact qq (c.sc.st f h).1 c.sc.nS (by decide) (by rw[a];rfl)
  ·obtain⟨J,K,L⟩:=c.sc.gi;rcases (show f=0\/f=1\/f=2 by omega) with rfl | rfl | rfl<;>rcases (show hT d=0\/hT d=1\/hT d=2 by omega) with g | g | g<;>rw[g] at a I<;>first | exact I rfl | exact J a | exact K a | exact L a | exact J a.symm | exact K a.symm | exact L a.symm
 have a1:=qh A;have M:∀ b,D b->grow D w w' b:=fun b e=>.inl e;have a7:(List.range d.N).length=d.N:=dk;refine⟨grow D w w',{v with uJ:=.slice (some ⟨fb,0,none⟩) d.N d.N,mv:=v.wv,wv:=.slice none 0 0},tI,⟨⟨R,fun f h=>?_,c.sc.gi,c.sc.sf.but i (C c.sc.sf.own (by decide) (by decide)) G,c.sc.pl,c.sc.tL,c.sc.cfg,c.sc.len,⟨rfl,.inl ⟨rfl,rfl⟩⟩,fun b e=>by cases e⟩,i.heap c.cls (q c.cls (by decide) (by decide)),c.kn,fun f b e=>?_,fun f h=>((c.uP f h).but i (fun b r B x=>q x (by decide) (by decide))).mono M,fun _=>⟨fb,by simp[pm],.inr ⟨P,a1⟩,A⟩,qi c.sc.wt i (C c.sc.wt (by decide) (by decide)),fun b e a=>(by cases a),c.wg,⟨.inl o,.inl c2,fun f h=>.inl (p f h),fun b e=>.inl (T b e),fun b e=>(by cases e),fun b e=>.inl (V b e)⟩,fun b e=>.inl (c.qd b e),fun b e a=>?_,fun b e=>?_⟩,fun b e=>?_,rfl,i.wide fun b _ a=>?_⟩
 ·by_cases a:f=hT d
  ·subst a;have y:(pm d).st (hT d)=List.replicate d.N false:=an rfl;rw[y];refine⟨⟨by simp,.inr ⟨v.g (hT d),d.N,_,by rw[aS];rfl,aj _,S,by simp,?_,by simp,by simp⟩⟩,by simp;rfl⟩;have:=(c.sc.wh).2.2;have a8:=cK this.1.2 this.2.1.2;rw[this.2.2];unfold maxLen;omega
  ·have y:(pm d).st f=d.st f:=ah a;rw[y];exact⟨qi (c.sc.st f h).1 i (fun b e=>by
    have:=e;rw[<-aA this];exact a0 f h a),(c.sc.st f h).2⟩
 ·obtain⟨N,O,z⟩:=c.kl f b e;refine⟨N,O,(z.but i (fun a2 n a=>?_) (fun a2 r _ x=>q x (by decide) (by decide)) G).mono M (fun _ a=>a)⟩;cases b with
  | none=>
   have:=z;rw[this] at n;cases n
  | some kk=>
   obtain⟨a9,a3⟩:=z;rcases a with a | a
   ·exact qq a3.wl c.sc.nS (by decide) (by rw[<-a];exact n)
   ·exact c.wg f N (hT d) O l (by rw[<-a];exact n)
 ·rcases e with g | g
  ·exact c.dU b g a
  ·have:=Q b a;omega
 ·rcases e with g | g
  ·have:=c.dl b g;omega
  ·exact g.2
 ·rcases e with g | g
  ·exact .inl g
  ·exact .inr g.1
 ·rcases a with a | a
  ·rw[a];exact o
  ·rw[a];exact p _ l
end
end Go.Proofs.YtbnbkjbfpamijaaGreat
