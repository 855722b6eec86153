import Derived.Test.YtbnbkjbfpamijaaGreatAaz
set_option linter.all false
set_option maxRecDepth 100000
set_option maxHeartbeats 0
namespace Go.Proofs.YtbnbkjbfpamijaaGreat
open Go.RowKit Go.Proofs.Panes
variable{n:Nat}{f:Array Value}{I:Nat×Nat}{R:List Int}{a1:TypeId}
section
variable {D D' U S:Nat->Prop}{qo qo':Nat->Nat}{w w1 w2 w':World}{rp cb j:Nat}{d d' d'':Dc}{v:Dv}{tI:List Value}{k:gF}
def qU.frame (a:qU D U qo w rp d v tI)(e:gp S w w')(p:∀ b,S b->¬D b/\¬U b):qU D U qo w' rp d v tI:=by
 obtain⟨y,c2,z,A,B,C⟩:=a.cb;have f:=fun b c l=>(p b l).1 c;have q:=fun b c l=>(p b l).2 c;have r:∀ {s:Value}{t:List Int},vS D w s t->vS D w' s t:=fun ⟨u,m,x,E⟩=>⟨u,m,x,e.heap E (f u x)⟩;refine⟨⟨e.heap a.sc.nS (f _ y),fun g h=>⟨qi (a.sc.st g h).1 e (fun b c=>?_),(a.sc.st g h).2⟩,a.sc.gi,a.sc.sf.but e (fun b c=>f b (A b c)) q,a.sc.pl,a.sc.tL,a.sc.cfg,a.sc.len,qi a.sc.wt e (fun b c=>f b (B b c)),a.sc.wU⟩,e.heap a.cls (f _ c2),a.kn,fun g b c=>?_,fun g h=>r (a.uP g h),fun F=>r (a.uT F),qi a.tN e (fun b c=>f b (C b c)),a.mw,a.wg,a.cb,a.qd,a.dU,fun b c=>zzm (a.dl b c) e.size⟩
 ·have:=c;rw[<-aA this];exact f _ (z g h)
 ·obtain⟨G,m,n⟩:=a.kl g b c;refine⟨G,m,n.but e (fun i o=>?_) (fun i J H _=>?_) q⟩
  ·cases b with
   | none=>
    have:=n;rw[this] at o;cases o
   | some kk=>
    obtain⟨K,I⟩:=n;exact f i (I.cw i o)
  ·have L:=H;exact f i (a.qd i (by omega))
def qU.tY (a:qU D U qo w rp d v tI)(c:gp (fun g=>g=rp) w w'){d':Dc}{v':Dv}(M:w'.heap[rp]?=some (.cells (iC d' v') 121))(t:d'.c=d.c)(u:d'.ks=d.ks)(x:d'.l=d.l)(y:d'.st=d.st)(z:d'.wait=d.wait)(A:v'.cb=v.cb)(B:v'.cl=v.cl)(C:v'.sv=v.sv)(E:v'.g=v.g)(F:v'.wv=v.wv)(G:∀ b,b<3->vS D w (v'.pp b) (d'.p b)) (H:d'.tQ=true->vS D w v'.uJ d'.fp) (n:(v'.mv=v.mv/\d'.marks=d.marks)\/(v'.mv=.slice none 0 0/\d'.marks=[])):qU D U qo w' rp d' v' tI:=by
 obtain⟨a3,a4,a5,a6,a7,a8,a9,b0⟩:=v';obtain⟨b1,b2,b3,b4,b5,b6,b7,b8,b9,c0,c1,c3,c4,c5,c6,c7⟩:=d';simp only at t u x y z A B C E F G H n;subst t u x y z A B C E F;obtain⟨I,c2,N,O,P,Q⟩:=a.cb;have o:∀ {k:Nat}{p:Array Value}{J:TypeId}{q:Nat×Nat},w.heap[k]?=some (.cells p J q)->J≠121->¬k=rp:=fun f r e=>by
  rw[e,a.sc.nS] at f;simp only[ac,cJ] at f;exact r f.2.1.symm
 have i:∀ {e:TypeId}{R:Nat}{K:Value}{T:Nat}{V:List Value}{W:Nat},w.ownsRow W e R K T V->121≠e->∀ k,K.ownBlock=some k->¬k=rp:=fun X r k f e=>qq X a.sc.nS r (by rw[<-e];exact f);have L:∀ k,U k->¬k=rp:=fun k Y e=>a.dU k (by rw[e];exact I) Y;have c8:=c.size;refine⟨⟨M,fun b l=>⟨qi (a.sc.st b l).1 c (i (a.sc.st b l).1 (by decide)),(a.sc.st b l).2⟩,a.sc.gi,a.sc.sf.but c (i a.sc.sf.own (by decide)) L,a.sc.pl,a.sc.tL,a.sc.cfg,a.sc.len,qi a.sc.wt c (i a.sc.wt (by decide)),a.sc.wU⟩,c.heap a.cls (o a.cls (by decide)),a.kn,fun b g h=>?_,fun b l=>(G b l).but c (fun k p q m=>o m (by decide)),fun Z=>(H Z).but c (fun k p q m=>o m (by decide)),?_,?_,a.wg,⟨I,c2,N,O,P,?_⟩,a.qd,a.dU,fun g h=>zzm (a.dl g h) c.size⟩
 ·obtain⟨a0,a1,s⟩:=a.kl b g h;refine⟨a0,a1,s.but c (fun k f e=>?_) (fun k p _ m=>o m (by decide)) L⟩;cases g with
  | none=>
   have:=s;rw[this] at f;cases f
  | some kk=>
   obtain⟨c9,a2⟩:=s;exact i a2.wl (by decide) k f e
 ·rcases n with ⟨rfl,rfl⟩ | ⟨rfl,rfl⟩
  ·exact qi a.tN c (i a.tN (by decide))
  ·exact⟨rfl,.inl ⟨rfl,rfl⟩⟩
 ·rcases n with ⟨rfl,rfl⟩ | ⟨rfl,rfl⟩
  ·exact a.mw
  ·intro g h;cases h
 ·rcases n with ⟨rfl,rfl⟩ | ⟨rfl,rfl⟩
  ·exact Q
  ·intro g h;cases h
def qU.out (c:qU D U qo w rp d v tI)(u:w.heap[n]?=some (.cells f 153 I))(p:v.mv.ownBlock≠some n)(q:v.wv.ownBlock≠some n):qU (fun a=>D a/\a≠n) U (fun a=>if a=n then 0 else qo a) w rp d v tI:=by
 obtain⟨E,c2,F,G,H,J⟩:=c.cb;have m:∀ {k:Nat}{f:Array Value}{x:TypeId}{I:Nat×Nat},w.heap[k]?=some (.cells f x I)->x≠153->k≠n:=fun i r e=>by
  rw[e,u] at i;simp only[ac,cJ] at i;exact r i.2.1.symm
 have s:∀ {e:TypeId}{K:Nat}{l:Value}{L:Nat}{M:List Value}{N:Nat},w.ownsRow N e K l L M->153≠e->∀ k,l.ownBlock=some k->k≠n:=fun O r k i e=>qq O u r (by rw[<-e];exact i);have y:∀ {l:Value}{z:List Int},vS D w l z->vS (fun a=>D a/\a≠n) w l z:=fun ⟨P,p,q,A⟩=>⟨P,p,⟨q,m A (by decide)⟩,A⟩;refine⟨c.sc,c.cls,c.kn,fun h a b=>?_,fun h o=>y (c.uP h o),fun Q=>y (c.uT Q),c.tN,c.mw,c.wg,⟨⟨E,m c.sc.nS (by decide)⟩,⟨c2,m c.cls (by decide)⟩,fun h o=>⟨F h o,s (c.sc.st h o).1 (by decide) _ rfl⟩,fun a b=>⟨G a b,s c.sc.sf.own (by decide) a b⟩,fun a b=>⟨H a b,fun e=>q (by rw[<-e];exact b)⟩,fun a b=>⟨J a b,fun e=>p (by rw[<-e];exact b)⟩⟩,fun a b=>?_,fun a b=>c.dU a b.1,fun a b=>c.dl a b.1⟩
 ·obtain⟨R,T,B⟩:=c.kl h a b;refine⟨R,T,?_⟩;cases a with
  | none=>exact B
  | some kk=>
   obtain⟨V,g⟩:=B;refine⟨V,g.th,g.cr,g.wl,fun a b=>⟨g.cw a b,s g.wl (by decide) a b⟩,g.q,g.rd,?_⟩;rcases g.row with e | ⟨t,W,X,Y,Z,a0,C,a1⟩
   ·exact .inl e
   ·have a2:=a0;refine .inr ⟨t,W,X,Y,Z,?_,C,a1⟩;show (if t=n then 0 else qo t)=h+1;rw[ah (m C (by decide))];exact a2
 ·by_cases e:a=n
  ·rw[an e] at b;exact absurd rfl b
  ·rw[ah e] at b;exact⟨c.qd a b,e⟩
end
structure hj (D U:Nat->Prop)(w:World)(rp cb rb ob:Nat)(D1:Nat->Prop)(qo:Nat->Nat)(d:Dc)(rep:Array Value)(av fv:Value)(cn:List Int)(fm:List (Int×Int))(wr:World):Prop where
 doc:∃ v1 pvs1,qU D1 U qo wr rp d v1 pvs1/\v1.cb=cb
 sub:∀ x,D1 x->D x\/w.heap.size<=x
 but:gp D w wr
 rep:wr.heap[rb]?=some (.cells rep 133 (0,0))
 out:wr.heap[ob]?=some (.cells #[.int .i64 0,.int .i64 0,.int .i64 0,.slice none 0 0,.slice none 0 0] 133 (0,0))
 z:¬D1 rb/\¬D1 ob/\¬rb=ob
 ge:w.heap.size<=rb/\w.heap.size<=ob
 uc:zh wr w.heap.size av cn
 az:∀ b,av.ownBlock=some b->¬D1 b
 uj:jM wr 0 fv fm
 fz:∀ b,fv.ownBlock=some b->¬D1 b
def rT {w:World}{v:Value}(h:zh w n v R)(i:n<=w.heap.size)(A:R.length<=1000000)(e:Int)(b:Nat)(l:w.cell? ⟨b,0,none⟩=some (.int .i64 e)):∃ a c w',(Builtin.append_ #[50,50] 50 #[v,.slice (some ⟨b,0,none⟩) 1 1]).run Tryz.prog w=.ok (.slice (some ⟨a,0,none⟩) (R.length+1) c) w'/\zh w' n (.slice (some ⟨a,0,none⟩) (R.length+1) c) (R++[e])/\gp (fun k=>v.ownBlock=some k) w w'/\(v.ownBlock=some a\/a=w.heap.size):=by
 obtain⟨m,o,p,q,r⟩:=aZ yg;obtain⟨a,c,w',s,t,u,x,B⟩:=run_append_lies (P:=Tryz.prog) w 50 50 n 3 m _ 1 8 Tryz.underlying50 o p q r rfl (by omega) v R.length _ h ⟨b,0,none⟩ 1 1 [Value.int .i64 e] rfl (fun j y f=>by
  have:(⟨b,0,none⟩:Addr).add j=⟨b,j,none⟩:=(by unfold Addr.add;split<;>simp_all);rw[this];cases j with
  | zero=>simp at f;rw[l];exact congrArg some f
  | succ j=>simp at f) (by
  intro y g;simp only[bf,dt,eW] at g;subst g;rfl) (by omega) (by unfold maxLen;omega) (by omega) i w.heap.size rfl
 refine⟨a,c,w',s,?_,gp.tJ u (fun k z=>z),x⟩;unfold zh;rw[aE,ae];exact t
section
variable {D U D1:Nat->Prop}{qo:Nat->Nat}{w wr w2:World}{rp cb rb ob:Nat}{d d':Dc}{rep:Array Value}{av fv:Value}{cn:List Int}{fm:List (Int×Int)}
def hj.step (a:hj D U w rp cb rb ob D1 qo d rep av fv cn fm wr)(q:∀ h m,qU D1 U qo wr rp d h m->h.cb=cb->qX D1 U qo wr rp cb d' w2):∃ i,hj D U w rp cb rb ob i qo d' rep av fv cn fm w2:=by
 obtain⟨h,m,r,s⟩:=a.doc;obtain⟨i,t,u,x,k2,y,e⟩:=q h m r s;have C:=a.but.size;have l:∀ b,b<wr.heap.size->¬D1 b->¬i b:=fun b n z A=>by
  rcases k2 b A with f | f
  ·exact z f
  ·omega
 obtain⟨o,p,B⟩:=a.z;refine⟨i,⟨t,u,x,y⟩,fun b n=>?_,a.but.step e a.sub,e.heap a.rep o,e.heap a.out p,⟨l rb (qh a.rep) o,l ob (qh a.out) p,B⟩,a.ge,qi a.uc e a.az,fun c g=>l c (ab a.uc c g).2 (a.az c g),qi a.uj e a.fz,fun c g=>l c (ab a.uj c g).2 (a.fz c g)⟩;rcases k2 b n with f | f
 ·exact a.sub b f
 ·exact .inr (by omega)
def hj.below (a:hj D U w rp cb rb ob D1 qo d rep av fv cn fm wr)(e:Below wr.heap.size wr w2):hj D U w rp cb rb ob D1 qo d rep av fv cn fm w2:=by
 obtain⟨f,g,h,i⟩:=a.doc;have c:gp (fun _=>False) wr w2:=.aD e;exact⟨⟨f,g,h.below e,i⟩,a.sub,a.but.then e,c.heap a.rep (fun b=>b),c.heap a.out (fun b=>b),a.z,a.ge,qi a.uc c (fun _ _ b=>b),a.az,qi a.uj c (fun _ _ b=>b),a.fz⟩
def hj.neR {k:Nat}(c:hj D U w rp cb rb ob D1 qo d rep av fv cn fm wr)(a:wr.heap[k]?=some (.cells f a1 I))(e:a1≠133):¬k=rb/\¬k=ob:=by
 refine⟨fun b=>?_,fun b=>?_⟩
 ·rw[b,c.rep] at a;simp only[ac,cJ] at a;exact e a.2.1.symm
 ·rw[b,c.out] at a;simp only[ac,cJ] at a;exact e a.2.1.symm
def hj.set (a:hj D U w rp cb rb ob D1 qo d rep av fv cn fm wr)(l:∀ b,U b->b<w.heap.size)(c:Nat)(g:Value):hj D U w rp cb rb ob D1 qo d (rep.setIfInBounds c g) av fv cn fm (wr.setCell ⟨rb,c,none⟩ g):=by
 obtain⟨m,n,o,q⟩:=a.doc;have e:gp (fun b=>b=rb) wr (wr.setCell ⟨rb,c,none⟩ g):=(gp.refl (fun b=>b=rb) wr).setCell (p:=⟨rb,c,none⟩) (.inl rfl) _;obtain⟨r,z,s⟩:=a.z;refine⟨⟨m,n,o.frame e (fun b f=>⟨by rw[f];exact r,fun t=>?_⟩),q⟩,a.sub,a.but.step e (fun b f=>.inr (by rw[f];exact a.ge.1)),qp (i:=c) a.rep g,e.heap a.out (fun f=>s f.symm),a.z,a.ge,qi a.uc e (fun u h=>?_),a.az,qi a.uj e (fun u h=>?_),a.fz⟩
 ·have:=l b t;have:=a.ge.1;omega
 ·obtain⟨x,y,i⟩:=qE a.uc h;exact (a.neR i (by decide)).1
 ·obtain⟨x,y,i⟩:=qE a.uj h;exact (a.neR i (by decide)).1
def hj.push (e:hj D U w rp cb rb ob D1 qo d rep av fv cn fm wr)(p:∀ b,U b->b<w.heap.size)(N:cn.length<=1000)(h:Int):∃ c g w',(Builtin.append_ #[50,50] 50 #[av,.slice (some ⟨wr.heap.size,0,none⟩) 1 1]).run Tryz.prog (wr.alloc (.cells #[.int .i64 h] 3))=.ok (.slice (some ⟨c,0,none⟩) (cn.length+1) g) w'/\(∀ f,w'.cell? ⟨rb,f,none⟩=rep[f]?)/\(∀ f,w'.frozen? ⟨rb,f,none⟩=false)/\rb<w'.heap.size/\ hj D U w rp cb rb ob D1 qo d (rep.setIfInBounds 3 (.slice (some ⟨c,0,none⟩) (cn.length+1) g)) (.slice (some ⟨c,0,none⟩) (cn.length+1) g) fv (cn++[h]) fm (w'.setCell ⟨rb,3,none⟩ (.slice (some ⟨c,0,none⟩) (cn.length+1) g)):=by
 obtain⟨q,n⟩:=zx (wr.alloc (.cells #[.int .i64 h] 3));have t:Below wr.heap.size wr q:=(by rw[n];exact (aa _ wr).alloc (zzl _) _);have a:=e.below t;have u:=a.but.size;have x:q.cell? ⟨wr.heap.size,0,none⟩=some (.int .i64 h):=(by rw[n];exact qe (qt wr _ _ rfl) 0);obtain⟨c,g,w',y,z,l,A⟩:=rT a.uc u (by omega) h wr.heap.size x;rw[<-n];obtain⟨B,C,r,E⟩:=a.doc;obtain⟨O,P,Q⟩:=e.z;have F:∀ b,(av.ownBlock=some b)->¬D1 b/\¬U b:=fun b s=>⟨e.az b s,fun G=>by
  have:=p b G;have:=(ab e.uc b s).1;omega⟩
 have H:=qq a.uc a.rep (by decide);have I:=qq a.uc a.out (by decide);have J:¬D1 c:=by
  rcases A with i | i
  ·exact e.az c i
  ·intro K;have:=r.dl c K;omega
 have L:=qi a.uj l (fun M o i=>qS a.uj a.uc (by decide) o i);have m:hj D U w rp cb rb ob D1 qo d rep (.slice (some ⟨c,0,none⟩) (cn.length+1) g) fv (cn++[h]) fm w':=
  ⟨⟨B,C,r.frame l F,E⟩,a.sub,a.but.step l (fun b i=>.inr (ab e.uc b i).1),l.heap a.rep H,l.heap a.out I,e.z,e.ge,z,fun M o=>by
   have:=o;rw[<-aA this];exact J,L,e.fz⟩
 exact⟨c,g,w',y,fun f=>qe m.rep f,fun f=>qj m.rep f,qh m.rep,m.set p 3 _⟩
end
variable{b g j:Nat}{ro:Option Addr}{m:World}{u:gv}{q:Int}
structure rD (d:Dc)(j:Nat)(k:gF):Prop where
 cr:0<=k.cr/\k.cr<=1000000
 qn:0<=d.c.hD/\d.c.hD<=1000000
 ql:k.q.length<=1000
 sm:∀ t∈k.q,(∀ o∈t,Qk o)/\t.length<=1000/\0<=qA t/\qA t<=1000000
 dn:∀ (m:Nat)(t:List gt),k.q[m]?=some t->(∀ (i:Nat)(x:List gt),i<=m->k.q[i]?=some x->qA x<=lm (k.cr+d.c.hD) k.q i)->∀ (i:Nat)(o:gt),t[i]?=some o->pf (yR (yP d j (k.q.take m)) j (t.take i)) j o
def ZE (d:Dc)(a:Nat):xW d (jq d a):=by
 unfold jq;split
 ·exact .refl d
 ·rename_i b _;split
  ·have c:xW d {d with l:=d.l.set a {b with left:=b.left-1}}:=⟨rfl,rfl,rfl,rfl,rfl,rfl,rfl,rfl,rfl,rfl,rfl,rfl⟩;exact c.trans (ZL _ _ _ _)
  ·exact .refl d
def KO (d:Dc)(a:Nat)(b c:Int):(zu d a b c).l.length=d.l.length:=by
 unfold zu;split
 ·rfl
 ·split
  ·rfl
  ·exact aG
def Kh (d:Dc)(a:Nat):(jq d a).l.length=d.l.length:=by
 unfold jq;split
 ·rfl
 ·split
  ·rw[KO];exact aG
  ·rfl
def yY (d:Dc):∀ a,(zj d a).l.length=d.l.length
 | 0=>rfl
 | a+1=>(Kh _ _).trans (yY d a)
def xX (d:Dc):∀ a,xW d (zj d a)
 | 0=>.refl d
 | a+1=>(xX d a).trans (ZE _ a)
def qn0 (d:Dc)(a:Nat):(xR d a).c=d.c/\(xR d a).ks.length=d.ks.length/\(xR d a).front=d.front/\(xR d a).tH=d.tH/\(xR d a).tQ=d.tQ/\(xR d a).tU=d.tU/\(xR d a).left=d.left:=by
 unfold xR;split
 ·have b:=Za a (qB ‹_› d.c.hD).1 d;exact⟨b.c,aG,b.front,b.tH,b.tQ,b.tU,b.left⟩
 ·exact⟨rfl,rfl,rfl,rfl,rfl,rfl,rfl⟩
def yJ (d:Dc):∀ a,(zD d a).c=d.c/\(zD d a).ks.length=d.ks.length/\(zD d a).front=d.front/\(zD d a).tH=d.tH/\(zD d a).tQ=d.tQ/\(zD d a).tU=d.tU/\(zD d a).left=d.left
 | 0=>⟨rfl,rfl,rfl,rfl,rfl,rfl,rfl⟩
 | a+1=>by
  obtain⟨b,c,e,f,g,h,i⟩:=yJ d a;obtain⟨j,k,l,m,n,o,p⟩:=qn0 (zD d a) a;exact⟨j.trans b,k.trans c,l.trans e,m.trans f,n.trans g,o.trans h,p.trans i⟩
section
variable {D U D1:Nat->Prop}{qo:Nat->Nat}{w wr w2:World}{rp cb rb ob:Nat}{d d':Dc}{rep:Array Value}{av fv:Value}{cn:List Int}{fm:List (Int×Int)}{v:Dv}{tI:List Value}
def Kg (k:qU D U qo w rp d v tI)(y:∀ e,U e->e<w.heap.size){a:gv}(f:d.l[n]?=some a)(o:v.sv=.slice (some ⟨j,0,none⟩) d.l.length g)(z:tI[n]?=some (.slice ro a.px.length b))(A:0<a.left)(h:iq (a.x+a.dx))(B:iq (a.y+a.dy))(c:xq a)(q:Below w.heap.size w m):Calls Tryz.prog 88 #[.pointer (some ⟨rp,0,none⟩),.int .i64 (n:Int),.int .i64 (a.x+a.dx),.int .i64 (a.y+a.dy)] (m.setCell ⟨j,n*10+9,none⟩ (.int .i64 (a.left-1))).drew fun r s=>r=.returned (.tuple #[])/\qX D U qo w rp v.cb (jq d n) s:=by
 have C:=(zzg f).1;have E:=(k.sc.below q).put (t:=9) (s':={a with left:=a.left-1}) (u:=.int .i64 (a.left-1)) f z o (by omega) rfl ⟨c.w0,c.w8,c.h0,c.h8,c.px,c.xb,c.yb⟩ rfl;have F:=E.below ((aa _ _).drew);have G:v.sv.ownBlock=some j:=(by rw[o];rfl);have H:gp (ry rp v) w (m.setCell ⟨j,n*10+9,none⟩ (.int .i64 (a.left-1))).drew:=((gp.aD (S:=ry rp v) q).setCell (p:=⟨j,n*10+9,none⟩) (.inl (.inr G)) _).drew;have I:(d.l.set n {a with left:=a.left-1})[n]?=some {a with left:=a.left-1}:=ar C;have J:jq d n=zu {d with l:=d.l.set n {a with left:=a.left-1}} n (a.x+a.dx) (a.y+a.dy):=(by unfold jq;rw[f];simp only;rw[an A]);refine (XF (d:={d with l:=d.l.set n {a with left:=a.left-1}}) F (i:=n) I (a.x+a.dx) (a.y+a.dy) h B).mono ?_;rintro r s ⟨rfl,x,K⟩;refine⟨rfl,?_⟩;rw[<-J] at x;have L:=H.trans K;obtain⟨P,Q,R,M,N⟩:=k.go y (jX.of x L) (ZE d n);exact⟨_,_,_,M,fun e h=>h.imp id (fun O=>O.1),rfl,N⟩
def hj.slide (a:hj D U w rp cb rb ob D1 qo d rep av fv cn fm wr)(x:∀ f,U f->f<w.heap.size)(p:d.l[n]?=some u):∃ b g h i,wr.cell? ⟨rp,9,none⟩=some (.slice (some ⟨b,0,none⟩) d.l.length g)/\rp<wr.heap.size/\b<wr.heap.size/\(∀ c,wr.frozen? ⟨b,c,none⟩=false)/\(∀ c,c<10->wr.cell? ⟨b,n*10+c,none⟩=(zA (u,.slice h u.px.length i))[c]?)/\iq u.x/\iq u.y/\ (0<u.left->iq (u.x+u.dx)->iq (u.y+u.dy)->∀ j,Below wr.heap.size wr j->Calls Tryz.prog 88 #[.pointer (some ⟨rp,0,none⟩),.int .i64 (n:Int),.int .i64 (u.x+u.dx),.int .i64 (u.y+u.dy)] (j.setCell ⟨b,n*10+9,none⟩ (.int .i64 (u.left-1))).drew fun q k=>q=.returned (.tuple #[])/\∃ l,hj D U w rp cb rb ob l qo (jq d n) rep av fv cn fm k):=by
 obtain⟨y,z,e,r⟩:=a.doc;obtain⟨b,g,h,i,s,A,O,P,Q,B,R,m,C,E⟩:=e.sc.at p;have F:=fun f o=>zzm (x f o) a.but.size;refine⟨b,g,h,i,by rw[e.sc.c9,s],qh e.sc.nS,A,C,E,m.xb,m.yb,fun G o H j I=>?_⟩;refine (Kg e F p s B G o H m I).mono ?_;rintro q k ⟨rfl,t⟩;rw[r] at t;obtain⟨l,J,K,L,k2,M,N⟩:=t;exact⟨rfl,(hj.step (d':=jq d n) (w2:=k) ⟨⟨y,z,e,r⟩,a.sub,a.but,a.rep,a.out,a.z,a.ge,a.uc,a.az,a.uj,a.fz⟩ fun S T V W=>⟨l,J,K,L,k2,M,N⟩)⟩
def hj.cells (g:hj D U w rp cb rb ob D1 qo d rep av fv cn fm wr):(∃ b c,wr.cell? ⟨rp,9,none⟩=some (.slice b d.l.length c))/\(∃ b c,wr.cell? ⟨rp,8,none⟩=some (.slice b d.ks.length c))/\wr.cell? ⟨rp,20,none⟩=some (.bool d.tQ)/\wr.cell? ⟨rp,22,none⟩=some (.int .i64 d.left)/\wr.cell? ⟨rp,27,none⟩=some (.bool d.ch)/\(∀ e,wr.frozen? ⟨rp,e,none⟩=false)/\rp<wr.heap.size/\d.l.length<=16:=by
 obtain⟨h,i,a,j⟩:=g.doc;obtain⟨b,c,f⟩:=qr a.sc.sf.own;rw[yn a.sc] at f;refine⟨⟨b,c,by rw[a.sc.c9,f]⟩,⟨_,h.cl.length,by rw[qe a.sc.nS 8,<-a.kn];rfl⟩,qe a.sc.nS 20,qe a.sc.nS 22,qe a.sc.nS 27,fun e=>qj a.sc.nS e,qh a.sc.nS,a.sc.len⟩
def hj.admj (e:hj D U w rp cb rb ob D1 qo d rep av fv cn fm wr)(m:∀ a,U a->a<w.heap.size){a:Option gF}(g:d.ks[n]?=some a)(j:d.ks.length<=1000)(o:∀ f,a=some f->rD d n f):Calls Tryz.prog 89 #[.pointer (some ⟨rp,0,none⟩),.int .i64 (n:Int)] wr fun h i=>h=.returned (.int .i64 (xF d.c.hD a))/\∃ p,hj D U w rp cb rb ob p qo (xR d n) rep av fv cn fm i:=by
 obtain⟨t,u,k,l⟩:=e.doc;have q:=fun a r=>zzm (m a r) e.but.size;cases a with
 | none=>
  refine (YV k g j).mono ?_;rintro h i ⟨rfl,b⟩;have s:xR d n=d:=(by unfold xR;rw[g]);rw[l] at b;rw[s];exact⟨rfl,e.step fun _ _ _ _=>b⟩
 | some f=>
  have c:=o f rfl;refine (qb7 k q g j c.cr c.qn c.ql c.sm c.dn).mono ?_;rintro h i ⟨rfl,b⟩;rw[l] at b;exact⟨rfl,e.step fun _ _ _ _=>b⟩
def hj.vl (b:hj D U w rp cb rb ob D1 qo d rep av fv cn fm wr)(g:∀ a,U a->a<w.heap.size)(h:d.front<3)(i:0<=d.tH/\d.tH<=1000000000000000):Calls Tryz.prog 90 #[.pointer (some ⟨rp,0,none⟩)] wr fun c e=>(∃ j,c=.returned j)/\∃ k,hj D U w rp cb rb ob k qo (pm d) rep av fv cn fm e:=by
 obtain⟨q,r,l,m⟩:=b.doc;have n:=fun a o=>zzm (g a o) b.but.size;refine (qb6 l n h i).mono ?_;rintro c e ⟨p,f⟩;rw[m] at f;exact⟨p,b.step fun _ _ _ _=>f⟩
def hj.left (g:hj D U w rp cb rb ob D1 qo d rep av fv cn fm wr)(c:Int):∃ h,hj D U w rp cb rb ob h qo {d with left:=c} rep av fv cn fm (wr.setCell ⟨rp,22,none⟩ (.int .i64 c)):=by
 refine g.step fun e j a k=>?_;have f:gp (fun b=>b=rp) wr (wr.setCell ⟨rp,22,none⟩ (.int .i64 c)):=(gp.refl (fun b=>b=rp) wr).setCell (p:=⟨rp,22,none⟩) (.inl rfl) _;exact⟨D1,e,j,a.tY f (d':={d with left:=c}) (v':=e) (qp (i:=22) a.sc.nS _) rfl rfl rfl rfl rfl rfl rfl rfl rfl rfl a.uP a.uT (.inl ⟨rfl,rfl⟩),fun b l=>.inl l,k,f.wide fun b _ m=>by rw[m];exact a.cb.1⟩
abbrev ow:Obj:=.cells #[.int .i64 0,.int .i64 0,.int .i64 0,.slice none 0 0,.slice none 0 0] 133
def hj.begin (b:qU D U qo w rp d v tI)(z:∀ c,U c->c<w.heap.size)(a:Int):qU D U qo (((w.setCell ⟨rp,28,none⟩ (.int .i64 a)).alloc ow).alloc (.cells #[.int .i64 a,.int .i64 0,.int .i64 0,.slice none 0 0,.slice none 0 0] 133)) rp {d with t:=a} v tI/\ hj D U w rp v.cb (w.heap.size+1) w.heap.size D qo {d with t:=a} #[.int .i64 a,.int .i64 0,.int .i64 0,.slice none 0 0,.slice none 0 0] (.slice none 0 0) (.slice none 0 0) [] [] (((w.setCell ⟨rp,28,none⟩ (.int .i64 a)).alloc ow).alloc (.cells #[.int .i64 a,.int .i64 0,.int .i64 0,.slice none 0 0,.slice none 0 0] 133)):=by
 have A:=qh b.sc.nS;have j:gp (fun c=>c=rp) w (w.setCell ⟨rp,28,none⟩ (.int .i64 a)):=(gp.refl (fun c=>c=rp) w).setCell (p:=⟨rp,28,none⟩) (.inl rfl) _;have m:=b.tY j (d':={d with t:=a}) (v':=v) (qp (i:=28) b.sc.nS _) rfl rfl rfl rfl rfl rfl rfl rfl rfl rfl b.uP b.uT (.inl ⟨rfl,rfl⟩);obtain⟨f,n⟩:=zx (w.setCell ⟨rp,28,none⟩ (.int .i64 a));have o:f.heap.size=w.heap.size:=(by rw[n];simp);rw[<-n] at j m ⊢;obtain⟨e,h⟩:=zx (f.alloc ow);have q:Below f.heap.size f e:=(by rw[h];exact (aa _ f).alloc (zzl _) _);have r:e.heap[w.heap.size]?=some ow:=(by rw[h];exact qt f _ _ o.symm);have t:e.heap.size=w.heap.size+1:=(by rw[h];simp[o]);have u:=m.below q;rw[<-h];have k:Below e.heap.size e (e.alloc (.cells #[.int .i64 a,.int .i64 0,.int .i64 0,.slice none 0 0,.slice none 0 0] 133)):=(aa _ e).alloc (zzl _) _;have s:=u.below k;refine⟨s,⟨v,tI,s,rfl⟩,fun c x=>.inl x,(((gp.refl D w).step j (fun c g=>.inl (by rw[g];exact b.cb.1))).then q).then k,qt e _ _ t.symm,(k.block _ (qh r)).trans r,⟨fun g=>?_,fun g=>?_,by omega⟩,⟨by omega,zzl _⟩,⟨rfl,.inl ⟨rfl,rfl⟩⟩,fun y l=>(by cases l),⟨rfl,.inl ⟨rfl,rfl⟩⟩,fun y l=>(by cases l)⟩
 ·have:=b.dl _ g;omega
 ·have:=b.dl _ g;omega
def hj.flip (h:qU D U qo m rp d v tI)(c:hj D U w rp v.cb rb ob D qo d #[.int .i64 q,.int .i64 0,.int .i64 0,.slice none 0 0,.slice none 0 0] (.slice none 0 0) (.slice none 0 0) [] [] m)(W:∀ b,U b->b<w.heap.size)(X:yy d)(b1:d.tU<3):∃ n o,hj D U w rp v.cb rb ob n o (xU d) #[.int .i64 q,.int .i64 1,.int .i64 0,.slice none 0 0,v.mv] (.slice none 0 0) v.mv [] d.marks (((((((m.setCell ⟨rp,20,none⟩ (.bool false)).setCell ⟨rp,19,none⟩ (.int .i64 (d.tU:Int))).setCell ⟨rp,10+d.tU*3,none⟩ v.uJ)).setCell ⟨rb,1,none⟩ (.int .i64 1)).setCell ⟨rb,4,none⟩ v.mv).setCell ⟨rp,24,none⟩ (.slice none 0 0)).drew:=by
 refine (fun ⟨n,o,c⟩=>⟨n,o,c.below ((aa _ _).drew)⟩:(∃ n o,hj D U w rp v.cb rb ob n o (xU d) #[.int .i64 q,.int .i64 1,.int .i64 0,.slice none 0 0,v.mv] (.slice none 0 0) v.mv [] d.marks
     (((((((m.setCell ⟨rp,20,none⟩ (.bool false)).setCell ⟨rp,19,none⟩ (.int .i64 (d.tU:Int))).setCell ⟨rp,10+d.tU*3,none⟩ v.uJ)).setCell ⟨rb,1,none⟩ (.int .i64 1)).setCell ⟨rb,4,none⟩ v.mv).setCell ⟨rp,24,none⟩ (.slice none 0 0)))->_) ?_
 obtain⟨A,B,I⟩:=c.z;obtain⟨J,Y⟩:=X;have K:¬rb=rp:=fun a=>A (by rw[a];exact h.cb.1);have Z:¬U rb:=fun a0=>by have:=W _ a0;have:=c.ge.1;omega
 obtain⟨i,C⟩:=zx ((((m.setCell ⟨rp,20,none⟩ (.bool false)).setCell ⟨rp,19,none⟩ (.int .i64 (d.tU:Int))).setCell ⟨rp,10+d.tU*3,none⟩ v.uJ));have x:gp (fun b=>b=rp) m i:=(by rw[C];exact ((((gp.refl (fun b=>b=rp) m).setCell (p:=⟨rp,20,none⟩) (.inl rfl) _).setCell (p:=⟨rp,19,none⟩) (.inl rfl) _).setCell (p:=⟨rp,10+d.tU*3,none⟩) (.inl rfl) _));obtain⟨j,g⟩:∃ j:Dc,j={d with tQ:=false,front:=d.tU,p:=fun k=>if k=d.tU then d.fp else d.p k}:=⟨_,rfl⟩;obtain⟨l,f⟩:∃ l:Dv,l={v with pp:=fun k=>if k=d.tU then v.uJ else v.pp k}:=⟨_,rfl⟩;have a1:i.heap[rp]?=some (.cells (iC j l) 121):=by
  have:=qp (i:=10+d.tU*3) (qp (i:=19) (qp (i:=20) h.sc.nS (.bool false)) (.int .i64 (d.tU:Int))) v.uJ;rw[C];show ((((m.setCell ⟨rp,20,none⟩ (.bool false)).setCell ⟨rp,19,none⟩ (.int .i64 (d.tU:Int))).setCell ⟨rp,10+d.tU*3,none⟩ v.uJ)).heap[rp]?=_;rw[this,g,f];congr 2
  unfold iC;rcases (show d.tU=0\/d.tU=1\/d.tU=2 by omega) with E | E | E<;>simp only[E]<;>rfl
 have L:qU D U qo i rp j l tI:=by
  refine h.tY x a1 (by rw[g]) (by rw[g]) (by rw[g]) (by rw[g]) (by rw[g]) (by rw[f]) (by rw[f]) (by rw[f]) (by rw[f]) (by rw[f]) (fun k a2=>?_) (fun a=>by rw[g] at a;cases a) (.inl ⟨by rw[f],by rw[g]⟩);rw[g,f];simp only;split
  ·exact h.uT J
  ·exact h.uP k a2
 have M:=x.heap c.rep K;have a3:=x.heap c.out (fun a=>B (by rw[a];exact h.cb.1));obtain⟨r,F⟩:=zx ((i.setCell ⟨rb,1,none⟩ (.int .i64 1)).setCell ⟨rb,4,none⟩ v.mv);have y:gp (fun b=>b=rb) i r:=(by rw[F];exact ((gp.refl (fun b=>b=rb) i).setCell (p:=⟨rb,1,none⟩) (.inl rfl) _).setCell (p:=⟨rb,4,none⟩) (.inl rfl) _);have s:=L.frame y (fun b a=>by rw[a];exact⟨A,Z⟩);have a4:r.heap[rb]?=some (.cells #[.int .i64 q,.int .i64 1,.int .i64 0,.slice none 0 0,v.mv] 133 (0,0)):=(by rw[F];have:=qp (i:=4) (qp (i:=1) M (.int .i64 1)) v.mv;rw[this];rfl);have a5:=y.heap a3 (fun a=>I a.symm);obtain⟨N,G⟩:=zx (r.setCell ⟨rp,24,none⟩ (.slice none 0 0));have t:gp (fun b=>b=rp) r N:=(by rw[G];exact (gp.refl (fun b=>b=rp) r).setCell (p:=⟨rp,24,none⟩) (.inl rfl) _);have O:qU D U qo N rp {j with marks:=[]} {l with mv:=.slice none 0 0} tI:=(by refine s.tY t (d':={j with marks:=[]}) (v':={l with mv:=.slice none 0 0}) ?_ rfl rfl rfl rfl rfl rfl rfl rfl rfl rfl s.uP s.uT (.inr ⟨rfl,rfl⟩);rw[G];exact qp (i:=24) s.sc.nS _);have P:=t.heap a4 K;have Q:=t.heap a5 (fun a=>B (by rw[a];exact h.cb.1));have R:jM i 0 v.mv d.marks:=(by have:=L.tN;rw[g,f] at this;exact this);have S:=qi R y (fun u e a=>qq R M (by decide) (by rw[<-a];exact e));have H:=qi S t (fun u e a=>qq S s.sc.nS (by decide) (by rw[<-a];exact e));have T:=((c.but.step x (fun b a=>.inl (by rw[a];exact h.cb.1))).step y (fun b a=>.inr (by rw[a];exact c.ge.1))).step t (fun b a=>.inl (by rw[a];exact h.cb.1));have a6:xU d={j with marks:=[]}:=(by unfold xU;rw[an ⟨J,Y⟩,g]);rw[<-C,<-F,<-G,a6];cases z:v.mv.ownBlock with
 | none=>exact⟨D,qo,⟨_,tI,O,by rw[f]⟩,c.sub,T,P,Q,c.z,c.ge,⟨rfl,.inl ⟨rfl,rfl⟩⟩,fun u e=>(by cases e),H,fun u e=>by rw[z] at e;cases e⟩
 | some V=>
  obtain⟨b2,b3,a7⟩:=qE H z;have a8:=h.mw V z;have a9:=O.out a7 (fun a=>by cases a) (by show l.wv.ownBlock≠some V;rw[f];exact a8);refine⟨_,_,⟨_,tI,a9,by rw[f]⟩,fun b b0=>c.sub b b0.1,T,P,Q,⟨fun a=>A a.1,fun a=>B a.1,I⟩,c.ge,⟨rfl,.inl ⟨rfl,rfl⟩⟩,fun u e=>(by cases e),H,fun u e a=>a.2 ?_⟩;rw[z] at e;exact (aA e).symm
end
variable{a3 a4:Value}
structure VL (d:Dc):Prop where
 t:0<=d.t/\d.t<=1000000000000000000
 tg:yy d->d.tU<3
 ksl:d.ks.length<=1000
 sl:∀ (k:Nat)(s:gv),(zj (og d) k).l[k]?=some s->0<s.left->s.left<=1000000/\iq (s.x+s.dx)/\iq (s.y+s.dy)
 ad:∀ (j:Nat)(k:gF),(zD (iI d) j).ks[j]?=some (some k)->rD (zD (iI d) j) j k
 fr:(iL d).front<3
 fm:0<=(iL d).tH/\(iL d).tH<=1000000000000000
 lf:(il d).tQ=true->0<=(il d).left/\(il d).left<=1000
def J0 (d:Dc)(b:Nat):∀ a,a<=b->(zD d a).ks[b]?=d.ks[b]?
 | 0,_=>rfl
 | a+1,c=>by
  rw[<-J0 d b a (by omega)];show (xR (zD d a) a).ks[b]?=_;unfold xR;split
  ·exact bc (by omega)
  ·rfl
def kJ (b:Array Value)(w:World)(c:Nat)(a:Array Value)(e:b.getD 4 undef=.pointer (some ⟨c,0,none⟩))(f:w.heap[c]?=some (.cells a 133))(g:a.size=5):(results Tryz.f49 b).run Tryz.prog w=.ok (.tuple #[.agg a,b.getD 5 undef]) w:=by
 rw[fW rfl,e];have h:=gg (P:=Tryz.prog) w c 133 133 a (0,0) _ f Tryz.underlying133 rfl (by rw[g];rfl);simp[asAddr,h,Result.andThen]
def VW (w:World)(rp:Nat)(a:Int)(g:a<0):Calls Tryz.prog 49 #[.pointer (some ⟨rp,0,none⟩),.int .i64 a] w fun e f=>e=.returned (.tuple #[.agg #[.int .i64 0,.int .i64 0,.int .i64 0,.slice none 0 0,.slice none 0 0],.int .i64 3])/\Below w.heap.size w f:=by
 have b:Below w.heap.size w (w.alloc (.cells #[.int .i64 0,.int .i64 0,.int .i64 0,.slice none 0 0,.slice none 0 0] 133)):=(aa _ w).alloc (zzl _) _;have c:=qg b;clear b;go_enter Tryz.func49,Tryz.ntmps49;go_wp2;refine bV (kJ _ _ w.heap.size #[.int .i64 0,.int .i64 0,.int .i64 0,.slice none 0 0,.slice none 0 0] (by kernel_rfl) ?_ rfl) rfl ⟨by kernel_rfl,?_⟩
 ·have h1:=qt w (.cells #[.int .i64 0,.int .i64 0,.int .i64 0,.slice none 0 0,.slice none 0 0] 133) _ rfl
  first | exact h1 | simpa using qp (i:=4) (qp (i:=3) (qp (i:=2) (qp (i:=1) (qp (i:=0) h1 (.int .i64 0)) (.int .i64 0)) (.int .i64 0)) (.slice none 0 0)) (.slice none 0 0)
 ·first | exact qb c | exact ((((((qb c).setCell (p:=⟨w.heap.size,0,none⟩) (zzl _) _).setCell (p:=⟨w.heap.size,1,none⟩) (zzl _) _).setCell (p:=⟨w.heap.size,2,none⟩) (zzl _) _).setCell (p:=⟨w.heap.size,3,none⟩) (zzl _) _).setCell (p:=⟨w.heap.size,4,none⟩) (zzl _) _)
section
variable {D U D1:Nat->Prop}{qo:Nat->Nat}{w wr w2:World}{rp cb rb ob:Nat}{d d':Dc}{rep:Array Value}{av fv:Value}{cn:List Int}{fm:List (Int×Int)}{v:Dv}{tI:List Value}
def hj.end {a0 a1 a2:Value}(a:hj D U w rp cb rb ob D1 qo d rep av fv cn fm wr)(j:∀ b,U b->b<w.heap.size):(((((wr.setCell ⟨ob,0,none⟩ a0).setCell ⟨ob,1,none⟩ a1).setCell ⟨ob,2,none⟩ a2).setCell ⟨ob,3,none⟩ a3).setCell ⟨ob,4,none⟩ a4).heap[ob]?=some (.cells #[a0,a1,a2,a3,a4] 133)/\ (∃ h k,qU D1 U qo (((((wr.setCell ⟨ob,0,none⟩ a0).setCell ⟨ob,1,none⟩ a1).setCell ⟨ob,2,none⟩ a2).setCell ⟨ob,3,none⟩ a3).setCell ⟨ob,4,none⟩ a4) rp d h k/\h.cb=cb)/\(∀ b,D1 b->D b\/w.heap.size<=b)/\gp D w (((((wr.setCell ⟨ob,0,none⟩ a0).setCell ⟨ob,1,none⟩ a1).setCell ⟨ob,2,none⟩ a2).setCell ⟨ob,3,none⟩ a3).setCell ⟨ob,4,none⟩ a4)/\ zh (((((wr.setCell ⟨ob,0,none⟩ a0).setCell ⟨ob,1,none⟩ a1).setCell ⟨ob,2,none⟩ a2).setCell ⟨ob,3,none⟩ a3).setCell ⟨ob,4,none⟩ a4) w.heap.size av cn/\jM (((((wr.setCell ⟨ob,0,none⟩ a0).setCell ⟨ob,1,none⟩ a1).setCell ⟨ob,2,none⟩ a2).setCell ⟨ob,3,none⟩ a3).setCell ⟨ob,4,none⟩ a4) 0 fv fm:=by
 have l:=qp (i:=4) (qp (i:=3) (qp (i:=2) (qp (i:=1) (qp (i:=0) a.out a0) a1) a2) a3) a4;have c:gp (fun b=>b=ob) wr (((((wr.setCell ⟨ob,0,none⟩ a0).setCell ⟨ob,1,none⟩ a1).setCell ⟨ob,2,none⟩ a2).setCell ⟨ob,3,none⟩ a3).setCell ⟨ob,4,none⟩ a4):=(((((gp.refl (fun b=>b=ob) wr).setCell (p:=⟨ob,0,none⟩) (.inl rfl) _).setCell (p:=⟨ob,1,none⟩) (.inl rfl) _).setCell (p:=⟨ob,2,none⟩) (.inl rfl) _).setCell (p:=⟨ob,3,none⟩) (.inl rfl) _).setCell (p:=⟨ob,4,none⟩) (.inl rfl) _;generalize (((((wr.setCell ⟨ob,0,none⟩ a0).setCell ⟨ob,1,none⟩ a1).setCell ⟨ob,2,none⟩ a2).setCell ⟨ob,3,none⟩ a3).setCell ⟨ob,4,none⟩ a4)=y at *;obtain⟨m,n,o,q⟩:=a.doc;obtain⟨z,r,A⟩:=a.z;refine⟨by rw[l];rfl,⟨m,n,o.frame c (fun b e=>⟨by rw[e];exact r,fun s=>?_⟩),q⟩,a.sub,a.but.step c (fun b e=>.inr (by rw[e];exact a.ge.2)),qi a.uc c (fun t f=>?_),qi a.uj c (fun t f=>?_)⟩
 ·have:=j b s;have:=a.ge.2;omega
 ·obtain⟨u,x,g⟩:=qE a.uc f;exact (a.neR g (by decide)).2
 ·obtain⟨u,x,g⟩:=qE a.uj f;exact (a.neR g (by decide)).2
def qy6 (D U:Nat->Prop)(w:World)(rp cb:Nat)(d:Dc)(c:Nat)(g:Ending)(a:World):Prop:=∃ av fv e h,g=.returned (.tuple #[.agg #[.int .i64 (d.t+1),.int .i64 (om d),.int .i64 (nF (il d) c),av,fv],.int .i64 0])/\(∃ f i,qU e U h a rp (xS d c) f i/\f.cb=cb)/\(∀ b,e b->D b\/w.heap.size<=b)/\gp D w a/\zh a w.heap.size av (d.ks.map (xF d.c.hD))/\jM a 0 fv (nK d)
end
variable{S V:Nat→Prop}{v:Value}{b4:he}{w2:World}{G k:Nat→Nat}{i ob t:Nat}{xs:List Value}{o':Obj}{d':Dc}
structure gY where
 xp:Nat
 rp:Nat
 s:qY
 d:Dc
def qF (a:gY):List Value:=[.pointer (some ⟨a.xp,0,none⟩),.pointer (some ⟨a.rp,0,none⟩)]
def zE (a:List gY):List Value:=a.flatMap qF
def Xk (a b:List gY):zE (a++b)=zE a++zE b:=by simp[zE]
def XL:∀ (a:List gY)(b:Nat)(s:gY),a[b]?=some s->(zE a)[b*2]?=some (.pointer (some ⟨s.xp,0,none⟩))/\(zE a)[b*2+1]?=some (.pointer (some ⟨s.rp,0,none⟩))
 | [],b,s,e=>by simp at e
 | f::a,0,s,e=>by
  simp at e;subst e;show (qF f++zE a)[0]?=_/\(qF f++zE a)[1]?=_;simp[qF]
 | f::a,b+1,s,e=>by
  have j:a[b]?=some s:=(by simpa using e);have h:=XL a b s j;have i:∀ g,(zE (f::a))[(b+1)*2+g]?=(zE a)[b*2+g]?:=by
   intro g;show (qF f++zE a)[_]?=_;rw[aq (by simp[qF];omega)];congr 1
   simp[qF];omega
  exact⟨by have:=i 0;simp only[bL] at this;rw[this];exact h.1,by rw[i 1];exact h.2⟩
def qa0 (a:List gY)(b:Nat)(s e:gY)(f:a[b]?=some s)(h:e.xp=s.xp)(i:e.rp=s.rp):zE (a.set b e)=zE a:=by
 induction a generalizing b with
 | nil=>simp at f
 | cons g a j=>
  cases b with
  | zero=>simp at f;subst f;show qF e++zE a=qF g++zE a;rw[show qF e=qF g by unfold qF;rw[h,i]]
  | succ b=>show qF g++zE (a.set b e)=qF g++zE a;rw[j b (by simpa using f)]
def CAt (w:World)(a b:Nat)(c:hg):Prop:=
 w.cell? ⟨a,b,none⟩=some (.int .i64 c.w)/\w.cell? ⟨a,b+1,none⟩=some (.int .i64 c.h)/\w.cell? ⟨a,b+2,none⟩=some (.int .i64 c.oA)/\w.cell? ⟨a,b+3,none⟩=some (.int .i64 c.queue)/\w.cell? ⟨a,b+4,none⟩=some (.int .i64 c.tK)/\w.cell? ⟨a,b+5,none⟩=some (.int .i64 c.hD)/\w.cell? ⟨a,b+6,none⟩=some (.int .i64 c.iE)/\w.cell? ⟨a,b+7,none⟩=some (.int .i64 c.behind)
def mH (U:Nat->Prop)(w:World)(h:Value)(b:List hg):Prop:=
 ∃ e i,h=.slice e b.length i/\(b≠[]->∃ a f,e=some ⟨a,f,none⟩/\U a/\a<w.heap.size/\∀ (g:Nat)(c:hg),b[g]?=some c->CAt w a (f+g*8) c)
def mH.but {U:Nat->Prop}{w w':World}{g:List hg}(l:mH U w v g)(h:gp S w w')(m:∀ k,U k->¬S k):mH U w' v g:=by
 obtain⟨n,o,e,p⟩:=l;refine⟨n,o,e,fun q=>?_⟩;obtain⟨b,r,e,i,j,t⟩:=p q;have a:∀ f,w'.cell? ⟨b,f,none⟩=w.cell? ⟨b,f,none⟩:=fun f=>aH (h.block b j (m b i));refine⟨b,r,e,i,zzm j h.size,fun u c x=>?_⟩;obtain⟨y,z,A,B,D,E,F,G⟩:=t u c x;exact⟨(a _).trans y,(a _).trans z,(a _).trans A,(a _).trans B,(a _).trans D,(a _).trans E,(a _).trans F,(a _).trans G⟩
def yM (U:Nat->Prop)(w:World)(j:Value)(b:List (List gt)):Prop:=
 ∃ e k,j=.slice e b.length k/\(b≠[]->∃ a f,e=some ⟨a,f,none⟩/\U a/\a<w.heap.size/\∀ (g:Nat)(h:List gt),b[g]?=some h->∃ i,w.cell? ⟨a,f+g,none⟩=some i/\gW U w i h)
def yM.but {U S:Nat->Prop}{w w':World}{f:Value}{g:List (List gt)}(l:yM U w f g)(a:gp S w w')(h:∀ k,U k->¬S k):yM U w' f g:=by
 obtain⟨m,n,b,o⟩:=l;refine⟨m,n,b,fun p=>?_⟩;obtain⟨e,q,b,i,j,r⟩:=o p;refine⟨e,q,b,i,zzm j a.size,fun t u v=>?_⟩;obtain⟨x,y,z⟩:=r t u v;exact⟨x,(aH (a.block e j (h e i))).trans y,z.but a h⟩
def tb (gq:Nat->Nat)(c:Nat)(w:World)(xp:Nat)(s:qY):Prop:=∃ a e f g h,qI a w xp e f g h s/\∀ b,a b≠0->gq b=c
def te (gq:Nat->Nat)(c:Nat)(U:Nat->Prop)(w:World)(rp:Nat)(d:Dc):Prop:=∃ a e f g,qU a U e w rp d f g/\∀ b,a b->gq b=c
section
variable {gq col':Nat->Nat}{c:Nat}{U T:Nat->Prop}{w w':World}{xp rp:Nat}{s:qY}{d:Dc}
def tb.but (i:tb gq c w xp s)(j:gp T w w')(k:∀ a,a<w.heap.size->gq a=c->¬T a)(l:∀ a,a<w.heap.size->gq a=c->col' a=c):tb col' c w' xp s:=by
 obtain⟨m,n,o,p,q,b,f⟩:=i;refine⟨m,n,o,p,q,b.but j (fun e g=>k e (b.lt e g) (f e g)),fun a h=>l a (b.lt a h) (f a h)⟩
def te.but (j:te gq c U w rp d)(k:gp T w w')(l:∀ a,a<w.heap.size->gq a=c->¬T a)(m:∀ a,U a->¬T a)(n:∀ a,a<w.heap.size->gq a=c->col' a=c):te col' c U w' rp d:=by
 obtain⟨o,p,q,r,e,f⟩:=j;refine⟨o,p,q,r,e.frame k (fun b g=>⟨fun h=>l b (e.dl b h) (f b h) g,fun t=>m b t g⟩),fun a i=>n a (e.dl a i) (f a i)⟩
end
structure qW (U:Nat->Prop)(wb:Nat)(gr gc go:Value)(C:List hg)(O:List (List gt))(w:World)(ss kr ki kf:Value)(sh:List gY)(er ei ef:List he)(gq:Nat->Nat):Prop where
 box:w.heap[wb]?=some (.cells #[gr,gc,go,ss,kr,ki,kf] 39)
 own:w.ownsRow 0 57 2 ss sh.length (zE sh)
 pr:∀ (i:Nat)(x:gY),sh[i]?=some x->tb gq (2*i+2) w x.xp x.s
 dc:∀ (i:Nat)(x:gY),sh[i]?=some x->te gq (2*i+3) U w x.rp x.d
 oR:vI 82 w 0 kr er
 oI:vI 85 w 0 ki ei
 oF:vI 89 w 0 kf ef
 eR:∀ e∈er,xx 0 w e/\∀ k,e.nS k->gq k=1
 eI:∀ e∈ei,ym 3 1 mF 0 w e/\∀ k,e.nS k->gq k=1
 eF:∀ e∈ef,ym 153 2 lG 0 w e/\∀ k,e.nS k->gq k=1
 cw:gq wb=1
 cs:∀ g,ss.ownBlock=some g->gq g=1
 cR:∀ g,kr.ownBlock=some g->gq g=1
 cI:∀ g,ki.ownBlock=some g->gq g=1
 cF:∀ g,kf.ownBlock=some g->gq g=1
 uE:∀ b,gq b≠0->b<w.heap.size
 wo:mH U w gc C
 uO:yM U w go O
 tL:∀ k,U k->gq k=0/\k<w.heap.size
def xx.butE {w w':World}(e:xx 0 w b4)(f:gp S w w')(g:∀ a,b4.nS a->¬S a):xx 0 w' b4:=
 ⟨e.num,e.l.but f (fun a b=>g a (.inl b)),e.a.but f (fun a b=>g a (.inr (.inl b))),e.b.but f (fun a b=>g a (.inr (.inr (.inl b)))),e.c.but f (fun a b=>g a (.inr (.inr (.inr b))))⟩
section
variable {U T:Nat->Prop}{wb:Nat}{gr gc go:Value}{C:List hg}{O:List (List gt)}{w w':World}{ss kr ki kf:Value}{sh:List gY}{er ei ef:List he}{gq col':Nat->Nat}
def qW.frame (a:qW U wb gr gc go C O w ss kr ki kf sh er ei ef gq)(g:gp T w w')(r:∀ b,T b->b<w.heap.size->gq b=0/\¬U b):qW U wb gr gc go C O w' ss kr ki kf sh er ei ef gq:=by
 have l:∀ b,gq b≠0->¬T b:=fun b h m=>h (r b m (a.uE b h)).1;have n:∀ b,U b->¬T b:=fun b t m=>(r b m (a.tL b t).2).2 t;have k:∀ b,gq b=1->¬T b:=fun b h=>l b (by omega);exact⟨g.heap a.box (k _ a.cw),qi a.own g (fun e f=>k e (a.cs e f)),fun o p q=>(a.pr o p q).but g (fun b _ h=>l b (by omega)) (fun _ _ h=>h),fun o p q=>(a.dc o p q).but g (fun b _ h=>l b (by omega)) n (fun _ _ h=>h),
  qi a.oR g (fun e f=>k e (a.cR e f)),qi a.oI g (fun e f=>k e (a.cI e f)),qi a.oF g (fun e f=>k e (a.cF e f)),
  fun i j=>⟨(a.eR i j).1.butE g (fun e f=>k e ((a.eR i j).2 e f)),(a.eR i j).2⟩,fun i j=>⟨(a.eI i j).1.but g (fun e f=>k e ((a.eI i j).2 e f)),(a.eI i j).2⟩,fun i j=>⟨(a.eF i j).1.but g (fun e f=>k e ((a.eF i j).2 e f)),(a.eF i j).2⟩,
  a.cw,a.cs,a.cR,a.cI,a.cF,fun b h=>zzm (a.uE b h) g.size,a.wo.but g n,a.uO.but g n,fun e f=>⟨(a.tL e f).1,zzm (a.tL e f).2 g.size⟩⟩
def qW.below (a:qW U wb gr gc go C O w ss kr ki kf sh er ei ef gq)(b:Below w.heap.size w w'):qW U wb gr gc go C O w' ss kr ki kf sh er ei ef gq:=a.frame (T:=fun _=>False) (.aD b) (fun _ a=>a.elim)
structure sJ (gq col':Nat->Nat)(c:Nat)(P:Nat->Prop)(w w':World):Prop where
 in':∀ x,P x->col' x=c
 off:∀ x,¬P x->gq x=c->col' x=0
 out:∀ x,¬P x->gq x≠c->col' x=gq x
 new:∀ x,P x->gq x=c\/(w.heap.size<=x/\x<w'.heap.size)
def qd1 {c:Nat}{P:Nat->Prop}(b:∀ a,P a->gq a=c\/(w.heap.size<=a/\a<w'.heap.size)):∃ col',sJ gq col' c P w w':=by
 have f:∀ a,∃ g,(P a->g=c)/\(¬P a->gq a=c->g=0)/\(¬P a->gq a≠c->g=gq a):=by
  intro a;by_cases e:P a
  ·exact⟨c,fun _=>rfl,fun b=>absurd e b,fun b=>absurd e b⟩
  ·by_cases h:gq a=c
   ·exact⟨0,fun b=>absurd b e,fun _ _=>rfl,fun _ b=>absurd h b⟩
   ·exact⟨gq a,fun b=>absurd b e,fun _ b=>absurd b h,fun _ _=>rfl⟩
 exact⟨fun a=>Classical.choose (f a),fun a e=>(bS (f a)).1 e,fun a e=>(bS (f a)).2.1 e,fun a e=>(bS (f a)).2.2 e,b⟩
def sJ.keep {c:Nat}(a:sJ gq col' c S w w')(g:n<w.heap.size)(b:gq n≠c):col' n=gq n:=a.out n (fun f=>by
 rcases a.new n f with e | e
 ·exact b e
 ·omega) b
def sJ.lt {c:Nat}(e:sJ gq col' c S w w')(h:∀ a,gq a≠0->a<w.heap.size)(i:c≠0)(j:w.heap.size<=w'.heap.size):∀ a,col' a≠0->a<w'.heap.size:=fun a f=>by
 by_cases g:S a
 ·rcases e.new a g with b | b
  ·have:=h a (by omega);omega
  ·exact b.2
 ·by_cases b:gq a=c
  ·exact absurd (e.off a g b) f
  ·rw[e.out a g b] at f;have:=h a f;omega
def qW.part (a:qW U wb gr gc go C O w ss kr ki kf sh er ei ef gq){c:Nat}(M:2<=c)(i:gp T w w')(K:∀ b,T b->b<w.heap.size->gq b=c)(t:sJ gq col' c S w w'){m p:gY}(z:sh[n]?=some m)(F:p.xp=m.xp)(G:p.rp=m.rp)(A:if c=2*n+2 then tb col' c w' m.xp p.s else p.s=m.s) (B:if c=2*n+3 then te col' c U w' m.rp p.d else p.d=m.d) (H:c=2*n+2\/c=2*n+3):qW U wb gr gc go C O w' ss kr ki kf (sh.set n p) er ei ef col':=by
 have x:∀ b,b<w.heap.size->gq b≠c->¬T b:=fun b g j L=>j (K b L g);have q:∀ b,gq b=1->¬T b:=fun b j=>x b (a.uE b (by omega)) (by omega);have r:∀ b,gq b=1->col' b=1:=fun b j=>by rw[t.keep (a.uE b (by omega)) (by omega)];exact j
 have D:=fun b I=>x b (a.tL b I).2 (by have:=(a.tL b I).1;omega);have J:=(zzg z).1;refine⟨i.heap a.box (q _ a.cw),?_,fun y E o=>?_,fun y E o=>?_,
  qi a.oR i (fun e f=>q e (a.cR e f)),qi a.oI i (fun e f=>q e (a.cI e f)),qi a.oF i (fun e f=>q e (a.cF e f)),
  fun h k=>⟨(a.eR h k).1.butE i (fun e f=>q e ((a.eR h k).2 e f)),fun e f=>r e ((a.eR h k).2 e f)⟩,fun h k=>⟨(a.eI h k).1.but i (fun e f=>q e ((a.eI h k).2 e f)),fun e f=>r e ((a.eI h k).2 e f)⟩,fun h k=>⟨(a.eF h k).1.but i (fun e f=>q e ((a.eF h k).2 e f)),fun e f=>r e ((a.eF h k).2 e f)⟩,
  r _ a.cw,fun l u=>r l (a.cs l u),fun l u=>r l (a.cR l u),fun l u=>r l (a.cI l u),fun l u=>r l (a.cF l u),t.lt a.uE (by omega) i.size,a.wo.but i D,a.uO.but i D,fun e f=>⟨?_,zzm (a.tL e f).2 i.size⟩⟩
 ·rw[aG,qa0 sh n m p z F G];exact qi a.own i (fun e f=>q e (a.cs e f))
 ·by_cases h:n=y
  ·subst h;rw[ar J] at o;have:=aA o;subst this;rw[F];rcases H with v | v
   ·rw[an v] at A;rw[<-v];exact A
   ·rw[ah (by omega)] at A;rw[A];exact (a.pr n m z).but i (fun b g j=>x b g (by omega)) (fun b g j=>by rw[t.keep g (by omega)];exact j)
  ·rw[bc h] at o;exact (a.pr y E o).but i (fun b g j=>x b g (by omega)) (fun b g j=>by rw[t.keep g (by omega)];exact j)
 ·by_cases h:n=y
  ·subst h;rw[ar J] at o;have:=aA o;subst this;rw[G];rcases H with v | v
   ·rw[ah (by omega)] at B;rw[B];exact (a.dc n m z).but i (fun b g j=>x b g (by omega)) D (fun b g j=>by rw[t.keep g (by omega)];exact j)
   ·rw[an v] at B;rw[<-v];exact B
  ·rw[bc h] at o;exact (a.dc y E o).but i (fun b g j=>x b g (by omega)) D (fun b g j=>by rw[t.keep g (by omega)];exact j)
 ·rw[t.keep (a.tL e f).2 (by have:=(a.tL e f).1;omega)];exact (a.tL e f).1
structure iT (U:Nat->Prop)(gq col':Nat->Nat)(w w':World):Prop where
 but:gp (fun b=>gq b≠0) w w'
 zero:∀ b,b<w.heap.size->gq b=0->col' b=0
def iT.trans (b:iT U gq col' w w')(g:iT U col' k w' w2):iT U gq k w w2:=
 ⟨b.but.step g.but (fun a e=>by
  rcases cz a w.heap.size with f | f
  ·refine .inl fun h=>e (b.zero a f h)
  ·exact .inr f),fun a e i=>g.zero a (zzm e b.but.size) (b.zero a e i)⟩
def iT.below (a:Below w.heap.size w w'):iT U gq gq w w':=⟨.aD a,fun _ _ b=>b⟩
def iT.row (b:iT U gq col' w w')(e:w.ownsRow n a1 i v j xs)(f:∀ k,v.ownBlock=some k->gq k=0):w'.ownsRow n a1 i v j xs/\∀ k,v.ownBlock=some k->col' k=0:=
 ⟨qi e b.but (fun k a c=>c (f k a)),fun k a=>b.zero k (ab e k a).2 (f k a)⟩
def iT.block (a:iT U gq col' w w')(b:w.heap[n]?=some o')(e:gq n=0):w'.heap[n]?=some o'/\col' n=0:=⟨a.but.heap b (fun c=>c e),a.zero n (qh b) e⟩
def qW.prog (p:qW U wb gr gc go C O w ss kr ki kf sh er ei ef gq){l:gY}(E:sh[n]?=some l){F x:List (Option Nat)}{y:qY}(I:qI k w l.xp i j g F l.s)(q:∀ a,k a≠0->gq a=2*n+2)(z:hb k G w w')(A:qI G w' l.xp b t ob x y):∃ col',qW U wb gr gc go C O w' ss kr ki kf (sh.set n {l with s:=y}) er ei ef col'/\iT U gq col' w w'/\∀ e,G e=0->(w.heap.size<=e\/k e≠0)->col' e=0/\¬U e:=by
 obtain⟨col',m⟩:=qd1 (gq:=gq) (c:=2*n+2) (P:=fun a=>G a≠0) (w:=w) (w':=w') (fun a f=>by
  rcases cz a w.heap.size with h | h
  ·exact .inl (q a (z.ext a h f))
  ·exact .inr ⟨h,A.lt a f⟩)
 have B:=z.but;refine⟨col',p.part (c:=2*n+2) (by omega) B (fun a f _=>q a f.1) m E rfl rfl (by rw[an rfl];exact⟨G,b,t,ob,x,A,fun a f=>m.in' a f⟩) (by rw[ah (by omega)]) (.inl rfl),⟨B.wide (fun a f o=>by rw[q a o.1];omega),fun a f o=>by rw[m.keep f (by omega)];exact o⟩,fun e H o=>?_⟩;have D:¬(G e≠0):=fun r=>r H;rcases o with h | h
 ·have u:gq e=0:=by
   rcases bg (gq e) with r | r
   ·exact r
   ·have:=p.uE e (by omega);omega
  refine⟨by rw[m.out e D (by omega)];exact u,fun v=>?_⟩;have:=(p.tL e v).2;omega
 ·have u:=q e h;refine⟨m.off e D u,fun v=>?_⟩;have:=(p.tL e v).1;omega
def qW.wa (o:qW U wb gr gc go C O w ss kr ki kf sh er ei ef gq){e:gY}(p:sh[n]?=some e){j:Dv}(f:∀ a,S a->gq a=2*n+3)(l:gp S w w')(q:∀ a,V a->S a\/w.heap.size<=a)(m:qU V U k w' e.rp d' j xs):∃ col',qW U wb gr gc go C O w' ss kr ki kf (sh.set n {e with d:=d'}) er ei ef col'/\iT U gq col' w w':=by
 obtain⟨col',g⟩:=qd1 (gq:=gq) (c:=2*n+3) (P:=V) (w:=w) (w':=w') (fun a b=>by
  rcases q a b with h | h
  ·exact .inl (f a h)
  ·exact .inr ⟨h,m.dl a b⟩)
 exact⟨col',o.part (c:=2*n+3) (by omega) l (fun a b _=>f a b) g p rfl rfl (by rw[ah (by omega)]) (by rw[an rfl];exact⟨V,k,j,xs,m,fun a b=>g.in' a b⟩) (.inr rfl),⟨l.wide (fun a _ i=>by rw[f a i];omega),fun a b i=>by rw[g.keep b (by omega)];exact i⟩⟩
end
variable{d:TypeId}{c0:Array Value}{m':List (Int×Int)}
def ym.kind {mk:Int->List Value}{w:World}(b:ym d n mk i w b4)(h:b4.nS j):∃ e f,w.heap[j]?=some (.cells e d f):=by
 have c:∀ {g:Value},zM d n w i g (mk b4.n)->g.ownBlock=some j->∃ e f,w.heap[j]?=some (.cells e d f):=fun k l=>by
  obtain⟨o,m,-⟩:=k;exact qE m l
 rcases h with a | a | a | a
 ·exact c b.l a
 ·exact c b.a a
 ·exact c b.b a
 ·exact c b.c a
def Q5 {w:World}{b:Nat×Nat}(c:w.heap[n]?=some (.cells f d I))(a:w.heap[n]?=some (.cells c0 a1 b)):d=a1:=by
 rw[c] at a;simp only[ac,cJ] at a;exact a.2.1
def qd5 (gq:Nat->Nat)(d:Nat->Prop):∃ col':Nat->Nat,(∀ b,d b->col' b=1)/\∀ b,¬d b->col' b=gq b:=by
 have e:∀ a,∃ g,(d a->g=1)/\(¬d a->g=gq a):=fun a=>by
  by_cases c:d a
  ·exact⟨1,fun _=>rfl,fun f=>absurd c f⟩
  ·exact⟨gq a,fun f=>absurd f c,fun _=>rfl⟩
 exact⟨fun a=>Classical.choose (e a),fun a c=>(bS (e a)).1 c,fun a c=>(bS (e a)).2 c⟩
section
variable {U T:Nat->Prop}{wb:Nat}{gr gc go:Value}{C:List hg}{O:List (List gt)}{w w':World}{ss kr ki kf:Value}{sh:List gY}{er ei ef:List he}{gq col':Nat->Nat}
def qW.wy (d:qW U wb gr gc go C O w ss kr ki kf sh er ei ef gq)(y:zh w 0 v R)(t:∀ b,v.ownBlock=some b->gq b=0/\¬U b)(Q:ei.length<=2000000)(S:R.length<=1000000000):Calls Tryz.prog 21 #[.pointer (some ⟨wb,4,none⟩),v] w fun e w'=>e=.returned (.tuple #[])/\∃ r s col',qW U wb gr gc go C O w' ss kr r kf sh er (ei++[s]) ef col'/\gp (fun a=>gq a≠0\/v.ownBlock=some a) w w'/\∀ a,a<w.heap.size->gq a=0->v.ownBlock≠some a->col' a=0:=by
 refine (Vr wb 0 0 #[gr,gc,go,ss,kr,ki,kf] ki v ei R w d.box rfl d.oI (aj _) y (aj _) Q S).mono ?_;rintro e w' ⟨rfl,r,s,h⟩;obtain⟨col',B,c2⟩:=qd5 gq (fun a=>s.nS a\/r.ownBlock=some a);have a4:=qh d.box;have D:∀ a,a<w.heap.size->gq a≠1->v.ownBlock≠some a->col' a=gq a:=fun a i L n=>c2 a (fun g=>by
  rcases g with c | c
  ·rcases h.wz a c with j | j
   ·exact n j
   ·omega
  ·rcases h.uh a c with j | j
   ·exact L (d.cI a j)
   ·omega)
 have o:=fun a n=>by
  by_cases g:s.nS a\/r.ownBlock=some a
  ·exact B a g
  ·rw[c2 a g];exact n
 have E:∀ {e:TypeId}{V:Nat}{M:Value}{W:Nat}{X:List Value},w.ownsRow 0 e V M W X->∀ b,M.ownBlock=some b->39≠e->85≠e->3≠e->¬(b=wb\/ki.ownBlock=some b\/v.ownBlock=some b):=fun F b f Y Z a0 g=>by
  rcases g with c | c | c
  ·exact qq F d.box Y (by rw[<-c];exact f)
  ·obtain⟨k,l,e⟩:=qE d.oI c;exact qq F e Z f
  ·obtain⟨k,l,e⟩:=qE y c;exact qq F e a0 f
 have a1:∀ b,(b=wb\/ki.ownBlock=some b\/v.ownBlock=some b)->b<w.heap.size->∃ k u l,w.heap[b]?=some (.cells k u l)/\u≠46:=fun b f _=>by
  rcases f with c | c | c
  ·rw[c];exact⟨_,_,_,d.box,by decide⟩
  ·obtain⟨k,l,e⟩:=qE d.oI c;exact⟨_,_,_,e,by decide⟩
  ·obtain⟨k,l,e⟩:=qE y c;exact⟨_,_,_,e,by decide⟩
 have a2:∀ b,(b=wb\/ki.ownBlock=some b\/v.ownBlock=some b)->b<w.heap.size->∃ k u l,w.heap[b]?=some (.cells k u l)/\u≠153:=fun b f _=>by
  rcases f with c | c | c
  ·rw[c];exact⟨_,_,_,d.box,by decide⟩
  ·obtain⟨k,l,e⟩:=qE d.oI c;exact⟨_,_,_,e,by decide⟩
  ·obtain⟨k,l,e⟩:=qE y c;exact⟨_,_,_,e,by decide⟩
 have G:∀ a,U a->¬(a=wb\/ki.ownBlock=some a\/v.ownBlock=some a):=fun a N g=>by
  have z:=(d.tL a N).1;rcases g with c | c | c
  ·rw[c,d.cw] at z;omega
  ·rw[d.cI a c] at z;omega
  ·exact (t a c).2 N
 have A:∀ a,a<w.heap.size->2<=gq a->¬(a=wb\/ki.ownBlock=some a\/v.ownBlock=some a)/\col' a=gq a:=fun a i P=>by
  refine⟨fun g=>?_,D a i (by omega) (fun e=>by have:=(t a e).1;omega)⟩;rcases g with c | c | c
  ·rw[c,d.cw] at P;omega
  ·rw[d.cI a c] at P;omega
  ·have:=(t a c).1;omega
 refine⟨rfl,r,s,col',⟨h.box,qi d.own h.but (fun b f x=>E d.own b f (by decide) (by decide) (by decide) x),fun H I J=>(d.pr H I J).but h.but (fun a i g=>(A a i (by omega)).1) (fun a i g=>by rw[(A a i (by omega)).2];exact g),fun H I J=>(d.dc H I J).but h.but (fun a i g=>(A a i (by omega)).1) G (fun a i g=>by rw[(A a i (by omega)).2];exact g),
  qi d.oR h.but (fun b f x=>E d.oR b f (by decide) (by decide) (by decide) x),h.own,qi d.oF h.but (fun b f x=>E d.oF b f (by decide) (by decide) (by decide) x),fun e p=>⟨(d.eR e p).1.uf h.but a1,fun b f=>o b ((d.eR e p).2 b f)⟩,fun e p=>?_,fun e p=>⟨(d.eF e p).1.uf h.but a2,fun b f=>o b ((d.eF e p).2 b f)⟩,o _ d.cw,fun m q=>o m (d.cs m q),fun m q=>o m (d.cR m q),fun m q=>B m (.inr q),fun m q=>o m (d.cF m q),fun a n=>?_,d.wo.but h.but G,d.uO.but h.but G,fun b f=>⟨?_,zzm (d.tL b f).2 h.but.size⟩⟩,?_,fun a i z n=>by rw[D a i (by omega) n];exact z⟩
 ·rcases al.1 p with c | c
  ·refine⟨(d.eI e c).1.but h.but (fun b f g=>?_),fun b f=>o b ((d.eI e c).2 b f)⟩;obtain⟨k,l,K⟩:=(d.eI e c).1.kind f;rcases g with j | j | j
   ·rw[j] at K;exact absurd (Q5 K d.box) (by decide)
   ·obtain⟨a5,a6,a3⟩:=qE d.oI j;exact absurd (Q5 K a3) (by decide)
   ·have L:=(d.eI e c).2 b f;have:=(t b j).1;omega
  ·rw[ay.1 c];exact⟨h.uk,fun b f=>B b (.inl f)⟩
 ·by_cases g:s.nS a\/r.ownBlock=some a
  ·rcases g with c | c
   ·exact h.uk.lt c
   ·exact (ab h.own a c).2
  ·rw[c2 a g] at n;exact zzm (d.uE a n) h.but.size
 ·rw[D b (d.tL b f).2 (by have:=(d.tL b f).1;omega) (fun e=>(t b e).2 f)];exact (d.tL b f).1
 ·refine h.but.wide fun a _ g=>?_;rcases g with c | c | c
  ·exact .inl (by rw[c,d.cw];omega)
  ·exact .inl (by rw[d.cI a c];omega)
  ·exact .inr c
def qW.keepF (d:qW U wb gr gc go C O w ss kr ki kf sh er ei ef gq)(y:jM w 0 v m')(t:∀ b,v.ownBlock=some b->gq b=0/\¬U b)(Q:ef.length<=2000000)(R:m'.length<=1000000000):Calls Tryz.prog 51 #[.pointer (some ⟨wb,4,none⟩),v] w fun e w'=>e=.returned (.tuple #[])/\∃ r s col',qW U wb gr gc go C O w' ss kr ki r sh er ei (ef++[s]) col'/\gp (fun a=>gq a≠0\/v.ownBlock=some a) w w'/\∀ a,a<w.heap.size->gq a=0->v.ownBlock≠some a->col' a=0:=by
 refine (Xj wb 0 0 #[gr,gc,go,ss,kr,ki,kf] kf v ef m' w d.box rfl d.oF (aj _) y (aj _) Q R).mono ?_;rintro e w' ⟨rfl,r,s,h⟩;obtain⟨col',B,c2⟩:=qd5 gq (fun a=>s.nS a\/r.ownBlock=some a);have a3:=qh d.box;have D:∀ a,a<w.heap.size->gq a≠1->v.ownBlock≠some a->col' a=gq a:=fun a i L n=>c2 a (fun g=>by
  rcases g with c | c
  ·rcases h.wz a c with j | j
   ·exact n j
   ·omega
  ·rcases h.uh a c with j | j
   ·exact L (d.cF a j)
   ·omega)
 have o:=fun a n=>by
  by_cases g:s.nS a\/r.ownBlock=some a
  ·exact B a g
  ·rw[c2 a g];exact n
 have E:∀ {e:TypeId}{S:Nat}{M:Value}{V:Nat}{W:List Value},w.ownsRow 0 e S M V W->∀ b,M.ownBlock=some b->39≠e->89≠e->153≠e->¬(b=wb\/kf.ownBlock=some b\/v.ownBlock=some b):=fun F b f X Y Z g=>by
  rcases g with c | c | c
  ·exact qq F d.box X (by rw[<-c];exact f)
  ·obtain⟨k,l,e⟩:=qE d.oF c;exact qq F e Y f
  ·obtain⟨k,l,e⟩:=qE y c;exact qq F e Z f
 have a0:∀ b,(b=wb\/kf.ownBlock=some b\/v.ownBlock=some b)->b<w.heap.size->∃ k u l,w.heap[b]?=some (.cells k u l)/\u≠46:=fun b f _=>by
  rcases f with c | c | c
  ·rw[c];exact⟨_,_,_,d.box,by decide⟩
  ·obtain⟨k,l,e⟩:=qE d.oF c;exact⟨_,_,_,e,by decide⟩
  ·obtain⟨k,l,e⟩:=qE y c;exact⟨_,_,_,e,by decide⟩
 have a1:∀ b,(b=wb\/kf.ownBlock=some b\/v.ownBlock=some b)->b<w.heap.size->∃ k u l,w.heap[b]?=some (.cells k u l)/\u≠3:=fun b f _=>by
  rcases f with c | c | c
  ·rw[c];exact⟨_,_,_,d.box,by decide⟩
  ·obtain⟨k,l,e⟩:=qE d.oF c;exact⟨_,_,_,e,by decide⟩
  ·obtain⟨k,l,e⟩:=qE y c;exact⟨_,_,_,e,by decide⟩
 have G:∀ a,U a->¬(a=wb\/kf.ownBlock=some a\/v.ownBlock=some a):=fun a N g=>by
  have z:=(d.tL a N).1;rcases g with c | c | c
  ·rw[c,d.cw] at z;omega
  ·rw[d.cF a c] at z;omega
  ·exact (t a c).2 N
 have A:∀ a,a<w.heap.size->2<=gq a->¬(a=wb\/kf.ownBlock=some a\/v.ownBlock=some a)/\col' a=gq a:=fun a i P=>by
  refine⟨fun g=>?_,D a i (by omega) (fun e=>by have:=(t a e).1;omega)⟩;rcases g with c | c | c
  ·rw[c,d.cw] at P;omega
  ·rw[d.cF a c] at P;omega
  ·have:=(t a c).1;omega
 refine⟨rfl,r,s,col',⟨h.box,qi d.own h.but (fun b f x=>E d.own b f (by decide) (by decide) (by decide) x),fun H I J=>(d.pr H I J).but h.but (fun a i g=>(A a i (by omega)).1) (fun a i g=>by rw[(A a i (by omega)).2];exact g),fun H I J=>(d.dc H I J).but h.but (fun a i g=>(A a i (by omega)).1) G (fun a i g=>by rw[(A a i (by omega)).2];exact g),
  qi d.oR h.but (fun b f x=>E d.oR b f (by decide) (by decide) (by decide) x),qi d.oI h.but (fun b f x=>E d.oI b f (by decide) (by decide) (by decide) x),h.own,fun e p=>⟨(d.eR e p).1.uf h.but a0,fun b f=>o b ((d.eR e p).2 b f)⟩,fun e p=>⟨(d.eI e p).1.uf h.but a1,fun b f=>o b ((d.eI e p).2 b f)⟩,fun e p=>?_,o _ d.cw,fun m q=>o m (d.cs m q),fun m q=>o m (d.cR m q),fun m q=>o m (d.cI m q),fun m q=>B m (.inr q),fun a n=>?_,d.wo.but h.but G,d.uO.but h.but G,fun b f=>⟨?_,zzm (d.tL b f).2 h.but.size⟩⟩,?_,fun a i z n=>by rw[D a i (by omega) n];exact z⟩
 ·rcases al.1 p with c | c
  ·refine⟨(d.eF e c).1.but h.but (fun b f g=>?_),fun b f=>o b ((d.eF e c).2 b f)⟩;obtain⟨k,l,K⟩:=(d.eF e c).1.kind f;rcases g with j | j | j
   ·rw[j] at K;exact absurd (Q5 K d.box) (by decide)
   ·obtain⟨a4,a5,a2⟩:=qE d.oF j;exact absurd (Q5 K a2) (by decide)
   ·have L:=(d.eF e c).2 b f;have:=(t b j).1;omega
  ·rw[ay.1 c];exact⟨h.uk,fun b f=>B b (.inl f)⟩
 ·by_cases g:s.nS a\/r.ownBlock=some a
  ·rcases g with c | c
   ·exact h.uk.lt c
   ·exact (ab h.own a c).2
  ·rw[c2 a g] at n;exact zzm (d.uE a n) h.but.size
 ·rw[D b (d.tL b f).2 (by have:=(d.tL b f).1;omega) (fun e=>(t b e).2 f)];exact (d.tL b f).1
 ·refine h.but.wide fun a _ g=>?_;rcases g with c | c | c
  ·exact .inl (by rw[c,d.cw];omega)
  ·exact .inl (by rw[d.cF a c];omega)
  ·exact .inr c
end
variable{l':List gv}{o:gt}{x:List Bool}
def qs0 {l:List gv}(c:l.map gD=l'.map gD):l.map qw=l'.map qw:=by
 have a:∀ l:List gv,(l.map gD).map qw=l.map qw:=fun l=>by
  rw[cB];refine bN fun b _=>?_;show qw (gD b)=qw b;unfold gD;split<;>rfl
 rw[<-a l,<-a l',c]
def qd9 {l:List gv}(a:l.map gD=l'.map gD):l.length=l'.length:=by have:=congrArg List.length a;simpa using this
section
variable {K S j D:Nat}{l:List gv}{f:gB}{d:Dc}
def sV (e:vM K S D (l,f))(z:K*S<=16)(q:j<K)(A:D<=900000000)(g:qP (gO l j S) (qy o)=some x)(h:l.map gD=d.l.map gD)(r:FR f d):pf d j o:=by
 rw[ZB] at g;have i:d.wait.length<=1000000000:=(by have b:d.wait.length=f.marks.length:=(by rw[r.wait]);have B:f.marks.length<=D:=e.fr.tN;omega);have C:=qd9 h;by_cases k:o.kind=8
 ·exact⟨fun _=>i,fun a=>by omega,fun a=>absurd k a,fun a=>by omega,fun a=>by omega⟩
 ·obtain⟨m,t,c,-,-⟩:=Xu k g;refine⟨fun _=>i,fun b=>?_,fun _ b=>?_,fun u=>?_,fun v=>?_⟩
  ·obtain⟨n,p⟩:=yu c (.inl b);refine⟨⟨by unfold iq;omega,by unfold iq;omega⟩,?_⟩;have w:=(qe5 e.sc (by omega) q m t c).len;have a:(zi l j o).1.length=l.length+1:=(by simp[zi,b]);rw[a] at w;omega
  ·rcases m with a | a
   ·exact absurd a.1 b
   ·refine⟨a.1,?_⟩;rw[<-qs0 h];exact a.2
  ·obtain⟨n,p⟩:=yu c (.inr u);exact⟨by unfold iq;omega,by unfold iq;omega⟩
  ·obtain⟨n,p,y⟩:=Ju c v;exact⟨⟨by omega,by omega⟩,y⟩
def qv2 (B:K*S<=16)(h:j<K){b:List (List gt)}{own:List Bool}(w:vM K S D (l,f))(U:b.length<=8)(q:∀ a∈b,a.length<=20)(V:D+160<=900000000)(i:qR (gO l j S) (b.map fun a=>a.map qy).flatten=some own)(C:l.map gD=d.l.map gD)(E:FR f d):∀ (c:Nat)(a:List gt),b[c]?=some a->∀ (e:Nat)(g:gt),a[e]?=some g->pf (yR (yP d j (b.take c)) j (a.take e)) j g:=by
 intro c a x e g F;obtain⟨W,G⟩:=zzg x;obtain⟨X,H⟩:=zzg F;have I:b=b.take c++a::b.drop (c+1):=(by rw[<-G,bo,ap]);have J:a=a.take e++g::a.drop (e+1):=(by rw[<-H,bo,ap]);have L:=zzn x;have Y:=q a L;have M:(b.map fun a=>a.map qy).flatten=((b.take c).map fun a=>a.map qy).flatten++((a.take e).map qy++(qy g::((a.drop (e+1)).map qy++((b.drop (c+1)).map fun a=>a.map qy).flatten))):=by
  conv=>lhs;rw[I]
  rw[aE,dK,aY,dG];congr 1
  conv=>lhs;rw[J]
  rw[aE,aY,aN,eh]
 rw[M,zF] at i;cases m:qR (gO l j S) ((b.take c).map fun a=>a.map qy).flatten with
 | none=>rw[m] at i;cases i
 | some r=>
  rw[m] at i;have k:qR r ((a.take e).map qy++(qy g::((a.drop (e+1)).map qy++((b.drop (c+1)).map fun a=>a.map qy).flatten)))=some own:=i;have Z:(b.take c).length<=7:=(by rw[ao];omega);have a0:(a.take e).length<=19:=(by rw[ao];omega);obtain⟨N,O,-⟩:=X1 (K:=K) (S:=S) (j:=j) (by omega) h (b.take c) D l f d r w (fun y t=>q y (br t)) (by omega) m C E;obtain⟨-,u,P,-⟩:=Y3 (K:=K) (S:=S) (j:=j) (by omega) h ((b.take c).map fun a=>a.map qy) D (l,f) r w (fun y t=>by
   obtain⟨n,Q,rfl⟩:=aC.1 t;rw[ak];exact q n (br Q)) (by rw[ak];omega) m
  rw[ak] at u;rw[<-P,zF] at k;cases o:qR (gO (jx j (l,f) ((b.take c).map fun a=>a.map qy)).1 j S) ((a.take e).map qy) with
  | none=>rw[o] at k;cases k
  | some p=>
   rw[o] at k;have z:(qP p (qy g)).bind (fun n=>qR n ((a.drop (e+1)).map qy++((b.drop (c+1)).map fun a=>a.map qy).flatten))=some own:=k;obtain⟨R,k2,-⟩:=Vf (K:=K) (S:=S) (j:=j) (by omega) h (a.take e) (D+20*(b.take c).length) _ _ (yP d j (b.take c)) p u (by omega) o N O;obtain⟨-,A,T,-⟩:=Kv (K:=K) (S:=S) (j:=j) (by omega) h ((a.take e).map qy) (D+20*(b.take c).length) _ p u (by rw[ak];omega) o;rw[ak] at A;cases v:qP p (qy g) with
   | none=>rw[v] at z;cases z
   | some n=>
    rw[<-T] at v;exact sV A B h (by omega) v R k2
end
section
variable {s:qY}{d:Dc}{D:Nat}
def qz6 (b:DR s d)(c:jg D s)(h:D+640<=900000000)(p:hw s.l s.c.behind s.f):FR (iu s).f (il d)/\hN (D+160*s.ks.length) (iu s).f:=by
 have k:s.ks.length=d.ks.length:=(by have:=congrArg List.length b.ks;simpa using this);obtain⟨e,g,i,y,z⟩:=QE b c h s.ks.length (zzl _);have m:=jL c h s.ks.length (zzl _);have q:=p.flip.uw c.st.fr.flip (fun A B r=>Ze r s.c.behind);have u:=VK c h q s.ks.length (zzl _);have v:∀ a,a<3->((qJ s.c.hD s.ks ((gM s).l,(gM s).f) s.ks.length).2.b a).begun<s.t+1:=fun a w=>by
  rw[Z7];show ((zX (zd s.f).1 _).b a).begun<_;rw[Z6,YS];have:=b.beg a w;omega
 rw[k] at e g i;have x:zD (iI d) d.ks.length=iL d:=rfl;rw[x] at e g i;rw[<-k] at e g;have n:(iL d).c.behind=s.c.behind:=(by rw[i,b.c]);have o:=XW (t:=s.t+1) e g m.st.fr (by rw[n];exact u) v;rw[n] at o;exact⟨o,m.st.fr.begin (s.t+1) _⟩
def Jf (d:Dc):(iL d).tH=d.tH:=by
 have a:=(yJ (iI d) d.ks.length).2.2.2.1;have b:=(xX (og d) d.l.length).tH;have c:(og d).tH=d.tH:=(by unfold og xU;split<;>rfl);exact a.trans (b.trans c)
def Y7 (c:DR s d)(b:jg D s)(k:D+640<=900000000)(L:hw s.l s.c.behind s.f)(g:0<=s.t/\s.t<=1000000000000000000)(M:0<=d.tH/\d.tH<=1000000000000000):VL d:=by
 have m:=Qy b.cfg;have b7:=m.oA;have N:=m.ks;have y:s.ks.length=d.ks.length:=(by have:=congrArg List.length c.ks;simpa using this);have b8:=b.len;have b9:s.c.oA.toNat<=4:=(by omega);refine⟨by rw[<-c.t];exact g,fun O=>?_,by omega,fun a z q c0=>?_,fun j a A=>?_,?_,by rw[Jf];exact M,fun t=>?_⟩
 ·have t:s.f.frame.isSome=true:=(by rw[<-c.f.tQ];exact O.1);obtain⟨n,o⟩:=Option.isSome_iff_exists.1 t;rw[(c.f.uV n o).1];exact (b.st.fr.fm n o).1
 ·obtain⟨P,-,-⟩:=JE (c.f.tt (d.t+1)) b.st.fr;obtain⟨c1,k2,Q,c3⟩:=yB {d with t:=d.t+1};have B:s.l.map gD=(og d).l.map gD:=(by unfold og;rw[Q];exact c.l);have R:=(zzg q).1;rw[yY] at R;have c4:=qd9 B;obtain⟨i,-⟩:=Zd (f:=(zd s.f).1) (d:=og d) (D:=D) B P b.st.fr.flip (fun z q=>(b.st.sc.sf z q).lf.1) a (by omega);have T:((s.l.take a).map hd++s.l.drop a)[a]?=s.l[a]?:=(by have U:((s.l.take a).map hd).length=a:=(by rw[ak,ao];omega);rw[aq (by omega),U,cL,bw];rfl);obtain⟨u,C⟩:∃ u,s.l[a]?=some u:=⟨s.l[a]'(by omega),by simp⟩;have E:=congrArg (fun V=>V[a]?) i;simp only[aF,q,T,C,bO,ac] at E;obtain⟨-,-,W,X,-,-,-,Y,Z⟩:=kg E;have r:=b.st.sc.sf u (zzn C);have F:=Z (by omega);have c5:=r.lf;have c6:=r.dd;have c7:=r.xb;have c8:=r.yb;rw[<-W,<-X,<-Y,<-F.1,<-F.2];refine⟨by omega,?_,?_⟩
  ·unfold iq;omega
  ·unfold iq;omega
 ·have a0:j<d.ks.length:=(by have:=(zzg A).1;rw[(yJ (iI d) j).2.1] at this;obtain⟨-,-,-,a1,-⟩:=qc8 c b;rw[a1] at this;exact this);obtain⟨i,h,a2,a3,c9⟩:=QE c b k j (by omega);have a4:d.ks[j]?=some (some a):=(by rw[<-Qt (q:=d.c.hD) a0,<-a3];exact A);have G:s.ks[j]?=some (some (qH a)):=(by rw[c.ks,aF,a4];rfl);have H:=jL b k j (by omega);have v:=b.cl j (qH a) G;have I:=H.uH j (qH a) (zzl _) G;have a5:=v.cr;have c2:=v.ql;have d0:=m.tK;have d1:=m.hD;have d2:=m.queue;have a6:(qH a).cr=a.cr:=rfl;have a7:(qH a).q.length=a.q.length:=(by unfold qH;simp);rw[a6] at a5;rw[a7] at c2;have J:=fun e g=>by
   have:=v.tr (e.map qy) (aC.2 ⟨e,g,rfl⟩);rw[ak,ve] at this;exact this
  refine⟨by omega,by rw[a2,<-c.c];omega,by omega,fun e g=>?_,fun a8 e a9 _ b0 p w=>?_⟩
  ·obtain⟨d3,d4⟩:=J e g;refine⟨fun p w=>?_,by omega,by omega,by omega⟩;have b1:=List.mem_flatten.2 ⟨e.map qy,aC.2 ⟨e,g,rfl⟩,aC.2 ⟨p,w,rfl⟩⟩;have x:=xy _ _ _ I (qy p) b1;obtain⟨b2,-,-,-,b3,b4,-⟩:=X6 p;unfold Qk at x ⊢;rw[b2,b3,b4] at x;exact x
  ·exact qv2 (K:=s.c.oA.toNat) (S:=s.c.iE.toNat) N (by omega) H.st (by omega) (fun e g=>(J e g).1.2) (by omega) I i h a8 e a9 b0 p w
 ·obtain⟨-,h,-⟩:=QE c b k s.ks.length (zzl _);rw[y] at h;have b5:zD (iI d) d.ks.length=iL d:=rfl;rw[b5] at h;rw[h.front,<-y];exact (jL b k s.ks.length (zzl _)).st.fr.fr
 ·obtain⟨i,h⟩:=qz6 c b k L;have b6:(iu s).f.frame.isSome=true:=(by rw[<-i.tQ];exact t);obtain⟨n,o⟩:=Option.isSome_iff_exists.1 b6;have:=(i.uV n o).2.1;have:=(h.fm n o).2.2.1;have:=h.wh;omega
def X3 (a:Nat)(g:0<=d.tH):0<=(xS d a).tH/\(xS d a).tH<=d.tH+1:=by
 have h:=Jf d;have b:(xS d a).tH=(il d).tH:=(by show (jI (il d) a).tH=_;unfold jI;split<;>rfl);have c:(il d).tH=(iL d).tH\/(il d).tH=(iL d).tH+1:=by
  show (jF (iL d)).tH=_\/(jF (iL d)).tH=_;unfold jF;split
  ·exact .inl rfl
  ·exact .inr rfl
 rw[b];rcases c with e | e<;>omega
end
end Go.Proofs.YtbnbkjbfpamijaaGreat
