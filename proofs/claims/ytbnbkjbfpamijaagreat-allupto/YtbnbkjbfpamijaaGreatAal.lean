import Derived.Test.YtbnbkjbfpamijaaGreatAaj
import Derived.Test.YtbnbkjbfpamijaaGreatAak
set_option linter.all false
set_option maxRecDepth 100000
set_option maxHeartbeats 0
namespace Go.Proofs.YtbnbkjbfpamijaaGreat
open Go.RowKit Go.Proofs.Panes
variable{S U V:Nat→Prop}{w w2:World}{i j n:Nat}{H:List (Value×List gt)}{v:Value}{C x:List Bool}{B' q:Int}{h:List gt}
structure gF where
 q:List (List gt)
 cr:Int
 own:List Bool
def zI (a:Value×List gt):P2:=(a.1,.int .i64 (qA a.2))
structure pd (C U:Nat->Prop)(w:World)(cp S:Nat)(k:gF)(qv:Value)(mq:List (Value×List gt))(b:List Bool):Prop where
 cell:w.heap[cp]?=some (.cells ([qv,.int .i64 k.cr]++b.map Value.bool).toArray 113)
 row:qN w 0 195 qv (mq.map zI)
 ops:∀ t∈mq,gW U w t.1 t.2
 q:mq.map Prod.snd=k.q
 bl:b.length=4
 own:b.take S=k.own
 cc:C cp
 cq:∀ g,qv.ownBlock=some g->C g
def Xs (a b:Nat->Prop)(c:World)(d e:Nat)(f:gF):Prop:=∃ g h i,pd a b c d e f g h i
def pd.but {b c T:Nat->Prop}{e f:World}{g S:Nat}{h:gF}{i:Value}{j:List (Value×List gt)}{k:List Bool}(a:pd b c e g S h i j k)(d:gp T e f)(l:∀ x,b x->¬T x)(n:∀ x,c x->¬T x):pd b c f g S h i j k:=
 ⟨d.heap a.cell (l _ a.cc),qi a.row d (fun m o=>l m (a.cq m o)),fun p q=>(a.ops p q).but d n,a.q,a.bl,a.own,a.cc,a.cq⟩
def Xs.but {a b T:Nat->Prop}{d e:World}{f S:Nat}{g:gF}(c:Xs a b d f S g)(h:gp T d e)(i:∀ x,a x->¬T x)(j:∀ x,b x->¬T x):Xs a b e f S g:=by
 obtain⟨k,l,m,c⟩:=c;exact⟨k,l,m,c.but h i j⟩
def Xs.mono {b:Nat->Prop}{c:gF}(a:Xs S U w n i c)(d:∀ x,S x->V x)(f:∀ x,U x->b x):Xs V b w n i c:=by
 obtain⟨g,h,j,a⟩:=a;exact⟨g,h,j,a.cell,a.row,fun k l=>(a.ops k l).wide f,a.q,a.bl,a.own,d _ a.cc,fun e m=>d e (a.cq e m)⟩
def yr (b:∀ a∈H,gW S w a.1 a.2):yN (H.map zI):=by
 intro f c;obtain⟨a,d,rfl⟩:=aC.1 c;obtain⟨g,h,e,_⟩:=b a d;simp only[zI];rw[e];exact⟨rfl,rfl⟩
def zP (a:Int):List (List gt)->Nat×Int
 | []=>(0,a)
 | b::c=>if qA b<=a then ((zP (a-qA b) c).1+1,(zP (a-qA b) c).2) else (0,a)
def VY:∀ (a:List (List gt))(b:Int),(zP b a).1<=a.length
 | [],_=>zzl _
 | c::a,b=>by
  unfold zP;split
  ·have:=VY a (b-qA c);simp only[aX];omega
  ·exact aj _
def qB (a:gF)(b:Int):List (List gt)×gF:=
 (a.q.take (zP (a.cr+b) a.q).1,{a with q:=a.q.drop (zP (a.cr+b) a.q).1,cr:=if a.q.length<=(zP (a.cr+b) a.q).1 then 0 else (zP (a.cr+b) a.q).2})
def pd.ud {e:gF}(a:pd S U w n j e v H x)(g:∀ b,S b->¬U b)(c:Int):pd S U (w.setCell ⟨n,1,none⟩ (.int .i64 c)) n j {e with cr:=c} v H x:=by
 have f:gp (fun b=>b=n) w (w.setCell ⟨n,1,none⟩ (.int .i64 c)):=(gp.refl (fun b=>b=n) w).setCell (p:=⟨n,1,none⟩) (.inl rfl) _;refine⟨?_,qi a.row f (fun o h d=>qq a.row a.cell (by decide) (by rw[h,d])),fun k l=>(a.ops k l).but f (fun b m d=>g n a.cc (by rw[<-d];exact m)),a.q,a.bl,a.own,a.cc,a.cq⟩;have:=qp (i:=1) a.cell (.int .i64 c);simpa using this
def pd.drewN {b:gF}(a:pd S U w n i b v H x)(c:Nat):pd S U (w.drewN c) n i b v H x:=⟨a.cell,a.row,a.ops,a.q,a.bl,a.own,a.cc,a.cq⟩
structure qa (C U:Nat->Prop)(w wr:World)(cp S:Nat)(k:gF)(qv:Value)(mq:List (Value×List gt))(b:List Bool)(cr0:Int)(j:Nat)(cr:Int):Prop where
 jn:j<=mq.length
 cb:0<=cr/\cr<=2000000
 eq:zP cr0 k.q=(j+(zP cr (k.q.drop j)).1,(zP cr (k.q.drop j)).2)
 kl:pd C U wr cp S {k with cr:=cr} qv mq b
 bt:gp (fun x=>x=cp) w wr
def qa.go {a:gF}(b:qa S U w w2 n i a v H C q j B')(e:∀ x,S x->¬U x)(d:a.q[j]?=some h)(f:0<=qA h/\qA h<=B')(c:Nat):qa S U w ((w2.drewN c).setCell ⟨n,1,none⟩ (.int .i64 (B'-qA h))) n i a v H C q (j+1) (B'-qA h):=by
 have g:=(zzg d).1;have l:a.q.length=H.length:=(by rw[<-b.kl.q];simp);have k:a.q.drop j=h::a.q.drop (j+1):=by
  rw[<-bo (h:=g)];congr 1
  exact (zzg d).2
 have m:=b.cb;refine⟨by omega,by omega,?_,(b.kl.drewN c).ud e _,(b.bt.drewN c).setCell (p:=⟨n,1,none⟩) (.inl rfl) _⟩;rw[b.eq,k];simp only[zP,an f.2,bP,bB];omega
def qa.done {a:gF}(d:qa S U w w2 n i a v H x q j B')(e:∀ b,a.q[j]?=some b->¬qA b<=B'):zP q a.q=(j,B'):=by
 rw[d.eq];cases c:a.q.drop j with
 | nil=>simp[zP]
 | cons b g=>
  have h:j<a.q.length:=(by have:=congrArg List.length c;simp at this;omega);have f:a.q[j]?=some b:=(by have:=congrArg List.head? c;simpa[List.head?_drop] using this);simp[zP,e b f]
variable{b9 m:World}{e:gF}{b g ob t:Nat}{a7:Int}{d:TypeId}{b1:List P2}
def XY (l:qN w 0 195 (.slice (some ⟨n,0,none⟩) i j) (H.map zI))(m:yN (H.map zI))(t:H.length<=1000)(a:Nat)(u:a<=H.length):Calls Tryz.prog 135 #[.slice (some ⟨n,0,none⟩) a j] w fun e c=>(∃ f,e=.returned f/\qN c w.heap.size 195 f ((H.take a).map zI))/\Below w.heap.size w c:=by
 obtain⟨v,g,x,_,h,y⟩:=l.row;refine (zd9 (w:=w) (b:=n) (off:=0) (n:=a) (cap:=j) (xs:=c2 ((H.take a).map zI)) (by rw[zV,ak,ao];omega) (fun z A d=>?_) (yN.cells (fun o k=>m o ?_)) (by omega) (fun _=>qh g)).mono ?_
 ·have p:=(zzg d).1;rw[zV,ak,ao] at p;rw[bA,qe g,bR,zs,aM (by rw[zV,ak];omega)];rw[dg,<-yG,cQ (by omega)] at d;exact d
 ·rw[dg] at k;exact br k
 ·rintro e c ⟨⟨q,rfl,r⟩,h⟩;refine⟨⟨q,rfl,?_⟩,h⟩;have s:((H.take a).map zI).length=a:=(by rw[ak,ao];omega);unfold qN;rw[s];exact r
def J2 (b:qN w 0 195 (.slice (some ⟨n,0,none⟩) i j) (H.map zI))(e:yN (H.map zI))(f:H.length<=1000)(a:Nat)(g:a<=H.length):Calls Tryz.prog 136 #[.slice (some ⟨n,0,none⟩) i j,.int .i64 0,.int .i64 (a:Int)] w fun d c=>d=.returned (.slice (some ⟨n,0,none⟩) (i-a) j)/\qN c 0 195 (.slice (some ⟨n,0,none⟩) (i-a) j) ((H.drop a).map zI)/\gp (fun h=>h=n) w c:=by
 obtain⟨s,t,k,l,u,v⟩:=b.row;have m:i=H.length:=(by simpa using l);rcases bg a with rfl | x
 ·refine (QD w (some ⟨n,0,none⟩) i j (by rw[ae,ak] at k;omega)).mono ?_;rintro d c ⟨rfl,o,rfl⟩;refine⟨by simp,by rw[Nat.sub_zero];exact b,.aD (ax (aa _ _) o)⟩
 ·subst m;have p:qN w 0 195 (.slice (some ⟨n,0,none⟩) (H.map zI).length j) (H.map zI):=(by simpa using b);have q:(H.drop a).map zI=(H.map zI).take 0++(H.map zI).drop a:=(by simp[ds]);have:=VX p e 0 a (by omega) (by simpa using g) (by simpa using f) ((H.drop a).map zI) q;have r:((H.drop a).map zI).length=H.length-a:=(by simp);rw[r,ak] at this;exact this
def qm5 (o:qa S U w w2 n j e (.slice (some ⟨g,0,none⟩) b t) H x B' ob a7)(r:∀ c,S c->¬U c)(s:Below w2.heap.size w2 m)(v:qN b9 0 195 (.slice (some ⟨g,0,none⟩) (b-ob) t) ((H.drop ob).map zI))(h:gp (fun e=>e=g) m b9):pd S U (b9.setCell ⟨n,0,none⟩ (.slice (some ⟨g,0,none⟩) (b-ob) t)) n j {e with q:=e.q.drop ob,cr:=a7} (.slice (some ⟨g,0,none⟩) (b-ob) t) (H.drop ob) x/\gp S w (b9.setCell ⟨n,0,none⟩ (.slice (some ⟨g,0,none⟩) (b-ob) t)):=by
 have d:=o.kl;have k:=d.cq g rfl;have y:n≠g:=fun a=>qq d.row d.cell (by decide) (by rw[a];rfl);have u:=d.but (T:=fun _=>False) (.aD s) (fun _ _ a=>a) (fun _ _ a=>a);have z:=h.heap u.cell y;have l:gp (fun c=>c=n) b9 (b9.setCell ⟨n,0,none⟩ (.slice (some ⟨g,0,none⟩) (b-ob) t)):=(gp.refl (fun c=>c=n) b9).setCell (p:=⟨n,0,none⟩) (.inl rfl) _;refine⟨⟨?_,?_,?_,?_,d.bl,d.own,d.cc,fun c f=>by simp[Value.ownBlock] at f;subst f;exact k⟩,?_⟩
 ·have:=qp (i:=0) z (.slice (some ⟨g,0,none⟩) (b-ob) t);simpa using this
 ·exact qi v l (fun c f a=>by simp[Value.ownBlock] at f;omega)
 ·intro A B;exact ((u.ops A (bm B)).but h (fun c f a=>r g k (by rw[<-a];exact f))).but l (fun c f a=>r n d.cc (by rw[<-a];exact f))
 ·rw[ds,d.q]
 ·exact ((o.bt.wide (fun c _ a=>by rw[a];exact d.cc)).trans ((gp.aD s).trans (h.wide (fun c _ a=>by rw[a];exact k)))).trans (l.wide (fun c _ a=>by rw[a];exact d.cc))
def Z9 (c d:Nat->Prop)(e:World)(j k:Nat)(f:gF)(g:Int)(l:Ending)(a:World):Prop:=
 (∃ (h:Value)(b:List (Value×List gt)),l=.returned h/\qN a e.heap.size 195 h (b.map zI)/\b.map Prod.snd=(qB f g).1/\(∀ i∈b,gW d a i.1 i.2)/\Xs c d a j k (qB f g).2)/\gp c e a
def Zn (a:qN w n d v b1)(b:i<=n):qN w i d v b1:=by
 refine⟨a.1,?_⟩;rcases a.2 with a | ⟨c,e,f,g,h,j⟩
 ·exact .inl a
 ·exact .inr ⟨c,e,f,g,aO b h,j⟩
def J1 (o:qa S U w w2 n i e (.slice (some ⟨j,0,none⟩) g b) H x (e.cr+a7) t B')(s:zP (e.cr+a7) e.q=(t,B'))(h:∀ a,S a->¬U a)(gO:qN m w2.heap.size 195 v ((H.take t).map zI))(B:Below w2.heap.size w2 m)(L:ob=g-t)(M:qN b9 0 195 (.slice (some ⟨j,0,none⟩) ob b) ((H.drop t).map zI))(C:gp (fun e=>e=j) m b9):(¬e.q.length<=t->Z9 S U w n i e a7 (.returned v) (b9.setCell ⟨n,0,none⟩ (.slice (some ⟨j,0,none⟩) ob b)))/\(e.q.length<=t->Z9 S U w n i e a7 (.returned v) ((b9.setCell ⟨n,0,none⟩ (.slice (some ⟨j,0,none⟩) ob b)).setCell ⟨n,1,none⟩ (.int .i64 0))):=by
 subst L;have d:=o.kl;obtain⟨u,y⟩:=qm5 o h B M C;have N:=d.cq j rfl;have P:=qh (qE d.row (k:=j) rfl).choose_spec.choose_spec;have Q:=qh d.cell;have O:=d.but (T:=fun _=>False) (.aD B) (fun _ _ c=>c) (fun _ _ c=>c);obtain⟨r,D⟩:=zx (b9.setCell ⟨n,0,none⟩ (.slice (some ⟨j,0,none⟩) (g-t) b));have E:gp (fun a=>a=j\/a=n) m r:=(by rw[D];exact (C.wide (fun _ _ c=>.inl c)).setCell (p:=⟨n,0,none⟩) (.inl (.inr rfl)) _);rw[<-D] at u y ⊢;have F:∀ a,v.ownBlock=some a->¬(a=j\/a=n):=fun a f G=>by have:=(ab gO a f).1;omega
 have I:=qi gO E F;have J:=fun k l=>(O.ops k l).but E (fun a f G=>by
  rcases G with c | c
  ·exact h j N (by rw[<-c];exact f)
  ·exact h n d.cc (by rw[<-c];exact f))
 have K:(H.take t).map Prod.snd=(qB e a7).1:=(by simp only[qB,s];rw[dg,d.q]);refine⟨fun z=>⟨⟨v,H.take t,rfl,Zn I o.bt.size,K,fun k l=>J k (br l),?_⟩,y⟩,fun z=>?_⟩
 ·have:(qB e a7).2={e with q:=e.q.drop t,cr:=B'}:=(by simp only[qB,s,ah z]);rw[this];exact⟨_,_,_,u⟩
 ·have A:gp (fun a=>a=n) r (r.setCell ⟨n,1,none⟩ (.int .i64 0)):=(gp.refl (fun a=>a=n) r).setCell (p:=⟨n,1,none⟩) (.inl rfl) _;refine⟨⟨v,H.take t,rfl,Zn (qi I A (fun a f c=>F a f (.inr c))) o.bt.size,K,fun k l=>(J k (br l)).but A (fun a f c=>h n d.cc (by rw[<-c];exact f)),?_⟩,y.trans (A.wide (fun a _ c=>by rw[c];exact d.cc))⟩;have:(qB e a7).2={e with q:=e.q.drop t,cr:=0}:=(by simp only[qB,s,an z]);rw[this];exact⟨_,_,_,u.ud h 0⟩
def qn7 (c7:Xs S U w n j e)(c8:∀ v,S v->v<w.heap.size)(V:∀ v,S v->¬U v)(d:Int)(c9:e.q.length<=1000)(W:0<=d/\d<=1000000)(b3:0<=e.cr/\e.cr<=1000000)(x:∀ f∈e.q,0<=qA f/\qA f<=1000000):Calls Tryz.prog 114 #[.pointer (some ⟨n,0,none⟩),.int .i64 d] w (Z9 S U w n j e d):=by
 obtain⟨f4,l,J,g⟩:=c7;have a2:e.q.length=l.length:=(by rw[<-g.q];simp);obtain⟨d0,f5,-⟩:=zzc g.cell;have f6:=fun a=>qj g.cell a;have f7:IntKind.i64.wrap (e.cr+d)=e.cr+d:=(by rw[af];omega);rcases g.row.2 with ⟨E,b4⟩ | ⟨F,y,f8,E,_,a3,b5,r,d1,K⟩
 ·have d2:l=[]:=(by simpa using b4);subst d2 E;have X:e.q=[]:=(by rw[<-g.q];rfl);have b6:∀ b:Nat,Z9 S U w n j e d (.returned (.slice none 0 0)) ((((w.setCell ⟨n,1,none⟩ (.int .i64 (e.cr+d))).drewN b).setCell ⟨n,0,none⟩ (.slice none 0 0)).setCell ⟨n,1,none⟩ (.int .i64 0)):=fun b=>by
   have h1:=(g.ud V (e.cr+d)).drewN b;have s:gp S w ((w.setCell ⟨n,1,none⟩ (.int .i64 (e.cr+d))).drewN b):=((gp.refl S w).setCell (p:=⟨n,1,none⟩) (.inl g.cc) _).drewN b;generalize (w.setCell ⟨n,1,none⟩ (.int .i64 (e.cr+d))).drewN b=L at *;have d3:gp S L ((L.setCell ⟨n,0,none⟩ (.slice none 0 0)).setCell ⟨n,1,none⟩ (.int .i64 0)):=((gp.refl S L).setCell (p:=⟨n,0,none⟩) (.inl g.cc) _).setCell (p:=⟨n,1,none⟩) (.inl g.cc) _;refine⟨⟨.slice none 0 0,[],rfl,⟨rfl,.inl ⟨rfl,rfl⟩⟩,by simp[qB,X],fun d4 K=>by simp at K,.slice none 0 0,[],J,?_,⟨rfl,.inl ⟨rfl,rfl⟩⟩,fun d4 K=>by simp at K,by simp[qB,X],g.bl,g.own,g.cc,fun F a3=>by simp[Value.ownBlock] at a3⟩,s.trans d3⟩;have:=qp (i:=1) (qp (i:=0) h1.cell (.slice none 0 0)) (.int .i64 0);simpa[qB,X] using this
  have d5:=qg b6;have d6:=qg (fun w=>zd8 w);have d7:=qg (fun w=>QD w none 0 0 (zzl _));clear b6 g X a2 x c9 b3 W b4;go_enter Tryz.func114,Tryz.ntmps114;go_wp2;go_loopw [5] (fun o wr=>o=.int .i64 0/\∃ b7,wr=(w.setCell ⟨n,1,none⟩ (.int .i64 (e.cr+d))).drewN b7) (fun _ _=>0)
  case atStart=>exact⟨rfl,0,rfl⟩
  case round=>
   obtain⟨rfl,b7,rfl⟩:=hrel;have f9:decide ((0:Int)<((0:Nat):Int))=false:=rfl;go_wp2;go_quiet (fail)
   go_wp2_with (first | (go_at_call 135;refine ((qb d6) _).mono ?_;rintro c d8 ⟨rfl,rfl⟩) | (go_at_call 136;refine ((qb d7) _).mono ?_;rintro c d8 ⟨rfl,g0,rfl⟩))
   go_ret;exact (qb d5) _
 ·subst E;obtain⟨b,M⟩:=zx ((l.map zI).length);have b8:b=l.length:=(by simpa using M);rw[<-M] at d0 g;have g1:b<=y:=(by rw[M];exact b5);have g2:b<=1000:=(by omega);have h0:qa S U w (w.setCell ⟨n,1,none⟩ (.int .i64 (e.cr+d))) n j e (.slice (some ⟨F,0,none⟩) b y) l J (e.cr+d) 0 (e.cr+d):=⟨aj _,by omega,by simp,g.ud V _,(gp.refl (fun v=>v=n) w).setCell (p:=⟨n,1,none⟩) (.inl rfl) _⟩;have b9:∀ (a:Nat)(f:List gt),e.q[a]?=some f->0<=qA f/\qA f<=1000000:=fun a f G=>x f (zzn G);have d9:=qg h0;have e0:=qg b9;have Y:=qg a2;have t:=qg b8;have a4:=qg V;have g3:=qg g.cc;have g4:=qg M;clear h0 b9 x b3 W a2 b8 V g M a3 b5 r d1 K c8;go_enter Tryz.func114,Tryz.ntmps114;go_wp2;go_loopw [5] (fun o wr=>∃ (a:Nat)(q:Int),o=.int .i64 a/\qa S U w wr n j e (.slice (some ⟨F,0,none⟩) b y) l J (e.cr+d) a q) (fun o _=>b-(intOf o).toNat)
  case atStart=>exact⟨0,_,rfl,qb d9⟩
  case round=>
   rename World=>N;obtain⟨a,q,rfl,u⟩:=hrel;have H:=u.kl;obtain⟨c0,c1,-⟩:=zzc H.cell;have c2:=fun a=>qj H.cell a;have g5:a<=b:=(by have:=u.jn;have:=qb t;omega);have g6:(0:Int)<=(a:Int):=(by omega);have g7:=u.cb;by_cases g8:a<b
   ·obtain⟨f,G⟩:∃ f,e.q[a]?=some f:=⟨e.q[a]'(by have:=qb Y;have:=qb t;omega),by simp⟩;have c3:=(qb e0) a f G;obtain⟨g9,c4,e1,-,e2,r⟩:=H.row.row;have e3:∃ O,l[a]?=some (O,f):=(by have c:(l.map Prod.snd)[a]?=some f:=(by rw[H.q];exact G);rw[aF] at c;obtain⟨⟨O,c5⟩,h1,h2⟩:=cN.1 c;exact⟨O,by rw[h1];simp at h2;rw[h2]⟩);obtain⟨O,E⟩:=e3;have Z:N.cell? ⟨F,a*2+1,none⟩=some (.int .i64 (qA f)):=(by have W:(l.map zI)[a]?=some (zI (O,f)):=(by rw[aF,E];rfl);have:=(XV _ a _ W).2;rw[qe c4,bR,zs,aM (zzg this).1,this];rfl);have i0:(a:Int)<(b:Int):=(by omega);obtain⟨I,x⟩:=zx (qA f);rw[<-x] at Z c3;have h:=qg u;have a5:=qg G;have a0:=qg x;clear u H c4 e1 e2 r E G x;have i1:decide ((a:Int)<(b:Int))=true:=(by simp;omega);by_cases e4:I<=q
    ·have i2:IntKind.i64.wrap (q-I)=q-I:=(by rw[af];omega);have i3:decide (I<=q)=true:=(by simp;omega);go_wp2;go_quiet (fail)
     go_wp2;go_region;go_wp2;go_roundw
     case rel=>
      have:=(qb h).go (qb a4) (qb a5) (by rw[<-qb a0];omega);rw[<-qb a0] at this;exact⟨a+1,q-I,by go_num,this _⟩
     case measure=>simp[intOf];omega
    ·have i4:decide (I<=q)=false:=(by simp;omega);have P:=(qb h).done (fun c5 a1 c6=>by rw[qb a5] at a1;cases a1;rw[<-qb a0] at c6;exact e4 c6);have a6:=qg P;have e5:(a:Int)<=(b:Int):=(by omega);have e6:(a:Int)<=(y:Int):=(by omega);clear P c3 a5 a0;go_wp2;go_quiet (fail)
     have k:qa S U w (N.drewN nq) n j e (.slice (some ⟨F,0,none⟩) b y) l J (e.cr+d) a q:=⟨(qb h).jn,(qb h).cb,(qb h).eq,(qb h).kl.drewN nq,(qb h).bt.drewN nq⟩;clear c0 c1 c2 Z;generalize N.drewN nq=e7 at *;obtain⟨e8,-⟩:=zzc k.kl.cell;obtain⟨o,r⟩:=zx (b-a);have Q:=qg r;have a7:=qg (XY k.kl.row (yr k.kl.ops) (by have:=qb t;omega) a k.jn);have z:=qg k;have a8:¬(o:Int)=0:=(by omega);have i5:((o:Int) == 0)=false:=(by simpa using a8);clear k r
     go_wp2_with (first
       | (go_at_call 135;refine (qb a7).mono ?_;rintro c L ⟨⟨e9,rfl,gO⟩,s⟩;have m:=(qb z).kl.but (T:=fun _=>False) (.aD s) (fun _ _ c=>c) (fun _ _ c=>c);obtain⟨u0,-⟩:=zzc m.cell;have A:=J2 m.row (yr m.ops) (by have:=qb t;omega) a (qb z).jn;rw[<-qb Q] at A;have a9:=qg A;have b0:=qg gO;have b1:=qg s;have B:=qg m;clear A gO s m)
       | (go_at_call 136;refine (qb a9).mono ?_;rintro c f0 ⟨rfl,R,C⟩;have D:=C.heap (qb B).cell (fun c=>qq (qb B).row (qb B).cell (by decide) (by rw[c];rfl));obtain⟨f1,f2,-⟩:=zzc D;have f3:=fun a=>qj D a;have b2:=qg (J1 (qb z) (qb a6) (qb a4) (qb b0) (qb b1) (qb Q) R C);clear R C D))
     go_ret;exact (qb b2).1 (by have:=qb Y;have:=qb t;omega)
   ·have i6:decide ((a:Int)<(b:Int))=false:=(by simp;omega);have Z:=trivial;have P:=u.done (fun c5 a1=>by have:=(zzg a1).1;have:=qb Y;have:=qb t;omega);have a6:=qg P;have h:=qg u;have e5:(a:Int)<=(b:Int):=(by omega);have e6:(a:Int)<=(y:Int):=(by omega);clear P u H;go_wp2;go_quiet (fail)
    have k:qa S U w (N.drewN nq) n j e (.slice (some ⟨F,0,none⟩) b y) l J (e.cr+d) a q:=⟨(qb h).jn,(qb h).cb,(qb h).eq,(qb h).kl.drewN nq,(qb h).bt.drewN nq⟩;clear c0 c1 c2 Z;generalize N.drewN nq=e7 at *;obtain⟨e8,-⟩:=zzc k.kl.cell;obtain⟨o,r⟩:=zx (b-a);have Q:=qg r;have a7:=qg (XY k.kl.row (yr k.kl.ops) (by have:=qb t;omega) a k.jn);have z:=qg k;have a8:o=0:=(by omega);subst a8;clear k r
    go_wp2_with (first
      | (go_at_call 135;refine (qb a7).mono ?_;rintro c L ⟨⟨e9,rfl,gO⟩,s⟩;have m:=(qb z).kl.but (T:=fun _=>False) (.aD s) (fun _ _ c=>c) (fun _ _ c=>c);obtain⟨u0,-⟩:=zzc m.cell;have A:=J2 m.row (yr m.ops) (by have:=qb t;omega) a (qb z).jn;rw[<-qb Q] at A;have a9:=qg A;have b0:=qg gO;have b1:=qg s;have B:=qg m;clear A gO s m)
      | (go_at_call 136;refine (qb a9).mono ?_;rintro c f0 ⟨rfl,R,C⟩;have D:=C.heap (qb B).cell (fun c=>qq (qb B).row (qb B).cell (by decide) (by rw[c];rfl));obtain⟨f1,f2,-⟩:=zzc D;have f3:=fun a=>qj D a;have b2:=qg (J1 (qb z) (qb a6) (qb a4) (qb b0) (qb b1) (qb Q) R C);clear R C D))
    go_ret;exact (qb b2).2 (by have:=qb Y;have:=qb t;omega)
end Go.Proofs.YtbnbkjbfpamijaaGreat
