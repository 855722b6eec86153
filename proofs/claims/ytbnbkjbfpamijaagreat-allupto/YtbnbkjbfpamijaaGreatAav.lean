import Derived.Test.YtbnbkjbfpamijaaGreatAau
set_option linter.all false
set_option maxRecDepth 100000
set_option maxHeartbeats 0
namespace Go.Proofs.YtbnbkjbfpamijaaGreat
open Go.RowKit Go.Proofs.Panes
variable{i n:Nat}{h:List gt}{B' q:Int}{o:gt}{R:List Int}
def iy (d:Dc)(j:Nat)(k:gF)(a:Nat)(b:Int):Dc:={yP d j (k.q.take a) with ks:=d.ks.set j (some {k with q:=k.q.drop a,cr:=b})}
def pn (d:Dc)(j:Nat)(k:gF)(a:Nat)(b:List gt)(c:Nat)(e:Int):Dc:={yR (yP d j (k.q.take a)) j (b.take c) with ks:=d.ks.set j (some {k with q:=k.q.drop (a+1),cr:=e})}
def qi9 (d:Dc)(a:Int)(b:List gt)(c:gt):yR d a (b++[c])=qO (yR d a b) a c:=by simp[yR]
def qg5 (d:Dc)(a:Int)(b:List (List gt))(c:List gt):yP d a (b++[c])=qf (yP d a b) a c:=by simp[yP]
def XE (a:Int):∀ (b:List gt)(d:Dc),xW d (yR d a b)
 | [],d=>.refl d
 | c::b,d=>(JN d a c).trans (XE a b (qO d a c))
def Za (b:Int):∀ (c:List (List gt))(d:Dc),xW d (yP d b c)
 | [],d=>.refl d
 | e::c,d=>by
  have a:=XE b e d;have f:xW d (qf d b e):=⟨a.c,a.ks,a.p,a.fn,a.front,a.tQ,a.tU,a.left,a.fp,a.marks,a.tH,a.t⟩;exact f.trans (Za b c (qf d b e))
def qy2 {d:Dc}{j:Nat}{k:gF}(a:h[i]?=some o):pn d j k n h (i+1) q=qO (pn d j k n h i q) j o:=by
 unfold pn;rw[qu9,am,a];simp only[fN];rw[qi9]
def ze4 {d:Dc}{j:Nat}{k:gF}(a:k.q[n]?=some h):{pn d j k n h h.length q with ch:=true}=iy d j k (n+1) q:=by
 unfold pn iy;rw[aP,am,a];simp only[fN];rw[qg5];rfl
def sB (d:Dc)(j:Nat)(k:gF)(a:Nat)(b:Int)(c:j<d.ks.length):(iy d j k a b).ks[j]?=some (some {k with q:=k.q.drop a,cr:=b}):=ar c
def sC (d:Dc)(j:Nat)(k:gF)(a:Nat)(b c:Int):({iy d j k a b with ks:=(iy d j k a b).ks.set j (some { ({k with q:=k.q.drop a,cr:=b}:gF) with cr:=c})}:Dc)=iy d j k a c:=by
 unfold iy;simp only[eg]
def ze3 (d:Dc)(j:Nat)(k:gF)(a:Nat)(c:List gt)(b:Int):({iy d j k a b with ks:=(iy d j k a b).ks.set j (some { ({k with q:=k.q.drop a,cr:=b}:gF) with q:=(k.q.drop a).drop 1})}:Dc)=pn d j k a c 0 b:=by
 unfold iy pn;simp only[eg,dj,dw];rfl
def qf8 {d:Dc}{j:Nat}{k:gF}(a:d.ks[j]?=some (some k))(b:(qB k d.c.hD).1=k.q.take n)(c:(qB k d.c.hD).2={k with q:=k.q.drop n,cr:=B'}):xR d j=iy d j k n B':=by
 unfold xR iy;rw[a];simp only[b,c]
section
variable {D U:Nat->Prop}{qo:Nat->Nat}{w w1 w2 w':World}{rp cb j:Nat}{d d' d'':Dc}{v:Dv}{tI:List Value}{k:gF}
def gS.same {w w':World}{v:Value}(g:gS U w v R)(h:∀ a,U a->w'.heap[a]?=w.heap[a]?):gS U w' v R:=by
 obtain⟨i,l,b,m,n,o⟩:=g;refine⟨i,l,b,m,n,fun p=>?_⟩;obtain⟨e,q,b,f,r,s⟩:=o p;have c:=h e f;refine⟨e,q,b,f,?_,fun j a t=>by rw[aH c];exact s j a t⟩;rw[dC r] at c;exact qh c
def gW.same {w w':World}{v:Value}{g:List gt}(l:gW U w v g)(h:∀ x,U x->w'.heap[x]?=w.heap[x]?):gW U w' v g:=by
 obtain⟨m,n,c,o,p,q⟩:=l;refine⟨m,n,c,o,p,fun r=>?_⟩;obtain⟨b,s,c,i,t,u⟩:=q r;have e:=h b i;refine⟨b,s,c,i,?_,fun j y z=>?_⟩
 ·rw[dC t] at e;exact qh e
 ·have a:∀ f,w'.cell? ⟨b,f,none⟩=w.cell? ⟨b,f,none⟩:=fun f=>aH e;obtain⟨A,B,C,E,F,G,⟨H,I,J⟩,K⟩:=u j y z;exact⟨(a _).trans A,(a _).trans B,(a _).trans C,(a _).trans E,(a _).trans F,(a _).trans G,⟨H,(a _).trans I,J.same h⟩,(a _).trans K⟩
def qX.goods (g:qX D U qo w rp cb d w1)(h:qX D U qo w rp cb d' w2)(e:∀ a,U a->a<w.heap.size)(f:∀ a,D a->¬U a):∀ a,U a->w2.heap[a]?=w1.heap[a]?:=fun a b=>by
 obtain⟨-,-,-,-,-,-,i⟩:=g;obtain⟨-,-,-,-,-,-,l⟩:=h;rw[l.block a (e a b) (fun c=>f a c b),i.block a (e a b) (fun c=>f a c b)]
def qX.c27 (b:qX D U qo w rp cb d w1):(∃ c,w1.cell? ⟨rp,27,none⟩=some c)/\w1.frozen? ⟨rp,27,none⟩=false/\rp<w1.heap.size:=by
 obtain⟨e,f,g,a,h,i,l⟩:=b;exact⟨⟨_,qe a.sc.nS 27⟩,qj a.sc.nS 27,qh a.sc.nS⟩
def qb7 (c7:qU D U qo w rp d v tI)(c8:∀ e,U e->e<w.heap.size)(a1:d.ks[j]?=some (some k))(j9:d.ks.length<=1000)(k0:0<=k.cr/\k.cr<=1000000)(k1:0<=d.c.hD/\d.c.hD<=1000000)(k2:k.q.length<=1000)(c9:∀ b∈k.q,(∀ f∈b,Qk f)/\b.length<=1000/\0<=qA b/\qA b<=1000000)(f1:∀ (a:Nat)(b:List gt),k.q[a]?=some b->(∀ (c:Nat)(e:List gt),c<=a->k.q[c]?=some e->qA e<=lm (k.cr+d.c.hD) k.q c)->∀ (c:Nat)(f:gt),b[c]?=some f->pf (yR (yP d j (k.q.take a)) j (b.take c)) j f):Calls Tryz.prog 89 #[.pointer (some ⟨rp,0,none⟩),.int .i64 (j:Int)] w fun n w'=>n=.returned (.int .i64 (xF d.c.hD (some k)))/\qX D U qo w rp v.cb (xR d j) w':=by
 obtain⟨cb,b2⟩:=zx v.cb;obtain⟨a2,f2⟩:=zx d.ks.length;obtain⟨A,b3⟩:=zx d.c.hD;obtain⟨l,d0⟩:=zx k.q.length;have f3:=(zzg a1).1;have h0:qX D U qo w rp cb d w:=(by rw[b2];exact qX.refl c7);rw[<-b2];have p8:(0:Int)<=(j:Int):=(by omega);have p9:(j:Int)<(a2:Int):=(by omega);have R:Hid (∀ (a:Nat)(g:Int)(wr:World),qX D U qo w rp cb (iy d j k a g) wr->∃ S B,tG wr rp cb j a2 A S (l-a) B g/\l-a<=B/\(∀ H:Int,qX D U qo w rp cb (iy d j k a H) (wr.setCell ⟨cb,j*4+2,none⟩ (.int .i64 H)))/\(a<l->∃ b,k.q[a]?=some b/\b.length<=1000/\(0<=qA b/\qA b<=1000000)/\∃ u I p r,S=some ⟨u,I,none⟩/\wr.cell? ⟨u,I,none⟩=some (.slice p b.length r)/\u<wr.heap.size/\¬u=cb/\
  Calls Tryz.prog 57 #[.slice p b.length r] wr (fun n w'=>n=.returned (.int .i64 (qA b))/\Below wr.heap.size wr w')/\gW U wr (.slice p b.length r) b/\qX D U qo w rp cb (pn d j k a b 0 g) (wr.setCell ⟨cb,j*4+1,none⟩ (.slice (if B=1 then some ⟨u,I,none⟩ else some ⟨u,I+1,none⟩) (l-a-1) (B-1))))):=fun a g wr m=>by
  obtain⟨S,B,h1,h2,h3,h4⟩:=m.get (sB d j k a g f3);have t:(iy d j k a g).ks.length=a2:=(by rw[f2];exact aG);have C:(iy d j k a g).c.hD=A:=(by rw[b3];show (yP d j (k.q.take a)).c.hD=_;rw[(Za _ _ _).c]);have k3:(k.q.drop a).length=l-a:=(by rw[aV,d0]);rw[t,C] at h1;simp only[k3] at h1 h2 h4;refine⟨S,B,h1,h2,fun H=>by have:=h3 H;rw[sC] at this;exact this,fun T=>?_⟩;obtain⟨b,h⟩:∃ b,k.q[a]?=some b:=⟨k.q[a]'(by omega),by simp⟩;have b4:=c9 b (zzn h);obtain⟨u,I,p,r,k4,k5,k6,k7,f4,f5⟩:=h4 b (by rw[bw];exact h);rw[ze3 d j k a b g] at f5;exact⟨b,h,b4.2.1,b4.2.2,u,I,p,r,k4,k5,k6,k7,kz U _ b wr f4 b4.2.1 b4.1,f4,f5⟩
 have b5:Hid (∀ (a:Nat)(b:List gt)(c:Nat)(f:gt)(g:Int)(wr:World)(p:Option Addr)(a3 r:Nat),k.q[a]?=some b->(∀ (c:Nat)(e:List gt),c<=a->k.q[c]?=some e->qA e<=lm (k.cr+d.c.hD) k.q c)->b[c]?=some f->qX D U qo w rp cb (pn d j k a b c g) wr->a3=f.px.length->gS U wr (.slice p a3 r) f.px->Calls Tryz.prog 121 #[.pointer (some ⟨rp,0,none⟩),.int .i64 (j:Int),.agg #[.int .i64 f.kind,.int .i64 f.iV,.int .i64 f.x,.int .i64 f.y,.int .i64 f.w,.int .i64 f.h,.slice p a3 r,.int .i64 f.mark]] wr fun n w'=>(∃ V,n=.returned V)/\qX D U qo w rp cb (pn d j k a b (c+1) g) w'):=fun a b c f g wr p a3 r h o E m k8 k9=>by
  rw[qy2 E];refine m.done c8 j f p a3 r k8 k9 ?_;have:=f1 a b h o c f E;exact⟨this.ask,this.cre,this.key,this.mov,this.att⟩
 have x:Hid (∀ (a:Nat),a<=l->(∀ (c:Nat)(e:List gt),c<a->k.q[c]?=some e->qA e<=lm (k.cr+d.c.hD) k.q c)->(a=l->xF d.c.hD (some k)=(a:Int)/\xR d j=iy d j k a 0)/\(∀ b,k.q[a]?=some b->lm (k.cr+d.c.hD) k.q a<qA b->xF d.c.hD (some k)=(a:Int)/\xR d j=iy d j k a (lm (k.cr+d.c.hD) k.q a))):=fun a T o=>by
  refine⟨fun n=>?_,fun b h a4=>?_⟩
  ·have a5:=Jh k.q (k.cr+d.c.hD) a (by omega) o (.inl (by omega));have t:(qB k d.c.hD).1=k.q.take a:=(by unfold qB;rw[a5]);have C:(qB k d.c.hD).2={k with q:=k.q.drop a,cr:=0}:=(by unfold qB;rw[a5];simp only;rw[an (by omega)]);refine⟨?_,qf8 a1 t C⟩;show (((qB k d.c.hD).1.length:Nat):Int)=_;rw[t,ao];omega
  ·have q0:=(zzg h).1;have a5:=Jh k.q (k.cr+d.c.hD) a (by omega) o (.inr ⟨b,h,a4⟩);have t:(qB k d.c.hD).1=k.q.take a:=(by unfold qB;rw[a5]);have C:(qB k d.c.hD).2={k with q:=k.q.drop a,cr:=lm (k.cr+d.c.hD) k.q a}:=(by unfold qB;rw[a5];simp only;rw[ah (by omega)]);refine⟨?_,qf8 a1 t C⟩;show (((qB k d.c.hD).1.length:Nat):Int)=_;rw[t,ao];omega
 have f6:∀ (a:Nat),a<=l->(∀ (c:Nat)(e:List gt),c<a->k.q[c]?=some e->qA e<=lm (k.cr+d.c.hD) k.q c)->0<=lm (k.cr+d.c.hD) k.q a/\lm (k.cr+d.c.hD) k.q a<=2000000:=by
  intro a;induction a with
  | zero=>intro _ _;rw[Q2];omega
  | succ a l0=>
   intro T o;obtain⟨b,h⟩:∃ b,k.q[a]?=some b:=⟨k.q[a]'(by omega),by simp⟩;have h1:=l0 (by omega) (fun c e J W=>o c e (by omega) W);have h2:=o a b (by omega) h;have h3:=(c9 b (zzn h)).2.2;rw[YK h];omega
 have a6:=qg f6;have f7:Hid (iy d j k 0 k.cr=d):=(by show iy d j k 0 k.cr=d;unfold iy;rw[dw,eH];show ({d with ks:=d.ks.set j (some k)}:Dc)=d;rw[vP a1]);have d1:Hid (qX D U qo w rp cb (iy d j k 0 k.cr) w):=(by show qX D U qo w rp cb (iy d j k 0 k.cr) w;rw[qb f7];exact h0);obtain⟨g,b6⟩:=zx k.cr;obtain⟨S,B,K,b7,X,-⟩:=(qb R) 0 k.cr w (qb d1);rw[Nat.sub_zero,<-b6] at K;rw[<-b3] at k1;rw[<-b6] at k0;have l1:IntKind.i64.wrap (g+A)=g+A:=(by rw[af];omega);have b8:=qg X;obtain⟨i,b9⟩:∃ l2:Nat->Int,l2=lm (k.cr+d.c.hD) k.q:=⟨_,rfl⟩;have f8:i 0=g+A:=(by rw[b9,Q2,b6,b3]);have Y:∀ a b,k.q[a]?=some b->i (a+1)=i a-qA b:=fun a b h=>by rw[b9];exact YK h
 rw[<-b9] at x a6 b5;have f9:=c7.dU;have c0:Hid (∀ (g0 a7:Dc)(d2 d3:World)(V:Value)(b:List gt),qX D U qo w rp cb g0 d2->qX D U qo w rp cb a7 d3->gW U d2 V b->gW U d3 V b):=fun g0 a7 d2 d3 V b o l3 l4=>l4.same (o.goods l3 c8 f9);have c1:=qg Y;have g1:=qg f8;have l5:=qg d0;have l6:Hid (xF d.c.hD (some k)=xF d.c.hD (some k)):=rfl;obtain⟨cnt,g2⟩:=zx (xF d.c.hD (some k));rw[<-g2] at x ⊢;obtain⟨q1,g3⟩:=zx (xR d j);rw[<-g3] at x ⊢;have q2:l<=1000:=(by omega);clear d0 f6 f9 Y f8 g2 g3 X c7 c8 a1 j9 k2 c9 f1 b2 f2 b3 f3 h0 b7 b9 b6 f7 l6;by_cases l7:l=0
 ·subst l7;obtain⟨L,M,F,N,O,P,s,y,g4,g5⟩:=K;have a8:=s (j*4+2);obtain⟨g6,-⟩:=(qb x) 0 (zzl _) (fun c e J=>absurd J (et c));have G:=qg (g6 rfl);have d4:=qg ((qb b8) 0);clear g6 x R b5 a6 d1 b8 c0 c1 g1 l5 s y;go_enter Tryz.func89,Tryz.ntmps89;go_wp2;go_loopw [5] (fun e wr=>e=.int .i64 0/\wr=w) (fun _ _=>0)
  case atStart=>exact⟨rfl,rfl⟩
  case round=>
   obtain⟨rfl,rfl⟩:=hrel;go_wp2;go_ret;refine⟨by rw[(qb G).1];rfl,?_⟩;rw[(qb G).2];exact qb d4
 ·obtain⟨L,M,F,N,O,P,s,y,g4,g5⟩:=K;have a8:=s (j*4+2);have q3:(0:Int)<(l:Int):=(by omega);have l8:0<l:=(by omega);have q4:=eC l8;have d5:Hid (qX D U qo w rp cb (iy d j k 0 (i 0)) (w.setCell ⟨cb,j*4+2,none⟩ (.int .i64 (g+A))).drew):=(by have:=(qb b8) (g+A);rw[<-qb g1] at this ⊢;exact this.below ((aa _ _).drew));clear b8 s y d1;go_enter Tryz.func89,Tryz.ntmps89;go_wp2;go_region;generalize (w.setCell ⟨cb,j*4+2,none⟩ (.int .i64 (g+A))).drew=q5 at d5 ⊢;clear L M F N O P a8 l1;go_wp2;go_loopw [5] (fun e wr=>∃ a:Nat,a<=l/\e=.int .i64 a/\(∀ (c:Nat)(a9:List gt),c<a->k.q[c]?=some a9->qA a9<=i c)/\qX D U qo w rp cb (iy d j k a (i a)) wr) (fun e _=>l-(intOf e).toNat)
  case atStart=>exact⟨0,aj _,rfl,fun c a9 J=>absurd J (et c),qb d5⟩
  case round=>
   clear d5;obtain⟨a,T,rfl,o,m⟩:=hrel;obtain⟨S,B,K,b7,X,d6⟩:=(qb R) a (i a) wr m;by_cases a4:a<l
   ·obtain⟨b,h,l9,n0,u,I,p,r,rfl,g7,n1,n2,c2,d7,-⟩:=d6 a4;have b2:=(qb a6) a T o;have Y:=(qb c1) a b h;have d8:=qg ((qb x) a T o).2;obtain⟨b0,c3⟩:=zx (l-a);rw[<-c3] at K;have q6:(0:Int)<(b0:Int):=(by rw[c3];exact Int.ofNat_lt.2 (Nat.sub_pos_of_lt a4));obtain⟨Q,d9⟩:=zx b.length;rw[<-d9] at g7 c2 d7 l9;obtain⟨Z,e0⟩:=zx (qA b);rw[<-e0] at c2 n0 Y;obtain⟨L,M,F,N,O,P,s,y,g4,g5⟩:=K;have c4:Hid (Calls Tryz.prog 57 #[.slice p Q r] wr fun n w2=>n=.returned (.int .i64 Z)/\(w2.cell? ⟨rp,8,none⟩=some (.slice (some ⟨cb,0,none⟩) a2 a2)/\w2.cell? ⟨cb,j*4+2,none⟩=some (.int .i64 (i a))/\rp<w2.heap.size/\cb<w2.heap.size/\(∀ b,w2.frozen? ⟨cb,b,none⟩=false))/\qX D U qo w rp cb (iy d j k a (i a)) w2/\∀ H:Int,qX D U qo w rp cb (iy d j k a H) (w2.setCell ⟨cb,j*4+2,none⟩ (.int .i64 H))):=(by refine c2.mono ?_;rintro n w2 ⟨rfl,g8⟩;obtain⟨q7,q8,hA2,-,c5,-⟩:=(qb R) a (i a) w2 (m.below g8);exact⟨rfl,⟨hA2.c8,hA2.q2,hA2.lr,hA2.lc,hA2.fz⟩,m.below g8,c5⟩);have n3:Hid (∀ (g9:Dc)(e1:World),qX D U qo w rp cb g9 e1->gW U e1 (.slice p Q r) b):=fun g9 e1 W=>(qb c0) _ _ _ _ _ _ m W d7;have b1:=qg h;have n4:=qg c3;have i0:=qg d9;have i1:=qg e0;have n5:=qg o;have n6:=qg Y;clear m c2 d6 X d7 h c3 d9 e0 o b7 s y a6 x c1 c0 Y;by_cases e2:i a<Z
    ·have n7:Z > i a:=e2;obtain⟨t,C⟩:=(qb d8) b (qb b1) (by rw[<-qb i1];exact e2);have G:=qg (ci t C);clear t C d8
     go_wp2_with (go_at_call 57;refine (qb c4).mono ?_;rintro n w2 ⟨rfl,⟨i2,a7,i3,i4,e3⟩,i5,-⟩;have n8:=qg i5;clear i5 c4)
     go_ret;refine⟨by rw[(qb G).1];rfl,?_⟩;rw[(qb G).2];exact qb n8
    ·have n7:¬Z > i a:=e2;obtain⟨z,i6⟩:=zx (i a-Z);have t:IntKind.i64.wrap (i a-Z)=z:=(by rw[af];omega);have n9:=qg i6;clear i6 d8
     go_wp2_with (go_at_call 57;refine (qb c4).mono ?_;rintro n w2 ⟨rfl,⟨i2,a7,i3,i4,e3⟩,-,c5⟩;have a8:=e3 (j*4+2);have e4:Hid (qX D U qo w rp cb (iy d j k a z) (w2.setCell ⟨cb,j*4+2,none⟩ (.int .i64 z)).drew):=(c5 z).below ((aa _ _).drew);clear c5 c4 e3)
     go_region;generalize (w2.setCell ⟨cb,j*4+2,none⟩ (.int .i64 z)).drew=e5 at e4 ⊢;clear L M F N O P g7 n1 n2 i2 a7 i3 i4 a8 t;obtain⟨q9,c6,hA3,o0,-,i7⟩:=(qb R) a z e5 (qb e4);obtain⟨a0,i8,-,-,i9,j0,r0,r1,rfl,-,o1,o2,-,-,e6⟩:=i7 a4;have o3:a0=b:=(by have:=i8.symm.trans (qb b1);exact aA this);subst o3;rw[<-qb n4] at hA3 o0 e6;obtain⟨L,M,F,N,O,P,s,y,-,-⟩:=hA3;have o4:=s (j*4+1);have r2:(1:Int)<=(b0:Int):=(by omega);have r3:(b0:Int)<=(c6:Int):=(by omega);have e7:=qg e6;clear i7 e6 s y i8 e4;go_wp2;go_region;generalize (if c6=1 then some (⟨i9,j0,none⟩:Addr) else some ⟨i9,j0+1,none⟩)=j1 at e7 ⊢;have e8:Hid (qX D U qo w rp cb (pn d j k a a0 0 z) (e5.setCell ⟨cb,j*4+1,none⟩ (.slice j1 (b0-1) (c6-1))).drew):=(qb e7).below ((aa _ _).drew);generalize (e5.setCell ⟨cb,j*4+1,none⟩ (.slice j1 (b0-1) (c6-1))).drew=r4 at e8 ⊢;clear L M F N O P o4 o1 o2 e7;have j2:Hid (∀ (c:Nat)(e:List gt),c<=a->k.q[c]?=some e->qA e<=i c):=fun c e J W=>by
      by_cases n:c=a
      ·subst n;have:=aA (W.symm.trans (qb b1));subst this;have:=qb i1;omega
      ·exact (qb n5) c e (by omega) W
     go_wp2;go_loopw [8] (fun e wr=>∃ c:Nat,c<=Q/\e=.int .i64 c/\qX D U qo w rp cb (pn d j k a a0 c z) wr) (fun e _=>Q-(intOf e).toNat)
     case atStart=>exact⟨0,aj _,rfl,qb e8⟩
     case round=>
      clear e8;obtain⟨c,J,rfl,m⟩:=hrel;by_cases r5:c<Q
      ·obtain⟨f,E⟩:∃ f,a0[c]?=some f:=⟨a0[c]'(by have:=qb i0;omega),by simp⟩;obtain⟨r6,r7,j3,-,-,j4⟩:=(qb n3) _ wr m;obtain⟨r8,r9,o5,s0,s1,j5⟩:=j4 (fun n=>by rw[n] at E;simp at E);simp only[ai] at j3;obtain⟨rfl,-,rfl⟩:=j3;subst o5;obtain⟨s2,s3,s4,s5,s6,s7,⟨s8,o6,e9⟩,s9⟩:=j5 c f E;obtain⟨o7,o8,rfl,o9,p0,p1⟩:=id e9;have f0:=(qb b5) a a0 c f z wr o7 _ o8 (qb b1) (qb j2) E m rfl e9;obtain⟨pK,j6⟩:=zx f.px.length;rw[<-j6] at o6 f0;have j7:=qg f0;have t0:(0:Int)<=(c:Int):=(by omega);have p2:(c:Int)<(Q:Int):=(by omega);clear f0 m j4 j5 e9 o9 p0 p1 j6 E
       go_wp2_with (go_at_call 121;refine (qb j7).mono ?_;rintro n t1 ⟨⟨V,rfl⟩,j8⟩;have p3:=qg j8;clear j8 j7)
       go_roundw
       case rel=>exact⟨c+1,by omega,by go_num,qb p3⟩
       case measure=>simp[intOf];omega
      ·have p4:c=Q:=(by omega);subst p4;have p2:¬(c:Int)<(c:Int):=(by omega);obtain⟨⟨u27,t2⟩,t3,t4⟩:=m.c27;have p5:Hid (qX D U qo w rp cb (iy d j k (a+1) (i (a+1))) (wr.setCell ⟨rp,27,none⟩ (.bool true))):=(by have h1:=m.wL;rw[qb i0,ze4 (qb b1)] at h1;show qX D U qo w rp cb (iy d j k (a+1) (i (a+1))) (wr.setCell ⟨rp,27,none⟩ (.bool true));rw[qb n6,<-qb n9];exact h1);clear m;go_wp2;go_roundw
       case rel=>exact⟨a+1,by omega,by go_num,fun c a9 J p6=>(qb j2) c a9 (by omega) p6,qb p5⟩
       case measure=>simp[intOf];omega
   ·have p7:a=l:=(by omega);subst p7;obtain⟨L,M,F,N,O,P,s,y,-,-⟩:=K;rw[cL] at F;have a8:=s (j*4+2);have G:=qg (((qb x) a T o).1 rfl);have d4:=qg (X 0);clear m d6 X b7 x R b5 a6 c0 c1 o s y;go_wp2;go_ret;refine⟨by rw[(qb G).1];rfl,?_⟩;rw[(qb G).2];exact qb d4
end
end Go.Proofs.YtbnbkjbfpamijaaGreat
