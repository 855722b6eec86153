import Derived.Test.YtbnbkjbfpamijaaGreatAal
import Derived.Test.YtbnbkjbfpamijaaGreatAap
import Derived.RangeFuncNested
import Derived.RangeFuncBound
import Derived.RangeFuncCalls
import Derived.RangeFuncLeaves
import Derived.Shelf.Abstract
import Derived.Shelf.RegionOpen
import Derived.OwnWalkIn
import Derived.TacticsInMore
import Derived.LoopNIn
import Derived.LoopIn
import Derived.Sort.QuietIn
import Derived.Defers
set_option linter.all false
set_option maxRecDepth 100000
set_option maxHeartbeats 0
namespace Go.Proofs.YtbnbkjbfpamijaaGreat
open Go.RowKit Go.Proofs.Panes
variable{i n:Nat}{w w2:World}{ro:Option Addr}{m':List (Int×Int)}
section
open Go.RowKit Go.Shelf Go.Proofs.Panes
attribute [local go_sem] Oper.semAt_some
def mG (a:List (Int×Int))(c:Nat):List (Nat×Int×Int):=(List.range c).map fun b=>(a.length-1-b,a[a.length-1-b]?.getD (0,0))
def YQ (a:List (Int×Int))(b:Nat):mG a (b+1)=mG a b++[(a.length-1-b,a[a.length-1-b]?.getD (0,0))]:=by simp[mG,fA]
def ze2 (b:List (Int×Int))(a:Nat):(mG b a).length=a:=by simp[mG]
abbrev KQ (a:Int×Int->Prop):={x:Nat×Int×Int // a x.2}
def rq {Q:Int×Int->Prop}(a:KQ Q):Array Value:=#[.int .i64 (a.1.1:Int),.agg #[.int .i64 a.1.2.1,.int .i64 a.1.2.2]]
def sw (l:Fence)(u:Nat)(h7:l.fn 139)(P:l.round=none)(a7:1<=u)(B m n g Q:Nat)(c:List (Int×Int))(R:c.length<=100000)(C:g<n){h:Int×Int->Prop}(D:∀ a∈c,h a)(j E:List (KQ h)->World->Prop)(S:∀ d x f,j d f->d.length<c.length->YieldAt l (u-1) Tryz.prog B (rq x) f fun k i=>(k=.returned (.bool true)/\j (d++[x]) i/\Below n f i)\/(k=.returned (.bool false)/\E (d++[x]) i))(f:World) (T:m<n) (F:f.cell? ⟨m,0,none⟩=some (.slice (some ⟨g,0,none⟩) c.length Q)) (G:∀ b a,c[b]?=some a->f.cell? ⟨g,b*2,none⟩=some (.int .i64 a.1)/\f.cell? ⟨g,b*2+1,none⟩=some (.int .i64 a.2)) (h0:j [] f):CallsIn l u Tryz.prog 139 #[.func (.yield B) #[] #[],.pointer (some ⟨m,0,none⟩)] f fun k i=>(∃ U,k=.returned U)/\ ((∃ H:List (KQ h),H.map (·.1)=mG c c.length/\j H i)\/(∃ d:List (KQ h),(∃ a,a<=c.length/\d.map (·.1)=mG c a)/\E d i)):=by
 obtain⟨e,v⟩:=zx c.length;rw[<-v] at F ⊢;have o:=qg v;have V:=qg G;have a8:IntKind.i64.wrap ((e:Int)-1)=(e:Int)-1:=(by rw[af];omega);have a9:e<=100000:=(by omega);clear v G R;refine callsIn_of_wp Tryz.func139 rfl h7 ?_ P;simp only[Tryz.ntmps139,dW,aX,cM,Nat.reduceAdd,Nat.reduceSub,ec,eb,eE,eo,cd,eh]
 gi_wp2
 gi_loopw [3] (fun w wr=>∃ (a:Nat)(d:List (KQ h)),a<=e/\w=.int .i64 ((e:Int)-1-a)/\d.map (·.1)=mG c a/\j d wr/\Below n f wr) (fun w _=>(intOf w+1).toNat)
 case atStart=>exact⟨0,[],aj _,by simp,rfl,h0,aa _ _⟩
 case round=>
  obtain⟨a,d,b0,rfl,q,I,r⟩:=hrel;have b1:=(r.cell (p:=⟨m,0,none⟩) T).trans F;by_cases W:a<e
  ·obtain⟨b,J⟩:∃ b:Nat,b=e-1-a:=⟨_,rfl⟩;have X:b<e:=(by omega);obtain⟨⟨y,z⟩,s⟩:∃ Y,c[b]?=some Y:=⟨c[b]'(by rw[<-qb o];exact X),by simp⟩;have t:mG c (a+1)=mG c a++[(b,y,z)]:=(by rw[YQ,<-qb o,<-J,s];rfl);have K:d.length<c.length:=(by have:=congrArg List.length q;rw[ak,ze2] at this;rw[this,<-qb o];exact W);obtain⟨b2,b3,b4,b5,L,Z⟩:=S d ⟨(b,y,z),D _ (zzn s)⟩ wr I K;unfold rq at L;dsimp only at L;have A:(e:Int)-1-(a:Int)=(b:Int):=(by omega);rw[A];obtain⟨M,N⟩:=(qb V) b _ s;have M:=(r.cell (p:=⟨g,b*2,none⟩) C).trans M;have N:=(r.cell (p:=⟨g,b*2+1,none⟩) C).trans N;have b6:(0:Int)<=(b:Int):=(by omega);have b7:(b:Int)<(e:Int):=(by omega);have a0:IntKind.i64.wrap ((b:Int)-1)=(e:Int)-1-((a+1:Nat):Int):=(by rw[af];omega);have t:(d++[(⟨(b,y,z),D _ (zzn s)⟩:KQ h)]).map (·.1)=mG c (a+1):=(by rw[t,aE,q];rfl);have O:=qg t;have a1:=qg A;clear t J A q K
   gi_wp2
   refine Z.mono ?_;rintro k b8 (⟨rfl,a2,a3⟩ | ⟨rfl,a4⟩)
   ·gi_wp2
    go_roundw
    case rel=>exact⟨a+1,_,by omega,by first | rfl | simp[a0] | skip,qb O,a2,r.trans a3⟩
    case measure=>
     have b9:=qb a1;simp[intOf];omega
   ·gi_wp2
    refine bV (ed rfl _ _ _) rfl ?_;exact⟨⟨_,rfl⟩,.inr ⟨_,⟨a+1,by omega,qb O⟩,a4⟩⟩
  ·obtain rfl:a=e:=(by omega);have a5:(a:Int)-1-(a:Int)=-1:=(by omega);rw[a5];have a6:=qb o
   gi_wp2
   go_end0;exact⟨⟨_,rfl⟩,.inl ⟨_,by rw[q,a6],I⟩⟩
def qx6 (a:Fence)(e:Nat)(h7:a.fn 139)(f:a.round=none){g:Int×Int->Prop}(h d:Nat)(b:List (KQ g)->World->Prop)(c:World)(i:Option Addr)(j:Nat)(p:c.cell? ⟨d,0,none⟩=some (.slice i 0 j))(h0:b [] c):CallsIn a e Tryz.prog 139 #[.func (.yield h) #[] #[],.pointer (some ⟨d,0,none⟩)] c fun k l=>(∃ m,k=.returned m)/\b [] l:=by
 refine callsIn_of_wp Tryz.func139 rfl h7 ?_ f;simp only[Tryz.ntmps139,dW,aX,cM,Nat.reduceAdd,Nat.reduceSub,ec,eb,eE,eo,cd,eh]
 gi_wp2
 gi_loopw [3] (fun n wr=>n=.int .i64 (-1)/\b [] wr) (fun _ _=>0)
 case atStart=>exact⟨rfl,h0⟩
 case round=>
  obtain⟨rfl,o⟩:=hrel
  gi_wp2
  go_end0;exact⟨⟨_,rfl⟩,o⟩
def sW (a:Fence)(f:Nat)(h5:a.fn 118)(g:a.round=none)(c:Option Addr)(d e:Nat)(b:World):CallsIn a f Tryz.prog 118 #[.slice c d e] b fun h i=>h=.returned (.func (.func 139) #[] #[.pointer (some ⟨b.heap.size,0,none⟩)])/\i=b.alloc (.cells #[.slice c d e] 170):=by
 refine callsIn_of_wp Tryz.func118 rfl h5 ?_ g;simp only[Tryz.ntmps118,dW,aX,cM,Nat.reduceAdd,Nat.reduceSub,ec,eb,eE,eo,cd,eh]
 gi_wp2
 go_ret;exact⟨rfl,rfl⟩
def pW (f:Nat)(e:World)(g:Option Addr)(h:Nat)(b:List (Int×Int)):Prop:=h=b.length/\(b≠[]->∃ a,g=some ⟨a,0,none⟩/\a<f/\∀ c d,b[c]?=some d->e.cell? ⟨a,c*2,none⟩=some (.int .i64 d.1)/\e.cell? ⟨a,c*2+1,none⟩=some (.int .i64 d.2))
def pW.below (d:pW n w ro i m')(e:Below n w w2):pW n w2 ro i m':=
 ⟨d.1,fun j=>by
  obtain⟨b,k,c,f⟩:=d.2 j;exact⟨b,k,c,fun a g h=>⟨(e.cell (p:=⟨b,a*2,none⟩) c).trans (f a g h).1,(e.cell (p:=⟨b,a*2+1,none⟩) c).trans (f a g h).2⟩⟩⟩
def qx5 (d:Fence)(f:Nat)(k:d.fn 139)(l:d.round=none)(x:1<=f)(b e:Nat)(h:Option Addr)(m i:Nat)(a:List (Int×Int)){n:Int×Int->Prop}(y:∀ c∈a,n c)(z:a.length<=100000)(g:World)(o:b<e)(q:e<=g.heap.size)(A:g.cell? ⟨b,0,none⟩=some (.slice h m i)) (B:pW e g h m a):SeqStopsK d f Tryz.prog 139 #[.pointer (some ⟨b,0,none⟩)] (rq (Q:=n)) (Below e) (fun C=>C.map (·.1)=mG a a.length) (fun D=>∃ c,c<=a.length/\D.map (·.1)=mG a c) a.length g:=fun r s E t u _ _ F v=>by
 have w:=(u.cell (p:=⟨b,0,none⟩) (zzm o q)).trans A;have G:=B.below (u.mono q);obtain⟨j,H⟩:=G;subst j;cases a with
 | nil=>exact (qx6 d f k l r b s t h i w v).mono fun M N ⟨j,I⟩=>⟨j,.inl ⟨_,rfl,I⟩⟩
 | cons c a=>
  obtain⟨J,rfl,K,L⟩:=H (by simp);exact sw d f k l x r b e J i (c::a) z K y s E F t o w L v
end
variable{p:Oper}{s:Act}{b3:Act→World→Prop}{D:Exit→Act→World→Prop}{J:List Oper}
section
open Go.RowKit Go.Shelf Go.Proofs.Panes
def kT (a:Oper):Bool:=match a.op with
 | .defer _=>false
 | _=>true
def Kz (b:kT p=true):∀ a,p.op≠.defer a:=by
 intro a c;simp[kT,c] at b
section
variable {F:Fence}{n:Nat}{P:Program}{ops:Array Oper}{C:World->Prop}
def Xh {g:Act->Prop}(j:kT p=true)(b:C w)(d:∀ s c,C c->g s->b3 s c)(k:p.askedIn F P s C) (l:p.quietIn F n P s C g):p.wpIn F n P s w b3 D:=by
 obtain⟨q,m,e⟩:=l;have a:=m w b;refine⟨k w b,?_⟩;rw[Oper.semAt_eq _ _ _ (Kz j)];unfold Oper.quietAtIn at a;cases h:(execOp s.eval p).run P w with
 | halt i c=>rw[h] at a;exact absurd a (by simp[Oper.quietUponIn])
 | ok i c=>
  rw[h] at a;cases i with
  | value r=>exact a.1 ▸ a.2 ▸ d _ _ b e
  | skip=>simp only[Oper.quietUponIn] at a;simp only[Oper.uponIn];rw[a.1,<-a.2];exact d _ _ b e
  | enter t u=>
   simp only[Oper.quietUponIn] at a;simp only[Oper.uponIn];rw[a.1];refine⟨a.2.1,a.2.2.mono fun v x f=>?_⟩;obtain⟨f,o⟩:=f;subst f;exact d _ _ o e
  | _=>simp[Oper.quietUponIn] at a
def Xi {f:Act->Prop}(j:∀ b∈ops,kT b=true)(c:C w)(d:∀ s w',C w'->f s->b3 s w')(a:qOpIn F n P ops C i f s):wpOpIn F n P ops D i b3 s w:=by
 unfold qOpIn at a;unfold wpOpIn;cases e:ops[i]? with
 | none=>simp only[e] at a ⊢;exact d _ _ c a
 | some b=>
  simp only[e] at a ⊢;obtain⟨g,a⟩:=a;cases h:Region.wanted b (yielded ops s.tmps) with
  | true=>simp only[h,dH] at a ⊢;exact Xh (j b (Array.mem_of_getElem? e)) c d g a
  | false=>simp only[h] at a ⊢;exact⟨g w c,d _ _ c a⟩
def y8 {g:Region.Mode}{Q:Act->Prop}{h:Exit->Act->World->Prop}(i:∀ o∈ops,kT o=true)(f:∀ a b,C b->Q a->h .normal a b):∀ (d:Nat)(j:Array Bool)(a:Act)(b:World),C b-> wpAnyQIn F n P g ops C Q d j a->wpAnyIn F n P g ops h d j a b
 | 0,_,_,_,e,c=>⟨c.1,f _ _ e c.2⟩
 | d+1,_,_,_,e,c=>⟨fun k=>f _ _ e (c.1 k),fun l m=>Xi i e (fun p q r=>y8 i f d _ p q r) (c.2 l m)⟩
end
def Qn {F:Fence}{n:Nat}{P:Program}{id:Nat}(e:J.all kT=true)(f:P.follows .mixedOrders=true)(b:Region.lexB .any J.toArray=true)(c:wpQuietIn F n P J.toArray (fun a=>∃ n,a=w.drewN n) (fun d=>∀ a,(∃ n,a=w.drewN n)->D .normal d a) J s):(Code.region id J.toArray true).wpIn F n P D s w:=by
 simp only[Region.lexB,aK] at b;refine wpIn_region_any f (y8 (C:=fun a=>∃ n,a=w.drewN n) (Q:=fun d=>∀ a,(∃ n,a=w.drewN n)->D .normal d a) (fun g h=>(List.all_eq_true.1 e) g (by simpa using h)) (fun _ a i c=>c a i) _ _ _ _ ⟨1,rfl⟩ ?_);have:=wpAnyQIn_lex (F:=F) (n:=n) (C:=fun a=>∃ n,a=w.drewN n) (md:=.any) b.1 J.toArray.toList 0 (Array.replicate J.toArray.size false) s (by simp) (by simpa using b.2) (by simpa using c);simpa using this
def Kq {F:Fence}{n:Nat}{P:Program}{ops:Array Oper}{C:World->Prop}{f:Act->Prop}(hF:∀ a,F.fn a)(i:F.depth=none)(j:p.guard=none)(a:Nat)(g:Array Operand)(k:Array TypeId)(l:p.op=.call {callee:=.value (.func a),args:=g,argTypes:=k})(c:Array Value) (m:g.map s.eval=c) (o:∀ c b,(callFunc a c).run P b=.ok (.enter a c) b) (d:Value) (q:∀ b,C b->CallsIn F (n-1) P a c b (fun e w''=>e=.returned d/\C w''))(r:wpQuietIn F n P ops C f J (s.put p.dst d)):wpQuietIn F n P ops C f (p::J) s:=by
 refine⟨fun _ _ a _=>hF a,?_⟩;have t:Region.wanted p (yielded ops s.tmps)=true:=(by simp[Region.wanted,j]);rw[an t];refine⟨d,fun b u=>?_,r⟩;have v:(execOp s.eval p).run P b=.ok (.enter a c) b:=(by have w:s.eval (.func a)=.func (.func a) #[] #[]:=rfl;simp[execOp,l,resolve,invoke,m,go_sem,o]);unfold Oper.quietAtIn;rw[v];exact⟨rfl,fun h=>by rw[i] at h;simp at h,q b u⟩
def Va {F:Fence}{n:Nat}{P:Program}{ops:Array Oper}{C:World->Prop}{c:Act->Prop}(f:∀ b,F.fn b)(g:p.guard=none)(d:Operand)(h:p.op=.assign d)(a:Value)(i:s.eval d=a)(j:wpQuietIn F n P ops C c J (s.put p.dst a)):wpQuietIn F n P ops C c (p::J) s:=by
 refine⟨fun _ _ b _=>f b,?_⟩;have k:Region.wanted p (yielded ops s.tmps)=true:=(by simp[Region.wanted,g]);rw[an k];refine⟨a,fun e m=>?_,j⟩;have l:(execOp s.eval p).run P e=.ok (.value a) e:=(by simp[execOp,h,i]);unfold Oper.quietAtIn;rw[l];exact⟨rfl,rfl⟩
end
variable{l':List gv}{B' a7 q:Int}{u:gv}{m:World}{S U:Nat→Prop}
section
open Go.RowKit Go.Shelf Go.Proofs.Panes
attribute [local go_sem] Oper.semAt_some
def jP (d:List gv)(e a b:Int):Int:=d.foldl (fun f c=>if zC c a b=0 then f else zC c a b) e
def XB {b:Int}(c:∀ a∈l',zC a q B'=0):jP l' b q B'=b:=by
 induction l' with
 | nil=>rfl
 | cons a l' d=>
  show jP l' (if zC a q B'=0 then b else zC a q B') q B'=b;rw[an (c a (by simp))];exact d (fun e f=>c e (by simp[f]))
def qi1 (a:l'[n]?=some u)(b:∀ t∈l'.drop (n+1),zC t B' a7=0)(c:¬zC u B' a7=0):jP l' q B' a7=zC u B' a7:=by
 have f:=(zzg a).1;have d:=(zzg a).2;have e:l'=l'.take n++u::l'.drop (n+1):=(by rw[<-d,bo,ap]);unfold jP
 conv=>lhs;rw[e]
 rw[ff,List.foldl_cons];rw[ah c];exact XB (b:=zC u B' a7) b
structure rM (w W:World)(sb:Nat)(x y:Int):Prop where
 b0:W.heap[w.heap.size]?=some (.cells #[.pointer (some ⟨sb,0,none⟩)] 105)
 b1:W.heap[w.heap.size+1]?=some (.cells #[.int .i64 x] 3)
 b2:W.heap[w.heap.size+2]?=some (.cells #[.int .i64 y] 3)
 b3:W.heap[w.heap.size+3]?=some (.cells #[.int .i64 0] 3)
 below:Below w.heap.size w W
 sz:w.heap.size+5<=W.heap.size
def rM.keep (a:rM w w2 n q B')(b:Below w2.heap.size w2 m):rM w m n q B':=
 ⟨(b.block _ (qh a.b0)).trans a.b0,(b.block _ (qh a.b1)).trans a.b1,(b.block _ (qh a.b2)).trans a.b2,(b.block _ (qh a.b3)).trans a.b3,a.below.trans (b.mono a.below.size),aO a.sz b.size⟩
def rM.own {e:Type}(l:e->Prop)(f:World)(m:Nat)(n o:Int)(g:Nat)(p:f.heap.size<=g):OwnFrom g (fun (h:e) i=>l h/\rM f i m n o):=fun h i t u q b j=>by
 obtain⟨r,a⟩:=q;have c:=fun s d=>(j s d).2;exact⟨r,(grownBy_keeps_cells b c a.b0 rfl).trans a.b0,(grownBy_keeps_cells b c a.b1 rfl).trans a.b1,(grownBy_keeps_cells b c a.b2 rfl).trans a.b2,(grownBy_keeps_cells b c a.b3 rfl).trans a.b3,a.below.grown b a.below.size (fun k d=>aO p (j k d).1),aO a.sz b.size⟩
abbrev KL (a:List gv):=KQ (fun b=>b∈a.map qw)
def AtZ (a:List gv)(c d:Int)(e:List (KL a)):Prop:=∀ f∈e,∀ b∈a,qw b=f.1.2->zC b c d=0
def AtX (b:List gv)(c d:Int)(g:World)(h:Code)(i:List (KL b))(j:World):Prop:=h=.ret/\∃ e f a,i=e++[f]/\AtZ b c d e/\a∈b/\qw a=f.1.2/\¬zC a c d=0/\j.cell? ⟨g.heap.size+3,0,none⟩=some (.int .i64 (zC a c d))
def js (a:Below w.heap.size w w2):KeepsFrom n w w2:=⟨a.size,fun c d _ b _=>(a.block c (bM.1 b).1).trans b⟩
def sD (r:xu S U w i q l')(f0:∀ a∈l',xq a)(i3:l'.length<=1000)(f g:Int)(f1:0<=f/\f<=1000)(f2:0<=g/\g<=1000):Calls Tryz.prog 86 #[.pointer (some ⟨i,0,none⟩),.int .i64 f,.int .i64 g] w fun e D=>e=.returned (.int .i64 (jP l' q f g))/\Below w.heap.size w D:=by
 obtain⟨f3,i4,i5,i6,f4,i7,r⟩:=r;obtain⟨-,f5,-⟩:=zzc r.tP.nS;have c6:=qh r.tP.nS;obtain⟨v,A,a3⟩:=qr r.row;rw[ak] at a3;obtain⟨l,E⟩:=zx l'.length;rw[<-E] at a3;subst a3;have c7:pW w.heap.size w v l (l'.map qw):=⟨by simp[E],fun a4=>by
  have a5:=r.row;obtain⟨F,i8,t⟩:=jH a5 (by simp;exact Nat.pos_of_ne_zero (fun e=>a4 (by rw[bX e];rfl)));simp only[ai] at t;obtain⟨rfl,-,-⟩:=t;refine⟨F,rfl,(ab a5 F rfl).2,fun c o k=>?_⟩;rw[aF] at k;cases j:l'[c]? with
  | none=>rw[j] at k;simp at k
  | some a=>
   rw[j] at k;simp at k;have:=kR a5 (p:=k2 (qw a)) (j:=c) (by rw[aF,j];rfl);rw[k] at this;exact this⟩
 refine (callsIn_wide (n:=3)).1 ?_;refine callsIn_of_wp_marks Tryz.func86 rfl trivial ?_ rfl;simp only[Tryz.ntmps86,dW,aX,cM,Nat.reduceAdd,Nat.reduceSub,ec,eb,eE,eo,cd,eh];have G:=qg r;have f6:=qg c7;have c8:=qg E;have i9:l<=1000:=(by omega);clear r c7 E;obtain⟨x,u⟩:∃ x:World,x=(((w.alloc (.cells #[.pointer (some ⟨i,0,none⟩)] 105)).alloc (.cells #[.int .i64 f] 3)).alloc (.cells #[.int .i64 g] 3)).alloc (.cells #[.int .i64 0] 3):=⟨_,rfl⟩;have c9:Below w.heap.size w x:=(by rw[u];exact ((((aa _ w).alloc (zzl _) _).alloc (by simp) _).alloc (by simp;omega) _).alloc (by simp;omega) _);have y:=(c9.cell c6).trans f5;rw[u] at y
 gi_wp2_with (refine⟨trivial,?_⟩;gi_at_call 118;refine (sW Fence.wide _ trivial rfl _ _ _ _).mono ?_;rintro e D ⟨rfl,rfl⟩)
 have a6:rM w (x.alloc (.cells #[.slice v l A] 170)) i f g:=(by rw[u];refine⟨qx (qx (qx (qx (qt w _ _ rfl) _) _) _) _,qx (qx (qx (qt _ _ _ (by simp)) _) _) _,qx (qx (qt _ _ _ (by simp)) _) _,qx (qt _ _ _ (by simp)) _,?_,by simp⟩;exact (u ▸ c9).alloc (by simp;omega) _);have f7:(x.alloc (.cells #[.slice v l A] 170)).heap.size=w.heap.size+5:=(by rw[u];simp);have d0:(x.alloc (.cells #[.slice v l A] 170)).cell? ⟨w.heap.size+4,0,none⟩=some (.slice v l A):=qe (qt x _ _ (by rw[u];simp)) 0;rw[<-u];obtain⟨a7,d1⟩:∃ a7,x.alloc (.cells #[.slice v l A] 170)=a7:=⟨_,rfl⟩;rw[d1] at a6 f7 d0 ⊢;have d2:=qg a6;have j0:=qg u;clear d1 y a6 u;refine wpIn_rangeFunc_ownH rfl (by decide) (gf:=139) (lb:=#[.pointer (some ⟨w.heap.size+4,0,none⟩)]) rfl trivial (enters_of Tryz.func139 (by kernel_rfl) rfl)
  (qx5 Fence.wide 2 trivial rfl (by decide) (w.heap.size+4) (w.heap.size+5) v l A (l'.map qw) (n:=fun o=>o∈l'.map qw) (fun _ r=>r) (by simp;omega) a7 (by omega) (by omega) d0 ?keys) belowK_t (belowK_b (by omega)) (aa _ _) (fun _=>rfl)
  (fun B b=>AtZ l' f g B/\rM w b i f g)
  (fun a8 B b=>AtX l' f g w a8 B b/\Below w.heap.size w b)
  (rM.own _ w i f g _ (by omega))
  (fun a8=>OwnFrom.and (Own.from (fun a j1 j2 f8 j t X=>by obtain⟨Y,d3,d4,a,Z,H,a9,b0,b1,f9⟩:=j;exact⟨Y,d3,d4,a,Z,H,a9,b0,b1,cell_kept f9 t X⟩) _) (ownFrom_below (zzl _) (by omega)))
  ⟨fun h p=>by simp at p,qb d2⟩
  (fun h b2 b=>∃ I,w.heap.size+4<I/\b.heap[I]?=some (.cells #[.int .i64 h.1.2.1,.int .i64 h.1.2.2] 173)/\b2={tmps:=#[.pointer (some ⟨i,0,none⟩),.int .i64 f,.int .i64 g,.pointer (some ⟨w.heap.size,0,none⟩),.pointer (some ⟨w.heap.size+1,0,none⟩),.pointer (some ⟨w.heap.size+1+1,0,none⟩),.pointer (some ⟨w.heap.size+1+1+1,0,none⟩),undef,.pointer (some ⟨I,0,none⟩),undef,.pointer (some ⟨i,0,none⟩),.pointer (some ⟨i,0,none⟩),.pointer (some ⟨i,1,none⟩),.slice v l A,.func (.func 139) #[] #[.pointer (some ⟨w.heap.size+4,0,none⟩)],.int .i64 (h.1.1:Int),.agg #[.int .i64 h.1.2.1,.int .i64 h.1.2.2],undef,undef,undef,undef,undef,undef,undef,undef,undef,undef,undef,undef,undef,undef,undef,undef],defers:=[]})
  (fun h b2 _ j3 j4 f8 j t X=>by obtain⟨I,h1,h2,h3⟩:=j;exact⟨I,h1,(grownBy_keeps_cells t (fun a0 e=>(X a0 e).2) h2 rfl).trans h2,h3⟩)
  ?assign ?body ?done ?stop
 case keys=>
  have k:=qb f6;refine⟨k.1,fun a4=>?_⟩;obtain⟨F,e,t,Y⟩:=k.2 a4;have m:=(qb d2).below;exact⟨F,e,by omega,fun c o z=>⟨(m.cell (p:=⟨F,c*2,none⟩) t).trans (Y c o z).1,(m.cell (p:=⟨F,c*2+1,none⟩) t).trans (Y c o z).2⟩⟩
 case assign=>
  rintro d5 B h b j5 J C;unfold rq
  gi_wp2
  have m:Below b.heap.size b (b.alloc (.cells #[.int .i64 h.1.2.1,.int .i64 h.1.2.2] 173)):=(aa _ b).alloc (zzl _) _;exact C _ _ (js m) (m.mono J.2.sz) ⟨J.1,J.2.keep m⟩ ⟨b.heap.size,by have:=J.2.sz;omega,qt b _ _ rfl,rfl⟩
 case body=>
  rintro d5 B h b2 b j6 ⟨a0,X⟩ ⟨O,d⟩ ⟨I,j7,b3,rfl⟩ j8;obtain⟨a,j,k⟩:=aC.1 h.2;have d6:h.1.2.1=a.cl:=(by rw[<-k];rfl);have d7:h.1.2.2=a.num:=(by rw[<-k];rfl);rw[d6,d7] at b3;rw[d6,d7];have K:=(qb G).below d.below;obtain⟨b4,b5⟩:=zx (f4 a.cl a.num);have j9:∀ s,(Instr.lookup 174 (.map (some f3)) (.agg #[.int .i64 a.cl,.int .i64 a.num]) false).run Tryz.prog (b.drewN s)=.ok (.pointer (some ⟨b4,0,none⟩)) (b.drewN s):=fun s=>by
   have:=zn (w:=b.drewN s) K.tP.map a.cl a.num;rw[K.tS j,<-b5] at this;exact this
  have d8:Hid (∀ s,Calls Tryz.prog 119 #[.pointer (some ⟨b4,0,none⟩),.int .i64 f,.int .i64 g] (b.drewN s) fun e D=>e=.returned (.int .i64 (zC a f g))/\∃ o,D=b.drewN o):=fun s=>by
   rw[b5];refine (za2 (U:=U) (w:=b.drewN s) (K.iV a j).1 (f0 a j) (K.iV a j).2.2 f g f1 f2).mono ?_;rintro e D ⟨rfl,o,rfl⟩;exact⟨rfl,_,ZO _ _ _⟩
  obtain⟨g0,-⟩:=zzc d.b0;obtain⟨k0,-⟩:=zzc d.b1;obtain⟨k1,-⟩:=zzc d.b2;obtain⟨d9,-⟩:=zzc d.b3;have g1:=qj d.b3 0;obtain⟨k3,k4,-⟩:=zzc b3;obtain⟨k5,-⟩:=zzc K.tP.nS;have a1:=qg d;have e0:=qg O;have k6:Tryz.prog.follows .mixedOrders=true:=(by kernel_rfl);obtain⟨P,b6⟩:=zx (zC a f g);rw[<-b6] at d8;have b7:=qg b6;clear O d K b3 b6 b5
  gi_wp2
  refine Qn (by kernel_rfl) (by kernel_rfl) (by kernel_rfl) ?_;repeat (gi_big_quiet_step (fail))
  refine Kq (fun _=>trivial) rfl rfl 119 _ _ rfl #[.pointer (some ⟨b4,0,none⟩),.int .i64 f,.int .i64 g] (by kernel_rfl) (enters_of Tryz.func119 (by kernel_rfl) rfl) (.int .i64 P) (fun D g2=>?_) ?_
  ·obtain⟨s,rfl⟩:=g2;exact CallsIn.inRound d5 (callsIn_wide.2 ((qb d8) s))
  refine Va (fun _=>trivial) rfl _ rfl (.int .i64 P) (by kernel_rfl) ?_;refine wpQuietIn_nil ?_;intro k7 g3;obtain⟨nq,rfl⟩:=g3;simp only[Exit.then];go_simp;by_cases b8:P=0
  ·subst b8
   gi_wp2
   have d:=qb a1;have m:Below b.heap.size b (b.drewN nq):=ax (aa _ b) nq;refine⟨js m,m.mono d.sz,?_,d.keep m⟩;intro e1 g4 R e2 e3;rcases al.1 g4 with h1 | h1
   ·exact (qb e0) e1 h1 R e2 e3
   ·have e:e1=h:=(by simpa using h1);have H:R=a:=(by have g5:qw R=qw a:=(by rw[e3,e,<-k]);have T:=kx e2 (qb G).nd;have b9:=kx j (qb G).nd;have y:R.cl=a.cl/\R.num=a.num:=(by simpa[qw] using g5);rw[y.1,y.2,b9] at T;exact (aA T).symm);rw[H];exact (qb b7).symm
  ·have k8:(P == 0)=false:=by simp[b8]
   gi_wp2
   have d:=qb a1;have m:Below b.heap.size b (b.drewN nq):=ax (aa _ b) nq;have g6:=qp (i:=0) d.b3 (.int .i64 P);refine⟨?kk1,⟨rfl,B,h,a,rfl,qb e0,j,k,by rw[<-qb b7];exact b8,?cc1⟩,?bb1⟩
   case kk1=>first | exact KeepsFrom.trans (js m) ((KeepsOthers.setCell _ _ _).from _) | exact KeepsFrom.trans ((KeepsOthers.setCell b _ _).from _) (js (ax (aa _ _) nq))
   case cc1=>rw[<-qb b7];exact qe g6 0
   case bb1=>first | exact (ax d.below nq).setCell (p:=⟨w.heap.size+3,0,none⟩) (Nat.le_add_right _ _) _ | exact ax (d.below.setCell (p:=⟨w.heap.size+3,0,none⟩) (Nat.le_add_right _ _) _) nq
 case done=>
  rintro L k9 b g7 e4 ⟨O,d⟩ C;have e5:∀ a∈l',zC a f g=0:=(by intro a j;obtain⟨c,z,g8⟩:=di.1 j;have E:=qb c8;have V:(c,qw a)∈mG (l'.map qw) (l'.map qw).length:=(by unfold mG;rw[aC];refine⟨l-1-c,by simp;omega,?_⟩;have e:(l'.map qw).length-1-(l-1-c)=c:=(by simp;omega);rw[e];have:(l'.map qw)[c]?=some (qw a):=(by rw[aF,aB z,g8];rfl);rw[this];rfl);rw[<-e4] at V;obtain⟨h,p,c0⟩:=aC.1 V;exact O h p a j (by rw[c0]));have p:=XB (b:=q) e5;have c1:=qg p;obtain⟨g0,-⟩:=zzc d.b0;obtain⟨d9,-⟩:=zzc d.b3;have g1:=qj d.b3 0;have l0:b.cell? ⟨i,2,none⟩=some (.int .i64 q):=qe ((d.below.block _ c6).trans (qb G).tP.nS) 2;have a1:=qg d;clear O e5 p d e4
  gi_wp2
  have c2:=(KeepsOthers.setCell b ⟨w.heap.size+3,0,none⟩ (.int .i64 q)).same L _ C rfl;refine⟨by simp,.inl ⟨_,_,rfl,run_takeDeferred c2,?_⟩⟩;have c3:=cell_kept (World.cell?_setCell_same' b ⟨w.heap.size+3,0,none⟩ (.int .i64 q) (by rw[d9];rfl)) (grownBy_putObj' _ L (.deferred none)) (fun a0 e=>by cases e;exact⟨_,c2,rfl⟩);refine⟨.int .i64 q,?_,by rw[qb c1],((qb a1).below.setCell (p:=⟨w.heap.size+3,0,none⟩) (by simp) _).trans (belowK_b (w:=w) (zzl _) _ L _ _ (by omega) c2 rfl rfl)⟩;simp[results,Tryz.f86,go_sem,c3]
 case stop=>
  rintro L a8 B b g7 ⟨o,k,W⟩ ⟨⟨rfl,d3,d4,a,Z,H,a9,b0,b1,g9⟩,i0⟩ C;have E:=qb c8;obtain⟨M,rfl⟩:∃ M,o=M+1:=by
   cases o with
   | zero=>rw[Z] at W;simp[mG] at W
   | succ M=>exact⟨M,rfl⟩
  rw[Z,aE,YQ] at W;obtain⟨e6,a2⟩:=List.append_inj' W rfl;simp only[aY,dr,bE,bB] at a2;obtain⟨c,z⟩:=zx ((l'.map qw).length-1-M);rw[<-z] at a2;have e7:c<l'.length:=(by simp at z k;omega);have e8:l'[c]?=some a:=(by have e9:=aB e7;have i1:qw l'[c]=qw a:=(by rw[b0,a2,aF,e9];rfl);have T:=kx (fY e7) (qb G).nd;have b9:=kx a9 (qb G).nd;have y:l'[c].cl=a.cl/\l'[c].num=a.num:=(by simpa[qw] using i1);rw[y.1,y.2,b9] at T;rw[e9,<-aA T]);have p:jP l' q f g=zC a f g:=(by refine qi1 e8 (fun c4 i2=>?_) b1;obtain⟨N,J,c5⟩:=di.1 i2;rw[List.getElem_drop] at c5;have l1:N<l'.length-(c+1):=(by simpa using J);have V:(c+1+N,qw c4)∈mG (l'.map qw) M:=(by unfold mG;rw[aC];refine⟨l-1-(c+1+N),by simp at z ⊢;omega,?_⟩;have e:(l'.map qw).length-1-(l-1-(c+1+N))=c+1+N:=(by simp;omega);rw[e];have:(l'.map qw)[c+1+N]?=some (qw c4):=(by rw[aF,aB (by omega),c5];rfl);rw[this];rfl);rw[<-e6] at V;obtain⟨h,p,c0⟩:=aC.1 V;exact H h p c4 (by rw[<-c5];exact fY _) (by rw[c0]));have c1:=qg p;clear p e8 e6 a2 W H
  gi_wp2
  refine⟨by simp,.inl ⟨_,_,rfl,run_takeDeferred C,?_⟩⟩;have c3:=cell_kept g9 (grownBy_putObj' _ L (.deferred none)) (fun a0 e=>by cases e;exact⟨_,C,rfl⟩);refine⟨.int .i64 (zC a f g),?_,by rw[qb c1],i0.trans (belowK_b (w:=w) (zzl _) b L _ _ (by omega) C rfl rfl)⟩;simp[results,Tryz.f86,go_sem,c3]
end
variable{k:Nat→Nat}{v:Value}{h:List gt}{d:TypeId}{j:Nat}{xs:List Value}{a6:List (Option gF)}{a:gB}
structure qY where
 c:hg
 ks:List (Option gF)
 l:List gv
 f:gB
 t:Int
def vK (o:Option Nat):Value:=.pointer (o.map fun a=>⟨a,0,none⟩)
def Zf (a:hg)(kb b sb fb:Nat)(c:Int):Array Value:=#[.int .i64 a.w,.int .i64 a.h,.int .i64 a.oA,.int .i64 a.queue,.int .i64 a.tK,.int .i64 a.hD,.int .i64 a.iE,.int .i64 a.behind,.slice (some ⟨kb,0,none⟩) b b,.pointer (some ⟨sb,0,none⟩),.pointer (some ⟨fb,0,none⟩),.int .i64 c]
structure pa (o:Nat->Nat)(w:World)(S:Nat)(cps:List (Option Nat))(ks:List (Option gF)):Prop where
 len:cps.length=ks.length
 no:∀ j:Nat,ks[j]?=some none->cps[j]?=some none
 yes:∀ (j:Nat)(k:gF),ks[j]?=some (some k)->∃ cp,cps[j]?=some (some cp)/\Xs (fun x=>o x=5+j) (fun x=>o x=4) w cp S k
structure qI (o:Nat->Nat)(w:World)(xp kb sb fb:Nat)(cps:List (Option Nat))(s:qY):Prop where
 nS:w.heap[xp]?=some (.cells (Zf s.c kb cps.length sb fb s.t) 108 (0,0))
 cls:w.heap[kb]?=some (.cells (cps.map vK).toArray 104 (0,0))
 ks:pa o w s.c.iE.toNat cps s.ks
 uN:xu (fun x=>o x=2) (fun x=>o x=4) w sb s.c.behind s.l
 uy:∃ v,Fr (fun x=>o x=3) w fb s.f v
 ua:o xp=1
 tX:o kb=1
 lt:∀ x,o x≠0->x<w.heap.size
structure hb (o o':Nat->Nat)(w w':World):Prop where
 but:gp (fun x=>o x≠0/\o x≠4) w w'
 ext:∀ x,x<w.heap.size->o' x≠0->o x≠0
 four:∀ x,o x=4->o' x=4
def hb.trans {o o':Nat->Nat}{w w':World}(c:hb o o' w w')(d:hb o' k w' w2):hb o k w w2:=
 ⟨c.but.step d.but (fun a b=>by
  rcases cz a w.heap.size with e | e
  ·exact .inl ⟨c.ext a e b.1,fun f=>b.2 (c.four a f)⟩
  ·exact .inr e),fun a b g=>c.ext a b (d.ext a (zzm b c.but.size) g),fun a b=>d.four a (c.four a b)⟩
def hb.below {o:Nat->Nat}{w w':World}(a:Below w.heap.size w w'):hb o o w w':=⟨.aD a,fun _ _ a=>a,fun _ a=>a⟩
def hb.of {o o':Nat->Nat}{w w':World}(a:gp S w w')(b:∀ x,x<w.heap.size->S x->o x≠0/\o x≠4)(c:∀ x,x<w.heap.size->o' x≠0->o x≠0)(d:∀ x,o x=4->o' x=4):hb o o' w w':=⟨a.wide b,c,d⟩
def hb.uO {o o':Nat->Nat}{w w':World}(b:hb o o' w w')(c:gW (fun a=>o a=4) w v h):gW (fun a=>o' a=4) w' v h:=(c.but b.but (fun f d e=>e.2 d)).wide b.four
def hb.row {o o':Nat->Nat}{w w':World}(b:hb o o' w w')(c:w.ownsRow n d i v j xs)(e:∀ k,v.ownBlock=some k->o k=0):w'.ownsRow n d i v j xs/\∀ k,v.ownBlock=some k->o' k=0:=
 ⟨qi c b.but (fun k a f=>f.1 (e k a)),fun k a=>by
  rcases bg (o' k) with d | d
  ·exact d
  ·exact absurd (e k a) (b.ext k (ab c k a).2 (by omega))⟩
def hb.block {o o':Nat->Nat}{w w':World}(a:hb o o' w w'){b:Obj}(c:w.heap[n]?=some b)(d:o n=0):w'.heap[n]?=some b/\o' n=0:=
 ⟨a.but.heap c (fun f=>f.1 d),by
  rcases bg (o' n) with e | e
  ·exact e
  ·exact absurd d (a.ext n (qh c) (by omega))⟩
def pa.but {o:Nat->Nat}{w w':World}{S:Nat}{cps:List (Option Nat)}{c:List (Option gF)}{T:Nat->Prop}(b:pa o w S cps c)(e:gp T w w')(d:∀ a,4<=o a->¬T a):pa o w' S cps c:=
 ⟨b.len,b.no,fun f g h=>by
  obtain⟨i,j,k⟩:=b.yes f g h;exact⟨i,j,k.but e (fun a l=>d a (by omega)) (fun a l=>d a (by omega))⟩⟩
def pa.wm {o o':Nat->Nat}{w:World}{cps:List (Option Nat)}(b:pa o w n cps a6)(e:∀ a,4<=o a->o' a=o a):pa o' w n cps a6:=
 ⟨b.len,b.no,fun c f g=>by
  obtain⟨h,i,j⟩:=b.yes c f g;exact⟨h,i,j.mono (fun a (d:o a=5+c)=>by show o' a=5+c;rw[e a (by omega)];exact d) (fun a (d:o a=4)=>by show o' a=4;rw[e a (by omega)];exact d)⟩⟩
section
variable {o o':Nat->Nat}{w w':World}{xp kb sb fb:Nat}{cps:List (Option Nat)}{s:qY}
def qI.xk (a:qI o w xp kb sb fb cps s):xp≠kb:=fun b=>by
 have:=a.cls;rw[<-b,a.nS] at this;simp at this
def qI.but {T:Nat->Prop}(b:qI o w xp kb sb fb cps s)(c:gp T w w')(d:∀ a,o a≠0->¬T a):qI o w' xp kb sb fb cps s where
 nS:=c.heap b.nS (d _ (by rw[b.ua];omega))
 cls:=c.heap b.cls (d _ (by rw[b.tX];omega))
 ks:=b.ks.but c (fun a e=>d a (by omega))
 uN:=b.uN.but c (fun a e=>d a (by omega)) (fun a e=>d a (by omega))
 uy:=by obtain⟨f,g⟩:=b.uy;exact⟨f,g.but c (fun a e=>d a (by omega))⟩
 ua:=b.ua
 tX:=b.tX
 lt:=fun a e=>zzm (b.lt a e) c.size
def qI.below (a:qI o w xp kb sb fb cps s)(b:Below w.heap.size w w'):qI o w' xp kb sb fb cps s:=a.but (T:=fun _=>False) (.aD b) (fun _ _ a=>a)
def qI.tH (c:qI o w xp kb sb fb cps s)(h:gp S w w')(e:∀ b,o b≠0->o b≠3->¬S b)(g:∀ b,o b≠0->o b≠3->o' b=o b)(i:∀ b,o' b≠0->b<w'.heap.size)(j:∃ v,Fr (fun b=>o' b=3) w' fb a v):qI o' w' xp kb sb fb cps {s with f:=a} where
 nS:=h.heap c.nS (e _ (by rw[c.ua];omega) (by rw[c.ua];omega))
 cls:=h.heap c.cls (e _ (by rw[c.tX];omega) (by rw[c.tX];omega))
 ks:=(c.ks.but h (fun b d=>e b (by omega) (by omega))).wm (fun b d=>g b (by omega) (by omega))
 uN:=(c.uN.but h (fun b d=>e b (by omega) (by omega)) (fun b d=>e b (by omega) (by omega))).mono (fun b d=>by show o' b=2;rw[g b (by omega) (by omega)];exact d) (fun b d=>by show o' b=4;rw[g b (by omega) (by omega)];exact d)
 uy:=j
 ua:=by rw[g _ (by rw[c.ua];omega) (by rw[c.ua];omega)];exact c.ua
 tX:=by rw[g _ (by rw[c.tX];omega) (by rw[c.tX];omega)];exact c.tX
 lt:=i
def qI.wk (b:qI o w xp kb sb fb cps s)(c:gp S w w')(d:∀ a,o a≠0->o a≠2->¬S a)(e:∀ a,o a≠0->o a≠2->o' a=o a)(g:∀ a,o' a≠0->a<w'.heap.size)(h:xu (fun a=>o' a=2) (fun a=>o' a=4) w' sb s.c.behind l'):qI o' w' xp kb sb fb cps {s with l:=l'} where
 nS:=c.heap b.nS (d _ (by rw[b.ua];omega) (by rw[b.ua];omega))
 cls:=c.heap b.cls (d _ (by rw[b.tX];omega) (by rw[b.tX];omega))
 ks:=(b.ks.but c (fun a f=>d a (by omega) (by omega))).wm (fun a f=>e a (by omega) (by omega))
 uN:=h
 uy:=by obtain⟨i,j⟩:=b.uy;exact⟨i,(j.but c (fun a f=>d a (by omega) (by omega))).mono (fun a f=>by show o' a=3;rw[e a (by omega) (by omega)];exact f)⟩
 ua:=by rw[e _ (by rw[b.ua];omega) (by rw[b.ua];omega)];exact b.ua
 tX:=by rw[e _ (by rw[b.tX];omega) (by rw[b.tX];omega)];exact b.tX
 lt:=g
def qI.cl (b:qI o w xp kb sb fb cps s)(q:Nat)(c:q≠0):∀ a,o a=q->a<w.heap.size:=fun a d=>b.lt a (by omega)
end
structure od (o o':Nat->Nat)(C:Nat->Prop)(q:Nat)(w w':World):Prop where
 in':∀ x,C x->o' x=q
 off:∀ x,¬C x->o x=q->o' x=0
 out:∀ x,¬C x->o x≠q->o' x=o x
 new:∀ x,C x->o x=q\/(w.heap.size<=x/\x<w'.heap.size)
def qf2 {o:Nat->Nat}{C:Nat->Prop}{q:Nat}{w w':World}(b:∀ a,C a->o a=q\/(w.heap.size<=a/\a<w'.heap.size)):∃ o',od o o' C q w w':=by
 have d:∀ a,∃ e,(C a->e=q)/\(¬C a->o a=q->e=0)/\(¬C a->o a≠q->e=o a):=by
  intro a;by_cases c:C a
  ·exact⟨q,fun _=>rfl,fun b=>absurd c b,fun b=>absurd c b⟩
  ·by_cases f:o a=q
   ·exact⟨0,fun b=>absurd b c,fun _ _=>rfl,fun _ b=>absurd f b⟩
   ·exact⟨o a,fun b=>absurd b c,fun _ b=>absurd b f,fun _ _=>rfl⟩
 exact⟨fun a=>Classical.choose (d a),fun a c=>(bS (d a)).1 c,fun a c=>(bS (d a)).2.1 c,fun a c=>(bS (d a)).2.2 c,b⟩
section
variable {o o':Nat->Nat}{q:Nat}{C:Nat->Prop}{w w':World}
def od.keep (b:od o o' C q w w')(e:∀ a,o a≠0->a<w.heap.size):∀ a,o a≠0->o a≠q->o' a=o a:=fun a f c=>b.out a (fun g=>by
 rcases b.new a g with d | d
 ·exact c d
 ·have:=e a f;omega) c
def od.lt (c:od o o' C q w w')(f:∀ a,o a≠0->a<w.heap.size)(g:w.heap.size<=w'.heap.size)(h:q≠0):∀ a,o' a≠0->a<w'.heap.size:=fun a d=>by
 by_cases e:C a
 ·rcases c.new a e with b | b
  ·have:=f a (by omega);omega
  ·exact b.2
 ·by_cases b:o a=q
  ·exact absurd (c.off a e b) d
  ·rw[c.out a e b] at d;have:=f a d;omega
def od.ext (c:od o o' C q w w')(f:q≠0):∀ a,a<w.heap.size->o' a≠0->o a≠0:=fun a g d=>by
 by_cases e:C a
 ·rcases c.new a e with b | b
  ·omega
  ·omega
 ·by_cases b:o a=q
  ·omega
  ·rw[c.out a e b] at d;exact d
def od.eq (b:od o o' C q w w')(f:q≠0):(fun a=>o' a=q)=C:=by
 funext a
 refine fG ⟨fun c=>?_,b.in' a⟩;by_cases d:C a
 ·exact d
 ·by_cases e:o a=q
  ·rw[b.off a d e] at c;omega
  ·rw[b.out a d e] at c;exact absurd c e
def od.same (c:od o o' C q w w')(f:∀ a,o a≠0->a<w.heap.size)(g:n≠0)(h:n≠q):(fun a=>o' a=n)=fun a=>o a=n:=by
 funext a
 refine fG ⟨fun b=>?_,fun b=>(c.keep f a (by omega) (by omega)).trans b⟩;by_cases d:C a
 ·rw[c.in' a d] at b;omega
 ·by_cases e:o a=q
  ·rw[c.off a d e] at b;omega
  ·rw[c.out a d e] at b;exact b
def od.zero (a:od o o' C q w w')(b:¬C n)(e:o n=0\/o n=q):o' n=0:=by
 rcases e with c | c
 ·by_cases d:o n=q
  ·exact a.off n b d
  ·rw[a.out n b d];exact c
 ·exact a.off n b c
end
section
variable {o:Nat->Nat}{w:World}{xp kb sb fb:Nat}{cps:List (Option Nat)}{s:qY}
def qI.ub (b:qI o w xp kb sb fb cps s){x:Nat}(c:w.heap.size<=x):o x=0:=by
 rcases bg (o x) with a | a
 ·exact a
 ·have:=b.lt x (by omega);omega
def qI.uv (c:qI o w xp kb sb fb cps s)(d:gp (fun b=>o b=3) w w2)(g:∃ v,Fr (fun b=>o b=3) w2 fb a v):qI o w2 xp kb sb fb cps {s with f:=a}/\hb o o w w2:=
 ⟨c.tH d (fun b j h e=>h e) (fun _ _ _=>rfl) (fun b i=>zzm (c.lt b i) d.size) g,.of d (fun b _ e=>by omega) (fun _ _ c=>c) (fun _ c=>c)⟩
def qI.uu (e:qI o w xp kb sb fb cps s)(g:gp (fun b=>o b=3) w w2){C:Nat->Prop}(i:∀ b,C b->o b=3\/(w.heap.size<=b/\b<w2.heap.size))(j:∃ v,Fr C w2 fb a v):∃ d,qI d w2 xp kb sb fb cps {s with f:=a}/\hb o d w w2/\od o d C 3 w w2:=by
 obtain⟨d,c⟩:=qf2 i;refine⟨d,e.tH g (fun b m k h=>k h) (c.keep e.lt) (c.lt e.lt g.size (by omega)) (by rw[c.eq (by omega)];exact j),.of g (fun b _ h=>by omega) (c.ext (by omega)) (fun b l=>(c.keep e.lt b (by omega) (by omega)).trans l),c⟩
def qI.wB (c:qI o w xp kb sb fb cps s)(e:gp (fun a=>o a=2) w w2)(g:∀ a,S a->o a=2\/(w.heap.size<=a/\a<w2.heap.size))(h:xu S (fun a=>o a=4) w2 sb s.c.behind l'):∃ d,qI d w2 xp kb sb fb cps {s with l:=l'}/\hb o d w w2/\od o d S 2 w w2:=by
 obtain⟨d,b⟩:=qf2 g;refine⟨d,c.wk e (fun a k i f=>i f) (b.keep c.lt) (b.lt c.lt e.size (by omega)) (by rw[b.eq (by omega),b.same c.lt (by omega) (by omega)];exact h),.of e (fun a _ f=>by omega) (b.ext (by omega)) (fun a j=>(b.keep c.lt a (by omega) (by omega)).trans j),b⟩
def V3 (c:qI o w xp kb sb fb cps s):Calls Tryz.prog 137 #[.pointer (some ⟨fb,0,none⟩)] w fun a b=>(∃ e,a=.returned e)/\qI o b xp kb sb fb cps {s with f:={s.f with due:=true}}/\hb o o w b:=by
 obtain⟨g,d⟩:=c.uy;refine (YY d).mono ?_;rintro a b ⟨h,i,j⟩;exact⟨h,c.uv (j.wide (fun k _ a=>by rw[a];exact d.cb)) ⟨g,i⟩⟩
def za1 (b:qI o w xp kb sb fb cps s)(c d:Int)(h:s.f.marks.length<=1000000000):Calls Tryz.prog 138 #[.pointer (some ⟨fb,0,none⟩),.agg #[.int .i64 c,.int .i64 d]] w fun g e=>(∃ i,g=.returned i)/\∃ a,qI a e xp kb sb fb cps {s with f:={s.f with marks:=s.f.marks++[(c,d)]}}/\hb o a w e:=by
 obtain⟨r,j⟩:=b.uy;refine (zf0 j (b.cl 3 (by omega)) c d h).mono ?_;rintro g e ⟨k,l,m⟩;obtain⟨a,n,p,_⟩:=b.uu m (fun t q=>q) l;exact⟨k,a,n,p⟩
def Ql (b:qI o w xp kb sb fb cps s)(e:1<=s.f.W/\s.f.W<=16)(g:1<=s.f.H/\s.f.H<=16){rs:List Rc}(h:gw w n v rs)(i:∀ a,v.ownBlock=some a->o a=0)(j:∀ r∈rs,Q9 r)(k:rs.length<=1000000):Calls Tryz.prog 41 #[.pointer (some ⟨fb,0,none⟩),v] w fun c d=>(∃ l,c=.returned l)/\qI o d xp kb sb fb cps {s with f:=zX s.f rs}/\hb o o w d:=by
 obtain⟨m,p⟩:=b.uy;refine (qc7 p (b.cl 3 (by omega)) e g h (fun a q c=>by have:=i a q;omega) j k).mono ?_;rintro c d ⟨t,u,x⟩;exact⟨t,b.uv x ⟨m,u⟩⟩
def qq7 (i:qI o w xp kb sb fb cps s):Calls Tryz.prog 82 #[.pointer (some ⟨fb,0,none⟩)] w fun d e=>∃ a c,d=.returned (.tuple #[.int .i64 (zd s.f).2.1,a])/\qI c e xp kb sb fb cps {s with f:=(zd s.f).1}/\qN e 0 153 a ((zd s.f).2.2.map k2)/\(∀ b,a.ownBlock=some b->c b=0/\o b=3)/\hb o c w e:=by
 obtain⟨l,j⟩:=i.uy;refine (qz0 j).mono ?_;rintro d e ⟨⟨a,m,n,p,k⟩,q⟩;obtain⟨c,r,t,u⟩:=i.uu (q.wide (fun g _ d=>by rw[d];exact j.cb)) (C:=oO (fun g=>o g=3) a) (fun g v=>.inl v.1) ⟨l,n⟩;exact⟨a,c,m,r,p,fun b h=>⟨u.zero (fun x=>x.2 h) (.inr (k b h)),k b h⟩,t⟩
def qh7 (a:qI o w xp kb sb fb cps s)(i:s.f.front<3)(j:1<=s.f.W/\s.f.W<=16)(k:1<=s.f.H/\s.f.H<=16)(l:∀ c∈s.l,xq c)(m:s.l.length<=1000)(d:Int):Calls Tryz.prog 85 #[.pointer (some ⟨fb,0,none⟩),.int .i64 d,.func (.func 86) #[.pointer (some ⟨sb,0,none⟩)] #[]] w fun g e=>(∃ n,g=.returned n)/\∃ b,qI b e xp kb sb fb cps {s with f:=zR s.f d (jP s.l s.c.behind)}/\hb o b w e:=by
 obtain⟨y,p⟩:=a.uy;refine (qn6 p (a.cl 3 (by omega)) i j k d sb (jP s.l s.c.behind) (fun z c A q h B=>sD (a.uN.below q) l m _ _ (by omega) (by omega))).mono ?_;rintro g e ⟨r,t,u⟩;obtain⟨b,v,x,_⟩:=a.uu u (fun c h=>h) t;exact⟨r,b,v,x⟩
def qh5 (c:qI o w xp kb sb fb cps s)(m:s.f.W*s.f.H<=1000)(p:∀ g,s.f.frame=some g->g.left.length<=1000/\∀ d∈g.left,0<=d.1/\d.1<((s.f.W*s.f.H:Nat):Int))(q:iY w n i j 0)(r:o n=0)(t:o i=0)(u:j<=9223372036854775807):Calls Tryz.prog 87 #[.pointer (some ⟨fb,0,none⟩),.pointer (some ⟨n,0,none⟩)] w fun a e=>(∃ v,a=.returned v)/\qI o e xp kb sb fb cps {s with f:=je s.f j}/\iY e n i (j-vu s.f j) (vu s.f j)/\gp (fun b=>o b=3\/b=n\/b=i) w e:=by
 obtain⟨B,x⟩:=c.uy;refine (qn2 x (c.cl 3 (by omega)) m p q (by omega) (by omega) ⟨by omega,u⟩).mono ?_;rintro a e ⟨y,z,h,l⟩;refine⟨y,c.tH l (fun b k h a=>?_) (fun _ _ _=>rfl) (fun b A=>zzm (c.lt b A) l.size) z,by rw[bA] at h;exact h,l⟩;rcases a with a | a | a
 ·exact h a
 ·rw[a] at k;exact k r
 ·rw[a] at k;exact k t
def Kj (a:qI o w xp kb sb fb cps s)(b:Int)(e:s.f.marks.length<=1000000000)(h:∀ g,s.f.frame=some g->g.marks.length<=1000000000):Calls Tryz.prog 43 #[.pointer (some ⟨fb,0,none⟩),.int .i64 b] w fun d c=>(∃ i,d=.returned i)/\qI o c xp kb sb fb cps {s with f:=ji s.f b}/\hb o o w c:=by
 obtain⟨n,j⟩:=a.uy;refine (qc5 j (a.cl 3 (by omega)) b e h).mono ?_;rintro d c ⟨k,l,m⟩;exact⟨k,a.uv m l⟩
def qh4 (a:qI o w xp kb sb fb cps s)(j:s.l.length<=1000)(k:∀ c∈s.l,rx c):Calls Tryz.prog 83 #[.pointer (some ⟨sb,0,none⟩)] w fun d f=>∃ e,d=.returned e/\qI o f xp kb sb fb cps {s with l:=s.l.map hd}/\gw f w.heap.size e (s.l.flatMap zW)/\(∀ b,e.ownBlock=some b->o b=0)/\hb o o w f:=by
 obtain⟨r,t,u,v,x,y,m⟩:=a.uN;refine (qn1 m (fun b (i:o b=2) (g:o b=4)=>by omega) (a.cl 2 (by omega)) (a.cl 4 (by omega)) j k).mono ?_;rintro d f ⟨⟨e,z,n,i,h⟩,g⟩;exact⟨e,n,a.wk g (fun c A h d=>h d) (fun _ _ _=>rfl) (fun c p=>zzm (a.lt c p) g.size) ⟨_,_,_,_,_,_,i⟩,h,fun b q=>a.ub (ab h b q).1,.of g (fun c _ d=>by omega) (fun _ _ a=>a) (fun _ a=>a)⟩
def qc6 (o:Nat->Nat)(w:World)(xp kb sb fb:Nat)(cps:List (Option Nat))(s:qY)(rs:List Rc)(e:Ending)(a:World):Prop:=∃ b c,e=.returned b/\qI c a xp kb sb fb cps s/\gw a w.heap.size b rs/\(∀ d,b.ownBlock=some d->c d=0)/\hb o c w a
def qe8 (a:qI o w xp kb sb fb cps s){rs:List Rc}{b:Ending}(f:xK (fun x=>o x=2) (fun x=>o x=4) w sb s.c.behind l' rs b w2):qc6 o w xp kb sb fb cps {s with l:=l'} rs b w2:=by
 obtain⟨⟨g,t,h,i,j,c,k⟩,m⟩:=f;obtain⟨n,p,q,r⟩:=a.wB m i.new j;exact⟨g,n,h,p,c,fun d e=>r.zero (k d e) (.inl (a.ub (ab c d e).1)),q⟩
def rQ (c:qI o w xp kb sb fb cps s)(h:s.l.length<=1000)(b:Int)(a:gt)(d:Option Addr)(e f:Nat)(i:gS (fun x=>o x=4) w (.slice d e f) a.px)(j:ZS s.l b a):Calls Tryz.prog 76 #[.pointer (some ⟨sb,0,none⟩),.int .i64 b,ZI a (.slice d e f)] w (qc6 o w xp kb sb fb cps {s with l:=(zi s.l b a).1} (yh s.l b a)):=
 (qz1 c.uN (fun g (m:o g=2) (n:o g=4)=>by omega) (c.cl 2 (by omega)) h b a d e f i j).mono fun p q k=>qe8 c k
def qh6 (a:qI o w xp kb sb fb cps s)(e:s.l.length<=1000)(b:Int):Calls Tryz.prog 42 #[.pointer (some ⟨sb,0,none⟩),.int .i64 b] w (qc6 o w xp kb sb fb cps {s with l:=s.l.filter fun c=>!(c.cl == b)} ((s.l.filter fun c=>c.cl == b).flatMap jf)):=
 (qn3 a.uN (fun d (g:o d=2) (h:o d=4)=>by omega) (a.cl 2 (by omega)) (a.cl 4 (by omega)) e b).mono fun i j f=>qe8 a f
end
def zU (c:Nat)(a:List gv×gB)(b:gt):List gv×gB:=
 if b.kind=8 then (a.1,{a.2 with marks:=a.2.marks++[((c:Int),b.mark)]}) else ((zi a.1 c b).1,zX a.2 (yh a.1 c b))
def yD (b:Nat)(a:List gv×gB)(c:List gt):List gv×gB:=c.foldl (zU b) (a.1,{a.2 with due:=true})
def jx (a:Nat)(b:List gv×gB)(c:List (List gt)):List gv×gB:=c.foldl (yD a) b
structure qb9 (c:Nat)(st:List gv×gB)(op:gt):Prop where
 ask:op.kind=8->st.2.marks.length<=1000000000
 fit:op.kind≠8->ZS st.1 c op/\st.1.length<=1000/\(∀ r∈yh st.1 c op,Q9 r)/\(yh st.1 c op).length<=1000000
def vX (a:Nat):List gv×gB->List gt->Prop
 | _,[]=>True
 | b,c::d=>qb9 a b c/\vX a (zU a b c) d
def qe9 (b:List Rc):∀ a:gB,(zX a b).W=a.W/\(zX a b).H=a.H:=by
 induction b with
 | nil=>intro a;exact⟨rfl,rfl⟩
 | cons c b f=>
  intro a;have d:=f (Q1 a c);have e:=JR a (xh a c) ((xh a c).w*(xh a c).h).toNat;exact⟨d.1.trans e.1,d.2.trans e.2⟩
def zc6 (b:Nat)(a:List gv×gB)(c:gt):(zU b a c).2.W=a.2.W/\(zU b a c).2.H=a.2.H:=by
 unfold zU;split
 ·exact⟨rfl,rfl⟩
 ·exact qe9 _ _
def YF (b:Nat)(c:List gt):∀ a:List gv×gB,(c.foldl (zU b) a).2.W=a.2.W/\(c.foldl (zU b) a).2.H=a.2.H:=by
 induction c with
 | nil=>intro a;exact⟨rfl,rfl⟩
 | cons d h g=>intro a;have e:=g (zU b a d);have f:=zc6 b a d;exact⟨e.1.trans f.1,e.2.trans f.2⟩
def vX.at {e:Nat}:∀ {f:List gt}{d:List gv×gB}(_:vX e d f)(c:Nat)(a:gt),f[c]?=some a->qb9 e ((f.take c).foldl (zU e) d) a
 | [],_,_,c,a,b=>by simp at b
 | h::i,d,g,0,a,b=>by simp at b;subst b;exact g.1
 | h::i,d,g,c+1,a,b=>by
  have:=vX.at g.2 c a (by simpa using b);simpa using this
def jr (s:qY)(a:List gv×gB):qY:={s with l:=a.1,f:=a.2}
def rK (o:Nat->Nat)(w:World)(xp kb sb fb:Nat)(cps:List (Option Nat))(s:qY)(a:World):Prop:=∃ b,qI b a xp kb sb fb cps s/\hb o b w a
section
variable {o:Nat->Nat}{w:World}{xp kb sb fb:Nat}{cps:List (Option Nat)}{s:qY}
def qI.uF (a:qI o w xp kb sb fb cps s):w.cell? ⟨xp,10,none⟩=some (.pointer (some ⟨fb,0,none⟩)):=qe a.nS 10
def qI.c9 (a:qI o w xp kb sb fb cps s):w.cell? ⟨xp,9,none⟩=some (.pointer (some ⟨sb,0,none⟩)):=qe a.nS 9
def qI.c8 (a:qI o w xp kb sb fb cps s):w.cell? ⟨xp,8,none⟩=some (.slice (some ⟨kb,0,none⟩) cps.length cps.length):=qe a.nS 8
def qI.c11 (a:qI o w xp kb sb fb cps s):w.cell? ⟨xp,11,none⟩=some (.int .i64 s.t):=qe a.nS 11
def qI.xlt (a:qI o w xp kb sb fb cps s):xp<w.heap.size:=qh a.nS
structure tl (o:Nat->Nat)(w wr:World)(xp kb sb fb:Nat)(cps:List (Option Nat))(s:qY)(c:Nat)(v:Value)(ops:List gt)(k:Nat):Prop where
 go:∃ o',qI o' wr xp kb sb fb cps (jr s ((ops.take k).foldl (zU c) (s.l,{s.f with due:=true})))/\hb o o' w wr/\gW (fun x=>o' x=4) wr v ops
def si (Q:qI o w xp kb sb fb cps s)(d:Nat)(f8:d<=1000)(n:gW (fun x=>o x=4) w v h)(d6:h.length<=1000)(d7:1<=s.f.W/\s.f.W<=16)(d8:1<=s.f.H/\s.f.H<=16)(hF:vX d (s.l,{s.f with due:=true}) h):Calls Tryz.prog 115 #[.pointer (some ⟨xp,0,none⟩),.int .i64 (d:Int),v] w fun g b=>(∃ y,g=.returned y)/\rK o w xp kb sb fb cps (jr s (yD d (s.l,s.f) h)) b:=by
 have N:=Q.uF;have a8:=qg (V3 Q);obtain⟨a9,O,rfl,d9,f9,-⟩:=id n;have b0:=qg n;have e0:=qg hF;clear Q n hF;obtain⟨t,R⟩:=zx h.length;rw[<-R] at b0 d6 d9 ⊢;have b1:=qg R;clear R;go_enter Tryz.func115,Tryz.ntmps115;go_wp2_with (go_at_call 137;refine (qb a8).mono ?_;rintro g e1 ⟨⟨y,rfl⟩,h1,S⟩)
 have b2:tl o w e1 xp kb sb fb cps s d (.slice a9 t O) h 0:=⟨o,h1,S,S.uO (qb b0)⟩;have b3:=qg b2;clear h1 S b2 a8 N;go_loopw [15] (fun T wr=>∃ e:Nat,e<=t/\T=.int .i64 e/\tl o w wr xp kb sb fb cps s d (.slice a9 t O) h e) (fun T _=>t-(intOf T).toNat)
 case atStart=>exact⟨0,aj _,rfl,qb b3⟩
 case round=>
  rename World=>c;obtain⟨e,g0,rfl,b4⟩:=hrel;clear b3;obtain⟨e2,k,D,n⟩:=b4.go;clear b4;by_cases g1:e<t
  ·obtain⟨a,B⟩:∃ a,h[e]?=some a:=⟨h[e]'(by have:=qb b1;omega),by simp⟩;have F:=(qb e0).at e a B;have G:(h.take (e+1)).foldl (zU d) (s.l,{s.f with due:=true})=zU d ((h.take e).foldl (zU d) (s.l,{s.f with due:=true})) a:=(by rw[am,B,ff];rfl);have H:=YF d (h.take e) (s.l,{s.f with due:=true});obtain⟨j,U⟩:∃ j,j=(h.take e).foldl (zU d) (s.l,{s.f with due:=true}):=⟨_,rfl⟩;rw[<-U] at k F G H;obtain⟨g2,g3,g,-,-,b5⟩:=id n;simp only[ai] at g;obtain⟨b6,V,e3⟩:=g;obtain⟨b7,b8,b9,c0,g4,c1⟩:=b5 (by intro g;rw[g] at B;simp at B);obtain⟨e4,g5,c2,g6,g7,g8,⟨g9,c3,c4⟩,i0⟩:=c1 e a B;rw[b9] at b6;subst b6;clear V e3 b9 b5 c1;have I:=c4;obtain⟨p,q,W,-⟩:=c4;rw[W] at c3 I;obtain⟨r,X⟩:=zx a.px.length;rw[<-X] at c3 I;have i1:(0:Int)<=(e:Int):=(by omega);have i2:(e:Int)<(t:Int):=(by omega);have N:=k.uF;have c5:=k.c9;have Y:=k.xlt;obtain⟨m,J⟩:∃ m:World,m=c.alloc (.cells #[.int .i64 a.kind,.int .i64 a.iV,.int .i64 a.x,.int .i64 a.y,.int .i64 a.w,.int .i64 a.h,.slice p r q,.int .i64 a.mark] 52):=⟨_,rfl⟩;have C:Below c.heap.size c m:=(by rw[J];exact (aa _ c).alloc (zzl _) _);have E:m.heap[c.heap.size]?=some (.cells #[.int .i64 a.kind,.int .i64 a.iV,.int .i64 a.x,.int .i64 a.y,.int .i64 a.w,.int .i64 a.h,.slice p r q,.int .i64 a.mark] 52):=(by rw[J];exact qt _ _ _ rfl);have Z:=qg J;have c6:=k.ub (zzl _);by_cases h8:a.kind=8
   ·have z:jr s ((h.take (e+1)).foldl (zU d) (s.l,{s.f with due:=true}))={jr s j with f:={ (jr s j).f with marks:=(jr s j).f.marks++[((d:Int),a.mark)]}}:=(by rw[G];simp[zU,h8,jr]);have c7:Calls Tryz.prog 138 #[.pointer (some ⟨fb,0,none⟩),.agg #[.int .i64 (d:Int),.int .i64 a.mark]] m.drew fun g b=>(∃ y,g=.returned y)/\tl o w b xp kb sb fb cps s d (.slice (some ⟨b7,b8,none⟩) t O) h (e+1)/\b.cell? ⟨xp,10,none⟩=some (.pointer (some ⟨fb,0,none⟩))/\b.cell? ⟨c.heap.size,7,none⟩=some (.int .i64 a.mark):=by
     have u:=C.drew;refine (za1 (k.below u) d a.mark (F.ask h8)).mono ?_;rintro g b ⟨h1,a0,h2,h3⟩;refine⟨h1,⟨a0,?_,(D.trans (hb.below u)).trans h3,?_⟩,h2.uF,?_⟩
     ·rw[z];exact h2
     ·exact h3.uO (n.below u)
     ·exact qe (h3.block (w:=m.drew) E c6).1 7
    have e5:=qg c7;have P:=(C.cell Y).trans N;obtain⟨e6,-⟩:=zzk E 7;have c8:(a.kind == 8)=true:=(by simp[h8]);rw[h8] at Z e4;clear k D n c7 z C E J F G H U W I B X c0 c5 h8 c8;go_wp2_with fail
    rw[<-qb Z];go_region_held3 (fun b=>b.cell? ⟨xp,10,none⟩=some (.pointer (some ⟨fb,0,none⟩))/\b.cell? ⟨c.heap.size,7,none⟩=some (.int .i64 a.mark)) (first | go_keep | exact⟨P,e6⟩ | exact qb a1)
     ((go_at_call 138;refine (qb e5).mono ?_;rintro g e7 ⟨⟨y,rfl⟩,K,L⟩;have a1:=qg L;have a2:=qg K;clear K L))
    go_wp2;go_roundw
    case rel=>exact⟨e+1,by omega,by go_num,qb a2⟩
    case measure=>simp[intOf];omega
   ·obtain⟨c9,d0,d1,d2⟩:=F.fit h8;have z:jr s ((h.take (e+1)).foldl (zU d) (s.l,{s.f with due:=true}))={ ({jr s j with l:=(zi (jr s j).l d a).1}:qY) with f:=zX (jr s j).f (yh j.1 d a)}:=(by rw[G];simp[zU,h8,jr]);have u:=C.drew;have a3:Calls Tryz.prog 76 #[.pointer (some ⟨sb,0,none⟩),.int .i64 (d:Int),ZI a (.slice p r q)] m.drew fun g b=>∃ M,g=.returned M/\(b.cell? ⟨xp,10,none⟩=some (.pointer (some ⟨fb,0,none⟩))/\b.cell? ⟨xp,9,none⟩=some (.pointer (some ⟨sb,0,none⟩))/\b.heap[c.heap.size]?=some (.cells #[.int .i64 a.kind,.int .i64 a.iV,.int .i64 a.x,.int .i64 a.y,.int .i64 a.w,.int .i64 a.h,.slice p r q,.int .i64 a.mark] 52))/\Calls Tryz.prog 41 #[.pointer (some ⟨fb,0,none⟩),M] b fun g b=>(∃ y,g=.returned y)/\tl o w b xp kb sb fb cps s d (.slice (some ⟨b7,b8,none⟩) t O) h (e+1)/\b.cell? ⟨xp,10,none⟩=some (.pointer (some ⟨fb,0,none⟩))/\b.cell? ⟨xp,9,none⟩=some (.pointer (some ⟨sb,0,none⟩))/\b.heap[c.heap.size]?=some (.cells #[.int .i64 a.kind,.int .i64 a.iV,.int .i64 a.x,.int .i64 a.y,.int .i64 a.w,.int .i64 a.h,.slice p r q,.int .i64 a.mark] 52):=(by refine (rQ (k.below u) d0 d a p r q (I.below u) c9).mono ?_;rintro g b ⟨M,a0,h1,h2,h3,h4,h5⟩;have a4:=h5.block (w:=m.drew) E c6;refine⟨M,h1,⟨h2.uF,h2.c9,a4.1⟩,(Ql h2 (by show 1<=j.2.W/\j.2.W<=16;rw[H.1];exact d7) (by show 1<=j.2.H/\j.2.H<=16;rw[H.2];exact d8) h3 h4 d1 d2).mono ?_⟩;rintro g e8 ⟨e9,a5,a6⟩;refine⟨e9,⟨a0,?_,((D.trans (hb.below u)).trans h5).trans a6,a6.uO (h5.uO (n.below u))⟩,a5.uF,a5.c9,(a6.block a4.1 a4.2).1⟩;rw[z];exact a5);unfold ZI yt at a3;have f0:=qg a3;have P:=(C.cell Y).trans N;have d3:=(C.cell Y).trans c5;have c8:(a.kind == 8)=false:=(by simpa using h8);have f1:Hid (m.cell? ⟨xp,10,none⟩=some (.pointer (some ⟨fb,0,none⟩))/\m.cell? ⟨xp,9,none⟩=some (.pointer (some ⟨sb,0,none⟩))/\m.heap[c.heap.size]?=some (.cells #[.int .i64 a.kind,.int .i64 a.iV,.int .i64 a.x,.int .i64 a.y,.int .i64 a.w,.int .i64 a.h,.slice p r q,.int .i64 a.mark] 52)):=⟨P,d3,E⟩;clear k D n a3 z C E J F G H U W I B X c0 u c9 d0 d1 d2 P d3;go_wp2_with fail
    rw[<-qb Z];have a7:Hid (∀ i:World,(i.cell? ⟨xp,10,none⟩=some (.pointer (some ⟨fb,0,none⟩))/\i.cell? ⟨xp,9,none⟩=some (.pointer (some ⟨sb,0,none⟩))/\i.heap[c.heap.size]?=some (.cells #[.int .i64 a.kind,.int .i64 a.iV,.int .i64 a.x,.int .i64 a.y,.int .i64 a.w,.int .i64 a.h,.slice p r q,.int .i64 a.mark] 52))->(i.cell? ⟨xp,10,none⟩=some (.pointer (some ⟨fb,0,none⟩))/\i.cell? ⟨xp,9,none⟩=some (.pointer (some ⟨sb,0,none⟩))/\i.cell? ⟨c.heap.size,0,none⟩=some (.int .i64 a.kind)/\i.cell? ⟨c.heap.size,1,none⟩=some (.int .i64 a.iV)/\i.cell? ⟨c.heap.size,2,none⟩=some (.int .i64 a.x)/\i.cell? ⟨c.heap.size,3,none⟩=some (.int .i64 a.y)/\i.cell? ⟨c.heap.size,4,none⟩=some (.int .i64 a.w)/\i.cell? ⟨c.heap.size,5,none⟩=some (.int .i64 a.h)/\i.cell? ⟨c.heap.size,6,none⟩=some (.slice p r q)/\i.cell? ⟨c.heap.size,7,none⟩=some (.int .i64 a.mark))):=fun i ⟨f2,f3,A⟩=>⟨f2,f3,qe A 0,qe A 1,qe A 2,qe A 3,qe A 4,qe A 5,qe A 6,qe A 7⟩;have f4:=qg ((qb a7) m.drew (qb f1));go_region_held3 (fun b=>b.cell? ⟨xp,10,none⟩=some (.pointer (some ⟨fb,0,none⟩))/\b.cell? ⟨xp,9,none⟩=some (.pointer (some ⟨sb,0,none⟩))/\b.cell? ⟨c.heap.size,0,none⟩=some (.int .i64 a.kind)/\b.cell? ⟨c.heap.size,1,none⟩=some (.int .i64 a.iV)/\b.cell? ⟨c.heap.size,2,none⟩=some (.int .i64 a.x)/\b.cell? ⟨c.heap.size,3,none⟩=some (.int .i64 a.y)/\b.cell? ⟨c.heap.size,4,none⟩=some (.int .i64 a.w)/\b.cell? ⟨c.heap.size,5,none⟩=some (.int .i64 a.h)/\b.cell? ⟨c.heap.size,6,none⟩=some (.slice p r q)/\b.cell? ⟨c.heap.size,7,none⟩=some (.int .i64 a.mark)) (first | exact qb f5 | exact qb a1 | exact qb f4 | go_keep)
     (first
       | (go_at_call 76;refine (qb f0).mono ?_;rintro g e7 ⟨M,rfl,L,d4⟩;have a1:=qg ((qb a7) _ L);have f6:=qg d4;clear L d4)
       | (go_at_call 41;refine (qb f6).mono ?_;rintro g e8 ⟨⟨y,rfl⟩,K,d5⟩;have f5:=qg ((qb a7) _ d5);have a2:=qg K;clear K d5))
    go_wp2;go_roundw
    case rel=>exact⟨e+1,by omega,by go_num,qb a2⟩
    case measure=>simp[intOf];omega
  ·have g:e=t:=(by omega);have z:rK o w xp kb sb fb cps (jr s (yD d (s.l,s.f) h)) c:=(by refine⟨e2,?_,D⟩;have V:(h.take e)=h:=aL (by have:=qb b1;omega);rw[V] at k;exact k);have f7:=qg z;clear z k D n g;go_wp2;go_end0;exact⟨⟨_,rfl⟩,qb f7⟩
end
variable{e:gF}
section
variable {o:Nat->Nat}{w w':World}{xp kb sb fb:Nat}{cps:List (Option Nat)}{s:qY}
def qI.uL (a:qI o w xp kb sb fb cps s){j:gF}(m:s.ks[n]?=some (some e))(p:cps[n]?=some (some i))(f:gp (fun b=>o b=5+n) w w')(q:Xs (fun b=>o b=5+n) (fun b=>o b=4) w' i s.c.iE.toNat j):qI o w' xp kb sb fb cps {s with ks:=s.ks.set n (some j)}/\hb o o w w':=by
 have k:=(zzg m).1;refine⟨⟨f.heap a.nS (fun c=>by rw[a.ua] at c;omega),f.heap a.cls (fun c=>by rw[a.tX] at c;omega),⟨by rw[aG];exact a.ks.len,fun h d=>?_,fun h k2 d=>?_⟩,a.uN.but f (fun b g c=>by omega) (fun b g c=>by omega),?_,a.ua,a.tX,fun b g=>zzm (a.lt b g) f.size⟩,.of f (fun b _ c=>by omega) (fun _ _ a=>a) (fun _ a=>a)⟩
 ·by_cases c:h=n
  ·subst c;rw[ar k] at d;simp at d
  ·rw[bc (cu c)] at d;exact a.ks.no h d
 ·by_cases c:h=n
  ·subst c;rw[ar k] at d;simp only[ac] at d;subst d;exact⟨i,p,q⟩
  ·rw[bc (cu c)] at d;obtain⟨r,t,u⟩:=a.ks.yes h k2 d;exact⟨r,t,u.but f (fun b g l=>by omega) (fun b g l=>by omega)⟩
 ·obtain⟨v,x⟩:=a.uy;exact⟨v,x.but f (fun b g l=>by omega)⟩
def sF (o:Nat->Nat)(w:World)(xp kb sb fb:Nat)(cps:List (Option Nat))(s:qY)(e:List (List gt))(f:Ending)(w':World):Prop:=
 ∃ (a:Value)(b:List (Value×List gt)),f=.returned a/\qI o w' xp kb sb fb cps s/\qN w' w.heap.size 195 a (b.map zI)/\(∀ c,a.ownBlock=some c->o c=0)/\b.map Prod.snd=e/\(∀ d∈b,gW (fun g=>o g=4) w' d.1 d.2)/\hb o o w w'
def qh8 (c:qI o w xp kb sb fb cps s)(g:s.ks[j]?=some (some e))(h:cps[j]?=some (some n))(a:Int)(k:e.q.length<=1000)(l:0<=a/\a<=1000000)(m:0<=e.cr/\e.cr<=1000000)(p:∀ b∈e.q,0<=qA b/\qA b<=1000000):Calls Tryz.prog 114 #[.pointer (some ⟨n,0,none⟩),.int .i64 a] w (sF o w xp kb sb fb cps {s with ks:=s.ks.set j (some (qB e a).2)} (qB e a).1):=by
 obtain⟨D,d,q⟩:=c.ks.yes j e g;rw[h] at d;simp only[ac] at d;subst d;refine (qn7 q (fun b E=>c.lt b (by omega)) (fun b i f=>by omega) a k l m p).mono ?_;rintro F w' ⟨⟨r,t,i,f,u,v,x⟩,y⟩;obtain⟨z,A⟩:=c.uL g h y x;exact⟨r,t,i,z,f,fun B C=>c.ub (ab f B C).1,u,v,A⟩
end
def qJ (b:Int)(c:List (Option gF))(d:List gv×gB):Nat->List gv×gB
 | 0=>d
 | a+1=>match c[a]? with
  | some (some k)=>jx a (qJ b c d a) (qB k b).1
  | _=>qJ b c d a
def J3 (b:Int)(a:Option gF):Option gF:=a.map fun a=>(qB a b).2
def lV (c:Int)(a:List (Option gF))(b:Nat):List (Option gF):=(a.take b).map (J3 c)++a.drop b
def xF (b:Int)(a:Option gF):Int:=match a with
 | none=>0
 | some a=>((qB a b).1.length:Int)
def yU (c:Int)(a:List (Option gF))(b:Nat):List Int:=(a.take b).map (xF c)++List.replicate (a.length-b) 0
def ZU (s:qY)(a:Nat):qY:={s with ks:=lV s.c.hD s.ks a,l:=(qJ s.c.hD s.ks (s.l,s.f) a).1,f:=(qJ s.c.hD s.ks (s.l,s.f) a).2}
def Qt (a:n<a6.length):(lV q a6 n)[n]?=a6[n]?:=by
 unfold lV;rw[aq (by simp;omega)];simp[bK (cA a)]
def qe4 (b:Int)(a:List (Option gF))(c:Nat):(lV b a c).length=a.length:=by
 unfold lV;simp;omega
def QT {a:Option gF}(b:a6[n]?=some a):lV q a6 (n+1)=(lV q a6 n).set n (J3 q a):=by
 have c:=(zzg b).1;have d:a6.drop n=a::a6.drop (n+1):=by
  rw[<-bo (h:=c)];congr 1
  exact (zzg b).2
 unfold lV;rw[d,am,b,aE,bG _ _ (by simp;omega)];simp[bK (cA c)]
def kE (c:Int)(a:List (Option gF))(b:Nat)(d:b<=a.length):(yU c a b).length=a.length:=by
 unfold yU;simp;omega
def XU {a:Option gF}(b:a6[n]?=some a):yU q a6 (n+1)=(yU q a6 n).set n (xF q a):=by
 have c:=(zzg b).1;unfold yU;rw[am,b,aE,bG _ _ (by simp;omega)];rw[show a6.length-n=(a6.length-(n+1))+1 by omega,bU];simp[bK (cA c)]
def qf3 (a:n<a6.length):(yU q a6 n)[n]?=some 0:=by
 unfold yU;rw[aq (by simp;omega),bD,an (by simp;omega)]
def zc5 (b:Nat)(a:List gv×gB)(c:List gt):(yD b a c).2.W=a.2.W/\(yD b a c).2.H=a.2.H:=YF b c (a.1,{a.2 with due:=true})
def YG (b:Nat)(c:List (List gt)):∀ a:List gv×gB,(jx b a c).2.W=a.2.W/\(jx b a c).2.H=a.2.H:=by
 induction c with
 | nil=>intro a;exact⟨rfl,rfl⟩
 | cons d h g=>intro a;have e:=g (yD b a d);have f:=zc5 b a d;exact⟨e.1.trans f.1,e.2.trans f.2⟩
def Zg (c:Int)(d:List (Option gF))(a:List gv×gB):∀ b,(qJ c d a b).2.W=a.2.W/\(qJ c d a b).2.H=a.2.H
 | 0=>⟨rfl,rfl⟩
 | b+1=>by
  have e:=Zg c d a b;unfold qJ;split
  ·rename_i g _;have f:=YG b (qB g c).1 (qJ c d a b);exact⟨f.1.trans e.1,f.2.trans e.2⟩
  ·exact e
structure Ja (s:qY):Prop where
 len:s.ks.length<=4
 qn:0<=s.c.hD/\s.c.hD<=1000000
 cl:∀ (j:Nat)(k:gF),s.ks[j]?=some (some k)->k.q.length<=1000/\(0<=k.cr/\k.cr<=1000000)/\∀ x∈k.q,(0<=qA x/\qA x<=1000000)/\x.length<=1000
 wI:∀ (j:Nat)(k:gF)(m:Nat)(tr:List gt),s.ks[j]?=some (some k)->(qB k s.c.hD).1[m]?=some tr->vX j ((jx j (qJ s.c.hD s.ks (s.l,s.f) j) ((qB k s.c.hD).1.take m)).1,{ (jx j (qJ s.c.hD s.ks (s.l,s.f) j) ((qB k s.c.hD).1.take m)).2 with due:=true}) tr
 wd:1<=s.f.W/\s.f.W<=16
 ht:1<=s.f.H/\s.f.H<=16
variable{g:Nat}{R:List Int}{H:List (Value×List gt)}
section
variable {o:Nat->Nat}{w wr:World}{xp kb sb fb:Nat}{cps:List (Option Nat)}{s:qY}{n j:Nat}
structure mJ (o:Nat->Nat)(w wr:World)(xp kb sb fb:Nat)(cps:List (Option Nat))(s:qY)(n j:Nat):Prop where
 go:∃ o',qI o' wr xp kb sb fb cps (ZU s j)/\hb o o' w wr/\zh wr w.heap.size (.slice (some ⟨w.heap.size,0,none⟩) n n) (yU s.c.hD s.ks j)/\o' w.heap.size=0
def oZ (s:qY)(j:Nat)(a:gF)(b:Nat):qY:=jr {ZU s j with ks:=(lV s.c.hD s.ks j).set j (some (qB a s.c.hD).2)} (jx j (qJ s.c.hD s.ks (s.l,s.f) j) ((qB a s.c.hD).1.take b))
structure mK (o:Nat->Nat)(w wr:World)(xp kb sb fb:Nat)(cps:List (Option Nat))(s:qY)(n j:Nat)(k:gF)(av:Value)(ma:List (Value×List gt))(m c:Nat):Prop where
 go:∃ o',qI o' wr xp kb sb fb cps (oZ s j k m)/\hb o o' w wr/\zh wr w.heap.size (.slice (some ⟨w.heap.size,0,none⟩) n n) ((yU s.c.hD s.ks j).set j (c:Int))/\o' w.heap.size=0/\qN wr 0 195 av (ma.map zI)/\(∀ b,av.ownBlock=some b->o' b=0)/\∀ t∈ma,gW (fun x=>o' x=4) wr t.1 t.2
def qa7 (a:Nat)(d:List gv×gB)(b:List (List gt))(c:Nat)(e:List gt)(f:b[c]?=some e):jx a d (b.take (c+1))=yD a (jx a d (b.take c)) e:=by
 unfold jx;rw[am,f,ff];rfl
def qr4 {w:World}{n:Nat}(b:zh w i (.slice (some ⟨g,0,none⟩) n n) R)(c:R.length=n)(j:Nat)(a:Int):zh (w.setCell ⟨g,j,none⟩ (.int .i64 a)) i (.slice (some ⟨g,0,none⟩) n n) (R.set j a):=by
 subst c;have:=(aT b j (.int .i64 a)).1;unfold zh;rw[aG,dh];exact this
def mJ.start (a:qI o w xp kb sb fb cps s)(c:n=s.ks.length)(d:n<=4):mJ o w (w.alloc (.cells (Array.replicate n (Value.int .i64 0)) 3)) xp kb sb fb cps s n 0:=by
 have b:Below w.heap.size w (w.alloc (.cells (Array.replicate n (Value.int .i64 0)) 3)):=(aa _ w).alloc (zzl _) _;refine⟨o,?_,hb.below b,?_,a.ub (zzl _)⟩
 ·have:ZU s 0=s:=(by simp[ZU,lV,qJ]);rw[this];exact a.below b
 ·have:yU s.c.hD s.ks 0=List.replicate n 0:=(by simp[yU,c]);rw[this];exact Zk w n w.heap.size (zzl _) (by omega)
def mJ.below (a:mJ o w wr xp kb sb fb cps s n j){c:World}(b:Below wr.heap.size wr c):mJ o w c xp kb sb fb cps s n j:=by
 obtain⟨d,e,f,g,h⟩:=a.go;exact⟨d,e.below b,f.trans (hb.below b),qi (S:=fun _=>False) g (.aD b) (fun _ _ a=>a),h⟩
def mJ.skip (d:mJ o w wr xp kb sb fb cps s n j)(a:s.ks[j]?=some none):mJ o w wr xp kb sb fb cps s n (j+1):=by
 have b:=(zzg a).1;obtain⟨e,f,g,h,i⟩:=d.go;have k:ZU s (j+1)=ZU s j:=by
  unfold ZU;rw[QT a];have:(lV s.c.hD s.ks j).set j (J3 s.c.hD none)=lV s.c.hD s.ks j:=by
   have:=Qt (q:=s.c.hD) b;rw[a] at this;exact bh fun l=>by
    rw[cG];split
    ·rename_i c;subst c;rw[an (by rw[qe4];exact b),this];rfl
    ·rfl
  rw[this];simp[qJ,a]
 have m:yU s.c.hD s.ks (j+1)=yU s.c.hD s.ks j:=by
  rw[XU a];have:=qf3 (q:=s.c.hD) b;exact bh fun l=>by
   rw[cG];split
   ·rename_i c;subst c;rw[an (by rw[kE _ _ _ (cA b)];exact b),this];rfl
   ·rfl
 exact⟨e,by rw[k];exact f,g,by rw[m];exact h,i⟩
def qy1 (p:mJ o w wr xp kb sb fb cps s n j)(g:s.ks[j]?=some (some e))(r:cps[j]?=some (some i))(h:Ja s)(b:Below wr.heap.size wr w2):Calls Tryz.prog 114 #[.pointer (some ⟨i,0,none⟩),.int .i64 s.c.hD] w2 fun a k=>∃ (c:Value)(d:List (Value×List gt)),a=.returned c/\mK o w k xp kb sb fb cps s n j e c d 0 0/\d.map Prod.snd=(qB e s.c.hD).1:=by
 have f:=(zzg g).1;obtain⟨t,u,v,x,l⟩:=(p.below b).go;obtain⟨y,z,A⟩:=h.cl j e g;refine (qh8 u (j:=j) (by show (lV _ _ _)[j]?=_;rw[Qt f];exact g) r s.c.hD y h.qn z (fun B C=>(A B C).1)).mono ?_;rintro a k ⟨c,d,D,E,F,G,H,I,m⟩;have J:=m.row x (fun K b=>by simp[Value.ownBlock] at b;subst b;exact l);refine⟨c,d,D,⟨t,E,v.trans m,?_,l,Zn F (aj _),G,I⟩,H⟩;have a:(yU s.c.hD s.ks j).set j ((0:Nat):Int)=yU s.c.hD s.ks j:=by
  have:=qf3 (q:=s.c.hD) f;exact bh fun L=>by
   rw[cG];split
   ·rename_i a;subst a;rw[an (by rw[kE _ _ _ (cA f)];exact f),this];rfl
   ·rfl
 rw[a];exact J.1
def mK.below {c:gF}{d:Value}{e:List (Value×List gt)}{f g:Nat}(a:mK o w wr xp kb sb fb cps s n j c d e f g){h:World}(b:Below wr.heap.size wr h):mK o w h xp kb sb fb cps s n j c d e f g:=by
 obtain⟨i,k,l,m,p,q,r,t⟩:=a.go;exact⟨i,k.below b,l.trans (hb.below b),qi (S:=fun _=>False) m (.aD b) (fun _ _ a=>a),p,qi (S:=fun _=>False) q (.aD b) (fun _ _ a=>a),r,fun u v=>(t u v).below b⟩
def zc4 (x:mK o w wr xp kb sb fb cps s n j e v H i g)(h:s.ks[j]?=some (some e))(y:H.map Prod.snd=(qB e s.c.hD).1){a:Value×List gt}(c:H[i]?=some a)(b:Ja s)(d:Below wr.heap.size wr w2):Calls Tryz.prog 115 #[.pointer (some ⟨xp,0,none⟩),.int .i64 (j:Int),a.1] w2 fun l m=>(∃ z,l=.returned z)/\mK o w m xp kb sb fb cps s n j e v H (i+1) g:=by
 have N:=(zzg h).1;obtain⟨O,A,B,C,D,E,F,p⟩:=(x.below d).go;have k:(qB e s.c.hD).1[i]?=some a.2:=(by rw[<-y,aF,c];rfl);have G:=br (zzn k);have q:=YG j ((qB e s.c.hD).1.take i) (qJ s.c.hD s.ks (s.l,s.f) j);have r:=Zg s.c.hD s.ks (s.l,s.f) j;have I:(oZ s j e i).f.W=s.f.W:=q.1.trans r.1;have J:(oZ s j e i).f.H=s.f.H:=q.2.trans r.2;have P:=b.len;refine (si A j (by omega) (p a (zzn c)) ((b.cl j e h).2.2 _ G).2 (by rw[I];exact b.wd) (by rw[J];exact b.ht) (b.wI j e i a.2 h k)).mono ?_;rintro l m ⟨K,L,M,f⟩;have t:=f.row C (fun Q d=>by simp[Value.ownBlock] at d;subst d;exact D);have u:=f.row E F;refine⟨K,⟨L,?_,B.trans f,t.1,t.2 _ rfl,u.1,u.2,fun a c=>f.uO (p a c)⟩⟩;unfold oZ;rw[qa7 _ _ _ _ _ k];exact M
def mK.count (t:mK o w wr xp kb sb fb cps s n j e v H i g)(u:n=s.ks.length)(x:j<=s.ks.length)(c:Nat):mK o w (wr.setCell ⟨w.heap.size,j,none⟩ (.int .i64 (c:Int))) xp kb sb fb cps s n j e v H i c:=by
 obtain⟨f,y,h,q,k,r,z,A⟩:=t.go;have d:gp (fun a=>a=w.heap.size) wr (wr.setCell ⟨w.heap.size,j,none⟩ (.int .i64 (c:Int))):=(gp.refl (fun a=>a=w.heap.size) wr).setCell (p:=⟨w.heap.size,j,none⟩) (.inl rfl) _;have B:hb o f w (wr.setCell ⟨w.heap.size,j,none⟩ (.int .i64 (c:Int))):=⟨h.but.step d (fun a b=>.inr (by rw[b];exact zzl _)),h.ext,h.four⟩;have C:∀ l,v.ownBlock=some l->¬l=w.heap.size:=fun l D b=>by
  obtain⟨I,J,E⟩:=qE q (k:=w.heap.size) rfl;exact qq r E (by decide) (by rw[D,b])
 refine⟨f,y.but d (fun a m b=>m (by rw[b];exact k)),B,?_,k,qi r d C,z,fun F G=>(A F G).but d (fun a (m:f a=4) b=>by rw[b,k] at m;omega)⟩;have:=qr4 q (by rw[aG,kE _ _ _ x,u]) j (c:Int);rw[eg] at this;exact this
def mK.done (c:mK o w wr xp kb sb fb cps s n j e v H i i)(a:s.ks[j]?=some (some e))(d:H.map Prod.snd=(qB e s.c.hD).1)(f:i=H.length):mJ o w wr xp kb sb fb cps s n (j+1):=by
 have p:=(zzg a).1;obtain⟨g,h,k,l,m,q,r,t⟩:=c.go;have b:i=(qB e s.c.hD).1.length:=(by rw[<-d,ak];exact f);refine⟨g,?_,k,?_,m⟩
 ·have:ZU s (j+1)=oZ s j e i:=(by unfold ZU oZ jr;rw[QT a,b,aL (zzl _)];simp[qJ,a,J3,ZU]);rw[this];exact h
 ·rw[XU a];have:xF s.c.hD (some e)=(i:Int):=(by rw[b];rfl);rw[this];exact l
end
variable{b t:Nat}
section
variable {o:Nat->Nat}{w wr:World}{xp kb sb fb:Nat}{cps:List (Option Nat)}{s:qY}{n j:Nat}
def mJ.facts (d:mJ o w wr xp kb sb fb cps s n j):wr.cell? ⟨xp,5,none⟩=some (.int .i64 s.c.hD)/\(∀ (a:Nat)(b:Option Nat),cps[a]?=some b->wr.cell? ⟨kb,a,none⟩=some (vK b))/\cps.length=s.ks.length:=by
 obtain⟨f,c,g,h,i⟩:=d.go;refine⟨qe c.nS 5,fun a b e=>?_,by rw[c.ks.len];exact qe4 _ _ _⟩;rw[qe c.cls];simp[e]
def mJ.kind (f:mJ o w wr xp kb sb fb cps s n j)(c:j<s.ks.length):(s.ks[j]?=some none/\cps[j]?=some none)\/∃ a d,s.ks[j]?=some (some a)/\cps[j]?=some (some d):=by
 obtain⟨i,e,k,l,m⟩:=f.go;cases b:s.ks[j]? with
 | none=>rw[aB c] at b;cases b
 | some g=>
  cases g with
  | none=>exact .inl ⟨rfl,e.ks.no j (by show (lV _ _ _)[j]?=_;rw[Qt c];exact b)⟩
  | some a=>
   obtain⟨d,h,_⟩:=e.ks.yes j a (by show (lV _ _ _)[j]?=_;rw[Qt c];exact b);exact .inr ⟨a,d,rfl,h⟩
def mK.slice (b:mK o w wr xp kb sb fb cps s n j e v H i g):∃ c d,v=.slice c H.length d:=by
 obtain⟨l,m,p,q,r,f,t,u⟩:=b.go;obtain⟨h,k,a⟩:=qr f;rw[ak] at a;exact⟨h,k,a⟩
def mK.facts (q:mK o w wr xp kb sb fb cps s n j e (.slice ro t i) H g b)(B:n=s.ks.length)(C:j<s.ks.length){a:Value×List gt}(d:H[g]?=some a):(∃ f,ro=some ⟨f,0,none⟩/\wr.cell? ⟨f,g*2,none⟩=some a.1/\wr.cell? ⟨f,g*2+1,none⟩=some (.int .i64 (qA a.2)))/\(∃ h r k,a.1=.slice h r k):=by
 obtain⟨D,E,F,G,I,m,J,u⟩:=q.go;have v:=zzn d;obtain⟨h,k,c,_⟩:=u a v;refine⟨?_,h,_,k,c⟩;rcases m.2 with ⟨c,x⟩ | ⟨y,K,L,c,_⟩
 ·have:H=[]:=(by simpa using x);rw[this] at d;simp at d
 ·simp only[ai] at c;obtain⟨rfl,_,rfl⟩:=c;obtain⟨M,p,_⟩:=m.row;have z:(H.map zI)[g]?=some (zI a):=(by rw[aF,d];rfl);have l:=XV _ g _ z;have A:=(zzg l.2).1;refine⟨y,rfl,?_,?_⟩
  ·rw[qe p,bR,zs,aM (by omega),l.1];rfl
  ·rw[qe p,bR,zs,aM A,l.2];rfl
def mK.cell (f:mK o w wr xp kb sb fb cps s n j e v H i g)(h:n=s.ks.length)(a:j<s.ks.length):wr.cell? ⟨w.heap.size,j,none⟩=some (.int .i64 (g:Int))/\∀ b,wr.frozen? ⟨w.heap.size,b,none⟩=false:=by
 obtain⟨k,l,m,c,p,q,r,t⟩:=f.go;have d:((yU s.c.hD s.ks j).set j (g:Int)).length=n:=(by rw[aG,kE _ _ _ (cA a),h]);refine⟨kP c d.symm (by rw[ar (by rw[kE _ _ _ (cA a)];exact a)]),fun b=>Zm c d.symm b⟩
def Zz (o:Nat->Nat)(w:World)(xp kb sb fb:Nat)(cps:List (Option Nat))(s:qY)(c:Ending)(a:World):Prop:=
 ∃ b,c=.returned (.slice (some ⟨w.heap.size,0,none⟩) s.ks.length s.ks.length)/\qI b a xp kb sb fb cps (ZU s s.ks.length)/\hb o b w a/\zh a w.heap.size (.slice (some ⟨w.heap.size,0,none⟩) s.ks.length s.ks.length) (s.ks.map (xF s.c.hD))/\b w.heap.size=0
def mJ.post (a:mJ o w wr xp kb sb fb cps s n s.ks.length)(b:n=s.ks.length):Zz o w xp kb sb fb cps s (.returned (.slice (some ⟨w.heap.size,0,none⟩) n n)) wr:=by
 subst b;obtain⟨c,d,e,f,g⟩:=a.go;refine⟨c,rfl,d,e,?_,g⟩;have:yU s.c.hD s.ks s.ks.length=s.ks.map (xF s.c.hD):=(by simp[yU]);rw[<-this];exact f
def qm6 (l:qI o w xp kb sb fb cps s)(hF:Ja s):Calls Tryz.prog 84 #[.pointer (some ⟨xp,0,none⟩)] w (Zz o w xp kb sb fb cps s):=by
 obtain⟨n,q⟩:=zx s.ks.length;have R:n<=4:=(by have:=hF.len;omega);have I:cps.length=n:=(by rw[l.ks.len,q]);have v:=l.c8;rw[I] at v;have S:=vx n (by omega);have J:=mJ.start l q R;have T:(w.alloc (.cells (Array.replicate n (Value.int .i64 0)) 3)).cell? ⟨xp,8,none⟩=some (.slice (some ⟨kb,0,none⟩) n n):=(((aa _ w).alloc (zzl _) _).cell l.xlt).trans v;have K:=qg J;have x:=qg hF;have h:=qg q;clear l J hF I q;go_enter Tryz.func84,Tryz.ntmps84;go_wp2;go_loopw [19] (fun e wr=>∃ j:Nat,j<=n/\e=.int .i64 j/\mJ o w wr xp kb sb fb cps s n j) (fun e _=>n-(intOf e).toNat)
 case atStart=>exact⟨0,aj _,rfl,qb K⟩
 case round=>
  rename World=>y;obtain⟨j,a7,rfl,d⟩:=hrel;clear K v T S;by_cases a8:j<n
  ·have r:j<s.ks.length:=(by have:=qb h;omega);obtain⟨U,t,-⟩:=d.facts;have a9:(0:Int)<=(j:Int):=(by omega);have b0:(j:Int)<(n:Int):=(by omega);rcases d.kind r with ⟨i,k⟩ | ⟨z,b1,i,k⟩
   ·have m:=t j _ k;unfold vK at m;simp only[gh] at m;have V:=qg (d.skip i);clear d t i k r;go_wp2;go_roundw
    case rel=>exact⟨j+1,by omega,by go_num,qb V⟩
    case measure=>simp[intOf];omega
   ·have m:=t j _ k;unfold vK at m;simp only[bO] at m;have L:=qg (qy1 d i k (qb x) (aa _ y));have A:=qg i;have B:=qg r;obtain⟨b2,C⟩:=zx s.c.hD;rw[<-C] at U L;have M:=qg C;clear d t i k r C;go_wp2_with (go_at_call 114;refine (qb L).mono ?_;rintro f b3 ⟨b4,p,rfl,b,g⟩;obtain⟨W,X,gO⟩:=b.slice;rw[gO] at b;obtain⟨c,D⟩:∃ c,c=p.length:=⟨_,rfl⟩;rw[<-D] at gO b;have E:=qg D;have N:=qg b;have O:=qg g;clear b g D;subst gO)
    obtain⟨b5,Y⟩:=zx y;subst Y;have b6:c<=1000:=(by have h1:=qb E;have h2:=congrArg List.length (qb O);rw[qb M] at h2;have h3:=((qb x).cl j z (qb A)).1;simp only[ak,qB,ao] at h2;omega);go_loopw [34] (fun e wr=>∃ a:Nat,a<=c/\e=.int .i64 a/\mK o w wr xp kb sb fb cps s n j z (.slice W c X) p a a) (fun e _=>c-(intOf e).toNat)
    case atStart=>exact⟨0,aj _,rfl,qb N⟩
    case round=>
     rename_i wr;obtain⟨a,b7,rfl,b⟩:=hrel;clear N;have g:p.map Prod.snd=(qB z s.c.hD).1:=(by rw[<-qb M];exact qb O);by_cases b8:a<c
     ·obtain⟨u,F⟩:∃ u,p[a]?=some u:=⟨p[a]'(by have:=qb E;omega),by simp⟩;obtain⟨⟨b9,Z,a0,a1⟩,c0,c1,c2,P⟩:=b.facts (qb h) (qb B) F;subst Z;obtain⟨a2,Q⟩:=zx (qA u.2);rw[<-Q] at a1;have m0:(0:Int)<=(a:Int):=(by omega);have m1:(a:Int)<(c:Int):=(by omega);have G:=zc4 b (qb A) g F (qb x) ((aa _ wr).alloc (zzl _) (.cells #[u.1,.int .i64 a2] 195));rw[P] at G a0;have a3:=qg G;have c3:=qg b;clear b G F P Q g;go_wp2_with (go_at_call 115;refine (qb a3).mono ?_;rintro f c4 ⟨⟨c5,rfl⟩,H⟩;obtain⟨c6,c7⟩:=H.cell (qb h) (qb B);have a4:=qg H;clear H)
      go_roundw
      case rel=>exact⟨a+1,by omega,by go_num,(qb a4).count (qb h) (cA (qb B)) (a+1)⟩
      case measure=>simp[intOf];omega
     ·have f:a=c:=(by omega);have a5:=qg (b.done (qb A) g (by rw[f];exact qb E));have m1:¬(a:Int)<(c:Int):=(by omega);clear b g f;go_wp2;go_roundw
      case rel=>exact⟨j+1,by omega,by go_num,qb a5⟩
      case measure=>simp[intOf];omega
  ·have f:j=s.ks.length:=(by have:=qb h;omega);have a6:Hid (Zz o w xp kb sb fb cps s (.returned (.slice (some ⟨w.heap.size,0,none⟩) n n)) y):=(by rw[f] at d;exact d.post (qb h));clear d f;go_wp2;go_ret;exact qb a6
end
def tk1 (s:qY):qY:={s with t:=s.t+1}
def tn (s:qY):qY:={s with t:=s.t+1,f:=(zd s.f).1}
def gM (s:qY):qY:={s with t:=s.t+1,l:=s.l.map hd,f:=zX (zd s.f).1 (s.l.flatMap zW)}
def nn (s:qY):qY:=ZU (gM s) s.ks.length
def iu (s:qY):qY:={nn s with f:=zR (nn s).f (s.t+1) (jP (nn s).l s.c.behind)}
def vZ (s:qY)(a:Nat):qY:={iu s with f:=je (iu s).f a}
def Je (s:qY)(a:Nat):Nat:=vu (iu s).f a
def ZC (s:qY):List Int:=s.ks.map (xF s.c.hD)
structure xO (s:qY):Prop where
 t:0<=s.t/\s.t<=1000000000000000000
 len:s.l.length<=1000
 sl:∀ x∈s.l,rx x
 rc:∀ r∈s.l.flatMap zW,Q9 r
 wd:1<=s.f.W/\s.f.W<=16
 ht:1<=s.f.H/\s.f.H<=16
 uc:Ja (gM s)
 fr:(nn s).f.front<3
 ok:∀ x∈(nn s).l,xq x
 len4:(nn s).l.length<=1000
 dots:∀ g,(iu s).f.frame=some g->g.left.length<=1000/\∀ d∈g.left,0<=d.1/\d.1<(((iu s).f.W*(iu s).f.H:Nat):Int)
def Yy (a:gB):(zd a).1.W=a.W/\(zd a).1.H=a.H:=by
 unfold zd;split
 ·exact⟨rfl,rfl⟩
 ·split<;>exact⟨rfl,rfl⟩
def XX (a:gB)(b:Int)(c:Int->Int->Int):(zR a b c).W=a.W/\(zR a b c).H=a.H:=by
 unfold zR;split<;>exact⟨rfl,rfl⟩
def Y4 (s:qY):(nn s).f.W=s.f.W/\(nn s).f.H=s.f.H:=by
 have a:=Zg (gM s).c.hD (gM s).ks ((gM s).l,(gM s).f) s.ks.length;have b:=qe9 (s.l.flatMap zW) (zd s.f).1;have c:=Yy s.f;exact⟨a.1.trans (b.1.trans c.1),a.2.trans (b.2.trans c.2)⟩
def qq0 (s:qY):(iu s).f.W=s.f.W/\(iu s).f.H=s.f.H:=by
 have a:=XX (nn s).f (s.t+1) (jP (nn s).l s.c.behind);have b:=Y4 s;exact⟨a.1.trans b.1,a.2.trans b.2⟩
section
variable {o o':Nat->Nat}{w wr:World}{xp kb sb fb:Nat}{cps:List (Option Nat)}{s s':qY}
def qI.ticks (a:qI o w xp kb sb fb cps s)(f:Int):qI o (w.setCell ⟨xp,11,none⟩ (.int .i64 f)) xp kb sb fb cps {s with t:=f}/\hb o o w (w.setCell ⟨xp,11,none⟩ (.int .i64 f)):=by
 have e:gp (fun c=>c=xp) w (w.setCell ⟨xp,11,none⟩ (.int .i64 f)):=(gp.refl (fun c=>c=xp) w).setCell (p:=⟨xp,11,none⟩) (.inl rfl) _;refine⟨⟨?_,e.heap a.cls (fun b=>a.xk b.symm),a.ks.but e (fun c d b=>by rw[b,a.ua] at d;omega),a.uN.but e (fun c d b=>by rw[b,a.ua] at d;omega) (fun c d b=>by rw[b,a.ua] at d;omega),?_,a.ua,a.tX,fun c d=>zzm (a.lt c d) e.size⟩,.of e (fun c _ b=>by rw[b,a.ua];omega) (fun _ _ a=>a) (fun _ a=>a)⟩
 ·have:=qp (i:=11) a.nS (.int .i64 f);rw[this];simp[Zf]
 ·obtain⟨g,h⟩:=a.uy;exact⟨g,h.but e (fun c d b=>by rw[b,a.ua] at d;omega)⟩
structure lK (o:Nat->Nat)(w wr:World)(xp kb sb fb:Nat)(cps:List (Option Nat))(s:qY)(rb pb bb cb l:Nat)(rep:Array Value)(av fv:Value)(cn:List Int)(fm:List (Int×Int))(o':Nat->Nat):Prop where
 tY:qI o' wr xp kb sb fb cps s
 uq:hb o o' w wr
 rep:wr.heap[rb]?=some (.cells rep 133 (0,0))
 pv:wr.heap[pb]?=some (.cells #[.pointer (some ⟨bb,0,none⟩)] 183 (0,0))
 uo:iY wr bb cb l 0
 z:o' rb=0/\o' pb=0/\o' bb=0/\o' cb=0
 ge:w.heap.size<=rb/\w.heap.size<=bb/\w.heap.size<=cb
 uc:zh wr 0 av cn
 az:∀ b,av.ownBlock=some b->o' b=0
 uj:qN wr 0 153 fv (fm.map k2)
 fz:∀ b,fv.ownBlock=some b->o' b=0
 ag:∀ b,av.ownBlock=some b->w.heap.size<=b\/o b≠0
 fg:∀ b,fv.ownBlock=some b->w.heap.size<=b\/o b≠0
variable {rb pb bb cb l:Nat}{rep:Array Value}{av fv:Value}{cn:List Int}{fm:List (Int×Int)}
def lK.step (a:lK o w wr xp kb sb fb cps s rb pb bb cb l rep av fv cn fm o')(i:qI k w2 xp kb sb fb cps s')(b:hb o' k wr w2):lK o w w2 xp kb sb fb cps s' rb pb bb cb l rep av fv cn fm k:=by
 obtain⟨j,m,n,p⟩:=a.z;have c:=b.block a.rep j;have d:=b.block a.pv m;have e:=b.block a.uo.nS n;have f:=b.block a.uo.uI p;have g:=b.row a.uc a.az;have h:=b.row a.uj a.fz;exact⟨i,a.uq.trans b,c.1,d.1,⟨e.1,f.1⟩,⟨c.2,d.2,e.2,f.2⟩,a.ge,g.1,g.2,h.1,h.2,a.ag,a.fg⟩
def lK.drew (a:lK o w wr xp kb sb fb cps s rb pb bb cb l rep av fv cn fm o'):lK o w wr.drew xp kb sb fb cps s rb pb bb cb l rep av fv cn fm o':=
 a.step (a.tY.below ((aa _ wr).drew)) (hb.below ((aa _ wr).drew))
def lK.set (a:lK o w wr xp kb sb fb cps s rb pb bb cb l rep av fv cn fm o')(e:Nat)(g:Value):lK o w (wr.setCell ⟨rb,e,none⟩ g) xp kb sb fb cps s rb pb bb cb l (rep.setIfInBounds e g) av fv cn fm o':=by
 have d:gp (fun c=>c=rb) wr (wr.setCell ⟨rb,e,none⟩ g):=(gp.refl (fun c=>c=rb) wr).setCell (p:=⟨rb,e,none⟩) (.inl rfl) _;have h:∀ {c:Nat}{i:Array Value}{n:TypeId}{j:Nat×Nat},wr.heap[c]?=some (.cells i n j)->n≠133->¬c=rb:=fun f q b=>by rw[b,a.rep] at f;simp at f;exact q f.2.1.symm
 have r:¬cb=rb:=fun b=>by have:=a.uo.uI;rw[b,a.rep] at this;simp at this
 refine⟨a.tY.but d (fun c f b=>f (by rw[b];exact a.z.1)),⟨a.uq.but.step d (fun c b=>.inr (by rw[b];exact a.ge.1)),a.uq.ext,a.uq.four⟩,qp (i:=e) a.rep g,d.heap a.pv (h a.pv (by decide)),⟨d.heap a.uo.nS (h a.uo.nS (by decide)),d.heap a.uo.uI r⟩,a.z,a.ge,qi a.uc d (fun t k b=>?_),a.az,qi a.uj d (fun t k b=>?_),a.fz,a.ag,a.fg⟩
 ·obtain⟨i,j,m⟩:=qE a.uc k;exact h m (by decide) b
 ·obtain⟨i,j,m⟩:=qE a.uj k;exact h m (by decide) b
end
def qz9 {w:World}{pb rb bb cb l:Nat}{rep:Array Value}(g:FrameMode)(h:w.heap[pb]?=some (.cells #[.pointer (some ⟨bb,0,none⟩)] 183 (0,0)))(b:iY w bb cb l n)(c:w.heap[rb]?=some (.cells rep 133 (0,0)))(h2:2<rep.size):CallsD Tryz.prog 80 #[.pointer (some ⟨pb,0,none⟩),.pointer (some ⟨rb,0,none⟩)] g w fun a j k=>j=g/\(a=.returned (.tuple #[])/\∃ d,gp (fun i=>i=bb\/i=cb) w d/\k=d.setCell ⟨rb,2,none⟩ (.int .i64 (n:Int))):=by
 obtain⟨u,-⟩:=zzc h;have m:¬(rb=bb\/rb=cb):=by
  rintro (a | a)
  ·have:=b.nS;rw[<-a,c] at this;simp at this
  ·have:=b.uI;rw[<-a,c] at this;simp at this
 have p:=qg (ze5 b);have q:=qg c;obtain⟨u2,r⟩:∃ u2,rep[2]?=some u2:=⟨rep[2],by simp[h2]⟩;clear h b c h2
 go_enter_d Tryz.func80,Tryz.ntmps80
 go_wp2_with (go_at_call 81;refine (qb p).mono ?_;rintro a d ⟨rfl,e⟩;have f:=e.heap (qb q) m;have v:=(qe f 2).trans r;have rz:=qj f;have t:=qg e;clear e f)
 go_end0;exact⟨rfl,d,qb t,rfl⟩
section
variable {o o':Nat->Nat}{w wr:World}{xp kb sb fb:Nat}{cps:List (Option Nat)}{s:qY}{rb pb bb cb l:Nat}{rep:Array Value}{av fv:Value}{cn:List Int}{fm:List (Int×Int)}
def qz5 (b:lK o w wr xp kb sb fb cps (tk1 s) rb pb bb cb l rep av fv cn fm o'):Calls Tryz.prog 82 #[.pointer (some ⟨fb,0,none⟩)] wr fun f g=>∃ fv c,f=.returned (.tuple #[.int .i64 (zd s.f).2.1,fv])/\lK o w g xp kb sb fb cps (tn s) rb pb bb cb l rep av fv cn (zd s.f).2.2 c:=by
 refine (qq7 b.tY).mono ?_;rintro f g ⟨fv,c,i,j,k,h,m⟩;have:=b.step (s':=tn s) j m;refine⟨fv,c,i,this.tY,this.uq,this.rep,this.pv,this.uo,this.z,this.ge,this.uc,this.az,k,fun a d=>(h a d).1,this.ag,fun a d=>?_⟩;rcases cz a w.heap.size with e | e
 ·exact .inr (b.uq.ext a e (by rw[(h a d).2];omega))
 ·exact .inl e
def qp6 (h:lK o w wr xp kb sb fb cps (tn s) rb pb bb cb l rep av fv cn fm o')(a:xO s):Calls Tryz.prog 83 #[.pointer (some ⟨sb,0,none⟩)] wr fun b c=>∃ d,b=.returned d/\(c.cell? ⟨xp,10,none⟩=some (.pointer (some ⟨fb,0,none⟩))/\c.cell? ⟨xp,9,none⟩=some (.pointer (some ⟨sb,0,none⟩)))/\Calls Tryz.prog 41 #[.pointer (some ⟨fb,0,none⟩),d] c fun b e=>(∃ j,b=.returned j)/\(e.cell? ⟨xp,10,none⟩=some (.pointer (some ⟨fb,0,none⟩))/\e.cell? ⟨xp,9,none⟩=some (.pointer (some ⟨sb,0,none⟩)))/\lK o w e xp kb sb fb cps (gM s) rb pb bb cb l rep av fv cn fm o':=by
 refine (qh4 h.tY a.len a.sl).mono ?_;rintro b c ⟨d,k,f,m,n,p⟩;have i:=Yy s.f;have t:=JF s.l;have u:=a.len;refine⟨d,k,⟨f.uF,f.c9⟩,(Ql f (by show 1<=(zd s.f).1.W/\(zd s.f).1.W<=16;rw[i.1];exact a.wd) (by show 1<=(zd s.f).1.H/\(zd s.f).1.H<=16;rw[i.2];exact a.ht) m n a.rc (by show (s.l.flatMap zW).length<=_;omega)).mono ?_⟩;rintro b e ⟨q,g,r⟩;exact⟨q,⟨g.uF,g.c9⟩,h.step (s':=gM s) g (p.trans r)⟩
def qp9 (c:lK o w wr xp kb sb fb cps (gM s) rb pb bb cb l rep av fv cn fm o')(j:xO s):Calls Tryz.prog 84 #[.pointer (some ⟨xp,0,none⟩)] wr fun b e=>∃ f g h d,b=.returned (.slice f g h)/\lK o w e xp kb sb fb cps (nn s) rb pb bb cb l rep (.slice f g h) fv (ZC s) fm d:=by
 refine (qm6 c.tY j.uc).mono ?_;rintro b e ⟨d,k,m,n,i,p⟩;have:=c.step (s':=nn s) m n;refine⟨_,_,_,d,k,this.tY,this.uq,this.rep,this.pv,this.uo,this.z,this.ge,?_,fun q a=>by simp[Value.ownBlock] at a;subst a;exact p,this.uj,this.fz,fun q a=>by simp[Value.ownBlock] at a;subst a;exact .inl c.uq.but.size,this.fg⟩;refine⟨i.1,?_⟩;rcases i.2 with r | ⟨t,u,v,b,y,x⟩
 ·exact .inl r
 ·exact .inr ⟨t,u,v,b,aj _,x⟩
def qp8 (e:lK o w wr xp kb sb fb cps (nn s) rb pb bb cb l rep av fv cn fm o')(a:xO s):Calls Tryz.prog 85 #[.pointer (some ⟨fb,0,none⟩),.int .i64 (s.t+1),.func (.func 86) #[.pointer (some ⟨sb,0,none⟩)] #[]] wr fun f b=>(∃ h,f=.returned h)/\(b.cell? ⟨xp,10,none⟩=some (.pointer (some ⟨fb,0,none⟩))/\b.cell? ⟨xp,9,none⟩=some (.pointer (some ⟨sb,0,none⟩))/\b.cell? ⟨xp,11,none⟩=some (.int .i64 (s.t+1)))/\∃ d,lK o w b xp kb sb fb cps (iu s) rb pb bb cb l rep av fv cn fm d:=by
 have g:=Y4 s;refine (qh7 e.tY a.fr (by rw[g.1];exact a.wd) (by rw[g.2];exact a.ht) a.ok a.len4 (s.t+1)).mono ?_;rintro f b ⟨i,d,c,j⟩;exact⟨i,⟨c.uF,c.c9,c.c11⟩,d,e.step (s':=iu s) c j⟩
structure sI (o:Nat->Nat)(w wr:World)(xp kb sb fb:Nat)(cps:List (Option Nat))(s:qY)(rb pb bb cb l p:Nat)(rep:Array Value)(av fv:Value)(cn:List Int)(fm:List (Int×Int))(o':Nat->Nat):Prop where
 tY:qI o' wr xp kb sb fb cps s
 uq:hb o o' w wr
 rep:wr.heap[rb]?=some (.cells rep 133 (0,0))
 pv:wr.heap[pb]?=some (.cells #[.pointer (some ⟨bb,0,none⟩)] 183 (0,0))
 uo:iY wr bb cb l p
 z:o' rb=0/\o' pb=0/\o' bb=0/\o' cb=0
 ge:w.heap.size<=rb/\w.heap.size<=bb/\w.heap.size<=cb
 uc:zh wr 0 av cn
 az:∀ b,av.ownBlock=some b->o' b=0
 uj:qN wr 0 153 fv (fm.map k2)
 fz:∀ b,fv.ownBlock=some b->o' b=0
 ag:∀ b,av.ownBlock=some b->w.heap.size<=b\/o b≠0
 fg:∀ b,fv.ownBlock=some b->w.heap.size<=b\/o b≠0
def qp7 (a:lK o w wr xp kb sb fb cps (iu s) rb pb bb cb l rep av fv cn fm o')(j:xO s)(v:l<=9223372036854775807):Calls Tryz.prog 87 #[.pointer (some ⟨fb,0,none⟩),.pointer (some ⟨bb,0,none⟩)] wr fun b f=>(∃ x,b=.returned x)/\(f.cell? ⟨xp,10,none⟩=some (.pointer (some ⟨fb,0,none⟩))/\f.cell? ⟨pb,0,none⟩=some (.pointer (some ⟨bb,0,none⟩)))/\sI o w f xp kb sb fb cps (vZ s l) rb pb bb cb (l-Je s l) (Je s l) rep av fv cn fm o':=by
 have q:=qq0 s;have y:(iu s).f.W*(iu s).f.H<=1000:=(by rw[q.1,q.2];have:=cK j.wd.2 j.ht.2;omega);obtain⟨z,A,B,C⟩:=a.z;refine (qh5 a.tY y j.dots a.uo B C v).mono ?_;rintro b f ⟨D,r,E,d⟩;have g:∀ {c:Nat}{h:Array Value}{k:TypeId}{i:Nat×Nat},wr.heap[c]?=some (.cells h k i)->k≠211->o' c=0->¬(o' c=3\/c=bb\/c=cb):=by
  rintro c h k i t F H (b | b | b)
  ·omega
  ·have:=a.uo.nS;rw[<-b,t] at this;simp at this;exact F this.2.1
  ·have:=a.uo.uI;rw[<-b,t] at this;simp at this
 have u:=d.heap a.pv (g a.pv (by decide) A);refine⟨D,⟨r.uF,qe u 0⟩,r,⟨a.uq.but.step d (fun c b=>?_),a.uq.ext,a.uq.four⟩,d.heap a.rep (g a.rep (by decide) z),u,E,a.z,a.ge,qi a.uc d (fun m e=>?_),a.az,qi a.uj d (fun m e=>?_),a.fz,a.ag,a.fg⟩
 ·rcases b with b | b | b
  ·rcases cz c w.heap.size with n | n
   ·exact .inl ⟨a.uq.ext c n (by omega),fun G=>by have:=a.uq.four c G;omega⟩
   ·exact .inr n
  ·exact .inr (by rw[b];exact a.ge.2.1)
  ·exact .inr (by rw[b];exact a.ge.2.2)
 ·obtain⟨h,i,p⟩:=qE a.uc e;exact g p (by decide) (a.az m e)
 ·obtain⟨h,i,p⟩:=qE a.uj e;exact g p (by decide) (a.fz m e)
def qy5 (o:Nat->Nat)(w:World)(xp kb sb fb:Nat)(cps:List (Option Nat))(s:qY)(c:Nat)(d:Ending)(b:World):Prop:=
 ∃ (o':Nat->Nat)(av fv:Value),d=.returned (.tuple #[.agg #[.int .i64 (s.t+1),.int .i64 (zd s.f).2.1,.int .i64 (Je s c:Int),av,fv],.int .i64 0])/\qI o' b xp kb sb fb cps (vZ s c)/\hb o o' w b/\zh b 0 av (ZC s)/\(∀ a,av.ownBlock=some a->o' a=0/\(w.heap.size<=a\/o a≠0))/\qN b 0 153 fv ((zd s.f).2.2.map k2)/\(∀ a,fv.ownBlock=some a->o' a=0/\(w.heap.size<=a\/o a≠0))
end
section
variable {o:Nat->Nat}{w wr:World}{xp kb sb fb:Nat}{cps:List (Option Nat)}{s:qY}{b:Nat}
def lK.begin (a:qI o w xp kb sb fb cps s)(k:w2=w.alloc (.cells #[.int .i64 0,.int .i64 0,.int .i64 0,.slice none 0 0,.slice none 0 0] 133))(n:iY m (w2.heap.size+1) w2.heap.size b 0)(c:Below w2.heap.size w2 m):lK o w (((m.setCell ⟨xp,11,none⟩ (.int .i64 (s.t+1))).setCell ⟨w.heap.size,0,none⟩ (.int .i64 (s.t+1))).alloc (.cells #[.pointer (some ⟨w2.heap.size+1,0,none⟩)] 183)) xp kb sb fb cps (tk1 s) w.heap.size m.heap.size (w2.heap.size+1) w2.heap.size b #[.int .i64 (s.t+1),.int .i64 0,.int .i64 0,.slice none 0 0,.slice none 0 0] (.slice none 0 0) (.slice none 0 0) [] [] o:=by
 have y:Below w.heap.size w w2:=(by rw[k];exact (aa _ w).alloc (zzl _) _);have q:=y.trans (c.mono y.size);have M:w2.heap.size=w.heap.size+1:=(by rw[k];simp);have z:w2.heap[w.heap.size]?=some (.cells #[.int .i64 0,.int .i64 0,.int .i64 0,.slice none 0 0,.slice none 0 0] 133):=(by rw[k];exact qt _ _ _ rfl);have F:m.heap[w.heap.size]?=_:=(c.block _ (qh z)).trans z;have N:=qh n.nS;have O:=a.xlt;obtain⟨A,e⟩:=(a.below q).ticks (s.t+1);have r:=a.ub (x:=w.heap.size) (zzl _);obtain⟨d,B⟩:=zx (m.setCell ⟨xp,11,none⟩ (.int .i64 (s.t+1)));rw[<-B] at A e ⊢;have h:gp (fun f=>f=w.heap.size) d (d.setCell ⟨w.heap.size,0,none⟩ (.int .i64 (s.t+1))):=(gp.refl (fun f=>f=w.heap.size) d).setCell (p:=⟨w.heap.size,0,none⟩) (.inl rfl) _;have G:d.heap[w.heap.size]?=_:=(e.block F r).1;have H:=(e.block n.nS (a.ub (by omega))).1;have I:=(e.block n.uI (a.ub (by omega))).1;have J:d.heap.size=m.heap.size:=(by rw[B];simp[World.setCell]);have C:=A.but h (fun f K t=>K (by rw[t];exact r));have D:hb o o w (d.setCell ⟨w.heap.size,0,none⟩ (.int .i64 (s.t+1))):=⟨((hb.below q).trans e).but.step h (fun f t=>.inr (by rw[t];exact zzl _)),fun _ _ a=>a,fun _ a=>a⟩;have u:=h.heap H (by omega);have v:=h.heap I (by omega);have x:=qp (i:=0) G (.int .i64 (s.t+1));have E:(d.setCell ⟨w.heap.size,0,none⟩ (.int .i64 (s.t+1))).heap.size=m.heap.size:=(by simp[World.setCell];exact J);obtain⟨j,L⟩:=zx (d.setCell ⟨w.heap.size,0,none⟩ (.int .i64 (s.t+1)));rw[<-L] at C D u v x E ⊢;have g:Below j.heap.size j (j.alloc (.cells #[.pointer (some ⟨w2.heap.size+1,0,none⟩)] 183)):=(aa _ j).alloc (zzl _) _;refine⟨C.below g,D.trans (hb.below g),?_,qt _ _ _ E.symm,⟨(g.block _ (qh u)).trans u,(g.block _ (qh v)).trans v⟩,⟨r,a.ub q.size,a.ub (by omega),a.ub (by omega)⟩,⟨zzl _,by omega,by omega⟩,⟨rfl,.inl ⟨rfl,rfl⟩⟩,fun b c=>by simp[Value.ownBlock] at c,⟨rfl,.inl ⟨rfl,rfl⟩⟩,fun b c=>by simp[Value.ownBlock] at c,fun b c=>by simp[Value.ownBlock] at c,fun b c=>by simp[Value.ownBlock] at c⟩;exact (g.block _ (qh x)).trans x
def V6 (c:Array Value)(w:World)(d:Nat)(a:Array Value)(e:c.getD 4 undef=.pointer (some ⟨d,0,none⟩))(f:w.heap[d]?=some (.cells a 133))(g:a.size=5):(results Tryz.f48 c).run Tryz.prog w=.ok (.tuple #[.agg a,c.getD 5 undef]) w:=by
 rw[fW rfl,e];have h:=gg (P:=Tryz.prog) w d 133 133 a (0,0) _ f Tryz.underlying133 rfl (by rw[g];rfl);simp[asAddr,h,Result.andThen]
variable {o':Nat->Nat}{rb pb bb cb l p:Nat}{rep:Array Value}{av fv:Value}{cn:List Int}{fm:List (Int×Int)}
def sI.set (a:sI o w wr xp kb sb fb cps s rb pb bb cb l p rep av fv cn fm o')(f:Nat)(h:Value):sI o w (wr.setCell ⟨rb,f,none⟩ h) xp kb sb fb cps s rb pb bb cb l p (rep.setIfInBounds f h) av fv cn fm o':=by
 have e:gp (fun d=>d=rb) wr (wr.setCell ⟨rb,f,none⟩ h):=(gp.refl (fun d=>d=rb) wr).setCell (p:=⟨rb,f,none⟩) (.inl rfl) _;have i:∀ {d:Nat}{j:Array Value}{q:TypeId}{k:Nat×Nat},wr.heap[d]?=some (.cells j q k)->q≠133->¬d=rb:=fun g r c=>by rw[c,a.rep] at g;simp at g;exact r g.2.1.symm
 have t:¬cb=rb:=fun c=>by have:=a.uo.uI;rw[c,a.rep] at this;simp at this
 refine⟨a.tY.but e (fun d g c=>g (by rw[c];exact a.z.1)),⟨a.uq.but.step e (fun d c=>.inr (by rw[c];exact a.ge.1)),a.uq.ext,a.uq.four⟩,qp (i:=f) a.rep h,e.heap a.pv (i a.pv (by decide)),⟨e.heap a.uo.nS (i a.uo.nS (by decide)),e.heap a.uo.uI t⟩,a.z,a.ge,qi a.uc e (fun b m c=>?_),a.az,qi a.uj e (fun b m c=>?_),a.fz,a.ag,a.fg⟩
 ·obtain⟨j,k,n⟩:=qE a.uc m;exact i n (by decide) c
 ·obtain⟨j,k,n⟩:=qE a.uj m;exact i n (by decide) c
def sI.end (c:sI o w wr xp kb sb fb cps s rb pb bb cb l p rep av fv cn fm o')(f:gp (fun k=>k=bb\/k=cb) wr w2)(e:Value):qI o' (w2.setCell ⟨rb,2,none⟩ e) xp kb sb fb cps s/\hb o o' w (w2.setCell ⟨rb,2,none⟩ e)/\zh (w2.setCell ⟨rb,2,none⟩ e) 0 av cn/\qN (w2.setCell ⟨rb,2,none⟩ e) 0 153 fv (fm.map k2)/\(w2.setCell ⟨rb,2,none⟩ e).heap[rb]?=some (.cells (rep.setIfInBounds 2 e) 133 (0,0)):=by
 have h:gp (fun d=>d=rb\/d=bb\/d=cb) wr (w2.setCell ⟨rb,2,none⟩ e):=(f.wide (fun _ _ a=>.inr a)).setCell (p:=⟨rb,2,none⟩) (.inl (.inl rfl)) _;have t:¬(rb=bb\/rb=cb):=by
  rintro (a | a)
  ·have:=c.uo.nS;rw[<-a,c.rep] at this;simp at this
  ·have:=c.uo.uI;rw[<-a,c.rep] at this;simp at this
 have r:∀ {d:Nat}{j:Array Value}{m:TypeId}{n:Nat×Nat},wr.heap[d]?=some (.cells j m n)->m≠133->m≠211->¬(d=rb\/d=bb\/d=cb):=by
  rintro d j m n g u v (a | a | a)
  ·rw[a,c.rep] at g;simp at g;exact u g.2.1.symm
  ·have:=c.uo.nS;rw[<-a,g] at this;simp at this;exact v this.2.1
  ·have:=c.uo.uI;rw[<-a,g] at this;simp at this
 obtain⟨x,y,z,A⟩:=c.z;refine⟨c.tY.but h (fun d g a=>?_),⟨c.uq.but.step h (fun d a=>.inr ?_),c.uq.ext,c.uq.four⟩,qi c.uc h (fun b f=>?_),qi c.uj h (fun b f=>?_),qp (i:=2) (f.heap c.rep t) e⟩
 ·rcases a with a | a | a<;>subst a<;>contradiction
 ·rcases a with a | a | a
  ·rw[a];exact c.ge.1
  ·rw[a];exact c.ge.2.1
  ·rw[a];exact c.ge.2.2
 ·obtain⟨j,n,q⟩:=qE c.uc f;exact r q (by decide) (by decide)
 ·obtain⟨j,n,q⟩:=qE c.uj f;exact r q (by decide) (by decide)
def qy4 (S:qI o w xp kb sb fb cps s)(hF:xO s)(b:Nat)(T:b<=9223372036854775807):Calls Tryz.prog 48 #[.pointer (some ⟨xp,0,none⟩),.int .i64 (b:Int)] w (qy5 o w xp kb sb fb cps s b):=by
 have e2:∀ (i:Fn)(first U:Array Value)(w:World),(Instr.makeFunc i first U).run Tryz.prog w=.ok (.func i first U) w:=fun _ _ _ _=>rfl;obtain⟨e,V⟩:∃ e:World,e=w.alloc (.cells #[.int .i64 0,.int .i64 0,.int .i64 0,.slice none 0 0,.slice none 0 0] 133):=⟨_,rfl⟩;have W:=qg (Xr b e);have j:=qg V;have y:=qg S;have z:=qg hF;have e3:¬(b:Int)<0:=(by omega);have e4:=hF.t;have X:IntKind.i64.wrap (s.t+1)=s.t+1:=(by rw[af];omega);have c4:=T;clear S hF V T
 go_enter_defers Tryz.func48,Tryz.ntmps48
 go_wp2_with (go_at_call 79;rw[<-qb j];refine (qb W).mono ?_;rintro g Y ⟨rfl,Z,A⟩;have a0:=lK.begin (qb y) (qb j) Z A;have a1:=(by rw[qb j];exact (aa _ w).alloc (zzl _) _:Below w.heap.size w e).trans (A.mono (by rw[qb j];simp));have n:=(qb y).below a1;have B:=n.c11;have h:=n.uF;have c5:=fun a=>qj n.nS a;have c6:=n.xlt;have C:Y.heap[w.heap.size]?=some (.cells #[.int .i64 0,.int .i64 0,.int .i64 0,.slice none 0 0,.slice none 0 0] 133):=(by have h1:e.heap[w.heap.size]?=some (.cells #[.int .i64 0,.int .i64 0,.int .i64 0,.slice none 0 0,.slice none 0 0] 133):=(by rw[qb j];exact qt _ _ _ rfl);exact (A.block _ (qh h1)).trans h1);obtain⟨c7,-⟩:=zzc C;have rz:=fun a=>qj C a;have c8:=qh C;have c9:¬xp=w.heap.size:=(by have:=(qb y).xlt;omega);have a2:=qg a0;clear Z A a0 a1 n C)
 refine (qz5 (qb a2)).mono ?_;rintro g d0 ⟨fv,e5,rfl,k⟩;obtain⟨G,H,a3⟩:=qr k.uj;obtain⟨i,I⟩:=zx (((zd s.f).2.2.map k2).length);rw[<-I] at a3;subst a3;obtain⟨rb,D⟩:=zx w.heap.size;obtain⟨pb,J⟩:=zx Y.heap.size;obtain⟨cb,a4⟩:=zx e.heap.size;obtain⟨bb,K⟩:=zx (e.heap.size+1);rw[<-K,<-a4,<-J,<-D] at k;rw[<-K,<-J,<-D];obtain⟨L,M⟩:=zx ((zd s.f).2.1);rw[<-M];obtain⟨-,d1,-,-,d2,-⟩:=zzc k.rep;have N:=fun a=>qj k.rep a;have q:=qg ((k.set 1 (.int .i64 L)).set 4 (.slice G i H));have e6:=qg I;have d3:=qg M;have e7:=qg D;clear k a2 B h c5 c6 c7 rz c8 c9 W j y I M D J a4 K;go_wp2;obtain⟨e8,a5⟩:=zx ((d0.setCell ⟨rb,1,none⟩ (.int .i64 L)).setCell ⟨rb,4,none⟩ (.slice G i H));rw[<-a5] at q ⊢;have h:=(qb q).tY.uF;have r:=(qb q).tY.c9;have a6:=qg (qp6 (qb q).drew (qb z));clear a5 d1 d2 N;go_region_held3 (fun c=>c.cell? ⟨xp,10,none⟩=some (.pointer (some ⟨fb,0,none⟩))/\c.cell? ⟨xp,9,none⟩=some (.pointer (some ⟨sb,0,none⟩))) (first | exact qb t | exact qb a7 | exact⟨h,r⟩ | go_keep)
  (first
    | (go_at_call 83;refine (qb a6).mono ?_;rintro g e9 ⟨f0,rfl,a8,a9⟩;have a7:=qg a8;have b0:=qg a9;clear a8 a9)
    | (go_at_call 41;refine (qb b0).mono ?_;rintro g f1 ⟨⟨u6,rfl⟩,u,b1⟩;have t:=qg u;have b2:=qg b1;clear u b1))
 have b3:=qg (qp9 (qb b2) (qb z));clear a6 q a7 b0 h r b2 t
 go_wp2_with (go_at_call 84;refine (qb b3).mono ?_;rintro g d4 ⟨O,P,Q,f2,rfl,E⟩;obtain⟨d5,-⟩:=zzk E.rep 3;have N:=fun a=>qj E.rep a;have m:=qg (E.set 3 (.slice O P Q));clear E)
 obtain⟨f3,b4⟩:=zx (d4.setCell ⟨rb,3,none⟩ (.slice O P Q));rw[<-b4] at m ⊢;have h:=(qb m).tY.uF;have r:=(qb m).tY.c9;have B:=(qb m).tY.c11;have b5:=qg (qp8 (qb m).drew (qb z));clear b4 d5 N b3;go_region_held3 (fun c=>c.cell? ⟨xp,10,none⟩=some (.pointer (some ⟨fb,0,none⟩))/\c.cell? ⟨xp,9,none⟩=some (.pointer (some ⟨sb,0,none⟩))/\c.cell? ⟨xp,11,none⟩=some (.int .i64 (s.t+1))) (first | exact qb t | exact⟨h,r,B⟩ | go_keep)
  ((go_at_call 85;refine (qb b5).mono ?_;rintro g d6 ⟨⟨u9,rfl⟩,u,f4,b6⟩;have t:=qg u;have F:=qg b6;clear u b6))
 have b7:=qg (qp7 (qb F).drew (qb z) c4);have b8:=(qb F).tY.uF;have b9:d6.cell? ⟨pb,0,none⟩=some (.pointer (some ⟨bb,0,none⟩)):=qe (qb F).pv 0;clear b5 m h r B t;go_wp2_with fail
 go_region_held3 (fun c=>c.cell? ⟨xp,10,none⟩=some (.pointer (some ⟨fb,0,none⟩))/\c.cell? ⟨pb,0,none⟩=some (.pointer (some ⟨bb,0,none⟩))) (first | exact qb c0 | exact⟨b8,b9⟩ | go_keep)
  ((go_at_call 87;refine (qb b7).mono ?_;rintro g f5 ⟨⟨f6,rfl⟩,c1,c2⟩;have c0:=qg c1;have c3:=qg c2;clear c1 c2))
 clear b7 F b8 b9 c0;have R:=(qb c3).rep;obtain⟨f7,f8,f9,g0,g1,-⟩:=zzc R;have g2:=fun a=>qj R a;clear R;go_wp2;have d:=((((((qb c3).set 0 (.int .i64 (s.t+1))).set 1 (.int .i64 L)).set 2 (.int .i64 0)).set 3 (.slice O P Q)).set 4 (.slice G i H));refine leaves_cons (f:=80) (args:=#[.pointer (some ⟨pb,0,none⟩),.pointer (some ⟨rb,0,none⟩)]) (by simp) (by simp[go_sem]) ?_;refine (qz9 .returning d.pv d.uo d.rep (by simp)).mono ?_;rintro g g3 g4 ⟨rfl,rfl,g5,d7,rfl⟩;obtain⟨X,d8,d9,e0,e1⟩:=d.end d7 (.int .i64 (Je s b:Int));refine⟨_,V6 _ _ rb _ (by kernel_rfl) e1 (by simp),?_⟩;refine⟨_,_,_,?_,X,d8,d9,fun v x=>⟨d.az v x,d.ag v x⟩,e0,fun v x=>⟨d.fz v x,d.fg v x⟩⟩;rw[<-qb d3];kernel_rfl
end
variable{P:Program}
def QG (a c:TypeId)(d:Addr)(e:Nat)(f:P.underlying a=some (.pointer c))(b:World):(Op.equalIn (e+1) a (.pointer none) (.pointer (some d))).run P b=.ok false b:=by
 simp[Op.equalIn,cV f]
def ZQ (b:TypeId)(c:Addr)(e:P.underlying b=some (.pointer d))(a:World):(binOp .eql b (.pointer none) (.pointer (some c))).run P a=.ok (.bool false) a:=by
 have f:(Op.equal b (.pointer none) (.pointer (some c))).run P a=.ok false a:=QG b d c 9999 e a;simp only[binOp];simp[f]
def qC {a:Type}:List (Option a)->Option Nat
 | []=>none
 | none::_=>some 0
 | some _::b=>(qC b).map (· + 1)
def ko {g:Type}:∀ (a:List (Option g))(b:Nat),(∀ (d:Nat)(e:Option g),d<b->a[d]?=some e->e≠none)->a[b]?=some none->qC a=some b
 | [],b,_,c=>by simp at c
 | none::a,0,_,c=>rfl
 | some e::a,0,_,c=>by simp at c
 | none::a,b+1,f,c=>absurd rfl (f 0 none (by omega) rfl)
 | some e::a,b+1,f,c=>by
  have h:=ko a b (fun d i k j=>f (d+1) i (by omega) (by simpa using j)) (by simpa using c);simp[qC,h]
def kt {e:Type}:∀ (a:List (Option e)),(∀ (b:Nat)(c:Option e),a[b]?=some c->c≠none)->qC a=none
 | [],_=>rfl
 | none::a,d=>absurd rfl (d 0 none rfl)
 | some c::a,d=>by
  have f:=kt a (fun b g h=>d (b+1) g (by simpa using h));simp[qC,f]
def yC {d:Type}:∀ (b:List (Option d))(c:Nat),qC b=some c->b[c]?=some none
 | [],c,a=>by simp[qC] at a
 | none::b,c,a=>by simp[qC] at a;subst a;rfl
 | some g::b,c,a=>by
  simp only[qC,cN] at a;obtain⟨e,f,rfl⟩:=a;simpa using yC b e f
def kq {f g:Type}:∀ (a:List (Option f))(b:List (Option g)),a.length=b.length->(∀ e:Nat,a[e]?=some none↔b[e]?=some none)->qC a=qC b
 | [],[],_,_=>rfl
 | [],_::_,c,_=>by simp at c
 | _::_,[],c,_=>by simp at c
 | none::a,j::b,c,d=>by
  have:=(d 0).1 rfl;simp at this;subst this;rfl
 | some h::a,none::b,c,d=>by
  have:=(d 0).2 rfl;simp at this
 | some h::a,some k::b,c,d=>by
  have i:=kq a b (by simpa using c) (fun e=>by simpa using d (e+1));simp[qC,i]
def pa.uB {o:Nat->Nat}{w:World}{cps:List (Option Nat)}(b:pa o w n cps a6)(a:Nat):cps[a]?=some none↔a6[a]?=some none:=by
 refine⟨fun d=>?_,b.no a⟩;have e:=(zzg d).1;rw[b.len] at e;cases c:a6[a]? with
 | none=>rw[aB e] at c;cases c
 | some g=>
  cases g with
  | none=>rfl
  | some h=>
   obtain⟨i,f,_⟩:=b.yes a h c;rw[d] at f;simp at f
def pa.first {o:Nat->Nat}{w:World}{cps:List (Option Nat)}(a:pa o w n cps a6):qC cps=qC a6:=kq cps a6 a.len a.uB
def Kr (kb:Nat)(b:List (Option Nat))(w:World)(n:∀ (j:Nat)(o:Option Nat),b[j]?=some o->w.cell? ⟨kb,j,none⟩=some (vK o))(C:b.length<=1000):Calls Tryz.prog 39 #[.slice (some ⟨kb,0,none⟩) b.length b.length,.pointer none] w fun i t=>∃ k:Int,i=.returned (.int .i64 k)/\(∃ e,t=w.drewN e)/\((qC b=none/\k=-1)\/∃ a:Nat,qC b=some a/\k=(a:Int)):=by
 have u:=qg n;clear n;go_enter Tryz.func39,Tryz.ntmps39;go_wp2;go_loopw [8] (fun c wr=>∃ a:Nat,a<=b.length/\c=.int .i64 a/\(∃ e,wr=w.drewN e)/\∀ (c:Nat)(d:Option Nat),c<a->b[c]?=some d->d≠none) (fun c _=>b.length-(intOf c).toNat)
 case atStart=>exact⟨0,aj _,rfl,⟨0,rfl⟩,fun c d v=>by omega⟩
 case round=>
  obtain⟨a,D,rfl,⟨e,rfl⟩,p⟩:=hrel;have l:=qg p;clear p;by_cases x:a<b.length
  ·obtain⟨d,f⟩:∃ d,b[a]?=some d:=⟨b[a],by simp[x]⟩;have g:=(qb u) a d f;have E:(0:Int)<=(a:Int):=(by omega);have y:(a:Int)<(b.length:Int):=(by omega);have q:=qg f;clear f;cases d with
   | none=>
    unfold vK at g;simp only[gh] at g;go_wp2;go_ret;exact⟨a,rfl,⟨e,rfl⟩,.inr ⟨a,ko b a (qb l) (qb q),rfl⟩⟩
   | some z=>
    unfold vK at g;simp only[bO] at g;have F:∀ h:World,(binOp .eql 104 (.pointer none) (.pointer (some ⟨z,0,none⟩))).run Tryz.prog h=.ok (.bool false) h:=fun h=>by
     exact ZQ _ _ Tryz.underlying104 h
    go_wp2;go_roundw
    case rel=>
     refine⟨a+1,by omega,by go_num,⟨_,rfl⟩,fun c A v m=>?_⟩;rcases cz c a with r | r
     ·exact (qb l) c A r m
     ·have i:c=a:=(by omega);subst i;rw[qb q] at m;cases m
      exact fun B=>by cases B
    case measure=>simp[intOf];omega
  ·have y:¬(a:Int)<(b.length:Int):=(by omega);go_wp2;go_ret;refine⟨-1,rfl,⟨e,rfl⟩,.inl ⟨kt b fun c d f=>(qb l) c d ?_ f,rfl⟩⟩;have:=(zzg f).1;omega
def jS {b:Type}(c:List (Option b))(a:Int):Bool:=decide (0<=a)&&(match c[a.toNat]? with | some (some _)=>true | _=>false)
section
variable {o:Nat->Nat}{w:World}{xp kb sb fb:Nat}{cps:List (Option Nat)}{s:qY}
def pa.wi (c:pa o w n cps a6)(a:Int):jS cps a=jS a6 a:=by
 unfold jS;congr 1
 cases b:a6[a.toNat]? with
 | none=>
  have:cps[a.toNat]?=none:=(by rw[fc] at b ⊢;rw[c.len];exact b);rw[this]
 | some d=>
  cases d with
  | none=>rw[c.no _ b]
  | some e=>obtain⟨g,f,_⟩:=c.yes _ e b;rw[f]
def xJ (f:qI o w xp kb sb fb cps s)(n:cps.length<=4)(c:Int):Calls Tryz.prog 40 #[.pointer (some ⟨xp,0,none⟩),.int .i64 c] w fun a e=>a=.returned (.bool (jS s.ks c))/\Below w.heap.size w e:=by
 have p:=f.c8;have l:∀ (b:Nat)(d:Option Nat),cps[b]?=some d->w.cell? ⟨kb,b,none⟩=some (vK d):=fun b d g=>by rw[qe f.cls];simp[g]
 rw[<-f.ks.wi];have q:IntKind.i64.wrap ((cps.length:Int)-1)=(cps.length:Int)-1:=(by rw[af];omega);have h:Hid (∀ w,Calls Tryz.prog 72 #[.int .i64 c,.int .i64 0,.int .i64 ((cps.length:Int)-1)] w fun a e=>a=.returned (.bool (gz c 0 ((cps.length:Int)-1)))/\e=w):=fun w=>zk _ _ _ w;by_cases i:gz c 0 ((cps.length:Int)-1)=true
 ·have m:=i;unfold gz at m;simp only[aK,be] at m;obtain⟨b,rfl⟩:∃ b:Nat,c=b:=⟨c.toNat,by omega⟩;obtain⟨d,g⟩:∃ d,cps[b]?=some d:=⟨cps[b]'(by omega),by simp⟩;have j:=l b d g;have a:jS cps (b:Int)=d.isSome:=(by simp[jS,g];cases d<;>rfl);have r:(0:Int)<=(b:Int):=(by omega);have t:(b:Int)<(cps.length:Int):=(by omega);rw[i] at h;rw[a];clear f g a m i l;cases d with
  | none=>
   unfold vK at j;simp only[gh] at j;go_enter Tryz.func40,Tryz.ntmps40;go_wp2_with (go_at_call 72;refine ((qb h) _).mono ?_;rintro a e ⟨rfl,rfl⟩)
   go_ret;exact⟨rfl,aa _ _⟩
  | some u=>
   unfold vK at j;simp only[bO] at j;go_enter Tryz.func40,Tryz.ntmps40;go_wp2_with (go_at_call 72;refine ((qb h) _).mono ?_;rintro a e ⟨rfl,rfl⟩)
   go_ret;exact⟨rfl,aa _ _⟩
 ·have k:gz c 0 ((cps.length:Int)-1)=false:=(by simpa using i);have a:jS cps c=false:=by
   unfold gz at k;unfold jS;by_cases h0:0<=c
   ·have:¬c.toNat<cps.length:=(by intro v;simp only[dV,cg] at k;omega);rw[aI (by omega)];simp
   ·simp[h0]
  rw[k] at h;rw[a];clear f a i k l;go_enter Tryz.func40,Tryz.ntmps40;go_wp2_with (go_at_call 72;refine ((qb h) _).mono ?_;rintro a e ⟨rfl,rfl⟩)
  go_ret;exact⟨rfl,aa _ _⟩
def qy3 (w:World)(xp:Nat)(a:Int)(f:a<0):Calls Tryz.prog 48 #[.pointer (some ⟨xp,0,none⟩),.int .i64 a] w fun d e=>d=.returned (.tuple #[.agg #[.int .i64 0,.int .i64 0,.int .i64 0,.slice none 0 0,.slice none 0 0],.int .i64 3])/\Below w.heap.size w e:=by
 have b:Below w.heap.size w (w.alloc (.cells #[.int .i64 0,.int .i64 0,.int .i64 0,.slice none 0 0,.slice none 0 0] 133)):=(aa _ w).alloc (zzl _) _;have c:=qg b;clear b;go_enter Tryz.func48,Tryz.ntmps48;go_wp2;refine bV (V6 _ _ w.heap.size #[.int .i64 0,.int .i64 0,.int .i64 0,.slice none 0 0,.slice none 0 0] (by kernel_rfl) ?_ rfl) rfl ⟨by kernel_rfl,?_⟩
 ·have h1:=qt w (.cells #[.int .i64 0,.int .i64 0,.int .i64 0,.slice none 0 0,.slice none 0 0] 133) _ rfl
  first | exact h1 | simpa using qp (i:=4) (qp (i:=3) (qp (i:=2) (qp (i:=1) (qp (i:=0) h1 (.int .i64 0)) (.int .i64 0)) (.int .i64 0)) (.slice none 0 0)) (.slice none 0 0)
 ·first | exact qb c | exact ((((((qb c).setCell (p:=⟨w.heap.size,0,none⟩) (zzl _) _).setCell (p:=⟨w.heap.size,1,none⟩) (zzl _) _).setCell (p:=⟨w.heap.size,2,none⟩) (zzl _) _).setCell (p:=⟨w.heap.size,3,none⟩) (zzl _) _).setCell (p:=⟨w.heap.size,4,none⟩) (zzl _) _)
def qc4 (a:qI o w xp kb sb fb cps s)(d:s.f.front<3)(e:s.f.W*s.f.H<=1000):Calls Tryz.prog 18 #[.pointer (some ⟨xp,0,none⟩)] w (kZ w (s.f.b s.f.front).px):=by
 obtain⟨h,b⟩:=a.uy;have i:=a.uF;have f:=qg (qn4 b d e);generalize (s.f.b s.f.front).px=j at *;clear a b;go_enter Tryz.func18,Tryz.ntmps18;go_wp2_with (go_at_call 52;refine (qb f).mono ?_;rintro k l ⟨m,rfl,c⟩;have g:=qg c;clear c)
 go_ret;exact⟨_,rfl,qb g⟩
end
def yS (a:hg):gF:=⟨[],0,List.replicate a.iE.toNat false⟩
def JX:Array Value:=#[.slice none 0 0,.int .i64 0,.bool false,.bool false,.bool false,.bool false]
section
variable {o:Nat->Nat}{w:World}{xp kb sb fb:Nat}{cps:List (Option Nat)}{s:qY}
def qI.connect (d:qI o w xp kb sb fb cps s)(t:s.ks[n]?=some none)(u:s.c.iE.toNat<=4):∃ q,qI q ((w.setCell ⟨kb,n,none⟩ (.pointer (some ⟨w.heap.size,0,none⟩))).alloc (.cells JX 113)) xp kb sb fb (cps.set n (some w.heap.size)) {s with ks:=s.ks.set n (some (yS s.c))}/\hb o q w ((w.setCell ⟨kb,n,none⟩ (.pointer (some ⟨w.heap.size,0,none⟩))).alloc (.cells JX 113)):=by
 obtain⟨l,k⟩:=zx ((w.setCell ⟨kb,n,none⟩ (.pointer (some ⟨w.heap.size,0,none⟩))).alloc (.cells JX 113));rw[<-k];have g:gp (fun a=>a=kb) w l:=(by rw[k];exact ((gp.refl (fun a=>a=kb) w).setCell (p:=⟨kb,n,none⟩) (.inl rfl) _).alloc _);have j:l.heap[w.heap.size]?=some (.cells JX 113):=(by rw[k];exact qt _ _ _ (by simp[World.setCell]));have m:=(zzg t).1;have v:l.heap[kb]?=some (.cells ((cps.set n (some w.heap.size)).map vK).toArray 104 (0,0)):=(by have:=qx (qp (i:=n) d.cls (.pointer (some ⟨w.heap.size,0,none⟩))) (.cells JX 113);rw[k,dh];simpa[vK] using this);have r:=d.ub (x:=w.heap.size) (zzl _);refine⟨fun a=>if a=w.heap.size then 5+n else o a,?_,.of g (fun a _ b=>by rw[b,d.tX];omega) (fun a c j=>?_) (fun a c=>?_)⟩
 ·have f:∀ a,o a≠0->(if a=w.heap.size then 5+n else o a)=o a:=fun a c=>by rw[ah (fun b=>c (by rw[b];exact r))]
  refine⟨?_,v,⟨by rw[aG,aG];exact d.ks.len,fun h e=>?_,fun h x e=>?_⟩,?_,?_,?_,?_,fun a c=>?_⟩
  ·rw[aG];exact g.heap d.nS (fun b=>d.xk b)
  ·by_cases b:h=n
   ·subst b;rw[ar m] at e;simp at e
   ·rw[bc (cu b)] at e ⊢;exact d.ks.no h e
  ·by_cases b:h=n
   ·subst b;rw[ar m] at e;simp only[ac] at e;subst e;refine⟨w.heap.size,by rw[ar (by rw[d.ks.len];exact m)],.slice none 0 0,[],[false,false,false,false],?_,⟨rfl,.inl ⟨rfl,rfl⟩⟩,fun F y=>by simp at y,rfl,rfl,?_,by simp,fun G z=>by simp[Value.ownBlock] at z⟩
    ·exact j
    ·show [false,false,false,false].take s.c.iE.toNat=List.replicate s.c.iE.toNat false;rw[show [false,false,false,false]=List.replicate 4 false from rfl,fI,bK u]
   ·rw[bc (cu b)] at e ⊢;obtain⟨A,B,C⟩:=d.ks.yes h x e;refine⟨A,B,(C.but g (fun a c b=>by rw[b,d.tX] at c;omega) (fun a c b=>by rw[b,d.tX] at c;omega)).mono (fun a c=>?_) (fun a c=>?_)⟩
    ·show (if a=w.heap.size then 5+n else o a)=5+h;rw[f a (by omega)];exact c
    ·show (if a=w.heap.size then 5+n else o a)=4;rw[f a (by omega)];exact c
  ·refine (d.uN.but g (fun a c b=>by rw[b,d.tX] at c;omega) (fun a c b=>by rw[b,d.tX] at c;omega)).mono (fun a c=>?_) (fun a c=>?_)
   ·show (if a=w.heap.size then 5+n else o a)=2;rw[f a (by omega)];exact c
   ·show (if a=w.heap.size then 5+n else o a)=4;rw[f a (by omega)];exact c
  ·obtain⟨D,E⟩:=d.uy;refine⟨D,(E.but g (fun a c b=>by rw[b,d.tX] at c;omega)).mono (fun a c=>?_)⟩;show (if a=w.heap.size then 5+n else o a)=3;rw[f a (by omega)];exact c
  ·show (if xp=w.heap.size then 5+n else o xp)=1;rw[f xp (by rw[d.ua];omega)];exact d.ua
  ·show (if kb=w.heap.size then 5+n else o kb)=1;rw[f kb (by rw[d.tX];omega)];exact d.tX
  ·by_cases b:a=w.heap.size
   ·rw[b];exact qh j
   ·simp only[b,dE] at c;exact zzm (d.lt a c) g.size
 ·have b:¬a=w.heap.size:=(by omega);simp only[b,dE] at j;exact j
 ·show (if a=w.heap.size then 5+n else o a)=4;rw[ah (fun b=>by rw[b,r] at c;omega)];exact c
def ze6 (o:Nat->Nat)(w:World)(xp kb sb fb:Nat)(s:qY)(c:Ending)(a:World):Prop:=
 (∃ (b:Nat)(d:Nat->Nat)(e:List (Option Nat)),qC s.ks=some b/\c=.returned (.tuple #[.int .i64 (b:Int),.int .i64 0])/\qI d a xp kb sb fb e {s with ks:=s.ks.set b (some (yS s.c))}/\hb o d w a)\/(qC s.ks=none/\c=.returned (.tuple #[.int .i64 0,.int .i64 5])/\Below w.heap.size w a)
def Y0 (e:qI o w xp kb sb fb cps s)(v:s.ks.length<=4)(x:s.c.iE.toNat<=4):Calls Tryz.prog 12 #[.pointer (some ⟨xp,0,none⟩)] w (ze6 o w xp kb sb fb s):=by
 have K:cps.length<=4:=(by rw[e.ks.len];exact v);have l:=e.c8;have m:=e.ks.first;have a:∀ (h:Nat)(i:Option Nat),cps[h]?=some i->w.cell? ⟨kb,h,none⟩=some (vK i):=fun h i y=>by rw[qe e.cls];simp[y]
 have n:=qg (Kr kb cps w a (by omega));have g:=qg e;have p:=qg m;have z:=qg a;clear e m a;go_enter Tryz.func12,Tryz.ntmps12;go_wp2_with fail
 refine (qb n).mono ?_;rintro L j ⟨M,rfl,⟨b,rfl⟩,c⟩;clear n;rcases c with ⟨c,rfl⟩ | ⟨d,c,rfl⟩
 ·have k:=qg c;clear c;go_wp2;go_ret2
  exact .inr ⟨by rw[<-qb p];exact qb k,rfl,ax (aa _ _) _⟩
 ·have a:=yC cps d c;have N:=(zzg a).1;have q:=(qb g).ks.uB d |>.1 a;have A:=qh (qb g).cls;have O:(w.drewN b).cell? ⟨kb,d,none⟩=some (.pointer none):=(qb z) d _ a;have B:∀ f,(w.drewN b).frozen? ⟨kb,f,none⟩=false:=qj (qb g).cls;have P:(w.drewN b).cell? ⟨xp,8,none⟩=some (.slice (some ⟨kb,0,none⟩) cps.length cps.length):=l;have Q:(0:Int)<=(d:Int):=(by omega);have R:(d:Int)<(cps.length:Int):=(by omega);have C:¬(d:Int)<0:=(by omega);have k:=qg c;have D:=qg q;have E:kb<(w.drewN b).heap.size:=A;have r:=(qb g).below (ax (aa _ w) b);have t:hb o o w (w.drewN b):=hb.below (ax (aa _ w) b);clear c a l q;generalize w.drewN b=j at *;have S:∀ (f:Nat)(u:Obj),(j.alloc u).frozen? ⟨kb,f,none⟩=false:=fun f u=>(cW (w:=j) (bH _ _ _ E)).trans (B f);have F:=qg r;have G:=qg t;clear r t C;go_wp2;go_ret2
  obtain⟨H,I,J⟩:=(qb F).connect (qb D) x;exact .inl ⟨d,H,_,by rw[<-qb p];exact qb k,rfl,I,(qb G).trans J⟩
def qI.gone (b:qI o w xp kb sb fb cps s)(d:Nat):qI o (w.setCell ⟨kb,d,none⟩ (.pointer none)) xp kb sb fb (cps.set d none) {s with ks:=s.ks.set d none}/\hb o o w (w.setCell ⟨kb,d,none⟩ (.pointer none)):=by
 have g:gp (fun a=>a=kb) w (w.setCell ⟨kb,d,none⟩ (.pointer none)):=(gp.refl (fun a=>a=kb) w).setCell (p:=⟨kb,d,none⟩) (.inl rfl) _;have h:∀ a,o a≠1->¬a=kb:=fun a f c=>f (by rw[c];exact b.tX);refine⟨⟨by rw[aG];exact g.heap b.nS (fun c=>b.xk c),?_,⟨by rw[aG,aG];exact b.ks.len,fun j e=>?_,fun j l e=>?_⟩,b.uN.but g (fun a f=>h a (by omega)) (fun a f=>h a (by omega)),?_,b.ua,b.tX,fun a f=>zzm (b.lt a f) g.size⟩,.of g (fun a _ c=>by rw[c,b.tX];omega) (fun _ _ b=>b) (fun _ b=>b)⟩
 ·have:=qp (i:=d) b.cls (.pointer none);rw[this,dh];simp[vK]
 ·by_cases c:j=d
  ·subst c;have k:=(zzg e).1;rw[aG] at k;rw[ar (by rw[b.ks.len];exact k)]
  ·rw[bc (cu c)] at e ⊢;exact b.ks.no j e
 ·by_cases c:j=d
  ·subst c;have k:=(zzg e).1;rw[aG] at k;rw[ar k] at e;simp at e
  ·rw[bc (cu c)] at e ⊢;obtain⟨m,n,q⟩:=b.ks.yes j l e;exact⟨m,n,q.but g (fun a f=>h a (by omega)) (fun a f=>h a (by omega))⟩
 ·obtain⟨r,t⟩:=b.uy;exact⟨r,t.but g (fun a f=>h a (by omega))⟩
def yi (s:qY)(a:Nat):qY:={s with ks:=s.ks.set a none,l:=s.l.filter (fun b=>!(b.cl == (a:Int))),f:=ji (zX s.f ((s.l.filter fun b=>b.cl == (a:Int)).flatMap jf)) a}
structure J5 (s:qY)(k:Nat):Prop where
 len:s.l.length<=1000
 wd:1<=s.f.W/\s.f.W<=16
 ht:1<=s.f.H/\s.f.H<=16
 rc:∀ r∈(s.l.filter fun x=>x.cl == (k:Int)).flatMap jf,Q9 r
 rl:((s.l.filter fun x=>x.cl == (k:Int)).flatMap jf).length<=1000000
 ml:(zX s.f ((s.l.filter fun x=>x.cl == (k:Int)).flatMap jf)).marks.length<=1000000000
 fl:∀ g,(zX s.f ((s.l.filter fun x=>x.cl == (k:Int)).flatMap jf)).frame=some g->g.marks.length<=1000000000
def qz2 (o:Nat->Nat)(w:World)(xp kb sb fb:Nat)(s:qY)(c:Nat)(d:Ending)(a:World):Prop:=∃ (b:Nat->Nat)(e:List (Option Nat)),d=.returned (.int .i64 0)/\qI b a xp kb sb fb e (yi s c)/\hb o b w a
def ZX (a:qI o w xp kb sb fb cps s)(h:s.ks.length<=4)(b:Int)(d:jS s.ks b=false):Calls Tryz.prog 15 #[.pointer (some ⟨xp,0,none⟩),.int .i64 b] w fun e f=>e=.returned (.int .i64 3)/\Below w.heap.size w f:=by
 have c:=xJ a (by rw[a.ks.len];exact h) b;rw[d] at c;have i:=qg c;clear a c d;go_enter Tryz.func15,Tryz.ntmps15;go_wp2_with (go_at_call 40;refine (qb i).mono ?_;rintro e f ⟨rfl,g⟩;have j:=qg g;clear g)
 go_ret;exact⟨rfl,qb j⟩
def ZW (e:qI o w xp kb sb fb cps s)(N:s.ks.length<=4)(a:Nat)(c:jS s.ks (a:Int)=true)(hF:J5 s a):Calls Tryz.prog 15 #[.pointer (some ⟨xp,0,none⟩),.int .i64 (a:Int)] w (qz2 o w xp kb sb fb s a):=by
 have a2:cps.length<=4:=(by rw[e.ks.len];exact N);have O:a<cps.length:=by
  rw[<-e.ks.wi] at c;unfold jS at c;simp only[bF,aK] at c;cases t:cps[a]? with
  | none=>rw[t] at c;simp at c
  | some a3=>exact (zzg t).1
 have k:=xJ e (by omega) (a:Int);rw[c] at k;have u:=qg k;have P:=qg e;have Q:=qg hF;have a4:(0:Int)<=(a:Int):=(by omega);have a5:(a:Int)<(cps.length:Int):=(by omega);clear e k c hF;go_enter Tryz.func15,Tryz.ntmps15
 go_wp2_with (go_at_call 40;refine (qb u).mono ?_;rintro b v ⟨rfl,l⟩;have f:=(qb P).below l;have R:=f.c8;have S:=qj f.cls;obtain⟨x,T⟩:∃ x,v.cell? ⟨kb,a,none⟩=some x:=⟨_,(qe f.cls a).trans (by rw[bR,aF,aB O];rfl)⟩;have y:=qg (hb.below (o:=o) l);have z:=qg f;clear l f)
 obtain⟨m1,m2⟩:=(qb z).gone a;have A:=(qb y).trans m2;clear R S T y z u;generalize v.setCell ⟨kb,a,none⟩ (.pointer none)=g at *;have B:=m1.uF;have C:=m1.c9;have D:Calls Tryz.prog 42 #[.pointer (some ⟨sb,0,none⟩),.int .i64 (a:Int)] g.drew fun b d=>∃ h,b=.returned h/\(d.cell? ⟨xp,10,none⟩=some (.pointer (some ⟨fb,0,none⟩))/\d.cell? ⟨xp,9,none⟩=some (.pointer (some ⟨sb,0,none⟩)))/\Calls Tryz.prog 41 #[.pointer (some ⟨fb,0,none⟩),h] d fun b i=>(∃ m,b=.returned m)/\(i.cell? ⟨xp,10,none⟩=some (.pointer (some ⟨fb,0,none⟩))/\i.cell? ⟨xp,9,none⟩=some (.pointer (some ⟨sb,0,none⟩)))/\Calls Tryz.prog 43 #[.pointer (some ⟨fb,0,none⟩),.int .i64 (a:Int)] i fun b n=>(∃ m,b=.returned m)/\∃ (j:Nat->Nat)(p:List (Option Nat)),qI j n xp kb sb fb p (yi s a)/\hb o j w n:=(by have hF:=qb Q;have E:Below g.heap.size g g.drew:=(aa _ g).drew;refine (qh6 (m1.below E) hF.len (a:Int)).mono ?_;rintro b d ⟨h,U,h1,h2,h3,h4,h5⟩;refine⟨h,h1,⟨h2.uF,h2.c9⟩,(Ql h2 hF.wd hF.ht h3 h4 hF.rc hF.rl).mono ?_⟩;rintro b i ⟨V,q,W⟩;refine⟨V,⟨q.uF,q.c9⟩,(Kj q (a:Int) hF.ml hF.fl).mono ?_⟩;rintro b n ⟨X,Y,Z⟩;exact⟨X,U,_,Y,(((A.trans (hb.below E)).trans h5).trans W).trans Z⟩);have F:=qg D;clear D m1 m2 A;go_region_held3 (fun d=>d.cell? ⟨xp,10,none⟩=some (.pointer (some ⟨fb,0,none⟩))/\d.cell? ⟨xp,9,none⟩=some (.pointer (some ⟨sb,0,none⟩))) (first | exact qb G | exact qb H | exact⟨B,C⟩ | go_keep)
  (first
    | (go_at_call 42;refine (qb F).mono ?_;rintro b a6 ⟨a7,rfl,I,J⟩;have H:=qg I;have K:=qg J;clear I J)
    | (go_at_call 41;refine (qb K).mono ?_;rintro b a8 ⟨⟨u6,rfl⟩,r,L⟩;have a9:=r.1;have G:=qg r;have a0:=qg L;clear r L))
 clear F H K B C G;go_wp2_with (go_at_call 43;refine (qb a0).mono ?_;rintro b b0 ⟨⟨u7,rfl⟩,M⟩;have a1:=qg M;clear M)
 go_ret;obtain⟨j,p,h1,h2⟩:=qb a1;exact⟨j,p,rfl,h1,h2⟩
end
variable{C K x:List Bool}{vf z:Value}
def qL (b:hg)(c:gF)(a:List gt):Int:=
 if gz a.length 1 20=false then 3 else match qR c.own a with
  | none=>3
  | some _=>if b.tK<qA a then 3 else if b.queue<=(c.q.length:Int) then 4 else 0
def X5 (a:gF)(b:List gt):gF:={a with q:=a.q++[b.map qy],own:=(qR a.own b).getD a.own}
def ve (a:List gt):qA (a.map qy)=qA a:=by
 unfold qA;rw[ak,cB];congr 2
 refine bN fun b _=>?_;simp only[Function.comp,jw,qy];by_cases c:b.kind=3<;>simp[c]
section
variable {o:Nat->Nat}{w:World}{xp kb sb fb:Nat}{cps:List (Option Nat)}{s:qY}
def VM (o:Nat->Nat)(w:World)(xp kb sb fb:Nat)(cps:List (Option Nat))(s:qY)(e:Nat)(a:gF)(b:List gt)(c:World):Prop:=
 (qL s.c a b=0/\∃ d,qI d c xp kb sb fb cps {s with ks:=s.ks.set e (some (X5 a b))}/\hb o d w c)\/(qL s.c a b≠0/\Below w.heap.size w c)
def qI.uS (d:qI o w xp kb sb fb cps s)(L:s.ks[n]?=some (some e))(M:cps[n]?=some (some i))(k:pd (fun C=>o C=5+n) (fun C=>o C=4) w i s.c.iE.toNat e v H x)(N:C.length=4)(B:qR e.own h=some K)(O:C.take s.c.iE.toNat=K)(p:rv w w2 i v e.cr 0 H.length z C (c2 (H.map zI)) h vf):∃ f,qI f w2 xp kb sb fb cps {s with ks:=s.ks.set n (some (X5 e h))}/\hb o f w w2:=by
 have I:=(zzg L).1;have J:∀ a,(a=i\/v.ownBlock=some a)->o a=5+n:=by
  rintro a (c | c)
  ·rw[c];exact k.cc
  ·exact k.cq a c
 have l:∀ a,o a≠5+n->¬(a=i\/v.ownBlock=some a):=fun a b c=>b (J a c);obtain⟨f,u⟩:∃ f:Nat->Nat,f=fun a=>if o a≠0 then o a else if w.heap.size<=a/\a<w2.heap.size then (if z.ownBlock=some a then 5+n else 4) else 0:=⟨_,rfl⟩;have g:∀ a,o a≠0->f a=o a:=fun a b=>by rw[u];simp only[an b]
 have P:∀ a,w.heap.size<=a->a<w2.heap.size->z.ownBlock≠some a->f a=4:=fun a y D E=>by rw[u];simp only[d.ub y];simp[y,D,E]
 have Q:∀ a,w.heap.size<=a->a<w2.heap.size->z.ownBlock=some a->f a=5+n:=fun a y D E=>by rw[u];simp only[d.ub y];simp[y,D,E]
 have m:=p.but;refine⟨f,⟨m.heap d.nS (l _ (by rw[d.ua];omega)),m.heap d.cls (l _ (by rw[d.tX];omega)),⟨by rw[aG];exact d.ks.len,fun q j=>?_,fun q R j=>?_⟩,?_,?_,by rw[g _ (by rw[d.ua];omega)];exact d.ua,by rw[g _ (by rw[d.tX];omega)];exact d.tX,fun a b=>?_⟩,.of m (fun a _ c=>by have:=J a c;omega) (fun a b F=>?_) (fun a b=>by rw[g a (by omega)];exact b)⟩
 ·by_cases c:q=n
  ·subst c;rw[ar I] at j;simp at j
  ·rw[bc (cu c)] at j;exact d.ks.no q j
 ·by_cases c:q=n
  ·subst c;rw[ar I] at j;simp only[ac] at j;subst j;refine⟨i,M,z,H++[(vf,h.map qy)],C,?_,?_,?_,?_,N,?_,by rw[g i (by rw[k.cc];omega)];exact k.cc,fun r G=>?_⟩
   ·exact p.cell
   ·have:=p.row;have A:(H++[(vf,h.map qy)]).map zI=H.map zI++[(vf,.int .i64 (qA h))]:=(by simp[zI,ve]);rw[A];unfold qN;rw[zs];simpa[c2] using this
   ·intro S t;rcases al.1 t with t | t
    ·exact ((k.ops S t).but m (fun a b=>l a (by omega))).wide (fun a b=>by show f a=4;rw[g a (by omega)];exact b)
    ·simp at t;subst t;exact p.rd.lt.wide (fun a b=>P a b.1.1 b.2 b.1.2)
   ·rw[aE,k.q];rfl
   ·show C.take _=(qR e.own h).getD e.own;rw[B];exact O
   ·have T:=(ab p.row r G).2;rcases p.uh r G with c | c
    ·rw[g r (by rw[k.cq r c];omega)];exact k.cq r c
    ·exact Q r c T G
  ·rw[bc (cu c)] at j;obtain⟨U,V,W⟩:=d.ks.yes q R j;exact⟨U,V,(W.but m (fun a b=>l a (by omega)) (fun a b=>l a (by omega))).mono (fun a b=>by show f a=5+q;rw[g a (by omega)];exact b) (fun a b=>by show f a=4;rw[g a (by omega)];exact b)⟩
 ·exact (d.uN.but m (fun a b=>l a (by omega)) (fun a b=>l a (by omega))).mono (fun a b=>by show f a=2;rw[g a (by omega)];exact b) (fun a b=>by show f a=4;rw[g a (by omega)];exact b)
 ·obtain⟨X,B⟩:=d.uy;exact⟨X,(B.but m (fun a b=>l a (by omega))).mono (fun a b=>by show f a=3;rw[g a (by omega)];exact b)⟩
 ·by_cases c:o a≠0
  ·exact zzm (d.lt a c) m.size
  ·rw[u] at b;simp only[ah c] at b;by_cases A:w.heap.size<=a/\a<w2.heap.size
   ·exact A.2
   ·simp[A] at b
 ·by_cases c:o a≠0
  ·exact c
  ·rw[u] at F;simp only[ah c] at F;have:¬(w.heap.size<=a/\a<w2.heap.size):=(by omega);simp[this] at F
def Ki (t:qI o w xp kb sb fb cps s)(u:s.ks[n]?=some (some e))(v:cps[n]?=some (some i))(x:(s.c.iE.toNat:Int)=s.c.iE/\1<=s.c.iE.toNat/\s.c.iE.toNat<=4)(M:e.q.length<=100000)(j:Nat->Prop)(k:Option Addr)(l:Nat)(b:List gt)(D:gW j w (.slice k b.length l) b)(E:∀ y,j y->y<w.heap.size)(F:b.length<=1759218604390)(G:∀ z∈b,z.px.length<=17592186043904):Calls Tryz.prog 53 #[.pointer (some ⟨i,0,none⟩),.slice k b.length l,vF s.c] w fun a A=>a=.returned (.int .i64 (qL s.c e b))/\VM o w xp kb sb fb cps s n e b A:=by
 obtain⟨N,m,H,p,I,d⟩:=t.ks.yes n e u;rw[v] at m;simp only[ac] at m;subst m;have B:p.length=e.q.length:=by rw[<-d.q];simp
 match I,d.bl with
 | [b0,b1,b2,b3],_=>
  have q:=d.row;unfold qN at q;rw[ak] at q;have J:=d.own;refine (YJ j i H e.cr b0 b1 b2 b3 0 p.length (c2 (p.map zI)) s.c s.c.iE.toNat k l b w d.cell q (aj _) (by omega) x.1.symm x.2 D F G E).mono ?_;rintro a A ⟨O,rfl,C⟩;rw[J] at C;rcases C with ⟨f,rfl,c⟩ | ⟨f,⟨g,rfl,c⟩ | ⟨P,g,⟨c,rfl,h⟩ | ⟨c,h,rfl,r⟩ | ⟨c,h,rfl,Q,z,R,r,K,L⟩⟩⟩
  ·have a:qL s.c e b=3:=(by simp[qL,f]);exact⟨by rw[a],.inr ⟨by rw[a];omega,c⟩⟩
  ·have a:qL s.c e b=3:=(by simp[qL,f,g]);exact⟨by rw[a],.inr ⟨by rw[a];omega,c⟩⟩
  ·have a:qL s.c e b=3:=(by simp[qL,f,g,c]);exact⟨by rw[a],.inr ⟨by rw[a];omega,h⟩⟩
  ·rw[B] at h;have a:qL s.c e b=4:=(by simp[qL,f,g,h];omega);exact⟨by rw[a],.inr ⟨by rw[a];omega,r⟩⟩
  ·rw[B] at h;have a:qL s.c e b=0:=(by simp[qL,f,g];omega);exact⟨by rw[a],.inl ⟨a,t.uS u v d r g K L⟩⟩
end
section
variable {o:Nat->Nat}{w:World}{xp kb sb fb:Nat}{cps:List (Option Nat)}{s:qY}
def su (a:a6[n]?=some (some e)):jS a6 (n:Int)=true:=by simp[jS,a]
def VE (a:jS a6 q=true):∃ (c:Nat)(b:gF),q=c/\a6[c]?=some (some b):=by
 unfold jS at a;simp only[aK,be] at a;refine⟨q.toNat,?_⟩;cases d:a6[q.toNat]? with
 | none=>rw[d] at a;simp at a
 | some e=>
  cases e with
  | none=>rw[d] at a;simp at a
  | some b=>exact⟨b,by omega,rfl⟩
def YX (a:qI o w xp kb sb fb cps s)(h:s.ks.length<=4)(b:Int)(d:jS s.ks b=false)(i:Value):Calls Tryz.prog 22 #[.pointer (some ⟨xp,0,none⟩),.int .i64 b,i] w fun e f=>e=.returned (.int .i64 3)/\Below w.heap.size w f:=by
 have c:=xJ a (by rw[a.ks.len];exact h) b;rw[d] at c;have j:=qg c;clear a c d;go_enter Tryz.func22,Tryz.ntmps22;go_wp2_with (go_at_call 40;refine (qb j).mono ?_;rintro e f ⟨rfl,g⟩;have k:=qg g;clear g)
 go_ret;exact⟨rfl,qb k⟩
def qI.ug (a:qI o w xp kb sb fb cps s)(b:cps[n]?=some (some i)):w.cell? ⟨xp,0,none⟩=some (.int .i64 s.c.w)/\w.cell? ⟨xp,1,none⟩=some (.int .i64 s.c.h)/\w.cell? ⟨xp,2,none⟩=some (.int .i64 s.c.oA)/\w.cell? ⟨xp,3,none⟩=some (.int .i64 s.c.queue)/\w.cell? ⟨xp,4,none⟩=some (.int .i64 s.c.tK)/\w.cell? ⟨xp,5,none⟩=some (.int .i64 s.c.hD)/\w.cell? ⟨xp,6,none⟩=some (.int .i64 s.c.iE)/\w.cell? ⟨xp,7,none⟩=some (.int .i64 s.c.behind)/\w.cell? ⟨xp,8,none⟩=some (.slice (some ⟨kb,0,none⟩) cps.length cps.length)/\w.cell? ⟨kb,n,none⟩=some (.pointer (some ⟨i,0,none⟩)):=by
 refine⟨qe a.nS 0,qe a.nS 1,qe a.nS 2,qe a.nS 3,qe a.nS 4,qe a.nS 5,qe a.nS 6,qe a.nS 7,a.c8,?_⟩;rw[qe a.cls];simp[b,vK]
def YW (f:qI o w xp kb sb fb cps s)(D:s.ks.length<=4)(j:s.ks[n]?=some (some e))(E:(s.c.iE.toNat:Int)=s.c.iE/\1<=s.c.iE.toNat/\s.c.iE.toNat<=4)(F:e.q.length<=100000)(t:Nat->Prop)(k:Option Addr)(l:Nat)(d:List gt)(y:gW t w (.slice k d.length l) d)(G:∀ m,t m->m<w.heap.size)(H:d.length<=1759218604390)(I:∀ x∈d,x.px.length<=17592186043904):Calls Tryz.prog 22 #[.pointer (some ⟨xp,0,none⟩),.int .i64 (n:Int),.slice k d.length l] w fun g a=>g=.returned (.int .i64 (qL s.c e d))/\VM o w xp kb sb fb cps s n e d a:=by
 have u:=xJ f (by rw[f.ks.len];exact D) (n:Int);rw[su j] at u;obtain⟨p,h,_⟩:=f.ks.yes n e j;have S:=(zzg h).1;have q:∀ b:World,Below w.heap.size w b->Calls Tryz.prog 53 #[.pointer (some ⟨p,0,none⟩),.slice k d.length l,vF s.c] b fun g a=>g=.returned (.int .i64 (qL s.c e d))/\VM o w xp kb sb fb cps s n e d a/\a.cell? ⟨xp,0,none⟩=some (.int .i64 s.c.w)/\a.cell? ⟨xp,1,none⟩=some (.int .i64 s.c.h)/\a.cell? ⟨xp,2,none⟩=some (.int .i64 s.c.oA)/\a.cell? ⟨xp,3,none⟩=some (.int .i64 s.c.queue)/\a.cell? ⟨xp,4,none⟩=some (.int .i64 s.c.tK)/\a.cell? ⟨xp,5,none⟩=some (.int .i64 s.c.hD)/\a.cell? ⟨xp,6,none⟩=some (.int .i64 s.c.iE)/\a.cell? ⟨xp,7,none⟩=some (.int .i64 s.c.behind)/\a.cell? ⟨xp,8,none⟩=some (.slice (some ⟨kb,0,none⟩) cps.length cps.length)/\a.cell? ⟨kb,n,none⟩=some (.pointer (some ⟨p,0,none⟩)):=fun b c=>by
  refine (Ki (f.below c) j h E F t k l d (y.below c) (fun m r=>zzm (G m r) c.size) H I).mono ?_;rintro g a ⟨h1,h2⟩;rcases h2 with ⟨v,J,i,K⟩ | ⟨v,i⟩
  ·exact⟨h1,.inl ⟨v,J,i,(hb.below c).trans K⟩,i.ug h⟩
  ·exact⟨h1,.inr ⟨v,c.trans (i.mono c.size)⟩,((f.below c).below i).ug h⟩
 have z:∀ b:World,Below w.heap.size w b->b.cell? ⟨xp,0,none⟩=some (.int .i64 s.c.w)/\b.cell? ⟨xp,1,none⟩=some (.int .i64 s.c.h)/\b.cell? ⟨xp,2,none⟩=some (.int .i64 s.c.oA)/\b.cell? ⟨xp,3,none⟩=some (.int .i64 s.c.queue)/\b.cell? ⟨xp,4,none⟩=some (.int .i64 s.c.tK)/\b.cell? ⟨xp,5,none⟩=some (.int .i64 s.c.hD)/\b.cell? ⟨xp,6,none⟩=some (.int .i64 s.c.iE)/\b.cell? ⟨xp,7,none⟩=some (.int .i64 s.c.behind)/\b.cell? ⟨xp,8,none⟩=some (.slice (some ⟨kb,0,none⟩) cps.length cps.length)/\b.cell? ⟨kb,n,none⟩=some (.pointer (some ⟨p,0,none⟩)):=fun b c=>(f.below c).ug h;unfold vF at q;obtain⟨T,A⟩:=zx (qL s.c e d);rw[<-A] at q ⊢;have L:=qg u;have M:=qg q;have N:=qg z;have U:(0:Int)<=(n:Int):=(by omega);have V:(n:Int)<(cps.length:Int):=(by omega);clear f u q z y j h A;go_enter Tryz.func22,Tryz.ntmps22
 go_wp2_with (go_at_call 40;refine (qb L).mono ?_;rintro g B ⟨rfl,c⟩;have O:=qg ((qb N) B.drew c.drew);have P:=qg c;clear c)
 go_region_held3 (fun a=>a.cell? ⟨xp,0,none⟩=some (.int .i64 s.c.w)/\a.cell? ⟨xp,1,none⟩=some (.int .i64 s.c.h)/\a.cell? ⟨xp,2,none⟩=some (.int .i64 s.c.oA)/\a.cell? ⟨xp,3,none⟩=some (.int .i64 s.c.queue)/\a.cell? ⟨xp,4,none⟩=some (.int .i64 s.c.tK)/\a.cell? ⟨xp,5,none⟩=some (.int .i64 s.c.hD)/\a.cell? ⟨xp,6,none⟩=some (.int .i64 s.c.iE)/\a.cell? ⟨xp,7,none⟩=some (.int .i64 s.c.behind)/\a.cell? ⟨xp,8,none⟩=some (.slice (some ⟨kb,0,none⟩) cps.length cps.length)/\a.cell? ⟨kb,n,none⟩=some (.pointer (some ⟨p,0,none⟩))) (first | exact qb Q | exact qb O | go_keep)
  ((go_at_call 53;refine ((qb M) B.drew (qb P).drew).mono ?_;rintro g W ⟨rfl,C,r⟩;have Q:=qg r;have R:=qg C;clear r C))
 go_wp2;go_ret;exact⟨rfl,qb R⟩
end
variable{a5:List gv}{s':gv}{o:gt}
structure Q8 (B:Int)(s:gv):Prop where
 w0:0<=s.w/\s.w<=8
 h0:0<=s.h/\s.h<=8
 px:(s.px.length:Int)=s.w*s.h
 lf:0<=s.left/\s.left<=20
 dd:(-4<=s.dx/\s.dx<=4)/\(-4<=s.dy/\s.dy<=4)
 xb:-B<=s.x-4*s.left/\s.x+4*s.left<=B
 yb:-B<=s.y-4*s.left/\s.y+4*s.left<=B
def Q8.mono (a:Q8 q u)(b:q<=B'):Q8 B' u:=by
 have:=a.xb;have:=a.yb;exact⟨a.w0,a.h0,a.px,a.lf,a.dd,by omega,by omega⟩
def Q8.ok (a:Q8 q u)(b:q<=100000000000000):xq u:=by
 have:=a.xb;have:=a.yb;have:=a.lf;exact⟨a.w0.1,a.w0.2,a.h0.1,a.h0.2,a.px,by omega,by omega⟩
def Q8.sl (a:Q8 q u)(b:q<=100000000000000):rx u:=by
 have:=a.xb;have:=a.yb;have:=a.lf;have:=a.dd;exact⟨by omega,by omega,by omega⟩
def Q8.rc (a:Q8 q u)(b:q<=100000000000000):Q9 ⟨u.x,u.y,u.w,u.h⟩:=by
 have:=a.xb;have:=a.yb;have:=a.lf;exact⟨by simp only;omega,by simp only;omega,a.w0,a.h0⟩
def Q8.go (a:Q8 q u):Q8 q (hd u):=by
 unfold hd;split
 ·exact a
 ·rename_i b;have:=a.xb;have:=a.yb;have:=a.lf;have:=a.dd;exact⟨a.w0,a.h0,a.px,by simp only;omega,a.dd,by simp only;omega,by simp only;omega⟩
def qo0:Q9 ox:=by unfold Q9 ox;simp
def Yl:∀ (b:Nat)(a:List Nat),a.Nodup->(∀ c∈a,c<b)->a.length<=b
 | 0,a,_,d=>by
  cases a with
  | nil=>simp
  | cons i a=>have:=d i (by simp);omega
 | b+1,a,e,d=>by
  have f:=Yl b (a.erase b) (e.sublist List.erase_sublist) (fun c g=>by
   have k:=d c (List.mem_of_mem_erase g);have l:c≠b:=fun j=>by subst j;exact (e.not_mem_erase) g
   omega)
  by_cases h:b∈a
  ·rw[List.length_erase_of_mem h] at f;omega
  ·rw[List.erase_of_not_mem h] at f;omega
structure vh (K S:Nat)(B:Int)(l:List gv):Prop where
 nd:(l.map qw).Nodup
 ky:∀ s∈l,(0<=s.cl/\s.cl<(K:Int))/\(0<=s.num/\s.num<(S:Int))
 sf:∀ s∈l,Q8 B s
def vh.len (c:vh n i q l'):l'.length<=n*i:=by
 have l:=Yl (n*i) ((l'.map qw).map fun g=>g.1.toNat*i+g.2.toNat) ?_ ?_
 ·simpa using l
 ·rw[cB,List.nodup_iff_pairwise_ne,fT];have h:=c.nd;rw[List.nodup_iff_pairwise_ne,fT] at h;refine fh (fun {a b} m o p=>?_) h;have t:=c.ky a m;have u:=c.ky b o;intro d;apply p;simp only[Function.comp,qw] at d ⊢;have j:a.num.toNat<i:=(by omega);have e:b.num.toNat<i:=(by omega);have r:a.cl.toNat=b.cl.toNat:=(by have:(a.cl.toNat*i+a.num.toNat)/i=(b.cl.toNat*i+b.num.toNat)/i:=(by rw[d]);rw[dQ,gj (by omega),fX j,dQ b.cl.toNat,gj (by omega),fX e] at this;omega);rw[r] at d;have v:a.num.toNat=b.num.toNat:=(by omega);exact Prod.ext (by simp only;omega) (by simp only;omega)
 ·intro w k;rw[cB] at k;obtain⟨f,s,rfl⟩:=aC.1 k;have x:=c.ky f s;simp only[Function.comp,qw];have j:f.num.toNat<i:=(by omega);have e:f.cl.toNat+1<=n:=(by omega);have:=dF i e;rw[dO,gb] at this;omega
def vh.mono {b c:Nat}{d B':Int}{e:List gv}(a:vh b c d e)(f:d<=B'):vh b c B' e:=⟨a.nd,a.ky,fun g h=>(a.sf g h).mono f⟩
def vh.go {h i:Nat}{j:Int}{a:List gv}(c:vh h i j a):vh h i j (a.map hd):=by
 have k:(a.map hd).map qw=a.map qw:=(by rw[cB];exact bN fun d _=>xH d);refine⟨by rw[k];exact c.nd,fun d e=>?_,fun d e=>?_⟩
 ·obtain⟨b,f,rfl⟩:=aC.1 e;have g:=xH b;simp only[qw,bP] at g;rw[g.1,g.2];exact c.ky b f
 ·obtain⟨b,f,rfl⟩:=aC.1 e;exact (c.sf b f).go
def vh.sub (a:vh n i q l')(b:a5.Sublist l'):vh n i q a5:=⟨a.nd.sublist (b.map qw),fun c d=>a.ky c (b.subset d),fun c d=>a.sf c (b.subset d)⟩
def vh.perm (a:vh n i q l')(b:a5.Perm l'):vh n i q a5:=⟨(b.map qw).nodup_iff.2 a.nd,fun c d=>a.ky c (b.mem_iff.1 d),fun c d=>a.sf c (b.mem_iff.1 d)⟩
def vh.put (b:vh n i q l')(d:s'∈l')(c:qw u=qw s')(e:Q8 q u):vh n i q (xr l' u):=by
 refine⟨by rw[jB];exact b.nd,fun t a=>?_,fun t a=>?_⟩
 ·rcases QI a with rfl | ⟨a,_⟩
  ·simp only[qw,bP] at c;rw[c.1,c.2];exact b.ky s' d
  ·exact b.ky t a
 ·rcases QI a with rfl | ⟨a,_⟩
  ·exact e
  ·exact b.sf t a
def yu (a:zt o=true)(b:o.kind=1\/o.kind=4):(-100<=o.x/\o.x<=100)/\(-100<=o.y/\o.y<=100):=by
 unfold zt at a;rw[an b] at a;simp only[aK,jh] at a;exact a
def Ju (a:zt o=true)(b:o.kind=3):(1<=o.w/\o.w<=8)/\(1<=o.h/\o.h<=8)/\(o.px.length:Int)=o.w*o.h:=by
 unfold zt at a;rw[ah (by omega),an b] at a;simp only[aK,jh,be] at a;exact⟨a.1.1.1,a.1.1.2,a.1.2⟩
def qj0 (a:zt o=true)(b:o.kind=7):(1<=o.w/\o.w<=20)/\(-4<=o.x/\o.x<=4)/\(-4<=o.y/\o.y<=4):=by
 unfold zt at a;rw[ah (by omega),ah (by omega),an b] at a;simp only[aK,jh] at a;exact⟨a.1.1,a.1.2,a.2⟩
def qe5 (h:vh n i q l')(A:100<=q)(B:j<n)(t:ZS l' j o)(u:0<=o.iV/\o.iV<(i:Int))(d:zt o=true):vh n i (q+80) (zi l' j o).1:=by
 have c:=h.mono (B':=q+80) (by omega);rcases t with ⟨l,v⟩ | ⟨l,w⟩
 ·have f:=yu d (.inl l);unfold zi;rw[an l];refine⟨?_,fun e m=>?_,fun e m=>?_⟩
  ·rw[aE,cO];refine⟨h.nd,by simp,fun C d D a x=>?_⟩;simp[qw] at a;subst a x;exact v d
  ·rcases al.1 m with b | b
   ·exact h.ky e b
   ·simp at b;subst b;exact⟨by simp only;omega,u⟩
  ·rcases al.1 m with b | b
   ·exact c.sf e b
   ·simp at b;subst b;exact⟨by simp,by simp,by simp,by simp,by simp,by simp only;omega,by simp only;omega⟩
 ·obtain⟨e,k,E,F⟩:=xC w;have g:=zzn k;have a:=c.sf e g;have p:=h.sf e g;have y:¬o.kind=1:=(by omega);unfold zi;rw[ah y,k];simp only;split
  ·exact c.sub eQ
  ·split
   ·rename_i r;have f:=Ju d r;exact c.put g rfl ⟨by simp only;omega,by simp only;omega,f.2.2,a.lf,a.dd,a.xb,a.yb⟩
   ·split
    ·rename_i s;have f:=yu d (.inr s);exact c.put g rfl ⟨a.w0,a.h0,a.px,by simp,by simp,by simp only;omega,by simp only;omega⟩
    ·split
     ·exact c.perm (yf k)
     ·split
      ·exact c.perm (yf k)
      ·rename_i k2 r s G H;have z:o.kind=7:=(by omega);have f:=qj0 d z;have I:=p.xb;have J:=p.yb;have K:=p.lf;exact c.put g rfl ⟨a.w0,a.h0,a.px,by simp only;omega,f.2,by simp only;omega,by simp only;omega⟩
def qt2 (j:ZS l' q o)(a:Int×Int):a∈(zi l' q o).1.map qw↔if a=(q,o.iV) then o.kind≠2 else a∈l'.map qw:=by
 rcases j with ⟨d,m⟩ | ⟨d,h⟩
 ·unfold zi;rw[an d,aE];by_cases b:a=(q,o.iV)
  ·subst b;simp[qw,d]
  ·rw[ah b];simp only[al,aY,dr,ay];constructor
   ·rintro (e | e)
    ·exact e
    ·exact absurd e b
   ·exact .inl
 ·obtain⟨n,f,p,r⟩:=xC h;have k:¬o.kind=1:=(by omega);have c:∀ g:List gv,(∀ a,a∈g.map qw↔a∈l'.map qw)->o.kind≠2->(a∈g.map qw↔if a=(q,o.iV) then o.kind≠2 else a∈l'.map qw):=fun g i l=>by
   by_cases b:a=(q,o.iV)
   ·rw[an b,i a,b];exact⟨fun _=>l,fun _=>h⟩
   ·rw[ah b];exact i a
  unfold zi;rw[ah k,f];simp only;split
  ·rename_i k2;rw[yk,cS];by_cases b:a=(q,o.iV)
   ·simp[b,k2]
   ·rw[ah b];have:(!(a == (q,o.iV)))=true:=(by simpa using b);simp[this]
  ·rename_i k2;split
   ·exact c _ (fun a=>by rw[jB]) k2
   ·split
    ·exact c _ (fun a=>by rw[jB]) k2
    ·split
     ·exact c _ (fun a=>((yf f).map qw).mem_iff) k2
     ·split
      ·exact c _ (fun a=>((yf f).map qw).mem_iff) k2
      ·exact c _ (fun a=>by rw[jB]) k2
def gO (a:List gv)(b c:Nat):List Bool:=(List.range c).map fun (d:Nat)=>a.any (gN (b:Int) (d:Int))
def yI:l'.any (gN q B')=true↔(q,B')∈l'.map qw:=by
 rw[ca,aC];constructor
 ·rintro⟨a,b,c⟩;exact⟨a,b,ju.1 c⟩
 ·rintro⟨a,b,c⟩;exact⟨a,b,ju.2 c⟩
def vQ (b:List gv)(c a:Nat):(gO b c a).length=a:=by simp[gO]
def Qw (a:j<i):(gO l' n i)[j]?=some (l'.any (gN (n:Int) (j:Int))):=by simp[gO,a]
def Xu (q:¬o.kind=8)(b:qP (gO l' n i) o=some x):ZS l' n o/\(0<=o.iV/\o.iV<(i:Int))/\zt o=true/\x=gO (zi l' n o).1 n i/\∀ c:Nat,c≠n->gO (zi l' n o).1 c i=gO l' c i:=by
 unfold qP at b;rw[ah q] at b;split at b
 ·rename_i k;simp only[ac] at b;simp only[aK,jh,vQ,bne_iff_ne,ne_eq] at k;obtain⟨⟨⟨w,y⟩,f⟩,r⟩:=k;have l:0<=o.iV/\o.iV<(i:Int):=(by omega);have s:(gO l' n i).getD o.iV.toNat false=l'.any (gN (n:Int) o.iV):=(by rw[bW,Qw (by omega)];simp[Int.toNat_of_nonneg l.1]);rw[s] at f;have m:ZS l' n o:=by
   by_cases h:o.kind=1
   ·refine .inl ⟨h,fun t=>f ?_⟩;rw[yI.2 t];simp[h]
   ·refine .inr ⟨by omega,?_⟩;rw[<-yI];cases u:l'.any (gN (n:Int) o.iV) with
    | true=>rfl
    | false=>rw[u] at f;simp[h] at f
  have p:∀ (g a:Int),(zi l' n o).1.any (gN g a)=if (g,a)=((n:Int),o.iV) then decide (o.kind≠2) else l'.any (gN g a):=fun g a=>by
   rw[cC,yI,qt2 m];split
   ·simp
   ·rw[yI]
  refine⟨m,l,r,?_,fun c z=>?_⟩
  ·rw[<-b];apply bh;intro a;by_cases d:a<i
   ·rw[Qw d,p,cG];by_cases j:o.iV.toNat=a
    ·have e:((n:Int),(a:Int))=((n:Int),o.iV):=(by rw[bP];exact⟨rfl,by omega⟩);rw[an e,an j,an (by rw[vQ];omega)]
    ·have e:¬((n:Int),(a:Int))=((n:Int),o.iV):=(by rw[bP];intro v;exact j (by omega));rw[ah e,ah j,Qw d]
   ·rw[aI (by rw[aG,vQ];omega),aI (by rw[vQ];omega)]
  ·apply bh;intro a;by_cases d:a<i
   ·rw[Qw d,Qw d,p];have e:¬((c:Int),(a:Int))=((n:Int),o.iV):=(by rw[bP];intro v;omega);rw[ah e]
   ·rw[aI (by rw[vQ];omega),aI (by rw[vQ];omega)]
 ·cases b
structure J6 (f f':gB):Prop where
 W:f'.W=f.W
 H:f'.H=f.H
 front:f'.front=f.front
 frame:f'.frame=f.frame
 marks:f'.marks=f.marks
 px:∀ i,(f'.b i).px=(f.b i).px
 begun:∀ i,(f'.b i).begun=(f.b i).begun
 len:∀ i,(f'.b i).st.length=(f.b i).st.length
 due:f.due=true->f'.due=true
def J6.refl (a:gB):J6 a a:=⟨rfl,rfl,rfl,rfl,rfl,fun _=>rfl,fun _=>rfl,fun _=>rfl,fun b=>b⟩
def J6.trans {e f d:gB}(a:J6 e f)(b:J6 f d):J6 e d:=
 ⟨b.W.trans a.W,b.H.trans a.H,b.front.trans a.front,b.frame.trans a.frame,b.marks.trans a.marks,fun c=>(b.px c).trans (a.px c),fun c=>(b.begun c).trans (a.begun c),fun c=>(b.len c).trans (a.len c),fun d=>b.due (a.due d)⟩
def sn (a:gB)(c:Nat):J6 a (VA a c):=by
 refine⟨rfl,rfl,rfl,rfl,rfl,fun b=>?_,fun b=>?_,fun b=>?_,fun _=>rfl⟩;all_goals
  simp only[VA,kD];split<;>simp
def qv7 (a:gB)(c:Rc)(b:Nat):J6 a (vE a c b):=by
 induction b with
 | zero=>exact .refl a
 | succ b d=>rw[yl];exact d.trans (sn _ _)
def qb0 (a:gB)(b:Rc):J6 a (Q1 a b):=qv7 _ _ _
def yF (b:List Rc):∀ a:gB,J6 a (zX a b):=by
 induction b with
 | nil=>intro a;exact .refl a
 | cons c b d=>intro a;exact (qb0 a c).trans (d _)
def xt (a:Rc)(b c:Int):Bool:=decide (a.x<=b)&&decide (b<a.x+a.w)&&decide (a.y<=c)&&decide (c<a.y+a.h)
def zd3 (b:gB)(c:Rc)(d:Nat)(g:d<3)(e:Nat)(h:e<(b.b d).st.length):∀ a,((vE b c a).b d).st[e]?=some ((b.b d).st[e]||(List.range a).any fun i=>QJ b c i == e):=by
 intro a;induction a with
 | zero=>simp[vE]
 | succ a j=>
  rw[yl];have:((VA (vE b c a) (QJ b c a)).b d).st=((vE b c a).b d).st.set (QJ b c a) true:=(by simp[VA,kD,g]);rw[this,cG];have k:=(qv7 b c a).len d;rw[fA,ev];by_cases f:QJ b c a=e
  ·rw[an f,an (by rw[f,k];exact h)];simp[f]
  ·rw[ah f,j];have l:(QJ b c a == e)=false:=(by simpa using f);simp[l]
def Vy {W X Y:Nat}(b:0<W)(a:X<W):(Y*W+X)/W=Y/\(Y*W+X)%W=X:=by
 constructor
 ·rw[dQ,gj b,fX a,bL]
 ·rw[dQ,Nat.mul_add_mod,Nat.mod_eq_of_lt a]
def qd2 (b:gB)(i:Rc)(T:1<=b.W)(k:Nat)(z:k<b.W*b.H):((List.range ((xh b i).w*(xh b i).h).toNat).any fun f=>QJ b (xh b i) f == k)=xt i ((k%b.W:Nat):Int) ((k/b.W:Nat):Int):=by
 obtain⟨h,n⟩:=zx (k%b.W);obtain⟨g,o⟩:=zx (k/b.W);have H:h<b.W:=(by rw[n];exact eJ _ (by omega));have U:g<b.H:=(by rw[o];exact fD z);have q:k=g*b.W+h:=(by rw[n,o,dQ];exact (Nat.div_add_mod k b.W).symm);rw[<-n,<-o];rw[cC,ca];simp only[fE,fq,xt,aK,be];obtain⟨e,l⟩:=zx (xh b i);have V:e.x=max i.x 0:=(by rw[l];rfl);have c2:e.y=max i.y 0:=(by rw[l];rfl);have Z:e.w=max 0 (min (i.x+i.w) (0+(b.W:Int))-max i.x 0):=(by rw[l];rfl);have a0:e.h=max 0 (min (i.y+i.h) (0+(b.H:Int))-max i.y 0):=(by rw[l];rfl);rw[<-l];constructor
 ·rintro⟨f,A,r⟩;have a1:0<=e.w:=(by omega);have a2:0<=e.h:=(by omega);obtain⟨a,m⟩:∃ a:Nat,e.w=a:=⟨e.w.toNat,by omega⟩;obtain⟨j,s⟩:∃ j:Nat,e.h=j:=⟨e.h.toNat,by omega⟩;have p:f<a*j:=(by rw[m,s] at A;have:((a:Int)*(j:Int)).toNat=a*j:=(by rw[<-dD];exact bF _);omega);have I:0<a:=by
   rcases bg a with t | t
   ·rw[t] at p;simp at p
   ·exact t
  have J:=fD p;have K:f%a<a:=eJ _ I;obtain⟨d,u⟩:∃ d:Nat,e.x=d:=⟨e.x.toNat,by omega⟩;obtain⟨c,v⟩:∃ c:Nat,e.y=c:=⟨e.y.toNat,by omega⟩;have B:QJ b e f=(c+f/a)*b.W+(d+f%a):=(by unfold QJ;rw[v,u,m];have w:((f:Int)/(a:Int))=((f/a:Nat):Int):=rfl;have x:((f:Int)%(a:Int))=((f%a:Nat):Int):=rfl;rw[w,x];have y:((c:Int)+((f/a:Nat):Int))*(b.W:Int)+(d:Int)+((f%a:Nat):Int)=(((c+f/a)*b.W+(d+f%a):Nat):Int):=(by simp only[ew,dD];omega);rw[y];exact bF _);rw[B] at r;have C:d+f%a<b.W:=(by omega);obtain⟨D,E⟩:=Vy (W:=b.W) (X:=d+f%a) (Y:=c+f/a) (by omega) C;obtain⟨L,M⟩:=Vy (W:=b.W) (X:=h) (Y:=g) (by omega) H;rw[r,q] at D E;have N:g=c+f/a:=(by omega);have O:h=d+f%a:=(by omega);obtain⟨a3,F⟩:=zx (f/a);obtain⟨a4,G⟩:=zx (f%a);rw[<-F] at N J;rw[<-G] at O K;clear D E L M r B q n o A p C z F G l;omega
 ·rintro⟨⟨⟨a5,a6⟩,a7⟩,a8⟩;obtain⟨a,m⟩:∃ a:Nat,e.w=a:=⟨e.w.toNat,by omega⟩;obtain⟨j,s⟩:∃ j:Nat,e.h=j:=⟨e.h.toNat,by omega⟩;obtain⟨d,u⟩:∃ d:Nat,e.x=d:=⟨e.x.toNat,by omega⟩;obtain⟨c,v⟩:∃ c:Nat,e.y=c:=⟨e.y.toNat,by omega⟩;have a9:d<=h/\h<d+a:=(by omega);have b0:c<=g/\g<c+j:=(by omega);obtain⟨P,Q⟩:=Vy (W:=a) (X:=h-d) (Y:=g-c) (by omega) (by omega);refine⟨(g-c)*a+(h-d),?_,?_⟩
  ·rw[m,s];have:((a:Int)*(j:Int)).toNat=a*j:=(by rw[<-dD];exact bF _);rw[this];have R:(g-c)+1<=j:=(by omega);have:=dF a R;rw[dO,gb,dQ j] at this;omega
  ·unfold QJ;rw[v,u,m];have w:((((g-c)*a+(h-d):Nat):Int)/(a:Int))=((g-c:Nat):Int):=(by have:((((g-c)*a+(h-d):Nat):Int)/(a:Int))=((((g-c)*a+(h-d))/a:Nat):Int):=rfl;rw[this,P]);have x:((((g-c)*a+(h-d):Nat):Int)%(a:Int))=((h-d:Nat):Int):=(by have:((((g-c)*a+(h-d):Nat):Int)%(a:Int))=((((g-c)*a+(h-d))%a:Nat):Int):=rfl;rw[this,Q]);rw[w,x];have y:((c:Int)+((g-c:Nat):Int))*(b.W:Int)+(d:Int)+((h-d:Nat):Int)=((g*b.W+h:Nat):Int):=(by have S:((c:Int)+((g-c:Nat):Int))=(g:Int):=(by omega);rw[S];simp only[ew,dD];omega);rw[y,q];exact bF _
def Vz (f:List Rc):∀ (a:gB),1<=a.W->∀ (c:Nat),c<3->(a.b c).st.length=a.W*a.H->∀ (b:Nat),b<a.W*a.H->((zX a f).b c).st[b]?=some ((a.b c).st.getD b false||f.any fun d=>xt d ((b%a.W:Nat):Int) ((b/a.W:Nat):Int)):=by
 induction f with
 | nil=>
  intro a g c h j b i;show (a.b c).st[b]?=_;rw[bW,aB (by omega)];simp
 | cons d f k=>
  intro a g c h j b i;have e:=qb0 a d;show ((zX (Q1 a d) f).b c).st[b]?=_;have l:=k (Q1 a d) (by rw[e.W];exact g) c h (by rw[e.len,e.W,e.H];exact j) b (by rw[e.W,e.H];exact i);rw[l,e.W];have m:((Q1 a d).b c).st[b]?=some ((a.b c).st[b]||xt d ((b%a.W:Nat):Int) ((b/a.W:Nat):Int)):=(by have:=zd3 a (xh a d) c h b (by omega) ((xh a d).w*(xh a d).h).toNat;rw[qd2 a d g b i] at this;exact this);rw[bW,m,bW,aB (by omega)];simp[Bool.or_assoc]
def qv8 (b:gB)(c:Rc)(a:Nat):(vE b c a).due=(b.due||decide (0<a)):=by
 cases a with
 | zero=>simp[vE]
 | succ a=>rw[yl];simp[VA,kD]
def XJ (a c:Nat)(d:Rc):Bool:=(List.range (a*c)).any fun b=>xt d ((b%a:Nat):Int) ((b/a:Nat):Int)
def rU {W H cx cw cy ch:Nat}(e:cx+cw<=W)(f:cy+ch<=H)(a:t<cw*ch):(cy+t/cw)*W+(cx+t%cw)<W*H:=by
 have c:0<cw:=by
  rcases bg cw with b | b
  ·rw[b] at a;simp at a
  ·exact b
 have g:=fD a;have h:t%cw<cw:=eJ _ c;have d:(cy+t/cw)+1<=H:=(by omega);have:=dF W d;rw[dO,gb,dQ H] at this;omega
def zd4 (a:gB)(c:Rc)(m:1<=a.W):decide (0<((xh a c).w*(xh a c).h).toNat)=XJ a.W a.H c:=by
 unfold XJ;rw[cC,be,ca];obtain⟨b,e⟩:=zx (xh a c);have v:b.x=max c.x 0:=(by rw[e];rfl);have c2:b.y=max c.y 0:=(by rw[e];rfl);have w:b.w=max 0 (min (c.x+c.w) (0+(a.W:Int))-max c.x 0):=(by rw[e];rfl);have x:b.h=max 0 (min (c.y+c.h) (0+(a.H:Int))-max c.y 0):=(by rw[e];rfl);rw[<-e];obtain⟨f,n⟩:∃ f:Nat,b.w=f:=⟨b.w.toNat,by omega⟩;obtain⟨g,o⟩:∃ g:Nat,b.h=g:=⟨b.h.toNat,by omega⟩;obtain⟨h,y⟩:∃ h:Nat,b.x=h:=⟨b.x.toNat,by omega⟩;obtain⟨i,z⟩:∃ i:Nat,b.y=i:=⟨b.y.toNat,by omega⟩;have k:(b.w*b.h).toNat=f*g:=(by rw[n,o,<-dD];exact bF _);rw[k];constructor
 ·intro j;have A:0<f:=by
   rcases bg f with d | d
   ·rw[d] at j;simp at j
   ·exact d
  have B:0<g:=by
   rcases bg g with d | d
   ·rw[d] at j;simp at j
   ·exact d
  have p:i*a.W+h<a.W*a.H:=(by have:=rU (W:=a.W) (H:=a.H) (cx:=h) (cw:=f) (cy:=i) (ch:=g) (t:=0) (by omega) (by omega) j;simpa using this);obtain⟨q,r⟩:=Vy (W:=a.W) (X:=h) (Y:=i) (by omega) (by omega);refine⟨i*a.W+h,by simpa using p,?_⟩;rw[q,r];simp only[xt,aK,be];omega
 ·rintro⟨s,l,t⟩;simp only[fE] at l;have:=qd2 a c m s l;rw[t,<-e,k] at this;rw[ca] at this;obtain⟨C,u,_⟩:=this;simp only[fE] at u;omega
def YH (b:List Rc):∀ a:gB,1<=a.W->(zX a b).due=(a.due||b.any (XJ a.W a.H)):=by
 induction b with
 | nil=>intro a _;simp[zX]
 | cons c b f=>
  intro a e;have d:=qb0 a c;show (zX (Q1 a c) b).due=_;rw[f _ (by rw[d.W];exact e),d.W,d.H];have:(Q1 a c).due=(a.due||XJ a.W a.H c):=(by unfold Q1;rw[qv8,zd4 a c e]);rw[this];simp[Bool.or_assoc]
variable{ch:Bool}{c4 r:Rc}
def rF (a:gB)(b:a.front<3):(za a 3).getD 0<3/\(za a 3).getD 0≠a.front:=by
 obtain⟨f,c,d,e⟩:=Jw a b;rw[c];exact⟨d,e⟩
def XR (d:List Bool)(e:Nat)(f:Int->Int->Int):∀ (c:Nat)(b:Int×Int),b∈zH d e f c->0<=b.1/\b.1<(c:Int)
 | 0,b,a=>by simp[zH] at a
 | c+1,b,a=>by
  unfold zH at a;rcases al.1 a with a | a
  ·have:=XR d e f c b a;omega
  ·split at a
   ·simp at a;subst a;simp only;omega
   ·simp at a
structure hN (D:Nat)(f:gB):Prop where
 W:1<=f.W/\f.W<=16
 H:1<=f.H/\f.H<=16
 fr:f.front<3
 px:∀ i,i<3->(f.b i).px.length=f.W*f.H
 st:∀ i,i<3->(f.b i).st.length=f.W*f.H
 fm:∀ g,f.frame=some g->g.buf<3/\g.buf≠f.front/\g.left.length<=f.W*f.H/\(∀ d∈g.left,0<=d.1/\d.1<((f.W*f.H:Nat):Int))/\g.marks.length<=D
 tN:f.marks.length<=D
def hN.mono {D':Nat}(b:hN n a)(c:n<=D'):hN D' a:=⟨b.W,b.H,b.fr,b.px,b.st,fun d e=>by have:=b.fm d e;exact⟨this.1,this.2.1,this.2.2.1,this.2.2.2.1,aO this.2.2.2.2 c⟩,aO b.tN c⟩
def hN.wh (b:hN n a):a.W*a.H<=256:=cK b.W.2 b.H.2
def hN.uw {f:gB}(c:hN n a)(b:J6 a f):hN n f:=by
 refine⟨by rw[b.W];exact c.W,by rw[b.H];exact c.H,by rw[b.front];exact c.fr,fun d e=>by rw[b.px,b.W,b.H];exact c.px d e,fun d e=>by rw[b.len,b.W,b.H];exact c.st d e,fun h g=>?_,by rw[b.marks];exact c.tN⟩;rw[b.frame] at g;rw[b.front,b.W,b.H];exact c.fm h g
def hN.due (b:hN n a)(c:Bool):hN n {a with due:=c}:=⟨b.W,b.H,b.fr,b.px,b.st,b.fm,b.tN⟩
def hN.ask (b:hN n a)(c:Int×Int):hN (n+1) {a with marks:=a.marks++[c]}:=by
 have d:=b.mono (D':=n+1) (by omega);exact⟨b.W,b.H,b.fr,b.px,b.st,d.fm,by simp only[ae,aX,cM];have:=b.tN;omega⟩
def hN.flip (b:hN n a):hN n (zd a).1:=by
 unfold zd;split
 ·exact b
 ·rename_i c d;split
  ·exact⟨b.W,b.H,(b.fm c d).1,b.px,b.st,fun f e=>by simp at e,b.tN⟩
  ·exact b
def hN.begin (b:hN n a)(f:Int)(g:Int->Int->Int):hN n (zR a f g):=by
 unfold zR;split
 ·exact b
 ·obtain⟨h,i⟩:=rF a b.fr;refine⟨b.W,b.H,b.fr,fun c d=>?_,fun c d=>?_,fun j e=>?_,by simp⟩
  ·simp only;split
   ·exact b.px c d
   ·exact b.px c d
  ·simp only;split
   ·simp
   ·exact b.st c d
  ·simp only[ac] at e;subst e;exact⟨h,i,kV _ _ _ _,XR _ _ _ _,b.tN⟩
def hN.uX (b:hN n a)(f:Nat):hN n (je a f):=by
 unfold je;split
 ·exact b
 ·rename_i g h;obtain⟨i,j,p,k,l⟩:=b.fm g h;refine⟨b.W,b.H,b.fr,fun c d=>?_,fun c d=>?_,fun q e=>?_,b.tN⟩
  ·simp only[zzp];split
   ·rw[Ku];exact b.px c d
   ·exact b.px c d
  ·simp only[zzp];split
   ·exact b.st c d
   ·exact b.st c d
  ·simp only[zzp,ac] at e;subst e;exact⟨i,j,by simp only[zzp,aV];omega,fun m o=>k m (bm o),l⟩
def hN.forget (b:hN n a)(d:Int):hN n (ji a d):=by
 refine⟨b.W,b.H,b.fr,b.px,b.st,fun l c=>?_,aO (dA _ _) b.tN⟩;simp only[ji,cN] at c;obtain⟨e,f,rfl⟩:=c;obtain⟨g,h,i,j,k⟩:=b.fm e f;exact⟨g,h,i,j,aO (dA _ _) k⟩
def qf0 (a:vh n i q l')(b:q<=100000000000000)(c d:Int):Q9 (jW l' c d):=by
 unfold jW;split
 ·exact qo0
 ·rename_i e f;exact (a.sf e (List.mem_of_find?_eq_some f)).rc b
def Vx (a:Q9 r)(b:Q9 c4):(∀ c∈vd ch r c4,Q9 c)/\(vd ch r c4).length<=2:=by
 unfold vd;split
 ·simp
 ·split
  ·simp;exact a
  ·simp;exact⟨a,b⟩
structure vM (K S D:Nat)(st:List gv×gB):Prop where
 sc:vh K S (100+80*(D:Int)) st.1
 fr:hN D st.2
def vM.mono {a b c D':Nat}{d:List gv×gB}(e:vM a b c d)(f:c<=D'):vM a b D' d:=⟨e.sc.mono (by omega),e.fr.mono f⟩
def Z5 {st:List gv×gB}(a:vM n i j st)(v:n*i<=1000)(l:g<n)(w:j<=900000000)(c:qP (gO st.1 g i) o=some x):qb9 g st o/\vM n i (j+1) (zU g st o)/\gO (zU g st o).1 g i=x/\∀ d,d≠g->gO (zU g st o).1 d i=gO st.1 d i:=by
 by_cases b:o.kind=8
 ·have e:zU g st o=(st.1,{st.2 with marks:=st.2.marks++[((g:Int),o.mark)]}):=(by simp[zU,b]);have m:gO st.1 g i=x:=(by simp[qP,b] at c;exact c);rw[e];exact⟨⟨fun _=>by have:=a.fr.tN;omega,fun p=>absurd b p⟩,⟨a.sc.mono (by omega),a.fr.ask _⟩,m,fun _ _=>rfl⟩
 ·obtain⟨f,q,r,s,t⟩:=Xu b c;have e:zU g st o=((zi st.1 g o).1,zX st.2 (yh st.1 g o)):=(by simp[zU,b]);have h:=qe5 a.sc (by omega) l f q r;have u:vh n i (100+80*((j+1:Nat):Int)) (zi st.1 g o).1:=(by have:(100:Int)+80*(j:Int)+80=100+80*((j+1:Nat):Int):=(by omega);rw[<-this];exact h);have y:=a.sc.len;have k:=Vx (ch:=(zi st.1 g o).2) (qf0 a.sc (by omega) g o.iV) (qf0 h (by omega) g o.iV);rw[e];exact⟨⟨fun a=>absurd a b,fun _=>⟨f,by omega,k.1,aO k.2 (by omega)⟩⟩,⟨u,(a.fr.uw (yF _ _)).mono (by omega)⟩,s.symm,t⟩
def Kv {K S j:Nat}(n:K*S<=1000)(o:j<K):∀ (c:List gt)(b:Nat)(a:List gv×gB)(d:List Bool),vM K S b a->b+c.length<=900000000->qR (gO a.1 j S) c=some d-> vX j a c/\vM K S (b+c.length) (c.foldl (zU j) a)/\gO (c.foldl (zU j) a).1 j S=d/\∀ e,e≠j->gO (c.foldl (zU j) a).1 e S=gO a.1 e S
 | [],b,a,d,k,_,g=>⟨trivial,k,by simp[qR] at g;exact g,fun _ _=>rfl⟩
 | h::f,b,a,d,k,r,g=>by
  have i:(qP (gO a.1 j S) h).bind (fun l=>qR l f)=some d:=g;cases m:qP (gO a.1 j S) h with
  | none=>rw[m] at i;cases i
  | some l=>
   rw[m] at i;have p:qR l f=some d:=i;simp only[aX] at r;obtain⟨s,t,u,v⟩:=Z5 k n o (by omega) m;rw[<-u] at p;obtain⟨w,x,y,z⟩:=Kv n o f (b+1) (zU j a h) d t (by omega) p;refine⟨⟨s,w⟩,?_,y,fun e q=>(z e q).trans (v e q)⟩;have A:b+(h::f).length=b+1+f.length:=(by simp only[aX];omega);rw[A];exact x
def qp5 (c:n*i<=1000)(d:j<n){st:List gv×gB}(b:vM n i g st)(o:h.length<=20)(p:g+20<=900000000)(e:qR (gO st.1 j i) h=some x):vX j (st.1,{st.2 with due:=true}) h/\vM n i (g+20) (yD j st h)/\gO (yD j st h).1 j i=x/\∀ a,a≠j->gO (yD j st h).1 a i=gO st.1 a i:=by
 obtain⟨f,k,l,m⟩:=Kv c d h g (st.1,{st.2 with due:=true}) x ⟨b.sc,b.fr.due true⟩ (by omega) e;exact⟨f,k.mono (by omega),l,m⟩
def Y3 {K S j:Nat}(o:K*S<=1000)(p:j<K):∀ (b:List (List gt))(d:Nat)(a:List gv×gB)(h:List Bool),vM K S d a->(∀ c∈b,c.length<=20)->d+20*b.length<=900000000->qR (gO a.1 j S) b.flatten=some h-> (∀ (e:Nat)(c:List gt),b[e]?=some c->vX j ((jx j a (b.take e)).1,{ (jx j a (b.take e)).2 with due:=true}) c)/\vM K S (d+20*b.length) (jx j a b)/\gO (jx j a b).1 j S=h/\∀ g,g≠j->gO (jx j a b).1 g S=gO a.1 g S
 | [],d,a,h,l,_,_,f=>⟨fun e c i=>by simp at i,l,by simp[qR] at f;exact f,fun _ _=>rfl⟩
 | k::m,d,a,h,l,q,t,f=>by
  rw[dG,zF] at f;simp only[aX] at t;cases n:qR (gO a.1 j S) k with
  | none=>rw[n] at f;cases f
  | some E=>
   rw[n] at f;have r:=f;obtain⟨u,v,w,x⟩:=qp5 o p l (q k (by simp)) (by omega) n;rw[<-w] at r;obtain⟨y,z,A,B⟩:=Y3 o p m (d+20) (yD j a k) h v (fun c C=>q c (by simp[C])) (by omega) r;refine⟨fun e c i=>?_,?_,A,fun g s=>(B g s).trans (x g s)⟩
   ·cases e with
    | zero=>simp at i;subst i;exact u
    | succ e=>exact y e c (by simpa using i)
   ·have D:d+20*(k::m).length=d+20+20*m.length:=(by simp only[aX];omega);rw[D];exact z
end Go.Proofs.YtbnbkjbfpamijaaGreat
