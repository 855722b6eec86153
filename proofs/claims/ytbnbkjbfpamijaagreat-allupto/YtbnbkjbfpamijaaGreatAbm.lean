import Derived.Test.YtbnbkjbfpamijaaGreatAbh
import Derived.Test.YtbnbkjbfpamijaaGreatAbl
set_option linter.all false
set_option maxRecDepth 100000
set_option maxHeartbeats 0
namespace Go.Proofs.YtbnbkjbfpamijaaGreat
open Go.RowKit Go.Proofs.Panes
variable{v:Value}{i j:Nat}{b4:he}
section
attribute [local go_sem ↓] Go.wp_at_zero Go.wp_at_succ
def hq.below {U:Nat->Prop}{w w':World}{L:List (List Rc)}(a:hq U w v L)(b:Below w.heap.size w w'):hq U w' v L:=a.but (S:=fun _=>False) (.aD b) (fun _ _ a=>a)
def xx.ltE {w:World}(b:xx i w b4)(c:b4.nS j):i<=j/\j<w.heap.size:=by
 rcases c with a | a | a | a
 ·exact b.l.lt a
 ·exact b.a.lt a
 ·exact b.b.lt a
 ·exact b.c.lt a
def nB (wb:Nat)(gr gc go ss kr ki kf:Value)(j:Value)(w:World)(b:Option Addr)(c:Nat)(d:gr=.slice b 0 c)(a:w.heap[wb]?=some (.cells #[gr,gc,go,ss,kr,ki,kf] 39)) (e f g h:Int):Calls Tryz.prog 9 #[.pointer (some ⟨wb,0,none⟩),.agg #[.int .i64 e,.int .i64 f,.int .i64 g,.int .i64 h]] w fun i w'=>i=.returned (.bool true)/\Below w.heap.size w w':=by
 subst d;obtain⟨k,-⟩:=zzc a;have l:=qh a;clear a;go_enter Tryz.func9,Tryz.ntmps9;go_wp2;go_ret;exact⟨rfl,(aa _ w).alloc (zzl _) _⟩
section
variable {U:Nat->Prop}{wb:Nat}{gr gc go:Value}{C:List hg}{O:List (List gt)}{n:Nat}{w w':World}{ss kr ki kf kr':Value}{sh:List gY}{er ei ef er':List he}{gq:Nat->Nat}{L:List (List Rc)}
def qW.stepR (b:qW U wb gr gc go C O w ss kr ki kf sh er ei ef gq)(e:hR 0 wb gr gc go ss kr ki kf er w w' kr' er'):(∃ o,qW U wb gr gc go C O w' ss kr' ki kf sh er' ei ef o)/\gp (fun a=>¬U a) w w':=by
 have g:=e.but;have P:=qh b.box;have v:∀ a,(a=wb\/kr.ownBlock=some a)->gq a=1:=fun a g=>by
  rcases g with f | f
  ·rw[f];exact b.cw
  ·exact b.cR a f
 have p:∀ a,U a->¬(a=wb\/kr.ownBlock=some a):=fun a x g=>by
  have:=v a g;have:=(b.tL a x).1;omega
 obtain⟨o,y,c2⟩:=qd5 gq (fun a=>kr'.ownBlock=some a\/∃ c∈er',xx w.heap.size w' c/\c.nS a);have k:∀ a,a<w.heap.size->o a=gq a:=fun a m=>by
  by_cases i:kr'.ownBlock=some a\/∃ c∈er',xx w.heap.size w' c/\c.nS a
  ·rw[y a i];rcases i with f | ⟨c,-,h,d⟩
   ·rcases e.uh a f with q | q
    ·exact (b.cR a q).symm
    ·omega
   ·have:=(h.ltE d).1;omega
  ·exact c2 a i
 have z:∀ {c:TypeId}{Q:Nat}{J:Value}{n:Nat}{R:List Value},w.ownsRow 0 c Q J n R->39≠c->82≠c->∀ e,J.ownBlock=some e->¬(e=wb\/kr.ownBlock=some e):=fun r A B e s i=>by
  rcases i with f | f
  ·exact qq r b.box A (by rw[<-f];exact s)
  ·obtain⟨D,E,c⟩:=qE b.oR f;exact qq r c B s
 have K:∀ (t:TypeId),39≠t->82≠t->∀ e,(e=wb\/kr.ownBlock=some e)->e<w.heap.size->∃ D M E,w.heap[e]?=some (.cells D M E)/\M≠t:=fun t A B e s _=>by
  rcases s with f | f
  ·rw[f];exact⟨_,_,_,b.box,A⟩
  ·obtain⟨D,E,c⟩:=qE b.oR f;exact⟨_,_,_,c,B⟩
 have N:=g.size;refine⟨⟨o,⟨e.box,qi b.own g (z b.own (by decide) (by decide)),fun F G H=>(b.pr F G H).but g (fun a m i d=>by have:=v a d;omega) (fun a m i=>by rw[k a m];exact i),fun F G H=>(b.dc F G H).but g (fun a m i d=>by have:=v a d;omega) p (fun a m i=>by rw[k a m];exact i),
  e.own,qi b.oI g (z b.oI (by decide) (by decide)),qi b.oF g (z b.oF (by decide) (by decide)),fun c h=>⟨e.ents c h,fun a d=>?_⟩,fun c h=>⟨(b.eI c h).1.uf g (K _ (by decide) (by decide)),fun a d=>by rw[k a ((b.eI c h).1.lt d)];exact (b.eI c h).2 a d⟩,fun c h=>⟨(b.eF c h).1.uf g (K _ (by decide) (by decide)),fun a d=>by rw[k a ((b.eF c h).1.lt d)];exact (b.eF c h).2 a d⟩,
  by rw[k wb P];exact b.cw,fun j l=>by rw[k j (ab b.own j l).2];exact b.cs j l,fun j l=>y j (.inl l),fun j l=>by rw[k j (ab b.oI j l).2];exact b.cI j l,fun j l=>by rw[k j (ab b.oF j l).2];exact b.cF j l,fun a d=>?_,b.wo.but g p,b.uO.but g p,fun u I=>⟨by rw[k u (b.tL u I).2];exact (b.tL u I).1,zzm (b.tL u I).2 N⟩⟩⟩,g.wide (fun a _ d x=>p a x d)⟩
 ·rcases e.qu0 c h with f | f
  ·have S:=(b.eR c f).2 a d;rw[k a (b.uE a (by omega))];exact S
  ·exact y a (.inr ⟨c,h,f,d⟩)
 ·by_cases i:kr'.ownBlock=some a\/∃ c∈er',xx w.heap.size w' c/\c.nS a
  ·rcases i with q | ⟨c,-,h,r⟩
   ·exact (ab e.own a q).2
   ·exact (h.ltE r).2
  ·rw[c2 a i] at d;exact zzm (b.uE a d) N
def qW.rects (a:qW U wb gr gc go C O w ss kr ki kf sh er ei ef gq)(h:hq U w gr L)(d e f g:Int)(i:1<=d/\d<=5)(k:-9223372036854775808<=e/\e<=9223372036854775807) (m:-9223372036854775808<=f/\f<=9223372036854775807) (o:er.length<=1900000) (p:L.length<=2000000) (q:∀ l∈L,l.length<=2000000):Calls Tryz.prog 9 #[.pointer (some ⟨wb,0,none⟩),.agg #[.int .i64 d,.int .i64 e,.int .i64 f,.int .i64 g]] w fun b w'=>b=.returned (.bool true)/\∃ kr' er',hR 0 wb gr gc go ss kr ki kf er w w' kr' er':=by
 have j:=fun b s=>(a.eR b s).1;have r:∀ c,U c->c<w.heap.size/\c≠wb/\kr.ownBlock≠some c:=fun c i=>⟨(a.tL c i).2,fun b=>by have:=(a.tL c i).1;rw[b,a.cw] at this;omega,fun b=>by have:=(a.tL c i).1;rw[a.cR c b] at this;omega⟩;by_cases t:L.length=0
 ·obtain⟨u,v,b,_⟩:=h;rw[t] at b;exact (nB wb gr gc go ss kr ki kf gr w u v b a.box d e f g).mono fun B w' ⟨x,y⟩=>⟨x,kr,er,iz a.box a.oR j y⟩
 ·by_cases z:d=5
  ·subst z;exact nD U 0 wb gr gc go ss kr ki kf er L e f g w a.box a.oR j (aj _) h k m o ⟨by omega,p⟩ q r
  ·by_cases A:d=1
   ·subst A;exact mO U 0 wb gr gc go ss kr ki kf er L e f g w a.box a.oR j (aj _) h k m o ⟨by omega,p⟩ q r
   ·exact nC U 0 wb gr gc go ss kr ki kf er L d e f g w a.box a.oR j (aj _) h (by omega) k m o ⟨by omega,p⟩ q r
def nx (b:xf U wb gr gc go C O n w)(e:hq U w gr L)(a c d f:Int)(i:1<=a/\a<=5)(k:-9223372036854775808<=c/\c<=9223372036854775807) (m:-9223372036854775808<=d/\d<=9223372036854775807) (D:n<=1100000) (r:L.length<=2000000) (o:∀ l∈L,l.length<=2000000):Calls Tryz.prog 7 #[.pointer (some ⟨wb,0,none⟩),.agg #[.int .i64 a,.int .i64 c,.int .i64 d,.int .i64 f]] w fun g w'=>g=.returned (.bool true)/\xf U wb gr gc go C O (n+1) w'/\gp (fun j=>¬U j) w w':=by
 obtain⟨ss,kr,ki,kf,sh,er,ei,ef,gq,b⟩:=b;have h:Below w.heap.size w (w.alloc (.cells #[.int .i64 a,.int .i64 c,.int .i64 d,.int .i64 f] 42)):=(aa _ w).alloc (zzl _) _;have s:=b.len;have t:Hid (Calls Tryz.prog 9 #[.pointer (some ⟨wb,0,none⟩),.agg #[.int .i64 a,.int .i64 c,.int .i64 d,.int .i64 f]] (w.alloc (.cells #[.int .i64 a,.int .i64 c,.int .i64 d,.int .i64 f] 42)) fun g w'=>g=.returned (.bool true)/\xf U wb gr gc go C O (n+1) w'/\gp (fun j=>¬U j) w w'):=(by refine ((b.mem.below h).rects (e.below h) a c d f i k m (by omega) r o).mono ?_;rintro g w' ⟨rfl,kr',er',p⟩;obtain⟨⟨u,v⟩,x⟩:=(b.mem.below h).stepR p;have:=p.len;exact⟨rfl,⟨ss,kr',ki,kf,sh,er',ei,ef,u,v,fun y z=>(b.each y z).more,⟨by omega,by omega,by omega,by omega⟩⟩,(gp.aD h).trans x⟩);have E:¬a<1:=(by omega);have k2:¬11<a:=(by omega);have F:=i.2;clear b h k m o i e s;go_enter Tryz.func7,Tryz.ntmps7;go_wp2_with (go_at_call 9;refine (qb t).mono ?_;rintro g w' ⟨rfl,e,q⟩;have A:=qg e;have B:=qg q;clear e q)
 go_ret;exact⟨rfl,qb A,qb B⟩
end
end
variable{S V:Nat→Prop}{w:World}{n:Nat}{vf z:Value}
section
attribute [local go_sem ↓] Go.wp_at_zero Go.wp_at_succ
def hq.wide {a:List (List Rc)}(e:hq S w v a)(b:∀ k,S k->V k):hq V w v a:=by
 obtain⟨f,g,h,i,j⟩:=e;refine⟨f,g,h,i,fun l=>?_⟩;obtain⟨c,m,n,o,p,q⟩:=j l;refine⟨c,m,n,b c o,p,fun r s t=>?_⟩;obtain⟨u,x,y,z,A,B⟩:=q r s t;refine⟨u,x,y,z,A,fun C=>?_⟩;obtain⟨d,D,E,F,G⟩:=B C;exact⟨d,D,E,b d F,G⟩
def mn:∀ a∈v9,a.x<=11:=by
 intro a b;simp only[v9,bf,dt,eW] at b;rcases b with rfl | rfl | rfl | rfl | rfl | rfl | rfl | rfl | rfl | rfl | rfl | rfl | rfl | rfl | rfl<;>decide
def lZ {k:List hg}{h:List (List gt)}{j:List (List Rc)}(t:xf S n v z vf k h i w)(m:hq S w v j)(a c d e:Int)(b:1<=a/\a<=11)(u:-9223372036854775808<=c/\c<=9223372036854775807)(x:-9223372036854775808<=d/\d<=9223372036854775807)(A:-9223372036854775808<=e/\e<=9223372036854775807)(y:i<=1100000)(B:k.length<=10000000000000)(C:h.length<=10000000000000)(D:∀ l∈h,l.length<=1759218604390/\∀ o∈l,o.px.length<=17592186043904)(E:j.length<=2000000)(F:∀ l∈j,l.length<=2000000):Calls Tryz.prog 7 #[.pointer (some ⟨n,0,none⟩),.agg #[.int .i64 a,.int .i64 c,.int .i64 d,.int .i64 e]] w fun p f=>p=.returned (.bool true)/\xf S n v z vf k h (i+1) f/\hq S f v j/\gp (fun G=>¬S G) w f:=by
 by_cases H:a<=5
 ·exact (nx t m a c d e ⟨b.1,H⟩ u x y E F).mono fun p f ⟨q,r,g⟩=>⟨q,r,m.but g (fun I b s=>s b),g⟩
 ·exact (XG t a c d e ⟨by omega,b.2⟩ u x.2 A y B C D).mono fun p f ⟨q,r,g⟩=>⟨q,r,m.but g (fun I b s=>s b),g⟩
def hO:List (List Rc):=[[⟨0,0,2,2⟩,⟨1,1,2,2⟩],[⟨1,1,1,1⟩]]
def rm (a:Nat)(n:a+4<=w.heap.size)(k:w.heap[a+1]?=some (.cells (qK [⟨0,0,2,2⟩,⟨1,1,2,2⟩]).toArray 46))(l:w.heap[a+1+1]?=some (.cells (qK [⟨1,1,1,1⟩]).toArray 46))(d:w.heap[a+1+1+1]?=some (.cells #[.slice (some ⟨a+1,0,none⟩) 2 2,.slice (some ⟨a+1+1,0,none⟩) 1 1] 47)):hq (fun c=>c<w.heap.size) w (.slice (some ⟨a+1+1+1,0,none⟩) 2 2) hO:=by
 refine⟨some ⟨a+1+1+1,0,none⟩,2,rfl,by decide,fun _=>⟨a+1+1+1,0,rfl,qh d,qh d,fun m o b=>?_⟩⟩
 match m,b with
 | 0,b=>
  simp only[hO,bp,ac] at b;subst b;obtain⟨e,f,g,h,i,j⟩:=qi0 (U:=fun c=>c<w.heap.size) k (qh k) 2 (by simp) (by simp[maxLen]);exact⟨e,f,by rw[<-g];exact qe d 0,h,i,j⟩
 | 1,b=>
  simp only[hO,bp,cD,ac] at b;subst b;obtain⟨e,f,g,h,i,j⟩:=qi0 (U:=fun c=>c<w.heap.size) l (qh l) 1 (by simp) (by simp[maxLen]);exact⟨e,f,by rw[<-g];exact qe d 1,h,i,j⟩
 | m+2,b=>simp[hO] at b
def lh:hO.length<=2000000/\∀ a∈hO,a.length<=2000000:=by
 refine⟨by decide,fun a b=>?_⟩;simp only[hO,bf,dt,eW] at b;rcases b with rfl | rfl<;>decide
def rk (a:World):Calls Tryz.prog 5 #[] a fun g b=>∃ d e f,g=.returned (.agg #[.slice (some ⟨d,0,none⟩) 2 2,.slice (some ⟨e,0,none⟩) 2 2,.slice (some ⟨f,0,none⟩) 1 1])/\hq (fun c=>c<b.heap.size) b (.slice (some ⟨d,0,none⟩) 2 2) hO/\mH (fun c=>c<b.heap.size) b (.slice (some ⟨e,0,none⟩) 2 2) Qu/\yM (fun c=>c<b.heap.size) b (.slice (some ⟨f,0,none⟩) 1 1) yx/\Below a.heap.size a b:=by
 go_enter Tryz.func5,Tryz.ntmps5;go_wp2;refine bV (v:=.agg #[.slice (some ⟨a.heap.size+1+1+1,0,none⟩) 2 2,.slice (some ⟨a.heap.size+1+1+1+1,0,none⟩) 2 2,.slice (some ⟨a.heap.size+1+1+1+1+1+1+1,0,none⟩) 1 1]) (by simp[results,Tryz.results5,go_sem]) rfl ⟨_,_,_,rfl,?_,?_,?_,?_⟩
 ·refine rm a.heap.size (by simp) ?_ ?_ ?_;all_goals repeat (first | exact qt _ _ _ (by simp) | rw[qe7 _ _ _ (by first | (simp;done) | (simp;omega))])
 ·refine zb9 _ ?_;all_goals repeat (first | exact qt _ _ _ (by simp) | rw[qe7 _ _ _ (by first | (simp;done) | (simp;omega))])
 ·refine zb8 (a.heap.size+1+1+1+1+1) (a.heap.size+1+1+1+1+1+1) _ ?_ ?_ ?_;all_goals repeat (first | exact qt _ _ _ (by simp) | rw[qe7 _ _ _ (by first | (simp;done) | (simp;omega))])
 ·repeat (first | exact aa _ _ | refine Below.setCell ?_ (by first | (simp;done) | (simp;omega)) _ | refine ax ?_ _ | refine fa ?_ | refine cP ?_ (by first | (simp;done) | (simp;omega)) _)
def rh (j n p a4:Option Addr)(k m q r a5:Nat)(f:List hg)(e:List (List gt))(g:List Rc)(b:World)(c7:mH (fun a=>a<b.heap.size) b (.slice n f.length q) f)(c8:yM (fun a=>a<b.heap.size) b (.slice p e.length r) e)(c9:iG (fun a=>a<b.heap.size) b (.slice a4 g.length a5) g)(j8:g.length<=1100000)(Z:List (List Rc))(d0:hq (fun a=>a<b.heap.size) b (.slice j k m) Z)(f6:Z.length<=2000000)(d1:∀ l∈Z,l.length<=2000000)(f7:f.length<=10000000000000)(f8:e.length<=10000000000000)(F:∀ l∈e,l.length<=1759218604390/\∀ o∈l,o.px.length<=17592186043904)(d2:∀ c∈g,(-9223372036854775808<=c.y/\c.y<=9223372036854775807)/\(-9223372036854775808<=c.w/\c.w<=9223372036854775807)/\(-9223372036854775808<=c.h/\c.h<=9223372036854775807)):Calls Tryz.prog 4 #[.agg #[.slice j k m,.slice n f.length q,.slice p e.length r],.slice a4 g.length a5,.int .i64 1,.int .i64 11] b fun G f9=>G=.returned (.bool true)/\Below b.heap.size b f9:=by
 have g0:=qg c7;have g1:=qg d0;have g2:=qg d1;have g3:=qg c8;have g4:=qg c9;have g5:=qg F;have g6:=qg d2;clear c7 d0 d1 c8 c9 F d2;go_enter Tryz.func4,Tryz.ntmps4;go_wp2_with fail
 have a6:Below b.heap.size b (b.alloc (.cells #[.slice j k m,.slice n f.length q,.slice p e.length r] 26)):=(aa _ b).alloc (zzl _) _;have a7:(b.alloc (.cells #[.slice j k m,.slice n f.length q,.slice p e.length r] 26)).heap[b.heap.size]?=some (.cells #[.slice j k m,.slice n f.length q,.slice p e.length r] 26):=qt _ _ _ rfl;generalize b.alloc (.cells #[.slice j k m,.slice n f.length q,.slice p e.length r] 26)=g7 at *;refine (rk g7).mono ?_;rintro G d ⟨H,J,K,rfl,d3,d4,d5,a8⟩;have d6:=(a8.block _ (qh a7)).trans a7;have a9:=a6.trans (a8.mono a6.size);have d7:=qg d6;have g8:=qg a9;have g9:=qg d4;have i0:=qg d5;have i1:=qg d3;have i2:=a9.size;clear a6 a7 a8 d6 a9 d4 d5 d3;go_wp2_with fail
 have b0:(d.alloc (.cells #[.slice (some ⟨H,0,none⟩) 2 2,.slice (some ⟨J,0,none⟩) 2 2,.slice (some ⟨K,0,none⟩) 1 1,.slice none 0 0,.slice none 0 0,.slice none 0 0,.slice none 0 0] 39)).heap[d.heap.size]?=some (.cells #[.slice (some ⟨H,0,none⟩) 2 2,.slice (some ⟨J,0,none⟩) 2 2,.slice (some ⟨K,0,none⟩) 1 1,.slice none 0 0,.slice none 0 0,.slice none 0 0,.slice none 0 0] 39):=qt _ _ _ rfl;have d8:Below d.heap.size d (d.alloc (.cells #[.slice (some ⟨H,0,none⟩) 2 2,.slice (some ⟨J,0,none⟩) 2 2,.slice (some ⟨K,0,none⟩) 1 1,.slice none 0 0,.slice none 0 0,.slice none 0 0,.slice none 0 0] 39)):=(aa _ d).alloc (zzl _) _;generalize d.alloc (.cells #[.slice (some ⟨H,0,none⟩) 2 2,.slice (some ⟨J,0,none⟩) 2 2,.slice (some ⟨K,0,none⟩) 1 1,.slice none 0 0,.slice none 0 0,.slice none 0 0,.slice none 0 0] 39)=z at *;refine (Yi z).mono ?_;rintro G d9 ⟨i3,rfl,e0,j9,b1⟩;have i4:=qh b0;have e1:=(b1.block _ i4).trans b0;have A:=d8.trans (b1.mono (by omega));have h:xf (fun a=>a<d.heap.size\/a=z.heap.size) d.heap.size _ _ _ Qu yx 0 d9:=xf.first e1 (((qb g9).wide (fun a i=>.inl i)).below A) (((qb i0).wide (fun a i=>.inl i)).below A) (fun a i=>by
  have:=A.size;rcases i with u | u
  ·exact⟨by omega,by omega⟩
  ·exact⟨by omega,by omega⟩)
 have e2:=((qb i1).wide (V:=fun a=>a<d.heap.size\/a=z.heap.size) (fun a i=>.inl i)).below A;have i5:=A.size;have b2:iG (fun a=>a<d.heap.size\/a=z.heap.size) d9 i3 v9:=e0.wide (fun a i=>.inr i);obtain⟨i6,i7,rfl,i8⟩:=id b2;clear i8;have s:=qg h;have b3:=qg b2;have e3:=qg A;have e4:=qg e2;clear b0 d8 e0 b1 e1 h b2 A e2;have F:v9.length=15:=rfl;rw[F];rw[F] at b3;clear F;go_wp2;go_loopw [8,11] (fun b4 B wr=>b4=.bool false/\∃ a:Nat,a<=15/\B=.int .i64 a/\xf (fun a=>a<d.heap.size\/a=z.heap.size) d.heap.size (.slice (some ⟨H,0,none⟩) 2 2) (.slice (some ⟨J,0,none⟩) 2 2) (.slice (some ⟨K,0,none⟩) 1 1) Qu yx a wr/\hq (fun a=>a<d.heap.size\/a=z.heap.size) wr (.slice (some ⟨H,0,none⟩) 2 2) hO/\Below d.heap.size d wr/\iG (fun a=>a<d.heap.size\/a=z.heap.size) wr (.slice i6 15 i7) v9) (fun _ B _=>15-(intOf B).toNat)
 case atStart=>exact⟨rfl,0,aj _,rfl,qb s,qb e4,qb e3,qb b3⟩
 case round=>
  rename World=>L;obtain⟨rfl,a,i,rfl,h,C,t,v⟩:=hrel;clear s b3 e3 e4;by_cases a0:a<15
  ·obtain⟨c,w⟩:∃ c,v9[a]?=some c:=⟨v9[a]'a0,aB a0⟩;obtain⟨b5,i9,j0,rfl,b6,c2,b7,b8⟩:=v.at w;clear b5;obtain⟨e5,M,N⟩:=Kw c (zzn w);have O:=Yj c (zzn w);have e6:=mn c (zzn w);have j1:(0:Int)<=(a:Int):=(by omega);have j2:(a:Int)<(15:Int):=(by omega);have s:=qg h;have P:=qg C;have x:=qg t;have Q:=qg v;have R:=qg M;have S:=qg O;have T:=qg N;clear h C t v w M O N;obtain⟨U,b9,c0,c1⟩:=c;simp only at b6 c2 b7 b8 e5 e6 R S T;have j3:=e5;have h11:=e6;have W:=qg (lZ (qb s) (qb P) U b9 c0 c1 ⟨j3,h11⟩ (qb R) (qb T) (qb S) (by omega) (by decide) ZN.1 ZN.2 lh.1 lh.2);have k0:=i5;go_wp2_with fail
   refine (qb W).mono ?_;rintro G k1 ⟨rfl,I,X,D⟩;have c3:=qg I;have c4:=qg X;have a1:=qg ((qb x).trans (D.below (qb x).size (fun Y u=>by rcases cz Y d.heap.size with E | E;exact absurd (.inl E) u;exact E)));have c5:=qg ((qb Q).but D (fun Y c6 u=>u c6));clear I X D W;go_wp2;go_roundw
   case rel=>exact⟨rfl,a+1,by omega,by go_num,qb c3,qb c4,qb a1,qb c5⟩
   case measure=>simp[intOf];omega
  ·have k2:¬(a:Int)<15:=(by omega);have e7:=(t.block _ (qh (qb d7))).trans (qb d7);obtain⟨j4,j5,j6,-⟩:=zzc e7;have a2:=qg ((qb g8).trans (t.mono i2));clear h C t v e7;go_wp2;have e8:(L.alloc (.cells #[.slice j k m,.slice n f.length q,.slice p e.length r,.slice none 0 0,.slice none 0 0,.slice none 0 0,.slice none 0 0] 39)).heap[L.heap.size]?=some (.cells #[.slice j k m,.slice n f.length q,.slice p e.length r,.slice none 0 0,.slice none 0 0,.slice none 0 0,.slice none 0 0] 39):=qt _ _ _ rfl;have y:Below b.heap.size b (L.alloc (.cells #[.slice j k m,.slice n f.length q,.slice p e.length r,.slice none 0 0,.slice none 0 0,.slice none 0 0,.slice none 0 0] 39)):=(qb a2).alloc (qb a2).size _;have k3:=(qb a2).size;clear j4 j5 j6 a2;generalize L.alloc (.cells #[.slice j k m,.slice n f.length q,.slice p e.length r,.slice none 0 0,.slice none 0 0,.slice none 0 0,.slice none 0 0] 39)=k4 at *;generalize L.heap.size=j7 at *;have h:=xf.first e8 ((qb g0).below y) ((qb g3).below y) (fun a i=>⟨zzm i y.size,by omega⟩);have e9:=(qb g1).below y;have k5:=y.size;have f0:=(qb g4).below y;have s:=qg h;have f1:=qg f0;have f2:=qg y;have f3:=qg e9;clear e8 y h f0 e9;go_loopw [8,14] (fun b4 B wr=>b4=.bool false/\∃ a:Nat,a<=g.length/\B=.int .i64 a/\xf (fun a=>a<b.heap.size) j7 (.slice j k m) (.slice n f.length q) (.slice p e.length r) f e a wr/\hq (fun a=>a<b.heap.size) wr (.slice j k m) Z/\Below b.heap.size b wr/\iG (fun a=>a<b.heap.size) wr (.slice a4 g.length a5) g) (fun _ B _=>g.length-(intOf B).toNat)
   case atStart=>exact⟨rfl,0,aj _,rfl,qb s,qb f3,qb f2,qb f1⟩
   case round=>
    rename World=>k6;obtain⟨rfl,a,i,rfl,h,C,t,v⟩:=hrel;clear s f1 f2 f3;by_cases a0:a<g.length
    ·obtain⟨c,w⟩:∃ c,g[a]?=some c:=⟨g[a],by simp[a0]⟩;obtain⟨b5,i9,j0,rfl,b6,c2,b7,b8⟩:=v.at w;clear b5;obtain⟨M,N,O⟩:=(qb g6) c (zzn w);have j1:(0:Int)<=(a:Int):=(by omega);have j2:(a:Int)<(g.length:Int):=(by omega);have s:=qg h;have P:=qg C;have x:=qg t;have Q:=qg v;have R:=qg M;have S:=qg O;have T:=qg N;clear h C t v w M O N;obtain⟨U,b9,c0,c1⟩:=c;simp only at b6 c2 b7 b8 R S T;by_cases h1:U<1
     ·go_wp2;go_roundw
      case rel=>exact⟨rfl,a+1,by omega,by go_num,(qb s).more,qb P,qb x,qb Q⟩
      case measure=>simp[intOf];omega
     ·by_cases h5:11<U
      ·go_wp2;go_roundw
       case rel=>exact⟨rfl,a+1,by omega,by go_num,(qb s).more,qb P,qb x,qb Q⟩
       case measure=>simp[intOf];omega
      ·have W:=qg (lZ (qb s) (qb P) U b9 c0 c1 ⟨by omega,by omega⟩ (qb R) (qb T) (qb S) (by omega) f7 f8 (qb g5) f6 (qb g2));go_wp2_with fail
       refine (qb W).mono ?_;rintro G k7 ⟨rfl,I,X,D⟩;have f4:=qg (I.whole (by omega));have c3:=qg I;have c4:=qg X;have a1:=qg ((qb x).trans (D.below (qb x).size (fun Y u=>by rcases cz Y b.heap.size with E | E;exact absurd E u;exact E)));have c5:=qg ((qb Q).but D (fun Y c6 u=>u c6));clear I X D W;go_wp2_with fail
       refine (qb f4).mono ?_;rintro G k8 ⟨rfl,f5⟩;have a3:=qg f5;clear f5 f4;go_wp2;go_roundw
       case rel=>exact⟨rfl,a+1,by omega,by go_num,(qb c3).below (qb a3),(qb c4).below (qb a3),(qb a1).trans ((qb a3).mono (qb a1).size),(qb c5).below (qb a3)⟩
       case measure=>simp[intOf];omega
    ·have x:=qg t;clear h C t v;go_wp2;go_ret;exact⟨rfl,qb x⟩
def nZ (h i j s:Option Addr)(k m n p t:Nat)(f:List hg)(d:List (List gt))(g:List Rc)(a:World)(u:mH (fun b=>b<a.heap.size) a (.slice i f.length n) f)(v:yM (fun b=>b<a.heap.size) a (.slice j d.length p) d)(w:iG (fun b=>b<a.heap.size) a (.slice s g.length t) g)(G:g.length<=1100000)(q:List (List Rc))(x:hq (fun b=>b<a.heap.size) a (.slice h k m) q)(H:q.length<=2000000)(y:∀ l∈q,l.length<=2000000)(I:f.length<=10000000000000)(J:d.length<=10000000000000)(z:∀ l∈d,l.length<=1759218604390/\∀ o∈l,o.px.length<=17592186043904)(A:∀ r∈g,(-9223372036854775808<=r.y/\r.y<=9223372036854775807)/\(-9223372036854775808<=r.w/\r.w<=9223372036854775807)/\(-9223372036854775808<=r.h/\r.h<=9223372036854775807)):Calls Tryz.prog 3 #[.agg #[.slice h k m,.slice i f.length n,.slice j d.length p],.slice s g.length t] a fun B C=>B=.returned (.bool true)/\Below a.heap.size a C:=by
 have c:Below a.heap.size a (a.alloc (.cells #[.slice h k m,.slice i f.length n,.slice j d.length p] 26)):=(aa _ a).alloc (zzl _) _;have D:=qg (rh h i j s k m n p t f d g _ ((u.below c).wide (fun b e=>zzm e c.size)) ((v.below c).wide (fun b e=>zzm e c.size)) ((w.below c).wide (fun b e=>zzm e c.size)) G q ((x.below c).wide (fun b e=>zzm e c.size)) H y I J z A);have E:=qg c;clear u x y v w z A c;go_enter Tryz.func3,Tryz.ntmps3;go_wp2_with fail
 refine (qb D).mono ?_;rintro B C ⟨rfl,F⟩;have K:=qg F;clear F D;go_wp2;go_ret;exact⟨rfl,(qb E).trans ((qb K).mono (qb E).size)⟩
end
section
open Go.ChangeShapes Go.WideShapes Go.ChangeAt Go.RowKit Go.Proofs.Panes Go.Deep Go.Joins
namespace LRead
def nR:Tryz.prog.cellsOf 46=4:=by kernel_rfl
def na:Tryz.prog.cellsOf 47=1:=by kernel_rfl
def lE {u:Type}{P:TypeId×Value->u}{c:World}{Q:Nat}{R:Nat->Bool}{S:Bool}{T:Nat}{m:Value}{v:DataW u×List MemPlace}(n:DataW.trod P Tryz.prog c Q R S T 47 [m]=some v):∃ U j k,m=.slice U k.length j/\iG (fun w=>w<c.heap.size) c m k/\(∀ a∈k,tk a)/\k.length<=Rows.uptoBulk v.1:=by
 rcases open_slice Tryz.underlying47 n with ⟨i,_⟩ | ⟨f,b,j,x,b7,o,b8,i,b9,V,W,X,Y,Z⟩
 ·simp only[bE,bB] at i;subst i;exact⟨none,0,[],rfl,⟨none,0,rfl,zzl _,by simp[maxLen],fun n=>absurd rfl n⟩,fun a g=>by simp at g,by simp⟩
 ·simp only[bE,bB] at i;subst i;have c0:b<=x:=(by rw[X];split<;>omega);have a0:∀ d,d<b->∃ a:Rc,tk a/\c.cell? (f.add (d*4))=some (.int .i64 a.x)/\c.cell? (f.add (d*4+1))=some (.int .i64 a.y)/\c.cell? (f.add (d*4+2))=some (.int .i64 a.w)/\c.cell? (f.add (d*4+3))=some (.int .i64 a.h):=by
   intro d y;obtain⟨a1,p,q⟩:=Z d (by omega);rw[nR] at p;obtain⟨_,a2,qF⟩:=fe p;obtain⟨c1,c3,c4,c5,w,_,_,z,A,B,C⟩:=trod_struct4 Tryz.underlying46 q;simp only[kX] at z A B C
   match a1,a2 with
   | [u0,u1,u2,u3],_=>
    obtain⟨a3,D,_,a4⟩:=bC Tryz.underlying3 z;obtain⟨a5,E,_,a6⟩:=bC Tryz.underlying3 A;obtain⟨a7,F,_,a8⟩:=bC Tryz.underlying3 B;obtain⟨a9,G,_,b0⟩:=bC Tryz.underlying3 C;simp at D E F G;subst D E F G;have H:=qF 0 (by omega);have I:=qF 1 (by omega);have c2:=qF 2 (by omega);have J:=qF 3 (by omega);rw[add_add] at H I c2 J;exact⟨⟨a3,a5,a7,a9⟩,⟨bounds_i64 a4,bounds_i64 a6,bounds_i64 a8,bounds_i64 b0⟩,by simpa using H,by simpa using I,by simpa using c2,by simpa using J⟩
  obtain⟨K,r⟩:=@choose_lt Rc ⟨⟨0,0,0,0⟩⟩ _ _ a0;refine⟨some f,j,(List.range b).map K,by simp,⟨some f,j,by simp,by simpa using V,W,fun b1=>?_⟩,fun a g=>?_,?_⟩
  ·have b2:0<b:=by
    rcases bg b with s | s
    ·subst s;simp at b1
    ·exact s
   have L:=(r 0 b2).2.1;obtain⟨l,t,b3⟩:=f;have b4:b3=none:=(by simpa[Addr.add] using fi L);subst b4;have b5:=aJ c _ L;have M:∀ e,(⟨l,t,none⟩:Addr).add e=⟨l,t+e,none⟩:=fun e=>by unfold Addr.add;split<;>simp_all
   have N:l<c.heap.size:=(by simpa[M] using b5);refine⟨l,t,rfl,N,N,fun e a g=>?_⟩;have O:e<b:=(by have:=(zzg g).1;simpa using this);have b6:K e=a:=(by simpa[O] using g);have h:=r e O;rw[b6] at h;simp only[M] at h;exact⟨h.2.1,h.2.2.1,h.2.2.2.1,h.2.2.2.2⟩
  ·obtain⟨d,y,rfl⟩:=aC.1 g;exact (r d (by simpa using y)).1
  ·rw[Y];have p:=xe ((List.range b).map o) ((List.range (x-b)).map fun e=>o (b+e));have q:=kH ((List.range b).map o);simp at q;simp only[ak,dk];omega
def qm {t:Type}{J:TypeId×Value->t}{d:World}{K:Nat}{L:Nat->Bool}{M:Bool}{N:Nat}{u:Value}{h:DataW t×List MemPlace}(k:DataW.trod J Tryz.prog d K L M N 22 [u]=some h):∃ l,hq (fun m=>m<d.heap.size) d u l/\l.length<=Rows.uptoBulk h.1/\∀ c∈l,c.length<=Rows.uptoBulk h.1:=by
 rcases open_slice1 Tryz.underlying22 na k with ⟨g,_⟩ | ⟨v,b,O,n,a4,P,e,a5,g,a6,o,a7,Q,w,p⟩
 ·simp only[bE,bB] at g;subst g;exact⟨[],⟨none,0,rfl,zzl _,fun k=>absurd rfl k⟩,by simp,fun c o=>by simp at o⟩
 ·simp only[bE,bB] at g;subst g;have a8:b<=n:=(by rw[Q];split<;>omega);have R:∀ a,a<b->∃ c:List Rc,iG (fun m=>m<d.heap.size) d (P a) c/\c.length<=Rows.uptoBulk (e a):=(by intro a i;obtain⟨_,q⟩:=p a (by omega);obtain⟨_,_,c,_,S,_,T⟩:=lE q;exact⟨c,S,T⟩);obtain⟨x,y⟩:=@choose_lt (List Rc) ⟨[]⟩ _ _ R;have U:∀ a,a<b->Rows.uptoBulk (e a)<=Rows.uptoBulk h.1:=fun a i=>by
   rw[w];exact aO (JZ (aC.2 ⟨a,by simpa using i,rfl⟩)) (xe ((List.range b).map e) ((List.range (n-b)).map fun f=>e (b+f)))
  refine⟨(List.range b).map x,⟨some v,O,by simp,by simpa using o,fun V=>?_⟩,?_,fun c W=>?_⟩
  ·have a9:0<b:=by
    rcases bg b with r | r
    ·subst r;simp at V
    ·exact r
   have z:=(p 0 (by omega)).1;obtain⟨j,s,X⟩:=v;have Y:X=none:=(by simpa[Addr.add] using fi z);subst Y;have Z:=aJ d _ z;have A:∀ f,(⟨j,s,none⟩:Addr).add f=⟨j,s+f,none⟩:=fun f=>by unfold Addr.add;split<;>simp_all
   have B:j<d.heap.size:=(by simpa[A] using Z);refine⟨j,s,rfl,B,B,fun a c C=>?_⟩;have D:a<b:=(by have:=(zzg C).1;simpa using this);have a0:x a=c:=(by simpa[D] using C);obtain⟨a1,a2,E,F,a3,G⟩:=(y a D).1;rw[a0] at E F G;have H:=(p a (by omega)).1;rw[A,E] at H;exact⟨a1,a2,H,F,a3,G⟩
  ·rw[w];have b0:=xe ((List.range b).map e) ((List.range (n-b)).map fun f=>e (b+f));have q:=kH ((List.range b).map e);simp at q;simp only[ak,dk];omega
  ·obtain⟨a,i,rfl⟩:=aC.1 W;have I:a<b:=(by simpa using i);exact aO (y a I).2 (U a I)
end LRead
end
end Go.Proofs.YtbnbkjbfpamijaaGreat
