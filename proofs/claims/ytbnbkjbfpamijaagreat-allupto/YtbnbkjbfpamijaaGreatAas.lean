import Derived.Test.YtbnbkjbfpamijaaGreatAbz
import Derived.Test.YtbnbkjbfpamijaaGreatAar
set_option linter.all false
set_option maxRecDepth 100000
set_option maxHeartbeats 0
namespace Go.Proofs.YtbnbkjbfpamijaaGreat
open Go.RowKit Go.Proofs.Panes
variable{E:hg}{i j n:Nat}{q:Int}{l':List gv}{e:gF}
structure tf (c:hg)(l:List gv)(j:Nat)(k:gF):Prop where
 own:qR (gO l j c.iE.toNat) k.q.flatten=some k.own
 tr:∀ tr∈k.q,(1<=tr.length/\tr.length<=20)/\1<=qA tr/\qA tr<=c.tK
 cr:0<=k.cr/\k.cr<=c.tK
 ql:(k.q.length:Int)<=c.queue
structure rA (c:hg):Prop where
 w:1<=c.w/\c.w<=16
 h:1<=c.h/\c.h<=16
 oA:1<=c.oA/\c.oA<=4
 queue:1<=c.queue/\c.queue<=8
 tK:1<=c.tK/\c.tK<=300
 hD:c.tK<=c.hD/\c.hD<=600
 iE:1<=c.iE/\c.iE<=4
 behind:1<=c.behind/\c.behind<=4294967295
def Qy (a:jU E=true):rA E:=by
 simp only[jU,aK,jh] at a;obtain⟨⟨⟨⟨⟨⟨⟨b,c⟩,E⟩,d⟩,e⟩,f⟩,g⟩,h⟩:=a;exact⟨b,c,E,d,e,f,g,h⟩
def rA.ks (a:rA E):E.oA.toNat*E.iE.toNat<=16:=cK (show E.oA.toNat<=4 by have:=a.oA;omega) (show E.iE.toNat<=4 by have:=a.iE;omega)
structure jg (D:Nat)(s:qY):Prop where
 cfg:jU s.c=true
 len:s.ks.length=s.c.oA.toNat
 W:s.f.W=s.c.w.toNat
 H:s.f.H=s.c.h.toNat
 st:vM s.c.oA.toNat s.c.iE.toNat D (s.l,s.f)
 cl:∀ (j:Nat)(k:gF),s.ks[j]?=some (some k)->tf s.c s.l j k
 no:∀ j:Nat,s.ks[j]?=some none->∀ x∈s.l,x.cl≠(j:Int)
def Jg:∀ (b:List (List gt))(a c:Int),0<=a->(∀ e∈b,0<=qA e/\qA e<=c)->0<=(zP a b).2/\(zP a b).2<=a/\((zP a b).1<b.length->(zP a b).2<c)/\(c<=a->b≠[]->1<=(zP a b).1)
 | [],a,c,f,_=>⟨f,co _,fun d=>by simp[zP] at d,fun _ d=>absurd rfl d⟩
 | g::b,a,c,f,h=>by
  have m:=h g (by simp);unfold zP;split
  ·rename_i i;obtain⟨j,n,k,_⟩:=Jg b (a-qA g) c (by omega) (fun e l=>h e (by simp[l]));exact⟨j,by simp only;omega,fun d=>k (by simp only[aX] at d;omega),fun _ _=>by simp⟩
  ·rename_i i;exact⟨f,co _,fun _=>by simp only;omega,fun d=>by omega⟩
def qt7 (a:List gv)(b c:Nat):gO (a.map hd) b c=gO a b c:=by
 unfold gO;refine bN fun e _=>?_;rw[cC,yI,yI];have d:(a.map hd).map qw=a.map qw:=(by rw[cB];exact bN fun s _=>xH s);rw[d]
def JC (f:vh n i q l'):(∀ a∈l',a.cl≠(j:Int))↔gO l' j i=List.replicate i false:=by
 constructor
 ·intro g;apply bh;intro h;by_cases e:h<i
  ·rw[Qw e,bD,an e];congr 1
   rw[dX];intro a b c;have:=ju.1 c;simp only[qw,bP] at this;exact g a b this.1
  ·rw[aI (by rw[vQ];omega),aI (by simp;omega)]
 ·intro c a b l;have m:=f.ky a b;have d:(gO l' j i)[a.num.toNat]?=some (l'.any (gN (j:Int) ((a.num.toNat:Nat):Int))):=Qw (by omega);rw[c,bD,an (by omega)] at d;have k:l'.any (gN (j:Int) ((a.num.toNat:Nat):Int))=true:=yI.2 (aC.2 ⟨a,b,by simp only[qw,bP];omega⟩);rw[k] at d;simp at d
section
variable {D:Nat}{s:qY}
def zc3 (d:vh n i q l')(e:q<=100000000000000):∀ a∈l'.flatMap zW,Q9 a:=by
 intro a b;obtain⟨c,f,b⟩:=du.1 b;exact (Vx (ch:=nJ c) ((d.sf c f).rc e) ((d.sf c f).go.rc e)).1 a b
def Y5 (a:jg D s):vM s.c.oA.toNat s.c.iE.toNat D ((gM s).l,(gM s).f):=⟨a.st.sc.go,a.st.fr.flip.uw (yF _ _)⟩
structure rC (D:Nat)(s:qY)(j:Nat):Prop where
 st:vM s.c.oA.toNat s.c.iE.toNat (D+160*j) (qJ s.c.hD s.ks ((gM s).l,(gM s).f) j)
 uH:∀ (i:Nat)(k:gF),j<=i->s.ks[i]?=some (some k)->qR (gO (qJ s.c.hD s.ks ((gM s).l,(gM s).f) j).1 i s.c.iE.toNat) k.q.flatten=some k.own
 new:∀ (i:Nat)(k:gF),i<j->s.ks[i]?=some (some k)->qR (gO (qJ s.c.hD s.ks ((gM s).l,(gM s).f) j).1 i s.c.iE.toNat) (qB k s.c.hD).2.q.flatten=some k.own
 no:∀ i:Nat,s.ks[i]?=some none->gO (qJ s.c.hD s.ks ((gM s).l,(gM s).f) j).1 i s.c.iE.toNat=List.replicate s.c.iE.toNat false
def qm9 (b:jg D s):rC D s 0:=by
 refine⟨Y5 b,fun a c _ e=>?_,fun a c d=>by omega,fun a d=>?_⟩
 ·show qR (gO (s.l.map hd) a _) _=_;rw[qt7];exact (b.cl a c e).own
 ·show gO (s.l.map hd) a _=_;rw[qt7];exact (JC b.st.sc).1 (b.no a d)
def XZ (q:jg D s)(J:D+640<=900000000)(A:n<s.ks.length)(d:rC D s n):rC D s (n+1)/\∀ (a:gF)(j:Nat)(h:List gt),s.ks[n]?=some (some a)->(qB a s.c.hD).1[j]?=some h->vX n ((jx n (qJ s.c.hD s.ks ((gM s).l,(gM s).f) n) ((qB a s.c.hD).1.take j)).1,{ (jx n (qJ s.c.hD s.ks ((gM s).l,(gM s).f) n) ((qB a s.c.hD).1.take j)).2 with due:=true}) h:=by
 have r:=Qy q.cfg;have L:=r.ks;have M:=q.len;have N:s.c.oA.toNat<=4:=(by have:=r.oA;omega);cases e:s.ks[n]? with
 | none=>rw[aB A] at e;cases e
 | some B=>
  cases B with
  | none=>
   have g:qJ s.c.hD s.ks ((gM s).l,(gM s).f) (n+1)=qJ s.c.hD s.ks ((gM s).l,(gM s).f) n:=(by simp[qJ,e]);refine⟨⟨by rw[g];exact d.st.mono (by omega),fun b a f c=>by rw[g];exact d.uH b a (by omega) c,fun b a f c=>?_,fun b f=>by rw[g];exact d.no b f⟩,fun a j h o=>by cases o⟩;rw[g];by_cases k:b=n
   ·subst k;rw[e] at c;cases c
   ·exact d.new b a (by omega) c
  | some a=>
   have w:=q.cl n a e;have g:qJ s.c.hD s.ks ((gM s).l,(gM s).f) (n+1)=jx n (qJ s.c.hD s.ks ((gM s).l,(gM s).f) n) (qB a s.c.hD).1:=(by simp[qJ,e]);have l:=d.uH n a (zzl _) e;obtain⟨i,x⟩:=zx ((zP (a.cr+s.c.hD) a.q).1);have y:(qB a s.c.hD).1=a.q.take i:=(by rw[x];rfl);have C:(qB a s.c.hD).2.q=a.q.drop i:=(by rw[x];rfl);have E:a.q.flatten=(a.q.take i).flatten++(a.q.drop i).flatten:=(by rw[<-dK,ap]);rw[E,zF] at l;cases t:qR (gO (qJ s.c.hD s.ks ((gM s).l,(gM s).f) n).1 n s.c.iE.toNat) (a.q.take i).flatten with
   | none=>rw[t] at l;cases l
   | some F=>
    rw[t] at l;have G:=l;have O:a.q.length<=8:=(by have:=w.ql;have:=r.queue;omega);have P:(a.q.take i).length<=8:=(by rw[ao];omega);obtain⟨z,u,v,m⟩:=Y3 (j:=n) (K:=s.c.oA.toNat) (S:=s.c.iE.toNat) (by omega) (by omega) (a.q.take i) (D+160*n) _ F d.st (fun h H=>(w.tr h (br H)).1.2) (by omega) t;rw[<-y] at z u v m;rw[<-g] at u v m;refine⟨⟨?_,fun b p f c=>?_,fun b p f c=>?_,fun b f=>?_⟩,fun p j h o I=>?_⟩
    ·refine u.mono ?_;rw[y];omega
    ·rw[m b (by omega)];exact d.uH b p (by omega) c
    ·by_cases k:b=n
     ·subst k;rw[e] at c;simp only[ac] at c;subst c;rw[v,C];exact G
     ·rw[m b k];exact d.new b p (by omega) c
    ·have k:b≠n:=fun g=>by subst g;rw[e] at f;cases f
     rw[m b k];exact d.no b f
    ·simp only[ac] at o;subst o;exact z j h I
def jL (b:jg D s)(c:D+640<=900000000):∀ a,a<=s.ks.length->rC D s a
 | 0,_=>qm9 b
 | a+1,d=>(XZ b c (by omega) (jL b c a (by omega))).1
def qm7 (a:rA E)(b:tf E l' n e):(0<=(qB e E.hD).2.cr/\(qB e E.hD).2.cr<=E.tK)/\(e.q≠[]->1<=(qB e E.hD).1.length):=by
 have i:=b.cr;have j:=a.hD;have k:=a.tK;obtain⟨l,m,c,d⟩:=Jg e.q (e.cr+E.hD) E.tK (by omega) (fun f g=>by have:=(b.tr f g).2;omega);refine⟨?_,fun h=>?_⟩
 ·unfold qB;simp only;split
  ·omega
  ·have:=c (by omega);omega
 ·have o:=d (by omega) h;have p:=VY e.q (e.cr+E.hD);unfold qB;simp only[ao];omega
def qg8 (a:jg D s)(h:D+640<=900000000)(n:0<=s.t/\s.t<=1000000000000000000):xO s:=by
 have b:=Qy a.cfg;have z:=b.ks;have A:=a.len;have B:=b.hD;have C:=b.tK;have E:s.c.oA.toNat<=4:=(by have:=b.oA;omega);have o:=a.st.sc.len;simp only at o;have c:=jL a h s.ks.length (zzl _);have F:=Y4 s;have p:(100:Int)+80*((D+160*s.ks.length:Nat):Int)<=100000000000000:=(by omega);have j:(100:Int)+80*(D:Int)<=100000000000000:=(by omega);have q:=c.st.sc.len;refine⟨n,by omega,fun d e=>(a.st.sc.sf d e).sl j,zc3 a.st.sc j,a.st.fr.W,a.st.fr.H,⟨?_,?_,fun f i g=>?_,fun f i r t g u=>?_,?_,?_⟩,c.st.fr.fr,fun d e=>(c.st.sc.sf d e).ok p,aO q (by omega),fun v w=>?_⟩
 ·show s.ks.length<=4;omega
 ·show 0<=s.c.hD/\s.c.hD<=1000000;omega
 ·have:=a.cl f i g;have G:=this.cr;have H:=this.ql;have I:=b.queue;exact⟨by omega,by omega,fun d e=>by have:=this.tr d e;omega⟩
 ·have x:f<s.ks.length:=(zzg g).1;exact (XZ a h x (jL a h f (by omega))).2 i r t g u
 ·exact (Y5 a).fr.W
 ·exact (Y5 a).fr.H
 ·have k:=(c.st.fr.begin (s.t+1) (jP (nn s).l s.c.behind)).fm v w;have y:=c.st.fr.wh;have l:=XX (qJ s.c.hD s.ks ((gM s).l,(gM s).f) s.ks.length).2 (s.t+1) (jP (nn s).l s.c.behind);refine⟨?_,k.2.2.2.1⟩;have m:=k.2.2.1;rw[l.1,l.2] at m;exact aO m (aO y (by omega))
def Jz (b:Int)(a:List (Option gF)):lV b a a.length=a.map (J3 b):=by simp[lV]
def qz8 (b:jg D s)(o:D+640<=900000000)(c:Nat):jg (D+640) (vZ s c):=by
 have l:=Qy b.cfg;have p:=b.len;have u:s.c.oA.toNat<=4:=(by have:=l.oA;omega);have f:=jL b o s.ks.length (zzl _);have m:=qq0 s;have i:(vZ s c).ks=s.ks.map (J3 s.c.hD):=Jz s.c.hD s.ks;have n:(je (iu s).f c).W=(iu s).f.W/\(je (iu s).f c).H=(iu s).f.H:=(by unfold je;split<;>exact⟨rfl,rfl⟩);refine⟨b.cfg,by rw[i,ak];exact p,?_,?_,⟨(f.st.mono (by omega)).sc,?_⟩,fun e v d=>?_,fun e g=>?_⟩
 ·show (je (iu s).f c).W=_;rw[n.1,m.1];exact b.W
 ·show (je (iu s).f c).H=_;rw[n.2,m.2];exact b.H
 ·exact ((f.st.fr.mono (by omega)).begin _ _).uX c
 ·rw[i,aF] at d;cases a:s.ks[e]? with
  | none=>rw[a] at d;cases d
  | some j=>
   rw[a] at d;cases j with
   | none=>simp[J3] at d
   | some h=>
    simp[J3] at d;subst d;have q:=(zzg a).1;have k:=b.cl e h a;refine⟨f.new e h q a,fun r t=>k.tr r ?_,(qm7 l k).1,?_⟩
    ·exact bm t
    ·have:=k.ql;show (((h.q.drop _).length:Nat):Int)<=s.c.queue;rw[aV];omega
 ·rw[i,aF] at g;cases a:s.ks[e]? with
  | none=>rw[a] at g;cases g
  | some j=>
   rw[a] at g;cases j with
   | some h=>simp[J3] at g
   | none=>
    have:=f.no e a;exact (JC (f.st.mono (zzl _)).sc).2 this
end
variable{h:List gt}{x:List Bool}
def ZB (a:List Bool)(b:gt):qP a (qy b)=qP a b:=by
 unfold qy;split
 ·rfl
 ·rename_i c;unfold qP zt;simp only[c,dE]
def Jd:∀ (e:List gt)(a:List Bool),qR a (e.map qy)=qR a e
 | [],_=>rfl
 | b::c,a=>by
  show (qP a (qy b)).bind (fun d=>qR d (c.map qy))=(qP a b).bind (fun d=>qR d c);rw[ZB];cases qP a b with
  | none=>rfl
  | some f=>exact Jd c f
section
variable {D:Nat}{s:qY}
def rZ (c:jU E=true):jg 0 (xZ E):=by
 have d:=Qy c;refine⟨c,by simp[xZ],rfl,rfl,⟨⟨by simp[xZ],fun e a=>by simp[xZ] at a,fun e a=>by simp[xZ] at a⟩,⟨?_,?_,by simp[xZ,QQ],fun f g=>by simp[xZ,QQ],fun f g=>by simp[xZ,QQ],fun j h=>by simp[xZ,QQ] at h,by simp[xZ,QQ]⟩⟩,fun i k b=>?_,fun i l e a=>by simp[xZ] at a⟩
 ·have:=d.w;simp only[xZ,QQ];omega
 ·have:=d.h;simp only[xZ,QQ];omega
 ·simp only[xZ] at b;rw[bD] at b;split at b<;>simp at b
def zd7 (b:jg D s)(e:s.ks[n]?=some none):jg D {s with ks:=s.ks.set n (some (yS s.c))}:=by
 have f:=(zzg e).1;have g:=Qy b.cfg;refine⟨b.cfg,by simp only[aG];exact b.len,b.W,b.H,b.st,fun c h a=>?_,fun c a=>?_⟩
 ·by_cases d:c=n
  ·subst d;simp only at a;rw[ar f] at a;simp only[ac] at a;subst a;refine⟨?_,fun j i=>by simp[yS] at i,?_,?_⟩
   ·show some (gO s.l c s.c.iE.toNat)=some (List.replicate s.c.iE.toNat false);rw[(JC b.st.sc).1 (b.no c e)]
   ·have:=g.tK;simp only[yS];omega
   ·have:=g.queue;simp[yS];omega
  ·simp only at a;rw[bc (cu d)] at a;exact b.cl c h a
 ·by_cases d:c=n
  ·subst d;simp only at a;rw[ar f] at a;simp at a
  ·simp only at a;rw[bc (cu d)] at a;exact b.no c a
def qa1 (d:List gv)(e:n≠i):gO (d.filter fun a=>!(a.cl == (i:Int))) n j=gO d n j:=by
 unfold gO;refine bN fun f _=>?_;rw[cC,ca,ca];constructor
 ·rintro⟨a,c,b⟩;exact⟨a,(cS.1 c).1,b⟩
 ·rintro⟨a,c,b⟩;refine⟨a,cS.2 ⟨c,?_⟩,b⟩;have:=ju.1 b;simp only[qw,bP] at this;have:¬a.cl=(i:Int):=(by omega);simpa using this
def ql2 (b:jg D s)(o:D<=900000000)(c:Nat):J5 s c:=by
 have h:=Qy b.cfg;have p:=h.ks;have i:=b.st.sc.len;simp only at i;have q:(s.l.filter fun a=>a.cl == (c:Int)).length<=s.l.length:=dA _ _;have r:((s.l.filter fun a=>a.cl == (c:Int)).flatMap jf).length<=2*(s.l.filter fun a=>a.cl == (c:Int)).length:=by
  generalize s.l.filter _=e;induction e with
  | nil=>simp
  | cons j e t=>
   have u:(jf j).length<=2:=(by unfold jf vd;split<;>(try split)<;>simp);simp only[eG,ae,aX];omega
 have f:=yF ((s.l.filter fun a=>a.cl == (c:Int)).flatMap jf) s.f;have k:(100:Int)+80*(D:Int)<=100000000000000:=(by omega);refine⟨by omega,b.st.fr.W,b.st.fr.H,fun l d=>?_,by omega,?_,fun m g=>?_⟩
 ·obtain⟨a,n,d⟩:=du.1 d;exact (Vx (ch:=true) ((b.st.sc.sf a (cS.1 n).1).rc k) qo0).1 l d
 ·rw[f.marks];have:=b.st.fr.tN;simp only at this;omega
 ·rw[f.frame] at g;have:=(b.st.fr.fm m g).2.2.2.2;omega
def zc9 (b:jg D s)(j:s.ks[n]?=some (some e)):jg D (yi s n):=by
 have k:=(zzg j).1;have h:=yF ((s.l.filter fun c=>c.cl == (n:Int)).flatMap jf) s.f;have l:(s.l.filter fun c=>!(c.cl == (n:Int))).Sublist s.l:=eQ;refine⟨b.cfg,by simp only[yi,aG];exact b.len,?_,?_,⟨b.st.sc.sub l,(b.st.fr.uw h).forget _⟩,fun d m a=>?_,fun d a=>?_⟩
 ·show (zX s.f _).W=_;rw[h.W];exact b.W
 ·show (zX s.f _).H=_;rw[h.H];exact b.H
 ·by_cases f:d=n
  ·subst f;simp only[yi] at a;rw[ar k] at a;simp at a
  ·simp only[yi] at a;rw[bc (cu f)] at a;have g:=b.cl d m a;exact⟨by show qR (gO (s.l.filter _) d _) _=_;rw[qa1 _ f];exact g.own,g.tr,g.cr,g.ql⟩
 ·by_cases f:d=n
  ·subst f;intro c i;have:=(cS.1 i).2;simpa using this
  ·simp only[yi] at a;rw[bc (cu f)] at a;intro c i;exact b.no d a c (cS.1 i).1
def Xw (a:qL E e h=0):(1<=h.length/\h.length<=20)/\(∃ b,qR e.own h=some b)/\qA h<=E.tK/\(e.q.length:Int)<E.queue:=by
 unfold qL at a;split at a
 ·simp at a
 ·rename_i d;have f:gz (h.length:Int) 1 20=true:=(by simpa using d);rw[jh] at f;cases c:qR e.own h with
  | none=>rw[c] at a;simp at a
  | some b=>
   rw[c] at a;simp only at a;split at a
   ·simp at a
   ·split at a
    ·simp at a
    ·exact⟨by omega,⟨b,rfl⟩,by omega,by omega⟩
def qq3 (a:qR e.own h=some x)(b:1<=h.length):1<=qA h:=by
 have:=X4 h (xy h _ _ a);unfold qA;omega
def rO (b:jg D s)(j:s.ks[n]?=some (some e))(m:qL s.c e h=0):jg D {s with ks:=s.ks.set n (some (X5 e h))}:=by
 have k:=(zzg j).1;obtain⟨l,⟨o,g⟩,p,u⟩:=Xw m;refine⟨b.cfg,by simp only[aG];exact b.len,b.W,b.H,b.st,fun c q a=>?_,fun c a=>?_⟩
 ·by_cases d:c=n
  ·subst d;simp only at a;rw[ar k] at a;simp only[ac] at a;subst a;have i:=b.cl c e j;refine⟨?_,fun r t=>?_,i.cr,?_⟩
   ·show qR _ (e.q++[h.map qy]).flatten=some ((qR e.own h).getD e.own);rw[dK,zF,i.own,g];show qR e.own [h.map qy].flatten=some o;simp only[dG,List.flatten_nil,aW];rw[Jd];exact g
   ·rcases al.1 t with f | f
    ·exact i.tr r f
    ·simp at f;subst f;rw[ak,ve];exact⟨l,qq3 g l.1,p⟩
   ·show (((e.q++[h.map qy]).length:Nat):Int)<=s.c.queue;rw[ae,dT];omega
  ·simp only at a;rw[bc (cu d)] at a;exact b.cl c q a
 ·by_cases d:c=n
  ·subst d;simp only at a;rw[ar k] at a;simp at a
  ·simp only at a;rw[bc (cu d)] at a;exact b.no c a
end
variable{B' a7:Int}{u:gv}{a5:List gv}{c4 r:Rc}{o:gt}
def nz (a b:Int)(c:List gv):List Int:=(c.map fun d=>zC d a b).filter fun e=>!(e == 0)
def vm (a b:Int)(c d:List gv):nz a b (c++d)=nz a b c++nz a b d:=by simp[nz]
def QO (a:zC u q B'=0):nz q B' [u]=[]:=by simp[nz,a]
def kS (a b:Int)(c:gv)(d:List gv):nz a b (c::d)=nz a b [c]++nz a b d:=vm a b [c] d
def Vc (a b:Int):∀ (c:List gv)(d:Int),jP c d a b=(nz a b c).foldl (fun _ g=>g) d
 | [],d=>rfl
 | e::c,d=>by
  show jP c (if zC e a b=0 then d else zC e a b) a b=_;rw[Vc a b c,kS];by_cases f:zC e a b=0
  ·rw[an f,QO f];rfl
  ·rw[ah f];have:nz a b [e]=[zC e a b]:=(by simp[nz,f]);rw[this];rfl
def xY (b:nz q B' l'=nz q B' a5)(a:Int):jP l' a q B'=jP a5 a q B':=by rw[Vc,Vc,b]
def sr (a:gv)(b c:Int):xt ⟨a.x,a.y,a.w,a.h⟩ b c=xE a b c:=by
 rw[cC];simp only[xt,xE,aK,be];omega
def jT (a:xt ⟨u.x,u.y,u.w,u.h⟩ q B'=false):zC u q B'=0:=by
 rw[sr] at a;unfold zC;rw[ah (by rw[a];simp)]
def vC (a:∀ R∈vd true r c4,xt R q B'=false):xt r q B'=false/\xt c4 q B'=false:=by
 unfold vd at a;rw[ah (by simp)] at a;split at a
 ·rename_i b;have c:=a r (by simp);have:c4=r:=by
   simp only[Xg,aK,fq] at b;cases r;cases c4
   simp only at b;simp[b]
  exact⟨c,by rw[this];exact c⟩
 ·exact⟨a r (by simp),a c4 (by simp)⟩
def qr8 {a:gv->gv}(b:∀ s∈l',zC (a s) q B'=zC s q B'):nz q B' (l'.map a)=nz q B' l':=by
 unfold nz;rw[cB];congr 1
 exact bN b
def Zo {b c:Int}{p:gv->Bool}:∀ {l:List gv},(∀ a∈l,p a=false->zC a b c=0)->nz b c (l.filter p)=nz b c l
 | [],_=>rfl
 | a::l,d=>by
  have e:=Zo (p:=p) (l:=l) (fun f g=>d f (by simp[g]));rw[eK];cases h:p a with
  | true=>simp only[dH];rw[kS,kS b c a l,e]
  | false=>simp only[cT,dE];rw[kS b c a l,QO (d a (by simp) h),e];rfl
def Ze (g:∀ c∈l'.flatMap zW,xt c q B'=false)(d:Int):jP (l'.map hd) d q B'=jP l' d q B':=by
 refine xY (qr8 fun a h=>?_) d;have e:=fun c i=>g c (du.2 ⟨a,h,i⟩);unfold zW at e;by_cases f:a.left=0
 ·have:hd a=a:=(by unfold hd;rw[an f]);rw[this]
 ·cases b:nJ a with
  | false=>
   have j:hd a={a with x:=a.x+a.dx,y:=a.y+a.dy,left:=a.left-1}:=(by unfold hd;rw[ah f]);unfold nJ at b;rw[ah f] at b;simp only[Bool.not_eq_false',aK,fq] at b;rw[j];unfold zC xE;simp only;rw[<-b.1,<-b.2]
  | true=>
   rw[b] at e;obtain⟨k,l⟩:=vC e;rw[jT k,jT l]
def qj9 (d:∀ b∈(l'.filter fun a=>a.cl == q).flatMap jf,xt b B' a7=false)(c:Int):jP (l'.filter fun a=>!(a.cl == q)) c B' a7=jP l' c B' a7:=by
 refine xY (Zo fun a e f=>?_) c;have g:=fun b h=>d b (du.2 ⟨a,cS.2 ⟨e,by simpa using f⟩,h⟩);exact jT (vC g).1
def Zq {j l:Type}{g:j->l}:∀ {e:List j},(e.map g).Nodup->∀ b∈e,∀ c∈e,g b=g c->b=c
 | [],_,b,h,_,_,_=>by cases h
 | m::e,f,b,h,c,k,i=>by
  rw[aY,dS] at f;rcases bf.1 h with d | d
  ·rcases bf.1 k with a | a
   ·rw[d,a]
   ·exact absurd (aC.2 ⟨c,a,by rw[<-i,d]⟩) f.1
  ·rcases bf.1 k with a | a
   ·exact absurd (aC.2 ⟨b,d,by rw[i,a]⟩) f.1
   ·exact Zq f.2 b d c a i
def VB (f:(l'.map qw).Nodup)(c:u∈l')(b:qw u=(q,B')):jW l' q B'=⟨u.x,u.y,u.w,u.h⟩:=by
 unfold jW;have a:l'.find? (fun u=>u.cl == q&&u.num == B')=some u:=by
  cases a:l'.find? (fun u=>u.cl == q&&u.num == B') with
  | none=>
   have:=eX.1 a u c;simp only[qw,bP] at b;simp[b.1,b.2] at this
  | some d=>
   have g:=List.mem_of_find?_eq_some a;have e:=List.find?_some a;simp only[aK,fq] at e;have h:qw d=qw u:=(by rw[b];simp[qw,e]);have:=Zq f d g u c h;rw[this]
 rw[a]
def Kx (b:∀ a∈l',qw a=qw u->zC a q B'=zC u q B'):nz q B' (xr l' u)=nz q B' l':=by
 unfold xr;refine qr8 fun a c=>?_;split
 ·rename_i d;exact (b a c d).symm
 ·rfl
def qr9 (a:l'[n]?=some u)(b:zC u q B'=0):nz q B' (vy l' n i u)=nz q B' l':=by
 have f:=(zzg a).1;have c:=(zzg a).2;have d:l'.take n++u::l'.drop (n+1)=l':=(by rw[<-c,bo,ap]);have e:nz q B' l'=nz q B' (l'.take n++l'.drop (n+1)):=by
  conv=>lhs;rw[<-d]
  rw[vm,kS,QO b,vm];rfl
 rw[e];unfold vy;rw[vm,kS,QO b,cd,<-vm,ap]
def rW (p:(l'.map qw).Nodup)(E:ZS l' q o)(b:∀ R∈yh l' q o,xt R B' a7=false)(f:Int):jP (zi l' q o).1 f B' a7=jP l' f B' a7:=by
 rcases E with ⟨B,C⟩ | ⟨B,C⟩
 ·have d:(zi l' q o).1=l'++[⟨q,o.iV,o.x,o.y,0,0,[],0,0,0⟩]:=(by unfold zi;rw[an B]);rw[d];refine xY ?_ f;rw[vm,QO (by unfold zC xE;simp),aW]
 ·obtain⟨a,c,F,G⟩:=xC C;have r:=zzn c;have s:qw a=(q,o.iV):=(by simp[qw,F,G]);have t:=fun e g d=>Zq p e g a r d;have H:=VB p r s;have j:¬o.kind=1:=(by omega);unfold yh at b;rw[H] at b;by_cases h:o.kind=2
  ·have d:zi l' q o=(yT l' q o.iV,true):=(by unfold zi;rw[ah j,c];simp only;rw[an h]);rw[d] at b ⊢;obtain⟨k,-⟩:=vC b;refine xY ?_ f;unfold yT;refine Zo fun e g I=>?_;have i:=ju.1 (by simpa using I);rw[t e g (i.trans s.symm)];exact jT k
  ·by_cases l:o.kind=3
   ·have d:zi l' q o=(xr l' {a with w:=o.w,h:=o.h,px:=o.px},true):=(by unfold zi;rw[ah j,c];simp only;rw[ah h,an l]);rw[d] at b ⊢;obtain⟨k,m⟩:=vC b;have v:({a with w:=o.w,h:=o.h,px:=o.px}:gv)∈xr l' {a with w:=o.w,h:=o.h,px:=o.px}:=aC.2 ⟨a,r,an rfl⟩;have x:((xr l' {a with w:=o.w,h:=o.h,px:=o.px}).map qw).Nodup:=(by rw[jB];exact p);rw[VB x v s] at m;refine xY (Kx fun e g i=>?_) f;rw[t e g i,jT k,jT m]
   ·by_cases u:o.kind=4
    ·have d:zi l' q o=(xr l' {a with x:=o.x,y:=o.y,dx:=0,dy:=0,left:=0},!(a.x == o.x&&a.y == o.y)):=(by unfold zi;rw[ah j,c];simp only;rw[ah h,ah l,an u]);rw[d] at b ⊢;simp only at b ⊢;refine xY (Kx fun e g i=>?_) f;rw[t e g i];by_cases y:a.x=o.x/\a.y=o.y
     ·unfold zC xE;simp only;rw[y.1,y.2]
     ·have J:(!(a.x == o.x&&a.y == o.y))=true:=(by simp only[dp,Bool.and_eq_false_imp,fq,em];exact fun K L=>y ⟨K,L⟩);rw[J] at b;obtain⟨k,m⟩:=vC b;have v:({a with x:=o.x,y:=o.y,dx:=0,dy:=0,left:=0}:gv)∈xr l' {a with x:=o.x,y:=o.y,dx:=0,dy:=0,left:=0}:=aC.2 ⟨a,r,an rfl⟩;have x:((xr l' {a with x:=o.x,y:=o.y,dx:=0,dy:=0,left:=0}).map qw).Nodup:=(by rw[jB];exact p);rw[VB x v s] at m;rw[jT k,jT m]
    ·by_cases z:o.kind=5
     ·have d:zi l' q o=(vy l' (l'.findIdx (gN q o.iV)) (l'.length-1) a,!decide (l'.findIdx (gN q o.iV)=l'.length-1)):=(by unfold zi;rw[ah j,c];simp only;rw[ah h,ah l,ah u,an z]);rw[d] at b ⊢;simp only at b ⊢;by_cases n:l'.findIdx (gN q o.iV)=l'.length-1
      ·have O:=(zzg c).1;have A:vy l' (l'.findIdx (gN q o.iV)) (l'.length-1) a=l':=(by unfold vy;rw[n] at c ⊢;have M:=(zzg c).2;have N:l'.drop (l'.length-1+1)=[]:=cY (by omega);have h:l'.take (l'.length-1)++a::l'.drop (l'.length-1+1)=l':=(by rw[<-M,bo,ap]);rw[N] at h ⊢;rw[aW,aL (by rw[ao];omega),cY (by rw[ao];omega)];exact h);rw[A]
      ·rw[show (!decide (l'.findIdx (gN q o.iV)=l'.length-1))=true from by simp[n]] at b;exact xY (qr9 c (jT (vC b).1)) f
     ·by_cases D:o.kind=6
      ·have d:zi l' q o=(vy l' (l'.findIdx (gN q o.iV)) 0 a,!decide (l'.findIdx (gN q o.iV)=0)):=(by unfold zi;rw[ah j,c];simp only;rw[ah h,ah l,ah u,ah z,an D]);rw[d] at b ⊢;simp only at b ⊢;by_cases n:l'.findIdx (gN q o.iV)=0
       ·have A:vy l' (l'.findIdx (gN q o.iV)) 0 a=l':=by
         unfold vy;rw[n] at c ⊢;cases l' with
         | nil=>simp at c
         | cons e l'=>simp at c;subst c;simp
        rw[A]
       ·rw[show (!decide (l'.findIdx (gN q o.iV)=0))=true from by simp[n]] at b;exact xY (qr9 c (jT (vC b).1)) f
      ·have d:zi l' q o=(xr l' {a with dx:=o.x,dy:=o.y,left:=o.w},false):=(by unfold zi;rw[ah j,c];simp only;rw[ah h,ah l,ah u,ah z,ah D]);rw[d];refine xY (Kx fun e g i=>?_) f;rw[t e g i];rfl
def yW (f:gB)(b:Nat):List (Int×Int):=match f.frame with
 | some a=>if a.buf=b then a.left else []
 | none=>[]
def jJ (f:gB):Nat:=match f.frame with
 | some a=>a.buf
 | none=>f.front
def Qq (l:List gv)(beh:Int)(a b:Nat):Int:=jP l beh ((b%a:Nat):Int) ((b/a:Nat):Int)
def ta (l:List gv)(beh:Int)(f:gB)(c a:Nat):Prop:=(∀ b,((a:Int),b)∈yW f c->b=Qq l beh f.W a)/\((∀ b,((a:Int),b)∉yW f c)->(f.b c).px[a]?=some (Qq l beh f.W a))
structure hw (l:List gv)(beh:Int)(f:gB):Prop where
 rt:∀ i,i<3->∀ p,p<f.W*f.H->(f.b i).st[p]?=some false->ta l beh f i p
 nd:∀ g,f.frame=some g->(g.left.map Prod.fst).Nodup
 nw:f.due=false->∀ p,p<f.W*f.H->(f.b (jJ f)).st[p]?=some false
section
variable {l l':List gv}{beh:Int}{f:gB}{D:Nat}
def hw.uw (n:hw l beh f)(g:hN D f){rs:List Rc}(r:∀ x y,(∀ h∈rs,xt h x y=false)->jP l' beh x y=jP l beh x y):hw l' beh (zX f rs):=by
 have d:=yF rs f;have s:∀ b,yW (zX f rs) b=yW f b:=fun b=>by unfold yW;rw[d.frame]
 have t:jJ (zX f rs)=jJ f:=(by unfold jJ;rw[d.frame,d.front]);have u:∀ b,b<3->∀ a,a<f.W*f.H->((zX f rs).b b).st[a]?=some false->(f.b b).st[a]?=some false/\∀ h∈rs,xt h ((a%f.W:Nat):Int) ((a/f.W:Nat):Int)=false:=fun b e a c i=>by
  rw[Vz rs f g.W.1 b e (g.st b e) a c] at i;simp only[ac,Bool.or_eq_false_iff] at i;refine⟨?_,fun h o=>?_⟩
  ·have:=i.1;rw[bW] at this;rw[aB (by rw[g.st b e];exact c)] at this ⊢;simpa using this
  ·have j:=i.2;rw[dX] at j;simpa using j h o
 refine⟨fun b e a c i=>?_,fun p v=>n.nd p (by rw[<-d.frame];exact v),fun k a c=>?_⟩
 ·rw[d.W,d.H] at c;obtain⟨w,k2⟩:=u b e a c i;obtain⟨z,A⟩:=n.rt b e a c w;have B:Qq l' beh f.W a=Qq l beh f.W a:=r _ _ k2;unfold ta;rw[s,d.W,B,d.px];exact⟨z,A⟩
 ·rw[d.W,d.H] at c;rw[YH rs f g.W.1] at k;simp only[Bool.or_eq_false_iff] at k;have C:=n.nw k.1 a c;rw[t];have e:jJ f<3:=by
   unfold jJ;cases E:f.frame with
   | none=>exact g.fr
   | some p=>exact (g.fm p E).1
  rw[Vz rs f g.W.1 _ e (g.st _ e) a c];have j:(rs.any fun F=>xt F ((a%f.W:Nat):Int) ((a/f.W:Nat):Int))=false:=(by rw[dX];intro h o;have q:=k.2;rw[dX] at q;have m:=q h o;unfold XJ at m;simp only[Bool.not_eq_true] at m;rw[dX] at m;exact m a (fE.2 c));rw[j,bW,C];rfl
def hw.due (a:hw l beh f):hw l beh {f with due:=true}:=⟨a.rt,a.nd,fun b=>by cases b⟩
def hw.ask (a:hw l beh f)(b:List (Int×Int)):hw l beh {f with marks:=b}:=⟨a.rt,a.nd,a.nw⟩
def hw.flip (a:hw l beh f):hw l beh (zd f).1:=by
 unfold zd;cases e:f.frame with
 | none=>exact a
 | some q=>
  simp only;split
  ·rename_i g;have h:∀ b,yW f b=[]:=fun b=>by unfold yW;rw[e];simp only;split<;>first | exact g | rfl
   refine⟨fun b i c d j=>?_,fun r k=>(by cases k),fun m c d=>?_⟩
   ·obtain⟨s,n⟩:=a.rt b i c d j;refine⟨fun o p=>(by cases p),fun _=>n (fun o=>by rw[h];simp)⟩
   ·have:=a.nw m c d;unfold jJ at this;rw[e] at this;exact this
  ·exact a
def hw.forget (c:hw l beh f)(d:Int):hw l beh (ji f d):=by
 have i:∀ b,yW (ji f d) b=yW f b:=fun b=>by
  unfold yW ji;cases f.frame<;>rfl
 have j:jJ (ji f d)=jJ f:=(by unfold jJ ji;cases f.frame<;>rfl);refine⟨fun b k e g m=>?_,fun r a=>?_,fun n e g=>?_⟩
 ·obtain⟨o,p⟩:=c.rt b k e g m;unfold ta;rw[i];exact⟨o,p⟩
 ·unfold ji at a;cases h:f.frame with
  | none=>rw[h] at a;cases a
  | some q=>
   rw[h] at a;simp only[bO,ac] at a;rw[<-a];exact c.nd q h
 ·rw[j];exact c.nw n e g
def QY (h:List Bool)(i:Nat)(m:Int->Int->Int):∀ (b a:Nat)(e:Int),((a:Int),e)∈zH h i m b↔a<b/\h[a]?=some true/\e=m ((a%i:Nat):Int) ((a/i:Nat):Int)
 | 0,a,e=>by simp[zH]
 | b+1,a,e=>by
  unfold zH;rw[al,QY h i m b a e];by_cases j:h[b]?=some true
  ·rw[an j];simp only[ay,bP];constructor
   ·rintro (⟨k,c,d⟩ | ⟨k,c⟩)
    ·exact⟨by omega,c,d⟩
    ·have:a=b:=(by omega);subst this;exact⟨by omega,j,c⟩
   ·rintro⟨k,c,d⟩;rcases cz a b with g | g
    ·exact .inl ⟨g,c,d⟩
    ·have:a=b:=(by omega);subst this;exact .inr ⟨rfl,d⟩
  ·rw[ah j];simp only[dM,eW];constructor
   ·rintro⟨k,c,d⟩;exact⟨by omega,c,d⟩
   ·rintro⟨k,c,d⟩;refine⟨?_,c,d⟩;rcases cz a b with g | g
    ·exact g
    ·have:a=b:=(by omega);subst this;exact absurd c j
def YC (e:List Bool)(g:Nat)(h:Int->Int->Int):∀ c,(∀ a∈zH e g h c,0<=a.1/\a.1<(c:Int))/\((zH e g h c).map Prod.fst).Nodup
 | 0=>⟨fun a b=>by simp[zH] at b,by simp[zH]⟩
 | c+1=>by
  obtain⟨i,j⟩:=YC e g h c;unfold zH;split
  ·refine⟨fun a b=>?_,?_⟩
   ·rcases al.1 b with d | d
    ·have:=i a d;omega
    ·simp only[ay] at d;rw[d];simp only;omega
   ·rw[aE,cO];refine⟨j,by simp,fun n k o m p=>?_⟩;obtain⟨a,b,rfl⟩:=aC.1 k;simp only[aY,dr,ay] at m;have:=i a b;omega
  ·refine⟨fun a b=>?_,?_⟩
   ·rw[aW] at b;have:=i a b;omega
   ·rw[aW];exact j
def Ky (f:gB):∀ b c,za f b=some c->c<b
 | 0,c,a=>by simp[za] at a
 | b+1,c,a=>by
  unfold za at a;split at a
  ·have:=Ky f b c a;omega
  ·split at a
   ·cases a;omega
   ·rename_i d e;have:=Ky f b d e;split at a
    ·cases a;omega
    ·cases a;omega
def hw.begin (e:hw l beh f)(r:hN D f)(s:Int):hw l beh (zR f s (jP l beh)):=by
 unfold zR;split
 ·exact e
 ·rename_i t;have u:f.frame=none:=by
   cases v:f.frame with
   | none=>rfl
   | some w=>exact absurd (.inl (by simp[v])) t
  obtain⟨b,n⟩:=zx ((za f 3).getD 0);rw[<-n];have B:b<3:=by
   rw[n];cases x:za f 3 with
   | none=>simp
   | some y=>exact Ky f 3 y x
  have o:∀ d,yW f d=[]:=fun d=>by unfold yW;rw[u]
  refine⟨fun d g c a h=>?_,fun w p=>?_,fun _ c a=>?_⟩
  ·simp only at a h;unfold ta yW;simp only;by_cases i:b=d
   ·subst i;rw[an rfl];simp only[dH];refine⟨fun j k=>((QY _ _ _ _ _ _).1 k).2.2,fun z=>?_⟩;have A:(f.b b).st[c]?=some false:=by
     have m:c<(f.b b).st.length:=(by rw[r.st b g];exact a);cases q:(f.b b).st[c]'m with
     | false=>rw[aB m,q]
     | true=>exact absurd ((QY _ _ _ _ _ _).2 ⟨a,by rw[aB m,q],rfl⟩) (z _)
    exact (e.rt b g c a A).2 (fun j=>by rw[o];simp)
   ·rw[ah i];rw[ah (cu i)] at h ⊢;exact⟨fun j k=>(by cases k),fun _=>(e.rt d g c a h).2 (fun j=>by rw[o];simp)⟩
  ·simp only[ac] at p;rw[<-p];exact (YC _ _ _ _).2
  ·simp only at a ⊢;unfold jJ;simp only[dH];rw[bD,an a]
def Jq:∀ (b:List (Int×Int))(d:List Int)(c:Nat),(∀ a∈b,0<=a.1)->(b.map Prod.fst).Nodup->c<d.length->(∀ e,((c:Int),e)∈b->(xl d b)[c]?=some e)/\((∀ e,((c:Int),e)∉b)->(xl d b)[c]?=d[c]?)
 | [],d,c,_,_,_=>⟨fun e g=>by simp at g,fun _=>rfl⟩
 | a::b,d,c,k,j,m=>by
  rw[aY,dS] at j;have p:xl d (a::b)=xl (d.set a.1.toNat a.2) b:=rfl;rw[p];obtain⟨q,n⟩:=Jq b (d.set a.1.toNat a.2) c (fun r s=>k r (by simp[s])) j.2 (by rw[aG];exact m);have t:=k a (by simp);refine⟨fun e g=>?_,fun h=>?_⟩
  ·rcases bf.1 g with i | i
   ·have h:∀ o,((c:Int),o)∉b:=fun o u=>j.1 (aC.2 ⟨_,u,by rw[<-i]⟩);rw[n h,<-i];simp only[bF];rw[ar m]
   ·exact q e i
  ·rw[n (fun e g=>h e (by simp[g])),bc (fun v=>h a.2 (by
    have:a=((c:Int),a.2):=(by rw[<-v];cases a;simp only at t ⊢;simp;omega);rw[<-this];simp))]
def hw.uX (k:hw l beh f)(w:hN D f)(x:Nat):hw l beh (je f x):=by
 unfold je;cases m:f.frame with
 | none=>exact k
 | some a=>
  simp only;obtain⟨c,E⟩:=zx (min x a.left.length);rw[<-E];have n:=k.nd a m;have F:=w.fm a m;have y:=ap c a.left;have z:((a.left.take c).map Prod.fst).Nodup/\((a.left.drop c).map Prod.fst).Nodup/\∀ i∈a.left.take c,∀ o∈a.left.drop c,i.1≠o.1:=(by rw[<-y,aE,cO] at n;exact⟨n.1,n.2.1,fun i j o G=>n.2.2 i.1 (aC.2 ⟨i,j,rfl⟩) o.1 (aC.2 ⟨o,G,rfl⟩)⟩);refine⟨fun p A e q r=>?_,fun M B=>?_,fun j e q=>?_⟩
  ·have C:=q;have H:(f.b p).st[e]?=some false:=(by simp only[zzp] at r;split at r<;>exact r);obtain⟨g,h⟩:=k.rt p A e C H;unfold yW at g h;rw[m] at g h;simp only at g h;unfold ta yW zzp;simp only;by_cases s:a.buf=p
   ·subst s;rw[an rfl] at g h ⊢;simp only[dH];refine⟨fun b d=>g b (bm d),fun I=>?_⟩;obtain⟨J,K⟩:=Jq (a.left.take c) (f.b a.buf).px e (fun i j=>(F.2.2.2.1 i (br j)).1) z.1 (by rw[w.px a.buf A];exact C);by_cases t:∃ b,((e:Int),b)∈a.left.take c
    ·obtain⟨b,d⟩:=t;rw[J b d,g b (br d)]
    ·have L:∀ b,((e:Int),b)∉a.left:=fun b d=>by
      rw[<-y] at d;rcases al.1 d with u | u
      ·exact t ⟨b,u⟩
      ·exact I b u
     rw[K (fun b d=>t ⟨b,d⟩)];exact h L
   ·rw[ah s] at g h ⊢;rw[ah (cu s)];exact⟨g,h⟩
  ·simp only[zzp,ac] at B;rw[<-B];exact z.2.1
  ·have v:=k.nw j e q;unfold jJ at v;rw[m] at v;show ((zzp f a c).b (jJ (zzp f a c))).st[e]?=_;unfold jJ zzp;simp only[dH];exact v
end
def sO {D:Nat}{a:List gv×gB}(b:vM n i D a)(d:n*i<=1000)(e:j<n)(f:D<=900000000)(g:qP (gO a.1 j i) o=some x)(c:hw a.1 q a.2):hw (zU j a o).1 q (zU j a o).2:=by
 obtain⟨h,-⟩:=Z5 b d e f g;unfold zU;split
 ·exact c.ask _
 ·rename_i k;exact c.uw b.fr (fun x m l=>rW b.sc.nd (h.fit k).1 l q)
def qr7 {h d b:Nat}{p:Int}(i:h*d<=1000)(j:b<h):∀ (e:List gt)(D:Nat)(a:List gv×gB)(c:List Bool),vM h d D a->D+e.length<=900000000->qR (gO a.1 b d) e=some c->hw a.1 p a.2->hw (e.foldl (zU b) a).1 p (e.foldl (zU b) a).2
 | [],D,a,c,k,_,q,l=>l
 | m::n,D,a,c,k,t,q,l=>by
  have f:(qP (gO a.1 b d) m).bind (fun o=>qR o n)=some c:=q;cases g:qP (gO a.1 b d) m with
  | none=>rw[g] at f;cases f
  | some o=>
   rw[g] at f;have r:qR o n=some c:=f;simp only[aX] at t;obtain⟨w,u,v,x⟩:=Z5 k i j (by omega) g;rw[<-v] at r;exact qr7 i j n (D+1) (zU b a m) c u (by omega) r (sO k i j (by omega) g l)
def qp4 {K S b:Nat}{n:Int}(i:K*S<=1000)(j:b<K):∀ (d:List (List gt))(D:Nat)(a:List gv×gB)(f:List Bool),vM K S D a->(∀ k∈d,k.length<=20)->D+20*d.length<=900000000->qR (gO a.1 b S) d.flatten=some f->hw a.1 n a.2->hw (jx b a d).1 n (jx b a d).2
 | [],D,a,f,g,_,_,c,l=>l
 | e::p,D,a,f,g,m,q,c,l=>by
  rw[dG,zF] at c;simp only[aX] at q;cases h:qR (gO a.1 b S) e with
  | none=>rw[h] at c;cases c
  | some r=>
   rw[h] at c;have o:=c;obtain⟨x,t,u,y⟩:=qp5 i j g (m e (by simp)) (by omega) h;rw[<-u] at o;have z:=m e (by simp);have v:=qr7 i j e D (a.1,{a.2 with due:=true}) r ⟨g.sc,g.fr.due true⟩ (by omega) h l.due;exact qp4 i j p (D+20) (yD b a e) f t (fun k w=>m k (by simp[w])) (by omega) o v
section
variable {D:Nat}{s:qY}
def VK (e:jg D s)(i:D+640<=900000000)(j:hw (gM s).l s.c.behind (gM s).f):∀ a,a<=s.ks.length->hw (qJ s.c.hD s.ks ((gM s).l,(gM s).f) a).1 s.c.behind (qJ s.c.hD s.ks ((gM s).l,(gM s).f) a).2
 | 0,_=>j
 | a+1,w=>by
  have f:=Qy e.cfg;have x:=f.ks;have y:=e.len;have z:s.c.oA.toNat<=4:=(by have:=f.oA;omega);have k:=VK e i j a (by omega);have l:=jL e i a (by omega);cases c:s.ks[a]? with
  | none=>rw[aB (by omega)] at c;cases c
  | some o=>
   cases o with
   | none=>
    have g:qJ s.c.hD s.ks ((gM s).l,(gM s).f) (a+1)=qJ s.c.hD s.ks ((gM s).l,(gM s).f) a:=(by simp[qJ,c]);rw[g];exact k
   | some b=>
    have m:=e.cl a b c;have g:qJ s.c.hD s.ks ((gM s).l,(gM s).f) (a+1)=jx a (qJ s.c.hD s.ks ((gM s).l,(gM s).f) a) (qB b s.c.hD).1:=(by simp[qJ,c]);have h:=l.uH a b (zzl _) c;obtain⟨d,p⟩:=zx ((zP (b.cr+s.c.hD) b.q).1);have q:(qB b s.c.hD).1=b.q.take d:=(by rw[p];rfl);have r:b.q.flatten=(b.q.take d).flatten++(b.q.drop d).flatten:=(by rw[<-dK,ap]);rw[r,zF] at h;cases n:qR (gO (qJ s.c.hD s.ks ((gM s).l,(gM s).f) a).1 a s.c.iE.toNat) (b.q.take d).flatten with
    | none=>rw[n] at h;cases h
    | some t=>
     have A:b.q.length<=8:=(by have:=m.ql;have:=f.queue;omega);have B:(b.q.take d).length<=8:=(by rw[ao];omega);rw[g,q];exact qp4 (K:=s.c.oA.toNat) (S:=s.c.iE.toNat) (by omega) (by omega) (b.q.take d) (D+160*a) _ t l.st (fun u v=>(m.tr u (br v)).1.2) (by omega) n k
def qz7 (a:jg D s)(c:D+640<=900000000)(e:hw s.l s.c.behind s.f)(b:Nat):hw (vZ s b).l s.c.behind (vZ s b).f:=by
 have f:=e.flip.uw a.st.fr.flip (fun j k g=>Ze g s.c.behind);have h:=VK a c f s.ks.length (zzl _);have d:=jL a c s.ks.length (zzl _);have i:=hw.begin h d.st.fr (s.t+1);exact hw.uX i (d.st.fr.begin (s.t+1) _) b
def zc8 (c:jg D s)(d:hw s.l s.c.behind s.f)(a:Nat):hw (yi s a).l s.c.behind (yi s a).f:=
 (d.uw (l':=s.l.filter fun b=>!(b.cl == (a:Int))) c.st.fr (fun b f e=>qj9 e s.c.behind)).forget _
def rY (a:hg):hw (xZ a).l a.behind (xZ a).f:=by
 refine⟨fun f g b c h=>?_,fun i d=>(by cases d),fun _ b c=>?_⟩
 ·refine⟨fun j e=>(by cases e),fun _=>?_⟩;show (List.replicate (a.w.toNat*a.h.toNat) a.behind)[b]?=some a.behind;rw[bD];exact an c
 ·show (List.replicate (a.w.toNat*a.h.toNat) false)[b]?=some false;rw[bD];exact an c
end
variable{s':gv}
def VC (c:gv)(a b:Nat):Bool:=xE c ((b%a:Nat):Int) ((b/a:Nat):Int)
def qV (b:gv)(c e:Nat)(g:List Bool):List Bool:=g.mapIdx fun a h=>h||(decide (a<e)&&VC b c a)
def Q7 (a:gv)(b c:Nat):Bool:=(List.range c).any fun e=>VC a b e
structure Dc where
 c:hg
 ks:List (Option gF)
 l:List gv
 p:Nat->List Int
 st:Nat->List Bool
 fn:Nat->Int
 front:Nat
 tQ:Bool
 tU:Nat
 left:Int
 fp:List Int
 marks:List (Int×Int)
 wait:List (Int×Int)
 tH:Int
 ch:Bool
 t:Int
def Dc.W (d:Dc):Nat:=d.c.w.toNat
def Dc.N (d:Dc):Nat:=d.c.w.toNat*d.c.h.toNat
def kC (d:Dc)(b:Int->Int->Bool):Dc:={d with st:=fun c=>(d.st c).mapIdx fun a e=>e||(decide (a<d.N)&&b ((a%d.W:Nat):Int) ((a/d.W:Nat):Int)),ch:=d.ch||(List.range d.N).any fun a=>b ((a%d.W:Nat):Int) ((a/d.W:Nat):Int)}
def zw (d:Dc)(a:gv):Dc:={d with st:=fun b=>qV a d.W d.N (d.st b),ch:=d.ch||Q7 a d.W d.N}
def jo (d:Dc)(a:gv):zw d a=kC d (xE a):=rfl
def vA (d:Dc)(g h:Int->Int->Bool)(j:List gv):kC {kC d g with l:=j} h={kC d (fun e k=>g e k||h e k) with l:=j}:=by
 unfold kC;simp only[Dc.N,Dc.W,Dc.mk.injEq,cj,bB,List.mapIdx_mapIdx];constructor
 ·funext q
  congr 1
  funext a e
  simp only[Function.comp];generalize g _ _=m;generalize h _ _=n;by_cases i:a<d.c.w.toNat*d.c.h.toNat
  ·have o:=i;cases e<;>cases m<;>cases n<;>simp[i]
  ·cases e<;>cases m<;>cases n<;>simp[i]
 ·rw[Bool.or_assoc];congr 1
  rw[cC];simp only[Bool.or_eq_true,ca];constructor
  ·rintro (⟨a,c,b⟩ | ⟨a,c,b⟩)
   ·exact⟨a,c,.inl b⟩
   ·exact⟨a,c,.inr b⟩
  ·rintro⟨a,c,b | b⟩
   ·exact .inl ⟨a,c,b⟩
   ·exact .inr ⟨a,c,b⟩
def zu (d:Dc)(e:Nat)(b c:Int):Dc:=match d.l[e]? with
 | none=>d
 | some a=>if a.x=b/\a.y=c then d else zw {zw d a with l:=d.l.set e {a with x:=b,y:=c}} {a with x:=b,y:=c}
def qO (d:Dc)(b:Int)(a:gt):Dc:=
 if a.kind=8 then {d with wait:=d.wait++[(b,a.mark)]}
 else if a.kind=1 then {d with l:=d.l++[⟨b,a.iV,a.x,a.y,0,0,[],0,0,0⟩]}
 else match d.l[d.l.findIdx (gN b a.iV)]? with
  | none=>d
  | some c=>
   if a.kind=2 then {zw d c with l:=d.l.take (d.l.findIdx (gN b a.iV))++d.l.drop (d.l.findIdx (gN b a.iV)+1)}
   else if a.kind=3 then zw {zw d c with l:=d.l.set (d.l.findIdx (gN b a.iV)) {c with w:=a.w,h:=a.h,px:=a.px}} {c with w:=a.w,h:=a.h,px:=a.px}
   else if a.kind=4 then zu {d with l:=d.l.set (d.l.findIdx (gN b a.iV)) {c with left:=0}} (d.l.findIdx (gN b a.iV)) a.x a.y
   else if a.kind=5 then if d.l.findIdx (gN b a.iV)+1<d.l.length then {zw d c with l:=(d.l.take (d.l.findIdx (gN b a.iV))++d.l.drop (d.l.findIdx (gN b a.iV)+1))++[c]} else d
   else if a.kind=6 then if 0<d.l.findIdx (gN b a.iV) then {zw d c with l:=c::(d.l.take (d.l.findIdx (gN b a.iV))++d.l.drop (d.l.findIdx (gN b a.iV)+1))} else d
   else {d with l:=d.l.set (d.l.findIdx (gN b a.iV)) {c with dx:=a.x,dy:=a.y,left:=a.w}}
def gD (a:gv):gv:=if a.left=0 then {a with dx:=0,dy:=0} else a
def kg (b:gD u=gD s'):u.cl=s'.cl/\u.num=s'.num/\u.x=s'.x/\u.y=s'.y/\u.w=s'.w/\u.h=s'.h/\u.px=s'.px/\u.left=s'.left/\(u.left≠0->u.dx=s'.dx/\u.dy=s'.dy):=by
 have c:∀ a:gv,(gD a).cl=a.cl/\(gD a).num=a.num/\(gD a).x=a.x/\(gD a).y=a.y/\(gD a).w=a.w/\(gD a).h=a.h/\(gD a).px=a.px/\(gD a).left=a.left:=fun a=>by unfold gD;split<;>exact⟨rfl,rfl,rfl,rfl,rfl,rfl,rfl,rfl⟩
 obtain⟨e,g,h,i,j,k,l,m⟩:=c u;obtain⟨p,q,r,s,t,v,w,x⟩:=c s';rw[b] at e g h i j k l m;have n:=m.symm.trans x;refine⟨e.symm.trans p,g.symm.trans q,h.symm.trans r,i.symm.trans s,j.symm.trans t,k.symm.trans v,l.symm.trans w,n,fun o=>?_⟩;unfold gD at b;rw[ah o,ah (by rw[<-n];exact o)] at b;rw[b];exact⟨rfl,rfl⟩
def Zp (a:u.cl=s'.cl)(b:u.num=s'.num)(c:u.x=s'.x)(e:u.y=s'.y)(g:u.w=s'.w)(h:u.h=s'.h)(i:u.px=s'.px)(j:u.left=s'.left)(k:u.left≠0->u.dx=s'.dx/\u.dy=s'.dy):gD u=gD s':=by
 cases u;cases s'
 simp only at a b c e g h i j k;subst a;subst b;subst c;subst e;subst g;subst h;subst i;subst j;unfold gD;simp only;split
 ·rfl
 ·rename_i l;obtain⟨m,n⟩:=k l;rw[m,n]
def za9 (a:gD u=gD s'):gN q B' u=gN q B' s':=by
 obtain⟨b,c,-⟩:=kg a;unfold gN;rw[b,c]
def yv (a:gD u=gD s'):xE u=xE s':=by
 obtain⟨-,-,b,c,e,g,-⟩:=kg a;funext x y
 unfold xE;rw[b,c,e,g]
def Yk {c n:Int}:∀ {b e:List gv},b.map gD=e.map gD->b.findIdx (gN c n)=e.findIdx (gN c n)
 | [],[],_=>rfl
 | [],g::e,a=>by simp at a
 | h::b,[],a=>by simp at a
 | h::b,g::e,a=>by
  simp only[aY,bE] at a;rw[List.findIdx_cons,List.findIdx_cons,za9 a.1,Yk a.2]
def jD (a:gv)(b c:Int):xt (Qg a) b c=xE a b c:=by
 unfold xt Qg xE;rw[cC];simp only[aK,be];omega
def YN (a b:Int):xt ox a b=false:=by
 unfold xt ox;rw[Bool.eq_false_iff];simp only[ne_eq,aK,be];omega
structure FR (f:gB)(d:Dc):Prop where
 W:f.W=d.W
 H:f.H=d.c.h.toNat
 st:∀ i,i<3->d.st i=(f.b i).st
 front:d.front=f.front
 due:d.ch=f.due
 wait:d.wait=f.marks
 tQ:d.tQ=f.frame.isSome
 uV:∀ g,f.frame=some g->d.tU=g.buf/\d.left=(g.left.length:Int)/\d.marks=g.marks/\d.fp.length=d.N/\∀ p,p<d.N->(∀ v,((p:Int),v)∈g.left->d.fp[p]?=some v)/\((∀ v,((p:Int),v)∉g.left)->(f.b g.buf).px[p]?=d.fp[p]?)
 wx:f.frame=none->d.marks=[]
 ord:∀ i j,i<3->j<3->((f.b i).begun<(f.b j).begun↔d.fn i<d.fn j)
 top:∀ i,i<3->d.fn i<=d.tH
 shown:(f.b f.front).px=d.p f.front
section
variable {f:gB}{d:Dc}{D:Nat}
def FR.uw (a:FR f d)(h:hN D f)(rs:List Rc)(o:Int->Int->Bool)(m:∀ x y,(rs.any fun k=>xt k x y)=o x y):FR (zX f rs) (kC d o):=by
 have b:=yF rs f;have p:d.N=f.W*f.H:=(by unfold Dc.N;rw[a.W,a.H];rfl);have q:=a.W.symm;refine⟨b.W.trans a.W,b.H.trans a.H,fun c e=>?_,a.front.trans b.front.symm,?_,a.wait.trans b.marks.symm,by show d.tQ=_;rw[a.tQ,b.frame],fun r l=>?_,fun l=>a.wx (by rw[<-b.frame];exact l),fun c s e t=>by rw[b.begun,b.begun];exact a.ord c s e t,a.top,by rw[b.front,b.px];exact a.shown⟩
 ·apply bh;intro i;show ((d.st c).mapIdx _)[i]?=_;rw[fF,a.st c e];by_cases g:i<f.W*f.H
  ·rw[Vz rs f h.W.1 c e (h.st c e) i g,m,aB (by rw[h.st c e];exact g),bW,aB (by rw[h.st c e];exact g),p,q];simp[g]
  ·rw[aI (by rw[h.st c e];omega),aI (by rw[b.len,h.st c e];omega)];rfl
 ·show (d.ch||_)=_;rw[YH rs f h.W.1,a.due,p,q];congr 1
  rw[cC];simp only[ca,XJ];constructor
  ·rintro⟨i,g,j⟩;rw[<-m] at j;obtain⟨k,n,j⟩:=ca.1 j;exact⟨k,n,i,g,j⟩
  ·rintro⟨k,n,i,g,j⟩;exact⟨i,g,by rw[<-m];exact ca.2 ⟨k,n,j⟩⟩
 ·rw[b.frame] at l;rw[b.px];exact a.uV r l
def FR.ls (a:FR f d)(b:List gv):FR f {d with l:=b}:=⟨a.W,a.H,a.st,a.front,a.due,a.wait,a.tQ,a.uV,a.wx,a.ord,a.top,a.shown⟩
end
def qh1 {c n:Int}(i:l'.map gD=a5.map gD)(g:(l'.map qw).Nodup)(v:(c,n)∈l'.map qw):∃ h b j k s t,l'=h++b::j/\a5=k++s::t/\h.map gD=k.map gD/\gD b=gD s/\j.map gD=t.map gD/\k.length=h.length/\l'.findIdx (gN c n)=h.length/\a5.findIdx (gN c n)=h.length/\qw b=(c,n)/\(∀ e∈h,qw e≠(c,n))/\(∀ e∈j,qw e≠(c,n)):=by
 obtain⟨b,l,w,x⟩:=xC v;have y:=Yk (c:=c) (n:=n) i;obtain⟨a,m⟩:=zx (l'.findIdx (gN c n));rw[<-m] at l;obtain⟨E,z⟩:=zzg l;have F:l'.length=a5.length:=(by have:=congrArg List.length i;simpa using this);have A:a<a5.length:=(by omega);have o:l'=l'.take a++b::l'.drop (a+1):=(by rw[<-z,bo,ap]);have B:a5=a5.take a++a5[a]::a5.drop (a+1):=(by rw[bo,ap]);have p:qw b=(c,n):=(by unfold qw;rw[w,x]);have u:(l'.take a).length=a:=(by rw[ao];omega);refine⟨l'.take a,b,l'.drop (a+1),a5.take a,a5[a],a5.drop (a+1),o,B,?_,?_,?_,?_,?_,?_,p,fun e q r=>?_,fun e q r=>?_⟩
 ·rw[dg,dg,i]
 ·have:=congrArg (fun C=>C[a]?) i;simp only[aF,l,aB A,bO,ac] at this;exact this
 ·rw[ds,ds,i]
 ·rw[ao,ao];omega
 ·rw[u,m]
 ·rw[u,<-y,m]
 ·rw[o] at g;rw[aE,aY,cO] at g;exact g.2.2 _ (aC.2 ⟨e,q,rfl⟩) _ (by simp) (r.trans p.symm)
 ·rw[o] at g;rw[aE,aY,cO,dS] at g;exact g.2.1.1 (aC.2 ⟨e,q,r.trans p.symm⟩)
def qq9 (g:qw u=(q,B'))(c:qw s'=(q,B'))(h:∀ a∈l',qw a≠(q,B'))(i:∀ a∈a5,qw a≠(q,B')):xr (l'++u::a5) s'=l'++s'::a5:=by
 have e:∀ b:List gv,(∀ a∈b,qw a≠(q,B'))->b.map (fun u=>if qw u=qw s' then s' else u)=b:=fun b j=>by
  conv=>rhs;rw[<-List.map_id b]
  refine bN fun a k=>?_;rw[ah (by rw[c];exact j a k)];rfl
 unfold xr;rw[aE,aY,e l' h,e a5 i,an (by rw[g,c])]
def qv4 (e:qw u=(q,B'))(g:∀ a∈l',qw a≠(q,B'))(h:∀ a∈a5,qw a≠(q,B')):yT (l'++u::a5) q B'=l'++a5:=by
 have c:∀ b:List gv,(∀ a∈b,qw a≠(q,B'))->b.filter (fun u=>!gN q B' u)=b:=fun b i=>by
  rw[eS];intro a j;have:gN q B' a=false:=by
   cases k:gN q B' a with
   | false=>rfl
   | true=>exact absurd (ju.1 k) (i a j)
  rw[this];rfl
 unfold yT;rw[ce,eK,c l' g,c a5 h,ah (by rw[ju.2 e];simp)]
def Q3 {A:List gv}(b:qw u=(q,B'))(c:∀ a∈A,qw a≠(q,B')):jW (A++u::l') q B'=Qg u:=by
 have e:(A++u::l').find? (fun u=>u.cl == q&&u.num == B')=some u:=(by rw[List.find?_append];have g:A.find? (fun u=>u.cl == q&&u.num == B')=none:=(by rw[eX];intro a h i;exact c a h (ju.1 i));have j:(u::l').find? (fun u=>u.cl == q&&u.num == B')=some u:=List.find?_cons_of_pos (ju.2 b);rw[g,j];rfl);unfold jW;rw[e];rfl
def zd6 (c:∀ a∈l',qw a≠(q,B')):jW l' q B'=ox:=by
 have e:l'.find? (fun b=>b.cl == q&&b.num == B')=none:=(by rw[eX];intro a g h;exact c a g (ju.1 h));unfold jW;rw[e]
variable{a:gB}{d':Dc}
def X6 (a:gt):(qy a).kind=a.kind/\(qy a).iV=a.iV/\(qy a).x=a.x/\(qy a).y=a.y/\(qy a).w=a.w/\(qy a).h=a.h/\(qy a).mark=a.mark/\(a.kind=3->(qy a).px=a.px):=by
 unfold qy;split
 ·exact⟨rfl,rfl,rfl,rfl,rfl,rfl,rfl,fun _=>rfl⟩
 ·rename_i b;exact⟨rfl,rfl,rfl,rfl,rfl,rfl,rfl,fun c=>absurd c b⟩
def vD (d:Bool)(a b:Rc)(e f:Int):((vd d a b).any fun g=>xt g e f)=(d&&(xt a e f||xt b e f)):=by
 unfold vd;cases d with
 | false=>simp
 | true=>
  rw[ah (by simp)];split
  ·rename_i c;have h:b=a:=by
    unfold Xg at c;simp only[aK,fq] at c;cases a;cases b
    simp only at c;obtain⟨⟨⟨i,j⟩,k⟩,l⟩:=c;subst i;subst j;subst k;subst l;rfl
   rw[h];simp
  ·simp
def Vo {a:Type}(b d:List a)(c:a):(b++c::d)[b.length]?=some c:=by simp
def Vn {b:Type}(a c:List b)(e d:b):(a++e::c).set a.length d=a++d::c:=by simp
def Yp {c:Type}(a b:List c)(d:c):(a++d::b).take a.length++(a++d::b).drop (a.length+1)=a++b:=by
 rw[List.take_left,fZ,ez,bI (by omega)];rfl
def qe2 (a b:List gv)(d c:gv):vy (a++d::b) a.length ((a++d::b).length-1) c=a++b++[c]/\vy (a++d::b) a.length 0 c=c::(a++b):=by
 unfold vy;rw[Yp];constructor
 ·rw[aL (by simp),bI (by simp)]
 ·simp
def qu6 (E:l'.map gD=d'.l.map gD)(g:FR a d')(H:hN i a)(c2:(l'.map qw).Nodup)(c:Nat)(b:gt)(c3:b.kind≠8->ZS l' c b):(zU c (l',a) (qy b)).1.map gD=(qO d' c b).l.map gD/\FR (zU c (l',a) (qy b)).2 (qO d' c b)/\(qO d' c b).c=d'.c/\(qO d' c b).ks=d'.ks/\(qO d' c b).t=d'.t:=by
 obtain⟨q,c4⟩:=zx (qy b);obtain⟨Q,v,R,S,a1,b0,b1,b2⟩:=X6 b;rw[<-c4] at Q v R S a1 b0 b1 b2 ⊢;by_cases r:b.kind=8
 ·unfold zU qO;rw[an (by rw[Q];exact r),an r,b1];refine⟨E,⟨g.W,g.H,g.st,g.front,g.due,?_,g.tQ,g.uV,g.wx,g.ord,g.top,g.shown⟩,rfl,rfl,rfl⟩;show d'.wait++_=a.marks++_;rw[g.wait]
 ·have b3:=c3 r;unfold zU;rw[ah (by rw[Q];exact r)];by_cases t:b.kind=1
  ·unfold yh zi qO;rw[ah r,an t,an (by rw[Q];exact t),v,R,S];refine⟨?_,g.ls _,rfl,rfl,rfl⟩;simp only[aE,E]
  ·have c5:((c:Int),b.iV)∈l'.map qw:=by
    rcases b3 with h | h
    ·exact absurd h.1 t
    ·exact h.2
   have c8:2<=b.kind/\b.kind<=7:=by
    rcases b3 with h | h
    ·exact absurd h.1 t
    ·exact h.1
   obtain⟨e,d,j,o,f,p,z,I,J,T,K,U,b4,B,x,F,V⟩:=qh1 (c:=(c:Int)) (n:=b.iV) E c2 c5;have L:=yv T;obtain⟨W,X,Y,Z,a2,a3,a4,c6,c7⟩:=kg T;have M:jW l' c q.iV=Qg d:=(by rw[z,v];exact Q3 x F);have G:l'[l'.findIdx (gN c q.iV)]?=some d:=(by rw[v,b4,z];exact Vo e j d);have C:d'.l[d'.l.findIdx (gN c b.iV)]?=some f:=(by rw[B,I,<-U];exact Vo o p f);have b5:l'.findIdx (gN c q.iV)=e.length:=(by rw[v];exact b4);have a5:d'.l.take (d'.l.findIdx (gN c b.iV))++d'.l.drop (d'.l.findIdx (gN c b.iV)+1)=o++p:=(by rw[B,I,<-U];exact Yp o p f);have a6:∀ k,d'.l.set (d'.l.findIdx (gN c b.iV)) k=o++k::p:=fun k=>by rw[B,I,<-U];exact Vn o p f k
   have a7:∀ k:gv,qw k=((c:Int),b.iV)->xr l' k=e++k::j:=fun k N=>by rw[z];exact qq9 x N F V
   have b6:∀ k:gv,qw k=((c:Int),b.iV)->jW (e++k::j) c q.iV=Qg k:=fun k N=>by rw[v];exact Q3 N F
   have a0:∀ k a8:gv,gD k=gD a8->(e++k::j).map gD=(o++a8::p).map gD:=fun k a8 N=>by simp only[aE,aY,J,K,N]
   rcases (show b.kind=2\/b.kind=3\/b.kind=4\/b.kind=5\/b.kind=6\/b.kind=7 by omega) with s | s | s | s | s | s
   ·
    have u:zi l' c q=(e++j,true):=(by unfold zi;rw[ah (by omega),G];simp only;rw[an (by omega),v,z,qv4 x F V]);have l:qO d' c b={zw d' f with l:=o++p}:=(by unfold qO;rw[ah r,ah t,C];simp only;rw[an s,a5]);rw[l];unfold yh;rw[u,M];refine⟨by simp only[aE,J,K],?_,rfl,rfl,rfl⟩;have:jW (e++j) c q.iV=ox:=by
     rw[v];refine zd6 fun m O=>?_;rcases al.1 O with h | h
     ·exact F m h
     ·exact V m h
    rw[this];refine (g.uw H _ (xE f) fun m y=>?_).ls _;rw[vD,jD,YN,L];simp
   ·
    have u:zi l' c q=(e++{d with w:=b.w,h:=b.h,px:=b.px} :: j,true):=(by unfold zi;rw[ah (by omega),G];simp only;rw[ah (by omega),an (by omega),a1,b0,b2 s,a7 {d with w:=b.w,h:=b.h,px:=b.px} x]);have l:qO d' c b={kC d' (fun m y=>xE f m y||xE {f with w:=b.w,h:=b.h,px:=b.px} m y) with l:=o++{f with w:=b.w,h:=b.h,px:=b.px} :: p}:=(by unfold qO;rw[ah r,ah t,C];simp only;rw[ah (by omega),an s,a6,jo,jo,vA]);rw[l];unfold yh;rw[u,M];have P:gD {d with w:=b.w,h:=b.h,px:=b.px}=gD {f with w:=b.w,h:=b.h,px:=b.px}:=Zp W X Y Z rfl rfl rfl c6 c7;refine⟨a0 _ _ P,?_,rfl,rfl,rfl⟩;simp only;rw[b6 {d with w:=b.w,h:=b.h,px:=b.px} x];refine (g.uw H _ _ fun m y=>?_).ls _;rw[vD,jD,jD,L,yv P];simp
   ·
    have u:zi l' c q=(e++{d with x:=b.x,y:=b.y,dx:=0,dy:=0,left:=0} :: j,!(d.x == b.x&&d.y == b.y)):=(by unfold zi;rw[ah (by omega),G];simp only;rw[ah (by omega),ah (by omega),an (by omega),R,S,a7 {d with x:=b.x,y:=b.y,dx:=0,dy:=0,left:=0} x]);have b7:qO d' c b=zu {d' with l:=o++{f with left:=0} :: p} o.length b.x b.y:=(by unfold qO;rw[ah r,ah t,C];simp only;rw[ah (by omega),ah (by omega),an s,a6,B,<-U]);have P:gD {d with x:=b.x,y:=b.y,dx:=0,dy:=0,left:=0}=gD {f with left:=0,x:=b.x,y:=b.y}:=Zp W X rfl rfl a2 a3 a4 rfl (fun h=>absurd rfl h);unfold yh;rw[u,M];simp only;rw[b6 {d with x:=b.x,y:=b.y,dx:=0,dy:=0,left:=0} x];by_cases D:f.x=b.x/\f.y=b.y
    ·have l:qO d' c b={d' with l:=o++{f with left:=0} :: p}:=(by rw[b7];unfold zu;rw[Vo];simp only;rw[an D]);rw[l];have A:(!(d.x == b.x&&d.y == b.y))=false:=(by rw[Y,Z,D.1,D.2];simp);refine⟨a0 _ _ (Zp W X D.1.symm D.2.symm a2 a3 a4 rfl (fun h=>absurd rfl h)),?_,rfl,rfl,rfl⟩;rw[A];exact g.ls _
    ·have l:qO d' c b={kC d' (fun m y=>xE {f with left:=0} m y||xE {f with left:=0,x:=b.x,y:=b.y} m y) with l:=o++{f with left:=0,x:=b.x,y:=b.y} :: p}:=(by rw[b7];unfold zu;rw[Vo];simp only;rw[ah D,Vn,jo,jo,vA];rfl);rw[l];have A:(!(d.x == b.x&&d.y == b.y))=true:=by
      rw[Y,Z];simp only[dp,dV,em];by_cases b8:f.x=b.x
      ·exact .inr (fun I=>D ⟨b8,I⟩)
      ·exact .inl b8
     refine⟨a0 _ _ P,?_,rfl,rfl,rfl⟩;rw[A];refine (g.uw H _ _ fun m y=>?_).ls _;rw[vD,jD,jD,L,yv P];simp only[fM];rfl
   ·
    have b9:l'.length=e.length+1+j.length:=(by rw[z];simp;omega);have c0:d'.l.length=e.length+1+j.length:=(by have:=congrArg List.length E;simp only[ak] at this;omega);have u:zi l' c q=(e++j++[d],!decide (e.length=l'.length-1)):=(by unfold zi;rw[ah (by omega),G];simp only;rw[ah (by omega),ah (by omega),ah (by omega),an (by omega),b5,z,(qe2 e j d d).1]);unfold yh;rw[u,M];simp only;by_cases A:j=[]
    ·subst A;have c9:p=[]:=(by simpa using K.symm);have l:qO d' c b=d':=(by unfold qO;rw[ah r,ah t,C];simp only;rw[ah (by omega),ah (by omega),ah (by omega),an s,B,ah (by rw[c0];simp)]);rw[l];refine⟨?_,?_,rfl,rfl,rfl⟩
     ·rw[<-E,z];simp
     ·have:(!decide (e.length=l'.length-1))=false:=(by rw[b9];simp);rw[this];exact g
    ·have c1:=cZ.2 A;have l:qO d' c b={zw d' f with l:=o++p++[f]}:=(by unfold qO;rw[ah r,ah t,C];simp only;rw[ah (by omega),ah (by omega),ah (by omega),an s,a5,B,an (by rw[c0];omega)]);rw[l];have a9:jW (e++j++[d]) c q.iV=Qg d:=by
      rw[v];refine Q3 x (fun m O=>?_);rcases al.1 O with h | h
      ·exact F m h
      ·exact V m h
     refine⟨by simp only[aE,aY,dr,J,T,K],?_,rfl,rfl,rfl⟩;have:(!decide (e.length=l'.length-1))=true:=(by rw[b9];simp only[dp,cg];omega);rw[this,a9];refine (g.uw H _ _ fun m y=>?_).ls _;rw[vD,jD,L];simp
   ·
    have u:zi l' c q=(d::(e++j),!decide (e.length=0)):=(by unfold zi;rw[ah (by omega),G];simp only;rw[ah (by omega),ah (by omega),ah (by omega),ah (by omega),an (by omega),b5,z,(qe2 e j d d).2]);unfold yh;rw[u,M];simp only;by_cases A:e=[]
    ·subst A;have d0:o=[]:=(by simpa using J.symm);have l:qO d' c b=d':=(by unfold qO;rw[ah r,ah t,C];simp only;rw[ah (by omega),ah (by omega),ah (by omega),ah (by omega),an s,B,ah (by simp)]);rw[l];refine⟨?_,?_,rfl,rfl,rfl⟩
     ·rw[<-E,z];simp
     ·exact g
    ·have c1:=cZ.2 A;have l:qO d' c b={zw d' f with l:=f::(o++p)}:=(by unfold qO;rw[ah r,ah t,C];simp only;rw[ah (by omega),ah (by omega),ah (by omega),ah (by omega),an s,a5,B,an c1]);rw[l];have a9:jW (d::(e++j)) c q.iV=Qg d:=(by rw[v];exact Q3 (A:=[]) x (fun m O=>by simp at O));refine⟨by simp only[aE,aY,J,T,K],?_,rfl,rfl,rfl⟩;have:(!decide (e.length=0))=true:=(by simp only[dp,cg];omega);rw[this,a9];refine (g.uw H _ _ fun m y=>?_).ls _;rw[vD,jD,L];simp
   ·
    have u:zi l' c q=(e++{d with dx:=b.x,dy:=b.y,left:=b.w} :: j,false):=(by unfold zi;rw[ah (by omega),G];simp only;rw[ah (by omega),ah (by omega),ah (by omega),ah (by omega),ah (by omega),R,S,a1,a7 {d with dx:=b.x,dy:=b.y,left:=b.w} x]);have l:qO d' c b={d' with l:=o++{f with dx:=b.x,dy:=b.y,left:=b.w} :: p}:=(by unfold qO;rw[ah r,ah t,C];simp only;rw[ah (by omega),ah (by omega),ah (by omega),ah (by omega),ah (by omega),a6]);rw[l];unfold yh;rw[u];exact⟨a0 _ _ (Zp W X Y Z a2 a3 a4 rfl (fun _=>⟨rfl,rfl⟩)),g.ls _,rfl,rfl,rfl⟩
def yR (a:Dc)(b:Int)(c:List gt):Dc:=c.foldl (fun a d=>qO a b d) a
def qf (a:Dc)(b:Int)(c:List gt):Dc:={yR a b c with ch:=true}
def yP (a:Dc)(b:Int)(c:List (List gt)):Dc:=c.foldl (fun a d=>qf a b d) a
def QZ (a:Dc)(b:Int->Int->Bool):kC {a with ch:=true} b={kC a b with ch:=true}:=by
 unfold kC;simp only[Dc.mk.injEq,cj,bB,Bool.true_or];exact rfl
def qj4 (a:Dc)(b:Nat)(c d:Int):zu {a with ch:=true} b c d={zu a b c d with ch:=true}:=by
 unfold zu;simp only;split
 ·rfl
 ·split
  ·rfl
  ·rename_i e _ _;rw[jo,jo,jo,jo,vA,vA,QZ]
def qv0 (a:Dc)(b:Int)(c:gt):qO {a with ch:=true} b c={qO a b c with ch:=true}:=by
 unfold qO;simp only;split
 ·rfl
 ·split
  ·rfl
  ·split
   ·rfl
   ·rename_i d _;split
    ·rw[jo,jo,QZ]
    ·split
     ·rw[jo,jo,jo,jo,vA,vA,QZ]
     ·split
      ·exact qj4 {a with l:=a.l.set (a.l.findIdx (gN b c.iV)) {d with left:=0}} _ _ _
      ·split
       ·split
        ·rw[jo,jo,QZ]
        ·rfl
       ·split
        ·split
         ·rw[jo,jo,QZ]
         ·rfl
        ·rfl
def qd7 (a:Int):∀ (d:List gt)(b:Dc),yR {b with ch:=true} a d={yR b a d with ch:=true}
 | [],b=>rfl
 | e::c,b=>by
  show yR (qO {b with ch:=true} a e) a c={yR (qO b a e) a c with ch:=true};rw[qv0,qd7 a c]
section
variable {K S j:Nat}
def Vf (q:K*S<=1000)(r:j<K):∀ (c:List gt)(g:Nat)(b:List gv)(d:gB)(a:Dc)(f:List Bool),vM K S g (b,d)->g+c.length<=900000000->qR (gO b j S) (c.map qy)=some f->b.map gD=a.l.map gD->FR d a-> ((c.map qy).foldl (zU j) (b,d)).1.map gD=(yR a j c).l.map gD/\FR ((c.map qy).foldl (zU j) (b,d)).2 (yR a j c)/\(yR a j c).c=a.c/\(yR a j c).ks=a.ks/\(yR a j c).t=a.t
 | [],g,b,d,a,f,h,s,k,l,m=>⟨l,m,rfl,rfl,rfl⟩
 | e::n,g,b,d,a,f,h,s,k,l,m=>by
  rw[aY] at k ⊢;have i:(qP (gO b j S) (qy e)).bind (fun o=>qR o (n.map qy))=some f:=k;cases p:qP (gO b j S) (qy e) with
  | none=>rw[p] at i;cases i
  | some o=>
   rw[p] at i;have t:qR o (n.map qy)=some f:=i;simp only[aX] at s;obtain⟨v,w,x,J⟩:=Z5 (st:=(b,d)) h q r (by omega) p;rw[<-x] at t;obtain⟨u,y,-⟩:=X6 e;obtain⟨z,k2,A,B,C⟩:=qu6 l m h.fr h.sc.nd j e (fun D=>by
    have:=(v.fit (by rw[u];exact D)).1;unfold ZS at this ⊢;rw[u,y] at this;exact this)
   obtain⟨E,F,G,H,I⟩:=Vf q r n (g+1) (zU j (b,d) (qy e)).1 (zU j (b,d) (qy e)).2 (qO a j e) f w (by omega) t z k2;exact⟨E,F,G.trans A,H.trans B,I.trans C⟩
def rN (d:K*S<=1000)(e:j<K)(c:vM K S n (l',a))(f:n+h.length<=900000000)(g:qR (gO l' j S) (h.map qy)=some x)(i:l'.map gD=d'.l.map gD)(b:FR a d'):(yD j (l',a) (h.map qy)).1.map gD=(qf d' j h).l.map gD/\FR (yD j (l',a) (h.map qy)).2 (qf d' j h)/\(qf d' j h).c=d'.c/\(qf d' j h).ks=d'.ks/\(qf d' j h).t=d'.t:=by
 have k:FR {a with due:=true} {d' with ch:=true}:=⟨b.W,b.H,b.st,b.front,rfl,b.wait,b.tQ,b.uV,b.wx,b.ord,b.top,b.shown⟩;have:=Vf d e h n l' {a with due:=true} {d' with ch:=true} x ⟨c.sc,c.fr.due true⟩ f g i k;rw[qd7] at this;exact this
def X1 (k:K*S<=1000)(l:j<K):∀ (d:List (List gt))(g:Nat)(b:List gv)(e:gB)(a:Dc)(h:List Bool),vM K S g (b,e)->(∀ m∈d,m.length<=20)->g+20*d.length<=900000000->qR (gO b j S) (d.map fun c=>c.map qy).flatten=some h->b.map gD=a.l.map gD->FR e a-> (jx j (b,e) (d.map fun c=>c.map qy)).1.map gD=(yP a j d).l.map gD/\FR (jx j (b,e) (d.map fun c=>c.map qy)).2 (yP a j d)/\(yP a j d).c=a.c/\(yP a j d).ks=a.ks/\(yP a j d).t=a.t
 | [],g,b,e,a,h,n,o,r,f,p,q=>⟨p,q,rfl,rfl,rfl⟩
 | c::t,g,b,e,a,h,n,o,r,f,p,q=>by
  rw[aY,dG,zF] at f;simp only[aX] at r;cases i:qR (gO b j S) (c.map qy) with
  | none=>rw[i] at f;cases f
  | some H=>
   rw[i] at f;have s:=f;have u:=o c (by simp);obtain⟨I,v,w,J⟩:=qp5 (st:=(b,e)) k l n (by rw[ak];exact u) (by omega) i;rw[<-w] at s;obtain⟨x,k2,y,z,A⟩:=rN k l n (by omega) i p q;obtain⟨B,C,D,E,F⟩:=X1 k l t (g+20) (yD j (b,e) (c.map qy)).1 (yD j (b,e) (c.map qy)).2 (qf a j c) h v (fun m G=>o m (by simp[G])) (by omega) s x k2;exact⟨B,C,D.trans y,E.trans z,F.trans A⟩
end
def qH (a:gF):gF:={a with q:=a.q.map fun b=>b.map qy}
def ZD:∀ (a:List (List gt))(b:Int),zP b (a.map fun c=>c.map qy)=zP b a
 | [],b=>rfl
 | d::a,b=>by
  rw[aY];unfold zP;rw[ve,ZD a]
def yK (a:gF)(b:Int):qB (qH a) b=((qB a b).1.map fun c=>c.map qy,qH (qB a b).2):=by
 unfold qB qH;simp only;rw[ZD,dg,ds,ak]
def xR (a:Dc)(j:Nat):Dc:=match a.ks[j]? with
 | some (some k)=>{yP a j (qB k a.c.hD).1 with ks:=a.ks.set j (some (qB k a.c.hD).2)}
 | _=>a
def zD (a:Dc):Nat->Dc
 | 0=>a
 | j+1=>xR (zD a j) j
def jq (b:Dc)(c:Nat):Dc:=match b.l[c]? with
 | none=>b
 | some a=>if 0<a.left then zu {b with l:=b.l.set c {a with left:=a.left-1}} c (a.x+a.dx) (a.y+a.dy) else b
def zj (a:Dc):Nat->Dc
 | 0=>a
 | b+1=>jq (zj a b) b
def XS (a:gB)(b c:List Rc):zX a (b++c)=zX (zX a b) c:=by simp[zX]
def Zd {f:gB}{d:Dc}{D:Nat}{e:List gv}(F:e.map gD=d.l.map gD)(G:FR f d)(H:hN D f)(I:∀ c∈e,0<=c.left):∀ a,a<=e.length->((e.take a).map hd++e.drop a).map gD=(zj d a).l.map gD/\FR (zX f ((e.take a).flatMap zW)) (zj d a)/\(zj d a).c=d.c/\(zj d a).ks=d.ks/\(zj d a).t=d.t
 | 0,_=>⟨F,G,rfl,rfl,rfl⟩
 | a+1,a8=>by
  obtain⟨r,s,t,u,v⟩:=Zd F G H I a (by omega);have X:hN D (zX f ((e.take a).flatMap zW)):=H.uw (yF _ _);obtain⟨c,k⟩:∃ c,e[a]?=some c:=⟨e[a],by simp⟩;have a9:=I c (zzn k);have Y:=(zzg k).1;have x:((e.take a).map hd++e.drop a)[a]?=some c:=(by rw[aq (by simp;omega)];simp only[ak,ao];rw[show a-min a e.length=0 by omega,bw];exact k);have Z:(e.take (a+1)).map hd++e.drop (a+1)=((e.take a).map hd++e.drop a).set a (hd c):=by
   have h:e.take (a+1)=e.take a++[c]:=(by rw[am,k];rfl);have l:e.drop a=c::e.drop (a+1):=(by rw[<-bo Y];congr 1;exact (zzg k).2);have i:((e.take a).map hd).length=a:=(by simp;omega);rw[h,l,aE,aY,dr]
   conv=>rhs;rw[<-i]
   rw[i]
   conv=>rhs;arg 2;rw[<-i]
   rw[Vn,aN];rfl
  obtain⟨g,J⟩:=zx (zj d a);have a0:zj d (a+1)=jq g a:=(by rw[J];rfl);rw[<-J] at r s t u v;obtain⟨b,y,K⟩:∃ b,g.l[a]?=some b/\gD c=gD b:=by
   have:=congrArg (fun a1=>a1[a]?) r;simp only[aF,x,bO] at this;cases L:g.l[a]? with
   | none=>rw[L] at this;simp at this
   | some b=>
    rw[L] at this;simp only[bO,ac] at this;exact⟨b,rfl,this⟩
  obtain⟨M,N,z,A,O,P,Q,R,a2⟩:=kg K;have a3:(e.take (a+1)).flatMap zW=(e.take a).flatMap zW++zW c:=(by have h:e.take (a+1)=e.take a++[c]:=(by rw[am,k];rfl);rw[h,List.flatMap_append];simp);rw[a0,Z,a3,XS];have S:∀ B C:gv,gD B=gD C->(((e.take a).map hd++e.drop a).set a B).map gD=(g.l.set a C).map gD:=fun B C a4=>by rw[dh,dh,r,a4]
  by_cases m:c.left=0
  ·have h:hd c=c:=(by unfold hd;rw[an m]);have l:zW c=[]:=(by unfold zW nJ;rw[an m];rfl);have i:jq g a=g:=(by unfold jq;rw[y];simp only;rw[ah (by omega)]);rw[h,l,i];refine⟨?_,s,t,u,v⟩;have:((e.take a).map hd++e.drop a).set a c=(e.take a).map hd++e.drop a:=by
    apply bh;intro b0;rw[cG];split
    ·rename_i w;subst w;rw[an (zzg x).1,x]
    ·rfl
   rw[this];exact r
  ·obtain⟨n,o⟩:=a2 m;have h:hd c={c with x:=c.x+c.dx,y:=c.y+c.dy,left:=c.left-1}:=(by unfold hd;rw[ah m]);have a5:=(zzg y).1;have i:jq g a=zu {g with l:=g.l.set a {b with left:=b.left-1}} a (b.x+b.dx) (b.y+b.dy):=(by unfold jq;rw[y];simp only;rw[an (by omega)]);have T:(g.l.set a {b with left:=b.left-1})[a]?=some {b with left:=b.left-1}:=ar a5;have U:nJ c=!(b.x == b.x+b.dx&&b.y == b.y+b.dy):=(by unfold nJ;rw[ah m,z,A,n,o]);by_cases j:b.x=b.x+b.dx/\b.y=b.y+b.dy
   ·have E:jq g a={g with l:=g.l.set a {b with left:=b.left-1}}:=(by rw[i];unfold zu;simp only[T];rw[an j]);have a6:zW c=[]:=(by unfold zW;have:nJ c=false:=(by rw[U,<-j.1,<-j.2];simp);rw[this];rfl);rw[h,E,a6];refine⟨S _ _ (Zp M N ?_ ?_ O P Q ?_ (fun _=>⟨n,o⟩)),s.ls _,t,u,v⟩
    ·show c.x+c.dx=b.x;rw[z,n,<-j.1]
    ·show c.y+c.dy=b.y;rw[A,o,<-j.2]
    ·show c.left-1=b.left-1;rw[R]
   ·have E:jq g a={kC g (fun p q=>xE {b with left:=b.left-1} p q||xE {b with left:=b.left-1,x:=b.x+b.dx,y:=b.y+b.dy} p q) with l:=g.l.set a {b with left:=b.left-1,x:=b.x+b.dx,y:=b.y+b.dy}}:=(by rw[i];unfold zu;simp only[T];rw[ah j,jo,jo,vA,eg];rfl);have a7:nJ c=true:=by
     rw[U];simp only[dp,dV,em];by_cases w:b.x=b.x+b.dx
     ·exact .inr (fun l=>j ⟨w,l⟩)
     ·exact .inl w
    have V:gD {c with x:=c.x+c.dx,y:=c.y+c.dy,left:=c.left-1}=gD {b with left:=b.left-1,x:=b.x+b.dx,y:=b.y+b.dy}:=Zp M N (by simp only;rw[z,n]) (by simp only;rw[A,o]) O P Q (by simp only;rw[R]) (fun _=>⟨n,o⟩);rw[h,E];refine⟨S _ _ V,?_,t,u,v⟩;refine (s.uw X _ _ fun p q=>?_).ls _;unfold zW;rw[a7,vD,h];have W:=jD c p q;have c2:=jD {c with x:=c.x+c.dx,y:=c.y+c.dy,left:=c.left-1} p q;unfold Qg at W c2;rw[W,c2,yv K,yv V];simp only[fM];rfl
def yy (a:Dc):Prop:=a.tQ=true/\a.left=0
def lW (a:Dc):Decidable (yy a):=(instDecidableAnd:Decidable (a.tQ=true/\a.left=0))
def xU (a:Dc):Dc:=@ite Dc (yy a) (lW a) {a with tQ:=false,front:=a.tU,p:=fun b=>if b=a.tU then a.fp else a.p b,marks:=[]} a
def om (a:Dc):Int:=@ite Int (yy a) (lW a) 1 0
def nK (a:Dc):List (Int×Int):=@ite (List (Int×Int)) (yy a) (lW a) a.marks []
def JE (b:FR a d')(g:hN n a):FR (zd a).1 (xU d')/\(zd a).2.1=om d'/\(zd a).2.2=nK d':=by
 unfold zd xU om nK;cases e:a.frame with
 | none=>
  have:¬yy d':=fun f=>by have:=b.tQ;rw[e,f.1] at this;simp at this
  rw[ah this,ah this,ah this];exact⟨b,rfl,rfl⟩
 | some c=>
  obtain⟨h,i,k,q,l⟩:=b.uV c e;have m:d'.tQ=true:=(by rw[b.tQ,e];rfl);by_cases d:c.left=[]
  ·have:yy d':=⟨m,by rw[i,d];rfl⟩;rw[an this,an this,an this];simp only[d,dH];refine⟨⟨b.W,b.H,b.st,h,b.due,b.wait,rfl,fun r o=>by simp at o,fun _=>rfl,b.ord,b.top,?_⟩,trivial,k.symm⟩;show (a.b c.buf).px=if c.buf=d'.tU then d'.fp else d'.p c.buf;rw[an h.symm];have s:d'.N=a.W*a.H:=(by unfold Dc.N;rw[b.W,b.H];rfl);apply bh;intro j;by_cases p:j<d'.N
   ·exact (l j p).2 (fun t=>by rw[d];simp)
   ·rw[aI (by rw[g.px c.buf (g.fm c e).1];omega),aI (by omega)]
  ·have:¬yy d':=fun f=>by
    have:=f.2;rw[i] at this;exact d (bX (by omega))
   rw[ah this,ah this,ah this];simp only[d,dE];exact⟨b,by simp,by simp⟩
def zG (b:Dc):Nat->Option Nat
 | 0=>none
 | a+1=>if a=b.front then zG b a else match zG b a with
  | none=>some a
  | some c=>if b.fn a<b.fn c then some a else some c
def Ym {b:gB}{d:Dc}(c:FR b d):∀ a,a<=3->zG d a=za b a
 | 0,_=>rfl
 | a+1,g=>by
  unfold zG za;rw[c.front,Ym c a (by omega)];split
  ·rfl
  ·cases f:za b a with
   | none=>rfl
   | some e=>
    have h:=ya b a e f;simp only[c.ord a e (by omega) (by omega)]
def ny (a:List Bool):Nat->Nat
 | 0=>0
 | b+1=>ny a b+(if a[b]?=some true then 1 else 0)
def JL (b:List Bool)(c:Nat)(d:Int->Int->Int):∀ a,(zH b c d a).length=ny b a
 | 0=>rfl
 | a+1=>by
  unfold zH ny;rw[ae,JL b c d a];split<;>rfl
def jF (a:Dc):Dc:=if a.tQ=true\/a.ch=false then a else
 {a with tH:=a.tH+1,tQ:=true,tU:=(zG a 3).getD 0,fp:=(List.range a.N).map (Qq a.l a.c.behind a.W),left:=(ny (a.st ((zG a 3).getD 0)) a.N:Int),st:=fun b=>if b=(zG a 3).getD 0 then List.replicate a.N false else a.st b,fn:=fun b=>if b=(zG a 3).getD 0 then a.tH+1 else a.fn b,marks:=a.wait,wait:=[],ch:=false}
def za5 (a:gD u=gD s')(b c:Int):zC u b c=zC s' b c:=by
 obtain⟨-,-,d,e,f,h,g,-⟩:=kg a;unfold zC;rw[yv a,d,e,f,g]
def Ya (a b:Int):∀ (d e:List gv)(f:Int),d.map gD=e.map gD->jP d f a b=jP e f a b
 | [],[],_,_=>rfl
 | [],f::e,_,c=>by simp at c
 | g::d,[],_,c=>by simp at c
 | g::d,h::e,f,c=>by
  simp only[aY,bE] at c;show jP d (if zC g a b=0 then f else zC g a b) a b=jP e (if zC h a b=0 then f else zC h a b) a b;rw[za5 c.1];exact Ya a b d e _ c.2
def XW {t:Int}(z:l'.map gD=d'.l.map gD)(b:FR a d')(v:hN n a)(A:hw l' d'.c.behind a)(w:∀ c,c<3->(a.b c).begun<t):FR (zR a t (jP l' d'.c.behind)) (jF d'):=by
 unfold zR jF;have m:(a.frame.isSome=true\/a.due=false)↔(d'.tQ=true\/d'.ch=false):=(by rw[b.tQ,b.due]);by_cases i:d'.tQ=true\/d'.ch=false
 ·rw[an i,an (m.2 i)];exact b
 ·rw[ah i,ah (fun o=>i (m.1 o)),Ym b 3 (zzl _)];have j:=rF a v.fr;obtain⟨g,B⟩:=zx ((za a 3).getD 0);rw[<-B] at j ⊢;have p:d'.N=a.W*a.H:=(by unfold Dc.N;rw[b.W,b.H];rfl);have C:a.frame=none:=by
   cases D:a.frame with
   | none=>rfl
   | some E=>exact absurd (m.1 (.inl (by rw[D];rfl))) i
  refine⟨b.W,b.H,fun c h=>?_,b.front,rfl,rfl,rfl,fun E k=>?_,fun k=>by simp at k,fun c l h q=>?_,fun c h=>?_,?_⟩
  ·simp only;split
   ·rw[p]
   ·exact b.st c h
  ·simp only[ac] at k;subst k;refine⟨rfl,?_,b.wait,by simp;rfl,fun d x=>?_⟩
   ·simp only;rw[JL,b.st g j.1,p]
   ·have r:d<a.W*a.H:=(by rw[<-p];exact x);have y:((List.range d'.N).map (Qq d'.l d'.c.behind d'.W))[d]?=some (jP l' d'.c.behind ((d%a.W:Nat):Int) ((d/a.W:Nat):Int)):=(by have F:d<d'.N:=x;rw[aF,List.getElem?_range F];show some (Qq d'.l d'.c.behind d'.W d)=_;unfold Qq;rw[Ya _ _ l' d'.l _ z,b.W]);simp only;refine⟨fun G s=>?_,fun s=>?_⟩
    ·obtain⟨-,-,o⟩:=(QY _ _ _ _ _ _).1 s;rw[y,o]
    ·rw[an trivial];simp only;rw[y];have H:(a.b g).st[d]?=some false:=by
      have I:=v.st g j.1;cases u:(a.b g).st[d]? with
      | none=>rw[aB (by rw[I];exact r)] at u;cases u
      | some J=>
       cases J with
       | false=>rfl
       | true=>exact absurd ((QY _ _ _ _ _ _).2 ⟨r,u,rfl⟩) (s _)
     have K:=(A.rt g j.1 d r H).2 (fun G=>by unfold yW;rw[C];simp);exact K
  ·simp only;have N:=w c h;have O:=w l q;have L:=b.top c h;have P:=b.top l q;have M:=b.ord c l h q;by_cases e:c=g<;>by_cases f:l=g
   ·rw[an e,an f,an e,an f];simp
   ·rw[an e,ah f,an e,ah f];simp only;omega
   ·rw[ah e,an f,ah e,an f];simp only;omega
   ·rw[ah e,ah f,ah e,ah f];exact M
  ·simp only;have L:=b.top c h;split<;>omega
  ·simp only;split
   ·exact b.shown
   ·exact b.shown
def nF (a:Dc)(b:Nat):Int:=if a.tQ=true then (if (b:Int)<a.left then (b:Int) else a.left) else 0
def jI (a:Dc)(b:Nat):Dc:=if a.tQ=true then {a with left:=a.left-nF a b} else a
def qi3 (d:FR a d')(q:hN n a)(z:∀ c,a.frame=some c->(c.left.map Prod.fst).Nodup)(g:Nat):FR (je a g) (jI d' g)/\(vu a g:Int)=nF d' g:=by
 unfold je vu jI;cases i:a.frame with
 | none=>
  have:d'.tQ=false:=(by rw[d.tQ,i];rfl);rw[ah (by rw[this];simp)];refine⟨d,?_⟩;unfold nF;rw[ah (by rw[this];simp)];rfl
 | some c=>
  have l:d'.tQ=true:=(by rw[d.tQ,i];rfl);obtain⟨A,r,B,C,D⟩:=d.uV c i;obtain⟨E,F,P,G,Q⟩:=q.fm c i;have H:d'.N=a.W*a.H:=(by unfold Dc.N;rw[d.W,d.H];rfl);have m:((min g c.left.length:Nat):Int)=nF d' g:=(by unfold nF;rw[an l,r];split<;>omega);rw[an l];refine⟨?_,m⟩;obtain⟨h,I⟩:=zx (min g c.left.length);simp only;rw[<-I] at m ⊢;unfold zzp;refine⟨d.W,d.H,fun b j=>?_,d.front,d.due,d.wait,l,fun R k=>?_,fun k=>by simp at k,fun b s j J=>?_,d.top,?_⟩
  ·simp only;split
   ·exact d.st b j
   ·exact d.st b j
  ·simp only[ac] at k;subst k;refine⟨A,?_,B,C,fun o t=>?_⟩
   ·simp only[aV];rw[<-m,r];omega
   ·obtain⟨u,K⟩:=D o t;simp only[dH];refine⟨fun f p=>u f (bm p),fun p=>?_⟩;have v:=(ap h c.left).symm;have L:((c.left.take h).map Prod.fst).Nodup:=(by have:=z c i;rw[v,aE,cO] at this;exact this.1);obtain⟨M,N⟩:=Jq (c.left.take h) (a.b c.buf).px o (fun d' O=>(G d' (br O)).1) L (by rw[q.px c.buf E,<-H];exact t);by_cases w:∃ f,((o:Int),f)∈c.left.take h
    ·obtain⟨f,x⟩:=w;rw[M f x,u f (br x)]
    ·have y:=fun f e=>w ⟨f,e⟩;rw[N y];refine K (fun f e=>?_);rw[v,al] at e;rcases e with e | e
     ·exact y f e
     ·exact p f e
  ·have e:∀ b,((fun b=>if b=c.buf then ({a.b b with px:=xl (a.b b).px (c.left.take h)}:pg) else a.b b) b).begun=(a.b b).begun:=fun b=>by simp only;split<;>rfl
   show ((fun b=>if b=c.buf then ({a.b b with px:=xl (a.b b).px (c.left.take h)}:pg) else a.b b) b).begun<((fun b=>if b=c.buf then ({a.b b with px:=xl (a.b b).px (c.left.take h)}:pg) else a.b b) s).begun↔_;rw[e,e];exact d.ord b s j J
  ·simp only;rw[ah (fun e=>F e.symm)];exact d.shown
def vP {b:Type}{a:List b}{c:b}(e:a[n]?=some c):a.set n c=a:=by
 refine bh fun g=>?_;rw[cG];split
 ·rename_i f;subst f;rw[an (zzg e).1,e]
 ·rfl
structure DR (s:qY)(d:Dc):Prop where
 c:s.c=d.c
 ks:s.ks=d.ks.map (Option.map qH)
 l:s.l.map gD=d.l.map gD
 f:FR s.f d
 t:s.t=d.t
 beg:∀ i,i<3->(s.f.b i).begun<=s.t
def FR.tt {d:Dc}(b:FR a d)(c:Int):FR a {d with t:=c}:=⟨b.W,b.H,b.st,b.front,b.due,b.wait,b.tQ,b.uV,b.wx,b.ord,b.top,b.shown⟩
def FR.kss {d:Dc}(b:FR a d)(c:List (Option gF)):FR a {d with ks:=c}:=⟨b.W,b.H,b.st,b.front,b.due,b.wait,b.tQ,b.uV,b.wx,b.ord,b.top,b.shown⟩
def og (d:Dc):Dc:=xU {d with t:=d.t+1}
def iI (d:Dc):Dc:=zj (og d) d.l.length
def iL (d:Dc):Dc:=zD (iI d) d.ks.length
def il (d:Dc):Dc:=jF (iL d)
def xS (d:Dc)(a:Nat):Dc:=jI (il d) a
def yB (d:Dc):(xU d).c=d.c/\(xU d).ks=d.ks/\(xU d).l=d.l/\(xU d).t=d.t:=by
 unfold xU;split<;>exact⟨rfl,rfl,rfl,rfl⟩
def YR (d:Dc):(jF d).c=d.c/\(jF d).ks=d.ks/\(jF d).l=d.l/\(jF d).t=d.t:=by
 unfold jF;split<;>exact⟨rfl,rfl,rfl,rfl⟩
def Ye (d:Dc)(a:Nat):(jI d a).c=d.c/\(jI d a).ks=d.ks/\(jI d a).l=d.l/\(jI d a).t=d.t:=by
 unfold jI;split<;>exact⟨rfl,rfl,rfl,rfl⟩
section
variable {s:qY}{d:Dc}{D:Nat}
def qc8 (a:DR s d)(b:jg D s):(gM s).l.map gD=(iI d).l.map gD/\FR (gM s).f (iI d)/\(iI d).c=d.c/\(iI d).ks=d.ks/\(iI d).t=d.t+1:=by
 obtain⟨g,-,-⟩:=JE (a.f.tt (d.t+1)) b.st.fr;obtain⟨h,k2,i,j⟩:=yB {d with t:=d.t+1};have k:s.l.map gD=(og d).l.map gD:=(by unfold og;rw[i];exact a.l);have l:d.l.length=s.l.length:=(by have:=congrArg List.length a.l;simpa using this.symm);obtain⟨c,e,m,n,o⟩:=Zd (f:=(zd s.f).1) (d:=og d) (D:=D) k g b.st.fr.flip (fun p q=>(b.st.sc.sf p q).lf.1) s.l.length (zzl _);rw[aP,eL,aW] at c;rw[aP] at e;unfold iI;rw[l];exact⟨c,e,m.trans h,n.trans k2,o.trans j⟩
def QE (i:DR s d)(e:jg D s)(y:D+640<=900000000):∀ a,a<=s.ks.length->(qJ s.c.hD s.ks ((gM s).l,(gM s).f) a).1.map gD=(zD (iI d) a).l.map gD/\FR (qJ s.c.hD s.ks ((gM s).l,(gM s).f) a).2 (zD (iI d) a)/\(zD (iI d) a).c=d.c/\(zD (iI d) a).ks=lV d.c.hD d.ks a/\(zD (iI d) a).t=d.t+1
 | 0,_=>by
  obtain⟨j,k,f,g,l⟩:=qc8 i e;refine⟨j,k,f,?_,l⟩;show (iI d).ks=_;rw[g];simp[lV]
 | a+1,U=>by
  obtain⟨j,k,f,g,l⟩:=QE i e y a (by omega);have o:=Qy e.cfg;have V:=o.ks;have W:=e.len;have X:s.c.oA.toNat<=4:=(by have:=o.oA;omega);have z:=jL e y a (by omega);have A:a<d.ks.length:=(by have:=congrArg List.length i.ks;rw[ak] at this;omega);have p:(zD (iI d) a).ks[a]?=d.ks[a]?:=(by rw[g];exact Qt A);have G:zD (iI d) (a+1)=xR (zD (iI d) a) a:=rfl;rw[G];obtain⟨c,H⟩:=zx (zD (iI d) a);rw[<-H] at j k f g l p ⊢;obtain⟨n,h⟩:∃ n,d.ks[a]?=some n:=⟨d.ks[a],by simp⟩;have B:s.ks[a]?=some (n.map qH):=(by rw[i.ks,aF,h];rfl);cases n with
  | none=>
   have q:qJ s.c.hD s.ks ((gM s).l,(gM s).f) (a+1)=qJ s.c.hD s.ks ((gM s).l,(gM s).f) a:=(by simp[qJ,B]);have r:xR c a=c:=(by unfold xR;rw[p,h]);rw[q,r];refine⟨j,k,f,?_,l⟩;rw[g,QT h];refine (vP ?_).symm;rw[Qt A,h];rfl
  | some b=>
   have t:=B;have C:=e.cl a (qH b) t;have q:qJ s.c.hD s.ks ((gM s).l,(gM s).f) (a+1)=jx a (qJ s.c.hD s.ks ((gM s).l,(gM s).f) a) (qB (qH b) s.c.hD).1:=(by simp[qJ,t]);have r:xR c a={yP c a (qB b d.c.hD).1 with ks:=c.ks.set a (some (qB b d.c.hD).2)}:=(by unfold xR;rw[p,h,f]);have u:=z.uH a (qH b) (zzl _) t;obtain⟨m,I⟩:=zx ((zP ((qH b).cr+s.c.hD) (qH b).q).1);have E:(qB (qH b) s.c.hD).1=(qH b).q.take m:=(by rw[I];rfl);have J:(qH b).q.flatten=((qH b).q.take m).flatten++((qH b).q.drop m).flatten:=(by rw[<-dK,ap]);rw[J,zF] at u;cases v:qR (gO (qJ s.c.hD s.ks ((gM s).l,(gM s).f) a).1 a s.c.iE.toNat) ((qH b).q.take m).flatten with
   | none=>rw[v] at u;cases u
   | some L=>
    have Y:(qH b).q.length<=8:=(by have:=C.ql;have:=o.queue;omega);have F:((qH b).q.take m).length<=8:=(by rw[ao];omega);have w:(qB (qH b) s.c.hD).1=(qB b d.c.hD).1.map fun M=>M.map qy:=(by rw[i.c,yK]);rw[<-E,w] at v F;rw[ak] at F;obtain⟨N,O,P,Z,Q⟩:=X1 (K:=s.c.oA.toNat) (S:=s.c.iE.toNat) (j:=a) (by omega) (by omega) (qB b d.c.hD).1 (D+160*a) _ _ c L z.st (fun x R=>by
     have T:x.map qy∈(qH b).q:=(by have:x.map qy∈(qB (qH b) s.c.hD).1:=(by rw[w];exact aC.2 ⟨x,R,rfl⟩);rw[E] at this;exact br this);have:=(C.tr _ T).1.2;rw[ak] at this;exact this) (by omega) v j k
    rw[q,w,r];refine⟨N,O.kss _,P.trans f,?_,Q.trans l⟩;show c.ks.set a (some (qB b d.c.hD).2)=_;rw[g,QT h];rfl
def Z6 (rs:List Rc)(b:Nat):((zX a rs).b b).begun=(a.b b).begun:=(yF rs a).begun b
def sA (c:Nat)(b:List gv×gB)(e:gt)(a:Nat):((zU c b e).2.b a).begun=(b.2.b a).begun:=by
 unfold zU;split
 ·rfl
 ·exact Z6 _ a
def qf7 (b:Nat)(c:Nat):∀ (f:List gt)(a:List gv×gB),((f.foldl (zU b) a).2.b c).begun=(a.2.b c).begun
 | [],_=>rfl
 | e::g,a=>(qf7 b c g (zU b a e)).trans (sA b a e c)
def qf6 (b:Nat)(c:Nat):∀ (f:List (List gt))(a:List gv×gB),((jx b a f).2.b c).begun=(a.2.b c).begun
 | [],_=>rfl
 | e::g,a=>(qf6 b c g (yD b a e)).trans (qf7 b c e (a.1,{a.2 with due:=true}))
def Z7 (e:Int)(f:List (Option gF))(a:List gv×gB)(b:Nat):∀ c,((qJ e f a c).2.b b).begun=(a.2.b b).begun
 | 0=>rfl
 | c+1=>by
  unfold qJ;split
  ·rw[qf6];exact Z7 e f a b c
  ·exact Z7 e f a b c
def YS (a:gB)(b:Nat):((zd a).1.b b).begun=(a.b b).begun:=by
 unfold zd;split
 ·rfl
 ·split<;>rfl
def ql8 (a:Int)(b:Option gF):xF a (b.map qH)=xF a b:=by
 cases b with
 | none=>rfl
 | some c=>
  show (((qB (qH c) a).1.length:Nat):Int)=((qB c a).1.length:Int);rw[yK,ak]
def qm8 (a:Int)(b:Option gF):J3 a (b.map qH)=(J3 a b).map qH:=by
 cases b with
 | none=>rfl
 | some c=>
  show some (qB (qH c) a).2=some (qH (qB c a).2);rw[yK]
def VV (b:DR s d)(e:jg D s)(j:D+640<=900000000)(v:hw s.l s.c.behind s.f)(a:Nat):DR (vZ s a) (xS d a)/\(zd s.f).2.1=om d/\(zd s.f).2.2=nK d/\ZC s=d.ks.map (xF d.c.hD)/\(Je s a:Int)=nF (il d) a:=by
 have o:s.ks.length=d.ks.length:=(by have:=congrArg List.length b.ks;simpa using this);obtain⟨f,g,h,k,l⟩:=QE b e j s.ks.length (zzl _);obtain⟨-,w,x⟩:=JE b.f e.st.fr;have m:=jL e j s.ks.length (zzl _);have y:=v.flip.uw e.st.fr.flip (fun i O z=>Ze z s.c.behind);have p:=VK e j y s.ks.length (zzl _);have q:∀ c,c<3->((qJ s.c.hD s.ks ((gM s).l,(gM s).f) s.ks.length).2.b c).begun<s.t+1:=fun c n=>by
  rw[Z7];show ((zX (zd s.f).1 _).b c).begun<_;rw[Z6,YS];have:=b.beg c n;omega
 rw[o] at f g h k l;have A:zD (iI d) d.ks.length=iL d:=rfl;rw[A] at f g h k l;rw[<-o] at f g;have r:(iL d).c.behind=s.c.behind:=(by rw[h,b.c]);have u:=XW (t:=s.t+1) f g m.st.fr (by rw[r];exact p) q;rw[r] at u;have B:=hw.begin p m.st.fr (s.t+1);have C:=u;obtain⟨E,F⟩:=qi3 C (m.st.fr.begin (s.t+1) _) B.nd a;obtain⟨G,H,I,J⟩:=YR (iL d);obtain⟨K,c2,L,M⟩:=Ye (il d) a;refine⟨⟨?_,?_,?_,E,?_,fun c n=>?_⟩,w,x,?_,F⟩
 ·show s.c=(jI (il d) a).c;rw[K];show s.c=(jF (iL d)).c;rw[G,h];exact b.c
 ·show lV s.c.hD s.ks s.ks.length=(jI (il d) a).ks.map (Option.map qH);rw[c2];show _=(jF (iL d)).ks.map (Option.map qH);rw[H,k,Jz,Jz,b.ks,b.c,cB,cB];exact bN fun i _=>qm8 _ i
 ·show (iu s).l.map gD=(jI (il d) a).l.map gD;rw[L];show _=(jF (iL d)).l.map gD;rw[I];exact f
 ·show s.t+1=(jI (il d) a).t;rw[M];show _=(jF (iL d)).t;rw[J,l,b.t]
 ·show ((je (iu s).f a).b c).begun<=s.t+1;have N:((je (iu s).f a).b c).begun=((iu s).f.b c).begun:=by
   unfold je;split
   ·rfl
   ·unfold zzp;simp only;split<;>rfl
  rw[N];have P:=q c n;show ((zR (qJ s.c.hD s.ks ((gM s).l,(gM s).f) s.ks.length).2 (s.t+1) (jP (nn s).l s.c.behind)).b c).begun<=_;unfold zR;split
  ·omega
  ·simp only;split
   ·simp
   ·omega
 ·unfold ZC;rw[b.ks,b.c,cB];exact bN fun i _=>ql8 _ i
end
def xa (a:Dc)(b:Int):Nat->Dc
 | 0=>a
 | c+1=>match a.l[c]? with
  | some d=>if d.cl=b then zw (xa a b c) d else xa a b c
  | none=>xa a b c
def Qr (a:List gv)(c:Int)(b:Nat):List gv:=(a.take b).filter (fun d=>!(d.cl == c))++a.drop b
def jV (a:Dc)(b:Int)(c:Nat):Dc:={xa a b c with l:=Qr a.l b c}
def yj (a:Dc)(b:Nat):Dc:={jV {a with ks:=a.ks.set b none} b a.l.length with marks:=zT b (jV {a with ks:=a.ks.set b none} b a.l.length).marks,wait:=zT b (jV {a with ks:=a.ks.set b none} b a.l.length).wait}
def Zu (a:Dc)(c:Int):∀ b,(xa a c b).c=a.c/\(xa a c b).ks=a.ks/\(xa a c b).t=a.t/\(xa a c b).l=a.l/\(xa a c b).marks=a.marks/\(xa a c b).wait=a.wait
 | 0=>⟨rfl,rfl,rfl,rfl,rfl,rfl⟩
 | b+1=>by
  have d:=Zu a c b;unfold xa;split
  ·split
   ·exact d
   ·exact d
  ·exact d
def JK (d:Int):∀ (b c:List gv),b.map gD=c.map gD->(b.filter fun e=>!(e.cl == d)).map gD=(c.filter fun e=>!(e.cl == d)).map gD
 | [],[],_=>rfl
 | [],g::c,a=>by simp at a
 | h::b,[],a=>by simp at a
 | h::b,g::c,a=>by
  simp only[aY,bE] at a;obtain⟨i,-⟩:=kg a.1;have f:=JK d b c a.2;rw[eK,eK,i];split
  ·rw[aY,aY,a.1,f]
  ·exact f
def FR.forget (b:FR a d')(c:Int):FR (ji a c) {d' with marks:=zT c d'.marks,wait:=zT c d'.wait}:=by
 refine⟨b.W,b.H,b.st,b.front,b.due,?_,?_,fun d g=>?_,fun g=>?_,b.ord,b.top,b.shown⟩
 ·show zT c d'.wait=zT c a.marks;rw[b.wait]
 ·show d'.tQ=(a.frame.map _).isSome;rw[b.tQ];cases a.frame<;>rfl
 ·have e:a.frame.map (fun d=>({d with marks:=zT c d.marks}:pt))=some d:=g;cases f:a.frame with
  | none=>rw[f] at e;simp at e
  | some h=>
   rw[f] at e;simp only[bO,ac] at e;subst e;obtain⟨i,j,k,l,m⟩:=b.uV h f;exact⟨i,j,by show zT c d'.marks=zT c h.marks;rw[k],l,m⟩
 ·have e:a.frame.map (fun d=>({d with marks:=zT c d.marks}:pt))=none:=g;have f:a.frame=none:=(by simpa using e);show zT c d'.marks=[];rw[b.wx f];rfl
def XH {i:gB}{d:Dc}{s:Nat}{f:List gv}(b:Int)(k:f.map gD=d.l.map gD)(l:FR i d)(m:hN s i):∀ a,a<=f.length->FR (zX i (((f.take a).filter fun c=>c.cl == b).flatMap jf)) (xa d b a)
 | 0,_=>l
 | a+1,x=>by
  have n:=XH b k l m a (by omega);obtain⟨g,o⟩:∃ g,f[a]?=some g:=⟨f[a],by simp⟩;obtain⟨e,t,p⟩:∃ e,d.l[a]?=some e/\gD g=gD e:=by
   have:=congrArg (fun u=>u[a]?) k;simp only[aF,o,bO] at this;cases q:d.l[a]? with
   | none=>rw[q] at this;simp at this
   | some e=>
    rw[q] at this;simp only[bO,ac] at this;exact⟨e,rfl,this⟩
  obtain⟨r,-⟩:=kg p;have v:f.take (a+1)=f.take a++[g]:=(by rw[am,o];rfl);have w:xa d b (a+1)=if e.cl=b then zw (xa d b a) e else xa d b a:=(by show (match d.l[a]? with | some c=>if c.cl=b then zw (xa d b a) c else xa d b a | none=>xa d b a)=_;rw[t]);rw[v,w,ce,List.flatMap_append,XS];by_cases h:e.cl=b
  ·have j:[g].filter (fun c=>c.cl == b)=[g]:=(by simp[r,h]);rw[an h,j];simp only[eG,List.flatMap_nil,aW];refine n.uw (m.uw (yF _ _)) _ _ fun c y=>?_;unfold jf;rw[vD,jD,YN,yv p];simp
  ·have j:[g].filter (fun c=>c.cl == b)=[]:=(by simp[r,h]);rw[ah h,j];exact n
def qv3 {b:qY}(c:DR b d')(g:jg n b)(a:Nat):DR (yi b a) (yj d' a):=by
 have d:d'.l.length=b.l.length:=(by have:=congrArg List.length c.l;simpa using this.symm);have e:=XH (d:={d' with ks:=d'.ks.set a none}) (a:Int) c.l (c.f.kss _) g.st.fr b.l.length (zzl _);rw[aP] at e;obtain⟨h,k2,i,l,m,o⟩:=Zu {d' with ks:=d'.ks.set a none} (a:Int) b.l.length;refine⟨?_,?_,?_,?_,?_,fun f j=>?_⟩
 ·show b.c=(xa {d' with ks:=d'.ks.set a none} (a:Int) d'.l.length).c;rw[d,h];exact c.c
 ·show b.ks.set a none=(xa {d' with ks:=d'.ks.set a none} (a:Int) d'.l.length).ks.map (Option.map qH);rw[d,k2,dh,<-c.ks];rfl
 ·show (b.l.filter fun k=>!(k.cl == (a:Int))).map gD=(Qr d'.l (a:Int) d'.l.length).map gD;unfold Qr;rw[aP,eL,aW];exact JK _ _ _ c.l
 ·unfold yj;rw[d];exact (e.ls (Qr d'.l (a:Int) b.l.length)).forget (a:Int)
 ·show b.t=(xa {d' with ks:=d'.ks.set a none} (a:Int) d'.l.length).t;rw[d,i];exact c.t
 ·show ((zX b.f _).b f).begun<=b.t;rw[Z6];exact c.beg f j
def XM {c d:Type}(b:c->d):∀ a:List (Option c),qC (a.map (Option.map b))=qC a
 | []=>rfl
 | none::a=>rfl
 | some e::a=>by
  show (qC (a.map (Option.map b))).map (· + 1)=(qC a).map (· + 1);rw[XM b a]
def qw1 {b:qY}(a:DR b d')(c:Nat):DR {b with ks:=b.ks.set c (some (yS b.c))} {d' with ks:=d'.ks.set c (some (yS d'.c))}:=by
 refine⟨a.c,?_,a.l,a.f.kss _,a.t,a.beg⟩;show b.ks.set c (some (yS b.c))=(d'.ks.set c (some (yS d'.c))).map (Option.map qH);rw[dh,<-a.ks,a.c];rfl
def sg {a:qY}(b:DR a d'):qC a.ks=qC d'.ks:=by rw[b.ks];exact XM _ _
def Ji (a:gF)(b:List gt):gF:={a with q:=a.q++[b],own:=(qR a.own b).getD a.own}
def Ka (a:gF)(b:List gt):qH (Ji a b)=X5 (qH a) b:=by
 unfold qH Ji X5;simp only[aE,aY,dr]
def JV (a:hg)(b:gF)(c:List gt):qL a (qH b) c=qL a b c:=by
 unfold qL qH;simp only[ak]
def qc9 {b:qY}(a:DR b d')(d:d'.ks[n]?=some (some e))(c:List gt):b.ks[n]?=some (some (qH e))/\DR {b with ks:=b.ks.set n (some (X5 (qH e) c))} {d' with ks:=d'.ks.set n (some (Ji e c))}:=by
 refine⟨by rw[a.ks,aF,d];rfl,a.c,?_,a.l,a.f.kss _,a.t,a.beg⟩;show b.ks.set n _=(d'.ks.set n (some (Ji e c))).map (Option.map qH);rw[dh,<-a.ks,<-Ka];rfl
def Vj (a:hg):Dc:={c:=a,ks:=List.replicate a.oA.toNat none,l:=[],p:=fun _=>List.replicate (a.w.toNat*a.h.toNat) a.behind,st:=fun _=>List.replicate (a.w.toNat*a.h.toNat) false,fn:=fun _=>0,front:=0,tQ:=false,tU:=0,left:=0,fp:=[],marks:=[],wait:=[],tH:=0,ch:=false,t:=0}
def zb0 (c:hg):DR (xZ c) (Vj c):=by
 refine⟨rfl,?_,rfl,⟨rfl,rfl,fun a b=>rfl,rfl,rfl,rfl,rfl,fun e d=>(by cases d),fun _=>rfl,fun a f b g=>?_,fun a b=>co _,rfl⟩,rfl,fun a b=>co _⟩
 ·show List.replicate _ none=(List.replicate _ none).map _;rw[fP];rfl
 ·show (0:Int)<0↔(0:Int)<0;exact eM
variable{b0:List (gv×Value)}{U:Nat→Prop}{w:World}{v:Value}
def oB (a:gv)(b:Value):Value:=.agg #[.int .i64 a.cl,.int .i64 a.num,.int .i64 a.x,.int .i64 a.y,.int .i64 a.w,.int .i64 a.h,b,.int .i64 a.dx,.int .i64 a.dy,.int .i64 a.left]
def zc0 (B:Nat->Prop)(a:gv)(C:xq a)(n:Option Addr)(o:Nat)(c b:Int)(p:0<=c/\c<=1000)(q:0<=b/\b<=1000)(e:World)(r:gS B e (.slice n a.px.length o) a.px):Calls Tryz.prog 108 #[oB a (.slice n a.px.length o),.int .i64 c,.int .i64 b] e fun i D=>i=.returned (.int .i64 (zC a c b))/\Below e.heap.size e D:=by
 obtain⟨J,E,h0,h8,s,t,u⟩:=C;have K:IntKind.i64.wrap (c-a.x)=c-a.x:=(by rw[af];omega);have L:IntKind.i64.wrap (b-a.y)=b-a.y:=(by rw[af];omega);unfold oB;by_cases f:xE a c b=true
 ·have j:=f;unfold xE at j;simp only[aK,be] at j;obtain⟨⟨⟨v,w⟩,x⟩,y⟩:=j;obtain⟨m1,m2,m3,m4⟩:=sS w y v x h8 E;obtain⟨d,z⟩:∃ d:Nat,(b-a.y)*a.w+(c-a.x)=d:=⟨((b-a.y)*a.w+(c-a.x)).toNat,by omega⟩;have M:IntKind.i64.wrap ((b-a.y)*a.w)=(b-a.y)*a.w:=(by rw[af];omega);have N:IntKind.i64.wrap ((b-a.y)*a.w+(c-a.x))=(d:Int):=(by rw[af];omega);have k:d<a.px.length:=(by omega);obtain⟨h,l⟩:∃ h,a.px[d]?=some h:=⟨a.px[d],by simp[k]⟩;have g:zC a c b=h:=(by unfold zC;rw[an f,z,bF,bW,l];rfl);rw[g];obtain⟨O,P,A,_,_,h3⟩:=r;simp only[ai,cj] at A;obtain⟨rfl,rfl⟩:=A;obtain⟨Q,R,rfl,_,S,qF⟩:=h3 (by intro i;rw[i] at k;simp at k);have T:=qF d h l;have U:(0:Int)<=(d:Int):=(by omega);have V:(d:Int)<(a.px.length:Int):=(by omega);have F:¬c-a.x<0:=(by omega);have G:¬b-a.y<0:=(by omega);have H:¬a.w<=c-a.x:=(by omega);have I:¬a.h<=b-a.y:=(by omega);clear h3 qF l g f z m1 m2 m3 m4 s t u v w x y p q;go_enter Tryz.func108,Tryz.ntmps108;go_wp2;go_ret;exact⟨rfl,(aa _ e).alloc (zzl _) _⟩
 ·have g:zC a c b=0:=(by unfold zC;rw[ah f]);rw[g];have m:c-a.x<0\/b-a.y<0\/a.w<=c-a.x\/a.h<=b-a.y:=(by unfold xE at f;simp only[aK,be] at f;omega);clear g f s t u p q r;by_cases F:c-a.x<0
  ·clear m;go_enter Tryz.func108,Tryz.ntmps108;go_wp2;go_ret;exact⟨rfl,(aa _ e).alloc (zzl _) _⟩
  ·by_cases G:b-a.y<0
   ·clear m;go_enter Tryz.func108,Tryz.ntmps108;go_wp2;go_ret;exact⟨rfl,(aa _ e).alloc (zzl _) _⟩
   ·by_cases H:a.w<=c-a.x
    rotate_left
    focus
     have I:a.h<=b-a.y:=by omega
    rotate_left
    all_goals
     clear m;go_enter Tryz.func108,Tryz.ntmps108;go_wp2;go_ret;exact⟨rfl,(aa _ e).alloc (zzl _) _⟩
def zA (a:gv×Value):List Value:=[.int .i64 a.1.cl,.int .i64 a.1.num,.int .i64 a.1.x,.int .i64 a.1.y,.int .i64 a.1.w,.int .i64 a.1.h,a.2,.int .i64 a.1.dx,.int .i64 a.1.dy,.int .i64 a.1.left]
def qQ (a:List (gv×Value)):List Value:=a.flatMap zA
def v7 (a:List (gv×Value)):(qQ a).length=a.length*10:=by
 induction a with
 | nil=>rfl
 | cons b a c=>show (zA b++qQ a).length=_;rw[ae,c];simp[zA];omega
def zY:∀ (b:List (gv×Value))(c:Nat)(g:gv×Value),b[c]?=some g->∀ a,a<10->(qQ b)[c*10+a]?=(zA g)[a]?
 | [],c,e,d=>by simp at d
 | f::b,0,e,d=>by
  intro a h;simp at d;subst d;show (zA f++qQ b)[0*10+a]?=_;rw[aM (by simp[zA];omega)];congr 1;omega
 | f::b,c+1,e,d=>by
  intro a h;have i:=zY b c e (by simpa using d) a h;show (zA f++qQ b)[(c+1)*10+a]?=_;rw[aq (by simp[zA];omega),<-i];congr 1
  simp[zA];omega
structure xv (U:Nat->Prop)(w:World)(base:Nat)(v:Value)(l:List (gv×Value)):Prop where
 own:w.ownsRow base 128 10 v l.length (qQ l)
 px:∀ p∈l,∃ po pc,p.2=.slice po p.1.px.length pc/\gS U w (.slice po p.1.px.length pc) p.1.px
 ok:∀ p∈l,xq p.1
def JI (b:List (gv×Value))(c d:Int):Option Nat:=b.findIdx? (fun a=>decide (a.1.cl=c)&&decide (a.1.num=d))
def JG (b:List (gv×Value))(c d:Int)(e:Nat)(a:gv×Value)(g:∀ (i:Nat)(a:gv×Value),i<e->b[i]?=some a->(decide (a.1.cl=c)&&decide (a.1.num=d))=false)(h:b[e]?=some a)(j:(decide (a.1.cl=c)&&decide (a.1.num=d))=true):JI b c d=some e:=by
 unfold JI;rw[List.findIdx?_eq_some_iff_getElem];obtain⟨k,l⟩:=zzg h;refine⟨k,by rw[l];exact j,fun f m=>?_⟩;have:=g f (b[f]'(by omega)) m (by simp);simp only[this];decide
def qa2 (b:List (gv×Value))(c d:Int)(e:∀ (a:Nat)(p:gv×Value),b[a]?=some p->(decide (p.1.cl=c)&&decide (p.1.num=d))=false):JI b c d=none:=by
 unfold JI;rw[List.findIdx?_eq_none_iff];intro f g;obtain⟨a,h⟩:=fB.1 g;exact e a f h
def JH {a:gv×Value}(e:∀ (b:Nat)(a:gv×Value),b<n->b0[b]?=some a->(decide (a.1.cl=q)&&decide (a.1.num=B'))=false)(f:b0[n]?=some a)(g:(decide (a.1.cl=q)&&decide (a.1.num=B'))=false):∀ (b:Nat)(a:gv×Value),b<n+1->b0[b]?=some a->(decide (a.1.cl=q)&&decide (a.1.num=B'))=false:=fun b h j c=>by
 rcases cz b n with d | d
 ·exact e b h d c
 ·have i:b=n:=(by omega);subst i;rw[f] at c;cases c
  exact g
def qu3 (q:xv U w n v b0)(h9:w.cell? ⟨i,9,none⟩=some v)(H:b0.length<=1000)(c d:Int):Calls Tryz.prog 140 #[.pointer (some ⟨i,0,none⟩),.int .i64 c,.int .i64 d] w fun l z=>(∃ b:Int,l=.returned (.int .i64 b)/\((JI b0 c d=none/\b=-1)\/∃ t:Nat,JI b0 c d=some t/\b=t))/\Below w.heap.size w z:=by
 obtain⟨A,I,rfl⟩:=qr q.own;have B:=aJ w _ h9;have C:=qg q;clear q;go_enter Tryz.func140,Tryz.ntmps140;go_wp2;go_loopw [7] (fun e wr=>∃ b:Nat,b<=b0.length/\e=.int .i64 b/\Below w.heap.size w wr/\∀ (e:Nat)(a:gv×Value),e<b->b0[e]?=some a->(decide (a.1.cl=c)&&decide (a.1.num=d))=false) (fun e _=>b0.length-(intOf e).toNat)
 case atStart=>exact⟨0,aj _,rfl,aa _ _,fun e a J=>by omega⟩
 case round=>
  rename World=>u;obtain⟨b,K,rfl,h,x⟩:=hrel;have L:=(h.cell (p:=⟨i,9,none⟩) B).trans h9;have o:=qg x;clear x;by_cases D:b<b0.length
  ·obtain⟨a,g⟩:∃ a,b0[b]?=some a:=⟨b0[b],by simp[D]⟩;have p:=qi (S:=fun _=>False) (qb C).own (.aD h) (fun _ _ c=>c);obtain⟨j,rfl⟩:∃ j,A=some ⟨j,0,none⟩:=by
    rcases p.2 with ⟨l,M⟩ | ⟨j,N,O,l,_⟩
    ·omega
    ·simp only[ai] at l;exact⟨j,l.1⟩
   have P:u.cell? ⟨j,b*10,none⟩=some (.int .i64 a.1.cl):=(by have:=zY b0 b a g 0 (by omega);rw[bL] at this;rw[aU p _ (by omega),this];rfl);have Q:u.cell? ⟨j,b*10+1,none⟩=some (.int .i64 a.1.num):=(by rw[aU p _ (by omega),zY b0 b a g 1 (by omega)];rfl);have R:(0:Int)<=(b:Int):=(by omega);have T:(b:Int)<(b0.length:Int):=(by omega);have r:=qg g;have m:=qg h;clear p g h;by_cases f:a.1.cl=c
   ·by_cases k:a.1.num=d
    ·have y:(a.1.cl == c)=true:=(by simp[f]);have E:(a.1.num == d)=true:=(by simp[k]);have F:=qg (JG b0 c d b a (qb o) (qb r) (by simp[f,k]));clear f k;go_wp2;go_ret;exact⟨⟨b,rfl,.inr ⟨b,qb F,rfl⟩⟩,qb m⟩
    ·have y:(a.1.cl == c)=true:=(by simp[f]);have E:(a.1.num == d)=false:=(by simpa using k);have s:Hid ((decide (a.1.cl=c)&&decide (a.1.num=d))=false):=(by show _=_;simp[k]);clear f k;go_wp2;go_roundw
     case rel=>exact⟨b+1,by omega,by go_num,qb m,JH (qb o) (qb r) (qb s)⟩
     case measure=>simp[intOf];omega
   ·have y:(a.1.cl == c)=false:=(by simpa using f);have s:Hid ((decide (a.1.cl=c)&&decide (a.1.num=d))=false):=(by show _=_;simp[f]);clear f;go_wp2;go_roundw
    case rel=>exact⟨b+1,by omega,by go_num,qb m,JH (qb o) (qb r) (qb s)⟩
    case measure=>simp[intOf];omega
  ·have m:=qg h;have V:b=b0.length:=(by omega);have G:=qg (qa2 b0 c d (fun e a g=>(qb o) e a (by have:=(zzg g).1;omega) g));clear h;go_wp2;go_ret;exact⟨⟨-1,rfl,.inl ⟨qb G,rfl⟩⟩,qb m⟩
variable{w2:World}{f:Array Value}{b g ob t:Nat}{C K:List Bool}{ch:Bool}
def vO (b:gv)(c d:Nat)(a:List Bool):(qV b c d a).length=a.length:=by simp[qV]
def yp (b:gv)(c:Nat)(a:List Bool):qV b c 0 a=a:=by
 apply bh;intro d;simp[qV]
def zN (c:VC u n i=false):qV u n (i+1) x=qV u n i x:=by
 apply bh;intro a;simp only[qV,fF];cases x[a]? with
 | none=>rfl
 | some e=>
  simp only[bO,ac];by_cases d:a=i
  ·subst d;simp[c]
  ·have:decide (a<i+1)=decide (a<i):=by
    by_cases b:a<i
    ·simp[b];omega
    ·simp[b];omega
   rw[this]
def yX (e:VC u n i=true):qV u n (i+1) x=(qV u n i x).set i true:=by
 apply bh;intro a;by_cases b:a=i
 ·subst b;by_cases c:a<x.length
  ·rw[ar (by rw[vO];exact c)];simp[qV,c,e]
  ·rw[aI (by rw[vO];omega),aI (by rw[aG,vO];omega)]
 ·rw[bc (cu b)];simp only[qV,fF];cases x[a]? with
  | none=>rfl
  | some f=>
   simp only[bO,ac];have:decide (a<i+1)=decide (a<i):=by
    by_cases d:a<i
    ·simp[d];omega
    ·simp[d];omega
   rw[this]
def vG (a:gv)(b c:Nat):Q7 a b (c+1)=(Q7 a b c||VC a b c):=by
 simp[Q7,fA,ev]
structure lM (w:World)(base sp:Nat)(cs:Array Value)(W H g0 g1 g2:Nat)(s0 s1 s2:List Bool)(ch:Bool):Prop where
 nS:w.heap[sp]?=some (.cells cs 121)
 size:cs.size=29
 cw:cs[0]?=some (.int .i64 W)
 chh:cs[1]?=some (.int .i64 H)
 v0:cs[11]?=some (.slice (some ⟨g0,0,none⟩) (W*H) (W*H))
 v1:cs[14]?=some (.slice (some ⟨g1,0,none⟩) (W*H) (W*H))
 v2:cs[17]?=some (.slice (some ⟨g2,0,none⟩) (W*H) (W*H))
 cc:cs[27]?=some (.bool ch)
 o0:ze w base (.slice (some ⟨g0,0,none⟩) (W*H) (W*H)) s0
 o1:ze w base (.slice (some ⟨g1,0,none⟩) (W*H) (W*H)) s1
 o2:ze w base (.slice (some ⟨g2,0,none⟩) (W*H) (W*H)) s2
 l0:s0.length=W*H
 l1:s1.length=W*H
 l2:s2.length=W*H
 wG:g0≠g1
 wF:g0≠g2
 n12:g1≠g2
def Z8 (b c:Array Value):Prop:=∀ a,a≠27->c[a]?=b[a]?
def lM.below (a:lM w n i f j g b t ob x C K ch)(c:Below w.heap.size w w2):lM w2 n i f j g b t ob x C K ch:=
 ⟨(c.block _ (qh a.nS)).trans a.nS,a.size,a.cw,a.chh,a.v0,a.v1,a.v2,a.cc,zm a.o0 c,zm a.o1 c,zm a.o2 c,a.l0,a.l1,a.l2,a.wG,a.wF,a.n12⟩
variable{c:Nat}{c0:Array Value}
def lM.gs (a:lM w n i f j g b t ob x C K ch):i≠b/\i≠t/\i≠ob:=
 ⟨fun c=>qq a.o0 a.nS (by decide) (by rw[c];rfl),fun c=>qq a.o1 a.nS (by decide) (by rw[c];rfl),fun c=>qq a.o2 a.nS (by decide) (by rw[c];rfl)⟩
def lM.put0 (a:lM w n i f j g b t ob x C K ch)(c:Nat)(d:Bool):lM (w.setCell ⟨b,c,none⟩ (.bool d)) n i f j g b t ob (x.set c d) C K ch:=
 ⟨qu a.nS a.gs.1 _,a.size,a.cw,a.chh,a.v0,a.v1,a.v2,a.cc,kc a.o0 a.l0.symm c d,aw a.o1 (by simp[Value.ownBlock];exact a.wG.symm) _,aw a.o2 (by simp[Value.ownBlock];exact a.wF.symm) _,by rw[aG];exact a.l0,a.l1,a.l2,a.wG,a.wF,a.n12⟩
def lM.put1 (a:lM w n i f j g b t ob x C K ch)(c:Nat)(d:Bool):lM (w.setCell ⟨t,c,none⟩ (.bool d)) n i f j g b t ob x (C.set c d) K ch:=
 ⟨qu a.nS a.gs.2.1 _,a.size,a.cw,a.chh,a.v0,a.v1,a.v2,a.cc,aw a.o0 (by simp[Value.ownBlock];exact a.wG) _,kc a.o1 a.l1.symm c d,aw a.o2 (by simp[Value.ownBlock];exact a.n12.symm) _,a.l0,by rw[aG];exact a.l1,a.l2,a.wG,a.wF,a.n12⟩
def lM.put2 (a:lM w n i f j g b t ob x C K ch)(c:Nat)(d:Bool):lM (w.setCell ⟨ob,c,none⟩ (.bool d)) n i f j g b t ob x C (K.set c d) ch:=
 ⟨qu a.nS a.gs.2.2 _,a.size,a.cw,a.chh,a.v0,a.v1,a.v2,a.cc,aw a.o0 (by simp[Value.ownBlock];exact a.wF) _,aw a.o1 (by simp[Value.ownBlock];exact a.n12) _,kc a.o2 a.l2.symm c d,a.l0,a.l1,by rw[aG];exact a.l2,a.wG,a.wF,a.n12⟩
def lM.wL (a:lM w n i f j g b t ob x C K ch)(d:Bool):lM (w.setCell ⟨i,27,none⟩ (.bool d)) n i (f.setIfInBounds 27 (.bool d)) j g b t ob x C K d/\Z8 f (f.setIfInBounds 27 (.bool d)):=by
 have c:∀ e,e≠27->(f.setIfInBounds 27 (.bool d))[e]?=f[e]?:=fun e h=>by rw[Array.getElem?_setIfInBounds_ne (cu h)]
 refine⟨⟨qp (i:=27) a.nS _,by simp[a.size],(c 0 (by decide)).trans a.cw,(c 1 (by decide)).trans a.chh,(c 11 (by decide)).trans a.v0,(c 14 (by decide)).trans a.v1,(c 17 (by decide)).trans a.v2,?_,aw a.o0 (by simp[Value.ownBlock];exact a.gs.1.symm) _,aw a.o1 (by simp[Value.ownBlock];exact a.gs.2.1.symm) _,aw a.o2 (by simp[Value.ownBlock];exact a.gs.2.2.symm) _,a.l0,a.l1,a.l2,a.wG,a.wF,a.n12⟩,c⟩;rw[Array.getElem?_setIfInBounds_self_of_lt (by rw[a.size];decide)]
structure vJ (w wr:World)(base sp:Nat)(cs:Array Value)(W H g0 g1 g2:Nat)(s0 s1 s2:List Bool)(ch:Bool)(xs:Array Value):Prop where
 st:∃ cs',lM wr base sp cs' W H g0 g1 g2 s0 s1 s2 ch/\Z8 cs cs'
 but:gp (fun k=>k=sp\/k=g0\/k=g1\/k=g2) w wr
 box:wr.heap[w.heap.size]?=some (.cells xs 128)
def vJ.upd (e:vJ w w2 n j f g b t ob c x C K ch c0){a:Nat}{u:Value}(h:a=j\/a=t\/a=ob\/a=c)(k:a<w.heap.size):gp (fun d=>d=j\/d=t\/d=ob\/d=c) w (w2.setCell ⟨a,i,none⟩ u)/\(w2.setCell ⟨a,i,none⟩ u).heap[w.heap.size]?=some (.cells c0 128):=
 ⟨e.but.setCell (p:=⟨a,i,none⟩) (.inl h) _,qu e.box (by simp;omega) _⟩
def vJ.drewN {b c:World}{d e:Nat}{f:Array Value}{g h i j k:Nat}{l m n:List Bool}{o:Bool}{p:Array Value}(a:vJ b c d e f g h i j k l m n o p)(q:Nat):vJ b (c.drewN q) d e f g h i j k l m n o p:=by
 obtain⟨r,s,t⟩:=a.st;exact⟨⟨r,s.below (ax (aa _ _) _),t⟩,a.but.drewN _,a.box⟩
def vJ.wL {b d:World}{e a:Nat}{f:Array Value}{g h i j k:Nat}{l m n:List Bool}{v:Bool}{o:Array Value}(p:vJ b d e a f g h i j k l m n v o)(c:Nat)(w:a<b.heap.size):vJ b ((d.drewN c).setCell ⟨a,27,none⟩ (.bool true)) e a f g h i j k l m n true o:=by
 obtain⟨z,x,y⟩:=(p.drewN c).st;have q:=x.wL true;have r:=(p.drewN c).upd (i:=27) (u:=.bool true) (.inl rfl) w;exact⟨⟨_,q.1,fun s t=>(q.2 s t).trans (y s t)⟩,r.1,r.2⟩
def vJ.at0 (d:vJ w w2 n j f g b t ob c x C K ch c0)(a:Nat)(h:t<w.heap.size):vJ w (w2.setCell ⟨t,a,none⟩ (.bool true)) n j f g b t ob c (x.set a true) C K ch c0:=by
 obtain⟨k,l,m⟩:=d.st;have e:=d.upd (i:=a) (u:=.bool true) (.inr (.inl rfl)) h;exact⟨⟨k,l.put0 a true,m⟩,e.1,e.2⟩
def vJ.at1 (d:vJ w w2 n j f g b t ob c x C K ch c0)(a:Nat)(h:ob<w.heap.size):vJ w (w2.setCell ⟨ob,a,none⟩ (.bool true)) n j f g b t ob c x (C.set a true) K ch c0:=by
 obtain⟨k,l,m⟩:=d.st;have e:=d.upd (i:=a) (u:=.bool true) (.inr (.inr (.inl rfl))) h;exact⟨⟨k,l.put1 a true,m⟩,e.1,e.2⟩
def vJ.at2 (d:vJ w w2 n j f g b t ob c x C K ch c0)(a:Nat)(h:c<w.heap.size):vJ w (w2.setCell ⟨c,a,none⟩ (.bool true)) n j f g b t ob c x C (K.set a true) ch c0:=by
 obtain⟨k,l,m⟩:=d.st;have e:=d.upd (i:=a) (u:=.bool true) (.inr (.inr (.inr rfl))) h;exact⟨⟨k,l.put2 a true,m⟩,e.1,e.2⟩
def qa9 (p:lM w n i f j g b t ob x C K ch)(V:1<=j/\j<=16)(W:1<=g/\g<=16)(a:gv)(X:xq a)(u:Option Addr)(v y:Nat):Calls Tryz.prog 45 #[.pointer (some ⟨i,0,none⟩),oB a (.slice u v y)] w fun Y Z=>Y=.returned (.tuple #[])/\vJ w Z n i f j g b t ob (qV a j (j*g) x) (qV a j (j*g) C) (qV a j (j*g) K) (ch||Q7 a j (j*g)) #[.int .i64 a.cl,.int .i64 a.num,.int .i64 a.x,.int .i64 a.y,.int .i64 a.w,.int .i64 a.h,.slice u v y,.int .i64 a.dx,.int .i64 a.dy,.int .i64 a.left]:=by
 have c6:j*g<=256:=(by have:=cK V.2 W.2;omega);obtain⟨h,D⟩:=zx (j*g);have c7:IntKind.i64.wrap ((j:Int)*(g:Int))=(h:Int):=(by rw[D,af];have:((j:Int)*(g:Int))=((j*g:Nat):Int):=(by simp);rw[this];omega);have q:=qg D;have c8:h<=256:=(by omega);rw[<-D];clear D;have a0:=qh p.nS;have a1:=(ab p.o0 b rfl).2;have a2:=(ab p.o1 t rfl).2;have a3:=(ab p.o2 ob rfl).2;have M:lM (w.alloc (.cells #[.int .i64 a.cl,.int .i64 a.num,.int .i64 a.x,.int .i64 a.y,.int .i64 a.w,.int .i64 a.h,.slice u v y,.int .i64 a.dx,.int .i64 a.dy,.int .i64 a.left] 128)) n i f j g b t ob x C K ch:=p.below ((aa _ w).alloc (zzl _) _);have N:=qg M;obtain⟨_,_,_,_,_,a4,a5⟩:=X;unfold oB;clear p M;go_enter Tryz.func45,Tryz.ntmps45;go_wp2;go_loopw [4] (fun G wr=>∃ c:Nat,c<=h/\G=.int .i64 c/\vJ w wr n i f j g b t ob (qV a j c x) (qV a j c C) (qV a j c K) (ch||Q7 a j c) #[.int .i64 a.cl,.int .i64 a.num,.int .i64 a.x,.int .i64 a.y,.int .i64 a.w,.int .i64 a.h,.slice u v y,.int .i64 a.dx,.int .i64 a.dy,.int .i64 a.left]) (fun G _=>h-(intOf G).toNat)
 case atStart=>
  refine⟨0,aj _,rfl,⟨f,?_,fun _ _=>rfl⟩,.aD ((aa _ w).alloc (zzl _) _),qt _ _ _ rfl⟩;rw[yp,yp,yp];simpa[Q7] using qb N
 case round=>
  rename World=>H;obtain⟨c,c9,rfl,E⟩:=hrel;clear N;obtain⟨d0,r,O⟩:=E.st;have a6:H.cell? ⟨i,0,none⟩=some (.int .i64 (j:Int)):=(by rw[qe r.nS];exact r.cw);have a7:H.cell? ⟨i,1,none⟩=some (.int .i64 (g:Int)):=(by rw[qe r.nS];exact r.chh);obtain⟨-,-,a8,a9,b0,b1,-⟩:=zzc E.box;have z:=qg E;have I:=qg r;have d1:=qg O;clear E r O;by_cases d2:c<h
  ·have b2:(c:Int)<(h:Int):=(by omega);have b3:¬(j:Int)=0:=(by omega);have b4:(0:Int)<=(c:Int)%(j:Int)/\(c:Int)%(j:Int)<16:=⟨Int.emod_nonneg _ b3,by have:=Int.emod_lt_of_pos (c:Int) (show (0:Int)<(j:Int) by omega);omega⟩;have b5:(0:Int)<=(c:Int)/(j:Int)/\(c:Int)/(j:Int)<=256:=⟨gm (by omega) (by omega),by have:=Int.ediv_le_self (j:Int) (show (0:Int)<=(c:Int) by omega);omega⟩;have d3:IntKind.i64.wrap ((c:Int)%(j:Int)-a.x)=(c:Int)%(j:Int)-a.x:=(by rw[af];omega);have d4:IntKind.i64.wrap ((c:Int)/(j:Int))=(c:Int)/(j:Int):=(by rw[af];omega);have d5:IntKind.i64.wrap ((c:Int)/(j:Int)-a.y)=(c:Int)/(j:Int)-a.y:=(by rw[af];omega);have A:VC a j c=(decide (0<=(c:Int)%(j:Int)-a.x)&&decide (0<=(c:Int)/(j:Int)-a.y)&&decide ((c:Int)%(j:Int)-a.x<a.w)&&decide ((c:Int)/(j:Int)-a.y<a.h)):=(by unfold VC xE;rw[fk,fo]);clear b4 b5 a4 a5;by_cases s:VC a j c=true
   ·rw[s] at A;have P:=A.symm;simp only[aK,be] at P;obtain⟨⟨⟨b6,b7⟩,b8⟩,b9⟩:=P;have e:=qg s;have c0:H.cell? ⟨i,27,none⟩=some (.bool (ch||Q7 a j c)):=(by rw[qe (qb I).nS];exact (qb I).cc);have c1:=qj (qb I).nS;clear A s;go_wp2;go_quiet (fail)
    go_wp2;go_quiet (fail)
    go_wp2;go_quiet (fail)
    go_wp2;have Q:=fun c2=>(qb z).wL c2 a0;have R:=qg Q;clear Q a6 a7 a8 a9 b0 b1 c0 c1;go_loopw [7] (fun J wr=>∃ k:Nat,k<=3/\J=.int .i64 k/\vJ w wr n i f j g b t ob (if 0<k then (qV a j c x).set c true else qV a j c x) (if 1<k then (qV a j c C).set c true else qV a j c C) (if 2<k then (qV a j c K).set c true else qV a j c K) true #[.int .i64 a.cl,.int .i64 a.num,.int .i64 a.x,.int .i64 a.y,.int .i64 a.w,.int .i64 a.h,.slice u v y,.int .i64 a.dx,.int .i64 a.dy,.int .i64 a.left]) (fun J _=>3-(intOf J).toNat)
    case atStart=>exact⟨0,by omega,rfl,by simpa using (qb R) _⟩
    case round=>
     obtain⟨k,d6,rfl,l⟩:=hrel;clear R;obtain⟨d7,d,F⟩:=l.st;have c3:k=0\/k=1\/k=2\/k=3:=(by omega);have d8:(0:Int)<=(c:Int):=(by omega);rcases c3 with rfl | rfl | rfl | rfl
     ·have S:wr.cell? ⟨i,11,none⟩=some (.slice (some ⟨b,0,none⟩) h h):=(by rw[qe d.nS,d.v0,<-qb q]);obtain⟨m,T⟩:∃ m,wr.cell? ⟨b,c,none⟩=some m:=⟨_,xm d.o0 (aB (by rw[d.l0,<-qb q];omega))⟩;have U:=fun B=>by
       have h1:=d.o0;unfold ze at h1;rw[d.l0] at h1;exact bs h1 B
      have o:=qg l;clear l d F;go_wp2;go_roundw
      case rel=>exact⟨0+1,by omega,by go_num,by simpa using (qb o).at0 c a1⟩
      case measure=>simp[intOf]
     ·have S:wr.cell? ⟨i,14,none⟩=some (.slice (some ⟨t,0,none⟩) h h):=(by rw[qe d.nS,d.v1,<-qb q]);obtain⟨m,T⟩:∃ m,wr.cell? ⟨t,c,none⟩=some m:=⟨_,xm d.o1 (aB (by rw[d.l1,<-qb q];omega))⟩;have U:=fun B=>by
       have h1:=d.o1;unfold ze at h1;rw[d.l1] at h1;exact bs h1 B
      have o:=qg l;clear l d F;go_wp2;go_roundw
      case rel=>exact⟨1+1,by omega,by go_num,by simpa using (qb o).at1 c a2⟩
      case measure=>simp[intOf]
     ·have S:wr.cell? ⟨i,17,none⟩=some (.slice (some ⟨ob,0,none⟩) h h):=(by rw[qe d.nS,d.v2,<-qb q]);obtain⟨m,T⟩:∃ m,wr.cell? ⟨ob,c,none⟩=some m:=⟨_,xm d.o2 (aB (by rw[d.l2,<-qb q];omega))⟩;have U:=fun B=>by
       have h1:=d.o2;unfold ze at h1;rw[d.l2] at h1;exact bs h1 B
      have o:=qg l;clear l d F;go_wp2;go_roundw
      case rel=>exact⟨2+1,by omega,by go_num,by simpa using (qb o).at2 c a3⟩
      case measure=>simp[intOf]
     ·have o:=qg l;clear l d F;go_wp2;go_roundw
      case rel=>
       refine⟨c+1,by omega,by go_num,?_⟩;rw[yX (qb e),yX (qb e),yX (qb e),vG,qb e,Bool.or_true,Bool.or_true];simpa using qb o
      case measure=>simp[intOf];omega
   ·have c4:¬((((0<=(c:Int)%(j:Int)-a.x)/\(0<=(c:Int)/(j:Int)-a.y))/\((c:Int)%(j:Int)-a.x<a.w))/\((c:Int)/(j:Int)-a.y<a.h)):=fun c5=>by
     apply s;rw[A];simp only[aK,be];exact c5
    have e:Hid (VC a j c=false):=(by show _=_;simpa using s);clear A s;have L:(c:Int)%(j:Int)-a.x<0\/(c:Int)/(j:Int)-a.y<0\/a.w<=(c:Int)%(j:Int)-a.x\/a.h<=(c:Int)/(j:Int)-a.y:=(by omega);clear c4;by_cases b6:0<=(c:Int)%(j:Int)-a.x
    ·by_cases b7:0<=(c:Int)/(j:Int)-a.y
     ·by_cases b8:(c:Int)%(j:Int)-a.x<a.w
      focus
       have b9:¬(c:Int)/(j:Int)-a.y<a.h:=by omega
      rotate_left
      rotate_left
      all_goals
       clear L;go_wp2;go_quiet (fail)
       go_wp2;go_quiet (fail)
       go_wp2;go_quiet (fail)
       go_wp2;go_roundw
       case rel=>
        refine⟨c+1,by omega,by go_num,?_⟩;rw[zN (qb e),zN (qb e),zN (qb e),vG,qb e,Bool.or_false];exact (qb z).drewN _
       case measure=>simp[intOf];omega
     ·clear L;go_wp2;go_quiet (fail)
      go_wp2;go_quiet (fail)
      go_wp2;go_quiet (fail)
      go_wp2;go_roundw
      case rel=>
       refine⟨c+1,by omega,by go_num,?_⟩;rw[zN (qb e),zN (qb e),zN (qb e),vG,qb e,Bool.or_false];exact (qb z).drewN _
      case measure=>simp[intOf];omega
    ·clear L;go_wp2;go_quiet (fail)
     go_wp2;go_quiet (fail)
     go_wp2;go_quiet (fail)
     go_wp2;go_roundw
     case rel=>
      refine⟨c+1,by omega,by go_num,?_⟩;rw[zN (qb e),zN (qb e),zN (qb e),vG,qb e,Bool.or_false];exact (qb z).drewN _
     case measure=>simp[intOf];omega
  ·obtain rfl:c=h:=(by omega);have b2:¬(c:Int)<(c:Int):=(by omega);go_wp2;go_quiet (fail)
   go_wp2;go_end0;exact⟨rfl,(qb z).drewN _⟩
variable{m:World}{R:List Int}
def ZH (d:List (gv×Value))(e a b:Int):Int:=d.foldl (fun f c=>if zC c.1 a b=0 then f else zC c.1 a b) e
def Ks (c:List (gv×Value))(d:Int)(a b:Nat):Int:=ZH c d ((b%a:Nat):Int) ((b/a:Nat):Int)
def Kt {c:gv×Value}(e:b0[n]?=some c)(d a b:Int):ZH (b0.take (n+1)) d a b=if zC c.1 a b=0 then ZH (b0.take n) d a b else zC c.1 a b:=by
 unfold ZH;rw[am,e,ff];rfl
def tu (b a:Nat)(c:1<=a/\a<=16):(0:Int)<=((b%a:Nat):Int)/\((b%a:Nat):Int)<=1000:=by
 have d:=eJ b (show 0<a by omega);generalize b%a=e at *;omega
def tw (a b:Nat)(c:a<=256):(0:Int)<=((a/b:Nat):Int)/\((a/b:Nat):Int)<=1000:=by
 have d:=Nat.div_le_self a b;generalize a/b=e at *;omega
structure VN (w wr:World)(N:Nat)(cur:List Int):Prop where
 tT:Below w.heap.size w wr
 nS:wr.heap[w.heap.size]?=some (.cells (cur.map (Value.int .i64)).toArray 3)
 len:cur.length=N
def VN.below (a:VN w w2 n R)(b:Below w2.heap.size w2 m):VN w m n R:=
 ⟨a.tT.trans (b.mono a.tT.size),(b.block _ (qh a.nS)).trans a.nS,a.len⟩
def VN.put (b:VN w w2 n R)(a:Nat)(c:Int):VN w (w2.setCell ⟨w.heap.size,a,none⟩ (.int .i64 c)) n (R.set a c):=by
 refine⟨b.tT.setCell (p:=⟨w.heap.size,a,none⟩) (zzl _) _,?_,by rw[aG];exact b.len⟩;have:=qp (i:=a) b.nS (.int .i64 c);rw[dh];simpa using this
def ZG {sp:Nat}(H:xv U w n v b0)(d o:Nat)(r:Int)(h0:w.cell? ⟨sp,0,none⟩=some (.int .i64 (d:Int)))(h1:w.cell? ⟨sp,1,none⟩=some (.int .i64 (o:Int)))(h7:w.cell? ⟨sp,7,none⟩=some (.int .i64 r))(h9:w.cell? ⟨sp,9,none⟩=some v)(e8:b0.length<=1000)(X:1<=d/\d<=16)(b9:1<=o/\o<=16):Calls Tryz.prog 71 #[.pointer (some ⟨sp,0,none⟩)] w fun p g=>p=.returned (.slice (some ⟨w.heap.size,0,none⟩) (d*o) (d*o))/\VN w g (d*o) ((List.range (d*o)).map (Ks b0 r d)):=by
 have c0:d*o<=256:=(by have:=cK X.2 b9.2;omega);obtain⟨k,I⟩:=zx (d*o);have c1:IntKind.i64.wrap ((d:Int)*(o:Int))=(k:Int):=(by rw[I,af];have:((d:Int)*(o:Int))=((d*o:Nat):Int):=(by simp);rw[this];omega);have e9:k<=256:=(by omega);rw[<-I];have c2:=vx k (by omega);have J:sp<w.heap.size:=aJ w _ h9;obtain⟨c3,c4,rfl⟩:=qr H.own;have K:=qg H;have c5:=qg h0;have c6:=qg h7;have c7:=qg h9;clear H I c0;go_enter Tryz.func71,Tryz.ntmps71;go_wp2;go_region;go_wp2;go_loopw [4] (fun f wr=>∃ c:Nat,c<=k/\f=.int .i64 c/\∃ q,VN w wr k q/\∀ f,f<c->q[f]?=some (Ks b0 r d f)) (fun f _=>k-(intOf f).toNat)
 case atStart=>exact⟨0,aj _,rfl,List.replicate k 0,⟨((aa _ w).alloc (zzl _) _).drew,by rw[show ((List.replicate k (0:Int)).map (Value.int .i64)).toArray=Array.replicate k (Value.int .i64 0) by simp];exact qt _ _ _ rfl,by simp⟩,fun f y=>by omega⟩
 case round=>
  rename World=>c8;obtain⟨c,f0,rfl,q,h,u⟩:=hrel;by_cases Y:c<k
  ·have c9:=(h.tT.cell (p:=⟨sp,7,none⟩) J).trans (qb c6);obtain⟨L,Z⟩:∃ L,q[c]?=some L:=⟨q[c]'(by rw[h.len];omega),by simp⟩;have M:c8.cell? ⟨w.heap.size,c,none⟩=some (.int .i64 L):=(by rw[qe h.nS];simp[Z]);have a0:=qj h.nS;have f1:(0:Int)<=(c:Int):=(by omega);have d0:(c:Int)<(k:Int):=(by omega);have s:=qg h;have x:=qg u;clear h u h0 h1 h7 h9 c1 c2 Z;go_wp2;go_loopw [5] (fun f wr=>∃ a:Nat,a<=b0.length/\f=.int .i64 a/\∃ q,VN w wr k q/\(∀ f,f<c->q[f]?=some (Ks b0 r d f))/\q[c]?=some (ZH (b0.take a) r ((c%d:Nat):Int) ((c/d:Nat):Int))) (fun f _=>b0.length-(intOf f).toNat)
   case atStart=>
    refine⟨0,aj _,rfl,q.set c r,(qb s).put c r,fun f y=>?_,?_⟩
    ·rw[bc (by omega)];exact (qb x) f y
    ·rw[ar (by rw[(qb s).len];exact Y)];rfl
   case round=>
    rename World=>i;clear s x c9 M a0;obtain⟨a,f2,rfl,N,h,u,C⟩:=hrel;have O:=(h.tT.cell (p:=⟨sp,9,none⟩) J).trans (qb c7);have a1:=(h.tT.cell (p:=⟨sp,0,none⟩) J).trans (qb c5);by_cases d1:a<b0.length
    ·obtain⟨b,l⟩:∃ b,b0[a]?=some b:=⟨b0[a],by simp[d1]⟩;have P:=zzn l;obtain⟨D,E,a2,a3⟩:=(qb K).px b P;have m:=qi (S:=fun _=>False) (qb K).own (.aD h.tT) (fun _ _ F=>F);obtain⟨e,a4⟩:∃ e,c3=some ⟨e,0,none⟩:=by
      rcases m.2 with ⟨p,f3⟩ | ⟨e,f4,q,p,_⟩
      ·omega
      ·simp only[ai] at p;exact⟨e,p.1⟩
     rw[a4] at m O;have Q:i.cell? ⟨e,a*10,none⟩=some (.int .i64 b.1.cl):=(by have:=zY b0 a b l 0 (by omega);rw[bL] at this;rw[aU m _ (by omega),this];rfl);have a5:i.cell? ⟨e,a*10+1,none⟩=some (.int .i64 b.1.num):=(by rw[aU m _ (by omega),zY b0 a b l 1 (by omega)];rfl);have a6:i.cell? ⟨e,a*10+2,none⟩=some (.int .i64 b.1.x):=(by rw[aU m _ (by omega),zY b0 a b l 2 (by omega)];rfl);have a7:i.cell? ⟨e,a*10+3,none⟩=some (.int .i64 b.1.y):=(by rw[aU m _ (by omega),zY b0 a b l 3 (by omega)];rfl);have a8:i.cell? ⟨e,a*10+4,none⟩=some (.int .i64 b.1.w):=(by rw[aU m _ (by omega),zY b0 a b l 4 (by omega)];rfl);have a9:i.cell? ⟨e,a*10+5,none⟩=some (.int .i64 b.1.h):=(by rw[aU m _ (by omega),zY b0 a b l 5 (by omega)];rfl);have b1:i.cell? ⟨e,a*10+6,none⟩=some (.slice D b.1.px.length E):=(by rw[aU m _ (by omega),zY b0 a b l 6 (by omega)];show some b.2=_;rw[a2]);have b2:i.cell? ⟨e,a*10+7,none⟩=some (.int .i64 b.1.dx):=(by rw[aU m _ (by omega),zY b0 a b l 7 (by omega)];rfl);have b3:i.cell? ⟨e,a*10+8,none⟩=some (.int .i64 b.1.dy):=(by rw[aU m _ (by omega),zY b0 a b l 8 (by omega)];rfl);have b4:i.cell? ⟨e,a*10+9,none⟩=some (.int .i64 b.1.left):=(by rw[aU m _ (by omega),zY b0 a b l 9 (by omega)];rfl);have f5:¬(d:Int)=0:=(by omega);have d2:¬d=0:=(by omega);have f6:((d:Int) == 0)=false:=(by simpa using d2);have f7:IntKind.i64.wrap ((c:Int)/(d:Int))=(c:Int)/(d:Int):=(by have h1:(0:Int)<=(c:Int)/(d:Int):=gm (by omega) (by omega);have h2:=Int.ediv_le_self (d:Int) (show (0:Int)<=(c:Int) by omega);rw[af];omega);have R:Hid (∀ g,Below i.heap.size i g->Calls Tryz.prog 108 #[.agg #[.int .i64 b.1.cl,.int .i64 b.1.num,.int .i64 b.1.x,.int .i64 b.1.y,.int .i64 b.1.w,.int .i64 b.1.h,.slice D b.1.px.length E,.int .i64 b.1.dx,.int .i64 b.1.dy,.int .i64 b.1.left],.int .i64 ((c:Int)%(d:Int)),.int .i64 ((c:Int)/(d:Int))] g fun p d3=>p=.returned (.int .i64 (zC b.1 ((c%d:Nat):Int) ((c/d:Nat):Int)))/\Below g.heap.size g d3):=fun g d4=>by
      have:=zc0 U b.1 ((qb K).ok b P) D E ((c%d:Nat):Int) ((c/d:Nat):Int) (tu c d X) (tw c d (by omega)) g ((a3.below h.tT).below d4);unfold oB at this;rw[fk,fo] at this ⊢;exact this
     obtain⟨A,T⟩:=zx (zC b.1 ((c%d:Nat):Int) ((c/d:Nat):Int));rw[<-T] at R;have V:=Kt l r ((c%d:Nat):Int) ((c/d:Nat):Int);rw[<-T] at V;have b5:=qg V;have f8:=h.tT.size;have s:=qg h;have x:=qg u;have G:=qg C;have t:e<i.heap.size:=aJ i _ Q;have b6:sp<i.heap.size:=(by omega);clear h u C m l a3 a2 T V a4 P;go_wp2_with fail
     go_region_held3 (fun g=>g.cell? ⟨sp,9,none⟩=some (.slice (some ⟨e,0,none⟩) b0.length c4)/\g.cell? ⟨sp,0,none⟩=some (.int .i64 (d:Int))/\g.cell? ⟨e,a*10,none⟩=some (.int .i64 b.1.cl)/\g.cell? ⟨e,a*10+1,none⟩=some (.int .i64 b.1.num)/\g.cell? ⟨e,a*10+2,none⟩=some (.int .i64 b.1.x)/\g.cell? ⟨e,a*10+3,none⟩=some (.int .i64 b.1.y)/\g.cell? ⟨e,a*10+4,none⟩=some (.int .i64 b.1.w)/\g.cell? ⟨e,a*10+5,none⟩=some (.int .i64 b.1.h)/\g.cell? ⟨e,a*10+6,none⟩=some (.slice D b.1.px.length E)/\g.cell? ⟨e,a*10+7,none⟩=some (.int .i64 b.1.dx)/\g.cell? ⟨e,a*10+8,none⟩=some (.int .i64 b.1.dy)/\g.cell? ⟨e,a*10+9,none⟩=some (.int .i64 b.1.left))
      (first | (refine⟨?_,?_,?_,?_,?_,?_,?_,?_,?_,?_,?_,?_⟩<;>assumption) | go_keep)
      ((go_at_call 108;refine ((qb R) _ (aa _ _).drew).mono ?_;rintro p b7 ⟨rfl,b8⟩;have j:Below i.heap.size i b7:=(aa _ i).drew.trans b8;have d5:=(j.cell (p:=⟨sp,9,none⟩) b6).trans O;have d6:=(j.cell (p:=⟨sp,0,none⟩) b6).trans a1;have d7:=(j.cell (p:=⟨e,a*10,none⟩) t).trans Q;have d8:=(j.cell (p:=⟨e,a*10+1,none⟩) t).trans a5;have d9:=(j.cell (p:=⟨e,a*10+2,none⟩) t).trans a6;have e0:=(j.cell (p:=⟨e,a*10+3,none⟩) t).trans a7;have e1:=(j.cell (p:=⟨e,a*10+4,none⟩) t).trans a8;have e2:=(j.cell (p:=⟨e,a*10+5,none⟩) t).trans a9;have e3:=(j.cell (p:=⟨e,a*10+6,none⟩) t).trans b1;have e4:=(j.cell (p:=⟨e,a*10+7,none⟩) t).trans b2;have e5:=(j.cell (p:=⟨e,a*10+8,none⟩) t).trans b3;have e6:=(j.cell (p:=⟨e,a*10+9,none⟩) t).trans b4;have B:=qg ((qb s).below j);clear b8 j))
     clear Q a5 a6 a7 a8 a9 b1 b2 b3 b4 d7 d8 d9 e0 e1 e2 e3 e4 e5 e6 a1 O d6 d5 R;by_cases z:A=0
     ·have W:=qg z;have e7:(A == 0)=true:=(by simp[z]);clear z;go_wp2;go_roundw
      case rel=>
       refine⟨a+1,by omega,by go_num,N,qb B,qb x,?_⟩;rw[qb b5,an (qb W)];exact qb G
      case measure=>simp[intOf];omega
     ·have M:b7.cell? ⟨w.heap.size,c,none⟩=some (.int .i64 (ZH (b0.take a) r ((c%d:Nat):Int) ((c/d:Nat):Int))):=(by rw[qe (qb B).nS];simp[qb G]);have a0:=qj (qb B).nS;have W:=qg z;have e7:(A == 0)=false:=(by simpa using z);generalize ZH (b0.take a) r ((c%d:Nat):Int) ((c/d:Nat):Int)=f9 at M;clear z;go_wp2;go_roundw
      case rel=>
       refine⟨a+1,by omega,by go_num,N.set c A,(qb B).put c A,fun f y=>?_,?_⟩
       ·rw[bc (by omega)];exact (qb x) f y
       ·rw[ar (by rw[(qb B).len];exact Y),qb b5,ah (qb W)]
      case measure=>simp[intOf];omega
    ·obtain rfl:a=b0.length:=(by omega);have s:=qg h;have x:=qg u;have G:=qg C;clear h u C;go_wp2;go_roundw
     case rel=>
      refine⟨c+1,by omega,by go_num,N,qb s,fun f y=>?_⟩;rcases cz f c with F | F
      ·exact (qb x) f F
      ·have p:f=c:=(by omega);subst p;have:=qb G;rw[aP] at this;exact this
     case measure=>simp[intOf];omega
  ·obtain rfl:c=k:=(by omega);have d0:¬(c:Int)<(c:Int):=(by omega);have s:=qg h;have x:=qg u;clear h u;go_wp2;go_ret;refine⟨rfl,?_⟩;have p:q=(List.range c).map (Ks b0 r d):=by
    apply bh;intro f;by_cases y:f<c
    ·rw[(qb x) f y];simp[y]
    ·rw[aI (by rw[(qb s).len];omega),aI (by simp;omega)]
   rw[<-p];exact qb s
variable{m':List (Int×Int)}
def jQ (a:List (Int×Int))(b:Int):List (Int×Int):=a.filter fun c=>!decide (c.1=b)
def Ve {a:Int×Int}(c:m'[n]?=some a)(b:Int):jQ (m'.take (n+1)) b=jQ (m'.take n) b++(if a.1=b then [] else [a]):=by
 unfold jQ;rw[am,c,ce];congr 1
 by_cases d:a.1=b<;>simp[d]
def Jt (q:jM w n v m')(Y:m'.length<=1000000000)(c:Int):Calls Tryz.prog 47 #[v,.int .i64 c] w fun e k=>∃ l,e=.returned l/\jM k w.heap.size l (jQ m' c)/\Below w.heap.size w k:=by
 obtain⟨E,Z,rfl⟩:=qr q;have F:=qg q;clear q;go_enter Tryz.func47,Tryz.ntmps47;go_wp2;go_loopw [5,6] (fun G r wr=>∃ a:Nat,a<=m'.length/\r=.int .i64 a/\Below w.heap.size w wr/\jM wr w.heap.size G (jQ (m'.take a) c)) (fun _ r _=>m'.length-(intOf r).toNat)
 case atStart=>exact⟨0,aj _,rfl,aa _ _,aQ _ _ _ _⟩
 case round=>
  rename World=>m;obtain⟨a,a0,rfl,h,f⟩:=hrel;by_cases H:a<m'.length
  ·obtain⟨b,o⟩:∃ b,m'[a]?=some b:=⟨m'[a],by simp[H]⟩;have p:=qi (S:=fun _=>False) (qb F) (.aD h) (fun _ _ I=>I);obtain⟨g,J⟩:∃ g,E=some ⟨g,0,none⟩:=by
    rcases p.2 with ⟨e,a1⟩ | ⟨g,a2,a3,e,_⟩
    ·omega
    ·simp only[ai] at e;exact⟨g,e.1⟩
   subst J;have K:m.cell? ⟨g,a*2,none⟩=some (.int .i64 b.1):=(by rw[aU p _ (by omega)];exact (kU m' a b o).1);have a4:m.cell? ⟨g,a*2+1,none⟩=some (.int .i64 b.2):=(by rw[aU p _ (by omega)];exact (kU m' a b o).2);have a5:(0:Int)<=(a:Int):=(by omega);have a6:(a:Int)<(m'.length:Int):=(by omega);have a7:=aJ m _ K;obtain⟨t,u,rfl⟩:=qr f;have x:=Ve o c;have a8:(jQ (m'.take a) c).length<=a:=(by have:=dA (fun b:Int×Int=>!decide (b.1=c)) (m'.take a);rw[ao] at this;unfold jQ;omega);have y:=qg x;have i:=qg h;have j:=qg f;clear x h f p o;by_cases d:b.1=c
   ·have L:(b.1 == c)=true:=(by simp[d]);have M:(b.1 != c)=false:=(by simp[d]);have s:=qg d;clear d;go_wp2;go_roundw
    case rel=>
     refine⟨a+1,by omega,by go_num,qb i,?_⟩;rw[qb y,an (qb s),aW];exact qb j
    case measure=>simp[intOf];omega
   ·have L:(b.1 == c)=false:=(by simpa using d);have M:(b.1 != c)=true:=(by simpa using d);have s:=qg d;have N:=(qb i).size;obtain⟨O,P,Q,R,T⟩:=aZ Qv;clear d;go_wp2_with (
     at_builtin
     refine bT _ rfl _ _ 87 rfl w.heap.size 153 O _ 2 16 Tryz.underlying87 P Q R T rfl (by decide) (.slice t (jQ (m'.take a) c).length u) (jQ (m'.take a) c).length (jk (jQ (m'.take a) c)) rfl (aR (qb j) _) ⟨m.heap.size,0,none⟩ 1 1 [.int .i64 b.1,.int .i64 b.2] rfl rfl (xT (qt _ _ _ rfl)) (by intro a9 z;simp at z;rcases z with rfl | rfl<;>rfl) (by unfold maxLen;omega) (by omega) (by simp;omega) ?_;intro l k A B _;have C:=((qb i).alloc N _).grown B (by simp;omega) (fun U e=>(ab (qb j) U e).1);have D:jM k w.heap.size l (jQ (m'.take a) c++[b]):=(by unfold jM;rw[Qh,ae];exact A);have V:=qg D;have W:=qg C;clear A B D C)
    go_roundw
    case rel=>
     refine⟨a+1,by omega,by go_num,qb W,?_⟩;rw[qb y,ah (qb s)];exact qb V
    case measure=>simp[intOf];omega
  ·have i:=qg h;have X:a=m'.length:=(by omega);rw[X,aP] at f;obtain⟨t,u,rfl⟩:=qr f;have j:=qg f;clear h f;go_wp2;go_ret;exact⟨_,rfl,qb j,qb i⟩
variable{S:Nat→Prop}
def jO (a b:List (gv×Value)):qQ (a++b)=qQ a++qQ b:=by simp[qQ]
def QV:(Tryz.prog.info? 128).map (fun a=>(a.zero,a.size,a.bytes))=some (some (.agg #[.int .i64 0,.int .i64 0,.int .i64 0,.int .i64 0,.int .i64 0,.int .i64 0,.slice none 0 0,.int .i64 0,.int .i64 0,.int .i64 0]),10,96):=by kernel_rfl
def Zc (a:List (gv×Value))(f:∀ d∈a,∃ g h i,d.2=.slice g h i):∀ b∈qQ a,b.oneCell'=true:=by
 induction a with
 | nil=>intro b e;simp[qQ] at e
 | cons d a j=>
  intro b e;have k:=e;rcases al.1 k with c | c
  ·obtain⟨g,h,i,l⟩:=f d (by simp);simp only[zA,bf,dt,eW] at c;rcases c with rfl | rfl | rfl | rfl | rfl | rfl | rfl | rfl | rfl | rfl
   all_goals first | rfl | (rw[l];rfl)
  ·exact j (fun m n=>f m (by simp[n])) b c
def Jj (b:List (gv×Value))(a:Nat):qQ (b.take a)=(qQ b).take (a*10):=by
 induction b generalizing a with
 | nil=>simp[qQ]
 | cons c b d=>
  cases a with
  | zero=>simp[qQ]
  | succ a=>
   show zA c++qQ (b.take a)=(zA c++qQ b).take _;have e:(a+1)*10=(zA c).length+a*10:=(by show (a+1)*10=10+a*10;omega);rw[d,e,List.take_length_add_append]
def Kd (a:List (gv×Value))(b:Nat):qQ (a.drop b)=(qQ a).drop (b*10):=by
 have c:=jO (a.take b) (a.drop b);rw[ap,Jj] at c;have d:=ap (b*10) (qQ a);exact (List.append_cancel_left (d.trans c)).symm
def VR (E:xv S w n v b0)(h9:w.cell? ⟨i,9,none⟩=some v)(b9:b0.length<=1000)(a:Nat)(c0:a<b0.length):Calls Tryz.prog 46 #[.pointer (some ⟨i,0,none⟩),.int .i64 (a:Int)] w fun b r=>∃ W,b=.returned W/\xv S r w.heap.size W (b0.eraseIdx a)/\Below w.heap.size w r:=by
 obtain⟨d,s,rfl⟩:∃ d s,v=.slice (some ⟨d,0,none⟩) b0.length s:=by
  rcases E.own.2 with ⟨b,a4⟩ | ⟨d,X,a5,b,_⟩
  ·omega
  ·exact⟨d,X,b⟩
 have Y:=aJ w _ h9;have c1:b0.length<=s:=by
  rcases E.own.2 with ⟨b,a4⟩ | ⟨c2,X,a5,b,_,_,c3,_⟩
  ·omega
  ·simp only[ai,ac,bz,bB,cj] at b;omega
 have c4:IntKind.i64.wrap ((a:Int)+1)=(a:Int)+1:=(by rw[af];omega);have c5:(0:Int)<=(a:Int):=(by omega);have c6:(a:Int)<=(b0.length:Int):=(by omega);have c7:(a:Int)+1<=(b0.length:Int):=(by omega);have c8:(0:Int)<=(a:Int)+1:=(by omega);have m:=qg E;obtain⟨F,G,H,I,J⟩:=aZ QV;clear E;have M:∀ c∈b0,∃ o a6 p,c.2=.slice o a6 p:=fun c e=>by
  obtain⟨o,p,b,_⟩:=(qb m).px c e;exact⟨o,_,p,b⟩
 have qF:=fun q a7=>aU (qb m).own q a7;have N:∀ (O f:Nat),(⟨d,O,none⟩:Addr).add f=⟨d,O+f,none⟩:=fun O f=>by unfold Addr.add;split<;>simp_all
 have Z:Hid (∀ f h,(qQ (b0.take a))[f]?=some h->w.cell? ((⟨d,0,none⟩:Addr).add f)=some h):=fun f h g=>by
  rw[N,bA];rw[Jj] at g;have P:=(zzg g).1;rw[ao] at P;rw[cQ (by omega)] at g;rw[qF f (by omega)];exact g
 have a8:Hid (∀ r,Below w.heap.size w r->∀ f h,(qQ (b0.drop (a+1)))[f]?=some h->r.cell? ((⟨d,(a+1)*10,none⟩:Addr).add f)=some h):=fun r a9 f h g=>by
  rw[N];rw[Kd,bw] at g;have P:=(zzg g).1;rw[v7] at P;exact (a9.cell (p:=⟨d,_,none⟩) (ab (qb m).own d rfl).2).trans ((qF _ (by omega)).trans g)
 have a0:=qg (Zc (b0.take a) (fun c e=>M c (br e)));have b1:=qg (Zc (b0.drop (a+1)) (fun c e=>M c (bm e)));have a1:(b0.take a).length=a:=(by rw[ao];omega);have a2:=qg (show (qQ (b0.take a)).length=a*10 by rw[v7,a1]);have b2:=qg (show (qQ (b0.drop (a+1))).length=(b0.length-(a+1))*10 by rw[v7,aV]);clear M qF N a1;by_cases b3:s=a+1
 ·subst b3;go_enter Tryz.func46,Tryz.ntmps46;have a3:=qg (show qQ (b0.drop (a+1))=[]/\b0.length-(a+1)=0 by rw[bI (by omega)];exact⟨rfl,by omega⟩)
  go_wp2_with (first
    | (at_builtin
       refine bT _ rfl _ _ 115 rfl w.heap.size 128 F _ 10 96 Tryz.underlying115 G H I J rfl (by decide) (.slice none 0 0) 0 [] rfl (aQ _ _ _ _) ⟨d,0,none⟩ a (a+1) (qQ (b0.take a)) rfl (qb a2) (qb Z) (qb a0) (by unfold maxLen;omega) (by omega) (zzl _) ?_
       intro Q K t u _
       have j:=(aa _ w).grown u (zzl _) (fun q b=>by cases b)
       have x:=j.size
       have b4:=(j.cell (p:=⟨i,9,none⟩) Y).trans h9
       have k:K.ownsRow w.heap.size 128 10 Q a (qQ (b0.take a)):=by simpa using t
       obtain⟨R,T,y⟩:=qr k
       rw[y] at k ⊢
       have z:=qg k
       have L:=qg j
       clear t k u j y)
    | (at_builtin
       refine bT _ rfl _ _ 115 rfl w.heap.size 128 F _ 10 96 Tryz.underlying115 G H I J rfl (by decide) (.slice R a T) a (qQ (b0.take a)) rfl (qb z) ⟨d,0,none⟩ 0 0 [] rfl rfl (fun f h g=>by simp at g) (fun h g=>by simp at g) (by unfold maxLen;omega) (by omega) x ?_
       intro b5 b6 l A _
       have B:=(qb L).grown A x (fun q b=>(ab (qb z) q b).1)
       obtain⟨b7,b8,C⟩:=qr l
       rw[C] at l ⊢
       have U:=qg l
       have D:=qg B
       clear l A B C))
  go_ret;refine⟨_,rfl,⟨?_,fun c e=>?_,fun c e=>(qb m).ok c (ep e)⟩,qb D⟩
  ·rw[de,jO,ae,ao,aV,bK (by omega)];rw[(qb a3).1,(qb a3).2];exact qb U
  ·obtain⟨o,p,b,V⟩:=(qb m).px c (ep e);exact⟨o,p,b,V.below (qb D)⟩
 ·go_enter Tryz.func46,Tryz.ntmps46
  go_wp2_with (first
    | (at_builtin
       refine bT _ rfl _ _ 115 rfl w.heap.size 128 F _ 10 96 Tryz.underlying115 G H I J rfl (by decide) (.slice none 0 0) 0 [] rfl (aQ _ _ _ _) ⟨d,0,none⟩ a s (qQ (b0.take a)) rfl (qb a2) (qb Z) (qb a0) (by unfold maxLen;omega) (by omega) (zzl _) ?_
       intro Q K t u _
       have j:=(aa _ w).grown u (zzl _) (fun q b=>by cases b)
       have x:=j.size
       have b4:=(j.cell (p:=⟨i,9,none⟩) Y).trans h9
       have k:K.ownsRow w.heap.size 128 10 Q a (qQ (b0.take a)):=by simpa using t
       obtain⟨R,T,y⟩:=qr k
       rw[y] at k ⊢
       have z:=qg k
       have L:=qg j
       clear t k u j y)
    | (at_builtin
       refine bT _ rfl _ _ 115 rfl w.heap.size 128 F _ 10 96 Tryz.underlying115 G H I J rfl (by decide) (.slice R a T) a (qQ (b0.take a)) rfl (qb z) ⟨d,(a+1)*10,none⟩ (b0.length-(a+1)) (s-(a+1)) (qQ (b0.drop (a+1))) rfl (qb b2) ((qb a8) K (qb L)) (qb b1) (by unfold maxLen;omega) (by omega) x ?_
       intro b5 b6 l A _
       have B:=(qb L).grown A x (fun q b=>(ab (qb z) q b).1)
       obtain⟨b7,b8,C⟩:=qr l
       rw[C] at l ⊢
       have U:=qg l
       have D:=qg B
       clear l A B C))
  go_ret;refine⟨_,rfl,⟨?_,fun c e=>?_,fun c e=>(qb m).ok c (ep e)⟩,qb D⟩
  ·rw[de,jO,ae,ao,aV,bK (by omega)];exact qb U
  ·obtain⟨o,p,b,V⟩:=(qb m).px c (ep e);exact⟨o,p,b,V.below (qb D)⟩
structure Dv where
 cb:Nat
 cl:List hJ
 sv:Value
 pp:Nat->Value
 g:Nat->Nat
 uJ:Value
 mv:Value
 wv:Value
def iC (d:Dc)(v:Dv):Array Value:=#[.int .i64 d.c.w,.int .i64 d.c.h,.int .i64 d.c.oA,.int .i64 d.c.queue,.int .i64 d.c.tK,.int .i64 d.c.hD,.int .i64 d.c.iE,.int .i64 d.c.behind,
 .slice (some ⟨v.cb,0,none⟩) v.cl.length v.cl.length,v.sv,
 v.pp 0,.slice (some ⟨v.g 0,0,none⟩) d.N d.N,.int .i64 (d.fn 0),v.pp 1,.slice (some ⟨v.g 1,0,none⟩) d.N d.N,.int .i64 (d.fn 1),v.pp 2,.slice (some ⟨v.g 2,0,none⟩) d.N d.N,.int .i64 (d.fn 2),
 .int .i64 (d.front:Int),.bool d.tQ,.int .i64 (d.tU:Int),.int .i64 d.left,v.uJ,v.mv,v.wv,.int .i64 d.tH,.bool d.ch,.int .i64 d.t]
structure gT (U:Nat->Prop)(w:World)(rp:Nat)(d:Dc)(v:Dv)(tI:List Value):Prop where
 nS:w.heap[rp]?=some (.cells (iC d v) 121)
 st:∀ i,i<3->ze w 0 (.slice (some ⟨v.g i,0,none⟩) d.N d.N) (d.st i)/\(d.st i).length=d.N
 gi:v.g 0≠v.g 1/\v.g 0≠v.g 2/\v.g 1≠v.g 2
 sf:xv U w 0 v.sv (d.l.zip tI)
 pl:tI.length=d.l.length
 tL:¬U rp/\(∀ i,i<3->¬U (v.g i))/\(∀ k,v.sv.ownBlock=some k->¬U k)
 cfg:jU d.c=true
 len:d.l.length<=16
 wt:jM w 0 v.wv d.wait
 wU:∀ k,v.wv.ownBlock=some k->¬U k
def ra (rp:Nat)(v:Dv)(a:Nat):Prop:=a=rp\/a=v.g 0\/a=v.g 1\/a=v.g 2
section
variable {U:Nat->Prop}{w w':World}{rp:Nat}{d:Dc}{v:Dv}{tI:List Value}
def gT.wh (b:gT U w rp d v tI):d.c.w=(d.W:Int)/\d.c.h=(d.c.h.toNat:Int)/\(1<=d.W/\d.W<=16)/\(1<=d.c.h.toNat/\d.c.h.toNat<=16)/\d.N=d.W*d.c.h.toNat:=by
 have a:=Qy b.cfg;have c:=a.w;have e:=a.h;unfold Dc.W Dc.N;refine⟨by omega,by omega,by omega,by omega,rfl⟩
def gT.dmg (a:gT U w rp d v tI):lM w 0 rp (iC d v) d.W d.c.h.toNat (v.g 0) (v.g 1) (v.g 2) (d.st 0) (d.st 1) (d.st 2) d.ch:=by
 obtain⟨c,e,-,-,b⟩:=a.wh;refine⟨a.nS,rfl,?_,?_,?_,?_,?_,rfl,?_,?_,?_,?_,?_,?_,a.gi.1,a.gi.2.1,a.gi.2.2⟩
 ·show some (Value.int .i64 d.c.w)=_;rw[c]
 ·show some (Value.int .i64 d.c.h)=_;rw[<-e]
 ·rw[<-b];rfl
 ·rw[<-b];rfl
 ·rw[<-b];rfl
 ·rw[<-b];exact (a.st 0 (by omega)).1
 ·rw[<-b];exact (a.st 1 (by omega)).1
 ·rw[<-b];exact (a.st 2 (by omega)).1
 ·rw[<-b];exact (a.st 0 (by omega)).2
 ·rw[<-b];exact (a.st 1 (by omega)).2
 ·rw[<-b];exact (a.st 2 (by omega)).2
def zd1 (c:Z8 (iC d v) f)(g:f.size=29)(e:f[27]?=some (.bool ch)):f=iC {d with ch:=ch} v:=by
 apply Array.ext_getElem?;intro a;by_cases b:a=27
 ·subst b;rw[e];rfl
 ·rw[c a b];by_cases h:a<29
  ·rcases (show a=0\/a=1\/a=2\/a=3\/a=4\/a=5\/a=6\/a=7\/a=8\/a=9\/a=10\/a=11\/a=12\/a=13\/a=14\/a=15\/a=16\/a=17\/a=18\/a=19\/a=20\/a=21\/a=22\/a=23\/a=24\/a=25\/a=26\/a=28 by omega) with rfl | rfl | rfl | rfl | rfl | rfl | rfl | rfl | rfl | rfl | rfl | rfl | rfl | rfl | rfl | rfl | rfl | rfl | rfl | rfl | rfl | rfl | rfl | rfl | rfl | rfl | rfl | rfl<;>rfl
  ·rw[Array.getElem?_eq_none (by show 29<=a;omega),Array.getElem?_eq_none (by show 29<=a;omega)]
def gT.apart (b:gT U w rp d v tI):∀ e,v.sv.ownBlock=some e->¬ra rp v e:=fun e c a=>by
 rcases a with a | a | a | a
 ·exact qq b.sf.own b.nS (by decide) (by rw[<-a];exact c)
 ·exact qS b.sf.own (b.st 0 (by omega)).1 (by decide) c (by rw[a];rfl)
 ·exact qS b.sf.own (b.st 1 (by omega)).1 (by decide) c (by rw[a];rfl)
 ·exact qS b.sf.own (b.st 2 (by omega)).1 (by decide) c (by rw[a];rfl)
def gT.um (b:gT U w rp d v tI):∀ e,v.wv.ownBlock=some e->¬ra rp v e/\v.sv.ownBlock≠some e:=fun e c=>⟨fun a=>by
 rcases a with a | a | a | a
 ·exact qq b.wt b.nS (by decide) (by rw[<-a];exact c)
 ·exact qS b.wt (b.st 0 (by omega)).1 (by decide) c (by rw[a];rfl)
 ·exact qS b.wt (b.st 1 (by omega)).1 (by decide) c (by rw[a];rfl)
 ·exact qS b.wt (b.st 2 (by omega)).1 (by decide) c (by rw[a];rfl),fun a=>qS b.wt b.sf.own (by decide) c a⟩
def gT.nU (b:gT U w rp d v tI):∀ e,U e->¬ra rp v e:=fun e c a=>by
 rcases a with a | a | a | a<;>subst a
 ·exact b.tL.1 c
 ·exact b.tL.2.1 0 (by omega) c
 ·exact b.tL.2.1 1 (by omega) c
 ·exact b.tL.2.1 2 (by omega) c
def xv.but {c:Nat}{a:Value}{e:List (gv×Value)}{S:Nat->Prop}(b:xv U w c a e)(f:gp S w w')(g:∀ k,a.ownBlock=some k->¬S k)(h:∀ k,U k->¬S k):xv U w' c a e:=
 ⟨qi b.own f g,fun i j=>by
  obtain⟨l,m,n,o⟩:=b.px i j;exact⟨l,m,n,o.but f h⟩,b.ok⟩
def gT.after (a:gT U w rp d v tI)(h:vJ w w' 0 rp (iC d v) d.W d.c.h.toNat (v.g 0) (v.g 1) (v.g 2) (qV u d.W (d.W*d.c.h.toNat) (d.st 0)) (qV u d.W (d.W*d.c.h.toNat) (d.st 1)) (qV u d.W (d.W*d.c.h.toNat) (d.st 2)) (d.ch||Q7 u d.W (d.W*d.c.h.toNat)) f):gT U w' rp (zw d u) v tI/\gp (ra rp v) w w':=by
 obtain⟨p,b,j⟩:=h.st;obtain⟨-,-,-,-,k⟩:=a.wh;rw[<-k] at b;have l:=zd1 j b.size b.cc;have e:=h.but;have i:=b.nS;rw[l] at i;refine⟨⟨i,fun c m=>?_,a.gi,a.sf.but e a.apart a.nU,a.pl,a.tL,a.cfg,a.len,qi a.wt e (fun n o=>(a.um n o).1),a.wU⟩,e⟩;have g:(qV u d.W d.N (d.st c)).length=d.N:=(by rw[vO];exact (a.st c m).2);rcases (show c=0\/c=1\/c=2 by omega) with rfl | rfl | rfl
 ·exact⟨b.o0,g⟩
 ·exact⟨b.o1,g⟩
 ·exact⟨b.o2,g⟩
def jK (b:gT U w rp d v tI)(a:gv)(h:xq a)(c:Option Addr)(e f:Nat):Calls Tryz.prog 45 #[.pointer (some ⟨rp,0,none⟩),oB a (.slice c e f)] w fun g w'=>g=.returned (.tuple #[])/\gT U w' rp (zw d a) v tI/\gp (ra rp v) w w':=by
 obtain⟨-,-,i,j,-⟩:=b.wh;refine (qa9 b.dmg i j a h c e f).mono ?_;rintro g w' ⟨k,l⟩;exact⟨k,b.after l⟩
end
variable{c1 xs:List Value}{z:Value}
section
variable {U:Nat->Prop}{w w':World}{rp:Nat}{d:Dc}{v:Dv}{tI:List Value}
def Y1 {tI:List Value}(c:tI.length=l'.length)(a:l'[n]?=some u):∃ b,tI[n]?=some b/\(l'.zip tI)[n]?=some (u,b):=by
 have e:=(zzg a).1;refine⟨tI[n]'(by omega),by simp,?_⟩;rw[ek];exact⟨a,by simp⟩
def gT.at (b:gT U w rp d v tI){i:Nat}{c:gv}(o:d.l[i]?=some c):∃ a q f g,v.sv=.slice (some ⟨a,0,none⟩) d.l.length q/\a<w.heap.size/\a≠rp/\¬ra rp v a/\¬U a/\tI[i]?=some (.slice f c.px.length g)/\gS U w (.slice f c.px.length g) c.px/\xq c/\(∀ e,w.frozen? ⟨a,e,none⟩=false)/\∀ e,e<10->w.cell? ⟨a,i*10+e,none⟩=(zA (c,.slice f c.px.length g))[e]?:=by
 obtain⟨j,r,k⟩:=Y1 b.pl o;have l:(d.l.zip tI).length=d.l.length:=(by rw[eu,b.pl,dR]);have z:=(zzg o).1;obtain⟨f,g,m,p⟩:=b.sf.px (c,j) (zzn k);simp only at m p;rcases b.sf.own.2 with ⟨-,A⟩ | ⟨a,s,B,h,C,t,D⟩
 ·omega
 ·rw[l] at h;have n:v.sv.ownBlock=some a:=(by rw[h];rfl);have u:=qh t;refine⟨a,s,f,g,h,u,fun x=>b.apart a n (.inl x),b.apart a n,b.tL.2.2 a n,by rw[r,m],p,b.sf.ok (c,j) (zzn k),fun e=>?_,fun e y=>?_⟩
  ·have:=b.sf.own;rw[h,<-l] at this;exact bs this e
  ·have:=b.sf.own;rw[h,<-l] at this;rw[aU this _ (by omega),zY _ i (c,j) k e y,<-m]
def gT.c9 (a:gT U w rp d v tI):w.cell? ⟨rp,9,none⟩=some v.sv:=qe a.nS 9
end
def Xx {a:gv×Value}(b:b0[n]?=some a):qQ b0=qQ (b0.take n)++(zA a++qQ (b0.drop (n+1)))/\(qQ (b0.take n)).length=n*10:=by
 obtain⟨f,c⟩:=zzg b;refine⟨?_,by rw[v7,ao,bK (by omega)]⟩;have e:b0=b0.take n++a::b0.drop (n+1):=by rw[<-c,bo,ap]
 conv=>lhs;rw[e]
 rw[jO];rfl
def Z0 {a:List Value}(c:n<c1.length)(b:Value)(e:xs.length=i):(xs++(c1++a)).set (i+n) b=xs++(c1.set n b++a):=by
 subst e;rw[bG _ _ (by omega),ez,List.set_append_left _ _ c]
def Kf {b a:gv×Value}(c:b0[n]?=some b):qQ (b0.set n a)=qQ (b0.take n)++(zA a++qQ (b0.drop (n+1))):=by
 have e:=(zzg c).1;have f:(b0.set n a)[n]?=some a:=ar e;rw[(Xx f).1,fH (zzl _),eT (by omega)]
def ZY:∀ (b:List gv)(tI:List Value)(a:Nat)(c:gv)(e:Value),(b.zip tI).set a (c,e)=(b.set a c).zip (tI.set a e)
 | [],_,_,_,_=>by simp
 | _::_,[],_,_,_=>by simp
 | g::b,h::f,0,c,e=>rfl
 | g::b,h::f,a+1,c,e=>by
  show (g,h)::((b.zip f).set a (c,e))=(g,h)::((b.set a c).zip (f.set a e));rw[ZY b f a c e]
section
variable {U:Nat->Prop}{w w':World}{rp:Nat}{d:Dc}{v:Dv}{tI:List Value}
def gT.row (b:gT U w rp d v tI){pv':Value}(A:d.l[n]?=some u)(B:tI[n]?=some z)(s:v.sv=.slice (some ⟨i,0,none⟩) d.l.length j)(h:gp (fun k=>k=i) w w')(C:w'.ownsRow 0 128 10 (.slice (some ⟨i,0,none⟩) d.l.length j) d.l.length (qQ ((d.l.zip tI).take n)++(zA (s',pv')++qQ ((d.l.zip tI).drop (n+1)))))(D:xq s')(E:∃ e f,pv'=.slice e s'.px.length f/\gS U w (.slice e s'.px.length f) s'.px):gT U w' rp {d with l:=d.l.set n s'} v (tI.set n pv'):=by
 have o:v.sv.ownBlock=some i:=(by rw[s];rfl);have F:=b.apart i o;have t:=b.tL.2.2 i o;have G:(d.l.zip tI)[n]?=some (u,z):=(by rw[ek];exact⟨A,B⟩);have H:(d.l.zip tI).length=d.l.length:=(by rw[eu,b.pl,dR]);have x:∀ k,k=rp\/k=v.g 0\/k=v.g 1\/k=v.g 2->¬k=i:=fun k c a=>F (by rw[<-a];exact c);refine⟨h.heap b.nS (x rp (.inl rfl)),fun g y=>⟨qi (b.st g y).1 h (fun k c=>?_),(b.st g y).2⟩,b.gi,⟨?_,fun p m=>?_,fun p m=>?_⟩,by rw[aG,aG];exact b.pl,b.tL,b.cfg,by rw[aG];exact b.len,qi b.wt h (fun k c a=>(b.um k c).2 (by rw[a];exact o)),b.wU⟩
 ·have a:v.g g=k:=(by have:=c;exact aA this);refine x k ?_;rcases (show g=0\/g=1\/g=2 by omega) with rfl | rfl | rfl
  ·exact .inr (.inl a.symm)
  ·exact .inr (.inr (.inl a.symm))
  ·exact .inr (.inr (.inr a.symm))
 ·show w'.ownsRow 0 _ 10 v.sv ((d.l.set n s').zip (tI.set n pv')).length (qQ ((d.l.set n s').zip (tI.set n pv')));rw[<-ZY,aG,H,Kf G,s];exact C
 ·rw[show ({d with l:=d.l.set n s'}:Dc).l=d.l.set n s' from rfl,<-ZY] at m;rcases ej m with a | a
  ·obtain⟨e,f,q,r⟩:=b.sf.px p a;exact⟨e,f,q,r.but h (fun k c a=>t (a ▸ c))⟩
  ·subst a;obtain⟨e,f,q,r⟩:=E;exact⟨e,f,q,r.but h (fun k c a=>t (a ▸ c))⟩
 ·rw[show ({d with l:=d.l.set n s'}:Dc).l=d.l.set n s' from rfl,<-ZY] at m;rcases ej m with a | a
  ·exact b.sf.ok p a
  ·subst a;exact D
def gT.own' (a:gT U w rp d v tI)(b:d.l[n]?=some u)(c:tI[n]?=some z)(e:v.sv=.slice (some ⟨i,0,none⟩) d.l.length j):w.ownsRow 0 128 10 (.slice (some ⟨i,0,none⟩) d.l.length j) d.l.length (qQ ((d.l.zip tI).take n)++(zA (u,z)++qQ ((d.l.zip tI).drop (n+1))))/\(qQ ((d.l.zip tI).take n)).length=n*10:=by
 have f:(d.l.zip tI)[n]?=some (u,z):=(by rw[ek];exact⟨b,c⟩);have g:(d.l.zip tI).length=d.l.length:=(by rw[eu,a.pl,dR]);obtain⟨h,k⟩:=Xx f;have:=a.sf.own;rw[h,g,e] at this;exact⟨this,k⟩
def gT.put (a:gT U w rp d v tI){b:gv}{u:Value}(e:d.l[n]?=some b)(c:tI[n]?=some z)(h:v.sv=.slice (some ⟨i,0,none⟩) d.l.length j)(D:t<10)(o:zA (s',z)=(zA (b,z)).set t u)(p:xq s')(k:s'.px=b.px):gT U (w.setCell ⟨i,n*10+t,none⟩ u) rp {d with l:=d.l.set n s'} v tI:=by
 obtain⟨q,r⟩:=a.own' e c h;have m:=(aT q (n*10+t) u).1;rw[Z0 (by simp[zA];omega) u r,<-o] at m;have s:gp (fun f=>f=i) w (w.setCell ⟨i,n*10+t,none⟩ u):=(gp.refl (fun f=>f=i) w).setCell (p:=⟨i,n*10+t,none⟩) (.inl rfl) _;obtain⟨E,g,x⟩:=Y1 a.pl e;rw[c] at g;simp only[ac] at g;subst g;obtain⟨y,A,B,C⟩:=a.sf.px (b,z) (zzn x);have:=a.row e c h s m p ⟨y,A,by rw[k];exact B,by rw[k];exact C⟩;rw[vP c] at this;exact this
end
def iq (a:Int):Prop:=-1000000000000000<=a/\a<=1000000000000000
def ry (rp:Nat)(v:Dv)(a:Nat):Prop:=ra rp v a\/v.sv.ownBlock=some a
section
variable {U:Nat->Prop}{w w':World}{rp:Nat}{d:Dc}{v:Dv}{tI:List Value}
def xq.at (a:xq u)(b:iq q)(c:iq B'):xq {u with x:=q,y:=B'}:=⟨a.w0,a.w8,a.h0,a.h8,a.px,b,c⟩
def XF (m:gT U w rp d v tI){a:gv}(r:d.l[i]?=some a)(b c:Int)(J:iq b)(a6:iq c):Calls Tryz.prog 88 #[.pointer (some ⟨rp,0,none⟩),.int .i64 (i:Int),.int .i64 b,.int .i64 c] w fun g w'=>g=.returned (.tuple #[])/\gT U w' rp (zu d i b c) v tI/\gp (ry rp v) w w':=by
 obtain⟨f,a7,s,t,n,e9,f0,f1,f2,D,c1,j,f3,h⟩:=m.at r;have a8:=(zzg r).1;have c2:=m.len;obtain⟨a9,K⟩:=zx d.l.length;obtain⟨x,L⟩:=zx a.px.length;have M:=m.c9;rw[n,<-K] at M;have N:=h 0 (by omega);have O:=h 1 (by omega);have P:=h 2 (by omega);have Q:=h 3 (by omega);have R:=h 4 (by omega);have S:=h 5 (by omega);have T:=h 6 (by omega);have V:=h 7 (by omega);have W:=h 8 (by omega);have X:=h 9 (by omega);simp only[zA,bp,cD,bL,<-L] at N O P Q R S T V W X;have f4:=qh m.nS;have f5:(0:Int)<=(i:Int):=(by omega);have f6:(i:Int)<(a9:Int):=(by omega);have Y:v.sv.ownBlock=some f:=(by rw[n];rfl);have b0:zu d i b c=if a.x=b/\a.y=c then d else zw {zw d a with l:=d.l.set i {a with x:=b,y:=c}} {a with x:=b,y:=c}:=(by unfold zu;rw[r]);have E:Hid (Calls Tryz.prog 45 #[.pointer (some ⟨rp,0,none⟩),.agg #[.int .i64 a.cl,.int .i64 a.num,.int .i64 a.x,.int .i64 a.y,.int .i64 a.w,.int .i64 a.h,.slice s x t,.int .i64 a.dx,.int .i64 a.dy,.int .i64 a.left]] w fun g e=>g=.returned (.tuple #[])/\(e.cell? ⟨rp,9,none⟩=some (.slice (some ⟨f,0,none⟩) a9 a7)/\rp<e.heap.size/\f<e.heap.size/\(∀ c3,e.frozen? ⟨f,c3,none⟩=false)/\
  e.cell? ⟨f,i*10,none⟩=some (.int .i64 a.cl)/\e.cell? ⟨f,i*10+1,none⟩=some (.int .i64 a.num)/\e.cell? ⟨f,i*10+2,none⟩=some (.int .i64 a.x)/\e.cell? ⟨f,i*10+3,none⟩=some (.int .i64 a.y)/\e.cell? ⟨f,i*10+4,none⟩=some (.int .i64 a.w)/\e.cell? ⟨f,i*10+5,none⟩=some (.int .i64 a.h)/\e.cell? ⟨f,i*10+6,none⟩=some (.slice s x t)/\e.cell? ⟨f,i*10+7,none⟩=some (.int .i64 a.dx)/\e.cell? ⟨f,i*10+8,none⟩=some (.int .i64 a.dy)/\e.cell? ⟨f,i*10+9,none⟩=some (.int .i64 a.left))/\
  Calls Tryz.prog 45 #[.pointer (some ⟨rp,0,none⟩),.agg #[.int .i64 a.cl,.int .i64 a.num,.int .i64 b,.int .i64 c,.int .i64 a.w,.int .i64 a.h,.slice s x t,.int .i64 a.dx,.int .i64 a.dy,.int .i64 a.left]] ((e.setCell ⟨f,i*10+2,none⟩ (.int .i64 b)).setCell ⟨f,i*10+3,none⟩ (.int .i64 c)) fun g y=>g=.returned (.tuple #[])/\gT U y rp (zw {zw d a with l:=d.l.set i {a with x:=b,y:=c}} {a with x:=b,y:=c}) v tI/\gp (ry rp v) w y):=by
  have c4:=jK m a j s x t;refine c4.mono ?_;rintro g e ⟨rfl,h1,c5⟩;have b1:=r;obtain⟨F,b2,f7,f8,G,c6,-,-,-,Z,-,-,c7,k⟩:=h1.at b1;have c8:F=f/\b2=a7:=(by have:(zw d a).l.length=d.l.length:=rfl;rw[this,n] at G;simp only[ai,ac,bz,bB,cj] at G;exact⟨G.1.symm,G.2.symm⟩);obtain⟨rfl,rfl⟩:=c8;rw[D] at Z;simp only[ac,ai] at Z;obtain⟨rfl,-,rfl⟩:=Z;have H:=h1.c9;rw[n,<-K] at H;have b3:=k 0 (by omega);have z:=k 1 (by omega);have I:=k 2 (by omega);have b4:=k 3 (by omega);have b5:=k 4 (by omega);have b6:=k 5 (by omega);have b7:=k 6 (by omega);have b8:=k 7 (by omega);have b9:=k 8 (by omega);have c0:=k 9 (by omega);simp only[zA,bp,cD,bL,<-L] at b3 z I b4 b5 b6 b7 b8 b9 c0;refine⟨rfl,⟨H,qh h1.nS,c6,c7,b3,z,I,b4,b5,b6,b7,b8,b9,c0⟩,?_⟩;have h2:=h1.put (t:=2) (s':={a with x:=b}) (u:=.int .i64 b) b1 D n (by omega) rfl ⟨j.w0,j.w8,j.h0,j.h8,j.px,J,j.yb⟩ rfl;have c9:({zw d a with l:=(zw d a).l.set i {a with x:=b}}:Dc).l[i]?=some {a with x:=b}:=ar a8;have d0:v.sv=.slice (some ⟨F,0,none⟩) ({zw d a with l:=(zw d a).l.set i {a with x:=b}}:Dc).l.length b2:=(by show v.sv=.slice _ (d.l.set i {a with x:=b}).length _;rw[aG];exact n);have h3:=h2.put (t:=3) (s':={a with x:=b,y:=c}) (u:=.int .i64 c) c9 D d0 (by omega) rfl (j.at J a6) rfl;have d1:({ ({zw d a with l:=(zw d a).l.set i {a with x:=b}}:Dc) with l:=({zw d a with l:=(zw d a).l.set i {a with x:=b}}:Dc).l.set i {a with x:=b,y:=c}}:Dc)={zw d a with l:=d.l.set i {a with x:=b,y:=c}}:=(by show ({zw d a with l:=(d.l.set i {a with x:=b}).set i {a with x:=b,y:=c}}:Dc)=_;rw[eg]);rw[d1] at h3;refine (jK h3 {a with x:=b,y:=c} (j.at J a6) s x t).mono ?_;rintro g y ⟨rfl,h4,d2⟩;refine⟨rfl,h4,?_⟩;have d3:gp (ry rp v) w e:=c5.wide fun d4 _ a0=>.inl a0;have d5:=(d3.setCell (p:=⟨F,i*10+2,none⟩) (.inl (.inr Y)) (.int .i64 b)).setCell (p:=⟨F,i*10+3,none⟩) (.inl (.inr Y)) (.int .i64 c);exact d5.step d2 fun d4 a0=>.inl (.inl a0)
 have a1:=qg m;have a2:=qg b0;clear m r n j h c1 D b0 Y K L a8 c2;by_cases o:a.x=b
 ·have z:(a.x == b)=true:=(by simpa using o);by_cases q:a.y=c
  ·have I:(a.y == c)=true:=(by simpa using q);have A:Hid (zu d i b c=d):=(by show zu d i b c=d;rw[qb a2,an ⟨o,q⟩]);clear o q;go_enter Tryz.func88,Tryz.ntmps88;go_wp2;refine bV (ed rfl _ _ _) rfl ⟨rfl,?_,gp.refl _ _⟩;rw[qb A];exact qb a1
  ·have I:(a.y == c)=false:=(by simpa using q);have A:Hid (zu d i b c=zw {zw d a with l:=d.l.set i {a with x:=b,y:=c}} {a with x:=b,y:=c}):=(by show zu d i b c=_;rw[qb a2,ah (fun g=>q g.2)]);subst o;clear q a1 z;go_enter Tryz.func88,Tryz.ntmps88
   go_wp2_with (first
     | (go_at_call 45;refine (qb E).mono ?_;rintro g e ⟨rfl,⟨H,d6,d7,d8,d9,e0,e1,e2,e3,e4,e5,e6,e7,e8⟩,B⟩;have a3:=qg B;clear B E N O P Q R S T V W X M)
     | (go_at_call 45;refine (qb a3).mono ?_;rintro g y ⟨rfl,h2,C⟩;have a4:=qg h2;have a5:=qg C;clear h2 C))
   go_end0;refine⟨rfl,?_,qb a5⟩;rw[qb A];exact qb a4
 ·have z:(a.x == b)=false:=(by simpa using o);have A:Hid (zu d i b c=zw {zw d a with l:=d.l.set i {a with x:=b,y:=c}} {a with x:=b,y:=c}):=(by show zu d i b c=_;rw[qb a2,ah (fun g=>o g.1)]);clear o a1;go_enter Tryz.func88,Tryz.ntmps88
  go_wp2_with (first
    | (go_at_call 45;refine (qb E).mono ?_;rintro g e ⟨rfl,⟨H,d6,d7,d8,d9,e0,e1,e2,e3,e4,e5,e6,e7,e8⟩,B⟩;have a3:=qg B;clear B E N O P Q R S T V W X M)
    | (go_at_call 45;refine (qb a3).mono ?_;rintro g y ⟨rfl,h2,C⟩;have a4:=qg h2;have a5:=qg C;clear h2 C))
  go_end0;refine⟨rfl,?_,qb a5⟩;rw[qb A];exact qb a4
end
def sL (rp:Nat)(v:Dv)(a:Nat):Prop:=ra rp v a\/v.sv.ownBlock=some a\/v.wv.ownBlock=some a
structure jX (U:Nat->Prop)(w:World)(rp:Nat)(v:Dv)(d':Dc)(w':World):Prop where
 ex:∃ sv' wv' pvs',gT U w' rp d' {v with sv:=sv',wv:=wv'} pvs'/\(∀ k,sv'.ownBlock=some k->v.sv.ownBlock=some k\/w.heap.size<=k)/\(∀ k,wv'.ownBlock=some k->v.wv.ownBlock=some k\/w.heap.size<=k)
 but:gp (sL rp v) w w'
section
variable {U:Nat->Prop}{w w1 w':World}{rp:Nat}{d d' d'':Dc}{v:Dv}{tI:List Value}
def jX.of (c:gT U w' rp d' v tI)(e:gp (ry rp v) w w'):jX U w rp v d' w':=
 ⟨⟨v.sv,v.wv,tI,c,fun b a=>.inl a,fun b a=>.inl a⟩,e.wide fun b _ a=>a.elim (fun a=>.inl a) (fun a=>.inr (.inl a))⟩
def gT.below (a:gT U w rp d v tI)(g:Below w.heap.size w w'):gT U w' rp d v tI:=by
 have c:gp (fun _=>False) w w':=.aD g;exact⟨c.heap a.nS (fun b=>b),fun e f=>⟨qi (a.st e f).1 c (fun _ _ b=>b),(a.st e f).2⟩,a.gi,a.sf.but c (fun _ _ b=>b) (fun _ _ b=>b),a.pl,a.tL,a.cfg,a.len,qi a.wt c (fun _ _ b=>b),a.wU⟩
def gT.newl (a:gT U w rp d v tI)(h:gp (fun c=>c=rp\/v.sv.ownBlock=some c) w w')(i:w'.heap[rp]?=some (.cells (iC d {v with sv:=z}) 121))(j:xv U w' 0 z (l'.zip xs))(k:xs.length=l'.length)(m:∀ c,z.ownBlock=some c->¬U c)(n:l'.length<=16):gT U w' rp {d with l:=l'} {v with sv:=z} xs:=by
 refine⟨i,fun f g=>⟨qi (a.st f g).1 h (fun c e b=>?_),(a.st f g).2⟩,a.gi,j,k,⟨a.tL.1,a.tL.2.1,m⟩,a.cfg,n,qi a.wt h (fun c e b=>?_),a.wU⟩
 ·rcases b with b | b
  ·exact qq (a.st f g).1 a.nS (by decide) (by rw[<-b];exact e)
  ·exact qS a.sf.own (a.st f g).1 (by decide) b e
 ·rcases b with b | b
  ·exact (a.um c e).1 (.inl b)
  ·exact (a.um c e).2 b
def Xt:∀ (b:List gv)(tI:List Value)(a:Nat),(b.zip tI).eraseIdx a=(b.eraseIdx a).zip (tI.eraseIdx a)
 | [],_,_=>by simp
 | _::_,[],_=>by simp
 | e::b,f::c,0=>rfl
 | e::b,f::c,a+1=>by
  show (e,f)::(b.zip c).eraseIdx a=(e,f)::((b.eraseIdx a).zip (c.eraseIdx a));rw[Xt b c a]
def xv.base0 (a:xv U w n z b0):xv U w 0 z b0:=
 ⟨⟨a.own.1,a.own.2.imp id (fun ⟨b,c,e,f,h,g⟩=>⟨b,c,e,f,aj _,g⟩)⟩,a.px,a.ok⟩
def qu2 {tI:List Value}(c:tI.length=l'.length)(e:(q,B')∈l'.map qw):JI (l'.zip tI) q B'=some (l'.findIdx (gN q B')):=by
 obtain⟨f,g,h,i⟩:=xC e;obtain⟨j,o,k⟩:=Y1 c g;refine JG _ q B' _ (f,j) (fun p a l b=>?_) k (by simp[h,i]);rw[ek] at b;have:=List.not_of_lt_findIdx l;have m:=(zzg b.1).2;rw[m] at this;unfold gN at this;have n:(decide (a.1.cl=q)&&decide (a.1.num=B'))=(a.1.cl == q&&a.1.num == B'):=(by rw[cC];simp);rw[n];exact this
end
section
variable {U:Nat->Prop}{w w1 w':World}{rp:Nat}{d d' d'':Dc}{v:Dv}{tI:List Value}
def gT.newW (b:gT U w rp d v tI)(h:gp (fun c=>c=rp\/v.wv.ownBlock=some c) w w')(i:w'.heap[rp]?=some (.cells (iC d {v with wv:=z}) 121))(j:jM w' 0 z m')(k:∀ c,z.ownBlock=some c->¬U c):gT U w' rp {d with wait:=m'} {v with wv:=z} tI:=by
 refine⟨i,fun f g=>⟨qi (b.st f g).1 h (fun c e a=>?_),(b.st f g).2⟩,b.gi,b.sf.but h (fun c e a=>?_) (fun c e a=>?_),b.pl,b.tL,b.cfg,b.len,j,k⟩
 ·rcases a with a | a
  ·exact qq (b.st f g).1 b.nS (by decide) (by rw[<-a];exact e)
  ·exact qS b.wt (b.st f g).1 (by decide) a e
 ·rcases a with a | a
  ·exact b.apart c e (.inl a)
  ·exact (b.um c a).2 e
 ·rcases a with a | a
  ·exact b.tL.1 (a ▸ e)
  ·exact b.wU c a e
def qu8 (j:gT U w rp d v tI)(I:∀ a,U a->a<w.heap.size)(e:Nat)(b:gt)(x:Option Addr)(y z:Nat)(h8:b.kind=8)(b6:d.wait.length<=1000000000):Calls Tryz.prog 121 #[.pointer (some ⟨rp,0,none⟩),.int .i64 (e:Int),.agg #[.int .i64 b.kind,.int .i64 b.iV,.int .i64 b.x,.int .i64 b.y,.int .i64 b.w,.int .i64 b.h,.slice x y z,.int .i64 b.mark]] w fun c w'=>(∃ a1,c=.returned a1)/\jX U w rp v (qO d e b) w':=by
 have J:qO d e b={d with wait:=d.wait++[((e:Int),b.mark)]}:=(by unfold qO;rw[an h8]);rw[J,h8];obtain⟨g,K⟩:=zx b.mark;rw[<-K];obtain⟨a2,a3,A⟩:=qr j.wt;obtain⟨a4,L⟩:=zx d.wait.length;rw[<-L] at A;obtain⟨w1,q⟩:∃ w1:World,w1=w.alloc (.cells #[.int .i64 8,.int .i64 b.iV,.int .i64 b.x,.int .i64 b.y,.int .i64 b.w,.int .i64 b.h,.slice x y z,.int .i64 g] 52):=⟨_,rfl⟩;have o:Below w.heap.size w w1:=(by rw[q];exact (aa _ w).alloc (zzl _) _);have B:w1.heap[w.heap.size]?=some (.cells #[.int .i64 8,.int .i64 b.iV,.int .i64 b.x,.int .i64 b.y,.int .i64 b.w,.int .i64 b.h,.slice x y z,.int .i64 g] 52):=(by rw[q];exact qt _ _ _ rfl);have C:=j.below o;obtain⟨m,D⟩:∃ m:World,m=(w1.alloc (.cells #[.int .i64 (e:Int),.int .i64 g] 153)).drew:=⟨_,rfl⟩;have r:Below w1.heap.size w1 m:=(by rw[D];exact ((aa _ w1).alloc (zzl _) _).drew);have M:m.heap[w1.heap.size]?=some (.cells #[.int .i64 (e:Int),.int .i64 g] 153):=(by rw[D];exact qt w1 _ _ rfl);have E:=C.below r;obtain⟨a5,N,O,Q,R⟩:=aZ Qv;obtain⟨b7,k,S,s,T,-,V⟩:=cE (P:=Tryz.prog) (w:=m) 0 87 87 153 a5 _ 2 16 Tryz.underlying87 N O Q R rfl (by decide) v.wv _ _ E.wt ⟨w1.heap.size,0,none⟩ 1 1 [.int .i64 (e:Int),.int .i64 g] rfl (xT M) (by simp[Value.oneCell']) (by unfold maxLen;omega) (by omega) (aj _);obtain⟨h,l,W⟩:=jH s (by omega);obtain⟨m5,F⟩:=zx (d.wait.length+1);rw[<-F] at W s;subst W;have t:gp (fun a=>v.wv.ownBlock=some a) m k:=.tJ T (fun a c=>c);have G:=qq j.wt j.nS (by decide);have u:=t.heap E.nS G;have a6:=qh j.nS;have a7:=zzm a6 o.size;have b8:=qh B;obtain⟨X,-⟩:=zzk C.nS 25;obtain⟨b9,-,-,-,-,-,-,c0,-⟩:=zzc B;have a8:(w1.alloc (.cells #[.int .i64 (e:Int),.int .i64 g] 153)).cell? ⟨rp,25,none⟩=some v.wv:=((aa w1.heap.size w1).alloc (zzl _) _).cell a7 |>.trans X;obtain⟨a9,-⟩:=zzk u 25;have c1:=fun b0=>qj u b0;have Y:jX U w rp v {d with wait:=d.wait++[((e:Int),g)]} (k.setCell ⟨rp,25,none⟩ (.slice (some ⟨h,0,none⟩) m5 l)):=by
  have c2:=o.size;have c3:=r.size;have c4:=t.size;have Z:gp (fun a=>a=rp\/v.wv.ownBlock=some a) w (k.setCell ⟨rp,25,none⟩ (.slice (some ⟨h,0,none⟩) m5 l)):=(((gp.aD o).trans (.aD r)).trans (t.wide (fun a _ c=>.inr c))).setCell (p:=⟨rp,25,none⟩) (.inl (.inl rfl)) _;have H:∀ a,(Value.slice (some ⟨h,0,none⟩) m5 l).ownBlock=some a->v.wv.ownBlock=some a\/w.heap.size<=a:=fun a n=>by
   rcases V with f | f
   ·exact .inl (by rw[<-f];exact n)
   ·rw[n] at f;have:=aA f;exact .inr (by omega)
  have b1:¬h=rp:=fun c=>by
   rcases H h rfl with f | f
   ·exact G (by rw[<-c];exact f)
   ·omega
  have b2:jM k 0 (.slice (some ⟨h,0,none⟩) m5 l) (d.wait++[((e:Int),g)]):=(by unfold jM;rw[Qh,ae];show k.ownsRow 0 _ 2 _ (d.wait.length+1) _;rw[<-F];exact s);have b3:jM (k.setCell ⟨rp,25,none⟩ (.slice (some ⟨h,0,none⟩) m5 l)) 0 (.slice (some ⟨h,0,none⟩) m5 l) (d.wait++[((e:Int),g)]):=qi b2 ((gp.refl (fun a=>a=rp) k).setCell (p:=⟨rp,25,none⟩) (.inl rfl) _) (fun a n c=>by cases n;exact b1 c);refine⟨⟨v.sv,.slice (some ⟨h,0,none⟩) m5 l,tI,j.newW Z (qp (i:=25) u _) b3 (fun a n c=>?_),fun a c=>.inl c,H⟩,Z.wide fun a _ c=>?_⟩
  ·rcases H a n with f | f
   ·exact j.wU a f c
   ·have:=I a c;omega
  ·rcases c with c | c
   ·exact .inl (.inl c)
   ·exact .inr (.inr c)
 have b4:=qg Y;have a0:=qg S;have b5:=qg q;rw[A] at X a8 a9 a0;subst D;clear Y S q o C r M E N O Q R s T V F t G u j L A B J h8 K I;go_enter Tryz.func121,Tryz.ntmps121;go_wp2;rw[<-qb b5];go_region_law (refine zS (by kernel_rfl) (.tmp 20) (.tmp 25) 87 87 (by kernel_rfl) (by kernel_rfl) (.slice a2 a4 a3) (.slice (some ⟨w1.heap.size,0,none⟩) 1 1) _ _ (by kernel_rfl) (by kernel_rfl) (qb a0) ?_)
 all_goals
  (try simp only[Exit.then])
  (try go_simp)
  (try go_wp2)
  (first | go_end0 | refine bV (ed rfl _ _ _) rfl ?_)
  exact⟨⟨_,rfl⟩,qb b4⟩
end
section
variable {U:Nat->Prop}{w w1 w':World}{rp:Nat}{d d' d'':Dc}{v:Dv}{tI:List Value}
def yn (a:gT U w rp d v tI):(d.l.zip tI).length=d.l.length:=by rw[eu,a.pl,dR]
def gT.find (a:gT U w rp d v tI)(b c:Int):Calls Tryz.prog 140 #[.pointer (some ⟨rp,0,none⟩),.int .i64 b,.int .i64 c] w fun f w'=>(∃ e:Int,f=.returned (.int .i64 e)/\((b,c)∈d.l.map qw->e=(d.l.findIdx (gN b c):Nat)))/\Below w.heap.size w w':=by
 refine (qu3 a.sf a.c9 (by rw[yn a];have:=a.len;omega) b c).mono ?_;rintro f w' ⟨⟨e,j,k⟩,l⟩;refine⟨⟨e,j,fun m=>?_⟩,l⟩;have g:=qu2 a.pl m;rcases k with ⟨h,-⟩ | ⟨o,i,n⟩
 ·rw[g] at h;cases h
 ·rw[g] at i;have:=aA i;rw[n,<-this]
end
variable{ro:Option Addr}
abbrev ph (a:gt)(b:Int)(c:Option Addr)(e f:Nat):Obj:=.cells #[.int .i64 b,.int .i64 a.iV,.int .i64 a.x,.int .i64 a.y,.int .i64 a.w,.int .i64 a.h,.slice c e f,.int .i64 a.mark] 52
section
variable {U:Nat->Prop}{w w1 w2 w':World}{rp:Nat}{d d' d'':Dc}{v:Dv}{tI:List Value}
def gT.gl (b:gT U w rp d v tI):∀ c,ra rp v c->c<w.heap.size:=fun c a=>by
 rcases a with a | a | a | a<;>subst a
 ·exact qh b.nS
 ·exact (ab (b.st 0 (by omega)).1 _ rfl).2
 ·exact (ab (b.st 1 (by omega)).1 _ rfl).2
 ·exact (ab (b.st 2 (by omega)).1 _ rfl).2
def kW (h:gT U w rp d v tI)(a:Nat)(i:((a:Int),q)∈d.l.map qw)(b:Obj):Calls Tryz.prog 140 #[.pointer (some ⟨rp,0,none⟩),.int .i64 (a:Int),.int .i64 q] (w.alloc b) fun f w2=>f=.returned (.int .i64 ((d.l.findIdx (gN a q):Nat):Int))/\gT U w2 rp d v tI/\Below w.heap.size w w2/\w2.heap[w.heap.size]?=some b:=by
 have c:Below w.heap.size w (w.alloc b):=(aa _ w).alloc (zzl _) _;have g:=h.below c;refine (g.find (a:Int) q).mono ?_;rintro f w2 ⟨⟨k,rfl,j⟩,e⟩;rw[j i];exact⟨rfl,g.below e,c.trans (e.mono c.size),(e.block _ (by simp)).trans (qt w b _ rfl)⟩
structure qz (w:World)(rp g n vc i:Nat)(s:gv)(qo:Option Addr)(np qc:Nat):Prop where
 c9:w.cell? ⟨rp,9,none⟩=some (.slice (some ⟨g,0,none⟩) n vc)
 lr:rp<w.heap.size
 lg:g<w.heap.size
 fz:∀ t,w.frozen? ⟨g,t,none⟩=false
 fr:∀ t,w.frozen? ⟨rp,t,none⟩=false
 a0:w.cell? ⟨g,i*10,none⟩=some (.int .i64 s.cl)
 a1:w.cell? ⟨g,i*10+1,none⟩=some (.int .i64 s.num)
 a2:w.cell? ⟨g,i*10+2,none⟩=some (.int .i64 s.x)
 a3:w.cell? ⟨g,i*10+3,none⟩=some (.int .i64 s.y)
 a4:w.cell? ⟨g,i*10+4,none⟩=some (.int .i64 s.w)
 a5:w.cell? ⟨g,i*10+5,none⟩=some (.int .i64 s.h)
 a6:w.cell? ⟨g,i*10+6,none⟩=some (.slice qo np qc)
 a7:w.cell? ⟨g,i*10+7,none⟩=some (.int .i64 s.dx)
 a8:w.cell? ⟨g,i*10+8,none⟩=some (.int .i64 s.dy)
 a9:w.cell? ⟨g,i*10+9,none⟩=some (.int .i64 s.left)
def gT.wj (c:gT U w rp d v tI)(y:d.l[n]?=some u)(h:v.sv=.slice (some ⟨i,0,none⟩) d.l.length j)(z:tI[n]?=some (.slice ro g b)):qz w rp i d.l.length j n u ro g b/\g=u.px.length:=by
 obtain⟨D,E,F,G,e,A,-,-,-,f,-,-,B,a⟩:=c.at y;rw[h] at e;simp only[ai,ac,bz,bB,cj] at e;obtain⟨rfl,rfl⟩:=e;rw[z] at f;simp only[ac,ai] at f;obtain⟨rfl,rfl,rfl⟩:=f;have k:=a 0 (by omega);have l:=a 1 (by omega);have m:=a 2 (by omega);have o:=a 3 (by omega);have p:=a 4 (by omega);have q:=a 5 (by omega);have r:=a 6 (by omega);have s:=a 7 (by omega);have t:=a 8 (by omega);have x:=a 9 (by omega);simp only[zA,bp,cD,bL] at k l m o p q r s t x;exact⟨⟨by rw[c.c9,h],qh c.nS,A,B,fun C=>qj c.nS C,k,l,m,o,p,q,r,s,t,x⟩,rfl⟩
def vN (a:gT U w rp d v tI)(f:i<d.l.length):Calls Tryz.prog 46 #[.pointer (some ⟨rp,0,none⟩),.int .i64 (i:Int)] w fun c w'=>∃ b,c=.returned b/\xv U w' w.heap.size b ((d.l.eraseIdx i).zip (tI.eraseIdx i))/\Below w.heap.size w w':=by
 refine (VR a.sf a.c9 (by rw[yn a];have:=a.len;omega) i (by rw[yn a];exact f)).mono ?_;rintro c w' ⟨b,g,e,h⟩;rw[Xt] at e;exact⟨b,g,e,h⟩
def xv.lt {b:Nat}{c:Value}{e:List (gv×Value)}(f:xv U w b c e):∀ a,c.ownBlock=some a->b<=a/\a<w.heap.size:=ab f.own
def gT.lay (e:gT U w rp d v tI)(m:∀ a,U a->a<w.heap.size)(g:Below w.heap.size w w')(h:xv U w' w.heap.size z (l'.zip xs))(n:xs.length=l'.length)(o:l'.length<=16):gT U (w'.setCell ⟨rp,9,none⟩ z) rp {d with l:=l'} {v with sv:=z} xs/\gp (fun a=>a=rp) w (w'.setCell ⟨rp,9,none⟩ z)/\∀ a,z.ownBlock=some a->w.heap.size<=a:=by
 have q:=qh e.nS;have j:gp (fun a=>a=rp) w' (w'.setCell ⟨rp,9,none⟩ z):=(gp.refl (fun a=>a=rp) w').setCell (p:=⟨rp,9,none⟩) (.inl rfl) _;have k:=(gp.aD g).trans j;have f:=fun a b=>(h.lt a b).1;have r:=(g.block rp q).trans e.nS;refine⟨e.newl (k.wide fun a _ c=>.inl c) (qp (i:=9) r _) ((h.base0).but j (fun a b c=>?_) (fun a b c=>e.tL.1 (c ▸ b))) n (fun a b c=>?_) o,k,f⟩
 ·have:=f a b;omega
 ·have:=f a b;have:=m a c;omega
def Vw (k:gT U w rp d v tI)(G:∀ f,U f->f<w.heap.size)(g:Nat)(b:gt)(r:Option Addr)(s t:Nat)(h2:b.kind=2)(u:((g:Int),b.iV)∈d.l.map qw):Calls Tryz.prog 121 #[.pointer (some ⟨rp,0,none⟩),.int .i64 (g:Int),.agg #[.int .i64 b.kind,.int .i64 b.iV,.int .i64 b.x,.int .i64 b.y,.int .i64 b.w,.int .i64 b.h,.slice r s t,.int .i64 b.mark]] w fun a w'=>(∃ n,a=.returned n)/\jX U w rp v (qO d g b) w':=by
 obtain⟨c,i,-,-⟩:=xC u;obtain⟨e,x⟩:=zx (d.l.findIdx (gN g b.iV));have hF:=kW k g u (ph b 2 r s t);have H:qO d g b={zw d c with l:=d.l.eraseIdx e}:=(by unfold qO;rw[ah (by omega),ah (by omega),i];simp only;rw[an h2,de,x]);rw[<-x] at hF i;rw[H,h2];obtain⟨a0,a1,y,z,I,-,-,-,-,A,-,J,-,-⟩:=k.at i;obtain⟨B,K⟩:=zx c.px.length;rw[<-K] at A;obtain⟨m,L⟩:=zx d.l.length;have M:=(zzg i).1;have a2:=k.len;have N:Hid (Calls Tryz.prog 140 #[.pointer (some ⟨rp,0,none⟩),.int .i64 (g:Int),.int .i64 b.iV] (w.alloc (ph b 2 r s t)) fun a w2=>a=.returned (.int .i64 (e:Int))/\qz w2 rp a0 m a1 e c y B z/\w2.cell? ⟨w.heap.size,0,none⟩=some (.int .i64 2)/\w.heap.size<w2.heap.size/\
  Calls Tryz.prog 45 #[.pointer (some ⟨rp,0,none⟩),.agg #[.int .i64 c.cl,.int .i64 c.num,.int .i64 c.x,.int .i64 c.y,.int .i64 c.w,.int .i64 c.h,.slice y B z,.int .i64 c.dx,.int .i64 c.dy,.int .i64 c.left]] w2 fun a C=>a=.returned (.tuple #[])/\
   Calls Tryz.prog 46 #[.pointer (some ⟨rp,0,none⟩),.int .i64 (e:Int)] C fun a j=>∃ h,a=.returned h/\(∃ n,j.cell? ⟨rp,9,none⟩=some n)/\(∀ D,j.frozen? ⟨rp,D,none⟩=false)/\rp<j.heap.size/\(∃ o O p,h=.slice o O p)/\jX U w rp v {zw d c with l:=d.l.eraseIdx e} (j.setCell ⟨rp,9,none⟩ h)):=by
  refine hF.mono ?_;rintro a w2 ⟨rfl,P,Q,R⟩;have a3:=P.wj i I A;have c2:=Q.size;refine⟨rfl,by rw[L];exact a3.1,qe R 0,qh R,(jK P c J y B z).mono ?_⟩;rintro a C ⟨rfl,q,S⟩;have c3:=S.size;refine⟨rfl,(vN (i:=e) q M).mono ?_⟩;rintro a j ⟨h,rfl,T,V⟩;have E:=(V.block rp (qh q.nS)).trans q.nS;refine⟨h,rfl,⟨_,qe E 9⟩,fun D=>qj E D,qh E,?_,?_⟩
  ·obtain⟨o,p,a⟩:=qr T.own;exact⟨o,_,p,a⟩
  ·have a4:((zw d c).l.eraseIdx e).length<=16:=(by show (d.l.eraseIdx e).length<=16;rw[bZ];split<;>omega);obtain⟨a5,k2,a6⟩:=q.lay (fun f F=>by have:=G f F;omega) V T (by rw[bZ,bZ,k.pl];rfl) a4;refine⟨⟨h,v.wv,_,a5,fun f F=>.inr (by have:=a6 f F;omega),fun f a=>.inl a⟩,?_⟩;have a7:gp (sL rp v) w w2:=.aD Q;exact (a7.step S fun f a=>.inl (.inl a)).step k2 fun f a=>.inl (.inl (.inl a))
 have c4:(0:Int)<=(e:Int):=(by omega);have c5:(e:Int)<(m:Int):=(by omega);have c6:m<=16:=(by omega);clear hF H k G i u h2 I A J x a2 K L M;have c7:IntKind.i64.wrap ((m:Int)-1)=(m:Int)-1:=(by rw[af];omega);go_enter Tryz.func121,Tryz.ntmps121
 go_wp2_with (first
   | (go_at_call 140;refine (qb N).mono ?_;rintro a w2 ⟨rfl,a8,c8,c9,W⟩;obtain⟨a9,d0,d1,d2,d3,b0,b1,b2,b3,b4,b5,b6,b7,b8,b9⟩:=a8;have X:=qg W;clear W N)
   | (go_at_call 45;refine (qb X).mono ?_;rintro a C ⟨rfl,Y⟩;have c0:=qg Y;clear Y a9 b0 b1 b2 b3 b4 b5 b6 b7 b8 b9 X)
   | (go_at_call 46;refine (qb c0).mono ?_;rintro a j ⟨h,rfl,⟨n,d4⟩,d5,d6,⟨o,O,p,rfl⟩,Z⟩;have c1:=qg Z;clear Z))
 go_end0;exact⟨⟨_,rfl⟩,qb c1⟩
end
variable{b9:World}
section
variable {U:Nat->Prop}{w w1 w2 w':World}{rp:Nat}{d d' d'':Dc}{v:Dv}{tI:List Value}
def xv.one (a:xv U w n z b0):∀ b∈qQ b0,b.oneCell'=true:=Zc b0 (fun c e=>by
 obtain⟨f,g,h,-⟩:=a.px c e;exact⟨f,_,g,h⟩)
def qq5 (p:xs.length=l'.length)(W:l'.length<=1000)(g:xv U b9 m.heap.size z (l'.zip xs))(q:Below m.heap.size m b9)(A:∀ b,U b->b<m.heap.size)(r:n=u.px.length)(B:xq u)(C:gS U b9 (.slice ro n i) u.px):∃ h e,(Builtin.append_ #[115,115] 115 #[z,.slice (some ⟨b9.heap.size,0,none⟩) 1 1]).run Tryz.prog (b9.alloc (.cells #[.int .i64 u.cl,.int .i64 u.num,.int .i64 u.x,.int .i64 u.y,.int .i64 u.w,.int .i64 u.h,.slice ro n i,.int .i64 u.dx,.int .i64 u.dy,.int .i64 u.left] 128))=.ok h e/\Below m.heap.size m e/\xv U e m.heap.size h ((l'++[u]).zip (xs++[.slice ro n i])):=by
 have X:(l'.zip xs).length=l'.length:=(by rw[eu,p,dR]);obtain⟨c,k⟩:∃ c:World,c=b9.alloc (.cells #[.int .i64 u.cl,.int .i64 u.num,.int .i64 u.x,.int .i64 u.y,.int .i64 u.w,.int .i64 u.h,.slice ro n i,.int .i64 u.dx,.int .i64 u.dy,.int .i64 u.left] 128):=⟨_,rfl⟩;have j:Below b9.heap.size b9 c:=(by rw[k];exact (aa _ b9).alloc (zzl _) _);have D:c.heap[b9.heap.size]?=some (.cells #[.int .i64 u.cl,.int .i64 u.num,.int .i64 u.x,.int .i64 u.y,.int .i64 u.w,.int .i64 u.h,.slice ro n i,.int .i64 u.dx,.int .i64 u.dy,.int .i64 u.left] 128):=(by rw[k];exact qt b9 _ _ rfl);have E:gp (fun _=>False) b9 c:=.aD j;have s:=g.but E (fun _ _ a=>a) (fun _ _ a=>a);obtain⟨F,G,H,I,J⟩:=aZ QV;have K:=q.size;have Y:=j.size;obtain⟨h,e,L,M,N,-,-⟩:=cE (P:=Tryz.prog) (w:=c) m.heap.size 115 115 128 F _ 10 96 Tryz.underlying115 G H I J rfl (by decide) z _ _ s.own ⟨b9.heap.size,0,none⟩ 1 1 [.int .i64 u.cl,.int .i64 u.num,.int .i64 u.x,.int .i64 u.y,.int .i64 u.w,.int .i64 u.h,.slice ro n i,.int .i64 u.dx,.int .i64 u.dy,.int .i64 u.left] rfl (xT D) (by simp[Value.oneCell']) (by unfold maxLen;omega) (by omega) (by omega);rw[<-k];have t:gp (fun b=>z.ownBlock=some b) c e:=.tJ N (fun b a=>a);have O:=(q.trans (j.mono K)).trans (t.below (by omega) (fun b a=>(s.lt b a).1));refine⟨h,e,L,O,?_⟩;have l:(l'++[u]).zip (xs++[.slice ro n i])=l'.zip xs++[(u,.slice ro n i)]:=List.zip_append p.symm;have x:=(gp.aD j).trans t;have y:∀ b,U b->¬z.ownBlock=some b:=fun b Q a=>by have:=A b Q;have:=(g.lt b a).1;omega
 refine⟨?_,fun o f=>?_,fun o f=>?_⟩
 ·rw[l,ae,jO];exact M
 ·rw[l] at f;rcases al.1 f with a | a
  ·obtain⟨R,S,T,V⟩:=g.px o a;exact⟨R,S,T,V.but x y⟩
  ·rw[ay] at a;subst a;exact⟨ro,i,by rw[r],by rw[<-r];exact C.but x y⟩
 ·rw[l] at f;rcases al.1 f with a | a
  ·exact g.ok o a
  ·rw[ay] at a;subst a;exact B
def qa4 (o:gT U w rp d v tI)(a3:∀ g,U g->g<w.heap.size)(p:Nat)(c:gt)(D:Option Addr)(E F:Nat)(M:c.kind=5)(N:((p:Int),c.iV)∈d.l.map qw):Calls Tryz.prog 121 #[.pointer (some ⟨rp,0,none⟩),.int .i64 (p:Int),.agg #[.int .i64 c.kind,.int .i64 c.iV,.int .i64 c.x,.int .i64 c.y,.int .i64 c.w,.int .i64 c.h,.slice D E F,.int .i64 c.mark]] w fun b w'=>(∃ G,b=.returned G)/\jX U w rp v (qO d p c) w':=by
 obtain⟨a,u,-,-⟩:=xC N;obtain⟨e,O⟩:=zx (d.l.findIdx (gN p c.iV));have hF:=kW o p N (ph c 5 D E F);have a4:qO d p c=if e+1<d.l.length then {zw d a with l:=d.l.eraseIdx e++[a]} else d:=(by unfold qO;rw[ah (by omega),ah (by omega),u];simp only;rw[ah (by omega),ah (by omega),ah (by omega),an M,de,O]);rw[<-O] at hF u;rw[a4,M];obtain⟨x,d9,j,k,P,f8,e0,e1,e2,Q,a5,R,-,-⟩:=o.at u;obtain⟨m,H⟩:=zx a.px.length;rw[<-H] at Q;obtain⟨h,S⟩:=zx d.l.length;have T:=(zzg u).1;have e3:=o.len;have e4:v.sv.ownBlock=some x:=(by rw[P];rfl);have I:Hid (Calls Tryz.prog 140 #[.pointer (some ⟨rp,0,none⟩),.int .i64 (p:Int),.int .i64 c.iV] (w.alloc (ph c 5 D E F)) fun b w2=>b=.returned (.int .i64 (e:Int))/\qz w2 rp x h d9 e a j m k/\(w2.cell? ⟨w.heap.size,0,none⟩=some (.int .i64 5)/\w2.cell? ⟨w.heap.size,2,none⟩=some (.int .i64 c.x)/\w2.cell? ⟨w.heap.size,3,none⟩=some (.int .i64 c.y)/\w2.cell? ⟨w.heap.size,4,none⟩=some (.int .i64 c.w)/\w2.cell? ⟨w.heap.size,5,none⟩=some (.int .i64 c.h)/\w2.cell? ⟨w.heap.size,6,none⟩=some (.slice D E F)/\w.heap.size<w2.heap.size)/\(¬e+1<h->jX U w rp v d w2)/\
  (e+1<h->Calls Tryz.prog 45 #[.pointer (some ⟨rp,0,none⟩),.agg #[.int .i64 a.cl,.int .i64 a.num,.int .i64 a.x,.int .i64 a.y,.int .i64 a.w,.int .i64 a.h,.slice j m k,.int .i64 a.dx,.int .i64 a.dy,.int .i64 a.left]] (w2.alloc (.cells #[.int .i64 a.cl,.int .i64 a.num,.int .i64 a.x,.int .i64 a.y,.int .i64 a.w,.int .i64 a.h,.slice j m k,.int .i64 a.dx,.int .i64 a.dy,.int .i64 a.left] 128)) fun b y=>b=.returned (.tuple #[])/\
   Calls Tryz.prog 46 #[.pointer (some ⟨rp,0,none⟩),.int .i64 (e:Int)] y fun b f=>∃ q z r,b=.returned (.slice q z r)/\(f.cell? ⟨w2.heap.size,0,none⟩=some (.int .i64 a.cl)/\f.cell? ⟨w2.heap.size,1,none⟩=some (.int .i64 a.num)/\f.cell? ⟨w2.heap.size,2,none⟩=some (.int .i64 a.x)/\f.cell? ⟨w2.heap.size,3,none⟩=some (.int .i64 a.y)/\f.cell? ⟨w2.heap.size,4,none⟩=some (.int .i64 a.w)/\f.cell? ⟨w2.heap.size,5,none⟩=some (.int .i64 a.h)/\f.cell? ⟨w2.heap.size,6,none⟩=some (.slice j m k)/\f.cell? ⟨w2.heap.size,7,none⟩=some (.int .i64 a.dx)/\f.cell? ⟨w2.heap.size,8,none⟩=some (.int .i64 a.dy)/\f.cell? ⟨w2.heap.size,9,none⟩=some (.int .i64 a.left))/\w2.heap.size<f.heap.size/\
    ∃ s n,(Builtin.append_ #[115,115] 115 #[.slice q z r,.slice (some ⟨f.heap.size,0,none⟩) 1 1]).run Tryz.prog (f.alloc (.cells #[.int .i64 a.cl,.int .i64 a.num,.int .i64 a.x,.int .i64 a.y,.int .i64 a.w,.int .i64 a.h,.slice j m k,.int .i64 a.dx,.int .i64 a.dy,.int .i64 a.left] 128))=.ok s n/\(∃ G,n.cell? ⟨rp,9,none⟩=some G)/\(∀ V,n.frozen? ⟨rp,V,none⟩=false)/\rp<n.heap.size/\(∃ q z r,s=.slice q z r)/\jX U w rp v {zw d a with l:=d.l.eraseIdx e++[a]} (n.setCell ⟨rp,9,none⟩ s))):=by
  refine hF.mono ?_;rintro b w2 ⟨rfl,J,W,t⟩;have e5:=J.wj u P Q;have f9:=W.size;refine⟨rfl,by rw[S];exact e5.1,⟨qe t 0,qe t 2,qe t 3,qe t 4,qe t 5,qe t 6,qh t⟩,fun _=>jX.of J (.aD W),fun A=>?_⟩;have a6:Below w2.heap.size w2 (w2.alloc (.cells #[.int .i64 a.cl,.int .i64 a.num,.int .i64 a.x,.int .i64 a.y,.int .i64 a.w,.int .i64 a.h,.slice j m k,.int .i64 a.dx,.int .i64 a.dy,.int .i64 a.left] 128)):=(aa _ w2).alloc (zzl _) _;have e6:=J.below a6;refine (jK e6 a R j m k).mono ?_;rintro b y ⟨rfl,K,X⟩;have e7:=X.size;have e8:w2.heap.size<y.heap.size:=zzm (by simp) e7;have e9:=X.heap (qt w2 _ _ rfl) (fun b=>by have:=J.gl _ b;omega);refine⟨rfl,(vN (i:=e) K T).mono ?_⟩;rintro b f ⟨g0,rfl,a7,L⟩;have g1:=L.size;obtain⟨q,r,f0⟩:=qr a7.own;have i:=(L.block _ e8).trans e9;have a8:∀ g,U g->g<y.heap.size:=fun g Y=>by have:=a3 g Y;omega
  have a9:=((gp.aD W).trans (.aD a6)).trans X;have f1:gS U f (.slice j m k) a.px:=(by rw[H];exact (a5.but a9 o.nU).below L);have g2:((zw d a).l.eraseIdx e).length+1=d.l.length:=(by show (d.l.eraseIdx e).length+1=_;rw[bZ,an T];omega);have b0:(tI.eraseIdx e).length=((zw d a).l.eraseIdx e).length:=(by rw[bZ,bZ,o.pl];rfl);obtain⟨s,n,B,b1,b2⟩:=qq5 b0 (by omega) a7 L a8 H R f1;rw[f0] at B ⊢;have Z:=(b1.block rp (qh K.nS)).trans K.nS;obtain⟨b3,b4,f2⟩:=qr b2.own;refine⟨q,_,r,rfl,⟨qe i 0,qe i 1,qe i 2,qe i 3,qe i 4,qe i 5,qe i 6,qe i 7,qe i 8,qe i 9⟩,by omega,s,n,B,⟨_,qe Z 9⟩,fun V=>qj Z V,qh Z,⟨b3,_,b4,f2⟩,?_⟩;obtain⟨f3,k2,f4⟩:=K.lay a8 b1 b2 (by rw[ae,ae,b0];rfl) (by rw[ae];simp only[aX,cM];omega);refine⟨⟨s,v.wv,_,f3,fun g Y=>.inr (by have:=f4 g Y;omega),fun g b=>.inl b⟩,?_⟩;exact (a9.wide fun g _ b=>.inl b).step k2 fun g b=>.inl (.inl (.inl b))
 have g3:(0:Int)<=(e:Int):=(by omega);have g4:(e:Int)<(h:Int):=(by omega);have g5:h<=16:=(by omega);have g6:IntKind.i64.wrap ((h:Int)-1)=(h:Int)-1:=(by rw[af];omega);have g7:¬x=w.heap.size:=(by omega);have g8:¬w.heap.size=x:=(by omega);have g9:¬rp=x:=fun b=>e0 b.symm;have i0:¬rp=w.heap.size:=(by have:=qh o.nS;omega);rw[<-S];clear hF a4 o a3 u N M P Q R O e3 H S T a5 e1 e2 e4;by_cases A:e+1<h
 ·rw[an A];have f5:(e:Int)<(h:Int)-1:=(by omega);go_enter Tryz.func121,Tryz.ntmps121
  go_wp2_with (first
    | (go_at_call 140;refine (qb I).mono ?_;rintro b w2 ⟨rfl,a0,⟨b5,b6,b7,b8,b9,c0,c1⟩,-,c2⟩;obtain⟨c3,c4,c5,a1,c6,c7,c8,c9,d0,d1,d2,d3,d4,d5,d6⟩:=a0;have d7:=qg (c2 A);clear c2 I a1)
    | (go_at_call 45;refine (qb d7).mono ?_;rintro b y ⟨rfl,d8⟩;have f6:=qg d8;clear d8 c3 c4 c5 c6 c7 c8 c9 d0 d1 d2 d3 d4 d5 d6 d7 b5 b6 b7 b8 b9 c0 c1)
    | (go_at_call 46;refine (qb f6).mono ?_;rintro b f ⟨q,z,r,rfl,⟨i1,i2,i3,i4,i5,i6,i7,i8,i9,j0⟩,j1,s,n,B,⟨G,j2⟩,j3,j4,⟨b3,j5,b4,rfl⟩,C⟩;have f7:=qg B;have a2:=qg C;clear C B)
    | (at_builtin;refine zq rfl _ _ 115 115 rfl rfl _ _ _ _ rfl rfl (qb f7) ?_))
  go_end0;exact⟨⟨_,rfl⟩,qb a2⟩
 ·rw[ah A];have f5:¬(e:Int)<(h:Int)-1:=(by omega);go_enter Tryz.func121,Tryz.ntmps121
  go_wp2_with (go_at_call 140;refine (qb I).mono ?_;rintro b w2 ⟨rfl,a0,⟨b5,b6,b7,b8,b9,c0,c1⟩,C,-⟩;obtain⟨c3,c4,c5,a1,c6,c7,c8,c9,d0,d1,d2,d3,d4,d5,d6⟩:=a0;have a2:=qg (C A);clear C I a1)
  go_end0;exact⟨⟨_,rfl⟩,qb a2⟩
end
section
variable {U:Nat->Prop}{w w1 w2 w':World}{rp:Nat}{d d' d'':Dc}{v:Dv}{tI:List Value}
def qq6 (t:xs.length=l'.length)(W:l'.length<=1000)(X:0<l'.length)(e:xv U b9 (m.alloc (.cells #[.int .i64 u.cl,.int .i64 u.num,.int .i64 u.x,.int .i64 u.y,.int .i64 u.w,.int .i64 u.h,.slice ro n i,.int .i64 u.dx,.int .i64 u.dy,.int .i64 u.left] 128)).heap.size z (l'.zip xs))(h:Below (m.alloc (.cells #[.int .i64 u.cl,.int .i64 u.num,.int .i64 u.x,.int .i64 u.y,.int .i64 u.w,.int .i64 u.h,.slice ro n i,.int .i64 u.dx,.int .i64 u.dy,.int .i64 u.left] 128)).heap.size (m.alloc (.cells #[.int .i64 u.cl,.int .i64 u.num,.int .i64 u.x,.int .i64 u.y,.int .i64 u.w,.int .i64 u.h,.slice ro n i,.int .i64 u.dx,.int .i64 u.dy,.int .i64 u.left] 128)) b9)(x:∀ b,U b->b<m.heap.size)(o:n=u.px.length)(y:xq u)(A:gS U b9 (.slice ro n i) u.px):∃ f c,(Builtin.append_ #[115,115] 115 #[.slice (some ⟨m.heap.size,0,none⟩) 1 1,z]).run Tryz.prog b9=.ok f c/\Below m.heap.size m c/\xv U c m.heap.size f ((u::l').zip (.slice ro n i::xs)):=by
 have Y:(l'.zip xs).length=l'.length:=(by rw[eu,t,dR]);have B:Below m.heap.size m (m.alloc (.cells #[.int .i64 u.cl,.int .i64 u.num,.int .i64 u.x,.int .i64 u.y,.int .i64 u.w,.int .i64 u.h,.slice ro n i,.int .i64 u.dx,.int .i64 u.dy,.int .i64 u.left] 128)):=(aa _ m).alloc (zzl _) _;have Z:(m.alloc (.cells #[.int .i64 u.cl,.int .i64 u.num,.int .i64 u.x,.int .i64 u.y,.int .i64 u.w,.int .i64 u.h,.slice ro n i,.int .i64 u.dx,.int .i64 u.dy,.int .i64 u.left] 128)).heap.size=m.heap.size+1:=(by simp);have a0:=h.size;have C:=
  eD (base:=m.heap.size) (e:=128) (size:=10) m #[.int .i64 u.cl,.int .i64 u.num,.int .i64 u.x,.int .i64 u.y,.int .i64 u.w,.int .i64 u.h,.slice ro n i,.int .i64 u.dx,.int .i64 u.dy,.int .i64 u.left] 1 (zzl _) (by unfold maxLen;omega) (by rfl)
 have D:gp (fun _=>False) (m.alloc (.cells #[.int .i64 u.cl,.int .i64 u.num,.int .i64 u.x,.int .i64 u.y,.int .i64 u.w,.int .i64 u.h,.slice ro n i,.int .i64 u.dx,.int .i64 u.dy,.int .i64 u.left] 128)) b9:=.aD h;have E:=qi C D (fun _ _ a=>a);obtain⟨F,G,H,I,J⟩:=aZ QV;obtain⟨p,K,q⟩:=jH e.own (by omega);have L:=dq e.own (g:=p) (by rw[q];rfl);obtain⟨f,c,r,M,N,-,-⟩:=cE (P:=Tryz.prog) (w:=b9) m.heap.size 115 115 128 F _ 10 96 Tryz.underlying115 G H I J rfl (by decide) (.slice (some ⟨m.heap.size,0,none⟩) 1 1) _ _ E ⟨p,0,none⟩ (l'.zip xs).length K (qQ (l'.zip xs)) (v7 _) L e.one (by unfold maxLen;omega) (by omega) (by omega);rw[<-q] at r;have j:gp (fun b=>b=m.heap.size) b9 c:=.tJ N (fun b a=>by
  have:=a;exact (aA this).symm)
 have O:=(B.trans (h.mono (by omega))).trans (j.below (by omega) (fun b a=>by omega));have s:∀ b,U b->¬b=m.heap.size:=fun b Q a=>by have:=x b Q;omega
 refine⟨f,c,r,O,?_,fun k l=>?_,fun k l=>?_⟩
 ·show c.ownsRow m.heap.size _ 10 f ((l'.zip xs).length+1) (zA (u,.slice ro n i)++qQ (l'.zip xs));rw[Nat.add_comm];exact M
 ·rcases bf.1 l with a | a
  ·subst a;exact⟨ro,i,by rw[o],by rw[<-o];exact A.but j s⟩
  ·obtain⟨R,S,T,V⟩:=e.px k a;exact⟨R,S,T,V.but j s⟩
 ·rcases bf.1 l with a | a
  ·subst a;exact y
  ·exact e.ok k a
def qa5 (n:gT U w rp d v tI)(a1:∀ g,U g->g<w.heap.size)(o:Nat)(e:gt)(C:Option Addr)(D E:Nat)(L:e.kind=6)(M:((o:Int),e.iV)∈d.l.map qw):Calls Tryz.prog 121 #[.pointer (some ⟨rp,0,none⟩),.int .i64 (o:Int),.agg #[.int .i64 e.kind,.int .i64 e.iV,.int .i64 e.x,.int .i64 e.y,.int .i64 e.w,.int .i64 e.h,.slice C D E,.int .i64 e.mark]] w fun b w'=>(∃ F,b=.returned F)/\jX U w rp v (qO d o e) w':=by
 obtain⟨a,t,-,-⟩:=xC M;obtain⟨f,N⟩:=zx (d.l.findIdx (gN o e.iV));have hF:=kW n o M (ph e 6 C D E);have a2:qO d o e=if 0<f then {zw d a with l:=a::d.l.eraseIdx f} else d:=(by unfold qO;rw[ah (by omega),ah (by omega),t];simp only;rw[ah (by omega),ah (by omega),ah (by omega),ah (by omega),an L,de,N]);rw[<-N] at hF t;rw[a2,L];obtain⟨u,e0,i,j,O,f8,e1,e2,e3,P,a3,Q,-,-⟩:=n.at t;obtain⟨k,G⟩:=zx a.px.length;rw[<-G] at P;obtain⟨x,a4⟩:=zx d.l.length;have R:=(zzg t).1;have e4:=n.len;have e5:v.sv.ownBlock=some u:=(by rw[O];rfl);have H:Hid (Calls Tryz.prog 140 #[.pointer (some ⟨rp,0,none⟩),.int .i64 (o:Int),.int .i64 e.iV] (w.alloc (ph e 6 C D E)) fun b w2=>b=.returned (.int .i64 (f:Int))/\qz w2 rp u x e0 f a i k j/\(w2.cell? ⟨w.heap.size,0,none⟩=some (.int .i64 6)/\w2.cell? ⟨w.heap.size,2,none⟩=some (.int .i64 e.x)/\w2.cell? ⟨w.heap.size,3,none⟩=some (.int .i64 e.y)/\w2.cell? ⟨w.heap.size,4,none⟩=some (.int .i64 e.w)/\w2.cell? ⟨w.heap.size,5,none⟩=some (.int .i64 e.h)/\w2.cell? ⟨w.heap.size,6,none⟩=some (.slice C D E)/\w.heap.size<w2.heap.size)/\(¬0<f->jX U w rp v d w2)/\
  (0<f->Calls Tryz.prog 45 #[.pointer (some ⟨rp,0,none⟩),.agg #[.int .i64 a.cl,.int .i64 a.num,.int .i64 a.x,.int .i64 a.y,.int .i64 a.w,.int .i64 a.h,.slice i k j,.int .i64 a.dx,.int .i64 a.dy,.int .i64 a.left]] (w2.alloc (.cells #[.int .i64 a.cl,.int .i64 a.num,.int .i64 a.x,.int .i64 a.y,.int .i64 a.w,.int .i64 a.h,.slice i k j,.int .i64 a.dx,.int .i64 a.dy,.int .i64 a.left] 128)) fun b c=>b=.returned (.tuple #[])/\(c.cell? ⟨w2.heap.size,0,none⟩=some (.int .i64 a.cl)/\c.cell? ⟨w2.heap.size,1,none⟩=some (.int .i64 a.num)/\c.cell? ⟨w2.heap.size,2,none⟩=some (.int .i64 a.x)/\c.cell? ⟨w2.heap.size,3,none⟩=some (.int .i64 a.y)/\c.cell? ⟨w2.heap.size,4,none⟩=some (.int .i64 a.w)/\c.cell? ⟨w2.heap.size,5,none⟩=some (.int .i64 a.h)/\c.cell? ⟨w2.heap.size,6,none⟩=some (.slice i k j)/\c.cell? ⟨w2.heap.size,7,none⟩=some (.int .i64 a.dx)/\c.cell? ⟨w2.heap.size,8,none⟩=some (.int .i64 a.dy)/\c.cell? ⟨w2.heap.size,9,none⟩=some (.int .i64 a.left))/\w2.heap.size<c.heap.size/\
   Calls Tryz.prog 46 #[.pointer (some ⟨rp,0,none⟩),.int .i64 (f:Int)] (c.alloc (.cells #[.int .i64 a.cl,.int .i64 a.num,.int .i64 a.x,.int .i64 a.y,.int .i64 a.w,.int .i64 a.h,.slice i k j,.int .i64 a.dx,.int .i64 a.dy,.int .i64 a.left] 128)) fun b I=>∃ p y q,b=.returned (.slice p y q)/\
    ∃ r m,(Builtin.append_ #[115,115] 115 #[.slice (some ⟨c.heap.size,0,none⟩) 1 1,.slice p y q]).run Tryz.prog I=.ok r m/\(∃ F,m.cell? ⟨rp,9,none⟩=some F)/\(∀ S,m.frozen? ⟨rp,S,none⟩=false)/\rp<m.heap.size/\(∃ p y q,r=.slice p y q)/\jX U w rp v {zw d a with l:=a::d.l.eraseIdx f} (m.setCell ⟨rp,9,none⟩ r))):=by
  refine hF.mono ?_;rintro b w2 ⟨rfl,J,T,s⟩;have e6:=J.wj t O P;have f9:=T.size;refine⟨rfl,by rw[a4];exact e6.1,⟨qe s 0,qe s 2,qe s 3,qe s 4,qe s 5,qe s 6,qh s⟩,fun _=>jX.of J (.aD T),fun z=>?_⟩;have a5:Below w2.heap.size w2 (w2.alloc (.cells #[.int .i64 a.cl,.int .i64 a.num,.int .i64 a.x,.int .i64 a.y,.int .i64 a.w,.int .i64 a.h,.slice i k j,.int .i64 a.dx,.int .i64 a.dy,.int .i64 a.left] 128)):=(aa _ w2).alloc (zzl _) _;have e7:=J.below a5;refine (jK e7 a Q i k j).mono ?_;rintro b c ⟨rfl,K,V⟩;have e8:=V.size;have e9:w2.heap.size<c.heap.size:=zzm (by simp) e8;have h:=V.heap (qt w2 _ _ rfl) (fun b=>by have:=J.gl _ b;omega);have a6:Below c.heap.size c (c.alloc (.cells #[.int .i64 a.cl,.int .i64 a.num,.int .i64 a.x,.int .i64 a.y,.int .i64 a.w,.int .i64 a.h,.slice i k j,.int .i64 a.dx,.int .i64 a.dy,.int .i64 a.left] 128)):=(aa _ c).alloc (zzl _) _;refine⟨rfl,⟨qe h 0,qe h 1,qe h 2,qe h 3,qe h 4,qe h 5,qe h 6,qe h 7,qe h 8,qe h 9⟩,e9,(vN (i:=f) (K.below a6) R).mono ?_⟩;rintro b I ⟨g0,rfl,a7,a8⟩;obtain⟨p,q,f0⟩:=qr a7.own;have a9:∀ g,U g->g<c.heap.size:=fun g W=>by have:=a1 g W;omega
  have b0:=((gp.aD T).trans (.aD a5)).trans V;have f1:gS U I (.slice i k j) a.px:=(by rw[G];exact ((a3.but b0 n.nU).below a6).below a8);have g1:((zw d a).l.eraseIdx f).length+1=d.l.length:=(by show (d.l.eraseIdx f).length+1=_;rw[bZ,an R];omega);have b1:(tI.eraseIdx f).length=((zw d a).l.eraseIdx f).length:=(by rw[bZ,bZ,n.pl];rfl);obtain⟨r,m,A,b2,b3⟩:=qq6 b1 (by omega) (by omega) a7 a8 a9 G Q f1;rw[f0] at A ⊢;have X:=(b2.block rp (qh K.nS)).trans K.nS;obtain⟨b4,b5,f2⟩:=qr b3.own;refine⟨p,_,q,rfl,r,m,A,⟨_,qe X 9⟩,fun S=>qj X S,qh X,⟨b4,_,b5,f2⟩,?_⟩;obtain⟨f3,k2,f4⟩:=K.lay a9 b2 b3 (by rw[aX,aX,b1]) (by rw[aX];omega);refine⟨⟨r,v.wv,_,f3,fun g W=>.inr (by have:=f4 g W;omega),fun g b=>.inl b⟩,?_⟩;exact (b0.wide fun g _ b=>.inl b).step k2 fun g b=>.inl (.inl (.inl b))
 have g2:(0:Int)<=(f:Int):=(by omega);have g3:(f:Int)<(x:Int):=(by omega);have g4:x<=16:=(by omega);have g5:IntKind.i64.wrap ((x:Int)-1)=(x:Int)-1:=(by rw[af];omega);have g6:¬u=w.heap.size:=(by omega);have g7:¬w.heap.size=u:=(by omega);have g8:¬rp=u:=fun b=>e1 b.symm;have g9:¬rp=w.heap.size:=(by have:=qh n.nS;omega);clear hF a2 n a1 t M L O P Q N e4 G a4 R a3 e2 e3 e5;by_cases z:0<f
 ·rw[an z];have f5:(0:Int)<(f:Int):=(by omega);go_enter Tryz.func121,Tryz.ntmps121
  go_wp2_with (first
    | (go_at_call 140;refine (qb H).mono ?_;rintro b w2 ⟨rfl,Y,⟨b6,b7,b8,b9,c0,c1,c2⟩,-,c3⟩;obtain⟨c4,c5,c6,Z,c7,c8,c9,d0,d1,d2,d3,d4,d5,d6,d7⟩:=Y;have d8:=qg (c3 z);clear c3 H Z)
    | (go_at_call 45;refine (qb d8).mono ?_;rintro b c ⟨rfl,⟨i0,i1,i2,i3,i4,i5,i6,i7,i8,i9⟩,j0,d9⟩;have f6:=qg d9;clear d9 c4 c5 c6 c7 c8 c9 d0 d1 d2 d3 d4 d5 d6 d7 d8 b6 b7 b8 b9 c0 c1 c2)
    | (go_at_call 46;refine (qb f6).mono ?_;rintro b I ⟨p,y,q,rfl,r,m,A,⟨F,j1⟩,j2,j3,⟨b4,j4,b5,rfl⟩,B⟩;have f7:=qg A;have a0:=qg B;clear B A)
    | (at_builtin;refine zq rfl _ _ 115 115 rfl rfl _ _ _ _ rfl rfl (qb f7) ?_))
  go_end0;exact⟨⟨_,rfl⟩,qb a0⟩
 ·rw[ah z];have f5:¬(0:Int)<(f:Int):=(by omega);go_enter Tryz.func121,Tryz.ntmps121
  go_wp2_with (go_at_call 140;refine (qb H).mono ?_;rintro b w2 ⟨rfl,Y,⟨b6,b7,b8,b9,c0,c1,c2⟩,B,-⟩;obtain⟨c4,c5,c6,Z,c7,c8,c9,d0,d1,d2,d3,d4,d5,d6,d7⟩:=Y;have a0:=qg (B z);clear B H Z)
  go_end0;exact⟨⟨_,rfl⟩,qb a0⟩
end
def qk3:(Tryz.prog.info? 53).map (fun a=>(a.zero,a.size,a.bytes))=some (some (.slice none 0 0),1,24):=by kernel_rfl
abbrev T3:Type:=Option Addr×Nat×Nat
def sl (a:T3):Value:=.slice a.1 a.2.1 a.2.2
def xi (i:Nat->Prop)(j:World)(f:Value)(a:List T3):Prop:=
 (f=.slice none 0 0/\a=[])\/∃ c d b e,f=.slice (some ⟨c,d,none⟩) a.length b/\i c/\j.heap[c]?=some (.cells e 53 (0,0))/\a.length<=b/\b<=maxLen/\d+b<=e.size/\∀ (g:Nat)(h:T3),a[g]?=some h->e[d+g]?=some (sl h)
def xi.but {T:Nat->Prop}{b:List T3}(a:xi S w v b)(e:gp T w w2)(f:∀ x,S x->¬T x):xi S w2 v b:=by
 rcases a with a | ⟨c,g,h,i,j,d,k,l⟩
 ·exact .inl a
 ·exact .inr ⟨c,g,h,i,j,d,e.heap k (f c d),l⟩
def xi.mono {b:List T3}(a:xi S w v b)(d:∀ x,S x->U x):xi U w v b:=by
 rcases a with a | ⟨c,e,f,g,h,i,j,k⟩
 ·exact .inl a
 ·exact .inr ⟨c,e,f,g,h,d c i,j,k⟩
def xi.slice {a:List T3}(e:xi S w v a):∃ f b,v=.slice f a.length b/\a.length<=b:=by
 rcases e with ⟨c,d⟩ | ⟨h,i,b,j,c,d,k,g,_⟩
 ·subst d;exact⟨none,0,c,by simp⟩
 ·exact⟨_,_,c,g⟩
def xi.cut {off cap:Nat}{l:List T3}(j:xi S w (.slice (some ⟨g,off,none⟩) n cap) l)(k:Nat)(o:k<=l.length):xi S w (.slice (if cap=k then some ⟨g,off,none⟩ else some ⟨g,off+k,none⟩) (n-k) (cap-k)) (l.drop k):=by
 rcases j with ⟨b,d⟩ | ⟨p,q,r,f,b,d,h,s,t,u,m⟩
 ·cases b
 ·simp only[ai,ac,bz,bB] at b;obtain⟨⟨rfl,rfl⟩,rfl,rfl⟩:=b;by_cases i:cap=k
  ·rw[an i];have e:l.drop k=[]:=bI (by omega);refine .inr ⟨g,off,cap-k,f,by rw[e];simp;omega,d,h,by rw[e];simp,by omega,by omega,fun c n a=>by rw[e] at a;simp at a⟩
  ·rw[ah i];refine .inr ⟨g,off+k,cap-k,f,by simp,d,h,by simp;omega,by omega,by omega,fun c n a=>?_⟩;rw[bw] at a;have:=m (k+c) n a;rw[show off+(k+c)=off+k+c by omega] at this;exact this
def xi.append {a:List T3}(U:xi S w v a)(a6:a.length<=1000000)(n:Addr)(f:T3)(V:w.cell? n=some (sl f)):∃ r h e,(Builtin.append_ #[24,24] 24 #[v,.slice (some n) 1 1]).run Tryz.prog w=.ok (.slice r (a.length+1) h) e/\xi (fun g=>S g\/(w.heap.size<=g/\g<e.heap.size)) e (.slice r (a.length+1) h) (a++[f])/\gp S w e:=by
 obtain⟨C,D,I,u,J⟩:=aZ qk3;have E:∀ (b:Nat)(s:Value),[sl f][b]?=some s->w.cell? (n.add b)=some s:=by
  intro b s c
  match b,c with
  | 0,c=>
   simp at c;subst c;have:n.add 0=n:=(by unfold Addr.add;split<;>simp_all);rw[this];exact V
  | b+1,c=>simp at c
 have K:∀ {e:World}{o:Value}{m:List T3}{L:Nat},e.ownsRow L 53 1 o m.length (m.map sl)->m≠[]->(∀ d,o.ownBlock=some d->w.heap.size<=d)->∃ r h,o=.slice r m.length h/\xi (fun g=>S g\/(w.heap.size<=g/\g<e.heap.size)) e o m:=by
  intro e o m L x W t;rcases x.2 with ⟨_,X⟩ | ⟨d,h,M,rfl,a7,N,Y,F,a8,Z⟩
  ·exact absurd (bX X) W
  ·refine⟨_,_,rfl,.inr ⟨d,0,h,M,rfl,.inr ⟨t d rfl,qh N⟩,N,Y,F,by omega,fun b g k=>?_⟩⟩;have c:=(zzg k).1;have O:(M.toList.take (m.length*1))[b]?=some (sl g):=(by rw[Z,aF,k];rfl);rw[cQ (by omega)] at O;rw[bA];simpa using O
 rcases U with ⟨rfl,rfl⟩ | ⟨d,l,h,a9,rfl,Q,t,b0,F,a0,z⟩
 ·have A:w.ownsRow 0 53 1 (.slice none 0 0) 0 []:=aQ _ _ _ _;obtain⟨d,h,e,q,G,H,z,b1⟩:=run_append_lies (P:=Tryz.prog) w 24 24 0 53 C _ 1 24 Tryz.underlying24 D I u J rfl (by omega) (.slice none 0 0) 0 [] A n 1 1 [sl f] rfl E (by intro s y;simp at y;subst y;rfl) (by omega) (by unfold maxLen;omega) (by omega) (aj _) w.heap.size rfl;obtain⟨r,a1,j,x⟩:=K (m:=[f]) G (by simp) (fun R B=>by
   simp[Value.ownBlock] at B;subst B;rcases z with j | j
   ·simp[Value.ownBlock] at j
   ·omega)
  exact⟨_,_,e,q,x,.tJ H (fun a2 j=>by simp[Value.ownBlock] at j)⟩
 ·by_cases T:a.length+1<=h
  ·have q:=run_append_room_cells (P:=Tryz.prog) w 24 24 53 C Tryz.underlying24 D d l a.length h n 1 1 [sl f] (by rw[u];rfl) E (by intro s y;simp at y;subst y;rfl) T (by
    intro b c;simp at c;subst c;rw[u,qe t,dC (by omega)];rfl) (fun b c=>qj t _)
   rw[u,gd] at q;have a3:w.setCells d (l+a.length) [sl f]=w.setCell ⟨d,l+a.length,none⟩ (sl f):=rfl;rw[a3] at q;refine⟨_,_,_,q,.inr ⟨d,l,h,_,by simp,.inl Q,qp (i:=l+a.length) t _,by simpa using T,F,by simpa using a0,fun b g k=>?_⟩,(gp.refl S w).setCell (p:=⟨d,l+a.length,none⟩) (.inl Q) _⟩;rw[gn];by_cases j:b=a.length
   ·subst j;simp at k;subst k;rw[an rfl,an (by omega)]
   ·rw[ah (by omega)];have c:=(zzg k).1;simp at c;rw[aM (by omega)] at k;exact z b g k
  ·obtain⟨o,e,q,A,H⟩:=run_append_arg_grows (P:=Tryz.prog) w 24 24 53 C _ 1 24 Tryz.underlying24 D I u J rfl (by omega) ⟨d,l,none⟩ a.length h (a.map sl) (by simp) (fun b s c=>by
    rw[aF] at c;obtain⟨g,k,rfl⟩:=cN.1 c;have a4:(⟨d,l,none⟩:Addr).add b=⟨d,l+b,none⟩:=(by unfold Addr.add;split<;>simp_all);rw[a4,qe t];exact z b g k) n 1 1 [sl f] rfl E (by omega) (by unfold maxLen;omega) (by omega)
   have G:e.ownsRow w.heap.size 53 1 o (a++[f]).length ((a++[f]).map sl):=(by simpa using A);obtain⟨r,a1,j,x⟩:=K (m:=a++[f]) G (by simp) (fun R B=>(ab A R B).1);have a5:(a++[f]).length=a.length+1:=(by simp);rw[a5] at j;subst j;exact⟨_,_,e,q,x,.tJ H (fun a2 j=>by cases j)⟩
section
variable {U:Nat->Prop}{w w1 w2 w':World}{rp:Nat}{d d' d'':Dc}{v:Dv}{tI:List Value}
def ql0 (m:gT U w rp d v tI)(L:∀ k,U k->k<w.heap.size)(f:Nat)(a:gt)(o:Option Addr)(q r:Nat)(x:a.kind=4)(y:((f:Int),a.iV)∈d.l.map qw)(M:iq a.x)(N:iq a.y):Calls Tryz.prog 121 #[.pointer (some ⟨rp,0,none⟩),.int .i64 (f:Int),.agg #[.int .i64 a.kind,.int .i64 a.iV,.int .i64 a.x,.int .i64 a.y,.int .i64 a.w,.int .i64 a.h,.slice o q r,.int .i64 a.mark]] w fun c w'=>(∃ O,c=.returned O)/\jX U w rp v (qO d f a) w':=by
 obtain⟨g,h,-,-⟩:=xC y;obtain⟨b,z⟩:=zx (d.l.findIdx (gN f a.iV));have hF:=kW m f y (ph a 4 o q r);have B:qO d f a=zu {d with l:=d.l.set b {g with left:=0}} b a.x a.y:=(by unfold qO;rw[ah (by omega),ah (by omega),h];simp only;rw[ah (by omega),ah (by omega),an x,z]);rw[<-z] at hF h;rw[B,x];obtain⟨i,P,Q,R,s,b0,S,T,V,u,W,e,-,-⟩:=m.at h;obtain⟨X,C⟩:=zx g.px.length;rw[<-C] at u;obtain⟨n,D⟩:=zx d.l.length;have E:=(zzg h).1;have Y:=m.len;have F:v.sv.ownBlock=some i:=(by rw[s];rfl);have G:Hid (Calls Tryz.prog 140 #[.pointer (some ⟨rp,0,none⟩),.int .i64 (f:Int),.int .i64 a.iV] (w.alloc (ph a 4 o q r)) fun c w2=>c=.returned (.int .i64 (b:Int))/\qz w2 rp i n P b g Q X R/\(w2.cell? ⟨w.heap.size,0,none⟩=some (.int .i64 4)/\w2.cell? ⟨w.heap.size,2,none⟩=some (.int .i64 a.x)/\w2.cell? ⟨w.heap.size,3,none⟩=some (.int .i64 a.y)/\w2.cell? ⟨w.heap.size,4,none⟩=some (.int .i64 a.w)/\w2.cell? ⟨w.heap.size,5,none⟩=some (.int .i64 a.h)/\w2.cell? ⟨w.heap.size,6,none⟩=some (.slice o q r)/\w.heap.size<w2.heap.size)/\
  Calls Tryz.prog 88 #[.pointer (some ⟨rp,0,none⟩),.int .i64 (b:Int),.int .i64 a.x,.int .i64 a.y] (w2.setCell ⟨i,b*10+9,none⟩ (.int .i64 0)) fun c A=>c=.returned (.tuple #[])/\jX U w rp v (zu {d with l:=d.l.set b {g with left:=0}} b a.x a.y) A):=by
  refine hF.mono ?_;rintro c w2 ⟨rfl,H,Z,j⟩;have a0:=H.wj h s u;refine⟨rfl,by rw[D];exact a0.1,⟨qe j 0,qe j 2,qe j 3,qe j 4,qe j 5,qe j 6,qh j⟩,?_⟩;have a1:=H.put (t:=9) (s':={g with left:=0}) (u:=.int .i64 0) h u s (by omega) rfl ⟨e.w0,e.w8,e.h0,e.h8,e.px,e.xb,e.yb⟩ rfl;have a2:({d with l:=d.l.set b {g with left:=0}}:Dc).l[b]?=some {g with left:=0}:=ar E;refine (XF a1 a2 a.x a.y M N).mono ?_;rintro c A ⟨rfl,a3,a4⟩;have a5:gp (ry rp v) w w2:=.aD Z;have a6:=a5.setCell (p:=⟨i,b*10+9,none⟩) (.inl (.inr F)) (.int .i64 0);exact⟨rfl,jX.of a3 (a6.trans a4)⟩
 have b1:(0:Int)<=(b:Int):=(by omega);have b2:(b:Int)<(n:Int):=(by omega);have b3:n<=16:=(by omega);have b4:IntKind.i64.wrap ((n:Int)-1)=(n:Int)-1:=(by rw[af];omega);have b5:¬i=w.heap.size:=(by omega);have b6:¬w.heap.size=i:=(by omega);have b7:¬rp=i:=fun c=>S c.symm;have b8:¬rp=w.heap.size:=(by have:=qh m.nS;omega);clear hF B m L h y x s u e z Y C D E W T V F;go_enter Tryz.func121,Tryz.ntmps121
 go_wp2_with (first
   | (go_at_call 140;refine (qb G).mono ?_;rintro c w2 ⟨rfl,a7,⟨b9,c0,c1,c2,c3,c4,c5⟩,I⟩;obtain⟨c6,c7,c8,J,c9,d0,d1,d2,d3,d4,d5,d6,d7,d8,d9⟩:=a7;have e0:=J (b*10+9);have a8:=qg I;clear I G J)
   | (go_at_call 88;refine (qb a8).mono ?_;rintro c A ⟨rfl,K⟩;have a9:=qg K;clear K))
 go_end0;exact⟨⟨_,rfl⟩,qb a9⟩
def qa3 (o:gT U w rp d v tI)(N:∀ k,U k->k<w.heap.size)(g:Nat)(a:gt)(r:Option Addr)(s u:Nat)(D:a.kind=7)(z:((g:Int),a.iV)∈d.l.map qw):Calls Tryz.prog 121 #[.pointer (some ⟨rp,0,none⟩),.int .i64 (g:Int),.agg #[.int .i64 a.kind,.int .i64 a.iV,.int .i64 a.x,.int .i64 a.y,.int .i64 a.w,.int .i64 a.h,.slice r s u,.int .i64 a.mark]] w fun h w'=>(∃ O,h=.returned O)/\jX U w rp v (qO d g a) w':=by
 obtain⟨f,i,-,-⟩:=xC z;obtain⟨b,A⟩:=zx (d.l.findIdx (gN g a.iV));have hF:=kW o g z (ph a 7 r s u);have E:qO d g a={d with l:=d.l.set b {f with dx:=a.x,dy:=a.y,left:=a.w}}:=(by unfold qO;rw[ah (by omega),ah (by omega),i];simp only;rw[ah (by omega),ah (by omega),ah (by omega),ah (by omega),ah (by omega),A]);rw[<-A] at hF i;rw[E,D];obtain⟨c,B,P,Q,m,b1,R,S,T,n,V,e,-,-⟩:=o.at i;obtain⟨W,F⟩:=zx f.px.length;rw[<-F] at n;obtain⟨q,G⟩:=zx d.l.length;have C:=(zzg i).1;have X:=o.len;have x:v.sv.ownBlock=some c:=(by rw[m];rfl);have H:Hid (Calls Tryz.prog 140 #[.pointer (some ⟨rp,0,none⟩),.int .i64 (g:Int),.int .i64 a.iV] (w.alloc (ph a 7 r s u)) fun h w2=>h=.returned (.int .i64 (b:Int))/\qz w2 rp c q B b f P W Q/\(w2.cell? ⟨w.heap.size,0,none⟩=some (.int .i64 7)/\w2.cell? ⟨w.heap.size,2,none⟩=some (.int .i64 a.x)/\w2.cell? ⟨w.heap.size,3,none⟩=some (.int .i64 a.y)/\w2.cell? ⟨w.heap.size,4,none⟩=some (.int .i64 a.w)/\w2.cell? ⟨w.heap.size,5,none⟩=some (.int .i64 a.h)/\w2.cell? ⟨w.heap.size,6,none⟩=some (.slice r s u)/\w.heap.size<w2.heap.size)/\jX U w rp v {d with l:=d.l.set b {f with dx:=a.x,dy:=a.y,left:=a.w}} (((w2.setCell ⟨c,b*10+7,none⟩ (.int .i64 a.x)).setCell ⟨c,b*10+8,none⟩ (.int .i64 a.y)).setCell ⟨c,b*10+9,none⟩ (.int .i64 a.w)).drew.drew.drew):=(by refine hF.mono ?_;rintro h w2 ⟨rfl,I,Y,j⟩;have Z:=I.wj i m n;refine⟨rfl,by rw[G];exact Z.1,⟨qe j 0,qe j 2,qe j 3,qe j 4,qe j 5,qe j 6,qh j⟩,?_⟩;have a0:=I.put (t:=7) (s':={f with dx:=a.x}) (u:=.int .i64 a.x) i n m (by omega) rfl ⟨e.w0,e.w8,e.h0,e.h8,e.px,e.xb,e.yb⟩ rfl;have a1:({d with l:=d.l.set b {f with dx:=a.x}}:Dc).l[b]?=some {f with dx:=a.x}:=ar C;have a2:v.sv=.slice (some ⟨c,0,none⟩) ({d with l:=d.l.set b {f with dx:=a.x}}:Dc).l.length B:=(by show v.sv=.slice _ (d.l.set b _).length _;rw[aG];exact m);have J:=a0.put (t:=8) (s':={f with dx:=a.x,dy:=a.y}) (u:=.int .i64 a.y) a1 n a2 (by omega) rfl ⟨e.w0,e.w8,e.h0,e.h8,e.px,e.xb,e.yb⟩ rfl;have a3:({ ({d with l:=d.l.set b {f with dx:=a.x}}:Dc) with l:=({d with l:=d.l.set b {f with dx:=a.x}}:Dc).l.set b {f with dx:=a.x,dy:=a.y}}:Dc)={d with l:=d.l.set b {f with dx:=a.x,dy:=a.y}}:=(by show ({d with l:=(d.l.set b _).set b _}:Dc)=_;rw[eg]);rw[a3] at J;have a4:({d with l:=d.l.set b {f with dx:=a.x,dy:=a.y}}:Dc).l[b]?=some {f with dx:=a.x,dy:=a.y}:=ar C;have a5:v.sv=.slice (some ⟨c,0,none⟩) ({d with l:=d.l.set b {f with dx:=a.x,dy:=a.y}}:Dc).l.length B:=(by show v.sv=.slice _ (d.l.set b _).length _;rw[aG];exact m);have K:=J.put (t:=9) (s':={f with dx:=a.x,dy:=a.y,left:=a.w}) (u:=.int .i64 a.w) a4 n a5 (by omega) rfl ⟨e.w0,e.w8,e.h0,e.h8,e.px,e.xb,e.yb⟩ rfl;have a6:({ ({d with l:=d.l.set b {f with dx:=a.x,dy:=a.y}}:Dc) with l:=({d with l:=d.l.set b {f with dx:=a.x,dy:=a.y}}:Dc).l.set b {f with dx:=a.x,dy:=a.y,left:=a.w}}:Dc)={d with l:=d.l.set b {f with dx:=a.x,dy:=a.y,left:=a.w}}:=(by show ({d with l:=(d.l.set b _).set b _}:Dc)=_;rw[eg]);rw[a6] at K;have a7:gp (ry rp v) w w2:=.aD Y;have a8:=((a7.setCell (p:=⟨c,b*10+7,none⟩) (.inl (.inr x)) (.int .i64 a.x)).setCell (p:=⟨c,b*10+8,none⟩) (.inl (.inr x)) (.int .i64 a.y)).setCell (p:=⟨c,b*10+9,none⟩) (.inl (.inr x)) (.int .i64 a.w);have L:Below (((w2.setCell ⟨c,b*10+7,none⟩ (.int .i64 a.x)).setCell ⟨c,b*10+8,none⟩ (.int .i64 a.y)).setCell ⟨c,b*10+9,none⟩ (.int .i64 a.w)).heap.size (((w2.setCell ⟨c,b*10+7,none⟩ (.int .i64 a.x)).setCell ⟨c,b*10+8,none⟩ (.int .i64 a.y)).setCell ⟨c,b*10+9,none⟩ (.int .i64 a.w)) (((w2.setCell ⟨c,b*10+7,none⟩ (.int .i64 a.x)).setCell ⟨c,b*10+8,none⟩ (.int .i64 a.y)).setCell ⟨c,b*10+9,none⟩ (.int .i64 a.w)).drew.drew.drew:=(((aa _ _).drew).drew).drew;exact jX.of (K.below L) (a8.trans (.aD L)));have b2:(0:Int)<=(b:Int):=(by omega);have b3:(b:Int)<(q:Int):=(by omega);have b4:q<=16:=(by omega);have b5:IntKind.i64.wrap ((q:Int)-1)=(q:Int)-1:=(by rw[af];omega);have b6:¬c=w.heap.size:=(by omega);have b7:¬w.heap.size=c:=(by omega);have b8:¬rp=c:=fun h=>R h.symm;have b9:¬rp=w.heap.size:=(by have:=qh o.nS;omega);clear hF E o N i z D m n e A X F G C V S T x;go_enter Tryz.func121,Tryz.ntmps121
 go_wp2_with (go_at_call 140;refine (qb H).mono ?_;rintro h w2 ⟨rfl,a9,⟨c0,c1,c2,c3,c4,c5,c6⟩,M⟩;obtain⟨c7,c8,c9,y,d0,d1,d2,d3,d4,d5,d6,d7,d8,d9,e0⟩:=a9;have e1:=y (b*10+7);have e2:=y (b*10+8);have e3:=y (b*10+9);have b0:=qg M;clear M H y)
 go_region;go_wp2;go_region;go_wp2;go_region;go_wp2;go_end0;exact⟨⟨_,rfl⟩,qb b0⟩
def YE (n:gT U w rp d v tI)(c1:∀ m,U m->m<w.heap.size)(o:Nat)(a:gt)(h:Option Addr)(j i:Nat)(C:a.kind=3)(D:((o:Int),a.iV)∈d.l.map qw)(x:(0<=a.w/\a.w<=8)/\(0<=a.h/\a.h<=8))(O:(a.px.length:Int)=a.w*a.h)(E:j=a.px.length)(P:gS U w (.slice h j i) a.px):Calls Tryz.prog 121 #[.pointer (some ⟨rp,0,none⟩),.int .i64 (o:Int),.agg #[.int .i64 a.kind,.int .i64 a.iV,.int .i64 a.x,.int .i64 a.y,.int .i64 a.w,.int .i64 a.h,.slice h j i,.int .i64 a.mark]] w fun f w'=>(∃ c2,f=.returned c2)/\jX U w rp v (qO d o a) w':=by
 obtain⟨c,q,-,-⟩:=xC D;obtain⟨b,F⟩:=zx (d.l.findIdx (gN o a.iV));have hF:=kW n o D (ph a 3 h j i);have Q:qO d o a=zw {zw d c with l:=d.l.set b {c with w:=a.w,h:=a.h,px:=a.px}} {c with w:=a.w,h:=a.h,px:=a.px}:=(by unfold qO;rw[ah (by omega),ah (by omega),q];simp only;rw[ah (by omega),an C,F]);rw[<-F] at hF q;rw[Q,C];obtain⟨e,R,y,z,r,e7,c3,c4,c5,s,c6,A,-,-⟩:=n.at q;obtain⟨B,S⟩:=zx c.px.length;rw[<-S] at s;obtain⟨t,G⟩:=zx d.l.length;have c7:=(zzg q).1;have c8:=n.len;have T:v.sv.ownBlock=some e:=(by rw[r];rfl);have H:xq {c with w:=a.w,h:=a.h,px:=a.px}:=⟨x.1.1,x.1.2,x.2.1,x.2.2,O,A.xb,A.yb⟩;have V:Hid (Calls Tryz.prog 140 #[.pointer (some ⟨rp,0,none⟩),.int .i64 (o:Int),.int .i64 a.iV] (w.alloc (ph a 3 h j i)) fun f w2=>f=.returned (.int .i64 (b:Int))/\qz w2 rp e t R b c y B z/\(w2.cell? ⟨w.heap.size,0,none⟩=some (.int .i64 3)/\w2.cell? ⟨w.heap.size,2,none⟩=some (.int .i64 a.x)/\w2.cell? ⟨w.heap.size,3,none⟩=some (.int .i64 a.y)/\w2.cell? ⟨w.heap.size,4,none⟩=some (.int .i64 a.w)/\w2.cell? ⟨w.heap.size,5,none⟩=some (.int .i64 a.h)/\w2.cell? ⟨w.heap.size,6,none⟩=some (.slice h j i)/\w.heap.size<w2.heap.size)/\
  Calls Tryz.prog 45 #[.pointer (some ⟨rp,0,none⟩),.agg #[.int .i64 c.cl,.int .i64 c.num,.int .i64 c.x,.int .i64 c.y,.int .i64 c.w,.int .i64 c.h,.slice y B z,.int .i64 c.dx,.int .i64 c.dy,.int .i64 c.left]] w2 fun f g=>f=.returned (.tuple #[])/\qz g rp e t R b c y B z/\(g.cell? ⟨w.heap.size,0,none⟩=some (.int .i64 3)/\g.cell? ⟨w.heap.size,2,none⟩=some (.int .i64 a.x)/\g.cell? ⟨w.heap.size,3,none⟩=some (.int .i64 a.y)/\g.cell? ⟨w.heap.size,4,none⟩=some (.int .i64 a.w)/\g.cell? ⟨w.heap.size,5,none⟩=some (.int .i64 a.h)/\g.cell? ⟨w.heap.size,6,none⟩=some (.slice h j i)/\w.heap.size<g.heap.size)/\
   Calls Tryz.prog 45 #[.pointer (some ⟨rp,0,none⟩),.agg #[.int .i64 c.cl,.int .i64 c.num,.int .i64 c.x,.int .i64 c.y,.int .i64 a.w,.int .i64 a.h,.slice h j i,.int .i64 c.dx,.int .i64 c.dy,.int .i64 c.left]] (((g.setCell ⟨e,b*10+4,none⟩ (.int .i64 a.w)).setCell ⟨e,b*10+5,none⟩ (.int .i64 a.h)).setCell ⟨e,b*10+6,none⟩ (.slice h j i)).drew.drew.drew fun f I=>f=.returned (.tuple #[])/\jX U w rp v (zw {zw d c with l:=d.l.set b {c with w:=a.w,h:=a.h,px:=a.px}} {c with w:=a.w,h:=a.h,px:=a.px}) I):=by
  refine hF.mono ?_;rintro f w2 ⟨rfl,W,c9,k⟩;have d0:=W.wj q r s;refine⟨rfl,by rw[G];exact d0.1,⟨qe k 0,qe k 2,qe k 3,qe k 4,qe k 5,qe k 6,qh k⟩,(jK W c A y B z).mono ?_⟩;rintro f g ⟨rfl,J,X⟩;have K:=q;have d1:=J.wj K r s;have k:g.heap[w.heap.size]?=_:=X.heap k (fun f=>by have:=n.gl _ f;omega);refine⟨rfl,by rw[G];exact d1.1,⟨qe k 0,qe k 2,qe k 3,qe k 4,qe k 5,qe k 6,qh k⟩,?_⟩;obtain⟨d2,L⟩:=J.own' K s r;have Y:=(aT d2 (b*10+4) (.int .i64 a.w)).1;rw[Z0 (by simp[zA]) _ L] at Y;have Z:=(aT Y (b*10+5) (.int .i64 a.h)).1;rw[Z0 (by simp[zA]) _ L] at Z;have a0:=(aT Z (b*10+6) (.slice h j i)).1;rw[Z0 (by simp[zA]) _ L] at a0;have M:gp (fun m=>m=e) g (((g.setCell ⟨e,b*10+4,none⟩ (.int .i64 a.w)).setCell ⟨e,b*10+5,none⟩ (.int .i64 a.h)).setCell ⟨e,b*10+6,none⟩ (.slice h j i)):=(((gp.refl (fun m=>m=e) g).setCell (p:=⟨e,b*10+4,none⟩) (.inl rfl) _).setCell (p:=⟨e,b*10+5,none⟩) (.inl rfl) _).setCell (p:=⟨e,b*10+6,none⟩) (.inl rfl) _;have a1:=(gp.aD c9).trans X;have d3:gS U g (.slice h a.px.length i) a.px:=(by have:=P.but a1 n.nU;rw[E] at this;exact this);have d4:=J.row (s':={c with w:=a.w,h:=a.h,px:=a.px}) (pv':=.slice h j i) K s r M a0 H ⟨h,i,by rw[E],d3⟩;have a2:Below (((g.setCell ⟨e,b*10+4,none⟩ (.int .i64 a.w)).setCell ⟨e,b*10+5,none⟩ (.int .i64 a.h)).setCell ⟨e,b*10+6,none⟩ (.slice h j i)).heap.size (((g.setCell ⟨e,b*10+4,none⟩ (.int .i64 a.w)).setCell ⟨e,b*10+5,none⟩ (.int .i64 a.h)).setCell ⟨e,b*10+6,none⟩ (.slice h j i)) (((g.setCell ⟨e,b*10+4,none⟩ (.int .i64 a.w)).setCell ⟨e,b*10+5,none⟩ (.int .i64 a.h)).setCell ⟨e,b*10+6,none⟩ (.slice h j i)).drew.drew.drew:=(((aa _ _).drew).drew).drew;refine (jK (d4.below a2) {c with w:=a.w,h:=a.h,px:=a.px} H h j i).mono ?_;rintro f I ⟨rfl,d5,d6⟩;have d7:gp (ry rp v) w (((g.setCell ⟨e,b*10+4,none⟩ (.int .i64 a.w)).setCell ⟨e,b*10+5,none⟩ (.int .i64 a.h)).setCell ⟨e,b*10+6,none⟩ (.slice h j i)).drew.drew.drew:=((a1.wide fun m _ f=>.inl f).step M fun m f=>.inl (.inr (by rw[f];exact T))).trans (.aD a2);exact⟨rfl,jX.of d5 (d7.step d6 fun m f=>.inl (.inl f))⟩
 have e8:(0:Int)<=(b:Int):=(by omega);have e9:(b:Int)<(t:Int):=(by omega);have f0:t<=16:=(by omega);have f1:IntKind.i64.wrap ((t:Int)-1)=(t:Int)-1:=(by rw[af];omega);have f2:¬e=w.heap.size:=(by omega);have M:¬w.heap.size=e:=(by omega);have f3:¬rp=e:=fun f=>c3 f.symm;have f4:¬rp=w.heap.size:=(by have:=qh n.nS;omega);clear hF Q n c1 q D C r s A F c8 S G c7 c6 c4 c5 T H x O E P;go_enter Tryz.func121,Tryz.ntmps121
 go_wp2_with (first
   | (go_at_call 140;refine (qb V).mono ?_;rintro f w2 ⟨rfl,N,⟨d8,d9,e0,e1,e2,e3,e4⟩,a3⟩;obtain⟨a4,a5,a6,u,a7,a8,a9,b0,b1,b2,b3,b4,b5,b6,b7⟩:=N;have b8:=qg a3;clear a3 V u)
   | (go_at_call 45;refine (qb b8).mono ?_;rintro f g ⟨rfl,N,⟨f5,f6,f7,f8,f9,g0,g1⟩,b9⟩;clear a4 a5 a6 a7 a8 a9 b0 b1 b2 b3 b4 b5 b6 b7 b8 d8 d9 e0 e1 e2 e3 e4;obtain⟨a4,a5,a6,u,a7,a8,a9,b0,b1,b2,b3,b4,b5,b6,b7⟩:=N;have g2:=u (b*10+4);have g3:=u (b*10+5);have g4:=u (b*10+6);have e5:=qg b9;clear b9 u))
 go_region;go_wp2;go_region;go_wp2;go_region
 go_wp2_with (go_at_call 45;refine (qb e5).mono ?_;rintro f I ⟨rfl,c0⟩;have e6:=qg c0;clear c0)
 go_end0;exact⟨⟨_,rfl⟩,qb e6⟩
end
end Go.Proofs.YtbnbkjbfpamijaaGreat
