import Derived.Test.YtbnbkjbfpamijaaGreatAaf
set_option linter.all false
set_option maxRecDepth 100000
set_option maxHeartbeats 0
namespace Go.Proofs.YtbnbkjbfpamijaaGreat
open Go.RowKit Go.Proofs.Panes
variable{S:Nat→Prop}{w w2:World}{n:Nat}{a:gB}{y:Fl}{v:Value}{m':List (Int×Int)}
def Fr.vB {g:pt}(d:Fr S w n a y)(s:a.frame=some g)(i:gp (fun b=>b=y.fb\/y.fm.ownBlock=some b) w w2)(B:w2.heap[y.fb]?=some (.cells #[.int .i64 (g.buf:Int),v,y.fl] 182 (0,0))) (C:qN w2 0 153 v (m'.map k2)) (D:v.ownBlock=y.fm.ownBlock):Fr S w2 n {a with frame:=some {g with marks:=m'}} {y with fm:=v}:=by
 obtain⟨t,E,F,G,u,H⟩:=d.fr g s;have l:∀ {b:Nat}{m:Array Value}{o:TypeId}{x:Nat×Nat},w.heap[b]?=some (.cells m o x)->o≠182->o≠153->¬(b=y.fb\/y.fm.ownBlock=some b):=by
  rintro b m o x c I J (e | e)
  ·rw[e,t] at c;simp at c;exact I c.2.1.symm
  ·exact qq G c J e
 refine⟨?_,d.cb,?_,?_,d.tW,d.tV,qi d.tN i ?_,d.mc,?_⟩
 ·have:=i.heap d.nS (l d.nS (by decide) (by decide));rw[this];simp[qT,xD,s]
 ·intro p q;obtain⟨f,j,k⟩:=d.px p q;exact⟨i.heap f (l f (by decide) (by decide)),j,k⟩
 ·intro p q;obtain⟨f,j,k⟩:=d.st p q;exact⟨i.heap f (l f (by decide) (by decide)),j,k⟩
 ·rintro b c (e | e)
  ·exact qq d.tN t (by decide) (by rw[c,e])
  ·exact (u b e).2 c
 ·intro P h;simp only[ac] at h;subst h;refine⟨B,E,F,C,fun b c=>u b (by rw[<-D];exact c),?_⟩;obtain⟨K,L,e,f,j,k⟩:=H;refine⟨K,L,e,f,j,fun M=>?_⟩;obtain⟨z,N,m,e,O,h,qF⟩:=k M;have r:=i.block z (qh h) (l h (by decide) (by decide));exact⟨z,N,m,e,O,r.trans h,fun A b c=>⟨(aH r).trans (qF A b c).1,(aH r).trans (qF A b c).2⟩⟩
def zT (a:Int)(b:List (Int×Int)):List (Int×Int):=b.filter fun c=>!(c.1 == a)
def ji (a:gB)(b:Int):gB:={a with marks:=zT b a.marks,frame:=a.frame.map fun c=>{c with marks:=zT b c.marks}}
def qc5 (f:Fr S w n a y)(F:∀ b,S b->b<w.heap.size)(e:Int)(a5:a.marks.length<=1000000000)(W:∀ d,a.frame=some d->d.marks.length<=1000000000):Calls Tryz.prog 43 #[.pointer (some ⟨n,0,none⟩),.int .i64 e] w fun c G=>(∃ d0,c=.returned d0)/\(∃ H,Fr S G n (ji a e) H)/\gp S w G:=by
 obtain⟨v,I⟩:∃ v:World,v=w.alloc (.cells #[.int .i64 e] 3):=⟨_,rfl⟩;have J:Below w.heap.size w v:=(by rw[I];exact (aa _ w).alloc (zzl _) _);have a6:v.heap[w.heap.size]?=some (.cells #[.int .i64 e] 3):=(by rw[I];exact qt _ _ _ rfl);have x:=f.below J;have f3:=F _ f.cb;have K:=qq f.tN f.nS (by decide);obtain⟨d1,-⟩:=zzk f.nS 16;have X:=XN x.tN a5 (fun b=>b.1 == e) w.heap.size (fun d2 b z=>YA (z.heap a6 (fun c=>by have:=F _ (f.mc _ c);omega)) b) _ rfl;obtain⟨f4,f5,L⟩:=qr f.tN;obtain⟨f6,a7⟩:=zx ((a.marks.map k2).length);rw[<-a7] at L;rw[L] at X d1;have b3:=qg X;have b4:=qg I;have b5:=qg x;have f7:=qg J;have d3:=qg a6;have Y:=qg L;have f8:=qg f.cb;have d4:=qg f.mc;have b6:=qg K;have f9:=qg W;have b7:Hid (∀ g h m2 j,qN g 0 153 (.slice h m2 j) ((zT e a.marks).map k2)->(Value.slice h m2 j).ownBlock=y.mv.ownBlock->gp (fun a8=>y.mv.ownBlock=some a8) v g->Fr S (g.setCell ⟨n,16,none⟩ (.slice h m2 j)) n {a with marks:=zT e a.marks} {y with mv:=.slice h m2 j}/\gp S w (g.setCell ⟨n,16,none⟩ (.slice h m2 j))):=fun g h m2 j r m k=>by
  have o:=k.heap x.nS K;have z:gp (fun b=>b=n\/y.mv.ownBlock=some b) v (g.setCell ⟨n,16,none⟩ (.slice h m2 j)):=(k.wide (fun b _ c=>.inr c)).setCell (p:=⟨n,16,none⟩) (.inl (.inl rfl)) _;refine⟨x.marked (fun _ f=>f) z (qp (i:=16) o _) (qi r ((gp.refl (fun b=>b=n) g).setCell (p:=⟨n,16,none⟩) (.inl rfl) _) (fun b t c=>K (by rw[<-m,t,c]))) (fun b t=>f.mc b (by rw[<-m];exact t)) (fun d d5 b t c=>(((f.fr d d5).2.2.2.2.1) b t).2 (by rw[<-m];exact c)),((gp.aD J).trans z).wide ?_⟩;rintro b _ (c | c)
  ·rw[c];exact f.cb
  ·exact f.mc b c
 cases q:a.frame with
 | none=>
  have M:ji a e={a with marks:=zT e a.marks}:=(by have c:a.frame.map (fun d=>{d with marks:=zT e d.marks})=a.frame:=(by rw[q];rfl);unfold ji;rw[c]);rw[M];have N:xD a y=.pointer none:=(by simp[xD,q]);have a9:=qg N;clear f X I x J a6 L a7 K a5 W N M;go_enter Tryz.func43,Tryz.ntmps43;go_wp2_with (go_at_call 78;rw[<-qb b4];refine (qb b3).mono ?_;rintro c g ⟨⟨d6,rfl,r,m⟩,k⟩;obtain⟨h,j,s⟩:=qr r;obtain⟨m2,O⟩:∃ m2,m2=(List.map k2 (List.filter (fun b=>!(b.1 == e)) a.marks)).length:=⟨_,rfl⟩;rw[<-O] at s;subst s;rw[<-qb Y] at m k;have o:=k.heap (qb b5).nS (qb b6);have Z:g.cell? ⟨n,16,none⟩=some y.mv:=qe o 16;rw[qb Y] at Z;have b8:=fun P=>qj o P;have a0:g.cell? ⟨n,14,none⟩=some (xD a y):=qe o 14;rw[qb a9] at a0;have Q:=qg ((qb b7) g h m2 j r m k);clear r m o k O);go_end0;exact⟨⟨_,rfl⟩,⟨_,(qb Q).1⟩,(qb Q).2⟩
 | some d=>
  have M:ji a e={a with marks:=zT e a.marks,frame:=some {d with marks:=zT e d.marks}}:=(by unfold ji;rw[q];rfl);rw[M];have N:xD a y=.pointer (some ⟨y.fb,0,none⟩):=(by simp[xD,q]);have a9:=qg N;have a1:=qg q;have b9:=(f.fr d q).2.1;have d7:¬y.fb=n:=fun c=>by have:=(f.fr d q).1;rw[c,f.nS] at this;simp at this
  obtain⟨d8,d9,R⟩:=qr (f.fr d q).2.2.2.1;obtain⟨e0,A⟩:=zx ((d.marks.map k2).length);rw[<-A] at R;have c0:=qg R;have e1:Hid (∀ l T,Fr S l n {a with marks:=zT e a.marks} T->T.fm=y.fm->l.heap[w.heap.size]?=some (.cells #[.int .i64 e] 3)->Calls Tryz.prog 78 #[.slice d8 e0 d9,.func (.func 77) #[] #[.pointer (some ⟨w.heap.size,0,none⟩)]] l.drew fun c G=>(∃ H,c=.returned H/\qN G 0 153 H ((zT e d.marks).map k2)/\H.ownBlock=T.fm.ownBlock)/\gp (fun a8=>T.fm.ownBlock=some a8) l.drew G):=fun l T c1 c2 a2=>by
   have e2:=(c1.fr d q).2.2.2.1;have e3:=(c1.fr d q).2.2.2.2.1;have:=XN (w:=l.drew) e2 (W d q) (fun b=>b.1 == e) w.heap.size (fun d2 b z=>YA (z.heap (w:=l.drew) a2 (fun c=>by have:=F _ (e3 _ c).1;omega)) b) _ rfl;rw[c2,R] at this;rw[c2,R];exact this
  have g0:=F _ b9;clear f X I x J L a7 K a5 W N M R A;go_enter Tryz.func43,Tryz.ntmps43;go_wp2_with (go_at_call 78;rw[<-qb b4];refine (qb b3).mono ?_;rintro c g ⟨⟨d6,rfl,r,m⟩,k⟩;obtain⟨h,j,s⟩:=qr r;obtain⟨m2,O⟩:∃ m2,m2=(List.map k2 (List.filter (fun b=>!(b.1 == e)) a.marks)).length:=⟨_,rfl⟩;rw[<-O] at s;subst s;rw[<-qb Y] at m k;have o:=k.heap (qb b5).nS (qb b6);have Z:g.cell? ⟨n,16,none⟩=some y.mv:=qe o 16;rw[qb Y] at Z;have b8:=fun P=>qj o P;have a0:g.cell? ⟨n,14,none⟩=some (xD a y):=qe o 14;rw[qb a9] at a0;have Q:=qg ((qb b7) g h m2 j r m k);have c3:=k.heap (qb d3) (fun c=>by have:=F _ ((qb d4) _ c);omega);have e4:=qg c3;clear r m o k O c3);obtain⟨l,a3⟩:=zx (g.setCell ⟨n,16,none⟩ (.slice h m2 j));rw[<-a3];have u:=qb Q;rw[<-a3] at u;have a2:l.heap[w.heap.size]?=some (.cells #[.int .i64 e] 3):=(by rw[a3];exact qu (qb e4) (by show w.heap.size≠n;omega) _);have c4:=(u.1.fr d (qb a1)).1;have e5:l.cell? ⟨n,14,none⟩=some (.pointer (some ⟨y.fb,0,none⟩)):=(by have:=qe u.1.nS 14;rw[this];simp[qT,xD,qb a1]);obtain⟨-,e6,-⟩:=zzc c4;rw[qb c0] at e6;have e7:=qg ((qb e1) l _ u.1 rfl a2);have U:=qg u.1;have e8:=qg u.2;clear u Q a2 c4 a3 Z a0 b8
  go_region_with
   ((go_at_call 78;refine (qb e7).mono ?_;rintro c V ⟨⟨g1,rfl,b0,b1⟩,c5⟩;obtain⟨B,C,s⟩:=qr b0;obtain⟨m4,c6⟩:=zx ((List.map k2 (zT e d.marks)).length);rw[<-c6] at s;clear c6;subst s;have D:=(qb U).fr d (qb a1);have E:=(gp.refl _ l).drew.trans c5;have A:=qq D.2.2.2.1 D.1 (by decide);have b2:=qq D.2.2.2.1 (qb U).nS (by decide);have a4:=E.heap D.1 A;have u14:=(aH (E.block n (qh (qb U).nS) b2)).trans e5;obtain⟨-,u1,-⟩:=zzc a4;rw[qb c0] at u1;have g2:=fun P=>qj a4 P;have g3:(V.setCell ⟨y.fb,1,none⟩ (.slice B m4 C)).cell? ⟨n,14,none⟩=some (.pointer (some ⟨y.fb,0,none⟩)):=(by have c7:=E.heap (qb U).nS b2;have e9:=qu c7 (p:=⟨y.fb,1,none⟩) (fun c=>d7 c.symm) (.slice B m4 C);rw[qe e9,<-qe c7];exact u14);have c8:Fr S (V.setCell ⟨y.fb,1,none⟩ (.slice B m4 C)) n {a with marks:=zT e a.marks,frame:=some {d with marks:=zT e d.marks}} { {y with mv:=.slice h m2 j} with fm:=.slice B m4 C}:=(by have f0:gp (fun b=>b=y.fb\/y.fm.ownBlock=some b) l (V.setCell ⟨y.fb,1,none⟩ (.slice B m4 C)):=(E.wide (fun b _ c=>.inr c)).setCell (p:=⟨y.fb,1,none⟩) (.inl (.inl rfl)) _;exact (qb U).vB (g:=d) (qb a1) f0 (qp (i:=1) a4 _) (qi b0 ((gp.refl (fun b=>b=y.fb) V).setCell (p:=⟨y.fb,1,none⟩) (.inl rfl) _) (fun b t c=>A (by rw[<-b1,t,c]))) b1);have c9:gp S w (V.setCell ⟨y.fb,1,none⟩ (.slice B m4 C)):=((qb e8).trans (E.wide (fun b _ c=>(D.2.2.2.2.1 b c).1))).setCell (p:=⟨y.fb,1,none⟩) (.inl b9) _;have f1:=qg c8;have f2:=qg c9;clear b0 b1 c5 D E A b2 a4 c8 c9))
  all_goals
   (try simp only[Exit.then])
   (try go_simp)
   (try go_wp2)
   go_end0;exact⟨⟨_,rfl⟩,⟨_,qb f1⟩,qb f2⟩
end Go.Proofs.YtbnbkjbfpamijaaGreat
