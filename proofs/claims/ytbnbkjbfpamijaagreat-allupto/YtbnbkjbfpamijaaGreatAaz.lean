import Derived.Test.YtbnbkjbfpamijaaGreatAay
set_option linter.all false
set_option maxRecDepth 100000
set_option maxHeartbeats 0
namespace Go.Proofs.YtbnbkjbfpamijaaGreat
open Go.RowKit Go.Proofs.Panes
variable{l':List gv}{n:Nat}
def Zr (d:Dc){k j:Nat}(a:zG d k=some j):∃ b,zG d (k+1)=some b:=by
 unfold zG;split
 ·exact⟨j,a⟩
 ·rw[a];simp only;split<;>exact⟨_,rfl⟩
def rX (d:Dc)(h:d.front<3):zG d 3=some (hT d)/\hT d<3:=by
 have:∃ a,zG d 3=some a:=by
  by_cases b:d.front=0
  ·have c:zG d 1=none:=(by unfold zG;rw[an b.symm];rfl);have e:zG d 2=some 1:=(by unfold zG;rw[ah (show ¬1=d.front by omega),c]);exact Zr d e
  ·have c:zG d 1=some 0:=(by unfold zG;rw[ah (fun g=>b g.symm)];rfl);obtain⟨j,e⟩:=Zr d c;exact Zr d e
 obtain⟨a,f⟩:=this;have b:hT d=a:=(by unfold hT;rw[f];rfl);rw[b];exact⟨f,Yn d 3 a f⟩
def qr1 {tI:List Value}(e:tI.length=l'.length)(a:Int)(b c:Nat):Ks (l'.zip tI) a b c=Qq l' a b c:=by
 unfold Ks Qq ZH jP;have:l'=(l'.zip tI).map Prod.fst:=by rw[List.map_fst_zip (by omega)]
 conv=>rhs;rw[this]
 rw[List.foldl_map]
def sx (d:Dc)(v:Dv)(c:hT d<3)(b:Value):((((iC (qs d ((List.range d.N).map (Qq d.l d.c.behind d.W)) d.N) {v with uJ:=b}).setIfInBounds (10+hT d*3+2) (.int .i64 (d.tH+1))).setIfInBounds 24 v.wv).setIfInBounds 25 (.slice none 0 0)).setIfInBounds 27 (.bool false)=iC (pm d) {v with uJ:=b,mv:=v.wv,wv:=.slice none 0 0}:=by
 unfold iC pm qs;rcases (show hT d=0\/hT d=1\/hT d=2 by omega) with a | a | a<;>rw[a]<;>rfl
def zd2 (d:Dc)(v:Dv)(b:n<3):(iC d v)[10+n*3+1]?=some (.slice (some ⟨v.g n,0,none⟩) d.N d.N)/\(∃ a,(iC d v)[10+n*3+2]?=some a):=by
 rcases (show n=0\/n=1\/n=2 by omega) with rfl | rfl | rfl
 ·exact⟨rfl,_,rfl⟩
 ·exact⟨rfl,_,rfl⟩
 ·exact⟨rfl,_,rfl⟩
section
variable {D U:Nat->Prop}{qo:Nat->Nat}{w w1 w2 w':World}{rp cb j:Nat}{d d' d'':Dc}{v:Dv}{tI:List Value}{k:gF}
def qb6 (l:qU D U qo w rp d v tI)(c9:∀ a,U a->a<w.heap.size)(f7:d.front<3)(f8:0<=d.tH/\d.tH<=1000000000000000):Calls Tryz.prog 90 #[.pointer (some ⟨rp,0,none⟩)] w fun g w'=>(∃ E,g=.returned E)/\qX D U qo w rp v.cb (pm d) w':=by
 obtain⟨d0,a2⟩:=rX d f7;have f9:w.cell? ⟨rp,19,none⟩=some (.int .i64 (d.front:Int)):=qe l.sc.nS 19;have b4:Hid (∀ j:Nat,j<3->w.cell? ⟨rp,10+j*3+2,none⟩=some (.int .i64 (d.fn j))):=fun j d1=>(l.sc.buf d1).2.2;have d2:=qh l.sc.nS;obtain⟨d3,d4,b5,b6,b7⟩:=l.sc.wh;obtain⟨h,A⟩:=zx (hT d);have a3:h<3:=(by rw[A];exact a2);clear a2;obtain⟨e,n⟩:=zx d.N;have j8:e<=256:=(by rw[n,b7];exact cK b5.2 b6.2);obtain⟨r,a4⟩:=zx ((List.range d.N).map (Qq d.l d.c.behind d.W));obtain⟨M,wc,a5⟩:=qr l.sc.wt;obtain⟨N,d5⟩:=zx d.wait.length;rw[<-d5] at a5;obtain⟨c,u⟩:=zx (v.g h);obtain⟨i,s⟩:=zx (d.st h);have d6:i.length=e:=(by rw[s,n];exact (l.sc.st h (by omega)).2);have I:w.heap[c]?=some (.cells (i.map Value.bool).toArray 4 (0,0)):=by
  have d7:=(l.sc.st h (by omega)).1;rw[<-u,<-s] at d7;have O:=d7.2;rcases O with ⟨g,-⟩ | ⟨j9,k0,d8,g,-,d9,k1,k2,g0,e0⟩
  ·cases g
  ·simp only[ai,ac,bz,bB] at g;obtain⟨rfl,-,rfl⟩:=g;rw[d9];congr 2
   have g1:d8.toList.take (i.length*1)=d8.toList:=aL (by rw[Array.length_toList,g0,d6,n];omega);rw[g1] at e0;rw[<-e0]
 have g2:=qh I;have J:¬c=rp:=fun g=>by
  rw[g,l.sc.nS] at I;simp at I
 have a6:Hid (∀ m:Nat,Calls Tryz.prog 71 #[.pointer (some ⟨rp,0,none⟩)] ((((w.drewN m).setCell ⟨rp,26,none⟩ (.int .i64 (d.tH+1))).setCell ⟨rp,20,none⟩ (.bool true)).setCell ⟨rp,21,none⟩ (.int .i64 (h:Int))) fun g w2=>g=.returned (.slice (some ⟨w.heap.size,0,none⟩) e e)/\w2.heap[rp]?=some (.cells (iC {d with tH:=d.tH+1,tQ:=true,tU:=h} v) 121)/\w2.heap[c]?=some (.cells (i.map Value.bool).toArray 4 (0,0))/\w2.heap[w.heap.size]?=some (.cells (r.map (Value.int .i64)).toArray 3 (0,0))/\gp (fun a=>a=rp\/a=c) w w2):=fun m=>by
  have e1:Below w.heap.size w (w.drewN m):=ax (aa _ _) m;have g3:=l.below e1;obtain⟨K,a7⟩:∃ K:World,K=(((w.drewN m).setCell ⟨rp,26,none⟩ (.int .i64 (d.tH+1))).setCell ⟨rp,20,none⟩ (.bool true)).setCell ⟨rp,21,none⟩ (.int .i64 (h:Int)):=⟨_,rfl⟩;have b8:gp (fun a=>a=rp) w K:=(by rw[a7];exact (((gp.aD (S:=fun a=>a=rp) e1).setCell (p:=⟨rp,26,none⟩) (.inl rfl) _).setCell (p:=⟨rp,20,none⟩) (.inl rfl) _).setCell (p:=⟨rp,21,none⟩) (.inl rfl) _);have a8:K.heap.size=w.heap.size:=(by rw[a7];simp);have L:K.heap[rp]?=some (.cells (iC {d with tH:=d.tH+1,tQ:=true,tU:=h} v) 121):=(by rw[a7];exact qp (i:=21) (qp (i:=20) (qp (i:=26) g3.sc.nS _) _) _);have g4:=l.sc.sf.but b8 (fun a b9 g=>l.sc.apart a b9 (.inl g)) (fun a b9 g=>l.sc.tL.1 (g ▸ b9));rw[<-a7];have e2:=ZG g4 d.W d.c.h.toNat d.c.behind (by rw[qe L 0,<-d3];rfl) (by rw[qe L 1,<-d4];rfl) (qe L 7) (qe L 9) (by rw[yn l.sc];have:=l.sc.len;omega) b5 b6;rw[<-b7,<-n,a8] at e2;refine e2.mono ?_;rintro g w2 ⟨rfl,e3⟩;have a9:=e3.tT;have e4:=e3.nS;rw[a8] at e4 a9;have k3:rp<K.heap.size:=(by rw[a8];exact d2);refine⟨rfl,(a9.block rp d2).trans L,(a9.block c g2).trans (b8.heap I J),?_,((b8.wide fun a _ g=>.inl g).trans (.aD (by rw[a8];exact a9)))⟩;rw[e4,a4,n];congr 4
  refine bN fun b _=>?_;exact qr1 l.sc.pl _ _ _
 obtain⟨P,Q⟩:=zx (d.tH+1);have g5:IntKind.i64.wrap (d.tH+1)=P:=(by rw[Q,af];omega);obtain⟨B,t⟩:∃ B:Dv,B={v with uJ:=.slice (some ⟨w.heap.size,0,none⟩) e e}:=⟨_,rfl⟩;have R:Hid (∀ wr:World,wr.heap[rp]?=some (.cells (iC (qs d r e) B) 121)->wr.heap[c]?=some (.cells ((ot i e).map Value.bool).toArray 4 (0,0))->wr.heap[w.heap.size]?=some (.cells (r.map (Value.int .i64)).toArray 3 (0,0))->gp (fun a=>a=rp\/a=c) w wr->qX D U qo w rp v.cb (pm d) ((((wr.setCell ⟨rp,10+h*3+2,none⟩ (.int .i64 P)).setCell ⟨rp,24,none⟩ (.slice M N wc)).setCell ⟨rp,25,none⟩ (.slice none 0 0)).setCell ⟨rp,27,none⟩ (.bool false)).drew):=fun wr h1 h2 h3 h4=>by
  have T:=qp (i:=27) (qp (i:=25) (qp (i:=24) (qp (i:=10+h*3+2) h1 (.int .i64 P)) (.slice M N wc)) (.slice none 0 0)) (.bool false);have F:gp (fun a=>a=rp) wr ((((wr.setCell ⟨rp,10+h*3+2,none⟩ (.int .i64 P)).setCell ⟨rp,24,none⟩ (.slice M N wc)).setCell ⟨rp,25,none⟩ (.slice none 0 0)).setCell ⟨rp,27,none⟩ (.bool false)):=((((gp.refl (fun a=>a=rp) wr).setCell (p:=⟨rp,10+h*3+2,none⟩) (.inl rfl) _).setCell (p:=⟨rp,24,none⟩) (.inl rfl) _).setCell (p:=⟨rp,25,none⟩) (.inl rfl) _).setCell (p:=⟨rp,27,none⟩) (.inl rfl) _;have g6:¬w.heap.size=rp:=(by omega);refine qX.below (w1:=_) ?_ ((aa _ _).drew);refine l.begun (by rw[<-A];exact a3) (fb:=w.heap.size) (zzl _) c9 ?_ ?_ ?_ ?_
  ·rw[<-A,<-u];exact h4.trans (F.wide fun a _ g=>.inl g)
  ·rw[T];congr 2
   rw[t,<-a5,Q,a4,n,A];exact sx d v (by rw[<-A];exact a3) _
  ·rw[<-A,<-u];have:=F.heap h2 J;rw[this];congr 4
   unfold ot;rw[bI (by omega),aW,n]
  ·have:=F.heap h3 g6;rw[this,a4]
 rw[<-Q] at a6;have G:=qg l.sc.nS;have g7:Hid (v.wv=.slice M N wc):=a5;have g8:=qg d0;have V:=qg A;have e5:=qg (ci u (ci s (ci t n)));have e6:=qg d6;have e7:=qg J;have e8:=qg Q;have g9:=qg I;have a2:=a3;clear l c9 f8 d3 d4 b5 b6 b7 n a4 a5 d5 u s I A Q t d0 a3;go_enter Tryz.func90,Tryz.ntmps90;go_wp2;go_loopw [2,3] (fun e9 C wr=>∃ k:Nat,k<=3/\C=.int .i64 (k:Int)/\e9=.int .i64 (pJ (zG d k))/\∃ m,wr=w.drewN m) (fun e9 C _=>3-(intOf C).toNat)
 case atStart=>exact⟨0,by omega,rfl,rfl,0,rfl⟩
 case round=>
  obtain⟨k,d9,rfl,rfl,m,rfl⟩:=hrel;by_cases i0:k<3
  ·have k4:(0:Int)<=(k:Int):=(by omega);have k5:(k:Int)<3:=(by omega);have k6:=(qb b4) k i0;clear a6 R;by_cases W:k=d.front
   ·have z:zG d (k+1)=zG d k:=(by rw[zG,an W]);have k7:((k:Int) != (d.front:Int))=false:=(by rw[W];simp);have X:=qg z;obtain⟨k8,O⟩:=zx (pJ (zG d k));rw[<-O];have i1:=qg O;clear z O;go_wp2;go_quiet (fail)
    go_wp2;go_roundw
    case rel=>exact⟨k+1,by omega,by go_num,by rw[qb X,qb i1],m+nq,by rfl⟩
    case measure=>simp[intOf];omega
   ·have L:((k:Int) != (d.front:Int))=true:=(by have:¬(k:Int)=(d.front:Int):=(by omega);simp[this]);have k9:¬(k:Int)=(d.front:Int):=(by omega);cases b0:zG d k with
    | none=>
     have z:zG d (k+1)=some k:=(by rw[zG,ah W,b0]);have X:=qg z;clear z;simp only[pJ];go_wp2;go_quiet (fail)
     go_wp2;go_roundw
     case rel=>exact⟨k+1,by omega,by go_num,by rw[qb X]<;>rfl,m+nq,by rfl⟩
     case measure=>simp[intOf];omega
    | some j=>
     have d1:=Yn d k j b0;have l0:=(qb b4) j (by omega);have i2:(0:Int)<=(j:Int):=(by omega);have f0:(j:Int)<3:=(by omega);have i3:¬(j:Int)<0:=(by omega);have l1:=bY i3;by_cases f1:d.fn k<d.fn j
     focus
      have z:zG d (k+1)=some k:=by rw[zG,ah W,b0];simp[f1]
     rotate_left
     focus
      have z:zG d (k+1)=some j:=by rw[zG,ah W,b0];simp[f1]
     rotate_left
     all_goals
      have X:=qg z;clear z;simp only[pJ];go_wp2;go_quiet (fail)
      go_wp2;go_roundw
      case rel=>exact⟨k+1,by omega,by go_num,by rw[qb X]<;>rfl,m+nq,by rfl⟩
      case measure=>simp[intOf];omega
  ·have i4:k=3:=(by omega);subst i4;rw[qb g8];simp only[pJ];rw[<-qb V];have i5:(w.drewN m).cell? ⟨rp,26,none⟩=some (.int .i64 d.tH):=qe (qb G) 26;have i6:(w.drewN m).cell? ⟨rp,20,none⟩=some (.bool d.tQ):=qe (qb G) 20;have i7:(w.drewN m).cell? ⟨rp,21,none⟩=some (.int .i64 (d.tU:Int)):=qe (qb G) 21;have i8:(w.drewN m).frozen? ⟨rp,26,none⟩=false:=qj (qb G) 26;have i9:(w.drewN m).frozen? ⟨rp,20,none⟩=false:=qj (qb G) 20;have j0:(w.drewN m).frozen? ⟨rp,21,none⟩=false:=qj (qb G) 21;have f2:=qg ((qb a6) m);clear a6 b4 f9
   go_wp2_with (go_at_call 71;refine (qb f2).mono ?_;rintro g w2 ⟨rfl,f,q,x,y⟩;have c0:∃ E,w2.cell? ⟨rp,23,none⟩=some E:=⟨_,qe f 23⟩;obtain⟨u23,c0⟩:=c0;have j1:w2.cell? ⟨rp,22,none⟩=some (.int .i64 d.left):=qe f 22;have j2:=qj f 23;have j3:=qj f 22;have j4:=qh f;have f3:=qg (ci f (ci q (ci x y)));clear f q x y f2)
   have c1:Hid (((w2.setCell ⟨rp,23,none⟩ (.slice (some ⟨w.heap.size,0,none⟩) e e)).setCell ⟨rp,22,none⟩ (.int .i64 0)).heap[rp]?=some (.cells (iC (qs d r 0) B) 121)/\((w2.setCell ⟨rp,23,none⟩ (.slice (some ⟨w.heap.size,0,none⟩) e e)).setCell ⟨rp,22,none⟩ (.int .i64 0)).heap[c]?=some (.cells ((ot i 0).map Value.bool).toArray 4 (0,0))/\((w2.setCell ⟨rp,23,none⟩ (.slice (some ⟨w.heap.size,0,none⟩) e e)).setCell ⟨rp,22,none⟩ (.int .i64 0)).heap[w.heap.size]?=some (.cells (r.map (Value.int .i64)).toArray 3 (0,0))/\gp (fun a=>a=rp\/a=c) w ((w2.setCell ⟨rp,23,none⟩ (.slice (some ⟨w.heap.size,0,none⟩) e e)).setCell ⟨rp,22,none⟩ (.int .i64 0))):=by
    obtain⟨f,q,x,y⟩:=qb f3;obtain⟨u,s,t,n⟩:=qb e5;have F:gp (fun a=>a=rp) w2 ((w2.setCell ⟨rp,23,none⟩ (.slice (some ⟨w.heap.size,0,none⟩) e e)).setCell ⟨rp,22,none⟩ (.int .i64 0)):=((gp.refl (fun a=>a=rp) w2).setCell (p:=⟨rp,23,none⟩) (.inl rfl) _).setCell (p:=⟨rp,22,none⟩) (.inl rfl) _;refine⟨?_,?_,F.heap x (by omega),y.trans (F.wide fun a _ g=>.inl g)⟩
    ·have:=qp (i:=22) (qp (i:=23) f (.slice (some ⟨w.heap.size,0,none⟩) e e)) (.int .i64 0);rw[this];congr 2
     rw[t,qb V,qb e8];rfl
    ·have:=F.heap q (qb e7);rw[this];unfold ot;rw[eP,eH,cd]
   generalize (w2.setCell ⟨rp,23,none⟩ (.slice (some ⟨w.heap.size,0,none⟩) e e)).setCell ⟨rp,22,none⟩ (.int .i64 0)=l2 at c1 ⊢;clear i5 i6 i7 i8 i9 j0 c0 j1 j2 j3 j4 f3 G g9 g5;go_loopw [4] (fun a wr=>∃ b:Nat,b<=e/\a=.int .i64 b/\wr.heap[rp]?=some (.cells (iC (qs d r b) B) 121)/\wr.heap[c]?=some (.cells ((ot i b).map Value.bool).toArray 4 (0,0))/\wr.heap[w.heap.size]?=some (.cells (r.map (Value.int .i64)).toArray 3 (0,0))/\gp (fun a=>a=rp\/a=c) w wr) (fun a _=>e-(intOf a).toNat)
   case atStart=>exact⟨0,aj _,rfl,qb c1⟩
   case round=>
    clear c1;obtain⟨b,l3,rfl,f,q,x,y⟩:=hrel;obtain⟨u,s,t,n⟩:=qb e5;have J:=qb e7;have f4:¬rp=c:=fun g=>J g.symm;have l4:wr.cell? ⟨rp,23,none⟩=some (.slice (some ⟨w.heap.size,0,none⟩) e e):=(by rw[qe f 23,t];rfl);obtain⟨b1,⟨u2,b2⟩⟩:=zd2 (qs d r b) B a2;have l5:wr.cell? ⟨rp,10+h*3+1,none⟩=some (.slice (some ⟨c,0,none⟩) e e):=(by rw[qe f,b1,u,n,t];rfl);have f5:wr.cell? ⟨rp,22,none⟩=some (.int .i64 (ny (d.st (hT d)) b:Int)):=qe f 22;rw[<-qb V,<-s] at f5;have l6:=qh f;have l7:=qh q;have l8:(0:Int)<=(h:Int):=(by omega);have l9:(h:Int)<3:=(by omega);by_cases n0:b<e
    ·obtain⟨C,Y⟩:∃ C,i[b]?=some C:=⟨i[b]'(by have:=qb e6;omega),by simp⟩;have cb:wr.cell? ⟨c,b,none⟩=some (.bool C):=(by rw[qe q];simp[sy Y]);have n1:=qj q b;have n2:=qj f 22;have i2:(0:Int)<=(b:Int):=(by omega);have f0:(b:Int)<(e:Int):=(by omega);have c2:=qp (i:=b) q (.bool false);have b3:((ot i b).map Value.bool).toArray.setIfInBounds b (.bool false)=((ot i (b+1)).map Value.bool).toArray:=(by rw[<-qx9 (by have:=qb e6;omega)];simp);obtain⟨o,H⟩:=zx (ny i b);rw[<-H] at f5;have n3:o<=256:=(by rw[H,<-JL i 1 (fun _ _=>0)];have:=kV i 1 (fun _ _=>0) b;omega);cases C with
     | true=>
      have Z:ny i (b+1)=o+1:=(by show ny i b+_=_;rw[an Y,H]);have c3:Hid (∃ j:Nat,j=b+1/\((wr.setCell ⟨rp,22,none⟩ (.int .i64 ((o:Int)+1))).setCell ⟨c,b,none⟩ (.bool false)).heap[rp]?=some (.cells (iC (qs d r j) B) 121)/\((wr.setCell ⟨rp,22,none⟩ (.int .i64 ((o:Int)+1))).setCell ⟨c,b,none⟩ (.bool false)).heap[c]?=some (.cells ((ot i j).map Value.bool).toArray 4 (0,0))/\((wr.setCell ⟨rp,22,none⟩ (.int .i64 ((o:Int)+1))).setCell ⟨c,b,none⟩ (.bool false)).heap[w.heap.size]?=some (.cells (r.map (Value.int .i64)).toArray 3 (0,0))/\gp (fun a=>a=rp\/a=c) w ((wr.setCell ⟨rp,22,none⟩ (.int .i64 ((o:Int)+1))).setCell ⟨c,b,none⟩ (.bool false))):=by
       have f6:gp (fun a=>a=rp\/a=c) wr ((wr.setCell ⟨rp,22,none⟩ (.int .i64 ((o:Int)+1))).setCell ⟨c,b,none⟩ (.bool false)):=((gp.refl (fun a=>a=rp\/a=c) wr).setCell (p:=⟨rp,22,none⟩) (.inl (.inl rfl)) _).setCell (p:=⟨c,b,none⟩) (.inl (.inr rfl)) _;have j5:gp (fun a=>a=rp) wr (wr.setCell ⟨rp,22,none⟩ (.int .i64 ((o:Int)+1))):=(gp.refl (fun a=>a=rp) wr).setCell (p:=⟨rp,22,none⟩) (.inl rfl) _;have a0:gp (fun a=>a=c) (wr.setCell ⟨rp,22,none⟩ (.int .i64 ((o:Int)+1))) ((wr.setCell ⟨rp,22,none⟩ (.int .i64 ((o:Int)+1))).setCell ⟨c,b,none⟩ (.bool false)):=(gp.refl (fun a=>a=c) _).setCell (p:=⟨c,b,none⟩) (.inl rfl) _;refine⟨b+1,rfl,?_,?_,f6.heap x (by omega),y.trans f6⟩
       ·have T:=qp (i:=22) f (.int .i64 ((o:Int)+1));rw[a0.heap T f4];congr 2
        have c4:(ny (d.st (hT d)) (b+1):Int)=(o:Int)+1:=(by rw[<-qb V,<-s,Z];rfl);unfold qs;rw[c4];rfl
       ·have T:=qp (i:=b) (j5.heap q J) (.bool false);rw[T,b3]
      clear f q x y c2 b3 Z H Y b1 b2 u s t n R;have n4:IntKind.i64.wrap ((o:Int)+1)=(o:Int)+1:=(by rw[af];omega);go_wp2;go_roundw
      case rel=>
       obtain⟨j,rfl,c5,c6,c7,c8⟩:=qb c3;exact⟨b+1,by omega,by go_num,c5,c6,c7,c8⟩
      case measure=>simp[intOf];omega
     | false=>
      have Z:ny i (b+1)=o:=(by show ny i b+_=_;rw[ah (by rw[Y];simp),H];rfl);have c3:Hid (∃ j:Nat,j=b+1/\(wr.setCell ⟨c,b,none⟩ (.bool false)).heap[rp]?=some (.cells (iC (qs d r j) B) 121)/\(wr.setCell ⟨c,b,none⟩ (.bool false)).heap[c]?=some (.cells ((ot i j).map Value.bool).toArray 4 (0,0))/\(wr.setCell ⟨c,b,none⟩ (.bool false)).heap[w.heap.size]?=some (.cells (r.map (Value.int .i64)).toArray 3 (0,0))/\gp (fun a=>a=rp\/a=c) w (wr.setCell ⟨c,b,none⟩ (.bool false))):=by
       have a0:gp (fun a=>a=c) wr (wr.setCell ⟨c,b,none⟩ (.bool false)):=(gp.refl (fun a=>a=c) _).setCell (p:=⟨c,b,none⟩) (.inl rfl) _;refine⟨b+1,rfl,?_,by rw[c2,b3],a0.heap x (by omega),y.trans (a0.wide fun a _ g=>.inr g)⟩;rw[a0.heap f f4];congr 2
       have c4:(ny (d.st (hT d)) (b+1):Int)=(ny (d.st (hT d)) b:Int):=(by rw[<-qb V,<-s,Z,H]);unfold qs;rw[c4]
      clear f q x y c2 b3 Z H Y b1 b2 u s t n R;go_wp2;go_roundw
      case rel=>
       obtain⟨j,rfl,c5,c6,c7,c8⟩:=qb c3;exact⟨b+1,by omega,by go_num,c5,c6,c7,c8⟩
      case measure=>simp[intOf];omega
    ·have j6:b=e:=(by omega);subst j6;have j7:=qg ((qb R) wr f q x y);have n5:wr.cell? ⟨rp,26,none⟩=some (.int .i64 P):=(by rw[qe f 26,qb e8];rfl);have n6:wr.cell? ⟨rp,25,none⟩=some (.slice M N wc):=(by rw[qe f 25,t];show some v.wv=_;rw[qb g7]);obtain⟨u24,n7⟩:∃ E,wr.cell? ⟨rp,24,none⟩=some E:=⟨_,qe f 24⟩;obtain⟨u27,n8⟩:∃ E,wr.cell? ⟨rp,27,none⟩=some E:=⟨_,qe f 27⟩;have n9:wr.cell? ⟨rp,10+h*3+2,none⟩=some u2:=(by rw[qe f];exact b2);have a1:=fun a=>qj f a;have o0:=a1 (10+h*3+2);have o1:=a1 24;have o2:=a1 25;have o3:=a1 27;have f0:¬(b:Int)<(b:Int):=(by omega);have o4:¬26=10+h*3+2:=(by omega);have o5:¬25=10+h*3+2:=(by omega);have o6:¬24=10+h*3+2:=(by omega);have o7:¬27=10+h*3+2:=(by omega);clear f q x y b1 b2 u s t n R a1;go_wp2;go_region;go_wp2;go_end0;exact⟨⟨_,rfl⟩,qb j7⟩
end
end Go.Proofs.YtbnbkjbfpamijaaGreat
