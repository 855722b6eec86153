import Derived.Test.YtbnbkjbfpamijaaGreatAba
set_option linter.all false
set_option maxRecDepth 100000
set_option maxHeartbeats 0
namespace Go.Proofs.YtbnbkjbfpamijaaGreat
open Go.RowKit Go.Proofs.Panes
section
variable {D U D1:Nat->Prop}{qo:Nat->Nat}{w wr w2:World}{rp cb rb ob:Nat}{d d':Dc}{rep:Array Value}{av fv:Value}{cn:List Int}{fm:List (Int×Int)}{v:Dv}{tI:List Value}
def qq1 (c2:qU D U qo w rp d v tI)(g3:∀ x,U x->x<w.heap.size)(hF:VL d)(l:Nat)(s1:l<=9223372036854775807):Calls Tryz.prog 49 #[.pointer (some ⟨rp,0,none⟩),.int .i64 (l:Int)] w (qy6 D U w rp v.cb d l):=by
 have m:=qg g3;have r:=qg hF;have s2:¬(l:Int)<0:=(by omega);have s3:=hF.t;obtain⟨j,b0⟩:=zx (d.t+1);have d1:IntKind.i64.wrap (d.t+1)=j:=(by rw[af];omega);obtain⟨L,-,e6,-,-,-,-,-,n2,-⟩:=zzk c2.sc.nS 20;have n3:=qj c2.sc.nS 28;have s4:=qh c2.sc.nS;obtain⟨j7,j8⟩:=hj.begin c2 g3 j;have b1:=qg j7;have A:=qg j8;have B:=qg b0;obtain⟨cb,g4⟩:=zx v.cb;rw[<-g4] at A ⊢;have E:=qg g4;obtain⟨d2,d3,g5⟩:=qr c2.tN;obtain⟨d4,j9⟩:=zx d.marks.length;rw[<-j9] at g5;have c3:=qg g5;clear c2 g3 hF b0 j7 j8 g4 g5 j9;go_enter Tryz.func49,Tryz.ntmps49
 go_upto_region 5 with fail
 go_cut [36] from 26 to 35 (fun n4 b2=>n4=.bool (@decide (yy d) (lW d))/\b2=(((w.setCell ⟨rp,28,none⟩ (.int .i64 j)).alloc ow).alloc (.cells #[.int .i64 j,.int .i64 0,.int .i64 0,.slice none 0 0,.slice none 0 0] 133)))
 case first=>
  clear b1 A r m c3;cases b3:d.tQ with
  | false=>
   rw[b3] at L;go_wp2
   go_meet
   exact⟨by simp[yy,b3],rfl⟩
  | true=>
   rw[b3] at L;by_cases P:d.left=0
   ·rw[P] at e6;go_wp2
    go_meet
    exact⟨by simp[yy,b3,P],rfl⟩
   ·have n5:(d.left == 0)=false:=(by simp[P]);go_wp2
    go_meet
    exact⟨by simp[yy,b3,P],rfl⟩
 case rest=>
  obtain⟨rfl,rfl⟩:=hcut;clear n2 L e6 n3;generalize (((w.setCell ⟨rp,28,none⟩ (.int .i64 j)).alloc ow).alloc (.cells #[.int .i64 j,.int .i64 0,.int .i64 0,.slice none 0 0,.slice none 0 0] 133))=C at b1 A ⊢;obtain⟨rb,e7⟩:=zx (w.heap.size+1);obtain⟨ob,e8⟩:=zx w.heap.size;rw[<-e7,<-e8] at A;rw[<-e7,<-e8];have Q:=qg (ci e7 e8);clear e7 e8;obtain⟨n,X⟩:=zx (og d);have c4:=qg X
  go_upto_if 36 with fail
  go_cut [5] from 36 to 68 (fun g6 b2=>g6=.int .i64 0/\∃ Y u f g h,hj D U w rp cb rb ob Y u n #[.int .i64 j,.int .i64 (om d),.int .i64 0,.slice none 0 0,.slice f g h] (.slice none 0 0) (.slice f g h) [] (nK d) b2)
  case first=>
   by_cases s:yy d
   ·have n6:=@eC _ (lW d) s;have k0:=(qb r).tg s;have k1:=s;obtain⟨Y,u,k2⟩:=hj.flip (qb b1) (by rw[<-qb E];exact qb A) (qb m) k1 k0;have J:=qb b1;obtain⟨g7,k3,-,-⟩:=J.uT s.1;obtain⟨c5,k4⟩:=zx d.fp.length;have g8:v.uJ=.slice (some ⟨g7,0,none⟩) c5 c5:=(by rw[k4];exact k3);obtain⟨F,e9⟩:=zx d.tU;obtain⟨L,-⟩:=zzk J.sc.nS 20;have s5:C.cell? ⟨rp,21,none⟩=some (.int .i64 (F:Int)):=(by rw[e9];exact qe J.sc.nS 21);obtain⟨s6,-⟩:=zzk J.sc.nS 19;have s7:C.cell? ⟨rp,23,none⟩=some (.slice (some ⟨g7,0,none⟩) c5 c5):=(by rw[<-g8];exact qe J.sc.nS 23);have s8:C.cell? ⟨rp,24,none⟩=some (.slice d2 d4 d3):=(by rw[<-qb c3];exact qe J.sc.nS 24);obtain⟨s9,t0⟩:∃ k5,C.cell? ⟨rp,10+F*3,none⟩=some k5:=⟨_,(J.sc.buf (i:=F) (by rw[e9];exact k0)).1⟩;have M:=fun d5=>qj J.sc.nS d5;have t1:=M 20;have t2:=M 19;have t3:=M 24;have t4:=M (10+F*3);have n7:C.cell? ⟨rb,1,none⟩=some (.int .i64 0):=qe (qb A).rep 1;have n8:C.cell? ⟨rb,4,none⟩=some (.slice none 0 0):=qe (qb A).rep 4;have g9:=fun d5=>qj (qb A).rep d5;have t5:=g9 1;have t6:=g9 4;have c6:=qh J.sc.nS;have n9:=qh (qb A).rep;have o0:¬rb=rp:=fun e=>(qb A).z.1 (by rw[e];exact J.cb.1);have t7:¬rp=rb:=fun e=>o0 e.symm;have t8:(0:Int)<=(F:Int):=(by omega);have t9:(F:Int)<3:=(by omega);have k6:hj D U w rp cb rb ob Y u n #[.int .i64 j,.int .i64 (om d),.int .i64 0,.slice none 0 0,.slice d2 d4 d3] (.slice none 0 0) (.slice d2 d4 d3) [] (nK d) ((((((C.setCell ⟨rp,20,none⟩ (.bool false)).setCell ⟨rp,19,none⟩ (.int .i64 (F:Int))).setCell ⟨rp,10+F*3,none⟩ (.slice (some ⟨g7,0,none⟩) c5 c5)).setCell ⟨rb,1,none⟩ (.int .i64 1)).setCell ⟨rb,4,none⟩ (.slice d2 d4 d3)).setCell ⟨rp,24,none⟩ (.slice none 0 0)).drew:=(by have d1:om d=1:=(by unfold om;rw[an s]);have c7:nK d=d.marks:=(by unfold nK;rw[an s]);have f0:n=xU {d with t:=j}:=(by rw[X,qb B];rfl);rw[d1,c7,f0,<-g8,<-qb c3,qb E,e9];exact k2);have K:=qg k6;have v0:¬19=10+F*3:=(by omega);have v1:¬20=10+F*3:=(by omega);have v2:¬24=10+F*3:=(by omega);have v3:¬10+F*3=19:=(by omega);have v4:¬10+F*3=20:=(by omega);clear k6 k2 J k3 k4 g8 e9 X M g9 b1 A r m c3 E c4 B k1;go_wp2;go_region;go_wp2
    go_meet
    exact⟨rfl,Y,u,d2,d4,d3,qb K⟩
   ·have n6:=@bY _ (lW d) s;have d1:om d=0:=(by unfold om;rw[ah s]);have c7:nK d=[]:=(by unfold nK;rw[ah s]);have f0:n={d with t:=j}:=(by rw[X,qb B];show xU {d with t:=d.t+1}=_;unfold xU;rw[ah (show ¬yy ({d with t:=d.t+1}:Dc) from s)]);have K:Hid (hj D U w rp cb rb ob D qo n #[.int .i64 j,.int .i64 (om d),.int .i64 0,.slice none 0 0,.slice none 0 0] (.slice none 0 0) (.slice none 0 0) [] (nK d) C):=(by show hj D U w rp cb rb ob D qo n #[.int .i64 j,.int .i64 (om d),.int .i64 0,.slice none 0 0,.slice none 0 0] (.slice none 0 0) (.slice none 0 0) [] (nK d) C;rw[d1,c7,f0];exact qb A);clear b1 A r m c3 E c4 B d1 c7 f0 X;go_wp2
    go_meet
    exact⟨rfl,D,qo,none,0,0,qb K⟩
  case rest=>
   obtain⟨rfl,Y,u,f,g,h,f1⟩:=hcut;obtain⟨R,f2⟩:=zx n.l.length;obtain⟨t,s⟩:=zx (om d);obtain⟨fm,Z⟩:=zx (nK d);rw[<-s,<-Z] at f1;have v5:R<=16:=(by rw[f2];exact f1.cells.2.2.2.2.2.2.2);have f3:Hid (∀ (c:Nat)(a:gv),(zj n c).l[c]?=some a->0<a.left->a.left<=1000000/\iq (a.x+a.dx)/\iq (a.y+a.dy)):=(by show ∀ (c:Nat)(a:gv),(zj n c).l[c]?=some a->0<a.left->a.left<=1000000/\iq (a.x+a.dx)/\iq (a.y+a.dy);rw[X];exact (qb r).sl);have c8:Hid (∀ c,(zj n c).l.length=R):=fun c=>by rw[yY,f2]
   have f4:Hid (R=d.l.length):=(by show R=d.l.length;rw[f2,X];exact congrArg List.length (yB {d with t:=d.t+1}).2.2.1);have N:=qg (ci s Z);have d6:=qg f1;clear f1 f2 X s Z b1 A c3;go_wp2;go_loopw [7] (fun x wr=>∃ c:Nat,c<=R/\x=.int .i64 c/\∃ S,hj D U w rp cb rb ob S u (zj n c) #[.int .i64 j,.int .i64 t,.int .i64 0,.slice none 0 0,.slice f g h] (.slice none 0 0) (.slice f g h) [] fm wr) (fun x _=>R-(intOf x).toNat)
   case atStart=>exact⟨0,aj _,rfl,Y,qb d6⟩
   case round=>
    clear d6;obtain⟨c,w0,rfl,S,y⟩:=hrel;by_cases o1:c<R
    ·obtain⟨a,d7⟩:∃ a,(zj n c).l[c]?=some a:=⟨(zj n c).l[c]'(by rw[qb c8];exact o1),by simp⟩;obtain⟨T,w1,k7,k8,d8,c6,o2,i0,G,k9,l0,i1⟩:=y.slide (qb m) d7;rw[qb c8] at d8;obtain⟨l1,i2⟩:=zx a.px.length;have o3:=G 0 (by omega);have o4:=G 1 (by omega);have o5:=G 2 (by omega);have o6:=G 3 (by omega);have o7:=G 4 (by omega);have o8:=G 5 (by omega);have o9:=G 6 (by omega);have p0:=G 7 (by omega);have p1:=G 8 (by omega);have p2:=G 9 (by omega);simp only[zA,bp,cD,bL,<-i2] at o3 o4 o5 o6 o7 o8 o9 p0 p1 p2;have w3:(0:Int)<=(c:Int):=(by omega);have l2:(c:Int)<(R:Int):=(by omega);have w4:=i0 (c*10+9);have p3:zj n (c+1)=jq (zj n c) c:=rfl;by_cases P:0<a.left
     ·obtain⟨p4,b4,i3⟩:=(qb f3) c a d7 P;have V:Hid (Calls Tryz.prog 88 #[.pointer (some ⟨rp,0,none⟩),.int .i64 (c:Int),.int .i64 (a.x+a.dx),.int .i64 (a.y+a.dy)] ((wr.setCell ⟨T,c*10+9,none⟩ (.int .i64 (a.left-1))).alloc (.cells #[.int .i64 a.cl,.int .i64 a.num,.int .i64 a.x,.int .i64 a.y,.int .i64 a.w,.int .i64 a.h,.slice k7 l1 k8,.int .i64 a.dx,.int .i64 a.dy,.int .i64 a.left] 128)).drew fun e p5=>e=.returned (.tuple #[])/\∃ Y,hj D U w rp cb rb ob Y u (zj n (c+1)) #[.int .i64 j,.int .i64 t,.int .i64 0,.slice none 0 0,.slice f g h] (.slice none 0 0) (.slice f g h) [] fm p5):=(by rw[<-World.setCell_alloc_past _ _ _ _ o2];exact i1 P b4 i3 _ ((aa _ wr).alloc (zzl _) _));have w5:IntKind.i64.wrap (a.left-1)=a.left-1:=(by rw[af];omega);have w2:IntKind.i64.wrap (a.x+a.dx)=a.x+a.dx:=(by unfold iq at b4;rw[af];omega);have w6:IntKind.i64.wrap (a.y+a.dy)=a.y+a.dy:=(by unfold iq at i3;rw[af];omega);clear i1 y G i2 i0 b4 i3 k9 l0 f3 c8 r m N B Q c4 f4 E d7;go_wp2;go_region
      go_wp2_with (go_at_call 88;refine (qb V).mono ?_;rintro e a0 ⟨rfl,k⟩;have a1:=qg k;clear k V)
      go_roundw
      case rel=>exact⟨c+1,by omega,by go_num,qb a1⟩
      case measure=>simp[intOf];omega
     ·have a1:Hid (hj D U w rp cb rb ob S u (zj n (c+1)) #[.int .i64 j,.int .i64 t,.int .i64 0,.slice none 0 0,.slice f g h] (.slice none 0 0) (.slice f g h) [] fm (wr.alloc (.cells #[.int .i64 a.cl,.int .i64 a.num,.int .i64 a.x,.int .i64 a.y,.int .i64 a.w,.int .i64 a.h,.slice k7 l1 k8,.int .i64 a.dx,.int .i64 a.dy,.int .i64 a.left] 128))):=(by have e:zj n (c+1)=zj n c:=(by rw[p3];unfold jq;rw[d7];simp only;rw[ah P]);show hj D U w rp cb rb ob S u (zj n (c+1)) _ _ _ _ _ _;rw[e];exact y.below ((aa _ wr).alloc (zzl _) _));have n5:=P;clear i1 y G i2 i0 k9 l0 f3 c8 r m N B Q c4 f4 E d7;go_wp2;go_roundw
      case rel=>exact⟨c+1,by omega,by go_num,S,qb a1⟩
      case measure=>simp[intOf];omega
    ·have i4:c=R:=(by omega);obtain⟨⟨w7,w8,d8⟩,-,-,-,-,-,c6,-⟩:=y.cells;rw[qb c8,<-i4] at d8;have l2:¬(c:Int)<(c:Int):=(by omega);have d6:=qg y;clear y f3 c8;have f5:Hid (hj D U w rp cb rb ob S u (iI d) #[.int .i64 j,.int .i64 t,.int .i64 0,.slice none 0 0,.slice f g h] (.slice none 0 0) (.slice f g h) [] fm wr):=(by have e:zj n c=iI d:=(by unfold iI;rw[qb c4,<-qb f4,i4]);have:=qb d6;rw[e] at this;exact this);clear d6 i4;go_wp2;generalize wr=w9 at f5 d8 c6 ⊢;obtain⟨z,c9⟩:=zx (iI d);obtain⟨b5,f6⟩:=zx d.ks.length;obtain⟨b6,i5⟩:=zx d.c.hD;have i6:=(yB {d with t:=d.t+1});have i7:z.ks=d.ks:=(by rw[c9];exact ((xX (og d) d.l.length).ks).trans i6.2.1);have l3:z.c=d.c:=(by rw[c9];exact ((xX (og d) d.l.length).c).trans i6.1);have d9:Hid (∀ b,(zD z b).ks.length=b5/\(zD z b).c.hD=b6):=fun b=>by
      obtain⟨l4,l5,-⟩:=yJ z b;exact⟨by rw[l5,i7,f6],by rw[l4,l3,i5]⟩
     have i8:Hid (∀ b,(zD z b).ks[b]?=d.ks[b]?):=fun b=>by rw[J0 z b b (zzl _),i7]
     have i9:Hid (∀ (b:Nat)(c:gF),(zD z b).ks[b]?=some (some c)->rD (zD z b) b c):=(by show ∀ (b:Nat)(c:gF),(zD z b).ks[b]?=some (some c)->rD (zD z b) b c;rw[c9];exact (qb r).ad);have p6:b5<=1000:=(by rw[f6];exact (qb r).ksl);have b7:=qg (ci f6 (ci i5 c9));rw[<-c9] at f5;clear i6 i7 l3 f6 i5 c9 f4 c4;clear d8 c6 l2;go_loopw [9] (fun x wr=>∃ b:Nat,b<=b5/\x=.int .i64 b/\∃ S o p q,hj D U w rp cb rb ob S u (zD z b) #[.int .i64 j,.int .i64 t,.int .i64 0,.slice o p q,.slice f g h] (.slice o p q) (.slice f g h) ((d.ks.take b).map (xF b6)) fm wr) (fun x _=>b5-(intOf x).toNat)
     case atStart=>exact⟨0,aj _,rfl,S,none,0,0,qb f5⟩
     case round=>
      clear f5;obtain⟨b,x0,rfl,p7,o,p,q,y⟩:=hrel;obtain⟨-,⟨x1,x2,j0⟩,-,-,-,-,c6,-⟩:=y.cells;rw[((qb d9) b).1] at j0;by_cases p8:b<b5
      ·obtain⟨x,b4⟩:∃ x,d.ks[b]?=some x:=⟨d.ks[b]'(by rw[<-(qb b7).1];exact p8),by simp⟩;have j1:(zD z b).ks[b]?=some x:=(by rw[qb i8];exact b4);have f7:=y.admj (qb m) j1 (by rw[((qb d9) b).1];exact p6) (fun kk e=>(qb i9) b kk (by rw[j1,e]));rw[((qb d9) b).2] at f7;obtain⟨f8,j2⟩:=zx (xF b6 x);rw[<-j2] at f7;have l6:(d.ks.take (b+1)).map (xF b6)=(d.ks.take b).map (xF b6)++[f8]:=(by rw[am,b4,j2];simp);have l7:((d.ks.take b).map (xF b6)).length<=1000:=(by rw[ak,ao];omega);have V:Hid (Calls Tryz.prog 89 #[.pointer (some ⟨rp,0,none⟩),.int .i64 (b:Int)] wr fun e a0=>e=.returned (.int .i64 f8)/\(a0.cell? ⟨rb,3,none⟩=some (.slice o p q)/\rb<a0.heap.size)/\∃ T e0 b8 a2,(Builtin.append_ #[50,50] 50 #[.slice o p q,.slice (some ⟨a0.heap.size,0,none⟩) 1 1]).run Tryz.prog (a0.alloc (.cells #[.int .i64 f8] 3))=.ok (.slice (some ⟨T,0,none⟩) e0 b8) a2/\(a2.cell? ⟨rb,3,none⟩=some (.slice o p q)/\a2.frozen? ⟨rb,3,none⟩=false/\rb<a2.heap.size)/\∃ b9,hj D U w rp cb rb ob b9 u (zD z (b+1)) #[.int .i64 j,.int .i64 t,.int .i64 0,.slice (some ⟨T,0,none⟩) e0 b8,.slice f g h] (.slice (some ⟨T,0,none⟩) e0 b8) (.slice f g h) ((d.ks.take (b+1)).map (xF b6)) fm (a2.setCell ⟨rb,3,none⟩ (.slice (some ⟨T,0,none⟩) e0 b8))):=(by refine f7.mono ?_;rintro e a0 ⟨rfl,b9,k⟩;obtain⟨T,b8,a2,p9,q0,c0,q1,q2⟩:=k.push (qb m) l7 f8;refine⟨rfl,⟨qe k.rep 3,qh k.rep⟩,T,_,b8,a2,p9,⟨q0 3,c0 3,q1⟩,b9,?_⟩;rw[l6];exact q2);have x3:(0:Int)<=(b:Int):=(by omega);have l8:(b:Int)<(b5:Int):=(by omega);clear f7 y l6 l7 j2 b4 j1 d9 i8 i9 b7 r m N B Q E
       go_wp2_with (first
         | (go_at_call 89;refine (qb V).mono ?_;rintro e a0 ⟨rfl,⟨q3,x4⟩,T,e0,b8,a2,l9,⟨x5,x6,x7⟩,a3⟩;have q4:=qg a3;have q5:=qg l9;clear a3 V l9)
         | (at_builtin;refine zq rfl _ _ 50 50 rfl rfl _ _ _ _ rfl rfl (qb q5) ?_))
       go_roundw
       case rel=>
        obtain⟨e1,h6⟩:=qb q4;exact⟨b+1,by omega,by go_num,e1,_,_,_,h6⟩
       case measure=>simp[intOf];omega
      ·have f9:b=b5:=(by omega);have l8:¬(b:Int)<(b:Int):=(by omega);rw[<-f9] at j0;have K:Hid (hj D U w rp cb rb ob p7 u (iL d) #[.int .i64 j,.int .i64 t,.int .i64 0,.slice o p q,.slice f g h] (.slice o p q) (.slice f g h) (d.ks.map (xF d.c.hD)) fm wr):=(by have e:zD z b=iL d:=(by unfold iL;rw[(qb b7).2.2,f9,(qb b7).1]);have c7:d.ks.take b=d.ks:=(by rw[f9,(qb b7).1];exact aP);have:=y;rw[e,c7,(qb b7).2.1] at this;exact this);clear y d9 i8 i9 b7 f9;obtain⟨-,-,L,-,n0,-,-,-⟩:=(qb K).cells;obtain⟨c0,a4⟩:=zx ((iL d).tQ);obtain⟨h3,a5⟩:=zx ((iL d).ch);rw[<-a4] at L;rw[<-a5] at n0;have c1:=qg (ci a4 a5);clear a4 a5
       go_upto_region 24 with fail
       go_cut [139] from 129 to 138 (fun q6 b2=>q6=.bool (!c0&&h3)/\b2=wr)
       case first=>
        clear K r m N B Q E c1;cases c0<;>cases h3<;>(go_wp2;go_meet;exact⟨rfl,rfl⟩)
       case rest=>
        obtain⟨rfl,rfl⟩:=hcut;clear j0 L n0 l8
        go_upto_if 139 with fail
        go_cut [5] from 139 to 141 (fun g6 b2=>g6=.int .i64 0/\∃ b9,hj D U w rp cb rb ob b9 u (il d) #[.int .i64 j,.int .i64 t,.int .i64 0,.slice o p q,.slice f g h] (.slice o p q) (.slice f g h) (d.ks.map (xF d.c.hD)) fm b2)
        case first=>
         obtain⟨a4,a5⟩:=qb c1;by_cases g0:c0=false/\h3=true
         ·have e2:=qm3 (by rw[<-a4];exact g0.1) (by rw[<-a5];exact g0.2);have V:=qg ((qb K).vl (qb m) (qb r).fr (qb r).fm);rw[<-e2] at V;obtain⟨rfl,rfl⟩:=g0;clear K r m N B Q E c1 a4 a5 e2
          go_wp2_with (go_at_call 90;refine (qb V).mono ?_;rintro e a0 ⟨⟨k5,rfl⟩,k⟩;have a1:=qg k;clear k V)
          go_meet
          exact⟨rfl,qb a1⟩
         ·have e2:il d=iL d:=(by unfold il jF;rw[an];rw[<-a4,<-a5];cases c0<;>cases h3<;>simp_all);have a1:=K;rw[<-e2] at a1;clear K r m N B Q E c1 a4 a5 e2;cases c0<;>cases h3<;>first | exact absurd ⟨rfl,rfl⟩ g0 | (go_wp2;go_meet;exact⟨rfl,_,qb a1⟩)
        case rest=>
         obtain⟨rfl,b9,k⟩:=hcut;clear K;obtain⟨-,-,L,e6,-,M,c6,-⟩:=k.cells;have x8:=M 22;obtain⟨x9,n7,y0,q3,n8,-⟩:=zzc k.rep;have y1:=qj k.rep 2;have n9:=qh k.rep;obtain⟨y2,y3,y4,y5,y6,-⟩:=zzc k.out;have a6:=fun d5=>qj k.out d5;have y7:=a6 0;have l4:=a6 1;have l5:=a6 2;have z0:=a6 3;have z1:=a6 4;have z2:=qh k.out;obtain⟨g1,g2,q7⟩:=k.z;have z3:¬ob=rb:=fun e=>q7 e.symm;obtain⟨z4,z5,e3,-⟩:=k.doc;have q8:¬rb=rp:=fun e=>g1 (by rw[e];exact e3.cb.1);have z6:¬rp=rb:=fun e=>q8 e.symm;have q9:¬ob=rp:=fun e=>g2 (by rw[e];exact e3.cb.1);have z7:¬rp=ob:=fun e=>q9 e.symm;obtain⟨s,Z⟩:=qb N;have b0:=qb B;have e4:=(qb r).lf;have d0:Hid (∀ (a7:Int)(C e5:World)(j3:Dc)(j4:Nat->Prop),a7=nF (il d) l->j3=xS d l->hj D U w rp cb rb ob j4 u j3 #[.int .i64 j,.int .i64 t,.int .i64 a7,.slice o p q,.slice f g h] (.slice o p q) (.slice f g h) (d.ks.map (xF d.c.hD)) fm C->Below (((((C.setCell ⟨ob,0,none⟩ (.int .i64 j)).setCell ⟨ob,1,none⟩ (.int .i64 t)).setCell ⟨ob,2,none⟩ (.int .i64 a7)).setCell ⟨ob,3,none⟩ (.slice o p q)).setCell ⟨ob,4,none⟩ (.slice f g h)).heap.size (((((C.setCell ⟨ob,0,none⟩ (.int .i64 j)).setCell ⟨ob,1,none⟩ (.int .i64 t)).setCell ⟨ob,2,none⟩ (.int .i64 a7)).setCell ⟨ob,3,none⟩ (.slice o p q)).setCell ⟨ob,4,none⟩ (.slice f g h)) e5->e5.heap[ob]?=some (.cells #[.int .i64 j,.int .i64 t,.int .i64 a7,.slice o p q,.slice f g h] 133)/\qy6 D U w rp cb d l (.returned (.tuple #[.agg #[.int .i64 j,.int .i64 t,.int .i64 a7,.slice o p q,.slice f g h],.int .i64 0])) e5):=fun a7 C e5 j3 j4 b3 r0 y j5=>by
          obtain⟨r1,⟨r2,r3,r4,r5⟩,r6,r7,r8,r9⟩:=y.end (qb m) (a0:=.int .i64 j) (a1:=.int .i64 t) (a2:=.int .i64 a7) (a3:=.slice o p q) (a4:=.slice f g h);have j6:gp (fun _=>False) _ e5:=.aD j5;refine⟨j6.heap r1 (fun e=>e),.slice o p q,.slice f g h,j4,u,by rw[b0,s,b3],⟨r2,r3,?_,r5⟩,r6,r7.then j5,qi r8 j6 (fun _ _ e=>e),?_⟩
          ·rw[<-r0];exact r4.below j5
          ·rw[<-Z];exact qi r9 j6 (fun _ _ e=>e)
         obtain⟨H,W⟩:=zx ((il d).left);rw[<-W] at e6 e4;cases I:(il d).tQ with
         | false=>
          rw[I] at L;have O:(0:Int)=nF (il d) l:=(by unfold nF;rw[ah (by rw[I];simp)]);have a8:il d=xS d l:=(by unfold xS jI;rw[ah (by rw[I];simp)]);have a9:=qg ((qb d0) 0 wc _ (il d) b9 O a8 k (aa _ _));clear k d0 e3 r m N B Q E c1 s Z b0 e4 W O a8 M a6 g1 g2 I;go_wp2;exact bV (kJ _ _ ob #[.int .i64 j,.int .i64 t,.int .i64 0,.slice o p q,.slice f g h] (by kernel_rfl) (qb a9).1 rfl) rfl (qb a9).2
         | true=>
          rw[I] at L;obtain⟨z8,p4⟩:=e4 I;by_cases n1:(l:Int)<H
          ·have O:(l:Int)=nF (il d) l:=(by unfold nF;rw[an I,an (by rw[<-W];exact n1)]);have a8:({il d with left:=H-(l:Int)}:Dc)=xS d l:=(by unfold xS jI;rw[an I,<-O,W]);obtain⟨e1,a3⟩:=((k.set (qb m) 2 (.int .i64 H)).set (qb m) 2 (.int .i64 (l:Int))).left (H-(l:Int));have a9:=qg ((qb d0) (l:Int) _ _ _ e1 O a8 a3 ((aa _ _).drew));clear k a3 d0 e3 r m N B Q E c1 s Z b0 e4 W O a8 M a6 g1 g2 I;have s0:IntKind.i64.wrap (H-(l:Int))=H-(l:Int):=(by rw[af];omega);go_wp2;go_region;go_wp2;exact bV (kJ _ _ ob #[.int .i64 j,.int .i64 t,.int .i64 (l:Int),.slice o p q,.slice f g h] (by kernel_rfl) (qb a9).1 rfl) rfl (qb a9).2
          ·have O:H=nF (il d) l:=(by unfold nF;rw[an I,ah (by rw[<-W];exact n1),W]);have a8:({il d with left:=0}:Dc)=xS d l:=(by unfold xS jI;rw[an I,<-O,W,Int.sub_self]);obtain⟨e1,a3⟩:=(k.set (qb m) 2 (.int .i64 H)).left 0;have a9:=qg ((qb d0) H _ _ _ e1 O a8 a3 ((aa _ _).drew));clear k a3 d0 e3 r m N B Q E c1 s Z b0 e4 W O a8 M a6 g1 g2 I;have s0:IntKind.i64.wrap (H-H)=0:=(by rw[af];omega);go_wp2;go_region;go_wp2;exact bV (kJ _ _ ob #[.int .i64 j,.int .i64 t,.int .i64 H,.slice o p q,.slice f g h] (by kernel_rfl) (qb a9).1 rfl) rfl (qb a9).2
end
end Go.Proofs.YtbnbkjbfpamijaaGreat
