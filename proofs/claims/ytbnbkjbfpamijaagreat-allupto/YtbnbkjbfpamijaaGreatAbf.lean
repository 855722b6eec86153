import Derived.Test.YtbnbkjbfpamijaaGreatAbz
import Derived.Test.YtbnbkjbfpamijaaGreatAbd
set_option linter.all false
set_option maxRecDepth 100000
set_option maxHeartbeats 0
namespace Go.Proofs.YtbnbkjbfpamijaaGreat
open Go.RowKit Go.Proofs.Panes
structure zf where
 g:Nat
 l:List Int
 want:Value
def zf.out (a:zf):Value:=.slice (some ⟨a.g,0,none⟩) (a.l.length+3) (a.l.length+3)
def yd (a:zf):List Value:=[a.out,a.want]
def jZ (a:List zf):List Value:=a.flatMap yd
def Yo (a:List zf)(b:zf):jZ (a++[b])=jZ a++yd b:=by simp[jZ]
def qj1 (c:Nat)(d:List Int)(e:Option Addr)(f g:Nat):∀ a∈yd ⟨c,d,.slice e f g⟩,a.oneCell'=true:=by
 intro a b;simp[yd,zf.out] at b;rcases b with rfl | rfl<;>rfl
abbrev J4 (b:World)(c:Nat)(d:Value)(a:List zf):Prop:=b.ownsRow c 150 2 d a.length (jZ a)
def K0:(Tryz.prog.info? 150).map (fun a=>(a.zero,a.size,a.bytes))=some (some (.agg #[.slice none 0 0,.slice none 0 0]),2,48):=by kernel_rfl
structure qc0 (w w':World)(mb base:Nat)(lq lr lo:Value)(ls:List zf)(v:Value)(l:List Int)(lr':Value)(ls':List zf)(v':Value):Prop where
 box:w'.heap[mb]?=some (.cells #[lq,lr',lo] 76)
 own:J4 w' base lr' ls'
 but:gp (fun k=>k=mb\/lr.ownBlock=some k) w w'
 more:(ls'=ls/\v'=.slice none 0 0/\l=[])\/∃ x,v'=.slice (some ⟨x.g,0,none⟩) l.length (l.length+3)/\ls'=ls++[x]/\x.l=l/\x.want=v/\w.heap.size<=x.g/\x.g<w'.heap.size/\zh w' base x.out (l++[(77:Int),(77:Int),(77:Int)])
def KW (l f:Nat)(S E T:Value)(d:List zf)(F:Value)(a:List Int)(c:World)(t:c.heap[l]?=some (.cells #[S,E,T] 76))(m:J4 c f E d)(a8:f<=c.heap.size)(U:Nat->Prop)(V:gS U c F a)(d1:a.length<=17592186043904)(d2:d.length<=1759218604400):Calls Tryz.prog 54 #[.pointer (some ⟨l,0,none⟩),F] c fun e W=>∃ G,e=.returned G/\zh W f G a/\∃ a9 b0,qc0 c W l f S E T d F a a9 b0 G:=by
 obtain⟨d3,d4,d5,d6,d7⟩:=aZ yg;have d8:∀ (c:World)(u:Option Addr)(H h I J:Nat),(binOp .eql 50 (.slice u H h) (.slice none I J)).run Tryz.prog c=.ok (.bool u.isNone) c:=fun c u H h I J=>Lib.run_eql_slice_nil c _ _ u H h I J Tryz.underlying50;have v:=V;obtain⟨b1,b2,rfl⟩:=qr m;obtain⟨b3,K,rfl,h1,h2,h3⟩:=V;cases b3 with
 | none=>
  have X:=qg v;have n:=qg m;have o:=qg t;have b4:=qg h3;clear v m t h3;go_enter Tryz.func54,Tryz.ntmps54;go_wp2;go_ret;have e:a=[]:=(by apply el;intro b5;obtain⟨d9,e0,e,_⟩:=(qb b4) b5;cases e);subst e;exact⟨.slice none 0 0,rfl,qr5 _,_,d,qb o,qb n,gp.refl _ _,.inl ⟨rfl,rfl,rfl⟩⟩
 | some L=>
  have e1:∀ p:World,(Instr.makeSlice 50 (.int .i64 ((a.length:Int)+3)) (.int .i64 ((a.length:Int)+3))).run Tryz.prog p =
   .ok (.slice (some ⟨p.heap.size,0,none⟩) (a.length+3) (a.length+3)) (p.alloc (.cells (Array.replicate (a.length+3) (Value.int .i64 0)) 3)):=fun p=>vx (a.length+3) (by omega) p
  have X:=qg v;have n:=qg m;have o:=qg t;clear v m t h3;go_enter Tryz.func54,Tryz.ntmps54;go_wp2_with (refine XT rfl _ _ rfl U f c.heap.size (a.length+3) (List.replicate (a.length+3) (0:Int)) a _ rfl rfl (Zk c _ f a8 (by omega)) (by simp) ((qb X).below ((aa _ c).alloc (zzl _) _)) (by omega) ?_;intro w q i)
  have Y:zh w f (.slice (some ⟨c.heap.size,0,none⟩) (a.length+3) (a.length+3)) (a++List.replicate 3 (0:Int)):=(by rwa[fL,show a.length+3-a.length=3 by omega] at q);have M:gp (fun _=>False) c w:=((gp.refl _ c).alloc _).grown i (fun b e=>.inr (by cases e;exact zzl _));have e2:c.heap.size<w.heap.size:=(by have:=i.size;simp at this;omega);have e3:=M;have b6:=qg M;have b7:=qg Y;clear q i Y M;go_wp2;go_loopw [7] (fun N wr=>∃ b:Nat,b<=3/\N=.int .i64 ((a.length:Int)+b)/\zh wr f (.slice (some ⟨c.heap.size,0,none⟩) (a.length+3) (a.length+3)) (a++(List.replicate b (77:Int)++List.replicate (3-b) (0:Int)))/\gp (fun _=>False) c wr/\w.heap.size<=wr.heap.size) (fun N _=>a.length+3-(intOf N).toNat)
  case atStart=>exact⟨0,by omega,by simp,by simpa using qb b7,qb b6,zzl _⟩
  case round=>
   obtain⟨b,e4,rfl,g,k,b8⟩:=hrel;by_cases e5:b<3
   ·have Z:a++(List.replicate b (77:Int)++List.replicate (3-b) (0:Int))=(a++List.replicate b (77:Int))++(0:Int)::List.replicate (3-(b+1)) (0:Int):=(by rw[show 3-b=3-(b+1)+1 by omega,bU,aN]);rw[Z] at g;have O:(a++List.replicate b (77:Int)).length=a.length+b:=(by simp);have y:=Yh (77:Int) g (by simp;omega);rw[O] at y;have e6:=kP g (by simp;omega) (j:=a.length+b) (x:=(0:Int)) (by rw[<-O];simp);have e7:=Zm g (by simp;omega) (a.length+b);have a0:(a++List.replicate b (77:Int))++(77:Int)::List.replicate (3-(b+1)) (0:Int)=a++(List.replicate (b+1) (77:Int)++List.replicate (3-(b+1)) (0:Int)):=(by rw[cU,aN,aN];rfl);rw[a0] at y;have b9:=qg y;have P:=qg k;have e8:(0:Int)<=(a.length:Int)+b:=(by omega);have e9:(a.length:Int)+b<((a.length+3:Nat):Int):=(by omega);have f0:(a.length:Int)+b<(a.length:Int)+3:=(by omega);have f1:((a.length:Int)+b).toNat=a.length+b:=(by omega);clear g k y Z a0 O;go_wp2;go_roundw
    case rel=>
     refine⟨b+1,by omega,by go_num,qb b9,(qb P).setCell (.inr (zzl _)) _,?_⟩;simpa[World.setCell] using b8
    case measure=>simp[intOf];omega
   ·obtain rfl:b=3:=(by omega);obtain⟨c0,c1,c2,c3,c4⟩:=aZ K0;have c5:a++(List.replicate 3 (77:Int)++List.replicate (3-3) (0:Int))=a++[(77:Int),(77:Int),(77:Int)]:=rfl;rw[c5] at g;have c6:=qg g;have P:=qg k;have f2:=qh (qb o);have a1:=qq (qb n) (qb o) (by decide);have a2:=qi (qb n) k (fun _ _ r=>r);have c7:=qg a2;have z:=k.heap (qb o) (fun r=>r);have a3:=qg z;obtain⟨-,f3,-⟩:=zzc z;have f4:=qj z;clear g k a2 z;go_wp2_with
     (at_builtin
      refine wpList_append_lies _ rfl _ _ 73 rfl f 150 c0 _ 2 48 Tryz.underlying73 c1 c2 c3 c4 rfl (by decide) _ d.length (jZ d) rfl ((qb c7).alloc _) ⟨wr.heap.size,0,none⟩ 1 1 (yd ⟨c.heap.size,a,.slice (some L) a.length K⟩) rfl rfl (xT (qt _ _ _ rfl)) (qj1 _ _ _ _ _) (by decide) (by unfold maxLen;omega) (by omega) (by simp;omega) _ rfl ?_
      intro s A Q q i R f5
      have C:wr.grownBy Q (Value.slice b1 d.length b2).ownBlock:=zB (au wr _ _) i
      have D:=zl C (qb a3) a1
      have a4:zh Q f (.slice (some ⟨c.heap.size,0,none⟩) (a.length+3) (a.length+3)) (a++[(77:Int),(77:Int),(77:Int)]):=ck (qb c6) C (.inr (fun e=>absurd (ab (qb n) _ e.symm).2 (by simp)))
      have a5:Q.ownsRow f 150 2 (.slice (some ⟨s,0,none⟩) (d.length+1) A) (d.length+1) (jZ (d++[⟨c.heap.size,a,.slice (some L) a.length K⟩])):=by rw[Yo];exact q
      have c8:s≠l:=by
        rcases R with h | h
        · intro e;subst e;exact a1 h
        · have:=qh (qb a3);simp at h;omega
      have a6:=qg C
      have c9:=qg D
      have a7:=qg a4
      have d0:=qg a5
      have f6:=qg R
      obtain⟨-,f7,-⟩:=zzc D
      have f8:=qj D
      clear q i C D a4 a5 R)
    go_ret;refine⟨_,rfl,?_,.slice (some ⟨s,0,none⟩) (d.length+1) A,d++[⟨c.heap.size,a,.slice (some L) a.length K⟩],?_⟩
    ·show zh _ f (.slice (some ⟨c.heap.size,0,none⟩) a.length (a.length+3)) a;exact Js (B:=[(77:Int),(77:Int),(77:Int)]) (aw (qb a7) (by simp[Value.ownBlock];omega) _)
    ·refine⟨?_,?_,?_,.inr ⟨_,rfl,rfl,rfl,rfl,zzl _,?_,?_⟩⟩
     ·have:=qp (i:=1) (qb c9) (.slice (some ⟨s,0,none⟩) (d.length+1) A);simpa using this
     ·have:=aw (qb d0) (a:=⟨l,1,none⟩) (by simp[Value.ownBlock];exact c8) (.slice (some ⟨s,0,none⟩) (d.length+1) A);unfold J4;rw[ae];exact this
     ·exact ((qb P).wide (fun _ _ r=>r.elim) |>.grown (qb a6) (fun b e=>.inl (.inr e))).setCell (.inl (.inl rfl)) _
     ·have:=(qb a6).size;simp[World.setCell];omega
     ·exact aw (qb a7) (by simp[Value.ownBlock];omega) _
variable{S:Nat→Prop}{n:Nat}{w:World}{b6:List zf}
def mz:hK:=⟨0,0,0,0,0,0,.slice none 0 0,0⟩
def hh:hK:=⟨77,0,0,0,0,0,.slice none 0 0,0⟩
def qs8 (a:Nat):madeCells #[.int .i64 0,.int .i64 0,.int .i64 0,.int .i64 0,.int .i64 0,.int .i64 0,.slice none 0 0,.int .i64 0] (a*8)=(zv (List.replicate a mz)).toArray:=by
 apply fx;apply bh;intro c;by_cases f:c<a*8
 ·obtain⟨d,b,g,e⟩:∃ d b,c=d*8+b/\b<8:=⟨c/8,c%8,by omega,by omega⟩;have h:=vn (List.replicate a mz) d mz (by rw[bD,an (by omega)]) b e;have i:(madeCells #[.int .i64 0,.int .i64 0,.int .i64 0,.int .i64 0,.int .i64 0,.int .i64 0,.slice none 0 0,.int .i64 0] (a*8)).toList[c]?=some ((#[Value.int .i64 0,.int .i64 0,.int .i64 0,.int .i64 0,.int .i64 0,.int .i64 0,.slice none 0 0,.int .i64 0]:Array Value)[c%8]!):=(by simp[madeCells,f]);rw[i];subst g;have j:(d*8+b)%8=b:=(by omega);rw[j];show _=(zv (List.replicate a mz))[d*8+b]?;rw[h]
  match b,e with
  | 0,_=>rfl
  | 1,_=>rfl
  | 2,_=>rfl
  | 3,_=>rfl
  | 4,_=>rfl
  | 5,_=>rfl
  | 6,_=>rfl
  | 7,_=>rfl
 ·have k:(zv (List.replicate a mz)).length=a*8:=(by rw[zO];simp);rw[aI (by simp[size_madeCells];omega),aI (by show (zv (List.replicate a mz)).length<=c;omega)]
def qs7 (a:Nat)(i:a<=1759218604416)(b:World):(Instr.makeSlice 53 (.int .i64 (a:Int)) (.int .i64 (a:Int))).run Tryz.prog b=.ok (.slice (some ⟨b.heap.size,0,none⟩) a a) (b.alloc (.cells (zv (List.replicate a mz)).toArray 52)):=by
 obtain⟨d,e,f,g,h⟩:=aZ qe6;have c:=fQ (P:=Tryz.prog) b 53 52 d _ Tryz.underlying53 e f .i64 .i64 (a:Int) (a:Int) (by omega) (co _) (by rw[h];omega) (by omega);simp only[bF,g] at c;rw[<-qs8];simpa[Value.cells] using c
def za6 (b:World)(a:Nat)(c:Nat)(d:c<=b.heap.size)(g:a<=1759218604416):vH (b.alloc (.cells (zv (List.replicate a mz)).toArray 52)) c (.slice (some ⟨b.heap.size,0,none⟩) a a) (List.replicate a mz):=by
 have f:=eD (base:=c) (e:=52) (size:=8) b (zv (List.replicate a mz)).toArray a d (by unfold maxLen;omega) (by simp[zO]);unfold vH;rw[aS];simpa using f
structure xV (U:Nat->Prop)(B:Nat)(w:World)(ls:List zf):Prop where
 len:∀ x∈ls,x.l.length<=17592186043904
 tL:∀ x∈ls,¬U x.g
 rd:∀ x∈ls,gS U w x.want x.l
 own:∀ x∈ls,zh w B x.out (x.l++[77,77,77])
 apart:ls.Pairwise (fun x y=>x.g≠y.g)
def xV.none (a:Nat->Prop)(b:Nat)(c:World):xV a b c []:=⟨by simp,by simp,by simp,by simp,by simp⟩
def xV.but {d S:Nat->Prop}{g:Nat}{h i:World}{e:List zf}(b:xV d g h e)(j:gp S h i)(l:∀ f,d f->¬S f)(m:∀ a∈e,¬S a.g):xV d g i e:=
 ⟨b.len,b.tL,fun a c=>(b.rd a c).but j l,fun a c=>qi (b.own a c) j (fun f k=>by simp only[zf.out,Value.ownBlock,ac] at k;subst k;exact m a c),b.apart⟩
def xV.lt {e:Nat->Prop}{b:Nat}{c:World}{d:List zf}(f:xV e b c d){a:zf}(g:a∈d):b<=a.g/\a.g<c.heap.size:=ab (f.own a g) a.g rfl
def xV.kind (b:xV S n w b6){a:zf}(c:a∈b6):∃ d e,w.heap[a.g]?=some (.cells d 3 e):=qE (b.own a c) rfl
def xV.more {h:Nat->Prop}{i k:Nat}{t e u z:Value}{j m:List zf}{v A:Value}{n:List Int}{f w:World}(o:xV h k f j)(p:qc0 f w i k t e u j v n z m A)(B:f.heap[i]?=some (.cells #[t,e,u] 76))(C:J4 f k e j)(D:gS h f v n) (E:n.length<=17592186043904) (q:∀ b,h b->b<f.heap.size/\b≠i/\e.ownBlock≠some b):xV h k w m/\m.length<=j.length+1:=by
 have x:∀ b,h b->¬(b=i\/e.ownBlock=some b):=fun b y a=>a.elim (q b y).2.1 (q b y).2.2;have F:∀ l∈j,¬(l.g=i\/e.ownBlock=some l.g):=fun l G a=>by
  obtain⟨L,M,r⟩:=o.kind G;rcases a with a | a
  ·rw[a,B] at r;simp at r
  ·exact qq C r (by decide) a
 have g:=o.but p.but x F;rcases p.more with ⟨rfl,_⟩ | ⟨l,_,rfl,s,H,N,O,I⟩
 ·exact⟨g,by omega⟩
 ·refine⟨⟨fun d c=>?_,fun d c=>?_,fun d c=>?_,fun d c=>?_,?_⟩,by simp⟩
  ·rcases al.1 c with a | a
   ·exact g.len d a
   ·rw[ay.1 a,s];exact E
  ·rcases al.1 c with a | a
   ·exact g.tL d a
   ·rw[ay.1 a];intro J;have:=(q _ J).1;omega
  ·rcases al.1 c with a | a
   ·exact g.rd d a
   ·rw[ay.1 a,s,H];exact D.but p.but x
  ·rcases al.1 c with a | a
   ·exact g.own d a
   ·rw[ay.1 a,s];exact I
  ·refine bj.2 ⟨g.apart,dL _ _,fun d c P K=>?_⟩;rw[ay.1 K];have:=(o.lt c).2;omega
structure MO (ns:List zf)(o:gt)(m:hK):Prop where
 kind:m.kind=o.kind
 iV:m.iV=o.iV
 x:m.x=o.x
 y:m.y=o.y
 w:m.w=o.w
 h:m.h=o.h
 mark:m.mark=o.mark
 pv:(m.pv=.slice none 0 0/\o.px=[])\/∃ x∈ns,m.pv=.slice (some ⟨x.g,0,none⟩) o.px.length (o.px.length+3)/\x.l=o.px
variable{o:gt}{b g i j ob t:Nat}{pv v va vf z:Value}{h:List gt}{m w2:World}{R:List Int}{U:Nat→Prop}
def MO.wide {c:List zf}{d:hK}(a:MO b6 o d)(e:∀ b∈b6,b∈c):MO c o d:=
 ⟨a.kind,a.iV,a.x,a.y,a.w,a.h,a.mark,a.pv.imp id fun ⟨b,f,g⟩=>⟨b,e b f,g⟩⟩
def KZ:(Tryz.prog.info? 143).map (fun a=>(a.zero,a.size,a.bytes))=some (some (.agg #[.slice none 0 0,.slice none 0 0]),2,48):=by kernel_rfl
structure Qb (U:Nat->Prop)(mb base g:Nat)(v:Value)(l:List gt)(w wr:World)(k c:Nat)(ms:List hK)(li:Value)(ns:List zf):Prop where
 own:vH wr base (.slice (some ⟨g,0,none⟩) (l.length+3) (l.length+3)) (ms++List.replicate (l.length+3-k) mz)
 len:ms.length=k
 mo:∀ (i:Nat)(o:gt)(m:hK),l[i]?=some o->ms[i]?=some m->MO ns o m
 tail:∀ (i:Nat)(m:hK),l.length<=i->ms[i]?=some m->m=hh
 box:wr.heap[mb]?=some (.cells #[.slice none 0 0,li,.slice none 0 0] 76)
 row:J4 wr base li ns
 cnt:ns.length<=c
 tZ:xV U base wr ns
 but:gp (fun k=>k=mb) w wr
 rd:gW U wr v l
 new:w.heap.size<wr.heap.size
def Qb.more {c:List hK}(a:Qb S n i j v h w w2 g b c z b6)(d:b<=t):Qb S n i j v h w w2 g t c z b6:=
 ⟨a.own,a.len,a.mo,a.tail,a.box,a.row,aO a.cnt d,a.tZ,a.but,a.rd,a.new⟩
def Qb.ints {l:List hK}{f:List zf}(b:Qb S n w.heap.size w.heap.size v h w w2 i j l z b6)(e:qc0 w2 m n w.heap.size (.slice none 0 0) z (.slice none 0 0) b6 va R vf f pv)(q:gS S w2 va R) (r:R.length<=17592186043904) (g:∀ a,S a->a<w.heap.size/\a≠n):Qb S n w.heap.size w.heap.size v h w m i (j+1) l vf f:=by
 have k:∀ a,S a->a<w2.heap.size/\a≠n/\z.ownBlock≠some a:=fun a d=>⟨zzm (g a d).1 (cA b.new),(g a d).2,fun c=>by have:=(ab b.row a c).1;have:=(g a d).1;omega⟩;have s:∀ a,S a->¬(a=n\/z.ownBlock=some a):=fun a d j=>j.elim (k a d).2.1 (k a d).2.2;obtain⟨t,D⟩:=b.tZ.more e b.box b.row q r k;have u:∀ o∈b6,o∈f:=fun o p=>by
  rcases e.more with ⟨c,_⟩ | ⟨E,_,c,_⟩
  ·rw[c];exact p
  ·rw[c];exact al.2 (.inl p)
 refine⟨qi b.own e.but (fun a d c=>?_),b.len,fun x y A B C=>(b.mo x y A B C).wide u,b.tail,e.box,e.own,by have:=b.cnt;omega,t,b.but.step e.but (fun a d=>?_),b.rd.but e.but s,zzm b.new e.but.size⟩
 ·rcases c with c | c
  ·subst c;exact qq b.own b.box (by decide) d
  ·exact qS b.own b.row (by decide) d c
 ·rcases d with c | c
  ·exact .inl c
  ·exact .inr (ab b.row a c).1
def Qb.below {U:Nat->Prop}{f g h:Nat}{i:Value}{j:List gt}{k c d:World}{l m:Nat}{n:List hK}{o:Value}{p:List zf}(a:Qb U f g h i j k c l m n o p)(e:Below c.heap.size c d):Qb U f g h i j k d l m n o p:=
 have b:gp (fun _=>False) c d:=.aD e
 ⟨qi a.own b (fun _ _ a=>a),a.len,a.mo,a.tail,b.heap a.box (fun a=>a),qi a.row b (fun _ _ a=>a),a.cnt,a.tZ.but b (fun _ _ a=>a) (fun _ _ a=>a),a.but.step b (fun _ a=>a.elim),a.rd.below e,zzm a.new e.size⟩
def Qb.set {o:List hK}(c:Qb U n i j v h w w2 g b o z b6)(r:w.heap.size<=ob)(y:ob≠j)(s:ob≠n)(t:z.ownBlock≠some ob)(u:∀ l∈b6,l.g≠ob)(q:∀ a,U a->a<w.heap.size)(m:Nat)(k:Value):Qb U n i j v h w (w2.setCell ⟨ob,m,none⟩ k) g b o z b6:=by
 have f:gp (fun a=>a=ob) w2 (w2.setCell ⟨ob,m,none⟩ k):=gp.setCell (S:=fun a=>a=ob) (gp.refl _ _) (p:=⟨ob,m,none⟩) (.inl rfl) k;exact⟨qi c.own f (fun a e d=>by simp only[Value.ownBlock,ac] at e;omega),c.len,c.mo,c.tail,f.heap c.box (fun d=>s d.symm),qi c.row f (fun a e d=>by subst d;exact t e),c.cnt,c.tZ.but f (fun a e d=>by have:=q a e;omega) (fun l x d=>u l x d),c.but.setCell (.inr r) k,c.rd.but f (fun a e d=>by have:=q a e;omega),by have:=c.new;simpa[World.setCell] using this⟩
structure VO (U:Nat->Prop)(mb:Nat)(v:Value)(l:List gt)(w w':World)(ms:List hK)(li:Value)(ns:List zf)(lo:Value):Prop where
 own:vH w' w.heap.size (.slice (some ⟨w.heap.size,0,none⟩) (l.length+3) (l.length+3)) (ms++[hh,hh,hh])
 len:ms.length=l.length
 mo:∀ (i:Nat)(o:gt)(m:hK),l[i]?=some o->ms[i]?=some m->MO ns o m
 box:w'.heap[mb]?=some (.cells #[.slice none 0 0,li,lo] 76)
 row:J4 w' w.heap.size li ns
 cnt:ns.length<=l.length+3
 tZ:xV U w.heap.size w' ns
 ops:w'.ownsRow w.heap.size 143 2 lo 1 [.slice (some ⟨w.heap.size,0,none⟩) (l.length+3) (l.length+3),v]
 rd:gW U w' v l
 but:gp (fun k=>k=mb) w w'
def qd0 {e:Type}{b:List e}{f c:e}(a:(b++[f])[n]?=some c):b[n]?=some c\/(n=b.length/\c=f):=by
 rcases cz n b.length with d | d
 ·rw[aM d] at a;exact .inl a
 ·rw[aq d] at a;have g:=(zzg a).1;simp at g;have:n=b.length:=(by omega);subst this;simp at a;exact .inr ⟨rfl,a.symm⟩
def Qb.put {d:List hK}(a:Qb S n w.heap.size w.heap.size v h w w2 i j d z b6)(E:i<h.length+3)(c:hK)(y:∀ e,h[i]?=some e->MO b6 e c)(A:h.length<=i->c=hh)(r:∀ b,S b->b<w.heap.size)(F:n<w.heap.size):Qb S n w.heap.size w.heap.size v h w (ZF w2 w.heap.size i c) (i+1) j (d++[c]) z b6:=by
 have B:d++List.replicate (h.length+3-i) mz=d++mz::List.replicate (h.length+3-(i+1)) mz:=(by rw[show h.length+3-i=h.length+3-(i+1)+1 by omega,bU]);have s:=a.own;rw[B] at s;have C:h.length+3=(d++mz::List.replicate (h.length+3-(i+1)) mz).length:=(by have:=a.len;simp;omega);have t:=QL c s C;rw[a.len] at t;obtain⟨G,H,u⟩:=qE a.own (k:=w.heap.size) rfl;have k:gp (fun b=>b=w.heap.size) w2 (ZF w2 w.heap.size i c):=kM (gp.refl _ _) (.inl rfl);refine⟨?_,by simp[a.len],fun l e m o p=>?_,fun l m q p=>?_,(Qo (by omega)).trans a.box,qi a.row k (fun b f g=>?_),a.cnt,a.tZ.but k (fun b f g=>?_) (fun I D g=>?_),kM a.but (.inr (zzl _)),a.rd.but k (fun b f g=>?_),zzm a.new k.size⟩
 ·rw[aN];exact t
 ·rcases qd0 p with j | ⟨j,rfl⟩
  ·exact a.mo l e m o j
  ·rw[j,a.len] at o;exact y e o
 ·rcases qd0 p with j | ⟨j,rfl⟩
  ·exact a.tail l m q j
  ·rw[j,a.len] at q;exact A q
 ·subst g;exact qq a.row u (by decide) f
 ·have:=r b f;omega
 ·obtain⟨J,K,x⟩:=a.tZ.kind D;rw[g,u] at x;simp at x
 ·have:=r b f;omega
def qi8 (E:Nat->Prop)(o:Nat)(W:Option Addr)(P:Nat)(b:List gt)(d:World)(F:d.heap[o]?=some (.cells #[.slice none 0 0,.slice none 0 0,.slice none 0 0] 76))(b5:W≠none)(b6:gW E d (.slice W b.length P) b)(i6:b.length<=1759218604390)(b7:∀ a∈b,a.px.length<=17592186043904)(b8:∀ c,E c->c<d.heap.size/\c≠o):Calls Tryz.prog 23 #[.pointer (some ⟨o,0,none⟩),.slice W b.length P] d fun f e9=>f=.returned (.slice (some ⟨d.heap.size,0,none⟩) b.length (b.length+3))/\∃ l w x f0,VO E o (.slice W b.length P) b d e9 l w x f0:=by
 have i7:∀ (d:World)(G:Option Addr)(a0 m a1 a2:Nat),(binOp .eql 53 (.slice G a0 m) (.slice none a1 a2)).run Tryz.prog d=.ok (.bool G.isNone) d:=fun d G a0 m a1 a2=>Lib.run_eql_slice_nil d _ _ G a0 m a1 a2 Tryz.underlying53;obtain⟨b9,rfl⟩:=Option.ne_none_iff_exists'.1 b5;have a3:∀ H:World,(Instr.makeSlice 53 (.int .i64 ((b.length:Int)+3)) (.int .i64 ((b.length:Int)+3))).run Tryz.prog H=.ok (.slice (some ⟨H.heap.size,0,none⟩) (b.length+3) (b.length+3)) (H.alloc (.cells (zv (List.replicate (b.length+3) mz)).toArray 52)):=fun H=>qs7 (b.length+3) (by omega) H;have c0:=qh F;have f1:=qg F;have f2:=qg b6;have f3:=qg b7;have I:=qg b8;clear F b6 b7 b8 b5;go_enter Tryz.func23,Tryz.ntmps23;go_wp2;go_loopw [7] (fun y wr=>∃ c:Nat,c<=b.length+3/\y=.int .i64 c/\∃ l w x,Qb E o d.heap.size d.heap.size (.slice (some b9) b.length P) b d wr c c l w x) (fun y _=>b.length+3-(intOf y).toNat)
 case atStart=>
  refine⟨0,aj _,rfl,[],.slice none 0 0,[],⟨by simpa using za6 d (b.length+3) d.heap.size (zzl _) (by omega),rfl,fun y a u _ J=>by simp at J,fun y u _ J=>by simp at J,qx (qb f1) _,aQ _ _ _ _,by simp,xV.none _ _ _,(gp.refl _ _).alloc _,(qb f2).below ((aa _ d).alloc (zzl _) _),by simp⟩⟩
 case round=>
  rename World=>g;obtain⟨c,i8,rfl,l,w,x,n⟩:=hrel;by_cases c1:c<b.length+3
  ·have r:l++List.replicate (b.length+3-c) mz=l++mz::List.replicate (b.length+3-(c+1)) mz:=(by rw[show b.length+3-c=b.length+3-(c+1)+1 by omega,bU]);by_cases Q:c<b.length
   ·obtain⟨a,z⟩:∃ a,b[c]?=some a:=⟨b[c],by simp[Q]⟩;obtain⟨i9,j0,f,_,_,h3⟩:=n.rd;simp only[ai,cj] at f;obtain⟨K,rfl⟩:=f;obtain⟨c3,j1,a4,_,j2,c4⟩:=h3 (by intro f;rw[f] at Q;simp at Q);rw[a4,ac] at K;subst K;obtain⟨c5,c6,c2,c7,c8,c9,⟨j3,a5,a6⟩,d0⟩:=c4 c a z;obtain⟨A,B,a7,f4⟩:=id a6;have d1:=qg a6;rw[a7] at a5;clear f4 h3 c4 a6;have f5:(0:Int)<=(c:Int):=(by omega);have d2:(c:Int)<(b.length:Int)+3:=(by omega);have f6:(c:Int)<(b.length:Int):=(by omega);have s:=qg n;have d3:=qg z;have d4:=qg a7;clear n z a7 r a3;go_wp2_with fail
    have L:=(qb s).below (((aa _ g).alloc (zzl _) _):Below g.heap.size g (g.alloc (.cells #[.int .i64 a.kind,.int .i64 a.iV,.int .i64 a.x,.int .i64 a.y,.int .i64 a.w,.int .i64 a.h,.slice A a.px.length B,.int .i64 a.mark] 52)));have d5:(g.alloc (.cells #[.int .i64 a.kind,.int .i64 a.iV,.int .i64 a.x,.int .i64 a.y,.int .i64 a.w,.int .i64 a.h,.slice A a.px.length B,.int .i64 a.mark] 52)).heap[g.heap.size]?=some (.cells #[.int .i64 a.kind,.int .i64 a.iV,.int .i64 a.x,.int .i64 a.y,.int .i64 a.w,.int .i64 a.h,.slice A a.px.length B,.int .i64 a.mark] 52):=qt _ _ _ rfl;have a8:gS E (g.alloc (.cells #[.int .i64 a.kind,.int .i64 a.iV,.int .i64 a.x,.int .i64 a.y,.int .i64 a.w,.int .i64 a.h,.slice A a.px.length B,.int .i64 a.mark] 52)) (.slice A a.px.length B) a.px:=(by rw[<-qb d4];exact (qb d1).below ((aa _ g).alloc (zzl _) _));have d6:=fun i k=>(ab (qb s).row i k).2;generalize g.alloc (.cells #[.int .i64 a.kind,.int .i64 a.iV,.int .i64 a.x,.int .i64 a.y,.int .i64 a.w,.int .i64 a.h,.slice A a.px.length B,.int .i64 a.mark] 52)=f7 at *;have d7:=(qb f3) a (zzn (qb d3));refine (KW o d.heap.size (.slice none 0 0) w (.slice none 0 0) x (.slice A a.px.length B) a.px f7 L.box L.row (cA L.new) E a8 d7 (by have:=L.cnt;omega)).mono ?_;rintro f q ⟨j4,rfl,d8,f8,d9,M⟩;have e:=L.ints M a8 d7 (qb I);have R:=M.but.heap d5 (fun m=>by
     rcases m with m | m
     ·have:=qh (qb s).box;omega
     ·have:=d6 _ m;omega)
    obtain⟨a9,b0,f9⟩:=qr d8;subst f9;have e0:MO d9 a ⟨a.kind,a.iV,a.x,a.y,a.w,a.h,.slice a9 a.px.length b0,a.mark⟩:=⟨rfl,rfl,rfl,rfl,rfl,rfl,rfl,by
     rcases M.more with ⟨_,r,K⟩ | ⟨b1,r,K,a4,_⟩
     ·exact .inl ⟨r,K⟩
     ·exact .inr ⟨b1,by rw[K];simp,r,a4⟩⟩
    have j5:=qh (qb s).box;have g0:=(qb s).new;have e1:=e.set (ob:=g.heap.size) (by omega) (by omega) (by omega) (qq e.row R (by decide)) (fun b1 b2 f=>by
     obtain⟨g1,e2,T⟩:=e.tZ.kind b2;rw[f,R] at T;simp at T) (fun i k=>((qb I) i k).1) 6 (.slice a9 a.px.length b0)
    obtain⟨j6,j7,j8,j9,k0,k1,k2,k3,-⟩:=zzc R;have k4:=qj R;have X:=e.own;have r:l++List.replicate (b.length+3-c) mz=l++mz::List.replicate (b.length+3-(c+1)) mz:=(by rw[show b.length+3-c=b.length+3-(c+1)+1 by omega,bU]);rw[r] at X;have C:=e.len;have v:b.length+3=(l++mz::List.replicate (b.length+3-(c+1)) mz).length:=(by simp;omega);have h:=fun t D=>QM X v (j:=c) (m:=mz) (by rw[<-C];simp) t D;have k5:q.cell? ⟨d.heap.size,c*8,none⟩=some (.int .i64 0):=h 0 (by omega);have k6:q.cell? ⟨d.heap.size,c*8+1,none⟩=some (.int .i64 0):=h 1 (by omega);have k7:q.cell? ⟨d.heap.size,c*8+2,none⟩=some (.int .i64 0):=h 2 (by omega);have k8:q.cell? ⟨d.heap.size,c*8+3,none⟩=some (.int .i64 0):=h 3 (by omega);have k9:q.cell? ⟨d.heap.size,c*8+4,none⟩=some (.int .i64 0):=h 4 (by omega);have l0:q.cell? ⟨d.heap.size,c*8+5,none⟩=some (.int .i64 0):=h 5 (by omega);have l1:q.cell? ⟨d.heap.size,c*8+6,none⟩=some (.slice none 0 0):=h 6 (by omega);have l2:q.cell? ⟨d.heap.size,c*8+7,none⟩=some (.int .i64 0):=h 7 (by omega);have l3:=Zl X v;have l4:d.heap.size≠g.heap.size:=(by omega);have g2:(c:Int)<((b.length+3:Nat):Int):=(by omega);have g3:=qg e1;have g4:=qg e0;clear L d5 a8 d6 M d8 e R e0 e1 X r v h C c5 c6 c2 c7 c8 c9 a5 d0 s d1 d4;go_wp2;go_roundw
    case rel=>
     have b3:=(qb g3).put c1 ⟨a.kind,a.iV,a.x,a.y,a.w,a.h,.slice a9 a.px.length b0,a.mark⟩ (fun l5 e3=>by rw[qb d3] at e3;cases e3;exact qb g4) (fun J=>absurd Q (by omega)) (fun i k=>((qb I) i k).1) c0;exact⟨c+1,by omega,by go_num,_,f8,d9,b3⟩
    case measure=>simp[intOf];omega
   ·have U:=n.own;rw[r] at U;have v:b.length+3=(l++mz::List.replicate (b.length+3-(c+1)) mz).length:=(by have:=n.len;simp;omega);have b4:=QL hh U v;rw[n.len] at b4;have C:=n.len;have h:=fun t D=>QM U v (j:=c) (m:=mz) (by rw[<-C];simp) t D;have c5:g.cell? ⟨d.heap.size,c*8,none⟩=some (.int .i64 0):=h 0 (by omega);have c6:g.cell? ⟨d.heap.size,c*8+1,none⟩=some (.int .i64 0):=h 1 (by omega);have c2:g.cell? ⟨d.heap.size,c*8+2,none⟩=some (.int .i64 0):=h 2 (by omega);have c7:g.cell? ⟨d.heap.size,c*8+3,none⟩=some (.int .i64 0):=h 3 (by omega);have c8:g.cell? ⟨d.heap.size,c*8+4,none⟩=some (.int .i64 0):=h 4 (by omega);have c9:g.cell? ⟨d.heap.size,c*8+5,none⟩=some (.int .i64 0):=h 5 (by omega);have a5:g.cell? ⟨d.heap.size,c*8+6,none⟩=some (.slice none 0 0):=h 6 (by omega);have d0:g.cell? ⟨d.heap.size,c*8+7,none⟩=some (.int .i64 0):=h 7 (by omega);have e2:=Zl U v;have f5:(0:Int)<=(c:Int):=(by omega);have d2:(c:Int)<(b.length:Int)+3:=(by omega);have g2:(c:Int)<((b.length+3:Nat):Int):=(by omega);have f6:¬(c:Int)<(b.length:Int):=(by omega);have s:=qg n;have l6:=qg b4;clear n b4 U h r v C a3;go_wp2;go_roundw
    case rel=>
     have b3:=(qb s).put c1 hh (fun a z=>absurd (zzg z).1 Q) (fun _=>rfl) (fun i k=>((qb I) i k).1) c0;exact⟨c+1,by omega,by go_num,l++[hh],w,x,b3.more (by omega)⟩
    case measure=>simp[intOf];omega
  ·obtain rfl:c=b.length+3:=(by omega);obtain⟨g5,g6,g7,g8,g9⟩:=aZ KZ;have Y:=n.box;obtain⟨-,-,l7,-⟩:=zzc Y;have l8:=qj Y;have C:=n.len;have g0:=n.new;have d2:¬((b.length+3:Nat):Int)<(b.length:Int)+3:=(by omega);have s:=qg n;have i0:=qg Y;clear n Y a3;go_wp2_with
    (at_builtin
     refine wpList_append_lies _ rfl _ _ 74 rfl d.heap.size 143 g5 _ 2 48 Tryz.underlying74 g6 g7 g8 g9 rfl (by decide) (.slice none 0 0) 0 [] rfl (aQ _ _ _ _) ⟨g.heap.size,0,none⟩ 1 1 [.slice (some ⟨d.heap.size,0,none⟩) (b.length+3) (b.length+3),.slice (some b9) b.length P] rfl rfl (xT (qt _ _ _ rfl)) (by intro H e4;simp at e4;rcases e4 with rfl | rfl<;>rfl) (by decide) (by unfold maxLen;omega) (by omega) (by simp;omega) _ rfl ?_
     intro Z gk q e5 e6 e7 l9
     have e8:=((aa _ g).alloc (zzl _) _).grown e6 (by simp) (fun c f=>by simp[Value.ownBlock] at f)
     have e:=(qb s).below e8
     have i1:Z≠o:=by
       have:=qh (qb i0)
       rcases e7 with m | m
       · simp[Value.ownBlock] at m
       · simp at m;omega
     obtain⟨-,-,n0,-⟩:=zzc e.box
     have n1:=qj e.box
     have i2:=qg e
     have i3:=qg e5
     clear e5 e6 e7 e8 e)
   go_ret;have e:=qb i2;have n2:o≠d.heap.size:=(by omega);have V:gp (fun i=>i=o) q (q.setCell ⟨o,2,none⟩ (.slice (some ⟨Z,0,none⟩) 1 gk)):=gp.setCell (S:=fun i=>i=o) (gp.refl _ _) (p:=⟨o,2,none⟩) (.inl rfl) _;obtain⟨N,O,rfl,i4⟩:∃ N O,l=N++O/\N.length=b.length:=⟨l.take b.length,l.drop b.length,(ap _ _).symm,by rw[ao];omega⟩;have i5:O=[hh,hh,hh]:=by
    have M:O.length=3:=(by simp at C;omega);have D:∀ t u,O[t]?=some u->u=hh:=fun t u J=>e.tail (b.length+t) u (by omega) (by rw[aq (by omega),show b.length+t-N.length=t by omega];exact J)
    match O,M with
    | [G,c3,m],_=>rw[D 0 G rfl,D 1 c3 rfl,D 2 m rfl]
   subst i5;refine⟨rfl,N,w,x,.slice (some ⟨Z,0,none⟩) 1 gk,?_,i4,fun y a u z F=>e.mo y a u z (by rw[aM (by have:=(zzg F).1;exact this)];exact F),?_,?_,by have:=e.cnt;omega,?_,?_,?_,?_⟩
   ·have h0:vH q d.heap.size (.slice (some ⟨d.heap.size,0,none⟩) (b.length+3) (b.length+3)) (N++[hh,hh,hh]):=(by have:=e.own;rwa[cL,eP,aW] at this);exact qi h0 V (fun i k f=>by subst f;exact qq e.own e.box (by decide) k)
   ·simpa using qp (i:=2) e.box (.slice (some ⟨Z,0,none⟩) 1 gk)
   ·exact qi e.row V (fun i k f=>by subst f;exact qq e.row e.box (by decide) k)
   ·refine e.tZ.but V (fun i k f=>((qb I) i k).2 f) (fun b1 b2 f=>?_);obtain⟨g1,e2,T⟩:=e.tZ.kind b2;rw[f,e.box] at T;simp at T
   ·exact aw (qb i3) (by simp[Value.ownBlock];exact i1) _
   ·exact e.rd.but V (fun i k f=>((qb I) i k).2 f)
   ·exact e.but.step V (fun i f=>.inl f)
def qr6 (k:Nat->Prop)(i:Value)(b:List Int)(c:World)(l:gS k c i b)(t:b.length<=17592186044416)(h5:∀ x∈b,x=-5):Calls Tryz.prog 95 #[i] c fun e m=>e=.returned (.bool true)/\m=c:=by
 obtain⟨u,v,rfl,h1,h2,h3⟩:=l;have n:=qg h5;have o:=qg h3;clear h5 h3;go_enter Tryz.func95,Tryz.ntmps95;go_wp2;go_loopw [2,3] (fun p f wr=>p=.bool false/\∃ a:Nat,a<=b.length/\f=.int .i64 a/\wr=c) (fun _ f _=>b.length-(intOf f).toNat)
 case atStart=>exact⟨rfl,0,aj _,rfl,rfl⟩
 case round=>
  obtain⟨rfl,a,w,rfl,q⟩:=hrel;subst q;by_cases g:a<b.length
  ·obtain⟨d,h⟩:∃ d,b[a]?=some d:=⟨b[a],by simp[g]⟩;obtain⟨y,z,rfl,_,_,j⟩:=(qb o) (by intro e;rw[e] at g;simp at g);have A:=j a d h;have r:=(qb n) d (zzn h);subst r;have B:(0:Int)<=(a:Int):=(by omega);have s:(a:Int)<(b.length:Int):=(by omega);clear j h;go_wp2;go_roundw
   case rel=>exact⟨rfl,a+1,by omega,by go_num,by first | rfl | trivial⟩
   case measure=>simp[intOf];omega
  ·have s:¬(a:Int)<(b.length:Int):=(by omega);go_wp2;go_ret;exact⟨rfl,rfl⟩
def Kk (j:Nat->Prop)(k l d m n o mark:Int)(f p:Option Addr)(b g q:Nat)(h:List Int)(a:World)(i:gS j a (.slice f b g) h)(u:b<=17592186044416)(h5:∀ d∈h,d=-5):Calls Tryz.prog 58 #[.agg #[.int .i64 k,.int .i64 l,.int .i64 d,.int .i64 m,.int .i64 n,.int .i64 o,.slice f b g,.int .i64 mark],.agg #[.int .i64 k,.int .i64 l,.int .i64 d,.int .i64 m,.int .i64 n,.int .i64 o,.slice p b q,.int .i64 mark]] a fun c e=>c=.returned (.bool true)/\Below a.heap.size a e:=by
 obtain⟨v,w,c,_,_,_⟩:=id i;simp only[ai] at c;obtain⟨rfl,r,rfl⟩:=c;have s:=fun e t=>qr6 j (.slice f b g) h e (i.below t) (by omega) h5;clear i h5 r;go_enter Tryz.func58,Tryz.ntmps58;go_wp2_with fail
 refine ((qb s) _ (((aa _ a).alloc (zzl _) _).alloc (by simp) _)).mono ?_;rintro c e ⟨rfl,rfl⟩;go_wp2;go_ret;exact⟨rfl,((aa _ a).alloc (zzl _) _).alloc (by simp) _⟩
def Zs:∀ (a:List zf)(b:Nat)(c:zf),a[b]?=some c->(jZ a)[b*2]?=some c.out/\(jZ a)[b*2+1]?=some c.want
 | [],b,c,d=>by simp at d
 | e::a,0,c,d=>by
  simp at d;subst d;show (yd e++jZ a)[0]?=_/\(yd e++jZ a)[1]?=_;simp[yd]
 | e::a,b+1,c,d=>by
  have i:a[b]?=some c:=(by simpa using d);have g:=Zs a b c i;have h:∀ f,(jZ (e::a))[(b+1)*2+f]?=(jZ a)[b*2+f]?:=by
   intro f;show (yd e++jZ a)[_]?=_;rw[aq (by simp[yd];omega)];congr 1
   simp[yd];omega
  refine⟨by have:=h 0;simp only[bL] at this;rw[this];exact g.1,by rw[h 1];exact g.2⟩
def m5:hK:=⟨-5,0,0,0,0,0,.slice none 0 0,0⟩
def zf.full (a:zf):List Int:=a.l++[77,77,77]
def zf.ui (a:zf):a.full.length=a.l.length+3:=by simp[zf.full]
structure qy8 (base:Nat)(ns:List zf)(w wr:World)(k:Nat):Prop where
 but:gp (fun k=>∃ x∈ns,k=x.g) w wr
 todo:∀ x∈ns.drop k,zh wr base x.out x.full
 done:∀ x∈ns.take k,zh wr base x.out (List.replicate (x.l.length+3) (-5))
def Yq (c7:Nat->Prop)(g2 x c:Nat)(g3 g4 g5:Value)(h:List zf)(z:List hK)(g:List gt)(r:World)(c8:r.heap[g2]?=some (.cells #[.slice none 0 0,g3,g4] 76))(c9:J4 r x g3 h)(g6:xV c7 x r h)(r6:h.length<=1759218604400)(g7:r.ownsRow x 143 2 g4 1 [.slice (some ⟨c,0,none⟩) (g.length+3) (g.length+3),g5]) (i:vH r x (.slice (some ⟨c,0,none⟩) (g.length+3) (g.length+3)) (z++[hh,hh,hh])) (g8:z.length=g.length) (g9:∀ (o:Nat)(d:gt)(m:hK),g[o]?=some d->z[o]?=some m->MO h d m) (i0:gW c7 r g5 g) (r7:g.length<=1759218604390) (i1:∀ d∈g,d.px.length<=17592186043904) (o3:¬c7 c):Calls Tryz.prog 25 #[.pointer (some ⟨g2,0,none⟩)] r fun e q=>e=.returned (.bool true)/\gp (fun f=>(∃ b∈h,f=b.g)\/f=c) r q:=by
 obtain⟨r8,r9,rfl⟩:=qr c9;have i2:=qg c8;have b2:=qg c9;have D:=qg g6;have i3:=qg g7;have d0:=qg i;have d1:=qg g9;have o4:=qg i0;have d2:=qg i1;obtain⟨m0,-⟩:=zzc c8;clear c8 c9 g6 g7 i g9 i0 i1;go_enter Tryz.func25,Tryz.ntmps25;go_wp2;go_loopw [3,4] (fun L o wr=>L=.bool true/\o=.int .i64 0/\wr=r) (fun _ _ _=>0)
 case atStart=>exact⟨rfl,rfl,rfl⟩
 case round=>
  obtain⟨rfl,rfl,Z⟩:=hrel;have b3:=Z.symm;clear Z;subst b3;go_wp2;clear m0;go_loopw [3,7] (fun L o wr=>L=.bool true/\∃ f:Nat,f<=h.length/\o=.int .i64 f/\qy8 x h r wr f) (fun _ o _=>h.length-(intOf o).toNat)
  case atStart=>exact⟨rfl,0,aj _,rfl,gp.refl _ _,fun b l=>(qb D).own b (by simpa using l),by simp⟩
  case round=>
   rename World=>U;obtain⟨rfl,f,o5,rfl,V⟩:=hrel;have a0:∀ a,(∃ b∈h,a=b.g)->∃ a1 a2,r.heap[a]?=some (.cells a1 3 a2):=fun a ⟨b,l,e⟩=>by subst e;exact (qb D).kind l
   have O:=V.but.heap (qb i2) (fun y=>by
    obtain⟨a1,a2,e⟩:=a0 _ y;rw[qb i2] at e;simp at e)
   have H:=qi (qb b2) V.but (fun a W y=>by
    obtain⟨a1,a2,e⟩:=a0 _ y;exact qq (qb b2) e (by decide) W)
   obtain⟨-,m1,m2,-⟩:=zzc O;by_cases i4:f<h.length
   ·obtain⟨b,l⟩:∃ b,h[f]?=some b:=⟨h[f],by simp[i4]⟩;obtain⟨i5,P,e,_,_⟩:=World.ownsRow.form H (by omega);simp only[ai,cj] at e;obtain⟨rfl,rfl⟩:=e;have i6:U.cell? ⟨i5,f*2,none⟩=some b.out:=(by rw[aU H _ (by omega)];exact (Zs h f b l).1);have i7:U.cell? ⟨i5,f*2+1,none⟩=some b.want:=(by rw[aU H _ (by omega)];exact (Zs h f b l).2);have b4:=zzn l;have i8:h.drop f=b::h.drop (f+1):=(by obtain⟨a6,e⟩:=zzg l;rw[bu a6,e]);have i9:h.take (f+1)=h.take f++[b]:=(by rw[am,l];rfl);obtain⟨o6,wc,Z,_⟩:=(qb D).rd b b4;simp only[zf.out] at i6;rw[Z] at i7;have b5:=qg V;have s0:=qg l;have o7:=qg Z;have b6:=qg i8;have o8:=qg i9;have s1:=b.ui;have s2:=(qb D).len b b4;clear V H O l Z i8 i9 a0;have s3:(0:Int)<=(f:Int):=(by omega);have s4:(f:Int)<(h.length:Int):=(by omega);go_wp2;go_loopw [3,9] (fun L o wr=>L=.bool true/\∃ a:Nat,a<=b.l.length+3/\o=.int .i64 a/\zh wr x b.out (List.replicate a (-5)++b.full.drop a)/\wr.heap[U.heap.size]?=some (.cells #[.slice (some ⟨b.g,0,none⟩) (b.l.length+3) (b.l.length+3),.slice o6 b.l.length wc] 150)/\gp (fun f=>∃ b∈h,f=b.g) r wr/\(∀ j∈h.drop (f+1),zh wr x j.out j.full)/\∀ j∈h.take f,zh wr x j.out (List.replicate (j.l.length+3) (-5))) (fun _ o _=>b.l.length+3-(intOf o).toNat)
    case atStart=>
     refine⟨rfl,0,aj _,rfl,?_,qt _ _ _ rfl,(qb b5).but.alloc _,fun j C=>aR ((qb b5).todo j (by rw[qb b6];exact ba _ C)) _,fun j C=>aR ((qb b5).done j C) _⟩;simpa using aR ((qb b5).todo b (by rw[qb b6];simp)) _
    case round=>
     rename World=>E;obtain⟨rfl,a,W,rfl,i,F,I,b7,b8⟩:=hrel;obtain⟨s5,s6,-⟩:=zzc F;by_cases o9:a<b.l.length+3
     ·obtain⟨t,J⟩:∃ t,b.full[a]?=some t:=⟨b.full[a]'(by omega),by simp⟩;have a7:b.full.drop a=t::b.full.drop (a+1):=(by obtain⟨a6,e⟩:=zzg J;rw[bu a6,e]);rw[a7] at i;have a8:(List.replicate a (-5:Int)).length=a:=(by simp);have K:b.l.length+3=(List.replicate a (-5:Int)++t::b.full.drop (a+1)).length:=(by simp;omega);have X:=Yh (-5) i K;have s7:=kP i K (j:=a) (x:=t) (by rw[aq (by omega)];simp);have s8:=Zm i K a;rw[a8] at X;have a9:zh (E.setCell ⟨b.g,a,none⟩ (.int .i64 (-5))) x b.out (List.replicate (a+1) (-5)++b.full.drop (a+1)):=(by rw[cU,aN];exact X);have p0:=qg a9;have b9:=qg F;have Q:=qg I;have p1:=qg b7;have p2:=qg b8;have j0:=qg J;have c0:b.g≠U.heap.size:=fun e=>by
       have:=qq i F (by decide);simp[zf.out,Value.ownBlock] at this;exact this e
      have p3:(0:Int)<=(a:Int):=(by omega);have p4:(a:Int)<((b.l.length+3:Nat):Int):=(by omega);have p5:(a:Int)<(b.l.length:Int)+3:=(by omega);have p6:=((qb D).rd b b4).but I (fun f p7 ⟨j,C,e⟩=>(qb D).tL j C (e ▸ p7));obtain⟨s9,t0,j1,_,_,d3⟩:=p6;have b3:=j1.symm.trans (qb o7);simp only[ai,cj] at b3;obtain⟨rfl,rfl⟩:=b3;have t1:Hid (qy8 x h r E f->True):=fun _=>trivial;clear i F I b7 b8 X a9 J a7 K a8 j1;by_cases Y:a<b.l.length
      focus
       have j2:b.l[a]?=some t:=(by have:=qb j0;unfold zf.full at this;rwa[aM Y] at this);obtain⟨u,v,rfl,_,t2,b0⟩:=d3 (by intro e;rw[e] at Y;simp at Y);have t3:=b0 a t j2;have c1:(a:Int)<(b.l.length:Int):=(by omega);clear d3 b0 j2
      rotate_left
      focus
       have d4:t=77:=(by have:=qb j0;unfold zf.full at this;rw[aq (by omega)] at this;have h3:=zzn this;simpa using h3);subst d4;have c1:¬(a:Int)<(b.l.length:Int):=(by omega);have t4:(b.l.length:Int)<=(a:Int):=(by omega);clear d3
      rotate_left
      all_goals
       go_wp2;go_quiet (fail)
       go_wp2;go_roundw
       case rel=>
        refine⟨?_,a+1,by omega,by go_num,qb p0,?_,?_,fun j C=>?_,fun j C=>?_⟩
        ·rfl
        ·exact qu (qb b9) (cu c0) _
        ·exact ((qb Q).drewN _).setCell (p:=⟨b.g,a,none⟩) (.inl ⟨b,b4,rfl⟩) _
        ·have d5:j.out.ownBlock≠some b.g:=(by have c2:=(qb D).apart;have j3:(h.drop f).Pairwise (fun b j=>b.g≠j.g):=c2.sublist (List.drop_sublist _ _);rw[qb b6] at j3;have:=(bn.1 j3).1 j C;simp[zf.out,Value.ownBlock];exact fun e=>this e.symm);exact aw ((qb p1) j C) d5 _
        ·have d5:j.out.ownBlock≠some b.g:=(by have c2:=(qb D).apart;rw[<-ap f h,qb b6] at c2;have:=(bj.1 c2).2.2 j C b (by simp);simp[zf.out,Value.ownBlock];exact this);exact aw ((qb p2) j C) d5 _
       case measure=>simp[intOf];omega
     ·obtain rfl:a=b.l.length+3:=(by omega);have j4:qy8 x h r E (f+1):=⟨I,b7,fun j C=>by
       rw[qb o8] at C;rcases al.1 C with P | P
       ·exact b8 j P
       ·rw[ay.1 P];have:=i;rw[bI (by omega),aW] at this;exact this⟩
      have p8:=qg j4;clear i F I b7 b8 j4;go_wp2;go_roundw
      case rel=>exact⟨rfl,f+1,by omega,by go_num,qb p8⟩
      case measure=>simp[intOf];omega
   ·obtain rfl:f=h.length:=(by omega);have G:=V.but;have j5:=fun b l=>V.done b (by rw[aP];exact l);have j6:vH U x (.slice (some ⟨c,0,none⟩) (g.length+3) (g.length+3)) (z++[hh,hh,hh]):=qi (qb d0) G (fun a W y=>by
     obtain⟨a1,a2,e⟩:=a0 _ y;exact qq (qb d0) e (by decide) W)
    have d6:=qi (qb i3) G (fun a W y=>by
     obtain⟨a1,a2,e⟩:=a0 _ y;exact qq (qb i3) e (by decide) W)
    have d7:=(qb o4).but G (fun M R ⟨b,l,e⟩=>(qb D).tL b l (e ▸ R));obtain⟨j7,t5,p9,_,_⟩:=World.ownsRow.form d6 (by omega);subst p9;obtain⟨j8,d8,q0,_⟩:=id d7;subst q0;have q1:=qg G;have d9:=qg j5;have b1:=qg j6;have c3:=qg d6;have e0:=qg d7;have j9:=qg O;have k0:∀ b∈h,b.g≠c:=fun b l e=>by
     obtain⟨a1,a2,k1⟩:=(qb D).kind l;obtain⟨t6,t7,q2⟩:=qE (qb d0) (k:=c) rfl;rw[e,q2] at k1;simp at k1
    have e1:=qg k0;clear G j5 j6 d6 d7 V H O a0 k0;go_wp2;clear m1 m2;go_loopw [3,10] (fun L o wr=>L=.bool true/\∃ f:Nat,f<=1/\o=.int .i64 f/\gp (fun M=>M=c) U wr/\(f=0->vH wr x (.slice (some ⟨c,0,none⟩) (g.length+3) (g.length+3)) (z++[hh,hh,hh]))) (fun _ o _=>1-(intOf o).toNat)
    case atStart=>exact⟨rfl,0,by omega,rfl,gp.refl _ _,fun _=>qb b1⟩
    case round=>
     rename World=>E;obtain⟨rfl,f,o5,rfl,G,e2⟩:=hrel;have O:=G.heap (qb j9) (fun e=>qq (qb b1) (qb j9) (by decide) (by rw[e];rfl));have H:=qi (qb c3) G (fun M R e=>qS (qb c3) (qb b1) (by decide) R (by rw[e];rfl));obtain⟨-,-,t8,-⟩:=zzc O;by_cases i4:f<1
     ·have i:=e2 (by omega);have i6:E.cell? ⟨j7,f*2,none⟩=some (.slice (some ⟨c,0,none⟩) (g.length+3) (g.length+3)):=(by have a3:f=0:=(by omega);subst a3;rw[aU H _ (by omega)];rfl);have i7:E.cell? ⟨j7,f*2+1,none⟩=some (.slice j8 g.length d8):=(by have a3:f=0:=(by omega);subst a3;rw[aU H _ (by omega)];rfl);have t9:(0:Int)<=(f:Int):=(by omega);have v0:(f:Int)<1:=(by omega);have e3:=qg G;have q3:=qg i;clear G e2 i H O;go_wp2;go_loopw [3,12] (fun L o wr=>L=.bool true/\∃ a:Nat,a<=g.length+3/\o=.int .i64 a/\vH wr x (.slice (some ⟨c,0,none⟩) (g.length+3) (g.length+3)) (List.replicate a m5++(z++[hh,hh,hh]).drop a)/\wr.heap[E.heap.size]?=some (.cells #[.slice (some ⟨c,0,none⟩) (g.length+3) (g.length+3),.slice j8 g.length d8] 143)/\gp (fun M=>M=c) U wr) (fun _ o _=>g.length+3-(intOf o).toNat)
      case atStart=>exact⟨rfl,0,aj _,rfl,by rw[eP,cd,eH];exact aR (qb q3) _,qt _ _ _ rfl,(qb e3).alloc _⟩
      case round=>
       rename World=>k;obtain⟨rfl,a,W,rfl,i,F,I⟩:=hrel;obtain⟨k3,k4,-⟩:=zzc F;have e4:=qh F;have N:=(ab i c rfl).2;by_cases o9:a<g.length+3
       ·obtain⟨t,J⟩:∃ t,(z++[hh,hh,hh])[a]?=some t:=⟨(z++[hh,hh,hh])[a]'(by simp;omega),by simp⟩;have a7:(z++[hh,hh,hh]).drop a=t::(z++[hh,hh,hh]).drop (a+1):=(by obtain⟨a6,e⟩:=zzg J;rw[bu a6,e]);rw[a7] at i;have a8:(List.replicate a m5).length=a:=(by simp);have K:g.length+3=(List.replicate a m5++t::(z++[hh,hh,hh]).drop (a+1)).length:=(by simp;omega);have X:=QL m5 i K;rw[a8] at X;have w:=fun c4 q4=>QM i K (j:=a) (m:=t) (by rw[aq (by omega)];simp) c4 q4;have q5:=Zl i K;have c0:c≠E.heap.size:=fun e=>by
         have:=qq i F (by decide);simp[Value.ownBlock] at this;exact this e
        have a9:Hid (vH (ZF k c a m5) x (.slice (some ⟨c,0,none⟩) (g.length+3) (g.length+3)) (List.replicate (a+1) m5++(z++[hh,hh,hh]).drop (a+1))):=(by show vH _ _ _ _;rw[cU,aN];exact X);have p3:(0:Int)<=(a:Int):=(by omega);have p4:(a:Int)<((g.length+3:Nat):Int):=(by omega);have p5:(a:Int)<(g.length:Int)+3:=(by omega);have e5:=qg i;have b9:=qg F;have Q:=qg I;have k5:=qg K;clear i F I X a7 K a8;by_cases Y:a<g.length
        ·obtain⟨d,c5⟩:∃ d,g[a]?=some d:=⟨g[a],by simp[Y]⟩;have k6:z[a]?=some t:=(by rwa[aM (by omega)] at J);have q6:=(qb d1) a d t c5 k6;obtain⟨v1,rs,v2,v3,v4,v5,q7,w0⟩:=t;obtain⟨k7,k8,k9,l0,l1,l2,l3,e6⟩:=q6;simp only at k7 k8 k9 l0 l1 l2 l3 e6;subst k7 k8 k9 l0 l1 l2 l3;obtain⟨e7,a4,a5,q8,l4⟩:∃ (e7:Nat->Prop)(a4:Option Addr)(a5:Nat),q7=.slice a4 d.px.length a5/\gS e7 k (.slice a4 d.px.length a5) (List.replicate d.px.length (-5)):=by
          rcases e6 with ⟨e,a3⟩ | ⟨b,l,e,_⟩
          ·exact⟨fun _=>True,none,0,by rw[e,a3];rfl,by rw[a3];exact⟨none,0,rfl,by simp,by simp[maxLen],fun y=>absurd rfl y⟩⟩
          ·have e8:=qi ((qb d9) b l) (qb Q) (fun M R q9=>(qb e1) b l (by simp only[zf.out,Value.ownBlock,ac] at R;rw[R,q9]));rename_i l5;have r0:List.replicate (b.l.length+3) (-5:Int)=List.replicate d.px.length (-5)++List.replicate 3 (-5):=(by rw[db,l5]);rw[r0] at e8;have l6:=Js (A:=List.replicate d.px.length (-5)) (B:=List.replicate 3 (-5)) (by simp only[zf.out] at e8;exact e8);rw[aS,l5] at l6;exact⟨_,some ⟨b.g,0,none⟩,d.px.length+3,e,zh.rd l6⟩
         subst q8;have r1:=(qb e0).but (qb Q) (fun M R e=>o3 (e ▸ R));obtain⟨w1,w2,l7,_,_,h3⟩:=r1;simp only[ai,cj] at l7;obtain⟨rfl,rfl⟩:=l7;obtain⟨u,v,rfl,_,T,b0⟩:=h3 (by intro e;rw[e] at Y;simp at Y);obtain⟨l8,l9,n0,n1,n2,n3,⟨w3,e9,n4⟩,n5⟩:=b0 a d c5;obtain⟨n6,n7,n8,r2⟩:=id n4;rw[n8] at e9;have k2:k.cell? ⟨c,a*8,none⟩=some (.int .i64 d.kind):=w 0 (by omega);have f0:k.cell? ⟨c,a*8+1,none⟩=some (.int .i64 d.iV):=w 1 (by omega);have f1:k.cell? ⟨c,a*8+2,none⟩=some (.int .i64 d.x):=w 2 (by omega);have f2:k.cell? ⟨c,a*8+3,none⟩=some (.int .i64 d.y):=w 3 (by omega);have f3:k.cell? ⟨c,a*8+4,none⟩=some (.int .i64 d.w):=w 4 (by omega);have f4:k.cell? ⟨c,a*8+5,none⟩=some (.int .i64 d.h):=w 5 (by omega);have f5:k.cell? ⟨c,a*8+6,none⟩=some (.slice a4 d.px.length a5):=w 6 (by omega);have f6:k.cell? ⟨c,a*8+7,none⟩=some (.int .i64 d.mark):=w 7 (by omega);have n9:=qg (Kk e7 d.kind d.iV d.x d.y d.w d.h d.mark a4 n6 d.px.length a5 n7 (List.replicate d.px.length (-5)) k.drew (l4.below (aa _ k).drew) (by have:=(qb d2) d (zzn c5);omega) (fun b l=>(fO.1 l).2));have c1:(a:Int)<(g.length:Int):=(by omega);clear w J k6 e6 l4 h3 b0 r2 n4 n8 e1 d9 d1 e0 b1 c3 d2 D b2 g8 c5;go_wp2_with fail
         go_region_held3 (fun q=>q.cell? ⟨E.heap.size,0,none⟩=some (.slice (some ⟨c,0,none⟩) (g.length+3) (g.length+3))/\q.cell? ⟨E.heap.size,1,none⟩=some (.slice (some ⟨u,v,none⟩) g.length d8)/\q.cell? ⟨c,a*8,none⟩=some (.int .i64 d.kind)/\q.cell? ⟨c,a*8+1,none⟩=some (.int .i64 d.iV)/\q.cell? ⟨c,a*8+2,none⟩=some (.int .i64 d.x)/\q.cell? ⟨c,a*8+3,none⟩=some (.int .i64 d.y)/\q.cell? ⟨c,a*8+4,none⟩=some (.int .i64 d.w)/\q.cell? ⟨c,a*8+5,none⟩=some (.int .i64 d.h)/\q.cell? ⟨c,a*8+6,none⟩=some (.slice a4 d.px.length a5)/\q.cell? ⟨c,a*8+7,none⟩=some (.int .i64 d.mark)/\q.cell? ⟨u,v+a*8,none⟩=some (.int .i64 d.kind)/\q.cell? ⟨u,v+a*8+1,none⟩=some (.int .i64 d.iV)/\q.cell? ⟨u,v+a*8+2,none⟩=some (.int .i64 d.x)/\q.cell? ⟨u,v+a*8+3,none⟩=some (.int .i64 d.y)/\q.cell? ⟨u,v+a*8+4,none⟩=some (.int .i64 d.w)/\q.cell? ⟨u,v+a*8+5,none⟩=some (.int .i64 d.h)/\q.cell? ⟨u,v+a*8+6,none⟩=some (.slice n6 d.px.length n7)/\q.cell? ⟨u,v+a*8+7,none⟩=some (.int .i64 d.mark))
          (first | go_keep | (go_split_ands;refine⟨?_,?_,?_,?_,?_,?_,?_,?_,?_,?_,?_,?_,?_,?_,?_,?_,?_,?_⟩<;>assumption))
          ((go_at_call 58;refine (qb n9).mono ?_;rintro e o0 ⟨rfl,o1⟩;have n:Below k.heap.size k o0:=((aa _ k).drew).trans o1;have w4:=(n.cell (p:=⟨E.heap.size,0,none⟩) e4).trans k3;have w5:=(n.cell (p:=⟨E.heap.size,1,none⟩) e4).trans k4;have w6:=(n.cell (p:=⟨c,a*8,none⟩) N).trans k2;have w7:=(n.cell (p:=⟨c,a*8+1,none⟩) N).trans f0;have w8:=(n.cell (p:=⟨c,a*8+2,none⟩) N).trans f1;have w9:=(n.cell (p:=⟨c,a*8+3,none⟩) N).trans f2;have x0:=(n.cell (p:=⟨c,a*8+4,none⟩) N).trans f3;have x1:=(n.cell (p:=⟨c,a*8+5,none⟩) N).trans f4;have x2:=(n.cell (p:=⟨c,a*8+6,none⟩) N).trans f5;have x3:=(n.cell (p:=⟨c,a*8+7,none⟩) N).trans f6;have x4:=(n.cell (p:=⟨u,v+a*8,none⟩) T).trans l8;have x5:=(n.cell (p:=⟨u,v+a*8+1,none⟩) T).trans l9;have x6:=(n.cell (p:=⟨u,v+a*8+2,none⟩) T).trans n0;have x7:=(n.cell (p:=⟨u,v+a*8+3,none⟩) T).trans n1;have x8:=(n.cell (p:=⟨u,v+a*8+4,none⟩) T).trans n2;have x9:=(n.cell (p:=⟨u,v+a*8+5,none⟩) T).trans n3;have y0:=(n.cell (p:=⟨u,v+a*8+6,none⟩) T).trans e9;have y1:=(n.cell (p:=⟨u,v+a*8+7,none⟩) T).trans n5;have y2:=fun c4=>(n.frozen (p:=⟨c,c4,none⟩) N).trans (q5 c4);have f7:=qg n;clear n o1 n9))
         have o2:=qi (qb e5) (gp.aD (S:=fun _=>False) (qb f7)) (fun _ _ y=>y);have f8:=QL m5 o2 (qb k5);rw[aS] at f8;have r3:Hid (vH (ZF o0 c a m5) x (.slice (some ⟨c,0,none⟩) (g.length+3) (g.length+3)) (List.replicate (a+1) m5++(z++[hh,hh,hh]).drop (a+1))):=(by show vH _ _ _ _;rw[cU,aN];exact f8);have r4:=qg ((qb Q).then (qb f7));have r5:=qg (((qb f7).block _ e4).trans (qb b9));clear o2 f8 a9 e5 k5 k3 k4 k2 f0 f1 f2 f3 f4 f5 f6 l8 l9 n0 n1 n2 n3 e9 n5;go_wp2;go_roundw
         case rel=>
          refine⟨rfl,a+1,by omega,by go_num,?_,?_,?_⟩
          ·exact qb r3
          ·exact (Qo (i:=a) (s:=m5) (cu c0)).trans (qb r5)
          ·exact kM (i:=a) (s:=m5) (qb r4) (.inl rfl)
         case measure=>simp[intOf];omega
        ·have d4:t=hh:=(by rw[aq (by omega)] at J;have h3:=zzn J;simpa using h3);subst d4;have k2:k.cell? ⟨c,a*8,none⟩=some (.int .i64 77):=w 0 (by omega);have f0:k.cell? ⟨c,a*8+1,none⟩=some (.int .i64 0):=w 1 (by omega);have f1:k.cell? ⟨c,a*8+2,none⟩=some (.int .i64 0):=w 2 (by omega);have f2:k.cell? ⟨c,a*8+3,none⟩=some (.int .i64 0):=w 3 (by omega);have f3:k.cell? ⟨c,a*8+4,none⟩=some (.int .i64 0):=w 4 (by omega);have f4:k.cell? ⟨c,a*8+5,none⟩=some (.int .i64 0):=w 5 (by omega);have f5:k.cell? ⟨c,a*8+6,none⟩=some (.slice none 0 0):=w 6 (by omega);have f6:k.cell? ⟨c,a*8+7,none⟩=some (.int .i64 0):=w 7 (by omega);have c1:¬(a:Int)<(g.length:Int):=(by omega);have y3:∀ (r:World)(c6:Option Addr)(f9 P g0 g1:Nat),(binOp .eql 50 (.slice c6 f9 P) (.slice none g0 g1)).run Tryz.prog r=.ok (.bool c6.isNone) r:=fun r c6 f9 P g0 g1=>Lib.run_eql_slice_nil r _ _ c6 f9 P g0 g1 Tryz.underlying50;clear w J e5 e1 d9 d1 e0 b1 c3 d2 D b2 g8;go_wp2;go_roundw
         case rel=>
          refine⟨rfl,a+1,by omega,by go_num,?_,?_,?_⟩
          ·exact qb a9
          ·exact (Qo (i:=a) (s:=m5) (cu c0)).trans (qb b9)
          ·exact kM (i:=a) (s:=m5) (qb Q) (.inl rfl)
         case measure=>simp[intOf];omega
       ·obtain rfl:a=g.length+3:=(by omega);have Q:=qg I;clear i F I;go_wp2;go_roundw
        case rel=>exact⟨rfl,f+1,by omega,by go_num,qb Q,fun y=>by omega⟩
        case measure=>simp[intOf];omega
     ·have e3:=qg G;have c1:¬(f:Int)<1:=(by omega);clear G e2 H O;go_wp2;go_ret;exact⟨rfl,((qb q1).wide (fun M _ y=>.inl y)).trans ((qb e3).wide (fun M _ y=>.inr y))⟩
end Go.Proofs.YtbnbkjbfpamijaaGreat
