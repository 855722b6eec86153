import Derived.Test.YtfnockbgkcgpkaaGreatTkaj
import Derived.Test.YtfnockbgkcgpkaaGreatTkar
import Derived.Test.YtfnockbgkcgpkaaGreatTkas
import Derived.Deep.RegionHeld3
set_option linter.all false
set_option maxRecDepth 100000
set_option maxHeartbeats 16000000
namespace Go.Proofs.YtfnockbgkcgpkaaGreat
open Go.RowKit Go.Proofs.Panes
theorem JB:(Tryz.prog.info? 4).map (fun i=>(i.zero,i.size,i.bytes))=some (some (.bool false),1,1):=by kernel_rfl
theorem xB (n:Nat)(hn:n<=1000000)(u:World):(Instr.makeSlice 116 (.int .i64 (n:Int)) (.int .i64 (n:Int))).run Tryz.prog u=.ok (.slice (some ⟨u.heap.size,0,none⟩) n n) (u.alloc (.cells (Array.replicate n (Value.bool false)) 4)):=by
 obtain⟨i0,hi,hz0,hz1,hz2⟩:=info_parts JB;have h:=run_make (P:=Tryz.prog) u 116 4 i0 _ Tryz.underlying116 hi hz0 .i64 .i64 (n:Int) (n:Int) (by omega) (Int.le_refl _) (by rw[hz2];omega) (by omega);have e:madeCells #[Value.bool false] n=Array.replicate n (Value.bool false):=by
  apply Array.ext';rw[toList_madeCells_one,Array.toList_replicate]
 simp only[Int.toNat_natCast,hz1] at h;rw[<-e];simpa[Value.cells] using h
theorem qi5 {w:World}{base g n:Nat}{l:List Int}(h:zh w base (.slice (some ⟨g,0,none⟩) n n) l)(hl:l.length=n):w.heap[g]?=some (.cells (l.map (Value.int .i64)).toArray 3 (0,0))/\base<=g:=by
 rcases h.2 with ⟨e,_⟩ | ⟨k,c,cur,e,hb,hk,hc,hm,hz,ht⟩
 ·cases e
 ·simp only[Value.slice.injEq,Option.some.injEq,Addr.mk.injEq,and_true] at e;obtain⟨rfl,_,rfl⟩:=e;refine⟨?_,hb⟩;rw[List.take_of_length_le (by simp[hz];omega)] at ht;rw[hk,<-ht]
def QQ (W H:Nat)(n:Int):Frs:={W:=W,H:=H,b:=fun _=>⟨List.replicate (W*H) n,List.replicate (W*H) false,0⟩,front:=0,frame:=none,due:=false,marks:=[]}
def QX (b:Nat->Nat)(N k i:Nat):Value:=if i<k then zJ (b i) N else .slice none 0 0
def xI (W H N:Nat)(pb st:Nat->Nat)(kp ks:Nat):Array Value:=
 #[.int .i64 0,.int .i64 0,.int .i64 (W:Int),.int .i64 (H:Int),QX pb N kp 0,QX st N ks 0,.int .i64 0,QX pb N kp 1,QX st N ks 1,.int .i64 0,QX pb N kp 2,QX st N ks 2,.int .i64 0,.int .i64 0,.pointer none,.bool false,.slice none 0 0]
structure FrN (w wr:World)(fb W H N:Nat)(n:Int)(pb st:Nat->Nat)(kp ks:Nat):Prop where
 blk:wr.heap[fb]?=some (.cells (xI W H N pb st kp ks) 169 (0,0))
 px:∀ i,i<kp->wr.heap[pb i]?=some (.cells ((List.replicate N n).map (Value.int .i64)).toArray 3 (0,0))/\w.heap.size<=pb i
 stl:∀ i,i<ks->wr.heap[st i]?=some (.cells ((List.replicate N false).map Value.bool).toArray 4 (0,0))/\w.heap.size<=st i
 pinj:∀ i j,i<kp->j<kp->pb i=pb j->i=j
 sinj:∀ i j,i<ks->j<ks->st i=st j->i=j
 bel:Below w.heap.size w wr
 ge:w.heap.size<=fb
def Xc (f:Nat->Nat)(k q:Nat):Nat->Nat:=fun i=>if i=k then q else f i
theorem zc2 (W H N:Nat)(pb st:Nat->Nat)(k q:Nat)(hk:k<3):(xI W H N pb st k k).setIfInBounds (4+k*3) (zJ q N)=xI W H N (Xc pb k q) st (k+1) k:=by
 have:k=0\/k=1\/k=2:=by omega
 rcases this with e | e | e<;>subst e<;>simp[xI,QX,Xc]
theorem zc1 (W H N:Nat)(pb st:Nat->Nat)(k q:Nat)(hk:k<3):(xI W H N pb st (k+1) k).setIfInBounds (4+k*3+1) (zJ q N)=xI W H N pb (Xc st k q) (k+1) (k+1):=by
 have:k=0\/k=1\/k=2:=by omega
 rcases this with e | e | e<;>subst e<;>simp[xI,QX,Xc]
theorem FrN.below {w wr w2:World}{fb W H N:Nat}{n:Int}{pb st:Nat->Nat}{kp ks:Nat}(h:FrN w wr fb W H N n pb st kp ks)(hb:Below wr.heap.size wr w2):FrN w w2 fb W H N n pb st kp ks:=
 ⟨(hb.block _ (qh h.blk)).trans h.blk,fun i hi=>⟨(hb.block _ (qh (h.px i hi).1)).trans (h.px i hi).1,(h.px i hi).2⟩,fun i hi=>⟨(hb.block _ (qh (h.stl i hi).1)).trans (h.stl i hi).1,(h.stl i hi).2⟩,h.pinj,h.sinj,h.bel.trans (hb.mono h.bel.size),h.ge⟩
theorem FrN.stepP {w wr w3:World}{fb W H N:Nat}{n:Int}{pb st:Nat->Nat}{k q:Nat}(h:FrN w wr fb W H N n pb st k k)(hk:k<3){base:Nat}(hbs:wr.heap.size<=base)(hb:Below wr.heap.size wr w3)(hq:zh w3 base (.slice (some ⟨q,0,none⟩) N N) (List.replicate N n)):FrN w (w3.setCell ⟨fb,4+k*3,none⟩ (zJ q N)) fb W H N n (Xc pb k q) st (k+1) k:=by
 have h3:=h.below hb;obtain⟨hq1,hq2⟩:=qi5 hq (by simp);have hs:But (fun x=>x=fb) w3 (w3.setCell ⟨fb,4+k*3,none⟩ (zJ q N)):=(But.refl (fun x=>x=fb) w3).setCell (p:=⟨fb,4+k*3,none⟩) (.inl rfl) _;have hne:∀ {x:Nat}{cs:Array Value}{t:TypeId}{fz:Nat×Nat},w3.heap[x]?=some (.cells cs t fz)->t≠169->¬x=fb:=fun hx ht e=>by rw[e,h3.blk] at hx;simp at hx;exact ht hx.2.1.symm
 refine⟨?_,fun i hi=>?_,fun i hi=>⟨hs.heap (h3.stl i hi).1 (hne (h3.stl i hi).1 (by decide)),(h3.stl i hi).2⟩,fun i j hi hj=>?_,h.sinj,h3.bel.setCell (p:=⟨fb,4+k*3,none⟩) h.ge _,h.ge⟩
 ·rw[qp (i:=4+k*3) h3.blk,zc2 W H N pb st k q hk]
 ·unfold Xc
  by_cases e:i=k
  ·rw[if_pos e];exact⟨hs.heap hq1 (hne hq1 (by decide)),Nat.le_trans h.bel.size (by omega)⟩
  ·rw[if_neg e];have:=h3.px i (by omega);exact⟨hs.heap this.1 (hne this.1 (by decide)),this.2⟩
 ·unfold Xc
  by_cases e:i=k<;>by_cases e':j=k
  ·intro _;omega
  ·rw[if_pos e,if_neg e'];intro c;have:=qh (h.px j (by omega)).1;omega
  ·rw[if_neg e,if_pos e'];intro c;have:=qh (h.px i (by omega)).1;omega
  ·rw[if_neg e,if_neg e'];exact h.pinj i j (by omega) (by omega)
theorem FrN.stepS {w wr:World}{fb W H N:Nat}{n:Int}{pb st:Nat->Nat}{k:Nat}(h:FrN w wr fb W H N n pb st (k+1) k)(hk:k<3):FrN w ((wr.setCell ⟨fb,4+k*3+1,none⟩ (zJ wr.heap.size N)).alloc (.cells (Array.replicate N (Value.bool false)) 4)).drew fb W H N n pb (Xc st k wr.heap.size) (k+1) (k+1):=by
 obtain⟨w2,hw2⟩:∃ w2:World,w2=((wr.setCell ⟨fb,4+k*3+1,none⟩ (zJ wr.heap.size N)).alloc (.cells (Array.replicate N (Value.bool false)) 4)).drew:=⟨_,rfl⟩;rw[<-hw2];have hs:But (fun x=>x=fb) wr w2:=(by rw[hw2];exact (((But.refl (fun x=>x=fb) wr).setCell (p:=⟨fb,4+k*3+1,none⟩) (.inl rfl) _).alloc _).drew);have hne:∀ {x:Nat}{cs:Array Value}{t:TypeId}{fz:Nat×Nat},wr.heap[x]?=some (.cells cs t fz)->t≠169->¬x=fb:=fun hx ht e=>by rw[e,h.blk] at hx;simp at hx;exact ht hx.2.1.symm
 refine⟨?_,fun i hi=>⟨hs.heap (h.px i hi).1 (hne (h.px i hi).1 (by decide)),(h.px i hi).2⟩,fun i hi=>?_,h.pinj,fun i j hi hj=>?_,h.bel.trans (hs.below h.bel.size (fun x e=>by rw[e];exact h.ge)),h.ge⟩
 ·rw[<-zc1 W H N pb st k wr.heap.size hk,hw2];exact qx (qp (i:=4+k*3+1) h.blk _) _
 ·unfold Xc
  by_cases e:i=k
  ·rw[if_pos e];refine⟨?_,h.bel.size⟩;rw[hw2];have:(wr.setCell ⟨fb,4+k*3+1,none⟩ (zJ wr.heap.size N)).heap.size=wr.heap.size:=(by simp[World.setCell]);have h2:=qt (wr.setCell ⟨fb,4+k*3+1,none⟩ (zJ wr.heap.size N)) (.cells (Array.replicate N (Value.bool false)) 4) wr.heap.size this.symm;have e2:((wr.setCell ⟨fb,4+k*3+1,none⟩ (zJ wr.heap.size N)).alloc (.cells (Array.replicate N (Value.bool false)) 4)).drew.heap[wr.heap.size]?=some (.cells (Array.replicate N (Value.bool false)) 4):=h2;rw[e2];simp
  ·rw[if_neg e];have:=h.stl i (by omega);exact⟨hs.heap this.1 (hne this.1 (by decide)),this.2⟩
 ·unfold Xc
  by_cases e:i=k<;>by_cases e':j=k
  ·intro _;omega
  ·rw[if_pos e,if_neg e'];intro c;have:=qh (h.stl j (by omega)).1;omega
  ·rw[if_neg e,if_pos e'];intro c;have:=qh (h.stl i (by omega)).1;omega
  ·rw[if_neg e,if_neg e'];exact h.sinj i j (by omega) (by omega)
theorem FrN.cell {w wr:World}{fb W H N:Nat}{n:Int}{pb st:Nat->Nat}{kp ks:Nat}(h:FrN w wr fb W H N n pb st kp ks)(i:Nat)(hi:i<17):∃ u,wr.cell? ⟨fb,i,none⟩=some u:=by
 rw[qe h.blk];exact⟨(xI W H N pb st kp ks)[i]'(by simp[xI];omega),by simp⟩
def qu0 (w w':World):Nat->Prop:=fun k=>w.heap.size<=k/\k<w'.heap.size
theorem FrN.done {w wr:World}{fb W H:Nat}{n:Int}{pb st:Nat->Nat}(h:FrN w wr fb W H (W*H) n pb st 3 3):Fr (qu0 w wr) wr fb (QQ W H n) ⟨pb,st,0,.slice none 0 0,.slice none 0 0,.slice none 0 0⟩:=by
 refine⟨?_,⟨h.ge,qh h.blk⟩,fun i hi=>?_,fun i hi=>?_,h.pinj,h.sinj,⟨rfl,.inl ⟨rfl,rfl⟩⟩,fun k hk=>by simp[Value.ownBlock] at hk,fun g hg=>by simp[QQ] at hg⟩
 ·rw[h.blk];simp[xI,qT,QX,QQ,xD]
 ·obtain⟨h1,h2⟩:=h.px i hi;exact⟨h1,⟨h2,qh h1⟩,by simp[QQ]⟩
 ·obtain⟨h1,h2⟩:=h.stl i hi;exact⟨h1,⟨h2,qh h1⟩,by simp[QQ]⟩
def qy9 (w w':World)(W H:Nat)(n:Int)(fb:Nat):Prop:=(∃ v,Fr (qu0 w w') w' fb (QQ W H n) v)/\Below w.heap.size w w'
theorem Xl (W H:Nat)(n:Int)(w:World)(hb:1<=W/\W<=16/\1<=H/\H<=16):Calls Tryz.prog 72 #[.int .i64 (W:Int),.int .i64 (H:Int),.int .i64 n] w fun e w'=>∃ fb,e=.returned (.pointer (some ⟨fb,0,none⟩))/\qy9 w w' W H n fb:=by
 have hWH:1<=W*H/\W*H<=256:=by
  have:=Nat.mul_le_mul (show W<=16 by omega) (show H<=16 by omega);have:=Nat.mul_le_mul (show 1<=W by omega) (show 1<=H by omega);omega
 obtain⟨N,hN⟩:∃ N,N=W*H:=⟨_,rfl⟩;have hmul:IntKind.i64.wrap ((W:Int)*(H:Int))=(N:Int):=by
  rw[hN,IntKind.wrap_i64];have:((W:Int)*(H:Int))=((W*H:Nat):Int):=(by simp);rw[this];omega
 have hmk:=xB N (by omega);rw[<-hN] at hWH;have CR:Hid (∀ g w,w.cell? ⟨g,0,none⟩=some (.int .i64 n)->g<w.heap.size->Calls Tryz.prog 110 #[.slice (some ⟨g,0,none⟩) 1 1,.int .i64 (N:Int)] w fun e w'=>∃ q,e=.returned (.slice (some ⟨q,0,none⟩) N N)/\zh w' w.heap.size (.slice (some ⟨q,0,none⟩) N N) (List.replicate N n)/\Below w.heap.size w w'):=fun g w h1 h2=>Km g N n w hWH h1 h2;have HNN:=qg hN;clear hN hb
 go_enter Tryz.func72,Tryz.ntmps72
 have hI0:FrN w (w.alloc (.cells #[.int .i64 0,.int .i64 0,.int .i64 W,.int .i64 H,.slice none 0 0,.slice none 0 0,.int .i64 0,.slice none 0 0,.slice none 0 0,.int .i64 0,.slice none 0 0,.slice none 0 0,.int .i64 0,.int .i64 0,.pointer none,.bool false,.slice none 0 0] 169)) w.heap.size W H N n (fun _=>0) (fun _=>0) 0 0:=⟨qt _ _ _ rfl,fun i hi=>by omega,fun i hi=>by omega,fun i j hi=>by omega,fun i j hi=>by omega,(Below.refl _ w).alloc (zzl _) _,zzl _⟩;have HI0:=qg hI0;clear hI0;go_wp2
 go_loopw [14] (fun i wr=>∃ (k:Nat)(pb st:Nat->Nat),k<=3/\i=.int .i64 k/\FrN w wr w.heap.size W H N n pb st k k) (fun i _=>3-(intOf i).toNat)
 case atStart=>exact⟨0,_,_,by omega,rfl,qb HI0⟩
 case round=>
  rename World=>wq;obtain⟨k,pb,st,hk,rfl,hI⟩:=hrel;clear HI0
  by_cases hlt:k<3
  ·have i0:(0:Int)<=(k:Int):=(by omega);have i1:(k:Int)<3:=(by omega);obtain⟨u4,hu4⟩:=hI.cell (4+k*3) (by omega);obtain⟨u5,hu5⟩:=hI.cell (4+k*3+1) (by omega);have hz:∀ i,wq.frozen? ⟨w.heap.size,i,none⟩=false:=fun i=>qj hI.blk i;have lf:w.heap.size<wq.heap.size:=World.block_lt_of_cell? wq _ hu4;have HI:=qg hI;clear hI;have lf':w.heap.size≠wq.heap.size:=by omega
   go_wp2_with fail
   go_region_held3 (fun _=>True) (trivial)
    ((
      go_at_call 110
      refine ((qb CR) wq.heap.size _ (by simp) (by simp)).mono ?_
      rintro e w3 ⟨q,rfl,hq,hb3⟩
      have hb3':Below wq.heap.size wq w3:=(((Below.refl _ wq).alloc (zzl _) _).drew).trans (hb3.mono (by simp))
      have hI3:=(qb HI).below hb3'
      obtain⟨u4',hu4'⟩:=hI3.cell (4+k*3) (by omega)
      have hz3:∀ i,w3.frozen? ⟨w.heap.size,i,none⟩=false:=fun i=>qj hI3.blk i
      have HI3:=qg ((qb HI).stepP hlt (by simp) hb3' hq)
      clear hb3 hb3' hI3 hq))
   have hI4:=qb HI3;unfold zJ at hI4;generalize w3.setCell ⟨w.heap.size,4+k*3,none⟩ (.slice (some ⟨q,0,none⟩) N N)=w4 at *;obtain⟨u6,hu6⟩:=hI4.cell (4+k*3+1) (by omega);have hz4:∀ i,w4.frozen? ⟨w.heap.size,i,none⟩=false:=fun i=>qj hI4.blk i;have l4:w.heap.size<w4.heap.size:=World.block_lt_of_cell? w4 _ hu6;have HI4:=qg (hI4.stepS hlt);clear hI4 HI3 HI hu4' hz3 hu4 hu5 hz lf lf' CR;go_wp2;go_region;go_wp2
   go_roundw
   case rel=>exact⟨k+1,_,_,by omega,by go_num,qb HI4⟩
   case measure=>simp[intOf];omega
  ·have i1:¬(k:Int)<3:=(by omega);have e3:k=3:=(by omega);have HI:Hid (FrN w wq w.heap.size W H N n pb st 3 3):=(by rw[e3] at hI;exact hI);clear hI e3;go_wp2;go_ret;have hI:=qb HI;rw[qb HNN] at hI;exact⟨_,rfl,⟨_,hI.done⟩,hI.bel⟩
def qy7 (w w':World)(n:Int)(sb:Nat):Prop:=(∀ U:Nat->Prop,xu (qu0 w w') U w' sb n [])/\Below w.heap.size w w'
theorem X8 (n:Int)(w:World):Calls Tryz.prog 71 #[.int .i64 n] w fun e w'=>∃ sb,e=.returned (.pointer (some ⟨sb,0,none⟩))/\qy7 w w' n sb:=by
 have hmm:∀ w,(Instr.makeMap 174 none).run Tryz.prog w=.ok (.map (some w.heap.size)) (w.alloc (.map #[] 0)):=fun w=>rfl;have hE:qy7 w ((w.alloc (.map #[] 0)).alloc (.cells #[.map (some w.heap.size),.slice none 0 0,.int .i64 n] 176)) n (w.heap.size+1):=by
  refine⟨fun U=>?_,((Below.refl _ w).alloc (zzl _) _).alloc (by simp) _⟩;refine⟨w.heap.size,.slice none 0 0,[],0,fun _ _=>0,fun _ _=>undef,⟨?_,?_⟩,?_,?_,fun k hk=>by simp[Value.ownBlock] at hk,⟨rfl,.inl ⟨rfl,rfl⟩⟩,fun s hs=>by simp at hs,fun s hs=>by simp at hs,by simp,fun e he=>by simp at he,fun s hs=>by simp at hs,by simp⟩
  ·exact qt _ _ _ (by simp)
  ·exact qx (qt w _ _ rfl) _
  ·exact⟨by simp,by simp⟩
  ·exact⟨zzl _,by simp;omega⟩
 have HE:=qg hE;clear hE
 go_enter Tryz.func71,Tryz.ntmps71
 go_wp2;go_ret;exact⟨_,rfl,qb HE⟩
def kZ (w:World)(px:List Int)(e:Ending)(w':World):Prop:=∃ fv,e=.returned fv/\zh w' w.heap.size fv px/\Below w.heap.size w w'
theorem qn4 {C:Nat->Prop}{w:World}{b0:Nat}{f:Frs}{v:Fl}(h:Fr C w b0 f v)(hfr:f.front<3)(hn:f.W*f.H<=1000) :
 Calls Tryz.prog 55 #[.pointer (some ⟨b0,0,none⟩)] w (kZ w (f.b f.front).px):=by
 have c13:w.cell? ⟨b0,13,none⟩=some (.int .i64 (f.front:Int)):=qe h.blk 13;obtain⟨n,hnn⟩:∃ n,n=f.W*f.H:=⟨_,rfl⟩;have cp:w.cell? ⟨b0,4+f.front*3,none⟩=some (.slice (some ⟨v.pb f.front,0,none⟩) n n):=by
  rw[qe h.blk,hnn];have:f.front=0\/f.front=1\/f.front=2:=by omega
  rcases this with e | e | e<;>rw[e]<;>rfl
 obtain⟨p1,p2,p3⟩:=h.px f.front hfr;have HCL:Hid (∀ q,Calls Tryz.prog 94 #[.slice (some ⟨v.pb f.front,0,none⟩) n n] (w.drewN q) (kZ w (f.b f.front).px)):=by
  intro q;have:=qf5 (w:=w.drewN q) (b:=v.pb f.front) (off:=0) (n:=n) (cap:=n) (xs:=(f.b f.front).px.map (Value.int .i64)) (by rw[List.length_map,p3];omega) (fun j u hj=>by rw[Nat.zero_add];exact (qe p1 j).trans (by rw[List.getElem?_toArray];exact hj)) (QU _) (by omega) (fun _=>qh p1);refine this.mono ?_;rintro e w' ⟨⟨cv,rfl,ho⟩,hb⟩;refine⟨cv,rfl,?_,(below_drewN (Below.refl _ w) q).trans hb⟩;unfold zh;rw[p3,<-hnn];exact ho
 clear p1 p2 p3 hnn hn h;generalize (f.b f.front).px=px at *;generalize v.pb f.front=pb at *;generalize f.front=k at *;have i0:(0:Int)<=(k:Int):=(by omega);have i1:(k:Int)<3:=(by omega);have lb:b0<w.heap.size:=World.block_lt_of_cell? w _ c13
 go_enter Tryz.func55,Tryz.ntmps55
 go_wp2_with fail
 go_region_held3 (fun w'=>w'.cell? ⟨b0,13,none⟩=some (.int .i64 (k:Int))/\w'.cell? ⟨b0,4+k*3,none⟩=some (.slice (some ⟨pb,0,none⟩) n n)) (first | go_keep | exact⟨c13,cp⟩ | exact qb HS)
  ((go_at_call 94
    refine ((qb HCL) 1).mono ?_
    rintro e w' ⟨fv,rfl,hp⟩
    have HS:Hid (w'.cell? ⟨b0,13,none⟩=some (.int .i64 (k:Int))/\w'.cell? ⟨b0,4+k*3,none⟩=some (.slice (some ⟨pb,0,none⟩) n n)):=⟨(hp.2.cell lb).trans c13,(hp.2.cell lb).trans cp⟩
    have HP:=qg hp
    clear hp))
 go_wp2;go_ret;exact⟨_,rfl,qb HP⟩
end Go.Proofs.YtfnockbgkcgpkaaGreat
