import Derived.Test.YtfnockbgkcgpkaaGreatTkbt
import Derived.BigQuiet
import Derived.Deep.QuietTactic
set_option linter.all false
set_option maxRecDepth 100000
set_option maxHeartbeats 16000000
namespace Go.Proofs.YtfnockbgkcgpkaaGreat
open Go.RowKit Go.Proofs.Panes
theorem Zr (d:Dc){k j:Nat}(h:zG d k=some j):∃ j',zG d (k+1)=some j':=by
 unfold zG
 split
 ·exact⟨j,h⟩
 ·rw[h];simp only
  split<;>exact⟨_,rfl⟩
theorem next3D (d:Dc)(hf:d.front<3):zG d 3=some (bgN d)/\bgN d<3:=by
 have:∃ t,zG d 3=some t:=by
  by_cases e:d.front=0
  ·have h1:zG d 1=none:=by
    unfold zG;rw[if_pos e.symm]
    rfl
   have h2:zG d 2=some 1:=by
    unfold zG;rw[if_neg (show ¬1=d.front by omega),h1]
   exact Zr d h2
  ·have h1:zG d 1=some 0:=by
    unfold zG;rw[if_neg (fun q=>e q.symm)]
    rfl
   obtain⟨j,h2⟩:=Zr d h1;exact Zr d h2
 obtain⟨t,ht⟩:=this;have e:bgN d=t:=(by unfold bgN;rw[ht];rfl);rw[e];exact⟨ht,Yn d 3 t ht⟩
theorem qr1 {l:List Srf}{pvs:List Value}(h:pvs.length=l.length)(b:Int)(W i:Nat):Ks (l.zip pvs) b W i=Qq l b W i:=by
 unfold Ks Qq ZH jP;have:l=(l.zip pvs).map Prod.fst:=by rw[List.map_fst_zip (by omega)]
 conv=>rhs;rw[this]
 rw[List.foldl_map]
theorem bg_arr (d:Dc)(v:Dv)(hf:bgN d<3)(fpv:Value):((((dcs (bgH d ((List.range d.N).map (Qq d.l d.c.behind d.W)) d.N) {v with fpv:=fpv}).setIfInBounds (10+bgN d*3+2) (.int .i64 (d.frames+1))).setIfInBounds 24 v.wv).setIfInBounds 25 (.slice none 0 0)).setIfInBounds 27 (.bool false)=dcs (bgD d) {v with fpv:=fpv,mv:=v.wv,wv:=.slice none 0 0}:=by
 unfold dcs bgD bgH
 rcases (show bgN d=0\/bgN d=1\/bgN d=2 by omega) with q | q | q<;>rw[q]<;>rfl
theorem zd2 (d:Dc)(v:Dv){i:Nat}(hi:i<3):(dcs d v)[10+i*3+1]?=some (.slice (some ⟨v.g i,0,none⟩) d.N d.N)/\(∃ u,(dcs d v)[10+i*3+2]?=some u):=by
 rcases (show i=0\/i=1\/i=2 by omega) with rfl | rfl | rfl
 ·exact⟨rfl,_,rfl⟩
 ·exact⟨rfl,_,rfl⟩
 ·exact⟨rfl,_,rfl⟩
section
variable {D U:Nat->Prop}{qo:Nat->Nat}{w w1 w2 w':World}{rp cb j:Nat}{d d' d'':Dc}{v:Dv}{pvs:List Value}{k:Cli}
theorem qb6 (h:qU D U qo w rp d v pvs)(hUl:∀ x,U x->x<w.heap.size)(hf:d.front<3)(hfm:0<=d.frames/\d.frames<=1000000000000000) :
 Calls Tryz.prog 93 #[.pointer (some ⟨rp,0,none⟩)] w fun e w'=>(∃ u,e=.returned u)/\qX D U qo w rp v.cb (bgD d) w':=by
 obtain⟨hn3,ht3⟩:=next3D d hf;have c19:w.cell? ⟨rp,19,none⟩=some (.int .i64 (d.front:Int)):=qe h.sc.blk 19;have HCB:Hid (∀ j:Nat,j<3->w.cell? ⟨rp,10+j*3+2,none⟩=some (.int .i64 (d.fn j))):=fun j hj=>(h.sc.buf hj).2.2;have lr:=qh h.sc.blk;obtain⟨ewW,ewH,hW16,hH16,eN⟩:=h.sc.wh;obtain⟨t,ht⟩:∃ t,t=bgN d:=⟨_,rfl⟩;have ht3':t<3:=(by rw[ht];exact ht3);clear ht3;obtain⟨N,hN⟩:∃ N,N=d.N:=⟨_,rfl⟩;have hN9:N<=256:=(by rw[hN,eN];exact Nat.mul_le_mul hW16.2 hH16.2);obtain⟨fp,hfp⟩:∃ fp,fp=(List.range d.N).map (Qq d.l d.c.behind d.W):=⟨_,rfl⟩;obtain⟨wo,wc,hwv⟩:=qr h.sc.wt;obtain⟨wn,hwn⟩:∃ wn,wn=d.wait.length:=⟨_,rfl⟩;rw[<-hwn] at hwv;obtain⟨g,hg⟩:∃ g,g=v.g t:=⟨_,rfl⟩;obtain⟨st,hst⟩:∃ st,st=d.st t:=⟨_,rfl⟩;have hstl:st.length=N:=(by rw[hst,hN];exact (h.sc.st t (by omega)).2);have hgb:w.heap[g]?=some (.cells (st.map Value.bool).toArray 4 (0,0)):=by
  have hO:=(h.sc.st t (by omega)).1;rw[<-hg,<-hst] at hO;have hz:=hO.2
  rcases hz with ⟨e,-⟩ | ⟨g',cap,cur,e,-,hk,hc,hmx,hsz,htk⟩
  ·cases e
  ·simp only[Value.slice.injEq,Option.some.injEq,Addr.mk.injEq,and_true] at e;obtain⟨rfl,-,rfl⟩:=e;rw[hk]
   congr 2
   have e2:cur.toList.take (st.length*1)=cur.toList:=List.take_of_length_le (by rw[Array.length_toList,hsz,hstl,hN];omega);rw[e2] at htk;rw[<-htk]
 have lg:=qh hgb;have hgr:¬g=rp:=fun e=>by
  rw[e,h.sc.blk] at hgb;simp at hgb
 have HPIC:Hid (∀ q:Nat,Calls Tryz.prog 74 #[.pointer (some ⟨rp,0,none⟩)] ((((w.drewN q).setCell ⟨rp,26,none⟩ (.int .i64 (d.frames+1))).setCell ⟨rp,20,none⟩ (.bool true)).setCell ⟨rp,21,none⟩ (.int .i64 (t:Int))) fun e w2=>e=.returned (.slice (some ⟨w.heap.size,0,none⟩) N N)/\w2.heap[rp]?=some (.cells (dcs {d with frames:=d.frames+1,pnt:=true,tgt:=t} v) 121)/\w2.heap[g]?=some (.cells (st.map Value.bool).toArray 4 (0,0))/\w2.heap[w.heap.size]?=some (.cells (fp.map (Value.int .i64)).toArray 3 (0,0))/\But (fun x=>x=rp\/x=g) w w2):=fun q=>by
  have hbq:Below w.heap.size w (w.drewN q):=below_drewN (Below.refl _ _) q;have hMq:=h.below hbq;obtain⟨W1,hW1⟩:∃ W1:World,W1=(((w.drewN q).setCell ⟨rp,26,none⟩ (.int .i64 (d.frames+1))).setCell ⟨rp,20,none⟩ (.bool true)).setCell ⟨rp,21,none⟩ (.int .i64 (t:Int)):=⟨_,rfl⟩;have hb1:But (fun x=>x=rp) w W1:=by
   rw[hW1];exact (((But.of_below (S:=fun x=>x=rp) hbq).setCell (p:=⟨rp,26,none⟩) (.inl rfl) _).setCell (p:=⟨rp,20,none⟩) (.inl rfl) _).setCell (p:=⟨rp,21,none⟩) (.inl rfl) _
  have hz1:W1.heap.size=w.heap.size:=(by rw[hW1];simp);have hk1:W1.heap[rp]?=some (.cells (dcs {d with frames:=d.frames+1,pnt:=true,tgt:=t} v) 121):=by
   rw[hW1];exact qp (i:=21) (qp (i:=20) (qp (i:=26) hMq.sc.blk _) _) _
  have hsf1:xv U W1 0 v.sv (d.l.zip pvs):=h.sc.sf.but hb1 (fun x hx e=>h.sc.apart x hx (.inl e)) (fun x hx e=>h.sc.far.1 (e ▸ hx));rw[<-hW1];have hp:=ZG hsf1 d.W d.c.h.toNat d.c.behind (by rw[qe hk1 0,<-ewW];rfl) (by rw[qe hk1 1,<-ewH];rfl) (qe hk1 7) (qe hk1 9) (by rw[yn h.sc];have:=h.sc.len;omega) hW16 hH16;rw[<-eN,<-hN,hz1] at hp;refine hp.mono ?_;rintro e w2 ⟨rfl,hPI⟩;have hbel:=hPI.bel;have hblk:=hPI.blk;rw[hz1] at hblk hbel;have hlr1:rp<W1.heap.size:=(by rw[hz1];exact lr);refine⟨rfl,(hbel.block rp lr).trans hk1,(hbel.block g lg).trans (hb1.heap hgb hgr),?_,((hb1.wide fun x _ e=>.inl e).trans (.of_below (by rw[hz1];exact hbel)))⟩;rw[hblk,hfp,hN]
  congr 4
  refine List.map_congr_left fun i _=>?_;exact qr1 h.sc.pl _ _ _
 obtain⟨fr,hfr⟩:∃ fr,fr=d.frames+1:=⟨_,rfl⟩;have efr:IntKind.i64.wrap (d.frames+1)=fr:=(by rw[hfr,IntKind.wrap_i64];omega);obtain⟨vB,hvB⟩:∃ vB:Dv,vB={v with fpv:=.slice (some ⟨w.heap.size,0,none⟩) N N}:=⟨_,rfl⟩;have HEND:Hid (∀ wr:World,wr.heap[rp]?=some (.cells (dcs (bgH d fp N) vB) 121)->wr.heap[g]?=some (.cells ((bgL st N).map Value.bool).toArray 4 (0,0))->wr.heap[w.heap.size]?=some (.cells (fp.map (Value.int .i64)).toArray 3 (0,0))->But (fun x=>x=rp\/x=g) w wr->qX D U qo w rp v.cb (bgD d) ((((wr.setCell ⟨rp,10+t*3+2,none⟩ (.int .i64 fr)).setCell ⟨rp,24,none⟩ (.slice wo wn wc)).setCell ⟨rp,25,none⟩ (.slice none 0 0)).setCell ⟨rp,27,none⟩ (.bool false)).drew):=fun wr h1 h2 h3 h4=>by
  have k1:=qp (i:=27) (qp (i:=25) (qp (i:=24) (qp (i:=10+t*3+2) h1 (.int .i64 fr)) (.slice wo wn wc)) (.slice none 0 0)) (.bool false);have hbr:But (fun x=>x=rp) wr ((((wr.setCell ⟨rp,10+t*3+2,none⟩ (.int .i64 fr)).setCell ⟨rp,24,none⟩ (.slice wo wn wc)).setCell ⟨rp,25,none⟩ (.slice none 0 0)).setCell ⟨rp,27,none⟩ (.bool false)):=((((But.refl (fun x=>x=rp) wr).setCell (p:=⟨rp,10+t*3+2,none⟩) (.inl rfl) _).setCell (p:=⟨rp,24,none⟩) (.inl rfl) _).setCell (p:=⟨rp,25,none⟩) (.inl rfl) _).setCell (p:=⟨rp,27,none⟩) (.inl rfl) _;have hwr:¬w.heap.size=rp:=(by omega);refine qX.below (w1:=_) ?_ ((Below.refl _ _).drew);refine h.begun (by rw[<-ht];exact ht3') (fb:=w.heap.size) (zzl _) hUl ?_ ?_ ?_ ?_
  ·rw[<-ht,<-hg];exact h4.trans (hbr.wide fun x _ e=>.inl e)
  ·rw[k1]
   congr 2
   rw[hvB,<-hwv,hfr,hfp,hN,ht];exact bg_arr d v (by rw[<-ht];exact ht3') _
  ·rw[<-ht,<-hg];have:=hbr.heap h2 hgr;rw[this]
   congr 4
   unfold bgL;rw[List.drop_of_length_le (by omega),List.append_nil,hN]
  ·have:=hbr.heap h3 hwr;rw[this,hfp]
 rw[<-hfr] at HPIC;have HBK:=qg h.sc.blk;have HWV:Hid (v.wv=.slice wo wn wc):=hwv;have HH1:=qg hn3;have HT:=qg ht;have HG:=qg (And.intro hg (And.intro hst (And.intro hvB hN)));have HSL:=qg hstl;have HGR:=qg hgr;have HFR:=qg hfr;have HHB:=qg hgb;have ht3:=ht3';clear h hUl hfm ewW ewH hW16 hH16 eN hN hfp hwv hwn hg hst hgb ht hfr hvB hn3 ht3'
 go_enter Tryz.func93,Tryz.ntmps93
 go_wp2
 go_loopw [2,3] (fun a b wr=>∃ k:Nat,k<=3/\b=.int .i64 (k:Int)/\a=.int .i64 (nxt (zG d k))/\∃ q,wr=w.drewN q) (fun a b _=>3-(intOf b).toNat)
 case atStart=>exact⟨0,by omega,rfl,rfl,0,rfl⟩
 case round=>
  obtain⟨k,hk,rfl,rfl,q,rfl⟩:=hrel
  by_cases hlt:k<3
  ·have j0:(0:Int)<=(k:Int):=(by omega);have j1:(k:Int)<3:=(by omega);have ck:=(qb HCB) k hlt;clear HPIC HEND
   by_cases hkf:k=d.front
   ·have en:zG d (k+1)=zG d k:=(by rw[zG,if_pos hkf]);have hkb:((k:Int) != (d.front:Int))=false:=(by rw[hkf];simp);have HEN:=qg en;obtain⟨z,hz⟩:∃ z,z=nxt (zG d k):=⟨_,rfl⟩;rw[<-hz];have HZ:=qg hz;clear en hz;go_wp2
    go_quiet (fail)
    go_wp2
    go_roundw
    case rel=>exact⟨k+1,by omega,by go_num,by rw[qb HEN,qb HZ],q+nq,by rfl⟩
    case measure=>simp[intOf];omega
   ·have hk1:((k:Int) != (d.front:Int))=true:=by
     have:¬(k:Int)=(d.front:Int):=(by omega);simp[this]
    have hk4:¬(k:Int)=(d.front:Int):=by omega
    cases hq:zG d k with
    | none=>
     have en:zG d (k+1)=some k:=(by rw[zG,if_neg hkf,hq]);have HEN:=qg en;clear en;simp only[nxt];go_wp2
     go_quiet (fail)
     go_wp2
     go_roundw
     case rel=>exact⟨k+1,by omega,by go_num,by rw[qb HEN]<;>rfl,q+nq,by rfl⟩
     case measure=>simp[intOf];omega
    | some j=>
     have hj:=Yn d k j hq;have cj:=(qb HCB) j (by omega);have i0:(0:Int)<=(j:Int):=(by omega);have i1:(j:Int)<3:=(by omega);have i2:¬(j:Int)<0:=(by omega);have i3:decide ((j:Int)<0)=false:=decide_eq_false i2
     by_cases hb:d.fn k<d.fn j
     ·have en:zG d (k+1)=some k:=(by rw[zG,if_neg hkf,hq];simp[hb]);have HEN:=qg en;clear en;simp only[nxt];go_wp2
      go_quiet (fail)
      go_wp2
      go_roundw
      case rel=>exact⟨k+1,by omega,by go_num,by rw[qb HEN]<;>rfl,q+nq,by rfl⟩
      case measure=>simp[intOf];omega
     ·have en:zG d (k+1)=some j:=(by rw[zG,if_neg hkf,hq];simp[hb]);have HEN:=qg en;clear en;simp only[nxt];go_wp2
      go_quiet (fail)
      go_wp2
      go_roundw
      case rel=>exact⟨k+1,by omega,by go_num,by rw[qb HEN]<;>rfl,q+nq,by rfl⟩
      case measure=>simp[intOf];omega
  ·have ek:k=3:=(by omega);subst ek;rw[qb HH1];simp only[nxt];rw[<-qb HT];have c26:(w.drewN q).cell? ⟨rp,26,none⟩=some (.int .i64 d.frames):=qe (qb HBK) 26;have c20:(w.drewN q).cell? ⟨rp,20,none⟩=some (.bool d.pnt):=qe (qb HBK) 20;have c21:(w.drewN q).cell? ⟨rp,21,none⟩=some (.int .i64 (d.tgt:Int)):=qe (qb HBK) 21;have z26:(w.drewN q).frozen? ⟨rp,26,none⟩=false:=qj (qb HBK) 26;have z20:(w.drewN q).frozen? ⟨rp,20,none⟩=false:=qj (qb HBK) 20;have z21:(w.drewN q).frozen? ⟨rp,21,none⟩=false:=qj (qb HBK) 21;have HP:=qg ((qb HPIC) q);clear HPIC HCB c19
   go_wp2_with (go_at_call 74;refine (qb HP).mono ?_;rintro e w2 ⟨rfl,b1,b2,b3,b4⟩
                have d23:∃ u,w2.cell? ⟨rp,23,none⟩=some u:=⟨_,qe b1 23⟩
                obtain⟨u23,d23⟩:=d23
                have d22:w2.cell? ⟨rp,22,none⟩=some (.int .i64 d.left):=qe b1 22
                have y23:w2.frozen? ⟨rp,23,none⟩=false:=qj b1 23
                have y22:w2.frozen? ⟨rp,22,none⟩=false:=qj b1 22
                have l2:rp<w2.heap.size:=qh b1
                have HB:=qg (And.intro b1 (And.intro b2 (And.intro b3 b4)))
                clear b1 b2 b3 b4 HP)
   have HS:Hid (((w2.setCell ⟨rp,23,none⟩ (.slice (some ⟨w.heap.size,0,none⟩) N N)).setCell ⟨rp,22,none⟩ (.int .i64 0)).heap[rp]?=some (.cells (dcs (bgH d fp 0) vB) 121)/\((w2.setCell ⟨rp,23,none⟩ (.slice (some ⟨w.heap.size,0,none⟩) N N)).setCell ⟨rp,22,none⟩ (.int .i64 0)).heap[g]?=some (.cells ((bgL st 0).map Value.bool).toArray 4 (0,0))/\((w2.setCell ⟨rp,23,none⟩ (.slice (some ⟨w.heap.size,0,none⟩) N N)).setCell ⟨rp,22,none⟩ (.int .i64 0)).heap[w.heap.size]?=some (.cells (fp.map (Value.int .i64)).toArray 3 (0,0))/\But (fun x=>x=rp\/x=g) w ((w2.setCell ⟨rp,23,none⟩ (.slice (some ⟨w.heap.size,0,none⟩) N N)).setCell ⟨rp,22,none⟩ (.int .i64 0))):=by
    obtain⟨b1,b2,b3,b4⟩:=qb HB;obtain⟨hg,hst,hvB,hN⟩:=qb HG;have hbr:But (fun x=>x=rp) w2 ((w2.setCell ⟨rp,23,none⟩ (.slice (some ⟨w.heap.size,0,none⟩) N N)).setCell ⟨rp,22,none⟩ (.int .i64 0)):=((But.refl (fun x=>x=rp) w2).setCell (p:=⟨rp,23,none⟩) (.inl rfl) _).setCell (p:=⟨rp,22,none⟩) (.inl rfl) _;refine⟨?_,?_,hbr.heap b3 (by omega),b4.trans (hbr.wide fun x _ e=>.inl e)⟩
    ·have:=qp (i:=22) (qp (i:=23) b1 (.slice (some ⟨w.heap.size,0,none⟩) N N)) (.int .i64 0);rw[this]
     congr 2
     rw[hvB,qb HT,qb HFR]
     rfl
    ·have:=hbr.heap b2 (qb HGR);rw[this];unfold bgL;rw[List.replicate_zero,List.drop_zero,List.nil_append]
   generalize (w2.setCell ⟨rp,23,none⟩ (.slice (some ⟨w.heap.size,0,none⟩) N N)).setCell ⟨rp,22,none⟩ (.int .i64 0)=W3 at HS ⊢;clear c26 c20 c21 z26 z20 z21 d23 d22 y23 y22 l2 HB HBK HHB efr
   go_loopw [4] (fun x wr=>∃ i:Nat,i<=N/\x=.int .i64 i/\wr.heap[rp]?=some (.cells (dcs (bgH d fp i) vB) 121)/\wr.heap[g]?=some (.cells ((bgL st i).map Value.bool).toArray 4 (0,0))/\wr.heap[w.heap.size]?=some (.cells (fp.map (Value.int .i64)).toArray 3 (0,0))/\But (fun x=>x=rp\/x=g) w wr) (fun x _=>N-(intOf x).toNat)
   case atStart=>exact⟨0,Nat.zero_le _,rfl,qb HS⟩
   case round=>
    clear HS;obtain⟨i,hi,rfl,b1,b2,b3,b4⟩:=hrel;obtain⟨hg,hst,hvB,hN⟩:=qb HG;have hgr:=qb HGR;have hgr2:¬rp=g:=fun e=>hgr e.symm;have c23:wr.cell? ⟨rp,23,none⟩=some (.slice (some ⟨w.heap.size,0,none⟩) N N):=(by rw[qe b1 23,hvB];rfl);obtain⟨cg0,⟨u2,cg2⟩⟩:=zd2 (bgH d fp i) vB ht3;have cg:wr.cell? ⟨rp,10+t*3+1,none⟩=some (.slice (some ⟨g,0,none⟩) N N):=by
     rw[qe b1,cg0,hg,hN,hvB];rfl
    have c22:wr.cell? ⟨rp,22,none⟩=some (.int .i64 (stN (d.st (bgN d)) i:Int)):=qe b1 22;rw[<-qb HT,<-hst] at c22;have lrw:rp<wr.heap.size:=qh b1;have lgw:g<wr.heap.size:=qh b2;have t0:(0:Int)<=(t:Int):=(by omega);have t1:(t:Int)<3:=by omega
    by_cases hil:i<N
    ·obtain⟨b,hbit⟩:∃ b,st[i]?=some b:=⟨st[i]'(by have:=qb HSL;omega),by simp⟩;have cb:wr.cell? ⟨g,i,none⟩=some (.bool b):=by
      rw[qe b2];simp[bgL_at hbit]
     have zg:wr.frozen? ⟨g,i,none⟩=false:=qj b2 i;have z22:wr.frozen? ⟨rp,22,none⟩=false:=qj b1 22;have i0:(0:Int)<=(i:Int):=(by omega);have i1:(i:Int)<(N:Int):=(by omega);have hgst:=qp (i:=i) b2 (.bool false);have hnext:((bgL st i).map Value.bool).toArray.setIfInBounds i (.bool false)=((bgL st (i+1)).map Value.bool).toArray:=by
      rw[<-qx9 (by have:=qb HSL;omega)];simp
     obtain⟨sn,hsn⟩:∃ sn,sn=stN st i:=⟨_,rfl⟩;rw[<-hsn] at c22;have hsn9:sn<=256:=by
      rw[hsn,<-JL st 1 (fun _ _=>0)];have:=kV st 1 (fun _ _=>0) i;omega
     cases b with
     | true=>
      have hs1:stN st (i+1)=sn+1:=by
       show stN st i+_=_;rw[if_pos hbit,hsn]
      have HR:Hid (∃ j:Nat,j=i+1/\((wr.setCell ⟨rp,22,none⟩ (.int .i64 ((sn:Int)+1))).setCell ⟨g,i,none⟩ (.bool false)).heap[rp]?=some (.cells (dcs (bgH d fp j) vB) 121)/\((wr.setCell ⟨rp,22,none⟩ (.int .i64 ((sn:Int)+1))).setCell ⟨g,i,none⟩ (.bool false)).heap[g]?=some (.cells ((bgL st j).map Value.bool).toArray 4 (0,0))/\((wr.setCell ⟨rp,22,none⟩ (.int .i64 ((sn:Int)+1))).setCell ⟨g,i,none⟩ (.bool false)).heap[w.heap.size]?=some (.cells (fp.map (Value.int .i64)).toArray 3 (0,0))/\But (fun x=>x=rp\/x=g) w ((wr.setCell ⟨rp,22,none⟩ (.int .i64 ((sn:Int)+1))).setCell ⟨g,i,none⟩ (.bool false))):=by
       have hbb:But (fun x=>x=rp\/x=g) wr ((wr.setCell ⟨rp,22,none⟩ (.int .i64 ((sn:Int)+1))).setCell ⟨g,i,none⟩ (.bool false)):=((But.refl (fun x=>x=rp\/x=g) wr).setCell (p:=⟨rp,22,none⟩) (.inl (.inl rfl)) _).setCell (p:=⟨g,i,none⟩) (.inl (.inr rfl)) _;have hrb:But (fun x=>x=rp) wr (wr.setCell ⟨rp,22,none⟩ (.int .i64 ((sn:Int)+1))):=(But.refl (fun x=>x=rp) wr).setCell (p:=⟨rp,22,none⟩) (.inl rfl) _;have hgb2:But (fun x=>x=g) (wr.setCell ⟨rp,22,none⟩ (.int .i64 ((sn:Int)+1))) ((wr.setCell ⟨rp,22,none⟩ (.int .i64 ((sn:Int)+1))).setCell ⟨g,i,none⟩ (.bool false)):=(But.refl (fun x=>x=g) _).setCell (p:=⟨g,i,none⟩) (.inl rfl) _;refine⟨i+1,rfl,?_,?_,hbb.heap b3 (by omega),b4.trans hbb⟩
       ·have k1:=qp (i:=22) b1 (.int .i64 ((sn:Int)+1));rw[hgb2.heap k1 hgr2]
        congr 2
        have e1:(stN (d.st (bgN d)) (i+1):Int)=(sn:Int)+1:=(by rw[<-qb HT,<-hst,hs1];rfl);unfold bgH;rw[e1]
        rfl
       ·have k1:=qp (i:=i) (hrb.heap b2 hgr) (.bool false);rw[k1,hnext]
      clear b1 b2 b3 b4 hgst hnext hs1 hsn hbit cg0 cg2 hg hst hvB hN HEND;have es:IntKind.i64.wrap ((sn:Int)+1)=(sn:Int)+1:=(by rw[IntKind.wrap_i64];omega);go_wp2
      go_roundw
      case rel=>
       obtain⟨j,rfl,r1,r2,r3,r4⟩:=qb HR;exact⟨i+1,by omega,by go_num,r1,r2,r3,r4⟩
      case measure=>simp[intOf];omega
     | false=>
      have hs1:stN st (i+1)=sn:=by
       show stN st i+_=_;rw[if_neg (by rw[hbit];simp),hsn]
       rfl
      have HR:Hid (∃ j:Nat,j=i+1/\(wr.setCell ⟨g,i,none⟩ (.bool false)).heap[rp]?=some (.cells (dcs (bgH d fp j) vB) 121)/\(wr.setCell ⟨g,i,none⟩ (.bool false)).heap[g]?=some (.cells ((bgL st j).map Value.bool).toArray 4 (0,0))/\(wr.setCell ⟨g,i,none⟩ (.bool false)).heap[w.heap.size]?=some (.cells (fp.map (Value.int .i64)).toArray 3 (0,0))/\But (fun x=>x=rp\/x=g) w (wr.setCell ⟨g,i,none⟩ (.bool false))):=by
       have hgb2:But (fun x=>x=g) wr (wr.setCell ⟨g,i,none⟩ (.bool false)):=(But.refl (fun x=>x=g) _).setCell (p:=⟨g,i,none⟩) (.inl rfl) _;refine⟨i+1,rfl,?_,by rw[hgst,hnext],hgb2.heap b3 (by omega),b4.trans (hgb2.wide fun x _ e=>.inr e)⟩;rw[hgb2.heap b1 hgr2]
       congr 2
       have e1:(stN (d.st (bgN d)) (i+1):Int)=(stN (d.st (bgN d)) i:Int):=(by rw[<-qb HT,<-hst,hs1,hsn]);unfold bgH;rw[e1]
      clear b1 b2 b3 b4 hgst hnext hs1 hsn hbit cg0 cg2 hg hst hvB hN HEND;go_wp2
      go_roundw
      case rel=>
       obtain⟨j,rfl,r1,r2,r3,r4⟩:=qb HR;exact⟨i+1,by omega,by go_num,r1,r2,r3,r4⟩
      case measure=>simp[intOf];omega
    ·have ei:i=N:=(by omega);subst ei;have HEE:=qg ((qb HEND) wr b1 b2 b3 b4);have e26:wr.cell? ⟨rp,26,none⟩=some (.int .i64 fr):=(by rw[qe b1 26,qb HFR];rfl);have e25:wr.cell? ⟨rp,25,none⟩=some (.slice wo wn wc):=by
      rw[qe b1 25,hvB];show some v.wv=_;rw[qb HWV]
     obtain⟨u24,e24⟩:∃ u,wr.cell? ⟨rp,24,none⟩=some u:=⟨_,qe b1 24⟩;obtain⟨u27,e27⟩:∃ u,wr.cell? ⟨rp,27,none⟩=some u:=⟨_,qe b1 27⟩;have ef:wr.cell? ⟨rp,10+t*3+2,none⟩=some u2:=(by rw[qe b1];exact cg2);have zz:∀ x,wr.frozen? ⟨rp,x,none⟩=false:=fun x=>qj b1 x;have z1:=zz (10+t*3+2);have z24:=zz 24;have z25:=zz 25;have z27:=zz 27;have i1:¬(i:Int)<(i:Int):=(by omega);have q1:¬26=10+t*3+2:=(by omega);have q2:¬25=10+t*3+2:=(by omega);have q3:¬24=10+t*3+2:=(by omega);have q4:¬27=10+t*3+2:=(by omega);clear b1 b2 b3 b4 cg0 cg2 hg hst hvB hN HEND zz;go_wp2;go_region;go_wp2;go_end0;exact⟨⟨_,rfl⟩,qb HEE⟩
end
end Go.Proofs.YtfnockbgkcgpkaaGreat
