import Derived.Test.YtfnockbgkcgpkaaGreatTkah
import Derived.WalkSpells
import Derived.StillTactics
import Derived.OwnWalk
import Derived.Laws.Pointers
import Derived.Deep.AppendLies
import Derived.Lib.SliceRun
import Derived.BigRegion
import Derived.BigQuiet
import Derived.Deep.QuietTactic
import Derived.Deep.DrawnRows
set_option linter.all false
set_option maxRecDepth 100000
set_option maxHeartbeats 16000000
namespace Go.Proofs.YtfnockbgkcgpkaaGreat
open Go.RowKit Go.Proofs.Panes
theorem Kn (A:List Rc)(r s:Rc)(B:List Rc) :
 ((((qK (A++r::B)).set (A.length*4) (.int .i64 s.x)).set (A.length*4+1) (.int .i64 s.y)).set (A.length*4+2) (.int .i64 s.w)).set (A.length*4+3) (.int .i64 s.h)=qK (A++s::B):=by
 rw[zp,zp];have e:∀ (X:List Value)(t:Nat)(u:Value),(qK A++X).set (A.length*4+t) u=qK A++X.set t u:=fun X t u=>by
  rw[List.set_append_right _ _ (by rw[qM];omega),qM,Nat.add_sub_cancel_left]
 have e0:∀ (X:List Value)(u:Value),(qK A++X).set (A.length*4) u=qK A++X.set 0 u:=fun X u=>e X 0 u;rw[e0,e,e,e]
 rfl
theorem qd4 {w:World}{base g n cap:Nat}{A B:List Rc}{r:Rc}(s:Rc)(h:Own w base (.slice (some ⟨g,0,none⟩) n cap) (A++r::B))(hn:n=(A++r::B).length) :
 Own ((((w.setCell ⟨g,A.length*4,none⟩ (.int .i64 s.x)).setCell ⟨g,A.length*4+1,none⟩ (.int .i64 s.y)).setCell ⟨g,A.length*4+2,none⟩ (.int .i64 s.w)).setCell ⟨g,A.length*4+3,none⟩ (.int .i64 s.h)) base (.slice (some ⟨g,0,none⟩) n cap) (A++s::B):=by
 subst hn;have h1:=(World.ownsRow.stored h (A.length*4) (.int .i64 s.x)).1;have h2:=(World.ownsRow.stored h1 (A.length*4+1) (.int .i64 s.y)).1;have h3:=(World.ownsRow.stored h2 (A.length*4+2) (.int .i64 s.w)).1;have h4:=(World.ownsRow.stored h3 (A.length*4+3) (.int .i64 s.h)).1;rw[Kn] at h4;have e:(A++s::B).length=(A++r::B).length:=(by simp);unfold Own;rw[e];exact h4
def r77:Rc:=⟨77,0,0,0⟩
structure jG where
 g:Nat
 l:List Rc
 want:Value
def jG.out (x:jG):Value:=.slice (some ⟨x.g,0,none⟩) (x.l.length+3) (x.l.length+3)
def ye (x:jG):List Value:=[x.out,x.want]
def xd (l:List jG):List Value:=l.flatMap ye
abbrev OwnL (w:World)(base:Nat)(v:Value)(ls:List jG):Prop:=w.ownsRow base 148 2 v ls.length (xd ls)
theorem RAt.but {S:Nat->Prop}{w w':World}(hb:But S w w'){b off:Nat}{r:Rc}(hlt:b<w.heap.size)(hs:¬S b)(h:RAt w b off r):RAt w' b off r:=by
 have e:∀ o,w'.cell? ⟨b,o,none⟩=w.cell? ⟨b,o,none⟩:=fun o=>World.cell?_of_block (hb.block b hlt hs);exact⟨(e _).trans h.1,(e _).trans h.2.1,(e _).trans h.2.2.1,(e _).trans h.2.2.2⟩
def RdU (U:Nat->Prop)(w:World)(v:Value)(l:List Rc):Prop:=
 ∃ ao cap,v=.slice ao l.length cap/\l.length<=cap/\cap<=maxLen/\(l≠[]->∃ b off,ao=some ⟨b,off,none⟩/\U b/\b<w.heap.size/\∀ j r,l[j]?=some r->RAt w b (off+j*4) r)
theorem RdU.but {U S:Nat->Prop}{w w':World}{v:Value}{l:List Rc}(h:RdU U w v l)(hb:But S w w')(hs:∀ k,U k->¬S k):RdU U w' v l:=by
 obtain⟨ao,cap,e,h1,h2,h3⟩:=h;refine⟨ao,cap,e,h1,h2,fun hne=>?_⟩;obtain⟨b,off,e,hu,hlt,hc⟩:=h3 hne;exact⟨b,off,e,hu,zzm hlt hb.size,fun j r hr=>(hc j r hr).but hb hlt (hs b hu)⟩
def rm5:Rc:=⟨-5,0,0,0⟩
def jG.full (x:jG):List Rc:=x.l++[r77,r77,r77]
theorem jG.full_len (x:jG):x.full.length=x.l.length+3:=by simp[jG.full]
theorem Zv:∀ (l:List jG)(j:Nat)(r:jG),l[j]?=some r->(xd l)[j*2]?=some r.out/\(xd l)[j*2+1]?=some r.want
 | [],j,r,h=>by simp at h
 | q::l,0,r,h=>by
  simp at h;subst h;show (ye q++xd l)[0]?=_/\(ye q++xd l)[1]?=_;simp[ye]
 | q::l,j+1,r,h=>by
  have h':l[j]?=some r:=(by simpa using h);have ih:=Zv l j r h';have e:∀ t,(xd (q::l))[(j+1)*2+t]?=(xd l)[j*2+t]?:=by
   intro t;show (ye q++xd l)[_]?=_;rw[List.getElem?_append_right (by simp[ye];omega)]
   congr 1
   simp[ye];omega
  refine⟨by have:=e 0;simp only[Nat.add_zero] at this;rw[this];exact ih.1,by rw[e 1];exact ih.2⟩
structure QA (U:Nat->Prop)(B:Nat)(w:World)(ls:List jG):Prop where
 len:∀ x∈ls,x.l.length<=2000000
 far:∀ x∈ls,¬U x.g
 rd:∀ x∈ls,RdU U w x.want x.l
 own:∀ x∈ls,Own w B x.out x.full
 apart:ls.Pairwise (fun x y=>x.g≠y.g)
theorem KS (U:Nat->Prop)(mb base B:Nat)(lr:Value)(ls:List jG)(w:World)(hm:w.heap[mb]?=some (.cells #[lr,.slice none 0 0,.slice none 0 0] 76))(hL:OwnL w base lr ls)(hN:QA U B w ls)(hls:ls.length<=10) :
 Calls Tryz.prog 28 #[.pointer (some ⟨mb,0,none⟩)] w fun e w'=>e=.returned (.bool true)/\But (fun k=>∃ x∈ls,k=x.g) w w':=by
 obtain⟨ro,rc,rfl⟩:=qr hL;have HM:=qg hm;have HL:=qg hL;have HN:=qg hN;clear hm hL hN
 go_enter Tryz.func28,Tryz.ntmps28
 go_wp2
 go_loopw [3,4] (fun ok i wr=>ok=.bool true/\∃ k:Nat,k<=ls.length/\i=.int .i64 k/\But (fun k=>∃ x∈ls,k=x.g) w wr/\∀ x∈ls.drop k,Own wr B x.out x.full) (fun _ i _=>ls.length-(intOf i).toNat)
 case atStart=>exact⟨rfl,0,Nat.zero_le _,rfl,But.refl _ _,by simpa using (qb HN).own⟩
 case round=>
  rename World=>wq;obtain⟨rfl,k,hk,rfl,hBut,hOwn⟩:=hrel;have hodd:∀ j,(∃ x∈ls,j=x.g)->∃ cs fz,w.heap[j]?=some (.cells cs 46 fz):=fun j ⟨x,hx,e⟩=>by
   subst e
   rcases ((qb HN).own x hx).2 with ⟨e,_⟩ | ⟨g,c,cur,e,_,hg,_⟩
   ·cases e
   ·simp only[jG.out,Value.slice.injEq,Option.some.injEq,Addr.mk.injEq,and_true] at e;obtain⟨rfl,_⟩:=e;exact⟨_,_,hg⟩
  have hMr:wq.heap[mb]?=some (.cells #[.slice ro ls.length rc,.slice none 0 0,.slice none 0 0] 76):=hBut.heap (qb HM) (fun h=>by
   obtain⟨cs,fz,e⟩:=hodd _ h;rw[qb HM] at e;simp at e)
  have hLr:=qi (qb HL) hBut (fun j hj h=>by
   obtain⟨cs,fz,e⟩:=hodd _ h;exact qq (qb HL) e (by decide) hj)
  have m0:wq.cell? ⟨mb,0,none⟩=some (.slice ro ls.length rc):=qe hMr 0;have m1:wq.cell? ⟨mb,1,none⟩=some (.slice none 0 0):=qe hMr 1;have m2:wq.cell? ⟨mb,2,none⟩=some (.slice none 0 0):=qe hMr 2
  by_cases hlt:k<ls.length
  ·obtain⟨x,hx⟩:∃ x,ls[k]?=some x:=⟨ls[k],by simp[hlt]⟩;obtain⟨g,c,e,_,_⟩:=World.ownsRow.form hLr (by omega);simp only[Value.slice.injEq,true_and] at e;obtain⟨rfl,rfl⟩:=e;have x0:wq.cell? ⟨g,k*2,none⟩=some x.out:=(by rw[World.ownsRow.cellAt hLr _ (by omega)];exact (Zv ls k x hx).1);have x1:wq.cell? ⟨g,k*2+1,none⟩=some x.want:=(by rw[World.ownsRow.cellAt hLr _ (by omega)];exact (Zv ls k x hx).2);have hxm:=zzn hx;have hdrop:ls.drop k=x::ls.drop (k+1):=by
    obtain⟨hk',e⟩:=zzg hx;rw[List.drop_eq_getElem_cons hk',e]
   obtain⟨wo,wc,ew,_⟩:=(qb HN).rd x hxm;simp only[jG.out] at x0;rw[ew] at x1;have HB:=qg hBut;have HO:=qg hOwn;have HLr:=qg hLr;have HMr:=qg hMr;have HX:=qg hx;have HE:=qg ew;have HD:=qg hdrop;have Hodd:=qg hodd;clear hBut hOwn hLr hMr hx ew hdrop hodd;have hpos:(0:Int)<=(k:Int):=(by omega);have hlt':(k:Int)<(ls.length:Int):=(by omega);have hfl:=x.full_len;have hnx:=(qb HN).len x hxm;go_wp2
   go_loopw [3,6] (fun ok i wv=>ok=.bool true/\∃ j:Nat,j<=x.l.length+3/\i=.int .i64 j/\Own wv B x.out (List.replicate j rm5++x.full.drop j)/\wv.heap[wq.heap.size]?=some (.cells #[.slice (some ⟨x.g,0,none⟩) (x.l.length+3) (x.l.length+3),.slice wo x.l.length wc] 148)/\But (fun k=>∃ x∈ls,k=x.g) w wv/\∀ y∈ls.drop (k+1),Own wv B y.out y.full) (fun _ i _=>x.l.length+3-(intOf i).toNat)
   case atStart=>
    refine⟨rfl,0,Nat.zero_le _,rfl,?_,qt _ _ _ rfl,(qb HB).alloc _,fun y hy=>World.ownsRow.alloc ((qb HO) y (by rw[qb HD];exact List.mem_cons_of_mem _ hy)) _⟩;simpa using World.ownsRow.alloc ((qb HO) x (by rw[qb HD];simp)) _
   case round=>
    obtain⟨rfl,j,hj,rfl,hO,hbx,hBut,hOth⟩:=hrel;have b0:wr.cell? ⟨wq.heap.size,0,none⟩=some (.slice (some ⟨x.g,0,none⟩) (x.l.length+3) (x.l.length+3)):=qe hbx 0;have b1:wr.cell? ⟨wq.heap.size,1,none⟩=some (.slice wo x.l.length wc):=qe hbx 1
    by_cases hlj:j<x.l.length+3
    ·obtain⟨r,hr⟩:∃ r,x.full[j]?=some r:=⟨x.full[j]'(by omega),by simp⟩;have hdj:x.full.drop j=r::x.full.drop (j+1):=by
      obtain⟨hk',e⟩:=zzg hr;rw[List.drop_eq_getElem_cons hk',e]
     rw[hdj] at hO;have hrl:(List.replicate j rm5).length=j:=(by simp);have htot:x.l.length+3=(List.replicate j rm5++r::x.full.drop (j+1)).length:=(by simp;omega);have hP:=qd4 rm5 hO htot;obtain⟨c1,c2,c3,c4⟩:=qr3 hO (j:=j) (r:=r) (by rw[List.getElem?_append_right (by omega)];simp);have f1:=xM hO htot (j*4);have f2:=xM hO htot (j*4+1);have f3:=xM hO htot (j*4+2);have f4:=xM hO htot (j*4+3);rw[hrl] at hP;have hP':Own ((((wr.setCell ⟨x.g,j*4,none⟩ (.int .i64 rm5.x)).setCell ⟨x.g,j*4+1,none⟩ (.int .i64 rm5.y)).setCell ⟨x.g,j*4+2,none⟩ (.int .i64 rm5.w)).setCell ⟨x.g,j*4+3,none⟩ (.int .i64 rm5.h)) B x.out (List.replicate (j+1) rm5++x.full.drop (j+1)):=by
      rw[List.replicate_succ',List.append_assoc];exact hP
     have HP:=qg hP';have HBx:=qg hbx;have HBt:=qg hBut;have HOt:=qg hOth;have HR:=qg hr;have hgx:x.g≠wq.heap.size:=fun e=>by
      have:=Jr hO hbx (by decide);simp[jG.out,Value.ownBlock] at this;exact this e
     have i0:(0:Int)<=(j:Int):=(by omega);have i1:(j:Int)<((x.l.length+3:Nat):Int):=(by omega);have i1':(j:Int)<(x.l.length:Int)+3:=(by omega);have hRdv:=((qb HN).rd x hxm).but hBut (fun k hu ⟨y,hy,e⟩=>(qb HN).far y hy (e ▸ hu));obtain⟨wo',wc',ew',_,_,hw3⟩:=hRdv;have ew2:=ew'.symm.trans (qb HE);simp only[Value.slice.injEq,true_and] at ew2;obtain⟨rfl,rfl⟩:=ew2;clear hO hbx hBut hOth hP hP' hr hdj htot hrl ew'
     by_cases hjn:j<x.l.length
     ·have hxr:x.l[j]?=some r:=by
       have:=qb HR;unfold jG.full at this;rwa[List.getElem?_append_left hjn] at this
      obtain⟨b,off,rfl,_,hbB,hc⟩:=hw3 (by intro e;rw[e] at hjn;simp at hjn);obtain⟨d1,d2,d3,d4⟩:=hc j r hxr;have i2:(j:Int)<(x.l.length:Int):=(by omega);clear hw3 hc hxr;go_wp2
      go_quiet (fail)
      go_wp2
      go_roundw
      case rel=>
       refine⟨?_,j+1,by omega,by go_num,qb HP,?_,?_,fun y hy=>?_⟩
       ·rfl
       ·exact qu (qu (qu (qu (qb HBx) (Ne.symm hgx) _) (Ne.symm hgx) _) (Ne.symm hgx) _) (Ne.symm hgx) _
       ·have hS:∀ (j:Nat)(u:Value){v:World},But (fun k=>∃ x∈ls,k=x.g) w v->But (fun k=>∃ x∈ls,k=x.g) w (v.setCell ⟨x.g,j,none⟩ u):=fun j u v h=>h.setCell (.inl ⟨x,hxm,rfl⟩) u;exact hS _ _ (hS _ _ (hS _ _ (hS _ _ ((qb HBt).drewN _))))
       ·have hne:y.out.ownBlock≠some x.g:=by
         have hp:=(qb HN).apart;have hs:(ls.drop k).Pairwise (fun x y=>x.g≠y.g):=hp.sublist (List.drop_sublist _ _);rw[qb HD] at hs;have:=(List.pairwise_cons.1 hs).1 y hy;simp[jG.out,Value.ownBlock];exact fun e=>this e.symm
        exact ownsRow_setCell_other (ownsRow_setCell_other (ownsRow_setCell_other (ownsRow_setCell_other ((qb HOt) y hy) hne _) hne _) hne _) hne _
      case measure=>simp[intOf];omega
     ·have hr77:r=r77:=by
       have:=qb HR;unfold jG.full at this;rw[List.getElem?_append_right (by omega)] at this;have h3:=zzn this;simpa using h3
      subst hr77;simp only[r77] at c1 c2 c3 c4;have i2:¬(j:Int)<(x.l.length:Int):=(by omega);have i3:(x.l.length:Int)<=(j:Int):=(by omega);clear hw3;go_wp2
      go_quiet (fail)
      go_wp2
      go_roundw
      case rel=>
       refine⟨?_,j+1,by omega,by go_num,qb HP,?_,?_,fun y hy=>?_⟩
       ·rfl
       ·exact qu (qu (qu (qu (qb HBx) (Ne.symm hgx) _) (Ne.symm hgx) _) (Ne.symm hgx) _) (Ne.symm hgx) _
       ·have hS:∀ (j:Nat)(u:Value){v:World},But (fun k=>∃ x∈ls,k=x.g) w v->But (fun k=>∃ x∈ls,k=x.g) w (v.setCell ⟨x.g,j,none⟩ u):=fun j u v h=>h.setCell (.inl ⟨x,hxm,rfl⟩) u;exact hS _ _ (hS _ _ (hS _ _ (hS _ _ ((qb HBt).drewN _))))
       ·have hne:y.out.ownBlock≠some x.g:=by
         have hp:=(qb HN).apart;have hs:(ls.drop k).Pairwise (fun x y=>x.g≠y.g):=hp.sublist (List.drop_sublist _ _);rw[qb HD] at hs;have:=(List.pairwise_cons.1 hs).1 y hy;simp[jG.out,Value.ownBlock];exact fun e=>this e.symm
        exact ownsRow_setCell_other (ownsRow_setCell_other (ownsRow_setCell_other (ownsRow_setCell_other ((qb HOt) y hy) hne _) hne _) hne _) hne _
      case measure=>simp[intOf];omega
    ·obtain rfl:j=x.l.length+3:=(by omega);have HBt:=qg hBut;have HOt:=qg hOth;have hwq:But (fun _=>False) wq wq:=But.refl _ _;have hsz:(fun (_:Nat)=>True) 0:=trivial;clear hO hbx hBut hOth;go_wp2
     go_roundw
     case rel=>exact⟨rfl,k+1,by omega,by go_num,qb HBt,qb HOt⟩
     case measure=>simp[intOf];omega
  ·obtain rfl:k=ls.length:=(by omega);clear hOwn hLr hMr hodd;go_wp2
   go_loopw [3,7] (fun ok i wv=>ok=.bool true/\i=.int .i64 0/\wv.cell? ⟨mb,1,none⟩=some (.slice none 0 0)/\wv.cell? ⟨mb,2,none⟩=some (.slice none 0 0)/\But (fun k=>∃ x∈ls,k=x.g) w wv) (fun _ _ _=>0)
   case atStart=>exact⟨rfl,rfl,m1,m2,hBut⟩
   case round=>
    clear m0 m1 m2 hBut;obtain⟨rfl,rfl,m1,m2,hBut⟩:=hrel;have HB:=qg hBut;clear hBut;go_wp2
    go_loopw [3,10] (fun ok i wv=>ok=.bool true/\i=.int .i64 0/\wv.cell? ⟨mb,2,none⟩=some (.slice none 0 0)/\But (fun k=>∃ x∈ls,k=x.g) w wv) (fun _ _ _=>0)
    case atStart=>exact⟨rfl,rfl,m2,qb HB⟩
    case round=>
     clear m1 m2 HB;obtain⟨rfl,rfl,m2,hBut⟩:=hrel;have HB:=qg hBut;clear hBut;go_wp2;go_ret;exact⟨rfl,qb HB⟩
theorem QA.none (U:Nat->Prop)(B:Nat)(w:World):QA U B w []:=⟨by simp,by simp,by simp,by simp,by simp⟩
section
attribute [local go_sem ↓] Go.wp_at_zero Go.wp_at_succ
def pk (c n:Int):Int:=(if c<0 then -(c+1) else c)%n
theorem pk_bd (c n:Int)(hn:0<n):0<=pk c n/\pk c n<n:=by
 unfold pk;exact⟨Int.emod_nonneg _ (by omega),Int.emod_lt_of_pos _ hn⟩
theorem Jp (c n:Int)(w:World)(hc:-9223372036854775808<=c/\c<=9223372036854775807)(hn:0<n/\n<=100000000000000) :
 Calls Tryz.prog 14 #[.int .i64 c,.int .i64 n] w fun e w'=>e=.returned (.int .i64 (pk c n))/\w'=w:=by
 by_cases h:c<0
 ·have e:pk c n=-((c+1).tmod n):=(by unfold pk;rw[if_pos h,<-Int.neg_tmod,Int.tmod_eq_emod_of_nonneg (by omega)]);rw[e]
  go_enter Tryz.func14,Tryz.ntmps14
  go_wp2;go_ret;exact⟨rfl,rfl⟩
 ·have e:pk c n=c%n:=(by unfold pk;rw[if_neg h]);rw[e]
  go_enter Tryz.func14,Tryz.ntmps14
  go_wp2;go_ret;exact⟨rfl,rfl⟩
theorem Z4 (n:Int)(w:World):Calls Tryz.prog 17 #[.int .i64 n] w fun e w'=>e=.returned (.int .i64 n)/\w'=w:=by
 go_enter Tryz.func17,Tryz.ntmps17
 go_wp2;go_ret;exact⟨rfl,rfl⟩
theorem qr0 (c:Int)(n:Nat)(hn:0<n):∃ i:Nat,pk c n=i/\i<n:=by
 have h:=pk_bd c n (by omega);exact⟨(pk c n).toNat,by omega,by omega⟩
theorem RdU.below {U:Nat->Prop}{w w':World}{v:Value}{l:List Rc}(h:RdU U w v l)(hb:Below w.heap.size w w'):RdU U w' v l:=h.but (S:=fun _=>False) (.of_below hb) (fun _ _ h=>h)
def v9:List Rc:=[⟨1,0,0,0⟩,⟨2,0,1,0⟩,⟨3,0,1,0⟩,⟨4,0,1,0⟩,⟨5,0,0,0⟩,⟨6,1,0,0⟩,⟨6,0,0,0⟩,⟨9,0,0,0⟩,⟨7,0,0,0⟩,⟨8,0,1,0⟩,⟨8,0,0,0⟩,⟨10,0,1,0⟩,⟨10,0,1,0⟩,⟨10,0,1,0⟩,⟨11,0,0,0⟩]
theorem qi0 {U:Nat->Prop}{w:World}{b:Nat}{l:List Rc}{t:TypeId}{fz:Nat×Nat}(h:w.heap[b]?=some (.cells (qK l).toArray t fz))(hu:U b)(cap:Nat)(hc:l.length<=cap)(hm:cap<=maxLen):RdU U w (.slice (some ⟨b,0,none⟩) l.length cap) l:=by
 refine⟨some ⟨b,0,none⟩,cap,rfl,hc,hm,fun _=>⟨b,0,rfl,hu,qh h,fun j r hr=>?_⟩⟩;have e:=kL l j r hr;have c:∀ q,w.cell? ⟨b,q,none⟩=(qK l)[q]?:=fun q=>by rw[qe h q];simp
 rw[Nat.zero_add];exact⟨(c _).trans e.1,(c _).trans e.2.1,(c _).trans e.2.2.1,(c _).trans e.2.2.2⟩
theorem Yi (w:World):Calls Tryz.prog 9 #[] w fun e w'=>∃ v,e=.returned v/\RdU (fun k=>k=w.heap.size) w' v v9/\w.heap.size<w'.heap.size/\Below w.heap.size w w':=by
 go_enter Tryz.func9,Tryz.ntmps9
 go_wp2;go_ret;refine⟨.slice (some ⟨w.heap.size,0,none⟩) 15 15,rfl,?_,by simp,(Below.refl _ w).alloc (zzl _) _⟩;have h:(w.alloc (.cells (qK v9).toArray 42)).heap[w.heap.size]?=some (.cells (qK v9).toArray 42):=qt _ _ _ rfl;exact qi0 (U:=fun k=>k=w.heap.size) (l:=v9) h rfl 15 (by decide) (by simp[maxLen])
theorem qe7 (w:World)(o:Obj)(k:Nat)(h:k<w.heap.size):(w.alloc o).heap[k]?=w.heap[k]?:=Below.heap_alloc w o k h
theorem RdU.wide {U V:Nat->Prop}{w:World}{v:Value}{l:List Rc}(h:RdU U w v l)(hu:∀ k,U k->V k):RdU V w v l:=by
 obtain⟨ao,cap,e,h1,h2,h3⟩:=h;refine⟨ao,cap,e,h1,h2,fun hne=>?_⟩;obtain⟨b,off,e,hb,r⟩:=h3 hne;exact⟨b,off,e,hu b hb,r⟩
theorem RdU.at {U:Nat->Prop}{w:World}{ao:Option Addr}{n cap:Nat}{l:List Rc}(h:RdU U w (.slice ao n cap) l){j:Nat}{r:Rc}(hr:l[j]?=some r):n=l.length/\∃ b off,ao=some ⟨b,off,none⟩/\RAt w b (off+j*4) r:=by
 obtain⟨ao',cap',e,h1,h2,h3⟩:=h;simp only[Value.slice.injEq] at e;obtain⟨rfl,rfl,rfl⟩:=e;obtain⟨b,off,e,_,_,hc⟩:=h3 (by intro e;subst e;simp at hr);exact⟨rfl,b,off,e,hc j r hr⟩
theorem Kw:∀ r∈v9,1<=r.x/\(-9223372036854775808<=r.y/\r.y<=9223372036854775807)/\(-9223372036854775808<=r.w/\r.w<=9223372036854775807):=by
 intro r hr;simp only[v9,List.mem_cons,List.mem_nil_iff,or_false] at hr
 rcases hr with rfl | rfl | rfl | rfl | rfl | rfl | rfl | rfl | rfl | rfl | rfl | rfl | rfl | rfl | rfl<;>decide
end
end Go.Proofs.YtfnockbgkcgpkaaGreat
