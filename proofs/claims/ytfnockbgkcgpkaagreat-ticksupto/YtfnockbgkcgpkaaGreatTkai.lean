import Derived.Test.YtfnockbgkcgpkaaGreatTkac
import Derived.Test.YtfnockbgkcgpkaaGreatTkah
import Derived.WalkSpells
import Derived.OwnWalk
import Derived.Deep.CutBlock
import Derived.Deep.CutRange
set_option linter.all false
set_option maxRecDepth 100000
set_option maxHeartbeats 16000000
namespace Go.Proofs.YtfnockbgkcgpkaaGreat
open Go.RowKit Go.Proofs.Panes
def J7 (f:FuncId)(w:World)(u:Value)(n:Int):Prop:=(∃ o m c,u=.slice o m c)/\∀ w',Below w.heap.size w w'->Calls Tryz.prog f #[u,.int .i64 n] w' fun e w''=>e=.returned (.bool true)/\Below w'.heap.size w' w''
structure YZ (f:FuncId)(w:World)(e:Ent):Prop where
 l:J7 f w e.l e.n
 a:J7 f w e.a e.n
 b:J7 f w e.b e.n
 c:J7 f w e.c e.n
theorem ym.areI {base:Nat}{w:World}{e:Ent}(h:ym 3 1 mkI base w e):YZ 30 w e:=by
 have key:∀ {v:Value},zM 3 1 w base v (mkI e.n)->J7 30 w v e.n:=fun hm=>⟨hm.slice,fun w' hb=>YT _ _ w' (hm.but (S:=fun _=>False) (.of_below hb) (fun _ _ h=>h)) h.num⟩;exact⟨key h.l,key h.a,key h.b,key h.c⟩
theorem ym.areF {base:Nat}{w:World}{e:Ent}(h:ym 153 2 mkF base w e):YZ 31 w e:=by
 have key:∀ {v:Value},zM 153 2 w base v (mkF e.n)->J7 31 w v e.n:=fun hm=>⟨hm.slice,fun w' hb=>VJ _ _ w' (hm.but (S:=fun _=>False) (.of_below hb) (fun _ _ h=>h)) h.num⟩;exact⟨key h.l,key h.a,key h.b,key h.c⟩
theorem xx.areR {base:Nat}{w:World}{e:Ent}(h:xx base w e):YZ 29 w e:=by
 have key:∀ {v:Value},jN w base v e.n->J7 29 w v e.n:=fun hm=>by
  obtain⟨l,h1,h2,h3⟩:=hm;refine⟨?_,fun w' hb=>?_⟩
  ·obtain⟨ro,rc,e⟩:=qr h1;exact⟨_,_,_,e⟩
  ·have h1':Own w' base _ l:=h1.but (S:=fun _=>False) (.of_below hb) (fun _ _ h=>h);have:=h.num;exact VI _ l e.n w' h1'.rd (by omega) (by omega) h3
 exact⟨key h.l,key h.a,key h.b,key h.c⟩
structure EntX (f:FuncId)(w wq:World)(r:Option Addr)(k:Nat)(l a b c:Value)(n:Int)(g:Nat):Prop where
 at':r=some ⟨g,0,none⟩
 c0:wq.cell? ⟨g,k*5,none⟩=some l
 c1:wq.cell? ⟨g,k*5+1,none⟩=some a
 c2:wq.cell? ⟨g,k*5+2,none⟩=some b
 c3:wq.cell? ⟨g,k*5+3,none⟩=some c
 c4:wq.cell? ⟨g,k*5+4,none⟩=some (.int .i64 n)
 ok:YZ f w ⟨l,a,b,c,n⟩
theorem qu5 {f:FuncId}{bt:TypeId}{base:Nat}{w wq:World}{r:Option Addr}{rc:Nat}{es:List Ent}(hK:w.ownsRow base bt 5 (.slice r es.length rc) es.length (zQ es))(hE:∀ e∈es,YZ f w e)(hb:Below w.heap.size w wq){k:Nat}(hk:k<es.length):∃ o1 s1 c1 o2 s2 c2 o3 s3 c3 o4 s4 c4 n g,EntX f w wq r k (.slice o1 s1 c1) (.slice o2 s2 c2) (.slice o3 s3 c3) (.slice o4 s4 c4) n g:=by
 obtain⟨x,hx⟩:∃ x,es[k]?=some x:=⟨es[k],by simp[hk]⟩;obtain⟨g,e,lg,hc⟩:=xA hK (by omega);obtain⟨n1,n2,n3,n4,n5⟩:=XP es k x hx;have hxo:=hE x (zzn hx);obtain⟨l,a,b,c,n⟩:=x;obtain⟨o1,s1,c1,e1⟩:=hxo.l.1;obtain⟨o2,s2,c2,e2⟩:=hxo.a.1;obtain⟨o3,s3,c3,e3⟩:=hxo.b.1;obtain⟨o4,s4,c4,e4⟩:=hxo.c.1;simp only at e1 e2 e3 e4;subst e1;subst e2;subst e3;subst e4;exact⟨o1,s1,c1,o2,s2,c2,o3,s3,c3,o4,s4,c4,n,g,e,(hb.cell lg).trans (hc _ _ n1),(hb.cell lg).trans (hc _ _ n2),(hb.cell lg).trans (hc _ _ n3),(hb.cell lg).trans (hc _ _ n4),(hb.cell lg).trans (hc _ _ n5),hxo⟩
theorem ze1 (wb base:Nat)(kr ki kf:Value)(er ei ef:List Ent)(w:World)(h4:w.cell? ⟨wb,4,none⟩=some kr)(h5:w.cell? ⟨wb,5,none⟩=some ki)(h6:w.cell? ⟨wb,6,none⟩=some kf)(hKR:vI 82 w base kr er)(hKI:vI 85 w base ki ei)(hKF:vI 89 w base kf ef)(hER:∀ e∈er,YZ 29 w e)(hEI:∀ e∈ei,YZ 30 w e)(hEF:∀ e∈ef,YZ 31 w e)(hn:er.length<=4000000/\ei.length<=4000000/\ef.length<=4000000) :
 Calls Tryz.prog 11 #[.pointer (some ⟨wb,4,none⟩)] w fun e w'=>e=.returned (.bool true)/\Below w.heap.size w w':=by
 obtain⟨rR,rcR,rfl⟩:=qr hKR;obtain⟨rI,rcI,rfl⟩:=qr hKI;obtain⟨rF,rcF,rfl⟩:=qr hKF;have hwb:wb<w.heap.size:=World.block_lt_of_cell? w _ h4;have HKR:=qg hKR;have HKI:=qg hKI;have HKF:=qg hKF;have HER:=qg hER;have HEI:=qg hEI;have HEF:=qg hEF;have H4:=qg h4;have H5:=qg h5;have H6:=qg h6;obtain⟨l1,l2,l3⟩:=hn;clear hKR hKI hKF hER hEI hEF h4 h5 h6
 go_enter Tryz.func11,Tryz.ntmps11
 go_wp2
 go_loopw [3,4] (fun ok i wr=>ok=.bool true/\∃ k:Nat,k<=er.length/\i=.int .i64 k/\Below w.heap.size w wr) (fun _ i _=>er.length-(intOf i).toNat)
 case atStart=>exact⟨rfl,0,Nat.zero_le _,rfl,Below.refl _ _⟩
 case round=>
  rename World=>wq;obtain⟨rfl,k,hk,rfl,hbel⟩:=hrel;have m4:wq.cell? ⟨wb,4,none⟩=some (.slice rR er.length rcR):=(hbel.cell hwb).trans (qb H4);have m5:wq.cell? ⟨wb,5,none⟩=some (.slice rI ei.length rcI):=(hbel.cell hwb).trans (qb H5);have m6:wq.cell? ⟨wb,6,none⟩=some (.slice rF ef.length rcF):=(hbel.cell hwb).trans (qb H6);have hsz:=hbel.size;have HZ:=qg hsz
  by_cases hlt:k<er.length
  ·obtain⟨o1,s1,c1,o2,s2,c2,o3,s3,c3,o4,s4,c4,n,g,eg,n1,n2,n3,n4,n5,hX⟩:=qu5 (qb HKR) (qb HER) hbel hlt;subst eg;have HX:=qg hX;have HB:=qg hbel;have i0:(0:Int)<=(k:Int):=(by omega);have i1:(k:Int)<(er.length:Int):=(by omega);clear hX hbel hsz;have T0:Hid (Below wq.heap.size wq (wq.alloc (.cells #[.slice o1 s1 c1,.slice o2 s2 c2,.slice o3 s3 c3,.slice o4 s4 c4,.int .i64 n] 82))):=(Below.refl _ wq).alloc (zzl _) _;have N0:Hid ((wq.alloc (.cells #[.slice o1 s1 c1,.slice o2 s2 c2,.slice o3 s3 c3,.slice o4 s4 c4,.int .i64 n] 82)).heap[wq.heap.size]?=some (.cells #[.slice o1 s1 c1,.slice o2 s2 c2,.slice o3 s3 c3,.slice o4 s4 c4,.int .i64 n] 82)):=qt _ _ _ rfl
   go_wp2_with fail
   refine ((qb HX).l.2 _ ((qb HB).trans ((qb T0).mono (qb HZ)))).mono ?_;rintro e w1 ⟨rfl,hb1⟩;have T1:=qg ((qb T0).trans (hb1.mono (qb T0).size));have hbx:w1.heap[wq.heap.size]?=some (.cells #[.slice o1 s1 c1,.slice o2 s2 c2,.slice o3 s3 c3,.slice o4 s4 c4,.int .i64 n] 82):=(hb1.block _ (qh (qb N0))).trans (qb N0);have N1:=qg hbx;have p1:w1.cell? ⟨wq.heap.size,1,none⟩=some (.slice o2 s2 c2):=qe hbx 1;have p2:w1.cell? ⟨wq.heap.size,2,none⟩=some (.slice o3 s3 c3):=qe hbx 2;have p3:w1.cell? ⟨wq.heap.size,3,none⟩=some (.slice o4 s4 c4):=qe hbx 3;have p4:w1.cell? ⟨wq.heap.size,4,none⟩=some (.int .i64 n):=qe hbx 4;clear hb1 hbx T0 N0
   go_wp2_with fail
   clear p1 p2 p3 p4;refine ((qb HX).a.2 _ ((qb HB).trans ((qb T1).mono (qb HZ)))).mono ?_;rintro e w2 ⟨rfl,hb2⟩;have T2:=qg ((qb T1).trans (hb2.mono (qb T1).size));have hbx:w2.heap[wq.heap.size]?=some (.cells #[.slice o1 s1 c1,.slice o2 s2 c2,.slice o3 s3 c3,.slice o4 s4 c4,.int .i64 n] 82):=(hb2.block _ (qh (qb N1))).trans (qb N1);have N2:=qg hbx;have p1:w2.cell? ⟨wq.heap.size,1,none⟩=some (.slice o2 s2 c2):=qe hbx 1;have p2:w2.cell? ⟨wq.heap.size,2,none⟩=some (.slice o3 s3 c3):=qe hbx 2;have p3:w2.cell? ⟨wq.heap.size,3,none⟩=some (.slice o4 s4 c4):=qe hbx 3;have p4:w2.cell? ⟨wq.heap.size,4,none⟩=some (.int .i64 n):=qe hbx 4;clear hb2 hbx T1 N1
   go_wp2_with fail
   clear p1 p2 p3 p4;refine ((qb HX).b.2 _ ((qb HB).trans ((qb T2).mono (qb HZ)))).mono ?_;rintro e w3 ⟨rfl,hb3⟩;have T3:=qg ((qb T2).trans (hb3.mono (qb T2).size));have hbx:w3.heap[wq.heap.size]?=some (.cells #[.slice o1 s1 c1,.slice o2 s2 c2,.slice o3 s3 c3,.slice o4 s4 c4,.int .i64 n] 82):=(hb3.block _ (qh (qb N2))).trans (qb N2);have N3:=qg hbx;have p1:w3.cell? ⟨wq.heap.size,1,none⟩=some (.slice o2 s2 c2):=qe hbx 1;have p2:w3.cell? ⟨wq.heap.size,2,none⟩=some (.slice o3 s3 c3):=qe hbx 2;have p3:w3.cell? ⟨wq.heap.size,3,none⟩=some (.slice o4 s4 c4):=qe hbx 3;have p4:w3.cell? ⟨wq.heap.size,4,none⟩=some (.int .i64 n):=qe hbx 4;clear hb3 hbx T2 N2
   go_wp2_with fail
   clear p1 p2 p3 p4;refine ((qb HX).c.2 _ ((qb HB).trans ((qb T3).mono (qb HZ)))).mono ?_;rintro e w4 ⟨rfl,hb4⟩;have T4:=qg ((qb T3).trans (hb4.mono (qb T3).size));have hbx:w4.heap[wq.heap.size]?=some (.cells #[.slice o1 s1 c1,.slice o2 s2 c2,.slice o3 s3 c3,.slice o4 s4 c4,.int .i64 n] 82):=(hb4.block _ (qh (qb N3))).trans (qb N3);have N4:=qg hbx;have p1:w4.cell? ⟨wq.heap.size,1,none⟩=some (.slice o2 s2 c2):=qe hbx 1;have p2:w4.cell? ⟨wq.heap.size,2,none⟩=some (.slice o3 s3 c3):=qe hbx 2;have p3:w4.cell? ⟨wq.heap.size,3,none⟩=some (.slice o4 s4 c4):=qe hbx 3;have p4:w4.cell? ⟨wq.heap.size,4,none⟩=some (.int .i64 n):=qe hbx 4;clear hb4 hbx T3 N3;go_wp2
   go_roundw
   case rel=>exact⟨rfl,k+1,by omega,by go_num,(qb HB).trans ((qb T4).mono (qb HZ))⟩
   case measure=>simp[intOf];omega
  ·obtain rfl:k=er.length:=(by omega);have HB:=qg hbel;clear hbel hsz HZ HKR HER;go_wp2;clear m4 m5 m6
   go_loopw [3,6] (fun ok i wr=>ok=.bool true/\∃ k:Nat,k<=ei.length/\i=.int .i64 k/\Below w.heap.size w wr) (fun _ i _=>ei.length-(intOf i).toNat)
   case atStart=>exact⟨rfl,0,Nat.zero_le _,rfl,qb HB⟩
   case round=>
    clear HB;rename World=>wq;obtain⟨rfl,k,hk,rfl,hbel⟩:=hrel;have m5:wq.cell? ⟨wb,5,none⟩=some (.slice rI ei.length rcI):=(hbel.cell hwb).trans (qb H5);have m6:wq.cell? ⟨wb,6,none⟩=some (.slice rF ef.length rcF):=(hbel.cell hwb).trans (qb H6);have hsz:=hbel.size;have HZ:=qg hsz
    by_cases hlt:k<ei.length
    ·obtain⟨o1,s1,c1,o2,s2,c2,o3,s3,c3,o4,s4,c4,n,g,eg,n1,n2,n3,n4,n5,hX⟩:=qu5 (qb HKI) (qb HEI) hbel hlt;subst eg;have HX:=qg hX;have HB:=qg hbel;have i0:(0:Int)<=(k:Int):=(by omega);have i1:(k:Int)<(ei.length:Int):=(by omega);clear hX hbel hsz;have T0:Hid (Below wq.heap.size wq (wq.alloc (.cells #[.slice o1 s1 c1,.slice o2 s2 c2,.slice o3 s3 c3,.slice o4 s4 c4,.int .i64 n] 85))):=(Below.refl _ wq).alloc (zzl _) _;have N0:Hid ((wq.alloc (.cells #[.slice o1 s1 c1,.slice o2 s2 c2,.slice o3 s3 c3,.slice o4 s4 c4,.int .i64 n] 85)).heap[wq.heap.size]?=some (.cells #[.slice o1 s1 c1,.slice o2 s2 c2,.slice o3 s3 c3,.slice o4 s4 c4,.int .i64 n] 85)):=qt _ _ _ rfl
     go_wp2_with fail
     refine ((qb HX).l.2 _ ((qb HB).trans ((qb T0).mono (qb HZ)))).mono ?_;rintro e w1 ⟨rfl,hb1⟩;have T1:=qg ((qb T0).trans (hb1.mono (qb T0).size));have hbx:w1.heap[wq.heap.size]?=some (.cells #[.slice o1 s1 c1,.slice o2 s2 c2,.slice o3 s3 c3,.slice o4 s4 c4,.int .i64 n] 85):=(hb1.block _ (qh (qb N0))).trans (qb N0);have N1:=qg hbx;have p1:w1.cell? ⟨wq.heap.size,1,none⟩=some (.slice o2 s2 c2):=qe hbx 1;have p2:w1.cell? ⟨wq.heap.size,2,none⟩=some (.slice o3 s3 c3):=qe hbx 2;have p3:w1.cell? ⟨wq.heap.size,3,none⟩=some (.slice o4 s4 c4):=qe hbx 3;have p4:w1.cell? ⟨wq.heap.size,4,none⟩=some (.int .i64 n):=qe hbx 4;clear hb1 hbx T0 N0
     go_wp2_with fail
     clear p1 p2 p3 p4;refine ((qb HX).a.2 _ ((qb HB).trans ((qb T1).mono (qb HZ)))).mono ?_;rintro e w2 ⟨rfl,hb2⟩;have T2:=qg ((qb T1).trans (hb2.mono (qb T1).size));have hbx:w2.heap[wq.heap.size]?=some (.cells #[.slice o1 s1 c1,.slice o2 s2 c2,.slice o3 s3 c3,.slice o4 s4 c4,.int .i64 n] 85):=(hb2.block _ (qh (qb N1))).trans (qb N1);have N2:=qg hbx;have p1:w2.cell? ⟨wq.heap.size,1,none⟩=some (.slice o2 s2 c2):=qe hbx 1;have p2:w2.cell? ⟨wq.heap.size,2,none⟩=some (.slice o3 s3 c3):=qe hbx 2;have p3:w2.cell? ⟨wq.heap.size,3,none⟩=some (.slice o4 s4 c4):=qe hbx 3;have p4:w2.cell? ⟨wq.heap.size,4,none⟩=some (.int .i64 n):=qe hbx 4;clear hb2 hbx T1 N1
     go_wp2_with fail
     clear p1 p2 p3 p4;refine ((qb HX).b.2 _ ((qb HB).trans ((qb T2).mono (qb HZ)))).mono ?_;rintro e w3 ⟨rfl,hb3⟩;have T3:=qg ((qb T2).trans (hb3.mono (qb T2).size));have hbx:w3.heap[wq.heap.size]?=some (.cells #[.slice o1 s1 c1,.slice o2 s2 c2,.slice o3 s3 c3,.slice o4 s4 c4,.int .i64 n] 85):=(hb3.block _ (qh (qb N2))).trans (qb N2);have N3:=qg hbx;have p1:w3.cell? ⟨wq.heap.size,1,none⟩=some (.slice o2 s2 c2):=qe hbx 1;have p2:w3.cell? ⟨wq.heap.size,2,none⟩=some (.slice o3 s3 c3):=qe hbx 2;have p3:w3.cell? ⟨wq.heap.size,3,none⟩=some (.slice o4 s4 c4):=qe hbx 3;have p4:w3.cell? ⟨wq.heap.size,4,none⟩=some (.int .i64 n):=qe hbx 4;clear hb3 hbx T2 N2
     go_wp2_with fail
     clear p1 p2 p3 p4;refine ((qb HX).c.2 _ ((qb HB).trans ((qb T3).mono (qb HZ)))).mono ?_;rintro e w4 ⟨rfl,hb4⟩;have T4:=qg ((qb T3).trans (hb4.mono (qb T3).size));have hbx:w4.heap[wq.heap.size]?=some (.cells #[.slice o1 s1 c1,.slice o2 s2 c2,.slice o3 s3 c3,.slice o4 s4 c4,.int .i64 n] 85):=(hb4.block _ (qh (qb N3))).trans (qb N3);have N4:=qg hbx;have p1:w4.cell? ⟨wq.heap.size,1,none⟩=some (.slice o2 s2 c2):=qe hbx 1;have p2:w4.cell? ⟨wq.heap.size,2,none⟩=some (.slice o3 s3 c3):=qe hbx 2;have p3:w4.cell? ⟨wq.heap.size,3,none⟩=some (.slice o4 s4 c4):=qe hbx 3;have p4:w4.cell? ⟨wq.heap.size,4,none⟩=some (.int .i64 n):=qe hbx 4;clear hb4 hbx T3 N3;go_wp2
     go_roundw
     case rel=>exact⟨rfl,k+1,by omega,by go_num,(qb HB).trans ((qb T4).mono (qb HZ))⟩
     case measure=>simp[intOf];omega
    ·obtain rfl:k=ei.length:=(by omega);have HB:=qg hbel;clear hbel hsz HZ HKI HEI;go_wp2;clear m5 m6
     go_loopw [3,8] (fun ok i wr=>ok=.bool true/\∃ k:Nat,k<=ef.length/\i=.int .i64 k/\Below w.heap.size w wr) (fun _ i _=>ef.length-(intOf i).toNat)
     case atStart=>exact⟨rfl,0,Nat.zero_le _,rfl,qb HB⟩
     case round=>
      clear HB;rename World=>wq;obtain⟨rfl,k,hk,rfl,hbel⟩:=hrel;have m6:wq.cell? ⟨wb,6,none⟩=some (.slice rF ef.length rcF):=(hbel.cell hwb).trans (qb H6);have hsz:=hbel.size;have HZ:=qg hsz
      by_cases hlt:k<ef.length
      ·obtain⟨o1,s1,c1,o2,s2,c2,o3,s3,c3,o4,s4,c4,n,g,eg,n1,n2,n3,n4,n5,hX⟩:=qu5 (qb HKF) (qb HEF) hbel hlt;subst eg;have HX:=qg hX;have HB:=qg hbel;have i0:(0:Int)<=(k:Int):=(by omega);have i1:(k:Int)<(ef.length:Int):=(by omega);clear hX hbel hsz;have T0:Hid (Below wq.heap.size wq (wq.alloc (.cells #[.slice o1 s1 c1,.slice o2 s2 c2,.slice o3 s3 c3,.slice o4 s4 c4,.int .i64 n] 89))):=(Below.refl _ wq).alloc (zzl _) _;have N0:Hid ((wq.alloc (.cells #[.slice o1 s1 c1,.slice o2 s2 c2,.slice o3 s3 c3,.slice o4 s4 c4,.int .i64 n] 89)).heap[wq.heap.size]?=some (.cells #[.slice o1 s1 c1,.slice o2 s2 c2,.slice o3 s3 c3,.slice o4 s4 c4,.int .i64 n] 89)):=qt _ _ _ rfl
       go_wp2_with fail
       refine ((qb HX).l.2 _ ((qb HB).trans ((qb T0).mono (qb HZ)))).mono ?_;rintro e w1 ⟨rfl,hb1⟩;have T1:=qg ((qb T0).trans (hb1.mono (qb T0).size));have hbx:w1.heap[wq.heap.size]?=some (.cells #[.slice o1 s1 c1,.slice o2 s2 c2,.slice o3 s3 c3,.slice o4 s4 c4,.int .i64 n] 89):=(hb1.block _ (qh (qb N0))).trans (qb N0);have N1:=qg hbx;have p1:w1.cell? ⟨wq.heap.size,1,none⟩=some (.slice o2 s2 c2):=qe hbx 1;have p2:w1.cell? ⟨wq.heap.size,2,none⟩=some (.slice o3 s3 c3):=qe hbx 2;have p3:w1.cell? ⟨wq.heap.size,3,none⟩=some (.slice o4 s4 c4):=qe hbx 3;have p4:w1.cell? ⟨wq.heap.size,4,none⟩=some (.int .i64 n):=qe hbx 4;clear hb1 hbx T0 N0
       go_wp2_with fail
       clear p1 p2 p3 p4;refine ((qb HX).a.2 _ ((qb HB).trans ((qb T1).mono (qb HZ)))).mono ?_;rintro e w2 ⟨rfl,hb2⟩;have T2:=qg ((qb T1).trans (hb2.mono (qb T1).size));have hbx:w2.heap[wq.heap.size]?=some (.cells #[.slice o1 s1 c1,.slice o2 s2 c2,.slice o3 s3 c3,.slice o4 s4 c4,.int .i64 n] 89):=(hb2.block _ (qh (qb N1))).trans (qb N1);have N2:=qg hbx;have p1:w2.cell? ⟨wq.heap.size,1,none⟩=some (.slice o2 s2 c2):=qe hbx 1;have p2:w2.cell? ⟨wq.heap.size,2,none⟩=some (.slice o3 s3 c3):=qe hbx 2;have p3:w2.cell? ⟨wq.heap.size,3,none⟩=some (.slice o4 s4 c4):=qe hbx 3;have p4:w2.cell? ⟨wq.heap.size,4,none⟩=some (.int .i64 n):=qe hbx 4;clear hb2 hbx T1 N1
       go_wp2_with fail
       clear p1 p2 p3 p4;refine ((qb HX).b.2 _ ((qb HB).trans ((qb T2).mono (qb HZ)))).mono ?_;rintro e w3 ⟨rfl,hb3⟩;have T3:=qg ((qb T2).trans (hb3.mono (qb T2).size));have hbx:w3.heap[wq.heap.size]?=some (.cells #[.slice o1 s1 c1,.slice o2 s2 c2,.slice o3 s3 c3,.slice o4 s4 c4,.int .i64 n] 89):=(hb3.block _ (qh (qb N2))).trans (qb N2);have N3:=qg hbx;have p1:w3.cell? ⟨wq.heap.size,1,none⟩=some (.slice o2 s2 c2):=qe hbx 1;have p2:w3.cell? ⟨wq.heap.size,2,none⟩=some (.slice o3 s3 c3):=qe hbx 2;have p3:w3.cell? ⟨wq.heap.size,3,none⟩=some (.slice o4 s4 c4):=qe hbx 3;have p4:w3.cell? ⟨wq.heap.size,4,none⟩=some (.int .i64 n):=qe hbx 4;clear hb3 hbx T2 N2
       go_wp2_with fail
       clear p1 p2 p3 p4;refine ((qb HX).c.2 _ ((qb HB).trans ((qb T3).mono (qb HZ)))).mono ?_;rintro e w4 ⟨rfl,hb4⟩;have T4:=qg ((qb T3).trans (hb4.mono (qb T3).size));have hbx:w4.heap[wq.heap.size]?=some (.cells #[.slice o1 s1 c1,.slice o2 s2 c2,.slice o3 s3 c3,.slice o4 s4 c4,.int .i64 n] 89):=(hb4.block _ (qh (qb N3))).trans (qb N3);have N4:=qg hbx;have p1:w4.cell? ⟨wq.heap.size,1,none⟩=some (.slice o2 s2 c2):=qe hbx 1;have p2:w4.cell? ⟨wq.heap.size,2,none⟩=some (.slice o3 s3 c3):=qe hbx 2;have p3:w4.cell? ⟨wq.heap.size,3,none⟩=some (.slice o4 s4 c4):=qe hbx 3;have p4:w4.cell? ⟨wq.heap.size,4,none⟩=some (.int .i64 n):=qe hbx 4;clear hb4 hbx T3 N3;go_wp2
       go_roundw
       case rel=>exact⟨rfl,k+1,by omega,by go_num,(qb HB).trans ((qb T4).mono (qb HZ))⟩
       case measure=>simp[intOf];omega
      ·obtain rfl:k=ef.length:=(by omega);have HB:=qg hbel;clear hbel hsz HZ HKF HEF;go_wp2;go_ret;exact⟨rfl,qb HB⟩
end Go.Proofs.YtfnockbgkcgpkaaGreat
