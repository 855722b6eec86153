import Derived.Test.YtfnockbgkcgpkaaGreatTkax
import Derived.Test.YtfnockbgkcgpkaaGreatTkbr
set_option linter.all false
set_option maxRecDepth 100000
set_option maxHeartbeats 16000000
namespace Go.Proofs.YtfnockbgkcgpkaaGreat
open Go.RowKit Go.Proofs.Panes
section
attribute [local go_sem ↓] Go.wp_at_zero Go.wp_at_succ
theorem VZ (U C:Nat->Prop){w:World}{sp cb:Nat}{c:Cfg}{cl:List DCl}(h:jR w sp cb c cl)(j:Nat)(d:DCl)(hd:cl[j]?=some d)(hdt:d.there=true)(S:Nat)(hS:c.surfaces=S)(hS4:1<=S/\S<=4)(bw m:Nat)(will:List Bool)(hwl:will.length=S)(hW:ze w bw d.wv will)(ts:List T3)(hQ:xi C w d.q ts)(hts:ts.length=m)(hC:¬C cb/\¬C sp/\∀ x,C x->x<w.heap.size)(hm:m<=100000)
 (ops:List Opn) (ao:Option Addr) (cap:Nat) (hR:RdO U w (.slice ao ops.length cap) ops) (hlen:1<=ops.length/\ops.length<=20) (hpx:∀ o∈ops,o.px.length<=17592186043904) (hU:∀ k,U k->k<w.heap.size) :
 Calls Tryz.prog 27 #[.pointer (some ⟨sp,0,none⟩),.int .i64 j,.slice ao ops.length cap] w fun e w'=>∃ code:Int,e=.returned (.int .i64 code)/\
  ((qR will ops=none/\code=3/\Below w.heap.size w w')\/∃ will',qR will ops=some will'/\((c.most<qA ops/\code=3/\Below w.heap.size w w')\/(qA ops<=c.most/\c.queue<=(m:Int)/\code=4/\Below w.heap.size w w')\/
    (qA ops<=c.most/\(m:Int)<c.queue/\code=0/\∃ q',w'.heap[cb]?=some (.cells (qG (cl.set j ⟨true,q',d.cr,.slice (some ⟨w.heap.size,0,none⟩) S S⟩)).toArray 123)/\ze w' w.heap.size (.slice (some ⟨w.heap.size,0,none⟩) S S) will'/\xi (fun x=>C x\/(w.heap.size<=x/\x<w'.heap.size)) w' q' (ts++[(ao,ops.length,cap)])/\But (fun k=>k=cb\/C k) w w'))):=by
 obtain⟨cs,hs,q0,q1,q2,q3,q4,q5,q6,q7,q8⟩:=id h.scr;have c8:w.cell? ⟨sp,8,none⟩=some (.slice (some ⟨cb,0,none⟩) cl.length cl.length):=(by rw[qe hs];exact q8);have c6:w.cell? ⟨sp,6,none⟩=some (.int .i64 (S:Int)):=(by rw[qe hs,q6,hS]);have hsp:=qh hs;have hcb:=qh h.cls;have hjl:j<cl.length:=(zzg hd).1;obtain⟨a0,a1,a2,a3⟩:=jC cl j d hd;have b3:w.cell? ⟨cb,j*4+3,none⟩=some d.wv:=(by rw[qe h.cls];simpa using a3);have hmk:=xB S (by omega);have ht:jt cl (j:Int)=true:=(by simp[jt,hd,hdt]);have HT:=qg (v6 h (j:Int));rw[ht] at HT;have i0:(0:Int)<=(j:Int):=(by omega);have i1:(j:Int)<(cl.length:Int):=(by omega);have hb:(decide ((1:Int)<=(ops.length:Int))&&decide ((ops.length:Int)<=(20:Int)))=true:=(by simp;omega);obtain⟨wo,wc,ewv⟩:=qr hW;rw[hwl] at ewv;rw[ewv] at b3;have HH:=qg h;have HWw:Hid (ze w bw (.slice wo S wc) will):=(by rw[<-ewv];exact hW);have HQ:=qg hQ;have HR:=qg hR;have HU:=qg hU;have HD:=qg hd;have HPx:=qg hpx;clear hs q0 q1 q2 q3 q4 q5 q6 q7 q8 h hW hQ hR hU hd a0 a1 a2 a3 hpx ht
 go_enter Tryz.func27,Tryz.ntmps27
 go_wp2_with (first
   | (go_at_call 47;refine (qb HT).mono ?_;rintro e w' ⟨rfl,hw'⟩;have hw2:=hw'.symm;clear hw';subst hw2;clear HT)
   | (go_at_call 58;refine (qZ _ _ _ _).mono ?_;rintro e w' ⟨rfl,hw'⟩;have hw2:=hw'.symm;clear hw';subst hw2)
   | (refine JT rfl _ _ rfl w.heap.size bw w.heap.size S wc (List.replicate S false) will (.slice wo S wc) rfl rfl (kO w S _ (zzl _) (by omega)) (by simp) (zm (qb HWw) ((Below.refl _ w).alloc (zzl _) _)) hwl (by omega) ?_
      intro w1 hown hgrow
      have hb1:Below w.heap.size w w1:=((Below.refl _ w).alloc (zzl _) _).grown hgrow (by simp) (fun k e=>by cases e;exact zzl _)
      have hs1:w.heap.size<w1.heap.size:=by have:=hgrow.size;simp at this;omega
      have HO1:=qg hown
      have HB1:=qg hb1
      clear hown hgrow hb1))
 have hmb:Hid (∀ wx:World,Below w.heap.size w wx->wx.cell? ⟨sp,6,none⟩=some (.int .i64 (S:Int))):=fun wx hb=>(hb.cell hsp).trans c6;clear hmk b3
 go_loopw [6,9] (fun r6 i wr=>r6=.int .i64 0/\∃ k:Nat,k<=ops.length/\i=.int .i64 k/\Below w.heap.size w wr/\∃ x,qR will (ops.take k)=some x/\x.length=S/\ze wr w.heap.size (.slice (some ⟨w.heap.size,0,none⟩) S S) x) (fun _ i _=>ops.length-(intOf i).toNat)
 case atStart=>exact⟨rfl,0,Nat.zero_le _,rfl,qb HB1,will,rfl,hwl,qb HO1⟩
 case round=>
  rename World=>wq;clear HO1 HB1;obtain⟨rfl,k,hk,rfl,hbel,x,hx,hxl,hO⟩:=hrel
  by_cases hlt:k<ops.length
  ·obtain⟨o,ho⟩:∃ o,ops[k]?=some o:=⟨ops[k],by simp[hlt]⟩;obtain⟨ao',cap',e,_,_,h3⟩:=(qb HR).below hbel;simp only[Value.slice.injEq,true_and] at e;obtain⟨rfl,rfl⟩:=e;obtain⟨b,off,rfl,_,_,hc⟩:=h3 (by intro e;rw[e] at hlt;simp at hlt);obtain⟨c0,c1,c2,c3,c4,c5,⟨pv,c6',hpv⟩,c7⟩:=hc k o ho;obtain⟨po,pc,epv,pjunk⟩:=id hpv;have HV:=qg (Xv U sp w.heap.size w.heap.size S S x o pv wq ((qb hmb) wq hbel) hO hxl.symm hS4 hpv ((qb HPx) o (zzn ho)));unfold qd6 at HV;rw[epv] at HV c6';clear pjunk h3 hc hpv epv;have k0:(0:Int)<=(k:Int):=(by omega);have k1:(k:Int)<(ops.length:Int):=(by omega);have HB:=qg hbel;have HX:=qg hx;have HO:=qg ho;clear hbel hx hO ho
   go_wp2_with fail
   refine (qb HV).mono ?_;rintro e w2 ⟨vb,rfl,hbut,hyes,hno⟩;have hbel2:Below w.heap.size w w2:=(qb HB).trans (hbut.below (qb HB).size (fun k e=>by rw[e];exact zzl _));have HB2:=qg hbel2;clear HV hbut hbel2
   cases vb with
   | true=>
    obtain⟨x',hx',hxl',hO'⟩:=hyes rfl;have HX':=qg (show qR will (ops.take (k+1))=some x' by rw[vj (qb HX) (qb HO)];exact hx');have HO':=qg hO';have hxl2:x'.length=S:=(by omega);clear hyes hno hx' hO';go_wp2
    go_roundw
    case rel=>exact⟨rfl,k+1,by omega,by go_num,qb HB2,x',qb HX',hxl2,qb HO'⟩
    case measure=>simp[intOf];omega
   | false=>
    have HN:=qg (vk (qb HX) (qb HO) (hno rfl));clear hyes hno;go_wp2;go_ret;exact⟨3,rfl,.inl ⟨qb HN,rfl,qb HB2⟩⟩
  ·obtain rfl:k=ops.length:=(by omega);rw[List.take_length] at hx;have hcs:=kz U (.slice ao ops.length cap) ops wq ((qb HR).below hbel) (by omega) (xy ops will x hx);have HCS:=qg hcs;obtain⟨cs',hs',r0,r1,r2,r3,r4,r5,r6,r7,r8⟩:=(qb HH).scr;have e3:w.cell? ⟨sp,3,none⟩=some (.int .i64 c.queue):=(by rw[qe hs'];exact r3);have e4:w.cell? ⟨sp,4,none⟩=some (.int .i64 c.most):=(by rw[qe hs'];exact r4);have HE3:=qg e3;have HE4:=qg e4;have HB:=qg hbel;have HX:=qg hx;have HO:=qg hO;clear hs' r0 r1 r2 r3 r4 r5 r6 r7 r8 hcs hbel hx hO e3 e4
   go_wp2_with fail
   refine (qb HCS).mono ?_;rintro e w3 ⟨rfl,hb3⟩;have hB3:Below w.heap.size w w3:=(qb HB).trans (hb3.mono (qb HB).size);have d3:w3.cell? ⟨sp,3,none⟩=some (.int .i64 c.queue):=(hB3.cell hsp).trans (qb HE3);have d4:w3.cell? ⟨sp,4,none⟩=some (.int .i64 c.most):=(hB3.cell hsp).trans (qb HE4);have d8:w3.cell? ⟨sp,8,none⟩=some (.slice (some ⟨cb,0,none⟩) cl.length cl.length):=(hB3.cell hsp).trans c8;obtain⟨a0,a1,a2,a3⟩:=jC cl j d (qb HD);have hC3:w3.heap[cb]?=some (.cells (qG cl).toArray 123):=(hB3.block _ hcb).trans (qb HH).cls;obtain⟨qo,qc,eq,hqle⟩:=(qb HQ).slice;rw[hts] at eq hqle;have g1:w3.cell? ⟨cb,j*4+1,none⟩=some (.slice qo m qc):=(by rw[<-eq,qe hC3];simpa using a1);have g3:w3.cell? ⟨cb,j*4+3,none⟩=some (.slice wo S wc):=(by rw[<-ewv,qe hC3];simpa using a3);have gf:∀ t,w3.frozen? ⟨cb,t,none⟩=false:=qj hC3;have HO3:=qg (zm (qb HO) hb3);have HB3:=qg hB3;have HC3:=qg hC3;have HEQ:=qg eq;have hs3:=hB3.size;have l1:sp<w3.heap.size:=(by omega);have l2:cb<w3.heap.size:=(by omega);clear HCS HB HO hb3 hB3 hC3 a0 a1 a2 a3 eq c8 c6 HE3 HE4
   by_cases hmost:c.most<qA ops
   ·go_wp2;go_ret;exact⟨3,rfl,.inr ⟨x,qb HX,.inl ⟨hmost,rfl,qb HB3⟩⟩⟩
   ·by_cases hq:c.queue<=(m:Int)
    ·go_wp2
     go_quiet (fail)
     go_wp2;go_ret;exact⟨4,rfl,.inr ⟨x,qb HX,.inr (.inl ⟨by omega,hq,rfl,below_drewN (qb HB3) _⟩)⟩⟩
    ·go_wp2
     go_quiet (fail)
     have hC4:(w3.drewN nq).heap[cb]?=some (.cells (qG cl).toArray 123):=qb HC3;have hB4:Below w.heap.size w (w3.drewN nq):=below_drewN (qb HB3) _;have hO4:ze (w3.drewN nq) w.heap.size (.slice (some ⟨w.heap.size,0,none⟩) S S) x:=qb HO3;have f8:(w3.drewN nq).cell? ⟨sp,8,none⟩=some (.slice (some ⟨cb,0,none⟩) cl.length cl.length):=d8;have f1:(w3.drewN nq).cell? ⟨cb,j*4+1,none⟩=some (.slice qo m qc):=g1;have f3:(w3.drewN nq).cell? ⟨cb,j*4+3,none⟩=some (.slice wo S wc):=g3;clear HC3 HB3 HO3 d8 g1 g3 gf d3 d4;generalize w3.drewN nq=w4 at *;have ff:∀ t,w4.frozen? ⟨cb,t,none⟩=false:=qj hC4;have HC4:=qg hC4;have HB4:=qg hB4;have HO4:=qg hO4;clear hC4 hB4 hO4
     go_wp2_with fail
     have hC5:(w4.setCell ⟨cb,j*4+3,none⟩ (.slice (some ⟨w.heap.size,0,none⟩) S S)).heap[cb]?=some (.cells ((qG cl).set (j*4+3) (.slice (some ⟨w.heap.size,0,none⟩) S S)).toArray 123):=(by simpa using qp (i:=j*4+3) (qb HC4) (.slice (some ⟨w.heap.size,0,none⟩) S S));have hB5:But (fun k=>k=cb) w (w4.setCell ⟨cb,j*4+3,none⟩ (.slice (some ⟨w.heap.size,0,none⟩) S S)):=(But.of_below (qb HB4)).setCell (S:=fun k=>k=cb) (p:=⟨cb,j*4+3,none⟩) (.inl rfl) _;have hO5:ze (w4.setCell ⟨cb,j*4+3,none⟩ (.slice (some ⟨w.heap.size,0,none⟩) S S)) w.heap.size (.slice (some ⟨w.heap.size,0,none⟩) S S) x:=ownsRow_setCell_other (qb HO4) (by simp[Value.ownBlock];omega) _;have p8:(w4.setCell ⟨cb,j*4+3,none⟩ (.slice (some ⟨w.heap.size,0,none⟩) S S)).cell? ⟨sp,8,none⟩=some (.slice (some ⟨cb,0,none⟩) cl.length cl.length):=(World.cell?_of_block (Below.heap_setCell _ _ _ _ (qb HH).apart)).trans f8;have p1:(w4.setCell ⟨cb,j*4+3,none⟩ (.slice (some ⟨w.heap.size,0,none⟩) S S)).cell? ⟨cb,j*4+1,none⟩=some (.slice qo m qc):=(World.cell?_setCell_other _ _ _ _ (by simp)).trans f1;have hQ5:xi C (w4.setCell ⟨cb,j*4+3,none⟩ (.slice (some ⟨w.heap.size,0,none⟩) S S)) (.slice qo m qc) ts:=by
      have hq0:=qb HQ;rw[qb HEQ] at hq0;exact hq0.but' hB5 (fun k cs' hk hc e=>hC.1 (by rw[<-e];exact hk))
     have hs5:w.heap.size<(w4.setCell ⟨cb,j*4+3,none⟩ (.slice (some ⟨w.heap.size,0,none⟩) S S)).heap.size:=(World.ownsRow.lt hO5 _ rfl).2;clear f8 f1 f3 ff HC4 HB4 HO4;generalize w4.setCell ⟨cb,j*4+3,none⟩ (.slice (some ⟨w.heap.size,0,none⟩) S S)=w5 at *;have pf:∀ t,w5.frozen? ⟨cb,t,none⟩=false:=qj hC5;have l5:cb<w5.heap.size:=qh hC5;have l6:sp<w5.heap.size:=(by omega);obtain⟨csx,hsx,_⟩:=(qb HH).scr;have hsx5:=hB5.heap hsx (qb HH).apart;obtain⟨W6,hW6⟩:∃ W6:World,W6=(w5.alloc (.cells #[.slice ao ops.length cap] 53)).drew:=⟨_,rfl⟩;have hB6:Below w5.heap.size w5 W6:=(by rw[hW6];exact ((Below.refl _ w5).alloc (zzl _) _).drew);have hN6:W6.heap[w5.heap.size]?=some (.cells #[.slice ao ops.length cap] 53):=(by rw[hW6];exact qt w5 _ _ rfl);have hQ6:xi C W6 (.slice qo m qc) ts:=hQ5.but (T:=fun _=>False) (.of_below hB6) (fun _ _ e=>e);obtain⟨qa,qk,w6,hrun,hQ7,hB7⟩:=hQ6.append (by omega) ⟨w5.heap.size,0,none⟩ (ao,ops.length,cap) (qe hN6 0);rw[hts] at hrun hQ7;have hC6:=(But.of_below (S:=fun _=>False) hB6).heap hC5 (fun e=>e);have hC7:=hB7.heap hC6 hC.1;have hsx7:=hB7.heap ((But.of_below (S:=fun _=>False) hB6).heap hsx5 (fun e=>e)) hC.2.1;have qf:w6.frozen? ⟨cb,j*4+1,none⟩=false:=qj hC7 _;have qs:w6.cell? ⟨sp,8,none⟩=some (.slice (some ⟨cb,0,none⟩) cl.length cl.length):=by
      have e1:w6.cell? ⟨sp,8,none⟩=csx[8]?:=qe hsx7 8;have e2:w5.cell? ⟨sp,8,none⟩=csx[8]?:=qe hsx5 8;rw[e1,<-e2];exact p8
     have qcc:w6.cell? ⟨cb,j*4+1,none⟩=some (.slice qo m qc):=by
      have e1:=qe hC7 (j*4+1);have e2:w5.cell? ⟨cb,j*4+1,none⟩=_:=qe hC5 (j*4+1);rw[e1,<-e2];exact p1
     have sz5:=hB6.size;have sz7:=hB7.size;have szB:=hB5.size;have hEND:(w6.setCell ⟨cb,j*4+1,none⟩ (.slice qa (m+1) qk)).heap[cb]?=some (.cells (qG (cl.set j ⟨true,.slice qa (m+1) qk,d.cr,.slice (some ⟨w.heap.size,0,none⟩) S S⟩)).toArray 123)/\ze (w6.setCell ⟨cb,j*4+1,none⟩ (.slice qa (m+1) qk)) w.heap.size (.slice (some ⟨w.heap.size,0,none⟩) S S) x/\xi (fun y=>C y\/(w.heap.size<=y/\y<(w6.setCell ⟨cb,j*4+1,none⟩ (.slice qa (m+1) qk)).heap.size)) (w6.setCell ⟨cb,j*4+1,none⟩ (.slice qa (m+1) qk)) (.slice qa (m+1) qk) (ts++[(ao,ops.length,cap)])/\But (fun k=>k=cb\/C k) w (w6.setCell ⟨cb,j*4+1,none⟩ (.slice qa (m+1) qk)):=by
      have hbs:But (fun k=>k=cb) w6 (w6.setCell ⟨cb,j*4+1,none⟩ (.slice qa (m+1) qk)):=(But.refl (fun k=>k=cb) w6).setCell (p:=⟨cb,j*4+1,none⟩) (.inl rfl) _;refine⟨?_,?_,?_,?_⟩
      ·have h1:=qp (i:=j*4+1) hC7 (.slice qa (m+1) qk);rw[h1];have h2:=Qx cl j d (.slice qa (m+1) qk) (.slice (some ⟨w.heap.size,0,none⟩) S S) (qb HD);rw[hdt] at h2;rw[<-h2];simp
      ·have hO6:ze W6 w.heap.size (.slice (some ⟨w.heap.size,0,none⟩) S S) x:=zm hO5 hB6;have hO7:=qi hO6 hB7 (fun k hk e=>by
        have:some w.heap.size=some k:=hk;have:=Option.some.inj this;have:=hC.2.2 k e;omega)
       exact qi hO7 hbs (fun k hk e=>qq hO7 hC7 (by decide) (by rw[<-e];exact hk))
      ·refine (hQ7.mono (fun y hy=>?_)).but' hbs (fun y cs' _ hc e=>?_)
       ·rcases hy with q | q
        ·exact .inl q
        ·exact .inr ⟨by omega,by simpa using q.2⟩
       ·rw[e,hC7] at hc;simp at hc
      ·exact (((hB5.wide fun k _ e=>.inl e).trans (.of_below hB6)).trans (hB7.wide fun k _ e=>.inr e)).trans (hbs.wide fun k _ e=>.inl e)
     have HEND:=qg hEND;rw[hW6] at hrun;have HRUN:=qg hrun;clear hEND hrun hQ7 hB7 hQ6 hN6 hB6 hW6 hC6 hC7 hsx hsx5 hsx7 sz5 sz7 szB hC5 hB5 hO5 hQ5
     go_region_law (refine zS (by kernel_rfl) (.tmp 98) (.tmp 100) 24 24 (by kernel_rfl) (by kernel_rfl) (.slice qo m qc) (.slice (some ⟨w5.heap.size,0,none⟩) 1 1) _ _ (by kernel_rfl) (by kernel_rfl) (qb HRUN) ?_)
     all_goals
      (try simp only[Exit.then])
      (try go_simp)
      (try go_wp2)
      go_ret;exact⟨0,rfl,.inr ⟨x,qb HX,.inr (.inr ⟨by omega,by omega,rfl,.slice qa (m+1) qk,qb HEND⟩)⟩⟩
end
end Go.Proofs.YtfnockbgkcgpkaaGreat
