import Derived.Test.YtfnockbgkcgpkaaGreatTkag
import Derived.Test.YtfnockbgkcgpkaaGreatTkak
import Derived.Test.YtfnockbgkcgpkaaGreatTkar
import Derived.Laws.AppendOwnNone
set_option linter.all false
set_option maxRecDepth 100000
set_option maxHeartbeats 16000000
namespace Go.Proofs.YtfnockbgkcgpkaaGreat
open Go.RowKit Go.Proofs.Panes
theorem KY:(Tryz.prog.info? 46).map (fun i=>(i.zero,i.size,i.bytes))=some (some (.agg #[.int .i64 0,.int .i64 0,.int .i64 0,.int .i64 0]),4,32):=by kernel_rfl
theorem Q6 {w:World}{base b2:Nat}{v x:Value}{l m:List Rc}(hO:Own w base v l)(hX:Own w b2 x m)(hl:l.length+m.length<=1000000000)(hb:base<=w.heap.size) :
 ∃ v' w',(Builtin.append_ #[47,47] 47 #[v,x]).run Tryz.prog w=.ok v' w'/\Own w' base v' (l++m)/\But (fun k=>v.ownBlock=some k) w w'/\(v'.ownBlock=v.ownBlock\/v'.ownBlock=some w.heap.size):=by
 obtain⟨i0,hi,hz0,hz1,hz2⟩:=info_parts KY
 rcases hX.2 with ⟨rfl,hm⟩ | ⟨g,cap,cur,rfl,_,hg,hc,_,hz,ht⟩
 ·have hm':m=[]:=List.eq_nil_of_length_eq_zero hm;subst hm';exact⟨v,w,run_append_owned_none w base _ _ 46 i0 4 Tryz.underlying47 hi v _ _ hO,by rw[List.append_nil];exact hO,.refl _ _,.inl rfl⟩
 ·obtain⟨v',w',h1,h2,h3,_,h5⟩:=run_append_own_at (P:=Tryz.prog) (w:=w) base 47 47 46 i0 _ 4 32 Tryz.underlying47 hi hz0 hz1 hz2 rfl (by decide) v _ _ hO ⟨g,0,none⟩ m.length cap (qK m) (qM m) (by
   intro j u hj;have hadd:(⟨g,0,none⟩:Addr).add j=⟨g,j,none⟩:=(by unfold Addr.add;split<;>simp_all);have hlt:j<(qK m).length:=(zzg hj).1;rw[hadd,qe hg,<-Array.getElem?_toList,<-hj,<-ht,List.getElem?_take,if_pos (by rw[qM] at hlt;exact hlt)]) (by
   intro u hu;simp only[qK,List.mem_flatMap] at hu;obtain⟨r,_,hr⟩:=hu;simp[vt] at hr
   rcases hr with rfl | rfl | rfl | rfl<;>rfl) (by simp only[maxLen];omega) (by omega) hb
  refine⟨v',w',h1,?_,.of_grown h3 (fun k e=>e),h5⟩;rw[Own,zp,List.length_append];exact h2
def zW (s:Srf):List Rc:=vd (goB s) ⟨s.x,s.y,s.w,s.h⟩ ⟨(goS s).x,(goS s).y,(goS s).w,(goS s).h⟩
theorem xH (s:Srf):qw (goS s)=qw s:=by unfold goS;split<;>rfl
theorem goS_px (s:Srf):(goS s).px=s.px:=by unfold goS;split<;>rfl
def slI (l:List Srf)(i:Nat):List Srf:=(l.take i).map goS++l.drop i
theorem Jk (l:List Srf)(i:Nat):(slI l i).map qw=l.map qw:=by
 unfold slI;rw[List.map_append,List.map_map];have:(l.take i).map (qw ∘ goS)=(l.take i).map qw:=List.map_congr_left fun s _=>xH s;rw[this,<-List.map_append,List.take_append_drop]
theorem slI_at {l:List Srf}{i:Nat}{s:Srf}(h:l[i]?=some s):(slI l i)[i]?=some s:=by
 have hlt:=(zzg h).1;unfold slI;rw[List.getElem?_append_right (by simp;omega)];simp[Nat.min_eq_left (Nat.le_of_lt hlt),h]
theorem V0 {l:List Srf}{i:Nat}{s:Srf}(hn:(l.map qw).Nodup)(h:l[i]?=some s):slI l (i+1)=xr (slI l i) (goS s):=by
 have hlt:=(zzg h).1;have he:l[i]=s:=(zzg h).2;have hd:l.drop i=s::l.drop (i+1):=(by rw[<-he,List.getElem_cons_drop]);have hn':=hn;rw[<-Jk l i] at hn';unfold slI at hn' ⊢;rw[hd,List.take_add_one,h];rw[hd,List.map_append,List.map_cons,List.nodup_append] at hn';obtain⟨-,n2,n3⟩:=hn';rw[List.nodup_cons] at n2;unfold xr;rw[List.map_append,List.map_append,List.map_cons,List.append_assoc];have e1:((l.take i).map goS).map (fun t=>if qw t=qw (goS s) then goS s else t)=(l.take i).map goS:=by
  conv=>rhs;rw[<-List.map_id ((l.take i).map goS)]
  refine List.map_congr_left fun t ht=>?_;rw[if_neg]
  ·rfl
  ·rw[xH];intro e;exact n3 (qw t) (List.mem_map.2 ⟨t,ht,rfl⟩) (qw s) (by simp) e
 have e2:(l.drop (i+1)).map (fun t=>if qw t=qw (goS s) then goS s else t)=l.drop (i+1):=by
  conv=>rhs;rw[<-List.map_id (l.drop (i+1))]
  refine List.map_congr_left fun t ht=>?_;rw[if_neg]
  ·rfl
  ·rw[xH];intro e;exact n2.1 (by rw[<-e];exact List.mem_map.2 ⟨t,ht,rfl⟩)
 rw[e1,e2,if_pos (xH s).symm];simp
def SlOk (s:Srf):Prop:=(0<=s.left/\s.left<=1000)/\(-2000000000000000<=s.x+s.dx/\s.x+s.dx<=2000000000000000)/\(-2000000000000000<=s.y+s.dy/\s.y+s.dy<=2000000000000000)
theorem Xz (s:Srf):(zW s).length<=2:=by unfold zW vd;split<;>(try split)<;>simp
theorem JF:∀ l:List Srf,(l.flatMap zW).length<=2*l.length
 | []=>by simp
 | s::l=>by have:=JF l;have:=Xz s;simp only[List.flatMap_cons,List.length_append,List.length_cons];omega
theorem qn1 {C U:Nat->Prop}{w:World}{sb:Nat}{beh:Int}{l:List Srf}{mb:Nat}{ov:Value}{L:List Ke}{clock:Nat}{bk:Int->Int->Nat}{pv:Int->Int->Value}(h:Scn C U w sb beh l mb ov L clock bk pv)(hCU:∀ k,C k->¬U k)(hCl:∀ k,C k->k<w.heap.size)(hUl:∀ k,U k->k<w.heap.size)(hl:l.length<=1000)(hok:∀ s∈l,SlOk s) :
 Calls Tryz.prog 86 #[.pointer (some ⟨sb,0,none⟩)] w fun e w'=>(∃ v pv',e=.returned v/\Scn C U w' sb beh (l.map goS) mb ov L clock bk pv'/\Own w' w.heap.size v (l.flatMap zW))/\But C w w':=by
 have c1:w.cell? ⟨sb,1,none⟩=some ov:=qe h.scm.blk 1;have l1:sb<w.heap.size:=qh h.scm.blk;obtain⟨ro,rc,hov⟩:=qr h.row;rw[List.length_map] at hov;obtain⟨n,hn⟩:∃ n,n=l.length:=⟨_,rfl⟩;rw[<-hn] at hov;subst hov;have HH:=qg h;have HN:=qg hn;have HOK:=qg hok;have hn1:n<=1000:=(by omega);clear h hn hok hl
 go_enter Tryz.func86,Tryz.ntmps86
 go_wp2
 go_loopw [3,11] (fun a b wr=>∃ (i:Nat)(pvk:Int->Int->Value),b=.int .i64 (i:Int)/\i<=n/\Scn C U wr sb beh (slI l i) mb (.slice ro n rc) L clock bk pvk/\Own wr w.heap.size a ((l.take i).flatMap zW)/\But C w wr) (fun a b _=>n-(intOf b).toNat)
 case atStart=>exact⟨0,pv,rfl,Nat.zero_le _,by simpa[slI] using qb HH,⟨rfl,.inl ⟨rfl,rfl⟩⟩,.refl _ _⟩
 case round=>
  obtain⟨i,pvk,rfl,hin,hsc,hO,hB⟩:=hrel
  by_cases hlt:i<n
  ·obtain⟨s,hs⟩:∃ s,l[i]?=some s:=⟨l[i]'(by rw[<-qb HN];exact hlt),by simp⟩;have hsI:=slI_at hs;have hsm:s∈slI l i:=zzn hsI;have hkr:(slI l i).map (fun s=>k2 (qw s))=(l.map qw).map k2:=(by rw[<-Jk l i,List.map_map];rfl);have hrow:=hsc.row;rw[hkr] at hrow;obtain⟨g,cap,hg⟩:=jH hrow (by simp;rw[<-qb HN];omega);simp only[Value.slice.injEq] at hg;obtain⟨rfl,-,-⟩:=hg;obtain⟨q0,q1⟩:=kR hrow (p:=k2 (qw s)) (j:=i) (by rw[List.getElem?_map,List.getElem?_map,hs];rfl);simp only[k2,qw] at q0 q1;have lg:g<wr.heap.size:=(World.ownsRow.lt hrow g rfl).2;obtain⟨b,hbk⟩:∃ b,b=bk s.cl s.num:=⟨_,rfl⟩;have hSf:=(hsc.surf s hsm).1;rw[<-hbk] at hSf;have hcb:=(hsc.surf s hsm).2.1;rw[<-hbk] at hcb;obtain⟨w1,hw1⟩:∃ w1:World,w1=wr.alloc (.cells #[.int .i64 s.cl,.int .i64 s.num] 173):=⟨_,rfl⟩;have hB1:Below wr.heap.size wr w1:=(by rw[hw1];exact (Below.refl _ wr).alloc (zzl _) _);have hK1:w1.heap[wr.heap.size]?=some (.cells #[.int .i64 s.cl,.int .i64 s.num] 173):=(by rw[hw1];exact qt _ _ _ rfl);have hsc1:=hsc.below hB1;have hlk:(Instr.lookup 174 (.map (some mb)) (.agg #[.int .i64 s.cl,.int .i64 s.num]) false).run Tryz.prog w1.drew=.ok (.pointer (some ⟨b,0,none⟩)) w1.drew:=by
    have:=zn (w:=w1.drew) hsc1.scm.map s.cl s.num;rw[hsc1.at_some hsm,<-hbk] at this;exact this
   have hCl1:∀ k,k=b->k<w1.drew.heap.size:=fun k e=>by rw[e];exact zzm (qh hSf) hB1.size
   have hso:=(qb HOK) s (zzn hs);have HD:=qg (ql3 (C:=fun k=>k=b) (w:=w1.drew) (sb:=sb) hCl1 s.cl s.num (goB s) b (jW (slI l i) s.cl s.num) (jW (slI l (i+1)) s.cl s.num) (fun W=>∃ pv',Scn C U W sb beh (slI l (i+1)) mb (.slice (some ⟨g,0,none⟩) n rc) L clock bk pv')
    (fun W W' hq hb=>by obtain⟨pv',hq⟩:=hq;exact⟨pv',hq.below hb⟩)
    (fun W hb=>(hsc1.below (Below.trans ((Below.refl _ w1).drew) hb)).covered s.cl s.num)
    (fun W hq=>by obtain⟨pv',hq⟩:=hq;exact hq.covered s.cl s.num)
    (fun W hb=>by
     have hW:Below w1.heap.size w1 W:=Below.trans ((Below.refl _ w1).drew) hb;have hscW:=hsc1.below hW;have hSW:yL W b s (pvk s.cl s.num):=(by rw[hbk];exact (hscW.surf s hsm).1);refine (qt8 hSW hso.1 hso.2.1 hso.2.2).mono ?_;rintro e w' ⟨rfl,hs',hb'⟩;refine⟨rfl,?_,hb'⟩;rw[V0 (qb HH).nd hs];exact⟨_,hscW.upd hCU hsm (xH s) (v:=pvk s.cl s.num) (hb'.wide (fun k _ e=>e.trans hbk)) (by rw[<-hbk];exact hs') (by rw[goS_px];exact (hscW.surf s hsm).2.2.but hb' (fun k hu e=>hCU k (by rw[e];exact hcb) hu))⟩))
   have er1:jW (slI l i) s.cl s.num=⟨s.x,s.y,s.w,s.h⟩:=Q4 hsm hsc.nd;have er2:jW (slI l (i+1)) s.cl s.num=⟨(goS s).x,(goS s).y,(goS s).w,(goS s).h⟩:=by
    have hm':goS s∈slI l (i+1):=by
     rw[V0 (qb HH).nd hs];exact List.mem_map.2 ⟨s,hsm,by rw[if_pos (xH s).symm]⟩
    have:=Q4 hm' (by rw[Jk];exact (qb HH).nd);have hk:=xH s;simp only[qw,Prod.mk.injEq] at hk;rw[hk.1,hk.2] at this;exact this
   rw[er1,er2] at HD;unfold zZ at HD;have x0:w1.cell? ⟨sb,0,none⟩=some (.map (some mb)):=qe hsc1.scm.blk 0;have y0:w1.cell? ⟨wr.heap.size,0,none⟩=some (.int .i64 s.cl):=qe hK1 0;have y1:w1.cell? ⟨wr.heap.size,1,none⟩=some (.int .i64 s.num):=qe hK1 1;have hcsb:=hsc.csb;have hsbb:¬sb=b:=fun e=>hsc.bk_sb hsm (by rw[<-hbk,e]);have lsb:sb<w1.heap.size:=qh hsc1.scm.blk;have HScB:=qg hsc1.scm.blk;have hwb:¬wr.heap.size=b:=(by have:=qh hSf;omega);have HK1:=qg hK1;have HB1:=qg hB1;have HW1:=qg hw1;have HO:=qg hO;have HB:=qg hB;have HS:=qg hs;have i0:(0:Int)<=(i:Int):=(by omega);have i1:(i:Int)<(n:Int):=(by omega);clear hsI hsm hkr hrow hSf hbk hsc hsc1 hCl1 hso er1 er2 hK1 hB1 hw1 hO hB hs;go_wp2;rw[<-qb HW1];have hcbl:b<w.heap.size:=hCl b hcb;have hlen:=JF (l.take i);have hlen2:(l.take i).length<=1000:=(by rw[List.length_take];omega);have HLen:=qg (show ((l.take i).flatMap zW).length+(zW s).length<=1000000000 by have:=Xz s;omega);have hu3:∀ k,u3.ownBlock=some k->w.heap.size<=k/\k<wr.heap.size:=fun k hk=>World.ownsRow.lt (qb HO) k hk;have HU3:=qg hu3;clear hlen hlen2 hu3
   go_region_held3 (fun w'=>w'.cell? ⟨sb,0,none⟩=some (.map (some mb))/\w'.cell? ⟨wr.heap.size,0,none⟩=some (.int .i64 s.cl)/\w'.cell? ⟨wr.heap.size,1,none⟩=some (.int .i64 s.num))
    (first | (refine⟨?_,?_,?_⟩<;>assumption) | go_keep)
    (first
      | (go_at_call 112
         refine (qb HD).mono ?_
         rintro e w2 ⟨⟨v,rfl,hq,hOv⟩,hb2⟩
         have hO2:Own w2 w.heap.size u3 ((l.take i).flatMap zW):=Own.but (Own.kept (qb HO) (qb HB1).drew) hb2 (fun k hk e=>by have:=(qb HU3) k hk;omega)
         have hsz2:w.heap.size<=w2.heap.size:=Nat.le_trans (qb HB).size (Nat.le_trans (qb HB1).size hb2.size)
         obtain⟨v',w3,hrun,hO3,hb3,hv3⟩:=Q6 hO2 hOv (qb HLen) hsz2
         have hS2:=hb2.heap (w:=w1.drew) (qb HScB) hsbb
         have hK2:=hb2.heap (w:=w1.drew) (qb HK1) hwb
         have hS3:=hb3.heap hS2 (fun e=>by have:=(qb HU3) _ e;omega)
         have hK3:=hb3.heap hK2 (fun e=>by have:=(qb HU3) _ e;omega)
         have e0:w2.cell? ⟨sb,0,none⟩=some (.map (some mb)):=qe hS2 0
         have e1:w2.cell? ⟨wr.heap.size,0,none⟩=some (.int .i64 s.cl):=qe hK2 0
         have e2:w2.cell? ⟨wr.heap.size,1,none⟩=some (.int .i64 s.num):=qe hK2 1
         have j0:w3.cell? ⟨sb,0,none⟩=some (.map (some mb)):=qe hS3 0
         have j1:w3.cell? ⟨wr.heap.size,0,none⟩=some (.int .i64 s.cl):=qe hK3 0
         have j2:w3.cell? ⟨wr.heap.size,1,none⟩=some (.int .i64 s.num):=qe hK3 1
         have hq3:∃ pv',Scn C U w3 sb beh (slI l (i+1)) mb (.slice (some ⟨g,0,none⟩) n rc) L clock bk pv':=by
           obtain⟨pv',hq⟩:=hq
           refine⟨pv',hq.but hb3 (fun k hk e=>?_) (fun k hu e=>?_)⟩
           · have:=(qb HU3) k e;have:=hCl k hk;omega
           · have:=(qb HU3) k e;have:=hUl k hu;omega
         have hB3:But C w w3:=(((qb HB).trans (.of_below (qb HB1).drew)).trans (hb2.wide (fun k _ e=>by rw[e];exact hcb))).step hb3 (fun k e=>.inr ((qb HU3) k e).1)
         have HRun:=qg hrun
         have HO3:=qg hO3
         have HQ3:=qg hq3
         have HB3:=qg hB3
         clear hO2 hOv hrun hO3 hb3 hv3 hS2 hK2 hS3 hK3 hq hq3 hB3 hb2 hsz2)
      | (refine zS (by kernel_rfl) (.tmp 15) (.tmp 25) 47 47 (by kernel_rfl) (by kernel_rfl) u3 v _ _ (by kernel_rfl) (by kernel_rfl) (qb HRun) ?_))
   all_goals
    (try simp only[Exit.then])
    (try go_simp)
    go_wp2
    go_roundw
    case rel=>
     obtain⟨pv',hq⟩:=qb HQ3;refine⟨i+1,pv',by go_num,by omega,hq,?_,qb HB3⟩;have:(l.take (i+1)).flatMap zW=(l.take i).flatMap zW++zW s:=(by rw[List.take_add_one,qb HS];simp);rw[this];exact qb HO3
    case measure=>simp[intOf];omega
  ·have:i=n:=(by omega);subst this;have e1:slI l i=l.map goS:=(by unfold slI;rw[qb HN];simp);have e2:l.take i=l:=(by rw[qb HN];simp);rw[e1] at hsc;rw[e2] at hO;have HS:=qg hsc;have HO:=qg hO;have HB:=qg hB;clear hsc hO hB;go_wp2;go_ret;exact⟨⟨_,_,rfl,qb HS,qb HO⟩,qb HB⟩
def Qg (s:Srf):Rc:=⟨s.x,s.y,s.w,s.h⟩
def jf (s:Srf):List Rc:=vd true (Qg s) zrc
def lvI (l:List Srf)(c:Int)(i:Nat):List Srf:=(l.take i).filter (fun s=>!(s.cl == c))++l.drop i
def lvD (l:List Srf)(c:Int)(i:Nat):List Rc:=((l.take i).filter (fun s=>s.cl == c)).flatMap jf
theorem qe1 (l:List Srf)(c:Int)(i:Nat):(lvI l c i).Sublist l:=by
 unfold lvI
 conv=>rhs;rw[<-List.take_append_drop i l]
 exact List.Sublist.append List.filter_sublist (List.Sublist.refl _)
theorem zb4 {l:List Srf}{c:Int}{i:Nat}{s:Srf}(h:l[i]?=some s):s∈lvI l c i:=by
 have hlt:=(zzg h).1;have he:l[i]=s:=(zzg h).2;exact List.mem_append_right _ (by rw[<-List.getElem_cons_drop (h:=hlt),he];simp)
theorem qj7 {l:List Srf}{c:Int}{i:Nat}{s:Srf}(h:l[i]?=some s)(hc:¬s.cl=c):lvI l c (i+1)=lvI l c i:=by
 have hlt:=(zzg h).1;have he:l[i]=s:=(zzg h).2;unfold lvI;rw[<-List.getElem_cons_drop (h:=hlt),he,List.take_add_one,h,List.filter_append];simp[hc]
theorem zb3 {l:List Srf}{c:Int}{i:Nat}{s:Srf}(hn:(l.map qw).Nodup)(h:l[i]?=some s)(hc:s.cl=c):lvI l c (i+1)=yT (lvI l c i) c s.num:=by
 have hlt:=(zzg h).1;have he:l[i]=s:=(zzg h).2;have hd:l.drop i=s::l.drop (i+1):=(by rw[<-List.getElem_cons_drop (h:=hlt),he]);unfold lvI yT;rw[hd,List.take_add_one,h,List.filter_append,List.filter_append,List.filter_cons];rw[show isK c s.num s=true by simp[isK,hc]];have h1:((l.take i).filter (fun s=>!(s.cl == c))).filter (fun t=>!isK c s.num t)=(l.take i).filter (fun s=>!(s.cl == c)):=by
  rw[List.filter_eq_self];intro t ht;have:=(List.mem_filter.1 ht).2;simp only[Bool.not_eq_true',beq_eq_false_iff_ne] at this;simp[isK,this]
 have h2:(l.drop (i+1)).filter (fun t=>!isK c s.num t)=l.drop (i+1):=by
  rw[List.filter_eq_self];intro t ht
  cases hk:isK c s.num t
  ·rfl
  ·exfalso
   have hks:=ju.1 hk;have hl2:l=l.take i++s::l.drop (i+1):=(by rw[<-hd,List.take_append_drop]);rw[hl2,List.map_append,List.map_cons,List.nodup_append] at hn;have:=(List.nodup_cons.1 hn.2.1).1;exact this (List.mem_map.2 ⟨t,ht,by rw[hks];simp[qw,hc]⟩)
 rw[h1,h2];simp[hc]
theorem qj8 {l:List Srf}{c:Int}{i:Nat}{s:Srf}(h:l[i]?=some s)(hc:¬s.cl=c):lvD l c (i+1)=lvD l c i:=by
 unfold lvD;rw[List.take_add_one,h,List.filter_append];simp[hc]
theorem zb5 {l:List Srf}{c:Int}{i:Nat}{s:Srf}(h:l[i]?=some s)(hc:s.cl=c):lvD l c (i+1)=lvD l c i++jf s:=by
 unfold lvD;rw[List.take_add_one,h,List.filter_append];simp[hc]
theorem zb6 (l:List Srf)(c:Int)(i:Nat):(lvD l c i).length<=2*l.length:=by
 unfold lvD;have h1:∀ k:List Srf,(k.flatMap jf).length<=2*k.length:=by
  intro k
  induction k with
  | nil=>simp
  | cons s k ih=>
   have:(jf s).length<=2:=(by unfold jf vd;split<;>(try split)<;>simp);simp only[List.flatMap_cons,List.length_append,List.length_cons];omega
 have h2:=h1 ((l.take i).filter (fun s=>s.cl == c));have h3:((l.take i).filter (fun s=>s.cl == c)).length<=l.length:=Nat.le_trans (List.length_filter_le _ _) (by rw[List.length_take];omega);omega
def opD (n:Int):Opn:=⟨2,n,0,0,0,0,[],0⟩
theorem qt3 {l:List Srf}{s:Srf}(hs:s∈l):zi l s.cl (opD s.num)=(yT l s.cl s.num,true):=by
 obtain⟨t,ht,_,_⟩:=xC (l:=l) (c:=s.cl) (n:=s.num) (List.mem_map.2 ⟨s,hs,rfl⟩);simp[zi,opD,ht]
theorem dmgO_D {l:List Srf}{s:Srf}(hs:s∈l)(hn:(l.map qw).Nodup):yh l s.cl (opD s.num)=jf s:=by
 unfold yh jf;rw[qt3 hs];rw[show jW l s.cl (opD s.num).surf=Qg s from Q4 hs hn];rw[show jW (yT l s.cl s.num) s.cl (opD s.num).surf=zrc from YM (by
  show (s.cl,s.num)∉_;rw[yk,List.mem_filter];simp)]
structure Buf where
 px:List Int
 st:List Bool
 begun:Int
structure Frm where
 buf:Nat
 marks:List (Int×Int)
 left:List (Int×Int)
structure Frs where
 W:Nat
 H:Nat
 b:Nat->Buf
 front:Nat
 frame:Option Frm
 due:Bool
 marks:List (Int×Int)
def zJ (b n:Nat):Value:=.slice (some ⟨b,0,none⟩) n n
structure Fl where
 pb:Nat->Nat
 st:Nat->Nat
 fb:Nat
 fm:Value
 fl:Value
 mv:Value
def xD (f:Frs)(v:Fl):Value:=match f.frame with
 | none=>.pointer none
 | some _=>.pointer (some ⟨v.fb,0,none⟩)
def qT (f:Frs)(v:Fl):Array Value:=
 #[.int .i64 0,.int .i64 0,.int .i64 (f.W:Int),.int .i64 (f.H:Int),
  zJ (v.pb 0) (f.W*f.H),zJ (v.st 0) (f.W*f.H),.int .i64 (f.b 0).begun,
  zJ (v.pb 1) (f.W*f.H),zJ (v.st 1) (f.W*f.H),.int .i64 (f.b 1).begun,
  zJ (v.pb 2) (f.W*f.H),zJ (v.st 2) (f.W*f.H),.int .i64 (f.b 2).begun,
  .int .i64 (f.front:Int),xD f v,.bool f.due,v.mv]
def RdD (C:Nat->Prop)(w:World)(v:Value)(l:List (Int×Int)):Prop:=
 ∃ ao cap,v=.slice ao l.length cap/\l.length<=cap/\cap<=maxLen/\(l≠[]->∃ b off cs,ao=some ⟨b,off,none⟩/\C b/\w.heap[b]?=some (.cells cs 222 (0,0))/\∀ j k,l[j]?=some k->w.cell? ⟨b,off+j*2,none⟩=some (.int .i64 k.1)/\w.cell? ⟨b,off+j*2+1,none⟩=some (.int .i64 k.2))
theorem RdD.but {C S:Nat->Prop}{w w':World}{v:Value}{l:List (Int×Int)}(h:RdD C w v l)(hb:But S w w')(hs:∀ k,C k->¬S k):RdD C w' v l:=by
 obtain⟨ao,cap,e,h1,h2,h3⟩:=h;refine⟨ao,cap,e,h1,h2,fun hne=>?_⟩;obtain⟨b,off,cs,e,hc,hg,qF⟩:=h3 hne;have hbl:=hb.block b (qh hg) (hs b hc);exact⟨b,off,cs,e,hc,hbl.trans hg,fun j k hk=>⟨(World.cell?_of_block hbl).trans (qF j k hk).1,(World.cell?_of_block hbl).trans (qF j k hk).2⟩⟩
theorem RdD.mono {C C':Nat->Prop}{w:World}{v:Value}{l:List (Int×Int)}(h:RdD C w v l)(hC:∀ k,C k->C' k):RdD C' w v l:=by
 obtain⟨ao,cap,e,h1,h2,h3⟩:=h;refine⟨ao,cap,e,h1,h2,fun hne=>?_⟩;obtain⟨b,off,cs,e,hc,hg,qF⟩:=h3 hne;exact⟨b,off,cs,e,hC b hc,hg,qF⟩
structure Fr (C:Nat->Prop)(w:World)(b0:Nat)(f:Frs)(v:Fl):Prop where
 blk:w.heap[b0]?=some (.cells (qT f v) 169 (0,0))
 cb:C b0
 px:∀ i,i<3->w.heap[v.pb i]?=some (.cells ((f.b i).px.map (Value.int .i64)).toArray 3 (0,0))/\C (v.pb i)/\(f.b i).px.length=f.W*f.H
 st:∀ i,i<3->w.heap[v.st i]?=some (.cells ((f.b i).st.map Value.bool).toArray 4 (0,0))/\C (v.st i)/\(f.b i).st.length=f.W*f.H
 pinj:∀ i j,i<3->j<3->v.pb i=v.pb j->i=j
 sinj:∀ i j,i<3->j<3->v.st i=v.st j->i=j
 mks:qN w 0 153 v.mv (f.marks.map k2)
 mc:∀ k,v.mv.ownBlock=some k->C k
 fr:∀ g,f.frame=some g->w.heap[v.fb]?=some (.cells #[.int .i64 (g.buf:Int),v.fm,v.fl] 182 (0,0))/\C v.fb/\g.buf<3/\qN w 0 153 v.fm (g.marks.map k2)/\(∀ k,v.fm.ownBlock=some k->C k/\v.mv.ownBlock≠some k)/\RdD C w v.fl g.left
theorem Fr.but {C S:Nat->Prop}{w w':World}{b0:Nat}{f:Frs}{v:Fl}(h:Fr C w b0 f v)(hb:But S w w')(hS:∀ k,C k->¬S k):Fr C w' b0 f v where
 blk:=hb.heap h.blk (hS _ h.cb)
 cb:=h.cb
 px:=fun i hi=>⟨hb.heap (h.px i hi).1 (hS _ (h.px i hi).2.1),(h.px i hi).2⟩
 st:=fun i hi=>⟨hb.heap (h.st i hi).1 (hS _ (h.st i hi).2.1),(h.st i hi).2⟩
 pinj:=h.pinj
 sinj:=h.sinj
 mks:=qi h.mks hb (fun k hk=>hS k (h.mc k hk))
 mc:=h.mc
 fr:=fun g hg=>by
  obtain⟨h1,h2,h3,h4,h5,h6⟩:=h.fr g hg;exact⟨hb.heap h1 (hS _ h2),h2,h3,qi h4 hb (fun k hk=>hS k (h5 k hk).1),h5,h6.but hb hS⟩
theorem Fr.mono {C C':Nat->Prop}{w:World}{b0:Nat}{f:Frs}{v:Fl}(h:Fr C w b0 f v)(hC:∀ k,C k->C' k):Fr C' w b0 f v where
 blk:=h.blk
 cb:=hC _ h.cb
 px:=fun i hi=>⟨(h.px i hi).1,hC _ (h.px i hi).2.1,(h.px i hi).2.2⟩
 st:=fun i hi=>⟨(h.st i hi).1,hC _ (h.st i hi).2.1,(h.st i hi).2.2⟩
 pinj:=h.pinj
 sinj:=h.sinj
 mks:=h.mks
 mc:=fun k hk=>hC k (h.mc k hk)
 fr:=fun g hg=>by
  obtain⟨h1,h2,h3,h4,h5,h6⟩:=h.fr g hg;exact⟨h1,hC _ h2,h3,h4,fun k hk=>⟨hC k (h5 k hk).1,(h5 k hk).2⟩,h6.mono hC⟩
theorem Fr.below {C:Nat->Prop}{w w':World}{b0:Nat}{f:Frs}{v:Fl}(h:Fr C w b0 f v)(hb:Below w.heap.size w w'):Fr C w' b0 f v:=h.but (S:=fun _=>False) (.of_below hb) (fun _ _ h=>h)
theorem Fr.set {C:Nat->Prop}{w w':World}{b0:Nat}{f:Frs}{v:Fl}(h:Fr C w b0 f v)(hb:But (fun k=>k=b0) w w')(d:Bool)(hblk:w'.heap[b0]?=some (.cells (qT {f with due:=d} v) 169 (0,0))):Fr C w' b0 {f with due:=d} v where
 blk:=hblk
 cb:=h.cb
 px:=fun i hi=>⟨hb.heap (h.px i hi).1 (fun e=>by have:=(h.px i hi).1;rw[e,h.blk] at this;simp at this),(h.px i hi).2⟩
 st:=fun i hi=>⟨hb.heap (h.st i hi).1 (fun e=>by have:=(h.st i hi).1;rw[e,h.blk] at this;simp at this),(h.st i hi).2⟩
 pinj:=h.pinj
 sinj:=h.sinj
 mks:=qi h.mks hb (fun k hk e=>qq h.mks h.blk (by decide) (by rw[hk,e]))
 mc:=h.mc
 fr:=fun g hg=>by
  obtain⟨h1,h2,h3,h4,h5,h6⟩:=h.fr g hg;refine⟨hb.heap h1 (fun e=>by have:=h1;rw[e,h.blk] at this;simp at this),h2,h3,qi h4 hb (fun k hk e=>qq h4 h.blk (by decide) (by rw[hk,e])),h5,?_⟩;obtain⟨ao,cap,e,q1,q2,q3⟩:=h6;refine⟨ao,cap,e,q1,q2,fun hne=>?_⟩;obtain⟨b,off,cs,e,hc,hg',qF⟩:=q3 hne;have hbl:=hb.block b (qh hg') (fun e=>by have:=hg';rw[e,h.blk] at this;simp at this);exact⟨b,off,cs,e,hc,hbl.trans hg',fun j k hk=>⟨(World.cell?_of_block hbl).trans (qF j k hk).1,(World.cell?_of_block hbl).trans (qF j k hk).2⟩⟩
theorem YY {C:Nat->Prop}{w:World}{b0:Nat}{f:Frs}{v:Fl}(h:Fr C w b0 f v) :
 Calls Tryz.prog 140 #[.pointer (some ⟨b0,0,none⟩)] w fun e w'=>(∃ u,e=.returned u)/\Fr C w' b0 {f with due:=true} v/\But (fun k=>k=b0) w w':=by
 have c15:w.cell? ⟨b0,15,none⟩=some (.bool f.due):=qe h.blk 15;have f0:∀ j,w.frozen? ⟨b0,j,none⟩=false:=fun j=>qj h.blk j;have hb:But (fun k=>k=b0) w (w.setCell ⟨b0,15,none⟩ (.bool true)):=(But.refl (fun k=>k=b0) w).setCell (p:=⟨b0,15,none⟩) (.inl rfl) _;have HF:=qg (h.set hb true (qp (i:=15) h.blk _));have HB:=qg hb;clear h hb
 go_enter Tryz.func140,Tryz.ntmps140
 go_wp2;go_end0;exact⟨⟨_,rfl⟩,qb HF,qb HB⟩
theorem Qv:(Tryz.prog.info? 153).map (fun i=>(i.zero,i.size,i.bytes))=some (some (.agg #[.int .i64 0,.int .i64 0]),2,16):=by kernel_rfl
theorem Fr.marked {C C':Nat->Prop}{w w':World}{b0:Nat}{f:Frs}{v:Fl}(h:Fr C w b0 f v)(hC:∀ k,C k->C' k){mv:Value}{ms:List (Int×Int)}(hb:But (fun k=>k=b0\/v.mv.ownBlock=some k) w w')
 (hblk:w'.heap[b0]?=some (.cells (qT {f with marks:=ms} {v with mv:=mv}) 169 (0,0))) (hrow:qN w' 0 153 mv (ms.map k2)) (hmc:∀ k,mv.ownBlock=some k->C' k) (hmf:∀ g,f.frame=some g->∀ k,v.fm.ownBlock=some k->mv.ownBlock≠some k):Fr C' w' b0 {f with marks:=ms} {v with mv:=mv} where
 blk:=hblk
 cb:=hC _ h.cb
 px:=fun i hi=>by
  obtain⟨h1,h2,h3⟩:=h.px i hi;refine⟨hb.heap h1 ?_,hC _ h2,h3⟩;rintro (e | e)
  ·have:=h1;rw[e,h.blk] at this;simp at this
  ·exact qq h.mks h1 (by decide) e
 st:=fun i hi=>by
  obtain⟨h1,h2,h3⟩:=h.st i hi;refine⟨hb.heap h1 ?_,hC _ h2,h3⟩;rintro (e | e)
  ·have:=h1;rw[e,h.blk] at this;simp at this
  ·exact qq h.mks h1 (by decide) e
 pinj:=h.pinj
 sinj:=h.sinj
 mks:=hrow
 mc:=hmc
 fr:=fun g hg=>by
  obtain⟨h1,h2,h3,h4,h5,h6⟩:=h.fr g hg;refine⟨hb.heap h1 ?_,hC _ h2,h3,qi h4 hb ?_,fun k hk=>⟨hC k (h5 k hk).1,hmf g hg k hk⟩,?_⟩
  ·rintro (e | e)
   ·have:=h1;rw[e,h.blk] at this;simp at this
   ·exact qq h.mks h1 (by decide) e
  ·rintro k hk (e | e)
   ·exact qq h4 h.blk (by decide) (by rw[hk,e])
   ·exact (h5 k hk).2 e
  ·obtain⟨ao,cap,e,q1,q2,q3⟩:=h6;refine⟨ao,cap,e,q1,q2,fun hne=>?_⟩;obtain⟨b,off,cs,e,hc,hg',qF⟩:=q3 hne;have hbl:=hb.block b (qh hg') (by
    rintro (e | e)
    ·have:=hg';rw[e,h.blk] at this;simp at this
    ·exact qq h.mks hg' (by decide) e)
   exact⟨b,off,cs,e,hC b hc,hbl.trans hg',fun j k hk=>⟨(World.cell?_of_block hbl).trans (qF j k hk).1,(World.cell?_of_block hbl).trans (qF j k hk).2⟩⟩
theorem zf0 {C:Nat->Prop}{w:World}{b0:Nat}{f:Frs}{v:Fl}(h:Fr C w b0 f v)(hCl:∀ k,C k->k<w.heap.size)(c m:Int)(hl:f.marks.length<=1000000000) :
 Calls Tryz.prog 141 #[.pointer (some ⟨b0,0,none⟩),.agg #[.int .i64 c,.int .i64 m]] w fun e w'=>(∃ u,e=.returned u)/\(∃ v',Fr (grow C w w') w' b0 {f with marks:=f.marks++[(c,m)]} v')/\But C w w':=by
 obtain⟨ro,rc,hov⟩:=qr h.mks;obtain⟨n,hn⟩:∃ n,n=(f.marks.map k2).length:=⟨_,rfl⟩;rw[<-hn] at hov;obtain⟨w1,hw1⟩:∃ w1:World,w1=w.alloc (.cells #[.int .i64 c,.int .i64 m] 153):=⟨_,rfl⟩;have hB1:Below w.heap.size w w1:=(by rw[hw1];exact (Below.refl _ w).alloc (zzl _) _);have hK1:w1.heap[w.heap.size]?=some (.cells #[.int .i64 c,.int .i64 m] 153):=(by rw[hw1];exact qt _ _ _ rfl);have hF1:=h.below hB1;obtain⟨W4,hW4⟩:∃ W4:World,W4=(w1.alloc (.cells #[.int .i64 c,.int .i64 m] 153)).drew:=⟨_,rfl⟩;have hB4:Below w1.heap.size w1 W4:=(by rw[hW4];exact ((Below.refl _ w1).alloc (zzl _) _).drew);have hN4:W4.heap[w1.heap.size]?=some (.cells #[.int .i64 c,.int .i64 m] 153):=(by rw[hW4];exact qt w1 _ _ rfl);have hF4:=hF1.below hB4;obtain⟨i0',hi',hz0,hz1,hz2⟩:=info_parts Qv;obtain⟨v',w5,hrun,hO5,hg5,-,hv5⟩:=run_append_own_at (P:=Tryz.prog) (w:=W4) 0 87 87 153 i0' _ 2 16 Tryz.underlying87 hi' hz0 hz1 hz2 rfl (by decide) v.mv _ _ hF4.mks ⟨w1.heap.size,0,none⟩ 1 1 [.int .i64 c,.int .i64 m] rfl (xT hN4) (by simp[Value.oneCell']) (by simp;simp only[maxLen];omega) (by simp;omega) (Nat.zero_le _);obtain⟨g',cap',hv'⟩:=jH hO5 (by omega);obtain⟨m5,hm5⟩:∃ m5,m5=(f.marks.map k2).length+1:=⟨_,rfl⟩;rw[<-hm5] at hv' hO5;subst hv';have hBg:But (fun k=>v.mv.ownBlock=some k) W4 w5:=.of_grown hg5 (fun k e=>e);have hnb:¬v.mv.ownBlock=some b0:=qq h.mks h.blk (by decide);have hS5:=hBg.heap hF4.blk hnb;have hlt:b0<w.heap.size:=hCl _ h.cb;have s1:b0<w1.heap.size:=zzm hlt hB1.size;have s2:w.heap.size<w1.heap.size:=qh hK1;have c16:w1.cell? ⟨b0,16,none⟩=some v.mv:=qe hF1.blk 16;have y0:w1.cell? ⟨w.heap.size,0,none⟩=some (.int .i64 c):=qe hK1 0;have y1:w1.cell? ⟨w.heap.size,1,none⟩=some (.int .i64 m):=qe hK1 1;have s3:(w1.alloc (.cells #[.int .i64 c,.int .i64 m] 153)).cell? ⟨b0,16,none⟩=some v.mv:=((Below.refl w1.heap.size w1).alloc (zzl _) _).cell s1 |>.trans c16;have r1:w5.cell? ⟨b0,16,none⟩=some v.mv:=qe hS5 16;have r2:∀ j,w5.frozen? ⟨b0,j,none⟩=false:=fun j=>qj hS5 j;have hE:(∃ v',Fr (grow C w (w5.setCell ⟨b0,16,none⟩ (.slice (some ⟨g',0,none⟩) m5 cap'))) (w5.setCell ⟨b0,16,none⟩ (.slice (some ⟨g',0,none⟩) m5 cap')) b0 {f with marks:=f.marks++[(c,m)]} v')/\But C w (w5.setCell ⟨b0,16,none⟩ (.slice (some ⟨g',0,none⟩) m5 cap')):=by
  have sz1:=hB1.size;have sz4:=hB4.size;have sz5:=hBg.size;have hsz:(w5.setCell ⟨b0,16,none⟩ (.slice (some ⟨g',0,none⟩) m5 cap')).heap.size=w5.heap.size:=(by simp[World.setCell]);have hmlt:∀ k,v.mv.ownBlock=some k->k<w.heap.size:=fun k hk=>hCl k (h.mc k hk);have hb:But (fun k=>k=b0\/v.mv.ownBlock=some k) w (w5.setCell ⟨b0,16,none⟩ (.slice (some ⟨g',0,none⟩) m5 cap')):=(((But.of_below hB1).trans (.of_below hB4)).trans (hBg.wide (fun k _ e=>.inr e))).setCell (p:=⟨b0,16,none⟩) (.inl (.inl rfl)) _;have hOc:c2 (f.marks.map k2)++[.int .i64 c,.int .i64 m]=c2 ((f.marks++[(c,m)]).map k2):=(by rw[List.map_append,zs];rfl);have hm5':m5=((f.marks++[(c,m)]).map k2).length:=(by rw[hm5];simp);have hO5':qN w5 0 153 (.slice (some ⟨g',0,none⟩) m5 cap') ((f.marks++[(c,m)]).map k2):=by
   rw[hOc] at hO5;rw[qN,<-hm5'];exact hO5
  have hgb:¬g'=b0:=fun e=>by
   rcases hv5 with q | q
   ·exact hnb (by rw[<-q,<-e];rfl)
   ·have:=Option.some.inj (show some g'=some W4.heap.size from q);omega
  have hO6:qN (w5.setCell ⟨b0,16,none⟩ (.slice (some ⟨g',0,none⟩) m5 cap')) 0 153 (.slice (some ⟨g',0,none⟩) m5 cap') ((f.marks++[(c,m)]).map k2):=qi hO5' ((But.refl (fun k=>k=b0) w5).setCell (p:=⟨b0,16,none⟩) (.inl rfl) _) (fun k hk e=>by cases hk;exact hgb e);refine⟨⟨{v with mv:=.slice (some ⟨g',0,none⟩) m5 cap'},h.marked xn hb (qp (i:=16) hS5 _) hO6 ?_ ?_⟩,hb.wide ?_⟩
  ·intro k hk
   rcases hv5 with q | q
   ·exact .inl (h.mc k (by rw[<-q];exact hk))
   ·have hk':=(World.ownsRow.lt hO5' k hk).2;rw[hk] at q;have:=Option.some.inj q;exact .inr ⟨by omega,by rw[hsz];exact hk'⟩
  ·intro g hg k hk e;obtain⟨-,-,-,-,h5,-⟩:=h.fr g hg
   rcases hv5 with q | q
   ·exact (h5 k hk).2 (by rw[<-q];exact e)
   ·rw[e] at q;have:=Option.some.inj q;have:=hCl k (h5 k hk).1;omega
  ·rintro k _ (e | e)
   ·rw[e];exact h.cb
   ·exact h.mc k e
 have HE:=qg hE;have HR:=qg hrun;have HW1:=qg hw1;rw[hov] at c16 s3 r1 HR;subst hW4;clear hE hrun hw1 hB1 hF1 hB4 hN4 hF4 hi' hz0 hz1 hz2 hO5 hg5 hv5 hm5 hBg hnb hS5 h hn hov hK1
 go_enter Tryz.func141,Tryz.ntmps141
 go_wp2;rw[<-qb HW1]
 go_region_law (refine zS (by kernel_rfl) (.tmp 8) (.tmp 10) 87 87 (by kernel_rfl) (by kernel_rfl) (.slice ro n rc) (.slice (some ⟨w1.heap.size,0,none⟩) 1 1) _ _ (by kernel_rfl) (by kernel_rfl) (qb HR) ?_)
 all_goals
  (try simp only[Exit.then])
  (try go_simp)
  (try go_wp2)
  go_end0;exact⟨⟨_,rfl⟩,qb HE⟩
def zd (f:Frs):Frs×Int×List (Int×Int):=match f.frame with
 | none=>(f,0,[])
 | some g=>if g.left=[] then ({f with front:=g.buf,frame:=none},1,g.marks) else (f,0,[])
def less (C:Nat->Prop)(v:Value):Nat->Prop:=fun k=>C k/\v.ownBlock≠some k
theorem Yr (C:Nat->Prop):less C (.slice none 0 0)=C:=by funext k;simp[less,Value.ownBlock]
theorem Fr.shown {C:Nat->Prop}{w w':World}{b0:Nat}{f:Frs}{v:Fl}{g:Frm}(h:Fr C w b0 f v)(hg:f.frame=some g)(hb:But (fun k=>k=b0) w w')(n:Nat)
 (hblk:w'.heap[b0]?=some (.cells (qT {f with front:=n,frame:=none} v) 169 (0,0))):Fr (less C v.fm) w' b0 {f with front:=n,frame:=none} v:=by
 obtain⟨h1,h2,h3,h4,h5,h6⟩:=h.fr g hg;refine⟨hblk,⟨h.cb,qq h4 h.blk (by decide)⟩,?_,?_,h.pinj,h.sinj,qi h.mks hb (fun k hk e=>qq h.mks h.blk (by decide) (by rw[hk,e])),fun k hk=>⟨h.mc k hk,fun e=>(h5 k e).2 hk⟩,fun g' hg'=>by simp at hg'⟩
 ·intro i hi;obtain⟨q1,q2,q3⟩:=h.px i hi;exact⟨hb.heap q1 (fun e=>by have:=q1;rw[e,h.blk] at this;simp at this),⟨q2,qq h4 q1 (by decide)⟩,q3⟩
 ·intro i hi;obtain⟨q1,q2,q3⟩:=h.st i hi;exact⟨hb.heap q1 (fun e=>by have:=q1;rw[e,h.blk] at this;simp at this),⟨q2,qq h4 q1 (by decide)⟩,q3⟩
theorem qz0 {C:Nat->Prop}{w:World}{b0:Nat}{f:Frs}{v:Fl}(h:Fr C w b0 f v) :
 Calls Tryz.prog 85 #[.pointer (some ⟨b0,0,none⟩)] w fun e w'=>(∃ fv,e=.returned (.tuple #[.int .i64 (zd f).2.1,fv])/\Fr (less C fv) w' b0 (zd f).1 v/\qN w' 0 153 fv ((zd f).2.2.map k2)/\∀ k,fv.ownBlock=some k->C k)/\But (fun k=>k=b0) w w':=by
 have c14:w.cell? ⟨b0,14,none⟩=some (xD f v):=qe h.blk 14;have c13:w.cell? ⟨b0,13,none⟩=some (.int .i64 (f.front:Int)):=qe h.blk 13;have f0:∀ j,w.frozen? ⟨b0,j,none⟩=false:=fun j=>qj h.blk j;have lb:b0<w.heap.size:=qh h.blk
 cases hfr:f.frame with
 | none=>
  have e1:zd f=(f,0,[]):=(by simp[zd,hfr]);rw[e1];simp only[xD,hfr] at c14;have HH:=qg h;clear h e1
  go_enter Tryz.func85,Tryz.ntmps85
  go_wp2
  go_ret2
  exact⟨⟨.slice none 0 0,rfl,by rw[Yr];exact qb HH,⟨rfl,.inl ⟨rfl,rfl⟩⟩,fun k hk=>by simp[Value.ownBlock] at hk⟩,.refl _ _⟩
 | some g=>
  simp only[xD,hfr] at c14;obtain⟨h1,h2,h3,h4,h5,h6⟩:=h.fr g hfr;have d0:w.cell? ⟨v.fb,0,none⟩=some (.int .i64 (g.buf:Int)):=qe h1 0;have d1:w.cell? ⟨v.fb,1,none⟩=some v.fm:=qe h1 1;have d2:w.cell? ⟨v.fb,2,none⟩=some v.fl:=qe h1 2;have hne:¬v.fb=b0:=fun e=>by have:=h1;rw[e,h.blk] at this;simp at this
  obtain⟨ao,cap,el,q1,q2,q3⟩:=h6;rw[el] at d2;obtain⟨ro,rc,em⟩:=qr h4;obtain⟨mn,hmn⟩:∃ mn,mn=(g.marks.map k2).length:=⟨_,rfl⟩;rw[<-hmn] at em;rw[em] at d1;obtain⟨ln,hln⟩:∃ ln,ln=g.left.length:=⟨_,rfl⟩;rw[<-hln] at d2
  by_cases hl:g.left=[]
  ·have e1:zd f=({f with front:=g.buf,frame:=none},1,g.marks):=(by simp[zd,hfr,hl]);rw[e1];have hb:But (fun k=>k=b0) w (((w.setCell ⟨b0,13,none⟩ (.int .i64 (g.buf:Int))).setCell ⟨b0,14,none⟩ (.pointer none))):=((But.refl (fun k=>k=b0) w).setCell (p:=⟨b0,13,none⟩) (.inl rfl) _).setCell (p:=⟨b0,14,none⟩) (.inl rfl) _;have hF:=h.shown hfr hb g.buf (qp (i:=14) (qp (i:=13) h.blk _) _);have hO:qN (((w.setCell ⟨b0,13,none⟩ (.int .i64 (g.buf:Int))).setCell ⟨b0,14,none⟩ (.pointer none))) 0 153 v.fm (g.marks.map k2):=qi h4 hb (fun k hk e=>qq h4 h.blk (by decide) (by rw[hk,e]));have hE:(∃ fv,fv=(Value.slice ro mn rc)/\Fr (less C fv) ((w.setCell ⟨b0,13,none⟩ (.int .i64 (g.buf:Int))).setCell ⟨b0,14,none⟩ (.pointer none)) b0 {f with front:=g.buf,frame:=none} v/\qN ((w.setCell ⟨b0,13,none⟩ (.int .i64 (g.buf:Int))).setCell ⟨b0,14,none⟩ (.pointer none)) 0 153 fv (g.marks.map k2)/\∀ k,fv.ownBlock=some k->C k):=⟨_,em.symm ▸ rfl,hF,hO,fun k hk=>(h5 k hk).1⟩;have HE:=qg hE;have HB:=qg hb;have hl0:ln=0:=(by rw[hln,hl];rfl);subst hl0;clear h hF hO hE hb h1 h4 h5 q3 hmn hln el em e1
   go_enter Tryz.func85,Tryz.ntmps85
   go_wp2
   go_quiet (fail)
   go_wp2
   go_ret2
   obtain⟨fv,hfv,hr⟩:=qb HE;exact⟨⟨fv,by rw[hfv];rfl,hr.1.below (below_drewN (Below.refl _ _) nq),hr.2⟩,(qb HB).drewN _⟩
  ·have e1:zd f=(f,0,[]):=(by simp[zd,hfr,hl]);rw[e1];have HH:=qg h;have hl0:0<ln:=(by rw[hln];exact List.length_pos_iff.2 hl);have hl1:(0:Int)<(ln:Int):=(by omega);clear h e1 h1 h4 h5 q3 hmn hln el em
   go_enter Tryz.func85,Tryz.ntmps85
   go_wp2
   go_ret2
   exact⟨⟨.slice none 0 0,rfl,by rw[Yr];exact qb HH,⟨rfl,.inl ⟨rfl,rfl⟩⟩,fun k hk=>by simp[Value.ownBlock] at hk⟩,.refl _ _⟩
structure LvSt (C U:Nat->Prop)(w wr:World)(sb:Nat)(beh:Int)(l:List Srf)(c:Int)(cv dv:Value)(i:Nat)(C':Nat->Prop):Prop where
 gr:Gr C C' w wr
 sc:xu C' U wr sb beh (lvI l c i)
 cl:qN wr w.heap.size 173 cv ((l.map qw).map k2)
 cf:∀ k,cv.ownBlock=some k->¬C' k
 dm:Own wr w.heap.size dv (lvD l c i)
 df:∀ k,dv.ownBlock=some k->¬C' k
 but:But C w wr
theorem qn3 {C U:Nat->Prop}{w:World}{sb:Nat}{beh:Int}{l:List Srf}(h:xu C U w sb beh l)(hCU:∀ k,C k->¬U k)(hCl:∀ k,C k->k<w.heap.size)(hUl:∀ k,U k->k<w.heap.size)(hl:l.length<=1000)(c:Int) :
 Calls Tryz.prog 45 #[.pointer (some ⟨sb,0,none⟩),.int .i64 c] w (xK C U w sb beh (l.filter fun s=>!(s.cl == c)) ((l.filter fun s=>s.cl == c).flatMap jf)):=by
 have hnd:=h.nd;have h':=h;obtain⟨mb,ov,L,clock,bk,pv,hs⟩:=h;have c1:w.cell? ⟨sb,1,none⟩=some ov:=qe hs.scm.blk 1;have l1:sb<w.heap.size:=qh hs.scm.blk;have hk2:(l.map fun s=>k2 (qw s))=(l.map qw).map k2:=(by rw[List.map_map];rfl);have hrow:=hs.row;rw[hk2] at hrow;have HCl:=qg (KV hrow (Vs _) (by simp;omega));obtain⟨P,hP⟩:∃ P,P=xK C U w sb beh (l.filter fun s=>!(s.cl == c)) ((l.filter fun s=>s.cl == c).flatMap jf):=⟨_,rfl⟩;rw[<-hP];have HP:=qg hP;have HH:=qg h';have HND:=qg hnd;obtain⟨n,hn⟩:∃ n,n=l.length:=⟨_,rfl⟩;have HN:=qg hn;have hn1:n<=1000:=(by omega);clear hs h' hnd hk2 hrow hP hn hl
 go_enter Tryz.func45,Tryz.ntmps45
 go_wp2_with (go_at_call 78;refine (qb HCl).mono ?_;rintro e w1 ⟨⟨cv,rfl,hcv⟩,hb1⟩;obtain⟨cg,cc,hcf⟩:=qr hcv;rw[List.length_map,List.length_map,<-qb HN] at hcf;subst hcf;have HCV:=qg hcv;have HB1:=qg hb1;clear hcv hb1)
 go_loopw [5,14] (fun a b wr=>∃ (i:Nat)(C':Nat->Prop),b=.int .i64 (i:Int)/\i<=n/\LvSt C U w wr sb beh l c (.slice cg n cc) a i C') (fun a b _=>n-(intOf b).toNat)
 case atStart=>
  refine⟨0,C,rfl,Nat.zero_le _,.refl _ _ _,?_,qb HCV,fun k hk hc=>?_,⟨rfl,.inl ⟨rfl,rfl⟩⟩,fun k hk=>by simp[Value.ownBlock] at hk,.of_below (qb HB1)⟩
  ·rw[show lvI l c 0=l by simp[lvI]];exact (qb HH).below (qb HB1)
  ·have:=(World.ownsRow.lt (qb HCV) k hk).1;have:=hCl k hc;omega
 case round=>
  obtain⟨i,C',rfl,hin,st⟩:=hrel
  by_cases hlt:i<n
  ·obtain⟨s,hs⟩:∃ s,l[i]?=some s:=⟨l[i]'(by rw[<-qb HN];exact hlt),by simp⟩;obtain⟨g,cap,hg⟩:=jH st.cl (by simp;rw[<-qb HN];omega);simp only[Value.slice.injEq] at hg;obtain⟨rfl,-,-⟩:=hg;obtain⟨q0,q1⟩:=kR st.cl (p:=k2 (qw s)) (j:=i) (by rw[List.getElem?_map,List.getElem?_map,hs];rfl);simp only[k2,qw] at q0 q1;have lg:g<wr.heap.size:=(World.ownsRow.lt st.cl g rfl).2;have i0:(0:Int)<=(i:Int):=(by omega);have i1:(i:Int)<(n:Int):=(by omega);have ST:=qg st;have HS:=qg hs;clear st hs
   by_cases hc:s.cl=c
   ·have hsm:s∈lvI l c i:=zb4 (qb HS);have hlen:(lvI l c i).length<=1000:=Nat.le_trans (qe1 l c i).length_le (by rw[<-qb HN];exact hn1);obtain⟨w2,hw2⟩:∃ w2:World,w2=wr.alloc (.cells #[.int .i64 s.cl,.int .i64 s.num] 173):=⟨_,rfl⟩;have hB2:Below wr.heap.size wr w2:=(by rw[hw2];exact (Below.refl _ wr).alloc (zzl _) _);have hCl':∀ k,C' k->k<wr.heap.size:=(qb ST).gr.lt hCl (qb ST).but.size;have hCU':∀ k,C' k->¬U k:=(qb ST).gr.apart hCU hUl;have hnI:((lvI l c i).map qw).Nodup:=(qb HND).sublist ((qe1 l c i).map qw);have hD:=qz1 ((qb ST).sc.below hB2) hCU' (fun k hk=>zzm (hCl' k hk) hB2.size) hlen s.cl (opD s.num) none 0 0 ⟨none,0,rfl,zzl _,Nat.zero_le _,fun h=>absurd rfl h⟩ (.inr ⟨⟨by simp[opD],by simp[opD]⟩,List.mem_map.2 ⟨s,hsm,rfl⟩⟩);rw[qt3 hsm,dmgO_D hsm hnI] at hD;unfold ZI yt opD at hD;simp only at hD;have HD:=qg hD;have HW2:=qg hw2;have HB2:=qg hB2;have HCl':=qg hCl';have HCU':=qg hCU';obtain rfl:=hc;have HLen:=qg (show (lvD l s.cl i).length+(jf s).length<=1000000000 by
     have h1:=zb6 l s.cl i;have h2:(jf s).length<=2:=(by unfold jf vd;split<;>(try split)<;>simp);have h3:=qb HN;omega)
    clear hD hw2 hB2 hCl' hCU' hsm hlen hnI
    go_wp2_with (first
      | (go_at_call 79
         rw[<-qb HW2]
         refine (qb HD).mono ?_
         rintro e w3 ⟨⟨v,C'',rfl,hgr,hsc,hOv,hvf⟩,hb3⟩
         have hO3:Own w3 w.heap.size u5 (lvD l s.cl i):=Own.but (Own.kept (qb ST).dm (qb HB2)) hb3 (fun k hk=>(qb ST).df k hk)
         have hsz3:w.heap.size<=w3.heap.size:=Nat.le_trans (qb ST).but.size (Nat.le_trans (qb HB2).size hb3.size)
         obtain⟨v',w4,hrun,hO4,hb4,hv4⟩:=Q6 hO3 hOv (qb HLen) hsz3
         have HRun:=qg hrun
         have HGR:=qg hgr
         have HSC:=qg hsc
         have HB3:=qg hb3
         have HO3:=qg hO3
         have HO4:=qg hO4
         have HB4:=qg hb4
         have HV4:=qg hv4
         clear hgr hsc hOv hvf hb3 hO3 hrun hO4 hb4 hv4 hsz3)
      | (at_builtin;refine zq rfl _ _ 47 47 rfl rfl _ _ _ _ rfl rfl (qb HRun) ?_))
    go_roundw
    case rel=>
     have st:=qb ST;have s2:=(qb HB2).size;have s3:=(qb HB3).size;have s4:=(qb HB4).size;have gr3:Gr C C'' w w3:=st.gr.trans ((qb HGR).wide s2 (zzl _)) st.but.size (Nat.le_trans s2 s3);have lt3:=gr3.lt hCl (Nat.le_trans st.but.size (Nat.le_trans s2 s3));have hfar:∀ k,k<wr.heap.size->¬C' k->¬C'' k:=fun k hk hn hc=>by
      rcases (qb HGR).new k hc with q | q
      ·exact hn q
      ·omega
     have hdf:∀ k,u5.ownBlock=some k->¬C'' k:=fun k hk=>hfar k (World.ownsRow.lt st.dm k hk).2 (st.df k hk);refine⟨i+1,C'',by go_num,by omega,gr3.wide (zzl _) s4,?_,?_,?_,?_,?_,?_⟩
     ·rw[zb3 (qb HND) (qb HS) rfl];refine (qb HSC).but (qb HB4) (fun k hk e=>hdf k e hk) (fun k hu e=>?_);have:=(World.ownsRow.lt st.dm k e).1;have:=hUl k hu;omega
     ·refine qi (qi (qi st.cl (S:=fun _=>False) (.of_below (qb HB2)) (fun _ _ h=>h)) (qb HB3) (fun k hk=>st.cf k hk)) (qb HB4) (fun k hk e=>?_);exact qS st.cl st.dm (by decide) hk e
     ·exact fun k hk=>hfar k (World.ownsRow.lt st.cl k hk).2 (st.cf k hk)
     ·rw[zb5 (qb HS) rfl];exact qb HO4
     ·intro k hk hc
      rcases qb HV4 with q | q
      ·exact hdf k (by rw[<-q];exact hk) hc
      ·rw[hk] at q;have:=Option.some.inj q;have:=lt3 k hc;omega
     ·refine ((((st.but.trans (.of_below (qb HB2))).step (qb HB3) (fun k hk=>?_))).step (qb HB4) (fun k hk=>.inr (World.ownsRow.lt st.dm k hk).1))
      rcases st.gr.new k hk with q | q
      ·exact .inl q
      ·exact .inr q.1
    case measure=>simp[intOf];omega
   ·have hce:(s.cl == c)=false:=(by simp[hc]);go_wp2
    go_roundw
    case rel=>
     have st:=qb ST;have hB2:Below wr.heap.size wr (wr.alloc (.cells #[.int .i64 s.cl,.int .i64 s.num] 173)):=(Below.refl _ wr).alloc (zzl _) _;refine⟨i+1,C',by go_num,by omega,st.gr.wide (zzl _) hB2.size,?_,qi st.cl (S:=fun _=>False) (.of_below hB2) (fun _ _ h=>h),st.cf,?_,st.df,st.but.trans (.of_below hB2)⟩
     ·rw[qj7 (qb HS) hc];exact st.sc.below hB2
     ·rw[qj8 (qb HS) hc];exact Own.kept st.dm hB2
    case measure=>simp[intOf];omega
  ·have:i=n:=(by omega);subst this;have e1:lvI l c i=l.filter fun s=>!(s.cl == c):=(by unfold lvI;rw[qb HN];simp);have e2:lvD l c i=(l.filter fun s=>s.cl == c).flatMap jf:=(by unfold lvD;rw[qb HN];simp);have hfin:P (.returned u5) wr:=by
    rw[qb HP,<-e1,<-e2];exact⟨⟨u5,C',rfl,st.gr,st.sc,st.dm,st.df⟩,st.but⟩
   have HF:=qg hfin;clear st hfin e1 e2;go_wp2;exact qb HF
end Go.Proofs.YtfnockbgkcgpkaaGreat
