import Derived.Test.YtfnockbgkcgpkaaGreatTkah
import Derived.Test.YtfnockbgkcgpkaaGreatTkat
import Derived.Test.YtfnockbgkcgpkaaGreatTkaw
import Derived.Laws.MakeOwn
import Derived.Deep.AppendLies
import Derived.Deep.RegionLaw
import Derived.Deep.RegionHeld3
set_option linter.all false
set_option maxRecDepth 100000
set_option maxHeartbeats 16000000
namespace Go.Proofs.YtfnockbgkcgpkaaGreat
open Go.RowKit Go.Proofs.Panes
section
attribute [local go_sem ↓] Go.wp_at_zero Go.wp_at_succ
theorem kO (w:World)(n base:Nat)(hb:base<=w.heap.size)(hn:n<=1000000):ze (w.alloc (.cells (Array.replicate n (Value.bool false)) 4)) base (.slice (some ⟨w.heap.size,0,none⟩) n n) (List.replicate n false):=by
 have h:=World.ownsRow_lit (base:=base) (e:=4) (size:=1) w (Array.replicate n (Value.bool false)) n hb (by unfold maxLen;omega) (by simp);unfold ze;rw[List.length_replicate];simpa using h
def zy:List DCl->Option Nat
 | []=>none
 | c::l=>if c.there=false then some 0 else (zy l).map (· + 1)
theorem ku:∀ (l:List DCl)(k:Nat)(c:DCl),(∀ (i:Nat)(d:DCl),i<k->l[i]?=some d->d.there=true)->l[k]?=some c->c.there=false->zy l=some k
 | [],k,c,_,h,_=>by simp at h
 | d::l,0,c,_,h,hc=>by
  simp at h;subst h;simp[zy,hc]
 | d::l,k+1,c,hb,h,hc=>by
  have hd:=hb 0 d (by omega) rfl;have ih:=ku l k c (fun i x hi hx=>hb (i+1) x (by omega) (by simpa using hx)) (by simpa using h) hc;simp[zy,hd,ih]
theorem kw:∀ (l:List DCl),(∀ (i:Nat)(d:DCl),l[i]?=some d->d.there=true)->zy l=none
 | [],_=>rfl
 | d::l,hb=>by
  have hd:=hb 0 d rfl;have ih:=kw l (fun i x hx=>hb (i+1) x (by simpa using hx));simp[zy,hd,ih]
theorem qf4 {w:World}{cb:Nat}{cl:List DCl}{j:Nat}(h:w.heap[cb]?=some (.cells (qG cl).toArray 123))(c:DCl)(hj:j<cl.length) :
 ((((w.setCell ⟨cb,j*4,none⟩ (.bool c.there)).setCell ⟨cb,j*4+1,none⟩ c.q).setCell ⟨cb,j*4+2,none⟩ (.int .i64 c.cr)).setCell ⟨cb,j*4+3,none⟩ c.wv).heap[cb]?=some (.cells (qG (cl.set j c)).toArray 123):=by
 have h1:=qp (i:=j*4) h (.bool c.there);have h2:=qp (i:=j*4+1) h1 c.q;have h3:=qp (i:=j*4+2) h2 (.int .i64 c.cr);have h4:=qp (i:=j*4+3) h3 c.wv;rw[h4,<-JQ cl j c hj];simp
theorem YO {w:World}{sp cb:Nat}{c:Cfg}{cl:List DCl}(h:jR w sp cb c cl){k:Nat}(hk:k<cl.length)(S:Nat)(hS:S<=1000000) :
 jR ((((((w.setCell ⟨cb,k*4,none⟩ (.bool true)).setCell ⟨cb,k*4+1,none⟩ (.slice none 0 0)).setCell ⟨cb,k*4+2,none⟩ (.int .i64 0)).setCell ⟨cb,k*4+3,none⟩ (.slice (some ⟨w.heap.size,0,none⟩) S S)).alloc (.cells (Array.replicate S (Value.bool false)) 4)).drew) sp cb c (cl.set k ⟨true,.slice none 0 0,0,.slice (some ⟨w.heap.size,0,none⟩) S S⟩)/\
 ze ((((((w.setCell ⟨cb,k*4,none⟩ (.bool true)).setCell ⟨cb,k*4+1,none⟩ (.slice none 0 0)).setCell ⟨cb,k*4+2,none⟩ (.int .i64 0)).setCell ⟨cb,k*4+3,none⟩ (.slice (some ⟨w.heap.size,0,none⟩) S S)).alloc (.cells (Array.replicate S (Value.bool false)) 4)).drew) w.heap.size (.slice (some ⟨w.heap.size,0,none⟩) S S) (List.replicate S false)/\
 But (fun k=>k=cb) w ((((((w.setCell ⟨cb,k*4,none⟩ (.bool true)).setCell ⟨cb,k*4+1,none⟩ (.slice none 0 0)).setCell ⟨cb,k*4+2,none⟩ (.int .i64 0)).setCell ⟨cb,k*4+3,none⟩ (.slice (some ⟨w.heap.size,0,none⟩) S S)).alloc (.cells (Array.replicate S (Value.bool false)) 4)).drew):=by
 have hp:=qf4 h.cls ⟨true,.slice none 0 0,0,.slice (some ⟨w.heap.size,0,none⟩) S S⟩ hk;simp only at hp;have hsz:((((w.setCell ⟨cb,k*4,none⟩ (.bool true)).setCell ⟨cb,k*4+1,none⟩ (.slice none 0 0)).setCell ⟨cb,k*4+2,none⟩ (.int .i64 0)).setCell ⟨cb,k*4+3,none⟩ (.slice (some ⟨w.heap.size,0,none⟩) S S)).heap.size=w.heap.size:=(by simp[World.setCell]);have hB:But (fun k=>k=cb) w ((((w.setCell ⟨cb,k*4,none⟩ (.bool true)).setCell ⟨cb,k*4+1,none⟩ (.slice none 0 0)).setCell ⟨cb,k*4+2,none⟩ (.int .i64 0)).setCell ⟨cb,k*4+3,none⟩ (.slice (some ⟨w.heap.size,0,none⟩) S S)):=by
  have hS:∀ (j:Nat)(u:Value){v:World},But (fun k=>k=cb) w v->But (fun k=>k=cb) w (v.setCell ⟨cb,j,none⟩ u):=fun j u v h=>h.setCell (p:=⟨cb,j,none⟩) (.inl rfl) u;exact hS _ _ (hS _ _ (hS _ _ (hS _ _ (But.refl _ w))))
 generalize (((w.setCell ⟨cb,k*4,none⟩ (.bool true)).setCell ⟨cb,k*4+1,none⟩ (.slice none 0 0)).setCell ⟨cb,k*4+2,none⟩ (.int .i64 0)).setCell ⟨cb,k*4+3,none⟩ (.slice (some ⟨w.heap.size,0,none⟩) S S)=W at *;obtain⟨cs,hs,q⟩:=h.scr;refine⟨⟨⟨cs,?_,by simpa using q⟩,?_⟩,?_,(hB.alloc _).drew⟩
 ·exact (hB.alloc _).heap hs h.apart
 ·exact qx hp _
 ·have:=kO W S w.heap.size (by omega) hS;rw[hsz] at this;exact World.ownsRow.drew this
theorem JO {w:World}{sp cb:Nat}{c:Cfg}{cl:List DCl}(h:jR w sp cb c cl)(S:Nat)(hS:c.surfaces=S)(hS4:S<=4)(hcl:cl.length<=4) :
 Calls Tryz.prog 16 #[.pointer (some ⟨sp,0,none⟩)] w fun e w'=>(∃ k,zy cl=some k/\e=.returned (.tuple #[.int .i64 (k:Nat),.int .i64 0])/\∃ g,w.heap.size<=g/\jR w' sp cb c (cl.set k ⟨true,.slice none 0 0,0,.slice (some ⟨g,0,none⟩) S S⟩)/\ze w' w.heap.size (.slice (some ⟨g,0,none⟩) S S) (List.replicate S false)/\But (fun k=>k=cb) w w')\/(zy cl=none/\e=.returned (.tuple #[.int .i64 0,.int .i64 5])/\w'=w):=by
 obtain⟨cs,hs,q0,q1,q2,q3,q4,q5,q6,q7,q8⟩:=id h.scr;have c8:w.cell? ⟨sp,8,none⟩=some (.slice (some ⟨cb,0,none⟩) cl.length cl.length):=(by rw[qe hs];exact q8);have c6:w.cell? ⟨sp,6,none⟩=some (.int .i64 (S:Int)):=(by rw[qe hs,q6,hS]);have hc:=h.cls;have hsp:=qh hs;have hcb:=qh hc;have hne:=h.apart;have hmk:=xB S (by omega);have HH:=qg h;have HC:=qg hc;clear hs q0 q1 q2 q3 q4 q5 q6 q7 q8 h hc
 go_enter Tryz.func16,Tryz.ntmps16
 go_wp2
 go_loopw [2,3,4] (fun r2 r3 i wr=>r2=.int .i64 0/\r3=.int .i64 0/\∃ k:Nat,k<=cl.length/\i=.int .i64 k/\wr=w/\∀ i d,i<k->cl[i]?=some d->d.there=true) (fun _ _ i _=>cl.length-(intOf i).toNat)
 case atStart=>exact⟨rfl,rfl,0,Nat.zero_le _,rfl,rfl,fun i d hi=>by omega⟩
 case round=>
  obtain⟨rfl,rfl,k,hk,rfl,ew,hall⟩:=hrel;have hall':=qg hall;clear hall;subst ew
  by_cases hlt:k<cl.length
  ·obtain⟨d,hd⟩:∃ d,cl[k]?=some d:=⟨cl[k],by simp[hlt]⟩;obtain⟨a0,a1,a2,a3⟩:=jC cl k d hd;have b0:wr.cell? ⟨cb,k*4,none⟩=some (.bool d.there):=(by rw[qe (qb HC)];simpa using a0);have b1:wr.cell? ⟨cb,k*4+1,none⟩=some d.q:=(by rw[qe (qb HC)];simpa using a1);have b2:wr.cell? ⟨cb,k*4+2,none⟩=some (.int .i64 d.cr):=(by rw[qe (qb HC)];simpa using a2);have b3:wr.cell? ⟨cb,k*4+3,none⟩=some d.wv:=(by rw[qe (qb HC)];simpa using a3);have bf:∀ j,wr.frozen? ⟨cb,j,none⟩=false:=qj (qb HC);have i0:(0:Int)<=(k:Int):=(by omega);have i1:(k:Int)<(cl.length:Int):=(by omega);obtain⟨th,hth⟩:∃ th,th=d.there:=⟨_,rfl⟩;rw[<-hth] at b0;have HT:=qg hth;have HD:=qg hd;clear a0 a1 a2 a3 hth hd
   cases th with
   | true=>
    go_wp2
    go_roundw
    case rel=>
     refine⟨rfl,rfl,k+1,by omega,by go_num,by first | rfl | trivial,fun i x hi hx=>?_⟩
     rcases Nat.lt_or_ge i k with c | c
     ·exact (qb hall') i x c hx
     ·have e:i=k:=(by omega);subst e;rw[qb HD] at hx
      cases hx
      exact (qb HT).symm
    case measure=>simp[intOf];omega
   | false=>
    go_wp2;go_region;go_wp2
    go_ret2
    exact .inl ⟨k,ku cl k d (qb hall') (qb HD) (qb HT).symm,rfl,wr.heap.size,zzl _,YO (qb HH) hlt S (by omega)⟩
  ·have i1:¬(k:Int)<(cl.length:Int):=(by omega);go_wp2
   go_ret2
   refine .inr ⟨kw cl fun i d hd=>(qb hall') i d ?_ hd,rfl,rfl⟩;have:=(zzg hd).1;omega
end
section
attribute [local go_sem ↓] Go.wp_at_zero Go.wp_at_succ
theorem kz (U:Nat->Prop)(v:Value)(l:List Opn)(w:World)(hR:RdO U w v l)(hl:l.length<=1000)(hs:∀ o∈l,Qk o) :
 Calls Tryz.prog 60 #[v] w fun e w'=>e=.returned (.int .i64 (qA l))/\Below w.heap.size w w':=by
 obtain⟨ao,cap,rfl,h1,h2,h3⟩:=id hR;have HR:=qg hR;have HSm:=qg hs;clear hR hs h3
 go_enter Tryz.func60,Tryz.ntmps60
 go_wp2
 go_loopw [3,4] (fun n i wr=>∃ k:Nat,k<=l.length/\i=.int .i64 k/\n=.int .i64 ((l.length:Int)+((l.take k).map jw).sum)/\Below w.heap.size w wr) (fun _ i _=>l.length-(intOf i).toNat)
 case atStart=>exact⟨0,Nat.zero_le _,rfl,by simp,Below.refl _ _⟩
 case round=>
  rename World=>wq;obtain⟨k,hk,rfl,rfl,hbel⟩:=hrel
  by_cases hlt:k<l.length
  ·obtain⟨o,ho⟩:∃ o,l[k]?=some o:=⟨l[k],by simp[hlt]⟩;obtain⟨ao',cap',e,_,_,h3⟩:=(qb HR).below hbel;simp only[Value.slice.injEq,true_and] at e;obtain⟨rfl,rfl⟩:=e;obtain⟨b,off,rfl,_,_,hc⟩:=h3 (by intro e;rw[e] at hlt;simp at hlt);obtain⟨c0,_,_,_,c4,c5,_,_⟩:=hc k o ho;have hsm:=(qb HSm) o (zzn ho);have hob:=QN hsm;have hsb:=X4 (l.take k) (fun x hx=>(qb HSm) x (List.mem_of_mem_take hx));have hst:=Qc ho;rw[List.length_take] at hsb;have i0:(0:Int)<=(k:Int):=(by omega);have i1:(k:Int)<(l.length:Int):=(by omega);obtain⟨s,hs⟩:∃ s,s=((l.take k).map jw).sum:=⟨_,rfl⟩;rw[<-hs] at hsb hst ⊢;have HB:=qg hbel;have HS:=qg hs;have HST:=qg hst;clear hbel h3 hc hs hst ho
   by_cases h3k:o.kind=3
   ·have hoc:jw o=o.w*o.h:=(by unfold jw;rw[if_pos h3k]);have hm:IntKind.i64.wrap (o.w*o.h)=o.w*o.h:=(by rw[IntKind.wrap_i64];omega);have ha:IntKind.i64.wrap ((l.length:Int)+s+o.w*o.h)=(l.length:Int)+s+o.w*o.h:=(by rw[IntKind.wrap_i64];omega);have HOC:=qg hoc;rw[h3k] at c0;clear hoc hob hsb hsm;go_wp2
    go_quiet (fail)
    go_wp2
    go_roundw
    case rel=>
     refine⟨k+1,by omega,by go_num,?_,below_drewN (qb HB) _⟩;rw[qb HST,qb HOC]
     congr 1
     omega
    case measure=>simp[intOf];omega
   ·have hoc:jw o=0:=(by unfold jw;rw[if_neg h3k]);have HOC:=qg hoc;have h3b:(o.kind == 3)=false:=(by simpa using h3k);clear hoc hob hsb hsm;go_wp2
    go_roundw
    case rel=>
     refine⟨k+1,by omega,by go_num,?_,qb HB⟩;rw[qb HST,qb HOC,Int.add_zero]
    case measure=>simp[intOf];omega
  ·obtain rfl:k=l.length:=(by omega);have HB:=qg hbel;clear hbel;have e:(l.length:Int)+((l.take l.length).map jw).sum=qA l:=(by rw[List.take_length];rfl);rw[e];clear e;go_wp2;go_ret;exact⟨rfl,qb HB⟩
end
section
attribute [local go_sem ↓] Go.wp_at_zero Go.wp_at_succ
theorem qm2 (l:List Bool):∀ u∈l.map Value.bool,u.oneCell'=true:=by
 intro u hu;obtain⟨b,_,rfl⟩:=List.mem_map.1 hu
 rfl
theorem JT {w:World}{ops:Array Oper}{rest:List Oper}{o:Oper}{a:Act}{Q:Exit->Act->World->Prop}(hgd:o.guard=none)(d s:Operand)
 (ho:o.op=.call {callee:=.builtin .copy,args:=#[d,s],argTypes:=#[116,116]}) (base bs g n cap:Nat) (D l:List Bool) (v:Value) (hd:a.eval d=.slice (some ⟨g,0,none⟩) n n) (hs:a.eval s=v)
 (hO:ze w base (.slice (some ⟨g,0,none⟩) n n) D) (hn:D.length=n) (hR:ze w bs v l) (hl:l.length=n) (hpos:0<n)
 (h:∀ w',ze w' base (.slice (some ⟨g,0,none⟩) n n) l->w.grownBy w' (some g)->wpList Tryz.prog ops Q rest (a.put o.dst (goInt n)) w'):wpList Tryz.prog ops Q (o::rest) a w:=by
 obtain⟨i0,hi,hz0,hz1,hz2⟩:=info_parts JB;obtain⟨g',c',rfl,_,_⟩:=qi6 hR (by intro e;subst e;simp at hl;omega);refine wpList_plain hgd fun K hK=>?_
 rcases hO.2 with ⟨e,_⟩ | ⟨k,c,cur,e,hbk,hk,hcc,hm,hz,ht⟩
 ·cases e
 ·simp only[Value.slice.injEq,Option.some.injEq,Addr.mk.injEq,and_true] at e;obtain⟨rfl,e,rfl⟩:=e;have hrun:=vU (P:=Tryz.prog) w 116 116 o.type 4 1 g 0 n n ⟨g',0,none⟩ l.length c' cur 4 (l.map Value.bool) n Tryz.underlying116 (by rw[hi];simp[hz1]) hk (by rw[hl];exact (Nat.min_self n).symm) (by simp[hl]) (World.ownsRow.cells hR rfl) (by simp[hl,hz]) (qm2 l);have e1:(cur.toList.take 0++l.map Value.bool++cur.toList.drop (0+(l.map Value.bool).length))=l.map Value.bool:=by
   rw[List.take_zero,List.nil_append,Nat.zero_add,List.length_map,List.drop_of_length_le (by simp[hz,hl]),List.append_nil]
  rw[e1] at hrun;have hh:=h (w.setRow g (l.map Value.bool).toArray) ?_ ?_
  ·unfold Oper.wp;simp[execOp,ho,resolve,invoke,builtin,hd,hs,hrun,Result.andThen];exact hK _ _ hh
  ·unfold ze;rw[hl];refine⟨by simp[hl],.inr ⟨g,n,_,rfl,hbk,setRow_heap w g cur _ _ _ hk,zzl _,hm,by simp[hl],?_⟩⟩;rw[List.take_of_length_le (by simp[hl])]
  ·exact⟨rfl,rfl,rfl,by simp[World.setRow],fun k hk hne=>setRow_other w g k _ (fun e=>hne (by rw[e]))⟩
end
section
attribute [local go_sem ↓] Go.wp_at_zero Go.wp_at_succ
theorem yA (c:Cfg)(w:World):Calls Tryz.prog 73 #[vF c] w fun e w'=>e=.returned (.bool (jU c))/\Below w.heap.size w w':=by
 obtain⟨a,b,d,e,f,g,h,i⟩:=c;unfold vF jU;simp only;have hin:∀ (n lo hi:Int)(w:World),Calls Tryz.prog 58 #[.int .i64 n,.int .i64 lo,.int .i64 hi] w fun e w'=>e=.returned (.bool (inB n lo hi))/\w'=w:=fun n lo hi w=>qZ n lo hi w;have HIN:=qg hin;clear hin;obtain⟨b1,h1⟩:∃ b1,b1=inB a 1 16:=⟨_,rfl⟩;obtain⟨b2,h2⟩:∃ b1,b1=inB b 1 16:=⟨_,rfl⟩;obtain⟨b3,h3⟩:∃ b1,b1=inB d 1 4:=⟨_,rfl⟩;obtain⟨b4,h4⟩:∃ b1,b1=inB e 1 8:=⟨_,rfl⟩;obtain⟨b5,h5⟩:∃ b1,b1=inB f 1 300:=⟨_,rfl⟩;obtain⟨b6,h6⟩:∃ b1,b1=inB g f 600:=⟨_,rfl⟩;obtain⟨b7,h7⟩:∃ b1,b1=inB h 1 4:=⟨_,rfl⟩;obtain⟨b8,h8⟩:∃ b1,b1=inB i 1 4294967295:=⟨_,rfl⟩;have c1:=qg ((qb HIN) a 1 16);have c2:=qg ((qb HIN) b 1 16);have c3:=qg ((qb HIN) d 1 4);have c4:=qg ((qb HIN) e 1 8);have c5:=qg ((qb HIN) f 1 300);have c6:=qg ((qb HIN) g f 600);have c7:=qg ((qb HIN) h 1 4);have c8:=qg ((qb HIN) i 1 4294967295);rw[<-h1] at c1 ⊢;rw[<-h2] at c2 ⊢;rw[<-h3] at c3 ⊢;rw[<-h4] at c4 ⊢;rw[<-h5] at c5 ⊢;rw[<-h6] at c6 ⊢;rw[<-h7] at c7 ⊢;rw[<-h8] at c8 ⊢;clear HIN h1 h2 h3 h4 h5 h6 h7 h8
 go_enter Tryz.func73,Tryz.ntmps73
 go_wp2_with (go_at_call 58;first
   | (refine ((qb c1) _).mono ?_;rintro e w' ⟨rfl,rfl⟩;clear c1)
   | (refine ((qb c2) _).mono ?_;rintro e w' ⟨rfl,rfl⟩;clear c2)
   | (refine ((qb c3) _).mono ?_;rintro e w' ⟨rfl,rfl⟩;clear c3)
   | (refine ((qb c4) _).mono ?_;rintro e w' ⟨rfl,rfl⟩;clear c4)
   | (refine ((qb c5) _).mono ?_;rintro e w' ⟨rfl,rfl⟩;clear c5)
   | (refine ((qb c6) _).mono ?_;rintro e w' ⟨rfl,rfl⟩;clear c6)
   | (refine ((qb c7) _).mono ?_;rintro e w' ⟨rfl,rfl⟩;clear c7)
   | (refine ((qb c8) _).mono ?_;rintro e w' ⟨rfl,rfl⟩;clear c8))
 all_goals go_ret
 all_goals refine⟨by first | rfl | simp_all,?_⟩
 all_goals repeat (first | exact Below.refl _ _ | refine Below.alloc ?_ (zzl _) _)
end
section
attribute [local go_sem ↓] Go.wp_at_zero Go.wp_at_succ
theorem Qx:∀ (l:List DCl)(j:Nat)(d:DCl)(q' wv':Value),l[j]?=some d->((qG l).set (j*4+3) wv').set (j*4+1) q'=qG (l.set j ⟨d.there,q',d.cr,wv'⟩)
 | [],j,d,_,_,h=>by simp at h
 | q::l,0,d,_,_,h=>by
  simp at h;subst h;rfl
 | q::l,j+1,d,q',wv',h=>by
  have ih:=Qx l j d q' wv' (by simpa using h);show _=zK q++qG (l.set j _);rw[<-ih];have e:∀ (X:List Value)(t:Nat)(u:Value),(zK q++X).set ((j+1)*4+t) u=zK q++X.set (j*4+t) u:=fun X t u=>by
   rw[List.set_append_right _ _ (by simp[zK];omega)]
   congr 2
   simp[zK];omega
  show ((zK q++qG l).set _ _).set _ _=_;rw[e,e]
theorem Xm {w:World}{sp cb:Nat}{c:Cfg}{cl:List DCl}(h:jR w sp cb c cl)(n:Int)(ao:Option Addr)(len cap:Nat)(hlen:len<=17592186044416)(hbad:(jt cl n&&inB len 1 20)=false) :
 Calls Tryz.prog 27 #[.pointer (some ⟨sp,0,none⟩),.int .i64 n,.slice ao len cap] w fun e w'=>e=.returned (.int .i64 3)/\w'=w:=by
 have HT:=qg (v6 h n);clear h;obtain⟨t,ht⟩:∃ t,t=jt cl n:=⟨_,rfl⟩;rw[<-ht] at hbad HT;clear ht
 cases t with
 | false=>
  go_enter Tryz.func27,Tryz.ntmps27
  go_wp2_with (go_at_call 47;refine (qb HT).mono ?_;rintro e w' ⟨rfl,hw'⟩;have hw2:=hw'.symm;clear hw';subst hw2)
  go_ret;exact⟨rfl,rfl⟩
 | true=>
  have hb:(decide ((1:Int)<=(len:Int))&&decide ((len:Int)<=(20:Int)))=false:=(by simpa[inB] using hbad);clear hbad
  go_enter Tryz.func27,Tryz.ntmps27
  go_wp2_with (first | (go_at_call 47;refine (qb HT).mono ?_;rintro e w' ⟨rfl,hw'⟩;have hw2:=hw'.symm;clear hw';subst hw2;clear HT) | (go_at_call 58;refine (qZ _ _ _ _).mono ?_;rintro e w' ⟨rfl,hw'⟩;have hw2:=hw'.symm;clear hw';subst hw2))
  go_ret;exact⟨rfl,rfl⟩
end
section
attribute [local go_sem ↓] Go.wp_at_zero Go.wp_at_succ
def jp:DCl:=⟨false,.slice none 0 0,0,.slice none 0 0⟩
theorem Yv:(Tryz.prog.info? 123).map (fun i=>(i.zero,i.size,i.bytes))=some (some (.agg #[.bool false,.slice none 0 0,.int .i64 0,.slice none 0 0]),4,64):=by kernel_rfl
theorem Vq (n:Nat):madeCells #[.bool false,.slice none 0 0,.int .i64 0,.slice none 0 0] (n*4)=(qG (List.replicate n jp)).toArray:=by
 apply Array.ext';apply List.ext_getElem?;intro j
 by_cases hj:j<n*4
 ·obtain⟨q,t,hq,ht⟩:∃ q t,j=q*4+t/\t<4:=⟨j/4,j%4,by omega,by omega⟩;have hql:q<n:=(by omega);have hat:=jC (List.replicate n jp) q jp (by simp[hql]);have hm:(madeCells #[.bool false,.slice none 0 0,.int .i64 0,.slice none 0 0] (n*4)).toList[j]?=some ((#[Value.bool false,.slice none 0 0,.int .i64 0,.slice none 0 0]:Array Value)[j%4]!):=(by simp[madeCells,hj]);rw[hm];subst hq;have e:(q*4+t)%4=t:=(by omega);rw[e]
  match t,ht with
  | 0,_=>exact hat.1.symm
  | 1,_=>exact hat.2.1.symm
  | 2,_=>exact hat.2.2.1.symm
  | 3,_=>exact hat.2.2.2.symm
 ·have h1:(qG (List.replicate n jp)).length=n*4:=(by rw[qa8];simp);rw[List.getElem?_eq_none (by simp[size_madeCells];omega),List.getElem?_eq_none (by simp;omega)]
theorem QR (n:Nat)(hn:n<=1000)(u:World):(Instr.makeSlice 114 (.int .i64 (n:Int)) (.int .i64 (n:Int))).run Tryz.prog u=.ok (.slice (some ⟨u.heap.size,0,none⟩) n n) (u.alloc (.cells (qG (List.replicate n jp)).toArray 123)):=by
 obtain⟨i0,hi,hz0,hz1,hz2⟩:=info_parts Yv;have h:=run_make (P:=Tryz.prog) u 114 123 i0 _ Tryz.underlying114 hi hz0 .i64 .i64 (n:Int) (n:Int) (by omega) (Int.le_refl _) (by rw[hz2];omega) (by omega);simp only[Int.toNat_natCast,hz1] at h;rw[<-Vq];simpa[Value.cells] using h
theorem qa6 (c:Cfg)(w:World)(hc:jU c=false) :
 Calls Tryz.prog 41 #[vF c] w fun e w'=>e=.returned (.tuple #[.pointer none,.int .i64 2])/\Below w.heap.size w w':=by
 obtain⟨a,b,d,e,f,g,h,i⟩:=c;have HC:Hid (∀ w,Calls Tryz.prog 73 #[.agg #[.int .i64 a,.int .i64 b,.int .i64 d,.int .i64 e,.int .i64 f,.int .i64 g,.int .i64 h,.int .i64 i]] w fun e w'=>e=.returned (.bool false)/\Below w.heap.size w w'):=fun w=>by
  have:=yA ⟨a,b,d,e,f,g,h,i⟩ w;rw[hc] at this;exact this
 unfold vF;simp only;clear hc
 go_enter Tryz.func41,Tryz.ntmps41
 go_wp2_with fail
 refine ((qb HC) _).mono ?_;rintro e w1 ⟨rfl,hb⟩;have HB:=qg (((Below.refl _ w).alloc (zzl _) _).trans (hb.mono (by simp)));clear hb HC;go_wp2
 go_ret2
 exact⟨rfl,qb HB⟩
end
end Go.Proofs.YtfnockbgkcgpkaaGreat
