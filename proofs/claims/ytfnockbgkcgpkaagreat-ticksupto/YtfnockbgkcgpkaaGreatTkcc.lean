import Derived.Test.YtfnockbgkcgpkaaGreatTkai
import Derived.Test.YtfnockbgkcgpkaaGreatTkby
import Derived.Test.YtfnockbgkcgpkaaGreatTkbz
import Derived.Test.YtfnockbgkcgpkaaGreatTkcb
set_option linter.all false
set_option maxRecDepth 100000
set_option maxHeartbeats 16000000
namespace Go.Proofs.YtfnockbgkcgpkaaGreat
open Go.RowKit Go.Proofs.Panes
section
attribute [local go_sem ↓] Go.wp_at_zero Go.wp_at_succ
def Qu:List Cfg:=[⟨4,2,1,2,20,20,1,9⟩,⟨0,0,0,0,0,0,0,0⟩]
def yx:List (List Opn):=[[⟨1,0,1,0,0,0,[],0⟩,⟨3,0,0,0,2,1,[5,0],0⟩,⟨8,0,0,0,0,0,[],77⟩]]
theorem ZN:yx.length<=10000000000000/\∀ l∈yx,l.length<=1759218604390/\∀ o∈l,o.px.length<=17592186043904:=by
 refine⟨by decide,fun l hl=>?_⟩;simp only[yx,List.mem_cons,List.mem_nil_iff,or_false] at hl;subst hl;refine⟨by decide,fun o ho=>?_⟩;simp only[List.mem_cons,List.mem_nil_iff,or_false] at ho
 rcases ho with rfl | rfl | rfl<;>decide
theorem zb9 {W:World}(b:Nat)(h:W.heap[b]?=some (.cells #[.int .i64 4,.int .i64 2,.int .i64 1,.int .i64 2,.int .i64 20,.int .i64 20,.int .i64 1,.int .i64 9,.int .i64 0,.int .i64 0,.int .i64 0,.int .i64 0,.int .i64 0,.int .i64 0,.int .i64 0,.int .i64 0] 49)):RdC (fun k=>k<W.heap.size) W (.slice (some ⟨b,0,none⟩) 2 2) Qu:=by
 refine⟨some ⟨b,0,none⟩,2,rfl,fun _=>⟨b,0,rfl,qh h,qh h,fun j c hj=>?_⟩⟩
 match j,hj with
 | 0,hj=>
  simp only[Qu,List.getElem?_cons_zero,Option.some.injEq] at hj;subst hj;exact⟨qe h 0,qe h 1,qe h 2,qe h 3,qe h 4,qe h 5,qe h 6,qe h 7⟩
 | 1,hj=>
  simp only[Qu,List.getElem?_cons_zero,List.getElem?_cons_succ,Option.some.injEq] at hj;subst hj;exact⟨qe h 8,qe h 9,qe h 10,qe h 11,qe h 12,qe h 13,qe h 14,qe h 15⟩
 | j+2,hj=>simp[Qu] at hj
theorem zb8 {W:World}(p b g:Nat)(hp:W.heap[p]?=some (.cells #[.int .i64 5,.int .i64 0] 3))
 (h:W.heap[b]?=some (.cells #[.int .i64 1,.int .i64 0,.int .i64 1,.int .i64 0,.int .i64 0,.int .i64 0,.slice none 0 0,.int .i64 0,.int .i64 3,.int .i64 0,.int .i64 0,.int .i64 0,.int .i64 2,.int .i64 1,.slice (some ⟨p,0,none⟩) 2 2,.int .i64 0,.int .i64 8,.int .i64 0,.int .i64 0,.int .i64 0,.int .i64 0,.int .i64 0,.slice none 0 0,.int .i64 77] 52))
 (hg:W.heap[g]?=some (.cells #[.slice (some ⟨b,0,none⟩) 3 3] 53)):yM (fun k=>k<W.heap.size) W (.slice (some ⟨g,0,none⟩) 1 1) yx:=by
 refine⟨some ⟨g,0,none⟩,1,rfl,fun _=>⟨g,0,rfl,qh hg,qh hg,fun i l hl=>?_⟩⟩;have nilN:RdN (fun k=>k<W.heap.size) W (.slice none 0 0) []:=⟨none,0,rfl,zzl _,by simp[maxLen],fun h=>absurd rfl h⟩
 match i,hl with
 | 0,hl=>
  simp only[yx,List.getElem?_cons_zero,Option.some.injEq] at hl;subst hl;refine⟨_,qe hg 0,some ⟨b,0,none⟩,3,rfl,by simp,by simp[maxLen],fun _=>⟨b,0,rfl,qh h,qh h,fun j o ho=>?_⟩⟩
  match j,ho with
  | 0,ho=>
   simp only[List.getElem?_cons_zero,Option.some.injEq] at ho;subst ho;exact⟨qe h 0,qe h 1,qe h 2,qe h 3,qe h 4,qe h 5,⟨_,qe h 6,nilN⟩,qe h 7⟩
  | 1,ho=>
   simp only[List.getElem?_cons_zero,List.getElem?_cons_succ,Option.some.injEq] at ho;subst ho;refine⟨qe h 8,qe h 9,qe h 10,qe h 11,qe h 12,qe h 13,⟨_,qe h 14,some ⟨p,0,none⟩,2,rfl,by simp,by simp[maxLen],fun _=>⟨p,0,rfl,qh hp,qh hp,fun t n hn=>?_⟩⟩,qe h 15⟩
   match t,hn with
   | 0,hn=>
    simp only[List.getElem?_cons_zero,Option.some.injEq] at hn;subst hn;exact qe hp 0
   | 1,hn=>
    simp only[List.getElem?_cons_zero,List.getElem?_cons_succ,Option.some.injEq] at hn;subst hn;exact qe hp 1
   | t+2,hn=>simp at hn
  | 2,ho=>
   simp only[List.getElem?_cons_zero,List.getElem?_cons_succ,Option.some.injEq] at ho;subst ho;exact⟨qe h 16,qe h 17,qe h 18,qe h 19,qe h 20,qe h 21,⟨_,qe h 22,nilN⟩,qe h 23⟩
  | j+3,ho=>simp at ho
 | i+1,hl=>simp[yx] at hl
theorem zb7 (w:World):Calls Tryz.prog 8 #[] w fun e w'=>∃ b1 b2 b3,e=.returned (.agg #[.slice (some ⟨b1,0,none⟩) 2 2,.slice (some ⟨b2,0,none⟩) 2 2,.slice (some ⟨b3,0,none⟩) 1 1])/\RdC (fun k=>k<w'.heap.size) w' (.slice (some ⟨b2,0,none⟩) 2 2) Qu/\yM (fun k=>k<w'.heap.size) w' (.slice (some ⟨b3,0,none⟩) 1 1) yx/\Below w.heap.size w w':=by
 go_enter Tryz.func8,Tryz.ntmps8
 go_wp2;refine bodyPost_ret (v:=.agg #[.slice (some ⟨w.heap.size+1+1+1,0,none⟩) 2 2,.slice (some ⟨w.heap.size+1+1+1+1,0,none⟩) 2 2,.slice (some ⟨w.heap.size+1+1+1+1+1+1+1,0,none⟩) 1 1]) (by simp[results,Tryz.results8,go_sem]) rfl ⟨_,_,_,rfl,?_,?_,?_⟩
 ·refine zb9 _ ?_
  all_goals repeat (first | exact qt _ _ _ (by simp) | rw[qe7 _ _ _ (by first | (simp;done) | (simp;omega))])
 ·refine zb8 (w.heap.size+1+1+1+1+1) (w.heap.size+1+1+1+1+1+1) _ ?_ ?_ ?_
  all_goals repeat (first | exact qt _ _ _ (by simp) | rw[qe7 _ _ _ (by first | (simp;done) | (simp;omega))])
 ·repeat (first | exact Below.refl _ _ | refine Below.setCell ?_ (by first | (simp;done) | (simp;omega)) _ | refine below_drewN ?_ _ | refine Below.drew ?_ | refine Below.alloc ?_ (by first | (simp;done) | (simp;omega)) _)
theorem yM.wide {U V:Nat->Prop}{w:World}{v:Value}{L:List (List Opn)}(h:yM U w v L)(hu:∀ k,U k->V k):yM V w v L:=by
 obtain⟨ao,cap,e,h3⟩:=h;refine⟨ao,cap,e,fun hne=>?_⟩;obtain⟨b,off,e,hb,hlt,r⟩:=h3 hne;refine⟨b,off,e,hu b hb,hlt,fun i l hl=>?_⟩;obtain⟨v',h1,h2⟩:=r i l hl;exact⟨v',h1,h2.wide hu⟩
theorem RdC.wide {U V:Nat->Prop}{w:World}{v:Value}{l:List Cfg}(h:RdC U w v l)(hu:∀ k,U k->V k):RdC V w v l:=by
 obtain⟨ao,cap,e,h3⟩:=h;refine⟨ao,cap,e,fun hne=>?_⟩;obtain⟨b,off,e,hb,r⟩:=h3 hne;exact⟨b,off,e,hu b hb,r⟩
theorem RdC.below {U:Nat->Prop}{w w':World}{v:Value}{L:List Cfg}(h:RdC U w v L)(hb:Below w.heap.size w w'):RdC U w' v L:=h.but (S:=fun _=>False) (.of_below hb) (fun _ _ h=>h)
theorem yM.below {U:Nat->Prop}{w w':World}{v:Value}{L:List (List Opn)}(h:yM U w v L)(hb:Below w.heap.size w w'):yM U w' v L:=h.but (S:=fun _=>False) (.of_below hb) (fun _ _ h=>h)
theorem Yj:∀ r∈v9,(-9223372036854775808<=r.h/\r.h<=9223372036854775807):=by
 intro r hr;simp only[v9,List.mem_cons,List.mem_nil_iff,or_false] at hr
 rcases hr with rfl | rfl | rfl | rfl | rfl | rfl | rfl | rfl | rfl | rfl | rfl | rfl | rfl | rfl | rfl<;>decide
theorem xf.first {U:Nat->Prop}{wb:Nat}{gr gc go:Value}{C:List Cfg}{O:List (List Opn)}{w:World}(hbx:w.heap[wb]?=some (.cells #[gr,gc,go,.slice none 0 0,.slice none 0 0,.slice none 0 0,.slice none 0 0] 39))(h3:RdC U w gc C)(h4:yM U w go O)(h5:∀ k,U k->k<w.heap.size/\k≠wb):xf U wb gr gc go C O 0 w:=by
 refine⟨.slice none 0 0,.slice none 0 0,.slice none 0 0,.slice none 0 0,[],[],[],[],fun b=>if b=wb then 1 else 0,⟨hbx,World.ownsRow_nil _ _ _ _,fun i x hx=>by simp at hx,fun i x hx=>by simp at hx,World.ownsRow_nil _ _ _ _,World.ownsRow_nil _ _ _ _,World.ownsRow_nil _ _ _ _,fun e he=>by simp at he,fun e he=>by simp at he,fun e he=>by simp at he,if_pos rfl,fun g hg=>(by cases hg),fun g hg=>(by cases hg),fun g hg=>(by cases hg),fun g hg=>(by cases hg),fun b hb=>?_,h3,h4,fun k hk=>⟨if_neg (h5 k hk).2,(h5 k hk).1⟩⟩,fun x hx=>absurd hx (List.not_mem_nil),⟨zzl _,zzl _,zzl _,zzl _⟩⟩
 by_cases e:b=wb
 ·rw[e];exact qh hbx
 ·exact absurd (if_neg e) hb
section
variable {U:Nat->Prop}{wb:Nat}{gr gc go:Value}{C:List Cfg}{O:List (List Opn)}{n:Nat}{w w':World}
theorem xf.more (h:xf U wb gr gc go C O n w):xf U wb gr gc go C O (n+1) w:=by
 obtain⟨ss,kr,ki,kf,sh,er,ei,ef,col,h⟩:=h;exact h.more
theorem xf.below (h:xf U wb gr gc go C O n w)(hb:Below w.heap.size w w'):xf U wb gr gc go C O n w':=by
 obtain⟨ss,kr,ki,kf,sh,er,ei,ef,col,h⟩:=h;exact⟨ss,kr,ki,kf,sh,er,ei,ef,col,h.mem.below hb,h.each,h.len⟩
theorem xf.whole (h:xf U wb gr gc go C O n w)(hn:n<=2000000):Calls Tryz.prog 11 #[.pointer (some ⟨wb,4,none⟩)] w fun e w'=>e=.returned (.bool true)/\Below w.heap.size w w':=by
 obtain⟨ss,kr,ki,kf,sh,er,ei,ef,col,h⟩:=h;have hl:=h.len;exact ze1 wb 0 kr ki kf er ei ef w (qe h.mem.box 4) (qe h.mem.box 5) (qe h.mem.box 6) h.mem.oR h.mem.oI h.mem.oF (fun e he=>(h.mem.eR e he).1.areR) (fun e he=>(h.mem.eI e he).1.areI) (fun e he=>(h.mem.eF e he).1.areF) ⟨by omega,by omega,by omega⟩
theorem XG (h:xf U wb gr gc go C O n w)(kind oA oB oC:Int)(hk:6<=kind/\kind<=11)(hA:-9223372036854775808<=oA/\oA<=9223372036854775807)(hB:oB<=9223372036854775807)(hCr:-9223372036854775808<=oC/\oC<=9223372036854775807)(hn:n<=1100000)(hC:C.length<=10000000000000)(hOn:O.length<=10000000000000)(hol:∀ l∈O,l.length<=1759218604390/\∀ o∈l,o.px.length<=17592186043904) :
 Calls Tryz.prog 10 #[.pointer (some ⟨wb,0,none⟩),.agg #[.int .i64 kind,.int .i64 oA,.int .i64 oB,.int .i64 oC]] w fun e w'=>e=.returned (.bool true)/\xf U wb gr gc go C O (n+1) w'/\But (fun b=>¬U b) w w':=by
 obtain⟨ss,kr,ki,kf,sh,er,ei,ef,col,h⟩:=h
 by_cases h6:kind=6
 ·subst h6;exact qq4 h oA oB oC hA hn hC
 ·by_cases h0:sh.length=0
  ·exact qg9 h kind oA oB oC (by omega) h0
  ·exact Kc h kind oA oB oC (by omega) hA (by omega) hn hB hCr hOn hol
end
theorem qd3 (ro co oo so:Option Addr)(rn rc cc oc scap:Nat)(C:List Cfg)(O:List (List Opn))(ops:List Rc)(w:World)(hL:RdC (fun k=>k<w.heap.size) w (.slice co C.length cc) C)(hLO:yM (fun k=>k<w.heap.size) w (.slice oo O.length oc) O)(hS:RdU (fun k=>k<w.heap.size) w (.slice so ops.length scap) ops)(hn:ops.length<=1100000)(hi:Int)(hhi:6<=hi/\hi<=11)(hC:C.length<=10000000000000)(hOn:O.length<=10000000000000)(hol:∀ l∈O,l.length<=1759218604390/\∀ o∈l,o.px.length<=17592186043904)
 (hops:∀ r∈ops,(-9223372036854775808<=r.y/\r.y<=9223372036854775807)/\(-9223372036854775808<=r.w/\r.w<=9223372036854775807)/\(-9223372036854775808<=r.h/\r.h<=9223372036854775807)) :
 Calls Tryz.prog 7 #[.agg #[.slice ro rn rc,.slice co C.length cc,.slice oo O.length oc],.slice so ops.length scap,.int .i64 6,.int .i64 hi] w fun e w'=>e=.returned (.bool true)/\Below w.heap.size w w':=by
 have HL:=qg hL;have HLO:=qg hLO;have HS:=qg hS;have HLL:=qg hol;have HOps:=qg hops;clear hL hLO hS hol hops
 go_enter Tryz.func7,Tryz.ntmps7
 go_wp2_with fail
 have hB0:Below w.heap.size w (w.alloc (.cells #[.slice ro rn rc,.slice co C.length cc,.slice oo O.length oc] 26)):=(Below.refl _ w).alloc (zzl _) _;have hG0:(w.alloc (.cells #[.slice ro rn rc,.slice co C.length cc,.slice oo O.length oc] 26)).heap[w.heap.size]?=some (.cells #[.slice ro rn rc,.slice co C.length cc,.slice oo O.length oc] 26):=qt _ _ _ rfl;generalize w.alloc (.cells #[.slice ro rn rc,.slice co C.length cc,.slice oo O.length oc] 26)=w0 at *;refine (zb7 w0).mono ?_;rintro e w1 ⟨b1,b2,b3,rfl,hK1,hKO1,hb1⟩;have hG1:w1.heap[w.heap.size]?=some (.cells #[.slice ro rn rc,.slice co C.length cc,.slice oo O.length oc] 26):=(hb1.block _ (qh hG0)).trans hG0;have hB1:Below w.heap.size w w1:=hB0.trans (hb1.mono hB0.size);have HG1:=qg hG1;have HB1:=qg hB1;have HK1:=qg hK1;have HKO1:=qg hKO1;have hs1:=hB1.size;clear hB0 hG0 hb1 hG1 hB1 hK1 hKO1
 go_wp2_with fail
 have hX2:(w1.alloc (.cells #[.slice (some ⟨b1,0,none⟩) 2 2,.slice (some ⟨b2,0,none⟩) 2 2,.slice (some ⟨b3,0,none⟩) 1 1,.slice none 0 0,.slice none 0 0,.slice none 0 0,.slice none 0 0] 39)).heap[w1.heap.size]?=some (.cells #[.slice (some ⟨b1,0,none⟩) 2 2,.slice (some ⟨b2,0,none⟩) 2 2,.slice (some ⟨b3,0,none⟩) 1 1,.slice none 0 0,.slice none 0 0,.slice none 0 0,.slice none 0 0] 39):=qt _ _ _ rfl;have hB2:Below w1.heap.size w1 (w1.alloc (.cells #[.slice (some ⟨b1,0,none⟩) 2 2,.slice (some ⟨b2,0,none⟩) 2 2,.slice (some ⟨b3,0,none⟩) 1 1,.slice none 0 0,.slice none 0 0,.slice none 0 0,.slice none 0 0] 39)):=(Below.refl _ w1).alloc (zzl _) _;generalize w1.alloc (.cells #[.slice (some ⟨b1,0,none⟩) 2 2,.slice (some ⟨b2,0,none⟩) 2 2,.slice (some ⟨b3,0,none⟩) 1 1,.slice none 0 0,.slice none 0 0,.slice none 0 0,.slice none 0 0] 39)=w2 at *;refine (Yi w2).mono ?_;rintro e w3 ⟨vs,rfl,hO3,hlt3,hb3⟩;have hl2:=qh hX2;have hX3:=(hb3.block _ hl2).trans hX2;have hB3:Below w1.heap.size w1 w3:=hB2.trans (hb3.mono (by omega));have hSt:xf (fun k=>k<w1.heap.size\/k=w2.heap.size) w1.heap.size _ _ _ Qu yx 0 w3:=xf.first hX3 (((qb HK1).wide (fun k hk=>.inl hk)).below hB3) (((qb HKO1).wide (fun k hk=>.inl hk)).below hB3) (fun k hk=>by
  have:=hB3.size
  rcases hk with c | c
  ·exact⟨by omega,by omega⟩
  ·exact⟨by omega,by omega⟩)
 have hbase3:w1.heap.size<=w3.heap.size:=hB3.size;have hR3:RdU (fun k=>k<w1.heap.size\/k=w2.heap.size) w3 vs v9:=hO3.wide (fun k hk=>.inr hk);obtain⟨vo,vcap,rfl,vjunk⟩:=id hR3;clear vjunk;have HSt:=qg hSt;have HR3:=qg hR3;have HB3:=qg hB3;clear hX2 hB2 hO3 hb3 hX3 hSt hR3 hB3;have hol:v9.length=15:=rfl;rw[hol];rw[hol] at HR3;clear hol;go_wp2
 go_loopw [8,11] (fun r8 i wr=>r8=.bool false/\∃ k:Nat,k<=15/\i=.int .i64 k/\xf (fun k=>k<w1.heap.size\/k=w2.heap.size) w1.heap.size (.slice (some ⟨b1,0,none⟩) 2 2) (.slice (some ⟨b2,0,none⟩) 2 2) (.slice (some ⟨b3,0,none⟩) 1 1) Qu yx k wr/\Below w1.heap.size w1 wr/\RdU (fun k=>k<w1.heap.size\/k=w2.heap.size) wr (.slice vo 15 vcap) v9) (fun _ i _=>15-(intOf i).toNat)
 case atStart=>exact⟨rfl,0,Nat.zero_le _,rfl,qb HSt,qb HB3,qb HR3⟩
 case round=>
  rename World=>wq;obtain⟨rfl,k,hk,rfl,hSt,hbel,hrd⟩:=hrel;clear HSt HR3 HB3
  by_cases hlt:k<15
  ·obtain⟨r,hr⟩:∃ r,v9[k]?=some r:=⟨v9[k]'hlt,List.getElem?_eq_getElem hlt⟩;obtain⟨ejunk,b,off,rfl,c1,c2,c3,c4⟩:=hrd.at hr;clear ejunk;obtain⟨q1,q2,q4⟩:=Kw r (zzn hr);have q3:=Yj r (zzn hr);have i0:(0:Int)<=(k:Int):=(by omega);have i1:(k:Int)<(15:Int):=(by omega);have HSt:=qg hSt;have Hbel:=qg hbel;have Hrd:=qg hrd;have Hq2:=qg q2;have Hq3:=qg q3;have Hq4:=qg q4;clear hSt hbel hrd hr q2 q3 q4;obtain⟨kind,oA,oB,oC⟩:=r;simp only at c1 c2 c3 c4 q1 Hq2 Hq3 Hq4
   by_cases h6:kind<6
   ·have h6':¬6<=kind:=(by omega);go_wp2
    go_roundw
    case rel=>exact⟨rfl,k+1,by omega,by go_num,(qb HSt).more,qb Hbel,qb Hrd⟩
    case measure=>simp[intOf];omega
   ·have h6':6<=kind:=by omega
    by_cases h8:kind<=hi
    ·have HC:=qg (XG (qb HSt) kind oA oB oC ⟨h6',by omega⟩ (qb Hq2) (qb Hq4).2 (qb Hq3) (by omega) (by decide) ZN.1 ZN.2);have hs3:=hbase3
     go_wp2_with fail
     refine (qb HC).mono ?_;rintro e w4 ⟨rfl,s1,s3⟩;have H1:=qg s1;have H3:=qg ((qb Hbel).trans (s3.below (qb Hbel).size (fun j c=>by rcases Nat.lt_or_ge j w1.heap.size with q | q;exact absurd (.inl q) c;exact q)));have H4:=qg ((qb Hrd).but s3 (fun j hj c=>c hj));clear s1 s3 HC;go_wp2
     go_roundw
     case rel=>exact⟨rfl,k+1,by omega,by go_num,qb H1,qb H3,qb H4⟩
     case measure=>simp[intOf];omega
    ·go_wp2
     go_roundw
     case rel=>exact⟨rfl,k+1,by omega,by go_num,(qb HSt).more,qb Hbel,qb Hrd⟩
     case measure=>simp[intOf];omega
  ·have i2:¬(k:Int)<15:=(by omega);have hG:wq.heap[w.heap.size]?=some (.cells #[.slice ro rn rc,.slice co C.length cc,.slice oo O.length oc] 26):=(hbel.block _ (qh (qb HG1))).trans (qb HG1);have g0:wq.cell? ⟨w.heap.size,0,none⟩=some (.slice ro rn rc):=qe hG 0;have g1:wq.cell? ⟨w.heap.size,1,none⟩=some (.slice co C.length cc):=qe hG 1;have g2:wq.cell? ⟨w.heap.size,2,none⟩=some (.slice oo O.length oc):=qe hG 2;have Hq:=qg ((qb HB1).trans (hbel.mono hs1));clear hSt hbel hrd hG;go_wp2;have hX5:(wq.alloc (.cells #[.slice ro rn rc,.slice co C.length cc,.slice oo O.length oc,.slice none 0 0,.slice none 0 0,.slice none 0 0,.slice none 0 0] 39)).heap[wq.heap.size]?=some (.cells #[.slice ro rn rc,.slice co C.length cc,.slice oo O.length oc,.slice none 0 0,.slice none 0 0,.slice none 0 0,.slice none 0 0] 39):=qt _ _ _ rfl;have hB5:Below w.heap.size w (wq.alloc (.cells #[.slice ro rn rc,.slice co C.length cc,.slice oo O.length oc,.slice none 0 0,.slice none 0 0,.slice none 0 0,.slice none 0 0] 39)):=(qb Hq).alloc (qb Hq).size _;have hsq:=(qb Hq).size;clear g0 g1 g2 Hq;generalize wq.alloc (.cells #[.slice ro rn rc,.slice co C.length cc,.slice oo O.length oc,.slice none 0 0,.slice none 0 0,.slice none 0 0,.slice none 0 0] 39)=w5 at *;generalize wq.heap.size=wb at *;have hSt:xf (fun k=>k<w.heap.size) wb (.slice ro rn rc) (.slice co C.length cc) (.slice oo O.length oc) C O 0 w5:=xf.first hX5 ((qb HL).below hB5) ((qb HLO).below hB5) (fun k hk=>⟨zzm hk hB5.size,by omega⟩);have hbase5:w.heap.size<=w5.heap.size:=hB5.size;have hR5:=(qb HS).below hB5;have HSt:=qg hSt;have HR5:=qg hR5;have HB5:=qg hB5;clear hX5 hB5 hSt hR5
   go_loopw [8,14] (fun r8 i wr=>r8=.bool false/\∃ k:Nat,k<=ops.length/\i=.int .i64 k/\xf (fun k=>k<w.heap.size) wb (.slice ro rn rc) (.slice co C.length cc) (.slice oo O.length oc) C O k wr/\Below w.heap.size w wr/\RdU (fun k=>k<w.heap.size) wr (.slice so ops.length scap) ops) (fun _ i _=>ops.length-(intOf i).toNat)
   case atStart=>exact⟨rfl,0,Nat.zero_le _,rfl,qb HSt,qb HB5,qb HR5⟩
   case round=>
    rename World=>wp;obtain⟨rfl,k,hk,rfl,hSt,hbel,hrd⟩:=hrel;clear HSt HR5 HB5
    by_cases hlt:k<ops.length
    ·obtain⟨r,hr⟩:∃ r,ops[k]?=some r:=⟨ops[k],by simp[hlt]⟩;obtain⟨ejunk,b,off,rfl,c1,c2,c3,c4⟩:=hrd.at hr;clear ejunk;obtain⟨q2,q4,q3⟩:=(qb HOps) r (zzn hr);have i0:(0:Int)<=(k:Int):=(by omega);have i1:(k:Int)<(ops.length:Int):=(by omega);have HSt:=qg hSt;have Hbel:=qg hbel;have Hrd:=qg hrd;have Hq2:=qg q2;have Hq3:=qg q3;have Hq4:=qg q4;clear hSt hbel hrd hr q2 q3 q4;obtain⟨kind,oA,oB,oC⟩:=r;simp only at c1 c2 c3 c4 Hq2 Hq3 Hq4
     by_cases h1:kind<6
     ·go_wp2
      go_roundw
      case rel=>exact⟨rfl,k+1,by omega,by go_num,(qb HSt).more,qb Hbel,qb Hrd⟩
      case measure=>simp[intOf];omega
     ·by_cases h5:hi<kind
      ·go_wp2
       go_roundw
       case rel=>exact⟨rfl,k+1,by omega,by go_num,(qb HSt).more,qb Hbel,qb Hrd⟩
       case measure=>simp[intOf];omega
      ·have HC:=qg (XG (qb HSt) kind oA oB oC ⟨by omega,by omega⟩ (qb Hq2) (qb Hq4).2 (qb Hq3) (by omega) hC hOn (qb HLL))
       go_wp2_with fail
       refine (qb HC).mono ?_;rintro e w6 ⟨rfl,s1,s3⟩;have HBw:=qg (s1.whole (by omega));have H1:=qg s1;have H3:=qg ((qb Hbel).trans (s3.below (qb Hbel).size (fun j c=>by rcases Nat.lt_or_ge j w.heap.size with q | q;exact absurd q c;exact q)));have H4:=qg ((qb Hrd).but s3 (fun j hj c=>c hj));clear s1 s3 HC
       go_wp2_with fail
       refine (qb HBw).mono ?_;rintro e w7 ⟨rfl,hb7⟩;have H7:=qg hb7;clear hb7 HBw;go_wp2
       go_roundw
       case rel=>exact⟨rfl,k+1,by omega,by go_num,(qb H1).below (qb H7),(qb H3).trans ((qb H7).mono (qb H3).size),(qb H4).below (qb H7)⟩
       case measure=>simp[intOf];omega
    ·have Hbel:=qg hbel;clear hSt hbel hrd;go_wp2;go_ret;exact⟨rfl,qb Hbel⟩
end
section
attribute [local go_sem ↓] Go.wp_at_zero Go.wp_at_succ
theorem X2 (ro co oo so:Option Addr)(rn rc cc oc scap:Nat)(C:List Cfg)(O:List (List Opn))(ops:List Rc)(w:World)(hL:RdC (fun k=>k<w.heap.size) w (.slice co C.length cc) C)(hLO:yM (fun k=>k<w.heap.size) w (.slice oo O.length oc) O)(hS:RdU (fun k=>k<w.heap.size) w (.slice so ops.length scap) ops)(hn:ops.length<=1100000)(hC:C.length<=10000000000000)(hOn:O.length<=10000000000000)(hol:∀ l∈O,l.length<=1759218604390/\∀ o∈l,o.px.length<=17592186043904)
 (hops:∀ r∈ops,(-9223372036854775808<=r.y/\r.y<=9223372036854775807)/\(-9223372036854775808<=r.w/\r.w<=9223372036854775807)/\(-9223372036854775808<=r.h/\r.h<=9223372036854775807)) :
 Calls Tryz.prog 5 #[.agg #[.slice ro rn rc,.slice co C.length cc,.slice oo O.length oc],.slice so ops.length scap] w fun e w'=>e=.returned (.bool true)/\Below w.heap.size w w':=by
 have hb1:Below w.heap.size w (w.alloc (.cells #[.slice ro rn rc,.slice co C.length cc,.slice oo O.length oc] 26)):=(Below.refl _ w).alloc (zzl _) _;have HC:=qg (qd3 ro co oo so rn rc cc oc scap C O ops _ ((hL.below hb1).wide (fun k hk=>zzm hk hb1.size)) ((hLO.below hb1).wide (fun k hk=>zzm hk hb1.size)) ((hS.below hb1).wide (fun k hk=>zzm hk hb1.size)) hn 10 (by decide) hC hOn hol hops);have Hb1:=qg hb1;clear hL hLO hS hol hops hb1
 go_enter Tryz.func5,Tryz.ntmps5
 go_wp2_with fail
 refine (qb HC).mono ?_;rintro e w' ⟨rfl,hb⟩;have Hb:=qg hb;clear hb HC;go_wp2;go_ret;exact⟨rfl,(qb Hb1).trans ((qb Hb).mono (qb Hb1).size)⟩
theorem X7 (ro co oo so:Option Addr)(rn rc cc oc scap:Nat)(C:List Cfg)(O:List (List Opn))(ops:List Rc)(w:World)(hL:RdC (fun k=>k<w.heap.size) w (.slice co C.length cc) C)(hLO:yM (fun k=>k<w.heap.size) w (.slice oo O.length oc) O)(hS:RdU (fun k=>k<w.heap.size) w (.slice so ops.length scap) ops)(hn:ops.length<=1100000)(hC:C.length<=10000000000000)(hOn:O.length<=10000000000000)(hol:∀ l∈O,l.length<=1759218604390/\∀ o∈l,o.px.length<=17592186043904)
 (hops:∀ r∈ops,(-9223372036854775808<=r.y/\r.y<=9223372036854775807)/\(-9223372036854775808<=r.w/\r.w<=9223372036854775807)/\(-9223372036854775808<=r.h/\r.h<=9223372036854775807)) :
 Calls Tryz.prog 6 #[.agg #[.slice ro rn rc,.slice co C.length cc,.slice oo O.length oc],.slice so ops.length scap] w fun e w'=>e=.returned (.bool true)/\Below w.heap.size w w':=by
 have hb1:Below w.heap.size w (w.alloc (.cells #[.slice ro rn rc,.slice co C.length cc,.slice oo O.length oc] 26)):=(Below.refl _ w).alloc (zzl _) _;have HC:=qg (qd3 ro co oo so rn rc cc oc scap C O ops _ ((hL.below hb1).wide (fun k hk=>zzm hk hb1.size)) ((hLO.below hb1).wide (fun k hk=>zzm hk hb1.size)) ((hS.below hb1).wide (fun k hk=>zzm hk hb1.size)) hn 11 (by decide) hC hOn hol hops);have Hb1:=qg hb1;clear hL hLO hS hol hops hb1
 go_enter Tryz.func6,Tryz.ntmps6
 go_wp2_with fail
 refine (qb HC).mono ?_;rintro e w' ⟨rfl,hb⟩;have Hb:=qg hb;clear hb HC;go_wp2;go_ret;exact⟨rfl,(qb Hb1).trans ((qb Hb).mono (qb Hb1).size)⟩
end
end Go.Proofs.YtfnockbgkcgpkaaGreat
