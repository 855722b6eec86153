import Derived.Test.YtfnockbgkcgpkaaGreatTkby
import Derived.Test.YtfnockbgkcgpkaaGreatTkbz
import Derived.Test.YtfnockbgkcgpkaaGreatTkca
import Derived.Deep.RegionHeld3
import Derived.BigQuiet
import Derived.BigRegion
import Derived.Deep.QuietTactic
set_option linter.all false
set_option maxRecDepth 100000
set_option maxHeartbeats 16000000
namespace Go.Proofs.YtfnockbgkcgpkaaGreat
open Go.RowKit Go.Proofs.Panes
theorem qi7 (mb n cap:Nat)(w:World) :
 Calls Tryz.prog 26 #[.pointer (some ⟨mb,0,none⟩),.slice none n cap] w fun e w'=>e=.returned (.slice none 0 0)/\w'=w:=by
 have qn:∀ (w:World)(a:Option Addr)(n c n' c':Nat),(binOp .eql 53 (.slice a n c) (.slice none n' c')).run Tryz.prog w=.ok (.bool a.isNone) w:=fun w a n c n' c'=>Lib.run_eql_slice_nil w _ _ a n c n' c' Tryz.underlying53
 go_enter Tryz.func26,Tryz.ntmps26
 go_wp2;go_ret;exact⟨rfl,rfl⟩
theorem VO.lent' {U:Nat->Prop}{mb:Nat}{v:Value}{l:List Opn}{w w':World}{ms:List MOp}{li:Value}{ns:List zf}{lo:Value}(h:VO U mb v l w w' ms li ns lo)(hl:l.length+3<=maxLen)(hpx:∀ o∈l,o.px.length+3<=maxLen) :
 RdO (fun u=>w.heap.size<=u/\u<w'.heap.size) w' (.slice (some ⟨w.heap.size,0,none⟩) l.length (l.length+3)) l:=by
 have hml:(ms++[m77,m77,m77]).length=l.length+3:=(by simp[h.len]);have hlt:=(World.ownsRow.lt h.own w.heap.size rfl).2;refine⟨some ⟨w.heap.size,0,none⟩,l.length+3,rfl,by omega,hl,fun _=>⟨w.heap.size,0,rfl,⟨zzl _,hlt⟩,hlt,fun j o ho=>?_⟩⟩;have hj:=(zzg ho).1;obtain⟨m,hm⟩:∃ m,ms[j]?=some m:=⟨ms[j]'(by rw[h.len];exact hj),by simp⟩;have hm':(ms++[m77,m77,m77])[j]?=some m:=(by rw[List.getElem?_append_left (by rw[h.len];exact hj)];exact hm);have hO:=h.mo j o m ho hm;have at':=fun t ht=>QM h.own hml.symm hm' t ht;rw[Nat.zero_add];refine⟨by rw[<-hO.kind];exact at' 0 (by omega),by rw[<-hO.surf];exact at' 1 (by omega),by rw[<-hO.x];exact at' 2 (by omega),by rw[<-hO.y];exact at' 3 (by omega),by rw[<-hO.w];exact at' 4 (by omega),by rw[<-hO.h];exact at' 5 (by omega),⟨m.pv,at' 6 (by omega),?_⟩,by rw[<-hO.mark];exact at' 7 (by omega)⟩
 rcases hO.pv with ⟨e1,e2⟩ | ⟨x,hx,e1,e2⟩
 ·rw[e1,e2];exact⟨none,0,rfl,zzl _,by simp[maxLen],fun h=>absurd rfl h⟩
 ·rw[e1];have hox:=h.lent.own x hx;have hxl:=h.lent.lt hx;have hpl:=hpx o (zzn ho);refine⟨some ⟨x.g,0,none⟩,o.px.length+3,rfl,by omega,hpl,fun _=>⟨x.g,0,rfl,hxl,hxl.2,fun t z hz=>?_⟩⟩;rw[Nat.zero_add];have hfl:(x.l++[77,77,77]).length=x.l.length+3:=(by simp);refine kP (n:=x.l.length+3) (cap:=x.l.length+3) hox hfl.symm ?_;rw[e2,List.getElem?_append_left (zzg hz).1];exact hz
def Lend (U:Nat->Prop)(mb:Nat)(l:List Opn)(w:World)(e:Ending)(w':World):Prop:=
 ∃ la lcap,e=.returned (.slice la l.length lcap)/\But (fun k=>k=mb) w w'/\RdO (fun u=>w.heap.size<=u/\u<w'.heap.size) w' (.slice la l.length lcap) l/\
  ∀ (w2:World)(T:Nat->Prop),But T w' w2->(∀ u,T u->u<w.heap.size/\u≠mb/\¬U u)->Calls Tryz.prog 28 #[.pointer (some ⟨mb,0,none⟩)] w2 fun e w3=>e=.returned (.bool true)/\But (fun k=>w.heap.size<=k/\k<w'.heap.size) w2 w3
theorem qt1 (U:Nat->Prop)(mb:Nat)(ao:Option Addr)(cap:Nat)(l:List Opn)(w:World)(hm:w.heap[mb]?=some (.cells #[.slice none 0 0,.slice none 0 0,.slice none 0 0] 76))(hR:RdO U w (.slice ao l.length cap) l)(hlen:l.length<=1759218604390)(hpx:∀ o∈l,o.px.length<=17592186043904)(hU:∀ k,U k->k<w.heap.size/\k≠mb) :
 Calls Tryz.prog 26 #[.pointer (some ⟨mb,0,none⟩),.slice ao l.length cap] w fun e w'=>Lend U mb l w e w':=by
 cases ao with
 | none=>
  have hl:l=[]:=by
   obtain⟨ao,cap',e,_,_,h3⟩:=hR
   cases l with
   | nil=>rfl
   | cons x l=>
    obtain⟨b,off,e1,_⟩:=h3 (by simp);simp only[Value.slice.injEq] at e;rw[<-e.1] at e1
    cases e1
  subst hl;refine (qi7 mb _ cap w).mono ?_;rintro e w' ⟨rfl,rfl⟩;refine⟨none,0,rfl,But.refl _ _,⟨none,0,rfl,zzl _,by simp[maxLen],fun h=>absurd rfl h⟩,fun w2 T hb hT=>?_⟩;have hm2:=hb.heap hm (fun c=>(hT mb c).2.1 rfl);refine (KS U mb 0 0 (.slice none 0 0) [] w2 hm2 (World.ownsRow_nil _ _ _ _) (QA.none _ _ _) (by simp)).mono ?_;rintro e w3 ⟨rfl,hb3⟩;exact⟨rfl,hb3.wide (fun k _ c=>by obtain⟨x,hx,_⟩:=c;simp at hx)⟩
 | some a=>
  refine (qi8 U mb (some a) cap l w hm (by simp) hR hlen hpx hU).mono ?_;rintro e w' ⟨rfl,ms,li,ns,lo,h⟩;refine⟨_,_,rfl,h.but,h.lent' (by unfold maxLen;omega) (fun o ho=>by have:=hpx o ho;unfold maxLen;omega),fun w2 T hb hT=>?_⟩;have hfar:∀ k,w.heap.size<=k->¬T k:=fun k hk c=>by have:=(hT k c).1;omega
  have hlt:=(World.ownsRow.lt h.own w.heap.size rfl).2;refine (Yq U mb w.heap.size w.heap.size li lo (.slice (some a) l.length cap) ns ms l w2 (hb.heap h.box (fun c=>(hT mb c).2.1 rfl)) (qi h.row hb (fun k hk=>hfar k (World.ownsRow.lt h.row k hk).1)) (h.lent.but hb (fun k hk c=>(hT k c).2.2 hk) (fun x hx=>hfar _ (h.lent.lt hx).1)) (by have:=h.cnt;omega)
   (qi h.ops hb (fun k hk=>hfar k (World.ownsRow.lt h.ops k hk).1)) (qi h.own hb (fun k hk=>hfar k (World.ownsRow.lt h.own k hk).1)) h.len h.mo (h.rd.but hb (fun k hk c=>(hT k c).2.2 hk)) hlen hpx (fun c=>by have:=(hU _ c).1;omega)).mono ?_
  rintro e w3 ⟨rfl,hb3⟩;refine⟨rfl,hb3.wide (fun k _ c=>?_)⟩
  rcases c with ⟨x,hx,e⟩ | e
  ·rw[e];exact h.lent.lt hx
  ·rw[e];exact⟨zzl _,hlt⟩
theorem yM.at {U:Nat->Prop}{w:World}{v:Value}{L:List (List Opn)}(h:yM U w v L){i:Nat}{l:List Opn}(hl:L[i]?=some l):∃ b off cap ao' cap',v=.slice (some ⟨b,off,none⟩) L.length cap/\b<w.heap.size/\w.cell? ⟨b,off+i,none⟩=some (.slice ao' l.length cap')/\RdO U w (.slice ao' l.length cap') l:=by
 obtain⟨ao,cap,rfl,h1⟩:=h;obtain⟨b,off,rfl,hu,hlt,h2⟩:=h1 (by intro e;subst e;simp at hl);obtain⟨v',e2,hR⟩:=h2 i l hl;obtain⟨ao',cap',ev,g⟩:=id hR;rw[ev] at e2 hR;exact⟨b,off,cap,ao',cap',rfl,hlt,e2,hR⟩
section
variable {U:Nat->Prop}{wb:Nat}{gr gc go:Value}{C:List Cfg}{O:List (List Opn)}{n:Nat}{w:World}{ss kr ki kf:Value}{sh:List Shf}{er ei ef:List Ent}{col:Nat->Nat}
theorem Kc (h:LSt U wb gr gc go C O n w ss kr ki kf sh er ei ef col)(kind oA oB oC:Int)(hk:kind=7\/kind=8\/kind=9\/kind=10\/kind=11)(hA:-9223372036854775808<=oA/\oA<=9223372036854775807)(hn:0<sh.length)(hn9:n<=1100000)(hB:oB<=9223372036854775807)(hC:-9223372036854775808<=oC/\oC<=9223372036854775807)(hOn:O.length<=10000000000000)(hol:∀ l∈O,l.length<=1759218604390/\∀ o∈l,o.px.length<=17592186043904) :
 Calls Tryz.prog 10 #[.pointer (some ⟨wb,0,none⟩),.agg #[.int .i64 kind,.int .i64 oA,.int .i64 oB,.int .i64 oC]] w fun e w'=>e=.returned (.bool true)/\xf U wb gr gc go C O (n+1) w'/\But (fun b=>¬U b) w w':=by
 obtain⟨ia,ea,hia⟩:=qr0 oA sh.length hn;obtain⟨x,hs⟩:∃ x,sh[ia]?=some x:=⟨sh[ia],by simp[hia]⟩;have hl9:=h.len.1;have HPA:Hid (∀ w',Calls Tryz.prog 14 #[.int .i64 oA,.int .i64 sh.length] w' fun e w''=>e=.returned (.int .i64 ia)/\w''=w'):=fun w'=>by
  have h:=Jp oA sh.length w' hA (by omega);rw[ea] at h;exact h
 obtain⟨sb,scap,ess⟩:∃ sb scap,ss=.slice (some ⟨sb,0,none⟩) sh.length scap:=by
  rcases h.mem.own.2 with ⟨_,e⟩ | ⟨g,cap,cur,e,_⟩
  ·omega
  ·exact⟨g,cap,e⟩
 have hown:=h.mem.own;rw[ess] at hown;have hbx:=h.mem.box;rw[ess] at hbx;obtain⟨s0,s1⟩:=XL sh ia x hs;have p0:w.cell? ⟨sb,ia*2,none⟩=some (.pointer (some ⟨x.xp,0,none⟩)):=(by rw[World.ownsRow.cellAt hown _ (by omega)];exact s0);have p1:w.cell? ⟨sb,ia*2+1,none⟩=some (.pointer (some ⟨x.rp,0,none⟩)):=(by rw[World.ownsRow.cellAt hown _ (by omega)];exact s1);have c3:w.cell? ⟨wb,3,none⟩=some (.slice (some ⟨sb,0,none⟩) sh.length scap):=qe hbx 3;have hwb:=qh hbx;have hsb:sb<w.heap.size:=(World.ownsRow.lt hown sb rfl).2;have nS:¬(sh.length:Int)=0:=(by omega);have i0:(0:Int)<=(ia:Int):=(by omega);have i1:(ia:Int)<(sh.length:Int):=(by omega);have k1:¬kind<1:=(by omega);have k2:¬11<kind:=(by omega);have k3:¬kind<=5:=(by omega);have k6:¬kind=6:=(by omega);have HH:=qg h;have HS:=qg hs;have HKD:=qg hk;have HOL:=qg hol;have HCC:=qg hC;clear hol hC;clear h hbx hA ea hs hown s0 s1 hk
 go_enter Tryz.func10,Tryz.ntmps10
 go_wp2_with fail
 have hB1:Below w.heap.size w (w.alloc (.cells #[.int .i64 kind,.int .i64 oA,.int .i64 oB,.int .i64 oC] 42)):=(Below.refl _ w).alloc (zzl _) _;have hX1:(w.alloc (.cells #[.int .i64 kind,.int .i64 oA,.int .i64 oB,.int .i64 oC] 42)).heap[w.heap.size]?=some (.cells #[.int .i64 kind,.int .i64 oA,.int .i64 oB,.int .i64 oC] 42):=qt _ _ _ rfl;generalize w.alloc (.cells #[.int .i64 kind,.int .i64 oA,.int .i64 oB,.int .i64 oC] 42)=w1 at *;have d3:=(hB1.cell (p:=⟨wb,3,none⟩) hwb).trans c3;have dA:w1.cell? ⟨w.heap.size,1,none⟩=some (.int .i64 oA):=qe hX1 1;have q0:=(hB1.cell (p:=⟨sb,ia*2,none⟩) hsb).trans p0;have q1:=(hB1.cell (p:=⟨sb,ia*2+1,none⟩) hsb).trans p1;have l1:w.heap.size<w1.heap.size:=qh hX1;have l2:wb<w1.heap.size:=(by omega);have l3:sb<w1.heap.size:=(by omega);have HB1:=qg hB1;have HX1:=qg hX1;clear hB1 hX1 p0 p1 c3;rename_i K aK;have HK:Hid (K {tmps:=#[.pointer (some ⟨wb,0,none⟩),.agg #[.int .i64 kind,.int .i64 oA,.int .i64 oB,.int .i64 oC],undef,.pointer (some ⟨w.heap.size,0,none⟩),.bool false,.pointer (some ⟨w1.heap.size,0,none⟩),undef,undef,undef,undef,undef,undef,undef,undef,undef,undef,undef,undef,undef,undef,.bool false,.pointer (some ⟨w.heap.size,0,none⟩),.int .i64 kind,.bool false,.bool false,.pointer (some ⟨w.heap.size,0,none⟩),.int .i64 kind,.bool false,.bool false,.bool false,.pointer (some ⟨w.heap.size,0,none⟩),.int .i64 kind,.bool false,undef,undef,undef,.bool false,.pointer (some ⟨w.heap.size,0,none⟩),.int .i64 kind,.bool false,undef,undef,undef,.bool false,.pointer (some ⟨wb,0,none⟩),.pointer (some ⟨wb,0,none⟩),.pointer (some ⟨wb,3,none⟩),.slice (some ⟨sb,0,none⟩) sh.length scap,.int .i64 sh.length,.bool false,.pointer (some ⟨wb,0,none⟩),.pointer (some ⟨wb,0,none⟩),.pointer (some ⟨wb,3,none⟩),.slice (some ⟨sb,0,none⟩) sh.length scap,.pointer (some ⟨w.heap.size,1,none⟩),.int .i64 oA,.pointer (some ⟨wb,0,none⟩),.pointer (some ⟨wb,0,none⟩),.pointer (some ⟨wb,3,none⟩),.slice (some ⟨sb,0,none⟩) sh.length scap,.int .i64 sh.length,.int .i64 ia,.pointer (some ⟨sb,ia*2,none⟩),.agg #[.pointer (some ⟨x.xp,0,none⟩),.pointer (some ⟨x.rp,0,none⟩)],undef,undef,undef,undef,undef,undef,undef,undef,undef,undef,undef,undef,undef,undef,undef,undef,undef,undef,undef,undef,undef,undef,undef,undef,undef,undef,undef,undef,undef,undef,undef,undef,undef,undef,undef,undef,undef,undef,undef,undef,undef,undef,undef,undef,undef,undef,undef,undef,undef,undef,undef,undef,undef,undef,undef,undef,undef,undef,undef,undef,undef,undef,undef,undef,undef,undef,undef,undef,undef,undef,undef,undef,undef,undef,undef,undef,undef,undef,undef,undef,undef,undef,undef,undef,undef,undef,undef,undef,undef,undef,undef,undef,undef,undef,undef,undef,undef,undef,undef,undef,undef,undef,undef,undef,undef,undef,undef,undef,undef,undef,undef,undef,undef],defers:=[]} (w1.alloc (.cells #[.pointer (some ⟨x.xp,0,none⟩),.pointer (some ⟨x.rp,0,none⟩)] 57)).drew):=by
  refine aK _ _ ?_;have hB2:Below w.heap.size w (w1.alloc (.cells #[.pointer (some ⟨x.xp,0,none⟩),.pointer (some ⟨x.rp,0,none⟩)] 57)).drew:=((qb HB1).alloc (Nat.le_of_lt l1) _).drew;have hY2:(w1.alloc (.cells #[.pointer (some ⟨x.xp,0,none⟩),.pointer (some ⟨x.rp,0,none⟩)] 57)).drew.heap[w1.heap.size]?=some (.cells #[.pointer (some ⟨x.xp,0,none⟩),.pointer (some ⟨x.rp,0,none⟩)] 57):=qt _ _ _ rfl;have hX2:(w1.alloc (.cells #[.pointer (some ⟨x.xp,0,none⟩),.pointer (some ⟨x.rp,0,none⟩)] 57)).drew.heap[w.heap.size]?=some (.cells #[.int .i64 kind,.int .i64 oA,.int .i64 oB,.int .i64 oC] 42):=qx (qb HX1) _;clear d3 dA q0 q1 aK;generalize (w1.alloc (.cells #[.pointer (some ⟨x.xp,0,none⟩),.pointer (some ⟨x.rp,0,none⟩)] 57)).drew=w2 at *;have lx:w1.heap.size<w2.heap.size:=qh hY2;have lo':w.heap.size<w2.heap.size:=qh hX2;have x0:w2.cell? ⟨w1.heap.size,0,none⟩=some (.pointer (some ⟨x.xp,0,none⟩)):=qe hY2 0;have x1:w2.cell? ⟨w1.heap.size,1,none⟩=some (.pointer (some ⟨x.rp,0,none⟩)):=qe hY2 1;have o0:w2.cell? ⟨w.heap.size,0,none⟩=some (.int .i64 kind):=qe hX2 0;have o2:w2.cell? ⟨w.heap.size,2,none⟩=some (.int .i64 oB):=qe hX2 2;have o3:w2.cell? ⟨w.heap.size,3,none⟩=some (.int .i64 oC):=qe hX2 3;have hfree:∀ b,w.heap.size<=b->col b=0:=fun b hb=>by
   rcases Nat.eq_zero_or_pos (col b) with e | e
   ·exact e
   ·have:=(qb HH).mem.clt b (by omega);omega
  have f1:=hfree w1.heap.size (Nat.le_of_lt l1);have f0:=hfree w.heap.size (zzl _);have hM2:=(qb HH).mem.below hB2;have HU2:Hid (∀ w',But (fun b=>¬U b) w2 w'->But (fun b=>¬U b) w w'):=fun w' hb=>(But.of_below hB2).trans hb;have hU0:∀ k,U k->col k=0:=fun k hk=>((qb HH).mem.far k hk).1;have HM2:=qg hM2;have HB2:=qg hB2;have HY2:=qg hY2;have HX2:=qg hX2;have HN:Hid (∀ (n:Int) w,Calls Tryz.prog 17 #[.int .i64 n] w fun e w'=>e=.returned (.int .i64 n)/\w'=w):=fun n w=>Z4 n w;clear hB2 hY2 hX2 hM2 hfree
  rcases (qb HKD) with hkk | hkk | hkk | hkk | hkk
  ·subst hkk;obtain⟨kk,ek,s',d',hR',hP,hD⟩:=ql7 (U:=U) (wb:=wb) (gr:=gr) (gc:=gc) (go:=go) (C:=C) (O:=O) ((qb HH).at (qb HS));have HR':=qg hR';have HP:=qg (hP (qb HM2) (qb HS) rfl);have HD:Hid (∀ {w:World}{ss kr ki kf:Value}{sh:List Shf}{er ei ef:List Ent}{col:Nat->Nat}{i:Nat}{y:Shf},qW U wb gr gc go C O w ss kr ki kf sh er ei ef col->sh[i]?=some y->y.d=x.d->Calls Tryz.prog 16 #[.pointer (some ⟨y.rp,0,none⟩)] w (vY U wb gr gc go C O ss kr ki kf sh er ei ef col i {y with d:=d'} (.tuple #[.int .i64 kk,.int .i64 ek]) w)):=hD;clear hR' hP hD
   go_wp2_with (first
    | (go_at_call 15;refine (qb HP).mono ?_
       rintro e w3 ⟨col3,rfl,m3,g3⟩
       have hyy:(sh.set ia {x with s:=s'})[ia]?=some {x with s:=s'}:=List.getElem?_set_self hia
       have bY:=g3.block (qb HY2) f1
       have bX:=g3.block (qb HX2) f0
       have y1:w3.cell? ⟨w1.heap.size,1,none⟩=some (.pointer (some ⟨x.rp,0,none⟩)):=qe bY.1 1
       have l1':w1.heap.size<w3.heap.size:=qh bY.1
       have l0':w.heap.size<w3.heap.size:=qh bX.1
       have z2:w3.cell? ⟨w.heap.size,2,none⟩=some (.int .i64 oB):=qe bX.1 2
       have HDk:=qg ((qb HD) m3 hyy rfl)
       have HG3:=qg g3
       clear m3 g3 bY bX hyy HP x0 x1 o2 o3 o0)
    | (go_at_call 16;refine (qb HDk).mono ?_
       rintro e w4 ⟨col4,rfl,m4,g4⟩
       have HM4:=qg m4
       have HG4:=qg g4
       clear m4 g4 HDk y1)
    | (go_at_call 17;refine ((qb HN) _ _).mono ?_;rintro e w' ⟨rfl,hw'⟩;have hw2:=hw'.symm;clear hw';subst hw2))
   go_ret;refine⟨by simp,?_,(qb HU2) _ (((qb HG3).trans (qb HG4)).toU hU0)⟩;have hm:=qb HM4;rw[yq] at hm;exact (qb HH).put (qb HS) hm (qb HR')
  ·subst hkk
   by_cases h0:O.length=0
   ·obtain⟨gao,gcap,ego,_⟩:=(qb HM2).rdO;have hbx:=(qb HM2).box;rw[ego,h0] at hbx;have c2:w2.cell? ⟨wb,2,none⟩=some (.slice gao 0 gcap):=qe hbx 2;clear hbx x0 x1 o2 o3 ego;go_wp2;go_ret;exact⟨rfl,LSt.same ⟨qb HM2,(qb HH).each,(qb HH).len⟩ (Below.refl _ _),(qb HU2) _ (But.refl _ _)⟩
   ·obtain⟨ic,ec,hic⟩:=qr0 oC O.length (by omega);obtain⟨l,hl⟩:∃ l,O[ic]?=some l:=⟨O[ic],by simp[hic]⟩;obtain⟨gb,goff,gcap,lo,lcap,ego,hgb,hgc,hRl⟩:=(qb HM2).rdO.at hl;have hll:=(qb HOL) l (zzn hl);have hbx:=(qb HM2).box;rw[ego] at hbx;have c2:w2.cell? ⟨wb,2,none⟩=some (.slice (some ⟨gb,goff,none⟩) O.length gcap):=qe hbx 2;have HPC:Hid (∀ w',Calls Tryz.prog 14 #[.int .i64 oC,.int .i64 O.length] w' fun e w''=>e=.returned (.int .i64 ic)/\w''=w'):=fun w'=>by
     have h:=Jp oC O.length w' (qb HCC) (by omega);rw[ec] at h;exact h
    have nO:¬(O.length:Int)=0:=(by omega);have j0:(0:Int)<=(ic:Int):=(by omega);have j1:(ic:Int)<(O.length:Int):=(by omega);have HRl:=qg hRl;have HLL:=qg hll;obtain⟨code,s',d',hR',hP,hD⟩:=qq2 (U:=U) (wb:=wb) (gr:=gr) (gc:=gc) (go:=go) (C:=C) (O:=O) ((qb HH).at (qb HS)) oB l hll.1 hll.2;have HR':=qg hR';have HP:Hid (∀ {w:World}{ss kr ki kf:Value}{sh:List Shf}{er ei ef:List Ent}{col:Nat->Nat}{i:Nat}{y:Shf}(V:Nat->Prop)(ao:Option Addr)(cap:Nat),qW U wb gr gc go C O w ss kr ki kf sh er ei ef col->sh[i]?=some y->y.s=x.s->RdO V w (.slice ao l.length cap) l->(∀ b,V b->b<w.heap.size)->Calls Tryz.prog 25 #[.pointer (some ⟨y.xp,0,none⟩),.int .i64 oB,.slice ao l.length cap] w (vY U wb gr gc go C O ss kr ki kf sh er ei ef col i {y with s:=s'} (.int .i64 code) w)):=hP;have HD:Hid (∀ {w:World}{ss kr ki kf:Value}{sh:List Shf}{er ei ef:List Ent}{col:Nat->Nat}{i:Nat}{y:Shf}(ao:Option Addr)(cap:Nat),qW U wb gr gc go C O w ss kr ki kf sh er ei ef col->sh[i]?=some y->y.d=x.d->RdO U w (.slice ao l.length cap) l->Calls Tryz.prog 27 #[.pointer (some ⟨y.rp,0,none⟩),.int .i64 oB,.slice ao l.length cap] w (vY U wb gr gc go C O ss kr ki kf sh er ei ef col i {y with d:=d'} (.int .i64 code) w)):=hD;clear hbx ego hRl hll ec hl HPA hR' hP hD
    go_wp2_with fail
    go_quiet ((go_at_call 14;exact Calls.quiet_of_same ((qb HPC) _)))
    have hB3:Below w2.heap.size w2 (w2.drewN nq):=below_drewN (Below.refl _ _) _;have y0:(w2.drewN nq).cell? ⟨w1.heap.size,0,none⟩=some (.pointer (some ⟨x.xp,0,none⟩)):=x0;have y1:(w2.drewN nq).cell? ⟨w1.heap.size,1,none⟩=some (.pointer (some ⟨x.rp,0,none⟩)):=x1;have z2:(w2.drewN nq).cell? ⟨w.heap.size,2,none⟩=some (.int .i64 oB):=o2;have es3:(w2.drewN nq).heap.size=w2.heap.size:=rfl;clear x0 x1 o0 o2 o3 c2 hgc;generalize w2.drewN nq=w3 at *;have HB3:=qg hB3;clear hB3
    go_wp2_with fail
    have hBA:Below w2.heap.size w2 (w3.alloc (.cells #[.slice none 0 0,.slice none 0 0,.slice none 0 0] 76)):=(qb HB3).alloc (qb HB3).size _;have hmA:(w3.alloc (.cells #[.slice none 0 0,.slice none 0 0,.slice none 0 0] 76)).heap[w2.heap.size]?=some (.cells #[.slice none 0 0,.slice none 0 0,.slice none 0 0] 76):=qt _ _ _ es3.symm;have l3a:w1.heap.size<w3.heap.size:=(by rw[es3];exact lx);have l3b:w.heap.size<w3.heap.size:=(by rw[es3];exact lo');have u0:(w3.alloc (.cells #[.slice none 0 0,.slice none 0 0,.slice none 0 0] 76)).cell? ⟨w1.heap.size,0,none⟩=some (.pointer (some ⟨x.xp,0,none⟩)):=(World.cell?_of_block (w:=w3) (Below.heap_alloc _ _ _ l3a)).trans y0;have u1:(w3.alloc (.cells #[.slice none 0 0,.slice none 0 0,.slice none 0 0] 76)).cell? ⟨w1.heap.size,1,none⟩=some (.pointer (some ⟨x.rp,0,none⟩)):=(World.cell?_of_block (w:=w3) (Below.heap_alloc _ _ _ l3a)).trans y1;have u2:(w3.alloc (.cells #[.slice none 0 0,.slice none 0 0,.slice none 0 0] 76)).cell? ⟨w.heap.size,2,none⟩=some (.int .i64 oB):=(World.cell?_of_block (w:=w3) (Below.heap_alloc _ _ _ l3b)).trans z2;clear y0 y1 z2 HB3 es3;generalize w3.alloc (.cells #[.slice none 0 0,.slice none 0 0,.slice none 0 0] 76)=wA at *;have hsA:=hBA.size;have HRA:=qg ((qb HRl).below hBA);have HL:=qg (qt1 U w2.heap.size lo lcap l wA.drew hmA ((qb HRA).below (Below.refl _ _).drew) (qb HLL).1 (qb HLL).2 (fun k hk=>by have:=((qb HM2).far k hk).2;exact⟨by show k<wA.heap.size;omega,by omega⟩));have HBA:=qg hBA;have hz2:=(qb HB2).size;have a1:w1.heap.size<wA.drew.heap.size:=(by show _<wA.heap.size;omega);have a2:w.heap.size<wA.drew.heap.size:=(by show _<wA.heap.size;omega);have a3:¬w1.heap.size=w2.heap.size:=(by omega);have a4:¬w.heap.size=w2.heap.size:=(by omega);clear hBA hmA HPC
    go_region_held3 (fun w'=>w'.cell? ⟨w1.heap.size,0,none⟩=some (.pointer (some ⟨x.xp,0,none⟩))/\w'.cell? ⟨w.heap.size,2,none⟩=some (.int .i64 oB))
     (first | (refine⟨?_,?_⟩<;>assumption) | go_keep)
     (first
       | (go_at_call 26
          refine (qb HL).mono ?_
          rintro e w4 ⟨la,lc,rfl,hb4,hR4,hW4⟩
          have v0:w4.cell? ⟨w1.heap.size,0,none⟩=some (.pointer (some ⟨x.xp,0,none⟩)):=(World.cell?_of_block (hb4.block w1.heap.size a1 a3)).trans u0
          have v1:w4.cell? ⟨w1.heap.size,1,none⟩=some (.pointer (some ⟨x.rp,0,none⟩)):=(World.cell?_of_block (hb4.block w1.heap.size a1 a3)).trans u1
          have v2:w4.cell? ⟨w.heap.size,2,none⟩=some (.int .i64 oB):=(World.cell?_of_block (hb4.block w.heap.size a2 a4)).trans u2
          have hB4w:Below w2.heap.size w2 w4:=((qb HBA).drew).trans (hb4.below (by show _<=wA.heap.size;omega) (fun k e=>by rw[e];omega))
          have hs4:wA.heap.size<=w4.heap.size:=hb4.size
          have bY4:=(hB4w.block w1.heap.size lx).trans (qb HY2)
          have bX4:=(hB4w.block w.heap.size lo').trans (qb HX2)
          have HSub:=qg ((qb HP) _ la lc ((qb HM2).below hB4w) (qb HS) rfl hR4 (fun b hb=>hb.2))
          have HBY4:=qg bY4
          have HBX4:=qg bX4
          have HB4w:=qg hB4w
          have HW4:=qg hW4
          have HR4:=qg ((qb HRl).below hB4w)
          clear hb4 hR4 hW4 hB4w bY4 bX4 HP)
       | (go_at_call 25
          refine (qb HSub).mono ?_
          rintro e w5 ⟨col5,rfl,m5,g5⟩
          have bY5:=(g5.block (qb HBY4) f1).1
          have bX5:=(g5.block (qb HBX4) f0).1
          have v0':w5.cell? ⟨w1.heap.size,0,none⟩=some (.pointer (some ⟨x.xp,0,none⟩)):=qe bY5 0
          have v1':w5.cell? ⟨w1.heap.size,1,none⟩=some (.pointer (some ⟨x.rp,0,none⟩)):=qe bY5 1
          have v2':w5.cell? ⟨w.heap.size,2,none⟩=some (.int .i64 oB):=qe bX5 2
          have l5a:w1.heap.size<w5.heap.size:=qh bY5
          have l5b:w.heap.size<w5.heap.size:=qh bX5
          have hyy:(sh.set ia {x with s:=s'})[ia]?=some {x with s:=s'}:=List.getElem?_set_self hia
          have HDoc:=qg ((qb HD) lo lcap m5 hyy rfl ((qb HR4).but g5.but (fun k hk c=>c (hU0 k hk))))
          have HG5:=qg g5
          clear m5 g5 bY5 bX5 hyy HD))
    clear HSub HL
    go_wp2_with fail
    refine (qb HDoc).mono ?_;rintro e w6 ⟨col6,rfl,m6,g6⟩;rw[yq] at m6;have g46:=(qb HG5).trans g6;have hcl:∀ b,col b≠0->b<w.heap.size:=(qb HH).mem.clt;have HWh:=qg ((qb HW4) w6 (fun b=>col b≠0) g46.but (fun u hu=>⟨by have:=hcl u hu;show u<wA.heap.size;omega,by have:=hcl u hu;omega,fun c=>hu (hU0 u c)⟩));have HEnd:Hid (∀ w7,But (fun k=>wA.drew.heap.size<=k/\k<w4.heap.size) w6 w7->xf U wb gr gc go C O (n+1) w7/\But (fun b=>¬U b) w2 w7):=fun w7 hb7=>by
     have hfr:∀ b,(wA.drew.heap.size<=b/\b<w4.heap.size)->col6 b=0/\¬U b:=fun b hb=>by
      have h1:wA.heap.size<=b:=hb.1;have h2:col b=0:=by
       rcases Nat.eq_zero_or_pos (col b) with e | e
       ·exact e
       ·have:=hcl b (by omega);omega
      exact⟨g46.zero b hb.2 h2,fun hu=>by have:=((qb HM2).far b hu).2;omega⟩
     refine⟨(qb HH).put (qb HS) (m6.frame hb7 (fun b hb _=>hfr b hb)) (qb HR'),?_⟩;exact ((But.of_below (qb HB4w)).trans (g46.toU hU0)).trans (hb7.wide (fun b _ hb=>(hfr b hb).2))
    clear m6 g6 g46 hcl HDoc
    go_wp2_with fail
    refine (qb HWh).mono ?_;rintro e w7 ⟨rfl,hb7⟩;have HFin:=qg ((qb HEnd) w7 hb7);clear hb7 HWh HEnd
    go_wp2_with (go_at_call 17;refine ((qb HN) _ _).mono ?_;rintro e w' ⟨rfl,hw'⟩;have hw2:=hw'.symm;clear hw';subst hw2)
    go_ret;exact⟨by simp,(qb HFin).1,(qb HU2) _ (qb HFin).2⟩
  ·subst hkk;obtain⟨ek,s',d',hR',hP,hD⟩:=ql1 (U:=U) (wb:=wb) (gr:=gr) (gc:=gc) (go:=go) (C:=C) (O:=O) ((qb HH).at (qb HS)) hn9 oB;have HR':=qg hR';have HP:=qg (hP (qb HM2) (qb HS) rfl);have HD:Hid (∀ {w:World}{ss kr ki kf:Value}{sh:List Shf}{er ei ef:List Ent}{col:Nat->Nat}{i:Nat}{y:Shf},qW U wb gr gc go C O w ss kr ki kf sh er ei ef col->sh[i]?=some y->y.d=x.d->Calls Tryz.prog 19 #[.pointer (some ⟨y.rp,0,none⟩),.int .i64 oB] w (vY U wb gr gc go C O ss kr ki kf sh er ei ef col i {y with d:=d'} (.int .i64 ek) w)):=hD;clear hR' hP hD
   go_wp2_with (first
    | (go_at_call 18;refine (qb HP).mono ?_
       rintro e w3 ⟨col3,rfl,m3,g3⟩
       have hyy:(sh.set ia {x with s:=s'})[ia]?=some {x with s:=s'}:=List.getElem?_set_self hia
       have bY:=g3.block (qb HY2) f1
       have bX:=g3.block (qb HX2) f0
       have y1:w3.cell? ⟨w1.heap.size,1,none⟩=some (.pointer (some ⟨x.rp,0,none⟩)):=qe bY.1 1
       have l1':w1.heap.size<w3.heap.size:=qh bY.1
       have l0':w.heap.size<w3.heap.size:=qh bX.1
       have z2:w3.cell? ⟨w.heap.size,2,none⟩=some (.int .i64 oB):=qe bX.1 2
       have HDk:=qg ((qb HD) m3 hyy rfl)
       have HG3:=qg g3
       clear m3 g3 bY bX hyy HP x0 x1 o2 o3 o0)
    | (go_at_call 19;refine (qb HDk).mono ?_
       rintro e w4 ⟨col4,rfl,m4,g4⟩
       have HM4:=qg m4
       have HG4:=qg g4
       clear m4 g4 HDk y1 z2)
    | (go_at_call 17;refine ((qb HN) _ _).mono ?_;rintro e w' ⟨rfl,hw'⟩;have hw2:=hw'.symm;clear hw';subst hw2))
   go_ret;refine⟨by simp,?_,(qb HU2) _ (((qb HG3).trans (qb HG4)).toU hU0)⟩;have hm:=qb HM4;rw[yq] at hm;exact (qb HH).put (qb HS) hm (qb HR')
  ·subst hkk;have HT:=qg (qg6 (w:=w2) ⟨qb HM2,(qb HH).each,(qb HH).len⟩ (qb HS) hn9 oB hB)
   go_wp2_with (go_at_call 20;refine (qb HT).mono ?_
                rintro e w3 ⟨rfl,hL,hb⟩
                have HL:=qg hL
                have HBt:=qg hb
                clear hL hb HT)
   go_ret;exact⟨rfl,qb HL,(qb HU2) _ (qb HBt)⟩
  ·subst hkk;have hR:=(qb HH).at (qb HS);have hfr:x.s.f.front<3:=hR.ok.st.fr.fr;have hwh:x.s.f.W*x.s.f.H<=256:=hR.ok.st.fr.wh;have hpl:(x.s.f.b x.s.f.front).px.length=x.s.f.W*x.s.f.H:=hR.ok.st.fr.px _ hfr;obtain⟨px,hpx⟩:∃ px,px=(x.s.f.b x.s.f.front).px:=⟨_,rfl⟩;have HP:=qg ((qb HM2).pFront (qb HS) hfr (by omega));have hdf:x.d.front<3:=(by rw[hR.r.f.front];exact hfr);have hsh:x.d.p x.d.front=px:=(by rw[hR.r.f.front,hpx];exact hR.r.f.shown.symm);rw[<-hpx] at HP hpl;have hp9:px.length<=256:=(by omega);have HSH:=qg hsh;have HDF:=qg hdf;clear hR hfr hwh hpl hpx hsh hdf
   go_wp2_with (first
    | (go_at_call 21;refine (qb HP).mono ?_
       rintro e w3 ⟨fv,rfl,o3',b3⟩
       obtain⟨fo,fc,efv⟩:=qr o3'
       subst efv
       have HO3:=qg o3'
       have HB3:=qg b3
       have y1:w3.cell? ⟨w1.heap.size,1,none⟩=some (.pointer (some ⟨x.rp,0,none⟩)):=(b3.cell (p:=⟨w1.heap.size,1,none⟩) lx).trans x1
       have l1':w1.heap.size<w3.heap.size:=zzm lx b3.size
       have HDk:=qg (((qb HM2).below b3).dShown (qb HS) (qb HDF))
       rw[qb HSH] at HDk
       clear o3' b3 HP x0 x1 o2 o3 o0)
    | (go_at_call 22;refine (qb HDk).mono ?_
       rintro e w4 ⟨⟨b4,rfl,hb4⟩,b4'⟩
       have hB4:Below w2.heap.size w2 w4:=(qb HB3).trans (b4'.mono (qb HB3).size)
       have hO4:zh w4 0 (.slice fo px.length fc) px:=Yf (qi (qb HO3) (But.of_below (S:=fun _=>False) b4') (fun _ _ h=>h))
       have hr2:RdN (fun _=>True) w4 (.slice (some ⟨b4,0,none⟩) px.length px.length) px:=by
         refine⟨some ⟨b4,0,none⟩,px.length,rfl,zzl _,by unfold maxLen;omega,fun _=>⟨b4,0,rfl,trivial,zzm (qh hb4) b4'.size,fun j z hz=>?_⟩⟩
         rw[Nat.zero_add,b4'.cell (p:=⟨b4,j,none⟩) (qh hb4),qe hb4]
         simp[hz]
       have HSM:=qg (XA _ _ _ _ px w4 hO4.rd hr2 (by omega))
       have hge:∀ k,(Value.slice fo px.length fc).ownBlock=some k->col k=0/\¬U k:=fun k hk=>by
         have q:=(World.ownsRow.lt (qb HO3) k hk).1
         refine⟨?_,fun hu=>?_⟩
         · rcases Nat.eq_zero_or_pos (col k) with e | e
           · exact e
           · have:=(qb HM2).clt k (by omega);omega
         · have:=((qb HM2).far k hu).2;omega
       have HKI:Hid (∀ q,Calls Tryz.prog 24 #[.pointer (some ⟨wb,4,none⟩),.slice fo px.length fc] (w4.drewN q) fun e w'=>e=.returned (.tuple #[])/\xf U wb gr gc go C O (n+1) w'/\But (fun b=>¬U b) w2 w'):=fun q=>by
         have hB5:Below w2.heap.size w2 (w4.drewN q):=below_drewN hB4 q
         have hL:=(qb HH).len
         refine (((qb HM2).below hB5).keepI (R:=px) (qi hO4 (But.of_below (S:=fun _=>False) (below_drewN (Below.refl _ w4) q)) (fun _ _ h=>h)) hge (by omega) (by omega)).mono ?_
         rintro e w' ⟨rfl,ki',en,col',m',hb',-⟩
         refine⟨rfl,⟨ss,kr,ki',kf,sh,er,ei++[en],ef,col',m',fun y hy=>((qb HH).each y hy).more,⟨by omega,by omega,by simp;omega,by omega⟩⟩,(But.of_below hB5).step hb' (fun b hc=>?_)⟩
         rcases hc with e | e
         · exact .inl fun hu=>e (hU0 b hu)
         · exact .inl (hge b e).2
       clear hB4 hO4 hr2 hge b4' hb4 HDk y1)
    | (go_at_call 23;refine (qb HSM).mono ?_
       rintro e w5 ⟨rfl,q,rfl⟩
       have HK5:=qg ((qb HKI) q)
       clear HSM HKI)
    | (go_at_call 24;refine (qb HK5).mono ?_
       rintro e w6 ⟨rfl,hL,hb⟩
       have HL:=qg hL
       have HBt:=qg hb
       clear hL hb HK5))
   go_ret;exact⟨rfl,qb HL,(qb HU2) _ (qb HBt)⟩
 clear aK
 go_region_held3 (fun w'=>w'.cell? ⟨wb,3,none⟩=some (.slice (some ⟨sb,0,none⟩) sh.length scap)/\w'.cell? ⟨w.heap.size,1,none⟩=some (.int .i64 oA)/\w'.cell? ⟨sb,ia*2,none⟩=some (.pointer (some ⟨x.xp,0,none⟩))/\w'.cell? ⟨sb,ia*2+1,none⟩=some (.pointer (some ⟨x.rp,0,none⟩)))
  (first | (refine⟨?_,?_,?_,?_⟩<;>assumption) | go_keep)
  ((go_at_call 14;refine ((qb HPA) _).mono ?_;rintro e w' ⟨rfl,hw'⟩;have hw2:=hw'.symm;clear hw';subst hw2))
 all_goals
  simp only[Exit.then];go_simp;exact qb HK
end
end Go.Proofs.YtfnockbgkcgpkaaGreat
