import Derived.Test.YtfnockbgkcgpkaaGreatTkbm
import Derived.Test.YtfnockbgkcgpkaaGreatTkbx
import Derived.Test.YtfnockbgkcgpkaaGreatTkby
import Derived.Deep.RegionHeld3
import Derived.Deep.AppendLies
import Derived.BigQuiet
import Derived.BigRegion
import Derived.Deep.QuietTactic
set_option linter.all false
set_option maxRecDepth 100000
set_option maxHeartbeats 16000000
namespace Go.Proofs.YtfnockbgkcgpkaaGreat
open Go.RowKit Go.Proofs.Panes
theorem RdC.at {U:Nat->Prop}{w:World}{v:Value}{L:List Cfg}(h:RdC U w v L){i:Nat}{c:Cfg}(hl:L[i]?=some c):∃ b off cap,v=.slice (some ⟨b,off,none⟩) L.length cap/\b<w.heap.size/\CAt w b (off+i*8) c:=by
 obtain⟨ao,cap,rfl,h1⟩:=h;obtain⟨b,off,rfl,hu,hlt,h2⟩:=h1 (by intro e;subst e;simp at hl);exact⟨b,off,cap,rfl,hlt,h2 i c hl⟩
theorem KX:(Tryz.prog.info? 57).map (fun i=>(i.zero,i.size,i.bytes))=some (some (.agg #[.pointer none,.pointer none]),2,16):=by kernel_rfl
theorem qw2 (col:Nat->Nat)(P Q R:Nat->Prop)(c d:Nat):∃ col':Nat->Nat,(∀ b,P b->col' b=c)/\(∀ b,¬P b->Q b->col' b=d)/\(∀ b,¬P b->¬Q b->R b->col' b=1)/\∀ b,¬P b->¬Q b->¬R b->col' b=col b:=by
 have hx:∀ b,∃ r,(P b->r=c)/\(¬P b->Q b->r=d)/\(¬P b->¬Q b->R b->r=1)/\(¬P b->¬Q b->¬R b->r=col b):=fun b=>by
  by_cases hp:P b
  ·exact⟨c,fun _=>rfl,fun h=>absurd hp h,fun h=>absurd hp h,fun h=>absurd hp h⟩
  ·by_cases hq:Q b
   ·exact⟨d,fun h=>absurd h hp,fun _ _=>rfl,fun _ h=>absurd hq h,fun _ h=>absurd hq h⟩
   ·by_cases hr:R b
    ·exact⟨1,fun h=>absurd h hp,fun _ h=>absurd h hq,fun _ _ _=>rfl,fun _ _ h=>absurd hr h⟩
    ·exact⟨col b,fun h=>absurd h hp,fun _ h=>absurd h hq,fun _ _ h=>absurd h hr,fun _ _ _=>rfl⟩
 exact⟨fun x=>Classical.choose (hx x),fun x=>(Classical.choose_spec (hx x)).1,fun x=>(Classical.choose_spec (hx x)).2.1,fun x=>(Classical.choose_spec (hx x)).2.2.1,fun x=>(Classical.choose_spec (hx x)).2.2.2⟩
section
variable {U:Nat->Prop}{wb:Nat}{gr gc go:Value}{C:List Cfg}{O:List (List Opn)}{n:Nat}{w:World}{ss kr ki kf:Value}{sh:List Shf}{er ei ef:List Ent}{col:Nat->Nat}
theorem qj6 {ss kr ki kf:Value}{ao:Option Addr}{cap:Nat}{w:World}(hbx:w.heap[wb]?=some (.cells #[gr,.slice ao 0 cap,go,ss,kr,ki,kf] 39))(kind oA oB oC:Int) :
 Calls Tryz.prog 13 #[.pointer (some ⟨wb,0,none⟩),.agg #[.int .i64 kind,.int .i64 oA,.int .i64 oB,.int .i64 oC]] w fun e w'=>e=.returned (.bool true)/\Below w.heap.size w w':=by
 have c1:w.cell? ⟨wb,1,none⟩=some (.slice ao 0 cap):=qe hbx 1;have hwb:=qh hbx;clear hbx
 go_enter Tryz.func13,Tryz.ntmps13
 go_wp2;go_ret;exact⟨rfl,(Below.refl _ w).alloc (zzl _) _⟩
theorem LSt.newEnd (h:LSt U wb gr gc go C O n w ss kr ki kf sh er ei ef col){so:Option Addr}{scap:Nat}(ess:ss=.slice so sh.length scap){w4 w6:World}{xp kb sb fb rp:Nat}{cps:List (Option Nat)}{o qo:Nat->Nat}{D:Nat->Prop}{v:Dv}{c:Cfg}(hB4:Below w.heap.size w w4)(hP:qI o w4 xp kb sb fb cps (xZ c))(hoP:∀ x,o x≠0->w.heap.size<=x)(hD:qU D U qo w4 rp (Vj c) v [])(hoD:∀ x,D x->w.heap.size<=x)(hdis:∀ x,o x≠0->¬D x)(hok:jU c=true)
 {o7:Obj} {gg gk:Nat} (hgrow:(w4.alloc o7).grownBy w6 (Value.slice so sh.length scap).ownBlock) (hown:w6.ownsRow 0 57 2 (.slice (some ⟨gg,0,none⟩) (sh.length+1) gk) (sh.length+1) (zE sh++[.pointer (some ⟨xp,0,none⟩),.pointer (some ⟨rp,0,none⟩)])) (hat:(Value.slice so sh.length scap).ownBlock=some gg\/gg=(w4.alloc o7).heap.size) :
 xf U wb gr gc go C O (n+1) (w6.setCell ⟨wb,3,none⟩ (.slice (some ⟨gg,0,none⟩) (sh.length+1) gk))/\But (fun b=>¬U b) w (w6.setCell ⟨wb,3,none⟩ (.slice (some ⟨gg,0,none⟩) (sh.length+1) gk)):=by
 rw[<-ess] at hgrow hat;have m:=h.mem;have hs4:=hB4.size;have hwl:=qh m.box;have hsl:∀ g,ss.ownBlock=some g->g<w.heap.size:=fun g hg=>(World.ownsRow.lt m.own g hg).2;have hz7:(w4.alloc o7).heap.size=w4.heap.size+1:=(by show (w4.heap.push _).size=_;rw[Array.size_push]);have b46:But (fun b=>b=wb\/ss.ownBlock=some b) w4 (w6.setCell ⟨wb,3,none⟩ (.slice (some ⟨gg,0,none⟩) (sh.length+1) gk)):=(((But.refl (fun b=>b=wb\/ss.ownBlock=some b) w4).alloc o7).grown hgrow (fun k e=>.inl (.inr e))).setCell (p:=⟨wb,3,none⟩) (.inl (.inl rfl)) _;have b06:But (fun b=>b=wb\/ss.ownBlock=some b) w (w6.setCell ⟨wb,3,none⟩ (.slice (some ⟨gg,0,none⟩) (sh.length+1) gk)):=(But.of_below hB4).trans b46;have hbx4:w4.heap[wb]?=some (.cells #[gr,gc,go,ss,kr,ki,kf] 39):=(hB4.block _ hwl).trans m.box;have hkw:ss.ownBlock≠some wb:=qq m.own m.box (by decide);have hbx6:w6.heap[wb]?=some (.cells #[gr,gc,go,ss,kr,ki,kf] 39):=zl hgrow (qx hbx4 o7) hkw;have hgw:gg≠wb:=fun e=>qq hown hbx6 (by decide) (by rw[e];rfl);have hT:∀ b,(b=wb\/ss.ownBlock=some b)->col b=1:=fun b hb=>by
  rcases hb with q | q
  ·rw[q];exact m.cw
  ·exact m.cs b q
 have hTU:∀ b,U b->¬(b=wb\/ss.ownBlock=some b):=fun b hu hb=>by
  have:=hT b hb;have:=(m.far b hu).1;omega
 have hTn:∀ b,w.heap.size<=b->¬(b=wb\/ss.ownBlock=some b):=fun b hl hb=>by
  rcases hb with q | q
  ·omega
  ·have:=hsl b q;omega
 obtain⟨col',c1,c2,c3,c4⟩:=qw2 col (fun b=>o b≠0) D (fun b=>b=gg) (2*sh.length+2) (2*sh.length+3);have hold:∀ b,b<w.heap.size->col' b=col b:=fun b hb=>by
  have h1:¬o b≠0:=fun e=>by have:=hoP b e;omega
  have h2:¬D b:=fun e=>by have:=hoD b e;omega
  by_cases e:b=gg
  ·rw[c3 b h1 h2 e]
   rcases hat with q | q
   ·rw[e];exact (m.cs gg q).symm
   ·omega
  ·exact c4 b h1 h2 e
 have hgg:col' gg=1:=by
  have h1:¬o gg≠0:=fun e=>by
   have:=hP.lt gg e;have:=hoP gg e
   rcases hat with q | q
   ·have:=hsl gg q;omega
   ·omega
  have h2:¬D gg:=fun e=>by
   have:=hD.dl gg e;have:=hoD gg e
   rcases hat with q | q
   ·have:=hsl gg q;omega
   ·omega
  exact c3 gg h1 h2 rfl
 have hrow:∀ {e:TypeId}{size:Nat}{u:Value}{n:Nat}{xs:List Value},w.ownsRow 0 e size u n xs->39≠e->57≠e->∀ k,u.ownBlock=some k->¬(k=wb\/ss.ownBlock=some k):=fun hr t1 t2 k hk hc=>by
  rcases hc with q | q
  ·exact qq hr m.box t1 (by rw[<-q];exact hk)
  ·obtain⟨cs,fz,e⟩:=qE m.own q;exact qq hr e t2 hk
 have hodd:∀ (t:TypeId),39≠t->57≠t->∀ k,(k=wb\/ss.ownBlock=some k)->k<w.heap.size->∃ cs t' fz,w.heap[k]?=some (.cells cs t' fz)/\t'≠t:=fun t t1 t2 k hk _=>by
  rcases hk with q | q
  ·rw[q];exact⟨_,_,_,m.box,t1⟩
  ·obtain⟨cs,fz,e⟩:=qE m.own q;exact⟨_,_,_,e,t2⟩
 have hz6:=b06.size;refine⟨⟨.slice (some ⟨gg,0,none⟩) (sh.length+1) gk,kr,ki,kf,sh++[⟨xp,rp,xZ c,Vj c⟩],er,ei,ef,col',⟨?_,?_,fun i y hy=>?_,fun i y hy=>?_,qi m.oR b06 (hrow m.oR (by decide) (by decide)),qi m.oI b06 (hrow m.oI (by decide) (by decide)),qi m.oF b06 (hrow m.oF (by decide) (by decide)),
  fun e he=>⟨(m.eR e he).1.odd b06 (hodd _ (by decide) (by decide)),fun k hk=>by rw[hold k (m.clt k (by rw[(m.eR e he).2 k hk];omega))];exact (m.eR e he).2 k hk⟩,fun e he=>⟨(m.eI e he).1.odd b06 (hodd _ (by decide) (by decide)),fun k hk=>by rw[hold k ((m.eI e he).1.lt hk)];exact (m.eI e he).2 k hk⟩,fun e he=>⟨(m.eF e he).1.odd b06 (hodd _ (by decide) (by decide)),fun k hk=>by rw[hold k ((m.eF e he).1.lt hk)];exact (m.eF e he).2 k hk⟩,
  by rw[hold wb hwl];exact m.cw,fun g hg=>?_,fun g hg=>by rw[hold g (World.ownsRow.lt m.oR g hg).2];exact m.cR g hg,fun g hg=>by rw[hold g (World.ownsRow.lt m.oI g hg).2];exact m.cI g hg,fun g hg=>by rw[hold g (World.ownsRow.lt m.oF g hg).2];exact m.cF g hg,fun b hb=>?_,m.rdC.but b06 hTU,m.rdO.but b06 hTU,fun k hk=>⟨by rw[hold k (m.far k hk).2];exact (m.far k hk).1,zzm (m.far k hk).2 hz6⟩⟩,fun y hy=>?_,?_⟩,b06.wide (fun b _ hb hu=>hTU b hu hb)⟩
 ·simpa using qp (i:=3) hbx6 (.slice (some ⟨gg,0,none⟩) (sh.length+1) gk)
 ·have:=ownsRow_setCell_other hown (a:=⟨wb,3,none⟩) (by simp[Value.ownBlock];exact hgw) (.slice (some ⟨gg,0,none⟩) (sh.length+1) gk);rw[Xk,List.length_append];exact this
 ·rcases Nat.lt_or_ge i sh.length with q | q
  ·rw[List.getElem?_append_left q] at hy;exact (m.pr i y hy).but b06 (fun b hl hc hb=>by have:=hT b hb;omega) (fun b hl hc=>by rw[hold b hl];exact hc)
  ·rw[List.getElem?_append_right q] at hy;have hi:i-sh.length=0:=by
    rcases Nat.eq_zero_or_pos (i-sh.length) with e | e
    ·exact e
    ·rw[List.getElem?_eq_none (by simp;omega)] at hy;cases hy
   rw[hi] at hy;have:=Option.some.inj hy;subst this;have ei:i=sh.length:=(by omega);subst ei;exact⟨o,kb,sb,fb,cps,hP.but b46 (fun x hx=>hTn x (hoP x hx)),fun b hb=>c1 b hb⟩
 ·rcases Nat.lt_or_ge i sh.length with q | q
  ·rw[List.getElem?_append_left q] at hy;exact (m.dc i y hy).but b06 (fun b hl hc hb=>by have:=hT b hb;omega) hTU (fun b hl hc=>by rw[hold b hl];exact hc)
  ·rw[List.getElem?_append_right q] at hy;have hi:i-sh.length=0:=by
    rcases Nat.eq_zero_or_pos (i-sh.length) with e | e
    ·exact e
    ·rw[List.getElem?_eq_none (by simp;omega)] at hy;cases hy
   rw[hi] at hy;have:=Option.some.inj hy;subst this;have ei:i=sh.length:=(by omega);subst ei;exact⟨D,qo,v,[],hD.frame b46 (fun x hx=>⟨fun hd=>hTn x (hoD x hd) hx,fun hu=>hTU x hu hx⟩),fun b hb=>c2 b (fun e=>hdis b e hb) hb⟩
 ·simp only[Value.ownBlock,Option.some.injEq] at hg;rw[<-hg];exact hgg
 ·by_cases h1:o b≠0
  ·exact zzm (hP.lt b h1) b46.size
  ·by_cases h2:D b
   ·exact zzm (hD.dl b h2) b46.size
   ·by_cases e:b=gg
    ·rw[e];have:=(World.ownsRow.lt hown gg rfl).2;simpa[World.setCell] using this
    ·rw[c4 b h1 h2 e] at hb;exact zzm (m.clt b hb) hz6
 ·rcases List.mem_append.1 hy with q | q
  ·exact (h.each y q).more
  ·rw[List.mem_singleton.1 q];exact newR hok xp rp (n+1)
 ·have:=h.len;rw[List.length_append];simp only[List.length_cons,List.length_nil];omega
theorem qj5 (h:LSt U wb gr gc go C O n w ss kr ki kf sh er ei ef col)(kind oA oB oC:Int)(hA:-9223372036854775808<=oA/\oA<=9223372036854775807)(hn9:n<=1100000)(hC:0<C.length/\C.length<=10000000000000) :
 Calls Tryz.prog 13 #[.pointer (some ⟨wb,0,none⟩),.agg #[.int .i64 kind,.int .i64 oA,.int .i64 oB,.int .i64 oC]] w fun e w'=>e=.returned (.bool true)/\xf U wb gr gc go C O (n+1) w'/\But (fun b=>¬U b) w w':=by
 have hlen9:=h.len.1;obtain⟨ia,ea,hia⟩:=qr0 oA C.length hC.1;obtain⟨c,hc⟩:∃ c,C[ia]?=some c:=⟨C[ia],by simp[hia]⟩;obtain⟨cb,coff,ccap,egc,hcb,hcat⟩:=h.mem.rdC.at hc;have HPA:Hid (∀ w',Calls Tryz.prog 14 #[.int .i64 oA,.int .i64 C.length] w' fun e w''=>e=.returned (.int .i64 ia)/\w''=w'):=fun w'=>by
  have h:=Jp oA C.length w' hA (by omega);rw[ea] at h;exact h
 have hbx:=h.mem.box;rw[egc] at hbx;have c1:w.cell? ⟨wb,1,none⟩=some (.slice (some ⟨cb,coff,none⟩) C.length ccap):=qe hbx 1;have c3:w.cell? ⟨wb,3,none⟩=some ss:=qe hbx 3;have hwb:=qh hbx;obtain⟨g0,g1,g2,g3,g4,g5,g6,g7⟩:=hcat;have nC:¬(C.length:Int)=0:=(by omega);have i0:(0:Int)<=(ia:Int):=(by omega);have i1:(ia:Int)<(C.length:Int):=(by omega);have HH:=qg h;obtain⟨cw,ch,cc,cq,cm,cu,cs,ci⟩:=c;simp only at g0 g1 g2 g3 g4 g5 g6 g7;clear h hbx hA ea hc
 go_enter Tryz.func13,Tryz.ntmps13
 go_wp2_with fail
 have hB1:Below w.heap.size w (w.alloc (.cells #[.int .i64 kind,.int .i64 oA,.int .i64 oB,.int .i64 oC] 42)):=(Below.refl _ w).alloc (zzl _) _;have hX1:(w.alloc (.cells #[.int .i64 kind,.int .i64 oA,.int .i64 oB,.int .i64 oC] 42)).heap[w.heap.size]?=some (.cells #[.int .i64 kind,.int .i64 oA,.int .i64 oB,.int .i64 oC] 42):=qt _ _ _ rfl;generalize w.alloc (.cells #[.int .i64 kind,.int .i64 oA,.int .i64 oB,.int .i64 oC] 42)=w1 at *;have d1:=(hB1.cell (p:=⟨wb,1,none⟩) hwb).trans c1;have dA:w1.cell? ⟨w.heap.size,1,none⟩=some (.int .i64 oA):=qe hX1 1;have f0:=(hB1.cell (p:=⟨cb,coff+ia*8,none⟩) hcb).trans g0;have f1:=(hB1.cell (p:=⟨cb,coff+ia*8+1,none⟩) hcb).trans g1;have f2:=(hB1.cell (p:=⟨cb,coff+ia*8+2,none⟩) hcb).trans g2;have f3:=(hB1.cell (p:=⟨cb,coff+ia*8+3,none⟩) hcb).trans g3;have f4:=(hB1.cell (p:=⟨cb,coff+ia*8+4,none⟩) hcb).trans g4;have f5:=(hB1.cell (p:=⟨cb,coff+ia*8+5,none⟩) hcb).trans g5;have f6:=(hB1.cell (p:=⟨cb,coff+ia*8+6,none⟩) hcb).trans g6;have f7:=(hB1.cell (p:=⟨cb,coff+ia*8+7,none⟩) hcb).trans g7;have l1:w.heap.size<w1.heap.size:=qh hX1;have l2:wb<w1.heap.size:=(by omega);have l3:cb<w1.heap.size:=(by omega);have HB1:=qg hB1;clear hB1 hX1 g0 g1 g2 g3 g4 g5 g6 g7 c1;rename_i K aK;have HK:Hid (K {tmps:=#[.pointer (some ⟨wb,0,none⟩),.agg #[.int .i64 kind,.int .i64 oA,.int .i64 oB,.int .i64 oC],undef,.pointer (some ⟨w.heap.size,0,none⟩),.bool false,.pointer (some ⟨w1.heap.size,0,none⟩),undef,undef,undef,undef,.pointer (some ⟨wb,0,none⟩),.pointer (some ⟨wb,0,none⟩),.pointer (some ⟨wb,0,none⟩),.pointer (some ⟨wb,1,none⟩),.slice (some ⟨cb,coff,none⟩) C.length ccap,.int .i64 C.length,.bool false,.pointer (some ⟨wb,0,none⟩),.pointer (some ⟨wb,0,none⟩),.pointer (some ⟨wb,0,none⟩),.pointer (some ⟨wb,1,none⟩),.slice (some ⟨cb,coff,none⟩) C.length ccap,.pointer (some ⟨w.heap.size,1,none⟩),.int .i64 oA,.pointer (some ⟨wb,0,none⟩),.pointer (some ⟨wb,0,none⟩),.pointer (some ⟨wb,0,none⟩),.pointer (some ⟨wb,1,none⟩),.slice (some ⟨cb,coff,none⟩) C.length ccap,.int .i64 C.length,.int .i64 ia,.pointer (some ⟨cb,coff+ia*8,none⟩),.agg #[.int .i64 cw,.int .i64 ch,.int .i64 cc,.int .i64 cq,.int .i64 cm,.int .i64 cu,.int .i64 cs,.int .i64 ci],undef,undef,undef,undef,undef,undef,undef,undef,undef,undef,undef,undef,undef,undef,undef,undef,undef,undef,undef,undef,undef,undef,undef,undef,undef,undef,undef,undef,undef,undef,undef,undef,undef,undef,undef],defers:=[]} (w1.alloc (.cells #[.int .i64 cw,.int .i64 ch,.int .i64 cc,.int .i64 cq,.int .i64 cm,.int .i64 cu,.int .i64 cs,.int .i64 ci] 49)).drew):=by
  refine aK _ _ ?_;have hB2:Below w.heap.size w (w1.alloc (.cells #[.int .i64 cw,.int .i64 ch,.int .i64 cc,.int .i64 cq,.int .i64 cm,.int .i64 cu,.int .i64 cs,.int .i64 ci] 49)).drew:=((qb HB1).alloc (Nat.le_of_lt l1) _).drew;have hX2:(w1.alloc (.cells #[.int .i64 cw,.int .i64 ch,.int .i64 cc,.int .i64 cq,.int .i64 cm,.int .i64 cu,.int .i64 cs,.int .i64 ci] 49)).drew.heap[w1.heap.size]?=some (.cells #[.int .i64 cw,.int .i64 ch,.int .i64 cc,.int .i64 cq,.int .i64 cm,.int .i64 cu,.int .i64 cs,.int .i64 ci] 49):=qt _ _ _ rfl;clear f0 f1 f2 f3 f4 f5 f6 f7 d1 dA aK;generalize (w1.alloc (.cells #[.int .i64 cw,.int .i64 ch,.int .i64 cc,.int .i64 cq,.int .i64 cm,.int .i64 cu,.int .i64 cs,.int .i64 ci] 49)).drew=w2 at *;have x0:w2.cell? ⟨w1.heap.size,0,none⟩=some (.int .i64 cw):=qe hX2 0;have x1:w2.cell? ⟨w1.heap.size,1,none⟩=some (.int .i64 ch):=qe hX2 1;have x2:w2.cell? ⟨w1.heap.size,2,none⟩=some (.int .i64 cc):=qe hX2 2;have x3:w2.cell? ⟨w1.heap.size,3,none⟩=some (.int .i64 cq):=qe hX2 3;have x4:w2.cell? ⟨w1.heap.size,4,none⟩=some (.int .i64 cm):=qe hX2 4;have x5:w2.cell? ⟨w1.heap.size,5,none⟩=some (.int .i64 cu):=qe hX2 5;have x6:w2.cell? ⟨w1.heap.size,6,none⟩=some (.int .i64 cs):=qe hX2 6;have x7:w2.cell? ⟨w1.heap.size,7,none⟩=some (.int .i64 ci):=qe hX2 7;have lx:w1.heap.size<w2.heap.size:=qh hX2;have HB2:=qg hB2;have HX2:=qg hX2;have HN2:Hid (∀ w,Calls Tryz.prog 17 #[.int .i64 2] w fun e w'=>e=.returned (.int .i64 2)/\w'=w):=fun w=>Z4 2 w;have HN0:Hid (∀ w,Calls Tryz.prog 17 #[.int .i64 0] w fun e w'=>e=.returned (.int .i64 0)/\w'=w):=fun w=>Z4 0 w;clear hB2 hX2
  cases hok:jU ⟨cw,ch,cc,cq,cm,cu,cs,ci⟩ with
  | false=>
   have HP:=qg (Vd ⟨cw,ch,cc,cq,cm,cu,cs,ci⟩ w2 hok);have HD:Hid (∀ w,Calls Tryz.prog 41 #[vF ⟨cw,ch,cc,cq,cm,cu,cs,ci⟩] w fun e w'=>e=.returned (.tuple #[.pointer none,.int .i64 2])/\Below w.heap.size w w'):=fun w=>qa6 _ w hok;unfold vF at HP HD;simp only at HP HD;clear hok HN0
   go_wp2_with fail
   refine (qb HP).mono ?_;rintro e w3 ⟨rfl,hb3⟩;have y0:=(hb3.cell (p:=⟨w1.heap.size,0,none⟩) lx).trans x0;have y1:=(hb3.cell (p:=⟨w1.heap.size,1,none⟩) lx).trans x1;have y2:=(hb3.cell (p:=⟨w1.heap.size,2,none⟩) lx).trans x2;have y3:=(hb3.cell (p:=⟨w1.heap.size,3,none⟩) lx).trans x3;have y4:=(hb3.cell (p:=⟨w1.heap.size,4,none⟩) lx).trans x4;have y5:=(hb3.cell (p:=⟨w1.heap.size,5,none⟩) lx).trans x5;have y6:=(hb3.cell (p:=⟨w1.heap.size,6,none⟩) lx).trans x6;have y7:=(hb3.cell (p:=⟨w1.heap.size,7,none⟩) lx).trans x7;have HB3:=qg ((qb HB2).trans (hb3.mono (qb HB2).size));clear hb3 HP x0 x1 x2 x3 x4 x5 x6 x7
   go_wp2_with fail
   refine ((qb HD) _).mono ?_;rintro e w4 ⟨rfl,hb4⟩;have HB4:=qg ((qb HB3).trans (hb4.mono (qb HB3).size));clear hb4 HD
   go_wp2_with fail
   refine ((qb HN2) _).mono ?_;rintro e w5 ⟨rfl,hw5⟩;have hw6:=hw5.symm;clear hw5;subst hw6;go_wp2;go_ret;exact⟨rfl,(qb HH).same (qb HB4),.of_below (qb HB4)⟩
  | true=>
   have hbd:1<=cc/\cc<=4/\1<=cs/\cs<=4:=by
    have:=hok;simp only[jU,Bool.and_eq_true,jh] at this;omega
   obtain⟨nc,hn'⟩:∃ nc:Nat,cc=nc:=⟨cc.toNat,by omega⟩;subst hn';have HP:=qg (Yb ⟨cw,ch,nc,cq,cm,cu,cs,ci⟩ w2 hok nc rfl);have HD:Hid (∀ w,(∀ x,U x->x<w.heap.size)->Calls Tryz.prog 41 #[vF ⟨cw,ch,(nc:Int),cq,cm,cu,cs,ci⟩] w fun e w'=>∃ rp v,e=.returned (.tuple #[.pointer (some ⟨rp,0,none⟩),.int .i64 0])/\qU (fun x=>w.heap.size<=x/\x<w'.heap.size) U (fun _=>0) w' rp (Vj ⟨cw,ch,(nc:Int),cq,cm,cu,cs,ci⟩) v []/\Below w.heap.size w w'):=fun w hU=>zb1 _ w hok U hU;unfold vF at HP HD;simp only at HP HD;have HOK:=qg hok;obtain⟨so,scap,ess⟩:=qr (qb HH).mem.own;have c3':w.cell? ⟨wb,3,none⟩=some (.slice so sh.length scap):=(by rw[<-ess];exact c3);have HESS:=qg ess;clear hok HN2 ess
   go_wp2_with fail
   refine (qb HP).mono ?_;rintro e w3 ⟨xp,kb,sb,fb,o,rfl,hP,hx1,hb3⟩;have y0:=(hb3.cell (p:=⟨w1.heap.size,0,none⟩) lx).trans x0;have y1:=(hb3.cell (p:=⟨w1.heap.size,1,none⟩) lx).trans x1;have y2:=(hb3.cell (p:=⟨w1.heap.size,2,none⟩) lx).trans x2;have y3:=(hb3.cell (p:=⟨w1.heap.size,3,none⟩) lx).trans x3;have y4:=(hb3.cell (p:=⟨w1.heap.size,4,none⟩) lx).trans x4;have y5:=(hb3.cell (p:=⟨w1.heap.size,5,none⟩) lx).trans x5;have y6:=(hb3.cell (p:=⟨w1.heap.size,6,none⟩) lx).trans x6;have y7:=(hb3.cell (p:=⟨w1.heap.size,7,none⟩) lx).trans x7;have HB3:=qg ((qb HB2).trans (hb3.mono (qb HB2).size));have HPS:=qg hP;have hz2:=(qb HB2).size;have hz3:=hb3.size;clear hb3 hP HP x0 x1 x2 x3 x4 x5 x6 x7
   go_wp2_with fail
   refine ((qb HD) _ (fun x hx=>by have:=((qb HH).mem.far x hx).2;have:=(qb HB3).size;omega)).mono ?_;rintro e w4 ⟨sp,vv,rfl,hD,hb4⟩;have hB4:=(qb HB3).trans (hb4.mono (qb HB3).size);have HPS4:=qg ((qb HPS).below hb4);have HLT3:=qg (qb HPS).lt;have HDS:=qg hD;have e3:=(hB4.cell (p:=⟨wb,3,none⟩) hwb).trans c3';have HB4:=qg hB4;have hz4:=hb4.size;clear hb4 HD hD hB4 HPS y0 y1 y2 y3 y4 y5 y6 y7
   go_wp2_with fail
   refine ((qb HN0) _).mono ?_;rintro e w5 ⟨rfl,hw5⟩;have hw6:=hw5.symm;clear hw5;subst hw6;obtain⟨jj,hj,hy0,hy1,hy2⟩:=info_parts KX;have hbx4:=((qb HB4).block _ hwb).trans (qb HH).mem.box;have hQ4:w4.ownsRow 0 57 2 (.slice so sh.length scap) sh.length (zE sh):=by
    rw[<-qb HESS];exact qi (S:=fun _=>False) (qb HH).mem.own (.of_below (qb HB4)) (fun _ _ c=>c)
   have hkw:(Value.slice so sh.length scap).ownBlock≠some wb:=qq hQ4 hbx4 (by decide);have l4:wb<w4.heap.size:=qh hbx4;have ez:w4.frozen? ⟨wb,3,none⟩=false:=qj hbx4 3;have HQ4:=qg hQ4;have HKW:=qg hkw;clear hbx4 hQ4 hkw
   go_wp2_with (
    at_builtin
    refine wpList_append_lies _ rfl _ _ 32 rfl 0 57 jj _ 2 16 Tryz.underlying32 hj hy0 hy1 hy2 rfl (by decide) (.slice so sh.length scap) sh.length (zE sh) rfl (World.ownsRow.alloc (qb HQ4) _) ⟨w4.heap.size,0,none⟩ 1 1 [.pointer (some ⟨xp,0,none⟩),.pointer (some ⟨sp,0,none⟩)] rfl rfl (xT (qt _ _ _ rfl)) (by intro u hu;simp at hu;rcases hu with rfl | rfl<;>rfl) (by decide) (by unfold maxLen;omega) (by omega) (Nat.zero_le _) _ rfl ?_;intro gg gk w6 hown6 hgrow hat hltg;have qf:w6.frozen? ⟨wb,3,none⟩=false:=(hgrow.frozen_far ⟨wb,3,none⟩ (zzm l4 (by show _<=(w4.heap.push _).size;rw[Array.size_push];omega)) (Ne.symm (qb HKW))).trans ((World.frozen?_of_block (w:=w4) (Below.heap_alloc _ _ _ l4)).trans ez);have qcc:w6.cell? ⟨wb,3,none⟩=some (.slice so sh.length scap):=(hgrow.cell_far ⟨wb,3,none⟩ (zzm l4 (by show _<=(w4.heap.push _).size;rw[Array.size_push];omega)) (Ne.symm (qb HKW))).trans ((World.cell?_of_block (w:=w4) (Below.heap_alloc _ _ _ l4)).trans e3);have HO6:=qg hown6;have HG6:=qg hgrow;have HAT:=qg hat;clear hown6 hgrow hat hltg)
   go_ret;exact⟨rfl,(qb HH).newEnd (qb HESS) (qb HB4) (qb HPS4) (fun x hx=>by have:=hx1 x hx;omega) (qb HDS) (fun x hx=>by have:=hx.1;omega) (fun x hx hd=>by have:=(qb HLT3) x hx;have:=hd.1;omega) (qb HOK) (qb HG6) (qb HO6) (qb HAT)⟩
 clear aK
 go_region_held3 (fun w'=>w'.cell? ⟨wb,1,none⟩=some (.slice (some ⟨cb,coff,none⟩) C.length ccap)/\w'.cell? ⟨w.heap.size,1,none⟩=some (.int .i64 oA)/\w'.cell? ⟨cb,coff+ia*8,none⟩=some (.int .i64 cw)/\w'.cell? ⟨cb,coff+ia*8+1,none⟩=some (.int .i64 ch)/\w'.cell? ⟨cb,coff+ia*8+2,none⟩=some (.int .i64 cc)/\w'.cell? ⟨cb,coff+ia*8+3,none⟩=some (.int .i64 cq)/\w'.cell? ⟨cb,coff+ia*8+4,none⟩=some (.int .i64 cm)/\w'.cell? ⟨cb,coff+ia*8+5,none⟩=some (.int .i64 cu)/\w'.cell? ⟨cb,coff+ia*8+6,none⟩=some (.int .i64 cs)/\w'.cell? ⟨cb,coff+ia*8+7,none⟩=some (.int .i64 ci))
  (first | (refine⟨?_,?_,?_,?_,?_,?_,?_,?_,?_,?_⟩<;>assumption) | go_keep)
  ((go_at_call 14;refine ((qb HPA) _).mono ?_;rintro e w' ⟨rfl,hw'⟩;have hw2:=hw'.symm;clear hw';subst hw2))
 all_goals
  simp only[Exit.then];go_simp;exact qb HK
theorem qq4 (h:LSt U wb gr gc go C O n w ss kr ki kf sh er ei ef col)(oA oB oC:Int)(hA:-9223372036854775808<=oA/\oA<=9223372036854775807)(hn9:n<=1100000)(hC:C.length<=10000000000000) :
 Calls Tryz.prog 10 #[.pointer (some ⟨wb,0,none⟩),.agg #[.int .i64 6,.int .i64 oA,.int .i64 oB,.int .i64 oC]] w fun e w'=>e=.returned (.bool true)/\xf U wb gr gc go C O (n+1) w'/\But (fun b=>¬U b) w w':=by
 have hb1:Below w.heap.size w (w.alloc (.cells #[.int .i64 6,.int .i64 oA,.int .i64 oB,.int .i64 oC] 42)):=(Below.refl _ w).alloc (zzl _) _;have hq:LSt U wb gr gc go C O n (w.alloc (.cells #[.int .i64 6,.int .i64 oA,.int .i64 oB,.int .i64 oC] 42)) ss kr ki kf sh er ei ef col:=⟨h.mem.below hb1,h.each,h.len⟩;have HM:Hid (Calls Tryz.prog 13 #[.pointer (some ⟨wb,0,none⟩),.agg #[.int .i64 6,.int .i64 oA,.int .i64 oB,.int .i64 oC]] (w.alloc (.cells #[.int .i64 6,.int .i64 oA,.int .i64 oB,.int .i64 oC] 42)) fun e w'=>e=.returned (.bool true)/\xf U wb gr gc go C O (n+1) w'/\But (fun b=>¬U b) (w.alloc (.cells #[.int .i64 6,.int .i64 oA,.int .i64 oB,.int .i64 oC] 42)) w'):=by
  show Calls _ _ _ _ _
  by_cases h0:C.length=0
  ·obtain⟨ao,cap,e,_⟩:=hq.mem.rdC;rw[h0] at e;have hbx:=hq.mem.box;rw[e] at hbx;exact (qj6 hbx 6 oA oB oC).mono fun x w' ⟨hx,hb⟩=>⟨hx,hq.same hb,.of_below hb⟩
  ·exact qj5 hq 6 oA oB oC hA hn9 ⟨by omega,hC⟩
 have HB:=qg hb1;clear h hq hb1 hA
 go_enter Tryz.func10,Tryz.ntmps10
 go_wp2_with (go_at_call 13;refine (qb HM).mono ?_;rintro e w' ⟨rfl,hL,hb⟩;have HL:=qg hL;have HBt:=qg hb;clear hL hb)
 go_ret;exact⟨rfl,qb HL,(But.of_below (qb HB)).trans (qb HBt)⟩
theorem qg9 (h:LSt U wb gr gc go C O n w ss kr ki kf sh er ei ef col)(kind oA oB oC:Int)(hk:7<=kind/\kind<=11)(h0:sh.length=0) :
 Calls Tryz.prog 10 #[.pointer (some ⟨wb,0,none⟩),.agg #[.int .i64 kind,.int .i64 oA,.int .i64 oB,.int .i64 oC]] w fun e w'=>e=.returned (.bool true)/\xf U wb gr gc go C O (n+1) w'/\But (fun b=>¬U b) w w':=by
 obtain⟨so,scap,ess⟩:=qr h.mem.own;rw[h0] at ess;have hbx:=h.mem.box;rw[ess] at hbx;have c3:w.cell? ⟨wb,3,none⟩=some (.slice so 0 scap):=qe hbx 3;have hwb:=qh hbx;have k1:¬kind<1:=(by omega);have k2:¬11<kind:=(by omega);have k3:¬kind<=5:=(by omega);have k6:¬kind=6:=(by omega);have hb1:Below w.heap.size w (w.alloc (.cells #[.int .i64 kind,.int .i64 oA,.int .i64 oB,.int .i64 oC] 42)):=(Below.refl _ w).alloc (zzl _) _;have HL:=qg (h.same hb1);have HB:=qg hb1;clear h hbx hb1 ess hk
 go_enter Tryz.func10,Tryz.ntmps10
 go_wp2;go_ret;exact⟨rfl,qb HL,.of_below (qb HB)⟩
end
section
variable {U:Nat->Prop}{wb:Nat}{gr gc go:Value}{C:List Cfg}{O:List (List Opn)}{n:Nat}{x:Shf}
def vY (U:Nat->Prop)(wb:Nat)(gr gc go:Value)(C:List Cfg)(O:List (List Opn))(ss kr ki kf:Value)(sh:List Shf)(er ei ef:List Ent)(col:Nat->Nat)(i:Nat)(y:Shf)(v:Value)(w:World)(e:Ending)(w':World):Prop:=∃ col',e=.returned v/\qW U wb gr gc go C O w' ss kr ki kf (sh.set i y) er ei ef col'/\LGo U col col' w w'
theorem vY.same {ss kr ki kf:Value}{sh:List Shf}{er ei ef:List Ent}{col:Nat->Nat}{i:Nat}{y y':Shf}{v:Value}{w w':World}(h:qW U wb gr gc go C O w ss kr ki kf sh er ei ef col)(hy:sh[i]?=some y)(e:y'=y)(hb:Below w.heap.size w w'):vY U wb gr gc go C O ss kr ki kf sh er ei ef col i y' v w (.returned v) w':=by
 subst e;refine⟨col,rfl,?_,.below hb⟩;rw[vP hy];exact h.below hb
theorem ql7 (hR:jz n x):∃ (k e:Int)(s':qY)(d':Dc),jz (n+1) {x with s:=s',d:=d'}/\
 (∀ {w:World}{ss kr ki kf:Value}{sh:List Shf}{er ei ef:List Ent}{col:Nat->Nat}{i:Nat}{y:Shf},qW U wb gr gc go C O w ss kr ki kf sh er ei ef col->sh[i]?=some y->y.s=x.s->Calls Tryz.prog 15 #[.pointer (some ⟨y.xp,0,none⟩)] w (vY U wb gr gc go C O ss kr ki kf sh er ei ef col i {y with s:=s'} (.tuple #[.int .i64 k,.int .i64 e]) w))/\
 (∀ {w:World}{ss kr ki kf:Value}{sh:List Shf}{er ei ef:List Ent}{col:Nat->Nat}{i:Nat}{y:Shf},qW U wb gr gc go C O w ss kr ki kf sh er ei ef col->sh[i]?=some y->y.d=x.d->Calls Tryz.prog 16 #[.pointer (some ⟨y.rp,0,none⟩)] w (vY U wb gr gc go C O ss kr ki kf sh er ei ef col i {y with d:=d'} (.tuple #[.int .i64 k,.int .i64 e]) w)):=by
 obtain⟨l1,l2,l3,-,-⟩:=hR.klen;have hfd:=firstD hR.r
 cases hk:qC x.s.ks with
 | none=>
  refine⟨0,5,x.s,x.d,hR.more,fun {w ss kr ki kf sh er ei ef col i y} h hy e=>?_,fun {w ss kr ki kf sh er ei ef col i y} h hy e=>?_⟩
  ·refine (h.pConn hy (by rw[e];exact l1) (by rw[e];exact l3)).mono ?_;rintro e' w' (⟨k,col',h1,-⟩ | ⟨-,rfl,hb⟩)
   ·rw[e,hk] at h1;cases h1
   ·exact vY.same h hy (by rw[<-e]) hb
  ·refine (h.dConn hy (by rw[e];exact l2)).mono ?_;rintro e' w' (⟨k,col',h1,-⟩ | ⟨-,rfl,rfl⟩)
   ·rw[e,<-hfd,hk] at h1;cases h1
   ·exact vY.same h hy (by rw[<-e]) (Below.refl _ _)
 | some k=>
  refine⟨(k:Int),0,{x.s with ks:=x.s.ks.set k (some (yS x.s.c))},{x.d with ks:=x.d.ks.set k (some (yS x.d.c))},(hR.conn hk).more,fun {w ss kr ki kf sh er ei ef col i y} h hy e=>?_,fun {w ss kr ki kf sh er ei ef col i y} h hy e=>?_⟩
  ·refine (h.pConn hy (by rw[e];exact l1) (by rw[e];exact l3)).mono ?_;rintro e' w' (⟨k',col',h1,rfl,k1,k2⟩ | ⟨h1,-⟩)
   ·rw[e,hk] at h1;have:=Option.some.inj h1;subst this;rw[e] at k1;exact⟨col',rfl,k1,k2⟩
   ·rw[e,hk] at h1;cases h1
  ·refine (h.dConn hy (by rw[e];exact l2)).mono ?_;rintro e' w' (⟨k',col',h1,rfl,k1,k2⟩ | ⟨h1,-⟩)
   ·rw[e,<-hfd,hk] at h1;have:=Option.some.inj h1;subst this;rw[e] at k1;exact⟨col',rfl,k1,k2⟩
   ·rw[e,<-hfd,hk] at h1;cases h1
theorem ql1 (hR:jz n x)(hn:n<=1100000)(m:Int):∃ (c:Int)(s':qY)(d':Dc),jz (n+1) {x with s:=s',d:=d'}/\
 (∀ {w:World}{ss kr ki kf:Value}{sh:List Shf}{er ei ef:List Ent}{col:Nat->Nat}{i:Nat}{y:Shf},qW U wb gr gc go C O w ss kr ki kf sh er ei ef col->sh[i]?=some y->y.s=x.s->Calls Tryz.prog 18 #[.pointer (some ⟨y.xp,0,none⟩),.int .i64 m] w (vY U wb gr gc go C O ss kr ki kf sh er ei ef col i {y with s:=s'} (.int .i64 c) w))/\
 (∀ {w:World}{ss kr ki kf:Value}{sh:List Shf}{er ei ef:List Ent}{col:Nat->Nat}{i:Nat}{y:Shf},qW U wb gr gc go C O w ss kr ki kf sh er ei ef col->sh[i]?=some y->y.d=x.d->Calls Tryz.prog 19 #[.pointer (some ⟨y.rp,0,none⟩),.int .i64 m] w (vY U wb gr gc go C O ss kr ki kf sh er ei ef col i {y with d:=d'} (.int .i64 c) w)):=by
 obtain⟨l1,l2,l3,-,-⟩:=hR.klen;have hcd:=hR.con m
 cases hk:jS x.s.ks m with
 | false=>
  rw[hk] at hcd;refine⟨3,x.s,x.d,hR.more,fun {w ss kr ki kf sh er ei ef col i y} h hy e=>?_,fun {w ss kr ki kf sh er ei ef col i y} h hy e=>?_⟩
  ·refine (h.pDiscNo hy (by rw[e];exact l1) m (by rw[e];exact hk)).mono ?_;rintro e' w' ⟨rfl,hb⟩;exact vY.same h hy (by rw[<-e]) hb
  ·refine (h.dDiscNo hy m (by rw[e];exact hcd.symm)).mono ?_;rintro e' w' ⟨rfl,rfl⟩;exact vY.same h hy (by rw[<-e]) (Below.refl _ _)
 | true=>
  rw[hk] at hcd;obtain⟨k,cl,em,hcl⟩:=VE hk;subst em;have hmk:=hR.marks hn;refine⟨0,yi x.s k,yj x.d k,(hR.disc hk).more,fun {w ss kr ki kf sh er ei ef col i y} h hy e=>?_,fun {w ss kr ki kf sh er ei ef col i y} h hy e=>?_⟩
  ·refine (h.pDisc hy (by rw[e];exact l1) k (by rw[e];exact hk) (by rw[e];exact ql2 hR.ok (by omega) k)).mono ?_;rintro e' w' ⟨rfl,col',k1,k2⟩;rw[e] at k1;exact⟨col',rfl,k1,k2⟩
  ·refine (h.dDisc hy k (by rw[e];exact hcd.symm) (by rw[e];exact hmk.1) (by rw[e];exact hmk.2) (by rw[e];omega)).mono ?_;rintro e' w' ⟨rfl,col',k1,k2⟩;rw[e] at k1;exact⟨col',rfl,k1,k2⟩
theorem qq2 (hR:jz n x)(m:Int)(ops:List Opn)(hlen:ops.length<=1759218604390)(hpx:∀ x∈ops,x.px.length<=17592186043904):∃ (c:Int)(s':qY)(d':Dc),jz (n+1) {x with s:=s',d:=d'}/\
 (∀ {w:World}{ss kr ki kf:Value}{sh:List Shf}{er ei ef:List Ent}{col:Nat->Nat}{i:Nat}{y:Shf}(V:Nat->Prop)(ao:Option Addr)(cap:Nat),qW U wb gr gc go C O w ss kr ki kf sh er ei ef col->sh[i]?=some y->y.s=x.s->RdO V w (.slice ao ops.length cap) ops->(∀ b,V b->b<w.heap.size)->Calls Tryz.prog 25 #[.pointer (some ⟨y.xp,0,none⟩),.int .i64 m,.slice ao ops.length cap] w (vY U wb gr gc go C O ss kr ki kf sh er ei ef col i {y with s:=s'} (.int .i64 c) w))/\
 (∀ {w:World}{ss kr ki kf:Value}{sh:List Shf}{er ei ef:List Ent}{col:Nat->Nat}{i:Nat}{y:Shf}(ao:Option Addr)(cap:Nat),qW U wb gr gc go C O w ss kr ki kf sh er ei ef col->sh[i]?=some y->y.d=x.d->RdO U w (.slice ao ops.length cap) ops->Calls Tryz.prog 27 #[.pointer (some ⟨y.rp,0,none⟩),.int .i64 m,.slice ao ops.length cap] w (vY U wb gr gc go C O ss kr ki kf sh er ei ef col i {y with d:=d'} (.int .i64 c) w)):=by
 obtain⟨l1,l2,l3,l4,l5⟩:=hR.klen;have hcd:=hR.con m
 cases hk:jS x.s.ks m with
 | false=>
  rw[hk] at hcd;refine⟨3,x.s,x.d,hR.more,fun {w ss kr ki kf sh er ei ef col i y} V ao cap h hy e hRd hV=>?_,fun {w ss kr ki kf sh er ei ef col i y} ao cap h hy e hRd=>?_⟩
  ·refine (h.pSubNo hy (by rw[e];exact l1) m (by rw[e];exact hk) _).mono ?_;rintro e' w' ⟨rfl,hb⟩;exact vY.same h hy (by rw[<-e]) hb
  ·refine (h.dSubNo hy m ao ops.length cap (by omega) (by rw[e,<-hcd];rfl)).mono ?_;rintro e' w' ⟨rfl,rfl⟩;exact vY.same h hy (by rw[<-e]) (Below.refl _ _)
 | true=>
  rw[hk] at hcd;obtain⟨k,cl,em,hcl⟩:=VE hcd.symm;subst em;obtain⟨c1,c2,c3,c4,c5⟩:=hR.client hcl;have hcode:=c5 ops
  by_cases h0:qL x.d.c cl ops=0
  ·obtain⟨q1,-,-,-⟩:=Xw h0;refine⟨0,{x.s with ks:=x.s.ks.set k (some (X5 (qH cl) ops))},{x.d with ks:=x.d.ks.set k (some (Ji cl ops))},(hR.subm hcl h0).more,fun {w ss kr ki kf sh er ei ef col i y} V ao cap h hy e hRd hV=>?_,fun {w ss kr ki kf sh er ei ef col i y} ao cap h hy e hRd=>?_⟩
   ·refine (h.pSub hy (by rw[e];exact l1) (by rw[e];exact c1) (by rw[e];exact⟨l5,l4,l3⟩) c3 V ao cap ops hRd hV hlen hpx).mono ?_;rw[e,hcode,h0];rintro e' w' ⟨rfl,a,-⟩;obtain⟨col',k1,k2⟩:=a rfl;exact⟨col',rfl,k1,k2⟩
   ·refine (h.dSub hy (by rw[e];exact hcl) c2 (by rw[e];exact c4) ops ao cap hRd q1 hpx).mono ?_;rw[e,h0];rintro e' w' ⟨rfl,a,-⟩;obtain⟨col',k1,k2⟩:=a rfl;exact⟨col',rfl,k1,k2⟩
  ·refine⟨qL x.d.c cl ops,x.s,x.d,hR.more,fun {w ss kr ki kf sh er ei ef col i y} V ao cap h hy e hRd hV=>?_,fun {w ss kr ki kf sh er ei ef col i y} ao cap h hy e hRd=>?_⟩
   ·refine (h.pSub hy (by rw[e];exact l1) (by rw[e];exact c1) (by rw[e];exact⟨l5,l4,l3⟩) c3 V ao cap ops hRd hV hlen hpx).mono ?_;rw[e,hcode];rintro e' w' ⟨rfl,-,b⟩;exact vY.same h hy (by rw[<-e]) (b h0)
   ·by_cases hl:1<=ops.length/\ops.length<=20
    ·refine (h.dSub hy (by rw[e];exact hcl) c2 (by rw[e];exact c4) ops ao cap hRd hl hpx).mono ?_;rw[e];rintro e' w' ⟨rfl,-,b⟩;exact vY.same h hy (by rw[<-e]) (b h0)
    ·have hin:inB (ops.length:Int) 1 20=false:=by
      cases hb:inB (ops.length:Int) 1 20 with
      | false=>rfl
      | true=>rw[jh] at hb;omega
     have h3:qL x.d.c cl ops=3:=(by unfold qL;rw[if_pos hin]);rw[h3];refine (h.dSubNo hy k ao ops.length cap (by omega) (by rw[hin,Bool.and_false])).mono ?_;rintro e' w' ⟨rfl,rfl⟩;exact vY.same h hy (by rw[<-e]) (Below.refl _ _)
end
section
variable {U:Nat->Prop}{wb:Nat}{gr gc go:Value}{C:List Cfg}{O:List (List Opn)}{n:Nat}{w w':World}{ss kr ki kf:Value}{sh:List Shf}{er ei ef:List Ent}{col col':Nat->Nat}{i:Nat}{x:Shf}
structure TkA where
 T:Int
 F:Int
 P:Int
 E:Int
 la:List Int
 lf:List (Int×Int)
 s:qY
 d:Dc
def TkLP (U:Nat->Prop)(wb:Nat)(gr gc go:Value)(C:List Cfg)(O:List (List Opn))(ss kr ki kf:Value)(sh:List Shf)(er ei ef:List Ent)(col:Nat->Nat)(i:Nat)(x:Shf)(a:TkA)(w:World)(e:Ending)(w':World):Prop:=
 ∃ ao ac fo fc col',e=.returned (.tuple #[.agg #[.int .i64 a.T,.int .i64 a.F,.int .i64 a.P,.slice ao a.la.length ac,.slice fo a.lf.length fc],.int .i64 a.E])/\qW U wb gr gc go C O w' ss kr ki kf (sh.set i {x with s:=a.s}) er ei ef col'/\LGo U col col' w w'/\zh w' 0 (.slice ao a.la.length ac) a.la/\jM w' 0 (.slice fo a.lf.length fc) a.lf/\(∀ k,(Value.slice ao a.la.length ac).ownBlock=some k->col' k=0/\¬U k)/\∀ k,(Value.slice fo a.lf.length fc).ownBlock=some k->col' k=0/\¬U k
def TkLD (U:Nat->Prop)(wb:Nat)(gr gc go:Value)(C:List Cfg)(O:List (List Opn))(ss kr ki kf:Value)(sh:List Shf)(er ei ef:List Ent)(col:Nat->Nat)(i:Nat)(x:Shf)(a:TkA)(w:World)(e:Ending)(w':World):Prop:=
 ∃ ao ac fo fc col',e=.returned (.tuple #[.agg #[.int .i64 a.T,.int .i64 a.F,.int .i64 a.P,.slice ao a.la.length ac,.slice fo a.lf.length fc],.int .i64 a.E])/\qW U wb gr gc go C O w' ss kr ki kf (sh.set i {x with d:=a.d}) er ei ef col'/\LGo U col col' w w'/\zh w' 0 (.slice ao a.la.length ac) a.la/\jM w' 0 (.slice fo a.lf.length fc) a.lf
theorem Yf {w:World}{base:Nat}{e:TypeId}{size:Nat}{v:Value}{n:Nat}{xs:List Value}(h:w.ownsRow base e size v n xs):w.ownsRow 0 e size v n xs:=
 ⟨h.1,h.2.imp id (fun ⟨g,cap,cur,h1,h2,h3⟩=>⟨g,cap,cur,h1,Nat.zero_le _,h3⟩)⟩
theorem qg7 (hR:jz n x)(hn:n<=1100000)(b:Int)(hb:b<=9223372036854775807):∃ a:TkA,a.la.length<=1000/\a.lf.length<=1000000000/\jz (n+1) {x with s:=a.s,d:=a.d}/\
 (∀ {w:World}{ss kr ki kf:Value}{sh:List Shf}{er ei ef:List Ent}{col:Nat->Nat}{i:Nat}{y:Shf},qW U wb gr gc go C O w ss kr ki kf sh er ei ef col->sh[i]?=some y->y.s=x.s->Calls Tryz.prog 51 #[.pointer (some ⟨y.xp,0,none⟩),.int .i64 b] w (TkLP U wb gr gc go C O ss kr ki kf sh er ei ef col i y a w))/\
 (∀ {w:World}{ss kr ki kf:Value}{sh:List Shf}{er ei ef:List Ent}{col:Nat->Nat}{i:Nat}{y:Shf},qW U wb gr gc go C O w ss kr ki kf sh er ei ef col->sh[i]?=some y->y.d=x.d->Calls Tryz.prog 52 #[.pointer (some ⟨y.rp,0,none⟩),.int .i64 b] w (TkLD U wb gr gc go C O ss kr ki kf sh er ei ef col i y a w)):=by
 by_cases h0:b<0
 ·refine⟨⟨0,0,0,3,[],[],x.s,x.d⟩,Nat.zero_le _,Nat.zero_le _,hR.more,fun {w ss kr ki kf sh er ei ef col i y} h hy e=>?_,fun {w ss kr ki kf sh er ei ef col i y} h hy e=>?_⟩
  ·refine (qy3 w y.xp b h0).mono ?_;rintro e' w' ⟨rfl,hB⟩;refine⟨none,0,none,0,col,rfl,?_,.below hB,World.ownsRow_nil _ _ _ _,World.ownsRow_nil _ _ _ _,fun k hk=>(by cases hk),fun k hk=>(by cases hk)⟩;have es:sh.set i {y with s:=x.s}=sh:=(by rw[<-e];exact vP hy);rw[es];exact h.below hB
  ·refine (VW w y.rp b h0).mono ?_;rintro e' w' ⟨rfl,hB⟩;refine⟨none,0,none,0,col,rfl,?_,.below hB,World.ownsRow_nil _ _ _ _,World.ownsRow_nil _ _ _ _⟩;have es:sh.set i {y with d:=x.d}=sh:=(by rw[<-e];exact vP hy);rw[es];exact h.below hB
 ·obtain⟨m,hm⟩:∃ m:Nat,b=m:=⟨b.toNat,by omega⟩;subst hm;obtain⟨t1,t2⟩:=hR.fine hn;have hr:=VV hR.r hR.ok (by omega) hR.px m;have hks:=hR.klen;have hmk:=hR.marks hn;refine⟨⟨x.s.t+1,(zd x.s.f).2.1,(Je x.s m:Int),0,ZC x.s,(zd x.s.f).2.2,vZ x.s m,xS x.d m⟩,?_,?_,hR.tick hn m,fun {w ss kr ki kf sh er ei ef col i y} h hy e=>?_,fun {w ss kr ki kf sh er ei ef col i y} h hy e=>?_⟩
  ·show (ZC x.s).length<=1000;unfold ZC;rw[List.length_map];omega
  ·show (zd x.s.f).2.2.length<=1000000000;rw[hr.2.2.1];unfold flM
   split
   ·exact hmk.1
   ·simp
  ·refine (h.pTick hy (by rw[e];exact t1) m (by omega)).mono ?_;rintro e' w' ⟨av,fv,col',rfl,k1,k2,k3,k4,k5,k6⟩;rw[e] at k1 k3 k4 ⊢;obtain⟨ao,ac,ea⟩:=qr k3;obtain⟨fo,fc,ef⟩:=qr k4;subst ea;subst ef;exact⟨ao,ac,fo,fc,col',rfl,k1,k2,k3,k4,k5,k6⟩
  ·refine (h.dTick hy (by rw[e];exact t2) m (by omega)).mono ?_;rintro e' w' ⟨av,fv,col',rfl,k1,k2,k3,k4⟩;rw[e] at k1 k3 k4 ⊢;obtain⟨-,r1,r2,r3,r4⟩:=hr;rw[<-r3] at k3;rw[<-r2] at k4;rw[<-r1,<-r4,<-hR.r.t];obtain⟨ao,ac,ea⟩:=qr k3;obtain⟨fo,fc,ef⟩:=qr k4;subst ea;subst ef;exact⟨ao,ac,fo,fc,col',rfl,k1,k2,Yf k3,k4⟩
theorem Y6 {sh2:List Shf}{w4:World}{col4:Nat->Nat}(hl:sh2.length<=n+1/\er.length<=n/\ei.length<=n/\ef.length<=n)(hn:n<=1100000)(m4:qW U wb gr gc go C O w4 ss kr ki kf sh2 er ei ef col4)(hs2:∀ y∈sh2,jz (n+1) y){va vf:Value}{la:List Int}{lf:List (Int×Int)}(oa:zh w4 0 va la)(of:jM w4 0 vf lf)(fa:∀ k,va.ownBlock=some k->col4 k=0/\¬U k)(ff:∀ k,vf.ownBlock=some k->col4 k=0/\¬U k)(hla:la.length<=1000)(hlf:lf.length<=1000000000){r:Nat}{cs:Array Value}(rb:w4.heap[r]?=some (.cells cs 133))(rc:col4 r=0) :
 ∀ W,Below w4.heap.size w4 W->Calls Tryz.prog 24 #[.pointer (some ⟨wb,4,none⟩),va] W fun e w6=>e=.returned (.tuple #[])/\w6.heap[r]?=some (.cells cs 133)/\∀ W',Below w6.heap.size w6 W'->Calls Tryz.prog 54 #[.pointer (some ⟨wb,4,none⟩),vf] W' fun e w7=>e=.returned (.tuple #[])/\w7.heap[r]?=some (.cells cs 133)/\xf U wb gr gc go C O (n+1) w7/\But (fun b=>¬U b) w4 w7:=by
 intro W hW;have hWb:But (fun _=>False) w4 W:=.of_below hW;have oaW:=qi oa hWb (fun _ _ h=>h);have ofW:=qi of hWb (fun _ _ h=>h);have rbW:=hWb.heap rb (fun h=>h);have hUc:∀ b,U b->col4 b=0:=fun b hb=>(m4.far b hb).1;refine ((m4.below hW).keepI oaW fa (by omega) (by omega)).mono ?_;rintro e w6 ⟨rfl,ki',en,col6,m6,b6,z6⟩;have hvr:va.ownBlock≠some r:=qq oaW rbW (by decide);have hvf:∀ k,vf.ownBlock=some k->va.ownBlock≠some k:=fun k hk=>by
  obtain⟨c2,fz,e2⟩:=qE ofW hk;exact qq oaW e2 (by decide)
 have of6:jM w6 0 vf lf:=qi ofW b6 (fun k hk c=>by
  rcases c with q | q
  ·exact q (ff k hk).1
  ·exact hvf k hk q)
 have ff6:∀ k,vf.ownBlock=some k->col6 k=0/\¬U k:=fun k hk=>⟨z6 k (World.ownsRow.lt ofW k hk).2 (ff k hk).1 (hvf k hk),(ff k hk).2⟩;have b6U:But (fun b=>¬U b) w4 w6:=((But.of_below hW:But (fun b=>¬U b) w4 W)).step b6 (fun b hc=>by
  rcases hc with q | q
  ·exact .inl fun hu=>q (hUc b hu)
  ·exact .inl (fa b q).2)
 have rb6:=b6.heap rbW (fun c=>by
  rcases c with q | q
  ·exact q rc
  ·exact hvr q)
 have rc6:col6 r=0:=z6 r (qh rbW) rc hvr;refine⟨rfl,rb6,fun W' hW'=>?_⟩;have rbW':=(But.of_below (S:=fun _=>False) hW').heap rb6 (fun h=>h);have hfr:vf.ownBlock≠some r:=qq ofW rbW (by decide);have hU6:∀ b,U b->col6 b=0:=fun b hb=>(m6.far b hb).1;refine ((m6.below hW').keepF (qi of6 (But.of_below (S:=fun _=>False) hW') (fun _ _ h=>h)) ff6 (by omega) hlf).mono ?_;rintro e w7 ⟨rfl,kf',en',col7,m7,b7,-⟩;refine⟨rfl,b7.heap rbW' (fun c=>by
  rcases c with q | q
  ·exact q rc6
  ·exact hfr q),⟨ss,kr,ki',kf',sh2,er,ei++[en],ef++[en'],col7,m7,hs2,⟨hl.1,by omega,by simp;omega,by simp;omega⟩⟩,(b6U.trans (But.of_below hW')).step b7 (fun b hc=>?_)⟩
 rcases hc with q | q
 ·exact .inl fun hu=>q (hU6 b hu)
 ·exact .inl (ff6 b q).2
theorem Yg {w W:World}{base:Nat}{v:Value}{l:List Int}(h:zh w base v l)(hW:Below w.heap.size w W):RdN (fun k=>v.ownBlock=some k) W v l:=zh.rd (base:=base) (qi h (But.of_below (S:=fun _=>False) hW) (fun _ _ h=>h))
theorem qg6 (h:LSt U wb gr gc go C O n w ss kr ki kf sh er ei ef col)(hx:sh[i]?=some x)(hn:n<=1100000)(b:Int)(hb:b<=9223372036854775807) :
 Calls Tryz.prog 20 #[.pointer (some ⟨wb,0,none⟩),.agg #[.pointer (some ⟨x.xp,0,none⟩),.pointer (some ⟨x.rp,0,none⟩)],.int .i64 b] w fun e w'=>e=.returned (.bool true)/\xf U wb gr gc go C O (n+1) w'/\But (fun b=>¬U b) w w':=by
 have hR:=h.at hx;obtain⟨a,la1,lf1,hR',hP,hD⟩:=qg7 (U:=U) (wb:=wb) (gr:=gr) (gc:=gc) (go:=go) (C:=C) (O:=O) hR hn b hb;have hil:=(zzg hx).1;have hB1:Below w.heap.size w (w.alloc (.cells #[.pointer (some ⟨x.xp,0,none⟩),.pointer (some ⟨x.rp,0,none⟩)] 57)):=(Below.refl _ w).alloc (zzl _) _;have h1:=h.mem.below hB1;have hbx:(w.alloc (.cells #[.pointer (some ⟨x.xp,0,none⟩),.pointer (some ⟨x.rp,0,none⟩)] 57)).heap[w.heap.size]?=some (.cells #[.pointer (some ⟨x.xp,0,none⟩),.pointer (some ⟨x.rp,0,none⟩)] 57):=qt _ _ _ rfl;have hc0:col w.heap.size=0:=by
  rcases Nat.eq_zero_or_pos (col w.heap.size) with e | e
  ·exact e
  ·have:=h.mem.clt w.heap.size (by omega);omega
 have HT:=qg (hP h1 hx rfl);have HL:=qg h;have HX:=qg hx;have HR':=qg hR';have HD:Hid (∀ {w:World}{ss kr ki kf:Value}{sh:List Shf}{er ei ef:List Ent}{col:Nat->Nat}{i:Nat}{y:Shf},qW U wb gr gc go C O w ss kr ki kf sh er ei ef col->sh[i]?=some y->y.d=x.d->Calls Tryz.prog 52 #[.pointer (some ⟨y.rp,0,none⟩),.int .i64 b] w (TkLD U wb gr gc go C O ss kr ki kf sh er ei ef col i y a w)):=hD;have HBX:=qg hbx;have HB1:=qg hB1;have wbl:wb<w.heap.size:=qh h.mem.box;clear hP hD h1 hbx hB1 hR hR' hx h
 go_enter Tryz.func20,Tryz.ntmps20
 go_wp2_with (go_at_call 51
              refine (qb HT).mono ?_
              rintro e w2 ⟨ao,ac,fo,fc,col2,rfl,m2,g2,oa2,of2,fa2,ff2⟩
              have bx2:=g2.block (qb HBX) hc0
              have s0:w2.cell? ⟨w.heap.size,0,none⟩=some (.pointer (some ⟨x.xp,0,none⟩)):=qe bx2.1 0
              have s1:w2.cell? ⟨w.heap.size,1,none⟩=some (.pointer (some ⟨x.rp,0,none⟩)):=qe bx2.1 1
              have l2:w.heap.size<w2.heap.size:=qh bx2.1
              have l2':w.heap.size≠w2.heap.size:=by omega
              have hyy:(sh.set i {x with s:=a.s})[i]?=some {x with s:=a.s}:=List.getElem?_set_self hil
              have hr0:col2 w2.heap.size=0:=by
                rcases Nat.eq_zero_or_pos (col2 w2.heap.size) with e | e
                · exact e
                · have:=m2.clt w2.heap.size (by omega);omega
              have hB3:Below w2.heap.size w2 (w2.alloc (.cells #[.int .i64 a.T,.int .i64 a.F,.int .i64 a.P,.slice ao a.la.length ac,.slice fo a.lf.length fc] 133)):=(Below.refl _ w2).alloc (zzl _) _
              have HTD:=qg ((qb HD) (m2.below hB3) hyy rfl)
              have HN2:Hid ((w2.alloc (.cells #[.int .i64 a.T,.int .i64 a.F,.int .i64 a.P,.slice ao a.la.length ac,.slice fo a.lf.length fc] 133)).heap[w2.heap.size]?=some (.cells #[.int .i64 a.T,.int .i64 a.F,.int .i64 a.P,.slice ao a.la.length ac,.slice fo a.lf.length fc] 133)):=qt _ _ _ rfl
              have HOA3:=qg (qi oa2 (But.of_below (S:=fun _=>False) hB3) (fun _ _ h=>h))
              have HOF3:=qg (qi of2 (But.of_below (S:=fun _=>False) hB3) (fun _ _ h=>h))
              have HG2:=qg (g2.trans (LGo.below (U:=U) (col:=col2) hB3))
              have HFA2:=qg fa2
              have HFF2:=qg ff2
              clear m2 g2 oa2 of2 fa2 ff2 bx2 HT HD hB3 hyy)
 go_wp2_with (go_at_call 52
              refine (qb HTD).mono ?_
              rintro e w4 ⟨ao4,ac4,fo4,fc4,col4,rfl,m4,g4,oa4,of4⟩
              have rb4:=g4.block (qb HN2) hr0
              have r0:w4.cell? ⟨w2.heap.size,0,none⟩=some (.int .i64 a.T):=qe rb4.1 0
              have r1:w4.cell? ⟨w2.heap.size,1,none⟩=some (.int .i64 a.F):=qe rb4.1 1
              have r2:w4.cell? ⟨w2.heap.size,2,none⟩=some (.int .i64 a.P):=qe rb4.1 2
              have r3:w4.cell? ⟨w2.heap.size,3,none⟩=some (.slice ao a.la.length ac):=qe rb4.1 3
              have r4:w4.cell? ⟨w2.heap.size,4,none⟩=some (.slice fo a.lf.length fc):=qe rb4.1 4
              have l4:w2.heap.size<w4.heap.size:=qh rb4.1
              have l4':w2.heap.size≠w4.heap.size:=by omega
              obtain⟨oa5,fa5⟩:=g4.row (qb HOA3) (fun k hk=>((qb HFA2) k hk).1)
              obtain⟨of5,ff5⟩:=g4.row (qb HOF3) (fun k hk=>((qb HFF2) k hk).1)
              have HSI:Hid (∀ W,Below w4.heap.size w4 W->Calls Tryz.prog 23 #[.slice ao a.la.length ac,.slice ao4 a.la.length ac4] W fun e w'=>e=.returned (.bool true)/\∃ q,w'=W.drewN q):=fun W hW=>XA _ _ _ _ a.la W (Yg oa5 hW) (Yg oa4 hW) (by omega)
              have HSF:Hid (∀ W,Below w4.heap.size w4 W->Calls Tryz.prog 53 #[.slice fo a.lf.length fc,.slice fo4 a.lf.length fc4] W fun e w'=>e=.returned (.bool true)/\∃ q,w'=W.drewN q):=fun W hW=>Kl _ _ a.lf W (qi of5 (But.of_below (S:=fun _=>False) hW) (fun _ _ h=>h)) (qi of4 (But.of_below (S:=fun _=>False) hW) (fun _ _ h=>h)) lf1
              rw[yq] at m4
              have hlen:=(qb HL).len
              have HKI:=qg (Y6 (n:=n) (va:=.slice ao a.la.length ac) (vf:=.slice fo a.lf.length fc) (by rw[List.length_set];omega) hn m4 (fun y hy=>by
                rcases List.mem_or_eq_of_mem_set hy with q | q
                · exact ((qb HL).each y q).more
                · rw[q];exact qb HR') oa5 of5 (fun k hk=>⟨fa5 k hk,((qb HFA2) k hk).2⟩) (fun k hk=>⟨ff5 k hk,((qb HFF2) k hk).2⟩) la1 lf1 rb4.1 rb4.2)
              have HBU:Hid (But (fun b=>¬U b) w w4):=(But.of_below (qb HB1)).trans (((qb HG2).trans g4).toU (fun k hk=>((qb HL).mem.far k hk).1))
              clear m4 g4 oa4 of4 rb4 oa5 fa5 of5 ff5 HTD HN2 HOA3 HOF3 HG2 HFA2 HFF2 hlen s0 s1)
 have eT:(a.T == a.T)=true:=(by simp);have HN:Hid (∀ (n:Int) w,Calls Tryz.prog 17 #[.int .i64 n] w fun e w'=>e=.returned (.int .i64 n)/\w'=w):=fun n w=>Z4 n w
 go_wp2_with (first
   | (go_at_call 23;refine ((qb HSI) _ ((Below.refl _ w4).alloc (zzl _) _)).mono ?_;rintro e w6 ⟨rfl,q6,hw6⟩;subst hw6)
   | (go_at_call 53;refine ((qb HSF) _ (below_drewN ((Below.refl _ w4).alloc (zzl _) _) _)).mono ?_;rintro e w7 ⟨rfl,q7,hw7⟩;subst hw7)
   | (go_at_call 17;refine ((qb HN) _ _).mono ?_;rintro e w' ⟨rfl,hw'⟩;have hw2:=hw'.symm;clear hw';subst hw2))
 have hW5:Below w4.heap.size w4 ((w4.alloc (.cells #[.int .i64 a.T,.int .i64 a.F,.int .i64 a.P,.slice ao4 a.la.length ac4,.slice fo4 a.lf.length fc4] 133)).drewN (q6+q7)):=below_drewN ((Below.refl _ w4).alloc (zzl _) _) _;have r3':=(hW5.cell (p:=⟨w2.heap.size,3,none⟩) l4).trans r3;have r4':=(hW5.cell (p:=⟨w2.heap.size,4,none⟩) l4).trans r4;have HK5:Hid (∀ W,Below ((w4.alloc (.cells #[.int .i64 a.T,.int .i64 a.F,.int .i64 a.P,.slice ao4 a.la.length ac4,.slice fo4 a.lf.length fc4] 133)).drewN (q6+q7)).heap.size ((w4.alloc (.cells #[.int .i64 a.T,.int .i64 a.F,.int .i64 a.P,.slice ao4 a.la.length ac4,.slice fo4 a.lf.length fc4] 133)).drewN (q6+q7)) W->_):=fun W hW=>(qb HKI) W (hW5.trans (hW.mono hW5.size));clear HSI HSF eT r0 r1 r2 r3 r4 HKI;have l5:w2.heap.size<((w4.alloc (.cells #[.int .i64 a.T,.int .i64 a.F,.int .i64 a.P,.slice ao4 a.la.length ac4,.slice fo4 a.lf.length fc4] 133)).drewN (q6+q7)).heap.size:=zzm l4 hW5.size;clear hW5;generalize (w4.alloc (.cells #[.int .i64 a.T,.int .i64 a.F,.int .i64 a.P,.slice ao4 a.la.length ac4,.slice fo4 a.lf.length fc4] 133)).drewN (q6+q7)=W5 at *
 go_region_held3 (fun w'=>w'.cell? ⟨w2.heap.size,3,none⟩=some (.slice ao a.la.length ac)) (first | assumption | go_keep)
  ((go_at_call 24
    refine ((qb HK5) _ (by repeat (first | exact Below.refl _ _ | refine below_drewN ?_ _ | refine Below.drew ?_ | refine Below.alloc ?_ (zzl _) _))).mono ?_
    rintro e w8 ⟨rfl,rb8,hK8⟩
    have t3:w8.cell? ⟨w2.heap.size,3,none⟩=some (.slice ao a.la.length ac):=qe rb8 3
    have t4:w8.cell? ⟨w2.heap.size,4,none⟩=some (.slice fo a.lf.length fc):=qe rb8 4
    have l8:w2.heap.size<w8.heap.size:=qh rb8
    have HK8:=qg hK8
    clear rb8 hK8 HK5))
 go_wp2_with fail
 go_region_held3 (fun w'=>w'.cell? ⟨w2.heap.size,4,none⟩=some (.slice fo a.lf.length fc)) (first | assumption | go_keep)
  ((go_at_call 54
    refine ((qb HK8) _ (by repeat (first | exact Below.refl _ _ | refine below_drewN ?_ _ | refine Below.drew ?_ | refine Below.alloc ?_ (zzl _) _))).mono ?_
    rintro e w9 ⟨rfl,rb9,hL9,hb9⟩
    have u4:w9.cell? ⟨w2.heap.size,4,none⟩=some (.slice fo a.lf.length fc):=qe rb9 4
    have HL9:=qg hL9
    have HB9:=qg hb9
    clear hL9 hb9 HK8 rb9))
 go_wp2;go_ret;exact⟨rfl,qb HL9,(qb HBU).trans (qb HB9)⟩
end
end Go.Proofs.YtfnockbgkcgpkaaGreat
