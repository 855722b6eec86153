import Derived.Test.YtfnockbgkcgpkaaGreatTkah
import Derived.Test.YtfnockbgkcgpkaaGreatTkax
import Derived.Test.YtfnockbgkcgpkaaGreatTkby
import Derived.BigRegion
import Derived.BigQuiet
import Derived.Deep.QuietTactic
import Derived.Deep.RegionHeld3
set_option linter.all false
set_option maxRecDepth 100000
set_option maxHeartbeats 16000000
namespace Go.Proofs.YtfnockbgkcgpkaaGreat
open Go.RowKit Go.Proofs.Panes
structure zf where
 g:Nat
 l:List Int
 want:Value
def zf.out (x:zf):Value:=.slice (some ⟨x.g,0,none⟩) (x.l.length+3) (x.l.length+3)
def yd (x:zf):List Value:=[x.out,x.want]
def jZ (l:List zf):List Value:=l.flatMap yd
theorem Yo (l:List zf)(e:zf):jZ (l++[e])=jZ l++yd e:=by simp[jZ]
theorem qj1 (g:Nat)(l:List Int)(ad:Option Addr)(n c:Nat):∀ u∈yd ⟨g,l,.slice ad n c⟩,u.oneCell'=true:=by
 intro u hu;simp[yd,zf.out] at hu
 rcases hu with rfl | rfl<;>rfl
abbrev J4 (w:World)(base:Nat)(v:Value)(ls:List zf):Prop:=w.ownsRow base 150 2 v ls.length (jZ ls)
theorem K0:(Tryz.prog.info? 150).map (fun i=>(i.zero,i.size,i.bytes))=some (some (.agg #[.slice none 0 0,.slice none 0 0]),2,48):=by kernel_rfl
structure qc0 (w w':World)(mb base:Nat)(lq lr lo:Value)(ls:List zf)(v:Value)(l:List Int)(lr':Value)(ls':List zf)(v':Value):Prop where
 box:w'.heap[mb]?=some (.cells #[lq,lr',lo] 76)
 own:J4 w' base lr' ls'
 but:But (fun k=>k=mb\/lr.ownBlock=some k) w w'
 more:(ls'=ls/\v'=.slice none 0 0/\l=[])\/∃ x,v'=.slice (some ⟨x.g,0,none⟩) l.length (l.length+3)/\ls'=ls++[x]/\x.l=l/\x.want=v/\w.heap.size<=x.g/\x.g<w'.heap.size/\zh w' base x.out (l++[(77:Int),(77:Int),(77:Int)])
theorem KW (mb base:Nat)(lq lr lo:Value)(ls:List zf)(v:Value)(l:List Int)(w:World)(hm:w.heap[mb]?=some (.cells #[lq,lr,lo] 76))(hL:J4 w base lr ls)(hb:base<=w.heap.size)(U:Nat->Prop)(hR:RdN U w v l)(hlen:l.length<=17592186043904)(hls:ls.length<=1759218604400) :
 Calls Tryz.prog 57 #[.pointer (some ⟨mb,0,none⟩),v] w fun e w'=>∃ v',e=.returned v'/\zh w' base v' l/\∃ lr' ls',qc0 w w' mb base lq lr lo ls v l lr' ls' v':=by
 obtain⟨i0,hi,hz0,hz1,hz2⟩:=info_parts yg;have qn:∀ (w:World)(a:Option Addr)(n c n' c':Nat),(binOp .eql 50 (.slice a n c) (.slice none n' c')).run Tryz.prog w=.ok (.bool a.isNone) w:=fun w a n c n' c'=>Lib.run_eql_slice_nil w _ _ a n c n' c' Tryz.underlying50;have hR':=hR;obtain⟨ro,rc,rfl⟩:=qr hL;obtain⟨ao,cap,rfl,h1,h2,h3⟩:=hR
 cases ao with
 | none=>
  have HR:=qg hR';have HL:=qg hL;have HM:=qg hm;have H3:=qg h3;clear hR' hL hm h3
  go_enter Tryz.func57,Tryz.ntmps57
  go_wp2;go_ret;have e:l=[]:=by
   apply Classical.byContradiction;intro he;obtain⟨b,off,e,_⟩:=(qb H3) he
   cases e
  subst e;exact⟨.slice none 0 0,rfl,qr5 _,_,ls,qb HM,qb HL,But.refl _ _,.inl ⟨rfl,rfl,rfl⟩⟩
 | some ad=>
  have hmk:∀ u:World,(Instr.makeSlice 50 (.int .i64 ((l.length:Int)+3)) (.int .i64 ((l.length:Int)+3))).run Tryz.prog u =
   .ok (.slice (some ⟨u.heap.size,0,none⟩) (l.length+3) (l.length+3)) (u.alloc (.cells (Array.replicate (l.length+3) (Value.int .i64 0)) 3)):=fun u=>vx (l.length+3) (by omega) u
  have HR:=qg hR';have HL:=qg hL;have HM:=qg hm;clear hR' hL hm h3
  go_enter Tryz.func57,Tryz.ntmps57
  go_wp2_with (refine XT rfl _ _ rfl U base w.heap.size (l.length+3) (List.replicate (l.length+3) (0:Int)) l _ rfl rfl (Zk w _ base hb (by omega)) (by simp) ((qb HR).below ((Below.refl _ w).alloc (zzl _) _)) (by omega) ?_;intro w1 hown hgrow)
  have hO1:zh w1 base (.slice (some ⟨w.heap.size,0,none⟩) (l.length+3) (l.length+3)) (l++List.replicate 3 (0:Int)):=by
   rwa[List.drop_replicate,show l.length+3-l.length=3 by omega] at hown
  have hB1:But (fun _=>False) w w1:=((But.refl _ w).alloc _).grown hgrow (fun k e=>.inr (by cases e;exact zzl _));have hs1:w.heap.size<w1.heap.size:=(by have:=hgrow.size;simp at this;omega);have hm1:=hB1;have HB1:=qg hB1;have HO1:=qg hO1;clear hown hgrow hO1 hB1;go_wp2
  go_loopw [7] (fun i wr=>∃ k:Nat,k<=3/\i=.int .i64 ((l.length:Int)+k)/\zh wr base (.slice (some ⟨w.heap.size,0,none⟩) (l.length+3) (l.length+3)) (l++(List.replicate k (77:Int)++List.replicate (3-k) (0:Int)))/\But (fun _=>False) w wr/\w1.heap.size<=wr.heap.size) (fun i _=>l.length+3-(intOf i).toNat)
  case atStart=>exact⟨0,by omega,by simp,by simpa using qb HO1,qb HB1,zzl _⟩
  case round=>
   obtain⟨k,hk,rfl,hO,hB,hs⟩:=hrel
   by_cases hlt:k<3
   ·have e1:l++(List.replicate k (77:Int)++List.replicate (3-k) (0:Int))=(l++List.replicate k (77:Int))++(0:Int)::List.replicate (3-(k+1)) (0:Int):=by
     rw[show 3-k=3-(k+1)+1 by omega,List.replicate_succ,List.append_assoc]
    rw[e1] at hO;have hlen1:(l++List.replicate k (77:Int)).length=l.length+k:=(by simp);have hP:=Yh (77:Int) hO (by simp;omega);rw[hlen1] at hP;have c1:=kP hO (by simp;omega) (j:=l.length+k) (x:=(0:Int)) (by rw[<-hlen1];simp);have f1:=Zm hO (by simp;omega) (l.length+k);have e2:(l++List.replicate k (77:Int))++(77:Int)::List.replicate (3-(k+1)) (0:Int)=l++(List.replicate (k+1) (77:Int)++List.replicate (3-(k+1)) (0:Int)):=by
     rw[List.replicate_succ',List.append_assoc,List.append_assoc];rfl
    rw[e2] at hP;have HP:=qg hP;have HB:=qg hB;have i0':(0:Int)<=(l.length:Int)+k:=(by omega);have i1':(l.length:Int)+k<((l.length+3:Nat):Int):=(by omega);have i2':(l.length:Int)+k<(l.length:Int)+3:=(by omega);have i3':((l.length:Int)+k).toNat=l.length+k:=(by omega);clear hO hB hP e1 e2 hlen1;go_wp2
    go_roundw
    case rel=>
     refine⟨k+1,by omega,by go_num,qb HP,(qb HB).setCell (.inr (zzl _)) _,?_⟩;simpa[World.setCell] using hs
    case measure=>simp[intOf];omega
   ·obtain rfl:k=3:=(by omega);obtain⟨j0,hj,hy0,hy1,hy2⟩:=info_parts K0;have hOl:l++(List.replicate 3 (77:Int)++List.replicate (3-3) (0:Int))=l++[(77:Int),(77:Int),(77:Int)]:=rfl;rw[hOl] at hO;have HO:=qg hO;have HB:=qg hB;have hmb:=qh (qb HM);have hne:=qq (qb HL) (qb HM) (by decide);have hLr:=qi (qb HL) hB (fun _ _ h=>h);have HLr:=qg hLr;have hMr:=hB.heap (qb HM) (fun h=>h);have HMr:=qg hMr;have hcl:wr.cell? ⟨mb,1,none⟩=some (.slice ro ls.length rc):=qe hMr 1;have hfr:∀ j,wr.frozen? ⟨mb,j,none⟩=false:=qj hMr;clear hO hB hLr hMr
    go_wp2_with
     (at_builtin
      refine wpList_append_lies _ rfl _ _ 73 rfl base 150 j0 _ 2 48 Tryz.underlying73 hj hy0 hy1 hy2 rfl (by decide) _ ls.length (jZ ls) rfl ((qb HLr).alloc _) ⟨wr.heap.size,0,none⟩ 1 1 (yd ⟨w.heap.size,l,.slice (some ad) l.length cap⟩) rfl rfl (xT (qt _ _ _ rfl)) (qj1 _ _ _ _ _) (by decide) (by unfold maxLen;omega) (by omega) (by simp;omega) _ rfl ?_
      intro g gc w2 hown hgrow hat hlt2
      have hG:wr.grownBy w2 (Value.slice ro ls.length rc).ownBlock:=zB (World.grownBy_alloc wr _ _) hgrow
      have hM2:w2.heap[mb]?=some (.cells #[lq,.slice ro ls.length rc,lo] 76):=zl hG (qb HMr) hne
      have hO2:zh w2 base (.slice (some ⟨w.heap.size,0,none⟩) (l.length+3) (l.length+3)) (l++[(77:Int),(77:Int),(77:Int)]):=World.ownsRow.kept (qb HO) hG (.inr (fun e=>absurd (World.ownsRow.lt (qb HL) _ e.symm).2 (by simp[Value.ownBlock])))
      have hL2:w2.ownsRow base 150 2 (.slice (some ⟨g,0,none⟩) (ls.length+1) gc) (ls.length+1) (jZ (ls++[⟨w.heap.size,l,.slice (some ad) l.length cap⟩])):=by rw[Yo];exact hown
      have hgm:g≠mb:=by
        rcases hat with c | c
        · intro e;subst e;exact hne c
        · have:=qh (qb HMr);simp at c;omega
      have HG:=qg hG
      have HM2:=qg hM2
      have HO2:=qg hO2
      have HL2:=qg hL2
      have HA:=qg hat
      have hcl2:w2.cell? ⟨mb,1,none⟩=some (.slice ro ls.length rc):=qe hM2 1
      have hfr2:∀ j,w2.frozen? ⟨mb,j,none⟩=false:=qj hM2
      clear hown hgrow hG hM2 hO2 hL2 hat)
    go_ret;refine⟨_,rfl,?_,.slice (some ⟨g,0,none⟩) (ls.length+1) gc,ls++[⟨w.heap.size,l,.slice (some ad) l.length cap⟩],?_⟩
    ·show zh _ base (.slice (some ⟨w.heap.size,0,none⟩) l.length (l.length+3)) l;exact Js (B:=[(77:Int),(77:Int),(77:Int)]) (ownsRow_setCell_other (qb HO2) (by simp[Value.ownBlock];omega) _)
    ·refine⟨?_,?_,?_,.inr ⟨_,rfl,rfl,rfl,rfl,zzl _,?_,?_⟩⟩
     ·have:=qp (i:=1) (qb HM2) (.slice (some ⟨g,0,none⟩) (ls.length+1) gc);simpa using this
     ·have:=ownsRow_setCell_other (qb HL2) (a:=⟨mb,1,none⟩) (by simp[Value.ownBlock];exact hgm) (.slice (some ⟨g,0,none⟩) (ls.length+1) gc);unfold J4;rw[List.length_append];exact this
     ·exact ((qb HB).wide (fun _ _ h=>h.elim) |>.grown (qb HG) (fun k e=>.inl (.inr e))).setCell (.inl (.inl rfl)) _
     ·have:=(qb HG).size;simp[World.setCell];omega
     ·exact ownsRow_setCell_other (qb HO2) (by simp[Value.ownBlock];omega) _
def mz:MOp:=⟨0,0,0,0,0,0,.slice none 0 0,0⟩
def m77:MOp:=⟨77,0,0,0,0,0,.slice none 0 0,0⟩
theorem qs8 (n:Nat):madeCells #[.int .i64 0,.int .i64 0,.int .i64 0,.int .i64 0,.int .i64 0,.int .i64 0,.slice none 0 0,.int .i64 0] (n*8)=(zv (List.replicate n mz)).toArray:=by
 apply Array.ext';apply List.ext_getElem?;intro j
 by_cases hj:j<n*8
 ·obtain⟨q,t,hq,ht⟩:∃ q t,j=q*8+t/\t<8:=⟨j/8,j%8,by omega,by omega⟩;have hat:=vn (List.replicate n mz) q mz (by rw[List.getElem?_replicate,if_pos (by omega)]) t ht;have hm:(madeCells #[.int .i64 0,.int .i64 0,.int .i64 0,.int .i64 0,.int .i64 0,.int .i64 0,.slice none 0 0,.int .i64 0] (n*8)).toList[j]?=some ((#[Value.int .i64 0,.int .i64 0,.int .i64 0,.int .i64 0,.int .i64 0,.int .i64 0,.slice none 0 0,.int .i64 0]:Array Value)[j%8]!):=(by simp[madeCells,hj]);rw[hm];subst hq;have e:(q*8+t)%8=t:=(by omega);rw[e];show _=(zv (List.replicate n mz))[q*8+t]?;rw[hat]
  match t,ht with
  | 0,_=>rfl
  | 1,_=>rfl
  | 2,_=>rfl
  | 3,_=>rfl
  | 4,_=>rfl
  | 5,_=>rfl
  | 6,_=>rfl
  | 7,_=>rfl
 ·have h1:(zv (List.replicate n mz)).length=n*8:=(by rw[zO];simp);rw[List.getElem?_eq_none (by simp[size_madeCells];omega),List.getElem?_eq_none (by show (zv (List.replicate n mz)).length<=j;omega)]
theorem qs7 (n:Nat)(hn:n<=1759218604416)(u:World):(Instr.makeSlice 53 (.int .i64 (n:Int)) (.int .i64 (n:Int))).run Tryz.prog u=.ok (.slice (some ⟨u.heap.size,0,none⟩) n n) (u.alloc (.cells (zv (List.replicate n mz)).toArray 52)):=by
 obtain⟨i0,hi,hz0,hz1,hz2⟩:=info_parts qe6;have h:=run_make (P:=Tryz.prog) u 53 52 i0 _ Tryz.underlying53 hi hz0 .i64 .i64 (n:Int) (n:Int) (by omega) (Int.le_refl _) (by rw[hz2];omega) (by omega);simp only[Int.toNat_natCast,hz1] at h;rw[<-qs8];simpa[Value.cells] using h
theorem za6 (w:World)(n:Nat)(base:Nat)(hb:base<=w.heap.size)(hn:n<=1759218604416):vH (w.alloc (.cells (zv (List.replicate n mz)).toArray 52)) base (.slice (some ⟨w.heap.size,0,none⟩) n n) (List.replicate n mz):=by
 have h:=World.ownsRow_lit (base:=base) (e:=52) (size:=8) w (zv (List.replicate n mz)).toArray n hb (by unfold maxLen;omega) (by simp[zO]);unfold vH;rw[List.length_replicate];simpa using h
structure xV (U:Nat->Prop)(B:Nat)(w:World)(ls:List zf):Prop where
 len:∀ x∈ls,x.l.length<=17592186043904
 far:∀ x∈ls,¬U x.g
 rd:∀ x∈ls,RdN U w x.want x.l
 own:∀ x∈ls,zh w B x.out (x.l++[77,77,77])
 apart:ls.Pairwise (fun x y=>x.g≠y.g)
theorem xV.none (U:Nat->Prop)(B:Nat)(w:World):xV U B w []:=⟨by simp,by simp,by simp,by simp,by simp⟩
theorem xV.but {U S:Nat->Prop}{B:Nat}{w w':World}{ls:List zf}(h:xV U B w ls)(hb:But S w w')(h1:∀ k,U k->¬S k)(h2:∀ x∈ls,¬S x.g):xV U B w' ls:=
 ⟨h.len,h.far,fun x hx=>(h.rd x hx).but hb h1,fun x hx=>qi (h.own x hx) hb (fun k hk=>by simp only[zf.out,Value.ownBlock,Option.some.injEq] at hk;subst hk;exact h2 x hx),h.apart⟩
theorem xV.lt {U:Nat->Prop}{B:Nat}{w:World}{ls:List zf}(h:xV U B w ls){x:zf}(hx:x∈ls):B<=x.g/\x.g<w.heap.size:=World.ownsRow.lt (h.own x hx) x.g rfl
theorem xV.kind {U:Nat->Prop}{B:Nat}{w:World}{ls:List zf}(h:xV U B w ls){x:zf}(hx:x∈ls):∃ cs fz,w.heap[x.g]?=some (.cells cs 3 fz):=qE (h.own x hx) rfl
theorem xV.more {U:Nat->Prop}{mb base:Nat}{lq lr lo lr':Value}{ls ls':List zf}{v v':Value}{l:List Int}{w w':World}(hN:xV U base w ls)(h:qc0 w w' mb base lq lr lo ls v l lr' ls' v')(hm:w.heap[mb]?=some (.cells #[lq,lr,lo] 76))(hL:J4 w base lr ls)
 (hR:RdN U w v l) (hl:l.length<=17592186043904) (hU:∀ k,U k->k<w.heap.size/\k≠mb/\lr.ownBlock≠some k):xV U base w' ls'/\ls'.length<=ls.length+1:=by
 have h1:∀ k,U k->¬(k=mb\/lr.ownBlock=some k):=fun k hk c=>c.elim (hU k hk).2.1 (hU k hk).2.2;have h2:∀ x∈ls,¬(x.g=mb\/lr.ownBlock=some x.g):=fun x hx c=>by
  obtain⟨cs,fz,hg⟩:=hN.kind hx
  rcases c with c | c
  ·rw[c,hm] at hg;simp at hg
  ·exact qq hL hg (by decide) c
 have hN':=hN.but h.but h1 h2
 rcases h.more with ⟨rfl,_⟩ | ⟨x,_,rfl,e1,e2,e3,e4,e5⟩
 ·exact⟨hN',by omega⟩
 ·refine⟨⟨fun y hy=>?_,fun y hy=>?_,fun y hy=>?_,fun y hy=>?_,?_⟩,by simp⟩
  ·rcases List.mem_append.1 hy with c | c
   ·exact hN'.len y c
   ·rw[List.mem_singleton.1 c,e1];exact hl
  ·rcases List.mem_append.1 hy with c | c
   ·exact hN'.far y c
   ·rw[List.mem_singleton.1 c];intro hu;have:=(hU _ hu).1;omega
  ·rcases List.mem_append.1 hy with c | c
   ·exact hN'.rd y c
   ·rw[List.mem_singleton.1 c,e1,e2];exact hR.but h.but h1
  ·rcases List.mem_append.1 hy with c | c
   ·exact hN'.own y c
   ·rw[List.mem_singleton.1 c,e1];exact e5
  ·refine List.pairwise_append.2 ⟨hN'.apart,List.pairwise_singleton _ _,fun y hy z hz=>?_⟩;rw[List.mem_singleton.1 hz];have:=(hN.lt hy).2;omega
structure MO (ns:List zf)(o:Opn)(m:MOp):Prop where
 kind:m.kind=o.kind
 surf:m.surf=o.surf
 x:m.x=o.x
 y:m.y=o.y
 w:m.w=o.w
 h:m.h=o.h
 mark:m.mark=o.mark
 pv:(m.pv=.slice none 0 0/\o.px=[])\/∃ x∈ns,m.pv=.slice (some ⟨x.g,0,none⟩) o.px.length (o.px.length+3)/\x.l=o.px
theorem MO.wide {ns ns':List zf}{o:Opn}{m:MOp}(h:MO ns o m)(hs:∀ x∈ns,x∈ns'):MO ns' o m:=
 ⟨h.kind,h.surf,h.x,h.y,h.w,h.h,h.mark,h.pv.imp id fun ⟨x,hx,r⟩=>⟨x,hs x hx,r⟩⟩
theorem KZ:(Tryz.prog.info? 143).map (fun i=>(i.zero,i.size,i.bytes))=some (some (.agg #[.slice none 0 0,.slice none 0 0]),2,48):=by kernel_rfl
structure Qb (U:Nat->Prop)(mb base g:Nat)(v:Value)(l:List Opn)(w wr:World)(k c:Nat)(ms:List MOp)(li:Value)(ns:List zf):Prop where
 own:vH wr base (.slice (some ⟨g,0,none⟩) (l.length+3) (l.length+3)) (ms++List.replicate (l.length+3-k) mz)
 len:ms.length=k
 mo:∀ (i:Nat)(o:Opn)(m:MOp),l[i]?=some o->ms[i]?=some m->MO ns o m
 tail:∀ (i:Nat)(m:MOp),l.length<=i->ms[i]?=some m->m=m77
 box:wr.heap[mb]?=some (.cells #[.slice none 0 0,li,.slice none 0 0] 76)
 row:J4 wr base li ns
 cnt:ns.length<=c
 lent:xV U base wr ns
 but:But (fun k=>k=mb) w wr
 rd:RdO U wr v l
 new:w.heap.size<wr.heap.size
theorem Qb.more {U:Nat->Prop}{mb base g:Nat}{v:Value}{l:List Opn}{w wr:World}{k c c':Nat}{ms:List MOp}{li:Value}{ns:List zf}(h:Qb U mb base g v l w wr k c ms li ns)(hc:c<=c'):Qb U mb base g v l w wr k c' ms li ns:=
 ⟨h.own,h.len,h.mo,h.tail,h.box,h.row,Nat.le_trans h.cnt hc,h.lent,h.but,h.rd,h.new⟩
theorem Qb.ints {U:Nat->Prop}{mb:Nat}{v:Value}{l:List Opn}{w wa w2:World}{k c:Nat}{ms:List MOp}{li li2:Value}{ns ns2:List zf}{pv v':Value}{px:List Int}(h:Qb U mb w.heap.size w.heap.size v l w wa k c ms li ns)(hl:qc0 wa w2 mb w.heap.size (.slice none 0 0) li (.slice none 0 0) ns pv px li2 ns2 v')
 (hpv:RdN U wa pv px) (hpl:px.length<=17592186043904) (hU:∀ q,U q->q<w.heap.size/\q≠mb):Qb U mb w.heap.size w.heap.size v l w w2 k (c+1) ms li2 ns2:=by
 have hUl:∀ q,U q->q<wa.heap.size/\q≠mb/\li.ownBlock≠some q:=fun q hq=>⟨zzm (hU q hq).1 (Nat.le_of_lt h.new),(hU q hq).2,fun e=>by have:=(World.ownsRow.lt h.row q e).1;have:=(hU q hq).1;omega⟩;have hS:∀ q,U q->¬(q=mb\/li.ownBlock=some q):=fun q hq c=>c.elim (hUl q hq).2.1 (hUl q hq).2.2;obtain⟨hN,hc⟩:=h.lent.more hl h.box h.row hpv hpl hUl;have hsub:∀ x∈ns,x∈ns2:=fun x hx=>by
  rcases hl.more with ⟨e,_⟩ | ⟨y,_,e,_⟩
  ·rw[e];exact hx
  ·rw[e];exact List.mem_append.2 (.inl hx)
 refine⟨qi h.own hl.but (fun q hq e=>?_),h.len,fun i o m ho hm=>(h.mo i o m ho hm).wide hsub,h.tail,hl.box,hl.own,by have:=h.cnt;omega,hN,h.but.step hl.but (fun q hq=>?_),h.rd.but hl.but hS,zzm h.new hl.but.size⟩
 ·rcases e with e | e
  ·subst e;exact qq h.own h.box (by decide) hq
  ·exact qS h.own h.row (by decide) hq e
 ·rcases hq with e | e
  ·exact .inl e
  ·exact .inr (World.ownsRow.lt h.row q e).1
theorem Qb.below {U:Nat->Prop}{mb base g:Nat}{v:Value}{l:List Opn}{w wr wr':World}{k c:Nat}{ms:List MOp}{li:Value}{ns:List zf}(h:Qb U mb base g v l w wr k c ms li ns)(hb:Below wr.heap.size wr wr'):Qb U mb base g v l w wr' k c ms li ns:=
 have hB:But (fun _=>False) wr wr':=.of_below hb
 ⟨qi h.own hB (fun _ _ h=>h),h.len,h.mo,h.tail,hB.heap h.box (fun h=>h),qi h.row hB (fun _ _ h=>h),h.cnt,h.lent.but hB (fun _ _ h=>h) (fun _ _ h=>h),h.but.step hB (fun _ h=>h.elim),h.rd.below hb,zzm h.new hb.size⟩
theorem Qb.set {U:Nat->Prop}{mb base g:Nat}{v:Value}{l:List Opn}{w wr:World}{k c:Nat}{ms:List MOp}{li:Value}{ns:List zf}(h:Qb U mb base g v l w wr k c ms li ns){ob:Nat}(h1:w.heap.size<=ob)(h2:ob≠g)(h3:ob≠mb)(h4:li.ownBlock≠some ob)(h5:∀ x∈ns,x.g≠ob)(hU:∀ q,U q->q<w.heap.size)(i:Nat)(u:Value):Qb U mb base g v l w (wr.setCell ⟨ob,i,none⟩ u) k c ms li ns:=by
 have hB:But (fun q=>q=ob) wr (wr.setCell ⟨ob,i,none⟩ u):=But.setCell (S:=fun q=>q=ob) (But.refl _ _) (p:=⟨ob,i,none⟩) (.inl rfl) u;exact⟨qi h.own hB (fun q hq e=>by simp only[Value.ownBlock,Option.some.injEq] at hq;omega),h.len,h.mo,h.tail,hB.heap h.box (fun e=>h3 e.symm),qi h.row hB (fun q hq e=>by subst e;exact h4 hq),h.cnt,h.lent.but hB (fun q hq e=>by have:=hU q hq;omega) (fun x hx e=>h5 x hx e),h.but.setCell (.inr h1) u,h.rd.but hB (fun q hq e=>by have:=hU q hq;omega),by have:=h.new;simpa[World.setCell] using this⟩
structure VO (U:Nat->Prop)(mb:Nat)(v:Value)(l:List Opn)(w w':World)(ms:List MOp)(li:Value)(ns:List zf)(lo:Value):Prop where
 own:vH w' w.heap.size (.slice (some ⟨w.heap.size,0,none⟩) (l.length+3) (l.length+3)) (ms++[m77,m77,m77])
 len:ms.length=l.length
 mo:∀ (i:Nat)(o:Opn)(m:MOp),l[i]?=some o->ms[i]?=some m->MO ns o m
 box:w'.heap[mb]?=some (.cells #[.slice none 0 0,li,lo] 76)
 row:J4 w' w.heap.size li ns
 cnt:ns.length<=l.length+3
 lent:xV U w.heap.size w' ns
 ops:w'.ownsRow w.heap.size 143 2 lo 1 [.slice (some ⟨w.heap.size,0,none⟩) (l.length+3) (l.length+3),v]
 rd:RdO U w' v l
 but:But (fun k=>k=mb) w w'
theorem qd0 {α:Type}{ms:List α}{s m:α}{i:Nat}(h:(ms++[s])[i]?=some m):ms[i]?=some m\/(i=ms.length/\m=s):=by
 rcases Nat.lt_or_ge i ms.length with c | c
 ·rw[List.getElem?_append_left c] at h;exact .inl h
 ·rw[List.getElem?_append_right c] at h;have hi:=(zzg h).1;simp at hi;have:i=ms.length:=(by omega);subst this;simp at h;exact .inr ⟨rfl,h.symm⟩
theorem Qb.put {U:Nat->Prop}{mb:Nat}{v:Value}{l:List Opn}{w wr:World}{k c:Nat}{ms:List MOp}{li:Value}{ns:List zf}(h:Qb U mb w.heap.size w.heap.size v l w wr k c ms li ns)(hk:k<l.length+3)(s:MOp)(h1:∀ o,l[k]?=some o->MO ns o s)(h2:l.length<=k->s=m77)(hU:∀ q,U q->q<w.heap.size)(hmb:mb<w.heap.size) :
 Qb U mb w.heap.size w.heap.size v l w (ZF wr w.heap.size k s) (k+1) c (ms++[s]) li ns:=by
 have e1:ms++List.replicate (l.length+3-k) mz=ms++mz::List.replicate (l.length+3-(k+1)) mz:=by
  rw[show l.length+3-k=l.length+3-(k+1)+1 by omega,List.replicate_succ]
 have hO:=h.own;rw[e1] at hO;have htot:l.length+3=(ms++mz::List.replicate (l.length+3-(k+1)) mz).length:=(by have:=h.len;simp;omega);have hP:=QL s hO htot;rw[h.len] at hP;obtain⟨gc,gf,hgk⟩:=qE h.own (k:=w.heap.size) rfl;have hb:But (fun q=>q=w.heap.size) wr (ZF wr w.heap.size k s):=kM (But.refl _ _) (.inl rfl);refine⟨?_,by simp[h.len],fun i o m ho hm=>?_,fun i m hi hm=>?_,(Qo (by omega)).trans h.box,qi h.row hb (fun q hq e=>?_),h.cnt,h.lent.but hb (fun q hq e=>?_) (fun x hx e=>?_),kM h.but (.inr (zzl _)),h.rd.but hb (fun q hq e=>?_),zzm h.new hb.size⟩
 ·rw[List.append_assoc];exact hP
 ·rcases qd0 hm with c | ⟨c,rfl⟩
  ·exact h.mo i o m ho c
  ·rw[c,h.len] at ho;exact h1 o ho
 ·rcases qd0 hm with c | ⟨c,rfl⟩
  ·exact h.tail i m hi c
  ·rw[c,h.len] at hi;exact h2 hi
 ·subst e;exact qq h.row hgk (by decide) hq
 ·have:=hU q hq;omega
 ·obtain⟨cs,fz,hg⟩:=h.lent.kind hx;rw[e,hgk] at hg;simp at hg
 ·have:=hU q hq;omega
theorem qi8 (U:Nat->Prop)(mb:Nat)(ao:Option Addr)(cap:Nat)(l:List Opn)(w:World)(hm:w.heap[mb]?=some (.cells #[.slice none 0 0,.slice none 0 0,.slice none 0 0] 76))(ha:ao≠none)(hR:RdO U w (.slice ao l.length cap) l)(hlen:l.length<=1759218604390)(hpx:∀ o∈l,o.px.length<=17592186043904)(hU:∀ k,U k->k<w.heap.size/\k≠mb) :
 Calls Tryz.prog 26 #[.pointer (some ⟨mb,0,none⟩),.slice ao l.length cap] w fun e w'=>e=.returned (.slice (some ⟨w.heap.size,0,none⟩) l.length (l.length+3))/\∃ ms li ns lo,VO U mb (.slice ao l.length cap) l w w' ms li ns lo:=by
 have qn:∀ (w:World)(a:Option Addr)(n c n' c':Nat),(binOp .eql 53 (.slice a n c) (.slice none n' c')).run Tryz.prog w=.ok (.bool a.isNone) w:=fun w a n c n' c'=>Lib.run_eql_slice_nil w _ _ a n c n' c' Tryz.underlying53;obtain⟨ad,rfl⟩:=Option.ne_none_iff_exists'.1 ha;have hmk:∀ u:World,(Instr.makeSlice 53 (.int .i64 ((l.length:Int)+3)) (.int .i64 ((l.length:Int)+3))).run Tryz.prog u=.ok (.slice (some ⟨u.heap.size,0,none⟩) (l.length+3) (l.length+3)) (u.alloc (.cells (zv (List.replicate (l.length+3) mz)).toArray 52)):=fun u=>qs7 (l.length+3) (by omega) u;have hmb:=qh hm;have HM:=qg hm;have HR:=qg hR;have HPx:=qg hpx;have HU:=qg hU;clear hm hR hpx hU ha
 go_enter Tryz.func26,Tryz.ntmps26
 go_wp2
 go_loopw [7] (fun i wr=>∃ k:Nat,k<=l.length+3/\i=.int .i64 k/\∃ ms li ns,Qb U mb w.heap.size w.heap.size (.slice (some ad) l.length cap) l w wr k k ms li ns) (fun i _=>l.length+3-(intOf i).toNat)
 case atStart=>
  refine⟨0,Nat.zero_le _,rfl,[],.slice none 0 0,[],⟨by simpa using za6 w (l.length+3) w.heap.size (zzl _) (by omega),rfl,fun i o m _ h=>by simp at h,fun i m _ h=>by simp at h,qx (qb HM) _,World.ownsRow_nil _ _ _ _,by simp,xV.none _ _ _,(But.refl _ _).alloc _,(qb HR).below ((Below.refl _ w).alloc (zzl _) _),by simp⟩⟩
 case round=>
  rename World=>wq;obtain⟨k,hk,rfl,ms,li,ns,hI⟩:=hrel
  by_cases hlt:k<l.length+3
  ·have e1:ms++List.replicate (l.length+3-k) mz=ms++mz::List.replicate (l.length+3-(k+1)) mz:=by
    rw[show l.length+3-k=l.length+3-(k+1)+1 by omega,List.replicate_succ]
   by_cases hin:k<l.length
   ·obtain⟨o,ho⟩:∃ o,l[k]?=some o:=⟨l[k],by simp[hin]⟩;obtain⟨ao',cap',e,_,_,h3⟩:=hI.rd;simp only[Value.slice.injEq,true_and] at e;obtain⟨e2,rfl⟩:=e;obtain⟨b,off,e3,_,hbl,hc⟩:=h3 (by intro e;rw[e] at hin;simp at hin);rw[e3,Option.some.injEq] at e2;subst e2;obtain⟨c0,c1,c2,c3,c4,c5,⟨pv,c6,hpv⟩,c7⟩:=hc k o ho;obtain⟨po,pc,epv,pjunk⟩:=id hpv;have HPV:=qg hpv;rw[epv] at c6;clear pjunk h3 hc hpv;have i0:(0:Int)<=(k:Int):=(by omega);have i1:(k:Int)<(l.length:Int)+3:=(by omega);have i2:(k:Int)<(l.length:Int):=(by omega);have HI:=qg hI;have HOo:=qg ho;have HEP:=qg epv;clear hI ho epv e1 hmk
    go_wp2_with fail
    have hIa:=(qb HI).below (((Below.refl _ wq).alloc (zzl _) _):Below wq.heap.size wq (wq.alloc (.cells #[.int .i64 o.kind,.int .i64 o.surf,.int .i64 o.x,.int .i64 o.y,.int .i64 o.w,.int .i64 o.h,.slice po o.px.length pc,.int .i64 o.mark] 52)));have hxa:(wq.alloc (.cells #[.int .i64 o.kind,.int .i64 o.surf,.int .i64 o.x,.int .i64 o.y,.int .i64 o.w,.int .i64 o.h,.slice po o.px.length pc,.int .i64 o.mark] 52)).heap[wq.heap.size]?=some (.cells #[.int .i64 o.kind,.int .i64 o.surf,.int .i64 o.x,.int .i64 o.y,.int .i64 o.w,.int .i64 o.h,.slice po o.px.length pc,.int .i64 o.mark] 52):=qt _ _ _ rfl;have hpva:RdN U (wq.alloc (.cells #[.int .i64 o.kind,.int .i64 o.surf,.int .i64 o.x,.int .i64 o.y,.int .i64 o.w,.int .i64 o.h,.slice po o.px.length pc,.int .i64 o.mark] 52)) (.slice po o.px.length pc) o.px:=by
     rw[<-qb HEP];exact (qb HPV).below ((Below.refl _ wq).alloc (zzl _) _)
    have hlig:∀ q,li.ownBlock=some q->q<wq.heap.size:=fun q hq=>(World.ownsRow.lt (qb HI).row q hq).2;generalize wq.alloc (.cells #[.int .i64 o.kind,.int .i64 o.surf,.int .i64 o.x,.int .i64 o.y,.int .i64 o.w,.int .i64 o.h,.slice po o.px.length pc,.int .i64 o.mark] 52)=wa at *;have hpl:=(qb HPx) o (zzn (qb HOo));refine (KW mb w.heap.size (.slice none 0 0) li (.slice none 0 0) ns (.slice po o.px.length pc) o.px wa hIa.box hIa.row (Nat.le_of_lt hIa.new) U hpva hpl (by have:=hIa.cnt;omega)).mono ?_;rintro e w2 ⟨v',rfl,hOv,li2,ns2,hl2⟩;have hI2:=hIa.ints hl2 hpva hpl (qb HU);have hx2:w2.heap[wq.heap.size]?=some (.cells #[.int .i64 o.kind,.int .i64 o.surf,.int .i64 o.x,.int .i64 o.y,.int .i64 o.w,.int .i64 o.h,.slice po o.px.length pc,.int .i64 o.mark] 52):=hl2.but.heap hxa (fun c=>by
     rcases c with c | c
     ·have:=qh (qb HI).box;omega
     ·have:=hlig _ c;omega)
    obtain⟨vo,vcp,ev'⟩:=qr hOv;subst ev';have hMO:MO ns2 o ⟨o.kind,o.surf,o.x,o.y,o.w,o.h,.slice vo o.px.length vcp,o.mark⟩:=⟨rfl,rfl,rfl,rfl,rfl,rfl,rfl,by
     rcases hl2.more with ⟨_,e1,e2⟩ | ⟨x,e1,e2,e3,_⟩
     ·exact .inl ⟨e1,e2⟩
     ·exact .inr ⟨x,by rw[e2];simp,e1,e3⟩⟩
    have hmbq:mb<wq.heap.size:=qh (qb HI).box;have hnew:=(qb HI).new;have hI3:=hI2.set (ob:=wq.heap.size) (by omega) (by omega) (by omega) (qq hI2.row hx2 (by decide)) (fun x hx e=>by
     obtain⟨cs,fz,hg⟩:=hI2.lent.kind hx;rw[e,hx2] at hg;simp at hg) (fun q hq=>((qb HU) q hq).1) 6 (.slice vo o.px.length vcp)
    have d0:w2.cell? ⟨wq.heap.size,0,none⟩=some (.int .i64 o.kind):=qe hx2 0;have d1:w2.cell? ⟨wq.heap.size,1,none⟩=some (.int .i64 o.surf):=qe hx2 1;have d2:w2.cell? ⟨wq.heap.size,2,none⟩=some (.int .i64 o.x):=qe hx2 2;have d3:w2.cell? ⟨wq.heap.size,3,none⟩=some (.int .i64 o.y):=qe hx2 3;have d4:w2.cell? ⟨wq.heap.size,4,none⟩=some (.int .i64 o.w):=qe hx2 4;have d5:w2.cell? ⟨wq.heap.size,5,none⟩=some (.int .i64 o.h):=qe hx2 5;have d6:w2.cell? ⟨wq.heap.size,6,none⟩=some (.slice po o.px.length pc):=qe hx2 6;have d7:w2.cell? ⟨wq.heap.size,7,none⟩=some (.int .i64 o.mark):=qe hx2 7;have dz:∀ t,w2.frozen? ⟨wq.heap.size,t,none⟩=false:=qj hx2;have hO2:=hI2.own;have e1:ms++List.replicate (l.length+3-k) mz=ms++mz::List.replicate (l.length+3-(k+1)) mz:=by
     rw[show l.length+3-k=l.length+3-(k+1)+1 by omega,List.replicate_succ]
    rw[e1] at hO2;have hmsl:=hI2.len;have htot:l.length+3=(ms++mz::List.replicate (l.length+3-(k+1)) mz).length:=(by simp;omega);have cel:∀ t,t<8->w2.cell? ⟨w.heap.size,k*8+t,none⟩=(mcell mz)[t]?:=fun t ht=>QM hO2 htot (j:=k) (m:=mz) (by rw[<-hmsl];simp) t ht;have g0:w2.cell? ⟨w.heap.size,k*8,none⟩=some (.int .i64 0):=cel 0 (by omega);have g1:w2.cell? ⟨w.heap.size,k*8+1,none⟩=some (.int .i64 0):=cel 1 (by omega);have g2:w2.cell? ⟨w.heap.size,k*8+2,none⟩=some (.int .i64 0):=cel 2 (by omega);have g3:w2.cell? ⟨w.heap.size,k*8+3,none⟩=some (.int .i64 0):=cel 3 (by omega);have g4:w2.cell? ⟨w.heap.size,k*8+4,none⟩=some (.int .i64 0):=cel 4 (by omega);have g5:w2.cell? ⟨w.heap.size,k*8+5,none⟩=some (.int .i64 0):=cel 5 (by omega);have g6:w2.cell? ⟨w.heap.size,k*8+6,none⟩=some (.slice none 0 0):=cel 6 (by omega);have g7:w2.cell? ⟨w.heap.size,k*8+7,none⟩=some (.int .i64 0):=cel 7 (by omega);have gz:∀ t,w2.frozen? ⟨w.heap.size,t,none⟩=false:=Zl hO2 htot;have hne1:w.heap.size≠wq.heap.size:=(by omega);have i1':(k:Int)<((l.length+3:Nat):Int):=(by omega);have HI3:=qg hI3;have HMO:=qg hMO;clear hIa hxa hpva hlig hl2 hOv hI2 hx2 hMO hI3 hO2 e1 htot cel hmsl c0 c1 c2 c3 c4 c5 c6 c7 HI HPV HEP;go_wp2
    go_roundw
    case rel=>
     have hIp:=(qb HI3).put hlt ⟨o.kind,o.surf,o.x,o.y,o.w,o.h,.slice vo o.px.length vcp,o.mark⟩ (fun o' ho'=>by rw[qb HOo] at ho';cases ho';exact qb HMO) (fun h=>absurd hin (by omega)) (fun q hq=>((qb HU) q hq).1) hmb;exact⟨k+1,by omega,by go_num,_,li2,ns2,hIp⟩
    case measure=>simp[intOf];omega
   ·have hO:=hI.own;rw[e1] at hO;have htot:l.length+3=(ms++mz::List.replicate (l.length+3-(k+1)) mz).length:=(by have:=hI.len;simp;omega);have hP:=QL m77 hO htot;rw[hI.len] at hP;have hmsl:=hI.len;have cel:∀ t,t<8->wq.cell? ⟨w.heap.size,k*8+t,none⟩=(mcell mz)[t]?:=fun t ht=>QM hO htot (j:=k) (m:=mz) (by rw[<-hmsl];simp) t ht;have c0:wq.cell? ⟨w.heap.size,k*8,none⟩=some (.int .i64 0):=cel 0 (by omega);have c1:wq.cell? ⟨w.heap.size,k*8+1,none⟩=some (.int .i64 0):=cel 1 (by omega);have c2:wq.cell? ⟨w.heap.size,k*8+2,none⟩=some (.int .i64 0):=cel 2 (by omega);have c3:wq.cell? ⟨w.heap.size,k*8+3,none⟩=some (.int .i64 0):=cel 3 (by omega);have c4:wq.cell? ⟨w.heap.size,k*8+4,none⟩=some (.int .i64 0):=cel 4 (by omega);have c5:wq.cell? ⟨w.heap.size,k*8+5,none⟩=some (.int .i64 0):=cel 5 (by omega);have c6:wq.cell? ⟨w.heap.size,k*8+6,none⟩=some (.slice none 0 0):=cel 6 (by omega);have c7:wq.cell? ⟨w.heap.size,k*8+7,none⟩=some (.int .i64 0):=cel 7 (by omega);have fz:∀ t,wq.frozen? ⟨w.heap.size,t,none⟩=false:=Zl hO htot;have i0:(0:Int)<=(k:Int):=(by omega);have i1:(k:Int)<(l.length:Int)+3:=(by omega);have i1':(k:Int)<((l.length+3:Nat):Int):=(by omega);have i2:¬(k:Int)<(l.length:Int):=(by omega);have HI:=qg hI;have HP:=qg hP;clear hI hP hO cel e1 htot hmsl hmk;go_wp2
    go_roundw
    case rel=>
     have hIp:=(qb HI).put hlt m77 (fun o ho=>absurd (zzg ho).1 hin) (fun _=>rfl) (fun q hq=>((qb HU) q hq).1) hmb;exact⟨k+1,by omega,by go_num,ms++[m77],li,ns,hIp.more (by omega)⟩
    case measure=>simp[intOf];omega
  ·obtain rfl:k=l.length+3:=(by omega);obtain⟨jj,hj,hy0,hy1,hy2⟩:=info_parts KZ;have hMr:=hI.box;have hcl:wq.cell? ⟨mb,2,none⟩=some (.slice none 0 0):=qe hMr 2;have hfr:∀ t,wq.frozen? ⟨mb,t,none⟩=false:=qj hMr;have hmsl:=hI.len;have hnew:=hI.new;have i1:¬((l.length+3:Nat):Int)<(l.length:Int)+3:=(by omega);have HI:=qg hI;have HMr:=qg hMr;clear hI hMr hmk
   go_wp2_with
    (at_builtin
     refine wpList_append_lies _ rfl _ _ 74 rfl w.heap.size 143 jj _ 2 48 Tryz.underlying74 hj hy0 hy1 hy2 rfl (by decide) (.slice none 0 0) 0 [] rfl (World.ownsRow_nil _ _ _ _) ⟨wq.heap.size,0,none⟩ 1 1 [.slice (some ⟨w.heap.size,0,none⟩) (l.length+3) (l.length+3),.slice (some ad) l.length cap] rfl rfl (xT (qt _ _ _ rfl)) (by intro u hu;simp at hu;rcases hu with rfl | rfl<;>rfl) (by decide) (by unfold maxLen;omega) (by omega) (by simp;omega) _ rfl ?_
     intro gl gk w2 hown hgrow hat hlt2
     have hB2:Below wq.heap.size wq w2:=((Below.refl _ wq).alloc (zzl _) _).grown hgrow (by simp) (fun k e=>by simp[Value.ownBlock] at e)
     have hI2:=(qb HI).below hB2
     have hgl:gl≠mb:=by
       have:=qh (qb HMr)
       rcases hat with c | c
       · simp[Value.ownBlock] at c
       · simp at c;omega
     have hcl2:w2.cell? ⟨mb,2,none⟩=some (.slice none 0 0):=qe hI2.box 2
     have hfr2:∀ t,w2.frozen? ⟨mb,t,none⟩=false:=qj hI2.box
     have HI2:=qg hI2
     have HW2:=qg hown
     clear hown hgrow hat hB2 hI2)
   go_ret;have hI2:=qb HI2;have hne:mb≠w.heap.size:=(by omega);have hB:But (fun q=>q=mb) w2 (w2.setCell ⟨mb,2,none⟩ (.slice (some ⟨gl,0,none⟩) 1 gk)):=But.setCell (S:=fun q=>q=mb) (But.refl _ _) (p:=⟨mb,2,none⟩) (.inl rfl) _;obtain⟨ms1,ms2,rfl,hl1⟩:∃ ms1 ms2,ms=ms1++ms2/\ms1.length=l.length:=⟨ms.take l.length,ms.drop l.length,(List.take_append_drop _ _).symm,by rw[List.length_take];omega⟩;have hm2:ms2=[m77,m77,m77]:=by
    have hl2:ms2.length=3:=(by simp at hmsl;omega);have ht:∀ t m,ms2[t]?=some m->m=m77:=fun t m h=>hI2.tail (l.length+t) m (by omega) (by rw[List.getElem?_append_right (by omega),show l.length+t-ms1.length=t by omega];exact h)
    match ms2,hl2 with
    | [a,b,c],_=>rw[ht 0 a rfl,ht 1 b rfl,ht 2 c rfl]
   subst hm2;refine⟨rfl,ms1,li,ns,.slice (some ⟨gl,0,none⟩) 1 gk,?_,hl1,fun i o m ho hm=>hI2.mo i o m ho (by rw[List.getElem?_append_left (by have:=(zzg hm).1;exact this)];exact hm),?_,?_,by have:=hI2.cnt;omega,?_,?_,?_,?_⟩
   ·have h0:vH w2 w.heap.size (.slice (some ⟨w.heap.size,0,none⟩) (l.length+3) (l.length+3)) (ms1++[m77,m77,m77]):=by
     have:=hI2.own;rwa[Nat.sub_self,List.replicate_zero,List.append_nil] at this
    exact qi h0 hB (fun q hq e=>by subst e;exact qq hI2.own hI2.box (by decide) hq)
   ·simpa using qp (i:=2) hI2.box (.slice (some ⟨gl,0,none⟩) 1 gk)
   ·exact qi hI2.row hB (fun q hq e=>by subst e;exact qq hI2.row hI2.box (by decide) hq)
   ·refine hI2.lent.but hB (fun q hq e=>((qb HU) q hq).2 e) (fun x hx e=>?_);obtain⟨cs,fz,hg⟩:=hI2.lent.kind hx;rw[e,hI2.box] at hg;simp at hg
   ·exact ownsRow_setCell_other (qb HW2) (by simp[Value.ownBlock];exact hgl) _
   ·exact hI2.rd.but hB (fun q hq e=>((qb HU) q hq).2 e)
   ·exact hI2.but.step hB (fun q e=>.inl e)
theorem qr6 (U:Nat->Prop)(v:Value)(l:List Int)(w:World)(hR:RdN U w v l)(hl:l.length<=17592186044416)(h5:∀ x∈l,x=-5) :
 Calls Tryz.prog 98 #[v] w fun e w'=>e=.returned (.bool true)/\w'=w:=by
 obtain⟨ao,cap,rfl,h1,h2,h3⟩:=hR;have H5:=qg h5;have H3:=qg h3;clear h5 h3
 go_enter Tryz.func98,Tryz.ntmps98
 go_wp2
 go_loopw [2,3] (fun r2 i wr=>r2=.bool false/\∃ k:Nat,k<=l.length/\i=.int .i64 k/\wr=w) (fun _ i _=>l.length-(intOf i).toNat)
 case atStart=>exact⟨rfl,0,Nat.zero_le _,rfl,rfl⟩
 case round=>
  obtain⟨rfl,k,hk,rfl,ew⟩:=hrel;subst ew
  by_cases hlt:k<l.length
  ·obtain⟨r,hr⟩:∃ r,l[k]?=some r:=⟨l[k],by simp[hlt]⟩;obtain⟨b,off,rfl,_,_,hc⟩:=(qb H3) (by intro e;rw[e] at hlt;simp at hlt);have c1:=hc k r hr;have e5:=(qb H5) r (zzn hr);subst e5;have i0:(0:Int)<=(k:Int):=(by omega);have i1:(k:Int)<(l.length:Int):=(by omega);clear hc hr;go_wp2
   go_roundw
   case rel=>exact⟨rfl,k+1,by omega,by go_num,by first | rfl | trivial⟩
   case measure=>simp[intOf];omega
  ·have i1:¬(k:Int)<(l.length:Int):=(by omega);go_wp2;go_ret;exact⟨rfl,rfl⟩
theorem Kk (U:Nat->Prop)(kind surf x y ww h mark:Int)(ao bo:Option Addr)(n c c':Nat)(px:List Int)(w:World)(hR:RdN U w (.slice ao n c) px)(hn:n<=17592186044416)(h5:∀ x∈px,x=-5) :
 Calls Tryz.prog 61 #[.agg #[.int .i64 kind,.int .i64 surf,.int .i64 x,.int .i64 y,.int .i64 ww,.int .i64 h,.slice ao n c,.int .i64 mark],.agg #[.int .i64 kind,.int .i64 surf,.int .i64 x,.int .i64 y,.int .i64 ww,.int .i64 h,.slice bo n c',.int .i64 mark]] w fun e w'=>e=.returned (.bool true)/\Below w.heap.size w w':=by
 obtain⟨ao',c'',e,_,_,_⟩:=id hR;simp only[Value.slice.injEq] at e;obtain⟨rfl,en,rfl⟩:=e;have HV:Hid (∀ w',Below w.heap.size w w'->Calls Tryz.prog 98 #[.slice ao n c] w' fun e w''=>e=.returned (.bool true)/\w''=w'):=fun w' hb=>qr6 U (.slice ao n c) px w' (hR.below hb) (by omega) h5;clear hR h5 en
 go_enter Tryz.func61,Tryz.ntmps61
 go_wp2_with fail
 refine ((qb HV) _ (((Below.refl _ w).alloc (zzl _) _).alloc (by simp) _)).mono ?_;rintro e w' ⟨rfl,rfl⟩;go_wp2;go_ret;exact⟨rfl,((Below.refl _ w).alloc (zzl _) _).alloc (by simp) _⟩
theorem Zs:∀ (l:List zf)(j:Nat)(r:zf),l[j]?=some r->(jZ l)[j*2]?=some r.out/\(jZ l)[j*2+1]?=some r.want
 | [],j,r,h=>by simp at h
 | q::l,0,r,h=>by
  simp at h;subst h;show (yd q++jZ l)[0]?=_/\(yd q++jZ l)[1]?=_;simp[yd]
 | q::l,j+1,r,h=>by
  have h':l[j]?=some r:=(by simpa using h);have ih:=Zs l j r h';have e:∀ t,(jZ (q::l))[(j+1)*2+t]?=(jZ l)[j*2+t]?:=by
   intro t;show (yd q++jZ l)[_]?=_;rw[List.getElem?_append_right (by simp[yd];omega)]
   congr 1
   simp[yd];omega
  refine⟨by have:=e 0;simp only[Nat.add_zero] at this;rw[this];exact ih.1,by rw[e 1];exact ih.2⟩
def m5:MOp:=⟨-5,0,0,0,0,0,.slice none 0 0,0⟩
def zf.full (x:zf):List Int:=x.l++[77,77,77]
theorem zf.full_len (x:zf):x.full.length=x.l.length+3:=by simp[zf.full]
structure qy8 (base:Nat)(ns:List zf)(w wr:World)(k:Nat):Prop where
 but:But (fun k=>∃ x∈ns,k=x.g) w wr
 todo:∀ x∈ns.drop k,zh wr base x.out x.full
 done:∀ x∈ns.take k,zh wr base x.out (List.replicate (x.l.length+3) (-5))
theorem Yq (U:Nat->Prop)(mb base g:Nat)(li lo v:Value)(ns:List zf)(ms:List MOp)(l:List Opn)(w:World)(hm:w.heap[mb]?=some (.cells #[.slice none 0 0,li,lo] 76))(hL:J4 w base li ns)(hN:xV U base w ns)(hns:ns.length<=1759218604400)
 (hlo:w.ownsRow base 143 2 lo 1 [.slice (some ⟨g,0,none⟩) (l.length+3) (l.length+3),v]) (hO:vH w base (.slice (some ⟨g,0,none⟩) (l.length+3) (l.length+3)) (ms++[m77,m77,m77])) (hms:ms.length=l.length) (hmo:∀ (i:Nat)(o:Opn)(m:MOp),l[i]?=some o->ms[i]?=some m->MO ns o m) (hR:RdO U w v l) (hl:l.length<=1759218604390) (hpx:∀ o∈l,o.px.length<=17592186043904) (hUg:¬U g) :
 Calls Tryz.prog 28 #[.pointer (some ⟨mb,0,none⟩)] w fun e w'=>e=.returned (.bool true)/\But (fun k=>(∃ x∈ns,k=x.g)\/k=g) w w':=by
 obtain⟨ro,rc,rfl⟩:=qr hL;have HM:=qg hm;have HL:=qg hL;have HN:=qg hN;have HLo:=qg hlo;have HOo:=qg hO;have HMo:=qg hmo;have HRo:=qg hR;have HPx:=qg hpx;have m0:w.cell? ⟨mb,0,none⟩=some (.slice none 0 0):=qe hm 0;clear hm hL hN hlo hO hmo hR hpx
 go_enter Tryz.func28,Tryz.ntmps28
 go_wp2
 go_loopw [3,4] (fun ok i wr=>ok=.bool true/\i=.int .i64 0/\wr=w) (fun _ _ _=>0)
 case atStart=>exact⟨rfl,rfl,rfl⟩
 case round=>
  obtain⟨rfl,rfl,ew⟩:=hrel;have ew2:=ew.symm;clear ew;subst ew2;go_wp2;clear m0
  go_loopw [3,7] (fun ok i wr=>ok=.bool true/\∃ k:Nat,k<=ns.length/\i=.int .i64 k/\qy8 base ns w wr k) (fun _ i _=>ns.length-(intOf i).toNat)
  case atStart=>exact⟨rfl,0,Nat.zero_le _,rfl,But.refl _ _,fun x hx=>(qb HN).own x (by simpa using hx),by simp⟩
  case round=>
   rename World=>wq;obtain⟨rfl,k,hk,rfl,hV⟩:=hrel;have hodd:∀ j,(∃ x∈ns,j=x.g)->∃ cs fz,w.heap[j]?=some (.cells cs 3 fz):=fun j ⟨x,hx,e⟩=>by subst e;exact (qb HN).kind hx
   have hMr:wq.heap[mb]?=some (.cells #[.slice none 0 0,.slice ro ns.length rc,lo] 76):=hV.but.heap (qb HM) (fun h=>by
    obtain⟨cs,fz,e⟩:=hodd _ h;rw[qb HM] at e;simp at e)
   have hLr:=qi (qb HL) hV.but (fun j hj h=>by
    obtain⟨cs,fz,e⟩:=hodd _ h;exact qq (qb HL) e (by decide) hj)
   have m1:wq.cell? ⟨mb,1,none⟩=some (.slice ro ns.length rc):=qe hMr 1;have m2:wq.cell? ⟨mb,2,none⟩=some lo:=qe hMr 2
   by_cases hlt:k<ns.length
   ·obtain⟨x,hx⟩:∃ x,ns[k]?=some x:=⟨ns[k],by simp[hlt]⟩;obtain⟨gr,c,e,_,_⟩:=World.ownsRow.form hLr (by omega);simp only[Value.slice.injEq,true_and] at e;obtain⟨rfl,rfl⟩:=e;have x0:wq.cell? ⟨gr,k*2,none⟩=some x.out:=(by rw[World.ownsRow.cellAt hLr _ (by omega)];exact (Zs ns k x hx).1);have x1:wq.cell? ⟨gr,k*2+1,none⟩=some x.want:=(by rw[World.ownsRow.cellAt hLr _ (by omega)];exact (Zs ns k x hx).2);have hxm:=zzn hx;have hdrop:ns.drop k=x::ns.drop (k+1):=by
     obtain⟨hk',e⟩:=zzg hx;rw[List.drop_eq_getElem_cons hk',e]
    have htake:ns.take (k+1)=ns.take k++[x]:=(by rw[List.take_add_one,hx];rfl);obtain⟨wo,wc,ew,_⟩:=(qb HN).rd x hxm;simp only[zf.out] at x0;rw[ew] at x1;have HV:=qg hV;have HX:=qg hx;have HE:=qg ew;have HD:=qg hdrop;have HTk:=qg htake;have hfl:=x.full_len;have hnx:=(qb HN).len x hxm;clear hV hLr hMr hx ew hdrop htake hodd;have hpos:(0:Int)<=(k:Int):=(by omega);have hlt':(k:Int)<(ns.length:Int):=(by omega);go_wp2
    go_loopw [3,9] (fun ok i wr=>ok=.bool true/\∃ j:Nat,j<=x.l.length+3/\i=.int .i64 j/\zh wr base x.out (List.replicate j (-5)++x.full.drop j)/\wr.heap[wq.heap.size]?=some (.cells #[.slice (some ⟨x.g,0,none⟩) (x.l.length+3) (x.l.length+3),.slice wo x.l.length wc] 150)/\But (fun k=>∃ x∈ns,k=x.g) w wr/\(∀ y∈ns.drop (k+1),zh wr base y.out y.full)/\∀ y∈ns.take k,zh wr base y.out (List.replicate (y.l.length+3) (-5))) (fun _ i _=>x.l.length+3-(intOf i).toNat)
    case atStart=>
     refine⟨rfl,0,Nat.zero_le _,rfl,?_,qt _ _ _ rfl,(qb HV).but.alloc _,fun y hy=>World.ownsRow.alloc ((qb HV).todo y (by rw[qb HD];exact List.mem_cons_of_mem _ hy)) _,fun y hy=>World.ownsRow.alloc ((qb HV).done y hy) _⟩;simpa using World.ownsRow.alloc ((qb HV).todo x (by rw[qb HD];simp)) _
    case round=>
     rename World=>wp;obtain⟨rfl,j,hj,rfl,hO,hbx,hBut,hOth,hDn⟩:=hrel;have b0:wp.cell? ⟨wq.heap.size,0,none⟩=some (.slice (some ⟨x.g,0,none⟩) (x.l.length+3) (x.l.length+3)):=qe hbx 0;have b1:wp.cell? ⟨wq.heap.size,1,none⟩=some (.slice wo x.l.length wc):=qe hbx 1
     by_cases hlj:j<x.l.length+3
     ·obtain⟨r,hr⟩:∃ r,x.full[j]?=some r:=⟨x.full[j]'(by omega),by simp⟩;have hdj:x.full.drop j=r::x.full.drop (j+1):=by
       obtain⟨hk',e⟩:=zzg hr;rw[List.drop_eq_getElem_cons hk',e]
      rw[hdj] at hO;have hrl:(List.replicate j (-5:Int)).length=j:=(by simp);have htot:x.l.length+3=(List.replicate j (-5:Int)++r::x.full.drop (j+1)).length:=(by simp;omega);have hP:=Yh (-5) hO htot;have c1:=kP hO htot (j:=j) (x:=r) (by rw[List.getElem?_append_right (by omega)];simp);have f1:=Zm hO htot j;rw[hrl] at hP;have hP':zh (wp.setCell ⟨x.g,j,none⟩ (.int .i64 (-5))) base x.out (List.replicate (j+1) (-5)++x.full.drop (j+1)):=by
       rw[List.replicate_succ',List.append_assoc];exact hP
      have HP:=qg hP';have HBx:=qg hbx;have HBt:=qg hBut;have HOt:=qg hOth;have HDn:=qg hDn;have HR:=qg hr;have hgx:x.g≠wq.heap.size:=fun e=>by
       have:=qq hO hbx (by decide);simp[zf.out,Value.ownBlock] at this;exact this e
      have i0:(0:Int)<=(j:Int):=(by omega);have i1:(j:Int)<((x.l.length+3:Nat):Int):=(by omega);have i1':(j:Int)<(x.l.length:Int)+3:=(by omega);have hRdv:=((qb HN).rd x hxm).but hBut (fun k hu ⟨y,hy,e⟩=>(qb HN).far y hy (e ▸ hu));obtain⟨wo',wc',ew',_,_,hw3⟩:=hRdv;have ew2:=ew'.symm.trans (qb HE);simp only[Value.slice.injEq,true_and] at ew2;obtain⟨rfl,rfl⟩:=ew2;have fin:Hid (qy8 base ns w wp k->True):=fun _=>trivial;clear hO hbx hBut hOth hDn hP hP' hr hdj htot hrl ew'
      by_cases hjn:j<x.l.length
      ·have hxr:x.l[j]?=some r:=by
        have:=qb HR;unfold zf.full at this;rwa[List.getElem?_append_left hjn] at this
       obtain⟨b,off,rfl,_,hbB,hc⟩:=hw3 (by intro e;rw[e] at hjn;simp at hjn);have d1:=hc j r hxr;have i2:(j:Int)<(x.l.length:Int):=(by omega);clear hw3 hc hxr;go_wp2
       go_quiet (fail)
       go_wp2
       go_roundw
       case rel=>
        refine⟨?_,j+1,by omega,by go_num,qb HP,?_,?_,fun y hy=>?_,fun y hy=>?_⟩
        ·rfl
        ·exact qu (qb HBx) (Ne.symm hgx) _
        ·exact ((qb HBt).drewN _).setCell (p:=⟨x.g,j,none⟩) (.inl ⟨x,hxm,rfl⟩) _
        ·have hne:y.out.ownBlock≠some x.g:=by
          have hp:=(qb HN).apart;have hs:(ns.drop k).Pairwise (fun x y=>x.g≠y.g):=hp.sublist (List.drop_sublist _ _);rw[qb HD] at hs;have:=(List.pairwise_cons.1 hs).1 y hy;simp[zf.out,Value.ownBlock];exact fun e=>this e.symm
         exact ownsRow_setCell_other ((qb HOt) y hy) hne _
        ·have hne:y.out.ownBlock≠some x.g:=by
          have hp:=(qb HN).apart;rw[<-List.take_append_drop k ns,qb HD] at hp;have:=(List.pairwise_append.1 hp).2.2 y hy x (by simp);simp[zf.out,Value.ownBlock];exact this
         exact ownsRow_setCell_other ((qb HDn) y hy) hne _
       case measure=>simp[intOf];omega
      ·have hr77:r=77:=by
        have:=qb HR;unfold zf.full at this;rw[List.getElem?_append_right (by omega)] at this;have h3:=zzn this;simpa using h3
       subst hr77;have i2:¬(j:Int)<(x.l.length:Int):=(by omega);have i3:(x.l.length:Int)<=(j:Int):=(by omega);clear hw3;go_wp2
       go_quiet (fail)
       go_wp2
       go_roundw
       case rel=>
        refine⟨?_,j+1,by omega,by go_num,qb HP,?_,?_,fun y hy=>?_,fun y hy=>?_⟩
        ·rfl
        ·exact qu (qb HBx) (Ne.symm hgx) _
        ·exact ((qb HBt).drewN _).setCell (p:=⟨x.g,j,none⟩) (.inl ⟨x,hxm,rfl⟩) _
        ·have hne:y.out.ownBlock≠some x.g:=by
          have hp:=(qb HN).apart;have hs:(ns.drop k).Pairwise (fun x y=>x.g≠y.g):=hp.sublist (List.drop_sublist _ _);rw[qb HD] at hs;have:=(List.pairwise_cons.1 hs).1 y hy;simp[zf.out,Value.ownBlock];exact fun e=>this e.symm
         exact ownsRow_setCell_other ((qb HOt) y hy) hne _
        ·have hne:y.out.ownBlock≠some x.g:=by
          have hp:=(qb HN).apart;rw[<-List.take_append_drop k ns,qb HD] at hp;have:=(List.pairwise_append.1 hp).2.2 y hy x (by simp);simp[zf.out,Value.ownBlock];exact this
         exact ownsRow_setCell_other ((qb HDn) y hy) hne _
       case measure=>simp[intOf];omega
     ·obtain rfl:j=x.l.length+3:=(by omega);have hfin:qy8 base ns w wp (k+1):=⟨hBut,hOth,fun y hy=>by
       rw[qb HTk] at hy
       rcases List.mem_append.1 hy with c | c
       ·exact hDn y c
       ·rw[List.mem_singleton.1 c];have:=hO;rw[List.drop_of_length_le (by omega),List.append_nil] at this;exact this⟩
      have HF:=qg hfin;clear hO hbx hBut hOth hDn hfin;go_wp2
      go_roundw
      case rel=>exact⟨rfl,k+1,by omega,by go_num,qb HF⟩
      case measure=>simp[intOf];omega
   ·obtain rfl:k=ns.length:=(by omega);have hB:=hV.but;have hDone:∀ x∈ns,zh wq base x.out (List.replicate (x.l.length+3) (-5)):=fun x hx=>hV.done x (by rw[List.take_length];exact hx);have hOq:vH wq base (.slice (some ⟨g,0,none⟩) (l.length+3) (l.length+3)) (ms++[m77,m77,m77]):=qi (qb HOo) hB (fun j hj h=>by
     obtain⟨cs,fz,e⟩:=hodd _ h;exact qq (qb HOo) e (by decide) hj)
    have hLoq:=qi (qb HLo) hB (fun j hj h=>by
     obtain⟨cs,fz,e⟩:=hodd _ h;exact qq (qb HLo) e (by decide) hj)
    have hRq:=(qb HRo).but hB (fun q hq ⟨x,hx,e⟩=>(qb HN).far x hx (e ▸ hq));obtain⟨gl,cl,el,_,_⟩:=World.ownsRow.form hLoq (by omega);subst el;obtain⟨vo,vcp,evv,_⟩:=id hRq;subst evv;have HB:=qg hB;have HDone:=qg hDone;have HOq:=qg hOq;have HLoq:=qg hLoq;have HRq:=qg hRq;have HMq:=qg hMr;have hgne:∀ x∈ns,x.g≠g:=fun x hx e=>by
     obtain⟨cs,fz,hg⟩:=(qb HN).kind hx;obtain⟨cs',fz',hg'⟩:=qE (qb HOo) (k:=g) rfl;rw[e,hg'] at hg;simp at hg
    have HG:=qg hgne;clear hB hDone hOq hLoq hRq hV hLr hMr hodd hgne;go_wp2;clear m1 m2
    go_loopw [3,10] (fun ok i wr=>ok=.bool true/\∃ k:Nat,k<=1/\i=.int .i64 k/\But (fun q=>q=g) wq wr/\(k=0->vH wr base (.slice (some ⟨g,0,none⟩) (l.length+3) (l.length+3)) (ms++[m77,m77,m77]))) (fun _ i _=>1-(intOf i).toNat)
    case atStart=>exact⟨rfl,0,by omega,rfl,But.refl _ _,fun _=>qb HOq⟩
    case round=>
     rename World=>wp;obtain⟨rfl,k,hk,rfl,hB,hOk⟩:=hrel;have hMr:wp.heap[mb]?=some (.cells #[.slice none 0 0,.slice ro ns.length rc,.slice (some ⟨gl,0,none⟩) 1 cl] 76):=hB.heap (qb HMq) (fun e=>qq (qb HOq) (qb HMq) (by decide) (by rw[e];rfl));have hLr:=qi (qb HLoq) hB (fun q hq e=>qS (qb HLoq) (qb HOq) (by decide) hq (by rw[e];rfl));have n2:wp.cell? ⟨mb,2,none⟩=some (.slice (some ⟨gl,0,none⟩) 1 cl):=qe hMr 2
     by_cases hlt:k<1
     ·have hO:=hOk (by omega);have x0:wp.cell? ⟨gl,k*2,none⟩=some (.slice (some ⟨g,0,none⟩) (l.length+3) (l.length+3)):=by
       have e0:k=0:=(by omega);subst e0;rw[World.ownsRow.cellAt hLr _ (by omega)];rfl
      have x1:wp.cell? ⟨gl,k*2+1,none⟩=some (.slice vo l.length vcp):=by
       have e0:k=0:=(by omega);subst e0;rw[World.ownsRow.cellAt hLr _ (by omega)];rfl
      have kk0:(0:Int)<=(k:Int):=(by omega);have kk1:(k:Int)<1:=(by omega);have HBp:=qg hB;have HOp:=qg hO;clear hB hOk hO hLr hMr;go_wp2
      go_loopw [3,12] (fun ok i wr=>ok=.bool true/\∃ j:Nat,j<=l.length+3/\i=.int .i64 j/\vH wr base (.slice (some ⟨g,0,none⟩) (l.length+3) (l.length+3)) (List.replicate j m5++(ms++[m77,m77,m77]).drop j)/\wr.heap[wp.heap.size]?=some (.cells #[.slice (some ⟨g,0,none⟩) (l.length+3) (l.length+3),.slice vo l.length vcp] 143)/\But (fun q=>q=g) wq wr) (fun _ i _=>l.length+3-(intOf i).toNat)
      case atStart=>exact⟨rfl,0,Nat.zero_le _,rfl,by rw[List.replicate_zero,List.nil_append,List.drop_zero];exact World.ownsRow.alloc (qb HOp) _,qt _ _ _ rfl,(qb HBp).alloc _⟩
      case round=>
       rename World=>wx;obtain⟨rfl,j,hj,rfl,hO,hbx,hBut⟩:=hrel;have k0:wx.cell? ⟨wp.heap.size,0,none⟩=some (.slice (some ⟨g,0,none⟩) (l.length+3) (l.length+3)):=qe hbx 0;have k1:wx.cell? ⟨wp.heap.size,1,none⟩=some (.slice vo l.length vcp):=qe hbx 1;have lso:wp.heap.size<wx.heap.size:=qh hbx;have lsg:g<wx.heap.size:=(World.ownsRow.lt hO g rfl).2
       by_cases hlj:j<l.length+3
       ·obtain⟨r,hr⟩:∃ r,(ms++[m77,m77,m77])[j]?=some r:=⟨(ms++[m77,m77,m77])[j]'(by simp;omega),by simp⟩;have hdj:(ms++[m77,m77,m77]).drop j=r::(ms++[m77,m77,m77]).drop (j+1):=by
         obtain⟨hk',e⟩:=zzg hr;rw[List.drop_eq_getElem_cons hk',e]
        rw[hdj] at hO;have hrl:(List.replicate j m5).length=j:=(by simp);have htot:l.length+3=(List.replicate j m5++r::(ms++[m77,m77,m77]).drop (j+1)).length:=(by simp;omega);have hP:=QL m5 hO htot;rw[hrl] at hP;have cel:∀ t,t<8->wx.cell? ⟨g,j*8+t,none⟩=(mcell r)[t]?:=fun t ht=>QM hO htot (j:=j) (m:=r) (by rw[List.getElem?_append_right (by omega)];simp) t ht;have gz:∀ t,wx.frozen? ⟨g,t,none⟩=false:=Zl hO htot;have hgx:g≠wp.heap.size:=fun e=>by
         have:=qq hO hbx (by decide);simp[Value.ownBlock] at this;exact this e
        have hP':Hid (vH (ZF wx g j m5) base (.slice (some ⟨g,0,none⟩) (l.length+3) (l.length+3)) (List.replicate (j+1) m5++(ms++[m77,m77,m77]).drop (j+1))):=by
         show vH _ _ _ _;rw[List.replicate_succ',List.append_assoc];exact hP
        have i0:(0:Int)<=(j:Int):=(by omega);have i1:(j:Int)<((l.length+3:Nat):Int):=(by omega);have i1':(j:Int)<(l.length:Int)+3:=(by omega);have HOx:=qg hO;have HBx:=qg hbx;have HBt:=qg hBut;have HTOT:=qg htot;clear hO hbx hBut hP hdj htot hrl
        by_cases hjn:j<l.length
        ·obtain⟨o,ho⟩:∃ o,l[j]?=some o:=⟨l[j],by simp[hjn]⟩;have hr':ms[j]?=some r:=(by rwa[List.getElem?_append_left (by omega)] at hr);have hMO:=(qb HMo) j o r ho hr';obtain⟨rk,rs,rx,ry,rw',rh,rp,rm⟩:=r;obtain⟨e1,e2,e3,e4,e5,e6,e7,hpv⟩:=hMO;simp only at e1 e2 e3 e4 e5 e6 e7 hpv;subst e1 e2 e3 e4 e5 e6 e7;obtain⟨U',po,pc,erp,hRp⟩:∃ (U':Nat->Prop)(po:Option Addr)(pc:Nat),rp=.slice po o.px.length pc/\RdN U' wx (.slice po o.px.length pc) (List.replicate o.px.length (-5)):=by
          rcases hpv with ⟨e,e0⟩ | ⟨x,hx,e,_⟩
          ·exact⟨fun _=>True,none,0,by rw[e,e0];rfl,by rw[e0];exact⟨none,0,rfl,by simp,by simp[maxLen],fun h=>absurd rfl h⟩⟩
          ·have hox:=qi ((qb HDone) x hx) (qb HBt) (fun q hq eq=>(qb HG) x hx (by simp only[zf.out,Value.ownBlock,Option.some.injEq] at hq;rw[hq,eq]));rename_i exl;have hsp:List.replicate (x.l.length+3) (-5:Int)=List.replicate o.px.length (-5)++List.replicate 3 (-5):=(by rw[List.replicate_append_replicate,exl]);rw[hsp] at hox;have hfr:=Js (A:=List.replicate o.px.length (-5)) (B:=List.replicate 3 (-5)) (by simp only[zf.out] at hox;exact hox);rw[List.length_replicate,exl] at hfr;exact⟨_,some ⟨x.g,0,none⟩,o.px.length+3,e,zh.rd hfr⟩
         subst erp;have hRx:=(qb HRq).but (qb HBt) (fun q hq e=>hUg (e ▸ hq));obtain⟨vo',vcp',ev,_,_,h3⟩:=hRx;simp only[Value.slice.injEq,true_and] at ev;obtain⟨rfl,rfl⟩:=ev;obtain⟨b,off,rfl,_,lsb,hc⟩:=h3 (by intro e;rw[e] at hjn;simp at hjn);obtain⟨k10,k11,k12,k13,k14,k15,⟨pv',k16,hpv'⟩,k17⟩:=hc j o ho;obtain⟨qo,qc,epv,pjunk⟩:=id hpv';rw[epv] at k16;have k2:wx.cell? ⟨g,j*8,none⟩=some (.int .i64 o.kind):=cel 0 (by omega);have k3:wx.cell? ⟨g,j*8+1,none⟩=some (.int .i64 o.surf):=cel 1 (by omega);have k4:wx.cell? ⟨g,j*8+2,none⟩=some (.int .i64 o.x):=cel 2 (by omega);have k5:wx.cell? ⟨g,j*8+3,none⟩=some (.int .i64 o.y):=cel 3 (by omega);have k6:wx.cell? ⟨g,j*8+4,none⟩=some (.int .i64 o.w):=cel 4 (by omega);have k7:wx.cell? ⟨g,j*8+5,none⟩=some (.int .i64 o.h):=cel 5 (by omega);have k8:wx.cell? ⟨g,j*8+6,none⟩=some (.slice po o.px.length pc):=cel 6 (by omega);have k9:wx.cell? ⟨g,j*8+7,none⟩=some (.int .i64 o.mark):=cel 7 (by omega);have HC:=qg (Kk U' o.kind o.surf o.x o.y o.w o.h o.mark po qo o.px.length pc qc (List.replicate o.px.length (-5)) wx.drew (hRp.below (Below.refl _ wx).drew) (by have:=(qb HPx) o (zzn ho);omega) (fun x hx=>(List.mem_replicate.1 hx).2));have i2:(j:Int)<(l.length:Int):=(by omega);clear cel hr hr' hpv hRp h3 hc pjunk hpv' epv HG HDone HMo HRq HOq HLoq HPx HN HL hms ho
         go_wp2_with fail
         go_region_held3 (fun w'=>w'.cell? ⟨wp.heap.size,0,none⟩=some (.slice (some ⟨g,0,none⟩) (l.length+3) (l.length+3))/\w'.cell? ⟨wp.heap.size,1,none⟩=some (.slice (some ⟨b,off,none⟩) l.length vcp)/\w'.cell? ⟨g,j*8,none⟩=some (.int .i64 o.kind)/\w'.cell? ⟨g,j*8+1,none⟩=some (.int .i64 o.surf)/\w'.cell? ⟨g,j*8+2,none⟩=some (.int .i64 o.x)/\w'.cell? ⟨g,j*8+3,none⟩=some (.int .i64 o.y)/\w'.cell? ⟨g,j*8+4,none⟩=some (.int .i64 o.w)/\w'.cell? ⟨g,j*8+5,none⟩=some (.int .i64 o.h)/\w'.cell? ⟨g,j*8+6,none⟩=some (.slice po o.px.length pc)/\w'.cell? ⟨g,j*8+7,none⟩=some (.int .i64 o.mark)/\w'.cell? ⟨b,off+j*8,none⟩=some (.int .i64 o.kind)/\w'.cell? ⟨b,off+j*8+1,none⟩=some (.int .i64 o.surf)/\w'.cell? ⟨b,off+j*8+2,none⟩=some (.int .i64 o.x)/\w'.cell? ⟨b,off+j*8+3,none⟩=some (.int .i64 o.y)/\w'.cell? ⟨b,off+j*8+4,none⟩=some (.int .i64 o.w)/\w'.cell? ⟨b,off+j*8+5,none⟩=some (.int .i64 o.h)/\w'.cell? ⟨b,off+j*8+6,none⟩=some (.slice qo o.px.length qc)/\w'.cell? ⟨b,off+j*8+7,none⟩=some (.int .i64 o.mark))
          (first | go_keep | (go_split_ands;refine⟨?_,?_,?_,?_,?_,?_,?_,?_,?_,?_,?_,?_,?_,?_,?_,?_,?_,?_⟩<;>assumption))
          ((go_at_call 61
            refine (qb HC).mono ?_
            rintro e w3 ⟨rfl,hb3'⟩
            have hb3:Below wx.heap.size wx w3:=((Below.refl _ wx).drew).trans hb3'
            have s0:w3.cell? ⟨wp.heap.size,0,none⟩=some (.slice (some ⟨g,0,none⟩) (l.length+3) (l.length+3)):=(hb3.cell (p:=⟨wp.heap.size,0,none⟩) lso).trans k0
            have s1:w3.cell? ⟨wp.heap.size,1,none⟩=some (.slice (some ⟨b,off,none⟩) l.length vcp):=(hb3.cell (p:=⟨wp.heap.size,1,none⟩) lso).trans k1
            have s2:w3.cell? ⟨g,j*8,none⟩=some (.int .i64 o.kind):=(hb3.cell (p:=⟨g,j*8,none⟩) lsg).trans k2
            have s3:w3.cell? ⟨g,j*8+1,none⟩=some (.int .i64 o.surf):=(hb3.cell (p:=⟨g,j*8+1,none⟩) lsg).trans k3
            have s4:w3.cell? ⟨g,j*8+2,none⟩=some (.int .i64 o.x):=(hb3.cell (p:=⟨g,j*8+2,none⟩) lsg).trans k4
            have s5:w3.cell? ⟨g,j*8+3,none⟩=some (.int .i64 o.y):=(hb3.cell (p:=⟨g,j*8+3,none⟩) lsg).trans k5
            have s6:w3.cell? ⟨g,j*8+4,none⟩=some (.int .i64 o.w):=(hb3.cell (p:=⟨g,j*8+4,none⟩) lsg).trans k6
            have s7:w3.cell? ⟨g,j*8+5,none⟩=some (.int .i64 o.h):=(hb3.cell (p:=⟨g,j*8+5,none⟩) lsg).trans k7
            have s8:w3.cell? ⟨g,j*8+6,none⟩=some (.slice po o.px.length pc):=(hb3.cell (p:=⟨g,j*8+6,none⟩) lsg).trans k8
            have s9:w3.cell? ⟨g,j*8+7,none⟩=some (.int .i64 o.mark):=(hb3.cell (p:=⟨g,j*8+7,none⟩) lsg).trans k9
            have s10:w3.cell? ⟨b,off+j*8,none⟩=some (.int .i64 o.kind):=(hb3.cell (p:=⟨b,off+j*8,none⟩) lsb).trans k10
            have s11:w3.cell? ⟨b,off+j*8+1,none⟩=some (.int .i64 o.surf):=(hb3.cell (p:=⟨b,off+j*8+1,none⟩) lsb).trans k11
            have s12:w3.cell? ⟨b,off+j*8+2,none⟩=some (.int .i64 o.x):=(hb3.cell (p:=⟨b,off+j*8+2,none⟩) lsb).trans k12
            have s13:w3.cell? ⟨b,off+j*8+3,none⟩=some (.int .i64 o.y):=(hb3.cell (p:=⟨b,off+j*8+3,none⟩) lsb).trans k13
            have s14:w3.cell? ⟨b,off+j*8+4,none⟩=some (.int .i64 o.w):=(hb3.cell (p:=⟨b,off+j*8+4,none⟩) lsb).trans k14
            have s15:w3.cell? ⟨b,off+j*8+5,none⟩=some (.int .i64 o.h):=(hb3.cell (p:=⟨b,off+j*8+5,none⟩) lsb).trans k15
            have s16:w3.cell? ⟨b,off+j*8+6,none⟩=some (.slice qo o.px.length qc):=(hb3.cell (p:=⟨b,off+j*8+6,none⟩) lsb).trans k16
            have s17:w3.cell? ⟨b,off+j*8+7,none⟩=some (.int .i64 o.mark):=(hb3.cell (p:=⟨b,off+j*8+7,none⟩) lsb).trans k17
            have z3:∀ t,w3.frozen? ⟨g,t,none⟩=false:=fun t=>(hb3.frozen (p:=⟨g,t,none⟩) lsg).trans (gz t)
            have HB3:=qg hb3
            clear hb3 hb3' HC))
         have hO3:=qi (qb HOx) (But.of_below (S:=fun _=>False) (qb HB3)) (fun _ _ h=>h);have hP3:=QL m5 hO3 (qb HTOT);rw[List.length_replicate] at hP3;have HP3:Hid (vH (ZF w3 g j m5) base (.slice (some ⟨g,0,none⟩) (l.length+3) (l.length+3)) (List.replicate (j+1) m5++(ms++[m77,m77,m77]).drop (j+1))):=by
          show vH _ _ _ _;rw[List.replicate_succ',List.append_assoc];exact hP3
         have HB4:=qg ((qb HBt).then (qb HB3));have HBx3:=qg (((qb HB3).block _ lso).trans (qb HBx));clear hO3 hP3 hP' HOx HTOT k0 k1 k2 k3 k4 k5 k6 k7 k8 k9 k10 k11 k12 k13 k14 k15 k16 k17;go_wp2
         go_roundw
         case rel=>
          refine⟨rfl,j+1,by omega,by go_num,?_,?_,?_⟩
          ·exact qb HP3
          ·exact (Qo (i:=j) (s:=m5) (Ne.symm hgx)).trans (qb HBx3)
          ·exact kM (i:=j) (s:=m5) (qb HB4) (.inl rfl)
         case measure=>simp[intOf];omega
        ·have hr77:r=m77:=by
          rw[List.getElem?_append_right (by omega)] at hr;have h3:=zzn hr;simpa using h3
         subst hr77;have k2:wx.cell? ⟨g,j*8,none⟩=some (.int .i64 77):=cel 0 (by omega);have k3:wx.cell? ⟨g,j*8+1,none⟩=some (.int .i64 0):=cel 1 (by omega);have k4:wx.cell? ⟨g,j*8+2,none⟩=some (.int .i64 0):=cel 2 (by omega);have k5:wx.cell? ⟨g,j*8+3,none⟩=some (.int .i64 0):=cel 3 (by omega);have k6:wx.cell? ⟨g,j*8+4,none⟩=some (.int .i64 0):=cel 4 (by omega);have k7:wx.cell? ⟨g,j*8+5,none⟩=some (.int .i64 0):=cel 5 (by omega);have k8:wx.cell? ⟨g,j*8+6,none⟩=some (.slice none 0 0):=cel 6 (by omega);have k9:wx.cell? ⟨g,j*8+7,none⟩=some (.int .i64 0):=cel 7 (by omega);have i2:¬(j:Int)<(l.length:Int):=(by omega);have qn:∀ (w:World)(a:Option Addr)(n c n' c':Nat),(binOp .eql 50 (.slice a n c) (.slice none n' c')).run Tryz.prog w=.ok (.bool a.isNone) w:=fun w a n c n' c'=>Lib.run_eql_slice_nil w _ _ a n c n' c' Tryz.underlying50;clear cel hr HOx HG HDone HMo HRq HOq HLoq HPx HN HL hms;go_wp2
         go_roundw
         case rel=>
          refine⟨rfl,j+1,by omega,by go_num,?_,?_,?_⟩
          ·exact qb hP'
          ·exact (Qo (i:=j) (s:=m5) (Ne.symm hgx)).trans (qb HBx)
          ·exact kM (i:=j) (s:=m5) (qb HBt) (.inl rfl)
         case measure=>simp[intOf];omega
       ·obtain rfl:j=l.length+3:=(by omega);have HBt:=qg hBut;clear hO hbx hBut;go_wp2
        go_roundw
        case rel=>exact⟨rfl,k+1,by omega,by go_num,qb HBt,fun h=>by omega⟩
        case measure=>simp[intOf];omega
     ·have HBp:=qg hB;have i2:¬(k:Int)<1:=(by omega);clear hB hOk hLr hMr;go_wp2;go_ret;exact⟨rfl,((qb HB).wide (fun q _ h=>.inl h)).trans ((qb HBp).wide (fun q _ h=>.inr h))⟩
end Go.Proofs.YtfnockbgkcgpkaaGreat
