import Derived.Test.YtfnockbgkcgpkaaGreatTkbv
import Derived.BigQuiet
import Derived.Deep.QuietTactic
import Derived.Deep.CutBlock
import Derived.Deep.CutRange
set_option linter.all false
set_option maxRecDepth 100000
set_option maxHeartbeats 16000000
namespace Go.Proofs.YtfnockbgkcgpkaaGreat
open Go.RowKit Go.Proofs.Panes
section
variable {D U D1:Nat->Prop}{qo:Nat->Nat}{w wr w2:World}{rp cb rb ob:Nat}{d d':Dc}{rep:Array Value}{av fv:Value}{cn:List Int}{fm:List (Int×Int)}{v:Dv}{pvs:List Value}
theorem qq1 (h:qU D U qo w rp d v pvs)(hUl:∀ x,U x->x<w.heap.size)(hF:VL d)(b:Nat)(hb:b<=9223372036854775807) :
 Calls Tryz.prog 52 #[.pointer (some ⟨rp,0,none⟩),.int .i64 (b:Int)] w (qy6 D U w rp v.cb d b):=by
 have HU:=qg hUl;have HF:=qg hF;have b0:¬(b:Int)<0:=(by omega);have ht:=hF.t;obtain⟨t1,ht1⟩:∃ t1,t1=d.t+1:=⟨_,rfl⟩;have e1:IntKind.i64.wrap (d.t+1)=t1:=(by rw[IntKind.wrap_i64];omega);have c28:w.cell? ⟨rp,28,none⟩=some (.int .i64 d.t):=qe h.sc.blk 28;have c20:w.cell? ⟨rp,20,none⟩=some (.bool d.pnt):=qe h.sc.blk 20;have c22:w.cell? ⟨rp,22,none⟩=some (.int .i64 d.left):=qe h.sc.blk 22;have z28:w.frozen? ⟨rp,28,none⟩=false:=qj h.sc.blk 28;have lr:=qh h.sc.blk;obtain⟨hM0,hI0⟩:=DtI.begin h hUl t1;have HM:=qg hM0;have HI:=qg hI0;have HT1:=qg ht1;obtain⟨cb,hcb⟩:∃ cb,cb=v.cb:=⟨_,rfl⟩;rw[<-hcb] at HI ⊢;have HCB:=qg hcb;obtain⟨mo,mc,hmv⟩:=qr h.mks;obtain⟨mn,hmn⟩:∃ mn,mn=d.marks.length:=⟨_,rfl⟩;rw[<-hmn] at hmv;have HMV:=qg hmv;clear h hUl hF ht1 hM0 hI0 hcb hmv hmn
 go_enter Tryz.func52,Tryz.ntmps52
 go_upto_region 5 with fail
 go_cut [36] from 26 to 35 (fun s36 wx=>s36=.bool (@decide (yy d) (isFlD d))/\wx=(((w.setCell ⟨rp,28,none⟩ (.int .i64 t1)).alloc zrep).alloc (.cells #[.int .i64 t1,.int .i64 0,.int .i64 0,.slice none 0 0,.slice none 0 0] 133)))
 case first=>
  clear HM HI HF HU HMV
  cases hp:d.pnt with
  | false=>
   rw[hp] at c20;go_wp2
   go_meet
   exact⟨by simp[yy,hp],rfl⟩
  | true=>
   rw[hp] at c20
   by_cases hl:d.left=0
   ·rw[hl] at c22;go_wp2
    go_meet
    exact⟨by simp[yy,hp,hl],rfl⟩
   ·have hl2:(d.left == 0)=false:=(by simp[hl]);go_wp2
    go_meet
    exact⟨by simp[yy,hp,hl],rfl⟩
 case rest=>
  obtain⟨rfl,rfl⟩:=hcut;clear c28 c20 c22 z28;generalize (((w.setCell ⟨rp,28,none⟩ (.int .i64 t1)).alloc zrep).alloc (.cells #[.int .i64 t1,.int .i64 0,.int .i64 0,.slice none 0 0,.slice none 0 0] 133))=W at HM HI ⊢;obtain⟨rb,hrb⟩:∃ rb,rb=w.heap.size+1:=⟨_,rfl⟩;obtain⟨ob,hob⟩:∃ ob,ob=w.heap.size:=⟨_,rfl⟩;rw[<-hrb,<-hob] at HI;rw[<-hrb,<-hob];have HRB:=qg (And.intro hrb hob);clear hrb hob;obtain⟨td,htd⟩:∃ td,td=td1 d:=⟨_,rfl⟩;have HTD:=qg htd
  go_upto_if 36 with fail
  go_cut [5] from 36 to 68 (fun s5 wx=>s5=.int .i64 0/\∃ D2 qo2 fo fn fc,DtI D U w rp cb rb ob D2 qo2 td #[.int .i64 t1,.int .i64 (flN d),.int .i64 0,.slice none 0 0,.slice fo fn fc] (.slice none 0 0) (.slice fo fn fc) [] (flM d) wx)
  case first=>
   by_cases hfl:yy d
   ·have hdc:@decide (yy d) (isFlD d)=true:=@decide_eq_true _ (isFlD d) hfl;have htg:=(qb HF).tg hfl;have hfl':yy ({d with t:=t1}:Dc):=hfl;obtain⟨D2,qo2,hI2⟩:=DtI.flip (qb HM) (by rw[<-qb HCB];exact qb HI) (qb HU) hfl' htg;have hM:=qb HM;obtain⟨fb,hfpv,-,-⟩:=hM.fpc hfl.1;obtain⟨nf,hnf⟩:∃ nf,nf=d.fp.length:=⟨_,rfl⟩;have hfpv':v.fpv=.slice (some ⟨fb,0,none⟩) nf nf:=(by rw[hnf];exact hfpv);obtain⟨tg,htg'⟩:∃ tg,tg=d.tgt:=⟨_,rfl⟩;have c20:W.cell? ⟨rp,20,none⟩=some (.bool d.pnt):=qe hM.sc.blk 20;have c21:W.cell? ⟨rp,21,none⟩=some (.int .i64 (tg:Int)):=(by rw[htg'];exact qe hM.sc.blk 21);have c19:W.cell? ⟨rp,19,none⟩=some (.int .i64 (d.front:Int)):=qe hM.sc.blk 19;have c23:W.cell? ⟨rp,23,none⟩=some (.slice (some ⟨fb,0,none⟩) nf nf):=(by rw[<-hfpv'];exact qe hM.sc.blk 23);have c24:W.cell? ⟨rp,24,none⟩=some (.slice mo mn mc):=(by rw[<-qb HMV];exact qe hM.sc.blk 24);obtain⟨ub,cb0⟩:∃ u,W.cell? ⟨rp,10+tg*3,none⟩=some u:=⟨_,(hM.sc.buf (i:=tg) (by rw[htg'];exact htg)).1⟩;have zr:∀ t,W.frozen? ⟨rp,t,none⟩=false:=fun t=>qj hM.sc.blk t;have z20:=zr 20;have z19:=zr 19;have z24:=zr 24;have zbf:=zr (10+tg*3);have r1:W.cell? ⟨rb,1,none⟩=some (.int .i64 0):=qe (qb HI).rep 1;have r4:W.cell? ⟨rb,4,none⟩=some (.slice none 0 0):=qe (qb HI).rep 4;have zb:∀ t,W.frozen? ⟨rb,t,none⟩=false:=fun t=>qj (qb HI).rep t;have y1:=zb 1;have y4:=zb 4;have lrp:=qh hM.sc.blk;have lrb:=qh (qb HI).rep;have hne:¬rb=rp:=fun e=>(qb HI).z.1 (by rw[e];exact hM.cb.1);have hne':¬rp=rb:=fun e=>hne e.symm;have t0:(0:Int)<=(tg:Int):=(by omega);have t3:(tg:Int)<3:=(by omega);have hI3:DtI D U w rp cb rb ob D2 qo2 td #[.int .i64 t1,.int .i64 (flN d),.int .i64 0,.slice none 0 0,.slice mo mn mc] (.slice none 0 0) (.slice mo mn mc) [] (flM d) ((((((W.setCell ⟨rp,20,none⟩ (.bool false)).setCell ⟨rp,19,none⟩ (.int .i64 (tg:Int))).setCell ⟨rp,10+tg*3,none⟩ (.slice (some ⟨fb,0,none⟩) nf nf)).setCell ⟨rb,1,none⟩ (.int .i64 1)).setCell ⟨rb,4,none⟩ (.slice mo mn mc)).setCell ⟨rp,24,none⟩ (.slice none 0 0)).drew:=by
     have e1:flN d=1:=(by unfold flN;rw[if_pos hfl]);have e2:flM d=d.marks:=(by unfold flM;rw[if_pos hfl]);have e3:td=xU {d with t:=t1}:=(by rw[htd,qb HT1];rfl);rw[e1,e2,e3,<-hfpv',<-qb HMV,qb HCB,htg'];exact hI2
    have HI3:=qg hI3;have q1:¬19=10+tg*3:=(by omega);have q2:¬20=10+tg*3:=(by omega);have q3:¬24=10+tg*3:=(by omega);have q4:¬10+tg*3=19:=(by omega);have q5:¬10+tg*3=20:=(by omega);clear hI3 hI2 hM hfpv hnf hfpv' htg' htd zr zb HM HI HF HU HMV HCB HTD HT1 hfl';go_wp2;go_region;go_wp2
    go_meet
    exact⟨rfl,D2,qo2,mo,mn,mc,qb HI3⟩
   ·have hdc:@decide (yy d) (isFlD d)=false:=@decide_eq_false _ (isFlD d) hfl;have e1:flN d=0:=(by unfold flN;rw[if_neg hfl]);have e2:flM d=[]:=(by unfold flM;rw[if_neg hfl]);have e3:td={d with t:=t1}:=by
     rw[htd,qb HT1];show xU {d with t:=d.t+1}=_;unfold xU;rw[if_neg (show ¬yy ({d with t:=d.t+1}:Dc) from hfl)]
    have HI3:Hid (DtI D U w rp cb rb ob D qo td #[.int .i64 t1,.int .i64 (flN d),.int .i64 0,.slice none 0 0,.slice none 0 0] (.slice none 0 0) (.slice none 0 0) [] (flM d) W):=by
     show DtI D U w rp cb rb ob D qo td #[.int .i64 t1,.int .i64 (flN d),.int .i64 0,.slice none 0 0,.slice none 0 0] (.slice none 0 0) (.slice none 0 0) [] (flM d) W;rw[e1,e2,e3];exact qb HI
    clear HM HI HF HU HMV HCB HTD HT1 e1 e2 e3 htd;go_wp2
    go_meet
    exact⟨rfl,D,qo,none,0,0,qb HI3⟩
  case rest=>
   obtain⟨rfl,D2,qo2,fo,fn,fc,hI1⟩:=hcut;obtain⟨n,hn⟩:∃ n,n=td.l.length:=⟨_,rfl⟩;obtain⟨fl,hfl⟩:∃ fl,fl=flN d:=⟨_,rfl⟩;obtain⟨fm,hfm⟩:∃ fm,fm=flM d:=⟨_,rfl⟩;rw[<-hfl,<-hfm] at hI1;have hn16:n<=16:=(by rw[hn];exact hI1.cells.2.2.2.2.2.2.2);have HSL:Hid (∀ (k:Nat)(s:Srf),(zj td k).l[k]?=some s->0<s.left->s.left<=1000000/\SrB (s.x+s.dx)/\SrB (s.y+s.dy)):=by
    show ∀ (k:Nat)(s:Srf),(zj td k).l[k]?=some s->0<s.left->s.left<=1000000/\SrB (s.x+s.dx)/\SrB (s.y+s.dy);rw[htd];exact (qb HF).sl
   have HLN:Hid (∀ k,(zj td k).l.length=n):=fun k=>by rw[yY,hn]
   have HN:Hid (n=d.l.length):=by
    show n=d.l.length;rw[hn,htd];exact congrArg List.length (yB {d with t:=d.t+1}).2.2.1
   have HFLM:=qg (And.intro hfl hfm);have HI1:=qg hI1;clear hI1 hn htd hfl hfm HM HI HMV;go_wp2
   go_loopw [7] (fun x wr=>∃ k:Nat,k<=n/\x=.int .i64 k/\∃ D3,DtI D U w rp cb rb ob D3 qo2 (zj td k) #[.int .i64 t1,.int .i64 fl,.int .i64 0,.slice none 0 0,.slice fo fn fc] (.slice none 0 0) (.slice fo fn fc) [] fm wr) (fun x _=>n-(intOf x).toNat)
   case atStart=>exact⟨0,Nat.zero_le _,rfl,D2,qb HI1⟩
   case round=>
    clear HI1;obtain⟨k,hk,rfl,D3,hI⟩:=hrel
    by_cases hkn:k<n
    ·obtain⟨s,hs⟩:∃ s,(zj td k).l[k]?=some s:=⟨(zj td k).l[k]'(by rw[qb HLN];exact hkn),by simp⟩;obtain⟨g,vc,po,pc,c9,lrp,lg,fzg,hc,hsx,hsy,hcall⟩:=hI.slide (qb HU) hs;rw[qb HLN] at c9;obtain⟨np,hnp⟩:∃ n,n=s.px.length:=⟨_,rfl⟩;have a0:=hc 0 (by omega);have a1:=hc 1 (by omega);have a2:=hc 2 (by omega);have a3:=hc 3 (by omega);have a4:=hc 4 (by omega);have a5:=hc 5 (by omega);have a6:=hc 6 (by omega);have a7:=hc 7 (by omega);have a8:=hc 8 (by omega);have a9:=hc 9 (by omega);simp only[zA,List.getElem?_cons_zero,List.getElem?_cons_succ,Nat.add_zero,<-hnp] at a0 a1 a2 a3 a4 a5 a6 a7 a8 a9;have i0:(0:Int)<=(k:Int):=(by omega);have i1:(k:Int)<(n:Int):=(by omega);have z9:=fzg (k*10+9);have erec:zj td (k+1)=jq (zj td k) k:=rfl
     by_cases hl:0<s.left
     ·obtain⟨hl9,hx,hy⟩:=(qb HSL) k s hs hl;have HC:Hid (Calls Tryz.prog 91 #[.pointer (some ⟨rp,0,none⟩),.int .i64 (k:Int),.int .i64 (s.x+s.dx),.int .i64 (s.y+s.dy)] ((wr.setCell ⟨g,k*10+9,none⟩ (.int .i64 (s.left-1))).alloc (.cells #[.int .i64 s.cl,.int .i64 s.num,.int .i64 s.x,.int .i64 s.y,.int .i64 s.w,.int .i64 s.h,.slice po np pc,.int .i64 s.dx,.int .i64 s.dy,.int .i64 s.left] 128)).drew fun e w'=>e=.returned (.tuple #[])/\∃ D2,DtI D U w rp cb rb ob D2 qo2 (zj td (k+1)) #[.int .i64 t1,.int .i64 fl,.int .i64 0,.slice none 0 0,.slice fo fn fc] (.slice none 0 0) (.slice fo fn fc) [] fm w'):=by
       rw[<-World.setCell_alloc_past _ _ _ _ lg];exact hcall hl hx hy _ ((Below.refl _ wr).alloc (zzl _) _)
      have w1:IntKind.i64.wrap (s.left-1)=s.left-1:=(by rw[IntKind.wrap_i64];omega);have w2:IntKind.i64.wrap (s.x+s.dx)=s.x+s.dx:=(by unfold SrB at hx;rw[IntKind.wrap_i64];omega);have w3:IntKind.i64.wrap (s.y+s.dy)=s.y+s.dy:=(by unfold SrB at hy;rw[IntKind.wrap_i64];omega);clear hcall hI hc hnp fzg hx hy hsx hsy HSL HLN HF HU HFLM HT1 HRB HTD HN HCB hs;go_wp2;go_region
      go_wp2_with (go_at_call 91;refine (qb HC).mono ?_;rintro e w5 ⟨rfl,hI5⟩
                   have HI5:=qg hI5
                   clear hI5 HC)
      go_roundw
      case rel=>exact⟨k+1,by omega,by go_num,qb HI5⟩
      case measure=>simp[intOf];omega
     ·have HI5:Hid (DtI D U w rp cb rb ob D3 qo2 (zj td (k+1)) #[.int .i64 t1,.int .i64 fl,.int .i64 0,.slice none 0 0,.slice fo fn fc] (.slice none 0 0) (.slice fo fn fc) [] fm (wr.alloc (.cells #[.int .i64 s.cl,.int .i64 s.num,.int .i64 s.x,.int .i64 s.y,.int .i64 s.w,.int .i64 s.h,.slice po np pc,.int .i64 s.dx,.int .i64 s.dy,.int .i64 s.left] 128))):=by
       have e:zj td (k+1)=zj td k:=by
        rw[erec];unfold jq;rw[hs];simp only;rw[if_neg hl]
       show DtI D U w rp cb rb ob D3 qo2 (zj td (k+1)) _ _ _ _ _ _;rw[e];exact hI.below ((Below.refl _ wr).alloc (zzl _) _)
      have hl2:¬s.left > 0:=hl;clear hcall hI hc hnp fzg hsx hsy HSL HLN HF HU HFLM HT1 HRB HTD HN HCB hs;go_wp2
      go_roundw
      case rel=>exact⟨k+1,by omega,by go_num,D3,qb HI5⟩
      case measure=>simp[intOf];omega
    ·have ek:k=n:=(by omega);obtain⟨⟨ro,rc,c9⟩,-,-,-,-,-,lrp,-⟩:=hI.cells;rw[qb HLN,<-ek] at c9;have i1:¬(k:Int)<(k:Int):=(by omega);have HI1:=qg hI;clear hI HSL HLN;have HI2:Hid (DtI D U w rp cb rb ob D3 qo2 (td2 d) #[.int .i64 t1,.int .i64 fl,.int .i64 0,.slice none 0 0,.slice fo fn fc] (.slice none 0 0) (.slice fo fn fc) [] fm wr):=by
      have e:zj td k=td2 d:=by
       unfold td2;rw[qb HTD,<-qb HN,ek]
      have:=qb HI1;rw[e] at this;exact this
     clear HI1 ek;go_wp2;generalize wr=W1 at HI2 c9 lrp ⊢;obtain⟨te,hte⟩:∃ te,te=td2 d:=⟨_,rfl⟩;obtain⟨nk,hnk⟩:∃ nk,nk=d.ks.length:=⟨_,rfl⟩;obtain⟨qn,hqn⟩:∃ qn,qn=d.c.quantum:=⟨_,rfl⟩;have hkeep:=(yB {d with t:=d.t+1});have hteks:te.ks=d.ks:=(by rw[hte];exact ((xX (td1 d) d.l.length).ks).trans hkeep.2.1);have htec:te.c=d.c:=(by rw[hte];exact ((xX (td1 d) d.l.length).c).trans hkeep.1);have HLK:Hid (∀ j,(zD te j).ks.length=nk/\(zD te j).c.quantum=qn):=fun j=>by
      obtain⟨x1,x2,-⟩:=yJ te j;exact⟨by rw[x2,hteks,hnk],by rw[x1,htec,hqn]⟩
     have HKA:Hid (∀ j,(zD te j).ks[j]?=d.ks[j]?):=fun j=>by rw[J0 te j j (zzl _),hteks]
     have HAD:Hid (∀ (j:Nat)(k:Cli),(zD te j).ks[j]?=some (some k)->AdOk (zD te j) j k):=by
      show ∀ (j:Nat)(k:Cli),(zD te j).ks[j]?=some (some k)->AdOk (zD te j) j k;rw[hte];exact (qb HF).ad
     have hnk9:nk<=1000:=(by rw[hnk];exact (qb HF).ksl);have HNK:=qg (And.intro hnk (And.intro hqn hte));rw[<-hte] at HI2;clear hkeep hteks htec hnk hqn hte HN HTD;clear c9 lrp i1
     go_loopw [9] (fun x wr=>∃ j:Nat,j<=nk/\x=.int .i64 j/\∃ D3 ao an ac,DtI D U w rp cb rb ob D3 qo2 (zD te j) #[.int .i64 t1,.int .i64 fl,.int .i64 0,.slice ao an ac,.slice fo fn fc] (.slice ao an ac) (.slice fo fn fc) ((d.ks.take j).map (xF qn)) fm wr) (fun x _=>nk-(intOf x).toNat)
     case atStart=>exact⟨0,Nat.zero_le _,rfl,D3,none,0,0,qb HI2⟩
     case round=>
      clear HI2;obtain⟨j,hj,rfl,D4,ao,an,ac,hI⟩:=hrel;obtain⟨-,⟨ro8,rc8,c8⟩,-,-,-,-,lrp,-⟩:=hI.cells;rw[((qb HLK) j).1] at c8
      by_cases hjn:j<nk
      ·obtain⟨x,hx⟩:∃ x,d.ks[j]?=some x:=⟨d.ks[j]'(by rw[<-(qb HNK).1];exact hjn),by simp⟩;have hx2:(zD te j).ks[j]?=some x:=(by rw[qb HKA];exact hx);have hca:=hI.admj (qb HU) hx2 (by rw[((qb HLK) j).1];exact hnk9) (fun kk e=>(qb HAD) j kk (by rw[hx2,e]));rw[((qb HLK) j).2] at hca;obtain⟨cx,hcx⟩:∃ cx,cx=xF qn x:=⟨_,rfl⟩;rw[<-hcx] at hca;have htk:(d.ks.take (j+1)).map (xF qn)=(d.ks.take j).map (xF qn)++[cx]:=(by rw[List.take_add_one,hx,hcx];simp);have hcl:((d.ks.take j).map (xF qn)).length<=1000:=(by rw[List.length_map,List.length_take];omega);have HC:Hid (Calls Tryz.prog 92 #[.pointer (some ⟨rp,0,none⟩),.int .i64 (j:Int)] wr fun e w5=>e=.returned (.int .i64 cx)/\(w5.cell? ⟨rb,3,none⟩=some (.slice ao an ac)/\rb<w5.heap.size)/\∃ g m cap w6,(Builtin.append_ #[50,50] 50 #[.slice ao an ac,.slice (some ⟨w5.heap.size,0,none⟩) 1 1]).run Tryz.prog (w5.alloc (.cells #[.int .i64 cx] 3))=.ok (.slice (some ⟨g,0,none⟩) m cap) w6/\(w6.cell? ⟨rb,3,none⟩=some (.slice ao an ac)/\w6.frozen? ⟨rb,3,none⟩=false/\rb<w6.heap.size)/\∃ D5,DtI D U w rp cb rb ob D5 qo2 (zD te (j+1)) #[.int .i64 t1,.int .i64 fl,.int .i64 0,.slice (some ⟨g,0,none⟩) m cap,.slice fo fn fc] (.slice (some ⟨g,0,none⟩) m cap) (.slice fo fn fc) ((d.ks.take (j+1)).map (xF qn)) fm (w6.setCell ⟨rb,3,none⟩ (.slice (some ⟨g,0,none⟩) m cap))):=by
        refine hca.mono ?_;rintro e w5 ⟨rfl,D5,hI5⟩;obtain⟨g,cap,w6,p1,p2,p3,p4,p5⟩:=hI5.push (qb HU) hcl cx;refine⟨rfl,⟨qe hI5.rep 3,qh hI5.rep⟩,g,_,cap,w6,p1,⟨p2 3,p3 3,p4⟩,D5,?_⟩;rw[htk];exact p5
       have j0:(0:Int)<=(j:Int):=(by omega);have j1:(j:Int)<(nk:Int):=(by omega);clear hca hI htk hcl hcx hx hx2 HLK HKA HAD HNK HF HU HFLM HT1 HRB HCB
       go_wp2_with (first
         | (go_at_call 92;refine (qb HC).mono ?_;rintro e w5 ⟨rfl,⟨r3,l5⟩,g,m,cap,w6,hrun,⟨r3',z3',l6⟩,hI6⟩
            have HI6:=qg hI6
            have HR:=qg hrun
            clear hI6 HC hrun)
         | (at_builtin;refine zq rfl _ _ 50 50 rfl rfl _ _ _ _ rfl rfl (qb HR) ?_))
       go_roundw
       case rel=>
        obtain⟨D6,h6⟩:=qb HI6;exact⟨j+1,by omega,by go_num,D6,_,_,_,h6⟩
       case measure=>simp[intOf];omega
      ·have ej:j=nk:=(by omega);have j1:¬(j:Int)<(j:Int):=(by omega);rw[<-ej] at c8;have HI3:Hid (DtI D U w rp cb rb ob D4 qo2 (td3 d) #[.int .i64 t1,.int .i64 fl,.int .i64 0,.slice ao an ac,.slice fo fn fc] (.slice ao an ac) (.slice fo fn fc) (d.ks.map (xF d.c.quantum)) fm wr):=by
        have e:zD te j=td3 d:=by
         unfold td3;rw[(qb HNK).2.2,ej,(qb HNK).1]
        have e2:d.ks.take j=d.ks:=(by rw[ej,(qb HNK).1];exact List.take_length);have:=hI;rw[e,e2,(qb HNK).2.1] at this;exact this
       clear hI HLK HKA HAD HNK ej;obtain⟨-,-,c20,-,c27,-,-,-⟩:=(qb HI3).cells;obtain⟨p3,hp3⟩:∃ p3,p3=(td3 d).pnt:=⟨_,rfl⟩;obtain⟨h3,hh3⟩:∃ h3,h3=(td3 d).ch:=⟨_,rfl⟩;rw[<-hp3] at c20;rw[<-hh3] at c27;have HP3:=qg (And.intro hp3 hh3);clear hp3 hh3
       go_upto_region 24 with fail
       go_cut [139] from 129 to 138 (fun c wx=>c=.bool (!p3&&h3)/\wx=wr)
       case first=>
        clear HI3 HF HU HFLM HT1 HRB HCB HP3
        cases p3<;>cases h3<;>(go_wp2;go_meet;exact⟨rfl,rfl⟩)
       case rest=>
        obtain⟨rfl,rfl⟩:=hcut;clear c8 c20 c27 j1
        go_upto_if 139 with fail
        go_cut [5] from 139 to 141 (fun s5 wx=>s5=.int .i64 0/\∃ D5,DtI D U w rp cb rb ob D5 qo2 (td4 d) #[.int .i64 t1,.int .i64 fl,.int .i64 0,.slice ao an ac,.slice fo fn fc] (.slice ao an ac) (.slice fo fn fc) (d.ks.map (xF d.c.quantum)) fm wx)
        case first=>
         obtain⟨hp3,hh3⟩:=qb HP3
         by_cases hb2:p3=false/\h3=true
         ·have ebd:td4 d=bgD (td3 d):=qm3 (by rw[<-hp3];exact hb2.1) (by rw[<-hh3];exact hb2.2);have HC:=qg ((qb HI3).begins (qb HU) (qb HF).fr (qb HF).fm);rw[<-ebd] at HC;obtain⟨rfl,rfl⟩:=hb2;clear HI3 HF HU HFLM HT1 HRB HCB HP3 hp3 hh3 ebd
          go_wp2_with (go_at_call 93;refine (qb HC).mono ?_;rintro e w5 ⟨⟨u,rfl⟩,hI5⟩
                       have HI5:=qg hI5
                       clear hI5 HC)
          go_meet
          exact⟨rfl,qb HI5⟩
         ·have ebd:td4 d=td3 d:=by
           unfold td4 jF;rw[if_pos];rw[<-hp3,<-hh3]
           cases p3<;>cases h3<;>simp_all
          have HI5:=HI3;rw[<-ebd] at HI5;clear HI3 HF HU HFLM HT1 HRB HCB HP3 hp3 hh3 ebd
          cases p3<;>cases h3<;>first | exact absurd ⟨rfl,rfl⟩ hb2 | (go_wp2;go_meet;exact⟨rfl,_,qb HI5⟩)
        case rest=>
         obtain⟨rfl,D5,hI5⟩:=hcut;clear HI3;obtain⟨-,-,c20,c22,-,zr,lrp,-⟩:=hI5.cells;have z22:=zr 22;have r0:wc.cell? ⟨rb,0,none⟩=some (.int .i64 t1):=qe hI5.rep 0;have r1:wc.cell? ⟨rb,1,none⟩=some (.int .i64 fl):=qe hI5.rep 1;have r2:wc.cell? ⟨rb,2,none⟩=some (.int .i64 0):=qe hI5.rep 2;have r3:wc.cell? ⟨rb,3,none⟩=some (.slice ao an ac):=qe hI5.rep 3;have r4:wc.cell? ⟨rb,4,none⟩=some (.slice fo fn fc):=qe hI5.rep 4;have y2:wc.frozen? ⟨rb,2,none⟩=false:=qj hI5.rep 2;have lrb:=qh hI5.rep;have o0:wc.cell? ⟨ob,0,none⟩=some (.int .i64 0):=qe hI5.out 0;have o1:wc.cell? ⟨ob,1,none⟩=some (.int .i64 0):=qe hI5.out 1;have o2:wc.cell? ⟨ob,2,none⟩=some (.int .i64 0):=qe hI5.out 2;have o3:wc.cell? ⟨ob,3,none⟩=some (.slice none 0 0):=qe hI5.out 3;have o4:wc.cell? ⟨ob,4,none⟩=some (.slice none 0 0):=qe hI5.out 4;have zo:∀ t,wc.frozen? ⟨ob,t,none⟩=false:=fun t=>qj hI5.out t;have x0:=zo 0;have x1:=zo 1;have x2:=zo 2;have x3:=zo 3;have x4:=zo 4;have lob:=qh hI5.out;obtain⟨z1,z2,nro⟩:=hI5.z;have nor:¬ob=rb:=fun e=>nro e.symm;obtain⟨vv,pp,hMM,-⟩:=hI5.doc;have nrp:¬rb=rp:=fun e=>z1 (by rw[e];exact hMM.cb.1);have npr:¬rp=rb:=fun e=>nrp e.symm;have nop:¬ob=rp:=fun e=>z2 (by rw[e];exact hMM.cb.1);have npo:¬rp=ob:=fun e=>nop e.symm;obtain⟨hfl,hfm⟩:=qb HFLM;have ht1:=qb HT1;have hlf:=(qb HF).lf;have HEN:Hid (∀ (p:Int)(W W':World)(dE:Dc)(DE:Nat->Prop),p=ptN (td4 d) b->dE=xS d b->DtI D U w rp cb rb ob DE qo2 dE #[.int .i64 t1,.int .i64 fl,.int .i64 p,.slice ao an ac,.slice fo fn fc] (.slice ao an ac) (.slice fo fn fc) (d.ks.map (xF d.c.quantum)) fm W->Below (((((W.setCell ⟨ob,0,none⟩ (.int .i64 t1)).setCell ⟨ob,1,none⟩ (.int .i64 fl)).setCell ⟨ob,2,none⟩ (.int .i64 p)).setCell ⟨ob,3,none⟩ (.slice ao an ac)).setCell ⟨ob,4,none⟩ (.slice fo fn fc)).heap.size (((((W.setCell ⟨ob,0,none⟩ (.int .i64 t1)).setCell ⟨ob,1,none⟩ (.int .i64 fl)).setCell ⟨ob,2,none⟩ (.int .i64 p)).setCell ⟨ob,3,none⟩ (.slice ao an ac)).setCell ⟨ob,4,none⟩ (.slice fo fn fc)) W'->W'.heap[ob]?=some (.cells #[.int .i64 t1,.int .i64 fl,.int .i64 p,.slice ao an ac,.slice fo fn fc] 133)/\qy6 D U w rp cb d b (.returned (.tuple #[.agg #[.int .i64 t1,.int .i64 fl,.int .i64 p,.slice ao an ac,.slice fo fn fc],.int .i64 0])) W'):=fun p W W' dE DE hp hdE hI hbw=>by
          obtain⟨g1,⟨v',pvs',g2,g2'⟩,g3,g4,g5,g6⟩:=hI.end (qb HU) (a0:=.int .i64 t1) (a1:=.int .i64 fl) (a2:=.int .i64 p) (a3:=.slice ao an ac) (a4:=.slice fo fn fc);have hbt:But (fun _=>False) _ W':=.of_below hbw;refine⟨hbt.heap g1 (fun e=>e),.slice ao an ac,.slice fo fn fc,DE,qo2,by rw[ht1,hfl,hp],⟨v',pvs',?_,g2'⟩,g3,g4.then hbw,qi g5 hbt (fun _ _ e=>e),?_⟩
          ·rw[<-hdE];exact g2.below hbw
          ·rw[<-hfm];exact qi g6 hbt (fun _ _ e=>e)
         obtain⟨l4,hl4⟩:∃ l4,l4=(td4 d).left:=⟨_,rfl⟩;rw[<-hl4] at c22 hlf
         cases hp4:(td4 d).pnt with
         | false=>
          rw[hp4] at c20;have hpt:(0:Int)=ptN (td4 d) b:=(by unfold ptN;rw[if_neg (by rw[hp4];simp)]);have hpd:td4 d=xS d b:=(by unfold xS jI;rw[if_neg (by rw[hp4];simp)]);have HE:=qg ((qb HEN) 0 wc _ (td4 d) D5 hpt hpd hI5 (Below.refl _ _));clear hI5 HEN hMM HF HU HFLM HT1 HRB HCB HP3 hfl hfm ht1 hlf hl4 hpt hpd zr zo z1 z2 hp4;go_wp2;exact bodyPost_ret (kJ _ _ ob #[.int .i64 t1,.int .i64 fl,.int .i64 0,.slice ao an ac,.slice fo fn fc] (by kernel_rfl) (qb HE).1 rfl) rfl (qb HE).2
         | true=>
          rw[hp4] at c20;obtain⟨hl0,hl9⟩:=hlf hp4
          by_cases hbl:(b:Int)<l4
          ·have hpt:(b:Int)=ptN (td4 d) b:=(by unfold ptN;rw[if_pos hp4,if_pos (by rw[<-hl4];exact hbl)]);have hpd:({td4 d with left:=l4-(b:Int)}:Dc)=xS d b:=(by unfold xS jI;rw[if_pos hp4,<-hpt,hl4]);obtain⟨D6,hI6⟩:=((hI5.set (qb HU) 2 (.int .i64 l4)).set (qb HU) 2 (.int .i64 (b:Int))).left (l4-(b:Int));have HE:=qg ((qb HEN) (b:Int) _ _ _ D6 hpt hpd hI6 ((Below.refl _ _).drew));clear hI5 hI6 HEN hMM HF HU HFLM HT1 HRB HCB HP3 hfl hfm ht1 hlf hl4 hpt hpd zr zo z1 z2 hp4;have e9:IntKind.i64.wrap (l4-(b:Int))=l4-(b:Int):=(by rw[IntKind.wrap_i64];omega);go_wp2;go_region;go_wp2;exact bodyPost_ret (kJ _ _ ob #[.int .i64 t1,.int .i64 fl,.int .i64 (b:Int),.slice ao an ac,.slice fo fn fc] (by kernel_rfl) (qb HE).1 rfl) rfl (qb HE).2
          ·have hpt:l4=ptN (td4 d) b:=(by unfold ptN;rw[if_pos hp4,if_neg (by rw[<-hl4];exact hbl),hl4]);have hpd:({td4 d with left:=0}:Dc)=xS d b:=(by unfold xS jI;rw[if_pos hp4,<-hpt,hl4,Int.sub_self]);obtain⟨D6,hI6⟩:=(hI5.set (qb HU) 2 (.int .i64 l4)).left 0;have HE:=qg ((qb HEN) l4 _ _ _ D6 hpt hpd hI6 ((Below.refl _ _).drew));clear hI5 hI6 HEN hMM HF HU HFLM HT1 HRB HCB HP3 hfl hfm ht1 hlf hl4 hpt hpd zr zo z1 z2 hp4;have e9:IntKind.i64.wrap (l4-l4)=0:=(by rw[IntKind.wrap_i64];omega);go_wp2;go_region;go_wp2;exact bodyPost_ret (kJ _ _ ob #[.int .i64 t1,.int .i64 fl,.int .i64 l4,.slice ao an ac,.slice fo fn fc] (by kernel_rfl) (qb HE).1 rfl) rfl (qb HE).2
end
end Go.Proofs.YtfnockbgkcgpkaaGreat
