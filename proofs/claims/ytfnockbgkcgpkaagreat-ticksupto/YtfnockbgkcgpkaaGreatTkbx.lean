import Derived.Test.YtfnockbgkcgpkaaGreatTkax
import Derived.Test.YtfnockbgkcgpkaaGreatTkbl
import Derived.Test.YtfnockbgkcgpkaaGreatTkbn
import Derived.Test.YtfnockbgkcgpkaaGreatTkbr
import Derived.Test.YtfnockbgkcgpkaaGreatTkbt
import Derived.Test.YtfnockbgkcgpkaaGreatTkbv
import Derived.Test.YtfnockbgkcgpkaaGreatTkbw
import Derived.Deep.RegionHeld3
set_option linter.all false
set_option maxRecDepth 100000
set_option maxHeartbeats 16000000
namespace Go.Proofs.YtfnockbgkcgpkaaGreat
open Go.RowKit Go.Proofs.Panes
def vW (l:List Srf)(n:Int)(k:Nat):Nat:=((l.take k).filter (fun x=>!(x.cl == n))).length
theorem lv_at (l:List Srf)(n:Int)(k:Nat):(Qr l n k)[vW l n k]?=l[k]?:=by
 unfold Qr vW;rw[List.getElem?_append_right (zzl _),Nat.sub_self,List.getElem?_drop]
 rfl
theorem qt0 (l:List Srf)(n:Int)(k:Nat):(Qr l n k).length=vW l n k+(l.length-k):=by
 unfold Qr vW;rw[List.length_append,List.length_drop]
theorem qs9 {d:Dc}{n:Int}{k:Nat}{x:Srf}(h:d.l[k]?=some x)(hx:¬x.cl=n):jV d n (k+1)=jV d n k/\vW d.l n (k+1)=vW d.l n k+1:=by
 have e1:d.l.take (k+1)=d.l.take k++[x]:=(by rw[List.take_add_one,h];rfl);have e2:d.l.drop k=x::d.l.drop (k+1):=by
  obtain⟨hk,e⟩:=zzg h;rw[List.drop_eq_getElem_cons hk,e]
 have e3:[x].filter (fun x=>!(x.cl == n))=[x]:=(by simp[hx]);have ek:xa d n (k+1)=xa d n k:=by
  conv=>lhs;unfold xa
  rw[h];simp only;rw[if_neg hx]
 refine⟨?_,?_⟩
 ·unfold jV;rw[ek];have:Qr d.l n (k+1)=Qr d.l n k:=by
   unfold Qr;rw[e1,List.filter_append,e3,List.append_assoc,e2]
   rfl
  rw[this]
 ·unfold vW;rw[e1,List.filter_append,e3,List.length_append]
  rfl
theorem lv_no {d:Dc}{n:Int}{k:Nat}{x:Srf}(h:d.l[k]?=some x)(hx:x.cl=n):jV d n (k+1)={zw (jV d n k) x with l:=(jV d n k).l.eraseIdx (vW d.l n k)}/\vW d.l n (k+1)=vW d.l n k:=by
 have e1:d.l.take (k+1)=d.l.take k++[x]:=(by rw[List.take_add_one,h];rfl);have e2:d.l.drop k=x::d.l.drop (k+1):=by
  obtain⟨hk,e⟩:=zzg h;rw[List.drop_eq_getElem_cons hk,e]
 have e3:[x].filter (fun x=>!(x.cl == n))=[]:=(by simp[hx]);have ek:xa d n (k+1)=zw (xa d n k) x:=by
  conv=>lhs;unfold xa
  rw[h];simp only;rw[if_pos hx]
 refine⟨?_,?_⟩
 ·have:Qr d.l n (k+1)=(Qr d.l n k).eraseIdx (vW d.l n k):=by
   unfold Qr vW;rw[e1,List.filter_append,e3,List.append_nil,e2,List.eraseIdx_append_of_length_le (zzl _),Nat.sub_self]
   rfl
  unfold jV;rw[ek];simp only;rw[this]
  rfl
 ·unfold vW;rw[e1,List.filter_append,e3,List.append_nil]
theorem ZJ (l:List (Int×Int))(n:Int):jQ l n=zT n l:=by
 unfold jQ zT;refine List.filter_congr fun x _=>?_
 by_cases e:x.1=n<;>simp[e]
def Xe (w:World)(rp:Nat):Nat:=match w.cell? ⟨rp,9,none⟩ with | some (.slice _ n _)=>n | _=>0
section
variable {D U:Nat->Prop}{qo:Nat->Nat}{w w1 w2 w':World}{rp cb j:Nat}{d d' d'':Dc}{v:Dv}{pvs:List Value}{k:Cli}
theorem qU.con (h:qU D U qo w rp d v pvs)(n:Int):jt v.cl n=jS d.ks n:=by
 unfold jt jS
 by_cases h0:0<=n
 ·obtain⟨i,hi⟩:∃ i,i=n.toNat:=⟨_,rfl⟩;rw[<-hi]
  cases hx:d.ks[i]? with
  | none=>
   have hge:v.cl.length<=i:=(by rw[h.kn];exact List.getElem?_eq_none_iff.1 hx);rw[List.getElem?_eq_none hge]
  | some x=>
   obtain⟨cl,h1,h2⟩:=h.kl i x hx;obtain⟨y,hy,e⟩:=h.there h1;rw[hx] at hy;have:=Option.some.inj hy;subst this;rw[h1];simp only[e]
   cases x<;>simp
 ·simp[h0]
theorem qU.slen (h:qU D U qo w rp d v pvs):Xe w rp=d.l.length/\(∃ ro rc,w.cell? ⟨rp,9,none⟩=some (.slice ro d.l.length rc))/\rp<w.heap.size/\d.l.length<=16:=by
 obtain⟨ro,rc,hsv⟩:=qr h.sc.sf.own;rw[yn h.sc] at hsv;have hc:w.cell? ⟨rp,9,none⟩=some (.slice ro d.l.length rc):=(by rw[h.sc.c9,hsv]);exact⟨by unfold Xe;rw[hc],⟨ro,rc,hc⟩,qh h.sc.blk,h.sc.len⟩
theorem qX.slen (h:qX D U qo w rp cb d w1):Xe w1 rp=d.l.length/\(∃ ro rc,w1.cell? ⟨rp,9,none⟩=some (.slice ro d.l.length rc))/\rp<w1.heap.size/\d.l.length<=16:=by
 obtain⟨D1,v1,pvs1,h1,-⟩:=h;exact h1.slen
theorem qU.rows (h:qU D U qo w rp d v pvs)(hUl:∀ x,U x->x<w.heap.size)(hb:But (fun x=>x=rp) w w'){mv' wv':Value}{m' wt':List (Int×Int)}(hblk:w'.heap[rp]?=some (.cells (dcs {d with marks:=m',wait:=wt'} {v with mv:=mv',wv:=wv'}) 121))(hm:jM w' 0 mv' m')(hw:jM w' 0 wv' wt')(hap:∀ x,mv'.ownBlock=some x->wv'.ownBlock≠some x)
 (hmD:∀ x,mv'.ownBlock=some x->v.mv.ownBlock=some x\/w.heap.size<=x) (hwD:∀ x,wv'.ownBlock=some x->v.wv.ownBlock=some x\/w.heap.size<=x):qX D U qo w rp v.cb {d with marks:=m',wait:=wt'} w':=by
 obtain⟨c1,c2,c3,c4,c5,c6⟩:=h.cb;have hty:∀ {k:Nat}{cs:Array Value}{t:TypeId}{fz:Nat×Nat},w.heap[k]?=some (.cells cs t fz)->t≠121->¬k=rp:=fun hk ht e=>by
  rw[e,h.sc.blk] at hk;simp only[Option.some.injEq,Obj.cells.injEq] at hk;exact ht hk.2.1.symm
 have hrow:∀ {e:TypeId}{size:Nat}{u:Value}{n:Nat}{xs:List Value}{base:Nat},w.ownsRow base e size u n xs->121≠e->∀ k,u.ownBlock=some k->¬k=rp:=fun hr ht k hk e=>qq hr h.sc.blk ht (by rw[<-e];exact hk);have hnU:∀ k,U k->¬k=rp:=fun k hu e=>h.dU k (by rw[e];exact c1) hu;have hsz:=hb.size;have gD:∀ x,D x->grow D w w' x:=fun x hx=>.inl hx;have hwU:∀ k,wv'.ownBlock=some k->¬U k:=fun k hk hu=>by
  rcases hwD k hk with e | e
  ·exact h.sc.wU k e hu
  ·have:=hUl k hu;omega
 refine⟨grow D w w',{v with mv:=mv',wv:=wv'},pvs,⟨⟨hblk,fun i hi=>⟨qi (h.sc.st i hi).1 hb (hrow (h.sc.st i hi).1 (by decide)),(h.sc.st i hi).2⟩,h.sc.gi,h.sc.sf.but hb (hrow h.sc.sf.own (by decide)) hnU,h.sc.pl,h.sc.far,h.sc.cfg,h.sc.len,hw,hwU⟩,hb.heap h.cls (hty h.cls (by decide)),h.kn,fun i x hx=>?_,fun i hi=>((h.pic i hi).but hb (fun k cs fz hc=>hty hc (by decide))).mono gD,fun q=>((h.fpc q).but hb (fun k cs fz hc=>hty hc (by decide))).mono gD,hm,hap,h.wg,⟨.inl c1,.inl c2,fun i hi=>.inl (c3 i hi),fun x hx=>.inl (c4 x hx),fun x hx=>?_,fun x hx=>?_⟩,fun x hx=>.inl (h.qd x hx),fun x hx e=>?_,fun x hx=>?_⟩,fun x hx=>hx.imp id (fun q=>q.1),rfl,hb.wide fun x _ e=>by rw[e];exact c1⟩
 ·obtain⟨cl,h1,hdk⟩:=h.kl i x hx;refine⟨cl,h1,(hdk.but hb (fun k hk e=>?_) (fun k cs _ hc=>hty hc (by decide)) hnU).mono gD (fun _ e=>e)⟩
  cases x with
  | none=>
   have:cl=⟨false,.slice none 0 0,0,.slice none 0 0⟩:=hdk;rw[this] at hk
   cases hk
  | some kk=>
   obtain⟨mq,hkl⟩:=hdk;exact hrow hkl.wl (by decide) k hk e
 ·rcases hwD x hx with e | e
  ·exact .inl (c5 x e)
  ·exact .inr ⟨e,(World.ownsRow.lt hw x hx).2⟩
 ·rcases hmD x hx with e | e
  ·exact .inl (c6 x e)
  ·exact .inr ⟨e,(World.ownsRow.lt hm x hx).2⟩
 ·rcases hx with q | q
  ·exact h.dU x q e
  ·have:=hUl x e;omega
 ·rcases hx with q | q
  ·have:=h.dl x q;omega
  ·exact q.2
theorem XC {w:World}{base base':Nat}{v:Value}{l:List (Int×Int)}(h:jM w base v l)(hb:base'<=base):jM w base' v l:=
 ⟨h.1,h.2.imp id (fun ⟨g,cap,cur,h1,h2,h3⟩=>⟨g,cap,cur,h1,Nat.le_trans hb h2,h3⟩)⟩
theorem qU.newMarks (h:qU D U qo w rp d v pvs)(hUl:∀ x,U x->x<w.heap.size)(hb:Below w.heap.size w w1){mv':Value}{m':List (Int×Int)}(hO:jM w1 w.heap.size mv' m'):qX D U qo w rp v.cb {d with marks:=m'} (w1.setCell ⟨rp,24,none⟩ mv'):=by
 have h1:=h.below hb;have hs:But (fun x=>x=rp) w1 (w1.setCell ⟨rp,24,none⟩ mv'):=(But.refl (fun x=>x=rp) w1).setCell (p:=⟨rp,24,none⟩) (.inl rfl) _;have hlr:=qh h.sc.blk;refine h.rows hUl ((But.of_below hb).trans hs) (mv':=mv') (wv':=v.wv) (m':=m') (wt':=d.wait) (qp (i:=24) h1.sc.blk _) (qi (XC hO (Nat.zero_le _)) hs (fun x hx e=>?_)) (qi h1.sc.wt hs (fun x hx e=>qq h1.sc.wt h1.sc.blk (by decide) (by rw[<-e];exact hx))) (fun x hx e=>?_) (fun x hx=>.inr (World.ownsRow.lt hO x hx).1) (fun x hx=>.inl hx)
 ·have:=(World.ownsRow.lt hO x hx).1;omega
 ·have a:=(World.ownsRow.lt hO x hx).1;have b:=(World.ownsRow.lt h.sc.wt x e).2;omega
theorem qU.newWait (h:qU D U qo w rp d v pvs)(hUl:∀ x,U x->x<w.heap.size)(hb:Below w.heap.size w w1){wv':Value}{m':List (Int×Int)}(hO:jM w1 w.heap.size wv' m'):qX D U qo w rp v.cb {d with wait:=m'} (w1.setCell ⟨rp,25,none⟩ wv'):=by
 have h1:=h.below hb;have hs:But (fun x=>x=rp) w1 (w1.setCell ⟨rp,25,none⟩ wv'):=(But.refl (fun x=>x=rp) w1).setCell (p:=⟨rp,25,none⟩) (.inl rfl) _;have hlr:=qh h.sc.blk;refine h.rows hUl ((But.of_below hb).trans hs) (mv':=v.mv) (wv':=wv') (m':=d.marks) (wt':=m') (qp (i:=25) h1.sc.blk _) (qi h1.mks hs (fun x hx e=>qq h1.mks h1.sc.blk (by decide) (by rw[<-e];exact hx))) (qi (XC hO (Nat.zero_le _)) hs (fun x hx e=>?_)) (fun x hx e=>?_) (fun x hx=>.inl hx) (fun x hx=>.inr (World.ownsRow.lt hO x hx).1)
 ·have:=(World.ownsRow.lt hO x hx).1;omega
 ·have a:=(World.ownsRow.lt hO x e).1;have b:=(World.ownsRow.lt h.mks x hx).2;omega
theorem qU.gone (h:qU D U qo w rp d v pvs)(hj:j<d.ks.length):qX D U qo w rp v.cb {d with ks:=d.ks.set j none} ((((w.setCell ⟨v.cb,j*4,none⟩ (.bool false)).setCell ⟨v.cb,j*4+1,none⟩ (.slice none 0 0)).setCell ⟨v.cb,j*4+2,none⟩ (.int .i64 0)).setCell ⟨v.cb,j*4+3,none⟩ (.slice none 0 0)):=by
 have hjl:j<v.cl.length:=(by rw[h.kn];exact hj);obtain⟨cl,hcl⟩:∃ cl,v.cl[j]?=some cl:=⟨v.cl[j],by simp⟩;have hB:But (fun k=>k=v.cb) w ((((w.setCell ⟨v.cb,j*4,none⟩ (.bool false)).setCell ⟨v.cb,j*4+1,none⟩ (.slice none 0 0)).setCell ⟨v.cb,j*4+2,none⟩ (.int .i64 0)).setCell ⟨v.cb,j*4+3,none⟩ (.slice none 0 0)):=by
  have hS:∀ (j:Nat)(u:Value){W:World},But (fun k=>k=v.cb) w W->But (fun k=>k=v.cb) w (W.setCell ⟨v.cb,j,none⟩ u):=fun j u W h=>h.setCell (p:=⟨v.cb,j,none⟩) (.inl rfl) u;exact hS _ _ (hS _ _ (hS _ _ (hS _ _ (But.refl _ w))))
 have hp:=qf4 h.cls ⟨false,.slice none 0 0,0,.slice none 0 0⟩ hjl;have hM:=h.cli2 (D':=D) (qo':=qo) (x':=none) (cl':=⟨false,.slice none 0 0,0,.slice none 0 0⟩) hj hcl hB (fun x e=>.inl e) hp rfl (fun t ht e=>by cases e) (fun x hx=>hx) h.dU (fun x hx=>zzm (h.dl x hx) hB.size) (fun x _=>rfl) h.qd;exact⟨D,_,pvs,hM,fun x hx=>.inl hx,rfl,hB.wide fun x _ e=>by rw[e];exact h.cb.2.1⟩
theorem qU.take1 (h:qU D U qo w rp d v pvs)(hUl:∀ x,U x->x<w.heap.size){i:Nat}{s:Srf}(hs:d.l[i]?=some s):∃ g vc po np pc,SfC w rp g d.l.length vc i s po np pc/\
 Calls Tryz.prog 48 #[.pointer (some ⟨rp,0,none⟩),.agg #[.int .i64 s.cl,.int .i64 s.num,.int .i64 s.x,.int .i64 s.y,.int .i64 s.w,.int .i64 s.h,.slice po np pc,.int .i64 s.dx,.int .i64 s.dy,.int .i64 s.left]] w fun e w3=>e=.returned (.tuple #[])/\
  Calls Tryz.prog 49 #[.pointer (some ⟨rp,0,none⟩),.int .i64 (i:Int)] w3 fun e w4=>∃ ro rn rc,e=.returned (.slice ro rn rc)/\(∃ u,w4.cell? ⟨rp,9,none⟩=some u)/\w4.frozen? ⟨rp,9,none⟩=false/\rp<w4.heap.size/\qX D U qo w rp v.cb {zw d s with l:=d.l.eraseIdx i} (w4.setCell ⟨rp,9,none⟩ (.slice ro rn rc)):=by
 obtain⟨g,vc,po,pc,hv,-,-,-,-,hpv,-,hok,-,-⟩:=h.sc.at hs;have hil:=(zzg hs).1;have hl16:=h.sc.len;refine⟨g,vc,po,s.px.length,pc,(h.sc.sfc hs hv hpv).1,(jK h.sc s hok po s.px.length pc).mono ?_⟩;rintro e w3 ⟨rfl,hS3,hb3⟩;have hz3:=hb3.size;refine⟨rfl,(vN (i:=i) hS3 hil).mono ?_⟩;rintro e w4 ⟨v',rfl,hR4,hb4⟩;have hk4:w4.heap[rp]?=some (.cells (dcs (zw d s) v) 121):=(hb4.block rp (qh hS3.blk)).trans hS3.blk;obtain⟨ro,rc,ev⟩:=qr hR4.own;have hle:((zw d s).l.eraseIdx i).length<=16:=by
  show (d.l.eraseIdx i).length<=16;rw[List.length_eraseIdx];split<;>omega
 obtain⟨k1,k2,k3⟩:=hS3.lay (fun k hk=>by have:=hUl k hk;omega) hb4 hR4 (by rw[List.length_eraseIdx,List.length_eraseIdx,h.sc.pl];rfl) hle;have hG:jX U w rp v {zw d s with l:=d.l.eraseIdx i} (w4.setCell ⟨rp,9,none⟩ v'):=by
  refine⟨⟨v',v.wv,_,k1,fun k hk=>.inr (by have:=k3 k hk;omega),fun k e=>.inl e⟩,?_⟩;have hw2:But (DsW rp v) w w3:=hb3.wide fun k _ e=>.inl e;exact hw2.step k2 fun k e=>.inl (.inl (.inl e))
 obtain⟨sv',wv',pvs',hM,hB⟩:=h.go hUl hG ⟨rfl,rfl,rfl,rfl,rfl,rfl,rfl,rfl,rfl,rfl,rfl,rfl⟩;refine⟨ro,_,rc,by rw[ev],⟨_,qe hk4 9⟩,qj hk4 9,qh hk4,?_⟩;rw[<-ev];exact⟨_,_,_,hM,fun x hx=>hx.imp id (fun q=>q.1),rfl,hB⟩
end
section
variable {D U:Nat->Prop}{qo:Nat->Nat}{w w1 w2 w':World}{rp cb j:Nat}{d d' d'':Dc}{v:Dv}{pvs:List Value}{k:Cli}
theorem Zx (h:qU D U qo w rp d v pvs)(n:Int)(hn:jS d.ks n=false) :
 Calls Tryz.prog 19 #[.pointer (some ⟨rp,0,none⟩),.int .i64 n] w fun e w'=>e=.returned (.int .i64 3)/\w'=w:=by
 have hT:=v6 h.docst n;rw[h.con,hn] at hT;have HT:=qg hT;clear hT h hn
 go_enter Tryz.func19,Tryz.ntmps19
 go_wp2_with (go_at_call 47;refine (qb HT).mono ?_;rintro e w1 ⟨rfl,rfl⟩)
 go_ret;exact⟨rfl,rfl⟩
theorem qX.mcell (h:qX D U qo w rp cb d w1):∃ mo mc wo wc,w1.cell? ⟨rp,24,none⟩=some (.slice mo d.marks.length mc)/\w1.cell? ⟨rp,25,none⟩=some (.slice wo d.wait.length wc)/\rp<w1.heap.size/\(∀ t,w1.frozen? ⟨rp,t,none⟩=false):=by
 obtain⟨D1,v1,pvs1,h1,-⟩:=h;obtain⟨mo,mc,e1⟩:=qr h1.mks;obtain⟨wo,wc,e2⟩:=qr h1.sc.wt;refine⟨mo,mc,wo,wc,?_,?_,qh h1.sc.blk,fun t=>qj h1.sc.blk t⟩
 ·rw[<-e1];exact qe h1.sc.blk 24
 ·rw[<-e2];exact qe h1.sc.blk 25
theorem qX.oth1 (h:qX D U qo w rp cb d w1)(hUl:∀ x,U x->x<w.heap.size)(n:Int)(hm:d.marks.length<=1000000000){mo:Option Addr}{mc:Nat}(h24:w1.cell? ⟨rp,24,none⟩=some (.slice mo d.marks.length mc)){u5:Value}(h25:w1.cell? ⟨rp,25,none⟩=some u5) :
 Calls Tryz.prog 50 #[.slice mo d.marks.length mc,.int .i64 n] w1 fun e w2=>∃ ro rn rc,e=.returned (.slice ro rn rc)/\(∃ u,w2.cell? ⟨rp,24,none⟩=some u)/\w2.cell? ⟨rp,25,none⟩=some u5/\w2.frozen? ⟨rp,24,none⟩=false/\rp<w2.heap.size/\qX D U qo w rp cb {d with marks:=zT n d.marks} (w2.setCell ⟨rp,24,none⟩ (.slice ro rn rc)):=by
 have hz:=h.choose_spec.choose_spec.choose_spec.2.2.2.size;have hg:=h;obtain⟨D1,v1,pvs1,h1,h2,h3,h4⟩:=h;have ev:v1.mv=.slice mo d.marks.length mc:=by
  have:=qe h1.sc.blk 24;rw[h24] at this;exact (Option.some.inj this).symm
 rw[<-ev];refine (Jt h1.mks hm n).mono ?_;rintro e w2 ⟨v',rfl,hO,hb⟩;obtain⟨ro,rc,rfl⟩:=qr hO;have hk2:w2.heap[rp]?=_:=(hb.block rp (qh h1.sc.blk)).trans h1.sc.blk;refine⟨ro,_,rc,rfl,⟨_,qe hk2 24⟩,by rw[<-h25];exact hb.cell (qh h1.sc.blk),qj hk2 24,qh hk2,?_⟩;rw[<-ZJ];exact hg.trans fun D3 v3 pvs3 h5 h6=>by rw[<-h6];exact h5.newMarks (fun x hx=>zzm (hUl x hx) hz) hb hO
theorem qX.oth2 (h:qX D U qo w rp cb d w1)(hUl:∀ x,U x->x<w.heap.size)(n:Int)(hm:d.wait.length<=1000000000){mo:Option Addr}{mc:Nat}(h24:w1.cell? ⟨rp,25,none⟩=some (.slice mo d.wait.length mc)) :
 Calls Tryz.prog 50 #[.slice mo d.wait.length mc,.int .i64 n] w1 fun e w2=>∃ ro rn rc,e=.returned (.slice ro rn rc)/\(∃ u,w2.cell? ⟨rp,25,none⟩=some u)/\w2.frozen? ⟨rp,25,none⟩=false/\rp<w2.heap.size/\qX D U qo w rp cb {d with wait:=zT n d.wait} (w2.setCell ⟨rp,25,none⟩ (.slice ro rn rc)):=by
 have hz:=h.choose_spec.choose_spec.choose_spec.2.2.2.size;have hg:=h;obtain⟨D1,v1,pvs1,h1,h2,h3,h4⟩:=h;have ev:v1.wv=.slice mo d.wait.length mc:=by
  have:=qe h1.sc.blk 25;rw[h24] at this;exact (Option.some.inj this).symm
 rw[<-ev];refine (Jt h1.sc.wt hm n).mono ?_;rintro e w2 ⟨v',rfl,hO,hb⟩;obtain⟨ro,rc,rfl⟩:=qr hO;have hk2:w2.heap[rp]?=_:=(hb.block rp (qh h1.sc.blk)).trans h1.sc.blk;refine⟨ro,_,rc,rfl,⟨_,qe hk2 25⟩,qj hk2 25,qh hk2,?_⟩;rw[<-ZJ];exact hg.trans fun D3 v3 pvs3 h5 h6=>by rw[<-h6];exact h5.newWait (fun x hx=>zzm (hUl x hx) hz) hb hO
theorem qX.leave1 {n:Int}{m:Nat}{s:Srf}(h:qX D U qo w rp cb (jV d n m) w1)(hUl:∀ x,U x->x<w.heap.size)(hs:d.l[m]?=some s):∃ g vc po np pc,SfC w1 rp g (jV d n m).l.length vc (vW d.l n m) s po np pc/\
 (¬s.cl=n->qX D U qo w rp cb (jV d n (m+1)) w1)/\
 (s.cl=n->Calls Tryz.prog 48 #[.pointer (some ⟨rp,0,none⟩),.agg #[.int .i64 s.cl,.int .i64 s.num,.int .i64 s.x,.int .i64 s.y,.int .i64 s.w,.int .i64 s.h,.slice po np pc,.int .i64 s.dx,.int .i64 s.dy,.int .i64 s.left]] w1 fun e w3=>e=.returned (.tuple #[])/\
  Calls Tryz.prog 49 #[.pointer (some ⟨rp,0,none⟩),.int .i64 (vW d.l n m:Int)] w3 fun e w4=>∃ ro rn rc,e=.returned (.slice ro rn rc)/\(∃ u,w4.cell? ⟨rp,9,none⟩=some u)/\w4.frozen? ⟨rp,9,none⟩=false/\rp<w4.heap.size/\qX D U qo w rp cb (jV d n (m+1)) (w4.setCell ⟨rp,9,none⟩ (.slice ro rn rc))):=by
 have hz:=h.choose_spec.choose_spec.choose_spec.2.2.2.size;have hg:=h;obtain⟨D1,v1,pvs1,h1,h2,h3,h4⟩:=h;have hUl1:∀ x,U x->x<w1.heap.size:=fun x hx=>zzm (hUl x hx) hz;have hat:(jV d n m).l[vW d.l n m]?=some s:=(lv_at d.l n m).trans hs;obtain⟨g,vc,po,np,pc,hC,hCall⟩:=h1.take1 hUl1 hat;refine⟨g,vc,po,np,pc,hC,fun hne=>by rw[(qs9 hs hne).1];exact hg,fun he=>hCall.mono ?_⟩;rintro e w3 ⟨rfl,hW⟩;refine⟨rfl,hW.mono ?_⟩;rintro e w4 ⟨ro,rn,rc,rfl,k1,k2,k3,k4⟩;refine⟨ro,rn,rc,rfl,k1,k2,k3,?_⟩;rw[(lv_no hs he).1];have hz':=h4;obtain⟨D2,v2,pvs2,j1,j2,j3,j4⟩:=k4;refine⟨D2,v2,pvs2,j1,fun x hx=>?_,j3.trans h3,h4.step j4 h2⟩
 rcases j2 x hx with e | e
 ·exact h2 x e
 ·exact .inr (by omega)
theorem JP (h:qU D U qo w rp d v pvs)(hUl:∀ x,U x->x<w.heap.size)(n:Nat)(hn:jS d.ks n=true)(hm:d.marks.length<=1000000000)(hwt:d.wait.length<=1000000000)(hks:d.ks.length<=1000) :
 Calls Tryz.prog 19 #[.pointer (some ⟨rp,0,none⟩),.int .i64 (n:Int)] w fun e w'=>e=.returned (.int .i64 0)/\qX D U qo w rp v.cb (yj d n) w':=by
 have hT:=v6 h.docst (n:Int);rw[h.con,hn] at hT;have hnl:n<d.ks.length:=by
  rcases Nat.lt_or_ge n d.ks.length with q | q
  ·exact q
  ·unfold jS at hn;rw[Int.toNat_natCast,List.getElem?_eq_none q] at hn;simp at hn
 obtain⟨cb,hcb⟩:∃ cb,cb=v.cb:=⟨_,rfl⟩;obtain⟨nk,hnk⟩:∃ nk,nk=d.ks.length:=⟨_,rfl⟩;obtain⟨L,hL⟩:∃ L,L=d.l.length:=⟨_,rfl⟩;obtain⟨d0,hd0⟩:∃ d0:Dc,d0={d with ks:=d.ks.set n none}:=⟨_,rfl⟩;have hG0:=h.gone hnl;rw[<-hd0,<-hcb] at hG0;have c8:w.cell? ⟨rp,8,none⟩=some (.slice (some ⟨cb,0,none⟩) nk nk):=by
  rw[hnk,hcb,<-h.kn];exact qe h.sc.blk 8
 have lr:rp<w.heap.size:=qh h.sc.blk;have lc:cb<w.heap.size:=(by rw[hcb];exact qh h.cls);have fz:∀ t,w.frozen? ⟨cb,t,none⟩=false:=fun t=>by rw[hcb];exact qj h.cls t
 obtain⟨cl,hcl⟩:∃ cl,v.cl[n]?=some cl:=⟨v.cl[n]'(by rw[h.kn];exact hnl),by simp⟩;obtain⟨x0,x1,x2,x3⟩:=jC v.cl n cl hcl;have a0:w.cell? ⟨cb,n*4,none⟩=some (.bool cl.there):=(by rw[hcb,qe h.cls];simpa using x0);have a1:w.cell? ⟨cb,n*4+1,none⟩=some cl.q:=(by rw[hcb,qe h.cls];simpa using x1);have a2:w.cell? ⟨cb,n*4+2,none⟩=some (.int .i64 cl.cr):=(by rw[hcb,qe h.cls];simpa using x2);have a3:w.cell? ⟨cb,n*4+3,none⟩=some cl.wv:=(by rw[hcb,qe h.cls];simpa using x3);have HE:Hid (yj d n={jV d0 n L with marks:=zT n (jV d0 n L).marks,wait:=zT n (jV d0 n L).wait}):=by
  show yj d n=_;unfold yj;rw[<-hd0,<-hL]
 have hkp:=Zu d0 n L;have HM:Hid ((jV d0 n L).marks.length<=1000000000/\(jV d0 n L).wait.length<=1000000000):=by
  show (xa d0 n L).marks.length<=_/\(xa d0 n L).wait.length<=_;rw[hkp.2.2.2.2.1,hkp.2.2.2.2.2,hd0];exact⟨hm,hwt⟩
 have hdl:d0.l.length=L:=(by rw[hd0,hL]);have HT:=qg hT;have hs0:jV d0 n 0=d0:=by
  unfold jV Qr;rw[List.take_zero,List.drop_zero]
  rfl
 rw[<-hs0] at hG0;have HG0:=qg hG0;have HUl:=qg hUl;have n0:(0:Int)<=(n:Int):=(by omega);have n1:(n:Int)<(nk:Int):=(by omega);have hL16:L<=16:=(by rw[hL];exact h.sc.len);rw[<-hcb];clear hT h hUl hn hm hwt hcb hnk hL hd0 hG0 hs0 hkp hcl x0 x1 x2 x3 hnl;generalize cl.there=b0 at *;generalize cl.q=b1 at *;generalize cl.cr=b2 at *;generalize cl.wv=b3 at *;have f0:=fz (n*4);have f1:=fz (n*4+1);have f2:=fz (n*4+2);have f3:=fz (n*4+3)
 go_enter Tryz.func19,Tryz.ntmps19
 go_wp2_with (go_at_call 47;refine (qb HT).mono ?_;rintro e w1 ⟨rfl,rfl⟩)
 go_loopw [6] (fun x wr=>∃ m:Nat,m<=L/\x=.int .i64 (vW d0.l n m)/\qX D U qo w1 rp cb (jV d0 n m) wr) (fun x wr=>Xe wr rp-(intOf x).toNat)
 case atStart=>exact⟨0,Nat.zero_le _,rfl,qb HG0⟩
 case round=>
  clear HG0 HT c8 lr lc a0 a1 a2 a3 f0 f1 f2 f3 fz;obtain⟨m,hm,rfl,hG⟩:=hrel;obtain⟨s1,⟨ro,rc,c9⟩,lr,hl16⟩:=hG.slen;have hll:(jV d0 n m).l.length=vW d0.l n m+(L-m):=(by rw[<-hdl];exact qt0 d0.l n m);have hHG:=qg hG
  by_cases hlt:m<L
  ·obtain⟨s,hs⟩:∃ s,d0.l[m]?=some s:=⟨d0.l[m]'(by omega),by simp⟩;obtain⟨g,vc,po,np,pc,hC,hN,hY⟩:=hG.leave1 (qb HUl) hs;obtain⟨p,hp⟩:∃ p,p=vW d0.l n m:=⟨_,rfl⟩;obtain⟨q,hq⟩:∃ q,q=(jV d0 n m).l.length:=⟨_,rfl⟩;have hyes:=fun hx:¬s.cl=(n:Int)=>(qs9 hs hx).2;have hno:=fun hx:s.cl=(n:Int)=>(lv_no hs hx).2;rw[<-hp,<-hq] at hC;rw[<-hp] at hY hyes hno hll ⊢;rw[<-hq] at hll c9 s1;obtain⟨c9',lr',lg,fzg,frr,a0,a1,a2,a3,a4,a5,a6,a7,a8,a9⟩:=hC;have p0:(0:Int)<=(p:Int):=(by omega);have p1:(p:Int)<(q:Int):=(by omega);have ep:IntKind.i64.wrap ((p:Int)+1)=((p+1:Nat):Int):=(by rw[IntKind.wrap_i64];omega);have HLL:=qg hll;have HS1:=qg s1;clear hp hq hll s1
   by_cases hx:s.cl=(n:Int)
   ·have HY:=qg (hY hx);have hno':=hno hx;have HX:=qg hx;have HNO:=qg hno';rw[hx] at a0;have HHm:Hid (m<L):=hlt;clear hY hN hyes hno hno' hG hs hx c9 hlt
    go_wp2_with (first
      | (go_at_call 48;refine ((qb HX) ▸ qb HY).mono ?_;rintro e w3 ⟨rfl,hWo⟩
         have HWo:=qg hWo
         clear hWo c9' a0 a1 a2 a3 a4 a5 a6 a7 a8 a9 HY)
      | (go_at_call 49;refine (qb HWo).mono ?_;rintro e w4 ⟨ro',rn,rc',rfl,⟨u,d9⟩,f9,l4,hG4⟩
         have HG4:=qg hG4
         clear hG4))
    go_roundw
    case rel=>exact⟨m+1,qb HHm,by rw[qb HNO],qb HG4⟩
    case measure=>
     have e1:=(qb HG4).slen.1;have e2:(jV d0 n (m+1)).l.length=vW d0.l n (m+1)+(L-(m+1)):=(by rw[<-hdl];exact qt0 d0.l n (m+1));rw[qb HNO] at e2;have:=qb HHm;rw[e1,e2,qb HS1,qb HLL];simp[intOf];omega
   ·have HN:=qg (hN hx);have hyes':=hyes hx;have HYES:=qg hyes';have HHm:Hid (m<L):=hlt;clear hY hN hyes hno hyes' hG hs c9 hlt;go_wp2
    go_roundw
    case rel=>exact⟨m+1,qb HHm,by rw[qb HYES];go_num,qb HN⟩
    case measure=>
     have:=qb HHm;rw[qb HS1,qb HLL];simp[intOf];omega
  ·obtain rfl:m=L:=(by omega);obtain⟨p,hp⟩:∃ p,p=vW d0.l n m:=⟨_,rfl⟩;rw[<-hp,Nat.sub_self,Nat.add_zero] at hll;rw[hll] at c9;rw[<-hp];obtain⟨mo,mc,wo,wc,m24,m25,-,fr⟩:=hG.mcell;have HO1:=qg (hG.oth1 (qb HUl) (n:Int) (qb HM).1 m24 m25);have HO2:Hid (∀ (w2:World)(u:Value),w2.cell? ⟨rp,25,none⟩=some (.slice wo (jV d0 n m).wait.length wc)->qX D U qo w1 rp cb {jV d0 n m with marks:=zT n (jV d0 n m).marks} (w2.setCell ⟨rp,24,none⟩ u)->Calls Tryz.prog 50 #[.slice wo (jV d0 n m).wait.length wc,.int .i64 n] (w2.setCell ⟨rp,24,none⟩ u) fun e w3=>∃ ro rn rc,e=.returned (.slice ro rn rc)/\(∃ u,w3.cell? ⟨rp,25,none⟩=some u)/\w3.frozen? ⟨rp,25,none⟩=false/\rp<w3.heap.size/\qX D U qo w1 rp cb (yj d n) (w3.setCell ⟨rp,25,none⟩ (.slice ro rn rc))):=fun w2 u hc hG2=>by
    have:=hG2.oth2 (qb HUl) (n:Int) (qb HM).2 (mo:=wo) (mc:=wc) ((World.cell?_setCell_other _ _ _ _ (by simp)).trans hc);rw[qb HE];exact this
   obtain⟨ml,hml⟩:∃ ml,ml=(jV d0 n m).marks.length:=⟨_,rfl⟩;rw[<-hml] at HO1 m24;obtain⟨wl,hwl⟩:∃ wl,wl=(jV d0 n m).wait.length:=⟨_,rfl⟩;rw[<-hwl] at HO1 HO2;have fr24:=fr 24;clear hG hHG hml hwl m25 HE HM fr hp hll s1
   go_wp2_with (first
     | (go_at_call 50;refine (qb HO1).mono ?_;rintro e w2 ⟨ro2,rn2,rc2,rfl,⟨u2,e24⟩,e25,g24,l2,hG2⟩
        have HO3:=qg ((qb HO2) _ _ e25 hG2)
        clear HO1 HO2 hG2)
     | (go_at_call 50;refine (qb HO3).mono ?_;rintro e w3 ⟨ro3,rn3,rc3,rfl,⟨u3,e25'⟩,g25,l3,hG3⟩
        have HG3:=qg hG3
        clear HO3 hG3))
   go_ret;exact⟨rfl,qb HG3⟩
end
theorem XO:∀ l:List (Int×Int),jk l=c2 (l.map k2)
 | []=>rfl
 | x::l=>by
  show Qi x++jk l=_;rw[XO l]
  rfl
theorem own2_F {w:World}{base:Nat}{v:Value}{l:List (Int×Int)}(h:qN w base 153 v (l.map k2)):jM w base v l:=by
 unfold jM;rw[XO];have:(l.map k2).length=l.length:=(by simp);unfold qN at h;rw[this] at h;exact h
section
variable {U:Nat->Prop}{wb:Nat}{gr gc go:Value}{C:List Cfg}{O:List (List Opn)}{w w':World}{ss kr ki kf:Value}{sh:List Shf}{er ei ef:List Ent}{col col':Nat->Nat}{i:Nat}{x:Shf}
theorem qW.ul (h:qW U wb gr gc go C O w ss kr ki kf sh er ei ef col):∀ b,U b->b<w.heap.size:=fun b hb=>(h.far b hb).2
theorem qW.pTick (h:qW U wb gr gc go C O w ss kr ki kf sh er ei ef col)(hx:sh[i]?=some x)(hF:xO x.s)(b:Nat)(hb:b<=9223372036854775807) :
 Calls Tryz.prog 51 #[.pointer (some ⟨x.xp,0,none⟩),.int .i64 (b:Int)] w fun e w'=>∃ av fv col',e=.returned (.tuple #[.agg #[.int .i64 (x.s.t+1),.int .i64 (zd x.s.f).2.1,.int .i64 (Je x.s b:Int),av,fv],.int .i64 0])/\qW U wb gr gc go C O w' ss kr ki kf (sh.set i {x with s:=vZ x.s b}) er ei ef col'/\LGo U col col' w w'/\zh w' 0 av (ZC x.s)/\jM w' 0 fv (zd x.s.f).2.2/\(∀ k,av.ownBlock=some k->col' k=0/\¬U k)/\∀ k,fv.ownBlock=some k->col' k=0/\¬U k:=by
 obtain⟨o,kb,sb,fb,cps,hM,ho⟩:=h.pr i x hx;refine (qy4 hM hF b hb).mono ?_;rintro e w' ⟨o',av,fv,rfl,hM',hS,hA,hA0,hF2,hF0⟩;obtain⟨col',k1,k2,k3⟩:=h.prog hx hM ho hS hM';exact⟨av,fv,col',rfl,k1,k2,hA,own2_F hF2,fun k hk=>k3 k (hA0 k hk).1 (hA0 k hk).2,fun k hk=>k3 k (hF0 k hk).1 (hF0 k hk).2⟩
theorem qW.dTick (h:qW U wb gr gc go C O w ss kr ki kf sh er ei ef col)(hx:sh[i]?=some x)(hF:VL x.d)(b:Nat)(hb:b<=9223372036854775807) :
 Calls Tryz.prog 52 #[.pointer (some ⟨x.rp,0,none⟩),.int .i64 (b:Int)] w fun e w'=>∃ av fv col',e=.returned (.tuple #[.agg #[.int .i64 (x.d.t+1),.int .i64 (flN x.d),.int .i64 (ptN (td4 x.d) b),av,fv],.int .i64 0])/\qW U wb gr gc go C O w' ss kr ki kf (sh.set i {x with d:=xS x.d b}) er ei ef col'/\LGo U col col' w w'/\zh w' w.heap.size av (x.d.ks.map (xF x.d.c.quantum))/\jM w' 0 fv (flM x.d):=by
 obtain⟨D,qo,v,pvs,hM,hD⟩:=h.dc i x hx;refine (qq1 hM h.ul hF b hb).mono ?_;rintro e w' ⟨av,fv,D',qo',rfl,⟨v',pvs',hM',-⟩,hD',hB,hA,hF2⟩;obtain⟨col',k1,k2⟩:=h.docm hx hD hB hD' hM';exact⟨av,fv,col',rfl,k1,k2,hA,hF2⟩
theorem qW.pConn (h:qW U wb gr gc go C O w ss kr ki kf sh er ei ef col)(hx:sh[i]?=some x)(hl:x.s.ks.length<=4)(hS:x.s.c.surfaces.toNat<=4) :
 Calls Tryz.prog 15 #[.pointer (some ⟨x.xp,0,none⟩)] w fun e w'=>(∃ (k:Nat)(col':Nat->Nat),qC x.s.ks=some k/\e=.returned (.tuple #[.int .i64 (k:Int),.int .i64 0])/\qW U wb gr gc go C O w' ss kr ki kf (sh.set i {x with s:={x.s with ks:=x.s.ks.set k (some (yS x.s.c))}}) er ei ef col'/\LGo U col col' w w')\/(qC x.s.ks=none/\e=.returned (.tuple #[.int .i64 0,.int .i64 5])/\Below w.heap.size w w'):=by
 obtain⟨o,kb,sb,fb,cps,hM,ho⟩:=h.pr i x hx;refine (Y0 hM hl hS).mono ?_;rintro e w' (⟨k,o',cps',h1,rfl,hM',hS⟩ | ⟨h1,rfl,hb⟩)
 ·obtain⟨col',k1,k2,-⟩:=h.prog hx hM ho hS hM';exact .inl ⟨k,col',h1,rfl,k1,k2⟩
 ·exact .inr ⟨h1,rfl,hb⟩
theorem qW.dConn (h:qW U wb gr gc go C O w ss kr ki kf sh er ei ef col)(hx:sh[i]?=some x)(hl:x.d.ks.length<=4) :
 Calls Tryz.prog 16 #[.pointer (some ⟨x.rp,0,none⟩)] w fun e w'=>(∃ (k:Nat)(col':Nat->Nat),qC x.d.ks=some k/\e=.returned (.tuple #[.int .i64 (k:Int),.int .i64 0])/\qW U wb gr gc go C O w' ss kr ki kf (sh.set i {x with d:={x.d with ks:=x.d.ks.set k (some (yS x.d.c))}}) er ei ef col'/\LGo U col col' w w')\/(qC x.d.ks=none/\e=.returned (.tuple #[.int .i64 0,.int .i64 5])/\w'=w):=by
 obtain⟨D,qo,v,pvs,hM,hD⟩:=h.dc i x hx;refine (YP hM h.ul hl).mono ?_;rintro e w' (⟨k,h1,rfl,D',v',pvs',hM',hD',-,hB⟩ | ⟨h1,rfl,rfl⟩)
 ·obtain⟨col',k1,k2⟩:=h.docm hx hD hB hD' hM';exact .inl ⟨k,col',h1,rfl,k1,k2⟩
 ·exact .inr ⟨h1,rfl,rfl⟩
theorem qW.pDisc (h:qW U wb gr gc go C O w ss kr ki kf sh er ei ef col)(hx:sh[i]?=some x)(hl:x.s.ks.length<=4)(n:Nat)(hn:jS x.s.ks (n:Int)=true)(hF:J5 x.s n) :
 Calls Tryz.prog 18 #[.pointer (some ⟨x.xp,0,none⟩),.int .i64 (n:Int)] w fun e w'=>e=.returned (.int .i64 0)/\∃ col',qW U wb gr gc go C O w' ss kr ki kf (sh.set i {x with s:=yi x.s n}) er ei ef col'/\LGo U col col' w w':=by
 obtain⟨o,kb,sb,fb,cps,hM,ho⟩:=h.pr i x hx;refine (ZW hM hl n hn hF).mono ?_;rintro e w' ⟨o',cps',rfl,hM',hS⟩;obtain⟨col',k1,k2,-⟩:=h.prog hx hM ho hS hM';exact⟨rfl,col',k1,k2⟩
theorem qW.pDiscNo (h:qW U wb gr gc go C O w ss kr ki kf sh er ei ef col)(hx:sh[i]?=some x)(hl:x.s.ks.length<=4)(n:Int)(hn:jS x.s.ks n=false) :
 Calls Tryz.prog 18 #[.pointer (some ⟨x.xp,0,none⟩),.int .i64 n] w fun e w'=>e=.returned (.int .i64 3)/\Below w.heap.size w w':=by
 obtain⟨o,kb,sb,fb,cps,hM,ho⟩:=h.pr i x hx;exact ZX hM hl n hn
theorem qW.dDisc (h:qW U wb gr gc go C O w ss kr ki kf sh er ei ef col)(hx:sh[i]?=some x)(n:Nat)(hn:jS x.d.ks n=true)(hm:x.d.marks.length<=1000000000)(hwt:x.d.wait.length<=1000000000)(hks:x.d.ks.length<=1000) :
 Calls Tryz.prog 19 #[.pointer (some ⟨x.rp,0,none⟩),.int .i64 (n:Int)] w fun e w'=>e=.returned (.int .i64 0)/\∃ col',qW U wb gr gc go C O w' ss kr ki kf (sh.set i {x with d:=yj x.d n}) er ei ef col'/\LGo U col col' w w':=by
 obtain⟨D,qo,v,pvs,hM,hD⟩:=h.dc i x hx;refine (JP hM h.ul n hn hm hwt hks).mono ?_;rintro e w' ⟨rfl,D',v',pvs',hM',hD',-,hB⟩;obtain⟨col',k1,k2⟩:=h.docm hx hD hB hD' hM';exact⟨rfl,col',k1,k2⟩
theorem qW.dDiscNo (h:qW U wb gr gc go C O w ss kr ki kf sh er ei ef col)(hx:sh[i]?=some x)(n:Int)(hn:jS x.d.ks n=false) :
 Calls Tryz.prog 19 #[.pointer (some ⟨x.rp,0,none⟩),.int .i64 n] w fun e w'=>e=.returned (.int .i64 3)/\w'=w:=by
 obtain⟨D,qo,v,pvs,hM,hD⟩:=h.dc i x hx;exact Zx hM n hn
theorem qW.pSubNo (h:qW U wb gr gc go C O w ss kr ki kf sh er ei ef col)(hx:sh[i]?=some x)(hl:x.s.ks.length<=4)(n:Int)(hn:jS x.s.ks n=false)(v:Value) :
 Calls Tryz.prog 25 #[.pointer (some ⟨x.xp,0,none⟩),.int .i64 n,v] w fun e w'=>e=.returned (.int .i64 3)/\Below w.heap.size w w':=by
 obtain⟨o,kb,sb,fb,cps,hM,ho⟩:=h.pr i x hx;exact YX hM hl n hn v
theorem qW.pSub (h:qW U wb gr gc go C O w ss kr ki kf sh er ei ef col)(hx:sh[i]?=some x)(hl:x.s.ks.length<=4){k:Nat}{cl:Cli}(hk:x.s.ks[k]?=some (some cl))(hS:(x.s.c.surfaces.toNat:Int)=x.s.c.surfaces/\1<=x.s.c.surfaces.toNat/\x.s.c.surfaces.toNat<=4)(hq:cl.q.length<=100000)(V:Nat->Prop)(ao:Option Addr)(cap:Nat)(ops:List Opn)(hR:RdO V w (.slice ao ops.length cap) ops)(hV:∀ y,V y->y<w.heap.size)(hlen:ops.length<=1759218604390)(hpx:∀ x∈ops,x.px.length<=17592186043904) :
 Calls Tryz.prog 25 #[.pointer (some ⟨x.xp,0,none⟩),.int .i64 (k:Int),.slice ao ops.length cap] w fun e w'=>e=.returned (.int .i64 (qL x.s.c cl ops))/\(qL x.s.c cl ops=0->∃ col',qW U wb gr gc go C O w' ss kr ki kf (sh.set i {x with s:={x.s with ks:=x.s.ks.set k (some (X5 cl ops))}}) er ei ef col'/\LGo U col col' w w')/\(qL x.s.c cl ops≠0->Below w.heap.size w w'):=by
 obtain⟨o,kb,sb,fb,cps,hM,ho⟩:=h.pr i x hx;refine (YW hM hl hk hS hq V ao cap ops hR hV hlen hpx).mono ?_;rintro e w' ⟨rfl,⟨h0,o',hM',hS'⟩ | ⟨h0,hb⟩⟩
 ·obtain⟨col',k1,k2,-⟩:=h.prog hx hM ho hS' hM';exact⟨rfl,fun _=>⟨col',k1,k2⟩,fun hn=>absurd h0 hn⟩
 ·exact⟨rfl,fun hn=>absurd hn h0,fun _=>hb⟩
theorem qW.dSubNo (h:qW U wb gr gc go C O w ss kr ki kf sh er ei ef col)(hx:sh[i]?=some x)(n:Int)(ao:Option Addr)(len cap:Nat)(hlen:len<=17592186044416)(hbad:(jS x.d.ks n&&inB len 1 20)=false) :
 Calls Tryz.prog 27 #[.pointer (some ⟨x.rp,0,none⟩),.int .i64 n,.slice ao len cap] w fun e w'=>e=.returned (.int .i64 3)/\w'=w:=by
 obtain⟨D,qo,v,pvs,hM,hD⟩:=h.dc i x hx;exact Xm hM.docst n ao len cap hlen (by rw[hM.con];exact hbad)
theorem qW.dSub (h:qW U wb gr gc go C O w ss kr ki kf sh er ei ef col)(hx:sh[i]?=some x){k:Nat}{cl:Cli}(hk:x.d.ks[k]?=some (some cl))(hql:cl.q.length<=100000)(hown:cl.own.length=x.d.c.surfaces.toNat)(ops:List Opn)(ao:Option Addr)(cap:Nat)(hR:RdO U w (.slice ao ops.length cap) ops)(hlen:1<=ops.length/\ops.length<=20)(hpx:∀ o∈ops,o.px.length<=17592186043904) :
 Calls Tryz.prog 27 #[.pointer (some ⟨x.rp,0,none⟩),.int .i64 (k:Int),.slice ao ops.length cap] w fun e w'=>e=.returned (.int .i64 (qL x.d.c cl ops))/\(qL x.d.c cl ops=0->∃ col',qW U wb gr gc go C O w' ss kr ki kf (sh.set i {x with d:={x.d with ks:=x.d.ks.set k (some (Ji cl ops))}}) er ei ef col'/\LGo U col col' w w')/\(qL x.d.c cl ops≠0->Below w.heap.size w w'):=by
 obtain⟨D,qo,v,pvs,hM,hD⟩:=h.dc i x hx;refine (Y9 hM h.ul hk hql hown ops ao cap hR hlen hpx).mono ?_;rintro e w' ⟨rfl,h1,h2⟩;refine⟨rfl,fun h0=>?_,h1⟩;obtain⟨D',qo',v',hM',hD',-,hB⟩:=h2 h0;obtain⟨col',k1,k2⟩:=h.docm hx hD hB hD' hM';exact⟨col',k1,k2⟩
theorem qW.pFront (h:qW U wb gr gc go C O w ss kr ki kf sh er ei ef col)(hx:sh[i]?=some x)(hfr:x.s.f.front<3)(hn:x.s.f.W*x.s.f.H<=1000) :
 Calls Tryz.prog 21 #[.pointer (some ⟨x.xp,0,none⟩)] w (kZ w (x.s.f.b x.s.f.front).px):=by
 obtain⟨o,kb,sb,fb,cps,hM,ho⟩:=h.pr i x hx;exact qc4 hM hfr hn
theorem qW.dShown (h:qW U wb gr gc go C O w ss kr ki kf sh er ei ef col)(hx:sh[i]?=some x)(hfr:x.d.front<3) :
 Calls Tryz.prog 22 #[.pointer (some ⟨x.rp,0,none⟩)] w fun e w'=>(∃ b,e=.returned (.slice (some ⟨b,0,none⟩) (x.d.p x.d.front).length (x.d.p x.d.front).length)/\w.heap[b]?=some (.cells ((x.d.p x.d.front).map (Value.int .i64)).toArray 3 (0,0)))/\Below w.heap.size w w':=by
 obtain⟨D,qo,v,pvs,hM,hD⟩:=h.dc i x hx;exact qh3 hM hfr
end
structure jz (n:Nat)(x:Shf):Prop where
 r:DR x.s x.d
 ok:jg (640*n) x.s
 px:PxI x.s.l x.s.c.behind x.s.f
 t:0<=x.s.t/\x.s.t<=(n:Int)
 fm:0<=x.d.frames/\x.d.frames<=(n:Int)
section
variable {n:Nat}{x:Shf}
theorem jg.mono {D D':Nat}{s:qY}(h:jg D s)(hD:D<=D'):jg D' s:=⟨h.cfg,h.len,h.W,h.H,h.st.mono hD,h.cl,h.no⟩
theorem jz.more (h:jz n x):jz (n+1) x:=⟨h.r,h.ok.mono (by omega),h.px,⟨h.t.1,by have:=h.t.2;omega⟩,⟨h.fm.1,by have:=h.fm.2;omega⟩⟩
theorem jz.fine (h:jz n x)(hn:n<=1100000):xO x.s/\VL x.d:=by
 have ht:=h.t;have hf:=h.fm;exact⟨qg8 h.ok (by omega) ⟨ht.1,by omega⟩,Y7 h.r h.ok (by omega) h.px ⟨ht.1,by omega⟩ ⟨hf.1,by omega⟩⟩
theorem jz.tick (h:jz n x)(hn:n<=1100000)(b:Nat):jz (n+1) {x with s:=vZ x.s b,d:=xS x.d b}:=by
 have ht:=h.t;have hf:=h.fm;have hft:=X3 (d:=x.d) b hf.1;refine⟨(VV h.r h.ok (by omega) h.px b).1,?_,qz7 h.ok (by omega) h.px b,?_,⟨hft.1,by show (xS x.d b).frames<=_;omega⟩⟩
 ·have:=qz8 h.ok (by omega) b;have e:640*n+640=640*(n+1):=(by omega);rw[e] at this;exact this
 ·show 0<=(vZ x.s b).t/\(vZ x.s b).t<=_;have e:(vZ x.s b).t=x.s.t+1:=rfl;rw[e];omega
end
theorem qg1 {will x:List Bool}{o:Opn}(h:qP will o=some x):x.length=will.length:=by
 unfold qP at h
 split at h
 ·rw[<-Option.some.inj h]
 ·split at h
  ·rw[<-Option.some.inj h,List.length_set]
  ·cases h
theorem VT:∀ (l:List Opn)(will x:List Bool),qR will l=some x->x.length=will.length
 | [],will,x,h=>by
  have:some will=some x:=h;rw[Option.some.inj this]
 | o::l,will,x,h=>by
  have h':(qP will o).bind (fun y=>qR y l)=some x:=h
  cases hs:qP will o with
  | none=>rw[hs] at h';cases h'
  | some y=>
   rw[hs] at h';rw[VT l y x h',qg1 hs]
section
variable {n:Nat}{x:Shf}
theorem jz.klen (h:jz n x):x.s.ks.length<=4/\x.d.ks.length<=4/\x.s.c.surfaces.toNat<=4/\1<=x.s.c.surfaces.toNat/\(x.s.c.surfaces.toNat:Int)=x.s.c.surfaces:=by
 have hc:=Qy h.ok.cfg;have h1:=hc.clients;have h2:=hc.surfaces;have h3:=h.ok.len;have h4:x.s.ks.length=x.d.ks.length:=(by have:=congrArg List.length h.r.ks;simpa using this);omega
theorem jz.conn (h:jz n x){k:Nat}(hk:qC x.s.ks=some k):jz n {x with s:={x.s with ks:=x.s.ks.set k (some (yS x.s.c))},d:={x.d with ks:=x.d.ks.set k (some (yS x.d.c))}}:=
 ⟨qw1 h.r k,zd7 h.ok (yC _ _ hk),h.px,h.t,h.fm⟩
theorem ZM (d:Dc)(n:Int):∀ k,(xa d n k).frames=d.frames
 | 0=>rfl
 | k+1=>by
  have ih:=ZM d n k;unfold xa
  split
  ·split
   ·exact ih
   ·exact ih
  ·exact ih
theorem jz.con (h:jz n x)(m:Int):jS x.s.ks m=jS x.d.ks m:=by
 unfold jS;rw[h.r.ks,List.getElem?_map]
 congr 1
 cases x.d.ks[m.toNat]? with
 | none=>rfl
 | some y=>cases y<;>rfl
theorem jz.disc (h:jz n x){k:Nat}(hk:jS x.s.ks (k:Int)=true):jz n {x with s:=yi x.s k,d:=yj x.d k}:=by
 obtain⟨k',cl,e,hcl⟩:=VE hk;have:k=k':=(by omega);subst this;exact⟨qv3 h.r h.ok k,zc9 h.ok hcl,zc8 h.ok h.px k,h.t,by
  have e:(yj x.d k).frames=x.d.frames:=ZM _ _ _;show 0<=(yj x.d k).frames/\(yj x.d k).frames<=_;rw[e];exact h.fm⟩
theorem jz.marks (h:jz n x)(hn:n<=1100000):x.d.marks.length<=1000000000/\x.d.wait.length<=1000000000:=by
 have h1:=h.ok.st.fr.mks;refine⟨?_,by rw[h.r.f.wait];have h2:x.s.f.marks.length<=640*n:=h1;omega⟩
 cases hf:x.s.f.frame with
 | none=>rw[h.r.f.nof hf];simp
 | some g=>
  rw[(h.r.f.frm g hf).2.2.1];have:=(h.ok.st.fr.fm g hf).2.2.2.2;omega
theorem jz.subm (h:jz n x){i:Nat}{k:Cli}(hk:x.d.ks[i]?=some (some k)){ops:List Opn}(h0:qL x.d.c k ops=0):jz n {x with s:={x.s with ks:=x.s.ks.set i (some (X5 (qH k) ops))},d:={x.d with ks:=x.d.ks.set i (some (Ji k ops))}}:=by
 obtain⟨h1,h2⟩:=qc9 h.r hk ops;refine⟨h2,sub_ok h.ok h1 ?_,h.px,h.t,h.fm⟩;rw[h.r.c,JV];exact h0
theorem jz.client (h:jz n x){i:Nat}{k:Cli}(hk:x.d.ks[i]?=some (some k)):x.s.ks[i]?=some (some (qH k))/\k.q.length<=100000/\(qH k).q.length<=100000/\k.own.length=x.d.c.surfaces.toNat/\∀ ops,qL x.s.c (qH k) ops=qL x.d.c k ops:=by
 have h1:=(qc9 h.r hk []).1;have hC:=h.ok.cl i _ h1;have hc:=Qy h.ok.cfg;have a:=hC.ql;have b:=hc.queue;have e:(qH k).q.length=k.q.length:=(by unfold qH;simp);refine⟨h1,by omega,by omega,?_,fun ops=>by rw[h.r.c,JV]⟩;have:=VT _ _ _ hC.own;rw[vQ] at this;rw[<-h.r.c,<-this]
 rfl
theorem newR {c:Cfg}(hc:jU c=true)(xp rp n:Nat):jz n ⟨xp,rp,xZ c,Vj c⟩:=
 ⟨zb0 c,(new_ok hc).mono (Nat.zero_le _),new_px c,⟨Int.le_refl 0,by show (0:Int)<=_;omega⟩,⟨Int.le_refl 0,by show (0:Int)<=_;omega⟩⟩
end
structure LSt (U:Nat->Prop)(wb:Nat)(gr gc go:Value)(C:List Cfg)(O:List (List Opn))(n:Nat)(w:World)(ss kr ki kf:Value)(sh:List Shf)(er ei ef:List Ent)(col:Nat->Nat):Prop where
 mem:qW U wb gr gc go C O w ss kr ki kf sh er ei ef col
 each:∀ x∈sh,jz n x
 len:sh.length<=n/\er.length<=n/\ei.length<=n/\ef.length<=n
def xf (U:Nat->Prop)(wb:Nat)(gr gc go:Value)(C:List Cfg)(O:List (List Opn))(n:Nat)(w:World):Prop:=∃ ss kr ki kf sh er ei ef col,LSt U wb gr gc go C O n w ss kr ki kf sh er ei ef col
section
variable {U:Nat->Prop}{wb:Nat}{gr gc go:Value}{C:List Cfg}{O:List (List Opn)}{n:Nat}{w w':World}{ss kr ki kf ss' kr' ki' kf':Value}{sh:List Shf}{er ei ef:List Ent}{col col':Nat->Nat}{i:Nat}{x x':Shf}
theorem LSt.at (h:LSt U wb gr gc go C O n w ss kr ki kf sh er ei ef col)(hx:sh[i]?=some x):jz n x:=h.each x (zzn hx)
theorem LSt.same (h:LSt U wb gr gc go C O n w ss kr ki kf sh er ei ef col)(hb:Below w.heap.size w w'):xf U wb gr gc go C O (n+1) w':=
 ⟨ss,kr,ki,kf,sh,er,ei,ef,col,h.mem.below hb,fun x hx=>(h.each x hx).more,by have:=h.len;omega⟩
theorem LSt.more (h:LSt U wb gr gc go C O n w ss kr ki kf sh er ei ef col):xf U wb gr gc go C O (n+1) w:=h.same (Below.refl _ _)
theorem LSt.put (h:LSt U wb gr gc go C O n w ss kr ki kf sh er ei ef col)(hx:sh[i]?=some x)(hm:qW U wb gr gc go C O w' ss kr ki kf (sh.set i x') er ei ef col')(hr:jz (n+1) x'):xf U wb gr gc go C O (n+1) w':=by
 refine⟨ss,kr,ki,kf,sh.set i x',er,ei,ef,col',hm,fun y hy=>?_,by have:=h.len;rw[List.length_set];omega⟩
 rcases List.mem_or_eq_of_mem_set hy with q | q
 ·exact (h.each y q).more
 ·rw[q];exact hr
theorem yq {sh:List Shf}{i:Nat}{a b:Shf}:(sh.set i a).set i b=sh.set i b:=List.set_set ..
theorem LGo.toU (h:LGo U col col' w w')(hf:∀ k,U k->col k=0):But (fun b=>¬U b) w w':=h.but.wide (fun b _ hc hu=>hc (hf b hu))
end
def pvN (N k:Nat)(P:Nat->Nat)(i:Nat):Value:=if i<k then .slice (some ⟨P i,0,none⟩) N N else .slice none 0 0
def nwA (c:Cfg)(cb n N k:Nat)(P G:Nat->Nat):Array Value:=#[.int .i64 c.w,.int .i64 c.h,.int .i64 c.clients,.int .i64 c.queue,.int .i64 c.most,.int .i64 c.quantum,.int .i64 c.surfaces,.int .i64 c.behind,.slice (some ⟨cb,0,none⟩) n n,.slice none 0 0,
 pvN N k P 0,pvN N k G 0,.int .i64 0,pvN N k P 1,pvN N k G 1,.int .i64 0,pvN N k P 2,pvN N k G 2,.int .i64 0,.int .i64 0,.bool false,.int .i64 0,.int .i64 0,.slice none 0 0,.slice none 0 0,.slice none 0 0,.int .i64 0,.bool false,.int .i64 0]
def yV (P:Nat->Nat)(k x:Nat):Nat->Nat:=fun i=>if i=k then x else P i
structure NwI (c:Cfg)(w wr:World)(cb n N k:Nat)(P G:Nat->Nat):Prop where
 bel:Below w.heap.size w wr
 blk:wr.heap[cb+1]?=some (.cells (nwA c cb n N k P G) 121)
 cls:wr.heap[cb]?=some (.cells (qG (List.replicate n jp)).toArray 123)
 cfg:wr.heap[w.heap.size]?=some (.cells #[.int .i64 c.w,.int .i64 c.h,.int .i64 c.clients,.int .i64 c.queue,.int .i64 c.most,.int .i64 c.quantum,.int .i64 c.surfaces,.int .i64 c.behind] 49)
 pc:∀ i,i<k->w.heap.size<=P i/\wr.heap[P i]?=some (.cells ((List.replicate N c.behind).map (Value.int .i64)).toArray 3 (0,0))
 st:∀ i,i<k->w.heap.size<=G i/\ze wr 0 (.slice (some ⟨G i,0,none⟩) N N) (List.replicate N false)
 gi:∀ i j,i<j->j<k->G i≠G j
 lcb:w.heap.size<=cb
 ne:w.heap.size≠cb/\w.heap.size≠cb+1
theorem NwI.below {c:Cfg}{w wr w':World}{cb n N k:Nat}{P G:Nat->Nat}(h:NwI c w wr cb n N k P G)(hb:Below wr.heap.size wr w'):NwI c w w' cb n N k P G:=
 ⟨h.bel.trans (hb.mono h.bel.size),(hb.block _ (qh h.blk)).trans h.blk,(hb.block _ (qh h.cls)).trans h.cls,(hb.block _ (qh h.cfg)).trans h.cfg,fun i hi=>⟨(h.pc i hi).1,(hb.block _ (qh (h.pc i hi).2)).trans (h.pc i hi).2⟩,fun i hi=>⟨(h.st i hi).1,zm (h.st i hi).2 hb⟩,h.gi,h.lcb,h.ne⟩
theorem za8 (c:Cfg)(cb n N k pg g:Nat)(P G:Nat->Nat)(hk:k<3):((nwA c cb n N k P G).setIfInBounds (10+3*k) (.slice (some ⟨pg,0,none⟩) N N)).setIfInBounds (11+3*k) (.slice (some ⟨g,0,none⟩) N N)=nwA c cb n N (k+1) (yV P k pg) (yV G k g):=by
 have hkk:k=0\/k=1\/k=2:=by omega
 rcases hkk with rfl | rfl | rfl<;>rfl
theorem NwI.round {c:Cfg}{w wq w3:World}{cb n N k pg:Nat}{P G:Nat->Nat}(h:NwI c w wq cb n N k P G)(hk:k<3)(hb3:Below wq.heap.size wq w3)(hpg:w.heap.size<=pg)(hp:w3.heap[pg]?=some (.cells ((List.replicate N c.behind).map (Value.int .i64)).toArray 3 (0,0)))(hN:N<=256) :
 NwI c w (((w3.setCell ⟨cb+1,10+3*k,none⟩ (.slice (some ⟨pg,0,none⟩) N N)).setCell ⟨cb+1,11+3*k,none⟩ (.slice (some ⟨w3.heap.size,0,none⟩) N N)).alloc (.cells (Array.replicate N (Value.bool false)) 4)).drew cb n N (k+1) (yV P k pg) (yV G k w3.heap.size):=by
 have h3:=h.below hb3;have hs:But (fun x=>x=cb+1) w3 ((w3.setCell ⟨cb+1,10+3*k,none⟩ (.slice (some ⟨pg,0,none⟩) N N)).setCell ⟨cb+1,11+3*k,none⟩ (.slice (some ⟨w3.heap.size,0,none⟩) N N)):=((But.refl (fun x=>x=cb+1) w3).setCell (p:=⟨cb+1,10+3*k,none⟩) (.inl rfl) _).setCell (p:=⟨cb+1,11+3*k,none⟩) (.inl rfl) _;have hk1:=qp (i:=11+3*k) (qp (i:=10+3*k) h3.blk (.slice (some ⟨pg,0,none⟩) N N)) (.slice (some ⟨w3.heap.size,0,none⟩) N N);rw[za8 c cb n N k pg w3.heap.size P G hk] at hk1;have hz:((w3.setCell ⟨cb+1,10+3*k,none⟩ (.slice (some ⟨pg,0,none⟩) N N)).setCell ⟨cb+1,11+3*k,none⟩ (.slice (some ⟨w3.heap.size,0,none⟩) N N)).heap.size=w3.heap.size:=(by simp[World.setCell]);generalize ((w3.setCell ⟨cb+1,10+3*k,none⟩ (.slice (some ⟨pg,0,none⟩) N N)).setCell ⟨cb+1,11+3*k,none⟩ (.slice (some ⟨w3.heap.size,0,none⟩) N N))=W at *;have hA:Below W.heap.size W (W.alloc (.cells (Array.replicate N (Value.bool false)) 4)).drew:=((Below.refl _ W).alloc (zzl _) _).drew;have hty:∀ {x:Nat}{cs:Array Value}{t:TypeId}{fz:Nat×Nat},w3.heap[x]?=some (.cells cs t fz)->t≠121->¬x=cb+1:=fun hx ht e=>by
  rw[e,h3.blk] at hx;simp only[Option.some.injEq,Obj.cells.injEq] at hx;exact ht hx.2.1.symm
 have hbl:=h3.bel.size;have hkeep:∀ {x:Nat}{cs:Array Value}{t:TypeId}{fz:Nat×Nat},w3.heap[x]?=some (.cells cs t fz)->t≠121->(W.alloc (.cells (Array.replicate N (Value.bool false)) 4)).drew.heap[x]?=some (.cells cs t fz):=fun hx ht=>by
  have h1:=hs.heap hx (hty hx ht);exact (hA.block _ (qh h1)).trans h1
 have hlc:=h3.lcb;have hne:=h3.ne;refine⟨?_,(hA.block _ (qh hk1)).trans hk1,hkeep h3.cls (by decide),hkeep h3.cfg (by decide),fun i hi=>?_,fun i hi=>?_,fun i j hi hj=>?_,h3.lcb,h3.ne⟩
 ·exact (h3.bel.trans (hs.below hbl (fun x e=>by omega))).trans (hA.mono (by omega))
 ·by_cases e:i=k
  ·subst e;have eq:yV P i pg i=pg:=(by unfold yV;rw[if_pos rfl]);rw[eq];exact⟨hpg,hkeep hp (by decide)⟩
  ·have eq:yV P k pg i=P i:=(by unfold yV;rw[if_neg e]);rw[eq];exact⟨(h3.pc i (by omega)).1,hkeep (h3.pc i (by omega)).2 (by decide)⟩
 ·by_cases e:i=k
  ·subst e;have eq:yV G i w3.heap.size i=w3.heap.size:=(by unfold yV;rw[if_pos rfl]);rw[eq];refine⟨hbl,?_⟩;have:=kO W N 0 (Nat.zero_le _) (by omega);rw[hz] at this;exact World.ownsRow.drew this
  ·have eq:yV G k w3.heap.size i=G i:=(by unfold yV;rw[if_neg e]);rw[eq];obtain⟨g1,g2⟩:=h3.st i (by omega);refine⟨g1,zm (qi g2 hs (fun x hx e=>?_)) hA⟩;exact qq g2 h3.blk (by decide) (by rw[<-e];exact hx)
 ·have hlt:∀ i,i<k->G i<w3.heap.size:=fun i hi=>(World.ownsRow.lt (h3.st i hi).2 _ rfl).2;unfold yV
  by_cases e:j=k
  ·rw[if_pos e,if_neg (by omega)];have:=hlt i (by omega);omega
  ·rw[if_neg e,if_neg (by omega)];exact h3.gi i j hi (by omega)
theorem NwI.doc {c:Cfg}{w wr:World}{cb n N:Nat}{P G:Nat->Nat}(h:NwI c w wr cb n N 3 P G)(hc:jU c=true)(hn:c.clients=n)(hN:N=c.w.toNat*c.h.toNat)(U:Nat->Prop)(hU:∀ x,U x->x<w.heap.size) :
 ∃ v,qU (fun x=>w.heap.size<=x/\x<wr.heap.size) U (fun _=>0) wr (cb+1) (Vj c) v []:=by
 have hlc:=h.lcb;have hcn:c.clients.toNat=n:=(by omega);have hst:∀ i,i<3->G i<wr.heap.size:=fun i hi=>(World.ownsRow.lt (h.st i hi).2 _ rfl).2;have hNN:(Vj c).N=N:=hN.symm;refine⟨⟨cb,List.replicate n jp,.slice none 0 0,fun i=>.slice (some ⟨P i,0,none⟩) N N,G,.slice none 0 0,.slice none 0 0,.slice none 0 0⟩,⟨⟨?_,fun i hi=>⟨?_,?_⟩,⟨h.gi 0 1 (by omega) (by omega),h.gi 0 2 (by omega) (by omega),h.gi 1 2 (by omega) (by omega)⟩,⟨World.ownsRow_nil _ _ _ _,fun p hp=>absurd hp (List.not_mem_nil),fun p hp=>absurd hp (List.not_mem_nil)⟩,rfl,⟨fun hu=>?_,fun i hi hu=>?_,fun k hk=>(by cases hk)⟩,hc,Nat.zero_le _,World.ownsRow_nil _ _ _ _,fun k hk=>(by cases hk)⟩,h.cls,?_,fun j x hx=>?_,fun i hi=>?_,fun hp=>(by cases hp),World.ownsRow_nil _ _ _ _,fun x hx=>(by cases hx),fun j cl i hj hi=>?_,⟨⟨by omega,qh h.blk⟩,⟨hlc,qh h.cls⟩,fun i hi=>⟨(h.st i hi).1,hst i hi⟩,fun x hx=>(by cases hx),fun x hx=>(by cases hx),fun x hx=>(by cases hx)⟩,fun x hx=>absurd rfl hx,fun x hx hu=>?_,fun x hx=>hx.2⟩⟩
 ·have e:dcs (Vj c) ⟨cb,List.replicate n jp,.slice none 0 0,fun i=>.slice (some ⟨P i,0,none⟩) N N,G,.slice none 0 0,.slice none 0 0,.slice none 0 0⟩=nwA c cb n N 3 P G:=by
   unfold dcs nwA;rw[hNN,List.length_replicate]
   rfl
  rw[e];exact h.blk
 ·rw[hNN];show ze wr 0 _ (List.replicate (c.w.toNat*c.h.toNat) false);rw[<-hN];exact (h.st i hi).2
 ·show (List.replicate (c.w.toNat*c.h.toNat) false).length=c.w.toNat*c.h.toNat;simp
 ·have:=hU (cb+1) hu;omega
 ·have:=hU (G i) hu;have:=(h.st i hi).1;omega
 ·show (List.replicate n jp).length=(List.replicate c.clients.toNat none).length;rw[List.length_replicate,List.length_replicate,hcn]
 ·have hx':(List.replicate c.clients.toNat (none:Option Cli))[j]?=some x:=hx;rw[List.getElem?_replicate] at hx'
  split at hx'
  ·rename_i hj;have:=Option.some.inj hx';subst this;refine⟨jp,?_,rfl⟩;show (List.replicate n jp)[j]?=_;rw[List.getElem?_replicate,if_pos (by omega)]
  ·cases hx'
 ·refine⟨P i,?_,⟨(h.pc i hi).1,qh (h.pc i hi).2⟩,?_⟩
  ·show Value.slice (some ⟨P i,0,none⟩) N N=.slice (some ⟨P i,0,none⟩) (List.replicate (c.w.toNat*c.h.toNat) c.behind).length (List.replicate (c.w.toNat*c.h.toNat) c.behind).length;rw[List.length_replicate,hN]
  ·show wr.heap[P i]?=some (.cells ((List.replicate (c.w.toNat*c.h.toNat) c.behind).map (Value.int .i64)).toArray 3 (0,0));rw[<-hN];exact (h.pc i hi).2
 ·have hj':(List.replicate n jp)[j]?=some cl:=hj;rw[List.getElem?_replicate] at hj'
  split at hj'
  ·have:=Option.some.inj hj';subst this;intro e
   cases e
  ·cases hj'
 ·have:=hU x hu;omega
theorem zb1 (c:Cfg)(w:World)(hc:jU c=true)(U:Nat->Prop)(hU:∀ x,U x->x<w.heap.size) :
 Calls Tryz.prog 41 #[vF c] w fun e w'=>∃ rp v,e=.returned (.tuple #[.pointer (some ⟨rp,0,none⟩),.int .i64 0])/\qU (fun x=>w.heap.size<=x/\x<w'.heap.size) U (fun _=>0) w' rp (Vj c) v []/\Below w.heap.size w w':=by
 have hbd:=Qy hc;have hbw:=hbd.w;have hbh:=hbd.h;have hbc:=hbd.clients;obtain⟨W,hW⟩:∃ W:Nat,c.w=W:=⟨c.w.toNat,by omega⟩;obtain⟨H,hH⟩:∃ H:Nat,c.h=H:=⟨c.h.toNat,by omega⟩;obtain⟨n,hn⟩:∃ n:Nat,c.clients=n:=⟨c.clients.toNat,by omega⟩;have HI:=qg (yA c);rw[hc] at HI;have HC:=qg hc;obtain⟨a,b,d,e,f,g,h,i⟩:=c;simp only at hW hH hn hbw hbh hbc;subst hW hH hn;unfold vF at HI ⊢;simp only at HI ⊢;have hmk:=QR n (by omega);have HU:=qg hU;clear hc hbd hU
 go_enter Tryz.func41,Tryz.ntmps41
 go_wp2_with fail
 refine ((qb HI) _).mono ?_;rintro x w1 ⟨rfl,hb1⟩;have hB1:Below w.heap.size w w1:=((Below.refl _ w).alloc (zzl _) _).trans (hb1.mono (by simp));have hX1:w1.heap[w.heap.size]?=some (.cells #[.int .i64 W,.int .i64 H,.int .i64 n,.int .i64 e,.int .i64 f,.int .i64 g,.int .i64 h,.int .i64 i] 49):=(hb1.block _ (by simp)).trans (qt _ _ _ rfl);have x0:w1.cell? ⟨w.heap.size,0,none⟩=some (.int .i64 (W:Int)):=qe hX1 0;have x1:w1.cell? ⟨w.heap.size,1,none⟩=some (.int .i64 (H:Int)):=qe hX1 1;have x2:w1.cell? ⟨w.heap.size,2,none⟩=some (.int .i64 (n:Int)):=qe hX1 2;have x3:w1.cell? ⟨w.heap.size,3,none⟩=some (.int .i64 e):=qe hX1 3;have x4:w1.cell? ⟨w.heap.size,4,none⟩=some (.int .i64 f):=qe hX1 4;have x5:w1.cell? ⟨w.heap.size,5,none⟩=some (.int .i64 g):=qe hX1 5;have x6:w1.cell? ⟨w.heap.size,6,none⟩=some (.int .i64 h):=qe hX1 6;have x7:w1.cell? ⟨w.heap.size,7,none⟩=some (.int .i64 i):=qe hX1 7;have lx:w.heap.size<w1.heap.size:=qh hX1;have lx':w.heap.size≠w1.heap.size:=(by omega);have HB1:=qg hB1;have HX1:=qg hX1;clear hb1 hB1 hX1 HI;go_wp2;go_region;have hWH:W*H<=256:=by
  have:=Nat.mul_le_mul (show W<=16 by omega) (show H<=16 by omega);omega
 obtain⟨N,hN⟩:∃ N,N=W*H:=⟨_,rfl⟩;have hmul:IntKind.i64.wrap ((W:Int)*(H:Int))=(N:Int):=by
  rw[hN,IntKind.wrap_i64];have:((W:Int)*(H:Int))=((W*H:Nat):Int):=(by simp);rw[this];omega
 have hN9:N<=256:=(by omega);have HN:=qg hN;have hmb:=xB N (by omega);have HNw:Hid (NwI ⟨W,H,n,e,f,g,h,i⟩ w (((w1.alloc (.cells (qG (List.replicate n jp)).toArray 123)).alloc (.cells #[Value.int .i64 W,.int .i64 H,.int .i64 n,.int .i64 e,.int .i64 f,.int .i64 g,.int .i64 h,.int .i64 i,.slice (some ⟨w1.heap.size,0,none⟩) n n,.slice none 0 0,.slice none 0 0,.slice none 0 0,.int .i64 0,.slice none 0 0,.slice none 0 0,.int .i64 0,.slice none 0 0,.slice none 0 0,.int .i64 0,.int .i64 0,.bool false,.int .i64 0,.int .i64 0,.slice none 0 0,.slice none 0 0,.slice none 0 0,.int .i64 0,.bool false,.int .i64 0] 121)).drew) w1.heap.size n N 0 (fun _=>0) (fun _=>0)):=
  ⟨(((qb HB1).alloc (by omega) _).alloc (by simp;omega) _).drew,qt _ _ _ (by simp),qx (qt _ _ _ rfl) _,qx (qx (qb HX1) _) _,fun i hi=>absurd hi (Nat.not_lt_zero i),fun i hi=>absurd hi (Nat.not_lt_zero i),fun i j _ hj=>absurd hj (Nat.not_lt_zero j),by omega,⟨lx',by omega⟩⟩
 clear x0 x1 x2 x3 x4 x5 x6 x7 HB1 HX1 hmk hN hWH;generalize ((w1.alloc (.cells (qG (List.replicate n jp)).toArray 123)).alloc (.cells #[Value.int .i64 W,.int .i64 H,.int .i64 n,.int .i64 e,.int .i64 f,.int .i64 g,.int .i64 h,.int .i64 i,.slice (some ⟨w1.heap.size,0,none⟩) n n,.slice none 0 0,.slice none 0 0,.slice none 0 0,.int .i64 0,.slice none 0 0,.slice none 0 0,.int .i64 0,.slice none 0 0,.slice none 0 0,.int .i64 0,.int .i64 0,.bool false,.int .i64 0,.int .i64 0,.slice none 0 0,.slice none 0 0,.slice none 0 0,.int .i64 0,.bool false,.int .i64 0] 121)).drew=w2 at *;generalize w1.heap.size=cb at *;go_wp2
 go_loopw [6] (fun ii wr=>∃ k:Nat,k<=3/\ii=.int .i64 k/\∃ P G,NwI ⟨W,H,n,e,f,g,h,i⟩ w wr cb n N k P G) (fun ii _=>3-(intOf ii).toNat)
 case atStart=>exact⟨0,by omega,rfl,_,_,qb HNw⟩
 case round=>
  rename World=>wq;clear HNw;obtain⟨k,hk,rfl,P,G,hI⟩:=hrel;have hI':=hI.below ((Below.refl _ wq).drew);have hpic:Calls Tryz.prog 74 #[.pointer (some ⟨cb+1,0,none⟩)] wq.drew fun e' w3=>e'=.returned (.slice (some ⟨wq.heap.size,0,none⟩) N N)/\Below wq.heap.size wq w3/\w3.heap[wq.heap.size]?=some (.cells ((List.replicate N i).map (Value.int .i64)).toArray 3 (0,0)):=by
   have hS:xv U wq.drew 0 (.slice none 0 0) []:=⟨World.ownsRow_nil _ _ _ _,fun p hp=>absurd hp (List.not_mem_nil),fun p hp=>absurd hp (List.not_mem_nil)⟩;have:=ZG (sp:=cb+1) hS W H i (qe hI'.blk 0) (qe hI'.blk 1) (qe hI'.blk 7) (qe hI'.blk 9) (by simp) ⟨by omega,by omega⟩ ⟨by omega,by omega⟩;rw[<-qb HN] at this;refine this.mono ?_;rintro e' w3 ⟨rfl,hP⟩;refine⟨rfl,((Below.refl _ wq).drew).trans hP.bel,?_⟩;have e2:(List.range N).map (Ks [] i W)=List.replicate N i:=by
    apply List.ext_getElem?;intro q;rw[List.getElem?_map,List.getElem?_replicate]
    by_cases hq:q<N
    ·rw[if_pos hq,List.getElem?_range hq]
     rfl
    ·rw[if_neg hq,List.getElem?_eq_none (by simpa using hq)]
     rfl
   have:=hP.blk;rw[e2] at this;exact this
  have hsz:=hI.bel.size;have HP:=qg hpic;have HI:=qg hI;clear hpic hI hI'
  by_cases hlt:k<3
  ·have hkk:k=0\/k=1\/k=2:=by omega
   rcases hkk with rfl | rfl | rfl
   ·go_wp2_with fail
    go_region_held3 (fun _=>True) (trivial)
     ((go_at_call 74
       refine (qb HP).mono ?_
       rintro x w3 ⟨rfl,hb3,hp3⟩
       have hI3:=(qb HI).below hb3
       obtain⟨u,fu⟩:∃ u,w3.cell? ⟨cb+1,10,none⟩=some u:=⟨_,qe hI3.blk 10⟩
       have fz:∀ t,w3.frozen? ⟨cb+1,t,none⟩=false:=qj hI3.blk
       have HB3:=qg hb3
       have HP3:=qg hp3
       clear hb3 hp3 hI3 HP))
    have hI3:=(qb HI).below (qb HB3);have hk4:=qp (i:=10) hI3.blk (.slice (some ⟨wq.heap.size,0,none⟩) N N);have hX4:=qu hI3.cfg (p:=⟨cb+1,10,none⟩) (hI3.ne.2) (.slice (some ⟨wq.heap.size,0,none⟩) N N);have HF:=qg ((qb HI).round (by omega) (qb HB3) (by omega) (qb HP3) hN9);have ez:w3.heap.size=(w3.setCell ⟨cb+1,10,none⟩ (.slice (some ⟨wq.heap.size,0,none⟩) N N)).heap.size:=(by simp[World.setCell]);rw[ez] at HF;clear HB3 HP3 HI fu fz hI3 ez;simp only[Nat.mul_zero,Nat.add_zero,Nat.reduceMul,Nat.reduceAdd] at HF;generalize w3.setCell ⟨cb+1,10,none⟩ (.slice (some ⟨wq.heap.size,0,none⟩) N N)=w4 at *;obtain⟨u4,fu⟩:∃ u,w4.cell? ⟨cb+1,11,none⟩=some u:=⟨_,qe hk4 11⟩;have fz:∀ t,w4.frozen? ⟨cb+1,t,none⟩=false:=qj hk4;have x0:w4.cell? ⟨w.heap.size,0,none⟩=some (.int .i64 (W:Int)):=qe hX4 0;have x1:w4.cell? ⟨w.heap.size,1,none⟩=some (.int .i64 (H:Int)):=qe hX4 1;have l4:cb+1<w4.heap.size:=qh hk4;have l5:w.heap.size<w4.heap.size:=qh hX4;clear hk4 hX4;go_wp2;go_region;go_wp2
    go_roundw
    case rel=>exact⟨0+1,by omega,by go_num,_,_,qb HF⟩
    case measure=>simp[intOf]
   ·go_wp2_with fail
    go_region_held3 (fun _=>True) (trivial)
     ((go_at_call 74
       refine (qb HP).mono ?_
       rintro x w3 ⟨rfl,hb3,hp3⟩
       have hI3:=(qb HI).below hb3
       obtain⟨u,fu⟩:∃ u,w3.cell? ⟨cb+1,13,none⟩=some u:=⟨_,qe hI3.blk 13⟩
       have fz:∀ t,w3.frozen? ⟨cb+1,t,none⟩=false:=qj hI3.blk
       have HB3:=qg hb3
       have HP3:=qg hp3
       clear hb3 hp3 hI3 HP))
    have hI3:=(qb HI).below (qb HB3);have hk4:=qp (i:=13) hI3.blk (.slice (some ⟨wq.heap.size,0,none⟩) N N);have hX4:=qu hI3.cfg (p:=⟨cb+1,13,none⟩) (hI3.ne.2) (.slice (some ⟨wq.heap.size,0,none⟩) N N);have HF:=qg ((qb HI).round (by omega) (qb HB3) (by omega) (qb HP3) hN9);have ez:w3.heap.size=(w3.setCell ⟨cb+1,13,none⟩ (.slice (some ⟨wq.heap.size,0,none⟩) N N)).heap.size:=(by simp[World.setCell]);rw[ez] at HF;clear HB3 HP3 HI fu fz hI3 ez;simp only[Nat.mul_zero,Nat.add_zero,Nat.reduceMul,Nat.reduceAdd] at HF;generalize w3.setCell ⟨cb+1,13,none⟩ (.slice (some ⟨wq.heap.size,0,none⟩) N N)=w4 at *;obtain⟨u4,fu⟩:∃ u,w4.cell? ⟨cb+1,14,none⟩=some u:=⟨_,qe hk4 14⟩;have fz:∀ t,w4.frozen? ⟨cb+1,t,none⟩=false:=qj hk4;have x0:w4.cell? ⟨w.heap.size,0,none⟩=some (.int .i64 (W:Int)):=qe hX4 0;have x1:w4.cell? ⟨w.heap.size,1,none⟩=some (.int .i64 (H:Int)):=qe hX4 1;have l4:cb+1<w4.heap.size:=qh hk4;have l5:w.heap.size<w4.heap.size:=qh hX4;clear hk4 hX4;go_wp2;go_region;go_wp2
    go_roundw
    case rel=>exact⟨1+1,by omega,by go_num,_,_,qb HF⟩
    case measure=>simp[intOf]
   ·go_wp2_with fail
    go_region_held3 (fun _=>True) (trivial)
     ((go_at_call 74
       refine (qb HP).mono ?_
       rintro x w3 ⟨rfl,hb3,hp3⟩
       have hI3:=(qb HI).below hb3
       obtain⟨u,fu⟩:∃ u,w3.cell? ⟨cb+1,16,none⟩=some u:=⟨_,qe hI3.blk 16⟩
       have fz:∀ t,w3.frozen? ⟨cb+1,t,none⟩=false:=qj hI3.blk
       have HB3:=qg hb3
       have HP3:=qg hp3
       clear hb3 hp3 hI3 HP))
    have hI3:=(qb HI).below (qb HB3);have hk4:=qp (i:=16) hI3.blk (.slice (some ⟨wq.heap.size,0,none⟩) N N);have hX4:=qu hI3.cfg (p:=⟨cb+1,16,none⟩) (hI3.ne.2) (.slice (some ⟨wq.heap.size,0,none⟩) N N);have HF:=qg ((qb HI).round (by omega) (qb HB3) (by omega) (qb HP3) hN9);have ez:w3.heap.size=(w3.setCell ⟨cb+1,16,none⟩ (.slice (some ⟨wq.heap.size,0,none⟩) N N)).heap.size:=(by simp[World.setCell]);rw[ez] at HF;clear HB3 HP3 HI fu fz hI3 ez;simp only[Nat.mul_zero,Nat.add_zero,Nat.reduceMul,Nat.reduceAdd] at HF;generalize w3.setCell ⟨cb+1,16,none⟩ (.slice (some ⟨wq.heap.size,0,none⟩) N N)=w4 at *;obtain⟨u4,fu⟩:∃ u,w4.cell? ⟨cb+1,17,none⟩=some u:=⟨_,qe hk4 17⟩;have fz:∀ t,w4.frozen? ⟨cb+1,t,none⟩=false:=qj hk4;have x0:w4.cell? ⟨w.heap.size,0,none⟩=some (.int .i64 (W:Int)):=qe hX4 0;have x1:w4.cell? ⟨w.heap.size,1,none⟩=some (.int .i64 (H:Int)):=qe hX4 1;have l4:cb+1<w4.heap.size:=qh hk4;have l5:w.heap.size<w4.heap.size:=qh hX4;clear hk4 hX4;go_wp2;go_region;go_wp2
    go_roundw
    case rel=>exact⟨2+1,by omega,by go_num,_,_,qb HF⟩
    case measure=>simp[intOf]
  ·have i1:¬(k:Int)<3:=(by omega);obtain rfl:k=3:=(by omega);go_wp2
   go_ret2
   obtain⟨v,hD⟩:=(qb HI).doc (qb HC) rfl (qb HN) U (qb HU)
   first | exact⟨cb+1,v,rfl,hD,(qb HI).bel⟩ | exact⟨cb+1,rfl,v,hD,(qb HI).bel⟩ | exact⟨cb+1,rfl,⟨v,hD⟩,(qb HI).bel⟩
end Go.Proofs.YtfnockbgkcgpkaaGreat
