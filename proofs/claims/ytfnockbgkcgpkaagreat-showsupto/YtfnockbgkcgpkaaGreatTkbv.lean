import Derived.Test.YtfnockbgkcgpkaaGreatTkai
import Derived.Test.YtfnockbgkcgpkaaGreatTkbl
import Derived.Test.YtfnockbgkcgpkaaGreatTkbu
import Derived.Deep.AppendLies
import Derived.BigQuiet
import Derived.Deep.CutBlock
import Derived.Deep.CutRange
set_option linter.all false
set_option maxRecDepth 100000
set_option maxHeartbeats 16000000
namespace Go.Proofs.YtfnockbgkcgpkaaGreat
open Go.RowKit Go.Proofs.Panes
section
variable {D D' U S:Nat->Prop}{qo qo':Nat->Nat}{w w1 w2 w':World}{rp cb j:Nat}{d d' d'':Dc}{v:Dv}{pvs:List Value}{k:Cli}
theorem qU.frame (h:qU D U qo w rp d v pvs)(hb:But S w w')(hS:∀ x,S x->¬D x/\¬U x):qU D U qo w' rp d v pvs:=by
 obtain⟨c1,c2,c3,c4,c5,c6⟩:=h.cb;have hD:∀ x,D x->¬S x:=fun x hx e=>(hS x e).1 hx;have hU:∀ x,U x->¬S x:=fun x hx e=>(hS x e).2 hx;have hP:∀ {u:Value}{l:List Int},vS D w u l->vS D w' u l:=fun ⟨b,h1,h2,h3⟩=>⟨b,h1,h2,hb.heap h3 (hD b h2)⟩;refine⟨⟨hb.heap h.sc.blk (hD _ c1),fun i hi=>⟨qi (h.sc.st i hi).1 hb (fun x hx=>?_),(h.sc.st i hi).2⟩,h.sc.gi,h.sc.sf.but hb (fun x hx=>hD x (c4 x hx)) hU,h.sc.pl,h.sc.far,h.sc.cfg,h.sc.len,qi h.sc.wt hb (fun x hx=>hD x (c5 x hx)),h.sc.wU⟩,hb.heap h.cls (hD _ c2),h.kn,fun i x hx=>?_,fun i hi=>hP (h.pic i hi),fun hp=>hP (h.fpc hp),qi h.mks hb (fun x hx=>hD x (c6 x hx)),h.mw,h.wg,h.cb,h.qd,h.dU,fun x hx=>zzm (h.dl x hx) hb.size⟩
 ·have:some (v.g i)=some x:=hx;rw[<-Option.some.inj this];exact hD _ (c3 i hi)
 ·obtain⟨cl,h1,hdk⟩:=h.kl i x hx;refine⟨cl,h1,hdk.but hb (fun y hy=>?_) (fun y cs hq _=>?_) hU⟩
  ·cases x with
   | none=>
    have:cl=⟨false,.slice none 0 0,0,.slice none 0 0⟩:=hdk;rw[this] at hy
    cases hy
   | some kk=>
    obtain⟨mq,hkl⟩:=hdk;exact hD y (hkl.cw y hy)
  ·have hq':qo y=i+1:=hq;exact hD y (h.qd y (by omega))
theorem qU.scr (h:qU D U qo w rp d v pvs)(hb:But (fun x=>x=rp) w w'){d':Dc}{v':Dv}(hblk:w'.heap[rp]?=some (.cells (dcs d' v') 121))(ec:d'.c=d.c)(ek:d'.ks=d.ks)(el:d'.l=d.l)(es:d'.st=d.st)(ew:d'.wait=d.wait)(vc:v'.cb=v.cb)(vl:v'.cl=v.cl)(vs:v'.sv=v.sv)(vg:v'.g=v.g)(vw:v'.wv=v.wv)
 (hp:∀ i,i<3->vS D w (v'.pp i) (d'.p i)) (hf:d'.pnt=true->vS D w v'.fpv d'.fp) (hm:(v'.mv=v.mv/\d'.marks=d.marks)\/(v'.mv=.slice none 0 0/\d'.marks=[])):qU D U qo w' rp d' v' pvs:=by
 obtain⟨cb',cl',sv',pp',g',fpv',mv',wv'⟩:=v';obtain⟨dc,dks,dl,dp,dst,dfn,dfront,dpnt,dtgt,dleft,dfp,dmarks,dwait,dframes,dch,dt⟩:=d';simp only at ec ek el es ew vc vl vs vg vw hp hf hm;subst ec ek el es ew vc vl vs vg vw;obtain⟨c1,c2,c3,c4,c5,c6⟩:=h.cb;have hty:∀ {k:Nat}{cs:Array Value}{t:TypeId}{fz:Nat×Nat},w.heap[k]?=some (.cells cs t fz)->t≠121->¬k=rp:=fun hk ht e=>by
  rw[e,h.sc.blk] at hk;simp only[Option.some.injEq,Obj.cells.injEq] at hk;exact ht hk.2.1.symm
 have hrow:∀ {e:TypeId}{size:Nat}{u:Value}{n:Nat}{xs:List Value}{base:Nat},w.ownsRow base e size u n xs->121≠e->∀ k,u.ownBlock=some k->¬k=rp:=fun hr ht k hk e=>qq hr h.sc.blk ht (by rw[<-e];exact hk);have hnU:∀ k,U k->¬k=rp:=fun k hu e=>h.dU k (by rw[e];exact c1) hu;have hsz:=hb.size;refine⟨⟨hblk,fun i hi=>⟨qi (h.sc.st i hi).1 hb (hrow (h.sc.st i hi).1 (by decide)),(h.sc.st i hi).2⟩,h.sc.gi,h.sc.sf.but hb (hrow h.sc.sf.own (by decide)) hnU,h.sc.pl,h.sc.far,h.sc.cfg,h.sc.len,qi h.sc.wt hb (hrow h.sc.wt (by decide)),h.sc.wU⟩,hb.heap h.cls (hty h.cls (by decide)),h.kn,fun i x hx=>?_,fun i hi=>(hp i hi).but hb (fun k cs fz hc=>hty hc (by decide)),fun q=>(hf q).but hb (fun k cs fz hc=>hty hc (by decide)),?_,?_,h.wg,⟨c1,c2,c3,c4,c5,?_⟩,h.qd,h.dU,fun x hx=>zzm (h.dl x hx) hb.size⟩
 ·obtain⟨cl,h1,hdk⟩:=h.kl i x hx;refine⟨cl,h1,hdk.but hb (fun k hk e=>?_) (fun k cs _ hc=>hty hc (by decide)) hnU⟩
  cases x with
  | none=>
   have:cl=⟨false,.slice none 0 0,0,.slice none 0 0⟩:=hdk;rw[this] at hk
   cases hk
  | some kk=>
   obtain⟨mq,hkl⟩:=hdk;exact hrow hkl.wl (by decide) k hk e
 ·rcases hm with ⟨rfl,rfl⟩ | ⟨rfl,rfl⟩
  ·exact qi h.mks hb (hrow h.mks (by decide))
  ·exact⟨rfl,.inl ⟨rfl,rfl⟩⟩
 ·rcases hm with ⟨rfl,rfl⟩ | ⟨rfl,rfl⟩
  ·exact h.mw
  ·intro x hx;cases hx
 ·rcases hm with ⟨rfl,rfl⟩ | ⟨rfl,rfl⟩
  ·exact c6
  ·intro x hx;cases hx
theorem qU.out (h:qU D U qo w rp d v pvs){fb:Nat}{cs:Array Value}{fz:Nat×Nat}(hf:w.heap[fb]?=some (.cells cs 153 fz))(h1:v.mv.ownBlock≠some fb)(h2:v.wv.ownBlock≠some fb):qU (fun x=>D x/\x≠fb) U (fun x=>if x=fb then 0 else qo x) w rp d v pvs:=by
 obtain⟨c1,c2,c3,c4,c5,c6⟩:=h.cb;have hty:∀ {k:Nat}{cs:Array Value}{t:TypeId}{fz:Nat×Nat},w.heap[k]?=some (.cells cs t fz)->t≠153->k≠fb:=fun hk ht e=>by
  rw[e,hf] at hk;simp only[Option.some.injEq,Obj.cells.injEq] at hk;exact ht hk.2.1.symm
 have hrow:∀ {e:TypeId}{size:Nat}{u:Value}{n:Nat}{xs:List Value}{base:Nat},w.ownsRow base e size u n xs->153≠e->∀ k,u.ownBlock=some k->k≠fb:=fun hr ht k hk e=>qq hr hf ht (by rw[<-e];exact hk);have hP:∀ {u:Value}{l:List Int},vS D w u l->vS (fun x=>D x/\x≠fb) w u l:=fun ⟨b,h1,h2,h3⟩=>⟨b,h1,⟨h2,hty h3 (by decide)⟩,h3⟩;refine⟨h.sc,h.cls,h.kn,fun i x hx=>?_,fun i hi=>hP (h.pic i hi),fun hp=>hP (h.fpc hp),h.mks,h.mw,h.wg,⟨⟨c1,hty h.sc.blk (by decide)⟩,⟨c2,hty h.cls (by decide)⟩,fun i hi=>⟨c3 i hi,hrow (h.sc.st i hi).1 (by decide) _ rfl⟩,fun x hx=>⟨c4 x hx,hrow h.sc.sf.own (by decide) x hx⟩,fun x hx=>⟨c5 x hx,fun e=>h2 (by rw[<-e];exact hx)⟩,fun x hx=>⟨c6 x hx,fun e=>h1 (by rw[<-e];exact hx)⟩⟩,fun x hx=>?_,fun x hx=>h.dU x hx.1,fun x hx=>h.dl x hx.1⟩
 ·obtain⟨cl,g1,hdk⟩:=h.kl i x hx;refine⟨cl,g1,?_⟩
  cases x with
  | none=>exact hdk
  | some kk=>
   obtain⟨mq,hkl⟩:=hdk;refine⟨mq,hkl.th,hkl.cr,hkl.wl,fun x hx=>⟨hkl.cw x hx,hrow hkl.wl (by decide) x hx⟩,hkl.q,hkl.rd,?_⟩
   rcases hkl.row with e | ⟨g,off,cap,cs',e1,e2,e3,e4⟩
   ·exact .inl e
   ·have e2':qo g=i+1:=e2;refine .inr ⟨g,off,cap,cs',e1,?_,e3,e4⟩;show (if g=fb then 0 else qo g)=i+1;rw[if_neg (hty e3 (by decide))];exact e2'
 ·by_cases e:x=fb
  ·rw[if_pos e] at hx;exact absurd rfl hx
  ·rw[if_neg e] at hx;exact⟨h.qd x hx,e⟩
end
structure DtI (D U:Nat->Prop)(w:World)(rp cb rb ob:Nat)(D1:Nat->Prop)(qo:Nat->Nat)(d:Dc)(rep:Array Value)(av fv:Value)(cn:List Int)(fm:List (Int×Int))(wr:World):Prop where
 doc:∃ v1 pvs1,qU D1 U qo wr rp d v1 pvs1/\v1.cb=cb
 sub:∀ x,D1 x->D x\/w.heap.size<=x
 but:But D w wr
 rep:wr.heap[rb]?=some (.cells rep 133 (0,0))
 out:wr.heap[ob]?=some (.cells #[.int .i64 0,.int .i64 0,.int .i64 0,.slice none 0 0,.slice none 0 0] 133 (0,0))
 z:¬D1 rb/\¬D1 ob/\¬rb=ob
 ge:w.heap.size<=rb/\w.heap.size<=ob
 adm:zh wr w.heap.size av cn
 az:∀ b,av.ownBlock=some b->¬D1 b
 fir:jM wr 0 fv fm
 fz:∀ b,fv.ownBlock=some b->¬D1 b
theorem pushN9 {w:World}{base:Nat}{v:Value}{l:List Int}(hO:zh w base v l)(hb:base<=w.heap.size)(hl:l.length<=1000000)(n:Int)(t:Nat)(ht:w.cell? ⟨t,0,none⟩=some (.int .i64 n)) :
 ∃ g cap w',(Builtin.append_ #[50,50] 50 #[v,.slice (some ⟨t,0,none⟩) 1 1]).run Tryz.prog w=.ok (.slice (some ⟨g,0,none⟩) (l.length+1) cap) w'/\zh w' base (.slice (some ⟨g,0,none⟩) (l.length+1) cap) (l++[n])/\But (fun k=>v.ownBlock=some k) w w'/\(v.ownBlock=some g\/g=w.heap.size):=by
 obtain⟨i0,hi,hz0,hz1,hz2⟩:=info_parts yg;obtain⟨g,cap,w',hrun,hO2,hgr,hat,hlt⟩:=run_append_lies (P:=Tryz.prog) w 50 50 base 3 i0 _ 1 8 Tryz.underlying50 hi hz0 hz1 hz2 rfl (by omega) v l.length _ hO ⟨t,0,none⟩ 1 1 [Value.int .i64 n] rfl (fun j u hj=>by
  have:(⟨t,0,none⟩:Addr).add j=⟨t,j,none⟩:=(by unfold Addr.add;split<;>simp_all);rw[this]
  cases j with
  | zero=>simp at hj;rw[ht];exact congrArg some hj
  | succ j=>simp at hj) (by
  intro u hu;simp only[List.mem_cons,List.mem_nil_iff,or_false] at hu;subst hu;rfl) (by omega) (by unfold maxLen;omega) (by omega) hb w.heap.size rfl
 refine⟨g,cap,w',hrun,?_,But.of_grown hgr (fun k e=>e),hat⟩;unfold zh;rw[List.map_append,List.length_append];exact hO2
section
variable {D U D1:Nat->Prop}{qo:Nat->Nat}{w wr w2:World}{rp cb rb ob:Nat}{d d':Dc}{rep:Array Value}{av fv:Value}{cn:List Int}{fm:List (Int×Int)}
theorem DtI.step (h:DtI D U w rp cb rb ob D1 qo d rep av fv cn fm wr)(hk:∀ v1 pvs1,qU D1 U qo wr rp d v1 pvs1->v1.cb=cb->qX D1 U qo wr rp cb d' w2):∃ D2,DtI D U w rp cb rb ob D2 qo d' rep av fv cn fm w2:=by
 obtain⟨v1,pvs1,hM,hcb⟩:=h.doc;obtain⟨D2,v2,pvs2,k1,k2,k3,k4⟩:=hk v1 pvs1 hM hcb;have hz:=h.but.size;have hn:∀ x,x<wr.heap.size->¬D1 x->¬D2 x:=fun x hx hd e=>by
  rcases k2 x e with q | q
  ·exact hd q
  ·omega
 obtain⟨z1,z2,z3⟩:=h.z;refine⟨D2,⟨v2,pvs2,k1,k3⟩,fun x hx=>?_,h.but.step k4 h.sub,k4.heap h.rep z1,k4.heap h.out z2,⟨hn rb (qh h.rep) z1,hn ob (qh h.out) z2,z3⟩,h.ge,qi h.adm k4 h.az,fun b hb=>hn b (World.ownsRow.lt h.adm b hb).2 (h.az b hb),qi h.fir k4 h.fz,fun b hb=>hn b (World.ownsRow.lt h.fir b hb).2 (h.fz b hb)⟩
 rcases k2 x hx with q | q
 ·exact h.sub x q
 ·exact .inr (by omega)
theorem DtI.below (h:DtI D U w rp cb rb ob D1 qo d rep av fv cn fm wr)(hb:Below wr.heap.size wr w2):DtI D U w rp cb rb ob D1 qo d rep av fv cn fm w2:=by
 obtain⟨v1,pvs1,hM,hcb⟩:=h.doc;have hbt:But (fun _=>False) wr w2:=.of_below hb;exact⟨⟨v1,pvs1,hM.below hb,hcb⟩,h.sub,h.but.then hb,hbt.heap h.rep (fun e=>e),hbt.heap h.out (fun e=>e),h.z,h.ge,qi h.adm hbt (fun _ _ e=>e),h.az,qi h.fir hbt (fun _ _ e=>e),h.fz⟩
theorem DtI.neR {k:Nat}{cs:Array Value}{t:TypeId}{fz:Nat×Nat}(h:DtI D U w rp cb rb ob D1 qo d rep av fv cn fm wr)(hk:wr.heap[k]?=some (.cells cs t fz))(ht:t≠133):¬k=rb/\¬k=ob:=by
 refine⟨fun e=>?_,fun e=>?_⟩
 ·rw[e,h.rep] at hk;simp only[Option.some.injEq,Obj.cells.injEq] at hk;exact ht hk.2.1.symm
 ·rw[e,h.out] at hk;simp only[Option.some.injEq,Obj.cells.injEq] at hk;exact ht hk.2.1.symm
theorem DtI.set (h:DtI D U w rp cb rb ob D1 qo d rep av fv cn fm wr)(hUl:∀ x,U x->x<w.heap.size)(i:Nat)(u:Value):DtI D U w rp cb rb ob D1 qo d (rep.setIfInBounds i u) av fv cn fm (wr.setCell ⟨rb,i,none⟩ u):=by
 obtain⟨v1,pvs1,hM,hcb⟩:=h.doc;have hs:But (fun x=>x=rb) wr (wr.setCell ⟨rb,i,none⟩ u):=(But.refl (fun x=>x=rb) wr).setCell (p:=⟨rb,i,none⟩) (.inl rfl) _;obtain⟨z1,z2,z3⟩:=h.z;refine⟨⟨v1,pvs1,hM.frame hs (fun x e=>⟨by rw[e];exact z1,fun hu=>?_⟩),hcb⟩,h.sub,h.but.step hs (fun x e=>.inr (by rw[e];exact h.ge.1)),qp (i:=i) h.rep u,hs.heap h.out (fun e=>z3 e.symm),h.z,h.ge,qi h.adm hs (fun b hb=>?_),h.az,qi h.fir hs (fun b hb=>?_),h.fz⟩
 ·have:=hUl x hu;have:=h.ge.1;omega
 ·obtain⟨cs,fz,hg⟩:=qE h.adm hb;exact (h.neR hg (by decide)).1
 ·obtain⟨cs,fz,hg⟩:=qE h.fir hb;exact (h.neR hg (by decide)).1
theorem DtI.push (h:DtI D U w rp cb rb ob D1 qo d rep av fv cn fm wr)(hUl:∀ x,U x->x<w.heap.size)(hl:cn.length<=1000)(n:Int) :
 ∃ g cap w',(Builtin.append_ #[50,50] 50 #[av,.slice (some ⟨wr.heap.size,0,none⟩) 1 1]).run Tryz.prog (wr.alloc (.cells #[.int .i64 n] 3))=.ok (.slice (some ⟨g,0,none⟩) (cn.length+1) cap) w'/\(∀ i,w'.cell? ⟨rb,i,none⟩=rep[i]?)/\(∀ i,w'.frozen? ⟨rb,i,none⟩=false)/\rb<w'.heap.size/\
  DtI D U w rp cb rb ob D1 qo d (rep.setIfInBounds 3 (.slice (some ⟨g,0,none⟩) (cn.length+1) cap)) (.slice (some ⟨g,0,none⟩) (cn.length+1) cap) fv (cn++[n]) fm (w'.setCell ⟨rb,3,none⟩ (.slice (some ⟨g,0,none⟩) (cn.length+1) cap)):=by
 obtain⟨W,hW⟩:∃ W,W=wr.alloc (.cells #[.int .i64 n] 3):=⟨_,rfl⟩;have hbW:Below wr.heap.size wr W:=(by rw[hW];exact (Below.refl _ wr).alloc (zzl _) _);have hI:=h.below hbW;have hz:w.heap.size<=W.heap.size:=hI.but.size;have ht:W.cell? ⟨wr.heap.size,0,none⟩=some (.int .i64 n):=(by rw[hW];exact qe (qt wr _ _ rfl) 0);obtain⟨g,cap,w',h1,h2,h3,h4⟩:=pushN9 hI.adm hz (by omega) n wr.heap.size ht;rw[<-hW];obtain⟨v1,pvs1,hM,hcb⟩:=hI.doc;obtain⟨z1,z2,z3⟩:=h.z;have hSr:∀ x,(av.ownBlock=some x)->¬D1 x/\¬U x:=fun x hx=>⟨h.az x hx,fun hu=>by
  have:=hUl x hu;have:=(World.ownsRow.lt h.adm x hx).1;omega⟩
 have hrb:¬av.ownBlock=some rb:=qq hI.adm hI.rep (by decide);have hob:¬av.ownBlock=some ob:=qq hI.adm hI.out (by decide);have hng:¬D1 g:=by
  rcases h4 with e | e
  ·exact h.az g e
  ·intro hd;have:=hM.dl g hd;omega
 have hfir:=qi hI.fir h3 (fun b hb e=>qS hI.fir hI.adm (by decide) hb e);have hI2:DtI D U w rp cb rb ob D1 qo d rep (.slice (some ⟨g,0,none⟩) (cn.length+1) cap) fv (cn++[n]) fm w':=
  ⟨⟨v1,pvs1,hM.frame h3 hSr,hcb⟩,hI.sub,hI.but.step h3 (fun x e=>.inr (World.ownsRow.lt h.adm x e).1),h3.heap hI.rep hrb,h3.heap hI.out hob,h.z,h.ge,h2,fun b hb=>by
   have:some g=some b:=hb;rw[<-Option.some.inj this];exact hng,hfir,h.fz⟩
 exact⟨g,cap,w',h1,fun i=>qe hI2.rep i,fun i=>qj hI2.rep i,qh hI2.rep,hI2.set hUl 3 _⟩
end
structure AdOk (d:Dc)(j:Nat)(k:Cli):Prop where
 cr:0<=k.cr/\k.cr<=1000000
 qn:0<=d.c.quantum/\d.c.quantum<=1000000
 ql:k.q.length<=1000
 sm:∀ t∈k.q,(∀ o∈t,Qk o)/\t.length<=1000/\0<=qA t/\qA t<=1000000
 dn:∀ (m:Nat)(t:List Opn),k.q[m]?=some t->(∀ (i:Nat)(x:List Opn),i<=m->k.q[i]?=some x->qA x<=crK (k.cr+d.c.quantum) k.q i)->∀ (i:Nat)(o:Opn),t[i]?=some o->DnOk (yR (yP d j (k.q.take m)) j (t.take i)) j o
theorem ZE (d:Dc)(k:Nat):xW d (jq d k):=by
 unfold jq
 split
 ·exact .refl d
 ·rename_i x _
  split
  ·have r:xW d {d with l:=d.l.set k {x with left:=x.left-1}}:=⟨rfl,rfl,rfl,rfl,rfl,rfl,rfl,rfl,rfl,rfl,rfl,rfl⟩;exact r.trans (ZL _ _ _ _)
  ·exact .refl d
theorem KO (d:Dc)(i:Nat)(x y:Int):(zu d i x y).l.length=d.l.length:=by
 unfold zu
 split
 ·rfl
 ·split
  ·rfl
  ·exact List.length_set
theorem Kh (d:Dc)(k:Nat):(jq d k).l.length=d.l.length:=by
 unfold jq
 split
 ·rfl
 ·split
  ·rw[KO];exact List.length_set
  ·rfl
theorem yY (d:Dc):∀ k,(zj d k).l.length=d.l.length
 | 0=>rfl
 | k+1=>(Kh _ _).trans (yY d k)
theorem xX (d:Dc):∀ k,xW d (zj d k)
 | 0=>.refl d
 | k+1=>(xX d k).trans (ZE _ k)
theorem qn0 (d:Dc)(j:Nat):(xR d j).c=d.c/\(xR d j).ks.length=d.ks.length/\(xR d j).front=d.front/\(xR d j).frames=d.frames/\(xR d j).pnt=d.pnt/\(xR d j).tgt=d.tgt/\(xR d j).left=d.left:=by
 unfold xR
 split
 ·have h:=Za j (qB ‹_› d.c.quantum).1 d;exact⟨h.c,List.length_set,h.front,h.frames,h.pnt,h.tgt,h.left⟩
 ·exact⟨rfl,rfl,rfl,rfl,rfl,rfl,rfl⟩
theorem yJ (d:Dc):∀ j,(zD d j).c=d.c/\(zD d j).ks.length=d.ks.length/\(zD d j).front=d.front/\(zD d j).frames=d.frames/\(zD d j).pnt=d.pnt/\(zD d j).tgt=d.tgt/\(zD d j).left=d.left
 | 0=>⟨rfl,rfl,rfl,rfl,rfl,rfl,rfl⟩
 | j+1=>by
  obtain⟨a1,a2,a3,a4,a5,a6,a7⟩:=yJ d j;obtain⟨b1,b2,b3,b4,b5,b6,b7⟩:=qn0 (zD d j) j;exact⟨b1.trans a1,b2.trans a2,b3.trans a3,b4.trans a4,b5.trans a5,b6.trans a6,b7.trans a7⟩
section
variable {D U D1:Nat->Prop}{qo:Nat->Nat}{w wr w2:World}{rp cb rb ob:Nat}{d d':Dc}{rep:Array Value}{av fv:Value}{cn:List Int}{fm:List (Int×Int)}{v:Dv}{pvs:List Value}
theorem Kg (h:qU D U qo w rp d v pvs)(hUl:∀ x,U x->x<w.heap.size){k:Nat}{s:Srf}(hs:d.l[k]?=some s){g vc:Nat}{po:Option Addr}{pc:Nat}(hv:v.sv=.slice (some ⟨g,0,none⟩) d.l.length vc)(hp:pvs[k]?=some (.slice po s.px.length pc))(hl:0<s.left)(hx:SrB (s.x+s.dx))(hy:SrB (s.y+s.dy))(hok:xq s){W:World}(hb:Below w.heap.size w W) :
 Calls Tryz.prog 91 #[.pointer (some ⟨rp,0,none⟩),.int .i64 (k:Int),.int .i64 (s.x+s.dx),.int .i64 (s.y+s.dy)] (W.setCell ⟨g,k*10+9,none⟩ (.int .i64 (s.left-1))).drew fun e w'=>e=.returned (.tuple #[])/\qX D U qo w rp v.cb (jq d k) w':=by
 have hk2:k<d.l.length:=(zzg hs).1;have h1:=(h.sc.below hb).put (t:=9) (s':={s with left:=s.left-1}) (u:=.int .i64 (s.left-1)) hs hp hv (by omega) rfl ⟨hok.w0,hok.w8,hok.h0,hok.h8,hok.px,hok.xb,hok.yb⟩ rfl;have h2:=h1.below ((Below.refl _ _).drew);have hob:v.sv.ownBlock=some g:=(by rw[hv];rfl);have hbW:But (DsV rp v) w (W.setCell ⟨g,k*10+9,none⟩ (.int .i64 (s.left-1))).drew:=((But.of_below (S:=DsV rp v) hb).setCell (p:=⟨g,k*10+9,none⟩) (.inl (.inr hob)) _).drew;have hat:(d.l.set k {s with left:=s.left-1})[k]?=some {s with left:=s.left-1}:=List.getElem?_set_self hk2;have e3:jq d k=zu {d with l:=d.l.set k {s with left:=s.left-1}} k (s.x+s.dx) (s.y+s.dy):=(by unfold jq;rw[hs];simp only;rw[if_pos hl]);refine (XF (d:={d with l:=d.l.set k {s with left:=s.left-1}}) h2 (i:=k) hat (s.x+s.dx) (s.y+s.dy) hx hy).mono ?_;rintro e w' ⟨rfl,g1,g2⟩;refine⟨rfl,?_⟩;rw[<-e3] at g1;have hbw:But (DsV rp v) w w':=hbW.trans g2;obtain⟨sv',wv',pvs',hM,hB⟩:=h.go hUl (jX.of g1 hbw) (ZE d k);exact⟨_,_,_,hM,fun x hx=>hx.imp id (fun q=>q.1),rfl,hB⟩
theorem DtI.slide (h:DtI D U w rp cb rb ob D1 qo d rep av fv cn fm wr)(hUl:∀ x,U x->x<w.heap.size){k:Nat}{s:Srf}(hs:d.l[k]?=some s) :
 ∃ g vc po pc,wr.cell? ⟨rp,9,none⟩=some (.slice (some ⟨g,0,none⟩) d.l.length vc)/\rp<wr.heap.size/\g<wr.heap.size/\(∀ t,wr.frozen? ⟨g,t,none⟩=false)/\(∀ t,t<10->wr.cell? ⟨g,k*10+t,none⟩=(zA (s,.slice po s.px.length pc))[t]?)/\SrB s.x/\SrB s.y/\
  (0<s.left->SrB (s.x+s.dx)->SrB (s.y+s.dy)->∀ W,Below wr.heap.size wr W->Calls Tryz.prog 91 #[.pointer (some ⟨rp,0,none⟩),.int .i64 (k:Int),.int .i64 (s.x+s.dx),.int .i64 (s.y+s.dy)] (W.setCell ⟨g,k*10+9,none⟩ (.int .i64 (s.left-1))).drew fun e w'=>e=.returned (.tuple #[])/\∃ D2,DtI D U w rp cb rb ob D2 qo (jq d k) rep av fv cn fm w'):=by
 obtain⟨v1,pvs1,hM,hcb⟩:=h.doc;obtain⟨g,vc,po,pc,hv,hgl,hgr,hgn,hgU,hpv,hR,hok,hz,hc⟩:=hM.sc.at hs;have hUl1:∀ x,U x->x<wr.heap.size:=fun x hx=>zzm (hUl x hx) h.but.size;refine⟨g,vc,po,pc,by rw[hM.sc.c9,hv],qh hM.sc.blk,hgl,hz,hc,hok.xb,hok.yb,fun hl hx hy W hb=>?_⟩;refine (Kg hM hUl1 hs hv hpv hl hx hy hok hb).mono ?_;rintro e w' ⟨rfl,hG⟩;rw[hcb] at hG;obtain⟨D2,v2,pvs2,k1,k2,k3,k4⟩:=hG;exact⟨rfl,(DtI.step (d':=jq d k) (w2:=w') ⟨⟨v1,pvs1,hM,hcb⟩,h.sub,h.but,h.rep,h.out,h.z,h.ge,h.adm,h.az,h.fir,h.fz⟩ fun v3 pvs3 hM3 hcb3=>⟨D2,v2,pvs2,k1,k2,k3,k4⟩)⟩
theorem DtI.cells (h:DtI D U w rp cb rb ob D1 qo d rep av fv cn fm wr):(∃ ro rc,wr.cell? ⟨rp,9,none⟩=some (.slice ro d.l.length rc))/\(∃ ro rc,wr.cell? ⟨rp,8,none⟩=some (.slice ro d.ks.length rc))/\wr.cell? ⟨rp,20,none⟩=some (.bool d.pnt)/\wr.cell? ⟨rp,22,none⟩=some (.int .i64 d.left)/\wr.cell? ⟨rp,27,none⟩=some (.bool d.ch)/\(∀ t,wr.frozen? ⟨rp,t,none⟩=false)/\rp<wr.heap.size/\d.l.length<=16:=by
 obtain⟨v1,pvs1,hM,hcb⟩:=h.doc;obtain⟨ro,rc,hsv⟩:=qr hM.sc.sf.own;rw[yn hM.sc] at hsv;refine⟨⟨ro,rc,by rw[hM.sc.c9,hsv]⟩,⟨_,v1.cl.length,by rw[qe hM.sc.blk 8,<-hM.kn];rfl⟩,qe hM.sc.blk 20,qe hM.sc.blk 22,qe hM.sc.blk 27,fun t=>qj hM.sc.blk t,qh hM.sc.blk,hM.sc.len⟩
theorem DtI.admj (h:DtI D U w rp cb rb ob D1 qo d rep av fv cn fm wr)(hUl:∀ x,U x->x<w.heap.size){j:Nat}{x:Option Cli}(hj:d.ks[j]?=some x)(hn4:d.ks.length<=1000)(hA:∀ k,x=some k->AdOk d j k) :
 Calls Tryz.prog 92 #[.pointer (some ⟨rp,0,none⟩),.int .i64 (j:Int)] wr fun e w'=>e=.returned (.int .i64 (xF d.c.quantum x))/\∃ D2,DtI D U w rp cb rb ob D2 qo (xR d j) rep av fv cn fm w':=by
 obtain⟨v1,pvs1,hM,hcb⟩:=h.doc;have hUl1:∀ x,U x->x<wr.heap.size:=fun x hx=>zzm (hUl x hx) h.but.size
 cases x with
 | none=>
  refine (YV hM hj hn4).mono ?_;rintro e w' ⟨rfl,hG⟩;have e2:xR d j=d:=(by unfold xR;rw[hj]);rw[hcb] at hG;rw[e2];exact⟨rfl,h.step fun _ _ _ _=>hG⟩
 | some k=>
  have hk:=hA k rfl;refine (qb7 hM hUl1 hj hn4 hk.cr hk.qn hk.ql hk.sm hk.dn).mono ?_;rintro e w' ⟨rfl,hG⟩;rw[hcb] at hG;exact⟨rfl,h.step fun _ _ _ _=>hG⟩
theorem DtI.begins (h:DtI D U w rp cb rb ob D1 qo d rep av fv cn fm wr)(hUl:∀ x,U x->x<w.heap.size)(hf:d.front<3)(hfm:0<=d.frames/\d.frames<=1000000000000000) :
 Calls Tryz.prog 93 #[.pointer (some ⟨rp,0,none⟩)] wr fun e w'=>(∃ u,e=.returned u)/\∃ D2,DtI D U w rp cb rb ob D2 qo (bgD d) rep av fv cn fm w':=by
 obtain⟨v1,pvs1,hM,hcb⟩:=h.doc;have hUl1:∀ x,U x->x<wr.heap.size:=fun x hx=>zzm (hUl x hx) h.but.size;refine (qb6 hM hUl1 hf hfm).mono ?_;rintro e w' ⟨hu,hG⟩;rw[hcb] at hG;exact⟨hu,h.step fun _ _ _ _=>hG⟩
theorem DtI.left (h:DtI D U w rp cb rb ob D1 qo d rep av fv cn fm wr)(z:Int):∃ D2,DtI D U w rp cb rb ob D2 qo {d with left:=z} rep av fv cn fm (wr.setCell ⟨rp,22,none⟩ (.int .i64 z)):=by
 refine h.step fun v1 pvs1 hM hcb=>?_;have hb:But (fun x=>x=rp) wr (wr.setCell ⟨rp,22,none⟩ (.int .i64 z)):=(But.refl (fun x=>x=rp) wr).setCell (p:=⟨rp,22,none⟩) (.inl rfl) _;exact⟨D1,v1,pvs1,hM.scr hb (d':={d with left:=z}) (v':=v1) (qp (i:=22) hM.sc.blk _) rfl rfl rfl rfl rfl rfl rfl rfl rfl rfl hM.pic hM.fpc (.inl ⟨rfl,rfl⟩),fun x hx=>.inl hx,hcb,hb.wide fun x _ e=>by rw[e];exact hM.cb.1⟩
abbrev zrep:Obj:=.cells #[.int .i64 0,.int .i64 0,.int .i64 0,.slice none 0 0,.slice none 0 0] 133
theorem DtI.begin (h:qU D U qo w rp d v pvs)(hUl:∀ x,U x->x<w.heap.size)(t:Int) :
 qU D U qo (((w.setCell ⟨rp,28,none⟩ (.int .i64 t)).alloc zrep).alloc (.cells #[.int .i64 t,.int .i64 0,.int .i64 0,.slice none 0 0,.slice none 0 0] 133)) rp {d with t:=t} v pvs/\
 DtI D U w rp v.cb (w.heap.size+1) w.heap.size D qo {d with t:=t} #[.int .i64 t,.int .i64 0,.int .i64 0,.slice none 0 0,.slice none 0 0] (.slice none 0 0) (.slice none 0 0) [] [] (((w.setCell ⟨rp,28,none⟩ (.int .i64 t)).alloc zrep).alloc (.cells #[.int .i64 t,.int .i64 0,.int .i64 0,.slice none 0 0,.slice none 0 0] 133)):=by
 have hlr:=qh h.sc.blk;have hb1:But (fun x=>x=rp) w (w.setCell ⟨rp,28,none⟩ (.int .i64 t)):=(But.refl (fun x=>x=rp) w).setCell (p:=⟨rp,28,none⟩) (.inl rfl) _;have h1:=h.scr hb1 (d':={d with t:=t}) (v':=v) (qp (i:=28) h.sc.blk _) rfl rfl rfl rfl rfl rfl rfl rfl rfl rfl h.pic h.fpc (.inl ⟨rfl,rfl⟩);obtain⟨W0,hW0⟩:∃ W0,W0=w.setCell ⟨rp,28,none⟩ (.int .i64 t):=⟨_,rfl⟩;have hz0:W0.heap.size=w.heap.size:=(by rw[hW0];simp);rw[<-hW0] at hb1 h1 ⊢;obtain⟨W1,hW1⟩:∃ W1,W1=W0.alloc zrep:=⟨_,rfl⟩;have hb0:Below W0.heap.size W0 W1:=(by rw[hW1];exact (Below.refl _ W0).alloc (zzl _) _);have hk1:W1.heap[w.heap.size]?=some zrep:=(by rw[hW1];exact qt W0 _ _ hz0.symm);have hz1:W1.heap.size=w.heap.size+1:=(by rw[hW1];simp[hz0]);have h1':=h1.below hb0;rw[<-hW1];have hb2:Below W1.heap.size W1 (W1.alloc (.cells #[.int .i64 t,.int .i64 0,.int .i64 0,.slice none 0 0,.slice none 0 0] 133)):=(Below.refl _ W1).alloc (zzl _) _;have h2:=h1'.below hb2;refine⟨h2,⟨v,pvs,h2,rfl⟩,fun x hx=>.inl hx,(((But.refl D w).step hb1 (fun x e=>.inl (by rw[e];exact h.cb.1))).then hb0).then hb2,qt W1 _ _ hz1.symm,(hb2.block _ (qh hk1)).trans hk1,⟨fun e=>?_,fun e=>?_,by omega⟩,⟨by omega,zzl _⟩,⟨rfl,.inl ⟨rfl,rfl⟩⟩,fun b hb=>(by cases hb),⟨rfl,.inl ⟨rfl,rfl⟩⟩,fun b hb=>(by cases hb)⟩
 ·have:=h.dl _ e;omega
 ·have:=h.dl _ e;omega
theorem DtI.flip {W:World}{t:Int}(hM:qU D U qo W rp d v pvs)(h:DtI D U w rp v.cb rb ob D qo d #[.int .i64 t,.int .i64 0,.int .i64 0,.slice none 0 0,.slice none 0 0] (.slice none 0 0) (.slice none 0 0) [] [] W)(hUl:∀ x,U x->x<w.heap.size)(hfl:yy d)(ht:d.tgt<3) :
 ∃ D2 qo2,DtI D U w rp v.cb rb ob D2 qo2 (xU d) #[.int .i64 t,.int .i64 1,.int .i64 0,.slice none 0 0,v.mv] (.slice none 0 0) v.mv [] d.marks
  (((((((W.setCell ⟨rp,20,none⟩ (.bool false)).setCell ⟨rp,19,none⟩ (.int .i64 (d.tgt:Int))).setCell ⟨rp,10+d.tgt*3,none⟩ v.fpv)).setCell ⟨rb,1,none⟩ (.int .i64 1)).setCell ⟨rb,4,none⟩ v.mv).setCell ⟨rp,24,none⟩ (.slice none 0 0)).drew:=by
 refine (fun ⟨D2,qo2,h⟩=>⟨D2,qo2,h.below ((Below.refl _ _).drew)⟩:(∃ D2 qo2,DtI D U w rp v.cb rb ob D2 qo2 (xU d) #[.int .i64 t,.int .i64 1,.int .i64 0,.slice none 0 0,v.mv] (.slice none 0 0) v.mv [] d.marks
     (((((((W.setCell ⟨rp,20,none⟩ (.bool false)).setCell ⟨rp,19,none⟩ (.int .i64 (d.tgt:Int))).setCell ⟨rp,10+d.tgt*3,none⟩ v.fpv)).setCell ⟨rb,1,none⟩ (.int .i64 1)).setCell ⟨rb,4,none⟩ v.mv).setCell ⟨rp,24,none⟩ (.slice none 0 0)))->_) ?_
 obtain⟨z1,z2,z3⟩:=h.z;obtain⟨hp1,hp2⟩:=hfl;have hnrb:¬rb=rp:=fun e=>z1 (by rw[e];exact hM.cb.1);have hUrb:¬U rb:=fun hu=>by have:=hUl _ hu;have:=h.ge.1;omega
 obtain⟨W1,hW1⟩:∃ W1,W1=(((W.setCell ⟨rp,20,none⟩ (.bool false)).setCell ⟨rp,19,none⟩ (.int .i64 (d.tgt:Int))).setCell ⟨rp,10+d.tgt*3,none⟩ v.fpv):=⟨_,rfl⟩;have hb1:But (fun x=>x=rp) W W1:=by
  rw[hW1];exact ((((But.refl (fun x=>x=rp) W).setCell (p:=⟨rp,20,none⟩) (.inl rfl) _).setCell (p:=⟨rp,19,none⟩) (.inl rfl) _).setCell (p:=⟨rp,10+d.tgt*3,none⟩) (.inl rfl) _)
 obtain⟨d1,hd1⟩:∃ d1:Dc,d1={d with pnt:=false,front:=d.tgt,p:=fun i=>if i=d.tgt then d.fp else d.p i}:=⟨_,rfl⟩;obtain⟨v1,hv1⟩:∃ v1:Dv,v1={v with pp:=fun i=>if i=d.tgt then v.fpv else v.pp i}:=⟨_,rfl⟩;have hk1:W1.heap[rp]?=some (.cells (dcs d1 v1) 121):=by
  have:=qp (i:=10+d.tgt*3) (qp (i:=19) (qp (i:=20) hM.sc.blk (.bool false)) (.int .i64 (d.tgt:Int))) v.fpv;rw[hW1];show ((((W.setCell ⟨rp,20,none⟩ (.bool false)).setCell ⟨rp,19,none⟩ (.int .i64 (d.tgt:Int))).setCell ⟨rp,10+d.tgt*3,none⟩ v.fpv)).heap[rp]?=_;rw[this,hd1,hv1]
  congr 2
  unfold dcs
  rcases (show d.tgt=0\/d.tgt=1\/d.tgt=2 by omega) with q | q | q<;>simp only[q]<;>rfl
 have h1:qU D U qo W1 rp d1 v1 pvs:=by
  refine hM.scr hb1 hk1 (by rw[hd1]) (by rw[hd1]) (by rw[hd1]) (by rw[hd1]) (by rw[hd1]) (by rw[hv1]) (by rw[hv1]) (by rw[hv1]) (by rw[hv1]) (by rw[hv1]) (fun i hi=>?_) (fun e=>by rw[hd1] at e;cases e) (.inl ⟨by rw[hv1],by rw[hd1]⟩);rw[hd1,hv1];simp only
  split
  ·exact hM.fpc hp1
  ·exact hM.pic i hi
 have hr1:=hb1.heap h.rep hnrb;have ho1:=hb1.heap h.out (fun e=>z2 (by rw[e];exact hM.cb.1));obtain⟨W2,hW2⟩:∃ W2,W2=(W1.setCell ⟨rb,1,none⟩ (.int .i64 1)).setCell ⟨rb,4,none⟩ v.mv:=⟨_,rfl⟩;have hb2:But (fun x=>x=rb) W1 W2:=by
  rw[hW2];exact ((But.refl (fun x=>x=rb) W1).setCell (p:=⟨rb,1,none⟩) (.inl rfl) _).setCell (p:=⟨rb,4,none⟩) (.inl rfl) _
 have h2:qU D U qo W2 rp d1 v1 pvs:=h1.frame hb2 (fun x e=>by rw[e];exact⟨z1,hUrb⟩);have hr2:W2.heap[rb]?=some (.cells #[.int .i64 t,.int .i64 1,.int .i64 0,.slice none 0 0,v.mv] 133 (0,0)):=by
  rw[hW2];have:=qp (i:=4) (qp (i:=1) hr1 (.int .i64 1)) v.mv;rw[this]
  rfl
 have ho2:=hb2.heap ho1 (fun e=>z3 e.symm);obtain⟨W3,hW3⟩:∃ W3,W3=W2.setCell ⟨rp,24,none⟩ (.slice none 0 0):=⟨_,rfl⟩;have hb3:But (fun x=>x=rp) W2 W3:=by
  rw[hW3];exact (But.refl (fun x=>x=rp) W2).setCell (p:=⟨rp,24,none⟩) (.inl rfl) _
 have h3:qU D U qo W3 rp {d1 with marks:=[]} {v1 with mv:=.slice none 0 0} pvs:=by
  refine h2.scr hb3 (d':={d1 with marks:=[]}) (v':={v1 with mv:=.slice none 0 0}) ?_ rfl rfl rfl rfl rfl rfl rfl rfl rfl rfl h2.pic h2.fpc (.inr ⟨rfl,rfl⟩);rw[hW3];exact qp (i:=24) h2.sc.blk _
 have hr3:=hb3.heap hr2 hnrb;have ho3:=hb3.heap ho2 (fun e=>z2 (by rw[e];exact hM.cb.1));have hm0:jM W1 0 v.mv d.marks:=(by have:=h1.mks;rw[hd1,hv1] at this;exact this);have hm2:jM W2 0 v.mv d.marks:=qi hm0 hb2 (fun b hb e=>qq hm0 hr1 (by decide) (by rw[<-e];exact hb));have hm3:jM W3 0 v.mv d.marks:=qi hm2 hb3 (fun b hb e=>qq hm2 h2.sc.blk (by decide) (by rw[<-e];exact hb));have hbut:But D w W3:=((h.but.step hb1 (fun x e=>.inl (by rw[e];exact hM.cb.1))).step hb2 (fun x e=>.inr (by rw[e];exact h.ge.1))).step hb3 (fun x e=>.inl (by rw[e];exact hM.cb.1));have efl:xU d={d1 with marks:=[]}:=by
  unfold xU;rw[if_pos ⟨hp1,hp2⟩,hd1]
 rw[<-hW1,<-hW2,<-hW3,efl]
 cases hq:v.mv.ownBlock with
 | none=>exact⟨D,qo,⟨_,pvs,h3,by rw[hv1]⟩,h.sub,hbut,hr3,ho3,h.z,h.ge,⟨rfl,.inl ⟨rfl,rfl⟩⟩,fun b hb=>(by cases hb),hm3,fun b hb=>by rw[hq] at hb;cases hb⟩
 | some fb=>
  obtain⟨cs,fz,hfb⟩:=qE hm3 hq;have hmw:=hM.mw fb hq;have h4:=h3.out hfb (fun e=>by cases e) (by show v1.wv.ownBlock≠some fb;rw[hv1];exact hmw);refine⟨_,_,⟨_,pvs,h4,by rw[hv1]⟩,fun x hx=>h.sub x hx.1,hbut,hr3,ho3,⟨fun e=>z1 e.1,fun e=>z2 e.1,z3⟩,h.ge,⟨rfl,.inl ⟨rfl,rfl⟩⟩,fun b hb=>(by cases hb),hm3,fun b hb e=>e.2 ?_⟩;rw[hq] at hb;exact (Option.some.inj hb).symm
end
structure VL (d:Dc):Prop where
 t:0<=d.t/\d.t<=1000000000000000000
 tg:yy d->d.tgt<3
 ksl:d.ks.length<=1000
 sl:∀ (k:Nat)(s:Srf),(zj (td1 d) k).l[k]?=some s->0<s.left->s.left<=1000000/\SrB (s.x+s.dx)/\SrB (s.y+s.dy)
 ad:∀ (j:Nat)(k:Cli),(zD (td2 d) j).ks[j]?=some (some k)->AdOk (zD (td2 d) j) j k
 fr:(td3 d).front<3
 fm:0<=(td3 d).frames/\(td3 d).frames<=1000000000000000
 lf:(td4 d).pnt=true->0<=(td4 d).left/\(td4 d).left<=1000
theorem J0 (d:Dc)(j:Nat):∀ i,i<=j->(zD d i).ks[j]?=d.ks[j]?
 | 0,_=>rfl
 | i+1,h=>by
  rw[<-J0 d j i (by omega)];show (xR (zD d i) i).ks[j]?=_;unfold xR
  split
  ·exact List.getElem?_set_ne (by omega)
  ·rfl
theorem kJ (tmps:Array Value)(w:World)(g:Nat)(cs:Array Value)(hp:tmps.getD 4 undef=.pointer (some ⟨g,0,none⟩))(hg:w.heap[g]?=some (.cells cs 133))(hs:cs.size=5):(results Tryz.f52 tmps).run Tryz.prog w=.ok (.tuple #[.agg cs,tmps.getD 5 undef]) w:=by
 rw[results_cell_tmp rfl,hp];have h:=run_loadVar_row (P:=Tryz.prog) w g 133 133 cs (0,0) _ hg Tryz.underlying133 rfl (by rw[hs];rfl);simp[asAddr,h,Result.andThen]
theorem VW (w:World)(rp:Nat)(b:Int)(hb:b<0) :
 Calls Tryz.prog 52 #[.pointer (some ⟨rp,0,none⟩),.int .i64 b] w fun e w'=>e=.returned (.tuple #[.agg #[.int .i64 0,.int .i64 0,.int .i64 0,.slice none 0 0,.slice none 0 0],.int .i64 3])/\Below w.heap.size w w':=by
 have hB:Below w.heap.size w (w.alloc (.cells #[.int .i64 0,.int .i64 0,.int .i64 0,.slice none 0 0,.slice none 0 0] 133)):=(Below.refl _ w).alloc (zzl _) _;have HB:=qg hB;clear hB
 go_enter Tryz.func52,Tryz.ntmps52
 go_wp2;refine bodyPost_ret (kJ _ _ w.heap.size #[.int .i64 0,.int .i64 0,.int .i64 0,.slice none 0 0,.slice none 0 0] (by kernel_rfl) ?_ rfl) rfl ⟨by kernel_rfl,?_⟩
 ·have h1:=qt w (.cells #[.int .i64 0,.int .i64 0,.int .i64 0,.slice none 0 0,.slice none 0 0] 133) _ rfl
  first | exact h1 | simpa using qp (i:=4) (qp (i:=3) (qp (i:=2) (qp (i:=1) (qp (i:=0) h1 (.int .i64 0)) (.int .i64 0)) (.int .i64 0)) (.slice none 0 0)) (.slice none 0 0)
 ·first | exact qb HB | exact ((((((qb HB).setCell (p:=⟨w.heap.size,0,none⟩) (zzl _) _).setCell (p:=⟨w.heap.size,1,none⟩) (zzl _) _).setCell (p:=⟨w.heap.size,2,none⟩) (zzl _) _).setCell (p:=⟨w.heap.size,3,none⟩) (zzl _) _).setCell (p:=⟨w.heap.size,4,none⟩) (zzl _) _)
section
variable {D U D1:Nat->Prop}{qo:Nat->Nat}{w wr w2:World}{rp cb rb ob:Nat}{d d':Dc}{rep:Array Value}{av fv:Value}{cn:List Int}{fm:List (Int×Int)}{v:Dv}{pvs:List Value}
theorem DtI.end {a0 a1 a2 a3 a4:Value}(h:DtI D U w rp cb rb ob D1 qo d rep av fv cn fm wr)(hUl:∀ x,U x->x<w.heap.size) :
 (((((wr.setCell ⟨ob,0,none⟩ a0).setCell ⟨ob,1,none⟩ a1).setCell ⟨ob,2,none⟩ a2).setCell ⟨ob,3,none⟩ a3).setCell ⟨ob,4,none⟩ a4).heap[ob]?=some (.cells #[a0,a1,a2,a3,a4] 133)/\
 (∃ v' pvs',qU D1 U qo (((((wr.setCell ⟨ob,0,none⟩ a0).setCell ⟨ob,1,none⟩ a1).setCell ⟨ob,2,none⟩ a2).setCell ⟨ob,3,none⟩ a3).setCell ⟨ob,4,none⟩ a4) rp d v' pvs'/\v'.cb=cb)/\(∀ x,D1 x->D x\/w.heap.size<=x)/\But D w (((((wr.setCell ⟨ob,0,none⟩ a0).setCell ⟨ob,1,none⟩ a1).setCell ⟨ob,2,none⟩ a2).setCell ⟨ob,3,none⟩ a3).setCell ⟨ob,4,none⟩ a4)/\
 zh (((((wr.setCell ⟨ob,0,none⟩ a0).setCell ⟨ob,1,none⟩ a1).setCell ⟨ob,2,none⟩ a2).setCell ⟨ob,3,none⟩ a3).setCell ⟨ob,4,none⟩ a4) w.heap.size av cn/\jM (((((wr.setCell ⟨ob,0,none⟩ a0).setCell ⟨ob,1,none⟩ a1).setCell ⟨ob,2,none⟩ a2).setCell ⟨ob,3,none⟩ a3).setCell ⟨ob,4,none⟩ a4) 0 fv fm:=by
 have hk:=qp (i:=4) (qp (i:=3) (qp (i:=2) (qp (i:=1) (qp (i:=0) h.out a0) a1) a2) a3) a4;have hs:But (fun x=>x=ob) wr (((((wr.setCell ⟨ob,0,none⟩ a0).setCell ⟨ob,1,none⟩ a1).setCell ⟨ob,2,none⟩ a2).setCell ⟨ob,3,none⟩ a3).setCell ⟨ob,4,none⟩ a4):=(((((But.refl (fun x=>x=ob) wr).setCell (p:=⟨ob,0,none⟩) (.inl rfl) _).setCell (p:=⟨ob,1,none⟩) (.inl rfl) _).setCell (p:=⟨ob,2,none⟩) (.inl rfl) _).setCell (p:=⟨ob,3,none⟩) (.inl rfl) _).setCell (p:=⟨ob,4,none⟩) (.inl rfl) _;generalize (((((wr.setCell ⟨ob,0,none⟩ a0).setCell ⟨ob,1,none⟩ a1).setCell ⟨ob,2,none⟩ a2).setCell ⟨ob,3,none⟩ a3).setCell ⟨ob,4,none⟩ a4)=W at *;obtain⟨v1,pvs1,hM,hcb⟩:=h.doc;obtain⟨z1,z2,z3⟩:=h.z;refine⟨by rw[hk];rfl,⟨v1,pvs1,hM.frame hs (fun x e=>⟨by rw[e];exact z2,fun hu=>?_⟩),hcb⟩,h.sub,h.but.step hs (fun x e=>.inr (by rw[e];exact h.ge.2)),qi h.adm hs (fun b hb=>?_),qi h.fir hs (fun b hb=>?_)⟩
 ·have:=hUl x hu;have:=h.ge.2;omega
 ·obtain⟨cs,fz,hg⟩:=qE h.adm hb;exact (h.neR hg (by decide)).2
 ·obtain⟨cs,fz,hg⟩:=qE h.fir hb;exact (h.neR hg (by decide)).2
def qy6 (D U:Nat->Prop)(w:World)(rp cb:Nat)(d:Dc)(b:Nat)(e:Ending)(w':World):Prop:=∃ av fv D' qo',e=.returned (.tuple #[.agg #[.int .i64 (d.t+1),.int .i64 (flN d),.int .i64 (ptN (td4 d) b),av,fv],.int .i64 0])/\(∃ v' pvs',qU D' U qo' w' rp (xS d b) v' pvs'/\v'.cb=cb)/\(∀ x,D' x->D x\/w.heap.size<=x)/\But D w w'/\zh w' w.heap.size av (d.ks.map (xF d.c.quantum))/\jM w' 0 fv (flM d)
end
structure Shf where
 xp:Nat
 rp:Nat
 s:qY
 d:Dc
def qF (x:Shf):List Value:=[.pointer (some ⟨x.xp,0,none⟩),.pointer (some ⟨x.rp,0,none⟩)]
def zE (l:List Shf):List Value:=l.flatMap qF
theorem Xk (k l:List Shf):zE (k++l)=zE k++zE l:=by simp[zE]
theorem XL:∀ (l:List Shf)(j:Nat)(s:Shf),l[j]?=some s->(zE l)[j*2]?=some (.pointer (some ⟨s.xp,0,none⟩))/\(zE l)[j*2+1]?=some (.pointer (some ⟨s.rp,0,none⟩))
 | [],j,s,h=>by simp at h
 | q::l,0,s,h=>by
  simp at h;subst h;show (qF q++zE l)[0]?=_/\(qF q++zE l)[1]?=_;simp[qF]
 | q::l,j+1,s,h=>by
  have h':l[j]?=some s:=(by simpa using h);have ih:=XL l j s h';have e:∀ t,(zE (q::l))[(j+1)*2+t]?=(zE l)[j*2+t]?:=by
   intro t;show (qF q++zE l)[_]?=_;rw[List.getElem?_append_right (by simp[qF];omega)]
   congr 1
   simp[qF];omega
  exact⟨by have:=e 0;simp only[Nat.add_zero] at this;rw[this];exact ih.1,by rw[e 1];exact ih.2⟩
theorem qa0 (l:List Shf)(j:Nat)(s s':Shf)(h:l[j]?=some s)(hx:s'.xp=s.xp)(hp:s'.rp=s.rp):zE (l.set j s')=zE l:=by
 induction l generalizing j with
 | nil=>simp at h
 | cons q l ih=>
  cases j with
  | zero=>simp at h;subst h;show qF s'++zE l=qF q++zE l;rw[show qF s'=qF q by unfold qF;rw[hx,hp]]
  | succ j=>show qF q++zE (l.set j s')=qF q++zE l;rw[ih j (by simpa using h)]
def CAt (w:World)(b off:Nat)(c:Cfg):Prop:=
 w.cell? ⟨b,off,none⟩=some (.int .i64 c.w)/\w.cell? ⟨b,off+1,none⟩=some (.int .i64 c.h)/\w.cell? ⟨b,off+2,none⟩=some (.int .i64 c.clients)/\w.cell? ⟨b,off+3,none⟩=some (.int .i64 c.queue)/\w.cell? ⟨b,off+4,none⟩=some (.int .i64 c.most)/\w.cell? ⟨b,off+5,none⟩=some (.int .i64 c.quantum)/\w.cell? ⟨b,off+6,none⟩=some (.int .i64 c.surfaces)/\w.cell? ⟨b,off+7,none⟩=some (.int .i64 c.behind)
def RdC (U:Nat->Prop)(w:World)(v:Value)(l:List Cfg):Prop:=
 ∃ ao cap,v=.slice ao l.length cap/\(l≠[]->∃ b off,ao=some ⟨b,off,none⟩/\U b/\b<w.heap.size/\∀ (j:Nat)(c:Cfg),l[j]?=some c->CAt w b (off+j*8) c)
theorem RdC.but {U S:Nat->Prop}{w w':World}{v:Value}{l:List Cfg}(h:RdC U w v l)(hb:But S w w')(hs:∀ k,U k->¬S k):RdC U w' v l:=by
 obtain⟨ao,cap,e,h3⟩:=h;refine⟨ao,cap,e,fun hne=>?_⟩;obtain⟨b,off,e,hu,hlt,hc⟩:=h3 hne;have eq:∀ q,w'.cell? ⟨b,q,none⟩=w.cell? ⟨b,q,none⟩:=fun q=>World.cell?_of_block (hb.block b hlt (hs b hu));refine⟨b,off,e,hu,zzm hlt hb.size,fun j c hj=>?_⟩;obtain⟨g0,g1,g2,g3,g4,g5,g6,g7⟩:=hc j c hj;exact⟨(eq _).trans g0,(eq _).trans g1,(eq _).trans g2,(eq _).trans g3,(eq _).trans g4,(eq _).trans g5,(eq _).trans g6,(eq _).trans g7⟩
def yM (U:Nat->Prop)(w:World)(v:Value)(L:List (List Opn)):Prop:=
 ∃ ao cap,v=.slice ao L.length cap/\(L≠[]->∃ b off,ao=some ⟨b,off,none⟩/\U b/\b<w.heap.size/\∀ (i:Nat)(l:List Opn),L[i]?=some l->∃ v',w.cell? ⟨b,off+i,none⟩=some v'/\RdO U w v' l)
theorem yM.but {U S:Nat->Prop}{w w':World}{v:Value}{L:List (List Opn)}(h:yM U w v L)(hb:But S w w')(hs:∀ k,U k->¬S k):yM U w' v L:=by
 obtain⟨ao,cap,e,h3⟩:=h;refine⟨ao,cap,e,fun hne=>?_⟩;obtain⟨b,off,e,hu,hlt,hc⟩:=h3 hne;refine⟨b,off,e,hu,zzm hlt hb.size,fun i l hl=>?_⟩;obtain⟨v',h1,h2⟩:=hc i l hl;exact⟨v',(World.cell?_of_block (hb.block b hlt (hs b hu))).trans h1,h2.but hb hs⟩
def PrM (col:Nat->Nat)(c:Nat)(w:World)(xp:Nat)(s:qY):Prop:=∃ o kb sb fb cps,qI o w xp kb sb fb cps s/\∀ b,o b≠0->col b=c
def DcM (col:Nat->Nat)(c:Nat)(U:Nat->Prop)(w:World)(rp:Nat)(d:Dc):Prop:=∃ D qo v pvs,qU D U qo w rp d v pvs/\∀ b,D b->col b=c
section
variable {col col':Nat->Nat}{c:Nat}{U T:Nat->Prop}{w w':World}{xp rp:Nat}{s:qY}{d:Dc}
theorem PrM.but (h:PrM col c w xp s)(hb:But T w w')(hT:∀ b,b<w.heap.size->col b=c->¬T b)(hc:∀ b,b<w.heap.size->col b=c->col' b=c):PrM col' c w' xp s:=by
 obtain⟨o,kb,sb,fb,cps,h1,h2⟩:=h;refine⟨o,kb,sb,fb,cps,h1.but hb (fun x hx=>hT x (h1.lt x hx) (h2 x hx)),fun b hb'=>hc b (h1.lt b hb') (h2 b hb')⟩
theorem DcM.but (h:DcM col c U w rp d)(hb:But T w w')(hT:∀ b,b<w.heap.size->col b=c->¬T b)(hU:∀ b,U b->¬T b)(hc:∀ b,b<w.heap.size->col b=c->col' b=c):DcM col' c U w' rp d:=by
 obtain⟨D,qo,v,pvs,h1,h2⟩:=h;refine⟨D,qo,v,pvs,h1.frame hb (fun x hx=>⟨fun hd=>hT x (h1.dl x hd) (h2 x hd) hx,fun hu=>hU x hu hx⟩),fun b hb'=>hc b (h1.dl b hb') (h2 b hb')⟩
end
structure qW (U:Nat->Prop)(wb:Nat)(gr gc go:Value)(C:List Cfg)(O:List (List Opn))(w:World)(ss kr ki kf:Value)(sh:List Shf)(er ei ef:List Ent)(col:Nat->Nat):Prop where
 box:w.heap[wb]?=some (.cells #[gr,gc,go,ss,kr,ki,kf] 39)
 own:w.ownsRow 0 57 2 ss sh.length (zE sh)
 pr:∀ (i:Nat)(x:Shf),sh[i]?=some x->PrM col (2*i+2) w x.xp x.s
 dc:∀ (i:Nat)(x:Shf),sh[i]?=some x->DcM col (2*i+3) U w x.rp x.d
 oR:vI 82 w 0 kr er
 oI:vI 85 w 0 ki ei
 oF:vI 89 w 0 kf ef
 eR:∀ e∈er,xx 0 w e/\∀ k,e.blk k->col k=1
 eI:∀ e∈ei,ym 3 1 mkI 0 w e/\∀ k,e.blk k->col k=1
 eF:∀ e∈ef,ym 153 2 mkF 0 w e/\∀ k,e.blk k->col k=1
 cw:col wb=1
 cs:∀ g,ss.ownBlock=some g->col g=1
 cR:∀ g,kr.ownBlock=some g->col g=1
 cI:∀ g,ki.ownBlock=some g->col g=1
 cF:∀ g,kf.ownBlock=some g->col g=1
 clt:∀ b,col b≠0->b<w.heap.size
 rdC:RdC U w gc C
 rdO:yM U w go O
 far:∀ k,U k->col k=0/\k<w.heap.size
theorem xx.butE {S:Nat->Prop}{w w':World}{e:Ent}(h:xx 0 w e)(hb:But S w w')(hs:∀ k,e.blk k->¬S k):xx 0 w' e:=
 ⟨h.num,h.l.but hb (fun k hk=>hs k (.inl hk)),h.a.but hb (fun k hk=>hs k (.inr (.inl hk))),h.b.but hb (fun k hk=>hs k (.inr (.inr (.inl hk)))),h.c.but hb (fun k hk=>hs k (.inr (.inr (.inr hk))))⟩
section
variable {U T:Nat->Prop}{wb:Nat}{gr gc go:Value}{C:List Cfg}{O:List (List Opn)}{w w':World}{ss kr ki kf:Value}{sh:List Shf}{er ei ef:List Ent}{col col':Nat->Nat}
theorem qW.frame (h:qW U wb gr gc go C O w ss kr ki kf sh er ei ef col)(hb:But T w w')(hT:∀ b,T b->b<w.heap.size->col b=0/\¬U b):qW U wb gr gc go C O w' ss kr ki kf sh er ei ef col:=by
 have hn:∀ b,col b≠0->¬T b:=fun b hc ht=>hc (hT b ht (h.clt b hc)).1;have hU:∀ b,U b->¬T b:=fun b hu ht=>(hT b ht (h.far b hu).2).2 hu;have h1:∀ b,col b=1->¬T b:=fun b hc=>hn b (by omega);exact⟨hb.heap h.box (h1 _ h.cw),qi h.own hb (fun k hk=>h1 k (h.cs k hk)),fun i x hx=>(h.pr i x hx).but hb (fun b _ hc=>hn b (by omega)) (fun _ _ hc=>hc),fun i x hx=>(h.dc i x hx).but hb (fun b _ hc=>hn b (by omega)) hU (fun _ _ hc=>hc),
  qi h.oR hb (fun k hk=>h1 k (h.cR k hk)),qi h.oI hb (fun k hk=>h1 k (h.cI k hk)),qi h.oF hb (fun k hk=>h1 k (h.cF k hk)),
  fun e he=>⟨(h.eR e he).1.butE hb (fun k hk=>h1 k ((h.eR e he).2 k hk)),(h.eR e he).2⟩,fun e he=>⟨(h.eI e he).1.but hb (fun k hk=>h1 k ((h.eI e he).2 k hk)),(h.eI e he).2⟩,fun e he=>⟨(h.eF e he).1.but hb (fun k hk=>h1 k ((h.eF e he).2 k hk)),(h.eF e he).2⟩,
  h.cw,h.cs,h.cR,h.cI,h.cF,fun b hc=>zzm (h.clt b hc) hb.size,h.rdC.but hb hU,h.rdO.but hb hU,fun k hk=>⟨(h.far k hk).1,zzm (h.far k hk).2 hb.size⟩⟩
theorem qW.below (h:qW U wb gr gc go C O w ss kr ki kf sh er ei ef col)(hb:Below w.heap.size w w'):qW U wb gr gc go C O w' ss kr ki kf sh er ei ef col:=h.frame (T:=fun _=>False) (.of_below hb) (fun _ h=>h.elim)
structure ReC (col col':Nat->Nat)(c:Nat)(P:Nat->Prop)(w w':World):Prop where
 in':∀ x,P x->col' x=c
 off:∀ x,¬P x->col x=c->col' x=0
 out:∀ x,¬P x->col x≠c->col' x=col x
 new:∀ x,P x->col x=c\/(w.heap.size<=x/\x<w'.heap.size)
theorem qd1 {c:Nat}{P:Nat->Prop}(h:∀ x,P x->col x=c\/(w.heap.size<=x/\x<w'.heap.size)):∃ col',ReC col col' c P w w':=by
 have hx:∀ x,∃ r,(P x->r=c)/\(¬P x->col x=c->r=0)/\(¬P x->col x≠c->r=col x):=by
  intro x
  by_cases hc:P x
  ·exact⟨c,fun _=>rfl,fun h=>absurd hc h,fun h=>absurd hc h⟩
  ·by_cases e:col x=c
   ·exact⟨0,fun h=>absurd h hc,fun _ _=>rfl,fun _ h=>absurd e h⟩
   ·exact⟨col x,fun h=>absurd h hc,fun _ h=>absurd h e,fun _ _=>rfl⟩
 exact⟨fun x=>Classical.choose (hx x),fun x hc=>(Classical.choose_spec (hx x)).1 hc,fun x hc=>(Classical.choose_spec (hx x)).2.1 hc,fun x hc=>(Classical.choose_spec (hx x)).2.2 hc,h⟩
theorem ReC.keep {c:Nat}{P:Nat->Prop}(h:ReC col col' c P w w'){b:Nat}(hb:b<w.heap.size)(hc:col b≠c):col' b=col b:=h.out b (fun hp=>by
 rcases h.new b hp with e | e
 ·exact hc e
 ·omega) hc
theorem ReC.lt {c:Nat}{P:Nat->Prop}(h:ReC col col' c P w w')(hl:∀ b,col b≠0->b<w.heap.size)(hc:c≠0)(hs:w.heap.size<=w'.heap.size):∀ b,col' b≠0->b<w'.heap.size:=fun b hb=>by
 by_cases hp:P b
 ·rcases h.new b hp with e | e
  ·have:=hl b (by omega);omega
  ·exact e.2
 ·by_cases e:col b=c
  ·exact absurd (h.off b hp e) hb
  ·rw[h.out b hp e] at hb;have:=hl b hb;omega
theorem qW.part (h:qW U wb gr gc go C O w ss kr ki kf sh er ei ef col){c:Nat}(hc2:2<=c){P:Nat->Prop}(hb:But T w w')(hT:∀ b,T b->b<w.heap.size->col b=c)(hR:ReC col col' c P w w'){i:Nat}{x x':Shf}(hx:sh[i]?=some x)(e1:x'.xp=x.xp)(e2:x'.rp=x.rp)
 (hpr:if c=2*i+2 then PrM col' c w' x.xp x'.s else x'.s=x.s) (hdc:if c=2*i+3 then DcM col' c U w' x.rp x'.d else x'.d=x.d) (hci:c=2*i+2\/c=2*i+3):qW U wb gr gc go C O w' ss kr ki kf (sh.set i x') er ei ef col':=by
 have hn:∀ b,b<w.heap.size->col b≠c->¬T b:=fun b hl hc ht=>hc (hT b ht hl);have h1:∀ b,col b=1->¬T b:=fun b hc=>hn b (h.clt b (by omega)) (by omega);have k1:∀ b,col b=1->col' b=1:=fun b hc=>by rw[hR.keep (h.clt b (by omega)) (by omega)];exact hc
 have hU:∀ b,U b->¬T b:=fun b hu=>hn b (h.far b hu).2 (by have:=(h.far b hu).1;omega);have hlen:=(zzg hx).1;refine⟨hb.heap h.box (h1 _ h.cw),?_,fun j y hy=>?_,fun j y hy=>?_,
  qi h.oR hb (fun k hk=>h1 k (h.cR k hk)),qi h.oI hb (fun k hk=>h1 k (h.cI k hk)),qi h.oF hb (fun k hk=>h1 k (h.cF k hk)),
  fun e he=>⟨(h.eR e he).1.butE hb (fun k hk=>h1 k ((h.eR e he).2 k hk)),fun k hk=>k1 k ((h.eR e he).2 k hk)⟩,fun e he=>⟨(h.eI e he).1.but hb (fun k hk=>h1 k ((h.eI e he).2 k hk)),fun k hk=>k1 k ((h.eI e he).2 k hk)⟩,fun e he=>⟨(h.eF e he).1.but hb (fun k hk=>h1 k ((h.eF e he).2 k hk)),fun k hk=>k1 k ((h.eF e he).2 k hk)⟩,
  k1 _ h.cw,fun g hg=>k1 g (h.cs g hg),fun g hg=>k1 g (h.cR g hg),fun g hg=>k1 g (h.cI g hg),fun g hg=>k1 g (h.cF g hg),hR.lt h.clt (by omega) hb.size,h.rdC.but hb hU,h.rdO.but hb hU,fun k hk=>⟨?_,zzm (h.far k hk).2 hb.size⟩⟩
 ·rw[List.length_set,qa0 sh i x x' hx e1 e2];exact qi h.own hb (fun k hk=>h1 k (h.cs k hk))
 ·by_cases e:i=j
  ·subst e;rw[List.getElem?_set_self hlen] at hy;have:=Option.some.inj hy;subst this;rw[e1]
   rcases hci with q | q
   ·rw[if_pos q] at hpr;rw[<-q];exact hpr
   ·rw[if_neg (by omega)] at hpr;rw[hpr];exact (h.pr i x hx).but hb (fun b hl hc=>hn b hl (by omega)) (fun b hl hc=>by rw[hR.keep hl (by omega)];exact hc)
  ·rw[List.getElem?_set_ne e] at hy;exact (h.pr j y hy).but hb (fun b hl hc=>hn b hl (by omega)) (fun b hl hc=>by rw[hR.keep hl (by omega)];exact hc)
 ·by_cases e:i=j
  ·subst e;rw[List.getElem?_set_self hlen] at hy;have:=Option.some.inj hy;subst this;rw[e2]
   rcases hci with q | q
   ·rw[if_neg (by omega)] at hdc;rw[hdc];exact (h.dc i x hx).but hb (fun b hl hc=>hn b hl (by omega)) hU (fun b hl hc=>by rw[hR.keep hl (by omega)];exact hc)
   ·rw[if_pos q] at hdc;rw[<-q];exact hdc
  ·rw[List.getElem?_set_ne e] at hy;exact (h.dc j y hy).but hb (fun b hl hc=>hn b hl (by omega)) hU (fun b hl hc=>by rw[hR.keep hl (by omega)];exact hc)
 ·rw[hR.keep (h.far k hk).2 (by have:=(h.far k hk).1;omega)];exact (h.far k hk).1
structure LGo (U:Nat->Prop)(col col':Nat->Nat)(w w':World):Prop where
 but:But (fun b=>col b≠0) w w'
 zero:∀ b,b<w.heap.size->col b=0->col' b=0
theorem LGo.trans {w'':World}{col'':Nat->Nat}(h:LGo U col col' w w')(k:LGo U col' col'' w' w''):LGo U col col'' w w'':=
 ⟨h.but.step k.but (fun b hb=>by
  rcases Nat.lt_or_ge b w.heap.size with q | q
  ·refine .inl fun e=>hb (h.zero b q e)
  ·exact .inr q),fun b hb hc=>k.zero b (zzm hb h.but.size) (h.zero b hb hc)⟩
theorem LGo.below (hb:Below w.heap.size w w'):LGo U col col w w':=⟨.of_below hb,fun _ _ h=>h⟩
theorem LGo.row (h:LGo U col col' w w'){base:Nat}{e:TypeId}{size:Nat}{v:Value}{n:Nat}{xs:List Value}(hr:w.ownsRow base e size v n xs)(hv:∀ k,v.ownBlock=some k->col k=0):w'.ownsRow base e size v n xs/\∀ k,v.ownBlock=some k->col' k=0:=
 ⟨qi hr h.but (fun k hk c=>c (hv k hk)),fun k hk=>h.zero k (World.ownsRow.lt hr k hk).2 (hv k hk)⟩
theorem LGo.block (h:LGo U col col' w w'){k:Nat}{b:Obj}(hk:w.heap[k]?=some b)(ho:col k=0):w'.heap[k]?=some b/\col' k=0:=⟨h.but.heap hk (fun c=>c ho),h.zero k (qh hk) ho⟩
theorem qW.prog (h:qW U wb gr gc go C O w ss kr ki kf sh er ei ef col){i:Nat}{x:Shf}(hx:sh[i]?=some x){o o':Nat->Nat}{kb sb fb:Nat}{cps cps':List (Option Nat)}{kb' sb' fb':Nat}{s':qY}(hM:qI o w x.xp kb sb fb cps x.s)(ho:∀ b,o b≠0->col b=2*i+2)(hS:Stp o o' w w')(hM':qI o' w' x.xp kb' sb' fb' cps' s') :
 ∃ col',qW U wb gr gc go C O w' ss kr ki kf (sh.set i {x with s:=s'}) er ei ef col'/\LGo U col col' w w'/\∀ k,o' k=0->(w.heap.size<=k\/o k≠0)->col' k=0/\¬U k:=by
 obtain⟨col',hR⟩:=qd1 (col:=col) (c:=2*i+2) (P:=fun b=>o' b≠0) (w:=w) (w':=w') (fun b hb=>by
  rcases Nat.lt_or_ge b w.heap.size with q | q
  ·exact .inl (ho b (hS.ext b q hb))
  ·exact .inr ⟨q,hM'.lt b hb⟩)
 have hbut:=hS.but;refine⟨col',h.part (c:=2*i+2) (by omega) hbut (fun b hb _=>ho b hb.1) hR hx rfl rfl (by rw[if_pos rfl];exact⟨o',kb',sb',fb',cps',hM',fun b hb=>hR.in' b hb⟩) (by rw[if_neg (by omega)]) (.inl rfl),⟨hbut.wide (fun b hb hc=>by rw[ho b hc.1];omega),fun b hb hc=>by rw[hR.keep hb (by omega)];exact hc⟩,fun k hk hc=>?_⟩;have hnp:¬(o' k≠0):=fun e=>e hk
 rcases hc with q | q
 ·have h0:col k=0:=by
   rcases Nat.eq_zero_or_pos (col k) with e | e
   ·exact e
   ·have:=h.clt k (by omega);omega
  refine⟨by rw[hR.out k hnp (by omega)];exact h0,fun hu=>?_⟩;have:=(h.far k hu).2;omega
 ·have h0:=ho k q;refine⟨hR.off k hnp h0,fun hu=>?_⟩;have:=(h.far k hu).1;omega
theorem qW.docm (h:qW U wb gr gc go C O w ss kr ki kf sh er ei ef col){i:Nat}{x:Shf}(hx:sh[i]?=some x){D D':Nat->Prop}{qo':Nat->Nat}{d':Dc}{v':Dv}{pvs':List Value}(hD:∀ b,D b->col b=2*i+3)(hB:But D w w')(hD':∀ b,D' b->D b\/w.heap.size<=b)(hM':qU D' U qo' w' x.rp d' v' pvs') :
 ∃ col',qW U wb gr gc go C O w' ss kr ki kf (sh.set i {x with d:=d'}) er ei ef col'/\LGo U col col' w w':=by
 obtain⟨col',hR⟩:=qd1 (col:=col) (c:=2*i+3) (P:=D') (w:=w) (w':=w') (fun b hb=>by
  rcases hD' b hb with q | q
  ·exact .inl (hD b q)
  ·exact .inr ⟨q,hM'.dl b hb⟩)
 exact⟨col',h.part (c:=2*i+3) (by omega) hB (fun b hb _=>hD b hb) hR hx rfl rfl (by rw[if_neg (by omega)]) (by rw[if_pos rfl];exact⟨D',qo',v',pvs',hM',fun b hb=>hR.in' b hb⟩) (.inr rfl),⟨hB.wide (fun b _ hc=>by rw[hD b hc];omega),fun b hb hc=>by rw[hR.keep hb (by omega)];exact hc⟩⟩
end
theorem ym.kind {ety:TypeId}{sz:Nat}{mk:Int->List Value}{base:Nat}{w:World}{e:Ent}(h:ym ety sz mk base w e){k:Nat}(hk:e.blk k):∃ cs fz,w.heap[k]?=some (.cells cs ety fz):=by
 have key:∀ {v:Value},zM ety sz w base v (mk e.n)->v.ownBlock=some k->∃ cs fz,w.heap[k]?=some (.cells cs ety fz):=fun hm hv=>by
  obtain⟨c,h1,-⟩:=hm;exact qE h1 hv
 rcases hk with q | q | q | q
 ·exact key h.l q
 ·exact key h.a q
 ·exact key h.b q
 ·exact key h.c q
theorem Q5 {w:World}{k:Nat}{cs cs':Array Value}{t t':TypeId}{fz fz':Nat×Nat}(h:w.heap[k]?=some (.cells cs t fz))(h':w.heap[k]?=some (.cells cs' t' fz')):t=t':=by
 rw[h] at h';simp only[Option.some.injEq,Obj.cells.injEq] at h';exact h'.2.1
theorem qd5 (col:Nat->Nat)(P:Nat->Prop):∃ col':Nat->Nat,(∀ b,P b->col' b=1)/\∀ b,¬P b->col' b=col b:=by
 have hx:∀ x,∃ r,(P x->r=1)/\(¬P x->r=col x):=fun x=>by
  by_cases hc:P x
  ·exact⟨1,fun _=>rfl,fun h=>absurd hc h⟩
  ·exact⟨col x,fun h=>absurd h hc,fun _=>rfl⟩
 exact⟨fun x=>Classical.choose (hx x),fun x hc=>(Classical.choose_spec (hx x)).1 hc,fun x hc=>(Classical.choose_spec (hx x)).2 hc⟩
section
variable {U T:Nat->Prop}{wb:Nat}{gr gc go:Value}{C:List Cfg}{O:List (List Opn)}{w w':World}{ss kr ki kf:Value}{sh:List Shf}{er ei ef:List Ent}{col col':Nat->Nat}
theorem qW.keepI (h:qW U wb gr gc go C O w ss kr ki kf sh er ei ef col){v:Value}{R:List Int}(hV:zh w 0 v R)(hv:∀ k,v.ownBlock=some k->col k=0/\¬U k)(hn:ei.length<=2000000)(hR:R.length<=1000000000) :
 Calls Tryz.prog 24 #[.pointer (some ⟨wb,4,none⟩),v] w fun e w'=>e=.returned (.tuple #[])/\∃ ki' en col',qW U wb gr gc go C O w' ss kr ki' kf sh er (ei++[en]) ef col'/\But (fun b=>col b≠0\/v.ownBlock=some b) w w'/\∀ b,b<w.heap.size->col b=0->v.ownBlock≠some b->col' b=0:=by
 refine (Vr wb 0 0 #[gr,gc,go,ss,kr,ki,kf] ki v ei R w h.box rfl h.oI (Nat.zero_le _) hV (Nat.zero_le _) hn hR).mono ?_;rintro e w' ⟨rfl,ki',en,hK⟩;obtain⟨col',c1,c2⟩:=qd5 col (fun b=>en.blk b\/ki'.ownBlock=some b);have hwl:=qh h.box;have hnew:∀ b,b<w.heap.size->col b≠1->v.ownBlock≠some b->col' b=col b:=fun b hl h1 hb=>c2 b (fun hc=>by
  rcases hc with q | q
  ·rcases hK.elies b q with r | r
   ·exact hb r
   ·omega
  ·rcases hK.lies b q with r | r
   ·exact h1 (h.cI b r)
   ·omega)
 have k1:∀ b,col b=1->col' b=1:=fun b hb=>by
  by_cases hc:en.blk b\/ki'.ownBlock=some b
  ·exact c1 b hc
  ·rw[c2 b hc];exact hb
 have hrow:∀ {e:TypeId}{size:Nat}{u:Value}{n:Nat}{xs:List Value},w.ownsRow 0 e size u n xs->∀ k,u.ownBlock=some k->39≠e->85≠e->3≠e->¬(k=wb\/ki.ownBlock=some k\/v.ownBlock=some k):=fun hr k hk t1 t2 t3 hc=>by
  rcases hc with q | q | q
  ·exact qq hr h.box t1 (by rw[<-q];exact hk)
  ·obtain⟨cs,fz,e⟩:=qE h.oI q;exact qq hr e t2 hk
  ·obtain⟨cs,fz,e⟩:=qE hV q;exact qq hr e t3 hk
 have hoddR:∀ k,(k=wb\/ki.ownBlock=some k\/v.ownBlock=some k)->k<w.heap.size->∃ cs t fz,w.heap[k]?=some (.cells cs t fz)/\t≠46:=fun k hk _=>by
  rcases hk with q | q | q
  ·rw[q];exact⟨_,_,_,h.box,by decide⟩
  ·obtain⟨cs,fz,e⟩:=qE h.oI q;exact⟨_,_,_,e,by decide⟩
  ·obtain⟨cs,fz,e⟩:=qE hV q;exact⟨_,_,_,e,by decide⟩
 have hoddF:∀ k,(k=wb\/ki.ownBlock=some k\/v.ownBlock=some k)->k<w.heap.size->∃ cs t fz,w.heap[k]?=some (.cells cs t fz)/\t≠153:=fun k hk _=>by
  rcases hk with q | q | q
  ·rw[q];exact⟨_,_,_,h.box,by decide⟩
  ·obtain⟨cs,fz,e⟩:=qE h.oI q;exact⟨_,_,_,e,by decide⟩
  ·obtain⟨cs,fz,e⟩:=qE hV q;exact⟨_,_,_,e,by decide⟩
 have hU:∀ b,U b->¬(b=wb\/ki.ownBlock=some b\/v.ownBlock=some b):=fun b hu hc=>by
  have h0:=(h.far b hu).1
  rcases hc with q | q | q
  ·rw[q,h.cw] at h0;omega
  ·rw[h.cI b q] at h0;omega
  ·exact (hv b q).2 hu
 have hsc:∀ b,b<w.heap.size->2<=col b->¬(b=wb\/ki.ownBlock=some b\/v.ownBlock=some b)/\col' b=col b:=fun b hl h2=>by
  refine⟨fun hc=>?_,hnew b hl (by omega) (fun e=>by have:=(hv b e).1;omega)⟩
  rcases hc with q | q | q
  ·rw[q,h.cw] at h2;omega
  ·rw[h.cI b q] at h2;omega
  ·have:=(hv b q).1;omega
 refine⟨rfl,ki',en,col',⟨hK.box,qi h.own hK.but (fun k hk c=>hrow h.own k hk (by decide) (by decide) (by decide) c),fun i x hx=>(h.pr i x hx).but hK.but (fun b hl hc=>(hsc b hl (by omega)).1) (fun b hl hc=>by rw[(hsc b hl (by omega)).2];exact hc),fun i x hx=>(h.dc i x hx).but hK.but (fun b hl hc=>(hsc b hl (by omega)).1) hU (fun b hl hc=>by rw[(hsc b hl (by omega)).2];exact hc),
  qi h.oR hK.but (fun k hk c=>hrow h.oR k hk (by decide) (by decide) (by decide) c),hK.own,qi h.oF hK.but (fun k hk c=>hrow h.oF k hk (by decide) (by decide) (by decide) c),fun e he=>⟨(h.eR e he).1.odd hK.but hoddR,fun k hk=>k1 k ((h.eR e he).2 k hk)⟩,fun e he=>?_,fun e he=>⟨(h.eF e he).1.odd hK.but hoddF,fun k hk=>k1 k ((h.eF e he).2 k hk)⟩,k1 _ h.cw,fun g hg=>k1 g (h.cs g hg),fun g hg=>k1 g (h.cR g hg),fun g hg=>c1 g (.inr hg),fun g hg=>k1 g (h.cF g hg),fun b hb=>?_,h.rdC.but hK.but hU,h.rdO.but hK.but hU,fun k hk=>⟨?_,zzm (h.far k hk).2 hK.but.size⟩⟩,?_,fun b hl h0 hb=>by rw[hnew b hl (by omega) hb];exact h0⟩
 ·rcases List.mem_append.1 he with q | q
  ·refine⟨(h.eI e q).1.but hK.but (fun k hk hc=>?_),fun k hk=>k1 k ((h.eI e q).2 k hk)⟩;obtain⟨cs,fz,e1⟩:=(h.eI e q).1.kind hk
   rcases hc with r | r | r
   ·rw[r] at e1;exact absurd (Q5 e1 h.box) (by decide)
   ·obtain⟨cs2,fz2,e2⟩:=qE h.oI r;exact absurd (Q5 e1 e2) (by decide)
   ·have h1:=(h.eI e q).2 k hk;have:=(hv k r).1;omega
  ·rw[List.mem_singleton.1 q];exact⟨hK.ent,fun k hk=>c1 k (.inl hk)⟩
 ·by_cases hc:en.blk b\/ki'.ownBlock=some b
  ·rcases hc with q | q
   ·exact hK.ent.lt q
   ·exact (World.ownsRow.lt hK.own b q).2
  ·rw[c2 b hc] at hb;exact zzm (h.clt b hb) hK.but.size
 ·rw[hnew k (h.far k hk).2 (by have:=(h.far k hk).1;omega) (fun e=>(hv k e).2 hk)];exact (h.far k hk).1
 ·refine hK.but.wide fun b _ hc=>?_
  rcases hc with q | q | q
  ·exact .inl (by rw[q,h.cw];omega)
  ·exact .inl (by rw[h.cI b q];omega)
  ·exact .inr q
theorem qW.keepF (h:qW U wb gr gc go C O w ss kr ki kf sh er ei ef col){v:Value}{R:List (Int×Int)}(hV:jM w 0 v R)(hv:∀ k,v.ownBlock=some k->col k=0/\¬U k)(hn:ef.length<=2000000)(hR:R.length<=1000000000) :
 Calls Tryz.prog 54 #[.pointer (some ⟨wb,4,none⟩),v] w fun e w'=>e=.returned (.tuple #[])/\∃ kf' en col',qW U wb gr gc go C O w' ss kr ki kf' sh er ei (ef++[en]) col'/\But (fun b=>col b≠0\/v.ownBlock=some b) w w'/\∀ b,b<w.heap.size->col b=0->v.ownBlock≠some b->col' b=0:=by
 refine (Xj wb 0 0 #[gr,gc,go,ss,kr,ki,kf] kf v ef R w h.box rfl h.oF (Nat.zero_le _) hV (Nat.zero_le _) hn hR).mono ?_;rintro e w' ⟨rfl,kf',en,hK⟩;obtain⟨col',c1,c2⟩:=qd5 col (fun b=>en.blk b\/kf'.ownBlock=some b);have hwl:=qh h.box;have hnew:∀ b,b<w.heap.size->col b≠1->v.ownBlock≠some b->col' b=col b:=fun b hl h1 hb=>c2 b (fun hc=>by
  rcases hc with q | q
  ·rcases hK.elies b q with r | r
   ·exact hb r
   ·omega
  ·rcases hK.lies b q with r | r
   ·exact h1 (h.cF b r)
   ·omega)
 have k1:∀ b,col b=1->col' b=1:=fun b hb=>by
  by_cases hc:en.blk b\/kf'.ownBlock=some b
  ·exact c1 b hc
  ·rw[c2 b hc];exact hb
 have hrow:∀ {e:TypeId}{size:Nat}{u:Value}{n:Nat}{xs:List Value},w.ownsRow 0 e size u n xs->∀ k,u.ownBlock=some k->39≠e->89≠e->153≠e->¬(k=wb\/kf.ownBlock=some k\/v.ownBlock=some k):=fun hr k hk t1 t2 t3 hc=>by
  rcases hc with q | q | q
  ·exact qq hr h.box t1 (by rw[<-q];exact hk)
  ·obtain⟨cs,fz,e⟩:=qE h.oF q;exact qq hr e t2 hk
  ·obtain⟨cs,fz,e⟩:=qE hV q;exact qq hr e t3 hk
 have hoddR:∀ k,(k=wb\/kf.ownBlock=some k\/v.ownBlock=some k)->k<w.heap.size->∃ cs t fz,w.heap[k]?=some (.cells cs t fz)/\t≠46:=fun k hk _=>by
  rcases hk with q | q | q
  ·rw[q];exact⟨_,_,_,h.box,by decide⟩
  ·obtain⟨cs,fz,e⟩:=qE h.oF q;exact⟨_,_,_,e,by decide⟩
  ·obtain⟨cs,fz,e⟩:=qE hV q;exact⟨_,_,_,e,by decide⟩
 have hoddI:∀ k,(k=wb\/kf.ownBlock=some k\/v.ownBlock=some k)->k<w.heap.size->∃ cs t fz,w.heap[k]?=some (.cells cs t fz)/\t≠3:=fun k hk _=>by
  rcases hk with q | q | q
  ·rw[q];exact⟨_,_,_,h.box,by decide⟩
  ·obtain⟨cs,fz,e⟩:=qE h.oF q;exact⟨_,_,_,e,by decide⟩
  ·obtain⟨cs,fz,e⟩:=qE hV q;exact⟨_,_,_,e,by decide⟩
 have hU:∀ b,U b->¬(b=wb\/kf.ownBlock=some b\/v.ownBlock=some b):=fun b hu hc=>by
  have h0:=(h.far b hu).1
  rcases hc with q | q | q
  ·rw[q,h.cw] at h0;omega
  ·rw[h.cF b q] at h0;omega
  ·exact (hv b q).2 hu
 have hsc:∀ b,b<w.heap.size->2<=col b->¬(b=wb\/kf.ownBlock=some b\/v.ownBlock=some b)/\col' b=col b:=fun b hl h2=>by
  refine⟨fun hc=>?_,hnew b hl (by omega) (fun e=>by have:=(hv b e).1;omega)⟩
  rcases hc with q | q | q
  ·rw[q,h.cw] at h2;omega
  ·rw[h.cF b q] at h2;omega
  ·have:=(hv b q).1;omega
 refine⟨rfl,kf',en,col',⟨hK.box,qi h.own hK.but (fun k hk c=>hrow h.own k hk (by decide) (by decide) (by decide) c),fun i x hx=>(h.pr i x hx).but hK.but (fun b hl hc=>(hsc b hl (by omega)).1) (fun b hl hc=>by rw[(hsc b hl (by omega)).2];exact hc),fun i x hx=>(h.dc i x hx).but hK.but (fun b hl hc=>(hsc b hl (by omega)).1) hU (fun b hl hc=>by rw[(hsc b hl (by omega)).2];exact hc),
  qi h.oR hK.but (fun k hk c=>hrow h.oR k hk (by decide) (by decide) (by decide) c),qi h.oI hK.but (fun k hk c=>hrow h.oI k hk (by decide) (by decide) (by decide) c),hK.own,fun e he=>⟨(h.eR e he).1.odd hK.but hoddR,fun k hk=>k1 k ((h.eR e he).2 k hk)⟩,fun e he=>⟨(h.eI e he).1.odd hK.but hoddI,fun k hk=>k1 k ((h.eI e he).2 k hk)⟩,fun e he=>?_,k1 _ h.cw,fun g hg=>k1 g (h.cs g hg),fun g hg=>k1 g (h.cR g hg),fun g hg=>k1 g (h.cI g hg),fun g hg=>c1 g (.inr hg),fun b hb=>?_,h.rdC.but hK.but hU,h.rdO.but hK.but hU,fun k hk=>⟨?_,zzm (h.far k hk).2 hK.but.size⟩⟩,?_,fun b hl h0 hb=>by rw[hnew b hl (by omega) hb];exact h0⟩
 ·rcases List.mem_append.1 he with q | q
  ·refine⟨(h.eF e q).1.but hK.but (fun k hk hc=>?_),fun k hk=>k1 k ((h.eF e q).2 k hk)⟩;obtain⟨cs,fz,e1⟩:=(h.eF e q).1.kind hk
   rcases hc with r | r | r
   ·rw[r] at e1;exact absurd (Q5 e1 h.box) (by decide)
   ·obtain⟨cs2,fz2,e2⟩:=qE h.oF r;exact absurd (Q5 e1 e2) (by decide)
   ·have h1:=(h.eF e q).2 k hk;have:=(hv k r).1;omega
  ·rw[List.mem_singleton.1 q];exact⟨hK.ent,fun k hk=>c1 k (.inl hk)⟩
 ·by_cases hc:en.blk b\/kf'.ownBlock=some b
  ·rcases hc with q | q
   ·exact hK.ent.lt q
   ·exact (World.ownsRow.lt hK.own b q).2
  ·rw[c2 b hc] at hb;exact zzm (h.clt b hb) hK.but.size
 ·rw[hnew k (h.far k hk).2 (by have:=(h.far k hk).1;omega) (fun e=>(hv k e).2 hk)];exact (h.far k hk).1
 ·refine hK.but.wide fun b _ hc=>?_
  rcases hc with q | q | q
  ·exact .inl (by rw[q,h.cw];omega)
  ·exact .inl (by rw[h.cF b q];omega)
  ·exact .inr q
end
theorem qs0 {l m:List Srf}(h:l.map nrm=m.map nrm):l.map qw=m.map qw:=by
 have e:∀ l:List Srf,(l.map nrm).map qw=l.map qw:=fun l=>by
  rw[List.map_map];refine List.map_congr_left fun x _=>?_;show qw (nrm x)=qw x;unfold nrm
  split<;>rfl
 rw[<-e l,<-e m,h]
theorem qd9 {l m:List Srf}(h:l.map nrm=m.map nrm):l.length=m.length:=by have:=congrArg List.length h;simpa using this
section
variable {K S j D:Nat}{l:List Srf}{f:Frs}{d:Dc}
theorem dn_ok {o:Opn}{x:List Bool}(h:vM K S D (l,f))(hKS:K*S<=16)(hj:j<K)(hD:D<=900000000)(hv:qP (hav l j S) (qy o)=some x)(hl:l.map nrm=d.l.map nrm)(hF:FR f d):DnOk d j o:=by
 rw[ZB] at hv;have hw:d.wait.length<=1000000000:=by
  have h1:d.wait.length=f.marks.length:=(by rw[hF.wait]);have h2:f.marks.length<=D:=h.fr.mks;omega
 have hlen:=qd9 hl
 by_cases h8:o.kind=8
 ·exact⟨fun _=>hw,fun e=>by omega,fun e=>absurd h8 e,fun e=>by omega,fun e=>by omega⟩
 ·obtain⟨hf,hs,ha,-,-⟩:=Xu h8 hv;refine⟨fun _=>hw,fun h1=>?_,fun _ h1=>?_,fun h4=>?_,fun h3=>?_⟩
  ·obtain⟨a,b⟩:=yu ha (.inl h1);refine⟨⟨by unfold SrB;omega,by unfold SrB;omega⟩,?_⟩;have hk:=(qe5 h.sc (by omega) hj hf hs ha).len;have e:(zi l j o).1.length=l.length+1:=(by simp[zi,h1]);rw[e] at hk;omega
  ·rcases hf with e | e
   ·exact absurd e.1 h1
   ·refine⟨e.1,?_⟩;rw[<-qs0 hl];exact e.2
  ·obtain⟨a,b⟩:=yu ha (.inr h4);exact⟨by unfold SrB;omega,by unfold SrB;omega⟩
  ·obtain⟨a,b,c⟩:=Ju ha h3;exact⟨⟨by omega,by omega⟩,c⟩
theorem qv2 (hKS:K*S<=16)(hj:j<K){q:List (List Opn)}{own:List Bool}(h:vM K S D (l,f))(hq:q.length<=8)(htl:∀ t∈q,t.length<=20)(hD:D+160<=900000000)(hv:qR (hav l j S) (q.map fun t=>t.map qy).flatten=some own)(hl:l.map nrm=d.l.map nrm)(hF:FR f d) :
 ∀ (m:Nat)(t:List Opn),q[m]?=some t->∀ (i:Nat)(o:Opn),t[i]?=some o->DnOk (yR (yP d j (q.take m)) j (t.take i)) j o:=by
 intro m t ht i o ho;obtain⟨hm,em⟩:=zzg ht;obtain⟨hi,ei⟩:=zzg ho;have hsp:q=q.take m++t::q.drop (m+1):=(by rw[<-em,List.getElem_cons_drop,List.take_append_drop]);have hst:t=t.take i++o::t.drop (i+1):=(by rw[<-ei,List.getElem_cons_drop,List.take_append_drop]);have htm:t∈q:=zzn ht;have htl':=htl t htm;have e1:(q.map fun t=>t.map qy).flatten=((q.take m).map fun t=>t.map qy).flatten++((t.take i).map qy++(qy o::((t.drop (i+1)).map qy++((q.drop (m+1)).map fun t=>t.map qy).flatten))):=by
  conv=>lhs;rw[hsp]
  rw[List.map_append,List.flatten_append,List.map_cons,List.flatten_cons]
  congr 1
  conv=>lhs;rw[hst]
  rw[List.map_append,List.map_cons,List.append_assoc,List.cons_append]
 rw[e1,zF] at hv
 cases hy:qR (hav l j S) ((q.take m).map fun t=>t.map qy).flatten with
 | none=>rw[hy] at hv;cases hv
 | some y=>
  rw[hy] at hv;have hv2:qR y ((t.take i).map qy++(qy o::((t.drop (i+1)).map qy++((q.drop (m+1)).map fun t=>t.map qy).flatten)))=some own:=hv;have hm8:(q.take m).length<=7:=(by rw[List.length_take];omega);have hi20:(t.take i).length<=19:=(by rw[List.length_take];omega);obtain⟨r1,r2,-⟩:=X1 (K:=K) (S:=S) (j:=j) (by omega) hj (q.take m) D l f d y h (fun tr htr=>htl tr (List.mem_of_mem_take htr)) (by omega) hy hl hF;obtain⟨-,g2,g3,-⟩:=Y3 (K:=K) (S:=S) (j:=j) (by omega) hj ((q.take m).map fun t=>t.map qy) D (l,f) y h (fun tr htr=>by
   obtain⟨x,hx,rfl⟩:=List.mem_map.1 htr;rw[List.length_map];exact htl x (List.mem_of_mem_take hx)) (by rw[List.length_map];omega) hy
  rw[List.length_map] at g2;rw[<-g3,zF] at hv2
  cases hz:qR (hav (jx j (l,f) ((q.take m).map fun t=>t.map qy)).1 j S) ((t.take i).map qy) with
  | none=>rw[hz] at hv2;cases hv2
  | some z=>
   rw[hz] at hv2;have hv3:(qP z (qy o)).bind (fun x=>qR x ((t.drop (i+1)).map qy++((q.drop (m+1)).map fun t=>t.map qy).flatten))=some own:=hv2;obtain⟨k1,k2,-⟩:=Vf (K:=K) (S:=S) (j:=j) (by omega) hj (t.take i) (D+20*(q.take m).length) _ _ (yP d j (q.take m)) z g2 (by omega) hz r1 r2;obtain⟨-,o2,o3,-⟩:=Kv (K:=K) (S:=S) (j:=j) (by omega) hj ((t.take i).map qy) (D+20*(q.take m).length) _ z g2 (by rw[List.length_map];omega) hz;rw[List.length_map] at o2
   cases hw:qP z (qy o) with
   | none=>rw[hw] at hv3;cases hv3
   | some x=>
    rw[<-o3] at hw;exact dn_ok o2 hKS hj (by omega) hw k1 k2
end
section
variable {s:qY}{d:Dc}{D:Nat}
theorem qz6 (h:DR s d)(hO:jg D s)(hD:D+640<=900000000)(hP:PxI s.l s.c.behind s.f):FR (tk5 s).f (td4 d)/\FrB (D+160*s.ks.length) (tk5 s).f:=by
 have hlen:s.ks.length=d.ks.length:=(by have:=congrArg List.length h.ks;simpa using this);obtain⟨g1,g2,g3,g4,g5⟩:=QE h hO hD s.ks.length (zzl _);have hI:=jL hO hD s.ks.length (zzl _);have h3:PxI (tk3 s).l s.c.behind (tk3 s).f:=hP.flip.dam hO.st.fr.flip (fun x y hc=>Ze hc s.c.behind);have h4:=VK hO hD h3 s.ks.length (zzl _);have hbeg:∀ i,i<3->((qJ s.c.quantum s.ks ((tk3 s).l,(tk3 s).f) s.ks.length).2.b i).begun<s.t+1:=fun i hi=>by
  rw[Z7];show ((zX (zd s.f).1 _).b i).begun<_;rw[Z6,YS];have:=h.beg i hi;omega
 rw[hlen] at g1 g2 g3;have e3:zD (td2 d) d.ks.length=td3 d:=rfl;rw[e3] at g1 g2 g3;rw[<-hlen] at g1 g2;have hbh:(td3 d).c.behind=s.c.behind:=(by rw[g3,h.c]);have hB:=XW (t:=s.t+1) g1 g2 hI.st.fr (by rw[hbh];exact h4) hbeg;rw[hbh] at hB;exact⟨hB,hI.st.fr.begin (s.t+1) _⟩
theorem Jf (d:Dc):(td3 d).frames=d.frames:=by
 have h1:=(yJ (td2 d) d.ks.length).2.2.2.1;have h2:=(xX (td1 d) d.l.length).frames;have h3:(td1 d).frames=d.frames:=(by unfold td1 xU;split<;>rfl);exact h1.trans (h2.trans h3)
theorem Y7 (h:DR s d)(hO:jg D s)(hD:D+640<=900000000)(hP:PxI s.l s.c.behind s.f)(ht:0<=s.t/\s.t<=1000000000000000000)(hf:0<=d.frames/\d.frames<=1000000000000000):VL d:=by
 have hc:=Qy hO.cfg;have hcl:=hc.clients;have hks16:=hc.ks;have hlen:s.ks.length=d.ks.length:=(by have:=congrArg List.length h.ks;simpa using this);have hln:=hO.len;have hK:s.c.clients.toNat<=4:=(by omega);refine⟨by rw[<-h.t];exact ht,fun hfl=>?_,by omega,fun k x hx hx0=>?_,fun j k hjk=>?_,?_,by rw[Jf];exact hf,fun hp=>?_⟩
 ·have hp:s.f.frame.isSome=true:=(by rw[<-h.f.pnt];exact hfl.1);obtain⟨g,hg⟩:=Option.isSome_iff_exists.1 hp;rw[(h.f.frm g hg).1];exact (hO.st.fr.fm g hg).1
 ·obtain⟨h1,-,-⟩:=JE (h.f.tt (d.t+1)) hO.st.fr;obtain⟨k1,k2,k3,k4⟩:=yB {d with t:=d.t+1};have hl:s.l.map nrm=(td1 d).l.map nrm:=(by unfold td1;rw[k3];exact h.l);have hkl:k<(zj (td1 d) k).l.length:=(zzg hx).1;rw[yY] at hkl;have hl2:=qd9 hl;obtain⟨g1,-⟩:=Zd (f:=(zd s.f).1) (d:=td1 d) (D:=D) hl h1 hO.st.fr.flip (fun x hx=>(hO.st.sc.sf x hx).lf.1) k (by omega);have hat:((s.l.take k).map goS++s.l.drop k)[k]?=s.l[k]?:=by
   have e:((s.l.take k).map goS).length=k:=(by rw[List.length_map,List.length_take];omega);rw[List.getElem?_append_right (by omega),e,Nat.sub_self,List.getElem?_drop]
   rfl
  obtain⟨y,hy⟩:∃ y,s.l[k]?=some y:=⟨s.l[k]'(by omega),by simp⟩;have hn:=congrArg (fun q=>q[k]?) g1;simp only[List.getElem?_map,hx,hat,hy,Option.map_some,Option.some.injEq] at hn;obtain⟨-,-,n3,n4,-,-,-,n8,n9⟩:=kg hn;have hB:=hO.st.sc.sf y (zzn hy);have hdx:=n9 (by omega);have b1:=hB.lf;have b2:=hB.dd;have b3:=hB.xb;have b4:=hB.yb;rw[<-n3,<-n4,<-n8,<-hdx.1,<-hdx.2];refine⟨by omega,?_,?_⟩
  ·unfold SrB;omega
  ·unfold SrB;omega
 ·have hjl:j<d.ks.length:=by
   have:=(zzg hjk).1;rw[(yJ (td2 d) j).2.1] at this;obtain⟨-,-,-,a4,-⟩:=qc8 h hO;rw[a4] at this;exact this
  obtain⟨g1,g2,g3,g4,g5⟩:=QE h hO hD j (by omega);have hdk:d.ks[j]?=some (some k):=(by rw[<-Qt (q:=d.c.quantum) hjl,<-g4];exact hjk);have hsk:s.ks[j]?=some (some (qH k)):=(by rw[h.ks,List.getElem?_map,hdk];rfl);have hI:=jL hO hD j (by omega);have hC:=hO.cl j (qH k) hsk;have hv:=hI.old j (qH k) (zzl _) hsk;have c1:=hC.cr;have c2:=hC.ql;have c3:=hc.most;have c4:=hc.quantum;have c5:=hc.queue;have eq1:(qH k).cr=k.cr:=rfl;have eq2:(qH k).q.length=k.q.length:=(by unfold qH;simp);rw[eq1] at c1;rw[eq2] at c2;have htl:∀ t∈k.q,(1<=t.length/\t.length<=20)/\1<=qA t/\qA t<=s.c.most:=fun t ht=>by
   have:=hC.tr (t.map qy) (List.mem_map.2 ⟨t,ht,rfl⟩);rw[List.length_map,ve] at this;exact this
  refine⟨by omega,by rw[g3,<-h.c];omega,by omega,fun t ht=>?_,fun m t hm _ i o ho=>?_⟩
  ·obtain⟨t1,t2⟩:=htl t ht;refine⟨fun o ho=>?_,by omega,by omega,by omega⟩;have hmem:qy o∈(qH k).q.flatten:=List.mem_flatten.2 ⟨t.map qy,List.mem_map.2 ⟨t,ht,rfl⟩,List.mem_map.2 ⟨o,ho,rfl⟩⟩;have hsm:=xy _ _ _ hv (qy o) hmem;obtain⟨f1,-,-,-,f5,f6,-⟩:=X6 o;unfold Qk at hsm ⊢;rw[f1,f5,f6] at hsm;exact hsm
  ·exact qv2 (K:=s.c.clients.toNat) (S:=s.c.surfaces.toNat) hks16 (by omega) hI.st (by omega) (fun t ht=>(htl t ht).1.2) (by omega) hv g1 g2 m t hm i o ho
 ·obtain⟨-,g2,-⟩:=QE h hO hD s.ks.length (zzl _);rw[hlen] at g2;have e3:zD (td2 d) d.ks.length=td3 d:=rfl;rw[e3] at g2;rw[g2.front,<-hlen];exact (jL hO hD s.ks.length (zzl _)).st.fr.fr
 ·obtain⟨g1,g2⟩:=qz6 h hO hD hP;have hp':(tk5 s).f.frame.isSome=true:=(by rw[<-g1.pnt];exact hp);obtain⟨g,hg⟩:=Option.isSome_iff_exists.1 hp';have:=(g1.frm g hg).2.1;have:=(g2.fm g hg).2.2.1;have:=g2.wh;omega
theorem X3 (b:Nat)(hf:0<=d.frames):0<=(xS d b).frames/\(xS d b).frames<=d.frames+1:=by
 have h1:=Jf d;have h2:(xS d b).frames=(td4 d).frames:=by
  show (jI (td4 d) b).frames=_;unfold jI
  split<;>rfl
 have h3:(td4 d).frames=(td3 d).frames\/(td4 d).frames=(td3 d).frames+1:=by
  show (jF (td3 d)).frames=_\/(jF (td3 d)).frames=_;unfold jF
  split
  ·exact .inl rfl
  ·exact .inr rfl
 rw[h2]
 rcases h3 with e | e<;>omega
end
end Go.Proofs.YtfnockbgkcgpkaaGreat
