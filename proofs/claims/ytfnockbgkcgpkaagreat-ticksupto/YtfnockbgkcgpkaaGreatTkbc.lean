import Derived.Test.YtfnockbgkcgpkaaGreatTkba
import Derived.Test.YtfnockbgkcgpkaaGreatTkbb
set_option linter.all false
set_option maxRecDepth 100000
set_option maxHeartbeats 16000000
namespace Go.Proofs.YtfnockbgkcgpkaaGreat
open Go.RowKit Go.Proofs.Panes
structure Cli where
 q:List (List Opn)
 cr:Int
 own:List Bool
def zI (t:Value×List Opn):P2:=(t.1,.int .i64 (qA t.2))
structure KlM (C U:Nat->Prop)(w:World)(cp S:Nat)(k:Cli)(qv:Value)(mq:List (Value×List Opn))(b:List Bool):Prop where
 cell:w.heap[cp]?=some (.cells ([qv,.int .i64 k.cr]++b.map Value.bool).toArray 113)
 row:qN w 0 195 qv (mq.map zI)
 ops:∀ t∈mq,RdO U w t.1 t.2
 q:mq.map Prod.snd=k.q
 bl:b.length=4
 own:b.take S=k.own
 cc:C cp
 cq:∀ g,qv.ownBlock=some g->C g
def Xs (C U:Nat->Prop)(w:World)(cp S:Nat)(k:Cli):Prop:=∃ qv mq b,KlM C U w cp S k qv mq b
theorem KlM.but {C U T:Nat->Prop}{w w':World}{cp S:Nat}{k:Cli}{qv:Value}{mq:List (Value×List Opn)}{b:List Bool}(h:KlM C U w cp S k qv mq b)(hb:But T w w')(hC:∀ x,C x->¬T x)(hU:∀ x,U x->¬T x):KlM C U w' cp S k qv mq b:=
 ⟨hb.heap h.cell (hC _ h.cc),qi h.row hb (fun g hg=>hC g (h.cq g hg)),fun t ht=>(h.ops t ht).but hb hU,h.q,h.bl,h.own,h.cc,h.cq⟩
theorem Xs.but {C U T:Nat->Prop}{w w':World}{cp S:Nat}{k:Cli}(h:Xs C U w cp S k)(hb:But T w w')(hC:∀ x,C x->¬T x)(hU:∀ x,U x->¬T x):Xs C U w' cp S k:=by
 obtain⟨qv,mq,b,h⟩:=h;exact⟨qv,mq,b,h.but hb hC hU⟩
theorem Xs.mono {C U C' U':Nat->Prop}{w:World}{cp S:Nat}{k:Cli}(h:Xs C U w cp S k)(hC:∀ x,C x->C' x)(hU:∀ x,U x->U' x):Xs C' U' w cp S k:=by
 obtain⟨qv,mq,b,h⟩:=h;exact⟨qv,mq,b,h.cell,h.row,fun t ht=>(h.ops t ht).wide hU,h.q,h.bl,h.own,hC _ h.cc,fun g hg=>hC g (h.cq g hg)⟩
theorem yr {U:Nat->Prop}{w:World}{mq:List (Value×List Opn)}(h:∀ t∈mq,RdO U w t.1 t.2):yN (mq.map zI):=by
 intro p hp;obtain⟨t,ht,rfl⟩:=List.mem_map.1 hp;obtain⟨ao,cap,e,_⟩:=h t ht;simp only[zI];rw[e];exact⟨rfl,rfl⟩
def zP (cr:Int):List (List Opn)->Nat×Int
 | []=>(0,cr)
 | o::l=>if qA o<=cr then ((zP (cr-qA o) l).1+1,(zP (cr-qA o) l).2) else (0,cr)
theorem VY:∀ (l:List (List Opn))(cr:Int),(zP cr l).1<=l.length
 | [],_=>zzl _
 | o::l,cr=>by
  unfold zP
  split
  ·have:=VY l (cr-qA o);simp only[List.length_cons];omega
  ·exact Nat.zero_le _
def qB (k:Cli)(qn:Int):List (List Opn)×Cli:=
 (k.q.take (zP (k.cr+qn) k.q).1,{k with q:=k.q.drop (zP (k.cr+qn) k.q).1,cr:=if k.q.length<=(zP (k.cr+qn) k.q).1 then 0 else (zP (k.cr+qn) k.q).2})
theorem KlM.credit {C U:Nat->Prop}{w:World}{cp S:Nat}{k:Cli}{qv:Value}{mq:List (Value×List Opn)}{b:List Bool}(h:KlM C U w cp S k qv mq b)(hCU:∀ x,C x->¬U x)(cr:Int):KlM C U (w.setCell ⟨cp,1,none⟩ (.int .i64 cr)) cp S {k with cr:=cr} qv mq b:=by
 have hb:But (fun x=>x=cp) w (w.setCell ⟨cp,1,none⟩ (.int .i64 cr)):=(But.refl (fun x=>x=cp) w).setCell (p:=⟨cp,1,none⟩) (.inl rfl) _;refine⟨?_,qi h.row hb (fun g hg e=>qq h.row h.cell (by decide) (by rw[hg,e])),fun t ht=>(h.ops t ht).but hb (fun x hx e=>hCU cp h.cc (by rw[<-e];exact hx)),h.q,h.bl,h.own,h.cc,h.cq⟩;have:=qp (i:=1) h.cell (.int .i64 cr);simpa using this
theorem KlM.drewN {C U:Nat->Prop}{w:World}{cp S:Nat}{k:Cli}{qv:Value}{mq:List (Value×List Opn)}{b:List Bool}(h:KlM C U w cp S k qv mq b)(n:Nat):KlM C U (w.drewN n) cp S k qv mq b:=⟨h.cell,h.row,h.ops,h.q,h.bl,h.own,h.cc,h.cq⟩
structure AdI (C U:Nat->Prop)(w wr:World)(cp S:Nat)(k:Cli)(qv:Value)(mq:List (Value×List Opn))(b:List Bool)(cr0:Int)(j:Nat)(cr:Int):Prop where
 jn:j<=mq.length
 cb:0<=cr/\cr<=2000000
 eq:zP cr0 k.q=(j+(zP cr (k.q.drop j)).1,(zP cr (k.q.drop j)).2)
 kl:KlM C U wr cp S {k with cr:=cr} qv mq b
 bt:But (fun x=>x=cp) w wr
theorem AdI.go {C U:Nat->Prop}{w wr:World}{cp S:Nat}{k:Cli}{qv:Value}{mq:List (Value×List Opn)}{b:List Bool}{cr0:Int}{j:Nat}{cr:Int}(h:AdI C U w wr cp S k qv mq b cr0 j cr)(hCU:∀ x,C x->¬U x){o:List Opn}(ho:k.q[j]?=some o)(hc:0<=qA o/\qA o<=cr)(n:Nat):AdI C U w ((wr.drewN n).setCell ⟨cp,1,none⟩ (.int .i64 (cr-qA o))) cp S k qv mq b cr0 (j+1) (cr-qA o):=by
 have hjl:=(zzg ho).1;have hql:k.q.length=mq.length:=(by rw[<-h.kl.q];simp);have hd:k.q.drop j=o::k.q.drop (j+1):=by
  rw[<-List.getElem_cons_drop (h:=hjl)]
  congr 1
  exact (zzg ho).2
 have hcb:=h.cb;refine⟨by omega,by omega,?_,(h.kl.drewN n).credit hCU _,(h.bt.drewN n).setCell (p:=⟨cp,1,none⟩) (.inl rfl) _⟩;rw[h.eq,hd];simp only[zP,if_pos hc.2,Prod.mk.injEq,and_true];omega
theorem AdI.done {C U:Nat->Prop}{w wr:World}{cp S:Nat}{k:Cli}{qv:Value}{mq:List (Value×List Opn)}{b:List Bool}{cr0:Int}{j:Nat}{cr:Int}(h:AdI C U w wr cp S k qv mq b cr0 j cr)(hn:∀ o,k.q[j]?=some o->¬qA o<=cr):zP cr0 k.q=(j,cr):=by
 rw[h.eq]
 cases hd:k.q.drop j with
 | nil=>simp[zP]
 | cons o l=>
  have hjl:j<k.q.length:=by
   have:=congrArg List.length hd;simp at this;omega
  have ho:k.q[j]?=some o:=by
   have:=congrArg List.head? hd;simpa[List.head?_drop] using this
  simp[zP,hn o ho]
theorem XY {w:World}{g n cap:Nat}{mq:List (Value×List Opn)}(hO:qN w 0 195 (.slice (some ⟨g,0,none⟩) n cap) (mq.map zI))(h1:yN (mq.map zI))(hl:mq.length<=1000)(j:Nat)(hj:j<=mq.length) :
 Calls Tryz.prog 138 #[.slice (some ⟨g,0,none⟩) j cap] w fun e w'=>(∃ av,e=.returned av/\qN w' w.heap.size 195 av ((mq.take j).map zI))/\Below w.heap.size w w':=by
 obtain⟨R,hR,hc,_,hb,hm⟩:=hO.row;refine (zd9 (w:=w) (b:=g) (off:=0) (n:=j) (cap:=cap) (xs:=c2 ((mq.take j).map zI)) (by rw[zV,List.length_map,List.length_take];omega) (fun t u hu=>?_) (yN.cells (fun p hp=>h1 p ?_)) (by omega) (fun _=>qh hR)).mono ?_
 ·have ht:=(zzg hu).1;rw[zV,List.length_map,List.length_take] at ht;rw[Nat.zero_add,qe hR,List.getElem?_toArray,zs,List.getElem?_append_left (by rw[zV,List.length_map];omega)];rw[List.map_take,<-yG,List.getElem?_take_of_lt (by omega)] at hu;exact hu
 ·rw[List.map_take] at hp;exact List.mem_of_mem_take hp
 ·rintro e w' ⟨⟨cv,rfl,ho⟩,hb⟩;refine⟨⟨cv,rfl,?_⟩,hb⟩;have el:((mq.take j).map zI).length=j:=(by rw[List.length_map,List.length_take];omega);unfold qN;rw[el];exact ho
theorem J2 {w:World}{g n cap:Nat}{mq:List (Value×List Opn)}(hO:qN w 0 195 (.slice (some ⟨g,0,none⟩) n cap) (mq.map zI))(h1:yN (mq.map zI))(hl:mq.length<=1000)(j:Nat)(hj:j<=mq.length) :
 Calls Tryz.prog 139 #[.slice (some ⟨g,0,none⟩) n cap,.int .i64 0,.int .i64 (j:Int)] w fun e w'=>e=.returned (.slice (some ⟨g,0,none⟩) (n-j) cap)/\qN w' 0 195 (.slice (some ⟨g,0,none⟩) (n-j) cap) ((mq.drop j).map zI)/\But (fun k=>k=g) w w':=by
 obtain⟨R,hR,hc,hn,hb,hm⟩:=hO.row;have hn':n=mq.length:=by simpa using hn
 rcases Nat.eq_zero_or_pos j with rfl | hj0
 ·refine (QD w (some ⟨g,0,none⟩) n cap (by rw[List.length_append,List.length_map] at hc;omega)).mono ?_;rintro e w' ⟨rfl,q,rfl⟩;refine⟨by simp,by rw[Nat.sub_zero];exact hO,.of_below (below_drewN (Below.refl _ _) q)⟩
 ·subst hn';have hO':qN w 0 195 (.slice (some ⟨g,0,none⟩) (mq.map zI).length cap) (mq.map zI):=(by simpa using hO);have hD:(mq.drop j).map zI=(mq.map zI).take 0++(mq.map zI).drop j:=(by simp[List.map_drop]);have:=VX hO' h1 0 j (by omega) (by simpa using hj) (by simpa using hl) ((mq.drop j).map zI) hD;have el:((mq.drop j).map zI).length=mq.length-j:=(by simp);rw[el,List.length_map] at this;exact this
theorem qm5 {C U:Nat->Prop}{w wr w1 w2:World}{cp S:Nat}{k:Cli}{g n cap:Nat}{mq:List (Value×List Opn)}{b:List Bool}{cr0:Int}{j:Nat}{cr:Int}(h:AdI C U w wr cp S k (.slice (some ⟨g,0,none⟩) n cap) mq b cr0 j cr)(hCU:∀ x,C x->¬U x)(hB1:Below wr.heap.size wr w1)(hO2:qN w2 0 195 (.slice (some ⟨g,0,none⟩) (n-j) cap) ((mq.drop j).map zI))(hB2:But (fun k=>k=g) w1 w2) :
 KlM C U (w2.setCell ⟨cp,0,none⟩ (.slice (some ⟨g,0,none⟩) (n-j) cap)) cp S {k with q:=k.q.drop j,cr:=cr} (.slice (some ⟨g,0,none⟩) (n-j) cap) (mq.drop j) b/\But C w (w2.setCell ⟨cp,0,none⟩ (.slice (some ⟨g,0,none⟩) (n-j) cap)):=by
 have hk:=h.kl;have hcg:C g:=hk.cq g rfl;have hne:cp≠g:=fun e=>qq hk.row hk.cell (by decide) (by rw[e];rfl);have h1:=hk.but (T:=fun _=>False) (.of_below hB1) (fun _ _ e=>e) (fun _ _ e=>e);have hc2:=hB2.heap h1.cell hne;have hs:But (fun x=>x=cp) w2 (w2.setCell ⟨cp,0,none⟩ (.slice (some ⟨g,0,none⟩) (n-j) cap)):=(But.refl (fun x=>x=cp) w2).setCell (p:=⟨cp,0,none⟩) (.inl rfl) _;refine⟨⟨?_,?_,?_,?_,hk.bl,hk.own,hk.cc,fun x hx=>by simp[Value.ownBlock] at hx;subst hx;exact hcg⟩,?_⟩
 ·have:=qp (i:=0) hc2 (.slice (some ⟨g,0,none⟩) (n-j) cap);simpa using this
 ·exact qi hO2 hs (fun x hx e=>by simp[Value.ownBlock] at hx;omega)
 ·intro t ht;exact ((h1.ops t (List.mem_of_mem_drop ht)).but hB2 (fun x hx e=>hCU g hcg (by rw[<-e];exact hx))).but hs (fun x hx e=>hCU cp hk.cc (by rw[<-e];exact hx))
 ·rw[List.map_drop,hk.q]
 ·exact ((h.bt.wide (fun x _ e=>by rw[e];exact hk.cc)).trans ((But.of_below hB1).trans (hB2.wide (fun x _ e=>by rw[e];exact hcg)))).trans (hs.wide (fun x _ e=>by rw[e];exact hk.cc))
def Z9 (C U:Nat->Prop)(w:World)(cp S:Nat)(k:Cli)(qn:Int)(e:Ending)(w':World):Prop:=
 (∃ (av:Value)(ma:List (Value×List Opn)),e=.returned av/\qN w' w.heap.size 195 av (ma.map zI)/\ma.map Prod.snd=(qB k qn).1/\(∀ t∈ma,RdO U w' t.1 t.2)/\Xs C U w' cp S (qB k qn).2)/\But C w w'
theorem Zn {w:World}{b b':Nat}{t:TypeId}{v:Value}{l:List P2}(h:qN w b t v l)(hb:b'<=b):qN w b' t v l:=by
 refine⟨h.1,?_⟩
 rcases h.2 with h | ⟨g,c,cur,e,hg,r⟩
 ·exact .inl h
 ·exact .inr ⟨g,c,cur,e,Nat.le_trans hb hg,r⟩
theorem J1 {C U:Nat->Prop}{w wr w1 w2:World}{cp S:Nat}{k:Cli}{g n cap:Nat}{mq:List (Value×List Opn)}{b:List Bool}{j m:Nat}{cr qn:Int}{av:Value}(h:AdI C U w wr cp S k (.slice (some ⟨g,0,none⟩) n cap) mq b (k.cr+qn) j cr)(hd:zP (k.cr+qn) k.q=(j,cr))(hCU:∀ x,C x->¬U x)(hav:qN w1 wr.heap.size 195 av ((mq.take j).map zI))(hB1:Below wr.heap.size wr w1)(hm:m=n-j)(hO2:qN w2 0 195 (.slice (some ⟨g,0,none⟩) m cap) ((mq.drop j).map zI))(hB2:But (fun k=>k=g) w1 w2) :
 (¬k.q.length<=j->Z9 C U w cp S k qn (.returned av) (w2.setCell ⟨cp,0,none⟩ (.slice (some ⟨g,0,none⟩) m cap)))/\(k.q.length<=j->Z9 C U w cp S k qn (.returned av) ((w2.setCell ⟨cp,0,none⟩ (.slice (some ⟨g,0,none⟩) m cap)).setCell ⟨cp,1,none⟩ (.int .i64 0))):=by
 subst hm;have hk:=h.kl;obtain⟨hE,hB⟩:=qm5 h hCU hB1 hO2 hB2;have hcg:C g:=hk.cq g rfl;have hg:=qh (qE hk.row (k:=g) rfl).choose_spec.choose_spec;have hcp:=qh hk.cell;have h1:=hk.but (T:=fun _=>False) (.of_below hB1) (fun _ _ e=>e) (fun _ _ e=>e);obtain⟨w3,hw3⟩:∃ w3,w3=w2.setCell ⟨cp,0,none⟩ (.slice (some ⟨g,0,none⟩) (n-j) cap):=⟨_,rfl⟩;have hs:But (fun x=>x=g\/x=cp) w1 w3:=(by rw[hw3];exact (hB2.wide (fun _ _ e=>.inl e)).setCell (p:=⟨cp,0,none⟩) (.inl (.inr rfl)) _);rw[<-hw3] at hE hB ⊢;have hne:∀ x,av.ownBlock=some x->¬(x=g\/x=cp):=fun x hx c=>by have:=(World.ownsRow.lt hav x hx).1;omega
 have hav3:=qi hav hs hne;have hops:∀ t∈mq,RdO U w3 t.1 t.2:=fun t ht=>(h1.ops t ht).but hs (fun x hx c=>by
  rcases c with e | e
  ·exact hCU g hcg (by rw[<-e];exact hx)
  ·exact hCU cp hk.cc (by rw[<-e];exact hx))
 have e1:(mq.take j).map Prod.snd=(qB k qn).1:=(by simp only[qB,hd];rw[List.map_take,hk.q]);refine⟨fun hn=>⟨⟨av,mq.take j,rfl,Zn hav3 h.bt.size,e1,fun t ht=>hops t (List.mem_of_mem_take ht),?_⟩,hB⟩,fun hn=>?_⟩
 ·have:(qB k qn).2={k with q:=k.q.drop j,cr:=cr}:=(by simp only[qB,hd,if_neg hn]);rw[this];exact⟨_,_,_,hE⟩
 ·have hs4:But (fun x=>x=cp) w3 (w3.setCell ⟨cp,1,none⟩ (.int .i64 0)):=(But.refl (fun x=>x=cp) w3).setCell (p:=⟨cp,1,none⟩) (.inl rfl) _;refine⟨⟨av,mq.take j,rfl,Zn (qi hav3 hs4 (fun x hx e=>hne x hx (.inr e))) h.bt.size,e1,fun t ht=>(hops t (List.mem_of_mem_take ht)).but hs4 (fun x hx e=>hCU cp hk.cc (by rw[<-e];exact hx)),?_⟩,hB.trans (hs4.wide (fun x _ e=>by rw[e];exact hk.cc))⟩;have:(qB k qn).2={k with q:=k.q.drop j,cr:=0}:=(by simp only[qB,hd,if_pos hn]);rw[this];exact⟨_,_,_,hE.credit hCU 0⟩
theorem qn7 {C U:Nat->Prop}{w:World}{cp S:Nat}{k:Cli}(h:Xs C U w cp S k)(hCl:∀ x,C x->x<w.heap.size)(hCU:∀ x,C x->¬U x)(qn:Int)(hl:k.q.length<=1000)(hq:0<=qn/\qn<=1000000)(hcr:0<=k.cr/\k.cr<=1000000)(hco:∀ o∈k.q,0<=qA o/\qA o<=1000000) :
 Calls Tryz.prog 117 #[.pointer (some ⟨cp,0,none⟩),.int .i64 qn] w (Z9 C U w cp S k qn):=by
 obtain⟨qv,mq,b,hK⟩:=h;have hml:k.q.length=mq.length:=(by rw[<-hK.q];simp);have c0:w.cell? ⟨cp,0,none⟩=some qv:=qe hK.cell 0;have c1:w.cell? ⟨cp,1,none⟩=some (.int .i64 k.cr):=qe hK.cell 1;have f0:∀ j,w.frozen? ⟨cp,j,none⟩=false:=fun j=>qj hK.cell j;have e1:IntKind.i64.wrap (k.cr+qn)=k.cr+qn:=by rw[IntKind.wrap_i64];omega
 rcases hK.row.2 with ⟨hv,hn⟩ | ⟨g,cap,cur,hv,_,hg,hcc,hm,hz,ht⟩
 ·have hmq:mq=[]:=(by simpa using hn);subst hmq hv;have hqe:k.q=[]:=(by rw[<-hK.q];rfl);have hE:∀ n:Nat,Z9 C U w cp S k qn (.returned (.slice none 0 0)) ((((w.setCell ⟨cp,1,none⟩ (.int .i64 (k.cr+qn))).drewN n).setCell ⟨cp,0,none⟩ (.slice none 0 0)).setCell ⟨cp,1,none⟩ (.int .i64 0)):=fun n=>by
   have h1:=(hK.credit hCU (k.cr+qn)).drewN n;have hb1:But C w ((w.setCell ⟨cp,1,none⟩ (.int .i64 (k.cr+qn))).drewN n):=((But.refl C w).setCell (p:=⟨cp,1,none⟩) (.inl hK.cc) _).drewN n;generalize (w.setCell ⟨cp,1,none⟩ (.int .i64 (k.cr+qn))).drewN n=w1 at *;have hb2:But C w1 ((w1.setCell ⟨cp,0,none⟩ (.slice none 0 0)).setCell ⟨cp,1,none⟩ (.int .i64 0)):=((But.refl C w1).setCell (p:=⟨cp,0,none⟩) (.inl hK.cc) _).setCell (p:=⟨cp,1,none⟩) (.inl hK.cc) _;refine⟨⟨.slice none 0 0,[],rfl,⟨rfl,.inl ⟨rfl,rfl⟩⟩,by simp[qB,hqe],fun t ht=>by simp at ht,.slice none 0 0,[],b,?_,⟨rfl,.inl ⟨rfl,rfl⟩⟩,fun t ht=>by simp at ht,by simp[qB,hqe],hK.bl,hK.own,hK.cc,fun g hg=>by simp[Value.ownBlock] at hg⟩,hb1.trans hb2⟩;have:=qp (i:=1) (qp (i:=0) h1.cell (.slice none 0 0)) (.int .i64 0);simpa[qB,hqe] using this
  have HE:=qg hE;have CN:=qg (fun w=>zd8 w);have CD:=qg (fun w=>QD w none 0 0 (zzl _));clear hE hK hqe hml hco hl hcr hq hn
  go_enter Tryz.func117,Tryz.ntmps117
  go_wp2
  go_loopw [5] (fun m wr=>m=.int .i64 0/\∃ q,wr=(w.setCell ⟨cp,1,none⟩ (.int .i64 (k.cr+qn))).drewN q) (fun _ _=>0)
  case atStart=>exact⟨rfl,0,rfl⟩
  case round=>
   obtain⟨rfl,q,rfl⟩:=hrel;have hd:decide ((0:Int)<((0:Nat):Int))=false:=rfl;go_wp2
   go_quiet (fail)
   go_wp2_with (first | (go_at_call 138;refine ((qb CN) _).mono ?_;rintro e w' ⟨rfl,rfl⟩) | (go_at_call 139;refine ((qb CD) _).mono ?_;rintro e w' ⟨rfl,q',rfl⟩))
   go_ret;exact (qb HE) _
 ·subst hv;obtain⟨n,hnn⟩:∃ n,n=(mq.map zI).length:=⟨_,rfl⟩;have hnm:n=mq.length:=(by simpa using hnn);rw[<-hnn] at c0 hK;have hcap:n<=cap:=(by rw[hnn];exact hcc);have hn3:n<=1000:=(by omega);have h0:AdI C U w (w.setCell ⟨cp,1,none⟩ (.int .i64 (k.cr+qn))) cp S k (.slice (some ⟨g,0,none⟩) n cap) mq b (k.cr+qn) 0 (k.cr+qn):=⟨Nat.zero_le _,by omega,by simp,hK.credit hCU _,(But.refl (fun x=>x=cp) w).setCell (p:=⟨cp,1,none⟩) (.inl rfl) _⟩;have hcost:∀ (j:Nat)(o:List Opn),k.q[j]?=some o->0<=qA o/\qA o<=1000000:=fun j o ho=>hco o (zzn ho);have H0:=qg h0;have HCO:=qg hcost;have HML:=qg hml;have HNM:=qg hnm;have HCU:=qg hCU;have HKB:=qg hK.cc;have HQN:=qg hnn;clear h0 hcost hco hcr hq hml hnm hCU hK hnn hg hcc hm hz ht hCl
  go_enter Tryz.func117,Tryz.ntmps117
  go_wp2
  go_loopw [5] (fun m wr=>∃ (j:Nat)(cr:Int),m=.int .i64 j/\AdI C U w wr cp S k (.slice (some ⟨g,0,none⟩) n cap) mq b (k.cr+qn) j cr) (fun m _=>n-(intOf m).toNat)
  case atStart=>exact⟨0,_,rfl,qb H0⟩
  case round=>
   rename World=>wq;obtain⟨j,cr,rfl,hI⟩:=hrel;have hk:=hI.kl;have d0:wq.cell? ⟨cp,0,none⟩=some (.slice (some ⟨g,0,none⟩) n cap):=qe hk.cell 0;have d1:wq.cell? ⟨cp,1,none⟩=some (.int .i64 cr):=qe hk.cell 1;have dz:∀ j,wq.frozen? ⟨cp,j,none⟩=false:=fun j=>qj hk.cell j;have hjn:j<=n:=(by have:=hI.jn;have:=qb HNM;omega);have i0:(0:Int)<=(j:Int):=(by omega);have hcb:=hI.cb
   by_cases hlt:j<n
   ·obtain⟨o,ho⟩:∃ o,k.q[j]?=some o:=⟨k.q[j]'(by have:=qb HML;have:=qb HNM;omega),by simp⟩;have hcst:=(qb HCO) j o ho;obtain⟨R,hR,hc,-,hb,hm⟩:=hk.row.row;have hmo:∃ v,mq[j]?=some (v,o):=by
     have e:(mq.map Prod.snd)[j]?=some o:=(by rw[hk.q];exact ho);rw[List.getElem?_map] at e;obtain⟨⟨v,o'⟩,h1,h2⟩:=Option.map_eq_some_iff.1 e;exact⟨v,by rw[h1];simp at h2;rw[h2]⟩
    obtain⟨v,hv⟩:=hmo;have q1:wq.cell? ⟨g,j*2+1,none⟩=some (.int .i64 (qA o)):=by
     have hq:(mq.map zI)[j]?=some (zI (v,o)):=(by rw[List.getElem?_map,hv];rfl);have:=(XV _ j _ hq).2;rw[qe hR,List.getElem?_toArray,zs,List.getElem?_append_left (zzg this).1,this]
     rfl
    have i1:(j:Int)<(n:Int):=(by omega);obtain⟨co,hco⟩:∃ co,co=qA o:=⟨_,rfl⟩;rw[<-hco] at q1 hcst;have HI:=qg hI;have HO:=qg ho;have HCC:=qg hco;clear hI hk hR hc hb hm hv ho hco;have d1t:decide ((j:Int)<(n:Int))=true:=by simp;omega
    by_cases hle:co<=cr
    ·have e2:IntKind.i64.wrap (cr-co)=cr-co:=(by rw[IntKind.wrap_i64];omega);have d2t:decide (co<=cr)=true:=(by simp;omega);go_wp2
     go_quiet (fail)
     go_wp2;go_region;go_wp2
     go_roundw
     case rel=>
      have:=(qb HI).go (qb HCU) (qb HO) (by rw[<-qb HCC];omega);rw[<-qb HCC] at this;exact⟨j+1,cr-co,by go_num,this _⟩
     case measure=>simp[intOf];omega
    ·have d2f:decide (co<=cr)=false:=(by simp;omega);have hdn:=(qb HI).done (fun o' ho' hle'=>by rw[qb HO] at ho';cases ho';rw[<-qb HCC] at hle';exact hle hle');have HDN:=qg hdn;have i2:(j:Int)<=(n:Int):=(by omega);have i3:(j:Int)<=(cap:Int):=(by omega);clear hdn hcst HO HCC;go_wp2
     go_quiet (fail)
     have hI2:AdI C U w (wq.drewN nq) cp S k (.slice (some ⟨g,0,none⟩) n cap) mq b (k.cr+qn) j cr:=⟨(qb HI).jn,(qb HI).cb,(qb HI).eq,(qb HI).kl.drewN nq,(qb HI).bt.drewN nq⟩;clear d0 d1 dz q1;generalize wq.drewN nq=W at *;have t0:W.cell? ⟨cp,0,none⟩=some (.slice (some ⟨g,0,none⟩) n cap):=qe hI2.kl.cell 0;obtain⟨m,hm⟩:∃ m,m=n-j:=⟨_,rfl⟩;have HM:=qg hm;have HCL:=qg (XY hI2.kl.row (yr hI2.kl.ops) (by have:=qb HNM;omega) j hI2.jn);have HI2:=qg hI2;have hm0:¬(m:Int)=0:=(by omega);have hm1:((m:Int) == 0)=false:=(by simpa using hm0);clear hI2 hm
     go_wp2_with (first
       | (go_at_call 138
          refine (qb HCL).mono ?_
          rintro e w1 ⟨⟨av,rfl,hav⟩,hb1⟩
          have hk1:=(qb HI2).kl.but (T:=fun _=>False) (.of_below hb1) (fun _ _ e=>e) (fun _ _ e=>e)
          have u0:w1.cell? ⟨cp,0,none⟩=some (.slice (some ⟨g,0,none⟩) n cap):=qe hk1.cell 0
          have hDL:=J2 hk1.row (yr hk1.ops) (by have:=qb HNM;omega) j (qb HI2).jn
          rw[<-qb HM] at hDL
          have HDL:=qg hDL
          have HAV:=qg hav
          have HB1:=qg hb1
          have HK1:=qg hk1
          clear hDL hav hb1 hk1)
       | (go_at_call 139
          refine (qb HDL).mono ?_
          rintro e w2 ⟨rfl,hO2,hB2⟩
          have hcl2:=hB2.heap (qb HK1).cell (fun e=>qq (qb HK1).row (qb HK1).cell (by decide) (by rw[e];rfl))
          have x0:w2.cell? ⟨cp,0,none⟩=some (.slice (some ⟨g,0,none⟩) n cap):=qe hcl2 0
          have x1:w2.cell? ⟨cp,1,none⟩=some (.int .i64 cr):=qe hcl2 1
          have xz:∀ j,w2.frozen? ⟨cp,j,none⟩=false:=fun j=>qj hcl2 j
          have HP:=qg (J1 (qb HI2) (qb HDN) (qb HCU) (qb HAV) (qb HB1) (qb HM) hO2 hB2)
          clear hO2 hB2 hcl2))
     go_ret;exact (qb HP).1 (by have:=qb HML;have:=qb HNM;omega)
   ·have d1f:decide ((j:Int)<(n:Int))=false:=(by simp;omega);have q1:True:=trivial;have hdn:=hI.done (fun o' ho'=>by have:=(zzg ho').1;have:=qb HML;have:=qb HNM;omega);have HDN:=qg hdn;have HI:=qg hI;have i2:(j:Int)<=(n:Int):=(by omega);have i3:(j:Int)<=(cap:Int):=(by omega);clear hdn hI hk;go_wp2
    go_quiet (fail)
    have hI2:AdI C U w (wq.drewN nq) cp S k (.slice (some ⟨g,0,none⟩) n cap) mq b (k.cr+qn) j cr:=⟨(qb HI).jn,(qb HI).cb,(qb HI).eq,(qb HI).kl.drewN nq,(qb HI).bt.drewN nq⟩;clear d0 d1 dz q1;generalize wq.drewN nq=W at *;have t0:W.cell? ⟨cp,0,none⟩=some (.slice (some ⟨g,0,none⟩) n cap):=qe hI2.kl.cell 0;obtain⟨m,hm⟩:∃ m,m=n-j:=⟨_,rfl⟩;have HM:=qg hm;have HCL:=qg (XY hI2.kl.row (yr hI2.kl.ops) (by have:=qb HNM;omega) j hI2.jn);have HI2:=qg hI2;have hm0:m=0:=(by omega);subst hm0;clear hI2 hm
    go_wp2_with (first
      | (go_at_call 138
         refine (qb HCL).mono ?_
         rintro e w1 ⟨⟨av,rfl,hav⟩,hb1⟩
         have hk1:=(qb HI2).kl.but (T:=fun _=>False) (.of_below hb1) (fun _ _ e=>e) (fun _ _ e=>e)
         have u0:w1.cell? ⟨cp,0,none⟩=some (.slice (some ⟨g,0,none⟩) n cap):=qe hk1.cell 0
         have hDL:=J2 hk1.row (yr hk1.ops) (by have:=qb HNM;omega) j (qb HI2).jn
         rw[<-qb HM] at hDL
         have HDL:=qg hDL
         have HAV:=qg hav
         have HB1:=qg hb1
         have HK1:=qg hk1
         clear hDL hav hb1 hk1)
      | (go_at_call 139
         refine (qb HDL).mono ?_
         rintro e w2 ⟨rfl,hO2,hB2⟩
         have hcl2:=hB2.heap (qb HK1).cell (fun e=>qq (qb HK1).row (qb HK1).cell (by decide) (by rw[e];rfl))
         have x0:w2.cell? ⟨cp,0,none⟩=some (.slice (some ⟨g,0,none⟩) n cap):=qe hcl2 0
         have x1:w2.cell? ⟨cp,1,none⟩=some (.int .i64 cr):=qe hcl2 1
         have xz:∀ j,w2.frozen? ⟨cp,j,none⟩=false:=fun j=>qj hcl2 j
         have HP:=qg (J1 (qb HI2) (qb HDN) (qb HCU) (qb HAV) (qb HB1) (qb HM) hO2 hB2)
         clear hO2 hB2 hcl2))
    go_ret;exact (qb HP).2 (by have:=qb HML;have:=qb HNM;omega)
end Go.Proofs.YtfnockbgkcgpkaaGreat
