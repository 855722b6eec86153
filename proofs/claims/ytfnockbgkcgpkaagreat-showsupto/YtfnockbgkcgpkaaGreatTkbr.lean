import Derived.Test.YtfnockbgkcgpkaaGreatTkbq
set_option linter.all false
set_option maxRecDepth 100000
set_option maxHeartbeats 16000000
namespace Go.Proofs.YtfnockbgkcgpkaaGreat
open Go.RowKit Go.Proofs.Panes
section
variable {D U:Nat->Prop}{qo:Nat->Nat}{w w1 w2 w':World}{rp cb j:Nat}{d d' d'':Dc}{v:Dv}{pvs:List Value}{k:Cli}
theorem YV (h:qU D U qo w rp d v pvs)(hj:d.ks[j]?=some none)(hn4:d.ks.length<=1000) :
 Calls Tryz.prog 92 #[.pointer (some ⟨rp,0,none⟩),.int .i64 (j:Int)] w fun e w'=>e=.returned (.int .i64 0)/\qX D U qo w rp v.cb d w':=by
 obtain⟨cl,hcl,hd⟩:=h.kl j none hj;have hd':cl=⟨false,.slice none 0 0,0,.slice none 0 0⟩:=hd;have hjl:=(zzg hj).1;have hA:=h.adf hcl (ro:=none) (n:=0) (qc:=0) (by rw[hd']);have hcr:cl.cr=0:=(by rw[hd']);rw[hcr] at hA;have hG:qX D U qo w rp v.cb d (w.setCell ⟨v.cb,j*4+2,none⟩ (.int .i64 0)):=by
  have hb:But (fun x=>x=v.cb) w (w.setCell ⟨v.cb,j*4+2,none⟩ (.int .i64 0)):=(But.refl (fun x=>x=v.cb) w).setCell (p:=⟨v.cb,j*4+2,none⟩) (.inl rfl) _;have h1:=qp (i:=j*4+2) h.cls (.int .i64 0);have h2:=yE v.cl j cl hcl 2 (.int .i64 0) cl (by omega) (by rw[hd'];rfl);have hc:=h.cli (x':=none) (cl':=cl) hjl hcl hb (by
   rw[h1,<-h2];simp) hd rfl
  rw[vP hj,vP hcl] at hc;exact⟨D,v,pvs,hc,fun x hx=>.inl hx,rfl,(But.refl D w).setCell (p:=⟨v.cb,j*4+2,none⟩) (.inl h.cb.2.1) _⟩
 obtain⟨cb,hcb⟩:∃ cb,cb=v.cb:=⟨_,rfl⟩;obtain⟨nk,hnk⟩:∃ nk,nk=d.ks.length:=⟨_,rfl⟩;obtain⟨qn,hqn⟩:∃ qn,qn=d.c.quantum:=⟨_,rfl⟩;rw[<-hcb] at hG hA ⊢;rw[<-hnk,<-hqn] at hA;have j0:(0:Int)<=(j:Int):=(by omega);have j1:(j:Int)<(nk:Int):=(by omega);obtain⟨c8,c5,q1,q2,lr,lc,fz,fr,ne,ne'⟩:=hA;have z2:=fz (j*4+2);have HG:=qg hG;clear hG h hj hn4 hcl hd hd' hjl hcr hcb hnk hqn fz fr
 go_enter Tryz.func92,Tryz.ntmps92
 go_wp2
 go_loopw [5] (fun x wr=>x=.int .i64 0/\wr=w) (fun _ _=>0)
 case atStart=>exact⟨rfl,rfl⟩
 case round=>
  obtain⟨rfl,rfl⟩:=hrel;go_wp2;go_ret;exact⟨rfl,qb HG⟩
theorem qX.trans (h:qX D U qo w rp cb d w1)(hk:∀ D1 v1 pvs1,qU D1 U qo w1 rp d v1 pvs1->v1.cb=cb->qX D1 U qo w1 rp cb d' w'):qX D U qo w rp cb d' w':=by
 obtain⟨D1,v1,pvs1,h1,h2,h3,h4⟩:=h;obtain⟨D2,v2,pvs2,k1,k2,k3,k4⟩:=hk D1 v1 pvs1 h1 h3;have hz:=h4.size;refine⟨D2,v2,pvs2,k1,fun x hx=>?_,k3,h4.step k4 h2⟩
 rcases k2 x hx with e | e
 ·exact h2 x e
 ·exact .inr (by omega)
end
section
variable {D U:Nat->Prop}{qo:Nat->Nat}{w w1 w2 w':World}{rp cb j:Nat}{d d' d'':Dc}{v:Dv}{pvs:List Value}{k:Cli}
theorem DSc.buf (h:DSc U w rp d v pvs){i:Nat}(hi:i<3):w.cell? ⟨rp,10+i*3,none⟩=some (v.pp i)/\w.cell? ⟨rp,10+i*3+1,none⟩=some (.slice (some ⟨v.g i,0,none⟩) d.N d.N)/\w.cell? ⟨rp,10+i*3+2,none⟩=some (.int .i64 (d.fn i)):=by
 rcases (show i=0\/i=1\/i=2 by omega) with rfl | rfl | rfl
 ·exact⟨qe h.blk 10,qe h.blk 11,qe h.blk 12⟩
 ·exact⟨qe h.blk 13,qe h.blk 14,qe h.blk 15⟩
 ·exact⟨qe h.blk 16,qe h.blk 17,qe h.blk 18⟩
theorem qh3 (h:qU D U qo w rp d v pvs)(hf:d.front<3):Calls Tryz.prog 22 #[.pointer (some ⟨rp,0,none⟩)] w fun e w'=>(∃ b,e=.returned (.slice (some ⟨b,0,none⟩) (d.p d.front).length (d.p d.front).length)/\w.heap[b]?=some (.cells ((d.p d.front).map (Value.int .i64)).toArray 3 (0,0)))/\Below w.heap.size w w':=by
 obtain⟨b,hb,-,hbk⟩:=h.pic d.front hf;obtain⟨c1,-,-⟩:=h.sc.buf hf;rw[hb] at c1;obtain⟨f,hff⟩:∃ f,f=d.front:=⟨_,rfl⟩;obtain⟨L,hL⟩:∃ L,L=(d.p d.front).length:=⟨_,rfl⟩;have c19:w.cell? ⟨rp,19,none⟩=some (.int .i64 (f:Int)):=(by rw[hff];exact qe h.sc.blk 19);rw[<-hL] at c1 ⊢;rw[<-hff] at c1;have f0:(0:Int)<=(f:Int):=(by omega);have f1:(f:Int)<3:=(by omega);have lr:=qh h.sc.blk;have HB:=qg hbk;clear hff hL hb hbk h hf
 go_enter Tryz.func22,Tryz.ntmps22
 go_wp2
 (try go_quiet (fail))
 (try go_wp2)
 (try go_region)
 (try go_wp2)
 go_ret;exact⟨⟨b,rfl,qb HB⟩,by first | exact Below.refl _ _ | exact below_drewN (Below.refl _ _) _ | exact (Below.refl _ _).drew⟩
end
section
variable {D D' U S:Nat->Prop}{qo qo':Nat->Nat}{w w1 w2 w':World}{rp cb j:Nat}{d d' d'':Dc}{v:Dv}{pvs:List Value}{k:Cli}
theorem qU.cli2 (h:qU D U qo w rp d v pvs){cl cl':DCl}{x':Option Cli}(hj:j<d.ks.length)(hcl:v.cl[j]?=some cl)(hb:But S w w')(hS:∀ x,S x->x=v.cb\/(qo x=j+1/\∃ cs,w.heap[x]?=some (.cells cs 53 (0,0))))
 (hcls:w'.heap[v.cb]?=some (.cells (qG (v.cl.set j cl')).toArray 123 (0,0))) (hd:DK D' (fun y=>qo' y=j+1) U w' cl' x') (hwg:∀ i,i<3->cl'.wv.ownBlock≠some (v.g i)) (hD:∀ x,D x->D' x) (hDU:∀ x,D' x->¬U x) (hdl:∀ x,D' x->x<w'.heap.size) (hqo:∀ x,qo x≠0->qo' x=qo x) (hqd:∀ x,qo' x≠0->D' x) :
 qU D' U qo' w' rp {d with ks:=d.ks.set j x'} {v with cl:=v.cl.set j cl'} pvs:=by
 obtain⟨c1,c2,c3,c4,c5,c6⟩:=h.cb;have hty:∀ {k:Nat}{cs:Array Value}{t:TypeId}{fz:Nat×Nat},w.heap[k]?=some (.cells cs t fz)->t≠123->t≠53->¬S k:=fun hk ht ht2 e=>by
  rcases hS _ e with q | ⟨-,cs,q⟩
  ·rw[q,h.cls] at hk;simp only[Option.some.injEq,Obj.cells.injEq] at hk;exact ht hk.2.1.symm
  ·rw[q] at hk;simp only[Option.some.injEq,Obj.cells.injEq] at hk;exact ht2 hk.2.1.symm
 have hrow:∀ {e:TypeId}{size:Nat}{u:Value}{n:Nat}{xs:List Value}{base:Nat},w.ownsRow base e size u n xs->123≠e->53≠e->∀ k,u.ownBlock=some k->¬S k:=fun hr ht ht2 k hk e=>by
  rcases hS _ e with q | ⟨-,cs,q⟩
  ·exact qq hr h.cls ht (by rw[<-q];exact hk)
  ·exact qq hr q ht2 hk
 have hSD:∀ k,S k->D k:=fun k e=>by
  rcases hS k e with q | ⟨q,-⟩
  ·rw[q];exact c2
  ·exact h.qd k (by omega)
 have hnU:∀ k,U k->¬S k:=fun k hu e=>h.dU k (hSD k e) hu;have hsc:DSc U w' rp {d with ks:=d.ks.set j x'} {v with cl:=v.cl.set j cl'} pvs:=by
  refine⟨?_,fun i hi=>⟨qi (h.sc.st i hi).1 hb (hrow (h.sc.st i hi).1 (by decide) (by decide)),(h.sc.st i hi).2⟩,h.sc.gi,h.sc.sf.but hb (hrow h.sc.sf.own (by decide) (by decide)) hnU,h.sc.pl,h.sc.far,h.sc.cfg,h.sc.len,qi h.sc.wt hb (hrow h.sc.wt (by decide) (by decide)),h.sc.wU⟩;rw[qv5];exact hb.heap h.sc.blk (hty h.sc.blk (by decide) (by decide))
 refine⟨hsc,hcls,by rw[List.length_set,List.length_set];exact h.kn,fun i x hx=>?_,fun i hi=>((h.pic i hi).but hb (fun k cs fz hc=>hty hc (by decide) (by decide))).mono hD,fun hp=>((h.fpc hp).but hb (fun k cs fz hc=>hty hc (by decide) (by decide))).mono hD,qi h.mks hb (hrow h.mks (by decide) (by decide)),h.mw,fun i c t hc ht=>?_,⟨hD _ c1,hD _ c2,fun i hi=>hD _ (c3 i hi),fun x hx=>hD _ (c4 x hx),fun x hx=>hD _ (c5 x hx),fun x hx=>hD _ (c6 x hx)⟩,hqd,hDU,hdl⟩
 ·have hx2:(d.ks.set j x')[i]?=some x:=hx;rw[List.getElem?_set] at hx2;have hjl:j<v.cl.length:=(zzg hcl).1
  by_cases e:j=i
  ·subst e;rw[if_pos rfl,if_pos hj] at hx2;simp only[Option.some.injEq] at hx2;subst hx2;exact⟨cl',List.getElem?_set_self hjl,hd⟩
  ·rw[if_neg e] at hx2;obtain⟨c,h1,hdk⟩:=h.kl i x hx2;refine⟨c,by show (v.cl.set j cl')[i]?=_;rw[List.getElem?_set_ne e];exact h1,?_⟩;refine (hdk.but hb (fun k hk e2=>?_) (fun k cs hq hc e2=>?_) hnU).mono hD (fun y (hy:qo y=i+1)=>show qo' y=i+1 by rw[hqo y (by omega)];exact hy)
   ·cases x with
    | none=>
     have:c=⟨false,.slice none 0 0,0,.slice none 0 0⟩:=hdk;rw[this] at hk
     cases hk
    | some kk=>
     obtain⟨mq,hkl⟩:=hdk;exact hrow hkl.wl (by decide) (by decide) k hk e2
   ·rcases hS k e2 with q | ⟨q,-⟩
    ·rw[q,h.cls] at hc;simp at hc
    ·have hq':qo k=i+1:=hq;omega
 ·have hc':(v.cl.set j cl')[i]?=some c:=hc;rw[List.getElem?_set] at hc'
  by_cases e:j=i
  ·subst e;rw[if_pos rfl,if_pos (zzg hcl).1] at hc';simp only[Option.some.injEq] at hc';subst hc';exact hwg t ht
  ·rw[if_neg e] at hc';exact h.wg i c t hc' ht
theorem qU.docst (h:qU D U qo w rp d v pvs):jR w rp v.cb d.c v.cl:=⟨⟨_,h.sc.blk,rfl,rfl,rfl,rfl,rfl,rfl,rfl,rfl,rfl⟩,h.cls⟩
theorem qU.there (h:qU D U qo w rp d v pvs){i:Nat}{cl:DCl}(hcl:v.cl[i]?=some cl):∃ x,d.ks[i]?=some x/\cl.there=x.isSome:=by
 have hi:i<d.ks.length:=(by rw[<-h.kn];exact (zzg hcl).1);obtain⟨x,hx⟩:∃ x,d.ks[i]?=some x:=⟨d.ks[i],by simp⟩;obtain⟨c,h1,h2⟩:=h.kl i x hx;rw[hcl] at h1;simp only[Option.some.injEq] at h1;subst h1;refine⟨x,hx,?_⟩
 cases x with
 | none=>
  have:cl=⟨false,.slice none 0 0,0,.slice none 0 0⟩:=h2;rw[this];rfl
 | some kk=>obtain⟨mq,hk⟩:=h2;exact hk.th
theorem JD:∀ (l:List DCl)(ks:List (Option Cli)),l.length=ks.length->(∀ (i:Nat)(c:DCl)(x:Option Cli),l[i]?=some c->ks[i]?=some x->c.there=x.isSome)->zy l=qC ks
 | [],[],_,_=>rfl
 | [],_::_,h,_=>by simp at h
 | _::_,[],h,_=>by simp at h
 | c::l,x::ks,h,ha=>by
  have h0:=ha 0 c x rfl rfl;have ih:=JD l ks (by simpa using h) (fun i c x h1 h2=>ha (i+1) c x (by simpa using h1) (by simpa using h2))
  cases x with
  | none=>
   have:c.there=false:=h0;simp[zy,qC,this]
  | some kk=>
   have:c.there=true:=h0;simp[zy,qC,this,ih]
end
section
variable {D D' U S:Nat->Prop}{qo qo':Nat->Nat}{w w1 w2 w':World}{rp cb j:Nat}{d d' d'':Dc}{v:Dv}{pvs:List Value}{k:Cli}
theorem XD {w:World}{base base':Nat}{v:Value}{l:List Bool}(h:ze w base v l)(hb:base'<=base):ze w base' v l:=
 ⟨h.1,h.2.imp id (fun ⟨g,cap,cur,h1,h2,h3⟩=>⟨g,cap,cur,h1,Nat.le_trans hb h2,h3⟩)⟩
theorem YP (h:qU D U qo w rp d v pvs)(hUl:∀ x,U x->x<w.heap.size)(hn4:d.ks.length<=4) :
 Calls Tryz.prog 16 #[.pointer (some ⟨rp,0,none⟩)] w fun e w'=>(∃ i,qC d.ks=some i/\e=.returned (.tuple #[.int .i64 ((i:Nat):Int),.int .i64 0])/\qX D U qo w rp v.cb {d with ks:=d.ks.set i (some (yS d.c))} w')\/(qC d.ks=none/\e=.returned (.tuple #[.int .i64 0,.int .i64 5])/\w'=w):=by
 have hc:=Qy h.sc.cfg;have hs:=hc.surfaces;have hff:zy v.cl=qC d.ks:=JD _ _ h.kn (fun i c x h1 h2=>by
  obtain⟨y,hy,e⟩:=h.there h1;rw[h2] at hy;rw[e,<-Option.some.inj hy])
 refine (JO h.docst d.c.surfaces.toNat (by omega) (by omega) (by rw[h.kn];exact hn4)).mono ?_;rintro e w' (⟨i,h1,rfl,g,hg,hst,hO,hb⟩ | ⟨h1,rfl,rfl⟩)
 ·left
  rw[hff] at h1;refine⟨i,h1,rfl,?_⟩;have hil:i<d.ks.length:=by
   rw[<-hff] at h1;have:=hst.cls
   cases hx:v.cl[i]? with
   | none=>
    have hge:v.cl.length<=i:=List.getElem?_eq_none_iff.1 hx
    rcases Nat.lt_or_ge i d.ks.length with q | q
    ·exact q
    ·exfalso
     have hlt:∀ (l:List DCl)(i:Nat),zy l=some i->i<l.length:=by
      intro l
      induction l with
      | nil=>intro i h;simp[zy] at h
      | cons c l ih=>
       intro i h;unfold zy at h
       split at h
       ·simp only[Option.some.injEq] at h;subst h;simp
       ·cases hq:zy l with
        | none=>rw[hq] at h;simp at h
        | some m=>
         rw[hq] at h;simp only[Option.map_some,Option.some.injEq] at h;subst h;have:=ih m hq;simp only[List.length_cons];omega
     have:=hlt v.cl i h1;omega
   | some c=>rw[<-h.kn];exact (zzg hx).1
  obtain⟨cl,hcl⟩:∃ cl,v.cl[i]?=some cl:=⟨v.cl[i]'(by rw[h.kn];exact hil),by simp⟩;have hz:=hb.size;have hgl:=World.ownsRow.lt hO g rfl;have hgi:∀ t,t<3->v.g t<w.heap.size:=fun t ht=>(World.ownsRow.lt (h.sc.st t ht).1 _ rfl).2;have hM:=h.cli2 (D':=grow D w w') (qo':=qo) (x':=some (yS d.c)) (cl':=⟨true,.slice none 0 0,0,.slice (some ⟨g,0,none⟩) d.c.surfaces.toNat d.c.surfaces.toNat⟩) hil hcl hb (fun x e=>.inl e) hst.cls ⟨[],rfl,rfl,XD hO (Nat.zero_le _),fun x hx=>?_,rfl,fun t ht=>absurd ht (List.not_mem_nil),.inl ⟨rfl,rfl⟩⟩ (fun t ht e=>?_) (fun x hx=>.inl hx) (fun x hx e=>?_) (fun x hx=>?_) (fun x _=>rfl) (fun x hx=>.inl (h.qd x hx))
  ·refine⟨_,_,pvs,hM,fun x hx=>?_,rfl,hb.wide fun x _ e=>by rw[e];exact h.cb.2.1⟩
   rcases hx with q | q
   ·exact .inl q
   ·exact .inr q.1
  ·have:some g=some x:=hx;have:=Option.some.inj this;subst this;exact .inr hgl
  ·have:some g=some (v.g t):=e;have:=Option.some.inj this;have:=hgi t ht;omega
  ·rcases hx with q | q
   ·exact h.dU x q e
   ·have:=hUl x e;omega
  ·rcases hx with q | q
   ·have:=h.dl x q;omega
   ·exact q.2
 ·right
  rw[hff] at h1;exact⟨h1,rfl,rfl⟩
end
end Go.Proofs.YtfnockbgkcgpkaaGreat
