import Derived.Test.YtfnockbgkcgpkaaGreatTkbs
set_option linter.all false
set_option maxRecDepth 100000
set_option maxHeartbeats 16000000
namespace Go.Proofs.YtfnockbgkcgpkaaGreat
open Go.RowKit Go.Proofs.Panes
section
variable {D D' U S:Nat->Prop}{qo qo':Nat->Nat}{w w1 w2 w':World}{rp cb j:Nat}{d d' d'':Dc}{v:Dv}{pvs:List Value}{k:Cli}
theorem xi.typed {C:Nat->Prop}{w:World}{v:Value}{l:List T3}(h:xi C w v l):xi (fun x=>C x/\∃ cs,w.heap[x]?=some (.cells cs 53 (0,0))) w v l:=by
 rcases h with h | ⟨g,off,cap,cs,h1,h2,h3,h4⟩
 ·exact .inl h
 ·exact .inr ⟨g,off,cap,cs,h1,⟨h2,cs,h3⟩,h3,h4⟩
theorem Y9 (h:qU D U qo w rp d v pvs)(hUl:∀ x,U x->x<w.heap.size)(hj:d.ks[j]?=some (some k))(hql:k.q.length<=100000)(hown:k.own.length=d.c.surfaces.toNat)(ops:List Opn)(ao:Option Addr)(cap:Nat)(hR:RdO U w (.slice ao ops.length cap) ops)(hlen:1<=ops.length/\ops.length<=20)(hpx:∀ o∈ops,o.px.length<=17592186043904) :
 Calls Tryz.prog 27 #[.pointer (some ⟨rp,0,none⟩),.int .i64 (j:Int),.slice ao ops.length cap] w fun e w'=>e=.returned (.int .i64 (qL d.c k ops))/\(qL d.c k ops≠0->Below w.heap.size w w')/\
  (qL d.c k ops=0->∃ D' qo' v',qU D' U qo' w' rp {d with ks:=d.ks.set j (some (Ji k ops))} v' pvs/\(∀ x,D' x->D x\/w.heap.size<=x)/\v'.cb=v.cb/\But D w w'):=by
 have hc:=Qy h.sc.cfg;have hs:=hc.surfaces;have hjl:=(zzg hj).1;obtain⟨cl,hcl,mq,hk⟩:=h.kl j _ hj;have hml:(mq.map Prod.fst).length=k.q.length:=(by rw[List.length_map,<-hk.q,List.length_map]);obtain⟨C,hCd⟩:∃ C:Nat->Prop,C=fun x=>qo x=j+1/\∃ cs,w.heap[x]?=some (.cells cs 53 (0,0)):=⟨_,rfl⟩;have hCx:∀ x,C x->qo x=j+1/\∃ cs,w.heap[x]?=some (.cells cs 53 (0,0)):=fun x hx=>by rw[hCd] at hx;exact hx
 have hrow:xi C w cl.q (mq.map Prod.fst):=(by rw[hCd];exact hk.row.typed);have hC:¬C v.cb/\¬C rp/\∀ x,C x->x<w.heap.size:=by
  refine⟨fun e=>?_,fun e=>?_,fun x e=>?_⟩
  ·obtain⟨-,cs,q⟩:=hCx _ e;rw[h.cls] at q;simp at q
  ·obtain⟨-,cs,q⟩:=hCx _ e;rw[h.sc.blk] at q;simp at q
  ·obtain⟨-,cs,q⟩:=hCx _ e;exact qh q
 have hcode:qL d.c k ops=(match qR k.own ops with | none=>3 | some _=>if d.c.most<qA ops then 3 else if d.c.queue<=(k.q.length:Int) then 4 else 0):=by
  unfold qL;rw[jh.2 (by omega),if_neg (by simp)]
  cases qR k.own ops<;>rfl
 refine (VZ U C h.docst j cl hcl hk.th d.c.surfaces.toNat (by omega) (by omega) 0 k.q.length k.own hown hk.wl (mq.map Prod.fst) hrow hml hC hql ops ao cap hR hlen hpx hUl).mono ?_;rintro e w' ⟨code,rfl,hcase⟩
 rcases hcase with ⟨hv,rfl,hb⟩ | ⟨will',hv,hcase⟩
 ·rw[hcode,hv];exact⟨rfl,fun _=>hb,fun e=>by simp at e⟩
 ·rcases hcase with ⟨hm,rfl,hb⟩ | ⟨hm,hq,rfl,hb⟩ | ⟨hm,hq,rfl,q',hcls,hO,hQ,hb⟩
  ·rw[hcode,hv];simp only[hm,if_true];exact⟨trivial,fun _=>hb,fun e=>by simp at e⟩
  ·rw[hcode,hv];simp only[hq,if_true,if_neg (show ¬d.c.most<qA ops by omega)];exact⟨trivial,fun _=>hb,fun e=>by simp at e⟩
  ·rw[hcode,hv];simp only[if_neg (show ¬d.c.most<qA ops by omega),if_neg (show ¬d.c.queue<=(k.q.length:Int) by omega)];refine⟨trivial,fun e=>absurd rfl e,fun _=>?_⟩;have hz:=hb.size;have hSD:∀ x,(x=v.cb\/C x)->D x:=fun x hx=>by
    rcases hx with e | e
    ·rw[e];exact h.cb.2.1
    ·exact h.qd x (by have:=(hCx x e).1;omega)
   have hnU:∀ x,U x->¬(x=v.cb\/C x):=fun x hu e=>h.dU x (hSD x e) hu;have hwl:(Value.slice (some (⟨w.heap.size,0,none⟩:Addr)) d.c.surfaces.toNat d.c.surfaces.toNat).ownBlock=some w.heap.size:=rfl;have hgl:=World.ownsRow.lt hO w.heap.size hwl;have hgi:∀ t,t<3->v.g t<w.heap.size:=fun t ht=>(World.ownsRow.lt (h.sc.st t ht).1 _ rfl).2;obtain⟨qo',hqo'⟩:∃ qo':Nat->Nat,qo'=fun x=>if w.heap.size<=x/\x<w'.heap.size then j+1 else qo x:=⟨_,rfl⟩;have hold:∀ x,x<w.heap.size->qo' x=qo x:=fun x hx=>by rw[hqo'];simp only;rw[if_neg (by omega)]
   have hnew:∀ x,w.heap.size<=x/\x<w'.heap.size->qo' x=j+1:=fun x hx=>by rw[hqo'];simp only;rw[if_pos hx]
   have hqlt:∀ x,qo x≠0->x<w.heap.size:=fun x hx=>h.dl x (h.qd x hx);have hM:=h.cli2 (D':=grow D w w') (qo':=qo') (x':=some (Ji k ops)) (cl':=⟨true,q',cl.cr,.slice (some ⟨w.heap.size,0,none⟩) d.c.surfaces.toNat d.c.surfaces.toNat⟩) hjl hcl hb (fun x e=>by
    rcases e with e | e
    ·exact .inl e
    ·exact .inr (hCx x e)) hcls ⟨mq++[((ao,ops.length,cap),ops)],rfl,hk.cr,by
     have e1:(Ji k ops).own=will':=(by unfold Ji;rw[hv];rfl);rw[e1];exact XD hO (Nat.zero_le _),fun x hx=>?_,by
     rw[List.map_append,hk.q];rfl,fun t ht=>?_,by
     rw[List.map_append];refine hQ.mono (fun x hx=>?_)
     rcases hx with q | q
     ·show qo' x=j+1;rw[hold x (hC.2.2 x q)];exact (hCx x q).1
     ·exact hnew x q⟩ (fun t ht e=>?_) (fun x hx=>.inl hx) (fun x hx e=>?_) (fun x hx=>?_) (fun x hx=>hold x (hqlt x hx)) (fun x hx=>?_)
   ·refine⟨_,qo',_,hM,fun x hx=>?_,rfl,hb.wide fun x _ e=>hSD x e⟩
    rcases hx with q | q
    ·exact .inl q
    ·exact .inr q.1
   ·have:some w.heap.size=some x:=hx;have:=Option.some.inj this;subst this;exact .inr hgl
   ·rcases List.mem_append.1 ht with q | q
    ·exact (hk.rd t q).but hb hnU
    ·rw[List.mem_singleton] at q;subst q;exact hR.but hb hnU
   ·have:some w.heap.size=some (v.g t):=e;have:=Option.some.inj this;have:=hgi t ht;omega
   ·rcases hx with q | q
    ·exact h.dU x q e
    ·have:=hUl x e;omega
   ·rcases hx with q | q
    ·have:=h.dl x q;omega
    ·exact q.2
   ·by_cases hx2:w.heap.size<=x/\x<w'.heap.size
    ·exact .inr hx2
    ·have:qo' x=qo x:=(by rw[hqo'];simp only;rw[if_neg hx2]);rw[this] at hx;exact .inl (h.qd x hx)
end
def fakeF (d:Dc):Frs:={W:=0,H:=0,b:=fun i=>⟨[],[],d.fn i⟩,front:=d.front,frame:=none,due:=false,marks:=[]}
theorem Jy (d:Dc):∀ k,zG d k=za (fakeF d) k
 | 0=>rfl
 | k+1=>by
  unfold zG za;rw[Jy d k]
  rfl
theorem Yn (d:Dc)(k j:Nat)(h:zG d k=some j):j<k:=by rw[Jy] at h;exact ya _ _ _ h
def bgN (d:Dc):Nat:=(zG d 3).getD 0
def bgD (d:Dc):Dc:={d with frames:=d.frames+1,pnt:=true,tgt:=bgN d,fp:=(List.range d.N).map (Qq d.l d.c.behind d.W),left:=(stN (d.st (bgN d)) d.N:Int),st:=fun i=>if i=bgN d then List.replicate d.N false else d.st i,fn:=fun i=>if i=bgN d then d.frames+1 else d.fn i,marks:=d.wait,wait:=[],ch:=false}
theorem qm3 {d:Dc}(h1:d.pnt=false)(h2:d.ch=true):jF d=bgD d:=by
 unfold jF;rw[if_neg (by rw[h1,h2];simp)]
 rfl
def bgH (d:Dc)(fp:List Int)(i:Nat):Dc:={d with frames:=d.frames+1,pnt:=true,tgt:=bgN d,fp:=fp,left:=(stN (d.st (bgN d)) i:Int)}
def bgL (st:List Bool)(i:Nat):List Bool:=List.replicate i false++st.drop i
theorem qx9 {st:List Bool}{i:Nat}(h:i<st.length):(bgL st i).set i false=bgL st (i+1):=by
 unfold bgL;rw[List.set_append_right _ _ (by simp),List.length_replicate,Nat.sub_self,List.replicate_succ',List.append_assoc]
 congr 1
 have:st.drop i=st[i]::st.drop (i+1):=(List.getElem_cons_drop h).symm;rw[this]
 rfl
theorem bgL_at {st:List Bool}{i:Nat}{b:Bool}(h:st[i]?=some b):(bgL st i)[i]?=some b:=by
 unfold bgL;rw[List.getElem?_append_right (by simp),List.length_replicate,Nat.sub_self,List.getElem?_drop];exact h
section
variable {D U:Nat->Prop}{qo:Nat->Nat}{w w1 w2 w':World}{rp cb j:Nat}{d d' d'':Dc}{v:Dv}{pvs:List Value}{k:Cli}
theorem qU.begun (h:qU D U qo w rp d v pvs)(hf:bgN d<3){fb:Nat}(hfb:w.heap.size<=fb)(hUl:∀ x,U x->x<w.heap.size)(hb:But (fun x=>x=rp\/x=v.g (bgN d)) w w')
 (hblk:w'.heap[rp]?=some (.cells (dcs (bgD d) {v with fpv:=.slice (some ⟨fb,0,none⟩) d.N d.N,mv:=v.wv,wv:=.slice none 0 0}) 121)) (hst:w'.heap[v.g (bgN d)]?=some (.cells ((List.replicate d.N false).map Value.bool).toArray 4 (0,0))) (hpic:w'.heap[fb]?=some (.cells (((List.range d.N).map (Qq d.l d.c.behind d.W)).map (Value.int .i64)).toArray 3 (0,0))) :
 qX D U qo w rp v.cb (bgD d) w':=by
 obtain⟨c1,c2,c3,c4,c5,c6⟩:=h.cb;have hz:=hb.size;have hgt:=(World.ownsRow.lt (h.sc.st (bgN d) hf).1 _ rfl).2;have hty:∀ {x:Nat}{cs:Array Value}{t:TypeId}{fz:Nat×Nat},w.heap[x]?=some (.cells cs t fz)->t≠121->t≠4->¬(x=rp\/x=v.g (bgN d)):=fun hk t1 t2 e=>by
  rcases e with e | e
  ·rw[e,h.sc.blk] at hk;simp only[Option.some.injEq,Obj.cells.injEq] at hk;exact t1 hk.2.1.symm
  ·exact qq (h.sc.st (bgN d) hf).1 hk t2 (by rw[e];rfl)
 have hrow:∀ {e:TypeId}{size:Nat}{u:Value}{n:Nat}{xs:List Value}{base:Nat},w.ownsRow base e size u n xs->121≠e->e≠4->∀ x,u.ownBlock=some x->¬(x=rp\/x=v.g (bgN d)):=fun hr t1 t2 x hx e=>by
  rcases e with e | e
  ·exact qq hr h.sc.blk t1 (by rw[<-e];exact hx)
  ·exact qS hr (h.sc.st (bgN d) hf).1 t2 hx (by rw[e];rfl)
 have hnU:∀ x,U x->¬(x=rp\/x=v.g (bgN d)):=fun x hu e=>by
  rcases e with e | e
  ·exact h.dU x (by rw[e];exact c1) hu
  ·exact h.dU x (by rw[e];exact c3 _ hf) hu
 have hgne:∀ i,i<3->i≠bgN d->¬(v.g i=rp\/v.g i=v.g (bgN d)):=fun i hi hne e=>by
  rcases e with e | e
  ·exact qq (h.sc.st i hi).1 h.sc.blk (by decide) (by rw[e];rfl)
  ·obtain⟨a,b,c⟩:=h.sc.gi
   rcases (show i=0\/i=1\/i=2 by omega) with rfl | rfl | rfl<;>rcases (show bgN d=0\/bgN d=1\/bgN d=2 by omega) with q | q | q<;>rw[q] at e hne<;>first | exact hne rfl | exact a e | exact b e | exact c e | exact a e.symm | exact b e.symm | exact c e.symm
 have hfl:=qh hpic;have gD:∀ x,D x->grow D w w' x:=fun x hx=>.inl hx;have hN:(List.range d.N).length=d.N:=List.length_range;refine⟨grow D w w',{v with fpv:=.slice (some ⟨fb,0,none⟩) d.N d.N,mv:=v.wv,wv:=.slice none 0 0},pvs,⟨⟨hblk,fun i hi=>?_,h.sc.gi,h.sc.sf.but hb (hrow h.sc.sf.own (by decide) (by decide)) hnU,h.sc.pl,h.sc.far,h.sc.cfg,h.sc.len,⟨rfl,.inl ⟨rfl,rfl⟩⟩,fun x hx=>by cases hx⟩,hb.heap h.cls (hty h.cls (by decide) (by decide)),h.kn,fun i x hx=>?_,fun i hi=>((h.pic i hi).but hb (fun x cs fz hc=>hty hc (by decide) (by decide))).mono gD,fun _=>⟨fb,by simp[bgD],.inr ⟨hfb,hfl⟩,hpic⟩,qi h.sc.wt hb (hrow h.sc.wt (by decide) (by decide)),fun x hx e=>(by cases e),h.wg,⟨.inl c1,.inl c2,fun i hi=>.inl (c3 i hi),fun x hx=>.inl (c4 x hx),fun x hx=>(by cases hx),fun x hx=>.inl (c5 x hx)⟩,fun x hx=>.inl (h.qd x hx),fun x hx e=>?_,fun x hx=>?_⟩,fun x hx=>?_,rfl,hb.wide fun x _ e=>?_⟩
 ·by_cases e:i=bgN d
  ·subst e;have e2:(bgD d).st (bgN d)=List.replicate d.N false:=if_pos rfl;rw[e2];refine⟨⟨by simp,.inr ⟨v.g (bgN d),d.N,_,by rw[List.length_replicate];rfl,Nat.zero_le _,hst,by simp,?_,by simp,by simp⟩⟩,by simp;rfl⟩;have:=(h.sc.wh).2.2;have h16:=Nat.mul_le_mul this.1.2 this.2.1.2;rw[this.2.2];unfold maxLen;omega
  ·have e2:(bgD d).st i=d.st i:=if_neg e;rw[e2];exact⟨qi (h.sc.st i hi).1 hb (fun x hx=>by
    have:some (v.g i)=some x:=hx;rw[<-Option.some.inj this];exact hgne i hi e),(h.sc.st i hi).2⟩
 ·obtain⟨cl,h1,hdk⟩:=h.kl i x hx;refine⟨cl,h1,(hdk.but hb (fun y hy e=>?_) (fun y cs _ hc=>hty hc (by decide) (by decide)) hnU).mono gD (fun _ e=>e)⟩
  cases x with
  | none=>
   have:cl=⟨false,.slice none 0 0,0,.slice none 0 0⟩:=hdk;rw[this] at hy
   cases hy
  | some kk=>
   obtain⟨mq,hkl⟩:=hdk
   rcases e with e | e
   ·exact qq hkl.wl h.sc.blk (by decide) (by rw[<-e];exact hy)
   ·exact h.wg i cl (bgN d) h1 hf (by rw[<-e];exact hy)
 ·rcases hx with q | q
  ·exact h.dU x q e
  ·have:=hUl x e;omega
 ·rcases hx with q | q
  ·have:=h.dl x q;omega
  ·exact q.2
 ·rcases hx with q | q
  ·exact .inl q
  ·exact .inr q.1
 ·rcases e with e | e
  ·rw[e];exact c1
  ·rw[e];exact c3 _ hf
end
end Go.Proofs.YtfnockbgkcgpkaaGreat
