import Derived.Test.YtfnockbgkcgpkaaGreatTkbp
import Derived.BigQuiet
import Derived.Deep.CutBlock
import Derived.Deep.CutRange
set_option linter.all false
set_option maxRecDepth 100000
set_option maxHeartbeats 16000000
namespace Go.Proofs.YtfnockbgkcgpkaaGreat
open Go.RowKit Go.Proofs.Panes
def adQ (d:Dc)(j:Nat)(k:Cli)(m:Nat)(cr:Int):Dc:={yP d j (k.q.take m) with ks:=d.ks.set j (some {k with q:=k.q.drop m,cr:=cr})}
def adO (d:Dc)(j:Nat)(k:Cli)(m:Nat)(t:List Opn)(i:Nat)(cr:Int):Dc:={yR (yP d j (k.q.take m)) j (t.take i) with ks:=d.ks.set j (some {k with q:=k.q.drop (m+1),cr:=cr})}
theorem qi9 (d:Dc)(c:Int)(t:List Opn)(o:Opn):yR d c (t++[o])=qO (yR d c t) c o:=by simp[yR]
theorem qg5 (d:Dc)(c:Int)(q:List (List Opn))(t:List Opn):yP d c (q++[t])=trD (yP d c q) c t:=by simp[yP]
theorem XE (c:Int):∀ (t:List Opn)(d:Dc),xW d (yR d c t)
 | [],d=>.refl d
 | o::t,d=>(JN d c o).trans (XE c t (qO d c o))
theorem Za (c:Int):∀ (q:List (List Opn))(d:Dc),xW d (yP d c q)
 | [],d=>.refl d
 | t::q,d=>by
  have h1:=XE c t d;have h2:xW d (trD d c t):=⟨h1.c,h1.ks,h1.p,h1.fn,h1.front,h1.pnt,h1.tgt,h1.left,h1.fp,h1.marks,h1.frames,h1.t⟩;exact h2.trans (Za c q (trD d c t))
theorem qy2 {d:Dc}{j:Nat}{k:Cli}{m:Nat}{t:List Opn}{i:Nat}{cr:Int}{o:Opn}(h:t[i]?=some o):adO d j k m t (i+1) cr=qO (adO d j k m t i cr) j o:=by
 unfold adO;rw[qu9,List.take_add_one,h];simp only[Option.toList_some];rw[qi9]
theorem ze4 {d:Dc}{j:Nat}{k:Cli}{m:Nat}{t:List Opn}{cr:Int}(h:k.q[m]?=some t):{adO d j k m t t.length cr with ch:=true}=adQ d j k (m+1) cr:=by
 unfold adO adQ;rw[List.take_length,List.take_add_one,h];simp only[Option.toList_some];rw[qg5]
 rfl
theorem adQ_ks (d:Dc)(j:Nat)(k:Cli)(m:Nat)(cr:Int)(hj:j<d.ks.length):(adQ d j k m cr).ks[j]?=some (some {k with q:=k.q.drop m,cr:=cr}):=List.getElem?_set_self hj
theorem adQ_cr (d:Dc)(j:Nat)(k:Cli)(m:Nat)(cr z:Int):({adQ d j k m cr with ks:=(adQ d j k m cr).ks.set j (some { ({k with q:=k.q.drop m,cr:=cr}:Cli) with cr:=z})}:Dc)=adQ d j k m z:=by
 unfold adQ;simp only[List.set_set]
theorem ze3 (d:Dc)(j:Nat)(k:Cli)(m:Nat)(t:List Opn)(cr:Int):({adQ d j k m cr with ks:=(adQ d j k m cr).ks.set j (some { ({k with q:=k.q.drop m,cr:=cr}:Cli) with q:=(k.q.drop m).drop 1})}:Dc)=adO d j k m t 0 cr:=by
 unfold adQ adO;simp only[List.set_set,List.drop_drop,List.take_zero]
 rfl
theorem qf8 {d:Dc}{j:Nat}{k:Cli}(hj:d.ks[j]?=some (some k)){m:Nat}{cr:Int}(h1:(qB k d.c.quantum).1=k.q.take m)(h2:(qB k d.c.quantum).2={k with q:=k.q.drop m,cr:=cr}):xR d j=adQ d j k m cr:=by
 unfold xR adQ;rw[hj];simp only[h1,h2]
section
variable {D U:Nat->Prop}{qo:Nat->Nat}{w w1 w2 w':World}{rp cb j:Nat}{d d' d'':Dc}{v:Dv}{pvs:List Value}{k:Cli}
theorem RdN.same {w w':World}{v:Value}{l:List Int}(h:RdN U w v l)(hs:∀ x,U x->w'.heap[x]?=w.heap[x]?):RdN U w' v l:=by
 obtain⟨ao,cap,e,h1,h2,h3⟩:=h;refine⟨ao,cap,e,h1,h2,fun hne=>?_⟩;obtain⟨b,off,e,hu,hlt,hc⟩:=h3 hne;have hb:=hs b hu;refine⟨b,off,e,hu,?_,fun j x hx=>by rw[World.cell?_of_block hb];exact hc j x hx⟩;rw[Array.getElem?_eq_getElem hlt] at hb;exact qh hb
theorem RdO.same {w w':World}{v:Value}{l:List Opn}(h:RdO U w v l)(hs:∀ x,U x->w'.heap[x]?=w.heap[x]?):RdO U w' v l:=by
 obtain⟨ao,cap,e,h1,h2,h3⟩:=h;refine⟨ao,cap,e,h1,h2,fun hne=>?_⟩;obtain⟨b,off,e,hu,hlt,hc⟩:=h3 hne;have hb:=hs b hu;refine⟨b,off,e,hu,?_,fun j o ho=>?_⟩
 ·rw[Array.getElem?_eq_getElem hlt] at hb;exact qh hb
 ·have ec:∀ q,w'.cell? ⟨b,q,none⟩=w.cell? ⟨b,q,none⟩:=fun q=>World.cell?_of_block hb;obtain⟨g0,g1,g2,g3,g4,g5,⟨pv,g6,g6'⟩,g7⟩:=hc j o ho;exact⟨(ec _).trans g0,(ec _).trans g1,(ec _).trans g2,(ec _).trans g3,(ec _).trans g4,(ec _).trans g5,⟨pv,(ec _).trans g6,g6'.same hs⟩,(ec _).trans g7⟩
theorem qX.goods (h:qX D U qo w rp cb d w1)(h':qX D U qo w rp cb d' w2)(hUl:∀ x,U x->x<w.heap.size)(hDU:∀ x,D x->¬U x):∀ x,U x->w2.heap[x]?=w1.heap[x]?:=fun x hx=>by
 obtain⟨-,-,-,-,-,-,h4⟩:=h;obtain⟨-,-,-,-,-,-,k4⟩:=h';rw[k4.block x (hUl x hx) (fun e=>hDU x e hx),h4.block x (hUl x hx) (fun e=>hDU x e hx)]
theorem qX.c27 (h:qX D U qo w rp cb d w1):(∃ u,w1.cell? ⟨rp,27,none⟩=some u)/\w1.frozen? ⟨rp,27,none⟩=false/\rp<w1.heap.size:=by
 obtain⟨D',v',pvs',h1,h2,h3,h4⟩:=h;exact⟨⟨_,qe h1.sc.blk 27⟩,qj h1.sc.blk 27,qh h1.sc.blk⟩
theorem qb7 (h:qU D U qo w rp d v pvs)(hUl:∀ x,U x->x<w.heap.size)(hj:d.ks[j]?=some (some k))(hn4:d.ks.length<=1000)(hcr:0<=k.cr/\k.cr<=1000000)(hqn:0<=d.c.quantum/\d.c.quantum<=1000000)(hql:k.q.length<=1000)(hsm:∀ t∈k.q,(∀ o∈t,Qk o)/\t.length<=1000/\0<=qA t/\qA t<=1000000)
 (hdo:∀ (m:Nat)(t:List Opn),k.q[m]?=some t->(∀ (i:Nat)(x:List Opn),i<=m->k.q[i]?=some x->qA x<=crK (k.cr+d.c.quantum) k.q i)->∀ (i:Nat)(o:Opn),t[i]?=some o->DnOk (yR (yP d j (k.q.take m)) j (t.take i)) j o) :
 Calls Tryz.prog 92 #[.pointer (some ⟨rp,0,none⟩),.int .i64 (j:Int)] w fun e w'=>e=.returned (.int .i64 (xF d.c.quantum (some k)))/\qX D U qo w rp v.cb (xR d j) w':=by
 obtain⟨cb,hcb⟩:∃ cb,cb=v.cb:=⟨_,rfl⟩;obtain⟨nk,hnk⟩:∃ nk,nk=d.ks.length:=⟨_,rfl⟩;obtain⟨qn,hqn'⟩:∃ qn,qn=d.c.quantum:=⟨_,rfl⟩;obtain⟨n,hn⟩:∃ n,n=k.q.length:=⟨_,rfl⟩;have hjl:=(zzg hj).1;have h0:qX D U qo w rp cb d w:=(by rw[hcb];exact qX.refl h);rw[<-hcb];have j0:(0:Int)<=(j:Int):=(by omega);have j1:(j:Int)<(nk:Int):=(by omega);have HAT:Hid (∀ (m:Nat)(cr:Int)(wr:World),qX D U qo w rp cb (adQ d j k m cr) wr->∃ ro qc,AdF wr rp cb j nk qn ro (n-m) qc cr/\n-m<=qc/\(∀ z:Int,qX D U qo w rp cb (adQ d j k m z) (wr.setCell ⟨cb,j*4+2,none⟩ (.int .i64 z)))/\(m<n->∃ t,k.q[m]?=some t/\t.length<=1000/\(0<=qA t/\qA t<=1000000)/\∃ g off po pc,ro=some ⟨g,off,none⟩/\wr.cell? ⟨g,off,none⟩=some (.slice po t.length pc)/\g<wr.heap.size/\¬g=cb/\
  Calls Tryz.prog 60 #[.slice po t.length pc] wr (fun e w'=>e=.returned (.int .i64 (qA t))/\Below wr.heap.size wr w')/\RdO U wr (.slice po t.length pc) t/\qX D U qo w rp cb (adO d j k m t 0 cr) (wr.setCell ⟨cb,j*4+1,none⟩ (.slice (if qc=1 then some ⟨g,off,none⟩ else some ⟨g,off+1,none⟩) (n-m-1) (qc-1))))):=fun m cr wr hG=>by
  obtain⟨ro,qc,h1,h2,h3,h4⟩:=hG.get (adQ_ks d j k m cr hjl);have e1:(adQ d j k m cr).ks.length=nk:=(by rw[hnk];exact List.length_set);have e2:(adQ d j k m cr).c.quantum=qn:=by
   rw[hqn'];show (yP d j (k.q.take m)).c.quantum=_;rw[(Za _ _ _).c]
  have e3:(k.q.drop m).length=n-m:=(by rw[List.length_drop,hn]);rw[e1,e2] at h1;simp only[e3] at h1 h2 h4;refine⟨ro,qc,h1,h2,fun z=>by have:=h3 z;rw[adQ_cr] at this;exact this,fun hm=>?_⟩;obtain⟨t,ht⟩:∃ t,k.q[m]?=some t:=⟨k.q[m]'(by omega),by simp⟩;have hst:=hsm t (zzn ht);obtain⟨g,off,po,pc,a1,a2,a3,a4,a5,a6⟩:=h4 t (by rw[List.getElem?_drop];exact ht);rw[ze3 d j k m t cr] at a6;exact⟨t,ht,hst.2.1,hst.2.2,g,off,po,pc,a1,a2,a3,a4,kz U _ t wr a5 hst.2.1 hst.1,a5,a6⟩
 have HOP:Hid (∀ (m:Nat)(t:List Opn)(i:Nat)(o:Opn)(cr:Int)(wr:World)(po:Option Addr)(pn pc:Nat),k.q[m]?=some t->(∀ (i:Nat)(x:List Opn),i<=m->k.q[i]?=some x->qA x<=crK (k.cr+d.c.quantum) k.q i)->t[i]?=some o->qX D U qo w rp cb (adO d j k m t i cr) wr->pn=o.px.length->RdN U wr (.slice po pn pc) o.px->Calls Tryz.prog 124 #[.pointer (some ⟨rp,0,none⟩),.int .i64 (j:Int),.agg #[.int .i64 o.kind,.int .i64 o.surf,.int .i64 o.x,.int .i64 o.y,.int .i64 o.w,.int .i64 o.h,.slice po pn pc,.int .i64 o.mark]] wr fun e w'=>(∃ u,e=.returned u)/\qX D U qo w rp cb (adO d j k m t (i+1) cr) w'):=fun m t i o cr wr po pn pc ht ha ho hG hpn hR=>by
  rw[qy2 ho];refine hG.done hUl j o po pn pc hpn hR ?_;have:=hdo m t ht ha i o ho;exact⟨this.ask,this.cre,this.key,this.mov,this.att⟩
 have HEQ:Hid (∀ (m:Nat),m<=n->(∀ (i:Nat)(x:List Opn),i<m->k.q[i]?=some x->qA x<=crK (k.cr+d.c.quantum) k.q i)->(m=n->xF d.c.quantum (some k)=(m:Int)/\xR d j=adQ d j k m 0)/\(∀ t,k.q[m]?=some t->crK (k.cr+d.c.quantum) k.q m<qA t->xF d.c.quantum (some k)=(m:Int)/\xR d j=adQ d j k m (crK (k.cr+d.c.quantum) k.q m))):=fun m hm ha=>by
  refine⟨fun e=>?_,fun t ht hlt=>?_⟩
  ·have hT:=Jh k.q (k.cr+d.c.quantum) m (by omega) ha (.inl (by omega));have e1:(qB k d.c.quantum).1=k.q.take m:=(by unfold qB;rw[hT]);have e2:(qB k d.c.quantum).2={k with q:=k.q.drop m,cr:=0}:=(by unfold qB;rw[hT];simp only;rw[if_pos (by omega)]);refine⟨?_,qf8 hj e1 e2⟩;show (((qB k d.c.quantum).1.length:Nat):Int)=_;rw[e1,List.length_take];omega
  ·have hml:m<k.q.length:=(zzg ht).1;have hT:=Jh k.q (k.cr+d.c.quantum) m (by omega) ha (.inr ⟨t,ht,hlt⟩);have e1:(qB k d.c.quantum).1=k.q.take m:=(by unfold qB;rw[hT]);have e2:(qB k d.c.quantum).2={k with q:=k.q.drop m,cr:=crK (k.cr+d.c.quantum) k.q m}:=(by unfold qB;rw[hT];simp only;rw[if_neg (by omega)]);refine⟨?_,qf8 hj e1 e2⟩;show (((qB k d.c.quantum).1.length:Nat):Int)=_;rw[e1,List.length_take];omega
 have hcrb:∀ (m:Nat),m<=n->(∀ (i:Nat)(x:List Opn),i<m->k.q[i]?=some x->qA x<=crK (k.cr+d.c.quantum) k.q i)->0<=crK (k.cr+d.c.quantum) k.q m/\crK (k.cr+d.c.quantum) k.q m<=2000000:=by
  intro m
  induction m with
  | zero=>intro _ _;rw[Q2];omega
  | succ m ih=>
   intro hm ha;obtain⟨t,ht⟩:∃ t,k.q[m]?=some t:=⟨k.q[m]'(by omega),by simp⟩;have h1:=ih (by omega) (fun i x hi hx=>ha i x (by omega) hx);have h2:=ha m t (by omega) ht;have h3:=(hsm t (zzn ht)).2.2;rw[YK ht];omega
 have HCB:=qg hcrb;have HQ0:Hid (adQ d j k 0 k.cr=d):=by
  show adQ d j k 0 k.cr=d;unfold adQ;rw[List.take_zero,List.drop_zero];show ({d with ks:=d.ks.set j (some k)}:Dc)=d;rw[vP hj]
 have HS0:Hid (qX D U qo w rp cb (adQ d j k 0 k.cr) w):=by
  show qX D U qo w rp cb (adQ d j k 0 k.cr) w;rw[qb HQ0];exact h0
 obtain⟨cr,hcr'⟩:∃ cr,cr=k.cr:=⟨_,rfl⟩;obtain⟨ro,qc,hA,hqc,hZ,-⟩:=(qb HAT) 0 k.cr w (qb HS0);rw[Nat.sub_zero,<-hcr'] at hA;rw[<-hqn'] at hqn;rw[<-hcr'] at hcr;have ecr:IntKind.i64.wrap (cr+qn)=cr+qn:=(by rw[IntKind.wrap_i64];omega);have HZ0:=qg hZ;obtain⟨crF,hcrF⟩:∃ f:Nat->Int,f=crK (k.cr+d.c.quantum) k.q:=⟨_,rfl⟩;have hf0:crF 0=cr+qn:=(by rw[hcrF,Q2,hcr',hqn']);have hfs:∀ m t,k.q[m]?=some t->crF (m+1)=crF m-qA t:=fun m t ht=>by rw[hcrF];exact YK ht
 rw[<-hcrF] at HEQ HCB HOP;have hDU:=h.dU;have HGD:Hid (∀ (d1 d2:Dc)(wa wb:World)(u:Value)(t:List Opn),qX D U qo w rp cb d1 wa->qX D U qo w rp cb d2 wb->RdO U wa u t->RdO U wb u t):=fun d1 d2 wa wb u t ha hb hr=>hr.same (ha.goods hb hUl hDU);have HFS:=qg hfs;have HF0:=qg hf0;have HHN:=qg hn;have HCNT:Hid (xF d.c.quantum (some k)=xF d.c.quantum (some k)):=rfl;obtain⟨cnt,hcnt⟩:∃ cnt,cnt=xF d.c.quantum (some k):=⟨_,rfl⟩;rw[<-hcnt] at HEQ ⊢;obtain⟨dE,hdE⟩:∃ dE,dE=xR d j:=⟨_,rfl⟩;rw[<-hdE] at HEQ ⊢;have hn1000:n<=1000:=(by omega);clear hn hcrb hDU hfs hf0 hcnt hdE hZ h hUl hj hn4 hql hsm hdo hcb hnk hqn' hjl h0 hqc hcrF hcr' HQ0 HCNT
 by_cases hne:n=0
 ·subst hne;obtain⟨c8,c5,q1,q2,lr,lc,fz,fr,ne,ne'⟩:=hA;have z2:=fz (j*4+2);obtain⟨he,-⟩:=(qb HEQ) 0 (zzl _) (fun i x hi=>absurd hi (Nat.not_lt_zero i));have HE:=qg (he rfl);have HG:=qg ((qb HZ0) 0);clear he HEQ HAT HOP HCB HS0 HZ0 HGD HFS HF0 HHN fz fr
  go_enter Tryz.func92,Tryz.ntmps92
  go_wp2
  go_loopw [5] (fun x wr=>x=.int .i64 0/\wr=w) (fun _ _=>0)
  case atStart=>exact⟨rfl,rfl⟩
  case round=>
   obtain⟨rfl,rfl⟩:=hrel;go_wp2;go_ret;refine⟨by rw[(qb HE).1];rfl,?_⟩;rw[(qb HE).2];exact qb HG
 ·obtain⟨c8,c5,q1,q2,lr,lc,fz,fr,ne,ne'⟩:=hA;have z2:=fz (j*4+2);have n0:(0:Int)<(n:Int):=(by omega);have n0':0<n:=(by omega);have n0d:decide (0<n)=true:=decide_eq_true n0';have HG1:Hid (qX D U qo w rp cb (adQ d j k 0 (crF 0)) (w.setCell ⟨cb,j*4+2,none⟩ (.int .i64 (cr+qn))).drew):=by
   have:=(qb HZ0) (cr+qn);rw[<-qb HF0] at this ⊢;exact this.below ((Below.refl _ _).drew)
  clear HZ0 fz fr HS0
  go_enter Tryz.func92,Tryz.ntmps92
  go_wp2;go_region;generalize (w.setCell ⟨cb,j*4+2,none⟩ (.int .i64 (cr+qn))).drew=W1 at HG1 ⊢;clear c8 c5 q1 q2 lr lc z2 ecr;go_wp2
  go_loopw [5] (fun x wr=>∃ m:Nat,m<=n/\x=.int .i64 m/\(∀ (i:Nat)(y:List Opn),i<m->k.q[i]?=some y->qA y<=crF i)/\qX D U qo w rp cb (adQ d j k m (crF m)) wr) (fun x _=>n-(intOf x).toNat)
  case atStart=>exact⟨0,Nat.zero_le _,rfl,fun i y hi=>absurd hi (Nat.not_lt_zero i),qb HG1⟩
  case round=>
   clear HG1;obtain⟨m,hm,rfl,ha,hG⟩:=hrel;obtain⟨ro,qc,hA,hqc,hZ,hM⟩:=(qb HAT) m (crF m) wr hG
   by_cases hlt:m<n
   ·obtain⟨t,ht,htl9,hct,g,off,po,pc,rfl,cq,lg,hgc,hcost,hrd,-⟩:=hM hlt;have hcb:=(qb HCB) m hm ha;have hfs:=(qb HFS) m t ht;have HEx:=qg ((qb HEQ) m hm ha).2;obtain⟨nm,hnm⟩:∃ nm,nm=n-m:=⟨_,rfl⟩;rw[<-hnm] at hA;have n1:(0:Int)<(nm:Int):=(by rw[hnm];exact Int.ofNat_lt.2 (Nat.sub_pos_of_lt hlt));obtain⟨tl,htl⟩:∃ tl,tl=t.length:=⟨_,rfl⟩;rw[<-htl] at cq hcost hrd htl9;obtain⟨ct,hct'⟩:∃ ct,ct=qA t:=⟨_,rfl⟩;rw[<-hct'] at hcost hct hfs;obtain⟨c8,c5,q1,q2,lr,lc,fz,fr,ne,ne'⟩:=hA;have HC:Hid (Calls Tryz.prog 60 #[.slice po tl pc] wr fun e w2=>e=.returned (.int .i64 ct)/\(w2.cell? ⟨rp,8,none⟩=some (.slice (some ⟨cb,0,none⟩) nk nk)/\w2.cell? ⟨cb,j*4+2,none⟩=some (.int .i64 (crF m))/\rp<w2.heap.size/\cb<w2.heap.size/\(∀ t,w2.frozen? ⟨cb,t,none⟩=false))/\qX D U qo w rp cb (adQ d j k m (crF m)) w2/\∀ z:Int,qX D U qo w rp cb (adQ d j k m z) (w2.setCell ⟨cb,j*4+2,none⟩ (.int .i64 z))):=by
     refine hcost.mono ?_;rintro e w2 ⟨rfl,hb2⟩;obtain⟨ro2,qc2,hA2,-,hZ2,-⟩:=(qb HAT) m (crF m) w2 (hG.below hb2);exact⟨rfl,⟨hA2.c8,hA2.q2,hA2.lr,hA2.lc,hA2.fz⟩,hG.below hb2,hZ2⟩
    have HRD:Hid (∀ (dx:Dc)(wx:World),qX D U qo w rp cb dx wx->RdO U wx (.slice po tl pc) t):=fun dx wx hx=>(qb HGD) _ _ _ _ _ _ hG hx hrd;have HT:=qg ht;have HNM:=qg hnm;have HTL:=qg htl;have HCT:=qg hct';have HA:=qg ha;have HFS1:=qg hfs;clear hG hcost hM hZ hrd ht hnm htl hct' ha hqc fz fr HCB HEQ HFS HGD hfs
    by_cases hc:crF m<ct
    ·have c1:ct > crF m:=hc;obtain⟨e1,e2⟩:=(qb HEx) t (qb HT) (by rw[<-qb HCT];exact hc);have HE:=qg (And.intro e1 e2);clear e1 e2 HEx
     go_wp2_with (go_at_call 60;refine (qb HC).mono ?_;rintro e w2 ⟨rfl,⟨d8,d2,l2,l3,fz2⟩,hG2,-⟩
                  have HG2:=qg hG2
                  clear hG2 HC)
     go_ret;refine⟨by rw[(qb HE).1];rfl,?_⟩;rw[(qb HE).2];exact qb HG2
    ·have c1:¬ct > crF m:=hc;obtain⟨cr2,hcr2⟩:∃ cr2,cr2=crF m-ct:=⟨_,rfl⟩;have e1:IntKind.i64.wrap (crF m-ct)=cr2:=(by rw[IntKind.wrap_i64];omega);have HCR2:=qg hcr2;clear hcr2 HEx
     go_wp2_with (go_at_call 60;refine (qb HC).mono ?_;rintro e w2 ⟨rfl,⟨d8,d2,l2,l3,fz2⟩,-,hZ2⟩
                  have z2:=fz2 (j*4+2)
                  have HG3:Hid (qX D U qo w rp cb (adQ d j k m cr2) (w2.setCell ⟨cb,j*4+2,none⟩ (.int .i64 cr2)).drew):=(hZ2 cr2).below ((Below.refl _ _).drew)
                  clear hZ2 HC fz2)
     go_region;generalize (w2.setCell ⟨cb,j*4+2,none⟩ (.int .i64 cr2)).drew=W3 at HG3 ⊢
     clear c8 c5 q1 q2 lr lc cq lg hgc d8 d2 l2 l3 z2 e1;obtain⟨ro3,qc3,hA3,hqc3,-,hM3⟩:=(qb HAT) m cr2 W3 (qb HG3);obtain⟨t3,ht3,-,-,g3,off3,po3,pc3,rfl,-,lg3,hgc3,-,-,hpop⟩:=hM3 hlt;have et:t3=t:=by
      have:=ht3.symm.trans (qb HT);exact Option.some.inj this
     subst et;rw[<-qb HNM] at hA3 hqc3 hpop;obtain⟨c8,c5,q1,q2,lr,lc,fz,fr,-,-⟩:=hA3;have z1:=fz (j*4+1);have n2:(1:Int)<=(nm:Int):=(by omega);have n3:(nm:Int)<=(qc3:Int):=(by omega);have HP:=qg hpop;clear hM3 hpop fz fr ht3 HG3;go_wp2;go_region;generalize (if qc3=1 then some (⟨g3,off3,none⟩:Addr) else some ⟨g3,off3+1,none⟩)=qa at HP ⊢;have HP2:Hid (qX D U qo w rp cb (adO d j k m t3 0 cr2) (W3.setCell ⟨cb,j*4+1,none⟩ (.slice qa (nm-1) (qc3-1))).drew):=(qb HP).below ((Below.refl _ _).drew);generalize (W3.setCell ⟨cb,j*4+1,none⟩ (.slice qa (nm-1) (qc3-1))).drew=W4 at HP2 ⊢;clear c8 c5 q1 q2 lr lc z1 lg3 hgc3 HP;have HAL:Hid (∀ (i:Nat)(x:List Opn),i<=m->k.q[i]?=some x->qA x<=crF i):=fun i x hi hx=>by
      by_cases e:i=m
      ·subst e;have:x=t3:=Option.some.inj (hx.symm.trans (qb HT));subst this;have:=qb HCT;omega
      ·exact (qb HA) i x (by omega) hx
     go_wp2
     go_loopw [8] (fun x wr=>∃ i:Nat,i<=tl/\x=.int .i64 i/\qX D U qo w rp cb (adO d j k m t3 i cr2) wr) (fun x _=>tl-(intOf x).toNat)
     case atStart=>exact⟨0,Nat.zero_le _,rfl,qb HP2⟩
     case round=>
      clear HP2;obtain⟨i,hi,rfl,hG⟩:=hrel
      by_cases hil:i<tl
      ·obtain⟨o,ho⟩:∃ o,t3[i]?=some o:=⟨t3[i]'(by have:=qb HTL;omega),by simp⟩;obtain⟨ao,acap,ea,-,-,hac⟩:=(qb HRD) _ wr hG;obtain⟨b,boff,eb,hbU,hbl,hoat⟩:=hac (fun e=>by rw[e] at ho;simp at ho);simp only[Value.slice.injEq] at ea;obtain⟨rfl,-,rfl⟩:=ea;subst eb;obtain⟨o0,o1,o2,o3,o4,o5,⟨pv,o6,hpv⟩,o7⟩:=hoat i o ho;obtain⟨pxo,pxc,rfl,hp1,hp2,hp3⟩:=id hpv;have hD:=(qb HOP) m t3 i o cr2 wr pxo _ pxc (qb HT) (qb HAL) ho hG rfl hpv;obtain⟨npx,hnpx⟩:∃ npx,npx=o.px.length:=⟨_,rfl⟩;rw[<-hnpx] at o6 hD;have HD:=qg hD;have i0:(0:Int)<=(i:Int):=(by omega);have i1:(i:Int)<(tl:Int):=(by omega);clear hD hG hac hoat hpv hp1 hp2 hp3 hnpx ho
       go_wp2_with (go_at_call 124;refine (qb HD).mono ?_;rintro e w5 ⟨⟨u,rfl⟩,hG5⟩
                    have HG5:=qg hG5
                    clear hG5 HD)
       go_roundw
       case rel=>exact⟨i+1,by omega,by go_num,qb HG5⟩
       case measure=>simp[intOf];omega
      ·have ei:i=tl:=(by omega);subst ei;have i1:¬(i:Int)<(i:Int):=(by omega);obtain⟨⟨u27,c27⟩,f27,l27⟩:=hG.c27;have HG6:Hid (qX D U qo w rp cb (adQ d j k (m+1) (crF (m+1))) (wr.setCell ⟨rp,27,none⟩ (.bool true))):=by
        have h1:=hG.chg;rw[qb HTL,ze4 (qb HT)] at h1;show qX D U qo w rp cb (adQ d j k (m+1) (crF (m+1))) (wr.setCell ⟨rp,27,none⟩ (.bool true));rw[qb HFS1,<-qb HCR2];exact h1
       clear hG;go_wp2
       go_roundw
       case rel=>exact⟨m+1,by omega,by go_num,fun i y hi hy=>(qb HAL) i y (by omega) hy,qb HG6⟩
       case measure=>simp[intOf];omega
   ·have em:m=n:=(by omega);subst em;obtain⟨c8,c5,q1,q2,lr,lc,fz,fr,-,-⟩:=hA;rw[Nat.sub_self] at q1;have z2:=fz (j*4+2);have HE:=qg (((qb HEQ) m hm ha).1 rfl);have HG:=qg (hZ 0);clear hG hM hZ hqc HEQ HAT HOP HCB HGD HFS ha fz fr;go_wp2;go_ret;refine⟨by rw[(qb HE).1];rfl,?_⟩;rw[(qb HE).2];exact qb HG
end
end Go.Proofs.YtfnockbgkcgpkaaGreat
