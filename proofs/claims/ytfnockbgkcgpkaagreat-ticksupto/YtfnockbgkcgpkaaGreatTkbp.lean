import Derived.Test.YtfnockbgkcgpkaaGreatTkbn
import Derived.Test.YtfnockbgkcgpkaaGreatTkbo
set_option linter.all false
set_option maxRecDepth 100000
set_option maxHeartbeats 16000000
namespace Go.Proofs.YtfnockbgkcgpkaaGreat
open Go.RowKit Go.Proofs.Panes
structure DnOk (d:Dc)(c:Nat)(o:Opn):Prop where
 ask:o.kind=8->d.wait.length<=1000000000
 cre:o.kind=1->(SrB o.x/\SrB o.y)/\d.l.length<16
 key:o.kind≠8->o.kind≠1->(2<=o.kind/\o.kind<=7)/\((c:Int),o.surf)∈d.l.map qw
 mov:o.kind=4->SrB o.x/\SrB o.y
 att:o.kind=3->((0<=o.w/\o.w<=8)/\(0<=o.h/\o.h<=8))/\(o.px.length:Int)=o.w*o.h
section
variable {U:Nat->Prop}{w w1 w2 w':World}{rp:Nat}{d d' d'':Dc}{v:Dv}{pvs:List Value}
theorem qu7 (h:DSc U w rp d v pvs)(hUl:∀ k,U k->k<w.heap.size)(c:Nat)(o:Opn)(po:Option Addr)(pn pc:Nat)(hpn:pn=o.px.length)(hR:RdN U w (.slice po pn pc) o.px)(hk:DnOk d c o) :
 Calls Tryz.prog 124 #[.pointer (some ⟨rp,0,none⟩),.int .i64 (c:Int),.agg #[.int .i64 o.kind,.int .i64 o.surf,.int .i64 o.x,.int .i64 o.y,.int .i64 o.w,.int .i64 o.h,.slice po pn pc,.int .i64 o.mark]] w fun e w'=>(∃ u,e=.returned u)/\jX U w rp v (qO d c o) w':=by
 by_cases h8:o.kind=8
 ·exact qu8 h hUl c o po pn pc h8 (hk.ask h8)
 ·by_cases h1:o.kind=1
  ·obtain⟨⟨hx,hy⟩,hl⟩:=hk.cre h1;exact YD h hUl c o po pn pc h1 hx hy hl
  ·obtain⟨hb,hm⟩:=hk.key h8 h1
   rcases (show o.kind=2\/o.kind=3\/o.kind=4\/o.kind=5\/o.kind=6\/o.kind=7 by omega) with k | k | k | k | k | k
   ·exact Vw h hUl c o po pn pc k hm
   ·obtain⟨hwh,hpl⟩:=hk.att k;exact YE h hUl c o po pn pc k hm hwh hpl hpn hR
   ·obtain⟨hx,hy⟩:=hk.mov k;exact ql0 h hUl c o po pn pc k hm hx hy
   ·exact qa4 h hUl c o po pn pc k hm
   ·exact qa5 h hUl c o po pn pc k hm
   ·exact qa3 h hUl c o po pn pc k hm
end
structure xW (d d':Dc):Prop where
 c:d'.c=d.c
 ks:d'.ks=d.ks
 p:d'.p=d.p
 fn:d'.fn=d.fn
 front:d'.front=d.front
 pnt:d'.pnt=d.pnt
 tgt:d'.tgt=d.tgt
 left:d'.left=d.left
 fp:d'.fp=d.fp
 marks:d'.marks=d.marks
 frames:d'.frames=d.frames
 t:d'.t=d.t
theorem xW.refl (d:Dc):xW d d:=⟨rfl,rfl,rfl,rfl,rfl,rfl,rfl,rfl,rfl,rfl,rfl,rfl⟩
theorem xW.trans {a b c:Dc}(h:xW a b)(k:xW b c):xW a c:=⟨k.c.trans h.c,k.ks.trans h.ks,k.p.trans h.p,k.fn.trans h.fn,k.front.trans h.front,k.pnt.trans h.pnt,k.tgt.trans h.tgt,k.left.trans h.left,k.fp.trans h.fp,k.marks.trans h.marks,k.frames.trans h.frames,k.t.trans h.t⟩
theorem ZL (d:Dc)(i:Nat)(x y:Int):xW d (zu d i x y):=by
 unfold zu
 split
 ·exact .refl d
 ·split<;>exact⟨rfl,rfl,rfl,rfl,rfl,rfl,rfl,rfl,rfl,rfl,rfl,rfl⟩
theorem JN (d:Dc)(c:Int)(o:Opn):xW d (qO d c o):=by
 unfold qO;have r:∀ l,xW d {d with l:=l}:=fun l=>⟨rfl,rfl,rfl,rfl,rfl,rfl,rfl,rfl,rfl,rfl,rfl,rfl⟩
 split
 ·exact⟨rfl,rfl,rfl,rfl,rfl,rfl,rfl,rfl,rfl,rfl,rfl,rfl⟩
 ·split
  ·exact r _
  ·split
   ·exact .refl d
   ·split
    ·exact⟨rfl,rfl,rfl,rfl,rfl,rfl,rfl,rfl,rfl,rfl,rfl,rfl⟩
    ·split
     ·exact⟨rfl,rfl,rfl,rfl,rfl,rfl,rfl,rfl,rfl,rfl,rfl,rfl⟩
     ·split
      ·exact (r _).trans (ZL _ _ _ _)
      ·split
       ·split
        ·exact⟨rfl,rfl,rfl,rfl,rfl,rfl,rfl,rfl,rfl,rfl,rfl,rfl⟩
        ·exact .refl d
       ·split
        ·split
         ·exact⟨rfl,rfl,rfl,rfl,rfl,rfl,rfl,rfl,rfl,rfl,rfl,rfl⟩
         ·exact .refl d
        ·exact r _
theorem xi.but' {C T:Nat->Prop}{w w':World}{v:Value}{l:List T3}(h:xi C w v l)(hb:But T w w')(hT:∀ x cs,C x->w.heap[x]?=some (.cells cs 53 (0,0))->¬T x):xi C w' v l:=by
 rcases h with h | ⟨g,off,cap,cs,h1,h2,h3,h4⟩
 ·exact .inl h
 ·exact .inr ⟨g,off,cap,cs,h1,h2,hb.heap h3 (hT g cs h2 h3),h4⟩
def vS (D:Nat->Prop)(w:World)(u:Value)(l:List Int):Prop:=∃ b,u=.slice (some ⟨b,0,none⟩) l.length l.length/\D b/\w.heap[b]?=some (.cells (l.map (Value.int .i64)).toArray 3 (0,0))
structure DKl (D Q U:Nat->Prop)(w:World)(cl:DCl)(k:Cli)(mq:List (T3×List Opn)):Prop where
 th:cl.there=true
 cr:cl.cr=k.cr
 wl:ze w 0 cl.wv k.own
 cw:∀ x,cl.wv.ownBlock=some x->D x
 q:mq.map Prod.snd=k.q
 rd:∀ t∈mq,RdO U w (sl t.1) t.2
 row:xi Q w cl.q (mq.map Prod.fst)
def DK (D Q U:Nat->Prop)(w:World)(cl:DCl)(x:Option Cli):Prop:=match x with
 | none=>cl=⟨false,.slice none 0 0,0,.slice none 0 0⟩
 | some k=>∃ mq,DKl D Q U w cl k mq
structure qU (D U:Nat->Prop)(qo:Nat->Nat)(w:World)(rp:Nat)(d:Dc)(v:Dv)(pvs:List Value):Prop where
 sc:DSc U w rp d v pvs
 cls:w.heap[v.cb]?=some (.cells (qG v.cl).toArray 123 (0,0))
 kn:v.cl.length=d.ks.length
 kl:∀ (j:Nat)(x:Option Cli),d.ks[j]?=some x->∃ cl,v.cl[j]?=some cl/\DK D (fun y=>qo y=j+1) U w cl x
 pic:∀ i,i<3->vS D w (v.pp i) (d.p i)
 fpc:d.pnt=true->vS D w v.fpv d.fp
 mks:jM w 0 v.mv d.marks
 mw:∀ x,v.mv.ownBlock=some x->v.wv.ownBlock≠some x
 wg:∀ (j:Nat)(cl:DCl)(i:Nat),v.cl[j]?=some cl->i<3->cl.wv.ownBlock≠some (v.g i)
 cb:D rp/\D v.cb/\(∀ i,i<3->D (v.g i))/\(∀ x,v.sv.ownBlock=some x->D x)/\(∀ x,v.wv.ownBlock=some x->D x)/\(∀ x,v.mv.ownBlock=some x->D x)
 qd:∀ x,qo x≠0->D x
 dU:∀ x,D x->¬U x
 dl:∀ x,D x->x<w.heap.size
section
variable {D U:Nat->Prop}{qo:Nat->Nat}{w w1 w2 w':World}{rp:Nat}{d d' d'':Dc}{v:Dv}{pvs:List Value}
theorem vS.but {S:Nat->Prop}{u:Value}{l:List Int}(h:vS D w u l)(hb:But S w w')(hS:∀ k cs fz,w.heap[k]?=some (.cells cs 3 fz)->¬S k):vS D w' u l:=by
 obtain⟨b,h1,h2,h3⟩:=h;exact⟨b,h1,h2,hb.heap h3 (hS b _ _ h3)⟩
theorem vS.mono {D':Nat->Prop}{u:Value}{l:List Int}(h:vS D w u l)(hD:∀ x,D x->D' x):vS D' w u l:=by
 obtain⟨b,h1,h2,h3⟩:=h;exact⟨b,h1,hD b h2,h3⟩
theorem DK.but {Q S:Nat->Prop}{cl:DCl}{x:Option Cli}(h:DK D Q U w cl x)(hb:But S w w')(h1:∀ k,cl.wv.ownBlock=some k->¬S k)(h2:∀ k cs,Q k->w.heap[k]?=some (.cells cs 53 (0,0))->¬S k)(h3:∀ k,U k->¬S k):DK D Q U w' cl x:=by
 cases x with
 | none=>exact h
 | some k=>
  obtain⟨mq,hk⟩:=h;exact⟨mq,hk.th,hk.cr,qi hk.wl hb h1,hk.cw,hk.q,fun t ht=>(hk.rd t ht).but hb h3,hk.row.but' hb h2⟩
theorem DK.mono {D' Q Q':Nat->Prop}{cl:DCl}{x:Option Cli}(h:DK D Q U w cl x)(hD:∀ x,D x->D' x)(hQ:∀ x,Q x->Q' x):DK D' Q' U w cl x:=by
 cases x with
 | none=>exact h
 | some k=>
  obtain⟨mq,hk⟩:=h;exact⟨mq,hk.th,hk.cr,hk.wl,fun x hx=>hD x (hk.cw x hx),hk.q,hk.rd,hk.row.mono hQ⟩
theorem DSc.ty (h:DSc U w rp d v pvs){k:Nat}{cs:Array Value}{t:TypeId}{fz:Nat×Nat}(hk:w.heap[k]?=some (.cells cs t fz))(h1:t≠121)(h2:t≠128)(h3:t≠153)(h4:t≠4):¬DsW rp v k:=fun e=>by
 rcases e with (e | e | e | e) | e | e
 ·rw[e,h.blk] at hk;simp only[Option.some.injEq,Obj.cells.injEq] at hk;exact h1 hk.2.1.symm
 ·exact qq (h.st 0 (by omega)).1 hk h4 (by rw[e];rfl)
 ·exact qq (h.st 1 (by omega)).1 hk h4 (by rw[e];rfl)
 ·exact qq (h.st 2 (by omega)).1 hk h4 (by rw[e];rfl)
 ·exact qq h.sf.own hk h2 e
 ·exact qq h.wt hk h3 e
theorem qU.dsw (h:qU D U qo w rp d v pvs):∀ k,DsW rp v k->D k:=fun k e=>by
 obtain⟨c1,c2,c3,c4,c5,c6⟩:=h.cb
 rcases e with (e | e | e | e) | e | e
 ·rw[e];exact c1
 ·rw[e];exact c3 0 (by omega)
 ·rw[e];exact c3 1 (by omega)
 ·rw[e];exact c3 2 (by omega)
 ·exact c4 k e
 ·exact c5 k e
theorem qU.go (h:qU D U qo w rp d v pvs)(hUl:∀ k,U k->k<w.heap.size)(hG:jX U w rp v d' w')(hk:xW d d'):∃ sv' wv' pvs',qU (grow D w w') U qo w' rp d' {v with sv:=sv',wv:=wv'} pvs'/\But D w w':=by
 obtain⟨sv',wv',pvs',g1,g2,g3⟩:=hG.ex;have hb:=hG.but;have hbD:But D w w':=hb.wide fun k _ e=>h.dsw k e;have hz:=hb.size;obtain⟨c1,c2,c3,c4,c5,c6⟩:=h.cb;have nU:∀ k,U k->¬DsW rp v k:=fun k hu e=>h.dU k (h.dsw k e) hu;have gD:∀ x,D x->grow D w w' x:=fun x hx=>.inl hx;refine⟨sv',wv',pvs',⟨g1,hb.heap h.cls (h.sc.ty h.cls (by decide) (by decide) (by decide) (by decide)),by rw[hk.ks];exact h.kn,fun j x hx=>?_,fun i hi=>?_,fun hp=>?_,?_,fun x hx e=>?_,h.wg,⟨.inl c1,.inl c2,fun i hi=>.inl (c3 i hi),fun x hx=>?_,fun x hx=>?_,fun x hx=>.inl (c6 x hx)⟩,fun x hx=>.inl (h.qd x hx),fun x hx e=>?_,fun x hx=>?_⟩,hbD⟩
 ·rw[hk.ks] at hx;obtain⟨cl,hcl,hd⟩:=h.kl j x hx;refine⟨cl,hcl,(hd.but hb (fun k hk' e=>?_) (fun k cs _ hc=>h.sc.ty hc (by decide) (by decide) (by decide) (by decide)) nU).mono gD (fun _ e=>e)⟩
  cases x with
  | none=>
   have:cl=⟨false,.slice none 0 0,0,.slice none 0 0⟩:=hd;rw[this] at hk'
   cases hk'
  | some kk=>
   obtain⟨mq,hkl⟩:=hd
   rcases e with (e | e | e | e) | e | e
   ·exact qq hkl.wl h.sc.blk (by decide) (by rw[<-e];exact hk')
   ·exact h.wg j cl 0 hcl (by omega) (by rw[<-e];exact hk')
   ·exact h.wg j cl 1 hcl (by omega) (by rw[<-e];exact hk')
   ·exact h.wg j cl 2 hcl (by omega) (by rw[<-e];exact hk')
   ·exact qS hkl.wl h.sc.sf.own (by decide) hk' e
   ·exact qS hkl.wl h.sc.wt (by decide) hk' e
 ·rw[hk.p];exact ((h.pic i hi).but hb (fun k cs fz hc=>h.sc.ty hc (by decide) (by decide) (by decide) (by decide))).mono gD
 ·rw[hk.fp];exact ((h.fpc (by rw[<-hk.pnt];exact hp)).but hb (fun k cs fz hc=>h.sc.ty hc (by decide) (by decide) (by decide) (by decide))).mono gD
 ·rw[hk.marks];refine qi h.mks hb (fun k hk' e=>?_)
  rcases e with (e | e | e | e) | e | e
  ·exact qq h.mks h.sc.blk (by decide) (by rw[<-e];exact hk')
  ·exact qS h.mks (h.sc.st 0 (by omega)).1 (by decide) hk' (by rw[e];rfl)
  ·exact qS h.mks (h.sc.st 1 (by omega)).1 (by decide) hk' (by rw[e];rfl)
  ·exact qS h.mks (h.sc.st 2 (by omega)).1 (by decide) hk' (by rw[e];rfl)
  ·exact qS h.mks h.sc.sf.own (by decide) hk' e
  ·exact h.mw k hk' e
 ·rcases g3 x e with q | q
  ·exact h.mw x hx q
  ·have:=(World.ownsRow.lt h.mks x hx).2;omega
 ·rcases g2 x hx with q | q
  ·exact .inl (c4 x q)
  ·exact .inr ⟨q,(World.ownsRow.lt g1.sf.own x hx).2⟩
 ·rcases g3 x hx with q | q
  ·exact .inl (c5 x q)
  ·exact .inr ⟨q,(World.ownsRow.lt g1.wt x hx).2⟩
 ·rcases hx with q | q
  ·exact h.dU x q e
  ·have:=hUl x e;omega
 ·rcases hx with q | q
  ·have:=h.dl x q;omega
  ·exact q.2
end
def crK (cr:Int)(q:List (List Opn))(m:Nat):Int:=cr-((q.take m).map qA).sum
theorem Q2 (cr:Int)(q:List (List Opn)):crK cr q 0=cr:=by simp[crK]
theorem YK {cr:Int}{q:List (List Opn)}{m:Nat}{t:List Opn}(h:q[m]?=some t):crK cr q (m+1)=crK cr q m-qA t:=by
 unfold crK;rw[List.take_add_one,h];simp only[Option.toList_some,List.map_append,List.map_cons,List.map_nil,List.sum_append,List.sum_cons,List.sum_nil];omega
theorem Jh:∀ (q:List (List Opn))(cr:Int)(m:Nat),m<=q.length->(∀ (i:Nat)(t:List Opn),i<m->q[i]?=some t->qA t<=crK cr q i)->(m=q.length\/∃ t,q[m]?=some t/\crK cr q m<qA t)->zP cr q=(m,crK cr q m)
 | [],cr,m,hm,_,_=>by
  have:m=0:=(by simpa using hm);subst this;simp[zP,crK]
 | t::q,cr,0,hm,_,he=>by
  rcases he with e | ⟨t',e1,e2⟩
  ·simp at e
  ·simp only[List.getElem?_cons_zero,Option.some.injEq] at e1;subst e1;rw[Q2] at e2 ⊢;unfold zP;rw[if_neg (by omega)]
 | t::q,cr,m+1,hm,ha,he=>by
  have h0:=ha 0 t (by omega) rfl;rw[Q2] at h0;have hshift:∀ i,crK cr (t::q) (i+1)=crK (cr-qA t) q i:=fun i=>by
   unfold crK;simp only[List.take_succ_cons,List.map_cons,List.sum_cons];omega
  have ih:=Jh q (cr-qA t) m (by simpa using hm) (fun i x hi hx=>by
   have:=ha (i+1) x (by omega) (by simpa using hx);rw[hshift] at this;exact this) (by
   rcases he with e | ⟨x,e1,e2⟩
   ·exact .inl (by simpa using e)
   ·rw[hshift] at e2;exact .inr ⟨x,by simpa using e1,e2⟩)
  unfold zP;rw[if_pos h0,ih,hshift]
theorem yE:∀ (l:List DCl)(j:Nat)(c:DCl),l[j]?=some c->∀ (t:Nat)(u:Value)(c':DCl),t<4->zK c'=(zK c).set t u->(qG l).set (j*4+t) u=qG (l.set j c')
 | [],j,c,h,_,_,_,_,_=>by simp at h
 | q::l,0,c,h,t,u,c',ht,hc=>by
  simp only[List.getElem?_cons_zero,Option.some.injEq] at h;subst h;show (zK q++qG l).set (0*4+t) u=zK c'++qG l;rw[Nat.zero_mul,Nat.zero_add,List.set_append_left _ _ (by simp[zK];omega),hc]
 | q::l,j+1,c,h,t,u,c',ht,hc=>by
  have ih:=yE l j c (by simpa using h) t u c' ht hc;show (zK q++qG l).set ((j+1)*4+t) u=zK q++qG (l.set j c');rw[List.set_append_right _ _ (by simp[zK];omega),<-ih]
  congr 2
  simp[zK];omega
section
variable {D U:Nat->Prop}{qo:Nat->Nat}{w w1 w2 w':World}{rp:Nat}{d d' d'':Dc}{v:Dv}{pvs:List Value}
theorem qv5 (d:Dc)(v:Dv)(ks:List (Option Cli))(j:Nat)(cl:DCl):dcs {d with ks:=ks} {v with cl:=v.cl.set j cl}=dcs d v:=by
 unfold dcs;simp only[List.length_set]
 rfl
theorem qU.cli (h:qU D U qo w rp d v pvs){j:Nat}{cl cl':DCl}{x':Option Cli}(hj:j<d.ks.length)(hcl:v.cl[j]?=some cl)(hb:But (fun x=>x=v.cb) w w')(hcls:w'.heap[v.cb]?=some (.cells (qG (v.cl.set j cl')).toArray 123 (0,0)))(hd:DK D (fun y=>qo y=j+1) U w cl' x')(hw:cl'.wv=cl.wv):qU D U qo w' rp {d with ks:=d.ks.set j x'} {v with cl:=v.cl.set j cl'} pvs:=by
 obtain⟨c1,c2,c3,c4,c5,c6⟩:=h.cb;have hty:∀ {k:Nat}{cs:Array Value}{t:TypeId}{fz:Nat×Nat},w.heap[k]?=some (.cells cs t fz)->t≠123->¬k=v.cb:=fun hk ht e=>by
  rw[e,h.cls] at hk;simp only[Option.some.injEq,Obj.cells.injEq] at hk;exact ht hk.2.1.symm
 have hrow:∀ {e:TypeId}{size:Nat}{u:Value}{n:Nat}{xs:List Value}{base:Nat},w.ownsRow base e size u n xs->123≠e->∀ k,u.ownBlock=some k->¬k=v.cb:=fun hr ht k hk e=>qq hr h.cls ht (by rw[<-e];exact hk);have hnU:∀ k,U k->¬k=v.cb:=fun k hu e=>h.dU k (by rw[e];exact c2) hu;have hsc:DSc U w' rp {d with ks:=d.ks.set j x'} {v with cl:=v.cl.set j cl'} pvs:=by
  refine⟨?_,fun i hi=>⟨qi (h.sc.st i hi).1 hb (hrow (h.sc.st i hi).1 (by decide)),(h.sc.st i hi).2⟩,h.sc.gi,h.sc.sf.but hb (hrow h.sc.sf.own (by decide)) hnU,h.sc.pl,h.sc.far,h.sc.cfg,h.sc.len,qi h.sc.wt hb (hrow h.sc.wt (by decide)),h.sc.wU⟩;rw[qv5];exact hb.heap h.sc.blk (hty h.sc.blk (by decide))
 refine⟨hsc,hcls,by rw[List.length_set,List.length_set];exact h.kn,fun i x hx=>?_,fun i hi=>(h.pic i hi).but hb (fun k cs fz hc=>hty hc (by decide)),fun hp=>(h.fpc hp).but hb (fun k cs fz hc=>hty hc (by decide)),qi h.mks hb (hrow h.mks (by decide)),h.mw,fun i c t hc ht=>?_,h.cb,h.qd,h.dU,fun x hx=>zzm (h.dl x hx) hb.size⟩
 ·have hx2:(d.ks.set j x')[i]?=some x:=hx;rw[List.getElem?_set] at hx2;have hjl:j<v.cl.length:=(zzg hcl).1;have key:∀ {c:DCl}{y:Option Cli},DK D (fun y=>qo y=i+1) U w c y->DK D (fun y=>qo y=i+1) U w' c y:=fun {c y} hdk=>hdk.but hb (fun k hk e=>by
   cases y with
   | none=>
    have:c=⟨false,.slice none 0 0,0,.slice none 0 0⟩:=hdk;rw[this] at hk
    cases hk
   | some kk=>
    obtain⟨mq,hkl⟩:=hdk;exact hrow hkl.wl (by decide) k hk e) (fun k cs _ hc=>hty hc (by decide)) hnU
  by_cases e:j=i
  ·subst e;rw[if_pos rfl,if_pos hj] at hx2;simp only[Option.some.injEq] at hx2;subst hx2;exact⟨cl',List.getElem?_set_self hjl,key hd⟩
  ·rw[if_neg e] at hx2;obtain⟨c,h1,h2⟩:=h.kl i x hx2;exact⟨c,by show (v.cl.set j cl')[i]?=_;rw[List.getElem?_set_ne e];exact h1,key h2⟩
 ·have hc':(v.cl.set j cl')[i]?=some c:=hc;rw[List.getElem?_set] at hc'
  by_cases e:j=i
  ·subst e;rw[if_pos rfl,if_pos (zzg hcl).1] at hc';simp only[Option.some.injEq] at hc';subst hc';rw[hw];exact h.wg j cl t hcl ht
  ·rw[if_neg e] at hc';exact h.wg i c t hc' ht
theorem qU.credit (h:qU D U qo w rp d v pvs){j:Nat}{cl:DCl}{k:Cli}{mq:List (T3×List Opn)}(hj:d.ks[j]?=some (some k))(hcl:v.cl[j]?=some cl)(hk:DKl D (fun y=>qo y=j+1) U w cl k mq)(z:Int):qU D U qo (w.setCell ⟨v.cb,j*4+2,none⟩ (.int .i64 z)) rp {d with ks:=d.ks.set j (some {k with cr:=z})} {v with cl:=v.cl.set j {cl with cr:=z}} pvs:=by
 have hb:But (fun x=>x=v.cb) w (w.setCell ⟨v.cb,j*4+2,none⟩ (.int .i64 z)):=(But.refl (fun x=>x=v.cb) w).setCell (p:=⟨v.cb,j*4+2,none⟩) (.inl rfl) _;refine h.cli (x':=some {k with cr:=z}) (zzg hj).1 hcl hb ?_ ⟨mq,hk.th,rfl,hk.wl,hk.cw,hk.q,hk.rd,hk.row⟩ rfl;have h1:=qp (i:=j*4+2) h.cls (.int .i64 z);rw[h1];have:=yE v.cl j cl hcl 2 (.int .i64 z) {cl with cr:=z} (by omega) rfl;rw[<-this];simp
theorem qU.queue (h:qU D U qo w rp d v pvs){j:Nat}{cl:DCl}{k:Cli}{mq mq':List (T3×List Opn)}(hj:d.ks[j]?=some (some k))(hcl:v.cl[j]?=some cl)(hk:DKl D (fun y=>qo y=j+1) U w cl k mq){qv:Value}(hrow:xi (fun y=>qo y=j+1) w qv (mq'.map Prod.fst))(hrd:∀ t∈mq',RdO U w (sl t.1) t.2):qU D U qo (w.setCell ⟨v.cb,j*4+1,none⟩ qv) rp {d with ks:=d.ks.set j (some {k with q:=mq'.map Prod.snd})} {v with cl:=v.cl.set j {cl with q:=qv}} pvs:=by
 have hb:But (fun x=>x=v.cb) w (w.setCell ⟨v.cb,j*4+1,none⟩ qv):=(But.refl (fun x=>x=v.cb) w).setCell (p:=⟨v.cb,j*4+1,none⟩) (.inl rfl) _;refine h.cli (x':=some {k with q:=mq'.map Prod.snd}) (zzg hj).1 hcl hb ?_ ⟨mq',hk.th,hk.cr,hk.wl,hk.cw,rfl,hrd,hrow⟩ rfl;have h1:=qp (i:=j*4+1) h.cls qv;rw[h1];have:=yE v.cl j cl hcl 1 qv {cl with q:=qv} (by omega) rfl;rw[<-this];simp
theorem qU.below (h:qU D U qo w rp d v pvs)(hb:Below w.heap.size w w'):qU D U qo w' rp d v pvs:=by
 have hbt:But (fun _=>False) w w':=.of_below hb;exact⟨h.sc.below hb,hbt.heap h.cls (fun e=>e),h.kn,fun j x hx=>by
  obtain⟨cl,h1,h2⟩:=h.kl j x hx;exact⟨cl,h1,h2.but hbt (fun _ _ e=>e) (fun _ _ _ _ e=>e) (fun _ _ e=>e)⟩,fun i hi=>(h.pic i hi).but hbt (fun _ _ _ _ e=>e),fun hp=>(h.fpc hp).but hbt (fun _ _ _ _ e=>e),qi h.mks hbt (fun _ _ e=>e),h.mw,h.wg,h.cb,h.qd,h.dU,fun x hx=>zzm (h.dl x hx) hb.size⟩
theorem qU.chg (h:qU D U qo w rp d v pvs):qU D U qo (w.setCell ⟨rp,27,none⟩ (.bool true)) rp {d with ch:=true} v pvs:=by
 have hb:But (fun x=>x=rp) w (w.setCell ⟨rp,27,none⟩ (.bool true)):=(But.refl (fun x=>x=rp) w).setCell (p:=⟨rp,27,none⟩) (.inl rfl) _;have hty:∀ {k:Nat}{cs:Array Value}{t:TypeId}{fz:Nat×Nat},w.heap[k]?=some (.cells cs t fz)->t≠121->¬k=rp:=fun hk ht e=>by
  rw[e,h.sc.blk] at hk;simp only[Option.some.injEq,Obj.cells.injEq] at hk;exact ht hk.2.1.symm
 have hrow:∀ {e:TypeId}{size:Nat}{u:Value}{n:Nat}{xs:List Value}{base:Nat},w.ownsRow base e size u n xs->121≠e->∀ k,u.ownBlock=some k->¬k=rp:=fun hr ht k hk e=>qq hr h.sc.blk ht (by rw[<-e];exact hk);have hnU:∀ k,U k->¬k=rp:=fun k hu e=>h.dU k (by rw[e];exact h.cb.1) hu;have hsc:DSc U (w.setCell ⟨rp,27,none⟩ (.bool true)) rp {d with ch:=true} v pvs:=by
  refine⟨?_,fun i hi=>⟨qi (h.sc.st i hi).1 hb (hrow (h.sc.st i hi).1 (by decide)),(h.sc.st i hi).2⟩,h.sc.gi,h.sc.sf.but hb (hrow h.sc.sf.own (by decide)) hnU,h.sc.pl,h.sc.far,h.sc.cfg,h.sc.len,qi h.sc.wt hb (hrow h.sc.wt (by decide)),h.sc.wU⟩;exact qp (i:=27) h.sc.blk _
 refine⟨hsc,hb.heap h.cls (hty h.cls (by decide)),h.kn,fun j x hx=>?_,fun i hi=>(h.pic i hi).but hb (fun k cs fz hc=>hty hc (by decide)),fun hp=>(h.fpc hp).but hb (fun k cs fz hc=>hty hc (by decide)),qi h.mks hb (hrow h.mks (by decide)),h.mw,h.wg,h.cb,h.qd,h.dU,fun x hx=>zzm (h.dl x hx) hb.size⟩;obtain⟨cl,h1,hdk⟩:=h.kl j x hx;refine⟨cl,h1,hdk.but hb (fun k hk e=>?_) (fun k cs _ hc=>hty hc (by decide)) hnU⟩
 cases x with
 | none=>
  have:cl=⟨false,.slice none 0 0,0,.slice none 0 0⟩:=hdk;rw[this] at hk
  cases hk
 | some kk=>
  obtain⟨mq,hkl⟩:=hdk;exact hrow hkl.wl (by decide) k hk e
def qX (D U:Nat->Prop)(qo:Nat->Nat)(w:World)(rp cb:Nat)(d':Dc)(w':World):Prop:=∃ D' v' pvs',qU D' U qo w' rp d' v' pvs'/\(∀ x,D' x->D x\/w.heap.size<=x)/\v'.cb=cb/\But D w w'
theorem qX.refl (h:qU D U qo w rp d v pvs):qX D U qo w rp v.cb d w:=⟨D,v,pvs,h,fun x hx=>.inl hx,rfl,But.refl _ _⟩
theorem qX.below {cb:Nat}(h:qX D U qo w rp cb d w1)(hb:Below w1.heap.size w1 w'):qX D U qo w rp cb d w':=by
 obtain⟨D',v',pvs',h1,h2,h3,h4⟩:=h;exact⟨D',v',pvs',h1.below hb,h2,h3,h4.trans (.of_below hb)⟩
theorem qX.chg {cb:Nat}(h:qX D U qo w rp cb d w1):qX D U qo w rp cb {d with ch:=true} (w1.setCell ⟨rp,27,none⟩ (.bool true)):=by
 obtain⟨D',v',pvs',h1,h2,h3,h4⟩:=h;refine⟨D',v',pvs',h1.chg,h2,h3,h4.setCell (p:=⟨rp,27,none⟩) (h2 rp h1.cb.1) _⟩
theorem qX.done {cb:Nat}(h:qX D U qo w rp cb d w1)(hUl:∀ k,U k->k<w.heap.size)(c:Nat)(o:Opn)(po:Option Addr)(pn pc:Nat)(hpn:pn=o.px.length)(hR:RdN U w1 (.slice po pn pc) o.px)(hk:DnOk d c o) :
 Calls Tryz.prog 124 #[.pointer (some ⟨rp,0,none⟩),.int .i64 (c:Int),.agg #[.int .i64 o.kind,.int .i64 o.surf,.int .i64 o.x,.int .i64 o.y,.int .i64 o.w,.int .i64 o.h,.slice po pn pc,.int .i64 o.mark]] w1 fun e w'=>(∃ u,e=.returned u)/\qX D U qo w rp cb (qO d c o) w':=by
 obtain⟨D',v',pvs',h1,h2,h3,h4⟩:=h;have hUl1:∀ k,U k->k<w1.heap.size:=fun k hk=>zzm (hUl k hk) h4.size;refine (qu7 h1.sc hUl1 c o po pn pc hpn hR hk).mono ?_;rintro e w' ⟨g1,g2⟩;obtain⟨sv',wv',pvs2,k1,k2⟩:=h1.go hUl1 g2 (JN d c o);refine⟨g1,grow D' w1 w',{v' with sv:=sv',wv:=wv'},pvs2,k1,fun x hx=>?_,h3,h4.step k2 h2⟩
 rcases hx with q | q
 ·exact h2 x q
 ·exact .inr (Nat.le_trans h4.size q.1)
end
theorem qj3 (d:Dc)(K:List (Option Cli))(i:Nat)(x y:Int):zu {d with ks:=K} i x y={zu d i x y with ks:=K}:=by
 unfold zu;simp only
 split
 ·rfl
 ·split<;>rfl
theorem qu9 (d:Dc)(K:List (Option Cli))(c:Int)(o:Opn):qO {d with ks:=K} c o={qO d c o with ks:=K}:=by
 unfold qO;simp only
 split
 ·rfl
 ·split
  ·rfl
  ·split
   ·rfl
   ·rename_i s _
    split
    ·rfl
    ·split
     ·rfl
     ·split
      ·exact qj3 {d with l:=d.l.set (d.l.findIdx (isK c o.surf)) {s with left:=0}} K _ _ _
      ·split
       ·split<;>rfl
       ·split
        ·split<;>rfl
        ·rfl
structure AdF (w:World)(rp cb j nk:Nat)(qn:Int)(ro:Option Addr)(n qc:Nat)(cr:Int):Prop where
 c8:w.cell? ⟨rp,8,none⟩=some (.slice (some ⟨cb,0,none⟩) nk nk)
 c5:w.cell? ⟨rp,5,none⟩=some (.int .i64 qn)
 q1:w.cell? ⟨cb,j*4+1,none⟩=some (.slice ro n qc)
 q2:w.cell? ⟨cb,j*4+2,none⟩=some (.int .i64 cr)
 lr:rp<w.heap.size
 lc:cb<w.heap.size
 fz:∀ t,w.frozen? ⟨cb,t,none⟩=false
 fr:∀ t,w.frozen? ⟨rp,t,none⟩=false
 ne:¬rp=cb
 ne':¬cb=rp
section
variable {D U:Nat->Prop}{qo:Nat->Nat}{w w1 w2 w':World}{rp cb j:Nat}{d d' d'':Dc}{v:Dv}{pvs:List Value}{k:Cli}
theorem qU.adf (h:qU D U qo w rp d v pvs){cl:DCl}(hcl:v.cl[j]?=some cl){ro:Option Addr}{n qc:Nat}(hq:cl.q=.slice ro n qc):AdF w rp v.cb j d.ks.length d.c.quantum ro n qc cl.cr:=by
 obtain⟨e0,e1,e2,e3⟩:=jC v.cl j cl hcl;have hne:¬rp=v.cb:=fun e=>by
  have:=h.cls;rw[<-e,h.sc.blk] at this;simp at this
 refine⟨?_,qe h.sc.blk 5,?_,?_,qh h.sc.blk,qh h.cls,fun t=>qj h.cls t,fun t=>qj h.sc.blk t,hne,fun e=>hne e.symm⟩
 ·rw[qe h.sc.blk 8];show some (Value.slice (some ⟨v.cb,0,none⟩) v.cl.length v.cl.length)=_;rw[h.kn]
 ·rw[qe h.cls];simpa[hq] using e1
 ·rw[qe h.cls];simpa using e2
theorem qX.get (h:qX D U qo w rp cb d w1)(hj:d.ks[j]?=some (some k)):∃ ro qc,AdF w1 rp cb j d.ks.length d.c.quantum ro k.q.length qc k.cr/\k.q.length<=qc/\(∀ z:Int,qX D U qo w rp cb {d with ks:=d.ks.set j (some {k with cr:=z})} (w1.setCell ⟨cb,j*4+2,none⟩ (.int .i64 z)))/\
 (∀ t,k.q[0]?=some t->∃ g off po pc,ro=some ⟨g,off,none⟩/\w1.cell? ⟨g,off,none⟩=some (.slice po t.length pc)/\g<w1.heap.size/\¬g=cb/\RdO U w1 (.slice po t.length pc) t/\qX D U qo w rp cb {d with ks:=d.ks.set j (some {k with q:=k.q.drop 1})} (w1.setCell ⟨cb,j*4+1,none⟩ (.slice (if qc=1 then some ⟨g,off,none⟩ else some ⟨g,off+1,none⟩) (k.q.length-1) (qc-1)))):=by
 obtain⟨D',v',pvs',h1,h2,h3,h4⟩:=h;obtain⟨cl,hcl,mq,hk⟩:=h1.kl j _ hj;have hlen:(mq.map Prod.fst).length=k.q.length:=(by rw[List.length_map,<-hk.q,List.length_map]);obtain⟨ro,qc,hq,hqc⟩:=hk.row.slice;rw[hlen] at hq hqc;have hadf:=h1.adf hcl hq;rw[h3,hk.cr] at hadf;have hset:∀ (p:Nat)(u:Value),But D w (w1.setCell ⟨cb,p,none⟩ u):=fun p u=>h4.setCell (p:=⟨cb,p,none⟩) (by rw[<-h3];exact h2 v'.cb h1.cb.2.1) u;refine⟨ro,qc,hadf,hqc,fun z=>⟨D',{v' with cl:=v'.cl.set j {cl with cr:=z}},pvs',by rw[<-h3];exact h1.credit hj hcl hk z,h2,h3,hset _ _⟩,fun t ht=>?_⟩;have hq0:mq≠[]:=fun e=>by rw[e] at hk;rw[<-hk.q] at ht;simp at ht
 rcases hk.row with ⟨e1,e2⟩ | ⟨g,off,cap,cs,e1,hC,hg,hl,hmx,hsz,hat⟩
 ·exact absurd (List.map_eq_nil_iff.1 e2) hq0
 ·rw[hlen,hq] at e1;simp only[Value.slice.injEq,true_and] at e1;obtain⟨e1,rfl⟩:=e1;obtain⟨m0,hm0⟩:∃ m0,mq[0]?=some m0:=by
   cases mq with
   | nil=>exact absurd rfl hq0
   | cons a l=>exact⟨a,rfl⟩
  have ht0:m0.2=t:=by
   rw[<-hk.q,List.getElem?_map,hm0] at ht;exact Option.some.inj ht
  have hrd:=hk.rd m0 (zzn hm0);rw[ht0] at hrd;obtain⟨po,pc,hsl,-⟩:=id hrd;have hc0:=hat 0 m0.1 (by rw[List.getElem?_map,hm0];rfl);rw[Nat.add_zero,hsl] at hc0;have hgne:¬g=v'.cb:=fun e=>by
   have:=h1.cls;rw[<-e,hg] at this;simp at this
  refine⟨g,off,po,pc,e1,by rw[qe hg];exact hc0,qh hg,by rw[<-h3];exact hgne,by rw[<-hsl];exact hrd,?_⟩;have hcut:=xi.cut (g:=g) (off:=off) (n:=k.q.length) (cap:=qc) (l:=mq.map Prod.fst) (k:=1) (by
   have:=hk.row;rw[hq,e1] at this;exact this) (by rw[hlen];exact (zzg ht).1)
  rw[<-List.map_drop] at hcut;have hq':=h1.queue (mq':=mq.drop 1) hj hcl hk hcut (fun t ht=>hk.rd t (List.mem_of_mem_drop ht));have eq1:(mq.drop 1).map Prod.snd=k.q.drop 1:=(by rw[List.map_drop,hk.q]);rw[eq1] at hq';rw[<-h3];exact⟨D',_,pvs',hq',h2,rfl,by rw[h3];exact hset _ _⟩
end
end Go.Proofs.YtfnockbgkcgpkaaGreat
