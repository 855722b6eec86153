import Derived.Test.YtfnockbgkcgpkaaGreatTkac
import Derived.Deep.AppendLies
set_option linter.all false
set_option maxRecDepth 100000
set_option maxHeartbeats 16000000
namespace Go.Proofs.YtfnockbgkcgpkaaGreat
open Go.RowKit Go.Proofs.Panes
def rep (c:Nat)(m:List Value):List Value:=(List.replicate c m).flatten
theorem Z2 (c:Nat)(m:List Value):(rep c m).length=c*m.length:=by
 unfold rep;rw[List.length_flatten,List.map_replicate,List.sum_replicate_nat]
theorem Z3 (a b:Nat)(m:List Value):rep (a+b) m=rep a m++rep b m:=by
 unfold rep;rw[<-List.replicate_append_replicate,List.flatten_append]
theorem za4 {m:List Value}(h:∀ u∈m,u.oneCell'=true)(c:Nat):∀ u∈rep c m,u.oneCell'=true:=by
 intro u hu;unfold rep at hu;rw[List.mem_flatten] at hu;obtain⟨l,hl,hu⟩:=hu;rw[(List.mem_replicate.1 hl).2] at hu;exact h u hu
def qg0 (sty ety:TypeId)(sz bt:Nat):Prop:=∃ (i:TypeInfo)(z:Value),Tryz.prog.underlying sty=some (.slice ety)/\Tryz.prog.info? ety=some i/\i.zero=some z/\i.size=sz/\i.bytes=bt/\z.cells.size=sz/\0<sz/\bt<=1000
theorem Jo {w:World}{base g n m cap sz:Nat}{e:TypeId}{A B:List Value}(h:w.ownsRow base e sz (.slice (some ⟨g,0,none⟩) n cap) n (A++B))(hA:A.length=m*sz)(hm:m<=n):w.ownsRow base e sz (.slice (some ⟨g,0,none⟩) m cap) m A:=by
 rcases h.2 with ⟨e,_⟩ | ⟨k,c,cur,e,hb,hk,hc,hx,hz,ht⟩
 ·cases e
 ·simp only[Value.slice.injEq,Option.some.injEq,Addr.mk.injEq,and_true,true_and] at e;obtain⟨rfl,rfl⟩:=e;refine⟨hA,.inr ⟨g,cap,cur,rfl,hb,hk,by omega,hx,hz,?_⟩⟩;have:=congrArg (List.take (m*sz)) ht;rw[List.take_take,List.take_append_of_le_length (by omega),Nat.min_eq_left (Nat.mul_le_mul_right _ hm)] at this;rw[this,List.take_of_length_le (by omega)]
theorem Zh {sty ety:TypeId}{sz bt:Nat}(hE:qg0 sty ety sz bt)(w:World)(ty:TypeId)(B:Nat)(d:Value)(n m:Nat)(L N:List Value)(hO:w.ownsRow B ety sz d n L)(g0:Nat)(hN:w.heap[g0]?=some (.cells N.toArray ety))(hNl:N.length=m*sz)(hN1:∀ u∈N,u.oneCell'=true)(hpos:0<m)(hn:n+m<=1100000000)(hB:B<=w.heap.size) :
 ∃ g cap w',(Builtin.append_ #[sty,sty] ty #[d,.slice (some ⟨g0,0,none⟩) m m]).run Tryz.prog w=.ok (.slice (some ⟨g,0,none⟩) (n+m) cap) w'/\
  w'.ownsRow B ety sz (.slice (some ⟨g,0,none⟩) (n+m) cap) (n+m) (L++N)/\w'.ownsRow B ety sz d n L/\((d.ownBlock=some g/\(∃ n,d=.slice (some ⟨g,0,none⟩) n cap)/\w.grownBy w' (some g))\/(g=w.heap.size/\w.grownBy w' none))/\g<w'.heap.size:=by
 obtain⟨i0,z,hu,hi,hz0,hz1,hz2,hzc,hsz,hbt⟩:=hE;have hnews:∀ j u,N[j]?=some u->w.cell? ((⟨g0,0,none⟩:Addr).add j)=some u:=xT hN;have hbig:(n+m)*bt<=140737488355328:=Nat.le_trans (Nat.mul_le_mul hn hbt) (by omega);obtain⟨g,cap,w',hr,h2,h3,h4,h5⟩:=run_append_lies (P:=Tryz.prog) w sty ty B ety i0 z sz bt hu hi hz0 hz1 hz2 hzc hsz d n L hO ⟨g0,0,none⟩ m m N hNl hnews hN1 hpos (by unfold maxLen;omega) hbig hB _ rfl;refine⟨g,cap,w',hr,h2,?_⟩
 rcases hO.2 with ⟨rfl,hl⟩ | ⟨k,c,cur,rfl,hbk,hk,hc,hm,hz,ht⟩
 ·have hL:L=[]:=List.length_eq_zero_iff.1 (by rw[hO.1,hl,Nat.zero_mul]);subst hl;subst hL;refine⟨World.ownsRow_nil _ _ _ _,.inr ⟨?_,h3⟩,h5⟩
  rcases h4 with c | c
  ·cases c
  ·exact c
 ·by_cases hroom:n+m<=c
  ·have hr2:=run_append_room (P:=Tryz.prog) w sty ty ety i0 hu hi k n c cur hk ⟨g0,0,none⟩ m m N (by rw[hz1];exact hNl) hnews hN1 hroom (by rw[hz1,hNl,hz,<-Nat.add_mul];exact Nat.mul_le_mul_right _ hroom);rw[hr2] at hr;simp only[Result.ok.injEq,Value.slice.injEq,Option.some.injEq,Addr.mk.injEq,and_true,true_and] at hr;obtain⟨⟨rfl,rfl⟩,_⟩:=hr;exact⟨Jo h2 hO.1 (by omega),.inl ⟨rfl,⟨_,rfl⟩,h3⟩,h5⟩
  ·have holds:∀ j u,L[j]?=some u->w.cell? ((⟨k,0,none⟩:Addr).add j)=some u:=World.ownsRow.cells hO (g:=k) rfl;have hr2:=run_append_grow (P:=Tryz.prog) w sty ty ety i0 z hu hi hz0 ⟨k,0,none⟩ n c L (by rw[hz1];exact hO.1) holds ⟨g0,0,none⟩ m m N (by rw[hz1];exact hNl) hnews (by omega) (by omega) (growslice_fits (by omega) (by rw[hz2];exact hbig));rw[hr2] at hr;simp only[Result.ok.injEq,Value.slice.injEq,Option.some.injEq,Addr.mk.injEq,and_true,true_and] at hr;obtain⟨⟨rfl,rfl⟩,rfl⟩:=hr;have hg:w.grownBy (w.drew.alloc (.cells (L.toArray++N.toArray++Builtin.zeroCells z.cells (grownCap w (n+m) c ety-(n+m))) ety)) none:=⟨rfl,rfl,rfl,by simp,fun k hk _=>Below.heap_alloc w.drew _ k hk⟩;exact⟨World.ownsRow.kept hO hg (.inr (by simp[Value.ownBlock])),.inr ⟨rfl,hg⟩,h5⟩
structure ZV (ety:TypeId)(sz:Nat)(d:Value)(w:World)(B:Nat)(u:Value)(c:Nat)(m:List Value):Prop where
 own:w.ownsRow B ety sz u c (rep c m)
 shape:∀ g,d.ownBlock=some g->u.ownBlock=some g->∃ n cap,d=.slice (some ⟨g,0,none⟩) n cap/\u=.slice (some ⟨g,0,none⟩) c cap
theorem ZV.alloc {ety:TypeId}{sz:Nat}{d:Value}{w:World}{B:Nat}{u:Value}{c:Nat}{m:List Value}(h:ZV ety sz d w B u c m)(o:Obj):ZV ety sz d (w.alloc o) B u c m:=⟨World.ownsRow.alloc h.own o,h.shape⟩
theorem ZV.set {ety:TypeId}{sz:Nat}{d:Value}{w:World}{B:Nat}{u:Value}{c:Nat}{m:List Value}(h:ZV ety sz d w B u c m){x:Nat}{cs:Array Value}{t:TypeId}{fz:Nat×Nat}(hx:w.heap[x]?=some (.cells cs t fz))(ht:t≠ety)(i:Nat)(v:Value):ZV ety sz d (w.setCell ⟨x,i,none⟩ v) B u c m:=
 ⟨ownsRow_setCell_other h.own (qq h.own hx ht) v,h.shape⟩
theorem jE {sty ety:TypeId}{sz bt:Nat}(hE:qg0 sty ety sz bt){w:World}{ops:Array Oper}{rest:List Oper}{o:Oper}{a:Act}{Q:Exit->Act->World->Prop}(hgd:o.guard=none)(s x:Operand)
 (ho:o.op=.call {callee:=.builtin .append,args:=#[s,x],argTypes:=#[sty,sty]}) (B:Nat) (d:Value) (n j:Nat) (m:List Value) (hml:m.length=sz) (hm1:∀ u∈m,u.oneCell'=true) (hs:a.eval s=d) (hO:w.ownsRow B ety sz d n (rep n m)) (g0:Nat) (hx:a.eval x=.slice (some ⟨g0,0,none⟩) j j)
 (hN:w.heap[g0]?=some (.cells (rep j m).toArray ety)) (hpos:0<j) (hn:n+j<=1100000000) (hB:B<=w.heap.size)
 (h:∀ g cap w',ZV ety sz d w' B (.slice (some ⟨g,0,none⟩) (n+j) cap) (n+j) m->(d.ownBlock=some g\/g=w.heap.size)->w'.ownsRow B ety sz d n (rep n m)->(∀ u c,ZV ety sz d w B u c m->c<=n+j->ZV ety sz d w' B u c m)->w.grownBy w' d.ownBlock->wpList Tryz.prog ops Q rest (a.put o.dst (.slice (some ⟨g,0,none⟩) (n+j) cap)) w'):wpList Tryz.prog ops Q (o::rest) a w:=by
 obtain⟨g,cap,w',hr,hnew,hold,hat,hlt⟩:=Zh hE w o.type B d n j (rep n m) (rep j m) hO g0 hN (by rw[Z2,hml]) (za4 hm1 j) hpos hn hB;refine wpList_plain hgd fun K hK=>?_;unfold Oper.wp execOp;simp only[ho,resolve,invoke,builtin,Sem.run_bind,Sem.run_pure,Result.andThen_ok,List.map_toArray,List.map_cons,List.map_nil,hs,hx,hr];refine hK _ _ ?_;rw[<-Z3] at hnew;refine h g cap w' ⟨hnew,?_⟩ (hat.imp (fun q=>q.1) (fun q=>q.1)) hold ?_ ?_
 ·intro g1 e1 e2;simp only[Value.ownBlock,Option.some.injEq] at e2;subst e2
  rcases hat with ⟨_,⟨n',e⟩,_⟩ | ⟨e,_⟩
  ·exact⟨n',cap,e,rfl⟩
  ·have:=(World.ownsRow.lt hO _ e1).2;omega
 ·intro u c hs hc;refine⟨?_,hs.shape⟩
  rcases hat with ⟨e1,⟨n',e⟩,hg⟩ | ⟨_,hg⟩
  ·by_cases hu:u.ownBlock=some g
   ·obtain⟨n2,cap2,e3,rfl⟩:=hs.shape g e1 hu;rw[e] at e3;simp only[Value.slice.injEq,true_and] at e3;obtain⟨_,rfl⟩:=e3;have e4:rep (n+j) m=rep c m++rep (n+j-c) m:=(by rw[<-Z3,show c+(n+j-c)=n+j by omega]);rw[e4] at hnew;exact Jo hnew (by rw[Z2,hml]) hc
   ·exact World.ownsRow.kept hs.own hg (.inr hu)
  ·exact World.ownsRow.kept hs.own hg (by cases hv:u.ownBlock<;>simp)
 ·rcases hat with ⟨e1,_,hg⟩ | ⟨_,hg⟩
  ·rw[e1];exact hg
  ·exact⟨hg.os,hg.tape,hg.output,hg.size,fun k hk _=>hg.block k hk (by simp)⟩
def zM (ety:TypeId)(sz:Nat)(w:World)(base:Nat)(v:Value)(m:List Value):Prop:=∃ c,w.ownsRow base ety sz v c (rep c m)/\c<=1000000003
structure ym (ety:TypeId)(sz:Nat)(mk:Int->List Value)(base:Nat)(w:World)(e:Ent):Prop where
 num:0<=e.n/\e.n<=4000000
 l:zM ety sz w base e.l (mk e.n)
 a:zM ety sz w base e.a (mk e.n)
 b:zM ety sz w base e.b (mk e.n)
 c:zM ety sz w base e.c (mk e.n)
section
variable {ety:TypeId}{sz:Nat}{mk:Int->List Value}{base base':Nat}{w w':World}{e:Ent}{v:Value}{m:List Value}{S:Nat->Prop}
theorem zM.but (h:zM ety sz w base v m)(hb:But S w w')(hs:∀ k,v.ownBlock=some k->¬S k):zM ety sz w' base v m:=by
 obtain⟨c,h1,h2⟩:=h;exact⟨c,qi h1 hb hs,h2⟩
theorem zM.odd (h:zM ety sz w base v m)(hb:But S w w')(hs:∀ k,S k->k<w.heap.size->∃ cs t fz,w.heap[k]?=some (.cells cs t fz)/\t≠ety):zM ety sz w' base v m:=by
 obtain⟨c,h1,h2⟩:=h;refine⟨c,qi h1 hb fun k hk hS=>?_,h2⟩;obtain⟨cs,t,fz,hg,ht⟩:=hs k hS (World.ownsRow.lt h1 k hk).2;exact qq h1 hg ht hk
def Ent.blk (e:Ent)(k:Nat):Prop:=e.l.ownBlock=some k\/e.a.ownBlock=some k\/e.b.ownBlock=some k\/e.c.ownBlock=some k
theorem ym.but (h:ym ety sz mk base w e)(hb:But S w w')(hs:∀ k,e.blk k->¬S k):ym ety sz mk base w' e:=
 ⟨h.num,h.l.but hb (fun k hk=>hs k (.inl hk)),h.a.but hb (fun k hk=>hs k (.inr (.inl hk))),h.b.but hb (fun k hk=>hs k (.inr (.inr (.inl hk)))),h.c.but hb (fun k hk=>hs k (.inr (.inr (.inr hk))))⟩
theorem ym.odd (h:ym ety sz mk base w e)(hb:But S w w')(hs:∀ k,S k->k<w.heap.size->∃ cs t fz,w.heap[k]?=some (.cells cs t fz)/\t≠ety):ym ety sz mk base w' e:=
 ⟨h.num,h.l.odd hb hs,h.a.odd hb hs,h.b.odd hb hs,h.c.odd hb hs⟩
theorem ym.lt (h:ym ety sz mk base w e){k:Nat}(hk:e.blk k):k<w.heap.size:=by
 have key:∀ {v:Value},zM ety sz w base v (mk e.n)->v.ownBlock=some k->k<w.heap.size:=fun hm hv=>by
  obtain⟨c,h1,-⟩:=hm;exact (World.ownsRow.lt h1 k hv).2
 rcases hk with q | q | q | q
 ·exact key h.l q
 ·exact key h.a q
 ·exact key h.b q
 ·exact key h.c q
theorem zM.slice (h:zM ety sz w base v m):∃ o n c,v=.slice o n c:=by
 obtain⟨c,h1,_⟩:=h;obtain⟨ro,rc,e⟩:=qr h1;exact⟨_,_,_,e⟩
end
abbrev vI (bt:TypeId)(w:World)(base:Nat)(v:Value)(es:List Ent):Prop:=w.ownsRow base bt 5 v es.length (zQ es)
end Go.Proofs.YtfnockbgkcgpkaaGreat
