import Derived.WalkKit
import Derived.Test.YtbnbkjbfpamijaaGreatProg
import Derived.WalkSmall
import Derived.KernelRfl
import Derived.Maps.AppendAt
import Derived.OneCell
import Derived.Deep.AppendLies
set_option linter.all false
set_option maxRecDepth 100000
set_option maxHeartbeats 0
namespace Go.Proofs.Panes
def aa:=@Go.RowKit.Below.refl
def ab:=@Go.World.ownsRow.lt
def ac:=@Option.some.injEq
def ae:=@List.length_append
def af:=@Go.IntKind.wrap_i64
def ah:=@if_neg
def ai:=@Go.Value.slice.injEq
def aj:=@Nat.zero_le
def ak:=@List.length_map
def al:=@List.mem_append
def am:=@List.take_add_one
def an:=@if_pos
def ao:=@List.length_take
def ap:=@List.take_append_drop
def aq:=@List.getElem?_append_right
def ar:=@List.getElem?_set_self
def au:=@Go.World.grownBy_alloc
def aw:=@Go.ownsRow_setCell_other
def ay:=@List.mem_singleton
def aA:=@Option.some.inj
def aB:=@List.getElem?_eq_getElem
def aC:=@List.mem_map
def aE:=@List.map_append
def aF:=@List.getElem?_map
def aG:=@List.length_set
def aH:=@Go.World.cell?_of_block
def aI:=@List.getElem?_eq_none
def aJ:=@Go.World.block_lt_of_cell?
def aK:=@Bool.and_eq_true
def aL:=@List.take_of_length_le
def aM:=@List.getElem?_append_left
def aN:=@List.append_assoc
def aO:=@Nat.le_trans
def aP:=@List.take_length
def aQ:=@Go.World.ownsRow_nil
def aR:=@Go.World.ownsRow.alloc
def aS:=@List.length_replicate
def aT:=@Go.World.ownsRow.stored
def aU:=@Go.World.ownsRow.cellAt
def aV:=@List.length_drop
def aW:=@List.append_nil
def aX:=@List.length_cons
def aY:=@List.map_cons
def aZ:=@Go.info_parts
def ba:=@List.mem_cons_of_mem
def bc:=@List.getElem?_set_ne
def be:=@decide_eq_true_eq
def bf:=@List.mem_cons
def bg:=@Nat.eq_zero_or_pos
def bh:=@List.ext_getElem?
def bi:=@List.take_append_of_le_length
def bj:=@List.pairwise_append
def bm:=@List.mem_of_mem_drop
def bn:=@List.pairwise_cons
def bo:=@List.getElem_cons_drop
def bp:=@List.getElem?_cons_zero
def br:=@List.mem_of_mem_take
def bs:=@Go.World.ownsRow.frozenAt
def bu:=@List.drop_eq_getElem_cons
def bw:=@List.getElem?_drop
def bz:=@Go.Addr.mk.injEq
def bA:=@Nat.zero_add
def bB:=@and_true
def bC:=@Go.DataW.trod_int
def bD:=@List.getElem?_replicate
def bE:=@List.cons.injEq
def bF:=@Int.toNat_natCast
def bG:=@List.set_append_right
def bH:=@Go.RowKit.Below.heap_alloc
def bI:=@List.drop_of_length_le
def bJ:=@Array.size_push
def bK:=@Nat.min_eq_left
def bL:=@Nat.add_zero
def bM:=@Array.getElem?_eq_some_iff
def bN:=@List.map_congr_left
def bO:=@Option.map_some
def bP:=@Prod.mk.injEq
def bQ:=@List.length_eq_zero_iff
def bR:=@List.getElem?_toArray
def bS:=@Classical.choose_spec
def bT:=@Go.wpList_append_own
def bU:=@List.replicate_succ
def bV:=@Go.bodyPost_ret
def bW:=@List.getD_eq_getElem?_getD
def bX:=@List.eq_nil_of_length_eq_zero
def bY:=@decide_eq_false
def bZ:=@List.length_eraseIdx
def ca:=@List.any_eq_true
def cd:=@List.nil_append
def ce:=@List.filter_append
def cg:=@decide_eq_false_iff_not
def ci:=@And.intro
def cj:=@true_and
def ck:=@Go.World.ownsRow.kept
def cm:=@Nat.le_succ
def co:=@Int.le_refl
def ct:=@Go.setRow_other
def cu:=@Ne.symm
def cz:=@Nat.lt_or_ge
def cA:=@Nat.le_of_lt
def cB:=@List.map_map
def cC:=@Bool.eq_iff_iff
def cD:=@List.getElem?_cons_succ
def cG:=@List.getElem?_set
def cH:=@List.pairwise_iff_getElem
def cJ:=@Go.Obj.cells.injEq
def cK:=@Nat.mul_le_mul
def cL:=@Nat.sub_self
def cM:=@List.length_nil
def cN:=@Option.map_eq_some_iff
def cO:=@List.nodup_append
def cP:=@Go.RowKit.Below.alloc
def cQ:=@List.getElem?_take_of_lt
def cS:=@List.mem_filter
def cT:=@Bool.false_eq_true
def cU:=@List.replicate_succ'
def cV:=@Go.run_underlying
def cW:=@Go.World.frozen?_of_block
def cX:=@Go.Result.andThen_ok
def cY:=@List.drop_eq_nil_of_le
def cZ:=@List.length_pos_iff
def da:=@Go.setRow_heap
def db:=@List.replicate_append_replicate
def de:=@List.eraseIdx_eq_take_drop_succ
def dg:=@List.map_take
def dh:=@List.map_set
def di:=@List.mem_iff_getElem
def dj:=@List.drop_drop
def dk:=@List.length_range
def dp:=@Bool.not_eq_true'
def dq:=@Go.World.ownsRow.cells
def dr:=@List.map_nil
def ds:=@List.map_drop
def dt:=@List.mem_nil_iff
def du:=@List.mem_flatMap
def dw:=@List.take_zero
def dz:=@List.take_take
def dA:=@List.length_filter_le
def dB:=@Array.getElem?_toList
def dC:=@Array.getElem?_eq_getElem
def dD:=@Int.natCast_mul
def dE:=@if_false
def dF:=@Nat.mul_le_mul_right
def dG:=@List.flatten_cons
def dH:=@if_true
def dI:=@List.toList_toArray
def dJ:=@List.take_succ_cons
def dK:=@List.flatten_append
def dL:=@List.pairwise_singleton
def dM:=@List.not_mem_nil
def dN:=@Bool.and_false
def dO:=@Nat.add_mul
def dP:=@Go.World.ownsRow.drew
def dQ:=@Nat.mul_comm
def dR:=@Nat.min_self
def dS:=@List.nodup_cons
def dT:=@List.length_singleton
def dV:=@Bool.and_eq_false_iff
def dW:=@List.size_toArray
def dX:=@List.any_eq_false
def dY:=@List.Pairwise.nil
def dZ:=@Int.lt_trichotomy
def ea:=@Go.cell_of_row
def eb:=@Array.replicate_zero
def ec:=@Array.replicate_succ
def ed:=@Go.results_none
def ee:=@Go.Sem.run_bind
def eg:=@List.set_set
def eh:=@List.cons_append
def ej:=@List.mem_or_eq_of_mem_set
def ek:=@List.getElem?_zip_eq_some
def el:=@Classical.byContradiction
def em:=@beq_eq_false_iff_ne
def eo:=@List.append_toArray
def ep:=@List.mem_of_mem_eraseIdx
def et:=@Nat.not_lt_zero
def eu:=@List.length_zip
def ev:=@List.any_append
def ew:=@Int.natCast_add
def ey:=@List.getElem?_take
def ez:=@Nat.add_sub_cancel_left
def eA:=@Go.wpList_plain
def eB:=@Go.run_storeCells_at
def eC:=@decide_eq_true
def eD:=@Go.World.ownsRow_lit
def eE:=@List.push_toArray
def eG:=@List.flatMap_cons
def eH:=@List.drop_zero
def eJ:=@Nat.mod_lt
def eK:=@List.filter_cons
def eL:=@List.drop_length
def eM:=@Iff.rfl
def eN:=@Go.toList_madeCells_one
def eO:=@List.drop_append_of_le_length
def eP:=@List.replicate_zero
def eQ:=@List.filter_sublist
def eS:=@List.filter_eq_self
def eT:=@List.drop_set_of_lt
def eU:=@Go.step_block
def eV:=@Go.run_loadCells_list
def eW:=@or_false
def eX:=@List.find?_eq_none
def eY:=@Int.tmod_eq_emod_of_nonneg
def eZ:=@Go.RowKit.Below.heap_setCell
def fa:=@Go.RowKit.Below.drew
def fc:=@List.getElem?_eq_none_iff
def fd:=@of_decide_eq_true
def fe:=@Go.World.cells?_some
def ff:=@List.foldl_append
def fh:=@List.Pairwise.imp_of_mem
def fi:=@Go.World.cell?_spot
def fj:=@Go.IntKind.wrap_u64
def fk:=@Int.natCast_emod
def fo:=@Int.natCast_ediv
def fq:=@beq_iff_eq
def fs:=@Go.Sem.run_pure
def ft:=@Nat.zero_mul
def fu:=@Go.MapKept.run_getObj_map
def fw:=@Int.le_of_lt
def fx:=@Array.ext'
def fy:=@Go.Result.ok.injEq
def fA:=@List.range_succ
def fB:=@List.mem_iff_getElem?
def fC:=@List.length_mergeSort
def fD:=@Nat.div_lt_of_lt_mul
def fE:=@List.mem_range
def fF:=@List.getElem?_mapIdx
def fG:=@propext
def fH:=@List.take_set_of_le
def fI:=@List.take_replicate
def fJ:=@List.map_eq_nil_iff
def fK:=@List.drop_succ_cons
def fL:=@List.drop_replicate
def fM:=@Bool.true_and
def fN:=@Option.toList_some
def fO:=@List.mem_replicate
def fP:=@List.map_replicate
def fQ:=@Go.run_make
def fR:=@or_congr
def fS:=@Nat.le_succ_of_le
def fT:=@List.pairwise_map
def fU:=@List.map_inj_left
def fV:=@List.filter_congr
def fW:=@Go.results_cell_tmp
def fX:=@Nat.div_eq_of_lt
def fY:=@List.getElem_mem
def fZ:=@List.drop_append
def ga:=@Go.Steps.trans
def gb:=@Nat.one_mul
def gd:=@Nat.mul_one
def gg:=@Go.run_loadVar_row
def gh:=@Option.map_none
def gj:=@Nat.mul_add_div
def gm:=@Int.ediv_nonneg
def gn:=@Array.getElem?_setIfInBounds
structure Rc where
 x:Int
 y:Int
 w:Int
 h:Int
def Rc.tO (a:Rc)(b c:Int):Prop:=a.x<=b/\b<a.x+a.w/\a.y<=c/\c<a.y+a.h
def Qa (a:List Rc)(b c:Int):Prop:=∃ d∈a,d.tO b c
def Rc.has (a:Rc)(b:Int):Prop:=a.x<=b/\b<a.x+a.w
def gq (a:List Rc)(b:Int):Prop:=∃ c∈a,c.has b
def pe (a b:Rc):Prop:=a.x+a.w<b.x
def qb8 (a:List Rc):Prop:=(∀ b∈a,0<b.w)/\a.Pairwise pe
def qf1 (a:Int):¬gq [] a:=fun ⟨_,b,_⟩=>by simp at b
def jy (b:Rc)(c:List Rc)(a:Int):gq (b::c) a↔b.has a\/gq c a:=by
 unfold gq;simp
def hA (e f:List Rc)(d:Int):gq (e++f) d↔gq e d\/gq f d:=by
 unfold gq;simp only[al];exact⟨fun ⟨b,a,c⟩=>a.elim (fun a=>.inl ⟨b,a,c⟩) (fun a=>.inr ⟨b,a,c⟩),fun a=>a.elim (fun ⟨b,a,c⟩=>⟨b,.inl a,c⟩) (fun ⟨b,a,c⟩=>⟨b,.inr a,c⟩)⟩
def zf4 (f g:List Rc)(d e:Int):Qa (f++g) d e↔Qa f d e\/Qa g d e:=by
 unfold Qa;simp only[al];exact⟨fun ⟨b,a,c⟩=>a.elim (fun a=>.inl ⟨b,a,c⟩) (fun a=>.inr ⟨b,a,c⟩),fun a=>a.elim (fun ⟨b,a,c⟩=>⟨b,.inl a,c⟩) (fun ⟨b,a,c⟩=>⟨b,.inr a,c⟩)⟩
def hX (a b:Int):¬Qa [] a b:=fun ⟨_,c,_⟩=>by simp at c
def qb8.tail {c:Rc}{a:List Rc}(b:qb8 (c::a)):qb8 a:=
 ⟨fun d e=>b.1 d (ba _ e),(bn.1 b.2).2⟩
def qb8.ue {a:Rc}{b:List Rc}(d:qb8 (a::b)){c:Int}(e:gq b c):a.x+a.w<c:=by
 obtain⟨f,g,h⟩:=e;have:=(bn.1 d.2).1 f g;unfold pe at this;unfold Rc.has at h;omega
def V4:∀ (d e:List Rc),qb8 d->qb8 e->(∀ f,gq d f↔gq e f)->d.map (fun l=>(l.x,l.w))=e.map (fun l=>(l.x,l.w))
 | [],[],_,_,_=>rfl
 | [],b::e,_,h,g=>by
  have m:=h.1 b (by simp);exact absurd ((g b.x).2 ⟨b,by simp,by unfold Rc.has;omega⟩) (qf1 _)
 | c::d,[],i,_,g=>by
  have m:=i.1 c (by simp);exact absurd ((g c.x).1 ⟨c,by simp,by unfold Rc.has;omega⟩) (qf1 _)
 | c::d,b::e,i,h,g=>by
  have r:=i.1 c (by simp);have s:=h.1 b (by simp);have n:c.x=b.x:=by
   rcases dZ c.x b.x with j | j | j
   ·have:=(jy b e c.x).1 ((g c.x).1 ((jy c d c.x).2 (.inl ⟨by omega,by omega⟩)));rcases this with a | a
    ·unfold Rc.has at a;omega
    ·have:=h.ue a;omega
   ·exact j
   ·have:=(jy c d b.x).1 ((g b.x).2 ((jy b e b.x).2 (.inl ⟨by omega,by omega⟩)));rcases this with a | a
    ·unfold Rc.has at a;omega
    ·have:=i.ue a;omega
  have o:c.w=b.w:=by
   rcases dZ c.w b.w with j | j | j
   ·have:=(jy c d (c.x+c.w)).1 ((g _).2 ((jy b e _).2 (.inl ⟨by omega,by omega⟩)));rcases this with a | a
    ·unfold Rc.has at a;omega
    ·have:=i.ue a;omega
   ·exact j
   ·have:=(jy b e (b.x+b.w)).1 ((g _).1 ((jy c d _).2 (.inl ⟨by omega,by omega⟩)));rcases this with a | a
    ·unfold Rc.has at a;omega
    ·have:=h.ue a;omega
  have p:∀ f,gq d f↔gq e f:=by
   intro f;constructor
   ·intro a;have q:=i.ue a;rcases (jy b e f).1 ((g f).1 ((jy c d f).2 (.inr a))) with k | k
    ·unfold Rc.has at k;omega
    ·exact k
   ·intro a;have q:=h.ue a;rcases (jy c d f).1 ((g f).2 ((jy b e f).2 (.inr a))) with k | k
    ·unfold Rc.has at k;omega
    ·exact k
  have:=V4 d e i.tail h.tail p;simp only[aY,n,o,this]
def PW (a b:Rc):Prop:=(a.y=b.y/\a.h=b.h/\a.x+a.w<b.x)\/a.y+a.h<=b.y
structure ha (l:List Rc):Prop where
 pos:∀ r∈l,0<r.w/\0<r.h
 pw:l.Pairwise PW
 top:∀ r∈l,¬∀ px,Qa l px r.y↔Qa l px (r.y-1)
def Zi {a:List Rc}(h:a.Pairwise PW){b c:Rc}(d:b∈a)(i:c∈a):b=c\/PW b c\/PW c b:=by
 induction a with
 | nil=>simp at d
 | cons l a j=>
  have ⟨e,k⟩:=bn.1 h;rcases bf.1 d with rfl | f<;>rcases bf.1 i with rfl | g
  ·exact .inl rfl
  ·exact .inr (.inl (e c g))
  ·exact .inr (.inr (e b f))
  ·exact j k f g
def ha.ux {d:List Rc}(e:ha d){b c:Rc}(f:b∈d)(g:c∈d){y:Int}(h:b.y<=y/\y<b.y+b.h)(i:c.y<=y/\y<c.y+c.h):b.y=c.y/\b.h=c.h:=by
 rcases Zi e.pw f g with rfl | a | a
 ·exact⟨rfl,rfl⟩
 ·rcases a with a | a
  ·exact⟨a.1,a.2.1⟩
  ·omega
 ·rcases a with a | a
  ·exact⟨a.1.symm,a.2.1.symm⟩
  ·omega
def ha.row {b:List Rc}(h:ha b){a:Rc}(i:a∈b){c d:Int}(j:a.y<=c/\c<a.y+a.h)(l:a.y<=d/\d<a.y+a.h)(f:Int):Qa b f c->Qa b f d:=by
 rintro⟨k,g,e⟩;unfold Rc.tO at e;have:=h.ux i g j ⟨e.2.2.1,e.2.2.2⟩;exact⟨k,g,by unfold Rc.tO;omega⟩
def ha.mem_of {p o:List Rc}(l:ha p)(m:ha o)(f:∀ g py,Qa p g py↔Qa o g py){c:Rc}(j:c∈p):c∈o:=by
 have s:=l.pos c j;obtain⟨d,h,q⟩:=(f c.x c.y).1 ⟨c,j,by unfold Rc.tO;omega⟩;unfold Rc.tO at q;have t:=m.pos d h;have u:d.y=c.y:=by
  rcases dZ d.y c.y with e | e | e
  ·refine absurd (fun g=>?_) (l.top c j);rw[f,f];exact⟨m.row h (by omega) (by omega) g,m.row h (by omega) (by omega) g⟩
  ·exact e
  ·omega
 have v:d.h=c.h:=by
  rcases dZ d.h c.h with e | e | e
  ·
   obtain⟨n,i,k⟩:=(f c.x (d.y+d.h)).1 ⟨c,j,by unfold Rc.tO;omega⟩;unfold Rc.tO at k;have r:n.y=d.y+d.h:=by
    rcases Zi m.pw h i with rfl | b | b
    ·omega
    ·rcases b with b | b<;>omega
    ·rcases b with b | b<;>omega
   refine absurd (fun g=>?_) (m.top n i);rw[<-f,<-f];exact⟨l.row j (by omega) (by omega) g,l.row j (by omega) (by omega) g⟩
  ·exact e
  ·obtain⟨n,i,k⟩:=(f d.x (c.y+c.h)).2 ⟨d,h,by unfold Rc.tO;omega⟩;unfold Rc.tO at k;have r:n.y=c.y+c.h:=by
    rcases Zi l.pw j i with rfl | b | b
    ·omega
    ·rcases b with b | b<;>omega
    ·rcases b with b | b<;>omega
   refine absurd (fun g=>?_) (l.top n i);rw[f,f];exact⟨m.row h (by omega) (by omega) g,m.row h (by omega) (by omega) g⟩
 have w:d.x=c.x:=by
  rcases dZ d.x c.x with e | e | e
  ·obtain⟨n,i,k⟩:=(f (c.x-1) c.y).2 ⟨d,h,by unfold Rc.tO;omega⟩;unfold Rc.tO at k;rcases Zi l.pw j i with rfl | b | b
   ·omega
   ·rcases b with b | b<;>omega
   ·rcases b with b | b<;>omega
  ·exact e
  ·omega
 have x:d.w=c.w:=by
  rcases dZ d.w c.w with e | e | e
  ·obtain⟨n,i,k⟩:=(f (d.x+d.w) c.y).1 ⟨c,j,by unfold Rc.tO;omega⟩;unfold Rc.tO at k;rcases Zi m.pw h i with rfl | b | b
   ·omega
   ·rcases b with b | b<;>omega
   ·rcases b with b | b<;>omega
  ·exact e
  ·obtain⟨n,i,k⟩:=(f (c.x+c.w) c.y).2 ⟨d,h,by unfold Rc.tO;omega⟩;unfold Rc.tO at k;rcases Zi l.pw j i with rfl | b | b
   ·omega
   ·rcases b with b | b<;>omega
   ·rcases b with b | b<;>omega
 have:c=d:=(by cases c;cases d;simp_all);rw[this];exact h
def Zj {c:List Rc}(d:∀ a∈c,0<a.w/\0<a.h){a b:Rc}(e:a∈c)(f:b∈c):PW a b->¬PW b a:=by
 have:=d a e;have:=d b f;unfold PW;omega
def Qj:∀ (e g:List Rc),(∀ b∈e,0<b.w/\0<b.h)->e.Pairwise PW->g.Pairwise PW->(∀ b,b∈e↔b∈g)->e=g
 | [],[],_,_,_,_=>rfl
 | [],h::g,_,_,_,d=>absurd ((d h).2 (by simp)) (by simp)
 | c::e,[],_,_,_,d=>absurd ((d c).1 (by simp)) (by simp)
 | c::e,h::g,i,m,n,d=>by
  have ⟨k,k2⟩:=bn.1 m;have ⟨l,o⟩:=bn.1 n;have p:c=h:=by
   rcases bf.1 ((d c).1 (by simp)) with a | a
   ·exact a
   ·rcases bf.1 ((d h).2 (by simp)) with j | j
    ·exact j.symm
    ·exact absurd (l c a) (Zj i (by simp) (ba _ j) (k h j))
  subst p;have q:=fun a=>Zj i (by simp) (by simp) (k c a) (k c a);have r:=fun a=>Zj i (by simp) (by simp) (l c a) (l c a);have:=Qj e g (fun b s=>i b (ba _ s)) k2 o (fun b=>by
   constructor
   ·intro a;rcases bf.1 ((d b).1 (ba _ a)) with f | f
    ·subst f;exact absurd a q
    ·exact f
   ·intro a;rcases bf.1 ((d b).2 (ba _ a)) with f | f
    ·subst f;exact absurd a r
    ·exact f)
  rw[this]
def za3 {a b:List Rc}(c:ha a)(f:ha b)(h:∀ d e,Qa a d e↔Qa b d e):a=b:=
 Qj a b c.pos c.pw f.pw fun _=>⟨fun g=>c.mem_of f h g,fun g=>f.mem_of c (fun d e=>(h d e).symm) g⟩
def zx {α:Sort _}(a:α):∃ b,b=a:=⟨a,rfl⟩
def zzg {α:Type _}{l:List α}{i:Nat}{a:α}(h:l[i]?=some a):∃ h:i<l.length,l[i]=a:=List.getElem?_eq_some_iff.1 h
def zzl (n:Nat):n<=n:=Nat.le_refl n
def zzm {a b c:Nat}(h:a<b)(k:b<=c):a<c:=Nat.lt_of_lt_of_le h k
def zzn {α:Type _}{l:List α}{i:Nat}{a:α}(h:l[i]?=some a):a∈l:=List.mem_of_getElem? h
end Go.Proofs.Panes
namespace Go.Proofs.Panes
def ik (b c:Int)(d:List Rc):Prop:=∀ a∈d,0<a.w/\a.y=b/\a.h=c/\-1000<=a.x/\a.x+a.w<=2000
def gA (b c:Int)(a:List Rc):Prop:=ik b c a/\a.Pairwise pe
def gA.runs {c d:Int}{a:List Rc}(b:gA c d a):qb8 a:=⟨fun e f=>(b.1 e f).1,b.2⟩
def ik.nil (a b:Int):ik a b []:=fun _ c=>by simp at c
def gA.nil (a b:Int):gA a b []:=⟨ik.nil a b,dY⟩
def ik.snoc {a b:Int}{l:List Rc}{r:Rc}(d:ik a b l)(e:0<r.w/\r.y=a/\r.h=b/\-1000<=r.x/\r.x+r.w<=2000):ik a b (l++[r]):=by
 intro f g;rcases al.1 g with c | c
 ·exact d f c
 ·rw[ay.1 c];exact e
def ik.append {a b:Int}{c d:List Rc}(f:ik a b c)(g:ik a b d):ik a b (c++d):=fun e h=>(al.1 h).elim (f e) (g e)
def lF {a:Type}{b:a->a->Prop}{c:List a}{d:a}(e:c.Pairwise b)(f:∀ q∈c,b q d):(c++[d]).Pairwise b:=
 bj.2 ⟨e,dL _ _,fun g h j i=>by rw[ay.1 i];exact f g h⟩
def gA.snoc {a b:Int}{l:List Rc}{r:Rc}(c:gA a b l)(d:0<r.w/\r.y=a/\r.h=b/\-1000<=r.x/\r.x+r.w<=2000)(e:∀ q∈l,q.x+q.w<r.x):gA a b (l++[r]):=
 ⟨c.1.snoc d,lF c.2 e⟩
def gK (c:List Rc)(d:Rc)(a:Int):gq (c++[d]) a↔gq c a\/d.has a:=by
 rw[hA,jy];exact⟨fun b=>b.imp id (fun e=>e.resolve_right (qf1 a)),fun b=>b.imp id .inl⟩
def lR {y h:Int}:∀ (b:List Rc)(c:Int),(∀ a∈b,0<a.w/\c<=a.x/\a.x+a.w<=2000)->b.Pairwise pe->c<=2000->(b.length:Int)<=2000-c
 | [],c,_,_,i=>by simp;omega
 | a::b,c,d,j,i=>by
  have ⟨k,l⟩:=bn.1 j;have n:=d a (by simp);have:=lR (y:=y) (h:=h) b (a.x+a.w) (fun e f=>by
   have g:=d e (ba _ f);have m:=k e f;unfold pe at m;exact⟨g.1,by omega,g.2.2⟩) l (by omega)
  simp only[aX];omega
def gA.len {e f:Int}{b:List Rc}(a:gA e f b):b.length<=3000:=by
 have:=lR (y:=e) (h:=f) b (-1000) (fun c d=>⟨(a.1 c d).1,(a.1 c d).2.2.2.1,(a.1 c d).2.2.2.2⟩) a.2 (by omega);omega
structure JI (y h:Int)(J P:List Rc):Prop where
 strip:gA y h J
 tR:∀ px,gq J px↔gq P px
 src:∀ q∈J,∃ r∈P,q.x=r.x
def JI.start (a b:Int):JI a b [] []:=⟨gA.nil a b,fun _=>eM,fun _ c=>by simp at c⟩
def JI.first {b c:Int}{e:List Rc}{a:Rc}(f:JI b c [] e)(g:0<a.w/\a.y=b/\a.h=c/\-1000<=a.x/\a.x+a.w<=2000):JI b c [a] (e++[a]):=
 ⟨gA.snoc (gA.nil b c) g (fun _ d=>by simp at d),fun h=>by rw[gK,<-f.tR h,show [a]=[]++[a] from rfl,gK],fun i d=>⟨a,by simp,by rw[ay.1 d]⟩⟩
def JI.apart {e f:Int}{g h:List Rc}{b a:Rc}(d:JI e f (g++[b]) h)(k:0<a.w/\a.y=e/\a.h=f/\-1000<=a.x/\a.x+a.w<=2000)(l:b.x+b.w<a.x):JI e f (g++[b]++[a]) (h++[a]):=by
 refine⟨gA.snoc d.strip k (fun i j=>?_),fun m=>by rw[gK (g++[b]),gK h,d.tR m],fun i j=>?_⟩
 ·rcases al.1 j with c | c
  ·have:=(bj.1 d.strip.2).2.2 i c b (by simp);have q:=d.strip.1 b (by simp);unfold pe at this;omega
  ·rw[ay.1 c];exact l
 ·rcases al.1 j with c | c
  ·obtain⟨n,o,p⟩:=d.src i c;exact⟨n,by simp[o],p⟩
  ·exact⟨a,by simp,by rw[ay.1 c]⟩
def JI.touch {g h:Int}{m n:List Rc}{a b:Rc}(c:JI g h (m++[a]) n)(q:0<b.w/\b.y=g/\b.h=h/\-1000<=b.x/\b.x+b.w<=2000)(f:a.x<=b.x)(r:¬a.x+a.w<b.x):JI g h (m++[⟨a.x,a.y,max a.w (b.x+b.w-a.x),a.h⟩]) (n++[b]):=by
 have i:=c.strip.1 a (by simp);have o:=bj.1 c.strip.2;refine⟨gA.snoc ⟨fun d e=>c.strip.1 d (by simp[e]),o.1⟩ ⟨by show 0<max a.w (b.x+b.w-a.x);omega,i.2.1,i.2.2.1,i.2.2.2.1,by show a.x+max a.w (b.x+b.w-a.x)<=2000;omega⟩ (fun j k=>?_),fun p=>?_,fun j k=>?_⟩
 ·have:=o.2.2 j k a (by simp);unfold pe at this;exact this
 ·rw[gK,gK,<-c.tR p,gK,or_assoc];refine fR eM ?_;unfold Rc.has;simp only;omega
 ·rcases al.1 k with l | l
  ·obtain⟨d,e,f⟩:=c.src j (by simp[l]);exact⟨d,by simp[e],f⟩
  ·obtain⟨d,e,f⟩:=c.src a (by simp);exact⟨d,by simp[e],by rw[ay.1 l];exact f⟩
structure BO (y h:Int)(A b S:List Rc):Prop where
 strip:gA y h S
 tR:∀ px,gq S px↔gq A px/\gq b px
 ends:∀ s∈S,∃ p∈A,s.x+s.w<=p.x+p.w
structure BN (y h:Int)(A:List Rc)(p:Rc)(b B S:List Rc):Prop where
 strip:gA y h S
 tR:∀ px,gq S px↔(gq A px/\gq b px)\/(p.has px/\gq B px)
 ends:∀ s∈S,s.x+s.w<=p.x+p.w/\(s.x+s.w<p.x\/∃ q∈B,s.x+s.w<=q.x+q.w)
def BO.start (b c:Int)(e:List Rc):BO b c [] e []:=⟨gA.nil b c,fun d=>⟨fun a=>absurd a (qf1 d),fun a=>absurd a.1 (qf1 d)⟩,fun _ f=>by simp at f⟩
def BO.begin {e f:Int}{b g h:List Rc}{c:Rc}(d:BO e f b g h)(p:0<c.w)(j:∀ a∈b,a.x+a.w<c.x):BN e f b c g [] h:=
 ⟨d.strip,fun i=>(d.tR i).trans ⟨.inl,fun k=>k.resolve_right fun l=>qf1 i l.2⟩,fun m n=>by
  obtain⟨a,o,q⟩:=d.ends m n;have:=j a o;exact⟨by omega,.inl (by omega)⟩⟩
def BN.skip {e f:Int}{g h i j:List Rc}{a c:Rc}(d:BN e f g a h i j)(r:¬0<max 0 (min (a.x+a.w) (c.x+c.w)-max a.x c.x)):BN e f g a h (i++[c]) j:=
 ⟨d.strip,fun l=>(d.tR l).trans (fR eM (by rw[gK];unfold Rc.has;constructor;exact fun b=>⟨b.1,.inl b.2⟩;exact fun b=>⟨b.1,b.2.resolve_right (by omega)⟩)),fun m n=>by
  have k:=d.ends m n;exact⟨k.1,k.2.imp id fun ⟨o,p,q⟩=>⟨o,by simp[p],q⟩⟩⟩
def BN.take {e c:Int}{m n j o:List Rc}{b a:Rc}(i:BN e c m b n j o)(v:0<c)(w:0<b.w/\b.y=e/\b.h=c/\-1000<=b.x/\b.x+b.w<=2000)(x:0<a.w/\a.y=e/\a.h=c/\-1000<=a.x/\a.x+a.w<=2000)(r:∀ d∈j,d.x+d.w<a.x)(s:0<max 0 (min (b.x+b.w) (a.x+a.w)-max b.x a.x)):BN e c m b n (j++[a]) (o++[⟨max b.x a.x,max b.y a.y,max 0 (min (b.x+b.w) (a.x+a.w)-max b.x a.x),max 0 (min (b.y+b.h) (a.y+a.h)-max b.y a.y)⟩]):=by
 refine⟨gA.snoc i.strip ⟨s,?_,?_,?_,?_⟩ (fun f k=>?_),fun t=>?_,fun f k=>?_⟩
 ·show max b.y a.y=e;omega
 ·show max 0 (min (b.y+b.h) (a.y+a.h)-max b.y a.y)=c;omega
 ·show -1000<=max b.x a.x;omega
 ·show max b.x a.x+max 0 (min (b.x+b.w) (a.x+a.w)-max b.x a.x)<=2000;omega
 ·show f.x+f.w<max b.x a.x;rcases (i.ends f k).2 with g | ⟨d,l,g⟩
  ·omega
  ·have:=r d l;omega
 ·rw[gK,i.tR t,or_assoc,gK];refine fR eM ?_;unfold Rc.has;simp only;constructor
  ·rintro (h | h)
   ·exact⟨h.1,.inl h.2⟩
   ·exact⟨by omega,.inr (by omega)⟩
  ·rintro⟨h,p | p⟩
   ·exact .inl ⟨h,p⟩
   ·exact .inr (by omega)
 ·rcases al.1 k with g | g
  ·have q:=i.ends f g;exact⟨q.1,q.2.imp id fun ⟨d,l,u⟩=>⟨d,by simp[l],u⟩⟩
  ·rw[ay.1 g];exact⟨by show max b.x a.x+max 0 (min (b.x+b.w) (a.x+a.w)-max b.x a.x)<=b.x+b.w;omega,.inr ⟨a,by simp,by show max b.x a.x+max 0 (min (b.x+b.w) (a.x+a.w)-max b.x a.x)<=a.x+a.w;omega⟩⟩
def BN.finish {e f:Int}{g b h:List Rc}{c:Rc}(d:BN e f g c b b h):BO e f (g++[c]) b h:=by
 refine⟨d.strip,fun j=>?_,fun k l=>⟨c,by simp,(d.ends k l).1⟩⟩;rw[d.tR j,gK];constructor
 ·rintro (a | a)
  ·exact⟨.inl a.1,a.2⟩
  ·exact⟨.inr a.1,a.2⟩
 ·rintro⟨a | a,i⟩
  ·exact .inl ⟨a,i⟩
  ·exact .inr ⟨a,i⟩
structure WO (y h:Int)(A b S:List Rc):Prop where
 strip:gA y h S
 tR:∀ px,gq S px↔gq A px/\¬gq b px
 ends:∀ s∈S,∃ p∈A,s.x+s.w<=p.x+p.w
structure WN (y h:Int)(A:List Rc)(p:Rc)(b B:List Rc)(x:Int)(S:List Rc):Prop where
 strip:gA y h S
 tR:∀ px,gq S px↔(gq A px/\¬gq b px)\/(p.has px/\px<x/\¬gq b px)
 ends:∀ s∈S,s.x+s.w<=p.x+p.w/\s.x+s.w<x
 ue:∀ q∈B,q.x+q.w<=x
 lo:p.x<=x/\x<=2000
def WO.start (b c:Int)(e:List Rc):WO b c [] e []:=⟨gA.nil b c,fun d=>⟨fun a=>absurd a (qf1 d),fun a=>absurd a.1 (qf1 d)⟩,fun _ f=>by simp at f⟩
def WO.begin {f g:Int}{c h i:List Rc}{a:Rc}(d:WO f g c h i)(p:0<a.w/\a.x+a.w<=2000)(j:∀ b∈c,b.x+b.w<a.x):WN f g c a h [] a.x i:=
 ⟨d.strip,fun k=>(d.tR k).trans ⟨.inl,fun l=>l.resolve_right fun m=>by have:=m.1;unfold Rc.has at this;omega⟩,fun n o=>by
  obtain⟨b,e,q⟩:=d.ends n o;have:=j b e;exact⟨by omega,by omega⟩,fun _ e=>by simp at e,by omega⟩
def iD (b:Rc)(a c:Int):List Rc:=if a<c then [⟨a,b.y,c-a,b.h⟩] else []
def WN.step {l m:Int}{u n j o q:List Rc}{a c:Rc}{d:Int}(g:WN l m u a n j d q)(w:n=j++c::o)(v:0<a.w/\a.y=l/\a.h=m/\-1000<=a.x/\a.x+a.w<=2000)(G:0<c.w/\-1000<=c.x/\c.x+c.w<=2000)(x:∀ h∈o,c.x+c.w<h.x):WN l m u a n (j++[c]) (max d (c.x+c.w)) (q++iD a d (min c.x (a.x+a.w))):=by
 have H:=g.lo;have y:∀ b,gq n b↔gq j b\/c.has b\/gq o b:=fun b=>by rw[w,hA,jy]
 have z:∀ b,gq j b->b<d:=fun b ⟨h,k,e⟩=>by have:=g.ue h k;unfold Rc.has at e;omega
 have A:∀ b,gq o b->c.x+c.w<b:=fun b ⟨h,k,e⟩=>by have:=x h k;unfold Rc.has at e;omega
 have B:∀ b,gq (iD a d (min c.x (a.x+a.w))) b↔d<=b/\b<min c.x (a.x+a.w):=by
  intro b;unfold iD;split
  ·rw[jy];unfold Rc.has;simp only;constructor
   ·rintro (e | e)
    ·omega
    ·exact absurd e (qf1 b)
   ·intro e;exact .inl (by omega)
  ·exact⟨fun e=>absurd e (qf1 b),fun e=>by omega⟩
 have C:gA l m (q++iD a d (min c.x (a.x+a.w))):=by
  unfold iD;split
  ·refine gA.snoc g.strip ⟨?_,v.2.1,v.2.2.1,?_,?_⟩ (fun r s=>(g.ends r s).2)
   ·show 0<min c.x (a.x+a.w)-d;omega
   ·show -1000<=d;omega
   ·show d+(min c.x (a.x+a.w)-d)<=2000;omega
  ·rw[aW];exact g.strip
 refine⟨C,fun b=>?_,fun r s=>?_,fun h k=>?_,by omega⟩
 ·rw[hA,B,g.tR b,or_assoc];refine fR eM ?_;rw[y b];have D:=z b;have E:=A b;unfold Rc.has;constructor
  ·rintro (⟨t,c2,p⟩ | e)
   ·exact⟨t,by omega,p⟩
   ·refine⟨by omega,by omega,?_⟩;rintro (i | i | i)
    ·have:=D i;omega
    ·omega
    ·have:=E i;omega
  ·rintro⟨t,c2,p⟩;by_cases F:b<d
   ·exact .inl ⟨t,F,p⟩
   ·refine .inr ⟨by omega,?_⟩;have:=fun i=>p (.inr (.inl i));omega
 ·rcases al.1 s with f | f
  ·have:=g.ends r f;exact⟨this.1,by omega⟩
  ·unfold iD at f;split at f
   ·rw[ay.1 f];exact⟨by show d+(min c.x (a.x+a.w)-d)<=a.x+a.w;omega,by show d+(min c.x (a.x+a.w)-d)<max d (c.x+c.w);omega⟩
   ·simp at f
 ·rcases al.1 k with f | f
  ·have:=g.ue h f;omega
  ·rw[ay.1 f];omega
def WN.finish {g h:Int}{n i k:List Rc}{a:Rc}{d:Int}(e:WN g h n a i i d k)(o:0<a.w/\a.y=g/\a.h=h/\-1000<=a.x/\a.x+a.w<=2000):WO g h (n++[a]) i (k++iD a d (a.x+a.w)):=by
 have y:=e.lo;have p:∀ c,gq i c->c<d:=fun c ⟨q,r,b⟩=>by have:=e.ue q r;unfold Rc.has at b;omega
 have s:∀ c,gq (iD a d (a.x+a.w)) c↔d<=c/\c<a.x+a.w:=by
  intro c;unfold iD;split
  ·rw[jy];unfold Rc.has;simp only;constructor
   ·rintro (b | b)
    ·omega
    ·exact absurd b (qf1 c)
   ·intro b;exact .inl (by omega)
  ·exact⟨fun b=>absurd b (qf1 c),fun b=>by omega⟩
 have t:gA g h (k++iD a d (a.x+a.w)):=by
  unfold iD;split
  ·refine gA.snoc e.strip ⟨?_,o.2.1,o.2.2.1,?_,?_⟩ (fun l m=>(e.ends l m).2)
   ·show 0<a.x+a.w-d;omega
   ·show -1000<=d;omega
   ·show d+(a.x+a.w-d)<=2000;omega
  ·rw[aW];exact e.strip
 refine⟨t,fun c=>?_,fun l m=>⟨a,by simp,?_⟩⟩
 ·rw[hA,s,e.tR c,gK];have u:=p c;unfold Rc.has;constructor
  ·rintro ((b | ⟨v,c2,w⟩) | b)
   ·exact⟨.inl b.1,b.2⟩
   ·exact⟨.inr v,w⟩
   ·exact⟨.inr (by omega),fun j=>by have:=u j;omega⟩
  ·rintro⟨b | b,j⟩
   ·exact .inl (.inl ⟨b,j⟩)
   ·by_cases x:c<d
    ·exact .inl (.inr ⟨b,x,j⟩)
    ·exact .inr (by omega)
 ·rcases al.1 m with f | f
  ·exact (e.ends l f).1
  ·unfold iD at f;split at f
   ·rw[ay.1 f];show d+(a.x+a.w-d)<=a.x+a.w;omega
   ·simp at f
end Go.Proofs.Panes
namespace Go.Proofs.Panes
structure CI (M:Int->Int->Prop)(t:Int)(all:List Rc)(ux:Nat):Prop where
 pos:∀ r∈all,0<r.w/\0<r.h/\-1000<=r.x/\r.x+r.w<=2000/\-1000<=r.y/\r.y+r.h<=t
 pw:all.Pairwise PW
 top:∀ r∈all,¬∀ px,Qa all px r.y↔Qa all px (r.y-1)
 tR:∀ px py,Qa all px py↔py<t/\M px py
 le:ux<=all.length
 uH:∀ r∈all.take ux,r.y+r.h<t
 new:∀ r∈all.drop ux,r.y+r.h=t
def CI.start (e:Int->Int->Prop)(f:Int)(a:∀ c b,b<f->¬e c b):CI e f [] 0:=
 ⟨fun _ a=>by simp at a,dY,fun _ a=>by simp at a,fun c b=>⟨fun d=>absurd d (hX c b),fun d=>absurd d.2 (a c b d.1)⟩,zzl _,fun _ a=>by simp at a,fun _ a=>by simp at a⟩
def CI.right {e:Int->Int->Prop}{f:Int}{b:List Rc}{g:Nat}(a:CI e f b g):ha b:=
 ⟨fun c d=>⟨(a.pos c d).1,(a.pos c d).2.1⟩,a.pw,a.top⟩
def oM {a:List Rc}{n:Nat}{b:Rc}(c:b∈a):b∈a.take n\/b∈a.drop n:=by
 have:b∈a.take n++a.drop n:=(by rw[ap];exact c);exact al.1 this
def CI.ux {i:Int->Int->Prop}{j:Int}{e:List Rc}{f:Nat}(c:CI i j e f):(e.drop f).Pairwise (fun a b=>a.y=b.y/\a.h=b.h/\a.x+a.w<b.x):=by
 have g:=c.pw;rw[<-ap f e] at g;refine fh ?_ (bj.1 g).2.1;intro a b k h d;rcases d with d | d
 ·exact d
 ·have l:=c.new a k;have m:=c.new b h;have n:=c.pos b (bm h);omega
def CI.runs {f:Int->Int->Prop}{g:Int}{c:List Rc}{d:Nat}(e:CI f g c d):qb8 (c.drop d):=
 ⟨fun h i=>(e.pos h (bm i)).1,List.Pairwise.imp (fun {a b} j=>j.2.2) e.ux⟩
def CI.above {j:Int->Int->Prop}{h:Int}{d:List Rc}{e:Nat}(c:CI j h d e)(i:Int):Qa d i (h-1)↔gq (d.drop e) i:=by
 constructor
 ·rintro⟨a,b,f⟩;have k:=c.pos a b;unfold Rc.tO at f;rcases oM (n:=e) b with g | g
  ·have:=c.uH a g;omega
  ·exact⟨a,g,by unfold Rc.has;omega⟩
 ·rintro⟨a,b,f⟩;have k:=c.pos a (bm b);have l:=c.new a b;unfold Rc.has at f;exact⟨a,bm b,by unfold Rc.tO;omega⟩
def CI.more {p:Int->Int->Prop}{g u:Int}{j k:List Rc}{v:Nat}(h:CI p g j v)(x:g<u)(B:-1000<=g)(i:gA g (u-g) k)(y:∀ b d,g<=d->d<u->(p b d↔gq k b))(z:(j.drop v).map (fun a=>(a.x,a.w))≠k.map (fun a=>(a.x,a.w))):CI p u (j++k) j.length:=by
 have m:∀ b d,d<g->(Qa (j++k) b d↔Qa j b d):=fun b d n=>by
  rw[zf4];refine⟨fun f=>f.resolve_right ?_,.inl⟩;rintro⟨a,c,e⟩;have:=i.1 a c;unfold Rc.tO at e;omega
 have w:∀ b d,g<=d->d<u->(Qa (j++k) b d↔gq k b):=fun b d n l=>by
  rw[zf4];constructor
  ·rintro (⟨a,c,e⟩ | ⟨a,c,e⟩)
   ·have:=h.pos a c;unfold Rc.tO at e;omega
   ·exact⟨a,c,by unfold Rc.tO at e;unfold Rc.has;omega⟩
  ·rintro⟨a,c,e⟩;have:=i.1 a c;exact .inr ⟨a,c,by unfold Rc.has at e;unfold Rc.tO;omega⟩
 refine⟨fun a c=>?_,?_,fun a c=>?_,fun b d=>?_,by simp,fun a c=>?_,fun a c=>?_⟩
 ·rcases al.1 c with e | e
  ·have:=h.pos a e;omega
  ·have:=i.1 a e;omega
 ·refine bj.2 ⟨h.pw,?_,fun q r s t=>?_⟩
  ·refine fh ?_ i.2;intro q s r t f;have o:=i.1 q r;have A:=i.1 s t;unfold pe at f;exact .inl (by omega)
  ·have o:=h.pos q r;have A:=i.1 s t;exact .inr (by omega)
 ·rcases al.1 c with e | e
  ·have o:=h.pos a e;intro f;refine h.top a e fun b=>?_;rw[<-m b a.y (by omega),<-m b (a.y-1) (by omega)];exact f b
  ·have o:=i.1 a e;intro f;refine z (V4 _ _ h.runs i.runs fun b=>?_);have:=f b;rw[o.2.1,w b g (by omega) x,m b (g-1) (by omega),h.above b] at this;exact this.symm
 ·by_cases n:d<g
  ·rw[m b d n,h.tR b d];exact⟨fun f=>⟨by omega,f.2⟩,fun f=>⟨n,f.2⟩⟩
  ·by_cases l:d<u
   ·rw[w b d (by omega) l,y b d (by omega) l];exact⟨fun f=>⟨l,f⟩,fun f=>f.2⟩
   ·constructor
    ·intro f;exfalso;rcases (zf4 _ _ _ _).1 f with ⟨a,c,e⟩ | ⟨a,c,e⟩
     ·have:=h.pos a c;unfold Rc.tO at e;omega
     ·have:=i.1 a c;unfold Rc.tO at e;omega
    ·intro f;exact absurd f.1 l
 ·rw[List.take_left] at c;have:=h.pos a c;omega
 ·rw[List.drop_left] at c;have:=i.1 a c;omega
def hV (b:Int)(a:Rc):Rc:=⟨a.x,a.y,a.w,a.h+b⟩
def CI.on {q:Int->Int->Prop}{k l:Int}{h u:List Rc}{i:Nat}(f:CI q k h i)(J:k<l)(v:∀ b e,k<=e->e<l->(q b e↔gq u b))(w:∀ b,gq (h.drop i) b↔gq u b):CI q l (h.take i++(h.drop i).map (hV (l-k))) i:=by
 have D:(h.take i).length=i:=(by rw[ao];have:=f.le;omega);have r:∀ b e,e<k->(Qa (h.take i++(h.drop i).map (hV (l-k))) b e↔Qa h b e):=fun b e o=>by
  conv=>rhs;rw[<-ap i h]
  rw[zf4,zf4];refine fR eM ?_;constructor
  ·rintro⟨a,c,g⟩;obtain⟨d,j,rfl⟩:=aC.1 c;have:=f.new d j;exact⟨d,j,by unfold Rc.tO hV at *;simp only at g;omega⟩
  ·rintro⟨a,c,g⟩;have:=f.new a c;exact⟨hV (l-k) a,aC.2 ⟨a,c,rfl⟩,by unfold Rc.tO hV at *;simp only;omega⟩
 have E:∀ b e,k<=e->(Qa (h.take i++(h.drop i).map (hV (l-k))) b e↔e<l/\gq (h.drop i) b):=fun b e o=>by
  rw[zf4];constructor
  ·rintro (⟨a,c,g⟩ | ⟨a,c,g⟩)
   ·have:=f.uH a c;unfold Rc.tO at g;omega
   ·obtain⟨d,j,rfl⟩:=aC.1 c;have:=f.new d j;unfold Rc.tO hV at g;simp only at g;exact⟨by omega,d,j,by unfold Rc.has;omega⟩
  ·rintro⟨n,a,c,g⟩;have:=f.new a c;have p:=f.pos a (bm c);unfold Rc.has at g;exact .inr ⟨hV (l-k) a,aC.2 ⟨a,c,rfl⟩,by unfold Rc.tO hV;simp only;omega⟩
 have x:∀ a∈h.take i++(h.drop i).map (hV (l-k)),∃ d∈h,a.x=d.x/\a.y=d.y/\a.w=d.w/\d.h<=a.h/\a.y+a.h<=l:=by
  intro a c;rcases al.1 c with g | g
  ·have:=f.uH a g;exact⟨a,br g,rfl,rfl,rfl,co _,by omega⟩
  ·obtain⟨d,j,rfl⟩:=aC.1 g;have:=f.new d j;exact⟨d,bm j,rfl,rfl,rfl,by unfold hV;simp only;omega,by unfold hV;simp only;omega⟩
 refine⟨fun a c=>?_,?_,fun a c=>?_,fun b e=>?_,?_,fun a c=>?_,fun a c=>?_⟩
 ·obtain⟨d,j,y,s,F,G,H⟩:=x a c;have:=f.pos d j;omega
 ·have p:=f.pw;rw[<-ap i h] at p;have z:=bj.1 p;refine bj.2 ⟨z.1,?_,fun t A d I=>?_⟩
  ·rw[fT];refine List.Pairwise.imp (fun {t d} m=>?_) f.ux;unfold PW hV;simp only;exact .inl (by omega)
  ·obtain⟨B,C,rfl⟩:=aC.1 I;have y:=f.uH t A;have s:=f.new B C;rcases z.2.2 t A B C with m | m
   ·omega
   ·exact .inr (by unfold hV;simp only;omega)
 ·obtain⟨d,j,y,s,F,G,H⟩:=x a c;have p:=f.pos d j;intro m;refine f.top d j fun b=>?_;have:=m b;rw[s,r b d.y (by omega),r b (d.y-1) (by omega)] at this;exact this
 ·by_cases o:e<k
  ·rw[r b e o,f.tR b e];exact⟨fun m=>⟨by omega,m.2⟩,fun m=>⟨o,m.2⟩⟩
  ·rw[E b e (by omega)];constructor
   ·rintro⟨n,g⟩;exact⟨n,(v b e (by omega) n).2 ((w b).1 g)⟩
   ·rintro⟨n,g⟩;exact⟨n,(w b).2 ((v b e (by omega) n).1 g)⟩
 ·rw[ae,D];omega
 ·rw[bi (by omega),dz,dR] at c;have:=f.uH a c;omega
 ·rw[eO (by omega),List.drop_take,cL,dw,cd] at c;obtain⟨d,j,rfl⟩:=aC.1 c;have:=f.new d j;unfold hV;simp only;omega
end Go.Proofs.Panes
namespace Go.Proofs.Panes
def ia (a:Rc):Prop:=(-1000<=a.x/\a.x<=1000)/\(-1000<=a.y/\a.y<=1000)/\(0<=a.w/\a.w<=1000)/\(0<=a.h/\a.h<=1000)
def iU (a:Rc)(b c:Int):Prop:=(a.y<=b\/c<=a.y)/\(a.y+a.h<=b\/c<=a.y+a.h)
structure gL (rows:List Int)(l:List Rc):Prop where
 up:rows.Pairwise (· < ·)
 mem:∀ y,y∈rows↔∃ r∈l,y=r.y\/y=r.y+r.h
def iN {b:List Int}(j:b.Pairwise (· < ·)){a:Nat}{f g e:Int}(k:b[a]?=some f)(l:b[a+1]?=some g)(m:e∈b):e<=f\/g<=e:=by
 obtain⟨c,h,n⟩:=di.1 m;have i:=cH.1 j;obtain⟨o,p⟩:=zzg k;obtain⟨q,r⟩:=zzg l;subst n p r;rcases Nat.lt_trichotomy c a with d | d | d
 ·exact .inl (fw (i c a h o d))
 ·subst d;exact .inl (co _)
 ·by_cases s:c=a+1
  ·subst s;exact .inr (co _)
  ·exact .inr (fw (i (a+1) c q h (by omega)))
def ja {b:List Int}(e:b.Pairwise (· < ·)){a:Nat}{c d:Int}(f:b[a]?=some c)(g:b[a+1]?=some d):c<d:=by
 obtain⟨h,i⟩:=zzg f;obtain⟨j,k⟩:=zzg g;subst i k;exact cH.1 e a (a+1) h j (by omega)
def nA {a:List Int}(e:a.Pairwise (· < ·)){b c:Int}(f:a[0]?=some b)(g:c∈a):b<=c:=by
 obtain⟨d,h,i⟩:=di.1 g;obtain⟨j,k⟩:=zzg f;subst i k;by_cases l:d=0
 ·subst l;exact co _
 ·exact fw (cH.1 e 0 d j h (by omega))
def oG {a:List Int}(f:a.Pairwise (· < ·)){b:Nat}{c d:Int}(g:a[b]?=some c)(n:a.length<=b+1)(h:d∈a):d<=c:=by
 obtain⟨e,i,j⟩:=di.1 h;obtain⟨k,l⟩:=zzg g;subst j l;by_cases m:e=b
 ·subst m;exact co _
 ·exact fw (cH.1 f e b i k (by omega))
def gL.clear {b:List Int}{c:List Rc}(a:gL b c){d:Nat}{e f:Int}(g:b[d]?=some e)(h:b[d+1]?=some f){r:Rc}(i:r∈c):iU r e f:=
 ⟨iN a.up g h ((a.mem r.y).2 ⟨r,i,.inl rfl⟩),iN a.up g h ((a.mem (r.y+r.h)).2 ⟨r,i,.inr rfl⟩)⟩
def gL.bound {c:List Int}{d:List Rc}(e:gL c d)(f:∀ b∈d,ia b){g:Nat}{a:Int}(h:c[g]?=some a):-1000<=a/\a<=2000:=by
 obtain⟨b,i,j⟩:=(e.mem a).1 (zzn h);have:=f b i;unfold ia at this;omega
def ic {c:List Rc}{d e:Int}(h:∀ a∈c,iU a d e)(g f:Int)(k:d<=f)(l:f<e):Qa c g f↔∃ a∈c,a.y<=d/\e<=a.y+a.h/\a.has g:=by
 unfold Qa;constructor
 ·rintro⟨a,b,i⟩;have:=h a b;unfold iU at this;unfold Rc.tO at i;exact⟨a,b,by omega,by omega,by unfold Rc.has;omega⟩
 ·rintro⟨a,b,m,n,j⟩;unfold Rc.has at j;exact⟨a,b,by unfold Rc.tO;omega⟩
def gL.before {a:List Int}{b:List Rc}(c:gL a b){d:Int}(g:a[0]?=some d)(h e:Int)(k:e<d):¬Qa b h e:=by
 rintro⟨f,i,j⟩;have:=nA c.up g ((c.mem f.y).2 ⟨f,i,.inl rfl⟩);unfold Rc.tO at j;omega
def gL.behind {a:List Int}{c:List Rc}(d:gL a c){e:Nat}{f:Int}(h:a[e]?=some f)(i:a.length<=e+1)(j g:Int)(k:Qa c j g):g<f:=by
 obtain⟨b,l,m⟩:=k;have:=oG d.up h i ((d.mem (b.y+b.h)).2 ⟨b,l,.inr rfl⟩);unfold Rc.tO at m;omega
def gL.none {a:List Int}{b:List Rc}(d:gL a b)(e:a=[])(f g:Int):¬Qa b f g:=by
 rintro⟨c,h,i⟩;have:=(d.mem c.y).2 ⟨c,h,.inl rfl⟩;rw[e] at this;simp at this
end Go.Proofs.Panes
namespace Go.Proofs.Panes
def gy (a:Int->Bool)(b c:Int):Option Int->List Int->List Rc
 | _,[]=>[]
 | none,d::e=>if a d then gy a b c (some d) e else gy a b c none e
 | some f,d::e=>if a d then gy a b c (some f) e else ⟨f,b,d-f,c⟩::gy a b c none e
def lJ (b:Int->Bool):List Int->Int->Prop
 | c::d::e,a=>(b c=true/\c<=a/\a<d)\/lJ b (d::e) a
 | _,_=>False
def jj {f:Int->Bool}:∀ {b:Int}{d:List Int}{c:Int},(b::d).Pairwise (· < ·)->lJ f (b::d) c->b<=c
 | b,[],c,_,a=>a.elim
 | b,g::d,c,e,a=>by
  rcases a with a | a
  ·exact a.2.1
  ·have:=jj (bn.1 e).2 a;have:=(bn.1 e).1 g (by simp);omega
def hr (b:Int->Bool)(c:List Int):Prop:=∀ a,c.getLast?=some a->b a=false
def hr.tail {b:Int->Bool}{d:Int}{a:List Int}(e:hr b (d::a)):hr b a:=fun f c=>e f (by
 cases a with
 | nil=>simp at c
 | cons g h=>rw[List.getLast?_cons_cons];exact c)
def hr.more {c:Int->Bool}{a:Int}{b:List Int}(d:hr c (a::b))(e:c a=true):∃ f u,b=f::u:=by
 cases b with
 | nil=>exact absurd e (by rw[d a rfl];simp)
 | cons g h=>exact⟨g,h,rfl⟩
def iA {h:Int->Bool}{i j:Int}:∀ (e:Option Int)(f:List Int),∀ c∈gy h i j e f,c.x∈f\/e=some c.x
 | e,[],c,b=>by cases e<;>simp[gy] at b
 | none,g::d,c,b=>by
  unfold gy at b;split at b
  ·rcases iA (some g) d c b with a | a
   ·exact .inl (ba _ a)
   ·injection a with a;exact .inl (by rw[a];simp)
  ·rcases iA none d c b with a | a
   ·exact .inl (ba _ a)
   ·cases a
 | some k,g::d,c,b=>by
  unfold gy at b;split at b
  ·rcases iA (some k) d c b with a | a
   ·exact .inl (ba _ a)
   ·exact .inr a
  ·rcases bf.1 b with a | a
   ·subst a;exact .inr rfl
   ·rcases iA none d c a with a | a
    ·exact .inl (ba _ a)
    ·cases a
def hm {f:Int->Bool}{y h:Int}:∀ (k:Option Int)(l:List Int),l.Pairwise (· < ·)->(∀ b∈l,-1000<=b/\b<=2000)->(∀ c,k=some c->-1000<=c/\∀ b∈l,c<b)->gA y h (gy f y h k l)
 | k,[],_,_,_=>by cases k<;>exact gA.nil y h
 | none,b::j,n,g,p=>by
  have i:=bn.1 n;unfold gy;split
  ·exact hm (some b) j i.2 (fun d e=>g d (ba _ e)) (fun c a=>by injection a with a;subst a;exact⟨(g b (by simp)).1,i.1⟩)
  ·exact hm none j i.2 (fun d e=>g d (ba _ e)) (fun c a=>by cases a)
 | some c,b::j,n,g,p=>by
  have i:=bn.1 n;have u:=g b (by simp);have m:=p c rfl;have v:=m.2 b (by simp);unfold gy;split
  ·exact hm (some c) j i.2 (fun d e=>g d (ba _ e)) (fun w a=>by injection a with a;subst a;exact⟨m.1,fun d e=>m.2 d (ba _ e)⟩)
  ·have q:=hm (f:=f) (y:=y) (h:=h) none j i.2 (fun d e=>g d (ba _ e)) (fun c a=>by cases a);refine⟨fun r s=>?_,bn.2 ⟨fun o t=>?_,q.2⟩⟩
   ·rcases bf.1 s with a | a
    ·subst a;exact⟨by simp only;omega,rfl,rfl,m.1,by simp only;omega⟩
    ·exact q.1 r a
   ·rcases iA none j o t with a | a
    ·have:=i.1 o.x a;show c+(b-c)<o.x;omega
    ·cases a
def hM {r:Int->Bool}{B C:Int}(i:Int):∀ (u:Option Int)(q:List Int),q.Pairwise (· < ·)->hr r q->(∀ c,u=some c->∃ d g,q=d::g/\c<d)-> (gq (gy r B C u q) i↔(∃ c d g,u=some c/\q=d::g/\c<=i/\i<d)\/lJ r q i)
 | none,[],_,_,_=>by
  constructor
  ·exact fun a=>absurd a (qf1 i)
  ·rintro (⟨c,d,g,e,_⟩ | a)
   ·cases e
   ·exact a.elim
 | some c,[],_,_,v=>by obtain⟨d,g,e,_⟩:=v c rfl;cases e
 | none,d::g,w,l,_=>by
  have m:=bn.1 w;unfold gy;by_cases h:r d=true
  ·obtain⟨j,k,rfl⟩:=l.more h;rw[an h,hM i (some d) (j::k) m.2 l.tail (fun c e=>by injection e with e;subst e;exact⟨j,k,rfl,m.1 j (by simp)⟩)];constructor
   ·rintro (⟨c,n,o,b,f,p,s⟩ | a)
    ·injection b with b;injection f with f e2';subst b f;exact .inr (.inl ⟨h,p,s⟩)
    ·exact .inr (.inr a)
   ·rintro (⟨c,n,o,b,_⟩ | a | a)
    ·cases b
    ·exact .inl ⟨d,j,k,rfl,rfl,a.2.1,a.2.2⟩
    ·exact .inr a
  ·rw[ah h,hM i none g m.2 l.tail (fun c e=>by cases e)];constructor
   ·rintro (⟨c,n,o,b,_⟩ | a)
    ·cases b
    ·refine .inr ?_;cases g with
     | nil=>exact a.elim
     | cons x y=>exact .inr a
   ·rintro (⟨c,n,o,b,_⟩ | a)
    ·cases b
    ·refine .inr ?_;cases g with
     | nil=>exact a.elim
     | cons x y=>exact a.resolve_left (fun z=>h z.1)
 | some c,d::g,w,l,v=>by
  have m:=bn.1 w;obtain⟨E,F,A,G⟩:=v c rfl;injection A with A e0';subst A e0';unfold gy;by_cases h:r d=true
  ·obtain⟨j,k,rfl⟩:=l.more h;have H:=m.1 j (by simp);rw[an h,hM i (some c) (j::k) m.2 l.tail (fun t e=>by injection e with e;subst e;exact⟨j,k,rfl,by omega⟩)];constructor
   ·rintro (⟨t,n,o,b,f,p,s⟩ | a)
    ·injection b with b;injection f with f e2';subst b f;by_cases D:i<d
     ·exact .inl ⟨c,d,_,rfl,rfl,p,D⟩
     ·exact .inr (.inl ⟨h,by omega,s⟩)
    ·exact .inr (.inr a)
   ·rintro (⟨t,n,o,b,f,p,s⟩ | a | a)
    ·injection b with b;injection f with f e2';subst b f;exact .inl ⟨c,j,k,rfl,rfl,p,by omega⟩
    ·exact .inl ⟨c,j,k,rfl,rfl,by have:=a.2.1;omega,a.2.2⟩
    ·exact .inr a
  ·rw[ah h,jy,hM i none g m.2 l.tail (fun c e=>by cases e)];constructor
   ·rintro (a | ⟨t,n,o,b,_⟩ | a)
    ·refine .inl ⟨c,d,g,rfl,rfl,a.1,?_⟩;have:=a.2;simp only at this;omega
    ·cases b
    ·refine .inr ?_;cases g with
     | nil=>exact a.elim
     | cons x y=>exact .inr a
   ·rintro (⟨t,n,o,b,f,p,s⟩ | a)
    ·injection b with b;injection f with f e2';subst b f;exact .inl ⟨p,by simp only;omega⟩
    ·refine .inr (.inr ?_);cases g with
     | nil=>exact a.elim
     | cons x y=>exact a.resolve_left (fun z=>h z.1)
def hz {b:Int->Bool}{e f:Int}(c:Int){a:List Int}(g:a.Pairwise (· < ·))(h:hr b a):gq (gy b e f none a) c↔lJ b a c:=by
 rw[hM c none a g h (fun j d=>by cases d)];exact⟨fun i=>i.resolve_left (fun ⟨_,_,_,d,_⟩=>by cases d),.inr⟩
structure Steps (f:Int->Bool)(xs:List Int):Prop where
 const:∀ p q,p<=q->(∀ e∈xs,¬(p<e/\e<=q))->f p=f q
 before:∀ p,(∀ e∈xs,p<e)->f p=false
 behind:∀ p,(∀ e∈xs,e<=p)->f p=false
def lY {i:Int->Bool}{m:List Int}(j:Steps i m)(c:Int):∀ (d:Int)(k:List Int),(d::k).Pairwise (· < ·)->(∀ b∈m,b<=d\/b∈k)->d<=c->(lJ i (d::k) c↔i c=true)
 | d,[],_,f,g=>by
  have:=j.behind c (fun b e=>by rcases f b e with a | a;exact Int.le_trans a g;simp at a);rw[this];exact⟨fun a=>a.elim,fun a=>by cases a⟩
 | d,l::o,p,f,g=>by
  have h:=bn.1 p;have q:=bn.1 h.2;by_cases n:c<l
  ·have r:=j.const d c g (fun b e=>by
    rcases f b e with a | a
    ·omega
    ·rcases bf.1 a with a | a
     ·subst a;omega
     ·have:=q.1 b a;omega)
   rw[<-r];constructor
   ·rintro (a | a)
    ·exact a.1
    ·have:=jj h.2 a;omega
   ·exact fun a=>.inl ⟨a,g,n⟩
  ·have s:=lY j c l o h.2 (fun b e=>by
    rcases f b e with a | a
    ·exact .inl (by have:=h.1 l (by simp);omega)
    ·rcases bf.1 a with a | a
     ·subst a;exact .inl (co _)
     ·exact .inr a) (by omega)
   rw[<-s];exact⟨fun a=>a.resolve_left (fun t=>n t.2.2),.inr⟩
def pT {e:Int->Bool}{d:List Int}(f:Steps e d)(g:d.Pairwise (· < ·))(b:Int):lJ e d b↔e b=true:=by
 cases d with
 | nil=>rw[f.before b (fun h c=>by simp at c)];exact⟨fun a=>a.elim,fun a=>by cases a⟩
 | cons i k=>
  by_cases j:i<=b
  ·exact lY f b i k g (fun h c=>by rcases bf.1 c with a | a;exact .inl (by omega);exact .inr a) j
  ·rw[f.before b (fun h c=>by
    rcases bf.1 c with a | a
    ·omega
    ·have:=(bn.1 g).1 h a;omega)]
   exact⟨fun a=>absurd (jj g a) j,fun a=>by cases a⟩
def Steps.last {c:Int->Bool}{a:List Int}(e:Steps c a)(f:a.Pairwise (· < ·)):hr c a:=fun d g=>e.behind d (fun h i=>by
 obtain⟨j,rfl⟩:=List.getLast?_eq_some_iff.1 g;rcases al.1 i with b | b
 ·exact fw ((bj.1 f).2.2 h b d (by simp))
 ·simp at b;omega)
def lu {d e:Int->Bool}(b:Int):∀ (c:List Int),(∀ a∈c,d a=e a)->(lJ d c b↔lJ e c b)
 | [],_=>eM
 | [a],_=>eM
 | a::g::h,f=>by
  unfold lJ;rw[f a (by simp),lu b (g::h) (fun i j=>f i (ba _ j))]
def hy (a:Int->Bool)(b c d:Int):∀ (f:Option Int)(g:List Int),(gy a b c f g).map (hV d)=gy a b (c+d) f g
 | none,[]=>rfl
 | some _,[]=>rfl
 | none,h::e=>by
  unfold gy;split
  ·exact hy a b c d (some h) e
  ·exact hy a b c d none e
 | some i,h::e=>by
  unfold gy;split
  ·exact hy a b c d (some i) e
  ·rw[aY,hy a b c d none e];rfl
def hn {i j:Int->Bool}(e f:Int):∀ (k:Option Int)(h:List Int),(∀ a∈h,i a=j a)->gy i e f k h=gy j e f k h
 | none,[],_=>rfl
 | some _,[],_=>rfl
 | none,a::g,b=>by
  unfold gy;rw[b a (by simp),hn e f (some a) g (fun c d=>b c (ba _ d)),hn e f none g (fun c d=>b c (ba _ d))]
 | some l,a::g,b=>by
  unfold gy;rw[b a (by simp),hn e f (some l) g (fun c d=>b c (ba _ d)),hn e f none g (fun c d=>b c (ba _ d))]
def mS (a b:Int):∀ (c:List Int),gy (fun _=>false) a b none c=[]
 | []=>rfl
 | e::d=>by unfold gy;simp only[cT,dE];exact mS a b d
structure iH (xs:List Int)(l:List Rc):Prop where
 up:xs.Pairwise (· < ·)
 mem:∀ x,x∈xs↔∃ r∈l,x=r.x\/x=r.x+r.w
def iH.bound {c:List Int}{d:List Rc}(e:iH c d)(f:∀ b∈d,ia b):∀ a∈c,-1000<=a/\a<=2000:=fun a g=>by
 obtain⟨b,h,i⟩:=(e.mem a).1 g;have:=f b h;unfold ia at this;omega
def ln {b:List Rc}{c:List Int}(g:∀ a∈b,a.x∈c/\a.x+a.w∈c){d f h:Int}(k:d<=f)(i:∀ e∈c,¬(d<e/\e<=f)):Qa b d h↔Qa b f h:=by
 unfold Qa;refine exists_congr fun a=>and_congr_right fun j=>?_;have l:=i _ (g a j).1;have m:=i _ (g a j).2;unfold Rc.tO;omega
def iR {d:List Rc}{b:List Int}(f:∀ a∈d,a.x∈b/\a.x+a.w∈b){e g:Int}(h:∀ c∈b,e<c):¬Qa d e g:=by
 rintro⟨a,i,c⟩;have:=h _ (f a i).1;unfold Rc.tO at c;omega
def iQ {d:List Rc}{b:List Int}(f:∀ a∈d,a.x∈b/\a.x+a.w∈b){e g:Int}(h:∀ c∈b,c<=e):¬Qa d e g:=by
 rintro⟨a,i,c⟩;have:=h _ (f a i).2;unfold Rc.tO at c;omega
def mZ {d:List Rc}{a e:Int}(f:∀ r∈d,iU r a e){b c:Int}(g:a<=c)(h:c<e):Qa d b c↔Qa d b a:=by
 rw[ic f b c g h,ic f b a (co _) (by omega)]
end Go.Proofs.Panes
namespace Go.Proofs.Panes
def mB (a:Rc)(b c:Int):Bool:=decide (a.x<=b/\b<a.x+a.w/\a.y<=c/\c<a.y+a.h)
def pQ (a:Rc)(b c:Int):mB a b c=true↔a.tO b c:=by unfold mB Rc.tO;exact decide_eq_true_iff
def hU (b:List Rc):Int:=(b.map fun a=>a.w*a.h).sum
def lw (b:List Rc)(a:Rc):hU (b++[a])=hU b+a.w*a.h:=by simp[hU]
def pL {a b:Int}(c:0<a/\a<=3000)(d:0<b/\b<=3000):0<=a*b/\a*b<=9000000:=by
 refine⟨Int.mul_nonneg (by omega) (by omega),?_⟩;have:=Int.mul_le_mul c.2 d.2 (by omega) (by omega);omega
end Go.Proofs.Panes
namespace Go.Proofs.Panes
def lp {c b:List Rc}(e:c.map (fun a=>(a.x,a.w))=b.map (fun a=>(a.x,a.w)))(d:Int):gq c d->gq b d:=by
 rintro⟨a,f,j⟩;have:(a.x,a.w)∈b.map (fun a=>(a.x,a.w)):=(by rw[<-e];exact aC.2 ⟨a,f,rfl⟩);obtain⟨g,h,i⟩:=aC.1 this;simp only[bP] at i;exact⟨g,h,by unfold Rc.has at *;omega⟩
end Go.Proofs.Panes
namespace Go.Proofs.Panes
def gx (a:List Rc)(b c:Int):Bool:=a.any fun d=>mB d b c
def gP (c:List Rc)(a b:Int):gx c a b=true↔Qa c a b:=by
 unfold gx Qa;rw[ca];exact exists_congr fun d=>and_congr_right fun _=>pQ d a b
def pR (a b:Int):gx [] a b=false:=rfl
def jc {a:List Rc}{b c d e:Int}(f:Qa a b c↔Qa a d e):gx a b c=gx a d e:=by
 rw[cC,gP,gP];exact f
def ij {a:List Rc}{b c:Int}(d:¬Qa a b c):gx a b c=false:=by
 cases e:gx a b c
 ·rfl
 ·exact absurd ((gP a b c).1 e) d
def mD {f:Int->Bool}:∀ {e:List Int}{c:Int},e.Pairwise (· < ·)->hr f e->c∈e->(lJ f e c↔f c=true)
 | [i],c,_,g,h=>by
  have b:c=i:=(by simpa using h);subst b;rw[g c rfl];exact⟨fun a=>a.elim,fun a=>by cases a⟩
 | i::j::l,c,k,g,h=>by
  have d:=bn.1 k;rcases bf.1 h with b | b
  ·subst b;constructor
   ·rintro (a | a)
    ·exact a.1
    ·have:=jj d.2 a;have:=d.1 j (by simp);omega
   ·exact fun a=>.inl ⟨a,co _,d.1 j (by simp)⟩
  ·rw[<-mD d.2 g.tail b];refine⟨fun a=>a.resolve_left fun m=>?_,.inr⟩;rcases bf.1 b with b | b
   ·omega
   ·have:=(bn.1 d.2).1 c b;omega
def hv (a:Int->Bool)(b c:Int):∀ (g:Option Int)(e:List Int),(gy a b c g e).length<=e.length
 | none,[]=>zzl _
 | some _,[]=>zzl _
 | none,f::d=>by
  unfold gy;split
  ·exact fS (hv a b c (some f) d)
  ·exact fS (hv a b c none d)
 | some h,f::d=>by
  unfold gy;split
  ·exact fS (hv a b c (some h) d)
  ·exact Nat.succ_le_succ (hv a b c none d)
structure ho (MB:Int->Int->Bool)(xs ys:List Int):Prop where
 uM:xs.Pairwise (· < ·)
 upy:ys.Pairwise (· < ·)
 bx:∀ x∈xs,-1000<=x/\x<=2000
 byy:∀ y∈ys,-1000<=y/\y<=2000
 steps:∀ t,Steps (fun x=>MB x t) xs
 rows:∀ (k:Nat) t u,ys[k]?=some t->ys[k+1]?=some u->∀ px py,t<=py->py<u->MB px py=MB px t
 before:∀ t,ys[0]?=some t->∀ px py,py<t->MB px py=false
 behind:∀ (k:Nat) t,ys[k]?=some t->ys.length<=k+1->∀ px py,t<=py->MB px py=false
 empty:ys=[]->∀ px py,MB px py=false
def ho.M (a:Int->Int->Bool)(b c:Int):Prop:=a b c=true
def ho.strip {e:Int->Int->Bool}{i f:List Int}(b:ho e i f){g:Nat}{a h:Int}(j:f[g]?=some a)(k:f[g+1]?=some h)(l:Int)(c d:Int)(m:a<=d)(n:d<h):ho.M e c d↔gq (gy (fun o=>e o a) a l none i) c:=by
 rw[hz c b.uM ((b.steps a).last b.uM),pT (b.steps a) b.uM];unfold ho.M;rw[b.rows g a h j k c d m n]
def ho.lays {e:Int->Int->Bool}{a f:List Int}(b:ho e a f)(g:Int->Bool)(c d:Int):gA c d (gy g c d none a):=hm none a b.uM b.bx (fun _ h=>by cases h)
def ho.first {b:Int->Int->Bool}{h i:List Int}(c:ho b h i){a d:Int}(f:i[0]?=some a)(m:i[0+1]?=some d):CI (ho.M b) d ([]++gy (fun j=>b j a) a (d-a) none h) ([]:List Rc).length:=by
 have n:=CI.start (ho.M b) a (fun g k q e=>by unfold ho.M at e;rw[c.before a f g k q] at e;cases e);have l:=fun g k r s=>c.strip f m (d-a) g k r s;have o:=ja c.upy f m;have t:=c.byy a (zzn f);by_cases p:gy (fun j=>b j a) a (d-a) none h=[]
 ·rw[p] at l ⊢;exact n.on o l (fun g=>eM)
 ·exact n.more o t.1 (c.lays _ _ _) l (fun e=>p (fJ.1 e.symm))
def hi (a b:List Rc):(a++b).drop a.length=b:=by simp
def iJ (a b:List Rc):(a++b).take a.length=a:=by simp
def ho.on {g:Int->Int->Bool}{b j:List Int}(c:ho g b j){h:Int->Bool}{k:Nat}{a d e:Int}{i:List Rc}(l:j[k]?=some a)(m:j[k+1]?=some d)(n:CI (ho.M g) a (i++gy h e (a-e) none b) i.length) (o:hr h b) (p:∀ x∈b,h x=g x a):CI (ho.M g) d (i++gy h e (d-e) none b) i.length:=by
 have q:=fun f r s t=>c.strip l m (d-a) f r s t;have:=n.on (ja c.upy l m) q (fun f=>by
  rw[hi,hz f c.uM o,hz f c.uM ((c.steps a).last c.uM)];exact lu f b p)
 rw[hi,iJ,hy] at this;have u:a-e+(d-a)=d-e:=(by omega);rw[u] at this;exact this
def ho.more {f:Int->Int->Bool}{d k:List Int}(b:ho f d k){g:Int->Bool}{m:Nat}{a u e:Int}{j:List Rc}(l:k[m]?=some a)(n:k[m+1]?=some u)(s:CI (ho.M f) a (j++gy g e (a-e) none d) j.length) (o:hr g d) (t:∃ c∈d,g c≠f c a):CI (ho.M f) u ((j++gy g e (a-e) none d)++gy (fun c=>f c a) a (u-a) none d) (j++gy g e (a-e) none d).length:=by
 have v:=fun w x h i=>b.strip l n (u-a) w x h i;refine s.more (ja b.upy l n) (b.byy a (zzn l)).1 (b.lays _ _ _) v ?_;rw[hi];intro p;obtain⟨c,q,y⟩:=t;have r:=(b.steps a).last b.uM;have h:=lp p c;have i:=lp p.symm c;rw[hz c b.uM o,hz c b.uM r] at h i;rw[mD b.uM o q,mD b.uM r q] at h i;apply y;rw[cC];exact⟨h,i⟩
def ho.done {d:Int->Int->Bool}{j e:List Int}(k:ho d j e){f l:Nat}{g:Int}{h:List Rc}(m:e[f]?=some g)(n:e.length<=f+1)(i:CI (ho.M d) g h l):ha h/\∀ a b,Qa h a b↔d a b=true:=by
 refine⟨i.right,fun a b=>(i.tR a b).trans ⟨fun c=>c.2,fun c=>⟨?_,c⟩⟩⟩;apply Decidable.byContradiction;intro o;rw[k.behind f g m n a b (by omega)] at c;cases c
def rn {e:Bool->Bool->Bool}(o:e false false=false){h i:List Rc}{j t:List Int}(k:iH j (h++i))(l:gL t (h++i))(u:∀ a∈h++i,ia a):ho (fun b c=>e (gx h b c) (gx i b c)) j t:=by
 have p:∀ a∈h,a.x∈j/\a.x+a.w∈j:=fun a d=>⟨(k.mem _).2 ⟨a,by simp[d],.inl rfl⟩,(k.mem _).2 ⟨a,by simp[d],.inr rfl⟩⟩;have q:∀ a∈i,a.x∈j/\a.x+a.w∈j:=fun a d=>⟨(k.mem _).2 ⟨a,by simp[d],.inl rfl⟩,(k.mem _).2 ⟨a,by simp[d],.inr rfl⟩⟩;have r:∀ b c,¬Qa (h++i) b c->e (gx h b c) (gx i b c)=false:=fun b c f=>by
  rw[zf4] at f;rw[ij (fun m=>f (.inl m)),ij (fun m=>f (.inr m)),o]
 refine⟨k.up,l.up,k.bound u,fun B f=>?_,fun s=>⟨fun v F w g=>?_,fun v g=>?_,fun v g=>?_⟩,fun C s G n D b c x y=>?_,fun s n b c f=>r b c (l.before n b c f),fun C s n E b c f=>r b c (fun m=>?_),fun z b c=>r b c (l.none z b c)⟩
 ·obtain⟨a,d,z⟩:=(l.mem B).1 f;have:=u a d;unfold ia at this;omega
 ·show e _ _=e _ _;rw[jc (ln p w g),jc (ln q w g)]
 ·show e _ _=false;rw[ij (iR p g),ij (iR q g),o]
 ·show e _ _=false;rw[ij (iQ p g),ij (iQ q g),o]
 ·show e _ _=e _ _;have A:=fun a d=>l.clear n D (r:=a) d;rw[jc (mZ (fun a d=>A a (by simp[d])) x y),jc (mZ (fun a d=>A a (by simp[d])) x y)]
 ·have:=l.behind n E b c m;omega
end Go.Proofs.Panes
namespace Go.Proofs.YtbnbkjbfpamijaaGreat
open Go.RowKit Go.Proofs.Panes
variable{b2:Prop}{A B l:List Rc}{m w w2:World}{v:Value}{b g i j n:Nat}{r:Rc}{f:Array Value}{d:TypeId}{I:Nat×Nat}{o':Obj}
def ax:=@Go.below_drewN
def qg (a:b2):Hid b2:=a
def qb (a:Hid b2):b2:=a
def vt (a:Rc):List Value:=[.int .i64 a.x,.int .i64 a.y,.int .i64 a.w,.int .i64 a.h]
def qK (a:List Rc):List Value:=a.flatMap vt
def Kp:qK []=[]:=rfl
def xL (a:Rc)(b:List Rc):qK (a::b)=vt a++qK b:=rfl
def zp (a b:List Rc):qK (a++b)=qK a++qK b:=by simp[qK]
def qM (a:List Rc):(qK a).length=a.length*4:=by
 induction a with
 | nil=>rfl
 | cons c a b=>rw[xL,ae,b];simp[vt];omega
def kL:∀ (a:List Rc)(b:Nat)(c:Rc),a[b]?=some c-> (qK a)[b*4]?=some (.int .i64 c.x)/\(qK a)[b*4+1]?=some (.int .i64 c.y)/\(qK a)[b*4+2]?=some (.int .i64 c.w)/\(qK a)[b*4+3]?=some (.int .i64 c.h)
 | [],b,c,d=>by simp at d
 | h::a,0,c,d=>by
  simp at d;subst d;simp[xL,vt]
 | h::a,b+1,c,d=>by
  have i:a[b]?=some c:=(by simpa using d);have e:=kL a b c i;rw[xL];have f:∀ g,(vt h++qK a)[(b+1)*4+g]?=(qK a)[b*4+g]?:=by
   intro g;rw[aq (by simp[vt];omega)];congr 1;simp[vt];omega
  refine⟨by have:=f 0;simp only[bL] at this;rw[this];exact e.1,by rw[f 1];exact e.2.1,by rw[f 2];exact e.2.2.1,by rw[f 3];exact e.2.2.2⟩
def Ko (d:List Rc):∀ a∈qK d,a.oneCell'=true:=by
 intro a b;simp only[qK,du,vt] at b;obtain⟨e,_,c⟩:=b;simp at c;rcases c with rfl | rfl | rfl | rfl<;>rfl
def qz3 {q:Rc}:(A++[q])[A.length]?=some q:=by simp
def oa (a:World)(b c:Nat)(d:Rc):Prop:=
 a.cell? ⟨b,c,none⟩=some (.int .i64 d.x)/\a.cell? ⟨b,c+1,none⟩=some (.int .i64 d.y)/\a.cell? ⟨b,c+2,none⟩=some (.int .i64 d.w)/\a.cell? ⟨b,c+3,none⟩=some (.int .i64 d.h)
def Rd (d:World)(i:Value)(a:List Rc):Prop:=
 ∃ e b,i=.slice e a.length b/\a.length<=b/\b<=maxLen/\(a≠[]->∃ c f,e=some ⟨c,f,none⟩/\c<d.heap.size/\∀ g h,a[g]?=some h->oa d c (f+g*4) h)
abbrev gw (b:World)(c:Nat)(d:Value)(a:List Rc):Prop:=b.ownsRow c 46 4 d a.length (qK a)
def gw.rd {base:Nat}(c:gw w base v l):Rd w v l:=by
 rcases c.2 with ⟨rfl,g⟩ | ⟨a,h,r,rfl,s,i,j,k,t,u⟩
 ·have:=bQ.1 g;subst this;exact⟨none,0,rfl,by simp,by simp[maxLen],fun c=>absurd rfl c⟩
 ·refine⟨some ⟨a,0,none⟩,h,rfl,j,k,fun _=>⟨a,0,rfl,(bM.1 i).1,fun m n o=>?_⟩⟩;have d:=kL l m n o;have e:∀ b f,(qK l)[b]?=some f->w.cell? ⟨a,b,none⟩=some f:=(by intro b f p;have:=c.cells (g:=a) rfl b f p;have q:(⟨a,0,none⟩:Addr).add b=⟨a,b,none⟩:=(by unfold Addr.add;split<;>simp_all);rwa[q] at this);simp only[bA];exact⟨e _ _ d.1,e _ _ d.2.1,e _ _ d.2.2.1,e _ _ d.2.2.2⟩
def oa.below (a:Below n w w2)(b:i<n)(c:oa w i j r):oa w2 i j r:=
 ⟨(a.cell (p:=⟨i,_,none⟩) b).trans c.1,(a.cell (p:=⟨i,_,none⟩) b).trans c.2.1,(a.cell (p:=⟨i,_,none⟩) b).trans c.2.2.1,(a.cell (p:=⟨i,_,none⟩) b).trans c.2.2.2⟩
def Rd.below {a b:World}{c:Value}{d:List Rc}(g:Rd a c d)(e:Below a.heap.size a b):Rd b c d:=by
 obtain⟨h,i,rfl,j,k,l⟩:=g;refine⟨h,i,rfl,j,k,fun m=>?_⟩;obtain⟨n,o,rfl,f,p⟩:=l m;exact⟨n,o,rfl,zzm f e.size,fun q r s=>(p q r s).below e f⟩
def zB {c:Option Nat}(a:w.grownBy w2 c)(b:w2.grownBy m c):w.grownBy m c:=
 ⟨b.os.trans a.os,b.tape.trans a.tape,b.output.trans a.output,aO a.size b.size,fun d e f=>(b.block d (zzm e a.size) f).trans (a.block d e f)⟩
def km (a:World)(b:Nat)(c:Option Nat):a.grownBy (a.drewN b) c:=⟨rfl,rfl,rfl,zzl _,fun _ _ _=>rfl⟩
def kj (a:Below w.heap.size w w2)(b:Option Nat):w.grownBy w2 b:=⟨a.os,a.tape,a.output,a.size,fun c d _=>a.block c d⟩
def qy0 (a:w.grownBy w2 none):Below w.heap.size w w2:=⟨a.os,a.tape,a.output,a.size,fun b c=>a.block b c (by simp)⟩
def gw.kept {a c:World}{d:Nat}{b:Value}{e:List Rc}(f:gw a d b e)(g:Below a.heap.size a c):gw c d b e:=ck f (kj g none) (by cases h:b.ownBlock<;>simp)
def gw.mono (a:gw w n v l)(b:i<=n):gw w i v l:=
 ⟨a.1,a.2.imp id fun ⟨c,d,e,f,g,h⟩=>⟨c,d,e,f,aO b g,h⟩⟩
def gw.tM (b:gw w n v l):∀ a,v.ownBlock=some a->n<=a:=fun a c=>(ab b a c).1
def gu (b:gw w n v l)(a:Obj):gw (w.alloc a) n v l:=aR b a
def ig (a:gw w n v l)(b:Nat):gw (w.drewN b) n v l:=a
def gw.snoc (a:w.ownsRow n 46 4 v (l.length+1) (qK l++vt r)):gw w n v (l++[r]):=by
 have b:qK (l++[r])=qK l++vt r:=(by rw[zp,xL,Kp,aW]);unfold gw;rw[b,ae];exact a
def hl (c:w.heap[n]?=some (.cells #[.int .i64 r.x,.int .i64 r.y,.int .i64 r.w,.int .i64 r.h] 46)):∀ a b,(vt r)[a]?=some b->w.cell? ((⟨n,0,none⟩:Addr).add a)=some b:=by
 intro a b d;have e:(⟨n,0,none⟩:Addr).add a=⟨n,a,none⟩:=(by unfold Addr.add;split<;>simp_all);rw[e,ea w n a _ _ _ c];simpa[vt] using d
def qt (a:World)(b:Obj)(c:Nat)(d:c=a.heap.size):(a.alloc b).heap[c]?=some b:=by subst d;exact heap_alloc_new a b
def gU (c:Rc):∀ a∈vt c,a.oneCell'=true:=by
 intro a b;simp[vt] at b;rcases b with rfl | rfl | rfl | rfl<;>rfl
def V7 (a:List Rc)(b:Rc)(c:List Rc)(d:Int):(qK (a++b::c)).set (a.length*4+2) (.int .i64 d)=qK (a++⟨b.x,b.y,d,b.h⟩::c):=by
 rw[zp,zp,bG _ _ (by rw[qM];omega),qM,show a.length*4+2-a.length*4=2 by omega];rfl
def V8 (a:List Rc)(b:Rc)(c:List Rc)(d:Int):(qK (a++b::c)).set (a.length*4+3) (.int .i64 d)=qK (a++⟨b.x,b.y,b.w,d⟩::c):=by
 rw[zp,zp,bG _ _ (by rw[qM];omega),qM,show a.length*4+3-a.length*4=3 by omega];rfl
def pF {base cap:Nat}(a:Int)(b:gw w base (.slice (some ⟨g,0,none⟩) n cap) (A++r::B))(c:n=(A++r::B).length):gw (w.setCell ⟨g,A.length*4+2,none⟩ (.int .i64 a)) base (.slice (some ⟨g,0,none⟩) n cap) (A++⟨r.x,r.y,a,r.h⟩::B)/\w.grownBy (w.setCell ⟨g,A.length*4+2,none⟩ (.int .i64 a)) (some g):=by
 subst c;have:=aT b (A.length*4+2) (.int .i64 a);rw[V7] at this;refine⟨?_,this.2⟩;have d:(A++(⟨r.x,r.y,a,r.h⟩:Rc)::B).length=(A++r::B).length:=(by simp);unfold gw;rw[d];exact this.1
def pG (a:Int)(b:gw w n (.slice (some ⟨i,0,none⟩) j g) (l++r::B))(c:j=(l++r::B).length):gw (w.setCell ⟨i,l.length*4+3,none⟩ (.int .i64 a)) n (.slice (some ⟨i,0,none⟩) j g) (l++⟨r.x,r.y,r.w,a⟩::B)/\w.grownBy (w.setCell ⟨i,l.length*4+3,none⟩ (.int .i64 a)) (some i):=by
 subst c;have:=aT b (l.length*4+3) (.int .i64 a);rw[V8] at this;refine⟨?_,this.2⟩;have d:(l++(⟨r.x,r.y,r.w,a⟩:Rc)::B).length=(l++r::B).length:=(by simp);unfold gw;rw[d];exact this.1
def qr3 (d:gw w n (.slice (some ⟨i,0,none⟩) g b) l)(c:l[j]?=some r):oa w i (j*4) r:=by
 obtain⟨h,k,a,_,_,e⟩:=d.rd;simp only[ai] at a;obtain⟨rfl,rfl,rfl⟩:=a;obtain⟨m,o,a,_,f⟩:=e (by intro a;subst a;simp at c);simp only[ac,bz,bB] at a;obtain⟨rfl,rfl⟩:=a;have:=f j r c;rwa[bA] at this
def xM (b:gw w n (.slice (some ⟨i,0,none⟩) j g) l)(c:j=l.length)(a:Nat):w.frozen? ⟨i,a,none⟩=false:=by
 subst c;exact bs b a
def ld (c:gw w n v l)(d:l≠[]):∃ a b,v=.slice (some ⟨a,0,none⟩) l.length b/\n<=a/\a<w.heap.size:=by
 rcases c.2 with ⟨_,e⟩ | ⟨a,b,h,rfl,f,g,_⟩
 ·exact absurd (bQ.1 e) d
 ·exact⟨a,b,rfl,f,(bM.1 g).1⟩
def gC (c:gw w n v l):∃ b a,v=.slice b l.length a/\l.length<=a:=by
 obtain⟨b,a,d,e,_⟩:=c.rd;exact⟨b,a,d,e⟩
def za7 (a:Nat):gw w a (.slice none 0 0) []:=aQ _ _ _ _
def lT (b:gw w n v l)(g:2<=l.length)(a:w.heap[i]?=some (.cells f d I))(h:f.size=4):v.ownBlock≠some i:=by
 rcases b.2 with ⟨rfl,j⟩ | ⟨k,m,o,rfl,_,c,p,_,e,_⟩
 ·omega
 ·intro d;simp[Value.ownBlock] at d;subst d;rw[c] at a;simp at a;rw[a.1] at e;omega
def oj (a:gw w n v l)(c:i<n):v.ownBlock≠some i:=fun b=>by
 have:=gw.tM a i b;omega
def zl {a:Option Nat}(c:w.grownBy w2 a)(b:w.heap[n]?=some o')(d:a≠some n):w2.heap[n]?=some o':=
 (c.block n (bM.1 b).1 (fun e=>d e.symm)).trans b
def nY (c:w.heap[n]?=some (.cells #[.int .i64 r.x,.int .i64 r.y,.int .i64 r.w,.int .i64 r.h] 46)):oa w n 0 r:=by
 have a:∀ b,w.cell? ⟨n,b,none⟩=(#[Value.int .i64 r.x,.int .i64 r.y,.int .i64 r.w,.int .i64 r.h]:Array Value)[b]?:=fun b=>by rw[ea w n b _ _ _ c]
 exact⟨(a 0).trans rfl,(a 1).trans rfl,(a 2).trans rfl,(a 3).trans rfl⟩
def qh (a:w.heap[n]?=some o'):n<w.heap.size:=(bM.1 a).1
def XI:(Tryz.prog.info? 46).map (fun a=>(a.zero,a.size,a.bytes))=some (some (.agg #[.int .i64 0,.int .i64 0,.int .i64 0,.int .i64 0]),4,32):=by kernel_rfl
def yg:(Tryz.prog.info? 3).map (fun a=>(a.zero,a.size,a.bytes))=some (some (.int .i64 0),1,8):=by kernel_rfl
def mark (a:Int):Rc:=⟨-5000-a,0,0,0⟩
def VI (k:Value)(b:List Rc)(c:Int)(d:World)(o:Rd d k b)(v:b.length<=100000000)(w:0<=c/\c<=100000000)(l:∀ e∈b,e=mark c):Calls Tryz.prog 26 #[k,.int .i64 c] d fun f p=>f=.returned (.bool true)/\Below d.heap.size d p:=by
 obtain⟨x,y,rfl,h1,h2,h3⟩:=o;have z:IntKind.i64.wrap (-5000-c)=-5000-c:=(by rw[af];omega);have q:=qg l;clear l;go_enter Tryz.func26,Tryz.ntmps26;go_wp2;go_loopw [5] (fun h wr=>∃ a:Nat,a<=b.length/\h=.int .i64 a/\Below d.heap.size d wr) (fun h _=>b.length-(intOf h).toNat)
 case atStart=>exact⟨0,aj _,rfl,aa _ _⟩
 case round=>
  obtain⟨a,A,rfl,g⟩:=hrel;by_cases m:a<b.length
  ·obtain⟨B,C,rfl,r,n⟩:=h3 (by intro f;subst f;simp at m);obtain⟨e,i⟩:∃ e,b[a]?=some e:=⟨b[a],by simp[m]⟩;obtain⟨s,c2,t,u⟩:=(n a e i).below g r;have f:=(qb q) e (zzn i);subst f;simp only[mark] at s c2 t u;have D:(0:Int)<=(a:Int):=(by omega);have E:(a:Int)<(b.length:Int):=(by omega);have j:=qg g;clear n h3 i g;go_wp2;go_roundw
   case rel=>exact⟨a+1,by omega,by go_num,qb j⟩
   case measure=>simp[intOf];omega
  ·have j:=qg g;clear g h3;go_wp2;go_ret;exact⟨rfl,qb j⟩
def nv (b:Int)(a:Rc):Rc:=⟨a.x,a.y,a.w,a.h+b⟩
def mt (k e l h c2:Nat)(d a:List Rc)(f:Int)(i:World)(q:gw i k (.slice (some ⟨e,0,none⟩) (d.length+a.length) l) (d++a))(D:d.length=h)(E:0<=f/\f<=10000)(F:d.length+a.length<=100000000)(w:∀ c∈a,-10000<=c.h/\c.h<=10000):Calls Tryz.prog 146 #[.slice (some ⟨e,h*4,none⟩) a.length c2,.int .i64 f] i fun x r=>x=.returned (.tuple #[])/\ gw r k (.slice (some ⟨e,0,none⟩) (d.length+a.length) l) (d++a.map (nv f))/\i.grownBy r (some e):=by
 go_enter Tryz.func146,Tryz.ntmps146;go_wp2;go_loopw [7] (fun m wr=>∃ b:Nat,b<=a.length/\m=.int .i64 b/\gw wr k (.slice (some ⟨e,0,none⟩) (d.length+a.length) l) (d++(a.take b).map (nv f)++a.drop b)/\i.grownBy wr (some e)) (fun m _=>a.length-(intOf m).toNat)
 case atStart=>exact⟨0,aj _,rfl,by simpa using q,km i 0 _⟩
 case round=>
  obtain⟨b,G,rfl,g,n⟩:=hrel;clear q;by_cases o:b<a.length
  ·obtain⟨c,j⟩:∃ c,a[b]?=some c:=⟨a[b],by simp[o]⟩;have s:a.drop b=c::a.drop (b+1):=(by rw[bu o];congr 1;have:=(aB o).symm.trans j;exact aA this);rw[s] at g;have t:(d++(a.take b).map (nv f)).length=h+b:=(by simp;omega);have y:oa wr e ((h+b)*4) c:=qr3 g (by rw[<-t];simp);obtain⟨_,_,_,u⟩:=y;have H:=xM g (by simp;omega) (h*4+b*4+3);have I:wr.cell? ⟨e,h*4+b*4+3,none⟩=some (.int .i64 c.h):=(by rw[<-dO];exact u);have J:=w c (zzn j);have p:=pG (c.h+f) g (by simp;omega);rw[t,dO] at p;have v:=qg p;have z:=qg n;have A:Hid (a.take (b+1)=a.take b++[c]):=(by show _=_;rw[am,j];rfl);clear u p n g s j;go_wp2;go_roundw
   case rel=>
    refine⟨b+1,by omega,by go_num,?_,zB (qb z) (qb v).2⟩;rw[qb A,aE,<-aN,aN];exact (qb v).1
   case measure=>simp[intOf];omega
  ·have B:b=a.length:=(by omega);have C:=qg g;clear g;go_wp2;go_end0;exact⟨rfl,by have:=qb C;rw[B,aP,eL,aW] at this;exact this,n⟩
def hZ (o:Nat)(i:Value)(f:List Rc)(E j F d a c:Int)(b:World)(h:gw b o i f)(k:f=[]->i=.slice none 0 0)(G:o<=b.heap.size)(N:f.length<=10000000)(O:-10000<=a/\a<=10000) (P:-10000<=c/\c<=10000):Calls Tryz.prog 149 #[i,.agg #[.int .i64 E,.int .i64 j,.int .i64 F,.int .i64 d],.int .i64 a,.int .i64 c] b fun H v=> ∃ e,H=.returned e/\gw v o e (f++if a<c then [⟨a,j,c-a,d⟩] else [])/\((f++if a<c then [(⟨a,j,c-a,d⟩:Rc)] else [])=[]->e=.slice none 0 0)/\b.grownBy v i.ownBlock/\ (∀ (l:Nat)(p:Array Value)(s:TypeId)(t:Nat×Nat),b.heap[l]?=some (.cells p s t)->p.size=4->i.ownBlock≠some l->e.ownBlock≠some l):=by
 obtain⟨w,x,y,z,A⟩:=aZ XI;by_cases B:a<c
 ·rw[an B];by_cases q:f=[]
  ·have I:=k q;subst q;subst I;clear k h;go_enter Tryz.func149,Tryz.ntmps149;go_wp2_with (at_builtin;refine bT _ rfl _ _ 47 rfl b.heap.size 46 w (.agg #[.int .i64 0,.int .i64 0,.int .i64 0,.int .i64 0]) 4 32 Tryz.underlying47 x y z A rfl (by decide) _ _ _ rfl (gu (gu (za7 (w:=b) b.heap.size) _) _) ⟨b.heap.size+1,0,none⟩ 1 1 (vt ⟨a,j,c-a,d⟩) rfl rfl ?c1 ?c2 ?c3 ?c4 ?c5 ?_)
   case c1=>exact hl (qt _ _ _ (by simp))
   case c2=>exact gU _
   case c3=>simp[maxLen]
   case c4=>simp
   case c5=>simp;omega
   intro e J m n _;have g:=qg (gw.snoc (l:=[]) m);have r:=qg n;clear m n;go_wp2;go_ret;refine⟨e,rfl,(qb g).mono G,fun d=>by simp at d,zB (zB (au _ _ _) (au _ _ _)) (qb r),fun l p s t u C D=>oj (qb g) (qh u)⟩
  ·have K:=qg q;have L:=qg h;obtain⟨Q,R,rfl,_⟩:=gC h;clear q k h;go_enter Tryz.func149,Tryz.ntmps149;go_wp2_with (at_builtin;refine bT _ rfl _ _ 47 rfl o 46 w (.agg #[.int .i64 0,.int .i64 0,.int .i64 0,.int .i64 0]) 4 32 Tryz.underlying47 x y z A rfl (by decide) _ _ _ rfl (gu (gu (qb L) _) _) ⟨b.heap.size+1,0,none⟩ 1 1 (vt ⟨a,j,c-a,d⟩) rfl rfl ?d1 ?d2 ?d3 ?d4 ?d5 ?_)
   case d1=>exact hl (qt _ _ _ (by simp))
   case d2=>exact gU _
   case d3=>unfold maxLen;omega
   case d4=>omega
   case d5=>simp;omega
   intro e J m n _;have g:=qg (gw.snoc (l:=f) m);have r:=qg (zB (zB (au b _ _) (au _ _ _)) n);clear m n;go_wp2;go_ret;refine⟨e,rfl,qb g,fun d=>by simp at d,qb r,fun l p s t u C D=>lT (qb g) (by have:=cZ.2 (qb K);simp;omega) (zl (qb r) u D) C⟩
 ·rw[ah B,aW];have M:=qg k;have g:=qg h;clear k h;go_enter Tryz.func149,Tryz.ntmps149;go_wp2;go_ret;exact⟨_,rfl,gu (qb g) _,qb M,au _ _ _,by intros;assumption⟩
variable{S U:Nat→Prop}{c1 xs:List Value}{a1:TypeId}{z:Value}{ob t:Nat}{R:List Int}{B' a7 q:Int}
def cE:=@Go.run_append_own_at
structure gp (S:Nat->Prop)(w w':World):Prop where
 os:w'.os=w.os
 tape:w'.tape=w.tape
 output:w'.output=w.output
 size:w.heap.size<=w'.heap.size
 block:∀ k,k<w.heap.size->¬S k->w'.heap[k]?=w.heap[k]?
def gp.refl (b:Nat->Prop)(a:World):gp b a a:=⟨rfl,rfl,rfl,zzl _,fun _ _ _=>rfl⟩
def gp.trans {c:Nat->Prop}{d e f:World}(a:gp c d e)(b:gp c e f):gp c d f:=
 ⟨b.os.trans a.os,b.tape.trans a.tape,b.output.trans a.output,aO a.size b.size,fun g h i=>(b.block g (zzm h a.size) i).trans (a.block g h i)⟩
def gp.wide {T:Nat->Prop}(b:gp S w w2)(d:∀ a,a<w.heap.size->S a->T a):gp T w w2:=
 ⟨b.os,b.tape,b.output,b.size,fun a c e=>b.block a c (fun f=>e (d a c f))⟩
def gp.aD (a:Below w.heap.size w w2):gp S w w2:=⟨a.os,a.tape,a.output,a.size,fun b c _=>a.block b c⟩
def gp.tJ {c:Option Nat}(a:w.grownBy w2 c)(d:∀ b,c=some b->S b):gp S w w2:=
 ⟨a.os,a.tape,a.output,a.size,fun b e f=>a.block b e (fun g=>f (d b g.symm))⟩
def gp.below (a:gp S w w2)(e:n<=w.heap.size)(c:∀ b,S b->n<=b):Below n w w2:=
 ⟨a.os,a.tape,a.output,a.size,fun b f=>a.block b (by omega) (fun d=>by have:=c b d;omega)⟩
def gp.setCell {S:Nat->Prop}{b c:World}(a:gp S b c){p:Addr}(f:S p.block\/b.heap.size<=p.block)(g:Value):gp S b (c.setCell p g):=
 ⟨a.os,a.tape,a.output,by simpa[World.setCell] using a.size,fun h i d=>(eZ _ _ _ _ (fun j=>by subst j;rcases f with e | e;exact d e;omega)).trans (a.block h i d)⟩
def gp.alloc (a:gp S w w2)(b:Obj):gp S w (w2.alloc b):=
 ⟨a.os,a.tape,a.output,by have:=a.size;simp;omega,fun c d e=>(bH _ _ _ (by have:=a.size;omega)).trans (a.block c d e)⟩
def gp.drew (a:gp S w w2):gp S w w2.drew:=⟨a.os,a.tape,a.output,a.size,a.block⟩
def gp.drewN (a:gp S w w2)(b:Nat):gp S w (w2.drewN b):=⟨a.os,a.tape,a.output,a.size,a.block⟩
def gp.grown {d:Option Nat}(b:gp S w w2)(c:w2.grownBy m d)(h:∀ a,d=some a->S a\/w.heap.size<=a):gp S w m:=
 ⟨c.os.trans b.os,c.tape.trans b.tape,c.output.trans b.output,aO b.size c.size,fun a e f=>(c.block a (zzm e b.size) (fun i=>by rcases h a i.symm with g | g;exact f g;omega)).trans (b.block a e f)⟩
def gp.then (a:gp S w w2)(b:Below w2.heap.size w2 m):gp S w m:=a.trans (.aD b)
def gp.step (b:gp U w m)(a:gp S m w2)(g:∀ a,S a->U a\/w.heap.size<=a):gp U w w2:=
 ⟨a.os.trans b.os,a.tape.trans b.tape,a.output.trans b.output,aO b.size a.size,fun c d e=>(a.block c (zzm d b.size) (fun h=>by rcases g c h with f | f;exact e f;omega)).trans (b.block c d e)⟩
def gp.heap (b:gp S w w2)(a:w.heap[n]?=some o')(c:¬S n):w2.heap[n]?=some o':=(b.block n (qh a) c).trans a
def qp (a:w.heap[n]?=some (.cells f d I))(b:Value):(w.setCell ⟨n,i,none⟩ b).heap[n]?=some (.cells (f.setIfInBounds i b) d I):=by
 have c:=qh a;have e:w.heap[n]=.cells f d I:=(by simpa[dC c] using a);show (w.heap.modify n _)[n]?=_;rw[dC (by simpa using c),Array.getElem_modify_self,e];rfl
def qu {p:Addr}(a:w.heap[n]?=some o')(b:n≠p.block)(c:Value):(w.setCell p c).heap[n]?=some o':=(eZ _ _ _ _ b).trans a
def qx (a:w.heap[n]?=some o')(b:Obj):(w.alloc b).heap[n]?=some o':=(bH _ _ _ (qh a)).trans a
def qq (b:w.ownsRow n d i v j xs)(a:w.heap[g]?=some (.cells f a1 I))(c:a1≠d):v.ownBlock≠some g:=by
 rcases b.2 with ⟨rfl,_⟩ | ⟨h,k,l,rfl,_,e,_⟩
 ·simp[Value.ownBlock]
 ·intro d;simp[Value.ownBlock] at d;subst d;rw[e] at a;simp at a;exact c a.2.1.symm
def qE (b:w.ownsRow n d i v j xs){k:Nat}(a:v.ownBlock=some k):∃ c e,w.heap[k]?=some (.cells c d e):=by
 rcases b.2 with ⟨rfl,_⟩ | ⟨g,h,l,rfl,_,f,_⟩
 ·simp[Value.ownBlock] at a
 ·simp[Value.ownBlock] at a;subst a;exact⟨_,_,f⟩
def qS (a:w.ownsRow n d j v b xs)(c:w.ownsRow i a1 g z t c1)(e:d≠a1)(f:v.ownBlock=some ob)(h:z.ownBlock=some ob):False:=by
 obtain⟨l,m,k⟩:=qE a f;exact qq c k e h
def qi (a:w.ownsRow n d i v j xs)(c:gp S w w2)(e:∀ k,v.ownBlock=some k->¬S k):w2.ownsRow n d i v j xs:=by
 refine⟨a.1,?_⟩;rcases a.2 with f | ⟨b,g,h,rfl,l,m,o⟩
 ·exact .inl f
 ·exact .inr ⟨b,g,h,rfl,l,c.heap m (e b rfl),o⟩
def qr (a:w.ownsRow n d i v j xs):∃ b c,v=.slice b j c:=by
 rcases a.2 with ⟨rfl,rfl⟩ | ⟨e,f,g,rfl,_⟩
 ·exact⟨_,_,rfl⟩
 ·exact⟨_,_,rfl⟩
def qe (b:w.heap[n]?=some (.cells f d I))(a:Nat):w.cell? ⟨n,a,none⟩=f[a]?:=by rw[ea w n a f d I b]
def qj (a:w.heap[n]?=some (.cells f d (0,0)))(b:Nat):w.frozen? ⟨n,b,none⟩=false:=by simp[World.frozen?,a]
def Jr (c:gw w n v l)(a:w.heap[i]?=some (.cells f d I))(e:d≠46):v.ownBlock≠some i:=by
 rcases c.2 with ⟨rfl,_⟩ | ⟨h,j,k,rfl,_,g,_⟩
 ·simp[Value.ownBlock]
 ·intro b;simp[Value.ownBlock] at b;subst b;rw[g] at a;simp at a;exact e a.2.1.symm
def gw.but (a:gw w n v l)(c:gp S w w2)(d:∀ k,v.ownBlock=some k->¬S k):gw w2 n v l:=by
 refine⟨a.1,?_⟩;rcases a.2 with e | ⟨b,f,g,rfl,h,i,j⟩
 ·exact .inl e
 ·exact .inr ⟨b,f,g,rfl,h,c.heap i (d b rfl),j⟩
def qi4 (b:gw w n (.slice (some ⟨i,0,none⟩) j g) (l++B)):gw w n (.slice (some ⟨i,0,none⟩) l.length g) l:=by
 rcases b.2 with ⟨a,_⟩ | ⟨o,p,c,a,d,e,f,h,k,m⟩
 ·cases a
 ·simp only[ai,ac,bz,bB] at a;obtain⟨rfl,a,rfl⟩:=a;refine⟨qM l,.inr ⟨i,g,c,rfl,d,e,by simp at f;omega,h,k,?_⟩⟩;have:=congrArg (List.take (l.length*4)) m;rw[dz,zp,bi (by rw[qM];omega),bK (by simp;omega)] at this;rw[this,aL (by rw[qM];omega)]
def xT (c:w.heap[n]?=some (.cells xs.toArray d I)):∀ a b,xs[a]?=some b->w.cell? ((⟨n,0,none⟩:Addr).add a)=some b:=by
 intro a b e;have f:(⟨n,0,none⟩:Addr).add a=⟨n,a,none⟩:=(by unfold Addr.add;split<;>simp_all);rw[f,ea w n a _ _ _ c];simpa using e
structure gt where
 kind:Int
 iV:Int
 x:Int
 y:Int
 w:Int
 h:Int
 px:List Int
 mark:Int
def gz (a b c:Int):Bool:=decide (b<=a)&&decide (a<=c)
def zt (a:gt):Bool:=
 if a.kind=1\/a.kind=4 then gz a.x (-100) 100&&gz a.y (-100) 100
 else if a.kind=3 then gz a.w 1 8&&gz a.h 1 8&&decide ((a.px.length:Int)=a.w*a.h)&&a.px.all (fun b=>gz b 0 4294967295)
 else if a.kind=7 then gz a.w 1 20&&gz a.x (-4) 4&&gz a.y (-4) 4
 else true
def qP (b:List Bool)(a:gt):Option (List Bool):=
 if a.kind=8 then some b
 else if (gz a.kind 1 7&&gz a.iV 0 ((b.length:Int)-1)&&(b.getD a.iV.toNat false != decide (a.kind=1))&&zt a)=true then some (b.set a.iV.toNat (decide (a.kind≠2))) else none
def gS (i:Nat->Prop)(d:World)(j:Value)(a:List Int):Prop:=
 ∃ e c,j=.slice e a.length c/\a.length<=c/\c<=maxLen/\(a≠[]->∃ b f,e=some ⟨b,f,none⟩/\i b/\b<d.heap.size/\∀ g h,a[g]?=some h->d.cell? ⟨b,f+g,none⟩=some (.int .i64 h))
def gS.but (f:gS U w v R)(c:gp S w w2)(g:∀ k,U k->¬S k):gS U w2 v R:=by
 obtain⟨h,i,a,j,l,m⟩:=f;refine⟨h,i,a,j,l,fun n=>?_⟩;obtain⟨b,o,a,d,e,p⟩:=m n;exact⟨b,o,a,d,zzm e c.size,fun q r s=>(aH (c.block b e (g b d))).trans (p q r s)⟩
def gS.below (a:gS U w v R)(b:Below w.heap.size w w2):gS U w2 v R:=a.but (S:=fun _=>False) (.aD b) (fun _ _ a=>a)
structure gv where
 cl:Int
 num:Int
 x:Int
 y:Int
 w:Int
 h:Int
 px:List Int
 dx:Int
 dy:Int
 left:Int
structure xq (s:gv):Prop where
 w0:0<=s.w
 w8:s.w<=8
 h0:0<=s.h
 h8:s.h<=8
 px:(s.px.length:Int)=s.w*s.h
 xb:-1000000000000000<=s.x/\s.x<=1000000000000000
 yb:-1000000000000000<=s.y/\s.y<=1000000000000000
def xE (a:gv)(b c:Int):Bool:=decide (0<=b-a.x)&&decide (0<=c-a.y)&&decide (b-a.x<a.w)&&decide (c-a.y<a.h)
def zC (a:gv)(b c:Int):Int:=if xE a b c=true then a.px.getD ((c-a.y)*a.w+(b-a.x)).toNat 0 else 0
def sS {b:Int}(e:0<=q)(f:q<b)(g:0<=B')(h:B'<a7)(i:b<=8)(j:a7<=8):0<=q*a7+B'/\q*a7+B'<a7*b/\0<=q*a7/\q*a7<=56:=by
 have c:b=1\/b=2\/b=3\/b=4\/b=5\/b=6\/b=7\/b=8:=(by omega);have d:q=0\/q=1\/q=2\/q=3\/q=4\/q=5\/q=6\/q=7:=(by omega);rcases c with a | a | a | a | a | a | a | a<;>subst a<;>rcases d with a | a | a | a | a | a | a | a<;>subst a<;>omega
def zzd (w:World)(b:Nat):List Nat->List Value->Prop
 | i::l,c::k=>w.cell? ⟨b,i,none⟩=some c/\zzd w b l k
 | _,_=>True
def zze (w:World)(b:Nat)(cs:Array Value)(t:TypeId)(fz:Nat×Nat)(h:w.heap[b]?=some (.cells cs t fz)):∀ (l:List Nat)(k:List Value),(∀ (j i:Nat),l[j]?=some i->∀ c:Value,k[j]?=some c->cs[i]?=some c)->zzd w b l k
 | [],_,_=>by unfold zzd;trivial
 | _::_,[],_=>by unfold zzd;trivial
 | i::l,c::k,g=>⟨by rw[qe h i];exact g 0 i rfl c rfl,zze w b cs t fz h l k (fun j i hj c hc=>g (j+1) i (by simpa using hj) c (by simpa using hc))⟩
def zzk {w:World}{b:Nat}{cs:Array Value}{t:TypeId}{fz:Nat×Nat}(h:w.heap[b]?=some (.cells cs t fz))(n:Nat):zzd w b ([0,1,2,3,4,5,6,7,8,9,10,11,12,13,14,15,16,17,18,19,20,21,22,23,24,25,26,27,28].drop n) (cs.toList.drop n):=by
 refine zze w b cs t fz h _ _ (fun j i hj c hc=>?_);have h2:[0,1,2,3,4,5,6,7,8,9,10,11,12,13,14,15,16,17,18,19,20,21,22,23,24,25,26,27,28]=List.range 29:=(by decide);rw[h2,List.getElem?_drop] at hj;have h3:=List.getElem?_eq_some_iff.1 hj;have e:n+j=i:=(by simpa using h3.2);rw[List.getElem?_drop,e] at hc;simpa using hc
def zzc {w:World}{b:Nat}{cs:Array Value}{t:TypeId}{fz:Nat×Nat}(h:w.heap[b]?=some (.cells cs t fz)):zzd w b [0,1,2,3,4,5,6,7,8,9,10,11,12,13,14,15,16,17,18,19,20,21,22,23,24,25,26,27,28] cs.toList:=zzk h 0
structure he where
 l:Value
 a:Value
 b:Value
 c:Value
 n:Int
def xw (a:he):List Value:=[a.l,a.a,a.b,a.c,.int .i64 a.n]
def zQ (a:List he):List Value:=a.flatMap xw
def YB (a:List he)(b:he):zQ (a++[b])=zQ a++xw b:=by simp[zQ]
def XP:∀ (a:List he)(b:Nat)(c:he),a[b]?=some c-> (zQ a)[b*5]?=some c.l/\(zQ a)[b*5+1]?=some c.a/\(zQ a)[b*5+2]?=some c.b/\(zQ a)[b*5+3]?=some c.c/\(zQ a)[b*5+4]?=some (.int .i64 c.n)
 | [],b,c,e=>by simp at e
 | d::a,0,c,e=>by
  simp at e;subst e;show (xw d++zQ a)[0]?=_/\(xw d++zQ a)[1]?=_/\(xw d++zQ a)[2]?=_/\(xw d++zQ a)[3]?=_/\(xw d++zQ a)[4]?=_;simp[xw]
 | d::a,b+1,c,e=>by
  have i:a[b]?=some c:=(by simpa using e);have f:=XP a b c i;have g:∀ h,(zQ (d::a))[(b+1)*5+h]?=(zQ a)[b*5+h]?:=by
   intro h;show (xw d++zQ a)[_]?=_;rw[aq (by simp[xw];omega)];congr 1;simp[xw];omega
  refine⟨by have:=g 0;simp only[bL] at this;rw[this];exact f.1,by rw[g 1];exact f.2.1,by rw[g 2];exact f.2.2.1,by rw[g 3];exact f.2.2.2.1,by rw[g 4];exact f.2.2.2.2⟩
def jN (b:World)(c:Nat)(d:Value)(e:Int):Prop:=∃ a,gw b c d a/\a.length<=30000000/\∀ f∈a,f=mark e
structure xx (base:Nat)(w:World)(e:he):Prop where
 num:0<=e.n/\e.n<=4000000
 l:jN w base e.l e.n
 a:jN w base e.a e.n
 b:jN w base e.b e.n
 c:jN w base e.c e.n
def jN.but {S:Nat->Prop}{b c:World}{d:Nat}{a:Value}{e:Int}(f:jN b d a e)(g:gp S b c)(h:∀ k,a.ownBlock=some k->¬S k):jN c d a e:=by
 obtain⟨i,j,l⟩:=f;exact⟨i,j.but g h,l⟩
def jN.uf (g:jN w n v q)(h:gp S w w2)(i:∀ a,S a->a<w.heap.size->∃ d b e,w.heap[a]?=some (.cells d b e)/\b≠46):jN w2 n v q:=by
 obtain⟨j,c,k⟩:=g;refine⟨j,c.but h fun a f l=>?_,k⟩;obtain⟨d,b,e,m,o⟩:=i a l (ab c a f).2;exact Jr c m o f
def xx.uf {S:Nat->Prop}{b e:World}{f:Nat}{g:he}(a:xx f b g)(c:gp S b e)(d:∀ k,S k->k<b.heap.size->∃ cs t fz,b.heap[k]?=some (.cells cs t fz)/\t≠46):xx f e g:=
 ⟨a.num,a.l.uf c d,a.a.uf c d,a.b.uf c d,a.c.uf c d⟩
def xx.but {S:Nat->Prop}{e h:World}{f:Nat}{g:he}(b:xx f e g)(c:gp S e h)(d:∀ v a,jN e f v g.n->v.ownBlock=some a->¬S a):xx f h g:=
 ⟨b.num,b.l.but c (fun a=>d _ a b.l),b.a.but c (fun a=>d _ a b.a),b.b.but c (fun a=>d _ a b.b),b.c.but c (fun a=>d _ a b.c)⟩
def jN.mono {a:World}{b c:Nat}{d:Value}{e:Int}(f:jN a b d e)(g:c<=b):jN a c d e:=by
 obtain⟨h,i,j⟩:=f;exact⟨h,i.mono g,j⟩
def xx.mono {c:World}{d e:Nat}{f:he}(a:xx d c f)(b:e<=d):xx e c f:=⟨a.num,a.l.mono b,a.a.mono b,a.b.mono b,a.c.mono b⟩
def jN.lt {b:World}{c:Nat}{d:Value}{e:Int}(f:jN b c d e){a:Nat}(g:d.ownBlock=some a):c<=a/\a<b.heap.size:=by
 obtain⟨i,h,_⟩:=f;exact ab h a g
def xx.below {b:he}(a:xx n w b)(c:Below w.heap.size w w2):xx n w2 b:=a.uf (S:=fun _=>False) (.aD c) (fun _ a=>a.elim)
abbrev hu (b:World)(c:Nat)(d:Value)(a:List he):Prop:=b.ownsRow c 82 5 d a.length (zQ a)
def hu.but {a:List he}(b:hu w n v a)(d:gp S w w2)(e:∀ k,v.ownBlock=some k->¬S k):hu w2 n v a:=by
 refine⟨b.1,?_⟩;rcases b.2 with f | ⟨c,g,h,rfl,i,j,l⟩
 ·exact .inl f
 ·exact .inr ⟨c,g,h,rfl,i,d.heap j (e c rfl),l⟩
def hu.kind {b:List he}(c:hu w n v b)(a:v.ownBlock=some i):∃ d e,w.heap[i]?=some (.cells d 82 e):=by
 rcases c.2 with ⟨rfl,_⟩ | ⟨g,h,j,rfl,_,f,_⟩
 ·simp[Value.ownBlock] at a
 ·simp[Value.ownBlock] at a;subst a;exact⟨_,_,f⟩
def Qi (a:Int×Int):List Value:=[.int .i64 a.1,.int .i64 a.2]
def jk (a:List (Int×Int)):List Value:=a.flatMap Qi
def Qh (a b:List (Int×Int)):jk (a++b)=jk a++jk b:=by simp[jk]
def kU:∀ (a:List (Int×Int))(b:Nat)(e:Int×Int),a[b]?=some e->(jk a)[b*2]?=some (.int .i64 e.1)/\(jk a)[b*2+1]?=some (.int .i64 e.2)
 | [],b,f,c=>by simp at c
 | d::a,0,f,c=>by
  simp at c;subst c;show (Qi d++jk a)[0]?=_/\(Qi d++jk a)[1]?=_;simp[Qi]
 | d::a,b+1,f,c=>by
  have h:=kU a b f (by simpa using c);have i:∀ g,(jk (d::a))[(b+1)*2+g]?=(jk a)[b*2+g]?:=by
   intro g;show (Qi d++jk a)[_]?=_;rw[aq (by simp[Qi];omega)];congr 1;simp[Qi];omega
  exact⟨by have:=i 0;simp only[bL] at this;rw[this];exact h.1,by rw[i 1];exact h.2⟩
abbrev jM (b:World)(c:Nat)(d:Value)(a:List (Int×Int)):Prop:=b.ownsRow c 153 2 d a.length (jk a)
variable{vf:Value}{F:Array Oper}{J:List Oper}{p:Oper}{s:Act}{D:Exit→Act→World→Prop}
def rep (a:Nat)(m:List Value):List Value:=(List.replicate a m).flatten
def Z2 (a:Nat)(m:List Value):(rep a m).length=a*m.length:=by
 unfold rep;rw[List.length_flatten,fP,List.sum_replicate_nat]
def Z3 (a b:Nat)(m:List Value):rep (a+b) m=rep a m++rep b m:=by
 unfold rep;rw[<-db,dK]
def za4 {m:List Value}(c:∀ b∈m,b.oneCell'=true)(d:Nat):∀ b∈rep d m,b.oneCell'=true:=by
 intro b a;unfold rep at a;rw[List.mem_flatten] at a;obtain⟨g,f,a⟩:=a;rw[(fO.1 f).2] at a;exact c b a
def qg0 (d ety:TypeId)(sz b:Nat):Prop:=∃ (a:TypeInfo)(c:Value),Tryz.prog.underlying d=some (.slice ety)/\Tryz.prog.info? ety=some a/\a.zero=some c/\a.size=sz/\a.bytes=b/\c.cells.size=sz/\0<sz/\b<=1000
def Jo {w:World}{base m sz:Nat}{e:TypeId}(a:w.ownsRow base e sz (.slice (some ⟨n,0,none⟩) i j) i (xs++c1))(b:xs.length=m*sz)(c:m<=i):w.ownsRow base e sz (.slice (some ⟨n,0,none⟩) m j) m xs:=by
 rcases a.2 with ⟨e,_⟩ | ⟨o,p,d,e,f,g,q,h,k,l⟩
 ·cases e
 ·simp only[ai,ac,bz,bB,cj] at e;obtain⟨rfl,rfl⟩:=e;refine⟨b,.inr ⟨n,j,d,rfl,f,g,by omega,h,k,?_⟩⟩;have:=congrArg (List.take (m*sz)) l;rw[dz,bi (by omega),bK (dF _ c)] at this;rw[this,aL (by omega)]
def Zh {ety:TypeId}{sz:Nat}(N:qg0 d ety sz n)(w:World)(r:TypeId)(k:Nat)(i:Value)(a m:Nat)(j b:List Value)(f:w.ownsRow k ety sz i a j)(l:Nat)(O:w.heap[l]?=some (.cells b.toArray ety))(s:b.length=m*sz)(E:∀ u∈b,u.oneCell'=true)(Q:0<m)(R:a+m<=1100000000)(T:k<=w.heap.size):∃ g o w',(Builtin.append_ #[d,d] r #[i,.slice (some ⟨l,0,none⟩) m m]).run Tryz.prog w=.ok (.slice (some ⟨g,0,none⟩) (a+m) o) w'/\ w'.ownsRow k ety sz (.slice (some ⟨g,0,none⟩) (a+m) o) (a+m) (j++b)/\w'.ownsRow k ety sz i a j/\((i.ownBlock=some g/\(∃ a,i=.slice (some ⟨g,0,none⟩) a o)/\w.grownBy w' (some g))\/(g=w.heap.size/\w.grownBy w' none))/\g<w'.heap.size:=by
 obtain⟨t,x,y,z,F,p,G,U,V,W⟩:=N;have A:=xT O;have H:(a+m)*n<=140737488355328:=aO (cK R W) (by omega);obtain⟨g,o,w',h,I,J,X,B⟩:=run_append_lies (P:=Tryz.prog) w d r k ety t x sz n y z F p G U V i a j f ⟨l,0,none⟩ m m b s A E Q (by unfold maxLen;omega) H T _ rfl;refine⟨g,o,w',h,I,?_⟩;rcases f.2 with ⟨rfl,K⟩ | ⟨q,c,Y,rfl,a2,C,a3,a4,Z,a5⟩
 ·have a0:=bQ.1 (by rw[f.1,K,ft]);subst K;subst a0;refine⟨aQ _ _ _ _,.inr ⟨?_,J⟩,B⟩;rcases X with c | c
  ·cases c
  ·exact c
 ·by_cases L:a+m<=c
  ·have D:=run_append_room (P:=Tryz.prog) w d r ety t y z q a c Y C ⟨l,0,none⟩ m m b (by rw[p];exact s) A E L (by rw[p,s,Z,<-dO];exact dF _ L);rw[D] at h;simp only[fy,ai,ac,bz,bB,cj] at h;obtain⟨⟨rfl,rfl⟩,_⟩:=h;exact⟨Jo I f.1 (by omega),.inl ⟨rfl,⟨_,rfl⟩,J⟩,B⟩
  ·have a1:=dq f (g:=q) rfl;have D:=run_append_grow (P:=Tryz.prog) w d r ety t x y z F ⟨q,0,none⟩ a c j (by rw[p];exact f.1) a1 ⟨l,0,none⟩ m m b (by rw[p];exact s) A (by omega) (by omega) (growslice_fits (by omega) (by rw[G];exact H));rw[D] at h;simp only[fy,ai,ac,bz,bB,cj] at h;obtain⟨⟨rfl,rfl⟩,rfl⟩:=h;have M:w.grownBy (w.drew.alloc (.cells (j.toArray++b.toArray++Builtin.zeroCells x.cells (grownCap w (a+m) c ety-(a+m))) ety)) none:=⟨rfl,rfl,rfl,by simp,fun q C _=>bH w.drew _ q C⟩;exact⟨ck f M (.inr (by simp[Value.ownBlock])),.inr ⟨rfl,M⟩,B⟩
structure ZV (ety:TypeId)(sz:Nat)(d:Value)(w:World)(B:Nat)(u:Value)(c:Nat)(m:List Value):Prop where
 own:w.ownsRow B ety sz u c (rep c m)
 shape:∀ g,d.ownBlock=some g->u.ownBlock=some g->∃ n cap,d=.slice (some ⟨g,0,none⟩) n cap/\u=.slice (some ⟨g,0,none⟩) c cap
def ZV.alloc {ety:TypeId}{sz:Nat}{a:Value}{w:World}{b:Nat}{c:Value}{d:Nat}{m:List Value}(f:ZV ety sz a w b c d m)(g:Obj):ZV ety sz a (w.alloc g) b c d m:=⟨aR f.own g,f.shape⟩
def ZV.set {ety:TypeId}{sz:Nat}{w:World}{m:List Value}(a:ZV ety sz z w n vf i m)(b:w.heap[j]?=some (.cells f d I))(c:d≠ety)(g:Nat)(v:Value):ZV ety sz z (w.setCell ⟨j,g,none⟩ v) n vf i m:=
 ⟨aw a.own (qq a.own b c) v,a.shape⟩
def jE {ety:TypeId}{sz:Nat}(H:qg0 d ety sz n){w:World}(I:p.guard=none)(y z:Operand)(K:p.op=.call {callee:=.builtin .append,args:=#[y,z],argTypes:=#[d,d]}) (i:Nat) (f:Value) (b a:Nat) (m:List Value) (A:m.length=sz) (L:∀ j∈m,j.oneCell'=true) (k:s.eval y=f) (B:w.ownsRow i ety sz f b (rep b m)) (t:Nat) (M:s.eval z=.slice (some ⟨t,0,none⟩) a a)(N:w.heap[t]?=some (.cells (rep a m).toArray ety)) (O:0<a) (P:b+a<=1100000000) (Q:i<=w.heap.size)(R:∀ g l w',ZV ety sz f w' i (.slice (some ⟨g,0,none⟩) (b+a) l) (b+a) m->(f.ownBlock=some g\/g=w.heap.size)->w'.ownsRow i ety sz f b (rep b m)->(∀ j h,ZV ety sz f w i j h m->h<=b+a->ZV ety sz f w' i j h m)->w.grownBy w' f.ownBlock->wpList Tryz.prog F D J (s.put p.dst (.slice (some ⟨g,0,none⟩) (b+a) l)) w'):wpList Tryz.prog F D (p::J) s w:=by
 obtain⟨g,l,w',T,q,U,r,a0⟩:=Zh H w p.type i f b a (rep b m) (rep a m) B t N (by rw[Z2,A]) (za4 L a) O P Q;refine eA I fun a1 V=>?_;unfold Oper.wp execOp;simp only[K,resolve,invoke,builtin,ee,fs,cX,List.map_toArray,aY,dr,k,M,T];refine V _ _ ?_;rw[<-Z3] at q;refine R g l w' ⟨q,?_⟩ (r.imp (fun u=>u.1) (fun u=>u.1)) U ?_ ?_
 ·intro a2 o C;simp only[Value.ownBlock,ac] at C;subst C;rcases r with ⟨_,⟨E,e⟩,_⟩ | ⟨e,_⟩
  ·exact⟨E,l,e,rfl⟩
  ·have:=(ab B _ o).2;omega
 ·intro j h k W;refine⟨?_,k.shape⟩;rcases r with ⟨o,⟨E,e⟩,c⟩ | ⟨_,c⟩
  ·by_cases G:j.ownBlock=some g
   ·obtain⟨a3,a4,x,rfl⟩:=k.shape g o G;rw[e] at x;simp only[ai,cj] at x;obtain⟨_,rfl⟩:=x;have X:rep (b+a) m=rep h m++rep (b+a-h) m:=(by rw[<-Z3,show h+(b+a-h)=b+a by omega]);rw[X] at q;exact Jo q (by rw[Z2,A]) W
   ·exact ck k.own c (.inr G)
  ·exact ck k.own c (by cases a5:j.ownBlock<;>simp)
 ·rcases r with ⟨o,_,c⟩ | ⟨_,c⟩
  ·rw[o];exact c
  ·exact⟨c.os,c.tape,c.output,c.size,fun Y Z _=>c.block Y Z (by simp)⟩
def zM (ety:TypeId)(sz:Nat)(w:World)(base:Nat)(v:Value)(m:List Value):Prop:=∃ a,w.ownsRow base ety sz v a (rep a m)/\a<=1000000003
structure ym (ety:TypeId)(sz:Nat)(mk:Int->List Value)(base:Nat)(w:World)(e:he):Prop where
 num:0<=e.n/\e.n<=4000000
 l:zM ety sz w base e.l (mk e.n)
 a:zM ety sz w base e.a (mk e.n)
 b:zM ety sz w base e.b (mk e.n)
 c:zM ety sz w base e.c (mk e.n)
section
variable {ety:TypeId}{sz:Nat}{mk:Int->List Value}{base base':Nat}{w w':World}{e:he}{v:Value}{m:List Value}{S:Nat->Prop}
def zM.but (a:zM ety sz w base v m)(b:gp S w w')(c:∀ k,v.ownBlock=some k->¬S k):zM ety sz w' base v m:=by
 obtain⟨d,f,g⟩:=a;exact⟨d,qi f b c,g⟩
def zM.uf (h:zM ety sz w base v m)(i:gp S w w')(j:∀ a,S a->a<w.heap.size->∃ d b f,w.heap[a]?=some (.cells d b f)/\b≠ety):zM ety sz w' base v m:=by
 obtain⟨k,c,l⟩:=h;refine⟨k,qi c i fun a g n=>?_,l⟩;obtain⟨d,b,f,o,p⟩:=j a n (ab c a g).2;exact qq c o p g
def he.nS (e:he)(a:Nat):Prop:=e.l.ownBlock=some a\/e.a.ownBlock=some a\/e.b.ownBlock=some a\/e.c.ownBlock=some a
def ym.but (c:ym ety sz mk base w e)(d:gp S w w')(f:∀ a,e.nS a->¬S a):ym ety sz mk base w' e:=
 ⟨c.num,c.l.but d (fun a b=>f a (.inl b)),c.a.but d (fun a b=>f a (.inr (.inl b))),c.b.but d (fun a b=>f a (.inr (.inr (.inl b)))),c.c.but d (fun a b=>f a (.inr (.inr (.inr b))))⟩
def ym.uf (a:ym ety sz mk base w e)(b:gp S w w')(c:∀ k,S k->k<w.heap.size->∃ cs t fz,w.heap[k]?=some (.cells cs t fz)/\t≠ety):ym ety sz mk base w' e:=
 ⟨a.num,a.l.uf b c,a.a.uf b c,a.b.uf b c,a.c.uf b c⟩
def ym.lt (c:ym ety sz mk base w e){b:Nat}(f:e.nS b):b<w.heap.size:=by
 have d:∀ {v:Value},zM ety sz w base v (mk e.n)->v.ownBlock=some b->b<w.heap.size:=fun g h=>by
  obtain⟨j,i,-⟩:=g;exact (ab i b h).2
 rcases f with a | a | a | a
 ·exact d c.l a
 ·exact d c.a a
 ·exact d c.b a
 ·exact d c.c a
def zM.slice (b:zM ety sz w base v m):∃ c d a,v=.slice c d a:=by
 obtain⟨a,f,_⟩:=b;obtain⟨g,h,e⟩:=qr f;exact⟨_,_,_,e⟩
end
abbrev vI (b:TypeId)(w:World)(base:Nat)(v:Value)(a:List he):Prop:=w.ownsRow base b 5 v a.length (zQ a)
end Go.Proofs.YtbnbkjbfpamijaaGreat
