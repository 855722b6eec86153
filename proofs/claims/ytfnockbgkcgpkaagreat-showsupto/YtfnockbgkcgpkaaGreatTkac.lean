import Derived.Test.YtfnockbgkcgpkaaGreatTkab
import Derived.Maps.AppendAt
import Derived.OneCell
set_option linter.all false
set_option maxRecDepth 100000
set_option maxHeartbeats 16000000
namespace Go.Proofs.YtfnockbgkcgpkaaGreat
open Go.RowKit Go.Proofs.Panes
structure But (S:Nat->Prop)(w w':World):Prop where
 os:w'.os=w.os
 tape:w'.tape=w.tape
 output:w'.output=w.output
 size:w.heap.size<=w'.heap.size
 block:∀ k,k<w.heap.size->¬S k->w'.heap[k]?=w.heap[k]?
theorem But.refl (S:Nat->Prop)(w:World):But S w w:=⟨rfl,rfl,rfl,zzl _,fun _ _ _=>rfl⟩
theorem But.trans {S:Nat->Prop}{a b c:World}(h:But S a b)(k:But S b c):But S a c:=
 ⟨k.os.trans h.os,k.tape.trans h.tape,k.output.trans h.output,Nat.le_trans h.size k.size,fun i hi hs=>(k.block i (zzm hi h.size) hs).trans (h.block i hi hs)⟩
theorem But.wide {S T:Nat->Prop}{w w':World}(h:But S w w')(hT:∀ k,k<w.heap.size->S k->T k):But T w w':=
 ⟨h.os,h.tape,h.output,h.size,fun k hk ht=>h.block k hk (fun hs=>ht (hT k hk hs))⟩
theorem But.of_below {S:Nat->Prop}{w w':World}(h:Below w.heap.size w w'):But S w w':=⟨h.os,h.tape,h.output,h.size,fun k hk _=>h.block k hk⟩
theorem But.of_grown {S:Nat->Prop}{w w':World}{row:Option Nat}(h:w.grownBy w' row)(hr:∀ k,row=some k->S k):But S w w':=
 ⟨h.os,h.tape,h.output,h.size,fun k hk hs=>h.block k hk (fun e=>hs (hr k e.symm))⟩
theorem But.below {S:Nat->Prop}{w w':World}{B:Nat}(h:But S w w')(hB:B<=w.heap.size)(hS:∀ k,S k->B<=k):Below B w w':=
 ⟨h.os,h.tape,h.output,h.size,fun k hk=>h.block k (by omega) (fun hs=>by have:=hS k hs;omega)⟩
theorem But.setCell {S:Nat->Prop}{a w:World}(h:But S a w){p:Addr}(hp:S p.block\/a.heap.size<=p.block)(u:Value):But S a (w.setCell p u):=
 ⟨h.os,h.tape,h.output,by simpa[World.setCell] using h.size,fun k hk hs=>(Below.heap_setCell _ _ _ _ (fun e=>by subst e;rcases hp with c | c;exact hs c;omega)).trans (h.block k hk hs)⟩
theorem But.alloc {S:Nat->Prop}{a w:World}(h:But S a w)(o:Obj):But S a (w.alloc o):=
 ⟨h.os,h.tape,h.output,by have:=h.size;simp;omega,fun k hk hs=>(Below.heap_alloc _ _ _ (by have:=h.size;omega)).trans (h.block k hk hs)⟩
theorem But.drew {S:Nat->Prop}{a w:World}(h:But S a w):But S a w.drew:=⟨h.os,h.tape,h.output,h.size,h.block⟩
theorem But.drewN {S:Nat->Prop}{a w:World}(h:But S a w)(n:Nat):But S a (w.drewN n):=⟨h.os,h.tape,h.output,h.size,h.block⟩
theorem But.grown {S:Nat->Prop}{a w w':World}{row:Option Nat}(h:But S a w)(hg:w.grownBy w' row)(hr:∀ k,row=some k->S k\/a.heap.size<=k):But S a w':=
 ⟨hg.os.trans h.os,hg.tape.trans h.tape,hg.output.trans h.output,Nat.le_trans h.size hg.size,fun k hk hs=>(hg.block k (zzm hk h.size) (fun e=>by rcases hr k e.symm with c | c;exact hs c;omega)).trans (h.block k hk hs)⟩
theorem But.then {S:Nat->Prop}{a w w':World}(h:But S a w)(hb:Below w.heap.size w w'):But S a w':=h.trans (.of_below hb)
theorem But.step {S T:Nat->Prop}{w w1 w2:World}(h:But T w w1)(k:But S w1 w2)(hS:∀ k,S k->T k\/w.heap.size<=k):But T w w2:=
 ⟨k.os.trans h.os,k.tape.trans h.tape,k.output.trans h.output,Nat.le_trans h.size k.size,fun i hi hs=>(k.block i (zzm hi h.size) (fun c=>by rcases hS i c with d | d;exact hs d;omega)).trans (h.block i hi hs)⟩
theorem But.heap {S:Nat->Prop}{w w':World}(h:But S w w'){k:Nat}{o:Obj}(hk:w.heap[k]?=some o)(hs:¬S k):w'.heap[k]?=some o:=(h.block k (qh hk) hs).trans hk
theorem qp {w:World}{b i:Nat}{cs:Array Value}{t:TypeId}{fz:Nat×Nat}(h:w.heap[b]?=some (.cells cs t fz))(u:Value):(w.setCell ⟨b,i,none⟩ u).heap[b]?=some (.cells (cs.setIfInBounds i u) t fz):=by
 have hlt:=qh h;have h':w.heap[b]=.cells cs t fz:=(by simpa[Array.getElem?_eq_getElem hlt] using h);show (w.heap.modify b _)[b]?=_;rw[Array.getElem?_eq_getElem (by simpa using hlt),Array.getElem_modify_self,h']
 rfl
theorem qu {w:World}{b:Nat}{p:Addr}{o:Obj}(h:w.heap[b]?=some o)(hne:b≠p.block)(u:Value):(w.setCell p u).heap[b]?=some o:=(Below.heap_setCell _ _ _ _ hne).trans h
theorem qx {w:World}{b:Nat}{o:Obj}(h:w.heap[b]?=some o)(x:Obj):(w.alloc x).heap[b]?=some o:=(Below.heap_alloc _ _ _ (qh h)).trans h
theorem qq {w:World}{base:Nat}{e:TypeId}{size:Nat}{v:Value}{n:Nat}{xs:List Value}(h:w.ownsRow base e size v n xs){g:Nat}{cs:Array Value}{t:TypeId}{fz:Nat×Nat}(hg:w.heap[g]?=some (.cells cs t fz))(ht:t≠e):v.ownBlock≠some g:=by
 rcases h.2 with ⟨rfl,_⟩ | ⟨k,cap,cur,rfl,_,hk,_⟩
 ·simp[Value.ownBlock]
 ·intro e;simp[Value.ownBlock] at e;subst e;rw[hk] at hg;simp at hg;exact ht hg.2.1.symm
theorem qE {w:World}{base:Nat}{e:TypeId}{size:Nat}{v:Value}{n:Nat}{xs:List Value}(h:w.ownsRow base e size v n xs){k:Nat}(hk:v.ownBlock=some k):∃ cs fz,w.heap[k]?=some (.cells cs e fz):=by
 rcases h.2 with ⟨rfl,_⟩ | ⟨g,cap,cur,rfl,_,hgg,_⟩
 ·simp[Value.ownBlock] at hk
 ·simp[Value.ownBlock] at hk;subst hk;exact⟨_,_,hgg⟩
theorem qS {w:World}{base base':Nat}{e e':TypeId}{size size':Nat}{v v':Value}{n n':Nat}{xs xs':List Value}(h:w.ownsRow base e size v n xs)(h':w.ownsRow base' e' size' v' n' xs')(hne:e≠e'){k:Nat}(hk:v.ownBlock=some k)(hk':v'.ownBlock=some k):False:=by
 obtain⟨cs,fz,hg⟩:=qE h hk;exact qq h' hg hne hk'
theorem qi {S:Nat->Prop}{w w':World}{base:Nat}{e:TypeId}{size:Nat}{v:Value}{n:Nat}{xs:List Value}(h:w.ownsRow base e size v n xs)(hb:But S w w')(hs:∀ k,v.ownBlock=some k->¬S k):w'.ownsRow base e size v n xs:=by
 refine⟨h.1,?_⟩
 rcases h.2 with hn | ⟨g,cap,cur,rfl,hg,hgg,rest⟩
 ·exact .inl hn
 ·exact .inr ⟨g,cap,cur,rfl,hg,hb.heap hgg (hs g rfl),rest⟩
theorem qr {w:World}{base:Nat}{e:TypeId}{size:Nat}{v:Value}{n:Nat}{xs:List Value}(h:w.ownsRow base e size v n xs):∃ ro rc,v=.slice ro n rc:=by
 rcases h.2 with ⟨rfl,rfl⟩ | ⟨g,cap,cur,rfl,_⟩
 ·exact⟨_,_,rfl⟩
 ·exact⟨_,_,rfl⟩
theorem qe {w:World}{b:Nat}{cs:Array Value}{t:TypeId}{fz:Nat×Nat}(h:w.heap[b]?=some (.cells cs t fz))(j:Nat):w.cell? ⟨b,j,none⟩=cs[j]?:=by rw[cell_of_row w b j cs t fz h]
theorem qj {w:World}{b:Nat}{cs:Array Value}{t:TypeId}(h:w.heap[b]?=some (.cells cs t (0,0)))(j:Nat):w.frozen? ⟨b,j,none⟩=false:=by simp[World.frozen?,h]
theorem Jr {w:World}{base:Nat}{v:Value}{l:List Rc}(h:Own w base v l){g:Nat}{cs:Array Value}{t:TypeId}{fz:Nat×Nat}(hg:w.heap[g]?=some (.cells cs t fz))(ht:t≠46):v.ownBlock≠some g:=by
 rcases h.2 with ⟨rfl,_⟩ | ⟨k,cap,cur,rfl,_,hk,_⟩
 ·simp[Value.ownBlock]
 ·intro e;simp[Value.ownBlock] at e;subst e;rw[hk] at hg;simp at hg;exact ht hg.2.1.symm
theorem Own.but {S:Nat->Prop}{w w':World}{base:Nat}{v:Value}{l:List Rc}(h:Own w base v l)(hb:But S w w')(hs:∀ k,v.ownBlock=some k->¬S k):Own w' base v l:=by
 refine⟨h.1,?_⟩
 rcases h.2 with hn | ⟨g,cap,cur,rfl,hg,hgg,rest⟩
 ·exact .inl hn
 ·exact .inr ⟨g,cap,cur,rfl,hg,hb.heap hgg (hs g rfl),rest⟩
theorem xT {w:World}{g:Nat}{cs:List Value}{t:TypeId}{fz:Nat×Nat}(h:w.heap[g]?=some (.cells cs.toArray t fz)):∀ j u,cs[j]?=some u->w.cell? ((⟨g,0,none⟩:Addr).add j)=some u:=by
 intro j u hj;have hadd:(⟨g,0,none⟩:Addr).add j=⟨g,j,none⟩:=(by unfold Addr.add;split<;>simp_all);rw[hadd,cell_of_row w g j _ _ _ h];simpa using hj
structure Opn where
 kind:Int
 surf:Int
 x:Int
 y:Int
 w:Int
 h:Int
 px:List Int
 mark:Int
def inB (n lo hi:Int):Bool:=decide (lo<=n)&&decide (n<=hi)
def zt (o:Opn):Bool:=
 if o.kind=1\/o.kind=4 then inB o.x (-100) 100&&inB o.y (-100) 100
 else if o.kind=3 then inB o.w 1 8&&inB o.h 1 8&&decide ((o.px.length:Int)=o.w*o.h)&&o.px.all (fun n=>inB n 0 4294967295)
 else if o.kind=7 then inB o.w 1 20&&inB o.x (-4) 4&&inB o.y (-4) 4
 else true
def qP (will:List Bool)(o:Opn):Option (List Bool):=
 if o.kind=8 then some will
 else if (inB o.kind 1 7&&inB o.surf 0 ((will.length:Int)-1)&&(will.getD o.surf.toNat false != decide (o.kind=1))&&zt o)=true then some (will.set o.surf.toNat (decide (o.kind≠2))) else none
def RdN (U:Nat->Prop)(w:World)(v:Value)(l:List Int):Prop:=
 ∃ ao cap,v=.slice ao l.length cap/\l.length<=cap/\cap<=maxLen/\(l≠[]->∃ b off,ao=some ⟨b,off,none⟩/\U b/\b<w.heap.size/\∀ j n,l[j]?=some n->w.cell? ⟨b,off+j,none⟩=some (.int .i64 n))
theorem RdN.but {U S:Nat->Prop}{w w':World}{v:Value}{l:List Int}(h:RdN U w v l)(hb:But S w w')(hs:∀ k,U k->¬S k):RdN U w' v l:=by
 obtain⟨ao,cap,e,h1,h2,h3⟩:=h;refine⟨ao,cap,e,h1,h2,fun hne=>?_⟩;obtain⟨b,off,e,hu,hlt,hc⟩:=h3 hne;exact⟨b,off,e,hu,zzm hlt hb.size,fun j r hr=>(World.cell?_of_block (hb.block b hlt (hs b hu))).trans (hc j r hr)⟩
theorem RdN.below {U:Nat->Prop}{w w':World}{v:Value}{l:List Int}(h:RdN U w v l)(hb:Below w.heap.size w w'):RdN U w' v l:=h.but (S:=fun _=>False) (.of_below hb) (fun _ _ h=>h)
structure Srf where
 cl:Int
 num:Int
 x:Int
 y:Int
 w:Int
 h:Int
 px:List Int
 dx:Int
 dy:Int
 left:Int
structure xq (s:Srf):Prop where
 w0:0<=s.w
 w8:s.w<=8
 h0:0<=s.h
 h8:s.h<=8
 px:(s.px.length:Int)=s.w*s.h
 xb:-1000000000000000<=s.x/\s.x<=1000000000000000
 yb:-1000000000000000<=s.y/\s.y<=1000000000000000
def xE (s:Srf)(c r:Int):Bool:=decide (0<=c-s.x)&&decide (0<=r-s.y)&&decide (c-s.x<s.w)&&decide (r-s.y<s.h)
def zC (s:Srf)(c r:Int):Int:=if xE s c r=true then s.px.getD ((r-s.y)*s.w+(c-s.x)).toNat 0 else 0
theorem mul8 {a b w h:Int}(h1:0<=a)(h2:a<h)(h3:0<=b)(h4:b<w)(h8:h<=8)(w8:w<=8):0<=a*w+b/\a*w+b<w*h/\0<=a*w/\a*w<=56:=by
 have hh:h=1\/h=2\/h=3\/h=4\/h=5\/h=6\/h=7\/h=8:=(by omega);have ha:a=0\/a=1\/a=2\/a=3\/a=4\/a=5\/a=6\/a=7:=by omega
 rcases hh with e | e | e | e | e | e | e | e<;>subst e<;>rcases ha with e | e | e | e | e | e | e | e<;>subst e<;>omega
structure Ent where
 l:Value
 a:Value
 b:Value
 c:Value
 n:Int
def xw (e:Ent):List Value:=[e.l,e.a,e.b,e.c,.int .i64 e.n]
def zQ (l:List Ent):List Value:=l.flatMap xw
theorem YB (l:List Ent)(e:Ent):zQ (l++[e])=zQ l++xw e:=by simp[zQ]
theorem XP:∀ (l:List Ent)(j:Nat)(r:Ent),l[j]?=some r->
 (zQ l)[j*5]?=some r.l/\(zQ l)[j*5+1]?=some r.a/\(zQ l)[j*5+2]?=some r.b/\(zQ l)[j*5+3]?=some r.c/\(zQ l)[j*5+4]?=some (.int .i64 r.n)
 | [],j,r,h=>by simp at h
 | q::l,0,r,h=>by
  simp at h;subst h;show (xw q++zQ l)[0]?=_/\(xw q++zQ l)[1]?=_/\(xw q++zQ l)[2]?=_/\(xw q++zQ l)[3]?=_/\(xw q++zQ l)[4]?=_;simp[xw]
 | q::l,j+1,r,h=>by
  have h':l[j]?=some r:=(by simpa using h);have ih:=XP l j r h';have e:∀ t,(zQ (q::l))[(j+1)*5+t]?=(zQ l)[j*5+t]?:=by
   intro t;show (xw q++zQ l)[_]?=_;rw[List.getElem?_append_right (by simp[xw];omega)]
   congr 1
   simp[xw];omega
  refine⟨by have:=e 0;simp only[Nat.add_zero] at this;rw[this];exact ih.1,by rw[e 1];exact ih.2.1,by rw[e 2];exact ih.2.2.1,by rw[e 3];exact ih.2.2.2.1,by rw[e 4];exact ih.2.2.2.2⟩
def jN (w:World)(base:Nat)(v:Value)(n:Int):Prop:=∃ l,Own w base v l/\l.length<=30000000/\∀ r∈l,r=mark n
structure xx (base:Nat)(w:World)(e:Ent):Prop where
 num:0<=e.n/\e.n<=4000000
 l:jN w base e.l e.n
 a:jN w base e.a e.n
 b:jN w base e.b e.n
 c:jN w base e.c e.n
theorem jN.but {S:Nat->Prop}{w w':World}{base:Nat}{v:Value}{n:Int}(h:jN w base v n)(hb:But S w w')(hs:∀ k,v.ownBlock=some k->¬S k):jN w' base v n:=by
 obtain⟨l,h1,h2⟩:=h;exact⟨l,h1.but hb hs,h2⟩
theorem jN.odd {S:Nat->Prop}{w w':World}{base:Nat}{v:Value}{n:Int}(h:jN w base v n)(hb:But S w w')(hs:∀ k,S k->k<w.heap.size->∃ cs t fz,w.heap[k]?=some (.cells cs t fz)/\t≠46):jN w' base v n:=by
 obtain⟨l,h1,h2⟩:=h;refine⟨l,h1.but hb fun k hk hS=>?_,h2⟩;obtain⟨cs,t,fz,hg,ht⟩:=hs k hS (World.ownsRow.lt h1 k hk).2;exact Jr h1 hg ht hk
theorem xx.odd {S:Nat->Prop}{w w':World}{base:Nat}{e:Ent}(h:xx base w e)(hb:But S w w')(hs:∀ k,S k->k<w.heap.size->∃ cs t fz,w.heap[k]?=some (.cells cs t fz)/\t≠46):xx base w' e:=
 ⟨h.num,h.l.odd hb hs,h.a.odd hb hs,h.b.odd hb hs,h.c.odd hb hs⟩
def Qi (p:Int×Int):List Value:=[.int .i64 p.1,.int .i64 p.2]
def jk (l:List (Int×Int)):List Value:=l.flatMap Qi
theorem Qh (k l:List (Int×Int)):jk (k++l)=jk k++jk l:=by simp[jk]
theorem kU:∀ (l:List (Int×Int))(j:Nat)(m:Int×Int),l[j]?=some m->(jk l)[j*2]?=some (.int .i64 m.1)/\(jk l)[j*2+1]?=some (.int .i64 m.2)
 | [],j,r,h=>by simp at h
 | q::l,0,r,h=>by
  simp at h;subst h;show (Qi q++jk l)[0]?=_/\(Qi q++jk l)[1]?=_;simp[Qi]
 | q::l,j+1,r,h=>by
  have ih:=kU l j r (by simpa using h);have e:∀ t,(jk (q::l))[(j+1)*2+t]?=(jk l)[j*2+t]?:=by
   intro t;show (Qi q++jk l)[_]?=_;rw[List.getElem?_append_right (by simp[Qi];omega)]
   congr 1
   simp[Qi];omega
  exact⟨by have:=e 0;simp only[Nat.add_zero] at this;rw[this];exact ih.1,by rw[e 1];exact ih.2⟩
abbrev jM (w:World)(base:Nat)(v:Value)(l:List (Int×Int)):Prop:=w.ownsRow base 153 2 v l.length (jk l)
end Go.Proofs.YtfnockbgkcgpkaaGreat
