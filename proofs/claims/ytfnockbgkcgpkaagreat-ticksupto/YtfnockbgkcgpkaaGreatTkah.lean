import Derived.Test.YtfnockbgkcgpkaaGreatTkac
import Derived.Test.YtfnockbgkcgpkaaGreatTkad
import Derived.Test.YtfnockbgkcgpkaaGreatTkag
import Derived.Laws.MakeOwn
import Derived.Laws.CopyRow
import Derived.Deep.DrawnRows
import Derived.BigQuiet
import Derived.Deep.QuietTactic
import Derived.Deep.RegionHeld3
import Derived.Deep.RegionLaw
import Derived.BigRegion
import Derived.Lib.Overlaps
set_option linter.all false
set_option maxRecDepth 100000
set_option maxHeartbeats 16000000
namespace Go.Proofs.YtfnockbgkcgpkaaGreat
open Go.RowKit Go.Proofs.Panes
theorem jh {n lo hi:Int}:inB n lo hi=true↔lo<=n/\n<=hi:=by simp[inB]
theorem XK {n lo hi:Int}(h:¬(lo<=n/\n<=hi)):inB n lo hi=false:=by
 cases e:inB n lo hi
 ·rfl
 ·exact absurd (jh.1 e) h
structure Cfg where
 w:Int
 h:Int
 clients:Int
 queue:Int
 most:Int
 quantum:Int
 surfaces:Int
 behind:Int
def OAt (U:Nat->Prop)(w:World)(b off:Nat)(o:Opn):Prop:=
 w.cell? ⟨b,off,none⟩=some (.int .i64 o.kind)/\w.cell? ⟨b,off+1,none⟩=some (.int .i64 o.surf)/\w.cell? ⟨b,off+2,none⟩=some (.int .i64 o.x)/\w.cell? ⟨b,off+3,none⟩=some (.int .i64 o.y)/\w.cell? ⟨b,off+4,none⟩=some (.int .i64 o.w)/\w.cell? ⟨b,off+5,none⟩=some (.int .i64 o.h)/\
 (∃ pv,w.cell? ⟨b,off+6,none⟩=some pv/\RdN U w pv o.px)/\w.cell? ⟨b,off+7,none⟩=some (.int .i64 o.mark)
theorem OAt.but {U S:Nat->Prop}{w w':World}(hb:But S w w'){b off:Nat}{o:Opn}(hlt:b<w.heap.size)(hs:¬S b)(hU:∀ k,U k->¬S k)(h:OAt U w b off o):OAt U w' b off o:=by
 have e:∀ q,w'.cell? ⟨b,q,none⟩=w.cell? ⟨b,q,none⟩:=fun q=>World.cell?_of_block (hb.block b hlt hs);obtain⟨h0,h1,h2,h3,h4,h5,⟨pv,h6,h6'⟩,h7⟩:=h;exact⟨(e _).trans h0,(e _).trans h1,(e _).trans h2,(e _).trans h3,(e _).trans h4,(e _).trans h5,⟨pv,(e _).trans h6,h6'.but hb hU⟩,(e _).trans h7⟩
def RdO (U:Nat->Prop)(w:World)(v:Value)(l:List Opn):Prop:=
 ∃ ao cap,v=.slice ao l.length cap/\l.length<=cap/\cap<=maxLen/\(l≠[]->∃ b off,ao=some ⟨b,off,none⟩/\U b/\b<w.heap.size/\∀ j o,l[j]?=some o->OAt U w b (off+j*8) o)
theorem RdO.but {U S:Nat->Prop}{w w':World}{v:Value}{l:List Opn}(h:RdO U w v l)(hb:But S w w')(hs:∀ k,U k->¬S k):RdO U w' v l:=by
 obtain⟨ao,cap,e,h1,h2,h3⟩:=h;refine⟨ao,cap,e,h1,h2,fun hne=>?_⟩;obtain⟨b,off,e,hu,hlt,hc⟩:=h3 hne;exact⟨b,off,e,hu,zzm hlt hb.size,fun j r hr=>(hc j r hr).but hb hlt (hs b hu) hs⟩
theorem RdO.below {U:Nat->Prop}{w w':World}{v:Value}{l:List Opn}(h:RdO U w v l)(hb:Below w.heap.size w w'):RdO U w' v l:=h.but (S:=fun _=>False) (.of_below hb) (fun _ _ h=>h)
def jw (o:Opn):Int:=if o.kind=3 then o.w*o.h else 0
def qA (l:List Opn):Int:=(l.length:Int)+(l.map jw).sum
theorem Qc {l:List Opn}{k:Nat}{o:Opn}(h:l[k]?=some o):((l.take (k+1)).map jw).sum=((l.take k).map jw).sum+jw o:=by
 rw[List.take_add_one,h];simp
def Qk (o:Opn):Prop:=o.kind=3->(1<=o.w/\o.w<=8)/\(1<=o.h/\o.h<=8)
theorem QN {o:Opn}(h:Qk o):0<=jw o/\jw o<=64:=by
 unfold jw
 split
 ·rename_i hk;obtain⟨⟨h1,h2⟩,h3,h4⟩:=h hk;generalize o.w=a at *;generalize o.h=b at *;have:a=1\/a=2\/a=3\/a=4\/a=5\/a=6\/a=7\/a=8:=by omega
  rcases this with e | e | e | e | e | e | e | e<;>subst e<;>omega
 ·omega
theorem X4:∀ (l:List Opn),(∀ o∈l,Qk o)->0<=(l.map jw).sum/\(l.map jw).sum<=64*l.length
 | [],_=>by simp
 | o::l,h=>by
  have h1:=QN (h o (by simp));have h2:=X4 l (fun x hx=>h x (by simp[hx]));simp only[List.map_cons,List.sum_cons,List.length_cons];omega
def qR (will:List Bool):List Opn->Option (List Bool)
 | []=>some will
 | o::l=>(qP will o).bind fun x=>qR x l
theorem zF (will:List Bool):∀ (k l:List Opn),qR will (k++l)=(qR will k).bind fun x=>qR x l:=by
 intro k
 induction k generalizing will with
 | nil=>intro l;rfl
 | cons o k ih=>
  intro l;show (qP will o).bind (fun x=>qR x (k++l))=((qP will o).bind fun x=>qR x k).bind fun x=>qR x l
  cases qP will o with
  | none=>rfl
  | some x=>exact ih x l
theorem vj {will x:List Bool}{l:List Opn}{k:Nat}{o:Opn}(h:qR will (l.take k)=some x)(ho:l[k]?=some o):qR will (l.take (k+1))=qP x o:=by
 rw[List.take_add_one,ho,zF,h];show qR x [o]=_;show (qP x o).bind (fun y=>some y)=_
 cases qP x o<;>rfl
theorem vk {will x:List Bool}{l:List Opn}{k:Nat}{o:Opn}(h:qR will (l.take k)=some x)(ho:l[k]?=some o)(hn:qP x o=none):qR will l=none:=by
 rw[<-List.take_append_drop (k+1) l,zF,vj h ho,hn];rfl
theorem VS {will x:List Bool}{o:Opn}(h:qP will o=some x):Qk o:=by
 intro h3;unfold qP at h;rw[if_neg (by omega)] at h
 split at h
 ·rename_i hc;simp only[Bool.and_eq_true] at hc;have:=hc.2;unfold zt at this;rw[if_neg (by omega),if_pos h3] at this;simp only[Bool.and_eq_true,jh] at this;exact⟨this.1.1.1,this.1.1.2⟩
 ·cases h
theorem xy:∀ (l:List Opn)(will x:List Bool),qR will l=some x->∀ o∈l,Qk o
 | [],_,_,_=>by simp
 | o::l,will,x,h=>by
  intro p hp;have h':(qP will o).bind (fun y=>qR y l)=some x:=h
  cases hv:qP will o with
  | none=>rw[hv] at h';cases h'
  | some y=>
   rw[hv] at h'
   cases List.mem_cons.1 hp with
   | inl e=>subst e;exact VS hv
   | inr e=>exact xy l y x h' p e
theorem QP (w:World)(o:Obj)(n:Nat)(h:n=w.heap.size):(w.alloc o).drew.heap[n]?=some o:=qt w o n h
def jU (c:Cfg):Bool:=inB c.w 1 16&&inB c.h 1 16&&inB c.clients 1 4&&inB c.queue 1 8&&inB c.most 1 300&&inB c.quantum c.most 600&&inB c.surfaces 1 4&&inB c.behind 1 4294967295
def vF (c:Cfg):Value:=.agg #[.int .i64 c.w,.int .i64 c.h,.int .i64 c.clients,.int .i64 c.queue,.int .i64 c.most,.int .i64 c.quantum,.int .i64 c.surfaces,.int .i64 c.behind]
theorem vx (n:Nat)(hn:n<=17592186044416)(u:World):(Instr.makeSlice 50 (.int .i64 (n:Int)) (.int .i64 (n:Int))).run Tryz.prog u=.ok (.slice (some ⟨u.heap.size,0,none⟩) n n) (u.alloc (.cells (Array.replicate n (Value.int .i64 0)) 3)):=by
 obtain⟨i0,hi,hz0,hz1,hz2⟩:=info_parts yg;have h:=run_make (P:=Tryz.prog) u 50 3 i0 _ Tryz.underlying50 hi hz0 .i64 .i64 (n:Int) (n:Int) (by omega) (Int.le_refl _) (by rw[hz2];omega) (by omega);have e:madeCells #[Value.int .i64 0] n=Array.replicate n (Value.int .i64 0):=by
  apply Array.ext';rw[toList_madeCells_one,Array.toList_replicate]
 simp only[Int.toNat_natCast,hz1] at h;rw[<-e];simpa[Value.cells] using h
theorem vU {P:Program}(w:World)(dT sT ty elem:TypeId)(size g o dLen dCap:Nat)(a:Addr)(Xe sCap:Nat)(cur:Array Value)(t:TypeId)(cs:List Value)(m:Nat)
 (hu:P.underlying dT=some (.slice elem)) (hs:(P.info? elem).map (·.size)=some size)
 (hg:w.heap[g]?=some (.cells cur t (0,0))) (hm:m=Nat.min Xe dLen) (hn:cs.length=m*size)
 (hsrc:∀ j v,cs[j]?=some v->w.cell? (a.add j)=some v) (hfit:o+cs.length<=cur.size) (h1:∀ v∈cs,v.oneCell'=true) :
 (Builtin.copy_ #[dT,sT] ty #[.slice (some ⟨g,o,none⟩) dLen dCap,.slice (some a) Xe sCap]).run P w =
  .ok (goInt m) (w.setRow g (cur.toList.take o++cs++cur.toList.drop (o+cs.length)).toArray):=by
 have hl:=run_loadCells_list (P:=P) w a cs hsrc;have hst:=run_storeCells_at P g o t cs 0 cur w hg (by simpa using hfit) h1
 cases hq:P.info? elem with
 | none=>simp[hq] at hs
 | some i=>
  have hi:i.size=size:=(by simpa[hq] using hs);rw[hn] at hl;simp[Builtin.copy_,run_underlying hu,Builtin.lenOf,Builtin.firstCells,sizeOf,typeInfo,hq,hi,<-hm,hl,hst,hn]
theorem Qd {P:Program}(w:World)(dT sT ty elem:TypeId)(d a:Option Addr)(dLen dCap Xe sCap:Nat)(hu:P.underlying dT=some (.slice elem))(hs:((P.info? elem).map (·.size)).isSome=true)(hn:Nat.min Xe dLen=0) :
 (Builtin.copy_ #[dT,sT] ty #[.slice d dLen dCap,.slice a Xe sCap]).run P w=.ok (goInt 0) w:=by
 cases hq:P.info? elem with
 | none=>simp[hq] at hs
 | some i=>
  have hl:∀ (x:Addr),(loadCells x 0).run P w=.ok #[] w:=fun x=>by simpa using run_loadCells_list (P:=P) w x [] (by simp)
  cases d<;>cases a<;>simp[Builtin.copy_,run_underlying hu,Builtin.lenOf,Builtin.firstCells,sizeOf,typeInfo,hq,hn,storeCells,hl]
abbrev zh (w:World)(base:Nat)(v:Value)(l:List Int):Prop:=w.ownsRow base 3 1 v l.length (l.map (Value.int .i64))
theorem qr5 {w:World}(base:Nat):zh w base (.slice none 0 0) []:=World.ownsRow_nil _ _ _ _
theorem QU (l:List Int):∀ u∈l.map (Value.int .i64),u.oneCell'=true:=by
 intro u hu;obtain⟨b,_,rfl⟩:=List.mem_map.1 hu
 rfl
theorem kP {w:World}{base g n cap:Nat}{l:List Int}(h:zh w base (.slice (some ⟨g,0,none⟩) n cap) l)(hn:n=l.length){j:Nat}{x:Int}(hx:l[j]?=some x):w.cell? ⟨g,j,none⟩=some (.int .i64 x):=by
 subst hn;have hj:=(zzg hx).1;rw[World.ownsRow.cellAt h j (by omega)];simp[hx]
theorem Zm {w:World}{base g n cap:Nat}{l:List Int}(h:zh w base (.slice (some ⟨g,0,none⟩) n cap) l)(hn:n=l.length)(j:Nat):w.frozen? ⟨g,j,none⟩=false:=by
 subst hn;exact World.ownsRow.frozenAt h j
theorem Yh {w:World}{base g n cap:Nat}{A B:List Int}{r:Int}(s:Int)(h:zh w base (.slice (some ⟨g,0,none⟩) n cap) (A++r::B))(hn:n=(A++r::B).length):zh (w.setCell ⟨g,A.length,none⟩ (.int .i64 s)) base (.slice (some ⟨g,0,none⟩) n cap) (A++s::B):=by
 subst hn;have h1:=(World.ownsRow.stored h A.length (.int .i64 s)).1;have e:((A++r::B).map (Value.int .i64)).set A.length (.int .i64 s)=(A++s::B).map (Value.int .i64):=(by simp);rw[e] at h1;have e2:(A++s::B).length=(A++r::B).length:=(by simp);unfold zh;rw[e2];exact h1
theorem Js {w:World}{base g n cap:Nat}{A B:List Int}(h:zh w base (.slice (some ⟨g,0,none⟩) n cap) (A++B)):zh w base (.slice (some ⟨g,0,none⟩) A.length cap) A:=by
 rcases h.2 with ⟨e,_⟩ | ⟨k,c,cur,e,hb,hk,hc,hm,hz,ht⟩
 ·cases e
 ·simp only[Value.slice.injEq,Option.some.injEq,Addr.mk.injEq,and_true] at e;obtain⟨rfl,e,rfl⟩:=e;refine⟨by simp,.inr ⟨g,cap,cur,rfl,hb,hk,by simp at hc;omega,hm,hz,?_⟩⟩;have:=congrArg (List.take (A.length*1)) ht;rw[List.take_take,List.map_append,List.take_append_of_le_length (by simp),Nat.min_eq_left (by simp)] at this;rw[this,List.take_of_length_le (by simp)]
theorem zh.rd {w:World}{base:Nat}{v:Value}{l:List Int}(h:zh w base v l):RdN (fun k=>v.ownBlock=some k) w v l:=by
 rcases h.2 with ⟨rfl,hn⟩ | ⟨g,cap,cur,rfl,hb,hg,hc,hm,hs,ht⟩
 ·have:l=[]:=List.length_eq_zero_iff.1 hn;subst this;exact⟨none,0,rfl,by simp,by simp[maxLen],fun h=>absurd rfl h⟩
 ·refine⟨some ⟨g,0,none⟩,cap,rfl,hc,hm,fun _=>⟨g,0,rfl,rfl,(Array.getElem?_eq_some_iff.1 hg).1,fun j x hx=>?_⟩⟩;rw[Nat.zero_add];exact kP h rfl hx
theorem Zk (w:World)(n base:Nat)(hb:base<=w.heap.size)(hn:n<=17592186044416):zh (w.alloc (.cells (Array.replicate n (Value.int .i64 0)) 3)) base (.slice (some ⟨w.heap.size,0,none⟩) n n) (List.replicate n 0):=by
 have h:=World.ownsRow_lit (base:=base) (e:=3) (size:=1) w (Array.replicate n (Value.int .i64 0)) n hb (by unfold maxLen;omega) (by simp);unfold zh;rw[List.length_replicate];simpa using h
theorem XT {w:World}{ops:Array Oper}{rest:List Oper}{o:Oper}{a:Act}{Q:Exit->Act->World->Prop}(hgd:o.guard=none)(d s:Operand)
 (ho:o.op=.call {callee:=.builtin .copy,args:=#[d,s],argTypes:=#[50,50]}) (U:Nat->Prop) (base g n:Nat) (D l:List Int) (v:Value) (hd:a.eval d=.slice (some ⟨g,0,none⟩) n n) (hs:a.eval s=v)
 (hO:zh w base (.slice (some ⟨g,0,none⟩) n n) D) (hn:D.length=n) (hR:RdN U w v l) (hl:l.length<=n)
 (h:∀ w',zh w' base (.slice (some ⟨g,0,none⟩) n n) (l++D.drop l.length)->w.grownBy w' (some g)->wpList Tryz.prog ops Q rest (a.put o.dst (goInt l.length)) w'):wpList Tryz.prog ops Q (o::rest) a w:=by
 obtain⟨i0,hi,hz0,hz1,hz2⟩:=info_parts yg;obtain⟨ao,cap,rfl,h1,h2,h3⟩:=hR;refine wpList_plain hgd fun K hK=>?_
 by_cases he:l=[]
 ·subst he;have hrun:=Qd (P:=Tryz.prog) w 50 50 o.type 3 (some ⟨g,0,none⟩) ao n n 0 cap Tryz.underlying50 (by rw[hi];rfl) (by simp);have hh:=h w (by simpa using hO) ⟨rfl,rfl,rfl,zzl _,fun _ _ _=>rfl⟩;unfold Oper.wp;simp[execOp,ho,resolve,invoke,builtin,hd,hs,hrun,Result.andThen];exact hK _ _ (by simpa using hh)
 ·obtain⟨b,off,rfl,_,hb,hc⟩:=h3 he
  rcases hO.2 with ⟨e,_⟩ | ⟨k,c,cur,e,hbk,hk,hcc,hm,hz,ht⟩
  ·cases e
  ·simp only[Value.slice.injEq,Option.some.injEq,Addr.mk.injEq,and_true] at e;obtain⟨rfl,e,rfl⟩:=e;subst hn;have htl:cur.toList=D.map (Value.int .i64):=(by rw[<-ht,List.take_of_length_le (by simp[hz])]);have hrun:=vU (P:=Tryz.prog) w 50 50 o.type 3 1 g 0 D.length D.length ⟨b,off,none⟩ l.length cap cur 3 (l.map (Value.int .i64)) l.length Tryz.underlying50 (by rw[hi];simp[hz1]) hk (Nat.min_eq_left hl).symm (by simp) (fun j v hj=>?_) (by simp[hz];omega) (QU l)
   ·have e:(cur.toList.take 0++l.map (Value.int .i64)++cur.toList.drop (0+(l.map (Value.int .i64)).length))=(l++D.drop l.length).map (Value.int .i64):=by
     rw[htl,List.take_zero,List.nil_append,Nat.zero_add,List.length_map,List.map_append,List.map_drop]
    rw[e] at hrun;have hh:=h (w.setRow g ((l++D.drop l.length).map (Value.int .i64)).toArray) ?_ ?_
    ·unfold Oper.wp;simp[execOp,ho,resolve,invoke,builtin,hd,hs,hrun,Result.andThen];exact hK _ _ (by simpa using hh)
    ·have el:(l++D.drop l.length).length=D.length:=(by simp;omega);unfold zh;rw[el];refine⟨by rw[List.length_map,el];omega,.inr ⟨g,D.length,_,rfl,hbk,setRow_heap w g cur _ _ _ hk,zzl _,hm,by simp;omega,?_⟩⟩;rw[List.take_of_length_le (by rw[List.length_map,el];omega)]
    ·exact⟨rfl,rfl,rfl,by simp[World.setRow],fun k hk hne=>setRow_other w g k _ (fun e=>hne (by rw[e]))⟩
   ·have hadd:(⟨b,off,none⟩:Addr).add j=⟨b,off+j,none⟩:=(by unfold Addr.add;split<;>simp_all);rw[hadd];rw[List.getElem?_map] at hj;obtain⟨x,hx,rfl⟩:=Option.map_eq_some_iff.1 hj;exact hc j x hx
structure MOp where
 kind:Int
 surf:Int
 x:Int
 y:Int
 w:Int
 h:Int
 pv:Value
 mark:Int
def mcell (m:MOp):List Value:=[.int .i64 m.kind,.int .i64 m.surf,.int .i64 m.x,.int .i64 m.y,.int .i64 m.w,.int .i64 m.h,m.pv,.int .i64 m.mark]
def zv (l:List MOp):List Value:=l.flatMap mcell
theorem kh (r:MOp)(l:List MOp):zv (r::l)=mcell r++zv l:=rfl
theorem vV (k l:List MOp):zv (k++l)=zv k++zv l:=by simp[zv]
theorem zO (l:List MOp):(zv l).length=l.length*8:=by
 induction l with
 | nil=>rfl
 | cons r l ih=>rw[kh,List.length_append,ih];simp[mcell];omega
theorem vn:∀ (l:List MOp)(j:Nat)(r:MOp),l[j]?=some r->∀ t,t<8->(zv l)[j*8+t]?=(mcell r)[t]?
 | [],j,r,h=>by simp at h
 | q::l,0,r,h=>by
  intro t ht;simp at h;subst h;rw[kh,Nat.zero_mul,Nat.zero_add,List.getElem?_append_left (by simp[mcell];omega)]
 | q::l,j+1,r,h=>by
  intro t ht;rw[<-vn l j r (by simpa using h) t ht,kh,List.getElem?_append_right (by simp[mcell];omega)]
  congr 1
  simp[mcell];omega
abbrev vH (w:World)(base:Nat)(v:Value)(l:List MOp):Prop:=w.ownsRow base 52 8 v l.length (zv l)
theorem QM {w:World}{base g n cap:Nat}{l:List MOp}(h:vH w base (.slice (some ⟨g,0,none⟩) n cap) l)(hn:n=l.length){j:Nat}{m:MOp}(hm:l[j]?=some m)(t:Nat)(ht:t<8):w.cell? ⟨g,j*8+t,none⟩=(mcell m)[t]?:=by
 subst hn;have hj:=(zzg hm).1;rw[World.ownsRow.cellAt h _ (by omega),vn l j m hm t ht]
theorem Zl {w:World}{base g n cap:Nat}{l:List MOp}(h:vH w base (.slice (some ⟨g,0,none⟩) n cap) l)(hn:n=l.length)(j:Nat):w.frozen? ⟨g,j,none⟩=false:=by
 subst hn;exact World.ownsRow.frozenAt h j
theorem KP (A:List MOp)(r s:MOp)(B:List MOp) :
 ((((((((zv (A++r::B)).set (A.length*8) (.int .i64 s.kind)).set (A.length*8+1) (.int .i64 s.surf)).set (A.length*8+2) (.int .i64 s.x)).set (A.length*8+3) (.int .i64 s.y)).set (A.length*8+4) (.int .i64 s.w)).set (A.length*8+5) (.int .i64 s.h)).set (A.length*8+6) s.pv).set (A.length*8+7) (.int .i64 s.mark)=zv (A++s::B):=by
 rw[vV,vV];have e:∀ (X:List Value)(t:Nat)(u:Value),(zv A++X).set (A.length*8+t) u=zv A++X.set t u:=fun X t u=>by
  rw[List.set_append_right _ _ (by rw[zO];omega),zO,Nat.add_sub_cancel_left]
 have e0:∀ (X:List Value)(u:Value),(zv A++X).set (A.length*8) u=zv A++X.set 0 u:=fun X u=>e X 0 u;rw[e0,e,e,e,e,e,e,e]
 rfl
def ZF (w:World)(g i:Nat)(s:MOp):World:=
 (((((((w.setCell ⟨g,i*8,none⟩ (.int .i64 s.kind)).setCell ⟨g,i*8+1,none⟩ (.int .i64 s.surf)).setCell ⟨g,i*8+2,none⟩ (.int .i64 s.x)).setCell ⟨g,i*8+3,none⟩ (.int .i64 s.y)).setCell ⟨g,i*8+4,none⟩ (.int .i64 s.w)).setCell ⟨g,i*8+5,none⟩ (.int .i64 s.h)).setCell ⟨g,i*8+6,none⟩ s.pv).setCell ⟨g,i*8+7,none⟩ (.int .i64 s.mark)
theorem QL {w:World}{base g n cap:Nat}{A B:List MOp}{r:MOp}(s:MOp)(h:vH w base (.slice (some ⟨g,0,none⟩) n cap) (A++r::B))(hn:n=(A++r::B).length):vH (ZF w g A.length s) base (.slice (some ⟨g,0,none⟩) n cap) (A++s::B):=by
 subst hn;have h1:=(World.ownsRow.stored h (A.length*8) (.int .i64 s.kind)).1;have h2:=(World.ownsRow.stored h1 (A.length*8+1) (.int .i64 s.surf)).1;have h3:=(World.ownsRow.stored h2 (A.length*8+2) (.int .i64 s.x)).1;have h4:=(World.ownsRow.stored h3 (A.length*8+3) (.int .i64 s.y)).1;have h5:=(World.ownsRow.stored h4 (A.length*8+4) (.int .i64 s.w)).1;have h6:=(World.ownsRow.stored h5 (A.length*8+5) (.int .i64 s.h)).1;have h7:=(World.ownsRow.stored h6 (A.length*8+6) s.pv).1;have h8:=(World.ownsRow.stored h7 (A.length*8+7) (.int .i64 s.mark)).1;rw[KP] at h8;have e:(A++s::B).length=(A++r::B).length:=(by simp);unfold vH;rw[e];exact h8
theorem kM {S:Nat->Prop}{a w:World}{g i:Nat}{s:MOp}(h:But S a w)(hg:S g\/a.heap.size<=g):But S a (ZF w g i s):=by
 have hS:∀ (j:Nat)(u:Value){v:World},But S a v->But S a (v.setCell ⟨g,j,none⟩ u):=fun j u v h=>h.setCell (p:=⟨g,j,none⟩) hg u;exact hS _ _ (hS _ _ (hS _ _ (hS _ _ (hS _ _ (hS _ _ (hS _ _ (hS _ _ h)))))))
theorem Qo {w:World}{g i k:Nat}{s:MOp}(h:k≠g):(ZF w g i s).heap[k]?=w.heap[k]?:=by
 have e:∀ (v:World)(j:Nat)(u:Value),(v.setCell ⟨g,j,none⟩ u).heap[k]?=v.heap[k]?:=fun v j u=>Below.heap_setCell _ _ _ _ h;unfold ZF;rw[e,e,e,e,e,e,e,e]
theorem vq {will:List Bool}{o:Opn}(h8:¬o.kind=8)(h:(inB o.kind 1 7&&inB o.surf 0 ((will.length:Int)-1)&&(will.getD o.surf.toNat false != decide (o.kind=1))&&zt o)=false):qP will o=none:=by
 unfold qP;rw[if_neg h8,if_neg (by rw[h];simp)]
theorem Jb {will:List Bool}{o:Opn}(h8:¬o.kind=8)(h:(inB o.kind 1 7&&inB o.surf 0 ((will.length:Int)-1)&&(will.getD o.surf.toNat false != decide (o.kind=1))&&zt o)=true):qP will o=some (will.set o.surf.toNat (decide (o.kind≠2))):=by
 unfold qP;rw[if_neg h8,if_pos h]
theorem yZ {l:List Bool}{j:Nat}{b:Bool}(h:l[j]?=some b):l.set j b=l:=by
 apply List.ext_getElem?;intro i
 by_cases e:j=i
 ·subst e;have:=(zzg h).1;rw[List.getElem?_set_self this,h]
 ·rw[List.getElem?_set_ne e]
theorem Xq {l:List Int}{f:Int->Bool}{k:Nat}{r:Int}(hr:l[k]?=some r):(l.take (k+1)).all f=((l.take k).all f&&f r):=by
 rw[List.take_add_one,hr,List.all_append];simp
theorem YU {l:List Int}{f:Int->Bool}{k:Nat}(h:(l.take k).all f=false):l.all f=false:=by
 rw[<-List.take_append_drop k l,List.all_append,h];rfl
theorem X9 (m:List Value)(t:Nat)(ht:t<m.length):∀ (c k:Nat),k<c->(rep c m)[k*m.length+t]?=m[t]?
 | 0,k,h=>absurd h (Nat.not_lt_zero k)
 | c+1,0,_=>by
  unfold rep;rw[List.replicate_succ,List.flatten_cons,Nat.zero_mul,Nat.zero_add,List.getElem?_append_left ht]
 | c+1,k+1,h=>by
  have ih:=X9 m t ht c k (by omega);unfold rep at ih ⊢;rw[List.replicate_succ,List.flatten_cons,List.getElem?_append_right (by rw[Nat.succ_mul];omega),<-ih]
  congr 1
  rw[Nat.succ_mul];omega
def mkI (n:Int):List Value:=[.int .i64 (-1000-n)]
def mkF (n:Int):List Value:=[.int .i64 (-1000-n),.int .i64 0]
theorem xA {w:World}{base:Nat}{e:TypeId}{sz:Nat}{o:Option Addr}{n c:Nat}{xs:List Value}(h:w.ownsRow base e sz (.slice o n c) n xs)(hn:0<n):∃ g,o=some ⟨g,0,none⟩/\g<w.heap.size/\∀ j u,xs[j]?=some u->w.cell? ⟨g,j,none⟩=some u:=by
 rcases h.2 with ⟨e,hz⟩ | ⟨g,cap,cur,e,hb,hg,hc,hx,hz,ht⟩
 ·omega
 ·simp only[Value.slice.injEq] at e;obtain⟨rfl,-,rfl⟩:=e;refine⟨g,rfl,qh hg,fun j u hu=>?_⟩;rw[cell_of_row w g j _ _ _ hg];rw[<-ht,List.getElem?_take] at hu
  split at hu
  ·simpa using hu
  ·cases hu
theorem XA (U V:Nat->Prop)(va vb:Value)(l:List Int)(w:World)(h1:RdN U w va l)(h2:RdN V w vb l)(hl:l.length<=1000000) :
 Calls Tryz.prog 23 #[va,vb] w fun e w'=>e=.returned (.bool true)/\∃ q,w'=w.drewN q:=by
 obtain⟨ao,cap,rfl,-,-,g1⟩:=h1;obtain⟨bo,bap,rfl,-,-,g2⟩:=h2;obtain⟨n,hn⟩:∃ n,n=l.length:=⟨_,rfl⟩;have hn9:n<=1000000:=(by omega);rw[<-hn];have HC:Hid (∀ (k:Nat)(z:Int),l[k]?=some z->∃ b off b2 off2,ao=some ⟨b,off,none⟩/\bo=some ⟨b2,off2,none⟩/\w.cell? ⟨b,off+k,none⟩=some (.int .i64 z)/\w.cell? ⟨b2,off2+k,none⟩=some (.int .i64 z)):=fun k z hz=>by
  have hne:l≠[]:=fun e=>by rw[e] at hz;simp at hz
  obtain⟨b,off,e,_,_,hc⟩:=g1 hne;obtain⟨b2,off2,e2,_,_,hc2⟩:=g2 hne;exact⟨b,off,b2,off2,e,e2,hc k z hz,hc2 k z hz⟩
 have HN:=qg hn;have nn:((n:Int) != (n:Int))=false:=(by simp);clear g1 g2 hl hn
 go_enter Tryz.func23,Tryz.ntmps23
 go_wp2
 go_loopw [5] (fun x wr=>∃ k q:Nat,k<=n/\x=.int .i64 k/\wr=w.drewN q) (fun x _=>n-(intOf x).toNat)
 case atStart=>exact⟨0,0,Nat.zero_le _,rfl,rfl⟩
 case round=>
  obtain⟨k,q,hk,rfl,rfl⟩:=hrel
  by_cases hlt:k<n
  ·obtain⟨z,hz⟩:∃ z,l[k]?=some z:=⟨l[k]'(by have:=qb HN;omega),by simp⟩;obtain⟨b,off,b2,off2,rfl,rfl,c0,c1⟩:=(qb HC) k z hz;have k0:(0:Int)<=(k:Int):=(by omega);have k1:(k:Int)<(n:Int):=(by omega);have zz:(z != z)=false:=(by simp);clear hz;go_wp2
   go_quiet (fail)
   go_wp2
   go_roundw
   case rel=>exact⟨k+1,_,by omega,by go_num,by first | rfl | exact World.drewN_drewN _ _ _⟩
   case measure=>simp[intOf];omega
  ·have k1:¬(k:Int)<(n:Int):=(by omega);go_wp2;go_ret;exact⟨rfl,_,rfl⟩
theorem Kl (va vb:Value)(l:List (Int×Int))(w:World){b1 b2:Nat}(h1:jM w b1 va l)(h2:jM w b2 vb l)(hl:l.length<=1000000000) :
 Calls Tryz.prog 53 #[va,vb] w fun e w'=>e=.returned (.bool true)/\∃ q,w'=w.drewN q:=by
 obtain⟨ao,cap,rfl⟩:=qr h1;obtain⟨bo,bap,rfl⟩:=qr h2;obtain⟨n,hn⟩:∃ n,n=l.length:=⟨_,rfl⟩;have hn9:n<=1000000000:=(by omega);have HC:Hid (∀ (k:Nat)(z:Int×Int),l[k]?=some z->∃ b b2,ao=some ⟨b,0,none⟩/\bo=some ⟨b2,0,none⟩/\w.cell? ⟨b,k*2,none⟩=some (.int .i64 z.1)/\w.cell? ⟨b,k*2+1,none⟩=some (.int .i64 z.2)/\w.cell? ⟨b2,k*2,none⟩=some (.int .i64 z.1)/\w.cell? ⟨b2,k*2+1,none⟩=some (.int .i64 z.2)):=fun k z hz=>by
  have hlt:=(zzg hz).1;obtain⟨g,e,-,hc⟩:=xA h1 (by omega);obtain⟨g2,e2,-,hc2⟩:=xA h2 (by omega);obtain⟨f1,f2⟩:=kU l k z hz;exact⟨g,g2,e,e2,hc _ _ f1,hc _ _ f2,hc2 _ _ f1,hc2 _ _ f2⟩
 rw[<-hn];have HN:=qg hn;have nn:((n:Int) != (n:Int))=false:=(by simp);clear h1 h2 hl hn
 go_enter Tryz.func53,Tryz.ntmps53
 go_wp2
 go_loopw [5] (fun x wr=>∃ k q:Nat,k<=n/\x=.int .i64 k/\wr=w.drewN q) (fun x _=>n-(intOf x).toNat)
 case atStart=>exact⟨0,0,Nat.zero_le _,rfl,rfl⟩
 case round=>
  obtain⟨k,q,hk,rfl,rfl⟩:=hrel
  by_cases hlt:k<n
  ·obtain⟨z,hz⟩:∃ z,l[k]?=some z:=⟨l[k]'(by have:=qb HN;omega),by simp⟩;obtain⟨b,b2,rfl,rfl,c0,c1,c2,c3⟩:=(qb HC) k z hz;have k0:(0:Int)<=(k:Int):=(by omega);have k1:(k:Int)<(n:Int):=(by omega);obtain⟨z1,z2⟩:=z;simp only at c0 c1 c2 c3;clear hz;go_wp2
   go_quiet (fail)
   go_wp2
   go_roundw
   case rel=>exact⟨k+1,_,by omega,by go_num,by first | rfl | exact World.drewN_drewN _ _ _⟩
   case measure=>simp[intOf];omega
  ·have k1:¬(k:Int)<(n:Int):=(by omega);go_wp2;go_ret;exact⟨rfl,_,rfl⟩
theorem YT {base:Nat}(v:Value)(n:Int)(w:World)(hM:zM 3 1 w base v (mkI n))(hn:0<=n/\n<=4000000) :
 Calls Tryz.prog 30 #[v,.int .i64 n] w fun e w'=>e=.returned (.bool true)/\Below w.heap.size w w':=by
 obtain⟨c,hO,hc9⟩:=hM;obtain⟨ao,cap,rfl⟩:=qr hO;have hw:IntKind.i64.wrap (-1000-n)=-1000-n:=(by rw[IntKind.wrap_i64];omega);have HC:Hid (0<c->∃ g,ao=some ⟨g,0,none⟩/\g<w.heap.size/\∀ k,k<c->w.cell? ⟨g,k,none⟩=some (.int .i64 (-1000-n))):=fun h0=>by
  obtain⟨g,e,lg,hc⟩:=xA hO h0;refine⟨g,e,lg,fun k hk=>hc _ _ ?_⟩;have:=X9 (mkI n) 0 (by simp[mkI]) c k hk;simpa[mkI] using this
 clear hO
 go_enter Tryz.func30,Tryz.ntmps30
 go_wp2
 go_loopw [5] (fun i wr=>∃ k:Nat,k<=c/\i=.int .i64 k/\Below w.heap.size w wr) (fun i _=>c-(intOf i).toNat)
 case atStart=>exact⟨0,Nat.zero_le _,rfl,Below.refl _ _⟩
 case round=>
  obtain⟨k,hk,rfl,hbel⟩:=hrel
  by_cases hlt:k<c
  ·obtain⟨g,rfl,lg,hc⟩:=(qb HC) (by omega);have c1:=(hbel.cell lg).trans (hc k hlt);have i0:(0:Int)<=(k:Int):=(by omega);have i1:(k:Int)<(c:Int):=(by omega);have Hb:=qg hbel;clear hc hbel HC;go_wp2
   go_roundw
   case rel=>exact⟨k+1,by omega,by go_num,qb Hb⟩
   case measure=>simp[intOf];omega
  ·have Hb:=qg hbel;clear hbel;go_wp2;go_ret;exact⟨rfl,qb Hb⟩
theorem VJ {base:Nat}(v:Value)(n:Int)(w:World)(hM:zM 153 2 w base v (mkF n))(hn:0<=n/\n<=4000000) :
 Calls Tryz.prog 31 #[v,.int .i64 n] w fun e w'=>e=.returned (.bool true)/\Below w.heap.size w w':=by
 obtain⟨c,hO,hc9⟩:=hM;obtain⟨ao,cap,rfl⟩:=qr hO;have hw:IntKind.i64.wrap (-1000-n)=-1000-n:=(by rw[IntKind.wrap_i64];omega);have HC:Hid (0<c->∃ g,ao=some ⟨g,0,none⟩/\g<w.heap.size/\∀ k,k<c->w.cell? ⟨g,k*2,none⟩=some (.int .i64 (-1000-n))/\w.cell? ⟨g,k*2+1,none⟩=some (.int .i64 0)):=fun h0=>by
  obtain⟨g,e,lg,hc⟩:=xA hO h0;refine⟨g,e,lg,fun k hk=>⟨hc _ _ ?_,hc _ _ ?_⟩⟩
  ·have:=X9 (mkF n) 0 (by simp[mkF]) c k hk;simpa[mkF] using this
  ·have:=X9 (mkF n) 1 (by simp[mkF]) c k hk;simpa[mkF] using this
 clear hO
 go_enter Tryz.func31,Tryz.ntmps31
 go_wp2
 go_loopw [5] (fun i wr=>∃ k:Nat,k<=c/\i=.int .i64 k/\Below w.heap.size w wr) (fun i _=>c-(intOf i).toNat)
 case atStart=>exact⟨0,Nat.zero_le _,rfl,Below.refl _ _⟩
 case round=>
  obtain⟨k,hk,rfl,hbel⟩:=hrel
  by_cases hlt:k<c
  ·obtain⟨g,rfl,lg,hc⟩:=(qb HC) (by omega);have c1:=(hbel.cell lg).trans (hc k hlt).1;have c2:=(hbel.cell lg).trans (hc k hlt).2;have i0:(0:Int)<=(k:Int):=(by omega);have i1:(k:Int)<(c:Int):=(by omega);have Hb:=qg hbel;clear hc hbel HC;go_wp2
   go_roundw
   case rel=>exact⟨k+1,by omega,by go_num,qb Hb⟩
   case measure=>simp[intOf];omega
  ·have Hb:=qg hbel;clear hbel;go_wp2;go_ret;exact⟨rfl,qb Hb⟩
theorem Vv:qg0 50 3 1 8:=by
 have hi:(Tryz.prog.info? 3).map (fun i=>(i.zero,i.size,i.bytes))=some (some (.int .i64 0),1,8):=(by kernel_rfl);obtain⟨i0,h1,h2,h3,h4⟩:=info_parts hi;exact⟨i0,_,Tryz.underlying50,h1,h2,h3,h4,rfl,by decide,by decide⟩
theorem Zw:qg0 87 153 2 16:=by
 have hi:(Tryz.prog.info? 153).map (fun i=>(i.zero,i.size,i.bytes))=some (some (.agg #[.int .i64 0,.int .i64 0]),2,16):=(by kernel_rfl);obtain⟨i0,h1,h2,h3,h4⟩:=info_parts hi;exact⟨i0,_,Tryz.underlying87,h1,h2,h3,h4,rfl,by decide,by decide⟩
theorem qk5:(Tryz.prog.info? 85).map (fun i=>(i.zero,i.size,i.bytes))=some (some (.agg #[.slice none 0 0,.slice none 0 0,.slice none 0 0,.slice none 0 0,.int .i64 0]),5,104):=by kernel_rfl
theorem qk6:(Tryz.prog.info? 89).map (fun i=>(i.zero,i.size,i.bytes))=some (some (.agg #[.slice none 0 0,.slice none 0 0,.slice none 0 0,.slice none 0 0,.int .i64 0]),5,104):=by kernel_rfl
theorem XQ (o1 o2 o3 o4:Option Addr)(n1 n2 n3 n4 c1 c2 c3 c4:Nat)(n:Int):∀ u∈xw ⟨.slice o1 n1 c1,.slice o2 n2 c2,.slice o3 n3 c3,.slice o4 n4 c4,n⟩,u.oneCell'=true:=by
 intro u hu;simp[xw] at hu
 rcases hu with rfl | rfl | rfl | rfl | rfl<;>rfl
theorem ZK (w:World)(o:Obj)(n:Nat)(h:n=w.heap.size):(w.alloc o).drew.heap[n]?=some o:=qt w o n h
theorem Vl (n:Int):∀ u∈mkI n,u.oneCell'=true:=by intro u hu;simp[mkI] at hu;subst hu;rfl
theorem Vm (n:Int):∀ u∈mkF n,u.oneCell'=true:=by intro u hu;simp[mkF] at hu;rcases hu with rfl | rfl<;>rfl
structure qc1 (ety:TypeId)(sz:Nat)(mk:Int->List Value)(bt:TypeId)(q:Nat)(cs:Array Value)(w w':World)(wb base B:Nat)(kv v:Value)(es:List Ent)(kv':Value)(en:Ent):Prop where
 box:w'.heap[wb]?=some (.cells (cs.setIfInBounds q kv') 39)
 own:vI bt w' base kv' (es++[en])
 ent:ym ety sz mk B w' en
 lies:∀ k,kv'.ownBlock=some k->kv.ownBlock=some k\/w.heap.size<=k
 but:But (fun k=>k=wb\/kv.ownBlock=some k\/v.ownBlock=some k) w w'
 elies:∀ k,en.blk k->v.ownBlock=some k\/w.heap.size<=k
theorem JA {ety bt:TypeId}{sz q:Nat}{mk:Int->List Value}{cs:Array Value}{w w4 w5:World}{wb base B gg gk:Nat}{v va vb vc kv:Value}{es:List Ent}{c:Nat}
 (hB4:But (fun k=>v.ownBlock=some k) w w4) (hO4:w4.ownsRow B ety sz v c (rep c (mk es.length))) (hA:ZV ety sz v w4 B va (c+1) (mk es.length)) (hS:ZV ety sz v w4 B vb (c+2) (mk es.length)) (hC:ZV ety sz v w4 B vc (c+3) (mk es.length))
 (hK:vI bt w4 base kv es) (hW:w4.heap[wb]?=some (.cells cs 39)) (hG:w4.grownBy w5 kv.ownBlock)
 (hown:w5.ownsRow base bt 5 (.slice (some ⟨gg,0,none⟩) (es.length+1) gk) (es.length+1) (zQ es++xw ⟨v,va,vb,vc,es.length⟩)) (hat:kv.ownBlock=some gg\/gg=w4.heap.size+1) (h1:w.heap.size<=w4.heap.size) (hn:es.length<=2000000) (hc:c<=1000000000) (t1:39≠bt) (t2:39≠ety) (t3:bt≠ety)
 (la:∀ k,va.ownBlock=some k->v.ownBlock=some k\/w.heap.size<=k) (lb:∀ k,vb.ownBlock=some k->v.ownBlock=some k\/w.heap.size<=k) (lc:∀ k,vc.ownBlock=some k->v.ownBlock=some k\/w.heap.size<=k) :
 qc1 ety sz mk bt q cs w (w5.setCell ⟨wb,q,none⟩ (.slice (some ⟨gg,0,none⟩) (es.length+1) gk)) wb base B kv v es (.slice (some ⟨gg,0,none⟩) (es.length+1) gk) ⟨v,va,vb,vc,es.length⟩:=by
 have hkw:kv.ownBlock≠some wb:=qq hK hW t1;have hW5:w5.heap[wb]?=some (.cells cs 39):=zl hG hW hkw;have hgw:gg≠wb:=fun e=>qq hown hW5 t1 (by rw[e];rfl);have hB5:But (fun k=>k=wb\/kv.ownBlock=some k) w4 (w5.setCell ⟨wb,q,none⟩ (.slice (some ⟨gg,0,none⟩) (es.length+1) gk)):=((But.refl _ w4).grown hG (fun k e=>.inl (.inr e))).setCell (.inl (.inl rfl)) _;have hodd:∀ k,(k=wb\/kv.ownBlock=some k)->k<w4.heap.size->∃ cs t fz,w4.heap[k]?=some (.cells cs t fz)/\t≠ety:=fun k hk _=>by
  rcases hk with rfl | hk
  ·exact⟨_,_,_,hW,t2⟩
  ·obtain⟨cs,fz,e⟩:=qE hK hk;exact⟨_,_,_,e,t3⟩
 have hmk:∀ u c,c<=1000000003->w4.ownsRow B ety sz u c (rep c (mk es.length))->zM ety sz (w5.setCell ⟨wb,q,none⟩ (.slice (some ⟨gg,0,none⟩) (es.length+1) gk)) B u (mk es.length):=fun u c hc h=>
  zM.odd ⟨c,h,hc⟩ hB5 hodd
 refine⟨?_,?_,⟨by simp;omega,hmk v _ (by omega) hO4,hmk va _ (by omega) hA.own,hmk vb _ (by omega) hS.own,hmk vc _ (by omega) hC.own⟩,?_,?_,?_⟩
 ·exact qp (i:=q) hW5 _
 ·have:=ownsRow_setCell_other hown (a:=⟨wb,q,none⟩) (by simp[Value.ownBlock];exact hgw) (.slice (some ⟨gg,0,none⟩) (es.length+1) gk);unfold vI;rw[List.length_append,YB];exact this
 ·intro k hk;simp only[Value.ownBlock,Option.some.injEq] at hk;subst hk
  rcases hat with c | c
  ·exact .inl c
  ·exact .inr (by omega)
 ·exact (hB4.wide (fun k _ h=>.inr (.inr h))).trans (hB5.wide (fun k _ h=>h.elim .inl (fun h=>.inr (.inl h))))
 ·rintro k (e | e | e | e)
  ·exact .inl e
  ·exact la k e
  ·exact lb k e
  ·exact lc k e
theorem Vr (wb base B:Nat)(cs:Array Value)(kv v:Value)(es:List Ent)(R:List Int)(w:World)(hb:w.heap[wb]?=some (.cells cs 39))(hcs:cs[5]?=some kv)(hK:vI 85 w base kv es)(hbase:base<=w.heap.size)(hV:zh w B v R)(hB:B<=w.heap.size)(hn:es.length<=2000000)(hR:R.length<=1000000000) :
 Calls Tryz.prog 24 #[.pointer (some ⟨wb,4,none⟩),v] w fun e w'=>e=.returned (.tuple #[])/\∃ kv' en,qc1 3 1 mkI 85 5 cs w w' wb base B kv v es kv' en:=by
 obtain⟨ro,rc,rfl⟩:=qr hK;obtain⟨vo,vc,rfl⟩:=qr hV;obtain⟨c,hc⟩:∃ c,c=R.length:=⟨_,rfl⟩;have k0:w.cell? ⟨wb,5,none⟩=some (.slice ro es.length rc):=(qe hb 5).trans hcs;have hw:IntKind.i64.wrap (-1000-(es.length:Int))=-1000-(es.length:Int):=(by rw[IntKind.wrap_i64];omega);have hc9:c<=1000000000:=(by omega);have hV':w.ownsRow B 3 1 (.slice vo c vc) c (rep 0 (mkI es.length)++(R.map (Value.int .i64)).drop (0*1)):=by
  rw[hc];exact hV
 rw[<-hc];have HBX:=qg hb;have HK:=qg hK;have HV:=qg hV';have hcl:(R.map (Value.int .i64)).length=c*1:=(by rw[hc];exact hV.1);have HCL:=qg hcl;have hvb:∀ j,(Value.slice vo c vc).ownBlock=some j->j<w.heap.size:=fun j hj=>(World.ownsRow.lt hV' j hj).2;have hvt:∀ (j:Nat)(cs:Array Value)(t:TypeId)(fz:Nat×Nat),w.heap[j]?=some (.cells cs t fz)->t≠3->(Value.slice vo c vc).ownBlock≠some j:=fun j cs t fz hj ht=>qq hV' hj ht;have HVT:=qg hvt;have HCS:=qg hcs;generalize R.map (Value.int .i64)=xs at *;clear hb hK hV hV' hc hR hcl hvt hcs
 go_enter Tryz.func24,Tryz.ntmps24
 go_wp2
 go_loopw [6] (fun i wr=>∃ k:Nat,k<=c/\i=.int .i64 k/\wr.ownsRow B 3 1 (.slice vo c vc) c (rep k (mkI es.length)++xs.drop (k*1))/\w.heap.size<=wr.heap.size/\But (fun k=>(Value.slice vo c vc).ownBlock=some k) w wr) (fun i _=>c-(intOf i).toNat)
 case atStart=>
  refine⟨0,Nat.zero_le _,rfl,qb HV,zzl _,But.refl _ _⟩
 case round=>
  rename World=>wq;obtain⟨k,hk,rfl,hO,hsz,hBut⟩:=hrel
  by_cases hlt:k<c
  ·obtain⟨g,eo,lg,hcc⟩:=xA hO (by omega);subst eo;have hxl:=qb HCL;have htaken:(rep k (mkI es.length)).length=k*1:=(by rw[Z2];rfl);obtain⟨y0,hy0⟩:∃ y,xs[k*1]?=some y:=⟨xs[k*1]'(by omega),by simp⟩;have c1:=hcc (k*1) y0 (by rw[List.getElem?_append_right (by omega),htaken,Nat.sub_self,List.getElem?_drop];exact hy0);have f1:wq.frozen? ⟨g,k*1,none⟩=false:=World.ownsRow.frozenAt hO _;have hP:=(World.ownsRow.stored hO (k*1) (.int .i64 (-1000-(es.length:Int)))).1;have hset:(rep k (mkI es.length)++xs.drop (k*1)).set (k*1) (.int .i64 (-1000-(es.length:Int)))=rep (k+1) (mkI es.length)++xs.drop ((k+1)*1):=by
    rw[Z3];have e1:xs.drop (k*1)=y0::xs.drop ((k+1)*1):=by
     have a1:=(zzg hy0);rw[List.drop_eq_getElem_cons a1.1,a1.2,show k*1+1=(k+1)*1 by omega]
    rw[e1,List.set_append_right _ _ (by omega),htaken,Nat.sub_self,List.append_assoc]
    rfl
   rw[hset] at hP;rw[Nat.mul_one] at hP c1 f1;have hgb:g<w.heap.size:=hvb g rfl;have HP:=qg hP;have HBt:=qg hBut;have i0:(0:Int)<=(k:Int):=(by omega);have i1:(k:Int)<(c:Int):=(by omega);have HS:=qg hsz;have HG:=qg hgb;clear hO hBut hP hset hcc hy0 htaken hxl hvb hsz hgb k0 hw HCL;go_wp2
   go_roundw
   case rel=>
    refine⟨k+1,by omega,by go_num,qb HP,by simpa[World.setCell] using qb HS,?_⟩;exact (qb HBt).setCell (p:=⟨g,k,none⟩) (.inl rfl) _
   case measure=>simp[intOf];omega
  ·obtain rfl:k=c:=(by omega);rw[List.drop_eq_nil_of_le (by have:=qb HCL;omega),List.append_nil] at hO;have hkne:∀ j,(Value.slice ro es.length rc).ownBlock=some j->(Value.slice vo k vc).ownBlock≠some j:=fun j hj=>by
    obtain⟨cs,fz,e⟩:=qE (qb HK) hj;exact (qb HVT) _ _ _ _ e (by decide)
   have hKq:vI 85 wq base (.slice ro es.length rc) es:=qi (qb HK) hBut hkne;have hBq:wq.heap[wb]?=some (.cells cs 39):=hBut.heap (qb HBX) ((qb HVT) _ _ _ _ (qb HBX) (by decide));have k1:wq.cell? ⟨wb,5,none⟩=some (.slice ro es.length rc):=(qe hBq 5).trans (qb HCS);have HBt:=qg hBut;have HO:=qg hO;have HKq:=qg hKq;have HBq:=qg hBq;clear hO hBut hKq hBq;have hBs:B<=wq.heap.size:=(by omega);have hvx:∀ j,w.heap.size<=j->(Value.slice vo k vc).ownBlock≠some j:=fun j hj e=>by have:=hvb j e;omega
   have HV0:=qg hvx;clear hvx hvb
   go_wp2_with
    (first
     | (at_builtin
        refine jE Vv rfl _ _ rfl B _ k 1 (mkI es.length) rfl (Vl _) rfl (World.ownsRow.alloc (World.ownsRow.alloc (qb HO) _) _) (wq.heap.size+1) rfl (qt _ _ _ (by simp)) (by decide) (by omega) (by simp;omega) ?_
        intro ga ca w1 ha hla hold hkeep hgrow
        have hG1:wq.grownBy w1 (Value.slice vo k vc).ownBlock:=zB (World.grownBy_alloc _ _ _) (zB (World.grownBy_alloc _ _ _) hgrow)
        have hx1:w1.heap[wq.heap.size]?=some (.cells #[.slice vo k vc,.slice none 0 0,.slice none 0 0,.slice none 0 0,.int .i64 es.length] 85):=zl hgrow (qx (qt _ _ _ rfl) _) ((qb HV0) _ (by omega))
        have x1:w1.cell? ⟨wq.heap.size,1,none⟩=some (.slice none 0 0):=qe hx1 1
        have y1:∀ j,w1.frozen? ⟨wq.heap.size,j,none⟩=false:=qj hx1
        have hsz1:wq.heap.size+1<w1.heap.size:=by have:=hgrow.size;simp at this;omega
        have HLA:Hid ((Value.slice vo k vc).ownBlock=some ga\/w.heap.size<=ga):=hla.imp id (fun e=>by simp at e;omega)
        have HO1:=qg hold
        have HA1:=qg ha
        have HB1:=qg ((qb HBt).grown hG1 (fun k e=>.inl e))
        have HX1:=qg hx1
        clear HO HBt ha hold hkeep hgrow hG1 hx1 hla )
     | (at_builtin
        refine jE Vv rfl _ _ rfl B _ k 2 (mkI es.length) rfl (Vl _) rfl (World.ownsRow.alloc (ownsRow_setCell_other (qb HO1) ((qb HV0) _ (by simp;omega)) _) _) w1.heap.size rfl (qt _ _ _ (by simp)) (by decide) (by omega) (by simp;omega) ?_
        intro gb cb w2 ha hla hold hkeep hgrow
        have hB2:But (fun j=>(Value.slice vo k vc).ownBlock=some j) w w2:=(((qb HB1).setCell (p:=⟨wq.heap.size,1,none⟩) (.inr (by simp;omega)) _).alloc _).grown hgrow (fun k e=>.inl e)
        have hA2:=hkeep _ _ (((qb HA1).set (qb HX1) (by decide) 1 _).alloc _) (by omega)
        have hx2:w2.heap[wq.heap.size]?=some (.cells #[.slice vo k vc,.slice (some ⟨ga,0,none⟩) (k+1) ca,.slice none 0 0,.slice none 0 0,.int .i64 es.length] 85):=zl hgrow (qx (by simpa using qp (i:=1) (qb HX1) (.slice (some ⟨ga,0,none⟩) (k+1) ca)) _) ((qb HV0) _ (by omega))
        have x2:w2.cell? ⟨wq.heap.size,2,none⟩=some (.slice none 0 0):=qe hx2 2
        have y2:∀ j,w2.frozen? ⟨wq.heap.size,j,none⟩=false:=qj hx2
        have hsz2:wq.heap.size+1<w2.heap.size:=by have:=hgrow.size;simp[World.setCell] at this;omega
        have HLB:Hid ((Value.slice vo k vc).ownBlock=some gb\/w.heap.size<=gb):=hla.imp id (fun e=>by simp[World.setCell] at e;omega)
        have HO2:=qg hold
        have HS2:=qg ha
        have HA2:=qg hA2
        have HB2:=qg hB2
        have HX2:=qg hx2
        clear HO1 HA1 HB1 HX1 ha hold hkeep hgrow hA2 hB2 hx2 x1 y1 hla )
     | (at_builtin
        refine jE Vv rfl _ _ rfl B _ k 3 (mkI es.length) rfl (Vl _) rfl (World.ownsRow.alloc (ownsRow_setCell_other (qb HO2) ((qb HV0) _ (by simp;omega)) _) _) w2.heap.size rfl (qt _ _ _ (by simp)) (by decide) (by omega) (by simp;omega) ?_
        intro gc cc w3 ha hla hold hkeep hgrow
        have hB3:But (fun j=>(Value.slice vo k vc).ownBlock=some j) w w3:=(((qb HB2).setCell (p:=⟨wq.heap.size,2,none⟩) (.inr (by simp;omega)) _).alloc _).grown hgrow (fun k e=>.inl e)
        have hA3:=hkeep _ _ (((qb HA2).set (qb HX2) (by decide) 2 _).alloc _) (by omega)
        have hS3:=hkeep _ _ (((qb HS2).set (qb HX2) (by decide) 2 _).alloc _) (by omega)
        have hx3:w3.heap[wq.heap.size]?=some (.cells #[.slice vo k vc,.slice (some ⟨ga,0,none⟩) (k+1) ca,.slice (some ⟨gb,0,none⟩) (k+2) cb,.slice none 0 0,.int .i64 es.length] 85):=zl hgrow (qx (by simpa using qp (i:=2) (qb HX2) (.slice (some ⟨gb,0,none⟩) (k+2) cb)) _) ((qb HV0) _ (by omega))
        have x3:w3.cell? ⟨wq.heap.size,3,none⟩=some (.slice none 0 0):=qe hx3 3
        have y3:∀ j,w3.frozen? ⟨wq.heap.size,j,none⟩=false:=qj hx3
        have hsz3:wq.heap.size+1<w3.heap.size:=by have:=hgrow.size;simp[World.setCell] at this;omega
        have HLC:Hid ((Value.slice vo k vc).ownBlock=some gc\/w.heap.size<=gc):=hla.imp id (fun e=>by simp[World.setCell] at e;omega)
        have HO3:=qg hold
        have HC3:=qg ha
        have HA3:=qg hA3
        have HS3:=qg hS3
        have HB3:=qg hB3
        have HX3:=qg hx3
        clear HO2 HA2 HS2 HB2 HX2 ha hold hkeep hgrow hA3 hS3 hB3 hx3 x2 y2 hla ))
   obtain⟨j0,hj,hy0,hy1,hy2⟩:=info_parts qk5;have hx4:(w3.setCell ⟨wq.heap.size,3,none⟩ (.slice (some ⟨gc,0,none⟩) (k+3) cc)).heap[wq.heap.size]?=some (.cells #[.slice vo k vc,.slice (some ⟨ga,0,none⟩) (k+1) ca,.slice (some ⟨gb,0,none⟩) (k+2) cb,.slice (some ⟨gc,0,none⟩) (k+3) cc,.int .i64 es.length] 85):=(by simpa using qp (i:=3) (qb HX3) (.slice (some ⟨gc,0,none⟩) (k+3) cc));have hB4:But (fun j=>(Value.slice vo k vc).ownBlock=some j) w (w3.setCell ⟨wq.heap.size,3,none⟩ (.slice (some ⟨gc,0,none⟩) (k+3) cc)):=(qb HB3).setCell (p:=⟨wq.heap.size,3,none⟩) (.inr (by simp;omega)) _;have hA4:=(qb HA3).set (qb HX3) (by decide) 3 (.slice (some ⟨gc,0,none⟩) (k+3) cc);have hS4:=(qb HS3).set (qb HX3) (by decide) 3 (.slice (some ⟨gc,0,none⟩) (k+3) cc);have hC4:=(qb HC3).set (qb HX3) (by decide) 3 (.slice (some ⟨gc,0,none⟩) (k+3) cc);have hO4:=ownsRow_setCell_other (qb HO3) (a:=⟨wq.heap.size,3,none⟩) ((qb HV0) _ (by simp;omega)) (.slice (some ⟨gc,0,none⟩) (k+3) cc);have hz4:wq.heap.size+1<(w3.setCell ⟨wq.heap.size,3,none⟩ (.slice (some ⟨gc,0,none⟩) (k+3) cc)).heap.size:=(by simpa[World.setCell] using hsz3);clear HX3 HB3 HA3 HS3 HC3 HO3 x3 y3;generalize w3.setCell ⟨wq.heap.size,3,none⟩ (.slice (some ⟨gc,0,none⟩) (k+3) cc)=w4 at *;have hK4:vI 85 w4 base (.slice ro es.length rc) es:=qi (qb HK) hB4 hkne;have hW4:w4.heap[wb]?=some (.cells cs 39):=hB4.heap (qb HBX) ((qb HVT) _ _ _ _ (qb HBX) (by decide));have hkw:(Value.slice ro es.length rc).ownBlock≠some wb:=qq hK4 hW4 (by decide);have hkx:(Value.slice ro es.length rc).ownBlock≠some wq.heap.size:=fun e=>by have:=(World.ownsRow.lt (qb HK) _ e).2;omega
   have hwx:wb≠wq.heap.size:=fun e=>by have:=qh (qb HBX);omega
   have q0:w4.cell? ⟨wb,5,none⟩=some (.slice ro es.length rc):=(qe hW4 5).trans (qb HCS);have q1:w4.frozen? ⟨wb,5,none⟩=false:=qj hW4 5;have q2:w4.cell? ⟨wq.heap.size,0,none⟩=some (.slice vo k vc):=qe hx4 0;have q3:w4.cell? ⟨wq.heap.size,1,none⟩=some (.slice (some ⟨ga,0,none⟩) (k+1) ca):=qe hx4 1;have q4:w4.cell? ⟨wq.heap.size,2,none⟩=some (.slice (some ⟨gb,0,none⟩) (k+2) cb):=qe hx4 2;have q5:w4.cell? ⟨wq.heap.size,3,none⟩=some (.slice (some ⟨gc,0,none⟩) (k+3) cc):=qe hx4 3;have q6:w4.cell? ⟨wq.heap.size,4,none⟩=some (.int .i64 es.length):=qe hx4 4;have lw:wb<w4.heap.size:=qh hW4;have lx:wq.heap.size<w4.heap.size:=(by omega);have HB4:=qg hB4;have HA4:=qg hA4;have HS4:=qg hS4;have HC4:=qg hC4;have HO4:=qg hO4;have HK4:=qg hK4;have HW4:=qg hW4;have HKW:=qg hkw;have HKX:=qg hkx;have hcap:Hid (base<=w4.heap.size):=(by show _<=_;omega);clear hB4 hA4 hS4 hC4 hO4 hK4 hW4 hx4 hkne hkw hkx
   go_region_law
    ((refine step_append_lies _ (by rfl) _ _ _ (by rfl) base 85 j0 _ 5 104 Tryz.underlying34 hj hy0 hy1 hy2 rfl (by omega) (.slice ro es.length rc) es.length (zQ es) (by rfl) (World.ownsRow.drew (World.ownsRow.alloc (qb HK4) _)) ⟨w4.heap.size,0,none⟩ 1 1 (xw ⟨.slice vo k vc,.slice (some ⟨ga,0,none⟩) (k+1) ca,.slice (some ⟨gb,0,none⟩) (k+2) cb,.slice (some ⟨gc,0,none⟩) (k+3) cc,es.length⟩) (by rfl) (by rfl) (xT (ZK _ _ _ (by simp))) (XQ _ _ _ _ _ _ _ _ _ _ _ _ _) (by omega) (by unfold maxLen;omega) (by omega) (by have:=qb hcap;simp;omega) (w4.heap.size+1) (by simp) ?_;intro gg gk w5 hown1 hgrow hat hltg;have qf:w5.frozen? ⟨wb,5,none⟩=false:=(hgrow.frozen_far ⟨wb,5,none⟩ (zzm lw (by show _<=(w4.heap.push _).size;rw[Array.size_push];omega)) (Ne.symm (qb HKW))).trans ((World.frozen?_of_block (w:=w4) (Below.heap_alloc _ _ _ lw)).trans q1);have qc:w5.cell? ⟨wb,5,none⟩=some (.slice ro es.length rc):=(hgrow.cell_far ⟨wb,5,none⟩ (zzm lw (by show _<=(w4.heap.push _).size;rw[Array.size_push];omega)) (Ne.symm (qb HKW))).trans ((World.cell?_of_block (w:=w4) (Below.heap_alloc _ _ _ lw)).trans q0)))
   all_goals
    go_end0;refine⟨rfl,.slice (some ⟨gg,0,none⟩) (es.length+1) gk,⟨.slice vo k vc,.slice (some ⟨ga,0,none⟩) (k+1) ca,.slice (some ⟨gb,0,none⟩) (k+2) cb,.slice (some ⟨gc,0,none⟩) (k+3) cc,es.length⟩,?_⟩;have hdr:w4.grownBy w5 (Value.slice ro es.length rc).ownBlock:=zB (World.grownBy_alloc w4 _ _) (zB (km _ 1 _) hgrow);exact JA (qb HB4) (qb HO4) (qb HA4) (qb HS4) (qb HC4) (qb HK4) (qb HW4) hdr hown1 hat (by omega) hn (by omega) (by decide) (by decide) (by decide) (fun j e=>by simp only[Value.ownBlock,Option.some.injEq] at e;subst e;exact qb HLA) (fun j e=>by simp only[Value.ownBlock,Option.some.injEq] at e;subst e;exact qb HLB) (fun j e=>by simp only[Value.ownBlock,Option.some.injEq] at e;subst e;exact qb HLC)
theorem Xj (wb base B:Nat)(cs:Array Value)(kv v:Value)(es:List Ent)(R:List (Int×Int))(w:World)(hb:w.heap[wb]?=some (.cells cs 39))(hcs:cs[6]?=some kv)(hK:vI 89 w base kv es)(hbase:base<=w.heap.size)(hV:jM w B v R)(hB:B<=w.heap.size)(hn:es.length<=2000000)(hR:R.length<=1000000000) :
 Calls Tryz.prog 54 #[.pointer (some ⟨wb,4,none⟩),v] w fun e w'=>e=.returned (.tuple #[])/\∃ kv' en,qc1 153 2 mkF 89 6 cs w w' wb base B kv v es kv' en:=by
 obtain⟨ro,rc,rfl⟩:=qr hK;obtain⟨vo,vc,rfl⟩:=qr hV;obtain⟨c,hc⟩:∃ c,c=R.length:=⟨_,rfl⟩;have k0:w.cell? ⟨wb,6,none⟩=some (.slice ro es.length rc):=(qe hb 6).trans hcs;have hw:IntKind.i64.wrap (-1000-(es.length:Int))=-1000-(es.length:Int):=(by rw[IntKind.wrap_i64];omega);have hc9:c<=1000000000:=(by omega);have hV':w.ownsRow B 153 2 (.slice vo c vc) c (rep 0 (mkF es.length)++(jk R).drop (0*2)):=by
  rw[hc];exact hV
 rw[<-hc];have HBX:=qg hb;have HK:=qg hK;have HV:=qg hV';have hcl:(jk R).length=c*2:=(by rw[hc];exact hV.1);have HCL:=qg hcl;have hvb:∀ j,(Value.slice vo c vc).ownBlock=some j->j<w.heap.size:=fun j hj=>(World.ownsRow.lt hV' j hj).2;have hvt:∀ (j:Nat)(cs:Array Value)(t:TypeId)(fz:Nat×Nat),w.heap[j]?=some (.cells cs t fz)->t≠153->(Value.slice vo c vc).ownBlock≠some j:=fun j cs t fz hj ht=>qq hV' hj ht;have HVT:=qg hvt;have HCS:=qg hcs;generalize jk R=xs at *;clear hb hK hV hV' hc hR hcl hvt hcs
 go_enter Tryz.func54,Tryz.ntmps54
 go_wp2
 go_loopw [6] (fun i wr=>∃ k:Nat,k<=c/\i=.int .i64 k/\wr.ownsRow B 153 2 (.slice vo c vc) c (rep k (mkF es.length)++xs.drop (k*2))/\wr.heap[w.heap.size]?=some (.cells #[.int .i64 (-1000-(es.length:Int)),.int .i64 0] 153)/\w.heap.size<wr.heap.size/\But (fun k=>(Value.slice vo c vc).ownBlock=some k) w wr) (fun i _=>c-(intOf i).toNat)
 case atStart=>
  refine⟨0,Nat.zero_le _,rfl,World.ownsRow.alloc (qb HV) _,qt _ _ _ rfl,by simp,(But.refl _ _).alloc _⟩
 case round=>
  rename World=>wq;obtain⟨k,hk,rfl,hO,hbx,hsz,hBut⟩:=hrel;have b0:wq.cell? ⟨w.heap.size,0,none⟩=some (.int .i64 (-1000-(es.length:Int))):=qe hbx 0;have b1:wq.cell? ⟨w.heap.size,1,none⟩=some (.int .i64 0):=qe hbx 1
  by_cases hlt:k<c
  ·obtain⟨g,eo,lg,hcc⟩:=xA hO (by omega);subst eo;have hxl:=qb HCL;have htaken:(rep k (mkF es.length)).length=k*2:=(by rw[Z2];rfl);obtain⟨y0,hy0⟩:∃ y,xs[k*2]?=some y:=⟨xs[k*2]'(by omega),by simp⟩;obtain⟨y1,hy1⟩:∃ y,xs[k*2+1]?=some y:=⟨xs[k*2+1]'(by omega),by simp⟩;have c1:=hcc (k*2) y0 (by rw[List.getElem?_append_right (by omega),htaken,Nat.sub_self,List.getElem?_drop];exact hy0);have c2:=hcc (k*2+1) y1 (by rw[List.getElem?_append_right (by omega),htaken,show k*2+1-k*2=1 by omega,List.getElem?_drop];exact hy1);have f1:wq.frozen? ⟨g,k*2,none⟩=false:=World.ownsRow.frozenAt hO _;have f2:wq.frozen? ⟨g,k*2+1,none⟩=false:=World.ownsRow.frozenAt hO _;have hP:=(World.ownsRow.stored (World.ownsRow.stored hO (k*2) (.int .i64 (-1000-(es.length:Int)))).1 (k*2+1) (.int .i64 0)).1;have hset:((rep k (mkF es.length)++xs.drop (k*2)).set (k*2) (.int .i64 (-1000-(es.length:Int)))).set (k*2+1) (.int .i64 0)=rep (k+1) (mkF es.length)++xs.drop ((k+1)*2):=by
    rw[Z3];have e1:xs.drop (k*2)=y0::y1::xs.drop ((k+1)*2):=by
     have a1:=(zzg hy0);have a2:=(zzg hy1);rw[List.drop_eq_getElem_cons a1.1,a1.2,List.drop_eq_getElem_cons a2.1,a2.2,show k*2+1+1=(k+1)*2 by omega]
    rw[e1,List.set_append_right _ _ (by omega),htaken,Nat.sub_self,List.set_append_right _ _ (by omega),htaken,show k*2+1-k*2=1 by omega,List.append_assoc]
    rfl
   rw[hset] at hP;have hgb:g<w.heap.size:=hvb g rfl;have HP:=qg hP;have HBx:=qg hbx;have HBt:=qg hBut;have i0:(0:Int)<=(k:Int):=(by omega);have i1:(k:Int)<(c:Int):=(by omega);have HS:=qg hsz;have HG:=qg hgb;have hne:w.heap.size≠g:=(by omega);clear hO hbx hBut hP hset hcc hy0 hy1 htaken hxl hvb hsz hgb k0 hw HCL;go_wp2
   go_roundw
   case rel=>
    refine⟨k+1,by omega,by go_num,qb HP,?_,by simpa[World.setCell] using qb HS,?_⟩
    ·exact qu (qu (qb HBx) hne _) hne _
    ·have hS:∀ (j:Nat)(u:Value){x:World},But (fun k=>(Value.slice (some ⟨g,0,none⟩) c vc).ownBlock=some k) w x->But (fun k=>(Value.slice (some ⟨g,0,none⟩) c vc).ownBlock=some k) w (x.setCell ⟨g,j,none⟩ u):=fun j u x h=>h.setCell (p:=⟨g,j,none⟩) (.inl rfl) u;exact hS _ _ (hS _ _ (qb HBt))
   case measure=>simp[intOf];omega
  ·obtain rfl:k=c:=(by omega);rw[List.drop_eq_nil_of_le (by have:=qb HCL;omega),List.append_nil] at hO;have hkne:∀ j,(Value.slice ro es.length rc).ownBlock=some j->(Value.slice vo k vc).ownBlock≠some j:=fun j hj=>by
    obtain⟨cs,fz,e⟩:=qE (qb HK) hj;exact (qb HVT) _ _ _ _ e (by decide)
   have hKq:vI 89 wq base (.slice ro es.length rc) es:=qi (qb HK) hBut hkne;have hBq:wq.heap[wb]?=some (.cells cs 39):=hBut.heap (qb HBX) ((qb HVT) _ _ _ _ (qb HBX) (by decide));have k1:wq.cell? ⟨wb,6,none⟩=some (.slice ro es.length rc):=(qe hBq 6).trans (qb HCS);have HBt:=qg hBut;have HBx:=qg hbx;have HO:=qg hO;have HKq:=qg hKq;have HBq:=qg hBq;clear hO hBut hbx hKq hBq;have hBs:B<=wq.heap.size:=(by omega);have hvx:∀ j,w.heap.size<=j->(Value.slice vo k vc).ownBlock≠some j:=fun j hj e=>by have:=hvb j e;omega
   have HV0:=qg hvx;clear hvx hvb
   go_wp2_with
    (first
     | (at_builtin
        refine jE Zw rfl _ _ rfl B _ k 1 (mkF es.length) rfl (Vm _) rfl (World.ownsRow.alloc (World.ownsRow.alloc (qb HO) _) _) (wq.heap.size+1) rfl (qt _ _ _ (by simp)) (by decide) (by omega) (by simp;omega) ?_
        intro ga ca w1 ha hla hold hkeep hgrow
        have hG1:wq.grownBy w1 (Value.slice vo k vc).ownBlock:=zB (World.grownBy_alloc _ _ _) (zB (World.grownBy_alloc _ _ _) hgrow)
        have hx1:w1.heap[wq.heap.size]?=some (.cells #[.slice vo k vc,.slice none 0 0,.slice none 0 0,.slice none 0 0,.int .i64 es.length] 89):=zl hgrow (qx (qt _ _ _ rfl) _) ((qb HV0) _ (by omega))
        have hm1:w1.heap[w.heap.size]?=some (.cells #[.int .i64 (-1000-(es.length:Int)),.int .i64 0] 153):=zl hG1 (qb HBx) ((qb HV0) _ (zzl _))
        have x1:w1.cell? ⟨wq.heap.size,1,none⟩=some (.slice none 0 0):=qe hx1 1
        have y1:∀ j,w1.frozen? ⟨wq.heap.size,j,none⟩=false:=qj hx1
        have b0:w1.cell? ⟨w.heap.size,0,none⟩=some (.int .i64 (-1000-(es.length:Int))):=qe hm1 0
        have b1:w1.cell? ⟨w.heap.size,1,none⟩=some (.int .i64 0):=qe hm1 1
        have hne1:wq.heap.size≠w.heap.size:=by omega
        have hsz1:wq.heap.size+1<w1.heap.size:=by have:=hgrow.size;simp at this;omega
        have HLA:Hid ((Value.slice vo k vc).ownBlock=some ga\/w.heap.size<=ga):=hla.imp id (fun e=>by simp at e;omega)
        have HO1:=qg hold
        have HA1:=qg ha
        have HB1:=qg ((qb HBt).grown hG1 (fun k e=>.inl e))
        have HX1:=qg hx1
        have HM1:=qg hm1
        clear HO HBt ha hold hkeep hgrow hG1 hx1 hla hm1 HBx)
     | (at_builtin
        refine jE Zw rfl _ _ rfl B _ k 2 (mkF es.length) rfl (Vm _) rfl (World.ownsRow.alloc (ownsRow_setCell_other (qb HO1) ((qb HV0) _ (by simp;omega)) _) _) w1.heap.size rfl (qt _ _ _ (by simp)) (by decide) (by omega) (by simp;omega) ?_
        intro gb cb w2 ha hla hold hkeep hgrow
        have hB2:But (fun j=>(Value.slice vo k vc).ownBlock=some j) w w2:=(((qb HB1).setCell (p:=⟨wq.heap.size,1,none⟩) (.inr (by simp;omega)) _).alloc _).grown hgrow (fun k e=>.inl e)
        have hA2:=hkeep _ _ (((qb HA1).set (qb HX1) (by decide) 1 _).alloc _) (by omega)
        have hx2:w2.heap[wq.heap.size]?=some (.cells #[.slice vo k vc,.slice (some ⟨ga,0,none⟩) (k+1) ca,.slice none 0 0,.slice none 0 0,.int .i64 es.length] 89):=zl hgrow (qx (by simpa using qp (i:=1) (qb HX1) (.slice (some ⟨ga,0,none⟩) (k+1) ca)) _) ((qb HV0) _ (by omega))
        have hm2:w2.heap[w.heap.size]?=some (.cells #[.int .i64 (-1000-(es.length:Int)),.int .i64 0] 153):=zl hgrow (qx (qu (qb HM1) (by simp;omega) _) _) ((qb HV0) _ (zzl _))
        have x2:w2.cell? ⟨wq.heap.size,2,none⟩=some (.slice none 0 0):=qe hx2 2
        have y2:∀ j,w2.frozen? ⟨wq.heap.size,j,none⟩=false:=qj hx2
        have b0:w2.cell? ⟨w.heap.size,0,none⟩=some (.int .i64 (-1000-(es.length:Int))):=qe hm2 0
        have b1:w2.cell? ⟨w.heap.size,1,none⟩=some (.int .i64 0):=qe hm2 1
        have hsz2:wq.heap.size+1<w2.heap.size:=by have:=hgrow.size;simp[World.setCell] at this;omega
        have HLB:Hid ((Value.slice vo k vc).ownBlock=some gb\/w.heap.size<=gb):=hla.imp id (fun e=>by simp[World.setCell] at e;omega)
        have HO2:=qg hold
        have HS2:=qg ha
        have HA2:=qg hA2
        have HB2:=qg hB2
        have HX2:=qg hx2
        have HM2:=qg hm2
        clear HO1 HA1 HB1 HX1 ha hold hkeep hgrow hA2 hB2 hx2 x1 y1 hla hm2 HM1)
     | (at_builtin
        refine jE Zw rfl _ _ rfl B _ k 3 (mkF es.length) rfl (Vm _) rfl (World.ownsRow.alloc (ownsRow_setCell_other (qb HO2) ((qb HV0) _ (by simp;omega)) _) _) w2.heap.size rfl (qt _ _ _ (by simp)) (by decide) (by omega) (by simp;omega) ?_
        intro gc cc w3 ha hla hold hkeep hgrow
        have hB3:But (fun j=>(Value.slice vo k vc).ownBlock=some j) w w3:=(((qb HB2).setCell (p:=⟨wq.heap.size,2,none⟩) (.inr (by simp;omega)) _).alloc _).grown hgrow (fun k e=>.inl e)
        have hA3:=hkeep _ _ (((qb HA2).set (qb HX2) (by decide) 2 _).alloc _) (by omega)
        have hS3:=hkeep _ _ (((qb HS2).set (qb HX2) (by decide) 2 _).alloc _) (by omega)
        have hx3:w3.heap[wq.heap.size]?=some (.cells #[.slice vo k vc,.slice (some ⟨ga,0,none⟩) (k+1) ca,.slice (some ⟨gb,0,none⟩) (k+2) cb,.slice none 0 0,.int .i64 es.length] 89):=zl hgrow (qx (by simpa using qp (i:=2) (qb HX2) (.slice (some ⟨gb,0,none⟩) (k+2) cb)) _) ((qb HV0) _ (by omega))
        have x3:w3.cell? ⟨wq.heap.size,3,none⟩=some (.slice none 0 0):=qe hx3 3
        have y3:∀ j,w3.frozen? ⟨wq.heap.size,j,none⟩=false:=qj hx3
        have hsz3:wq.heap.size+1<w3.heap.size:=by have:=hgrow.size;simp[World.setCell] at this;omega
        have HLC:Hid ((Value.slice vo k vc).ownBlock=some gc\/w.heap.size<=gc):=hla.imp id (fun e=>by simp[World.setCell] at e;omega)
        have HO3:=qg hold
        have HC3:=qg ha
        have HA3:=qg hA3
        have HS3:=qg hS3
        have HB3:=qg hB3
        have HX3:=qg hx3
        clear HO2 HA2 HS2 HB2 HX2 ha hold hkeep hgrow hA3 hS3 hB3 hx3 x2 y2 hla HM2 b0 b1))
   obtain⟨j0,hj,hy0,hy1,hy2⟩:=info_parts qk6;have hx4:(w3.setCell ⟨wq.heap.size,3,none⟩ (.slice (some ⟨gc,0,none⟩) (k+3) cc)).heap[wq.heap.size]?=some (.cells #[.slice vo k vc,.slice (some ⟨ga,0,none⟩) (k+1) ca,.slice (some ⟨gb,0,none⟩) (k+2) cb,.slice (some ⟨gc,0,none⟩) (k+3) cc,.int .i64 es.length] 89):=(by simpa using qp (i:=3) (qb HX3) (.slice (some ⟨gc,0,none⟩) (k+3) cc));have hB4:But (fun j=>(Value.slice vo k vc).ownBlock=some j) w (w3.setCell ⟨wq.heap.size,3,none⟩ (.slice (some ⟨gc,0,none⟩) (k+3) cc)):=(qb HB3).setCell (p:=⟨wq.heap.size,3,none⟩) (.inr (by simp;omega)) _;have hA4:=(qb HA3).set (qb HX3) (by decide) 3 (.slice (some ⟨gc,0,none⟩) (k+3) cc);have hS4:=(qb HS3).set (qb HX3) (by decide) 3 (.slice (some ⟨gc,0,none⟩) (k+3) cc);have hC4:=(qb HC3).set (qb HX3) (by decide) 3 (.slice (some ⟨gc,0,none⟩) (k+3) cc);have hO4:=ownsRow_setCell_other (qb HO3) (a:=⟨wq.heap.size,3,none⟩) ((qb HV0) _ (by simp;omega)) (.slice (some ⟨gc,0,none⟩) (k+3) cc);have hz4:wq.heap.size+1<(w3.setCell ⟨wq.heap.size,3,none⟩ (.slice (some ⟨gc,0,none⟩) (k+3) cc)).heap.size:=(by simpa[World.setCell] using hsz3);clear HX3 HB3 HA3 HS3 HC3 HO3 x3 y3;generalize w3.setCell ⟨wq.heap.size,3,none⟩ (.slice (some ⟨gc,0,none⟩) (k+3) cc)=w4 at *;have hK4:vI 89 w4 base (.slice ro es.length rc) es:=qi (qb HK) hB4 hkne;have hW4:w4.heap[wb]?=some (.cells cs 39):=hB4.heap (qb HBX) ((qb HVT) _ _ _ _ (qb HBX) (by decide));have hkw:(Value.slice ro es.length rc).ownBlock≠some wb:=qq hK4 hW4 (by decide);have hkx:(Value.slice ro es.length rc).ownBlock≠some wq.heap.size:=fun e=>by have:=(World.ownsRow.lt (qb HK) _ e).2;omega
   have hwx:wb≠wq.heap.size:=fun e=>by have:=qh (qb HBX);omega
   have q0:w4.cell? ⟨wb,6,none⟩=some (.slice ro es.length rc):=(qe hW4 6).trans (qb HCS);have q1:w4.frozen? ⟨wb,6,none⟩=false:=qj hW4 6;have q2:w4.cell? ⟨wq.heap.size,0,none⟩=some (.slice vo k vc):=qe hx4 0;have q3:w4.cell? ⟨wq.heap.size,1,none⟩=some (.slice (some ⟨ga,0,none⟩) (k+1) ca):=qe hx4 1;have q4:w4.cell? ⟨wq.heap.size,2,none⟩=some (.slice (some ⟨gb,0,none⟩) (k+2) cb):=qe hx4 2;have q5:w4.cell? ⟨wq.heap.size,3,none⟩=some (.slice (some ⟨gc,0,none⟩) (k+3) cc):=qe hx4 3;have q6:w4.cell? ⟨wq.heap.size,4,none⟩=some (.int .i64 es.length):=qe hx4 4;have lw:wb<w4.heap.size:=qh hW4;have lx:wq.heap.size<w4.heap.size:=(by omega);have HB4:=qg hB4;have HA4:=qg hA4;have HS4:=qg hS4;have HC4:=qg hC4;have HO4:=qg hO4;have HK4:=qg hK4;have HW4:=qg hW4;have HKW:=qg hkw;have HKX:=qg hkx;have hcap:Hid (base<=w4.heap.size):=(by show _<=_;omega);clear hB4 hA4 hS4 hC4 hO4 hK4 hW4 hx4 hkne hkw hkx
   go_region_law
    ((refine step_append_lies _ (by rfl) _ _ _ (by rfl) base 89 j0 _ 5 104 Tryz.underlying35 hj hy0 hy1 hy2 rfl (by omega) (.slice ro es.length rc) es.length (zQ es) (by rfl) (World.ownsRow.drew (World.ownsRow.alloc (qb HK4) _)) ⟨w4.heap.size,0,none⟩ 1 1 (xw ⟨.slice vo k vc,.slice (some ⟨ga,0,none⟩) (k+1) ca,.slice (some ⟨gb,0,none⟩) (k+2) cb,.slice (some ⟨gc,0,none⟩) (k+3) cc,es.length⟩) (by rfl) (by rfl) (xT (ZK _ _ _ (by simp))) (XQ _ _ _ _ _ _ _ _ _ _ _ _ _) (by omega) (by unfold maxLen;omega) (by omega) (by have:=qb hcap;simp;omega) (w4.heap.size+1) (by simp) ?_;intro gg gk w5 hown1 hgrow hat hltg;have qf:w5.frozen? ⟨wb,6,none⟩=false:=(hgrow.frozen_far ⟨wb,6,none⟩ (zzm lw (by show _<=(w4.heap.push _).size;rw[Array.size_push];omega)) (Ne.symm (qb HKW))).trans ((World.frozen?_of_block (w:=w4) (Below.heap_alloc _ _ _ lw)).trans q1);have qc:w5.cell? ⟨wb,6,none⟩=some (.slice ro es.length rc):=(hgrow.cell_far ⟨wb,6,none⟩ (zzm lw (by show _<=(w4.heap.push _).size;rw[Array.size_push];omega)) (Ne.symm (qb HKW))).trans ((World.cell?_of_block (w:=w4) (Below.heap_alloc _ _ _ lw)).trans q0)))
   all_goals
    go_end0;refine⟨rfl,.slice (some ⟨gg,0,none⟩) (es.length+1) gk,⟨.slice vo k vc,.slice (some ⟨ga,0,none⟩) (k+1) ca,.slice (some ⟨gb,0,none⟩) (k+2) cb,.slice (some ⟨gc,0,none⟩) (k+3) cc,es.length⟩,?_⟩;have hdr:w4.grownBy w5 (Value.slice ro es.length rc).ownBlock:=zB (World.grownBy_alloc w4 _ _) (zB (km _ 1 _) hgrow);exact JA (qb HB4) (qb HO4) (qb HA4) (qb HS4) (qb HC4) (qb HK4) (qb HW4) hdr hown1 hat (by omega) hn (by omega) (by decide) (by decide) (by decide) (fun j e=>by simp only[Value.ownBlock,Option.some.injEq] at e;subst e;exact qb HLA) (fun j e=>by simp only[Value.ownBlock,Option.some.injEq] at e;subst e;exact qb HLB) (fun j e=>by simp only[Value.ownBlock,Option.some.injEq] at e;subst e;exact qb HLC)
theorem Vu:(Tryz.prog.info? 195).map (fun i=>(i.zero,i.size,i.bytes))=some (some (.agg #[.slice none 0 0,.int .i64 0]),2,32):=by kernel_rfl
theorem qe6:(Tryz.prog.info? 52).map (fun i=>(i.zero,i.size,i.bytes))=some (some (.agg #[.int .i64 0,.int .i64 0,.int .i64 0,.int .i64 0,.int .i64 0,.int .i64 0,.slice none 0 0,.int .i64 0]),8,80):=by kernel_rfl
theorem qf5 {w:World}{b off n cap:Nat}{xs:List Value}(hlen:xs.length=n*1)(hc:∀ (j:Nat)(u:Value),xs[j]?=some u->w.cell? ⟨b,off+j,none⟩=some u)(h1:∀ u∈xs,u.oneCell'=true)(hn:n<=100000000)(hlt:xs≠[]->b<w.heap.size) :
 Calls Tryz.prog 94 #[.slice (some ⟨b,off,none⟩) n cap] w fun e w'=>(∃ cv,e=.returned cv/\w'.ownsRow w.heap.size 3 1 cv n xs)/\Below w.heap.size w w':=by
 obtain⟨w1,hw1⟩:∃ w1:World,w1=w.alloc (.cells #[] 3):=⟨_,rfl⟩;have hB1:Below w.heap.size w w1:=(by rw[hw1];exact (Below.refl _ w).alloc (zzl _) _);have hN1:w1.heap[w.heap.size]?=some (.cells #[] 3):=(by rw[hw1];exact qt _ _ _ rfl);have hO1:w1.ownsRow w.heap.size 3 1 (.slice (some ⟨w.heap.size,0,none⟩) 0 0) 0 []:=⟨rfl,.inr ⟨w.heap.size,0,_,rfl,zzl _,hN1,zzl _,Nat.zero_le _,rfl,rfl⟩⟩;obtain⟨i0',hi',hz0,hz1,hz2⟩:=info_parts yg;obtain⟨v',w2,hrun,hO2,hg2,_,_⟩:=run_append_own_at (P:=Tryz.prog) (w:=w1) w.heap.size 50 50 3 i0' _ 1 8 Tryz.underlying50 hi' hz0 hz1 hz2 rfl (by decide) (.slice (some ⟨w.heap.size,0,none⟩) 0 0) 0 [] hO1 ⟨b,off,none⟩ n cap xs hlen (by
  intro j u hj;have hb:b<w.heap.size:=hlt (by intro e;rw[e] at hj;simp at hj);rw[Zy];exact (World.cell?_of_block (hB1.block b hb)).trans (hc j u hj)) h1 (by simp only[maxLen];omega) (by omega) hB1.size
 have hB2:Below w.heap.size w w2:=hB1.trans ((But.of_grown (S:=fun k=>k=w.heap.size) hg2 (fun k e=>(Option.some.inj e).symm)).below hB1.size (fun k e=>by rw[e];exact zzl _));have hO2':w2.ownsRow w.heap.size 3 1 v' n xs:=(by rw[Nat.zero_add] at hO2;exact hO2);have hen:(binOp .eql 50 (.slice (some ⟨b,off,none⟩) n cap) (.slice none 0 0)).run Tryz.prog w=.ok (.bool false) w:=Lib.run_eql_slice_nil w _ _ _ _ _ _ _ Tryz.underlying50;rw[hw1] at hrun;have HR:=qg hrun;have HO2:=qg hO2';have HB2:=qg hB2;have HW1:=qg hw1;clear hO2 hO2' hB2 hg2 hrun hO1 hN1 hB1 hi' hz0 hz1 hz2 hw1 h1 hlen hc hlt
 go_enter Tryz.func94,Tryz.ntmps94
 go_wp2_with (at_builtin;refine zq rfl _ _ 50 50 rfl rfl _ _ _ _ rfl rfl (qb HR) ?_)
 go_ret;exact⟨⟨_,rfl,qb HO2⟩,qb HB2⟩
theorem ze0 {w:World}{b off n cap:Nat}{xs:List Value}(hlen:xs.length=n*8)(hc:∀ (j:Nat)(u:Value),xs[j]?=some u->w.cell? ⟨b,off+j,none⟩=some u)(h1:∀ u∈xs,u.oneCell'=true)(hn:n<=100000000)(hlt:xs≠[]->b<w.heap.size) :
 Calls Tryz.prog 126 #[.slice (some ⟨b,off,none⟩) n cap] w fun e w'=>(∃ cv,e=.returned cv/\w'.ownsRow w.heap.size 52 8 cv n xs)/\Below w.heap.size w w':=by
 obtain⟨w1,hw1⟩:∃ w1:World,w1=w.alloc (.cells #[] 52):=⟨_,rfl⟩;have hB1:Below w.heap.size w w1:=(by rw[hw1];exact (Below.refl _ w).alloc (zzl _) _);have hN1:w1.heap[w.heap.size]?=some (.cells #[] 52):=(by rw[hw1];exact qt _ _ _ rfl);have hO1:w1.ownsRow w.heap.size 52 8 (.slice (some ⟨w.heap.size,0,none⟩) 0 0) 0 []:=⟨rfl,.inr ⟨w.heap.size,0,_,rfl,zzl _,hN1,zzl _,Nat.zero_le _,rfl,rfl⟩⟩;obtain⟨i0',hi',hz0,hz1,hz2⟩:=info_parts qe6;obtain⟨v',w2,hrun,hO2,hg2,_,_⟩:=run_append_own_at (P:=Tryz.prog) (w:=w1) w.heap.size 53 53 52 i0' _ 8 80 Tryz.underlying53 hi' hz0 hz1 hz2 rfl (by decide) (.slice (some ⟨w.heap.size,0,none⟩) 0 0) 0 [] hO1 ⟨b,off,none⟩ n cap xs hlen (by
  intro j u hj;have hb:b<w.heap.size:=hlt (by intro e;rw[e] at hj;simp at hj);rw[Zy];exact (World.cell?_of_block (hB1.block b hb)).trans (hc j u hj)) h1 (by simp only[maxLen];omega) (by omega) hB1.size
 have hB2:Below w.heap.size w w2:=hB1.trans ((But.of_grown (S:=fun k=>k=w.heap.size) hg2 (fun k e=>(Option.some.inj e).symm)).below hB1.size (fun k e=>by rw[e];exact zzl _));have hO2':w2.ownsRow w.heap.size 52 8 v' n xs:=(by rw[Nat.zero_add] at hO2;exact hO2);have hen:(binOp .eql 53 (.slice (some ⟨b,off,none⟩) n cap) (.slice none 0 0)).run Tryz.prog w=.ok (.bool false) w:=Lib.run_eql_slice_nil w _ _ _ _ _ _ _ Tryz.underlying53;rw[hw1] at hrun;have HR:=qg hrun;have HO2:=qg hO2';have HB2:=qg hB2;have HW1:=qg hw1;clear hO2 hO2' hB2 hg2 hrun hO1 hN1 hB1 hi' hz0 hz1 hz2 hw1 h1 hlen hc hlt
 go_enter Tryz.func126,Tryz.ntmps126
 go_wp2_with (at_builtin;refine zq rfl _ _ 53 53 rfl rfl _ _ _ _ rfl rfl (qb HR) ?_)
 go_ret;exact⟨⟨_,rfl,qb HO2⟩,qb HB2⟩
theorem zd9 {w:World}{b off n cap:Nat}{xs:List Value}(hlen:xs.length=n*2)(hc:∀ (j:Nat)(u:Value),xs[j]?=some u->w.cell? ⟨b,off+j,none⟩=some u)(h1:∀ u∈xs,u.oneCell'=true)(hn:n<=100000000)(hlt:xs≠[]->b<w.heap.size) :
 Calls Tryz.prog 138 #[.slice (some ⟨b,off,none⟩) n cap] w fun e w'=>(∃ cv,e=.returned cv/\w'.ownsRow w.heap.size 195 2 cv n xs)/\Below w.heap.size w w':=by
 obtain⟨w1,hw1⟩:∃ w1:World,w1=w.alloc (.cells #[] 195):=⟨_,rfl⟩;have hB1:Below w.heap.size w w1:=(by rw[hw1];exact (Below.refl _ w).alloc (zzl _) _);have hN1:w1.heap[w.heap.size]?=some (.cells #[] 195):=(by rw[hw1];exact qt _ _ _ rfl);have hO1:w1.ownsRow w.heap.size 195 2 (.slice (some ⟨w.heap.size,0,none⟩) 0 0) 0 []:=⟨rfl,.inr ⟨w.heap.size,0,_,rfl,zzl _,hN1,zzl _,Nat.zero_le _,rfl,rfl⟩⟩;obtain⟨i0',hi',hz0,hz1,hz2⟩:=info_parts Vu;obtain⟨v',w2,hrun,hO2,hg2,_,_⟩:=run_append_own_at (P:=Tryz.prog) (w:=w1) w.heap.size 109 109 195 i0' _ 2 32 Tryz.underlying109 hi' hz0 hz1 hz2 rfl (by decide) (.slice (some ⟨w.heap.size,0,none⟩) 0 0) 0 [] hO1 ⟨b,off,none⟩ n cap xs hlen (by
  intro j u hj;have hb:b<w.heap.size:=hlt (by intro e;rw[e] at hj;simp at hj);rw[Zy];exact (World.cell?_of_block (hB1.block b hb)).trans (hc j u hj)) h1 (by simp only[maxLen];omega) (by omega) hB1.size
 have hB2:Below w.heap.size w w2:=hB1.trans ((But.of_grown (S:=fun k=>k=w.heap.size) hg2 (fun k e=>(Option.some.inj e).symm)).below hB1.size (fun k e=>by rw[e];exact zzl _));have hO2':w2.ownsRow w.heap.size 195 2 v' n xs:=(by rw[Nat.zero_add] at hO2;exact hO2);have hen:(binOp .eql 109 (.slice (some ⟨b,off,none⟩) n cap) (.slice none 0 0)).run Tryz.prog w=.ok (.bool false) w:=Lib.run_eql_slice_nil w _ _ _ _ _ _ _ Tryz.underlying109;rw[hw1] at hrun;have HR:=qg hrun;have HO2:=qg hO2';have HB2:=qg hB2;have HW1:=qg hw1;clear hO2 hO2' hB2 hg2 hrun hO1 hN1 hB1 hi' hz0 hz1 hz2 hw1 h1 hlen hc hlt
 go_enter Tryz.func138,Tryz.ntmps138
 go_wp2_with (at_builtin;refine zq rfl _ _ 109 109 rfl rfl _ _ _ _ rfl rfl (qb HR) ?_)
 go_ret;exact⟨⟨_,rfl,qb HO2⟩,qb HB2⟩
theorem zd8 (w:World):Calls Tryz.prog 138 #[.slice none 0 0] w fun e w'=>e=.returned (.slice none 0 0)/\w'=w:=by
 have hen:(binOp .eql 109 (.slice none 0 0) (.slice none 0 0)).run Tryz.prog w=.ok (.bool true) w:=Lib.run_eql_slice_nil w _ _ _ _ _ _ _ Tryz.underlying109
 go_enter Tryz.func138,Tryz.ntmps138
 go_wp2;go_ret;exact⟨rfl,rfl⟩
theorem RdN.wide {U V:Nat->Prop}{w:World}{v:Value}{l:List Int}(h:RdN U w v l)(hu:∀ k,U k->V k):RdN V w v l:=by
 obtain⟨ao,cap,e,h1,h2,h3⟩:=h;refine⟨ao,cap,e,h1,h2,fun hne=>?_⟩;obtain⟨b,off,e,hb,hlt,hc⟩:=h3 hne;exact⟨b,off,e,hu b hb,hlt,hc⟩
theorem RdO.wide {U V:Nat->Prop}{w:World}{v:Value}{l:List Opn}(h:RdO U w v l)(hu:∀ k,U k->V k):RdO V w v l:=by
 obtain⟨ao,cap,e,h1,h2,h3⟩:=h;refine⟨ao,cap,e,h1,h2,fun hne=>?_⟩;obtain⟨b,off,e,hb,hlt,hc⟩:=h3 hne;refine⟨b,off,e,hu b hb,hlt,fun j o ho=>?_⟩;obtain⟨h0,h1,h2,h3,h4,h5,⟨pv,h6,h6'⟩,h7⟩:=hc j o ho;exact⟨h0,h1,h2,h3,h4,h5,⟨pv,h6,h6'.wide hu⟩,h7⟩
theorem RdN.lt {U:Nat->Prop}{w:World}{v:Value}{l:List Int}(h:RdN U w v l):RdN (fun q=>U q/\q<w.heap.size) w v l:=by
 obtain⟨ao,cap,e,h1,h2,h3⟩:=h;refine⟨ao,cap,e,h1,h2,fun hne=>?_⟩;obtain⟨b,off,e,hb,hlt,hc⟩:=h3 hne;exact⟨b,off,e,⟨hb,hlt⟩,hlt,hc⟩
theorem RdO.lt {U:Nat->Prop}{w:World}{v:Value}{l:List Opn}(h:RdO U w v l):RdO (fun q=>U q/\q<w.heap.size) w v l:=by
 obtain⟨ao,cap,e,h1,h2,h3⟩:=h;refine⟨ao,cap,e,h1,h2,fun hne=>?_⟩;obtain⟨b,off,e,hb,hlt,hc⟩:=h3 hne;refine⟨b,off,e,⟨hb,hlt⟩,hlt,fun j o ho=>?_⟩;obtain⟨h0,h1,h2,h3,h4,h5,⟨pv,h6,h6'⟩,h7⟩:=hc j o ho;exact⟨h0,h1,h2,h3,h4,h5,⟨pv,h6,h6'.lt⟩,h7⟩
theorem zh.rdv {w:World}{base:Nat}{v:Value}{l:List Int}(h:zh w base v l){V:Nat->Prop}(hV:∀ k,v.ownBlock=some k->V k):RdN V w v l:=h.rd.wide hV
def mof (o:Opn)(pv:Value):MOp:=⟨o.kind,o.surf,o.x,o.y,o.w,o.h,pv,o.mark⟩
def mkO (l:List Opn)(pv:Nat->Value):List MOp:=l.mapIdx fun j o=>mof o (pv j)
theorem yw (l:List Opn)(pv:Nat->Value):(mkO l pv).length=l.length:=by simp[mkO]
theorem Vk (l:List Opn)(pv:Nat->Value)(j:Nat):(mkO l pv)[j]?=(l[j]?).map fun o=>mof o (pv j):=by simp[mkO]
theorem qe0 (l:List Opn)(pv:Nat->Value)(k:Nat)(u:Value)(hk:k<l.length):(zv (mkO l pv)).set (k*8+6) u=zv (mkO l fun j=>if j=k then u else pv j):=by
 apply List.ext_getElem?;intro i
 by_cases hi:i<l.length*8
 ·obtain⟨j,r,hr,rfl⟩:∃ j r,r<8/\i=j*8+r:=⟨i/8,i%8,by omega,by omega⟩;have hj:j<l.length:=(by omega);have e1:=Vk l pv j;have e2:=Vk l (fun j=>if j=k then u else pv j) j;rw[List.getElem?_eq_getElem hj] at e1 e2;simp only[Option.map_some] at e1 e2;rw[vn _ _ _ e2 r hr,List.getElem?_set]
  by_cases hq:k*8+6=j*8+r
  ·have ek:k=j:=(by omega);have er:r=6:=(by omega);subst ek er;rw[if_pos rfl,if_pos (by rw[zO,yw];omega)];simp[mcell,mof]
  ·rw[if_neg hq,vn _ _ _ e1 r hr]
   by_cases ej:j=k
   ·subst ej;have hr':r=0\/r=1\/r=2\/r=3\/r=4\/r=5\/r=7:=by omega
    rcases hr' with e | e | e | e | e | e | e<;>subst e<;>simp[mcell,mof]
   ·simp[ej]
 ·rw[List.getElem?_eq_none (by rw[List.length_set,zO,yw];omega),List.getElem?_eq_none (by rw[zO,yw];omega)]
theorem RdO.pvs {U:Nat->Prop}{w:World}{b off:Nat}(l:List Opn)(h:∀ (j:Nat)(o:Opn),l[j]?=some o->OAt U w b (off+j*8) o):∃ pv:Nat->Value,(∀ (j:Nat)(o:Opn),l[j]?=some o->RdN U w (pv j) o.px/\(pv j).oneCell'=true)/\∀ (t:Nat)(u:Value),(zv (mkO l pv))[t]?=some u->w.cell? ⟨b,off+t,none⟩=some u/\u.oneCell'=true:=by
 have hx:∀ j:Nat,∃ pv:Value,∀ o,l[j]?=some o->(w.cell? ⟨b,off+j*8+6,none⟩=some pv/\RdN U w pv o.px):=by
  intro j
  cases hj:l[j]? with
  | none=>exact⟨undef,fun o ho=>by cases ho⟩
  | some o=>
   obtain⟨h0,h1,h2,h3,h4,h5,⟨pv,h6,h6'⟩,h7⟩:=h j o hj;exact⟨pv,fun o' ho'=>by cases ho';exact⟨h6,h6'⟩⟩
 obtain⟨pv,hpv⟩:∃ pv:Nat->Value,∀ (j:Nat)(o:Opn),l[j]?=some o->(w.cell? ⟨b,off+j*8+6,none⟩=some (pv j)/\RdN U w (pv j) o.px):=⟨fun j=>Classical.choose (hx j),fun j=>Classical.choose_spec (hx j)⟩;refine⟨pv,fun j o ho=>?_,fun t u hu=>?_⟩
 ·have:=(hpv j o ho).2;refine⟨this,?_⟩;obtain⟨ao,cap,e,_⟩:=this;rw[e];rfl
 ·have ht:=(zzg hu).1;rw[zO,yw] at ht;obtain⟨j,r,hr,rfl⟩:∃ j r,r<8/\t=j*8+r:=⟨t/8,t%8,by omega,by omega⟩;have hj:j<l.length:=(by omega);have e1:=Vk l pv j;have hlj:l[j]?=some l[j]:=List.getElem?_eq_getElem hj;rw[hlj] at e1;simp only[Option.map_some] at e1;rw[vn _ _ _ e1 r hr] at hu;obtain⟨h0,h1,h2,h3,h4,h5,_,h7⟩:=h j _ hlj;obtain⟨h6,h6'⟩:=hpv j _ hlj;have hr':r=0\/r=1\/r=2\/r=3\/r=4\/r=5\/r=6\/r=7:=(by omega);have ho6:(pv j).oneCell'=true:=(by obtain⟨ao,cap,e,_⟩:=h6';rw[e];rfl);rw[<-Nat.add_assoc]
  rcases hr' with e | e | e | e | e | e | e | e<;>subst e<;>simp[mcell,mof] at hu<;>subst hu
  ·exact⟨h0,rfl⟩
  ·exact⟨h1,rfl⟩
  ·exact⟨h2,rfl⟩
  ·exact⟨h3,rfl⟩
  ·exact⟨h4,rfl⟩
  ·exact⟨h5,rfl⟩
  ·exact⟨h6,ho6⟩
  ·exact⟨h7,rfl⟩
def qy (o:Opn):Opn:=if o.kind=3 then o else {o with px:=[]}
theorem Kb (o:Opn)(pv:Value):mof (qy o) pv=mof o pv:=by unfold qy;split<;>rfl
structure xP (w wr:World)(g c':Nat)(l:List Opn)(k:Nat):Prop where
 own:∃ pv,vH wr w.heap.size (.slice (some ⟨g,0,none⟩) l.length c') (mkO l pv)/\∀ (j:Nat)(o:Opn),j<k->l[j]?=some o->RdN (fun q=>w.heap.size<=q/\q≠g) wr (pv j) (qy o).px
 bel:Below w.heap.size w wr
theorem y9 {w:World}{base:Nat}{v:Value}{l:List Opn}{pv:Nat->Value}:vH w base v (mkO l pv)=w.ownsRow base 52 8 v l.length (zv (mkO l pv)):=by unfold vH;rw[yw]
theorem xP.below {w wr w2:World}{g c':Nat}{l:List Opn}{k:Nat}(h:xP w wr g c' l k)(hb:Below wr.heap.size wr w2):xP w w2 g c' l k:=by
 obtain⟨pv,ho,hp⟩:=h.own;exact⟨⟨pv,qi (S:=fun _=>False) ho (.of_below hb) (fun _ _ h=>h),fun j o hj hl=>(hp j o hj hl).below hb⟩,h.bel.trans (hb.mono h.bel.size)⟩
theorem xP.set {w wr:World}{g c':Nat}{l:List Opn}{k:Nat}(h:xP w wr g c' l k)(hk:k<l.length)(u:Value):xP w (wr.setCell ⟨g,k*8+6,none⟩ u) g c' l k:=by
 obtain⟨pv,ho,hp⟩:=h.own;rw[y9] at ho;have h1:=(World.ownsRow.stored ho (k*8+6) u).1;rw[qe0 l pv k u hk] at h1;refine⟨⟨_,by rw[y9];exact h1,fun j o hj hl=>?_⟩,h.bel.setCell (p:=⟨g,k*8+6,none⟩) (World.ownsRow.lt ho g rfl).1 _⟩;have hne:¬j=k:=(by omega);simp only[hne,if_false];exact (hp j o hj hl).but (S:=fun q=>q=g) ((But.refl (fun q=>q=g) wr).setCell (p:=⟨g,k*8+6,none⟩) (.inl rfl) _) (fun q hq e=>hq.2 e)
theorem xP.next {w wr:World}{g c':Nat}{l:List Opn}{k:Nat}(h:xP w wr g c' l k){o:Opn}(hk:l[k]?=some o)(u:Value)(hu:RdN (fun q=>w.heap.size<=q/\q≠g) wr u (qy o).px):xP w (wr.setCell ⟨g,k*8+6,none⟩ u) g c' l (k+1):=by
 have hlt:=(zzg hk).1;obtain⟨pv,ho,hp⟩:=h.own;rw[y9] at ho;have h1:=(World.ownsRow.stored ho (k*8+6) u).1;rw[qe0 l pv k u hlt] at h1;have hs:But (fun q=>q=g) wr (wr.setCell ⟨g,k*8+6,none⟩ u):=(But.refl (fun q=>q=g) wr).setCell (p:=⟨g,k*8+6,none⟩) (.inl rfl) _;refine⟨⟨_,by rw[y9];exact h1,fun j o' hj hl=>?_⟩,h.bel.setCell (p:=⟨g,k*8+6,none⟩) (World.ownsRow.lt ho g rfl).1 _⟩
 by_cases e:j=k
 ·subst e;rw[hk] at hl
  cases hl
  simp only[if_true];exact hu.but hs (fun q hq e=>hq.2 e)
 ·simp only[e,if_false];exact (hp j o' (by omega) hl).but hs (fun q hq e=>hq.2 e)
theorem xP.cell {w wr:World}{g c':Nat}{l:List Opn}{k:Nat}(h:xP w wr g c' l k)(i:Nat)(hi:i<l.length*8):∃ u,wr.cell? ⟨g,i,none⟩=some u:=by
 obtain⟨pv,ho,_⟩:=h.own;rw[y9] at ho;rw[World.ownsRow.cellAt ho i hi];have hl:(zv (mkO l pv)).length=l.length*8:=ho.1;exact⟨(zv (mkO l pv))[i]'(by omega),by simp⟩
theorem xP.thaw {w wr:World}{g c':Nat}{l:List Opn}{k:Nat}(h:xP w wr g c' l k)(i:Nat):wr.frozen? ⟨g,i,none⟩=false:=by
 obtain⟨pv,ho,_⟩:=h.own;rw[y9] at ho;exact World.ownsRow.frozenAt ho i
theorem xP.rd {w wr:World}{g c':Nat}{l:List Opn}(h:xP w wr g c' l l.length):RdO (fun q=>w.heap.size<=q) wr (.slice (some ⟨g,0,none⟩) l.length c') (l.map qy):=by
 obtain⟨pv,ho,hp⟩:=h.own;have ho':=ho;rw[y9] at ho';have hg:=World.ownsRow.lt ho' g rfl;have hcap:l.length<=c'/\c'<=maxLen:=by
  rcases ho'.2 with ⟨e,_⟩ | ⟨k,c,cur,e,_,_,hc,hm,_,_⟩
  ·cases e
  ·simp only[Value.slice.injEq,Option.some.injEq,Addr.mk.injEq,and_true] at e;obtain⟨rfl,_,rfl⟩:=e;exact⟨hc,hm⟩
 refine⟨some ⟨g,0,none⟩,c',by simp,by simpa using hcap.1,hcap.2,fun _=>⟨g,0,rfl,hg.1,hg.2,fun j o hj=>?_⟩⟩;rw[List.getElem?_map] at hj
 cases hlj:l[j]? with
 | none=>rw[hlj] at hj;cases hj
 | some o'=>
  rw[hlj] at hj;simp only[Option.map_some,Option.some.injEq] at hj;subst hj;have hjl:=(zzg hlj).1;have e1:=Vk l pv j;rw[hlj] at e1;simp only[Option.map_some] at e1;rw[<-Kb] at e1;have c:∀ t,t<8->wr.cell? ⟨g,0+j*8+t,none⟩=(mcell (mof (qy o') (pv j)))[t]?:=fun t ht=>by
   rw[Nat.zero_add];exact QM ho (by rw[yw]) e1 t ht
  exact⟨c 0 (by omega),c 1 (by omega),c 2 (by omega),c 3 (by omega),c 4 (by omega),c 5 (by omega),⟨pv j,c 6 (by omega),(hp j o' hjl hlj).wide (fun q hq=>hq.1)⟩,c 7 (by omega)⟩
theorem qb2 (U:Nat->Prop)(ao:Option Addr)(cap:Nat)(l:List Opn)(w:World)(hR:RdO U w (.slice ao l.length cap) l)(hlen:1<=l.length/\l.length<=20)(hatt:∀ o∈l,o.kind=3->1<=o.px.length/\o.px.length<=64)(hU:∀ k,U k->k<w.heap.size) :
 Calls Tryz.prog 97 #[.slice ao l.length cap] w fun e w'=>∃ a' n' c',e=.returned (.slice a' n' c')/\RdO (fun q=>w.heap.size<=q) w' (.slice a' n' c') (l.map qy)/\Below w.heap.size w w':=by
 have hR':=hR;obtain⟨ao',cap',e,_,_,h3⟩:=hR';simp only[Value.slice.injEq,true_and] at e;obtain⟨rfl,rfl⟩:=e;obtain⟨b,off,rfl,_,hbl,hc⟩:=h3 (by intro e;subst e;simp at hlen);obtain⟨pv,hpv,qF⟩:=RdO.pvs l hc;have hCL:=ze0 (w:=w) (b:=b) (off:=off) (n:=l.length) (cap:=cap) (xs:=zv (mkO l pv)) (by rw[zO,yw]) (fun j u hu=>(qF j u hu).1) (fun u hu=>by
  obtain⟨j,hj⟩:=List.mem_iff_getElem?.1 hu;exact (qF j u hj).2) (by omega) (fun _=>hbl)
 have CL:Hid (Calls Tryz.prog 126 #[.slice (some ⟨b,off,none⟩) l.length cap] w fun e w'=>∃ g c',e=.returned (.slice (some ⟨g,0,none⟩) l.length c')/\xP w w' g c' l 0):=by
  refine hCL.mono ?_;rintro e w' ⟨⟨cv,rfl,ho⟩,hb⟩
  rcases ho.2 with ⟨_,e⟩ | ⟨g,c',cur,rfl,hrest⟩
  ·omega
  ·exact⟨g,c',rfl,⟨pv,by rw[y9];exact ho,fun j o hj=>by omega⟩,hb⟩
 have HR:=qg hR;have HAt:=qg hatt;have HU:=qg hU;clear hR hatt hU hCL qF hpv hc h3
 go_enter Tryz.func97,Tryz.ntmps97
 go_wp2_with fail
 refine (qb CL).mono ?_;rintro e w1 ⟨g,c',rfl,hK1⟩;have HK1:=qg hK1;clear CL hK1;go_wp2
 go_loopw [10] (fun i wr=>∃ k:Nat,k<=l.length/\i=.int .i64 k/\xP w wr g c' l k) (fun i _=>l.length-(intOf i).toNat)
 case atStart=>exact⟨0,Nat.zero_le _,rfl,qb HK1⟩
 case round=>
  rename World=>wq;obtain⟨k,hk,rfl,hK⟩:=hrel;clear HK1
  by_cases hlt:k<l.length
  ·obtain⟨o,ho⟩:∃ o,l[k]?=some o:=⟨l[k],by simp[hlt]⟩;have hR2:=(qb HR).below hK.bel;obtain⟨ao',cap',e,_,_,h3⟩:=hR2;simp only[Value.slice.injEq,true_and] at e;obtain⟨e1,rfl⟩:=e;obtain⟨b',off',e2,_,_,hc⟩:=h3 (by intro e;rw[e] at hlt;simp at hlt);rw[e2] at e1;simp only[Option.some.injEq,Addr.mk.injEq,and_true] at e1;obtain⟨rfl,rfl⟩:=e1;obtain⟨c0,c1,c2,c3,c4,c5,⟨pv,c6,hpv⟩,c7⟩:=hc k o ho;have hpv':=hpv;obtain⟨po,pc,epv,_⟩:=hpv;rw[epv] at c6 hpv';have hat:=(qb HAt) o (zzn ho);obtain⟨u6,hu6⟩:=hK.cell (k*8+6) (by omega);have hz:=hK.thaw;have lg:g<wq.heap.size:=World.block_lt_of_cell? wq _ hu6;have hz1:∀ (i:Nat)(ob:Obj),(wq.alloc ob).frozen? ⟨g,i,none⟩=false:=fun i ob=>(World.frozen?_of_block (w:=wq) (Below.heap_alloc _ _ _ lg)).trans (hz i);have i0:(0:Int)<=(k:Int):=(by omega);have i1:(k:Int)<(l.length:Int):=(by omega);have HK:=qg hK;have HPV:=qg hpv';have HO:=qg ho;have hgg:w.heap.size<=g:=by
    obtain⟨_,ho',_⟩:=hK.own;exact (World.ownsRow.lt ho' g rfl).1
   clear epv h3 hc ho hK hpv' e2
   by_cases h3k:o.kind=3
   ·have hat':=hat h3k;have hsp:(qy o).px=o.px:=(by simp[qy,h3k]);have HC:Hid (∀ w',RdN U w' (.slice po o.px.length pc) o.px->Calls Tryz.prog 94 #[.slice po o.px.length pc] w' fun e w2=>∃ a' n' c',e=.returned (.slice a' n' c')/\zh w2 w'.heap.size (.slice a' n' c') o.px/\Below w'.heap.size w' w2):=fun w' h=>by
     obtain⟨ao,cap,e,q1,q2,q3⟩:=h;simp only[Value.slice.injEq,true_and] at e;obtain⟨rfl,rfl⟩:=e;obtain⟨b,off,rfl,_,hlt,hc⟩:=q3 (by intro e;rw[e] at hat';simp at hat');refine (qf5 (w:=w') (b:=b) (off:=off) (n:=o.px.length) (cap:=pc) (xs:=o.px.map (Value.int .i64)) (by simp) (fun j u hj=>?_) (QU _) (by omega) (fun _=>hlt)).mono ?_
     ·rw[List.getElem?_map] at hj;obtain⟨x,hx,rfl⟩:=Option.map_eq_some_iff.1 hj;exact hc j x hx
     ·rintro e w2 ⟨⟨cv,rfl,ho⟩,hb⟩;obtain⟨ro,rc,rfl⟩:=qr ho;exact⟨_,_,_,rfl,ho,hb⟩
    have q3:(o.kind == 3)=true:=(by simp[h3k]);clear hat;have hpA:RdN U ((wq.setCell ⟨g,k*8+6,none⟩ (.slice none 0 0)).alloc (.cells #[.int .i64 3,.int .i64 o.surf,.int .i64 o.x,.int .i64 o.y,.int .i64 o.w,.int .i64 o.h,.slice po o.px.length pc,.int .i64 o.mark] 52)) (.slice po o.px.length pc) o.px:=
     (qb HPV).but (S:=fun q=>q=g) (((But.refl (fun q=>q=g) wq).setCell (p:=⟨g,k*8+6,none⟩) (.inl rfl) _).alloc _) (fun q hq e=>by
      have h1:=(qb HU) q hq;omega)
    have hKA:=((qb HK).set hlt (.slice none 0 0)).below ((Below.refl _ _).alloc (zzl _) (.cells #[.int .i64 3,.int .i64 o.surf,.int .i64 o.x,.int .i64 o.y,.int .i64 o.w,.int .i64 o.h,.slice po o.px.length pc,.int .i64 o.mark] 52));have HPA:=qg hpA;have HKA:=qg hKA;have HSP:=qg hsp;rw[h3k] at c0;have hszA:wq.heap.size<=((wq.setCell ⟨g,k*8+6,none⟩ (.slice none 0 0)).alloc (.cells #[.int .i64 3,.int .i64 o.surf,.int .i64 o.x,.int .i64 o.y,.int .i64 o.w,.int .i64 o.h,.slice po o.px.length pc,.int .i64 o.mark] 52)).heap.size:=(by simp[World.setCell]);have HSZ:=qg hszA;clear hpA hKA hsp hszA
    go_wp2_with fail
    refine ((qb HC) _ (qb HPA)).mono ?_;rintro e w3 ⟨a3,n3,c3',rfl,ho3,hb3⟩;have hK3:=(qb HKA).below hb3;obtain⟨u7,hu7⟩:=hK3.cell (k*8+6) (by omega);have hz3:=hK3.thaw;have hN3:=hK3.next (qb HO) (.slice a3 n3 c3') (by
     rw[qb HSP];refine ho3.rdv (fun q hq=>?_);have h1:=(World.ownsRow.lt ho3 q hq).1;have h2:=qb HSZ;exact⟨by omega,by omega⟩)
    have HN3:=qg hN3;clear hK3 hb3 HC HPA HKA hN3 ho3;go_wp2
    go_roundw
    case rel=>exact⟨k+1,by omega,by go_num,qb HN3⟩
    case measure=>simp[intOf];omega
   ·have q3:(o.kind == 3)=false:=(by simpa using h3k);have hN3:=(qb HK).next (qb HO) (.slice none 0 0) (by
     rw[show (qy o).px=[] by simp[qy,h3k]];exact⟨none,0,rfl,by simp,by simp[maxLen],fun h=>absurd rfl h⟩)
    have HN3:=qg hN3;clear hat hN3;go_wp2
    go_roundw
    case rel=>exact⟨k+1,by omega,by go_num,(qb HN3).below ((Below.refl _ _).alloc (zzl _) _)⟩
    case measure=>simp[intOf];omega
  ·have e:k=l.length:=(by omega);have HE:Hid (RdO (fun q=>w.heap.size<=q) wq (.slice (some ⟨g,0,none⟩) l.length c') (l.map qy)):=by
    rw[e] at hK;exact hK.rd
   have HB:=qg hK.bel;clear hK e;go_wp2;go_ret;exact⟨_,_,_,rfl,qb HE,qb HB⟩
end Go.Proofs.YtfnockbgkcgpkaaGreat
