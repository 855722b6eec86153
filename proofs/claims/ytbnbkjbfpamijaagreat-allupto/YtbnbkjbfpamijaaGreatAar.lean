import Derived.Test.YtbnbkjbfpamijaaGreatAaq
set_option linter.all false
set_option maxRecDepth 100000
set_option maxHeartbeats 0
namespace Go.Proofs.YtbnbkjbfpamijaaGreat
open Go.RowKit Go.Proofs.Panes
variable{b9 m w w2:World}{i n:Nat}
def xZ (a:hg):qY:=⟨a,List.replicate a.oA.toNat none,[],QQ a.w.toNat a.h.toNat a.behind,0⟩
def qf9 (b:hg)(a:World)(g:Ending)(c:World):Prop:=∃ (d h i j:Nat)(e:Nat->Nat),g=.returned (.tuple #[.pointer (some ⟨d,0,none⟩),.int .i64 0])/\qI e c d h i j (List.replicate b.oA.toNat none) (xZ b)/\(∀ f,e f≠0->a.heap.size<=f)/\Below a.heap.size a c
def Vi {c:hg}{d b:World}{kb:Nat}(L:w.heap.size<=w2.heap.size)(s:qy7 w2 m c.behind n)(t:Below m.heap.size m b9)(l:qy9 b9 d c.w.toNat c.h.toNat c.behind i)(u:Below d.heap.size d b)(o:Below w.heap.size w b)(v:b.heap[kb]?=some (.cells ((List.replicate c.oA.toNat (none:Option Nat)).map vK).toArray 104))(M:w.heap.size<=kb)(A:¬(w2.heap.size<=kb/\kb<m.heap.size))(B:¬(b9.heap.size<=kb/\kb<d.heap.size)):qf9 c w (.returned (.tuple #[.pointer (some ⟨b.heap.size,0,none⟩),.int .i64 0])) (b.alloc (.cells (Zf c kb c.oA.toNat n i 0) 108)):=by
 obtain⟨x,p⟩:=zx (b.alloc (.cells (Zf c kb c.oA.toNat n i 0) 108));rw[<-p];have q:Below b.heap.size b x:=(by rw[p];exact (aa _ b).alloc (zzl _) _);have y:x.heap[b.heap.size]?=some (.cells (Zf c kb c.oA.toNat n i 0) 108):=(by rw[p];exact qt _ _ _ rfl);have N:=s.2.size;have C:=t.size;have D:=l.2.size;have E:=u.size;have F:=qh v;have z:=u.trans (q.mono E);have G:=t.trans ((l.2.trans (z.mono D)).mono C);refine⟨b.heap.size,kb,n,i,fun a=>if a=kb\/a=b.heap.size then 1 else if w2.heap.size<=a/\a<m.heap.size then 2 else if b9.heap.size<=a/\a<d.heap.size then 3 else 0,rfl,⟨?_,?_,⟨by simp[xZ],fun H e=>?_,fun H O e=>?_⟩,?_,?_,by simp,by simp,fun a f=>?_⟩,fun a f=>?_,o.trans (q.mono o.size)⟩
 ·rw[aS];exact y
 ·exact (q.block _ F).trans v
 ·simp only[xZ] at e;rw[bD] at e ⊢;split at e
  ·rename_i I;rw[an I]
  ·simp at e
 ·simp only[xZ] at e;rw[bD] at e;split at e<;>simp at e
 ·refine ((s.1 _).below G).mono (fun a f=>?_) (fun a f=>f);have j:w2.heap.size<=a/\a<m.heap.size:=f;have g:¬(a=kb\/a=b.heap.size):=by
   rintro (h | h)
   ·exact A (h ▸ j)
   ·omega
  show (if a=kb\/a=b.heap.size then 1 else if w2.heap.size<=a/\a<m.heap.size then 2 else if b9.heap.size<=a/\a<d.heap.size then 3 else 0)=2;rw[ah g,an j]
 ·obtain⟨⟨J,K⟩,_⟩:=l;refine⟨J,(K.below z).mono (fun a f=>?_)⟩;have j:b9.heap.size<=a/\a<d.heap.size:=f;have g:¬(a=kb\/a=b.heap.size):=by
   rintro (h | h)
   ·exact B (h ▸ j)
   ·omega
  have k:¬(w2.heap.size<=a/\a<m.heap.size):=(by omega);show (if a=kb\/a=b.heap.size then 1 else if w2.heap.size<=a/\a<m.heap.size then 2 else if b9.heap.size<=a/\a<d.heap.size then 3 else 0)=3;rw[ah g,ah k,an j]
 ·have P:=qh y;by_cases g:a=kb\/a=b.heap.size
  ·rcases g with h | h<;>omega
  ·by_cases k:w2.heap.size<=a/\a<m.heap.size
   ·omega
   ·by_cases r:b9.heap.size<=a/\a<d.heap.size
    ·omega
    ·simp[g,k,r] at f
 ·by_cases g:a=kb\/a=b.heap.size
  ·have:=o.size;rcases g with h | h<;>omega
  ·by_cases k:w2.heap.size<=a/\a<m.heap.size
   ·omega
   ·by_cases r:b9.heap.size<=a/\a<d.heap.size
    ·omega
    ·simp[g,k,r] at f
def qt4:(Tryz.prog.info? 104).map (fun a=>(a.zero,a.size,a.bytes))=some (some (.pointer none),1,8):=by kernel_rfl
def qs6 (a:Nat)(j:a<=1000)(b:World):(Instr.makeSlice 103 (.int .i64 (a:Int)) (.int .i64 (a:Int))).run Tryz.prog b=.ok (.slice (some ⟨b.heap.size,0,none⟩) a a) (b.alloc (.cells ((List.replicate a (none:Option Nat)).map vK).toArray 104)):=by
 obtain⟨d,e,f,g,h⟩:=aZ qt4;have c:=fQ (P:=Tryz.prog) b 103 104 d _ Tryz.underlying103 e f .i64 .i64 (a:Int) (a:Int) (by omega) (co _) (by rw[h];omega) (by omega);simp only[bF,g] at c;have i:madeCells (Value.pointer none).cells (a*1)=((List.replicate a (none:Option Nat)).map vK).toArray:=(by apply fx;rw[show (Value.pointer none).cells=#[Value.pointer none] from rfl,eN];simp[vK]);rw[<-i];simpa[Value.cells] using c
def Vd (c:hg)(a:World)(d:jU c=false):Calls Tryz.prog 37 #[vF c] a fun b g=>b=.returned (.tuple #[.pointer none,.int .i64 2])/\Below a.heap.size a g:=by
 obtain⟨h,i,j,b,k,l,m,n⟩:=c;have e:=fun a=>by
  have:=QK ⟨h,i,j,b,k,l,m,n⟩ a;rw[d] at this;exact this
 unfold vF;simp only;clear d;go_enter Tryz.func37,Tryz.ntmps37;go_wp2_with fail
 refine ((qb e) _).mono ?_;rintro b p ⟨rfl,f⟩;have o:=qg (((aa _ a).alloc (zzl _) _).trans (f.mono (by simp)));clear f e;go_wp2;go_ret2
 exact⟨rfl,qb o⟩
def Yb (f:hg)(e:World)(D:jU f=true)(k:Nat)(L:f.oA=k):Calls Tryz.prog 37 #[vF f] e (qf9 f e):=by
 have a1:(1<=f.w/\f.w<=16)/\(1<=f.h/\f.h<=16)/\(1<=f.oA/\f.oA<=4):=(by have:=D;simp only[jU,aK,jh] at this;exact⟨this.1.1.1.1.1.1.1,this.1.1.1.1.1.1.2,this.1.1.1.1.1.2⟩);obtain⟨m,M⟩:∃ m:Nat,f.w=m:=⟨f.w.toNat,by omega⟩;obtain⟨n,N⟩:∃ n:Nat,f.h=n:=⟨f.h.toNat,by omega⟩;have u:=qg (QK f);rw[D] at u;obtain⟨b4,b5,b6,x,y,z,g,r⟩:=f;simp only at M N L a1;subst M N L;unfold vF at u ⊢;simp only at u ⊢;have a2:=qs6 k (by omega);obtain⟨h,E⟩:=zx (((List.replicate k (none:Option Nat)).map vK).toArray);simp only[<-E] at a2;have F:=qg E;clear E;have a3:=qg (X8 r);have a4:=fun e=>Xl m n r e (by omega);clear D;go_enter Tryz.func37,Tryz.ntmps37;go_wp2_with fail
 refine ((qb u) _).mono ?_;rintro O b ⟨rfl,G⟩;have P:=((aa _ e).alloc (zzl _) _).trans (G.mono (by simp));have A:=(G.block _ (by simp)).trans (qt _ _ _ rfl);obtain⟨Q,R,S,T,U,V,W,X,-⟩:=zzc A;have a5:=qh A;have b7:e.heap.size≠b.heap.size:=(by omega);have s:=qg P;have b8:=qg A;have i:Hid (∀ j,Below b.heap.size b j->∀ o:Nat,j.cell? ⟨e.heap.size,o,none⟩=b.cell? ⟨e.heap.size,o,none⟩):=fun j d o=>d.cell a5;have a6:Hid (∀ a,Below b.drew.heap.size b.drew a->Below b.heap.size b a):=fun a g=>(aa _ b).drew.trans g;have a7:Hid (∀ a:World,Below (b.alloc (Obj.cells h 104)).drew.heap.size (b.alloc (Obj.cells h 104)).drew a->Below b.heap.size b a):=fun a l=>(((aa _ b).alloc (zzl _) _).drew).trans (l.mono (by show _<=(b.heap.push _).size;rw[bJ];omega));have a8:Hid (∀ a:World,Below (b.alloc (Obj.cells h 104)).drew.heap.size (b.alloc (Obj.cells h 104)).drew a->a.heap[b.heap.size]?=some (Obj.cells h 104)):=fun a l=>(l.block _ (by show _<(b.heap.push _).size;rw[bJ];omega)).trans (qt _ _ _ rfl);have a9:Hid (∀ a c:World,Below b.heap.size b a->Below a.heap.size a c->Below b.heap.size b c):=fun a c g p=>g.trans (p.mono g.size);have b0:Hid (∀ a c:World,Below b.heap.size b a->Below (a.alloc (Obj.cells h 104)).heap.size (a.alloc (Obj.cells h 104)) c->Below b.heap.size b c):=fun a c g p=>(g.alloc g.size _).trans (p.mono (by have:=g.size;show _<=(a.heap.push _).size;rw[bJ];omega));have b1:Hid (∀ a c:World,Below (a.alloc (Obj.cells h 104)).heap.size (a.alloc (Obj.cells h 104)) c->c.heap[a.heap.size]?=some (Obj.cells h 104)):=fun a c p=>(p.block _ (by show _<(a.heap.push _).size;rw[bJ];omega)).trans (qt _ _ _ rfl);have b2:Hid (∀ a c:World,∀ o,a.heap[o]?=some (Obj.cells h 104)->Below a.heap.size a c->c.heap[o]?=some (Obj.cells h 104)):=fun a c o g p=>(p.block _ (qh g)).trans g;clear G P A u;go_wp2_with fail
 go_region_held3 (fun j=>j.cell? ⟨e.heap.size,0,none⟩=some (.int .i64 (m:Int))/\j.cell? ⟨e.heap.size,1,none⟩=some (.int .i64 (n:Int))/\j.cell? ⟨e.heap.size,2,none⟩=some (.int .i64 (k:Int))/\j.cell? ⟨e.heap.size,3,none⟩=some (.int .i64 x)/\j.cell? ⟨e.heap.size,4,none⟩=some (.int .i64 y)/\j.cell? ⟨e.heap.size,5,none⟩=some (.int .i64 z)/\j.cell? ⟨e.heap.size,6,none⟩=some (.int .i64 g)/\j.cell? ⟨e.heap.size,7,none⟩=some (.int .i64 r))
  (first | (refine⟨?_,?_,?_,?_,?_,?_,?_,?_⟩<;>assumption) | go_keep)
  (first
    | (go_at_call 68
       refine ((qb a3) _).mono ?_
       rintro O a ⟨b9,rfl,H⟩
       have l:=H.2
       have B:=qg H
       clear H
       have d:Below b.heap.size b a:=by first | exact (qb a6) a l | exact (qb a7) a l
       have c0:=((qb i) a d 0).trans Q
       have c1:=((qb i) a d 1).trans R
       have c2:=((qb i) a d 2).trans S
       have c3:=((qb i) a d 3).trans T
       have c4:=((qb i) a d 4).trans U
       have c5:=((qb i) a d 5).trans V
       have c6:=((qb i) a d 6).trans W
       have c7:=((qb i) a d 7).trans X
       try
         have b3:=qg ((qb a8) a l)
       have Y:=qg d
       have c8:=d.size
       have c9:e.heap.size<a.heap.size:=by omega
       clear d l)
    | (go_at_call 69
       refine ((qb a4) _).mono ?_
       rintro O c ⟨d0,rfl,I⟩
       have v:=I.2
       have C:=qg I
       clear I
       have d:Below b.heap.size b c:=by first | exact (qb a9) a c (qb Y) v | exact (qb b0) a c (qb Y) v
       have d1:=((qb i) c d 0).trans Q
       have d2:=((qb i) c d 1).trans R
       have d3:=((qb i) c d 2).trans S
       have d4:=((qb i) c d 3).trans T
       have d5:=((qb i) c d 4).trans U
       have d6:=((qb i) c d 5).trans V
       have d7:=((qb i) c d 6).trans W
       have d8:=((qb i) c d 7).trans X
       try
         have J:=qg ((qb b1) a c v)
       try
         have J:=qg ((qb b2) a c _ (qb b3) v)
       have K:=qg d
       have d9:=d.size
       have e0:e.heap.size<c.heap.size:=by omega
       clear d v))
 ·go_wp2;go_ret2
  have q:=qb J;rw[qb F] at q;have t:=(qb s).trans ((qb K).mono (qb s).size);have Z:(b.alloc (Obj.cells h 104)).drew.heap.size=b.heap.size+1:=(by show (b.heap.push _).size=_;rw[bJ]);have a0:=(qb B).2.size;have w:=Vi (c:=⟨m,n,k,x,y,z,g,r⟩) (w:=e) (kb:=b.heap.size) (by omega) (qb B) (aa _ a) (qb C) (aa _ c) t q (by omega) (by omega) (by omega);exact w
 ·go_wp2;go_ret2
  have q:=qb J;rw[qb F] at q;have t:=(qb s).trans ((qb K).mono (qb s).size);have Z:b.drew.heap.size=b.heap.size:=rfl;have a0:(a.alloc (Obj.cells h 104)).heap.size=a.heap.size+1:=(by show (a.heap.push _).size=_;rw[bJ]);have w:=Vi (c:=⟨m,n,k,x,y,z,g,r⟩) (w:=e) (kb:=a.heap.size) (by omega) (qb B) ((aa _ a).alloc (zzl _) _) (qb C) (aa _ c) t q (by omega) (by omega) (by omega);exact w
 ·go_wp2;go_ret2
  have t:=(qb s).trans ((qb K).mono (qb s).size);have q:(c.alloc (Obj.cells h 104)).heap[c.heap.size]?=some (.cells ((List.replicate k (none:Option Nat)).map vK).toArray 104):=(by rw[qb F];exact qt _ _ _ rfl);have Z:b.drew.heap.size=b.heap.size:=rfl;have a0:=(qb C).2.size;have w:=Vi (c:=⟨m,n,k,x,y,z,g,r⟩) (w:=e) (kb:=c.heap.size) (by omega) (qb B) (aa _ a) (qb C) ((aa _ c).alloc (zzl _) (Obj.cells h 104)) (t.alloc t.size _) q (by omega) (by omega) (by omega);simpa[Zf] using w
end Go.Proofs.YtbnbkjbfpamijaaGreat
