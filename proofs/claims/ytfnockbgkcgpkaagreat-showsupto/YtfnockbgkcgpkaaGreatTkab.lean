import Derived.Test.YtfnockbgkcgpkaaGreatTkaa
import Derived.Test.YtfnockbgkcgpkaaGreatProg
import Derived.WalkKit
import Derived.WalkSmall
import Derived.KernelRfl
set_option linter.all false
set_option maxRecDepth 100000
set_option maxHeartbeats 16000000
namespace Go.Proofs.YtfnockbgkcgpkaaGreat
open Go.RowKit Go.Proofs.Panes
theorem qg {p:Prop}(h:p):Hid p:=h
theorem qb {p:Prop}(h:Hid p):p:=h
def vt (r:Rc):List Value:=[.int .i64 r.x,.int .i64 r.y,.int .i64 r.w,.int .i64 r.h]
def qK (l:List Rc):List Value:=l.flatMap vt
theorem xL (r:Rc)(l:List Rc):qK (r::l)=vt r++qK l:=rfl
theorem zp (k l:List Rc):qK (k++l)=qK k++qK l:=by simp[qK]
theorem qM (l:List Rc):(qK l).length=l.length*4:=by
 induction l with
 | nil=>rfl
 | cons r l ih=>rw[xL,List.length_append,ih];simp[vt];omega
theorem kL:∀ (l:List Rc)(j:Nat)(r:Rc),l[j]?=some r->
 (qK l)[j*4]?=some (.int .i64 r.x)/\(qK l)[j*4+1]?=some (.int .i64 r.y)/\(qK l)[j*4+2]?=some (.int .i64 r.w)/\(qK l)[j*4+3]?=some (.int .i64 r.h)
 | [],j,r,h=>by simp at h
 | q::l,0,r,h=>by
  simp at h;subst h;simp[xL,vt]
 | q::l,j+1,r,h=>by
  have h':l[j]?=some r:=(by simpa using h);have ih:=kL l j r h';rw[xL];have e:∀ t,(vt q++qK l)[(j+1)*4+t]?=(qK l)[j*4+t]?:=by
   intro t;rw[List.getElem?_append_right (by simp[vt];omega)]
   congr 1
   simp[vt];omega
  refine⟨by have:=e 0;simp only[Nat.add_zero] at this;rw[this];exact ih.1,by rw[e 1];exact ih.2.1,by rw[e 2];exact ih.2.2.1,by rw[e 3];exact ih.2.2.2⟩
def RAt (w:World)(b off:Nat)(r:Rc):Prop:=
 w.cell? ⟨b,off,none⟩=some (.int .i64 r.x)/\w.cell? ⟨b,off+1,none⟩=some (.int .i64 r.y)/\w.cell? ⟨b,off+2,none⟩=some (.int .i64 r.w)/\w.cell? ⟨b,off+3,none⟩=some (.int .i64 r.h)
def Rd (w:World)(v:Value)(l:List Rc):Prop:=
 ∃ ao cap,v=.slice ao l.length cap/\l.length<=cap/\cap<=maxLen/\(l≠[]->∃ b off,ao=some ⟨b,off,none⟩/\b<w.heap.size/\∀ j r,l[j]?=some r->RAt w b (off+j*4) r)
abbrev Own (w:World)(base:Nat)(v:Value)(l:List Rc):Prop:=w.ownsRow base 46 4 v l.length (qK l)
theorem Own.rd {w:World}{base:Nat}{v:Value}{l:List Rc}(h:Own w base v l):Rd w v l:=by
 rcases h.2 with ⟨rfl,hn⟩ | ⟨g,cap,cur,rfl,hb,hg,hc,hm,hs,ht⟩
 ·have:l=[]:=List.length_eq_zero_iff.1 hn;subst this;exact⟨none,0,rfl,by simp,by simp[maxLen],fun h=>absurd rfl h⟩
 ·refine⟨some ⟨g,0,none⟩,cap,rfl,hc,hm,fun _=>⟨g,0,rfl,(Array.getElem?_eq_some_iff.1 hg).1,fun j r hr=>?_⟩⟩;have hat:=kL l j r hr;have e:∀ t u,(qK l)[t]?=some u->w.cell? ⟨g,t,none⟩=some u:=by
   intro t u hu;have:=h.cells (g:=g) rfl t u hu;have hadd:(⟨g,0,none⟩:Addr).add t=⟨g,t,none⟩:=(by unfold Addr.add;split<;>simp_all);rwa[hadd] at this
  simp only[Nat.zero_add];exact⟨e _ _ hat.1,e _ _ hat.2.1,e _ _ hat.2.2.1,e _ _ hat.2.2.2⟩
theorem RAt.below {B:Nat}{w w':World}(hb:Below B w w'){b off:Nat}{r:Rc}(hlt:b<B)(h:RAt w b off r):RAt w' b off r:=
 ⟨(hb.cell (p:=⟨b,_,none⟩) hlt).trans h.1,(hb.cell (p:=⟨b,_,none⟩) hlt).trans h.2.1,(hb.cell (p:=⟨b,_,none⟩) hlt).trans h.2.2.1,(hb.cell (p:=⟨b,_,none⟩) hlt).trans h.2.2.2⟩
theorem zB {a b c:World}{row:Option Nat}(h:a.grownBy b row)(k:b.grownBy c row):a.grownBy c row:=
 ⟨k.os.trans h.os,k.tape.trans h.tape,k.output.trans h.output,Nat.le_trans h.size k.size,fun i hi hne=>(k.block i (zzm hi h.size) hne).trans (h.block i hi hne)⟩
theorem km (w:World)(n:Nat)(row:Option Nat):w.grownBy (w.drewN n) row:=⟨rfl,rfl,rfl,zzl _,fun _ _ _=>rfl⟩
theorem kj {w w':World}(h:Below w.heap.size w w')(row:Option Nat):w.grownBy w' row:=⟨h.os,h.tape,h.output,h.size,fun k hk _=>h.block k hk⟩
theorem Own.kept {w w':World}{base:Nat}{v:Value}{l:List Rc}(h:Own w base v l)(hb:Below w.heap.size w w'):Own w' base v l:=World.ownsRow.kept h (kj hb none) (by cases hv:v.ownBlock<;>simp)
theorem Own.mono {w:World}{base base':Nat}{v:Value}{l:List Rc}(h:Own w base v l)(hb:base'<=base):Own w base' v l:=
 ⟨h.1,h.2.imp id fun ⟨g,cap,cur,h1,h2,h3⟩=>⟨g,cap,cur,h1,Nat.le_trans hb h2,h3⟩⟩
theorem qt (w:World)(o:Obj)(n:Nat)(h:n=w.heap.size):(w.alloc o).heap[n]?=some o:=by subst h;exact heap_alloc_new w o
theorem qr3 {w:World}{base g n cap:Nat}{l:List Rc}(h:Own w base (.slice (some ⟨g,0,none⟩) n cap) l){j:Nat}{r:Rc}(hr:l[j]?=some r):RAt w g (j*4) r:=by
 obtain⟨ao,c,e,_,_,h3⟩:=h.rd;simp only[Value.slice.injEq] at e;obtain⟨rfl,rfl,rfl⟩:=e;obtain⟨b,off,e,_,hc⟩:=h3 (by intro e;subst e;simp at hr);simp only[Option.some.injEq,Addr.mk.injEq,and_true] at e;obtain⟨rfl,rfl⟩:=e;have:=hc j r hr;rwa[Nat.zero_add] at this
theorem xM {w:World}{base g n cap:Nat}{l:List Rc}(h:Own w base (.slice (some ⟨g,0,none⟩) n cap) l)(hn:n=l.length)(j:Nat):w.frozen? ⟨g,j,none⟩=false:=by
 subst hn;exact World.ownsRow.frozenAt h j
theorem zl {w w':World}{row:Option Nat}(h:w.grownBy w' row){k:Nat}{o:Obj}(hk:w.heap[k]?=some o)(hne:row≠some k):w'.heap[k]?=some o:=
 (h.block k (Array.getElem?_eq_some_iff.1 hk).1 (fun e=>hne e.symm)).trans hk
theorem qh {w:World}{k:Nat}{o:Obj}(hk:w.heap[k]?=some o):k<w.heap.size:=(Array.getElem?_eq_some_iff.1 hk).1
theorem yg:(Tryz.prog.info? 3).map (fun i=>(i.zero,i.size,i.bytes))=some (some (.int .i64 0),1,8):=by kernel_rfl
def mark (n:Int):Rc:=⟨-5000-n,0,0,0⟩
theorem VI (v:Value)(l:List Rc)(n:Int)(w:World)(hR:Rd w v l)(hl:l.length<=100000000)(hn:0<=n/\n<=100000000)(hm:∀ r∈l,r=mark n) :
 Calls Tryz.prog 29 #[v,.int .i64 n] w fun e w'=>e=.returned (.bool true)/\Below w.heap.size w w':=by
 obtain⟨ao,cap,rfl,h1,h2,h3⟩:=hR;have hw:IntKind.i64.wrap (-5000-n)=-5000-n:=(by rw[IntKind.wrap_i64];omega);have HM:=qg hm;clear hm
 go_enter Tryz.func29,Tryz.ntmps29
 go_wp2
 go_loopw [5] (fun i wr=>∃ k:Nat,k<=l.length/\i=.int .i64 k/\Below w.heap.size w wr) (fun i _=>l.length-(intOf i).toNat)
 case atStart=>exact⟨0,Nat.zero_le _,rfl,Below.refl _ _⟩
 case round=>
  obtain⟨k,hk,rfl,hbel⟩:=hrel
  by_cases hlt:k<l.length
  ·obtain⟨b,off,rfl,hb,hc⟩:=h3 (by intro e;subst e;simp at hlt);obtain⟨r,hr⟩:∃ r,l[k]?=some r:=⟨l[k],by simp[hlt]⟩;obtain⟨c1,c2,c3,c4⟩:=(hc k r hr).below hbel hb;have e:=(qb HM) r (zzn hr);subst e;simp only[mark] at c1 c2 c3 c4;have i0:(0:Int)<=(k:Int):=(by omega);have i1:(k:Int)<(l.length:Int):=(by omega);have Hb:=qg hbel;clear hc h3 hr hbel;go_wp2
   go_roundw
   case rel=>exact⟨k+1,by omega,by go_num,qb Hb⟩
   case measure=>simp[intOf];omega
  ·have Hb:=qg hbel;clear hbel h3;go_wp2;go_ret;exact⟨rfl,qb Hb⟩
end Go.Proofs.YtfnockbgkcgpkaaGreat
