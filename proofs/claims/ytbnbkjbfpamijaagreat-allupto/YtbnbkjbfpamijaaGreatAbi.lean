import Derived.Test.YtbnbkjbfpamijaaGreatAag
import Derived.Test.YtbnbkjbfpamijaaGreatShelf
import Derived.Sort.OwnSortedInts
import Derived.Deep.RegionHeld3
import Derived.Deep.DrawnRows
import Derived.WalkSpells
import Derived.StillTactics
import Derived.OwnWalk
import Derived.Laws.Pointers
import Derived.Laws.AppendOwnNone
import Derived.Laws.StructEq
import Derived.Shelf.Abstract
import Derived.Sort.OwnSorted
set_option linter.all false
set_option maxRecDepth 100000
set_option maxHeartbeats 0
namespace Go.Proofs.YtbnbkjbfpamijaaGreat
open Go.RowKit Go.Proofs.Panes
variable{w w2:World}{b g i j n:Nat}{v:Value}{R:List Int}{B' q:Int}
abbrev hc (b:World)(c:Nat)(d:Value)(a:List Int):Prop:=b.ownsRow c 3 1 d a.length (a.map (Value.int .i64))
def gG (b:hc w n v R)(a:Obj):hc (w.alloc a) n v R:=aR b a
def gV (a:hc w n v R)(b:Below w.heap.size w w2):hc w2 n v R:=ck a (kj b none) (by cases c:v.ownBlock<;>simp)
def hf (b:hc w n v R):∀ a,v.ownBlock=some a->n<=a:=fun a c=>(ab b a c).1
def gR (b:hc w n v R):∃ c a,v=.slice c R.length a/\R.length<=a:=by
 rcases b.2 with ⟨rfl,d⟩ | ⟨f,a,g,rfl,_,_,e,_⟩
 ·exact⟨none,0,by rw[d],by omega⟩
 ·exact⟨_,a,rfl,e⟩
def hL (c:hc w n v R)(d:R≠[]):∃ a b,v=.slice (some ⟨a,0,none⟩) R.length b/\n<=a/\a<w.heap.size:=by
 rcases c.2 with ⟨_,e⟩ | ⟨a,b,h,rfl,f,g,_⟩
 ·exact absurd (bQ.1 e) d
 ·exact⟨a,b,rfl,f,(bM.1 g).1⟩
def ih (a:hc w n (.slice (some ⟨i,0,none⟩) j g) R)(c:R[b]?=some q):w.cell? ⟨i,b,none⟩=some (.int .i64 q):=by
 have:=dq a (g:=i) rfl b (.int .i64 q) (by simp[c]);have d:(⟨i,0,none⟩:Addr).add b=⟨i,b,none⟩:=(by unfold Addr.add;split<;>simp_all);rwa[d] at this
def mP (a:w.ownsRow n 3 1 v (R.length+2) (R.map (Value.int .i64)++[.int .i64 q,.int .i64 B'])):hc w n v (R++[q,B']):=by
 unfold hc;rw[aE,ae];exact a
def gE (b:List Rc):List Int:=b.flatMap fun a=>[a.y,a.y+a.h]
def iB (b:List Rc)(a:Rc):gE (b++[a])=gE b++[a.y,a.y+a.h]:=by simp[gE]
def hI (a:List Rc):(gE a).length=2*a.length:=by
 induction a with
 | nil=>rfl
 | cons c a b=>simp only[gE,eG,ae] at *;rw[b];simp;omega
def mQ (c:List Rc)(a:Int):a∈gE c↔∃ b∈c,a=b.y\/a=b.y+b.h:=by
 simp[gE,du]
def hp (b:Array Int):∀ (c:Nat),c<=b.size->∀ d,d∈Lib.compactUpTo b c↔∃ a,a<c/\b[a]! = d
 | 0,_,d=>by simp[Lib.compactUpTo]
 | c+1,l,d=>by
  rw[Lib.compactUpTo_succ,al,hp b c (by omega) d];constructor
  ·rintro (⟨a,h,e⟩ | g)
   ·exact⟨a,by omega,e⟩
   ·split at g
    ·exact⟨c,by omega,(ay.1 g).symm⟩
    ·simp at g
  ·rintro⟨a,h,e⟩;by_cases i:a<c
   ·exact .inl ⟨a,i,e⟩
   ·have:a=c:=(by omega);subst this;by_cases f:Lib.keeps b a=true
    ·right;rw[an f];simp[e]
    ·left
     have j:a≠0:=(by intro k;subst k;exact f (Lib.keeps_lt_one b 0 (by omega)));have:b[a]! = b[a-1]!:=(by simp[Lib.keeps,j] at f;exact f);exact⟨a-1,by omega,by rw[<-this];exact e⟩
def gZ (b:Array Int)(d:∀ i c,i<c->c<b.size->b[i]!<=b[c]!):∀ (a:Nat),a<=b.size->(Lib.compactUpTo b a).Pairwise (· < ·)
 | 0,_=>by simp[Lib.compactUpTo]
 | a+1,o=>by
  rw[Lib.compactUpTo_succ];split
  ·rename_i e;refine bj.2 ⟨gZ b d a (by omega),dL _ _,fun f g p h=>?_⟩;rw[ay.1 h];obtain⟨c,j,k⟩:=(hp b a (by omega) f).1 g;subst k;have l:=d c a j (by omega);have m:a≠0:=(by omega);simp[Lib.keeps,m] at e;by_cases n:c=a-1
   ·rw[n] at l ⊢;omega
   ·have q:=d c (a-1) (by omega) (by omega);have r:=d (a-1) a (by omega) (by omega);omega
  ·rw[aW];exact gZ b d a (by omega)
def nQ (e:List Int):(Lib.compact (e.mergeSort fun a f=>decide (a<=f))).Pairwise (· < ·)/\∀ a,a∈Lib.compact (e.mergeSort fun a f=>decide (a<=f))↔a∈e:=by
 generalize j:e.mergeSort (fun a f=>decide (a<=f))=b;have m:b.Pairwise (fun g h=>decide (g<=h)=true):=(by rw[<-j];exact List.pairwise_mergeSort (fun g h p q r=>by simp at *;omega) (fun g h=>by simp;omega) e);have n:∀ a,a∈b↔a∈e:=fun a=>by rw[<-j];exact (List.mergeSort_perm e _).mem_iff
 have s:∀ c,c<b.length->b.toArray[c]! = b[c]!:=fun c d=>by simp[d]
 constructor
 ·refine gZ b.toArray (fun k c o d=>?_) b.length (by simp);have l:c<b.length:=(by simpa using d);have:=(cH.1 m) k c (by omega) l o;simp only[be] at this;simpa[l,show k<b.length by omega] using this
 ·intro a;unfold Lib.compact;rw[hp b.toArray b.length (by simp) a,<-n a,di];constructor
  ·rintro⟨c,d,i⟩;exact⟨c,d,by simpa[d] using i⟩
  ·rintro⟨c,d,i⟩;exact⟨c,d,by simpa[d] using i⟩
variable{F:Array Oper}{J:List Oper}{p:Oper}{s:Act}{D:Exit→Act→World→Prop}{a2:List Int}{ch:Bool}
def lU (a:hc w n v R)(g:i<=n):hc w i v R:=
 ⟨a.1,a.2.elim .inl (fun ⟨b,c,d,e,h,f⟩=>.inr ⟨b,c,d,e,by omega,f⟩)⟩
def hB (l:p.guard=none)(g h:Operand)(m:p.op=.call {callee:=.builtin .append,args:=#[g,h],argTypes:=#[50,50]}) (c:Nat) (d:Value) (a:List Int) (i:Int) (j:Nat) (n:s.eval g=d) (o:hc w c d a) (q:s.eval h=.slice (some ⟨j,0,none⟩) 1 1)(r:w.cell? ⟨j,0,none⟩=some (.int .i64 i)) (H:a.length<=1000000000) (t:c<=w.heap.size)(u:∀ e b,hc b c e (a++[i])->w.grownBy b d.ownBlock->wpList Tryz.prog F D J (s.put p.dst e) b):wpList Tryz.prog F D (p::J) s w:=by
 obtain⟨v,x,y,z,A⟩:=aZ yg;refine bT _ l g h 50 m c 3 v (.int .i64 0) 1 8 Tryz.underlying50 x y z A rfl (by decide) d a.length (a.map (Value.int .i64)) n o ⟨j,0,none⟩ 1 1 [.int .i64 i] q rfl ?_ ?_ (by unfold maxLen;omega) (by omega) t ?_
 ·intro B C f
  match B,f with
  | 0,f=>simp at f;subst f;simpa[Addr.add] using r
 ·intro C k;simp at k;subst k;rfl
 ·intro e b E G _;exact u e b (by unfold hc;rw[aE,ae];exact E) G
def hC (c:List Int)(e:Int)(b:Nat)(done:Bool)(d:List Int):Prop:=
 if done then d.Pairwise (· < ·)/\(∀ a,a∈d↔a∈c.take b\/a=e)/\(∀ a∈c.drop b,e<a)/\d.length=b+1
 else d=c.take b/\∀ a∈c.take b,a<e
def hx (a:R[n]?=some q):R.take (n+1)=R.take n++[q]:=by rw[am,a];rfl
def jb (a:R[n]?=some q):R.drop n=q::R.drop (n+1):=by
 obtain⟨b,c⟩:=zzg a;rw[bu b,c]
def lP (b:R.Pairwise (· < ·))(c:R[n]?=some q):∀ a∈R.take n,a<q:=fun a d=>by
 have e:=(ap n R).symm;rw[e,bj] at b;exact b.2.2 a d q (by rw[jb c];simp)
def pz (b:R.Pairwise (· < ·))(c:R[n]?=some q):∀ a∈R.drop (n+1),q<a:=fun a d=>by
 have e:=(ap (n+1) R).symm;rw[e,bj,hx c] at b;exact b.2.2 q (by simp) a d
def iZ (a:R.Pairwise (· < ·))(b:∀ y∈R,y<q):(R++[q]).Pairwise (· < ·):=
 bj.2 ⟨a,dL _ _,fun c d f e=>by rw[ay.1 e];exact b c d⟩
def hC.less (b:hC R q n false a2)(c:R[n]?=some B')(d:B'<q):hC R q (n+1) false (a2++[B']):=by
 unfold hC at *;simp only[cT,dE] at *;rw[hx c];refine⟨by rw[b.1],fun e f=>?_⟩;rcases al.1 f with a | a
 ·exact b.2 e a
 ·rw[ay.1 a];exact d
def hC.here (d:R.Pairwise (· < ·))(f:hC R q n false a2)(b:R[n]?=some B')(g:q<B'):hC R q (n+1) true (a2++[q]++[B']):=by
 unfold hC at *;simp only[cT,dE,dH] at *;have h:=(zzg b).1;rw[f.1];refine⟨iZ (iZ (d.sublist (List.take_sublist _ _)) f.2) (fun c e=>?_),fun c=>?_,fun c e=>?_,by simp;omega⟩
 ·rcases al.1 e with a | a
  ·exact lP d b c a
  ·rw[ay.1 a];exact g
 ·rw[hx b];simp only[al,ay];constructor
  ·rintro ((a | a) | a)
   ·exact .inl (.inl a)
   ·exact .inr a
   ·exact .inl (.inr a)
  ·rintro ((a | a) | a)
   ·exact .inl (.inl a)
   ·exact .inr a
   ·exact .inl (.inr a)
 ·have:=pz d b c e;omega
def hC.ue (g:R.Pairwise (· < ·))(h:hC R q n true a2)(c:R[n]?=some B'):q<B'/\hC R q (n+1) true (a2++[B']):=by
 unfold hC at *;simp only[dH] at *;obtain⟨i,e,f,k⟩:=h;have j:=f B' (by rw[jb c];simp);refine⟨j,iZ i (fun b d=>?_),fun b=>?_,fun b d=>f b (by rw[jb c];simp[d]),by simp;omega⟩
 ·rcases (e b).1 d with a | a
  ·exact lP g c b a
  ·omega
 ·rw[hx c];simp only[al,ay,e];constructor
  ·rintro ((a | a) | a)
   ·exact .inl (.inl a)
   ·exact .inr a
   ·exact .inl (.inr a)
  ·rintro ((a | a) | a)
   ·exact .inl (.inl a)
   ·exact .inr a
   ·exact .inl (.inr a)
structure lA (l:List Int)(n:Int)(l':List Int):Prop where
 up:l'.Pairwise (· < ·)
 mem:∀ x,x∈l'↔x∈l\/x=n
 len:l'.length<=l.length+1
def hC.last (b:R.Pairwise (· < ·))(a:hC R q R.length false a2):lA R q (a2++[q]):=by
 unfold hC at a;simp only[cT,dE,aP] at a;rw[a.1];exact⟨iZ b a.2,fun c=>by simp,by simp⟩
def hC.done (a:hC R q R.length true a2):lA R q a2:=by
 unfold hC at a;simp only[dH,aP] at a;exact⟨a.1,a.2.1,by omega⟩
def hC.len (a:hC R q n ch a2):a2.length<=R.length+n+1:=by
 unfold hC at a;cases ch<;>simp only[cT,dE,dH] at a
 ·rw[a.1,ao];omega
 ·omega
def jm (z:Nat)(A:Value)(b:List Int)(h:Int)(c:World)(q:hc c z A b)(J:b.Pairwise (· < ·))(a4:b.length<=100000)(K:z<=c.heap.size):Calls Tryz.prog 102 #[A,.int .i64 h] c fun i L=>∃ M N,i=.returned M/\hc L z M N/\lA b h N/\Below c.heap.size c L:=by
 have S:=qg q;have u:=qg J;have T:Hid (b≠[]->∃ j,j<c.heap.size/\(∃ v,A=.slice (some ⟨j,0,none⟩) b.length v)/\∀ B f,b[B]?=some f->c.cell? ⟨j,B,none⟩=some (.int .i64 f)):=fun U=>by
  obtain⟨j,v,rfl,_,w⟩:=hL q U;exact⟨j,w,⟨v,rfl⟩,fun B f o=>ih q o⟩
 obtain⟨a5,a6,V,_⟩:=gR q;subst V;clear q J;go_enter Tryz.func102,Tryz.ntmps102;go_wp2;go_loopw [5,6,7] (fun W X C wr=>∃ (a:Nat)(r:Bool)(k:List Int),a<=b.length/\C=.int .i64 a/\X=.bool r/\hC b h a r k/\hc wr c.heap.size W k/\Below c.heap.size c wr) (fun _ _ C _=>b.length-(intOf C).toNat)
 case atStart=>exact⟨0,false,[],aj _,rfl,rfl,by unfold hC;simp,aQ _ _ _ _,aa _ _⟩
 case round=>
  obtain⟨a,r,k,a7,rfl,rfl,D,E,s⟩:=hrel;have x:=s.size;have a8:=D.len;have t:=qg D;have g:=qg E;have l:=qg s;obtain⟨a9,b0,rfl,_⟩:=gR E;clear D E;by_cases O:a<b.length
  ·obtain⟨j,w,⟨v,i⟩,F⟩:=(qb T) (by intro i;subst i;simp at O);simp only[ai] at i;obtain⟨rfl,_,rfl⟩:=i;obtain⟨f,o⟩:∃ f,b[a]?=some f:=⟨b[a],by simp[O]⟩;have b1:=(s.cell (p:=⟨j,a,none⟩) w).trans (F a f o);have y:=qg o;have Y:=qg (F a f o);have b2:(0:Int)<=(a:Int):=(by omega);have b3:(a:Int)<(b.length:Int):=(by omega);clear s F o;by_cases Z:f=h
   ·subst Z;go_wp2;go_ret;exact⟨_,b,rfl,gV (qb S) (qb l),⟨qb u,fun b4=>⟨.inl,fun a0=>a0.elim id (fun i=>by rw[i];exact zzn (qb y))⟩,by omega⟩,qb l⟩
   ·cases r
    ·by_cases P:h<f
     · go_wp2_with (first
         | (at_builtin;refine hB rfl (.tmp 31) (.tmp 33) rfl c.heap.size _ k h wr.heap.size rfl (gG (qb g) _) rfl (by simp) (by omega) (by simp;omega) ?_;intro b5 Q d e;have R:=qg d;have G:=qg ((qb l).grown (zB (au wr _ _) e) x (hf (qb g)));have a1:=(qb G).size;have b6:=((qb G).cell (p:=⟨j,a,none⟩) w).trans (qb Y);clear d e)
         | (at_builtin;refine hB rfl (.tmp 35) (.tmp 40) rfl c.heap.size _ (k++[h]) f Q.heap.size rfl (gG (qb R) _) rfl (by simp) (by simp;omega) (by simp;omega) ?_;intro H I d e;have m:=qg d;have n:=qg ((qb G).grown (zB (au Q _ _) e) a1 (hf (qb R)));clear d e))
       go_roundw
       case rel=>exact⟨a+1,true,_,by omega,by go_num,rfl,(qb t).here (qb u) (qb y) P,qb m,qb n⟩
       case measure=>simp[intOf];omega
     ·have b7:=bY P;go_wp2_with (at_builtin;refine hB rfl (.tmp 35) (.tmp 40) rfl c.heap.size _ k f wr.heap.size rfl (gG (qb g) _) rfl (by simp) (by omega) (by simp;omega) ?_;intro H I d e;have m:=qg d;have n:=qg ((qb l).grown (zB (au wr _ _) e) x (hf (qb g)));clear d e);go_roundw
      case rel=>exact⟨a+1,false,_,by omega,by go_num,rfl,(qb t).less (qb y) (by omega),qb m,qb n⟩
      case measure=>simp[intOf];omega
    ·have a2:=qg ((qb t).ue (qb u) (qb y));go_wp2_with (at_builtin;refine hB rfl (.tmp 35) (.tmp 40) rfl c.heap.size _ k f wr.heap.size rfl (gG (qb g) _) rfl (by simp) (by omega) (by simp;omega) ?_;intro H I d e;have m:=qg d;have n:=qg ((qb l).grown (zB (au wr _ _) e) x (hf (qb g)));clear d e);go_roundw
     case rel=>exact⟨a+1,true,_,by omega,by go_num,rfl,(qb a2).2,qb m,qb n⟩
     case measure=>simp[intOf];omega
  ·have a3:a=b.length:=(by omega);subst a3;clear s;cases r
   ·go_wp2_with (at_builtin;refine hB rfl (.tmp 44) (.tmp 46) rfl c.heap.size _ k h wr.heap.size rfl (gG (qb g) _) rfl (by simp) (by omega) (by simp;omega) ?_;intro H I d e;have m:=qg d;have n:=qg ((qb l).grown (zB (au wr _ _) e) x (hf (qb g)));clear d e)
    go_ret;exact⟨_,_,rfl,lU (qb m) K,(qb t).last (qb u),qb n⟩
   ·go_wp2;go_ret;exact⟨_,_,rfl,lU (qb g) K,(qb t).done,qb l⟩
def oC (g:Nat)(e:Value)(b:List Int)(a:World)(m:hc a g e b)(z:b.length<=1000000):Calls Tryz.prog 157 #[e] a fun h f=>h=.returned (.tuple #[])/\hc f g e (b.mergeSort fun i j=>decide (i<=j))/\a.grownBy f e.ownBlock:=by
 rcases m.2 with ⟨rfl,p⟩ | ⟨n,o,q,rfl,r,k,s,t,u,v⟩
 ·have w:=bQ.1 p;subst w;have c:=AnyM.slices_Sort_int_none Tryz.laySort none 0 a;change Calls Tryz.prog 157 _ _ _ at c;exact c.mono fun h f ⟨l,d⟩=>⟨l,by rw[List.mergeSort_nil];exact d ▸ m,d ▸ km a 0 _⟩
 ·have c:=AnyM.slices_Sort_int Tryz.laySort n 0 o b a (holds_of_blockI k (by simpa using v)) (bM.1 k).1 (by omega);change Calls Tryz.prog 157 _ _ _ at c;refine c.mono fun h f ⟨l,x,y,d⟩=>⟨l,?_,?_⟩
  ·rw[d];have:=ownsRow_sortedI (w:=a) (base:=g) (g:=n) (cap:=o) (n:=x) (os:=y) (cur:=q) (ss:=b) (ts:=b.mergeSort fun i j=>decide (i<=j)) (by simp) r k s t u;unfold hc;rw[fC];exact this
  ·rw[d];exact grownBy_sortedI _
def iS (a:List Int):(Lib.compact a).length<=a.length:=by
 unfold Lib.compact Lib.compactUpTo;rw[ak];exact aO (dA _ _) (by simp)
def mC (j:Nat)(g:Value)(a:List Int)(b:World)(k:hc b j g a)(C:a.length<=1000000):Calls Tryz.prog 158 #[g] b fun h e=>∃ l,h=.returned l/\hc e j l (Lib.compact a)/\b.grownBy e g.ownBlock:=by
 rcases k.2 with ⟨rfl,t⟩ | ⟨f,m,o,rfl,u,p,v,w,x,y⟩
 ·have z:=bQ.1 t;subst z;have c:=AnyG.slices_Compact_int_empty Tryz.layCompact none 0 b;change Calls Tryz.prog 158 _ _ _ at c;exact c.mono fun h e ⟨i,d⟩=>⟨_,i,d ▸ k,d ▸ km b 0 _⟩
 ·have c:=AnyG.slices_Compact_int Tryz.layCompact f 0 m a b (holds_of_blockI p (by simpa using y)) (by omega) v;change Calls Tryz.prog 158 _ _ _ at c;have A:=iS a;refine c.mono fun h e ⟨i,q,d⟩=>⟨_,i,?_,?_⟩
  ·rw[d];have r:=heap_sortedI (w:=b) (g:=f) (n:=q) (os:=#[]) (cur:=o) (fr:=(0,0)) (Lib.compact a++List.replicate (a.length-(Lib.compact a).length) 0).toArray p;rw[Go.Sort.grow_empty] at r;refine⟨by simp,.inr ⟨f,m,_,rfl,u,r,by omega,w,by simp[Sort.putCells,x],?_⟩⟩;have s:=take_putCellsI o (Lib.compact a++List.replicate (a.length-(Lib.compact a).length) 0) (by simp;omega);have B:(Lib.compact a++List.replicate (a.length-(Lib.compact a).length) 0).length=a.length:=(by simp;omega);rw[B] at s;rw[gd];have:=congrArg (List.take (Lib.compact a).length) s;rw[dz,bK A,aE,bi (by simp)] at this;exact this.trans (aL (by simp))
  ·rw[d];have:=grownBy_sortedI (w:=b) (g:=f) (n:=q) (os:=#[]) (Lib.compact a++List.replicate (a.length-(Lib.compact a).length) 0).toArray;rw[Go.Sort.grow_empty] at this;exact this
def oW (n:Nat)(J K:Value)(e f:List Rc)(c:World)(G:c.heap[n]?=some (Obj.cells #[J,K] 47))(b1:Rd c J e)(b2:Rd c K f)(V:e.length<=1000)(d0:f.length<=1000)(b3:∀ a∈e,ia a)(b4:∀ a∈f,ia a):Calls Tryz.prog 143 #[.slice (some ⟨n,0,none⟩) 2 2] c fun o W=>∃ H I,o=.returned H/\hc W c.heap.size H I/\I.Pairwise (· < ·)/\(∀ q,q∈I↔∃ a∈e++f,q=a.y\/q=a.y+a.h)/\I.length<=2*(e++f).length/\Below c.heap.size c W:=by
 obtain⟨X,Y,Z,a0,a1⟩:=aZ yg;have a2:=qh G;have b5:c.cell? ⟨n,0,none⟩=some J:=(by rw[ea c n 0 _ _ _ G];rfl);have b6:c.cell? ⟨n,1,none⟩=some K:=(by rw[ea c n 1 _ _ _ G];rfl);obtain⟨d5,d6,rfl,_,_,s⟩:=b1;obtain⟨d7,d8,rfl,_,_,t⟩:=b2;clear G;go_enter Tryz.func143,Tryz.ntmps143;go_wp2;go_loopw [3,10] (fun v w wr=>∃ d,((w=.int .i64 0/\d=[])\/(w=.int .i64 1/\d=e)\/(w=.int .i64 2/\d=e++f))/\hc wr c.heap.size v (gE d)/\Below c.heap.size c wr) (fun _ w _=>2-(intOf w).toNat)
 case atStart=>exact⟨[],.inl ⟨rfl,rfl⟩,aQ _ _ _ _,aa _ _⟩
 case round=>
  obtain⟨d,b7,a3,x⟩:=hrel;obtain⟨L,b8⟩:∃ L:World,L=wr:=⟨_,rfl⟩;subst b8;have d9:=(x.cell (p:=⟨n,0,none⟩) a2).trans b5;have e0:=(x.cell (p:=⟨n,1,none⟩) a2).trans b6;have b9:=x.size;have y:=qg a3;have M:=qg x;clear a3 x;rcases b7 with ⟨rfl,j⟩ | ⟨rfl,j⟩ | ⟨rfl,j⟩
  ·have u:=qg j;have c0:d.length<=1000:=(by rw[j];first | (simp;done) | exact V);clear j;go_wp2;go_loopw [3,16] (fun v k wr=>∃ b:Nat,b<=e.length/\k=.int .i64 b/\hc wr c.heap.size v (gE (d++e.take b))/\Below c.heap.size c wr) (fun _ k _=>e.length-(intOf k).toNat)
   case atStart=>exact⟨0,aj _,rfl,by rw[dw,aW];exact qb y,qb M⟩
   case round=>
    obtain⟨b,c1,rfl,g,i⟩:=hrel;have N:=i.size;by_cases z:b<e.length
    ·obtain⟨O,c2,rfl,P,A⟩:=s (by intro o;subst o;simp at z);obtain⟨a,m⟩:∃ a,e[b]?=some a:=⟨e[b],by simp[z]⟩;obtain⟨d1,d2,d3,d4⟩:=(A b a m).below i P;have c3:O<wr.heap.size:=(by omega);have B:=b3 a (zzn m);unfold ia at B;obtain⟨m1,m2,m3,m4⟩:=B;have Q:Hid (gE (d++e.take (b+1))=gE (d++e.take b)++[a.y,a.y+a.h]):=(by show _=_;rw[am,m,<-aN];exact iB _ _);have C:Hid ((gE (d++e.take b)).length<=4000):=(by show _<=_;rw[hI,ae];have:=List.length_take_le b e;omega);have l:=qg g;have r:=qg i;obtain⟨c4,c5,rfl,_⟩:=gR g;clear g i A s t m;go_wp2_with (at_builtin;refine bT _ rfl _ _ 50 rfl c.heap.size 3 X (.int .i64 0) 1 8 Tryz.underlying50 Y Z a0 a1 rfl (by decide) _ _ _ rfl (gG (gG (qb l) _) _) ⟨wr.heap.size+1,0,none⟩ 2 2 [.int .i64 a.y,.int .i64 (a.y+a.h)] rfl rfl ?c1 ?c2 ?c3 ?c4 ?c5 ?_)
     case c1=>
      intro k R h
      match k,h with
      | 0,h=>simp at h;subst h;simp[Addr.add]
      | 1,h=>simp at h;subst h;simp[Addr.add]
     case c2=>
      intro R D;simp at D;rcases D with rfl | rfl<;>rfl
     case c3=>have:=qb C;unfold maxLen;omega
     case c4=>have:=qb C;omega
     case c5=>simp;omega
     intro H a4 E F _;have S:=qg (mP E);have T:=qg (zB (zB (au wr _ _) (au _ _ _)) F);clear E F;go_wp2;go_roundw
     case rel=>exact⟨b+1,by omega,by go_num,by rw[qb Q];exact qb S,(qb r).grown (qb T) N (hf (qb l))⟩
     case measure=>simp[intOf];omega
    ·have U:b=e.length:=(by omega);rw[U,aP] at g;have l:=qg g;have r:=qg i;clear g i s t;go_wp2;go_roundw
     case rel=>exact⟨d++e,.inr (.inl ⟨by go_num,by rw[qb u];rfl⟩),qb l,qb r⟩
     case measure=>simp[intOf]
  ·have u:=qg j;have c0:d.length<=1000:=(by rw[j];first | (simp;done) | exact V);clear j;go_wp2;go_loopw [3,16] (fun v k wr=>∃ b:Nat,b<=f.length/\k=.int .i64 b/\hc wr c.heap.size v (gE (d++f.take b))/\Below c.heap.size c wr) (fun _ k _=>f.length-(intOf k).toNat)
   case atStart=>exact⟨0,aj _,rfl,by rw[dw,aW];exact qb y,qb M⟩
   case round=>
    obtain⟨b,c1,rfl,g,i⟩:=hrel;have N:=i.size;by_cases z:b<f.length
    ·obtain⟨O,c2,rfl,P,A⟩:=t (by intro o;subst o;simp at z);obtain⟨a,m⟩:∃ a,f[b]?=some a:=⟨f[b],by simp[z]⟩;obtain⟨d1,d2,d3,d4⟩:=(A b a m).below i P;have c3:O<wr.heap.size:=(by omega);have B:=b4 a (zzn m);unfold ia at B;obtain⟨m1,m2,m3,m4⟩:=B;have Q:Hid (gE (d++f.take (b+1))=gE (d++f.take b)++[a.y,a.y+a.h]):=(by show _=_;rw[am,m,<-aN];exact iB _ _);have C:Hid ((gE (d++f.take b)).length<=4000):=(by show _<=_;rw[hI,ae];have:=List.length_take_le b f;omega);have l:=qg g;have r:=qg i;obtain⟨c4,c5,rfl,_⟩:=gR g;clear g i A s t m;go_wp2_with (at_builtin;refine bT _ rfl _ _ 50 rfl c.heap.size 3 X (.int .i64 0) 1 8 Tryz.underlying50 Y Z a0 a1 rfl (by decide) _ _ _ rfl (gG (gG (qb l) _) _) ⟨wr.heap.size+1,0,none⟩ 2 2 [.int .i64 a.y,.int .i64 (a.y+a.h)] rfl rfl ?d1 ?d2 ?d3 ?d4 ?d5 ?_)
     case d1=>
      intro k R h
      match k,h with
      | 0,h=>simp at h;subst h;simp[Addr.add]
      | 1,h=>simp at h;subst h;simp[Addr.add]
     case d2=>
      intro R D;simp at D;rcases D with rfl | rfl<;>rfl
     case d3=>have:=qb C;unfold maxLen;omega
     case d4=>have:=qb C;omega
     case d5=>simp;omega
     intro H a4 E F _;have S:=qg (mP E);have T:=qg (zB (zB (au wr _ _) (au _ _ _)) F);clear E F;go_wp2;go_roundw
     case rel=>exact⟨b+1,by omega,by go_num,by rw[qb Q];exact qb S,(qb r).grown (qb T) N (hf (qb l))⟩
     case measure=>simp[intOf];omega
    ·have U:b=f.length:=(by omega);rw[U,aP] at g;have l:=qg g;have r:=qg i;clear g i s t;go_wp2;go_roundw
     case rel=>exact⟨d++f,.inr (.inr ⟨by go_num,by rw[qb u]⟩),qb l,qb r⟩
     case measure=>simp[intOf]
  ·have u:=qg j;have a5:Hid ((gE d).length<=4000):=(by show _<=_;rw[hI,j,ae];omega);clear j s t
   go_wp2_with (first
     | (go_at_call 157;refine (oC c.heap.size _ (gE d) L (qb y) (by have:=qb a5;omega)).mono ?_;rintro o c6 ⟨rfl,g,a6⟩;have l:=qg g;have a7:=qg a6;clear g a6)
     | (go_at_call 158;refine (mC c.heap.size _ ((gE d).mergeSort fun c7 q=>decide (c7<=q)) c6 (qb l) (by have:=qb a5;rw[fC];omega)).mono ?_;rintro o a4 ⟨e1,rfl,a8,a9⟩;have c8:=qg a8;have c9:=qg a9;clear a8 a9))
   go_ret;have b0:=nQ (gE d);refine⟨_,_,rfl,qb c8,b0.1,fun q=>?_,?_,((qb M).grown (qb a7) b9 (hf (qb y))).grown (qb c9) (by have:=(qb a7).size;omega) (hf (qb y))⟩
   ·rw[b0.2 q,mQ,qb u]
   ·refine aO (iS _) ?_;rw[fC,hI,qb u];exact zzl _
section
attribute [local go_sem ↓] Go.wp_at_zero Go.wp_at_succ
def lS (L M:Nat)(u v:Value)(b c:List Bool)(d:World)(n:ze d L u b)(o:ze d M v c)(X:b.length<=100000000)(p:b.length=c.length):Calls Tryz.prog 105 #[u,v] d fun f N=>f=.returned (.bool (decide (b=c)))/\Below d.heap.size d N:=by
 have w:Hid (b≠[]->∃ e,e<d.heap.size/\(∃ g,u=.slice (some ⟨e,0,none⟩) b.length g)/\∀ h i,b[h]?=some i->d.cell? ⟨e,h,none⟩=some (.bool i)):=fun x=>by
  obtain⟨e,g,rfl,_,y⟩:=qi6 n x;exact⟨e,y,⟨g,rfl⟩,fun h i z=>xm n z⟩
 have q:Hid (c≠[]->∃ e,e<d.heap.size/\(∃ g,v=.slice (some ⟨e,0,none⟩) c.length g)/\∀ h i,c[h]?=some i->d.cell? ⟨e,h,none⟩=some (.bool i)):=fun x=>by
  obtain⟨e,g,rfl,_,y⟩:=qi6 o x;exact⟨e,y,⟨g,rfl⟩,fun h i z=>xm o z⟩
 obtain⟨Y,Z,O,_⟩:=iv n;obtain⟨a0,a1,P,_⟩:=iv o;subst O;subst P;have D:=qg p;rw[<-p];rw[<-p] at q;clear n o p;go_enter Tryz.func105,Tryz.ntmps105;go_wp2;go_loopw [5] (fun A wr=>∃ a:Nat,a<=b.length/\A=.int .i64 a/\b.take a=c.take a/\Below d.heap.size d wr) (fun A _=>b.length-(intOf A).toNat)
 case atStart=>exact⟨0,aj _,rfl,rfl,aa _ _⟩
 case round=>
  obtain⟨a,a2,rfl,j,k⟩:=hrel;by_cases E:a<b.length
  ·have F:a<c.length:=(by have:=qb D;omega);obtain⟨Q,R,⟨a3,G⟩,H⟩:=(qb w) (by intro f;subst f;simp at E);obtain⟨S,T,⟨c2,I⟩,J⟩:=(qb q) (by intro f;subst f;simp at F);simp only[ai] at G I;obtain⟨rfl,_,rfl⟩:=G;obtain⟨rfl,_,rfl⟩:=I;obtain⟨r,s⟩:∃ B,b[a]?=some B:=⟨b[a],by simp[E]⟩;obtain⟨t,l⟩:∃ B,c[a]?=some B:=⟨c[a],by simp[F]⟩;have a4:=(k.cell (p:=⟨Q,a,none⟩) R).trans (H a r s);have a5:=(k.cell (p:=⟨S,a,none⟩) T).trans (J a t l);have a6:(0:Int)<=(a:Int):=(by omega);have a7:(a:Int)<(b.length:Int):=(by omega);have U:Hid (r=t->b.take (a+1)=c.take (a+1)):=fun f=>by rw[am,am,s,l,j,f]
   have K:Hid (r≠t->decide (b=c)=false):=fun f=>by
    rw[cg];intro V;subst V;rw[s] at l;exact f (aA l)
   have C:=qg k;clear H J j s l k w q;cases r<;>cases t
   rotate_left
   ·have m:=qg ((qb K) (by simp));go_wp2;go_quiet (fail);go_wp2;go_ret;exact⟨by rw[qb m];rfl,ax (qb C) _⟩
   ·have m:=qg ((qb K) (by simp));go_wp2;go_quiet (fail);go_wp2;go_ret;exact⟨by rw[qb m];rfl,ax (qb C) _⟩
   rotate_left
   all_goals
    go_wp2;go_quiet (fail);go_wp2;go_roundw
    case rel=>exact⟨a+1,by omega,by go_num,(qb U) (by first | rfl | trivial),ax (qb C) _⟩
    case measure=>simp[intOf];omega
  ·have W:a=b.length:=(by omega);have m:Hid (decide (b=c)=true):=(by refine eC ?_;rw[W,aP,qb D,aP] at j;exact j);clear j w q;go_wp2;go_ret;exact⟨by rw[qb m];rfl,k⟩
end
section
attribute [local go_sem ↓] Go.wp_at_zero Go.wp_at_succ
def mr (a:World)(b:Obj)(c:Nat)(d:c=a.heap.size):(a.alloc b).drew.heap[c]?=some b:=qt a b c d
def tc (e:List Int)(f:Nat)(b:Value)(c:Option Int):Prop:=(b=.int .i64 (-1)/\c=none)\/∃ (a:Nat)(d:Int),a<f/\e[a]?=some d/\b=.int .i64 a/\c=some d
def mR (m:Int->Bool)(a1 a2:Nat)(I J:Value)(b:List Int)(n o:Int)(e:World)(D:hc e a1 I b)(E:ze e a2 J (b.map m))(c3:b.length<=100000)(P:∀ c∈b,-1000<=c/\c<=2000):Calls Tryz.prog 106 #[I,J,.int .i64 n,.int .i64 o] e fun j z=>∃ Q,j=.returned Q/\gw z e.heap.size Q (gy m n o none b)/\Below e.heap.size e z:=by
 obtain⟨a3,a4,a5,a6,a7⟩:=aZ XI;have u:Hid (b≠[]->∃ a,a<e.heap.size/\(∃ r,I=.slice (some ⟨a,0,none⟩) b.length r)/\∀ s c,b[s]?=some c->e.cell? ⟨a,s,none⟩=some (.int .i64 c)):=fun K=>by
  obtain⟨a,r,rfl,_,h⟩:=hL D K;exact⟨a,h,⟨r,rfl⟩,fun s c f=>ih D f⟩
 have v:Hid (b≠[]->∃ a,a<e.heap.size/\(∃ r,J=.slice (some ⟨a,0,none⟩) b.length r)/\∀ s c,b[s]?=some c->e.cell? ⟨a,s,none⟩=some (.bool (m c))):=fun K=>by
  obtain⟨a,r,rfl,_,h⟩:=qi6 E (by intro j;exact K (fJ.1 j));exact⟨a,h,⟨r,by rw[ak]⟩,fun s c f=>xm E (by rw[aF,f];rfl)⟩
 obtain⟨c4,c5,a8,_⟩:=gR D;obtain⟨c6,c7,R,_⟩:=iv E;rw[ak] at R;subst a8;subst R;have S:=qg P;clear D E P;go_enter Tryz.func106,Tryz.ntmps106;go_wp2;go_loopw [9,10,11] (fun a9 b0 L wr=>∃ (d:Nat)(A:Option Int)(g:List Rc),d<=b.length/\L=.int .i64 d/\tc b d b0 A/\g++gy m n o A (b.drop d)=gy m n o none b/\g.length<=d/\gw wr e.heap.size a9 g/\Below e.heap.size e wr) (fun _ _ L _=>b.length-(intOf L).toNat)
 case atStart=>exact⟨0,none,[],aj _,rfl,.inl ⟨rfl,rfl⟩,rfl,zzl _,za7 _,aa _ _⟩
 case round=>
  obtain⟨d,A,g,c8,rfl,M,k,c9,N,i⟩:=hrel;have b1:=i.size;have t:=qg N;have B:=qg i;obtain⟨T,U,rfl,_⟩:=gC N;clear N;by_cases O:d<b.length
  ·obtain⟨w,V,⟨d0,W⟩,x⟩:=(qb u) (by intro j;subst j;simp at O);obtain⟨b2,b3,⟨c2,X⟩,C⟩:=(qb v) (by intro j;subst j;simp at O);simp only[ai] at W X;obtain⟨rfl,_,rfl⟩:=W;obtain⟨rfl,_,rfl⟩:=X;obtain⟨c,f⟩:∃ b4,b[d]?=some b4:=⟨b[d],by simp[O]⟩;have d1:=(i.cell (p:=⟨w,d,none⟩) V).trans (x d c f);have Y:=(i.cell (p:=⟨b2,d,none⟩) b3).trans (C d c f);have d2:=(qb S) c (zzn f);have d3:(0:Int)<=(d:Int):=(by omega);have d4:(d:Int)<(b.length:Int):=(by omega);have F:=qg (jb f);have G:=qg k;cases y:m c
   ·rw[y] at Y;rcases M with ⟨rfl,rfl⟩ | ⟨q,a,b5,h,rfl,rfl⟩
    ·clear k x C f i u v;go_wp2;go_roundw
     case rel=>exact⟨d+1,none,g,by omega,by go_num,.inl ⟨rfl,rfl⟩,by rw[<-qb G,qb F];conv=>rhs;rw[gy,ah (by rw[y];simp)],by omega,qb t,qb B⟩
     case measure=>simp[intOf];omega
    ·have d5:=(i.cell (p:=⟨w,q,none⟩) V).trans (x q a h);have d6:=(qb S) a (zzn h);have d7:(0:Int)<=(q:Int):=(by omega);have d8:(q:Int)<(b.length:Int):=(by omega);have Z:Hid ((some w:Option Nat)≠(Value.slice T g.length U).ownBlock):=fun j=>by
      have:=(ab (qb t) _ j.symm).1;omega
     have d9:w<wr.heap.size:=(by omega);have e0:IntKind.i64.wrap (c-a)=c-a:=(by rw[af];omega);clear k x C f i u v h;go_wp2_with fail;go_region_held3 (fun z=>z.cell? ⟨w,q,none⟩=some (.int .i64 a)/\z.cell? ⟨w,d,none⟩=some (.int .i64 c))
      (first
        | go_keep
        | (go_split_ands
           refine⟨?_,?_⟩
           · (rw[H.cell_far _ (by simp;omega) (qb Z)];assumption)
           · (rw[H.cell_far _ (by simp;omega) (qb Z)];assumption)))
      ((refine step_append_lies _ (by rfl) _ _ _ (by rfl) e.heap.size 46 a3 _ 4 32 Tryz.underlying47 a4 a5 a6 a7 rfl (by omega) (.slice T g.length U) g.length (qK g) (by rfl) (((qb t).alloc _).drew) ⟨wr.heap.size,0,none⟩ 1 1 (vt ⟨a,n,c-a,o⟩) (by rfl) (by rfl) (hl (mr _ _ _ (by simp))) (gU _) (by omega) (by unfold maxLen;omega) (by omega) (by simp;omega) (wr.heap.size+1) (by simp) ?_;intro e1 e2 e3 a0 H e4 e5))
     have b6:=qg (gw.snoc (l:=g) (r:=⟨a,n,c-a,o⟩) a0);have b7:=qg (zB (au wr _ _) (zB (km _ 1 _) H));clear a0 H;go_wp2;go_roundw
     case rel=>exact⟨d+1,none,_,by omega,by go_num,.inl ⟨rfl,rfl⟩,by rw[<-qb G,qb F,aN];(conv=>rhs;rw[gy,ah (by rw[y];simp)]);rfl,by simp;omega,qb b6,(qb B).grown (qb b7) b1 (gw.tM (qb t))⟩
     case measure=>simp[intOf];omega
   ·rw[y] at Y;have b8:=qg f;rcases M with ⟨rfl,rfl⟩ | ⟨q,a,b5,h,rfl,rfl⟩
    ·clear k x C f i u v;go_wp2;go_roundw
     case rel=>exact⟨d+1,some c,g,by omega,by go_num,.inr ⟨d,c,by omega,qb b8,rfl,rfl⟩,by rw[<-qb G,qb F];conv=>rhs;rw[gy,an y],by omega,qb t,qb B⟩
     case measure=>simp[intOf];omega
    ·have b9:=qg h;have e6:decide ((q:Int)<0)=false:=bY (by omega);clear k x C f i u v h;go_wp2;go_roundw
     case rel=>exact⟨d+1,some a,g,by omega,by go_num,.inr ⟨q,a,by omega,qb b9,rfl,rfl⟩,by rw[<-qb G,qb F];conv=>rhs;rw[gy,an y],by omega,qb t,qb B⟩
     case measure=>simp[intOf];omega
  ·have c0:Hid (g=gy m n o none b):=(by have c1:d=b.length:=(by omega);rw[c1,eL] at k;have:gy m n o A []=[]:=(by cases A<;>rfl);rw[this,aW] at k;exact k);clear k M i u v;go_wp2;go_ret;exact⟨_,rfl,by rw[<-qb c0];exact qb t,qb B⟩
end
end Go.Proofs.YtbnbkjbfpamijaaGreat
namespace Go.Proofs.YtbnbkjbfpamijaaGreat
open Go.Shelf Go.RowKit Go.Lib Go.Proofs.Panes
def pO (b:Nat)(a:World)(o:b<=100000):Calls Tryz.prog 164 #[.slice none 0 0,.int .i64 b] a fun f d=>∃ h,f=.returned h/\gw d a.heap.size h []/\Below a.heap.size a d:=by
 obtain⟨i,j,k,p,l⟩:=aZ XI;by_cases m:b=0
 ·subst m;have c:=Any8.slices_Grow_room Tryz.layGrow none 0 0 0 a (by omega) (by omega) (by omega) (by omega);change Calls Tryz.prog 164 _ _ _ at c;exact c.mono fun f d ⟨g,e⟩=>⟨_,g,za7 _,e ▸ aa _ _⟩
 ·have c:=Any8.slices_Grow_grow Tryz.layGrow i _ j k (by omega) none 0 0 b [] a (by omega) (by omega) (by rw[l];omega) (by omega) (by simp) (fun _=>rfl) (fun q n=>by cases n);change Calls Tryz.prog 164 _ _ _ at c;refine c.mono fun f d ⟨g,e⟩=>⟨_,g,?_,?_⟩
  ·rw[e];refine⟨by simp[Kp],.inr ⟨a.heap.size,_,_,rfl,zzl _,qt _ _ _ rfl,aj _,grownCap_le_maxLen _ _ _ _ (by simp[maxLen];omega),?_,by simp[Kp]⟩⟩;have:=grownCap_ge a b 0 (Tryz.layGrow_ren.t 25);show (_:Array Value).size=_;simp[size_zeroCells,Value.cells];omega
  ·rw[e];exact (aa _ a).drew.alloc (zzl _) _
def mm {c:World}{f d g h:Nat}{e:List Rc}(i:gw c f (.slice (some ⟨d,0,none⟩) g h) e):∀ a b,(qK e)[a]?=some b->c.cell? ((⟨d,0,none⟩:Addr).add a)=some b:=
 fun a b j=>dq i rfl a b j
def pH {c:World}{d:Nat}{e:Value}{a b:List Rc}(f:c.ownsRow d 46 4 e (a.length+b.length) (qK a++qK b)):gw c d e (a++b):=by
 unfold gw;rw[zp,ae];exact f
def gI {a:World}{m:Array Oper}{n:List Oper}{g:Oper}{h:Act}{o:Exit->Act->World->Prop}(p:g.guard=none)(i j:Operand)(q:g.op=.call {callee:=.builtin .append,args:=#[i,j],argTypes:=#[47,47]}) (d y:Nat) (c r:Value) (b e:List Rc) (s:h.eval i=c) (l:gw a d c b) (t:h.eval j=r) (u:gw a y r e)(J:b.length+e.length<=1000000000) (z:d<=a.heap.size)(v:∀ k f,gw f d k (b++e)->a.grownBy f c.ownBlock->wpList Tryz.prog m o n (h.put g.dst k) f):wpList Tryz.prog m o (g::n) h a:=by
 obtain⟨w,x,A,B,C⟩:=aZ XI;rcases u.2 with ⟨rfl,D⟩ | ⟨E,F,K,rfl,_⟩
 ·have G:=bQ.1 D;subst G;refine wpList_append_own_none p i j 47 q d 46 w 4 Tryz.underlying47 x c b.length (qK b) s l t ?_;exact v c a (by rw[aW];exact l) (km a 0 _)
 ·refine bT _ p i j 47 q d 46 w (.agg #[.int .i64 0,.int .i64 0,.int .i64 0,.int .i64 0]) 4 32 Tryz.underlying47 x A B C rfl (by decide) c b.length (qK b) s l ⟨E,0,none⟩ e.length F (qK e) t (qM _) (mm u) (Ko _) (by unfold maxLen;omega) (by omega) z ?_;intro k f H I _;exact v k f (pH H) I
end Go.Proofs.YtbnbkjbfpamijaaGreat
namespace Go.Proofs.YtbnbkjbfpamijaaGreat
open Go.RowKit Go.Proofs.Panes
def nP (c G H:Nat)(s t:Value)(d e:List Rc)(a:World)(m:a.heap[c]?=some (Obj.cells #[s,t] 47))(u:gw a G s d)(v:gw a H t e)(V:d.length<=3000)(W:e.length<=3000):Calls Tryz.prog 148 #[.slice (some ⟨c,0,none⟩) 2 2] a fun A B=>∃ n,A=.returned n/\gw B a.heap.size n (d++e)/\Below a.heap.size a B:=by
 obtain⟨X,Y,Z,a0,a1⟩:=aZ XI;have o:=qh m;have C:a.cell? ⟨c,0,none⟩=some s:=(by rw[ea a c 0 _ _ _ m];rfl);have D:a.cell? ⟨c,1,none⟩=some t:=(by rw[ea a c 1 _ _ _ m];rfl);obtain⟨a2,a3,I,_⟩:=gC u;obtain⟨a4,a5,J,_⟩:=gC v;have K:=qg u;have L:=qg v;subst I J;clear u v m;go_enter Tryz.func148,Tryz.ntmps148;go_wp2
 go_loop [3,11] (fun w b=>(b=.int .i64 0/\w=.int .i64 0)\/(b=.int .i64 1/\w=.int .i64 d.length)\/(b=.int .i64 2/\w=.int .i64 (d.length+e.length:Nat))) (fun _ b=>2-(intOf b).toNat)
 case atStart=>exact .inl ⟨rfl,rfl⟩
 case round=>
  rcases hrel with ⟨rfl,rfl⟩ | ⟨rfl,rfl⟩ | ⟨rfl,rfl⟩
  ·go_wp2
   go_round
   case rel=>exact .inr (.inl ⟨by go_num,by go_num⟩)
   case measure=>simp[intOf]
  ·go_wp2
   go_round
   case rel=>exact .inr (.inr ⟨by go_num,by go_num⟩)
   case measure=>simp[intOf]
  ·go_wp2_with (go_at_call 164;refine (pO (d.length+e.length) a (by omega)).mono ?_;rintro A a6 ⟨a7,rfl,E,q⟩;have M:=qg E;have N:=qg q;have O:=(q.cell (p:=⟨c,0,none⟩) o).trans C;have P:=(q.cell (p:=⟨c,1,none⟩) o).trans D;clear E q)
   go_loopw [6,27] (fun Q b wr=>∃ g,((b=.int .i64 0/\g=[])\/(b=.int .i64 1/\g=d)\/(b=.int .i64 2/\g=d++e))/\gw wr a.heap.size Q g/\Below a.heap.size a wr) (fun _ b _=>2-(intOf b).toNat)
   case atStart=>exact⟨[],.inl ⟨rfl,rfl⟩,qb M,qb N⟩
   case round=>
    obtain⟨g,R,F,h⟩:=hrel;have a8:=(h.cell (p:=⟨c,0,none⟩) o).trans C;have a9:=(h.cell (p:=⟨c,1,none⟩) o).trans D;have r:=h.size;have f:=qg F;have i:=qg h;clear F h O P;rcases R with ⟨rfl,j⟩ | ⟨rfl,j⟩ | ⟨rfl,j⟩
    ·subst j;have x:=qg (gw.kept (qb K) (qb i));obtain⟨S,T,rfl,_⟩:=gC (qb f);go_wp2_with (at_builtin;refine gI rfl _ _ rfl a.heap.size _ _ _ _ d rfl (qb f) rfl (qb x) (by first | (simp;omega) | omega) r ?_;intro n U k l;have y:=qg k;have z:=qg l;clear k l);go_roundw
     case rel=>exact⟨_,.inr (.inl ⟨by go_num,rfl⟩),qb y,(qb i).grown (qb z) r (gw.tM (qb f))⟩
     case measure=>simp[intOf]
    ·subst j;have x:=qg (gw.kept (qb L) (qb i));obtain⟨S,T,rfl,_⟩:=gC (qb f);go_wp2_with (at_builtin;refine gI rfl _ _ rfl a.heap.size _ _ _ _ e rfl (qb f) rfl (qb x) (by first | (simp;omega) | omega) r ?_;intro n U k l;have y:=qg k;have z:=qg l;clear k l);go_roundw
     case rel=>exact⟨_,.inr (.inr ⟨by go_num,rfl⟩),qb y,(qb i).grown (qb z) r (gw.tM (qb f))⟩
     case measure=>simp[intOf]
    ·subst j;go_wp2;go_ret;exact⟨_,rfl,qb f,qb i⟩
def nL (m:iF)(e f:Int)(n o:Nat)(p q:Value)(b c:List Rc)(a:World)(g:gw a n p b)(h:gw a o q c)(i:gA e f b)(j:gA e f c):Calls Tryz.prog 126 #[p,q] a fun k r=>∃ s l,k=.returned s/\gw r a.heap.size s l/\gA e f l/\(∀ d,gq l d↔gq b d\/gq c d)/\Below a.heap.size a r:=by
 have B:=i.len;have C:=j.len;have D:=qg m;have E:=qg g;have F:=qg h;have G:=qg (ik.append i.1 j.1);obtain⟨P,Q,rfl,_⟩:=gC g;obtain⟨R,S,rfl,_⟩:=gC h;clear g h i j m;go_enter Tryz.func126,Tryz.ntmps126
 go_wp2_with (first
   | (go_at_call 148;refine (nP a.heap.size n o _ _ b c _ (qt _ _ _ rfl) (gu (qb E) _) (gu (qb F) _) B C).mono ?_;rintro k T ⟨U,rfl,t,u⟩;have v:=qg t;have w:=qg u;clear t u)
   | (go_at_call 147;refine ((qb D) e f _ _ (b++c) _ (qb v) (qb G) (by simp;omega)).mono ?_;rintro k V ⟨W,H,rfl,x,y,z,A⟩;have I:=qg x;have J:=qg y;have K:=qg z;have L:=qg A;clear x y z A))
 go_ret;have M:=(qb w).size;simp at M;exact⟨_,H,rfl,(qb I).mono (by omega),qb J,fun d=>((qb K) d).trans (hA b c d),(((aa _ a).alloc (zzl _) _).trans ((qb w).mono (by simp))).grown (qb L) (by omega) (fun N O=>by have:=gw.tM (qb v) N O;simp at this;omega)⟩
end Go.Proofs.YtbnbkjbfpamijaaGreat
namespace Go.Proofs.YtbnbkjbfpamijaaGreat
open Go.RowKit Go.Proofs.Panes
variable{B l:List Rc}{R a2:List Int}{r:Rc}
section
attribute [local go_sem ↓] Go.wp_at_zero Go.wp_at_succ
structure ir (L:List Rc)(xs ys:List Int):Prop where
 x:iH xs L
 y:gL ys L
 lx:xs.length<=2*L.length
 ly:ys.length<=2*L.length
def ir.nil:ir [] [] []:=⟨⟨dY,fun a=>by simp⟩,⟨dY,fun b=>by simp⟩,zzl _,zzl _⟩
def ir.snoc {h i j k:List Int}(b:ir l R a2)(m:lA R r.x h)(c:lA h (r.x+r.w) i)(n:lA a2 r.y j)(d:lA j (r.y+r.h) k):ir (l++[r]) i k:=by
 refine⟨⟨c.up,fun o=>?_⟩,⟨d.up,fun p=>?_⟩,?_,?_⟩
 focus
  rw[c.mem,m.mem,b.x.mem]
 rotate_left
 focus
  rw[d.mem,n.mem,b.y.mem]
 rotate_left
 ·have:=m.len;have:=c.len;have:=b.lx;rw[ae,dT];omega
 ·have:=n.len;have:=d.len;have:=b.ly;rw[ae,dT];omega
 all_goals
  constructor
  ·rintro ((⟨e,f,a⟩ | a) | a)
   ·exact⟨e,by simp[f],a⟩
   ·exact⟨r,by simp,.inl a⟩
   ·exact⟨r,by simp,.inr a⟩
  ·rintro⟨e,f,a⟩;rcases al.1 f with g | g
   ·exact .inl (.inl ⟨e,g,a⟩)
   ·rw[ay.1 g] at a;rcases a with a | a
    ·exact .inl (.inr a)
    ·exact .inr a
def ir.grid {op:Bool->Bool->Bool}(d:op false false=false)(a:ir (l++B) R a2)(e:∀ r∈l++B,ia r):ho (fun b c=>op (gx l b c) (gx B b c)) R a2:=rn d a.x a.y e
def lO (a:Int):gQ a false false=false:=by unfold gQ;split<;>(try split)<;>rfl
end
variable{n:Nat}{q:Int}
section
attribute [local go_sem ↓] Go.wp_at_zero Go.wp_at_succ
def oS:(Tryz.prog.info? 4).map (fun a=>(a.zero,a.size,a.bytes))=some (some (.bool false),1,1):=by kernel_rfl
def nH (a:Nat):(madeCells (Value.bool false).cells (a*1)).toList=List.replicate a (Value.bool false):=by
 rw[gd];exact eN _ a
def rf (a:Int->Bool)(b:R[n]?=some q):((R.take n).map a++List.replicate (R.length-n) false).set n (a q)=(R.take (n+1)).map a++List.replicate (R.length-(n+1)) false:=by
 have d:=(zzg b).1;have c:((R.take n).map a).length=n:=(by rw[ak,ao];omega);rw[bG _ _ (by omega),c,cL,hx b,aE,aN,show R.length-n=(R.length-(n+1))+1 by omega,bU];rfl
def rR (a:Int->Bool)(b:R[n]?=some q):((R.take n).map a++List.replicate (R.length-n) false)[n]?=some false:=by
 have d:=(zzg b).1;have c:((R.take n).map a).length=n:=(by rw[ak,ao];omega);rw[aq (by omega),c,cL,show R.length-n=(R.length-(n+1))+1 by omega,bU];rfl
def mj (a:Int->Bool)(b:n<=R.length):((R.take n).map a++List.replicate (R.length-n) false).length=R.length:=by
 rw[ae,ak,ao,aS];omega
def TG (j:Int)(k l:List Rc)(f g:List Int)(m:Nat)(n:World)(a:Nat)(h:Int->Bool)(d:Int)(e:List Rc)(o p:Value):Prop:=
 (a=0/\e=[])\/
 (0<a/\a<g.length/\ze n m o (f.map h)/\p=.int .i64 d/\hr h f/\(-1000<=d/\d<=2000)/\∀ i,g[a]?=some i->CI (ho.M fun b c=>gQ j (gx k b c) (gx l b c)) i (e++gy h d (i-d) none f) e.length)\/
 (0<a/\a=g.length/\ha e/\∀ b c,Qa e b c↔gQ j (gx k b c) (gx l b c)=true)
def mg (r:Int)(i1 d6:Value)(d g:List Rc)(x:World)(i2:Rd x i1 d)(i3:Rd x d6 g)(x1:d.length<=40)(x2:g.length<=40)(i4:∀ e∈d,ia e)(i5:∀ e∈g,ia e):Calls Tryz.prog 66 #[.int .i64 r,i1,d6] x fun h E=>∃ i6 d7,h=.returned i6/\gw E x.heap.size i6 d7/\ha d7/\(∀ n l,Qa d7 n l↔gQ r (gx d n l) (gx g n l)=true)/\d7.length<=100000/\Below x.heap.size x E:=by
 have i7:=qg i2;have i8:=qg i3;have e6:=qg i4;have e7:=qg i5;obtain⟨o2,o3,rfl,_,_,a8⟩:=i2;obtain⟨o4,o5,rfl,_,_,i9⟩:=i3;have j0:=qg a8;have j1:=qg i9;have x3:IntKind.i64.wrap ((d.length:Int)+(g.length:Int))=(d.length:Int)+(g.length:Int):=(by rw[af];omega);clear a8 i9 i4 i5;go_enter Tryz.func66,Tryz.ntmps66;go_wp2;go_loopw [7,8,9] (fun o6 o7 J wr=>∃ (m:Nat)(a j:List Int),m<=d.length+g.length/\J=.int .i64 m/\hc wr x.heap.size o6 a/\hc wr x.heap.size o7 j/\ir ((d++g).take m) a j/\Below x.heap.size x wr) (fun _ _ J _=>d.length+g.length-(intOf J).toNat)
 case atStart=>exact⟨0,[],[],aj _,rfl,aQ _ _ _ _,aQ _ _ _ _,ir.nil,aa _ _⟩
 case round=>
  obtain⟨m,a,j,o8,rfl,Z,a0,d8,C⟩:=hrel;have o9:=C.size;have j2:=d8.lx;have j3:=d8.ly;have e8:((d++g).take m).length=m:=(by rw[ao,ae];omega);rw[e8] at j2 j3;have e9:=qg Z;have p0:=qg a0;have b6:=qg d8;have j4:=qg C;have p1:=qg e8;clear d8 e8;by_cases a9:m<d.length+g.length
  ·have j5:(0:Int)<=(m:Int):=(by omega);have x4:(m:Int)<(d.length:Int)+(g.length:Int):=(by omega);by_cases f0:m<d.length
   focus
    obtain⟨f1,p2,rfl,f2,W⟩:=(qb j0) (by intro h;subst h;simp at f0);obtain⟨e,s⟩:∃ e,d[m]?=some e:=⟨d[m],by simp[f0]⟩;have j6:Hid ((d++g)[m]?=some e):=(by show _=_;rw[aM f0];exact s);have b7:=(qb e6) e (zzn s);unfold ia at b7;obtain⟨m1,m2,m3,m4⟩:=b7;obtain⟨j7,c2,p3,p4⟩:=(W m e s).below C f2;have p5:(m:Int)<(d.length:Int):=(by omega);have d9:f1<wr.heap.size:=(by omega);clear Z a0 C W s
   rotate_left
   focus
    obtain⟨f1,p2,rfl,f2,W⟩:=(qb j1) (by intro h;subst h;simp at a9;omega);obtain⟨H,e0⟩:∃ H,m=d.length+H:=⟨m-d.length,by omega⟩;have p6:H<g.length:=(by omega);obtain⟨e,s⟩:∃ e,g[H]?=some e:=⟨g[H],by simp[p6]⟩;have j6:Hid ((d++g)[m]?=some e):=(by show _=_;rw[aq (by omega),show m-d.length=H by omega];exact s);have b7:=(qb e7) e (zzn s);unfold ia at b7;obtain⟨m1,m2,m3,m4⟩:=b7;obtain⟨j7,c2,p3,p4⟩:=(W H e s).below C f2;have p5:¬(m:Int)<(d.length:Int):=(by omega);have x5:(m:Int)-(d.length:Int)=(H:Int):=(by omega);have x6:IntKind.i64.wrap ((m:Int)-(d.length:Int))=(H:Int):=(by rw[af];omega);have x7:(0:Int)<=(H:Int):=(by omega);have x8:(H:Int)<(g.length:Int):=(by omega);have d9:f1<wr.heap.size:=(by omega);clear Z a0 C W s e0
   rotate_left
   all_goals
    have x9:IntKind.i64.wrap (e.x+e.w)=e.x+e.w:=(by rw[af];omega);have y0:IntKind.i64.wrap (e.y+e.h)=e.y+e.h:=(by rw[af];omega);go_wp2_with fail;refine (jm x.heap.size _ a e.x _ (gG (qb e9) _) (qb b6).x.up (by omega) (by simp;omega)).mono ?_;rintro h P ⟨y1,p7,rfl,j8,f3,X⟩;have p8:P.cell? ⟨wr.heap.size,0,none⟩=some (.int .i64 e.x):=(X.cell (p:=⟨wr.heap.size,0,none⟩) (by simp)).trans (by go_simp);have j9:P.cell? ⟨wr.heap.size,1,none⟩=some (.int .i64 e.y):=(X.cell (p:=⟨wr.heap.size,1,none⟩) (by simp)).trans (by go_simp);have p9:P.cell? ⟨wr.heap.size,2,none⟩=some (.int .i64 e.w):=(X.cell (p:=⟨wr.heap.size,2,none⟩) (by simp)).trans (by go_simp);have k0:P.cell? ⟨wr.heap.size,3,none⟩=some (.int .i64 e.h):=(X.cell (p:=⟨wr.heap.size,3,none⟩) (by simp)).trans (by go_simp);have y2:wr.heap.size+1<=P.heap.size:=(by have:=X.size;simpa using this);have q0:=qg j8;have k1:=qg f3;have y3:=f3.len;have q1:=qg (gV (gG (qb p0) _) X);have b8:=qg (((qb j4).alloc o9 _).trans (X.mono (by simp;omega)));clear j8 f3 X;go_wp2_with fail;refine (jm x.heap.size _ p7 (e.x+e.w) _ (qb q0) (qb k1).up (by omega) (by omega)).mono ?_;rintro h y4 ⟨y5,q2,rfl,k2,k3,b0⟩;have k4:=(b0.cell (p:=⟨wr.heap.size,1,none⟩) (by simp;omega)).trans j9;have k5:=(b0.cell (p:=⟨wr.heap.size,3,none⟩) (by simp;omega)).trans k0;have y6:=b0.size;have q3:=qg k2;have q4:=qg k3;have q5:=qg (gV (qb q1) b0);have e1:=qg ((qb b8).trans (b0.mono (by omega)));clear k2 k3 b0 p8 j9 p9 k0;go_wp2_with fail;refine (jm x.heap.size _ j e.y _ (qb q5) (qb b6).y.up (by omega) (by omega)).mono ?_;rintro h y7 ⟨z0,a1,rfl,k6,a8,b1⟩;have u:=(b1.cell (p:=⟨wr.heap.size,1,none⟩) (by simp;omega)).trans k4;have q6:=(b1.cell (p:=⟨wr.heap.size,3,none⟩) (by simp;omega)).trans k5;have z1:=b1.size;have q7:=qg k6;have k7:=qg a8;have z2:=a8.len;have q8:=qg (gV (qb q3) b1);have q9:=qg ((qb e1).trans (b1.mono (by omega)));clear k6 a8 b1 k4 k5;go_wp2_with fail;refine (jm x.heap.size _ a1 (e.y+e.h) _ (qb q7) (qb k7).up (by omega) (by omega)).mono ?_;rintro h z3 ⟨z4,a2,rfl,k8,k9,f4⟩;have r0:=qg k8;have r1:=qg k9;have r2:=qg (gV (qb q8) f4);have r3:=qg ((qb q9).trans (f4.mono (by omega)));clear k8 k9 f4 u q6;go_wp2;go_roundw
    case rel=>exact⟨m+1,q2,a2,by omega,by go_num,qb r2,qb r0,by rw[am,qb j6];exact (qb b6).snoc (qb k1) (qb q4) (qb k7) (qb r1),qb r3⟩
    case measure=>simp[intOf];omega
  ·have f5:m=d.length+g.length:=(by omega);have b2:ir (d++g) a j:=(by have:=qb b6;rwa[f5,aL (by rw[ae];omega)] at this);have A:=qg (b2.grid (op:=gQ r) (lO r) (fun e s=>(al.1 s).elim ((qb e6) e) ((qb e7) e)));have r4:Hid (j≠[]->0<a.length):=fun a3=>by
    obtain⟨e2,y⟩:=List.exists_mem_of_ne_nil j a3;obtain⟨e,s,_⟩:=(b2.y.mem e2).1 y;exact List.length_pos_of_mem ((b2.x.mem e.x).2 ⟨e,s,.inl rfl⟩)
   have l0:a.length<=160:=(by have:=b2.lx;rw[ae] at this;omega);have z5:j.length<=160:=(by have:=b2.ly;rw[ae] at this;omega);obtain⟨o,r5⟩:∃ o:World,o=wr:=⟨_,rfl⟩;subst r5;have r6:Hid (a≠[]->∃ K,K<o.heap.size/\(∃ a4,u7=.slice (some ⟨K,0,none⟩) a.length a4)/\∀ L b,a[L]?=some b->o.cell? ⟨K,L,none⟩=some (.int .i64 b)):=fun a3=>by
    obtain⟨K,a4,rfl,_,f6⟩:=hL Z a3;exact⟨K,f6,⟨a4,rfl⟩,fun L b F=>ih Z F⟩
   have r7:Hid (j≠[]->∃ K,K<o.heap.size/\(∃ a4,u8=.slice (some ⟨K,0,none⟩) j.length a4)/\∀ L b,j[L]?=some b->o.cell? ⟨K,L,none⟩=some (.int .i64 b)):=fun a3=>by
    obtain⟨K,a4,rfl,_,f6⟩:=hL a0 a3;exact⟨K,f6,⟨a4,rfl⟩,fun L b F=>ih a0 F⟩
   obtain⟨z6,z7,r8,_⟩:=gR Z;obtain⟨z8,z9,r9,_⟩:=gR a0;subst r8;subst r9;have hA2:=qg ((qb i7).below C);have s0:=qg ((qb i8).below C);clear b2 Z a0 C i7 i8 j0 j1 b6 j2 j3 p1;obtain⟨j5,s1,s2,s3,s4⟩:=aZ oS;have A0:=qg f5;have s5:¬(m:Int)<(d.length:Int)+(g.length:Int):=(by omega);clear f5;go_wp2;clear o8 a9 s5;go_loopw [11,12,13,14] (fun s6 d6 s7 L wr=>∃ (f:Nat)(t:Int->Bool)(i:Int)(B:List Rc),f<=j.length/\L=.int .i64 f/\gw wr o.heap.size s6 B/\B.length<=f*160/\Below o.heap.size o wr/\
    TG r d g a j o.heap.size wr f t i B d6 s7) (fun _ _ _ L _=>j.length-(intOf L).toNat)
   case atStart=>exact⟨0,fun _=>false,0,[],aj _,rfl,za7 _,aj _,aa _ _,.inl ⟨rfl,rfl⟩⟩
   case round=>
    obtain⟨f,t,i,B,A1,rfl,f7,A2,C,l1⟩:=hrel;have b9:=C.size;obtain⟨q,s8⟩:∃ q:World,q=wr:=⟨_,rfl⟩;subst s8;have e3:=qg f7;have f8:=qg l1;have Q:=qg C;obtain⟨A3,A4,s9,_⟩:=gC f7;subst s9;clear f7 l1;by_cases a9:f<j.length
    ·have l2:j≠[]:=(by intro h;rw[h] at a9;simp at a9);have l3:=(qb r4) l2;obtain⟨R,t0,⟨j7,l4⟩,W⟩:=(qb r6) (by intro h;rw[h] at l3;simp at l3);obtain⟨u,c0,⟨c2,l5⟩,l6⟩:=(qb r7) l2;simp only[ai] at l4 l5;obtain⟨rfl,_,rfl⟩:=l4;obtain⟨rfl,_,rfl⟩:=l5;obtain⟨c,e4⟩:∃ c,j[f]?=some c:=⟨j[f],by simp[a9]⟩;have l7:=(qb A).byy c (zzn e4);have S:=qg e4;have t1:=qg W;have c1:=qg (l6 f c e4);have A5:(0:Int)<=(f:Int):=(by omega);have t2:(f:Int)<(j.length:Int):=(by omega);have A6:IntKind.i64.wrap ((f:Int)+1)=(f:Int)+1:=(by rw[af];omega);clear W l6 e4 C;go_wp2_with (at_make;refine wpList_make_full _ rfl _ _ 116 rfl o.heap.size 4 j5 (.bool false) 1 Tryz.underlying116 s1 s2 s3 .i64 .i64 _ _ a.length rfl rfl rfl rfl (by rw[s4];omega) (by unfold maxLen;omega) b9 ?_;intro P T N);have l8:Hid (ze P o.heap.size (.slice (some ⟨q.heap.size,0,none⟩) a.length a.length) (List.replicate a.length false)):=(by show P.ownsRow _ _ _ _ _ _;rw[aS,fP];have h:(madeCells (Value.bool false).cells (a.length*1)).toList=List.replicate a.length (Value.bool false):=nH _;rw[h] at T;exact T);have l9:Hid (Below q.heap.size q P):=qy0 N;clear T N;have t3:Hid (∀ n l G,Below o.heap.size o G->Calls Tryz.prog 103 #[.slice o2 d.length o3,.int .i64 n,.int .i64 l] G fun h E=>h=.returned (.bool (gx d n l))/\Below G.heap.size G E):=fun n l G z=>ip _ d n l G ((qb hA2).below z) (by omega) (qb e6);have t4:Hid (∀ n l G,Below o.heap.size o G->Calls Tryz.prog 103 #[.slice o4 g.length o5,.int .i64 n,.int .i64 l] G fun h E=>h=.returned (.bool (gx g n l))/\Below G.heap.size G E):=fun n l G z=>ip _ g n l G ((qb s0).below z) (by omega) (qb e7);by_cases t5:f+1<j.length
     ·have t6:(f:Int)+1<(j.length:Int):=(by omega);go_loopw [16] (fun J wr=>∃ k:Nat,k<=a.length/\J=.int .i64 k/\ze wr o.heap.size (.slice (some ⟨q.heap.size,0,none⟩) a.length a.length) ((a.take k).map (fun b=>gQ r (gx d b c) (gx g b c))++List.replicate (a.length-k) false)/\Below q.heap.size q wr) (fun J _=>a.length-(intOf J).toNat)
      case atStart=>exact⟨0,aj _,rfl,by simpa using qb l8,qb l9⟩
      case round=>
       obtain⟨k,n0,rfl,a5,v⟩:=hrel;have n1:=v.size;by_cases t7:k<a.length
       ·obtain⟨b,F⟩:∃ b,a[k]?=some b:=⟨a[k],by simp[t7]⟩;have t8:=(v.cell (p:=⟨R,k,none⟩) (by simp;omega)).trans (((qb Q).cell (p:=⟨R,k,none⟩) t0).trans ((qb t1) k b F));have c3:=(v.cell (p:=⟨u,f,none⟩) (by simp;omega)).trans (((qb Q).cell (p:=⟨u,f,none⟩) c0).trans (qb c1));have A7:(0:Int)<=(k:Int):=(by omega);have t9:(k:Int)<(a.length:Int):=(by omega);have d9:R<wr.heap.size:=(by omega);have n2:u<wr.heap.size:=(by omega);have b3:=qg v;have v0:=qg a5;have n3:=qg F;clear v a5 F;go_wp2_with fail;go_region_held3 (fun E=>E.cell? ⟨R,k,none⟩=some (.int .i64 b)/\E.cell? ⟨u,f,none⟩=some (.int .i64 c))
         (first
           | go_keep
           | (go_split_ands
              refine⟨?_,?_⟩
              · (rw[D.cell (p:=⟨R,_,none⟩) d9];assumption)
              · (rw[D.cell (p:=⟨u,_,none⟩) n2];assumption)))
         ((go_at_call 103;refine ((qb t3) b c _ (by repeat (first | exact (qb Q).trans ((qb b3).mono b9) | refine fa ?_ | refine ax ?_ _))).mono ?_;rintro h a1 ⟨rfl,D⟩))
        have b8:=qg (show Below q.heap.size q a1 from ((qb b3).drew).trans (D.mono n1));have v1:=qg (zm (w:=wr.drew) (qb v0) D);have A8:wr.heap.size<=a1.heap.size:=D.size;have A9:=(D.cell (p:=⟨R,k,none⟩) d9).trans t8;have B0:=(D.cell (p:=⟨u,f,none⟩) n2).trans c3;have v2:R<a1.heap.size:=(by omega);have v3:u<a1.heap.size:=(by omega);clear D;go_wp2_with fail;go_region_held3 (fun E=>E.cell? ⟨R,k,none⟩=some (.int .i64 b)/\E.cell? ⟨u,f,none⟩=some (.int .i64 c))
         (first
           | go_keep
           | (go_split_ands
              refine⟨?_,?_⟩
              · (rw[D.cell (p:=⟨R,_,none⟩) v2];assumption)
              · (rw[D.cell (p:=⟨u,_,none⟩) v3];assumption)))
         ((go_at_call 103;refine ((qb t4) b c _ (by repeat (first | exact (qb Q).trans ((qb b8).mono b9) | refine fa ?_ | refine ax ?_ _))).mono ?_;rintro h a2 ⟨rfl,D⟩))
        have e1:=qg (show Below q.heap.size q a2 from ((qb b8).drew).trans (D.mono (by have:=(qb b8).size;exact this)));have f9:=qg (zm (w:=a1.drew) (qb v1) D);have B1:=xm (qb f9) (rR (fun b=>gQ r (gx d b c) (gx g b c)) (qb n3));have B2:a2.frozen? ⟨q.heap.size,k,none⟩=false:=(by have z:=qb f9;unfold ze at z;rw[mj (fun b=>gQ r (gx d b c) (gx g b c)) n0] at z;exact bs z k);have n4:Hid (ze (a2.setCell ⟨q.heap.size,k,none⟩ (.bool (gQ r (gx d b c) (gx g b c)))) o.heap.size (.slice (some ⟨q.heap.size,0,none⟩) a.length a.length) ((a.take (k+1)).map (fun b=>gQ r (gx d b c) (gx g b c))++List.replicate (a.length-(k+1)) false)/\a2.grownBy (a2.setCell ⟨q.heap.size,k,none⟩ (.bool (gQ r (gx d b c) (gx g b c)))) (some q.heap.size)):=(by have z:=qb f9;unfold ze at z;rw[mj (fun b=>gQ r (gx d b c) (gx g b c)) n0] at z;have:=aT z k (.bool (gQ r (gx d b c) (gx g b c)));refine⟨?_,this.2⟩;unfold ze;rw[mj (fun b=>gQ r (gx d b c) (gx g b c)) (by omega),<-rf (fun b=>gQ r (gx d b c) (gx g b c)) (qb n3),dh];exact this.1);have v4:=(qb e1).size;clear D;go_wp2_with (go_at_call 104;refine (nO r _ _ _).mono ?_;rintro h E ⟨rfl,rfl⟩);go_roundw
        case rel=>exact⟨k+1,by omega,by go_num,(qb n4).1,(qb e1).grown (qb n4).2 v4 (fun H e0=>by injection e0 with e0;omega)⟩
        case measure=>simp[intOf];omega
       ·have v5:k=a.length:=(by omega);have c4:Hid (ze wr o.heap.size (.slice (some ⟨q.heap.size,0,none⟩) a.length a.length) (a.map (fun b=>gQ r (gx d b c) (gx g b c)))):=(by have z:=a5;rw[v5,aP,cL,eP,aW] at z;exact z);have b3:=qg v;have a6:=qg (gw.kept (qb e3) v);have U:=qg ((qb Q).trans (v.mono b9));have c3:=(v.cell (p:=⟨u,f,none⟩) (by simp;omega)).trans (((qb Q).cell (p:=⟨u,f,none⟩) c0).trans (qb c1));have g0:=qg (gV (qb e9) (qb U));have t9:¬(k:Int)<(a.length:Int):=(by omega);obtain⟨n5,n6⟩:∃ n5,j[f+1]?=some n5:=⟨j[f+1],by simp[t5]⟩;have b4:=qg n6;clear a5 v n6;rcases qb f8 with ⟨Y,a7⟩ | ⟨Y,n7,c5,g1,c6,n8,c7⟩ | ⟨_,a3,_⟩
        ·have g2:¬(0:Int)<(f:Int):=(by omega);have g3:=qg Y;have g4:=qg a7;clear Y a7;go_wp2;go_roundw
         case rel=>
          refine⟨f+1,(fun b=>gQ r (gx d b c) (gx g b c)),c,B,by omega,by go_num,qb a6,by omega,qb U,.inr (.inl ⟨by omega,by omega,qb c4,rfl,((qb A).steps c).last (qb A).uM,l7,fun e2 y=>?_⟩)⟩;have h:=qb g4;have g5:=qb g3;subst h g5;have c8:=qb b4;rw[c8] at y;injection y with y;subst y;exact (qb A).first (qb S) (qb b4)
         case measure=>simp[intOf];omega
        ·have g2:(0:Int)<(f:Int):=(by omega);have b5:=qg (zm c5 (qb b3));have e5:=qg c6;have c9:=qg (c7 c (qb S));subst g1;have w0:IntKind.i64.wrap (c-i)=c-i:=(by rw[af];omega);have V:=qg (lS _ _ (.slice (some ⟨q.heap.size,0,none⟩) a.length a.length) _ (a.map (fun b=>gQ r (gx d b c) (gx g b c))) (a.map t) wr (qb c4) (qb b5) (by rw[ak];omega) (by simp));clear c5 c6 c7;by_cases I:a.map (fun b=>gQ r (gx d b c) (gx g b c))=a.map t
         ·rw[eC I] at V;have d0:=qg (fU.1 I);clear I;go_wp2_with fail;refine (qb V).mono ?_;rintro h d1 ⟨rfl,h5⟩;have w:=qg h5;have g6:=h5.size;clear h5;go_wp2;go_roundw
          case rel=>
           refine⟨f+1,t,i,B,by omega,by go_num,gw.kept (qb a6) (qb w),by omega,(qb U).trans ((qb w).mono (by omega)),.inr (.inl ⟨by omega,by omega,zm (qb b5) (qb w),rfl,qb e5,n8,fun e2 y=>?_⟩)⟩;have c8:=qb b4;rw[c8] at y;injection y with y;subst y;exact (qb A).on (qb S) (qb b4) (qb c9) (qb e5) (fun b F=>((qb d0) b F).symm)
          case measure=>simp[intOf];omega
         ·rw[bY I] at V;have d0:Hid (∃ b∈a,t b≠gQ r (gx d b c) (gx g b c)):=el fun z=>I (fU.2 fun b F=>el fun w1=>z ⟨b,F,fun h=>w1 h.symm⟩);clear I;go_wp2_with fail;refine (qb V).mono ?_;rintro h d1 ⟨rfl,h5⟩;have w:=qg h5;have g6:=h5.size;have g7:=(h5.cell (p:=⟨u,f,none⟩) (by simp;omega)).trans c3;clear h5;go_wp2_with fail;refine (mR t x.heap.size o.heap.size _ _ a i (c-i) d1 (gV (qb g0) (qb w)) (zm (qb b5) (qb w)) (by omega) (qb A).bx).mono ?_;rintro h w2 ⟨w3,rfl,d2,O⟩;have g8:=qg d2;have d3:=qg (gw.kept (gw.kept (qb a6) (qb w)) O);have w4:=qg (zm (zm (qb c4) (qb w)) O);have g9:=qg (((qb U).trans ((qb w).mono (by omega))).trans (O.mono (by omega)));have w5:=O.size;have d4:Hid ((gy t i (c-i) none a).length<=160):=aO (hv t i (c-i) none a) l0;clear d2 O g7;go_wp2_with (at_builtin;refine gI rfl _ _ rfl o.heap.size _ _ _ B (gy t i (c-i) none a) rfl (qb d3) rfl (qb g8) (by have:=qb d4;omega) (by omega) ?_;intro w6 w7 T N;have i0:=qg T;have n9:=qg N;have d5:=qg ((qb g9).grown N (by omega) (gw.tM (qb d3)));have w8:=((qb d5).cell (p:=⟨u,f,none⟩) c0).trans (qb c1);clear T N);go_roundw
          case rel=>
           refine⟨f+1,(fun b=>gQ r (gx d b c) (gx g b c)),c,B++gy t i (c-i) none a,by omega,by go_num,qb i0,by have:=qb d4;rw[ae];omega,qb d5,.inr (.inl ⟨by omega,by omega,ck (qb w4) (qb n9) (.inr fun h=>?_),rfl,((qb A).steps c).last (qb A).uM,l7,fun e2 y=>?_⟩)⟩
           ·have:=(ab (qb e3) q.heap.size h.symm).2;omega
           ·have c8:=qb b4;rw[c8] at y;injection y with y;subst y;exact (qb A).more (qb S) (qb b4) (qb c9) (qb e5) (qb d0)
          case measure=>simp[intOf];omega
        ·omega
     ·have t6:¬(f:Int)+1<(j.length:Int):=(by omega);have B3:(0:Int)<(a.length:Int):=(by omega);go_loopw [16] (fun J wr=>J=.int .i64 0/\ze wr o.heap.size (.slice (some ⟨q.heap.size,0,none⟩) a.length a.length) (a.map fun _=>false)/\Below q.heap.size q wr) (fun J _=>a.length-(intOf J).toNat)
      case atStart=>exact⟨rfl,by rw[show (a.map fun _=>false)=List.replicate a.length false from List.map_const'];exact qb l8,qb l9⟩
      case round=>
       obtain⟨rfl,a5,v⟩:=hrel;have n1:=v.size;have c4:=qg a5;have b3:=qg v;have a6:=qg (gw.kept (qb e3) v);have U:=qg ((qb Q).trans (v.mono b9));have c3:=(v.cell (p:=⟨u,f,none⟩) (by simp;omega)).trans (((qb Q).cell (p:=⟨u,f,none⟩) c0).trans (qb c1));have g0:=qg (gV (qb e9) (qb U));clear a5 v;rcases qb f8 with ⟨Y,a7⟩ | ⟨Y,n7,c5,g1,c6,n8,c7⟩ | ⟨_,a3,_⟩
       ·have g2:¬(0:Int)<(f:Int):=(by omega);have g3:=qg Y;have g4:=qg a7;clear Y a7;go_wp2;go_roundw
        case rel=>
         refine⟨f+1,t,i,B,by omega,by go_num,qb a6,by omega,qb U,.inr (.inr ⟨by omega,by omega,?_⟩)⟩;have h:=qb g4;have g5:=qb g3;subst h g5;refine⟨⟨fun e s=>by simp at s,dY,fun e s=>by simp at s⟩,fun n l=>⟨fun M=>absurd M (hX n l),fun M=>?_⟩⟩;exfalso;by_cases w9:l<c
         ·have:=(qb A).before c (qb S) n l w9;rw[this] at M;cases M
         ·have:=(qb A).behind 0 c (qb S) (by omega) n l (by omega);rw[this] at M;cases M
        case measure=>simp[intOf];omega
       ·have g2:(0:Int)<(f:Int):=(by omega);have b5:=qg (zm c5 (qb b3));have e5:=qg c6;have c9:=qg (c7 c (qb S));subst g1;have w0:IntKind.i64.wrap (c-i)=c-i:=(by rw[af];omega);have V:=qg (lS _ _ (.slice (some ⟨q.heap.size,0,none⟩) a.length a.length) _ (a.map fun _=>false) (a.map t) wr (qb c4) (qb b5) (by rw[ak];omega) (by simp));clear c5 c6 c7;by_cases I:(a.map fun _=>false)=a.map t
        ·rw[eC I] at V;have d0:=qg (fU.1 I);clear I;go_wp2_with fail;refine (qb V).mono ?_;rintro h d1 ⟨rfl,h5⟩;have w:=qg h5;have g6:=h5.size;clear h5;go_wp2;go_roundw
         case rel=>
          refine⟨f+1,t,i,B,by omega,by go_num,gw.kept (qb a6) (qb w),by omega,(qb U).trans ((qb w).mono (by omega)),.inr (.inr ⟨by omega,by omega,?_⟩)⟩;have o0:=qb c9;rw[hn i (c-i) none a (j:=fun _=>false) (fun b F=>((qb d0) b F).symm),mS,aW] at o0;exact (qb A).done (qb S) (by omega) o0
         case measure=>simp[intOf];omega
        ·rw[bY I] at V;clear I;go_wp2_with fail;refine (qb V).mono ?_;rintro h d1 ⟨rfl,h5⟩;have w:=qg h5;have g6:=h5.size;have g7:=(h5.cell (p:=⟨u,f,none⟩) (by simp;omega)).trans c3;clear h5;go_wp2_with fail;refine (mR t x.heap.size o.heap.size _ _ a i (c-i) d1 (gV (qb g0) (qb w)) (zm (qb b5) (qb w)) (by omega) (qb A).bx).mono ?_;rintro h w2 ⟨w3,rfl,d2,O⟩;have g8:=qg d2;have d3:=qg (gw.kept (gw.kept (qb a6) (qb w)) O);have g9:=qg (((qb U).trans ((qb w).mono (by omega))).trans (O.mono (by omega)));have w5:=O.size;have d4:Hid ((gy t i (c-i) none a).length<=160):=aO (hv t i (c-i) none a) l0;clear d2 O g7;go_wp2_with (at_builtin;refine gI rfl _ _ rfl o.heap.size _ _ _ B (gy t i (c-i) none a) rfl (qb d3) rfl (qb g8) (by have:=qb d4;omega) (by omega) ?_;intro w6 w7 T N;have i0:=qg T;have n9:=qg N;have d5:=qg ((qb g9).grown N (by omega) (gw.tM (qb d3)));have w8:=((qb d5).cell (p:=⟨u,f,none⟩) c0).trans (qb c1);clear T N);go_roundw
         case rel=>exact⟨f+1,t,c,B++gy t i (c-i) none a,by omega,by go_num,qb i0,by have:=qb d4;rw[ae];omega,qb d5,.inr (.inr ⟨by omega,by omega,(qb A).done (qb S) (by omega) (qb c9)⟩)⟩
         case measure=>simp[intOf];omega
       ·omega
    ·have B4:f=j.length:=(by omega);have o1:Hid (ha B/\∀ n l,Qa B n l↔gQ r (gx d n l) (gx g n l)=true):=by
      rcases qb f8 with ⟨Y,a7⟩ | ⟨_,n7,_⟩ | ⟨_,_,h1,h2⟩
      ·have x0:j=[]:=bQ.1 (by omega);subst a7;refine⟨⟨fun e s=>by simp at s,dY,fun e s=>by simp at s⟩,fun n l=>⟨fun M=>absurd M (hX n l),fun M=>?_⟩⟩;have:=(qb A).empty x0 n l;rw[this] at M;cases M
      ·omega
      ·exact⟨h1,h2⟩
     have t2:¬(f:Int)<(j.length:Int):=(by omega);clear C;go_wp2;go_ret;exact⟨_,rfl,B,(qb e3).mono (by omega),(qb o1).1,(qb o1).2,by omega,(qb j4).trans ((qb Q).mono (by omega))⟩
end
def rj (a b:Rc):Bool:=decide (a.x=b.x/\a.y=b.y-a.h/\a.w=b.w)
def pI (a b:Rc)(c:World)(f:-10000<=b.y/\b.y<=10000)(g:-10000<=a.h/\a.h<=10000):Calls Tryz.prog 160 #[.agg #[.int .i64 a.x,.int .i64 a.y,.int .i64 a.w,.int .i64 a.h],.agg #[.int .i64 b.x,.int .i64 b.y,.int .i64 b.w,.int .i64 b.h]] c fun d e=>d=.returned (.bool (rj a b))/\Below c.heap.size c e:=by
 go_enter Tryz.func160,Tryz.ntmps160;go_wp2;all_goals (go_ret;exact⟨by simp_all [rj],((aa _ _).alloc (zzl _) _).alloc (by simp) _⟩)
def gJ:List Rc->List Rc->Bool
 | [],[]=>true
 | a::b,c::d=>rj a c&&gJ b d
 | _,_=>false
def lX:∀ (b c:List Rc),gJ b c=true->b.length=c.length
 | [],[],_=>rfl
 | d::b,e::c,a=>by simp[gJ] at a;simp[lX b c a.2]
 | [],_::_,a=>by simp[gJ] at a
 | _::_,[],a=>by simp[gJ] at a
def lj:∀ (e f:List Rc)(a:Nat)(b c:Rc),e[a]?=some b->f[a]?=some c->gJ (e.take a) (f.take a)=true->gJ (e.take (a+1)) (f.take (a+1))=rj b c
 | [],_,a,b,c,d,_,_=>by simp at d
 | _::_,[],a,b,c,_,d,_=>by simp at d
 | i::e,j::f,0,b,c,g,h,_=>by simp at g h;subst g h;simp[gJ]
 | i::e,j::f,a+1,b,c,g,h,d=>by
  simp only[dJ,gJ,aK] at d ⊢;rw[lj e f a b c (by simpa using g) (by simpa using h) d.2,d.1];simp
def mT:∀ (e f:List Rc)(d:Nat)(a b:Rc),e[d]?=some a->f[d]?=some b->rj a b=false->gJ e f=false
 | [],_,d,a,b,c,_,_=>by simp at c
 | _::_,[],d,a,b,_,c,_=>by simp at c
 | i::e,j::f,0,a,b,g,h,c=>by simp at g h;subst g h;simp[gJ,c]
 | i::e,j::f,d+1,a,b,g,h,c=>by simp[gJ,mT e f d a b (by simpa using g) (by simpa using h) c]
def oV (q r:Value)(a c:List Rc)(f:World)(E:Rd f q a)(F:Rd f r c)(P:a.length<=100000000)(Q:c.length<=100000000)(G:∀ d∈a,-10000<=d.h/\d.h<=10000) (H:∀ d∈c,-10000<=d.y/\d.y<=10000):Calls Tryz.prog 159 #[q,r,.func (.func 160) #[] #[]] f fun g n=>g=.returned (.bool (gJ a c))/\Below f.heap.size f n:=by
 obtain⟨R,S,rfl,h1,h2,h3⟩:=E;obtain⟨T,U,rfl,V,W,s⟩:=F;by_cases j:a.length=c.length
 ·go_enter Tryz.func159,Tryz.ntmps159;rw[<-j];have t:=qg j;clear j;go_wp2;go_loopw [17] (fun o wr=>∃ b:Nat,b<=a.length/\o=.int .i64 b/\gJ (a.take b) (c.take b)=true/\Below f.heap.size f wr) (fun o _=>a.length-(intOf o).toNat)
  case atStart=>exact⟨0,aj _,rfl,rfl,aa _ _⟩
  case round=>
   obtain⟨b,X,rfl,k,e⟩:=hrel;by_cases u:b<a.length
   ·have v:b<c.length:=(by have:=qb t;omega);obtain⟨w,Y,rfl,I,x⟩:=h3 (by intro g;subst g;simp at u);obtain⟨y,Z,rfl,J,z⟩:=s (by intro g;subst g;simp at v);obtain⟨h,l⟩:∃ d,a[b]?=some d:=⟨a[b],by simp[u]⟩;obtain⟨i,m⟩:∃ d,c[b]?=some d:=⟨c[b],by simp[v]⟩;obtain⟨a0,c2,a1,a2⟩:=(x b h l).below e I;obtain⟨a3,a4,a5,a6⟩:=(z b i m).below e J;have a7:=e.size;have a8:w<wr.heap.size:=(by omega);have a9:y<wr.heap.size:=(by omega);have b0:w≠wr.heap.size:=(by omega);have b1:y≠wr.heap.size:=(by omega);clear x h3 z s;have K:=qg (lj a c b h i l m k);have L:=qg (mT a c b h i l m);have A:=H i (zzn m);have B:=G h (zzn l);clear k;cases C:rj h i
    ·go_wp2_with (go_at_call 160;refine (pI h i _ A B).mono ?_;rintro g n ⟨rfl,p⟩)
     go_ret;exact⟨by rw[qb L C];rfl,((e.alloc e.size _).alloc (by simp;omega) _).trans (p.mono (by simp;omega))⟩
    ·go_wp2_with (go_at_call 160;refine (pI h i _ A B).mono ?_;rintro g n ⟨rfl,p⟩)
     go_roundw
     case rel=>exact⟨b+1,by omega,by go_num,by rw[qb K,C],((e.alloc e.size _).alloc (by simp;omega) _).trans (p.mono (by simp;omega))⟩
     case measure=>simp[intOf];omega
   ·have M:b=a.length:=(by omega);have N:Hid (gJ a c=true):=(by rw[M,aP,qb t,aP] at k;exact k);clear k;go_wp2;go_ret;exact⟨by rw[N.out];rfl,e⟩
 ·have D:gJ a c=false:=by
   cases O:gJ a c
   ·rfl
   ·exact absurd (lX a c O) j
  rw[D];have b2:((a.length:Int) != (c.length:Int))=true:=(by rw[bne_iff_ne];omega);have b3:=qg j;clear j D;go_enter Tryz.func159,Tryz.ntmps159;go_wp2;all_goals (go_ret;exact⟨rfl,aa _ _⟩)
def iw (d e:Value)(b c:List Rc)(a:World)(f:Rd a d b)(g:Rd a e c)(h:b.length<=100000000)(i:c.length<=100000000)(j:∀ r∈b,-10000<=r.h/\r.h<=10000) (k:∀ r∈c,-10000<=r.y/\r.y<=10000):Calls Tryz.prog 145 #[d,e] a fun l m=>l=.returned (.bool (gJ b c))/\Below a.heap.size a m:=by
 have n:=qg (oV d e b c a f g h i j k);clear f g h i j k;go_enter Tryz.func145,Tryz.ntmps145;go_wp2_with (go_at_call 159;refine (qb n).mono ?_;rintro l m ⟨rfl,o⟩);go_ret;exact⟨rfl,o⟩
variable{w:World}{g i j:Nat}{ro:Option Addr}
def ka (l:Nat)(m:Prop->Prop->Prop):Prop:=∀ (b c:Int)(n o:Nat)(h i:Value)(d e:List Rc)(a:World)(_:gw a n h d)(_:gw a o i e)(_:gA b c d)(_:gA b c e)(_:0<c/\c<=3000)(_:-1000<=b/\b<=2000),
 Calls Tryz.prog l #[h,i] a fun p j=>∃ k f,p=.returned k/\gw j a.heap.size k f/\gA b c f/\(∀ g,gq f g↔m (gq d g) (gq e g))/\Below a.heap.size a j
def oh (f:gw w n (.slice ro l.length i) l)(r:j<=l.length):Rd w (.slice (Option.map (fun g=>g.add (j*4)) ro) (l.length-j) (i-j)) (l.drop j):=by
 obtain⟨s,t,b,u,v,h⟩:=f.rd;simp only[ai] at b;obtain⟨rfl,_,rfl⟩:=b;refine⟨_,_,by rw[aV],by rw[aV];omega,by omega,fun k=>?_⟩;obtain⟨c,a,rfl,m,o⟩:=h (by intro b;subst b;simp at k);refine⟨c,a+j*4,?_,m,fun d p e=>?_⟩
 ·have q:(⟨c,a,none⟩:Addr).add (j*4)=⟨c,a+j*4,none⟩:=(by unfold Addr.add;split<;>simp_all);simp[q]
 ·rw[bw] at e;have:=o (j+d) p e;rwa[show a+(j+d)*4=a+j*4+d*4 by omega] at this
def pD (a:gw w n (.slice (some ⟨g,0,none⟩) l.length i) l)(b:j<=l.length):Rd w (.slice (some ⟨g,j*4,none⟩) (l.length-j) (i-j)) (l.drop j):=by
 have:=oh a b;have c:(⟨g,0,none⟩:Addr).add (j*4)=⟨g,j*4,none⟩:=(by unfold Addr.add;split<;>simp_all);rwa[bO,c] at this
def rS (a:gw w n (.slice ro l.length i) l):Rd w (.slice ro (l.length-i) 0) (l.drop i):=by
 obtain⟨d,e,b,c,f,g⟩:=a.rd;simp only[ai] at b;obtain⟨rfl,_,rfl⟩:=b;have:=cY c;rw[this];exact⟨_,_,by rw[show l.length-i=0 by omega];rfl,by simp,by simp[maxLen],fun a=>absurd rfl a⟩
def im (b:Option Addr)(c2:Nat)(c:Int)(a:World):Calls Tryz.prog 146 #[.slice b 0 c2,.int .i64 c] a fun d e=>d=.returned (.tuple #[])/\e=a:=by
 go_enter Tryz.func146,Tryz.ntmps146;go_wp2;refine wp_loop_rounds 1 ?_;rw[rounds_succ];go_wp2;go_end0;exact⟨rfl,rfl⟩
def noM {e:Prop->Prop->Prop}(f:¬e False False)(a b:Int)(c:¬Qa (l++B) a b):¬e (Qa l a b) (Qa B a b):=by
 rw[zf4] at c;have g:=fG ⟨fun d=>c (.inl d),False.elim⟩;have h:=fG ⟨fun d=>c (.inr d),False.elim⟩;rw[g,h];exact f
def hP:∀ {c d:List Rc},gJ c d=true->∀ b,gq c b↔gq d b
 | [],[],_,_=>eM
 | e::c,f::d,a,b=>by
  simp only[gJ,aK,rj,be] at a;rw[jy,jy,hP a.2 b];refine fR ?_ eM;unfold Rc.has;omega
 | [],_::_,a,_=>by simp[gJ] at a
 | _::_,[],a,_=>by simp[gJ] at a
def hH {f:Int}:∀ {b c:List Rc},(∀ a∈b,a.y+a.h=f)->(∀ a∈c,a.y=f)->gJ b c=false->b.map (fun a=>(a.x,a.w))≠c.map (fun a=>(a.x,a.w))
 | [],[],_,_,d=>by simp[gJ] at d
 | g::b,h::c,i,j,d=>by
  intro k;simp only[aY,bE,bP] at k;have m:=i g (by simp);have n:=j h (by simp);have l:rj g h=true:=(by simp only[rj,be];omega);simp only[gJ,l,fM] at d;exact hH (fun a e=>i a (ba _ e)) (fun a e=>j a (ba _ e)) d k.2
 | [],_::_,_,_,_=>by simp
 | _::_,[],_,_,_=>by simp
def hY (a2:iF)(a3:Nat)(J:Prop->Prop->Prop)(k2:∀ args q,(callFunc a3 args).run Tryz.prog q=.ok (.enter a3 args) q)(c5:ka a3 J)(c6:¬J False False)(c7 c8:Value) (m n:List Rc) (q:World) (c9:Rd q c7 m) (d0:Rd q c8 n) (d1:m.length<=1000) (d2:n.length<=1000) (b0:∀ b∈m,ia b) (b1:∀ b∈n,ia b):Calls Tryz.prog 125 #[c7,c8,.func (.func a3) #[] #[]] q fun f d3=>∃ U a,f=.returned U/\gw d3 q.heap.size U a/\ha a/\(∀ c d,Qa a c d↔J (Qa m c d) (Qa n c d))/\ (∀ b∈a,-1000<=b.x/\b.x+b.w<=2000/\-1000<=b.y/\b.y+b.h<=2000)/\a.length<=20000000/\Below q.heap.size q d3:=by
 have d4:=qg c9;have d5:=qg d0;have d6:=qg b0;have d7:=qg b1;have d8:=qg a2;have g5:=qg c5;have b2:Hid (∀ b∈m++n,ia b):=fun b h=>(al.1 h).elim (b0 b) (b1 b);obtain⟨k3,k4,rfl,_,_,_⟩:=c9;obtain⟨k5,k6,rfl,_,_,_⟩:=d0;clear b0 b1 a2 c5;go_enter Tryz.func125,Tryz.ntmps125;go_wp2_with fail;refine (oW q.heap.size _ _ m n _ (qt _ _ _ rfl) ((qb d4).below ((aa _ q).alloc (zzl _) _)) ((qb d5).below ((aa _ q).alloc (zzl _) _)) d1 d2 (qb d6) (qb d7)).mono ?_;rintro f z ⟨k7,o,rfl,b3,d9,e0,e1,b4⟩;have b5:=qg b3;have w:=qg (show gL o (m++n) from⟨d9,e0⟩);have b6:=qg (((aa _ q).alloc (zzl _) _).trans (b4.mono (by simp)));have k8:q.heap.size+1<=z.heap.size:=(by simpa using b4.size);obtain⟨k9,l0,rfl,_⟩:=gR b3;clear b3 d9 e0 b4;go_wp2;have l1:o.length<=4000:=(by rw[ae] at e1;omega);clear e1;go_loopw [7,8,10] (fun g6 g7 b7 wr=>∃ (i:Nat)(a:List Rc)(e:Nat)(g:Int),b7=.int .i64 (i+1:Nat)/\g7=.int .i64 e/\(o≠[]->o[i]?=some g)/\(o=[]->i=0)/\g<=2000/\CI (fun c d=>J (Qa m c d) (Qa n c d)) g a e/\gw wr z.heap.size g6 a/\a.length<=3000*i/\i<=o.length/\Below z.heap.size z wr) (fun _ _ b7 _=>o.length+1-(intOf b7).toNat)
 case atStart=>
  have e2:∀ c d,¬Qa (m++n) c d->¬J (Qa m c d) (Qa n c d):=noM c6;by_cases K:o=[]
  ·exact⟨0,[],0,0,rfl,rfl,fun j=>absurd K j,fun _=>rfl,by omega,CI.start _ _ (fun c d _=>e2 c d ((qb w).none K c d)),za7 _,by simp,aj _,aa _ _⟩
  ·obtain⟨g,x⟩:∃ g,o[0]?=some g:=⟨o[0]'(cZ.2 K),by simp[cZ.2 K]⟩;exact⟨0,[],0,g,rfl,rfl,fun _=>x,fun _=>rfl,((qb w).bound (qb b2) x).2,CI.start _ _ (fun c d j=>e2 c d ((qb w).before x c d j)),za7 _,by simp,aj _,aa _ _⟩
 case round=>
  obtain⟨i,a,e,g,rfl,rfl,a4,e3,l2,V,W,l3,l4,B⟩:=hrel;by_cases b8:i+1<o.length
  ·have C:o≠[]:=(by intro f;rw[f] at b8;simp at b8);have x:=a4 C;obtain⟨l,L⟩:∃ l,o[i+1]?=some l:=⟨o[i+1],by simp[b8]⟩;have X:=(qb w).bound (qb b2) x;have D:=(qb w).bound (qb b2) L;have E:=ja (qb w).up x L;obtain⟨e4,l5,e5,l6,e6⟩:=hL (qb b5) C;simp only[ai] at e5;obtain⟨rfl,_,rfl⟩:=e5;have l7:=(B.cell (p:=⟨e4,i,none⟩) e6).trans (ih (qb b5) x);have l8:=(B.cell (p:=⟨e4,i+1,none⟩) e6).trans (ih (qb b5) L);have e7:Hid (∀ b∈m,iU b g l):=fun b h=>(qb w).clear x L (al.2 (.inl h));have e8:Hid (∀ b∈n,iU b g l):=fun b h=>(qb w).clear x L (al.2 (.inr h));have r:=qg V;have b9:=qg W;have y:=qg B;have M:=B.size;have P:=qg L;have l9:=V.le;have g8:=qg ((qb d4).below ((qb b6).trans ((qb y).mono (by omega))));have g9:=qg ((qb d5).below ((qb b6).trans ((qb y).mono (by omega))));obtain⟨i0,Y,rfl,n0⟩:=gC W;clear V W B a4 e3 x L;go_wp2;go_quiet (fail);go_wp2_with fail;have i1:=qg ((qb g8).below (ax (aa _ wr) nq));have i2:=qg ((qb g9).below (ax (aa _ wr) nq));refine (kK (qb d8) _ m g l _ (qb i1) d1 (qb d6) (qb e7) ⟨X.1,E,D.2⟩).mono ?_;rintro f i3 ⟨n1,i4,rfl,e9,f0,f1,a5⟩;have i5:=qg ((qb i2).below a5);have i6:=qg e9;have i7:=qg f0;have i8:=qg f1;have i9:=qg a5;have f2:wr.heap.size<=i3.heap.size:=a5.size;clear e9 f0 f1 a5;go_wp2_with fail;refine (kK (qb d8) _ n g l _ (qb i5) d2 (qb d7) (qb e8) ⟨X.1,E,D.2⟩).mono ?_;rintro f n2 ⟨n3,j0,rfl,f3,f4,f5,a6⟩;have j1:=qg (gw.kept (qb i6) a6);have j2:=qg f3;have j3:=qg f4;have j4:=qg f5;have j5:=qg a6;have j6:=a6.size;clear f3 f4 f5 a6;go_wp2_with fail;refine ((qb g5) g (l-g) _ _ _ _ i4 j0 _ (qb j1) (qb j2) (qb i7) (qb j3) ⟨by omega,by omega⟩ ⟨by omega,by omega⟩).mono ?_;rintro f Z ⟨n4,s,rfl,f6,f7,f8,c0⟩;have Q:=qg f6;have F:=qg f7;have j7:=qg f8;have n5:=c0.size;have a7:=qg (show Below wr.heap.size wr Z from (((ax (aa _ wr) nq).trans (qb i9)).trans ((qb j5).mono f2)).trans (c0.mono (aO f2 j6)));have R:=qg (gw.kept (qb b9) (qb a7));clear f6 f7 f8 c0;have n6:decide ((e:Int)<=(a.length:Int))=true:=(by rw[decide_eq_true_iff];omega);have S:Hid (∀ c d,g<=d->d<l->(J (Qa m c d) (Qa n c d)↔gq s c)):=(by intro c d h1 h2;rw[(qb j7) c,fG (ic (qb e7) c d h1 h2),fG (ic (qb e8) c d h1 h2),fG ((qb i8) c),fG ((qb j4) c)]);have a8:Hid (∀ b∈a.drop e,-10000<=b.h/\b.h<=10000):=fun b h=>by
    have:=(qb r).pos b (bm h);omega
   have c1:Hid (∀ b∈s,-10000<=b.y/\b.y<=10000):=fun b h=>by
    have:=(qb F).1 b h;omega
   have A:=qg (qb F).len;by_cases f9:e<a.length
   ·obtain⟨j8,n7,g0,j9,n8⟩:=ld (qb R) (by intro f;rw[f] at f9;simp at f9);simp only[ai] at g0;obtain⟨rfl,_,rfl⟩:=g0;have c2:Y≠e:=(by omega);have n9:¬Y=e:=c2;go_wp2_with fail;refine (iw _ _ (a.drop e) s Z (pD (qb R) (by omega)) (qb Q).rd (by rw[aV];omega) (by have:=qb A;omega) (qb a8) (qb c1)).mono ?_;rintro f T ⟨rfl,k⟩;have g1:=k.size;have G:=qg (show Below wr.heap.size wr T from (qb a7).trans (k.mono (by omega)));have u:=qg (gw.kept (qb R) k);have a0:=qg (gw.kept (qb Q) k);clear k;cases t:gJ (a.drop e) s
    ·have v:=qg t;clear t;go_wp2_with (at_builtin;refine gI rfl _ _ rfl z.heap.size _ _ _ a s rfl (qb u) rfl (qb a0) (by have:=qb A;omega) (by omega) ?_;intro U a1 H I;have N:=qg H;have O:=qg I;clear H I);go_roundw
     case rel=>
      refine⟨i+1,a++s,a.length,l,by go_num,rfl,fun _=>qb P,fun f=>absurd f C,D.2,?_,?_,?_,by omega,?_⟩
      ·exact (qb r).more E X.1 (qb F) (qb S) (hH (qb r).new (fun b h=>((qb F).1 b h).2.1) (qb v))
      ·exact qb N
      ·have:=qb A;rw[ae];omega
      ·exact ((qb y).trans ((qb G).mono M)).grown (qb O) (by omega) (gw.tM (qb u))
     case measure=>simp[intOf];omega
    ·have v:=qg t;clear t;go_wp2_with fail;have a9:(a.take e).length+(a.drop e).length=a.length:=(by rw[<-ae,ap]);have c3:=mt z.heap.size j8 Y e (Y-e) (a.take e) (a.drop e) (l-g) T (by rw[a9,ap];exact qb u) (by rw[ao];omega) ⟨by omega,by omega⟩ (by rw[a9];omega) (qb a8);rw[a9,aV] at c3;refine c3.mono ?_;clear c3;rintro f a1 ⟨rfl,g2,g3⟩;have N:=qg g2;have O:=qg g3;clear g2 g3 a9;go_wp2;go_roundw
     case rel=>
      refine⟨i+1,a.take e++(a.drop e).map (hV (l-g)),e,l,by go_num,rfl,fun _=>qb P,fun f=>absurd f C,D.2,?_,?_,?_,by omega,?_⟩
      ·exact (qb r).on E (qb S) (hP (qb v))
      ·exact qb N
      ·rw[ae,ak,<-ae,ap];omega
      ·exact ((qb y).trans ((qb G).mono M)).grown (qb O) (by omega) (fun o0 a2=>by cases a2;exact j9)
     case measure=>simp[intOf];omega
   ·go_wp2_with fail
    case inl=>
     have c2:Y=e:=(by omega);have g4:=qg (show gw Z z.heap.size (.slice i0 a.length e) a from by have j:=qb R;rw[c2] at j;exact j);refine (iw _ _ (a.drop e) s Z (rS (qb g4)) (qb Q).rd (by rw[aV];omega) (by have:=qb A;omega) (qb a8) (qb c1)).mono ?_;rintro f T ⟨rfl,k⟩;have g1:=k.size;have G:=qg (show Below wr.heap.size wr T from (qb a7).trans (k.mono (by omega)));have u:=qg (gw.kept (qb g4) k);have a0:=qg (gw.kept (qb Q) k);clear k;cases t:gJ (a.drop e) s
     ·have v:=qg t;clear t;go_wp2_with (at_builtin;refine gI rfl _ _ rfl z.heap.size _ _ _ a s rfl (qb u) rfl (qb a0) (by have:=qb A;omega) (by omega) ?_;intro U a1 H I;have N:=qg H;have O:=qg I;clear H I);go_roundw
      case rel=>
       refine⟨i+1,a++s,a.length,l,by go_num,rfl,fun _=>qb P,fun f=>absurd f C,D.2,?_,?_,?_,by omega,?_⟩
       ·exact (qb r).more E X.1 (qb F) (qb S) (hH (qb r).new (fun b h=>((qb F).1 b h).2.1) (qb v))
       ·exact qb N
       ·have:=qb A;rw[ae];omega
       ·exact ((qb y).trans ((qb G).mono M)).grown (qb O) (by omega) (gw.tM (qb u))
      case measure=>simp[intOf];omega
     ·have v:=qg t;clear t;go_wp2_with fail;all_goals
       rw[show a.length-e=0 by omega];refine (im _ _ _ _).mono ?_;rintro f a1 ⟨rfl,rfl⟩;go_wp2;go_roundw
       case rel=>
        refine⟨i+1,a,e,l,by go_num,rfl,fun _=>qb P,fun f=>absurd f C,D.2,?_,?_,?_,by omega,?_⟩
        ·have j:=(qb r).on E (qb S) (hP (qb v));rw[cY (by omega),dr,aW,aL (by omega)] at j;exact j
        ·exact qb u
        ·omega
        ·exact (qb y).trans ((qb G).mono M)
       case measure=>simp[intOf];omega
    case inr=>
     refine (iw _ _ (a.drop e) s Z (oh (qb R) (by omega)) (qb Q).rd (by rw[aV];omega) (by have:=qb A;omega) (qb a8) (qb c1)).mono ?_;rintro f T ⟨rfl,k⟩;have g1:=k.size;have G:=qg (show Below wr.heap.size wr T from (qb a7).trans (k.mono (by omega)));have u:=qg (gw.kept (qb R) k);have a0:=qg (gw.kept (qb Q) k);clear k;cases t:gJ (a.drop e) s
     ·have v:=qg t;clear t;go_wp2_with (at_builtin;refine gI rfl _ _ rfl z.heap.size _ _ _ a s rfl (qb u) rfl (qb a0) (by have:=qb A;omega) (by omega) ?_;intro U a1 H I;have N:=qg H;have O:=qg I;clear H I);go_roundw
      case rel=>
       refine⟨i+1,a++s,a.length,l,by go_num,rfl,fun _=>qb P,fun f=>absurd f C,D.2,?_,?_,?_,by omega,?_⟩
       ·exact (qb r).more E X.1 (qb F) (qb S) (hH (qb r).new (fun b h=>((qb F).1 b h).2.1) (qb v))
       ·exact qb N
       ·have:=qb A;rw[ae];omega
       ·exact ((qb y).trans ((qb G).mono M)).grown (qb O) (by omega) (gw.tM (qb u))
      case measure=>simp[intOf];omega
     ·have v:=qg t;clear t;go_wp2_with fail;all_goals
       rw[show a.length-e=0 by omega];refine (im _ _ _ _).mono ?_;rintro f a1 ⟨rfl,rfl⟩;go_wp2;go_roundw
       case rel=>
        refine⟨i+1,a,e,l,by go_num,rfl,fun _=>qb P,fun f=>absurd f C,D.2,?_,?_,?_,by omega,?_⟩
        ·have j:=(qb r).on E (qb S) (hP (qb v));rw[cY (by omega),dr,aW,aL (by omega)] at j;exact j
        ·exact qb u
        ·omega
        ·exact (qb y).trans ((qb G).mono M)
       case measure=>simp[intOf];omega
  ·have r:=qg V;have b9:=qg W;have y:=qg B;have M:=B.size;have k0:Hid (∀ c d,J (Qa m c d) (Qa n c d)->d<g):=by
    intro c d k1;by_cases c4:Qa (m++n) c d
    ·by_cases K:o=[]
     ·exact absurd c4 ((qb w).none K c d)
     ·exact (qb w).behind (a4 K) (by omega) c d c4
    ·exact absurd k1 (noM c6 c d c4)
   clear V W B a4 e3;go_wp2;go_ret;refine⟨_,a,rfl,(qb b9).mono (by omega),(qb r).right,fun c d=>((qb r).tR c d).trans ⟨fun j=>j.2,fun j=>⟨(qb k0) c d j,j⟩⟩,fun b h=>?_,by omega,(qb b6).trans ((qb y).mono (by omega))⟩;have:=(qb r).pos b h;omega
end Go.Proofs.YtbnbkjbfpamijaaGreat
namespace Go.Proofs.YtbnbkjbfpamijaaGreat
open Go.Shelf Go.RowKit Go.Lib Go.Sort Go.Proofs.Panes
def nE (c:List Rc)(d a:Nat)(e:Rc)(f:c[d]?=some e)(g:a<4):(qK c)[d*4+a]?=some ((vt e)[a]!):=by
 have b:=kL c d e f
 match a,g with
 | 0,_=>simpa[vt] using b.1
 | 1,_=>simpa[vt] using b.2.1
 | 2,_=>simpa[vt] using b.2.2.1
 | 3,_=>simpa[vt] using b.2.2.2
variable [Inhabited Rc]
def ol (b:List Rc):flatK vt 4 b.toArray=(qK b).toArray:=by
 apply Array.ext
 ·simp[size_flatK,qM]
 ·intro a d g;have h:a<b.length*4:=(by simpa[size_flatK] using d);have e:a/4<b.length:=(by omega);have f:=get_flatK vt 4 b.toArray a (by simpa using h);rw[getElem!_pos _ a d] at f;rw[f];have i:(b.toArray[a/4]!:Rc)=b[a/4]:=(by simp[e]);rw[i];have j:a%4<4:=eJ _ (by decide);have c:=nE b (a/4) (a%4) b[a/4] (by simp[e]) j;rw[show a/4*4+a%4=a by omega] at c;have k:a<(qK b).length:=(by simpa using g);rw[aB k] at c;simpa using (aA c).symm
def oT {e:World}{f:Nat}{b:Array Value}{i:TypeId}{a:List Rc}(g:e.heap[f]?=some (.cells b i (0,0)))(j:b.toList.take (a.length*4)=qK a):HoldsK vt 4 e f 0 a.toArray:=by
 unfold HoldsK;rw[ol];intro c k;have d:c<(qK a).length:=(by simpa using k);refine⟨?_,by simp[World.frozen?,g]⟩;have h:(b.toList.take (a.length*4))[c]?=(qK a)[c]?:=(by rw[j]);rw[cQ (by rw[qM] at d;exact d)] at h;simp only[World.cell?,g,bA];simp only[Option.isSome_none,cT,dE];rw[<-dB,h];simp[d]
def my {b:World}{a h:Nat}{i:Array Obj}{c:Array Value}{d:TypeId}{e:Nat×Nat}(f:Array Rc)(g:b.heap[a]?=some (.cells c d e)):(sortWorldK vt 4 b a 0 h f i).heap[a]?=some (.cells (putCells id 0 (flatK vt 4 f) c) d e):=by
 have j:=(bM.1 g).1;unfold sortWorldK putRowK;rw[heap_grow_old _ _ (by simpa using j)];simp[putRow,mapBlock,Sort.ahead,Array.getElem?_modify,g,onCells]
def iX {b:World}{a c:Nat}{d:Array Obj}(e:Array Rc):b.grownBy (sortWorldK vt 4 b a 0 c e d) (some a):=by
 unfold sortWorldK putRowK;refine⟨rfl,rfl,rfl,by simp,fun f g h=>?_⟩;rw[heap_grow_old _ _ (by simpa using g)];have:a≠f:=fun i=>h (by rw[i]);simp[putRow,mapBlock,Sort.ahead,Array.getElem?_modify,this]
def kB (b:Array Value)(a:List Value)(e:a.length<=b.size):(putCells id 0 a.toArray b).toList.take a.length=a:=by
 apply bh;intro c;by_cases d:c<a.length
 ·rw[cQ d,dB];simp[putCells,d,show c<b.size by omega]
 ·rw[List.getElem?_take_eq_none (by omega),aI (by omega)]
def nG {e:World}{f a b g:Nat}{h:Array Obj}{c:Array Value}{d l':List Rc}(i:l'.length=d.length)(j:f<=a)(k:e.heap[a]?=some (.cells c 46 (0,0)))(n:d.length<=b) (l:b<=maxLen) (m:c.size=b*4):gw (sortWorldK vt 4 e a 0 g l'.toArray h) f (.slice (some ⟨a,0,none⟩) d.length b) l':=by
 refine⟨qM l',.inr ⟨a,b,_,by rw[i],j,my _ k,by omega,l,by simp[putCells,m],?_⟩⟩;rw[ol,<-qM];exact kB c _ (by rw[qM];omega)
def ti (a b:Rc):ltOf (fun a b:Rc=>Lib.compareInt a.x b.x) a b=decide (a.x<b.x):=by
 unfold ltOf Lib.compareInt;by_cases c:a.x<b.x
 ·simp[c]
 ·by_cases d:b.x<a.x<;>simp[c,d]
def tp:SWO (ltOf fun a b:Rc=>Lib.compareInt a.x b.x) where
 irrefl x:=by rw[ti];simp
 trans x y z h1 h2:=by rw[ti] at *;simp at *;omega
 ntrans x y z h1 h2:=by rw[ti] at *;simp at *;omega
def pM (a b:Rc)(d:World):Calls Tryz.prog 162 #[.agg #[.int .i64 a.x,.int .i64 a.y,.int .i64 a.w,.int .i64 a.h],.agg #[.int .i64 b.x,.int .i64 b.y,.int .i64 b.w,.int .i64 b.h]] d fun e f=>e=.returned (.int .i64 (Lib.compareInt a.x b.x))/\∃ h i,f=grow (d.drewN h) i:=by
 have c:=fun g=>AnyG.cmp_Compare_int Tryz.layCmp a.x b.x g;change ∀ g,Calls Tryz.prog 163 _ _ _ at c;generalize Lib.compareInt a.x b.x=j at c ⊢;go_enter Tryz.func162,Tryz.ntmps162;go_wp2_with (go_at_call 163;refine (c _).mono ?_;rintro e f ⟨rfl,rfl⟩);go_ret;exact⟨rfl,0,_,by rw[alloc_eq_grow,alloc_eq_grow,grow_grow];rfl⟩
def oN (c d e:Nat)(f:World):CmpLays Tryz.prog 162 #[] vt 4 (fun a b=>Lib.compareInt a.x b.x) c d e f:=
 fun _ _ _ _ a b=>pM a b _
def sd:∀ a,(isAgg 46).run Tryz.prog a=.ok true a:=Tryz.isAgg46
def re:∀ a,(Go.sizeOf 46).run Tryz.prog a=.ok 4 a:=Tryz.sizeOf46
def mM {l:List Rc}{a:Array Rc}(f:SortedIn (ltOf fun b c:Rc=>Lib.compareInt b.x c.x) 0 l.toArray.size a)(m:a.size=l.toArray.size):a.toList.Pairwise (fun b c=>b.x<=c.x):=by
 rw[cH];intro d e g h i;have j:d<a.size:=(by simpa using g);have k:e<a.size:=(by simpa using h);have:=f d e (aj _) i (by omega);rw[ti,getElem!_pos a e k,getElem!_pos a d j] at this;simp at this;simpa using this
def pB (o:Nat)(f:Value)(a:List Rc)(b:World)(p:gw b o f a)(E:a.length<=1000000):Calls Tryz.prog 161 #[f,.func (.func 162) #[] #[]] b fun i g=>i=.returned (.tuple #[])/\∃ j,j.Perm a/\j.Pairwise (fun k l=>k.x<=l.x)/\gw g o f j/\b.grownBy g f.ownBlock:=by
 rcases p.2 with ⟨rfl,r⟩ | ⟨q,s,F,rfl,t,m,u,v,w,x⟩
 ·have y:=bQ.1 r;subst y;have c:=AnyF.slices_SortFunc_none Tryz.laySortFunc none 0 (.func (.func 162) #[] #[]) b;change Calls Tryz.prog 161 _ _ _ at c;exact c.mono fun i g ⟨n,d⟩=>⟨n,[],.nil,.nil,d ▸ p,d ▸ km b 0 _⟩
 ·have z:=enters_of Tryz.func162 (by kernel_rfl) rfl;have c:=AnyQ.slices_SortFunc Tryz.laySortFunc 4 sd re vt (fun _=>rfl) (fun A=>gU A) (fun k l=>Lib.compareInt k.x l.x) tp 162 #[] q 0 s a.toArray b z (oN q 0 _ b) (oT m x) (bM.1 m).1 (by simp;omega);change Calls Tryz.prog 161 _ _ _ at c;rw[dW] at c;refine c.mono fun i g ⟨n,e,G,H,h,B,d⟩=>⟨n,e.toList,?_,mM (l:=a) (by simpa using B) (by simpa using h.1),?_,?_⟩
  ·have:=h.2.2;have C:e.extract 0 a.length=e:=(by rw[show a.length=e.size by have:=h.1;simp at this;omega];simp);have D:a.toArray.extract 0 a.length=a.toArray:=(by rw[show a.length=a.toArray.size by simp];simp);rw[C,D] at this;exact this
  ·rw[d];exact nG (l':=e.toList) (by have:=h.1;simpa using this) t m u v w
  ·rw[d];exact iX _
end Go.Proofs.YtbnbkjbfpamijaaGreat
namespace Go.Proofs.YtbnbkjbfpamijaaGreat
open Go.RowKit Go.Proofs.Panes
def pC (d:Nat)(a:Value)(b:List Rc)(c:World)(g:gw c d a b)(h:b.length<=1000000):Calls Tryz.prog 161 #[a,.func (.func 162) #[] #[]] c fun i f=>i=.returned (.tuple #[])/\∃ e,e.Perm b/\e.Pairwise (fun j k=>j.x<=k.x)/\gw f d a e/\c.grownBy f a.ownBlock:=
 @pB ⟨⟨0,0,0,0⟩⟩ d a b c g h
end Go.Proofs.YtbnbkjbfpamijaaGreat
namespace Go.Proofs.YtbnbkjbfpamijaaGreat
open Go.RowKit Go.Proofs.Panes
variable{l:List Rc}
def oD:nl:=fun a b c d e f=>pC a b c d e f
def ie:iF:=fun a b c d e f g h i=>pN oD a b c d e f g h i
def sH (a b:Prop):Prop:=a\/b
def sQ (a b:Prop):Prop:=a/\b
def sP (a b:Prop):Prop:=a/\¬b
def mN:ka 126 sH:=fun a b c d e f g h i j k l m _ _=>nL ie a b c d e f g h i j k l m
def oE:ka 127 sQ:=fun a b _ _ c d e f g h i j k l m=>pV a b c d e f g h.rd i.rd j k l m
def mi:ka 128 sP:=fun a b _ _ c d e f g h i j k _ _=>me a b c d e f g h.rd i.rd j k
structure ou (w w':World)(v:Value)(R:List Rc)(C:Int->Int->Prop):Prop where
 own:gw w' w.heap.size v R
 right:ha R
 tO:∀ px py,Qa R px py↔C px py
 inb:∀ r∈R,-1000<=r.x/\r.x+r.w<=2000/\-1000<=r.y/\r.y+r.h<=2000
 len:R.length<=20000000
 below:Below w.heap.size w w'
def kd (j:Nat)(k:Prop->Prop->Prop):Prop:=∀ (e f:Value)(a b:List Rc)(c:World)(_:Rd c e a)(_:Rd c f b)(_:a.length<=1000)(_:b.length<=1000)(_:∀ d∈a,ia d)(_:∀ d∈b,ia d),
 Calls Tryz.prog j #[e,f] c fun l m=>∃ g n,l=.returned g/\ou c m g n (fun h i=>k (Qa a h i) (Qa b h i))
def iK:kd 98 sH:=by
 intro i j k l a b c d e f g;have m:=qg (hY ie 126 sH (enters_of Tryz.func126 (by kernel_rfl) rfl) mN (by simp[sH]) i j k l a b c d e f g);clear b c d e f g;go_enter Tryz.func98,Tryz.ntmps98;go_wp2_with fail;refine (qb m).mono ?_;rintro q n ⟨o,h,rfl,h1,h2,h3,h4,h5,h6⟩;have p:=qg (⟨h1,h2,h3,h4,h5,h6⟩:ou a n o h _);clear h1 h2 h3 h4 h5 h6;go_wp2;go_ret;exact⟨_,h,rfl,qb p⟩
def lI:kd 100 sQ:=by
 intro i j k l a b c d e f g;have m:=qg (hY ie 127 sQ (enters_of Tryz.func127 (by kernel_rfl) rfl) oE (by simp[sQ]) i j k l a b c d e f g);clear b c d e f g;go_enter Tryz.func100,Tryz.ntmps100;go_wp2_with fail;refine (qb m).mono ?_;rintro q n ⟨o,h,rfl,h1,h2,h3,h4,h5,h6⟩;have p:=qg (⟨h1,h2,h3,h4,h5,h6⟩:ou a n o h _);clear h1 h2 h3 h4 h5 h6;go_wp2;go_ret;exact⟨_,h,rfl,qb p⟩
def mx:kd 101 sP:=by
 intro i j k l a b c d e f g;have m:=qg (hY ie 128 sP (enters_of Tryz.func128 (by kernel_rfl) rfl) mi (by simp[sP]) i j k l a b c d e f g);clear b c d e f g;go_enter Tryz.func101,Tryz.ntmps101;go_wp2_with fail;refine (qb m).mono ?_;rintro q n ⟨o,h,rfl,h1,h2,h3,h4,h5,h6⟩;have p:=qg (⟨h1,h2,h3,h4,h5,h6⟩:ou a n o h _);clear h1 h2 h3 h4 h5 h6;go_wp2;go_ret;exact⟨_,h,rfl,qb p⟩
def ii (a:gH l=true):l.length<=40/\∀ b∈l,ia b:=by
 unfold gH at a;simp only[aK,be,dp] at a;refine⟨a.1,fun b c=>?_⟩;have:=dX.1 a.2 b c;unfold lB at this;unfold ia;simp at this;omega
def hE (e:Nat)(r:Prop->Prop->Prop)(I:∀ args a,(callFunc e args).run Tryz.prog a=.ok (.enter e args) a)(s:kd e r)(f g:Value)(c d:List Rc)(a:World)(l:Rd a f c)(m:Rd a g d)(n:gH c=true)(o:gH d=true):Calls Tryz.prog 99 #[f,g,.func (.func e) #[] #[]] a fun h z=>∃ i j,h=.returned (.tuple #[i,.int .i64 0])/\ou a z i j (fun t u=>r (Qa c t u) (Qa d t u)):=by
 have A:=qg l;have B:=qg m;have C:=qg s;have v:=qg (ii n);have w:=qg (ii o);have x:=qg (zf5 f c a l);rw[n] at x;have D:=fun p h1=>by
  have:=zf5 g d p (m.below h1);rw[o] at this;exact this
 clear l m s n o;go_enter Tryz.func99,Tryz.ntmps99;go_wp2_with fail;refine (qb x).mono ?_;rintro h p ⟨rfl,h1⟩;have q:=qg h1;clear h1;go_wp2_with fail;refine ((qb D) p (qb q)).mono ?_;rintro h E ⟨rfl,h2⟩;have F:=(qb q).size;have k:=qg ((qb q).trans (h2.mono F));clear h2;go_wp2_with fail;refine ((qb C) f g c d E ((qb A).below (qb k)) ((qb B).below (qb k)) (by have:=(qb v).1;omega) (by have:=(qb w).1;omega) (qb v).2 (qb w).2).mono ?_;rintro h G ⟨i,j,rfl,b⟩;have y:=(qb k).size;have H:=qg (⟨b.own.mono y,b.right,b.tO,b.inb,b.len,(qb k).trans (b.below.mono y)⟩:ou a G i j _);clear b;go_wp2;go_ret2;exact⟨_,j,rfl,qb H⟩
def kF (a:World):Rd a (.slice none 0 0) []:=⟨none,0,rfl,zzl _,by simp[maxLen],fun b=>absurd rfl b⟩
def mV:∀ a b,(callFunc 98 a).run Tryz.prog b=.ok (.enter 98 a) b:=enters_of Tryz.func98 (by kernel_rfl) rfl
def mA:∀ a b,(callFunc 100 a).run Tryz.prog b=.ok (.enter 100 a) b:=enters_of Tryz.func100 (by kernel_rfl) rfl
def mW:∀ a b,(callFunc 101 a).run Tryz.prog b=.ok (.enter 101 a) b:=enters_of Tryz.func101 (by kernel_rfl) rfl
def pU (h:Value)(e:List Rc)(b:World)(j:Rd b h e)(k:gH e=true):Calls Tryz.prog 64 #[h] b fun l i=>∃ f g,l=.returned (.tuple #[f,.int .i64 0])/\ou b i f g (fun c d=>Qa e c d):=by
 have m:=qg (hE 98 sH mV iK h (.slice none 0 0) e [] b j (kF b) k rfl);clear j k;go_enter Tryz.func64,Tryz.ntmps64;go_wp2_with fail;refine (qb m).mono ?_;rintro l i ⟨f,g,rfl,a⟩;have n:=qg (⟨a.own,a.right,fun c d=>(a.tO c d).trans ⟨fun o=>o.resolve_right (hX c d),.inl⟩,a.inb,a.len,a.below⟩:ou b i f g (fun c d=>Qa e c d));clear a;go_wp2;go_ret2;exact⟨_,g,rfl,qb n⟩
def pA (d e:Value)(b c:List Rc)(a:World)(h:Rd a d b)(i:Rd a e c)(j:gH b=true)(k:gH c=true):Calls Tryz.prog 61 #[d,e] a fun l m=>∃ f g,l=.returned (.tuple #[f,.int .i64 0])/\ou a m f g (fun n o=>Qa b n o\/Qa c n o):=by
 have q:=qg (hE 98 sH mV iK d e b c a h i j k);clear h i j k;go_enter Tryz.func61,Tryz.ntmps61;go_wp2_with fail;refine (qb q).mono ?_;rintro l m ⟨f,g,rfl,p⟩;have r:=qg p;clear p;go_wp2;go_ret2;exact⟨_,g,rfl,qb r⟩
def mu (d e:Value)(b c:List Rc)(a:World)(h:Rd a d b)(i:Rd a e c)(j:gH b=true)(k:gH c=true):Calls Tryz.prog 62 #[d,e] a fun l m=>∃ f g,l=.returned (.tuple #[f,.int .i64 0])/\ou a m f g (fun n o=>Qa b n o/\Qa c n o):=by
 have q:=qg (hE 100 sQ mA lI d e b c a h i j k);clear h i j k;go_enter Tryz.func62,Tryz.ntmps62;go_wp2_with fail;refine (qb q).mono ?_;rintro l m ⟨f,g,rfl,p⟩;have r:=qg p;clear p;go_wp2;go_ret2;exact⟨_,g,rfl,qb r⟩
def mL (d e:Value)(b c:List Rc)(a:World)(h:Rd a d b)(i:Rd a e c)(j:gH b=true)(k:gH c=true):Calls Tryz.prog 63 #[d,e] a fun l m=>∃ f g,l=.returned (.tuple #[f,.int .i64 0])/\ou a m f g (fun n o=>Qa b n o/\¬Qa c n o):=by
 have q:=qg (hE 101 sP mW mx d e b c a h i j k);clear h i j k;go_enter Tryz.func63,Tryz.ntmps63;go_wp2_with fail;refine (qb q).mono ?_;rintro l m ⟨f,g,rfl,p⟩;have r:=qg p;clear p;go_wp2;go_ret2;exact⟨_,g,rfl,qb r⟩
def oH (n:Value)(i:List Rc)(g:World)(t:Rd g n i)(u:i.length<=1000)(v:∀ a∈i,ia a):Calls Tryz.prog 60 #[n] g fun l A=>∃ b,ha b/\(∀ j k,Qa b j k↔Qa i j k)/\l=.returned (.int .i64 (hU b))/\Below g.heap.size g A:=by
 have B:=qg (iK n (.slice none 0 0) i [] g t (kF g) u (by simp) v (fun a d=>by simp at d));clear t u v;go_enter Tryz.func60,Tryz.ntmps60;go_wp2_with fail;refine (qb B).mono ?_;rintro l w ⟨N,b,rfl,e⟩;have o:=e.below;have x:=qg e.right;have C:=fun j k=>(e.tO j k).trans ⟨fun D=>D.resolve_right (hX j k),.inl⟩;have E:=qg e.inb;have O:=e.len;obtain⟨P,Q,F,h1,h2,h3⟩:=e.own.rd;subst F;have G:=qg o;have H:=o.size;clear e o;go_wp2;go_loopw [3,9] (fun I p wr=>∃ (c:Nat)(f:Int),c<=b.length/\p=.int .i64 c/\I=.int .i64 f/\f=hU (b.take c)/\(0<=f/\f<=9000000*c)/\Below w.heap.size w wr) (fun _ p _=>b.length-(intOf p).toNat)
 case atStart=>exact⟨0,0,aj _,rfl,rfl,rfl,by omega,aa _ _⟩
 case round=>
  obtain⟨c,f,R,rfl,rfl,m,S,h⟩:=hrel;have J:=h.size;by_cases y:c<b.length
  ·obtain⟨T,U,rfl,K,z⟩:=h3 (by intro l;subst l;simp at y);obtain⟨a,d⟩:∃ a,b[c]?=some a:=⟨b[c],by simp[y]⟩;obtain⟨V,c2,W,X⟩:=(z c a d).below h K;have q:=(qb x).pos a (zzn d);have L:=(qb E) a (zzn d);have Y:=pL (a:=a.w) (b:=a.h) ⟨q.1,by omega⟩ ⟨q.2,by omega⟩;have r:Hid (hU (b.take (c+1))=f+a.w*a.h):=(by show _=_;rw[am,d,m];exact lw _ _);have s:=qg h;clear z h3 m h d q L;go_wp2;go_roundw
   case rel=>exact⟨c+1,f+a.w*a.h,by omega,by go_num,rfl,by rw[qb r],by push_cast;omega,(qb s).alloc J _⟩
   case measure=>simp[intOf];omega
  ·have M:c=b.length:=(by omega);have r:=qg m;have s:=qg h;clear m h3 h;go_wp2;go_ret;exact⟨b,qb x,qb C,by have:=qb r;rw[M,aP] at this;rw[<-this];rfl,(qb G).trans ((qb s).mono H)⟩
def pE (d:Value)(a:List Rc)(b:World)(e:Rd b d a)(f:gH a=true):Calls Tryz.prog 29 #[d] b fun g o=>∃ c,ha c/\(∀ h i,Qa c h i↔Qa a h i)/\g=.returned (.tuple #[.int .i64 (hU c),.int .i64 0])/\Below b.heap.size b o:=by
 have p:=qg e;have j:=qg (ii f);have k:=qg (zf5 d a b e);rw[f] at k;clear e f;go_enter Tryz.func29,Tryz.ntmps29;go_wp2_with fail;refine (qb k).mono ?_;rintro g q ⟨rfl,h1⟩;have l:=qg h1;have r:=h1.size;clear h1;go_wp2_with fail;refine (oH d a q ((qb p).below (qb l)) (by have:=(qb j).1;omega) (qb j).2).mono ?_;rintro g v ⟨c,m,n,rfl,h2⟩;have s:=qg m;have t:=qg n;have u:=qg ((qb l).trans (h2.mono r));clear m n h2;go_wp2;go_ret2;exact⟨c,qb s,qb t,rfl,qb u⟩
end Go.Proofs.YtbnbkjbfpamijaaGreat
