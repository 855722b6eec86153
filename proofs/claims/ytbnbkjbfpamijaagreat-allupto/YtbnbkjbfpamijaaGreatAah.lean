import Derived.Test.YtbnbkjbfpamijaaGreatAad
import Derived.Laws.ResultCell
import Derived.Laws.Rows
set_option linter.all false
set_option maxRecDepth 100000
set_option maxHeartbeats 0
namespace Go.Proofs.YtbnbkjbfpamijaaGreat
open Go.RowKit Go.Proofs.Panes
def oL (a:gt)(b:Value):Value:=.agg #[.int .i64 a.kind,.int .i64 a.iV,.int .i64 a.x,.int .i64 a.y,.int .i64 a.w,.int .i64 a.h,b,.int .i64 a.mark]
def QK (i:hg)(d:World):Calls Tryz.prog 67 #[vF i] d fun a b=>a=.returned (.bool (jU i))/\Below d.heap.size d b:=by
 obtain⟨q,r,s,a,e,t,u,v⟩:=i;unfold vF jU;simp only;have w:∀ (f g h:Int)(d:World),Calls Tryz.prog 72 #[.int .i64 f,.int .i64 g,.int .i64 h] d fun a b=>a=.returned (.bool (gz f g h))/\b=d:=fun f g h d=>zk f g h d;have c:=qg w;clear w;obtain⟨x,h1⟩:=zx (gz q 1 16);obtain⟨y,h2⟩:=zx (gz r 1 16);obtain⟨z,h3⟩:=zx (gz s 1 4);obtain⟨A,h4⟩:=zx (gz a 1 8);obtain⟨B,h5⟩:=zx (gz e 1 300);obtain⟨C,h6⟩:=zx (gz t e 600);obtain⟨D,h7⟩:=zx (gz u 1 4);obtain⟨E,h8⟩:=zx (gz v 1 4294967295);have j:=qg ((qb c) q 1 16);have c2:=qg ((qb c) r 1 16);have k:=qg ((qb c) s 1 4);have l:=qg ((qb c) a 1 8);have m:=qg ((qb c) e 1 300);have n:=qg ((qb c) t e 600);have o:=qg ((qb c) u 1 4);have p:=qg ((qb c) v 1 4294967295);rw[<-h1] at j ⊢;rw[<-h2] at c2 ⊢;rw[<-h3] at k ⊢;rw[<-h4] at l ⊢;rw[<-h5] at m ⊢;rw[<-h6] at n ⊢;rw[<-h7] at o ⊢;rw[<-h8] at p ⊢;clear c h1 h2 h3 h4 h5 h6 h7 h8;go_enter Tryz.func67,Tryz.ntmps67
 go_wp2_with (go_at_call 72;first
   | (refine ((qb j) _).mono ?_;rintro a b ⟨rfl,rfl⟩;clear j)
   | (refine ((qb c2) _).mono ?_;rintro a b ⟨rfl,rfl⟩;clear c2)
   | (refine ((qb k) _).mono ?_;rintro a b ⟨rfl,rfl⟩;clear k)
   | (refine ((qb l) _).mono ?_;rintro a b ⟨rfl,rfl⟩;clear l)
   | (refine ((qb m) _).mono ?_;rintro a b ⟨rfl,rfl⟩;clear m)
   | (refine ((qb n) _).mono ?_;rintro a b ⟨rfl,rfl⟩;clear n)
   | (refine ((qb o) _).mono ?_;rintro a b ⟨rfl,rfl⟩;clear o)
   | (refine ((qb p) _).mono ?_;rintro a b ⟨rfl,rfl⟩;clear p))
 all_goals go_ret
 all_goals refine⟨by first | rfl | simp_all,?_⟩
 all_goals repeat (first | exact aa _ _ | refine cP ?_ (zzl _) _)
def Vh (b:Int)(a:World):Calls Tryz.prog 142 #[.int .i64 b] a fun c d=>c=.returned (.bool (!gz b 0 4294967295))/\d=a:=by
 have e:=qg (fun a=>zk b 0 4294967295 a);go_enter Tryz.func142,Tryz.ntmps142;go_wp2_with (go_at_call 72;refine ((qb e) _).mono ?_;rintro c d ⟨rfl,rfl⟩)
 all_goals go_ret
 all_goals exact⟨by first | rfl | simp[gz],rfl⟩
def qi2 (A:Nat->Prop)(s:Value)(a:List gt)(e:World)(m:gW A e s a)(J:a.length<=1000)(f:∀ b∈a,Qk b):Calls Tryz.prog 93 #[s] e fun d B=>d=.returned (.int .i64 (qA a))/\Below e.heap.size e B:=by
 obtain⟨K,L,rfl,h1,h2,h3⟩:=id m;have C:=qg m;have t:=qg f;clear m f h3;go_enter Tryz.func93,Tryz.ntmps93;go_wp2;go_loopw [3,10] (fun D n wr=>∃ c:Nat,c<=a.length/\n=.int .i64 c/\D=.int .i64 ((a.length:Int)+((a.take c).map jw).sum)/\Below e.heap.size e wr) (fun _ n _=>a.length-(intOf n).toNat)
 case atStart=>exact⟨0,aj _,rfl,by simp,aa _ _⟩
 case round=>
  rename World=>M;obtain⟨c,N,rfl,rfl,g⟩:=hrel;have u:=g.size;by_cases o:c<a.length
  ·obtain⟨b,i⟩:∃ b,a[c]?=some b:=⟨a[c],by simp[o]⟩;obtain⟨O,P,d,_,_,h3⟩:=(qb C).below g;simp only[ai,cj] at d;obtain⟨rfl,rfl⟩:=d;obtain⟨Q,R,rfl,_,_,v⟩:=h3 (by intro d;rw[d] at o;simp at o);obtain⟨E,S,c2,T,U,V,⟨W,F,G⟩,X⟩:=v c b i;obtain⟨Y,Z,w,_⟩:=G;rw[w] at F;clear w;have p:=(qb t) b (zzn i);have x:=QN p;have j:=X4 (a.take c) (fun H I=>(qb t) H (br I));have q:=Qc i;rw[ao] at j;obtain⟨y,f⟩:=zx (((a.take c).map jw).sum);rw[<-f] at j q ⊢;have k:=qg g;have a0:=qg f;have z:=qg q;clear g h3 v f q i;by_cases l:b.kind=3
   ·have h:jw b=b.w*b.h:=(by unfold jw;rw[an l]);have a1:IntKind.i64.wrap (b.w*b.h)=b.w*b.h:=(by rw[af];omega);have a2:IntKind.i64.wrap ((a.length:Int)+y+b.w*b.h)=(a.length:Int)+y+b.w*b.h:=(by rw[af];omega);have r:=qg h;rw[l] at E;clear h x j p;go_wp2;go_roundw
    case rel=>
     refine⟨c+1,by omega,by go_num,?_,(qb k).alloc u _⟩;rw[qb z,qb r];congr 1
     omega
    case measure=>simp[intOf];omega
   ·have h:jw b=0:=(by unfold jw;rw[ah l]);have r:=qg h;have a3:(b.kind == 3)=false:=(by simpa using l);clear h x j p;go_wp2;go_roundw
    case rel=>
     refine⟨c+1,by omega,by go_num,?_,(qb k).alloc u _⟩;rw[qb z,qb r,Int.add_zero]
    case measure=>simp[intOf];omega
  ·obtain rfl:c=a.length:=(by omega);have k:=qg g;clear g;have d:(a.length:Int)+((a.take a.length).map jw).sum=qA a:=(by rw[aP];rfl);rw[d];clear d;go_wp2;go_ret;exact⟨rfl,qb k⟩
def pK (a:Int):Bool:=!gz a 0 4294967295
def K9 (r:Nat->Prop)(l:Value)(a:List Int)(d:World)(s:gS r d l a)(z:a.length<=17592186043904):Calls Tryz.prog 156 #[l,.func (.func 142) #[] #[]] d fun e i=>∃ m:Int,e=.returned (.int .i64 m)/\decide (0<=m)=a.any pK/\i=d:=by
 obtain⟨A,B,rfl,h1,h2,h3⟩:=s;go_enter Tryz.func156,Tryz.ntmps156;go_wp2;go_loopw [8] (fun j wr=>∃ b:Nat,b<=a.length/\j=.int .i64 b/\(a.take b).any pK=false/\wr=d) (fun j _=>a.length-(intOf j).toNat)
 case atStart=>exact⟨0,aj _,rfl,rfl,rfl⟩
 case round=>
  obtain⟨b,C,rfl,f,n⟩:=hrel;have t:=n.symm;clear n;subst t;by_cases o:b<a.length
  ·obtain⟨D,E,rfl,_,F,p⟩:=h3 (by intro e;subst e;simp at o);obtain⟨c,k⟩:∃ c,a[b]?=some c:=⟨a[b],by simp[o]⟩;have G:=p b c k;clear p h3;have u:Hid ((a.take (b+1)).any pK=pK c):=(by show _=_;rw[am,k,ev,f];simp);have v:Hid (pK c=true->a.any pK=true):=fun w=>ca.2 ⟨c,zzn k,w⟩;clear f;have g:=qg (fun d=>Vh c d);have q:(!gz c 0 4294967295)=pK c:=rfl;rw[q] at g;clear q;cases h:pK c
   ·rw[h] at g;go_wp2_with (go_at_call 142;refine ((qb g) _).mono ?_;rintro e i ⟨rfl,rfl⟩)
    go_roundw
    case rel=>exact⟨b+1,by omega,by go_num,by rw[u.out,h],by trivial⟩
    case measure=>simp[intOf];omega
   ·rw[h] at g;go_wp2_with (go_at_call 142;refine ((qb g) _).mono ?_;rintro e i ⟨rfl,rfl⟩)
    go_ret;exact⟨b,rfl,by rw[v.out h];simp,rfl⟩
  ·have x:b=a.length:=(by omega);have y:Hid (a.any pK=false):=(by rw[x,aP] at f;exact f);clear f h3;go_wp2;go_ret;exact⟨-1,rfl,by rw[y.out];rfl,rfl⟩
def Xn (e:Nat->Prop)(d:Value)(a:List Int)(b:World)(f:gS e b d a)(g:a.length<=17592186043904):Calls Tryz.prog 141 #[d,.func (.func 142) #[] #[]] b fun h i=>h=.returned (.bool (!a.all (fun c=>gz c 0 4294967295)))/\i=b:=by
 have l:=qg (K9 e d a b f g);have j:a.any pK=!a.all (fun c=>gz c 0 4294967295):=(by rw[List.not_all_eq_any_not];rfl);have m:=qg j;clear j f g;go_enter Tryz.func141,Tryz.ntmps141;go_wp2_with (go_at_call 156;refine (qb l).mono ?_;rintro h i ⟨c,rfl,k,rfl⟩;have n:=qg k;clear k)
 go_ret;exact⟨by rw[<-qb m,<-qb n];rfl,rfl⟩
def vL (a:gt):Bool:=gz a.kind 1 8&&zt a
def Xo (b:gt)(h:Option Addr)(i j:Nat)(c:World)(e:b.kind=1\/b.kind=4):Calls Tryz.prog 122 #[oL b (.slice h i j)] c fun a d=>a=.returned (.bool (vL b))/\Below c.heap.size c d:=by
 have g:vL b=(gz b.x (-100) 100&&gz b.y (-100) 100):=(by unfold vL zt;rw[an e];rcases e with a | a<;>rw[a]<;>rfl);rw[g];clear g;unfold oL;obtain⟨k,h1⟩:=zx (gz b.x (-100) 100);obtain⟨l,h2⟩:=zx (gz b.y (-100) 100);have f:Hid (∀ c,Calls Tryz.prog 72 #[.int .i64 b.x,.int .i64 (-100),.int .i64 100] c fun a d=>a=.returned (.bool (gz b.x (-100) 100))/\d=c):=fun c=>zk _ _ _ c;have c2:Hid (∀ c,Calls Tryz.prog 72 #[.int .i64 b.y,.int .i64 (-100),.int .i64 100] c fun a d=>a=.returned (.bool (gz b.y (-100) 100))/\d=c):=fun c=>zk _ _ _ c;rw[<-h1] at f ⊢;rw[<-h2] at c2 ⊢;clear h1 h2;rcases e with a | a<;>rw[a]<;>clear a
 all_goals
  go_enter Tryz.func122,Tryz.ntmps122
  go_wp2_with (go_at_call 72;first
    | (refine ((qb f) _).mono ?_;rintro a d ⟨rfl,rfl⟩;clear f)
    | (refine ((qb c2) _).mono ?_;rintro a d ⟨rfl,rfl⟩;clear c2))
  all_goals go_ret
  all_goals refine⟨by first | rfl | simp_all,?_⟩
  all_goals repeat (first | exact aa _ _ | refine cP ?_ (zzl _) _)
def JY (a:gt)(i:Option Addr)(j k:Nat)(b:World)(e:a.kind=7):Calls Tryz.prog 122 #[oL a (.slice i j k)] b fun c d=>c=.returned (.bool (vL a))/\Below b.heap.size b d:=by
 have h:vL a=(gz a.x (-4) 4&&gz a.y (-4) 4&&gz a.w 1 20):=(by unfold vL zt;rw[e,ah (by decide),ah (by decide),an rfl];cases gz a.x (-4) 4<;>cases gz a.y (-4) 4<;>cases gz a.w 1 20<;>rfl);rw[h];clear h;unfold oL;obtain⟨l,h1⟩:=zx (gz a.x (-4) 4);obtain⟨m,h2⟩:=zx (gz a.y (-4) 4);obtain⟨n,h3⟩:=zx (gz a.w 1 20);have f:Hid (∀ b,Calls Tryz.prog 72 #[.int .i64 a.x,.int .i64 (-4),.int .i64 4] b fun c d=>c=.returned (.bool (gz a.x (-4) 4))/\d=b):=fun b=>zk _ _ _ b;have c2:Hid (∀ b,Calls Tryz.prog 72 #[.int .i64 a.y,.int .i64 (-4),.int .i64 4] b fun c d=>c=.returned (.bool (gz a.y (-4) 4))/\d=b):=fun b=>zk _ _ _ b;have g:Hid (∀ b,Calls Tryz.prog 72 #[.int .i64 a.w,.int .i64 1,.int .i64 20] b fun c d=>c=.returned (.bool (gz a.w 1 20))/\d=b):=fun b=>zk _ _ _ b;rw[<-h1] at f ⊢;rw[<-h2] at c2 ⊢;rw[<-h3] at g ⊢;clear h1 h2 h3;rw[e];clear e;go_enter Tryz.func122,Tryz.ntmps122
 go_wp2_with (go_at_call 72;first
   | (refine ((qb f) _).mono ?_;rintro c d ⟨rfl,rfl⟩;clear f)
   | (refine ((qb c2) _).mono ?_;rintro c d ⟨rfl,rfl⟩;clear c2)
   | (refine ((qb g) _).mono ?_;rintro c d ⟨rfl,rfl⟩;clear g))
 all_goals go_ret
 all_goals refine⟨by first | rfl | simp_all,?_⟩
 all_goals repeat (first | exact aa _ _ | refine cP ?_ (zzl _) _)
def Xp (b:gt)(f:Option Addr)(g h:Nat)(c:World)(d:b.kind=2\/b.kind=5\/b.kind=6\/b.kind=8):Calls Tryz.prog 122 #[oL b (.slice f g h)] c fun a i=>a=.returned (.bool (vL b))/\Below c.heap.size c i:=by
 have e:vL b=true:=(by unfold vL zt;rcases d with a | a | a | a<;>rw[a]<;>rfl);rw[e];clear e;unfold oL;rcases d with a | a | a | a<;>rw[a]<;>clear a
 all_goals
  go_enter Tryz.func122,Tryz.ntmps122;go_wp2;go_ret;refine⟨rfl,?_⟩;repeat (first | exact aa _ _ | refine cP ?_ (zzl _) _)
def VG (b:gt)(g:Option Addr)(h i:Nat)(d:World)(c:gz b.kind 1 8=false):Calls Tryz.prog 122 #[oL b (.slice g h i)] d fun j k=>j=.returned (.bool (vL b))/\Below d.heap.size d k:=by
 have e:vL b=false:=(by unfold vL;rw[c];rfl);rw[e];clear e;unfold oL;have l:¬(1<=b.kind/\b.kind<=8):=(by unfold gz at c;intro f;simp[f.1,f.2] at c);clear c;generalize b.kind=a at *;have m:(a == 1)=false:=(by simp;omega);have k2:(a == 2)=false:=(by simp;omega);have n:(a == 3)=false:=(by simp;omega);have o:(a == 4)=false:=(by simp;omega);have p:(a == 5)=false:=(by simp;omega);have q:(a == 6)=false:=(by simp;omega);have r:(a == 7)=false:=(by simp;omega);have s:(a == 8)=false:=(by simp;omega);clear l;go_enter Tryz.func122,Tryz.ntmps122;go_wp2;go_ret;refine⟨rfl,?_⟩;repeat (first | exact aa _ _ | refine cP ?_ (zzl _) _)
def ZT (l:Nat->Prop)(a:gt)(m:Option Addr)(n:Nat)(c:World)(k:a.kind=3)(o:gS l c (.slice m a.px.length n) a.px)(s:a.px.length<=17592186043904):Calls Tryz.prog 122 #[oL a (.slice m a.px.length n)] c fun d b=>d=.returned (.bool (vL a))/\Below c.heap.size c b:=by
 have p:vL a=(gz a.w 1 8&&gz a.h 1 8&&decide ((a.px.length:Int)=a.w*a.h)&&a.px.all (fun e=>gz e 0 4294967295)):=(by unfold vL zt;rw[k,ah (by decide),an rfl];rfl);rw[p];clear p;unfold oL;have h:=fun (h1:gz a.w 1 8=true) (h2:gz a.h 1 8=true)=>(show 0<=a.w*a.h/\a.w*a.h<=64 from by
  unfold gz at h1 h2;simp only[aK,be] at h1 h2;have:=QN (o:=a) (fun _=>⟨h1,h2⟩);unfold jw at this;rwa[an k] at this)
 have i:=fun b t=>Xn l _ _ b (o.below t) s;obtain⟨u,h1⟩:=zx (gz a.w 1 8);obtain⟨v,h2⟩:=zx (gz a.h 1 8);obtain⟨x,h4⟩:=zx (a.px.all (fun e=>gz e 0 4294967295));have f:Hid (∀ c,Calls Tryz.prog 72 #[.int .i64 a.w,.int .i64 1,.int .i64 8] c fun d b=>d=.returned (.bool (gz a.w 1 8))/\b=c):=fun c=>zk _ _ _ c;have c2:Hid (∀ c,Calls Tryz.prog 72 #[.int .i64 a.h,.int .i64 1,.int .i64 8] c fun d b=>d=.returned (.bool (gz a.h 1 8))/\b=c):=fun c=>zk _ _ _ c;rw[<-h1] at f h ⊢;rw[<-h2] at c2 h ⊢;rw[<-h4] at i ⊢;clear h1 h2 h4 o;rw[k];clear k;generalize a.px.length=e at *;cases u
 ·clear h i c2;go_enter Tryz.func122,Tryz.ntmps122;go_wp2_with (go_at_call 72;refine ((qb f) _).mono ?_;rintro d b ⟨rfl,rfl⟩;clear f)
  go_ret;refine⟨by first | rfl | simp_all,?_⟩;repeat (first | exact aa _ _ | refine cP ?_ (zzl _) _)
 cases v
 ·clear h i;go_enter Tryz.func122,Tryz.ntmps122
  go_wp2_with (go_at_call 72;first
    | (refine ((qb f) _).mono ?_;rintro d b ⟨rfl,rfl⟩;clear f)
    | (refine ((qb c2) _).mono ?_;rintro d b ⟨rfl,rfl⟩;clear c2))
  go_ret;refine⟨by first | rfl | simp_all,?_⟩;repeat (first | exact aa _ _ | refine cP ?_ (zzl _) _)
 obtain⟨q,r⟩:=h rfl rfl;clear h;have y:IntKind.i64.wrap (a.w*a.h)=a.w*a.h:=(by rw[af];omega);by_cases g:(e:Int)=a.w*a.h
 ·have j:decide ((e:Int)=a.w*a.h)=true:=(by simp[g]);have w:((e:Int) == a.w*a.h)=true:=(by simp[g]);rw[j];have z:=qg g;clear j g q r;go_enter Tryz.func122,Tryz.ntmps122
  go_wp2_with (first
    | (go_at_call 72;first
        | (refine ((qb f) _).mono ?_;rintro d b ⟨rfl,rfl⟩;clear f)
        | (refine ((qb c2) _).mono ?_;rintro d b ⟨rfl,rfl⟩;clear c2))
    | (go_at_call 141;refine ((qb i) _ (by repeat (first | exact aa _ _ | refine cP ?_ (zzl _) _))).mono ?_;rintro d b ⟨rfl,rfl⟩;clear i))
  all_goals go_ret
  all_goals refine⟨by first | rfl | simp_all,?_⟩
  all_goals repeat (first | exact aa _ _ | refine cP ?_ (zzl _) _)
 ·have j:decide ((e:Int)=a.w*a.h)=false:=(by simp[g]);have w:((e:Int) == a.w*a.h)=false:=(by simpa using g);rw[j];clear j g q r i;go_enter Tryz.func122,Tryz.ntmps122
  go_wp2_with (go_at_call 72;first
    | (refine ((qb f) _).mono ?_;rintro d b ⟨rfl,rfl⟩;clear f)
    | (refine ((qb c2) _).mono ?_;rintro d b ⟨rfl,rfl⟩;clear c2))
  all_goals go_ret
  all_goals refine⟨by first | rfl | simp_all,?_⟩
  all_goals repeat (first | exact aa _ _ | refine cP ?_ (zzl _) _)
def VH (f:Nat->Prop)(a:gt)(c:Option Addr)(d:Nat)(b:World)(g:gS f b (.slice c a.px.length d) a.px)(h:a.px.length<=17592186043904):Calls Tryz.prog 122 #[oL a (.slice c a.px.length d)] b fun i j=>i=.returned (.bool (vL a))/\Below b.heap.size b j:=by
 cases e:gz a.kind 1 8
 ·exact VG a c _ d b e
 ·unfold gz at e;simp only[aK,be] at e;by_cases k:a.kind=3
  ·exact ZT f a c d b k g h
  by_cases l:a.kind=7
  ·exact JY a c _ d b l
  by_cases m:a.kind=1\/a.kind=4
  ·exact Xo a c _ d b m
  ·exact Xp a c _ d b (by omega)
variable{x:List Bool}{o:gt}{m w w2:World}
def Xb (a:vL o=false):qP x o=none:=by
 unfold vL at a;have c:¬o.kind=8:=fun d=>by
  unfold zt at a;rw[d] at a;simp[gz] at a
 refine vq c ?_;cases b:gz o.kind 1 7
 ·rfl
 ·have e:gz o.kind 1 8=true:=(by unfold gz at b ⊢;simp only[aK,be] at b ⊢;omega);rw[e,fM] at a;rw[a,dN]
def qg2 (a:¬o.kind=8)(b:gz o.iV 0 ((x.length:Int)-1)=false):qP x o=none:=by
 refine vq a ?_;rw[b];simp
def ZA (a:¬o.kind=8)(b:x.getD o.iV.toNat false=decide (o.kind=1)):qP x o=none:=by
 refine vq a ?_;rw[b];simp
def Jc (b:¬o.kind=8)(a:vL o=true)(c:gz o.iV 0 ((x.length:Int)-1)=true)(d:x.getD o.iV.toNat false≠decide (o.kind=1)):qP x o=some (x.set o.iV.toNat (decide (o.kind≠2))):=by
 refine Jb b ?_;unfold vL at a;rw[aK] at a;have e:gz o.kind 1 7=true:=(by have:=a.1;unfold gz at this ⊢;simp only[aK,be] at this ⊢;omega);rw[e,c,a.2];simpa using d
structure J8 (w wr:World)(x:List Bool):Prop where
 len:x.length=4
 arr:wr.heap[w.heap.size]?=some (.cells (x.map Value.bool).toArray 111)
 res:wr.heap[w.heap.size+1]?=some (.cells #[.bool false,.bool false,.bool false,.bool false] 111)
 tT:Below w.heap.size w wr
def J8.below (a:J8 w w2 x)(b:Below w2.heap.size w2 m):J8 w m x:=by
 have c:=qh a.arr;have d:=qh a.res;exact⟨a.len,(b.block _ c).trans a.arr,(b.block _ d).trans a.res,a.tT.trans (b.mono a.tT.size)⟩
def tx (a:List Bool):Value:=.agg (a.map Value.bool).toArray
def Aft (c:List Bool)(b:Nat)(f:List Bool)(d:List gt)(e:Ending):Prop:=
 (∃ a:List Bool,a.length=4/\qR c d=some (a.take b)/\a.drop b=f.drop b/\e=.returned (.tuple #[tx a,.bool true]))\/(qR c d=none/\e=.returned (.tuple #[.agg #[.bool false,.bool false,.bool false,.bool false],.bool false]))
def v8 (c:Array Value)(a:World)(d:Nat)(b:Array Value)(e:c.getD 6 undef=.pointer (some ⟨d,0,none⟩))(f:a.heap[d]?=some (.cells b 111))(g:b.size=4):(results Tryz.f92 c).run Tryz.prog a=.ok (.tuple #[.agg b,c.getD 7 undef]) a:=by
 rw[fW rfl,e];have h:=gg (P:=Tryz.prog) a d 111 111 b (0,0) _ f Tryz.underlying111 rfl (by rw[g];rfl);simp[asAddr,h,Result.andThen]
def qs1 (a:Int):(!(a == 2))=decide (a≠2):=by by_cases b:a=2<;>simp[b]
def J8.zero (b:J8 w w2 x)(a:Nat):(((((w2.drewN a).setCell ⟨w.heap.size+1,0,none⟩ (.bool false)).setCell ⟨w.heap.size+1,1,none⟩ (.bool false)).setCell ⟨w.heap.size+1,2,none⟩ (.bool false)).setCell ⟨w.heap.size+1,3,none⟩ (.bool false)).heap[w.heap.size+1]?=some (.cells #[.bool false,.bool false,.bool false,.bool false] 111):=by
 simpa using qp (i:=3) (qp (i:=2) (qp (i:=1) (qp (i:=0) (b.below (ax (aa _ _) a)).res (.bool false)) (.bool false)) (.bool false)) (.bool false)
def J8.ur (b:J8 w w2 x)(a:Nat):Below w.heap.size w (((((w2.drewN a).setCell ⟨w.heap.size+1,0,none⟩ (.bool false)).setCell ⟨w.heap.size+1,1,none⟩ (.bool false)).setCell ⟨w.heap.size+1,2,none⟩ (.bool false)).setCell ⟨w.heap.size+1,3,none⟩ (.bool false)):=
 ((((b.below (ax (aa _ _) a)).tT.setCell (p:=⟨w.heap.size+1,0,none⟩) (cm _) _).setCell (p:=⟨w.heap.size+1,1,none⟩) (cm _) _).setCell (p:=⟨w.heap.size+1,2,none⟩) (cm _) _).setCell (p:=⟨w.heap.size+1,3,none⟩) (cm _) _
def J8.put (e:J8 w w2 x)(d a:Nat)(c:Bool):J8 w ((w2.drewN d).setCell ⟨w.heap.size,a,none⟩ (.bool c)) (x.set a c):=by
 have b:=e.below (ax (aa _ _) d);refine⟨by rw[aG];exact b.len,?_,qu b.res (by simp) _,b.tT.setCell (p:=⟨w.heap.size,a,none⟩) (zzl _) _⟩;have f:=qp (i:=a) b.arr (.bool c);rw[dh];simpa using f
def qm4 (Z:Nat->Prop)(a0:Value)(g:List gt)(v w x y:Bool)(c:Nat)(c5:1<=c/\c<=4)(a:World)(L:gW Z a a0 g)(c6:g.length<=1759218604390)(a1:∀ b∈g,b.px.length<=17592186043904):Calls Tryz.prog 92 #[.agg #[.bool v,.bool w,.bool x,.bool y],a0,.int .i64 (c:Int)] a fun j C=>Aft ([v,w,x,y].take c) c [v,w,x,y] g j/\Below a.heap.size a C:=by
 obtain⟨c7,c8,rfl,h1,h2,h3⟩:=id L;have b4:=qg L;have b5:=qg a1;clear L a1 h3;go_enter Tryz.func92,Tryz.ntmps92;go_wp2;go_loopw [12] (fun M wr=>∃ (h:Nat)(e:List Bool),h<=g.length/\M=.int .i64 h/\qR ([v,w,x,y].take c) (g.take h)=some (e.take c)/\e.drop c=[v,w,x,y].drop c/\J8 a wr e) (fun M _=>g.length-(intOf M).toNat)
 case atStart=>
  refine⟨0,[v,w,x,y],aj _,rfl,rfl,rfl,⟨rfl,?_,?_,?_⟩⟩
  ·exact heap_alloc2_old _ _ _
  ·exact heap_alloc2_new _ _ _
  ·exact ((aa _ a).alloc (zzl _) _).alloc (by show a.heap.size<=(a.heap.push _).size;rw[bJ];omega) _
 case round=>
  rename World=>N;obtain⟨h,e,c9,rfl,D,G,l⟩:=hrel;by_cases O:h<g.length
  ·obtain⟨b,H⟩:∃ b,g[h]?=some b:=⟨g[h],by simp[O]⟩;obtain⟨d0,d1,j,_,_,h3⟩:=(qb b4).below l.tT;simp only[ai,cj] at j;obtain⟨rfl,rfl⟩:=j;obtain⟨d2,d3,rfl,_,_,a2⟩:=h3 (by intro j;rw[j] at O;simp at O);obtain⟨d4,d5,c2,d6,d7,d8,⟨d9,b6,a3⟩,e0⟩:=a2 h b H;have a4:=a3;obtain⟨b7,b8,P,_⟩:=a3;rw[P] at b6;have a5:=(qb b5) b (zzn H);have o:=fun C b9=>VH Z b b7 b8 C (P ▸ a4.below b9) a5;unfold oL at o;have m:=qg D;have I:=qg G;have E:=qg l;have z:=qg H;clear a4 P a5 D G l H h3 a2;cases A:vL b
   ·rw[A] at o;go_wp2_with fail
    refine ((qb o) _ ((aa _ _).alloc (zzl _) _)).mono ?_;rintro j a6 ⟨rfl,q⟩;have k:=((qb E).below ((aa _ N).alloc (zzl _) _)).below q;obtain⟨Q,R,S,T,-⟩:=zzc k.res;have rz:=qj k.res;have d:=qg k;have e1:=qg q;have U:=qg A;clear o k q A;go_wp2
    (try simp only[Exit.inBlock,Exit.then])
    refine bV (v8 _ _ (a.heap.size+1) #[.bool false,.bool false,.bool false,.bool false] rfl ?_ rfl) rfl ⟨.inr ⟨vk (qb m) (qb z) (Xb (qb U)),rfl⟩,?_⟩
    ·simpa using qp (i:=3) (qp (i:=2) (qp (i:=1) (qp (i:=0) (qb d).res (.bool false)) (.bool false)) (.bool false)) (.bool false)
    ·exact ((((qb d).tT.setCell (p:=⟨a.heap.size+1,0,none⟩) (cm _) _).setCell (p:=⟨a.heap.size+1,1,none⟩) (cm _) _).setCell (p:=⟨a.heap.size+1,2,none⟩) (cm _) _).setCell (p:=⟨a.heap.size+1,3,none⟩) (cm _) _
   ·rw[A] at o;go_wp2_with fail
    refine ((qb o) _ ((aa _ _).alloc (zzl _) _)).mono ?_;rintro j a6 ⟨rfl,q⟩;have k:=((qb E).below ((aa _ N).alloc (zzl _) _)).below q;have a7:=(q.block _ (by show _<(N.heap.push _).size;rw[bJ];omega)).trans (qt _ _ _ rfl);obtain⟨e2,c0,-⟩:=zzc a7;have a8:((e.take c).length:Int)=(c:Int):=(by have:=k.len;rw[ao];omega);have a9:=qg a8;have d:=qg k;have U:=qg A;obtain⟨Q,R,S,T,-⟩:=zzc k.res;have rz:=qj k.res;clear o A a7 q k a8;by_cases h8:b.kind=8
    ·have c1:(b.kind == 8)=true:=(by simp[h8]);have B:=qg h8;clear h8 Q R S T rz;go_wp2;go_roundw
     case rel=>exact⟨h+1,e,by omega,by go_num,by rw[vj (qb m) (qb z)];unfold qP;rw[an (qb B)],qb I,qb d⟩
     case measure=>simp[intOf];omega
    ·have c1:(b.kind == 8)=false:=(by simpa using h8);have B:=qg h8;clear h8;have e3:IntKind.i64.wrap ((c:Int)-1)=(c:Int)-1:=(by rw[af];omega);have i:Hid (∀ a,Calls Tryz.prog 72 #[.int .i64 b.iV,.int .i64 0,.int .i64 ((c:Int)-1)] a fun j C=>j=.returned (.bool (gz b.iV 0 ((c:Int)-1)))/\C=a):=fun a=>zk _ _ _ a;cases n:gz b.iV 0 ((c:Int)-1)
     ·rw[n] at i;have V:=qg n;clear n;go_wp2_with fail
      go_quiet ((go_at_call 72;exact Calls.quiet_of_same ((qb i) _)))
      clear i;go_wp2
      (try simp only[Exit.inBlock,Exit.then])
      refine bV (v8 _ _ (a.heap.size+1) #[.bool false,.bool false,.bool false,.bool false] rfl ?_ rfl) rfl ⟨.inr ⟨vk (qb m) (qb z) (qg2 (qb B) (by rw[qb a9];exact qb V)),rfl⟩,?_⟩
      ·exact (qb d).zero _
      ·exact (qb d).ur _
     ·rw[n] at i;have V:=qg n;obtain⟨f,W,b0⟩:∃ f:Nat,b.iV=(f:Int)/\f<c:=by
       unfold gz at n;simp only[aK,be] at n;exact⟨b.iV.toNat,by omega,by omega⟩
      rw[W] at c0 i;have b1:=qg W;clear n W;have c3:=(qb d).len;obtain⟨F,J⟩:∃ F,e[f]?=some F:=⟨e[f]'(by omega),by simp⟩;have e4:a6.cell? ⟨a.heap.size,f,none⟩=some (.bool F):=(by rw[qe (qb d).arr f];simp[J]);have e5:=qj (qb d).arr;have e6:(0:Int)<=(f:Int):=(by omega);have e7:(f:Int)<4:=(by omega);obtain⟨K,c4⟩:∃ K,(b.kind == 1)=K:=⟨_,rfl⟩;have b2:(e.take c).getD b.iV.toNat false=F:=(by rw[qb b1,bF,bW,cQ b0,J];rfl);have X:=qg b2;have e8:=qg J;have b3:decide (b.kind=1)=K:=(by rw[<-c4];rfl);have Y:=qg b3;clear b2 J b3 c3;cases F<;>cases K
      ·go_wp2_with fail
       go_quiet ((go_at_call 72;exact Calls.quiet_of_same ((qb i) _)))
       clear i;go_wp2
       (try simp only[Exit.inBlock,Exit.then])
       refine bV (v8 _ _ (a.heap.size+1) #[.bool false,.bool false,.bool false,.bool false] rfl ?_ rfl) rfl ⟨.inr ⟨vk (qb m) (qb z) (ZA (qb B) ((qb X).trans (qb Y).symm)),rfl⟩,?_⟩
       ·exact (qb d).zero _
       ·exact (qb d).ur _
      rotate_left
      rotate_left
      ·go_wp2_with fail
       go_quiet ((go_at_call 72;exact Calls.quiet_of_same ((qb i) _)))
       clear i;go_wp2
       (try simp only[Exit.inBlock,Exit.then])
       refine bV (v8 _ _ (a.heap.size+1) #[.bool false,.bool false,.bool false,.bool false] rfl ?_ rfl) rfl ⟨.inr ⟨vk (qb m) (qb z) (ZA (qb B) ((qb X).trans (qb Y).symm)),rfl⟩,?_⟩
       ·exact (qb d).zero _
       ·exact (qb d).ur _
      all_goals
       go_wp2_with fail
       go_quiet ((go_at_call 72;exact Calls.quiet_of_same ((qb i) _)))
       clear i;go_wp2;go_roundw
       case rel=>
        refine⟨h+1,e.set f (decide (b.kind≠2)),by omega,by go_num,?_,?_,?_⟩
        ·rw[vj (qb m) (qb z),Jc (qb B) (qb U) (by rw[qb a9];exact qb V) (by rw[qb X,qb Y];decide),qb b1,bF,List.take_set]
        ·rw[eT b0];exact qb I
        ·first | exact (qb d).put _ f _ | (rw[<-qs1];exact (qb d).put _ f _)
       case measure=>simp[intOf];omega
  ·obtain rfl:h=g.length:=(by omega);rw[aP] at D;obtain⟨r,s,t,u,rfl⟩:∃ r s t u,e=[r,s,t,u]:=by
    have:=l.len
    match e,this with
    | [r,s,t,u],_=>exact⟨r,s,t,u,rfl⟩
   obtain⟨e9,f0,f1,f2,-⟩:=zzc l.arr;obtain⟨Q,R,S,T,-⟩:=zzc l.res;have rz:=qj l.res;have m:=qg D;have I:=qg G;have E:=qg l;clear D G l;go_wp2
   (try simp only[Exit.inBlock,Exit.then])
   refine bV (v8 _ _ (a.heap.size+1) #[.bool r,.bool s,.bool t,.bool u] rfl ?_ rfl) rfl ⟨.inl ⟨[r,s,t,u],rfl,qb m,qb I,rfl⟩,?_⟩
   ·simpa using qp (i:=3) (qp (i:=2) (qp (i:=1) (qp (i:=0) (qb E).res (.bool r)) (.bool s)) (.bool t)) (.bool u)
   ·exact ((((qb E).tT.setCell (p:=⟨a.heap.size+1,0,none⟩) (cm _) _).setCell (p:=⟨a.heap.size+1,1,none⟩) (cm _) _).setCell (p:=⟨a.heap.size+1,2,none⟩) (cm _) _).setCell (p:=⟨a.heap.size+1,3,none⟩) (cm _) _
end Go.Proofs.YtbnbkjbfpamijaaGreat
