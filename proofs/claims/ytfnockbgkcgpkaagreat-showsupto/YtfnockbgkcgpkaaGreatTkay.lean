import Derived.Test.YtfnockbgkcgpkaaGreatTkah
import Derived.Test.YtfnockbgkcgpkaaGreatTkan
import Derived.BigRegion
import Derived.BigQuiet
import Derived.Deep.QuietTactic
import Derived.Laws.ResultCell
import Derived.Laws.Rows
set_option linter.all false
set_option maxRecDepth 100000
set_option maxHeartbeats 16000000
namespace Go.Proofs.YtfnockbgkcgpkaaGreat
open Go.RowKit Go.Proofs.Panes
def ovq (o:Opn)(pv:Value):Value:=.agg #[.int .i64 o.kind,.int .i64 o.surf,.int .i64 o.x,.int .i64 o.y,.int .i64 o.w,.int .i64 o.h,pv,.int .i64 o.mark]
theorem QK (c:Cfg)(w:World):Calls Tryz.prog 70 #[vF c] w fun e w'=>e=.returned (.bool (jU c))/\Below w.heap.size w w':=by
 obtain⟨a,b,d,e,f,g,h,i⟩:=c;unfold vF jU;simp only;have hin:∀ (n lo hi:Int)(w:World),Calls Tryz.prog 75 #[.int .i64 n,.int .i64 lo,.int .i64 hi] w fun e w'=>e=.returned (.bool (inB n lo hi))/\w'=w:=fun n lo hi w=>zk n lo hi w;have HIN:=qg hin;clear hin;obtain⟨b1,h1⟩:∃ b1,b1=inB a 1 16:=⟨_,rfl⟩;obtain⟨b2,h2⟩:∃ b1,b1=inB b 1 16:=⟨_,rfl⟩;obtain⟨b3,h3⟩:∃ b1,b1=inB d 1 4:=⟨_,rfl⟩;obtain⟨b4,h4⟩:∃ b1,b1=inB e 1 8:=⟨_,rfl⟩;obtain⟨b5,h5⟩:∃ b1,b1=inB f 1 300:=⟨_,rfl⟩;obtain⟨b6,h6⟩:∃ b1,b1=inB g f 600:=⟨_,rfl⟩;obtain⟨b7,h7⟩:∃ b1,b1=inB h 1 4:=⟨_,rfl⟩;obtain⟨b8,h8⟩:∃ b1,b1=inB i 1 4294967295:=⟨_,rfl⟩;have c1:=qg ((qb HIN) a 1 16);have c2:=qg ((qb HIN) b 1 16);have c3:=qg ((qb HIN) d 1 4);have c4:=qg ((qb HIN) e 1 8);have c5:=qg ((qb HIN) f 1 300);have c6:=qg ((qb HIN) g f 600);have c7:=qg ((qb HIN) h 1 4);have c8:=qg ((qb HIN) i 1 4294967295);rw[<-h1] at c1 ⊢;rw[<-h2] at c2 ⊢;rw[<-h3] at c3 ⊢;rw[<-h4] at c4 ⊢;rw[<-h5] at c5 ⊢;rw[<-h6] at c6 ⊢;rw[<-h7] at c7 ⊢;rw[<-h8] at c8 ⊢;clear HIN h1 h2 h3 h4 h5 h6 h7 h8
 go_enter Tryz.func70,Tryz.ntmps70
 go_wp2_with (go_at_call 75;first
   | (refine ((qb c1) _).mono ?_;rintro e w' ⟨rfl,rfl⟩;clear c1)
   | (refine ((qb c2) _).mono ?_;rintro e w' ⟨rfl,rfl⟩;clear c2)
   | (refine ((qb c3) _).mono ?_;rintro e w' ⟨rfl,rfl⟩;clear c3)
   | (refine ((qb c4) _).mono ?_;rintro e w' ⟨rfl,rfl⟩;clear c4)
   | (refine ((qb c5) _).mono ?_;rintro e w' ⟨rfl,rfl⟩;clear c5)
   | (refine ((qb c6) _).mono ?_;rintro e w' ⟨rfl,rfl⟩;clear c6)
   | (refine ((qb c7) _).mono ?_;rintro e w' ⟨rfl,rfl⟩;clear c7)
   | (refine ((qb c8) _).mono ?_;rintro e w' ⟨rfl,rfl⟩;clear c8))
 all_goals go_ret
 all_goals refine⟨by first | rfl | simp_all,?_⟩
 all_goals repeat (first | exact Below.refl _ _ | refine Below.alloc ?_ (zzl _) _)
theorem Vh (n:Int)(w:World):Calls Tryz.prog 145 #[.int .i64 n] w fun e w'=>e=.returned (.bool (!inB n 0 4294967295))/\w'=w:=by
 have hin:=qg (fun w=>zk n 0 4294967295 w)
 go_enter Tryz.func145,Tryz.ntmps145
 go_wp2_with (go_at_call 75;refine ((qb hin) _).mono ?_;rintro e w' ⟨rfl,rfl⟩)
 all_goals go_ret
 all_goals exact⟨by first | rfl | simp[inB],rfl⟩
theorem qi2 (U:Nat->Prop)(v:Value)(l:List Opn)(w:World)(hR:RdO U w v l)(hl:l.length<=1000)(hs:∀ o∈l,Qk o) :
 Calls Tryz.prog 96 #[v] w fun e w'=>e=.returned (.int .i64 (qA l))/\Below w.heap.size w w':=by
 obtain⟨ao,cap,rfl,h1,h2,h3⟩:=id hR;have HR:=qg hR;have HSm:=qg hs;clear hR hs h3
 go_enter Tryz.func96,Tryz.ntmps96
 go_wp2
 go_loopw [3,10] (fun n i wr=>∃ k:Nat,k<=l.length/\i=.int .i64 k/\n=.int .i64 ((l.length:Int)+((l.take k).map jw).sum)/\Below w.heap.size w wr) (fun _ i _=>l.length-(intOf i).toNat)
 case atStart=>exact⟨0,Nat.zero_le _,rfl,by simp,Below.refl _ _⟩
 case round=>
  rename World=>wq;obtain⟨k,hk,rfl,rfl,hbel⟩:=hrel;have hsz:=hbel.size
  by_cases hlt:k<l.length
  ·obtain⟨o,ho⟩:∃ o,l[k]?=some o:=⟨l[k],by simp[hlt]⟩;obtain⟨ao',cap',e,_,_,h3⟩:=(qb HR).below hbel;simp only[Value.slice.injEq,true_and] at e;obtain⟨rfl,rfl⟩:=e;obtain⟨b,off,rfl,_,_,hc⟩:=h3 (by intro e;rw[e] at hlt;simp at hlt);obtain⟨c0,c1,c2,c3,c4,c5,⟨pv,c6,hpv⟩,c7⟩:=hc k o ho;obtain⟨po,pc,epv,_⟩:=hpv;rw[epv] at c6;clear epv;have hsm:=(qb HSm) o (zzn ho);have hob:=QN hsm;have hsb:=X4 (l.take k) (fun x hx=>(qb HSm) x (List.mem_of_mem_take hx));have hst:=Qc ho;rw[List.length_take] at hsb;obtain⟨s,hs⟩:∃ s,s=((l.take k).map jw).sum:=⟨_,rfl⟩;rw[<-hs] at hsb hst ⊢;have HB:=qg hbel;have HS:=qg hs;have HST:=qg hst;clear hbel h3 hc hs hst ho
   by_cases h3k:o.kind=3
   ·have hoc:jw o=o.w*o.h:=(by unfold jw;rw[if_pos h3k]);have hm:IntKind.i64.wrap (o.w*o.h)=o.w*o.h:=(by rw[IntKind.wrap_i64];omega);have ha:IntKind.i64.wrap ((l.length:Int)+s+o.w*o.h)=(l.length:Int)+s+o.w*o.h:=(by rw[IntKind.wrap_i64];omega);have HOC:=qg hoc;rw[h3k] at c0;clear hoc hob hsb hsm;go_wp2
    go_roundw
    case rel=>
     refine⟨k+1,by omega,by go_num,?_,(qb HB).alloc hsz _⟩;rw[qb HST,qb HOC]
     congr 1
     omega
    case measure=>simp[intOf];omega
   ·have hoc:jw o=0:=(by unfold jw;rw[if_neg h3k]);have HOC:=qg hoc;have h3b:(o.kind == 3)=false:=(by simpa using h3k);clear hoc hob hsb hsm;go_wp2
    go_roundw
    case rel=>
     refine⟨k+1,by omega,by go_num,?_,(qb HB).alloc hsz _⟩;rw[qb HST,qb HOC,Int.add_zero]
    case measure=>simp[intOf];omega
  ·obtain rfl:k=l.length:=(by omega);have HB:=qg hbel;clear hbel;have e:(l.length:Int)+((l.take l.length).map jw).sum=qA l:=(by rw[List.take_length];rfl);rw[e];clear e;go_wp2;go_ret;exact⟨rfl,qb HB⟩
def npx (n:Int):Bool:=!inB n 0 4294967295
theorem K9 (U:Nat->Prop)(v:Value)(l:List Int)(w:World)(hR:RdN U w v l)(hn:l.length<=17592186043904) :
 Calls Tryz.prog 159 #[v,.func (.func 145) #[] #[]] w fun e w'=>∃ n:Int,e=.returned (.int .i64 n)/\decide (0<=n)=l.any npx/\w'=w:=by
 obtain⟨ao,cap,rfl,h1,h2,h3⟩:=hR
 go_enter Tryz.func159,Tryz.ntmps159
 go_wp2
 go_loopw [8] (fun i wr=>∃ k:Nat,k<=l.length/\i=.int .i64 k/\(l.take k).any npx=false/\wr=w) (fun i _=>l.length-(intOf i).toNat)
 case atStart=>exact⟨0,Nat.zero_le _,rfl,rfl,rfl⟩
 case round=>
  obtain⟨k,hk,rfl,hh,ew⟩:=hrel;have ew2:=ew.symm;clear ew;subst ew2
  by_cases hlt:k<l.length
  ·obtain⟨b,off,rfl,_,hb,hc⟩:=h3 (by intro e;subst e;simp at hlt);obtain⟨r,hr⟩:∃ r,l[k]?=some r:=⟨l[k],by simp[hlt]⟩;have c1:=hc k r hr;clear hc h3;have HT:Hid ((l.take (k+1)).any npx=npx r):=(by show _=_;rw[List.take_add_one,hr,List.any_append,hh];simp);have HL:Hid (npx r=true->l.any npx=true):=fun h=>List.any_eq_true.2 ⟨r,zzn hr,h⟩;clear hh;have HNP:=qg (fun w=>Vh r w);have e0:(!inB r 0 4294967295)=npx r:=rfl;rw[e0] at HNP;clear e0
   cases ho:npx r
   ·rw[ho] at HNP
    go_wp2_with (go_at_call 145;refine ((qb HNP) _).mono ?_;rintro e w' ⟨rfl,rfl⟩)
    go_roundw
    case rel=>exact⟨k+1,by omega,by go_num,by rw[HT.out,ho],by trivial⟩
    case measure=>simp[intOf];omega
   ·rw[ho] at HNP
    go_wp2_with (go_at_call 145;refine ((qb HNP) _).mono ?_;rintro e w' ⟨rfl,rfl⟩)
    go_ret;exact⟨k,rfl,by rw[HL.out ho];simp,rfl⟩
  ·have hkl:k=l.length:=(by omega);have HB:Hid (l.any npx=false):=(by rw[hkl,List.take_length] at hh;exact hh);clear hh h3;go_wp2;go_ret;exact⟨-1,rfl,by rw[HB.out];rfl,rfl⟩
theorem Xn (U:Nat->Prop)(v:Value)(l:List Int)(w:World)(hR:RdN U w v l)(hn:l.length<=17592186043904) :
 Calls Tryz.prog 144 #[v,.func (.func 145) #[] #[]] w fun e w'=>e=.returned (.bool (!l.all (fun n=>inB n 0 4294967295)))/\w'=w:=by
 have HI:=qg (K9 U v l w hR hn);have e0:l.any npx=!l.all (fun n=>inB n 0 4294967295):=(by rw[List.not_all_eq_any_not];rfl);have HE:=qg e0;clear e0 hR hn
 go_enter Tryz.func144,Tryz.ntmps144
 go_wp2_with (go_at_call 159;refine (qb HI).mono ?_;rintro e w' ⟨n,rfl,hn',rfl⟩;have HN:=qg hn';clear hn')
 go_ret;exact⟨by rw[<-qb HE,<-qb HN];rfl,rfl⟩
def vL (o:Opn):Bool:=inB o.kind 1 8&&zt o
theorem Xo (o:Opn)(po:Option Addr)(pn pc:Nat)(w:World)(hk:o.kind=1\/o.kind=4) :
 Calls Tryz.prog 125 #[ovq o (.slice po pn pc)] w fun e w'=>e=.returned (.bool (vL o))/\Below w.heap.size w w':=by
 have e0:vL o=(inB o.x (-100) 100&&inB o.y (-100) 100):=by
  unfold vL zt;rw[if_pos hk]
  rcases hk with e | e<;>rw[e]<;>rfl
 rw[e0];clear e0;unfold ovq;obtain⟨b1,h1⟩:∃ b1,b1=inB o.x (-100) 100:=⟨_,rfl⟩;obtain⟨b2,h2⟩:∃ b1,b1=inB o.y (-100) 100:=⟨_,rfl⟩;have c1:Hid (∀ w,Calls Tryz.prog 75 #[.int .i64 o.x,.int .i64 (-100),.int .i64 100] w fun e w'=>e=.returned (.bool (inB o.x (-100) 100))/\w'=w):=fun w=>zk _ _ _ w;have c2:Hid (∀ w,Calls Tryz.prog 75 #[.int .i64 o.y,.int .i64 (-100),.int .i64 100] w fun e w'=>e=.returned (.bool (inB o.y (-100) 100))/\w'=w):=fun w=>zk _ _ _ w;rw[<-h1] at c1 ⊢;rw[<-h2] at c2 ⊢;clear h1 h2
 rcases hk with e | e<;>rw[e]<;>clear e
 all_goals
  go_enter Tryz.func125,Tryz.ntmps125
  go_wp2_with (go_at_call 75;first
    | (refine ((qb c1) _).mono ?_;rintro e w' ⟨rfl,rfl⟩;clear c1)
    | (refine ((qb c2) _).mono ?_;rintro e w' ⟨rfl,rfl⟩;clear c2))
  all_goals go_ret
  all_goals refine⟨by first | rfl | simp_all,?_⟩
  all_goals repeat (first | exact Below.refl _ _ | refine Below.alloc ?_ (zzl _) _)
theorem JY (o:Opn)(po:Option Addr)(pn pc:Nat)(w:World)(hk:o.kind=7) :
 Calls Tryz.prog 125 #[ovq o (.slice po pn pc)] w fun e w'=>e=.returned (.bool (vL o))/\Below w.heap.size w w':=by
 have e0:vL o=(inB o.x (-4) 4&&inB o.y (-4) 4&&inB o.w 1 20):=by
  unfold vL zt;rw[hk,if_neg (by decide),if_neg (by decide),if_pos rfl]
  cases inB o.x (-4) 4<;>cases inB o.y (-4) 4<;>cases inB o.w 1 20<;>rfl
 rw[e0];clear e0;unfold ovq;obtain⟨b1,h1⟩:∃ b1,b1=inB o.x (-4) 4:=⟨_,rfl⟩;obtain⟨b2,h2⟩:∃ b1,b1=inB o.y (-4) 4:=⟨_,rfl⟩;obtain⟨b3,h3⟩:∃ b1,b1=inB o.w 1 20:=⟨_,rfl⟩;have c1:Hid (∀ w,Calls Tryz.prog 75 #[.int .i64 o.x,.int .i64 (-4),.int .i64 4] w fun e w'=>e=.returned (.bool (inB o.x (-4) 4))/\w'=w):=fun w=>zk _ _ _ w;have c2:Hid (∀ w,Calls Tryz.prog 75 #[.int .i64 o.y,.int .i64 (-4),.int .i64 4] w fun e w'=>e=.returned (.bool (inB o.y (-4) 4))/\w'=w):=fun w=>zk _ _ _ w;have c3:Hid (∀ w,Calls Tryz.prog 75 #[.int .i64 o.w,.int .i64 1,.int .i64 20] w fun e w'=>e=.returned (.bool (inB o.w 1 20))/\w'=w):=fun w=>zk _ _ _ w;rw[<-h1] at c1 ⊢;rw[<-h2] at c2 ⊢;rw[<-h3] at c3 ⊢;clear h1 h2 h3;rw[hk];clear hk
 go_enter Tryz.func125,Tryz.ntmps125
 go_wp2_with (go_at_call 75;first
   | (refine ((qb c1) _).mono ?_;rintro e w' ⟨rfl,rfl⟩;clear c1)
   | (refine ((qb c2) _).mono ?_;rintro e w' ⟨rfl,rfl⟩;clear c2)
   | (refine ((qb c3) _).mono ?_;rintro e w' ⟨rfl,rfl⟩;clear c3))
 all_goals go_ret
 all_goals refine⟨by first | rfl | simp_all,?_⟩
 all_goals repeat (first | exact Below.refl _ _ | refine Below.alloc ?_ (zzl _) _)
theorem Xp (o:Opn)(po:Option Addr)(pn pc:Nat)(w:World)(hk:o.kind=2\/o.kind=5\/o.kind=6\/o.kind=8) :
 Calls Tryz.prog 125 #[ovq o (.slice po pn pc)] w fun e w'=>e=.returned (.bool (vL o))/\Below w.heap.size w w':=by
 have e0:vL o=true:=by
  unfold vL zt
  rcases hk with e | e | e | e<;>rw[e]<;>rfl
 rw[e0];clear e0;unfold ovq
 rcases hk with e | e | e | e<;>rw[e]<;>clear e
 all_goals
  go_enter Tryz.func125,Tryz.ntmps125
  go_wp2;go_ret;refine⟨rfl,?_⟩
  repeat (first | exact Below.refl _ _ | refine Below.alloc ?_ (zzl _) _)
theorem VG (o:Opn)(po:Option Addr)(pn pc:Nat)(w:World)(hk:inB o.kind 1 8=false) :
 Calls Tryz.prog 125 #[ovq o (.slice po pn pc)] w fun e w'=>e=.returned (.bool (vL o))/\Below w.heap.size w w':=by
 have e0:vL o=false:=by
  unfold vL;rw[hk];rfl
 rw[e0];clear e0;unfold ovq;have hk':¬(1<=o.kind/\o.kind<=8):=by
  unfold inB at hk;intro h;simp[h.1,h.2] at hk
 clear hk;generalize o.kind=q at *;have k1:(q == 1)=false:=(by simp;omega);have k2:(q == 2)=false:=(by simp;omega);have k3:(q == 3)=false:=(by simp;omega);have k4:(q == 4)=false:=(by simp;omega);have k5:(q == 5)=false:=(by simp;omega);have k6:(q == 6)=false:=(by simp;omega);have k7:(q == 7)=false:=(by simp;omega);have k8:(q == 8)=false:=(by simp;omega);clear hk'
 go_enter Tryz.func125,Tryz.ntmps125
 go_wp2;go_ret;refine⟨rfl,?_⟩
 repeat (first | exact Below.refl _ _ | refine Below.alloc ?_ (zzl _) _)
theorem ZT (U:Nat->Prop)(o:Opn)(po:Option Addr)(pc:Nat)(w:World)(hk:o.kind=3)(hR:RdN U w (.slice po o.px.length pc) o.px)(hn:o.px.length<=17592186043904) :
 Calls Tryz.prog 125 #[ovq o (.slice po o.px.length pc)] w fun e w'=>e=.returned (.bool (vL o))/\Below w.heap.size w w':=by
 have e0:vL o=(inB o.w 1 8&&inB o.h 1 8&&decide ((o.px.length:Int)=o.w*o.h)&&o.px.all (fun n=>inB n 0 4294967295)):=by
  unfold vL zt;rw[hk,if_neg (by decide),if_pos rfl]
  rfl
 rw[e0];clear e0;unfold ovq;have hb:=fun (h1:inB o.w 1 8=true) (h2:inB o.h 1 8=true)=>(show 0<=o.w*o.h/\o.w*o.h<=64 from by
  unfold inB at h1 h2;simp only[Bool.and_eq_true,decide_eq_true_eq] at h1 h2;have:=QN (o:=o) (fun _=>⟨h1,h2⟩);unfold jw at this;rwa[if_pos hk] at this)
 have c4:Hid (∀ w',Below w.heap.size w w'->Calls Tryz.prog 144 #[.slice po o.px.length pc,.func (.func 145) #[] #[]] w' fun e w2=>e=.returned (.bool (!o.px.all (fun n=>inB n 0 4294967295)))/\w2=w'):=fun w' h=>Xn U _ _ w' (hR.below h) hn;obtain⟨b1,h1⟩:∃ b1,b1=inB o.w 1 8:=⟨_,rfl⟩;obtain⟨b2,h2⟩:∃ b1,b1=inB o.h 1 8:=⟨_,rfl⟩;obtain⟨b4,h4⟩:∃ b1,b1=o.px.all (fun n=>inB n 0 4294967295):=⟨_,rfl⟩;have c1:Hid (∀ w,Calls Tryz.prog 75 #[.int .i64 o.w,.int .i64 1,.int .i64 8] w fun e w'=>e=.returned (.bool (inB o.w 1 8))/\w'=w):=fun w=>zk _ _ _ w;have c2:Hid (∀ w,Calls Tryz.prog 75 #[.int .i64 o.h,.int .i64 1,.int .i64 8] w fun e w'=>e=.returned (.bool (inB o.h 1 8))/\w'=w):=fun w=>zk _ _ _ w;rw[<-h1] at c1 hb ⊢;rw[<-h2] at c2 hb ⊢;rw[<-h4] at c4 ⊢;clear h1 h2 h4 hR;rw[hk];clear hk;generalize o.px.length=n at *
 cases b1
 ·clear hb c4 c2
  go_enter Tryz.func125,Tryz.ntmps125
  go_wp2_with (go_at_call 75;refine ((qb c1) _).mono ?_;rintro e w' ⟨rfl,rfl⟩;clear c1)
  go_ret;refine⟨by first | rfl | simp_all,?_⟩
  repeat (first | exact Below.refl _ _ | refine Below.alloc ?_ (zzl _) _)
 cases b2
 ·clear hb c4
  go_enter Tryz.func125,Tryz.ntmps125
  go_wp2_with (go_at_call 75;first
    | (refine ((qb c1) _).mono ?_;rintro e w' ⟨rfl,rfl⟩;clear c1)
    | (refine ((qb c2) _).mono ?_;rintro e w' ⟨rfl,rfl⟩;clear c2))
  go_ret;refine⟨by first | rfl | simp_all,?_⟩
  repeat (first | exact Below.refl _ _ | refine Below.alloc ?_ (zzl _) _)
 obtain⟨hb1,hb2⟩:=hb rfl rfl;clear hb;have hm:IntKind.i64.wrap (o.w*o.h)=o.w*o.h:=by rw[IntKind.wrap_i64];omega
 by_cases he:(n:Int)=o.w*o.h
 ·have hd:decide ((n:Int)=o.w*o.h)=true:=(by simp[he]);have hq:((n:Int) == o.w*o.h)=true:=(by simp[he]);rw[hd];have HE:=qg he;clear hd he hb1 hb2
  go_enter Tryz.func125,Tryz.ntmps125
  go_wp2_with (first
    | (go_at_call 75;first
        | (refine ((qb c1) _).mono ?_;rintro e w' ⟨rfl,rfl⟩;clear c1)
        | (refine ((qb c2) _).mono ?_;rintro e w' ⟨rfl,rfl⟩;clear c2))
    | (go_at_call 144;refine ((qb c4) _ (by repeat (first | exact Below.refl _ _ | refine Below.alloc ?_ (zzl _) _))).mono ?_;rintro e w' ⟨rfl,rfl⟩;clear c4))
  all_goals go_ret
  all_goals refine⟨by first | rfl | simp_all,?_⟩
  all_goals repeat (first | exact Below.refl _ _ | refine Below.alloc ?_ (zzl _) _)
 ·have hd:decide ((n:Int)=o.w*o.h)=false:=(by simp[he]);have hq:((n:Int) == o.w*o.h)=false:=(by simpa using he);rw[hd];clear hd he hb1 hb2 c4
  go_enter Tryz.func125,Tryz.ntmps125
  go_wp2_with (go_at_call 75;first
    | (refine ((qb c1) _).mono ?_;rintro e w' ⟨rfl,rfl⟩;clear c1)
    | (refine ((qb c2) _).mono ?_;rintro e w' ⟨rfl,rfl⟩;clear c2))
  all_goals go_ret
  all_goals refine⟨by first | rfl | simp_all,?_⟩
  all_goals repeat (first | exact Below.refl _ _ | refine Below.alloc ?_ (zzl _) _)
theorem VH (U:Nat->Prop)(o:Opn)(po:Option Addr)(pc:Nat)(w:World)(hR:RdN U w (.slice po o.px.length pc) o.px)(hn:o.px.length<=17592186043904) :
 Calls Tryz.prog 125 #[ovq o (.slice po o.px.length pc)] w fun e w'=>e=.returned (.bool (vL o))/\Below w.heap.size w w':=by
 cases hk:inB o.kind 1 8
 ·exact VG o po _ pc w hk
 ·unfold inB at hk;simp only[Bool.and_eq_true,decide_eq_true_eq] at hk
  by_cases h3:o.kind=3
  ·exact ZT U o po pc w h3 hR hn
  by_cases h7:o.kind=7
  ·exact JY o po _ pc w h7
  by_cases h1:o.kind=1\/o.kind=4
  ·exact Xo o po _ pc w h1
  ·exact Xp o po _ pc w (by omega)
theorem Xb {x:List Bool}{o:Opn}(h:vL o=false):qP x o=none:=by
 unfold vL at h;have h8:¬o.kind=8:=fun e=>by
  unfold zt at h;rw[e] at h;simp[inB] at h
 refine vq h8 ?_
 cases hk:inB o.kind 1 7
 ·rfl
 ·have h18:inB o.kind 1 8=true:=by
   unfold inB at hk ⊢;simp only[Bool.and_eq_true,decide_eq_true_eq] at hk ⊢;omega
  rw[h18,Bool.true_and] at h;rw[h,Bool.and_false]
theorem qg2 {x:List Bool}{o:Opn}(h8:¬o.kind=8)(h:inB o.surf 0 ((x.length:Int)-1)=false):qP x o=none:=by
 refine vq h8 ?_;rw[h];simp
theorem ZA {x:List Bool}{o:Opn}(h8:¬o.kind=8)(h:x.getD o.surf.toNat false=decide (o.kind=1)):qP x o=none:=by
 refine vq h8 ?_;rw[h];simp
theorem Jc {x:List Bool}{o:Opn}(h8:¬o.kind=8)(hk:vL o=true)(hs:inB o.surf 0 ((x.length:Int)-1)=true)(h:x.getD o.surf.toNat false≠decide (o.kind=1)):qP x o=some (x.set o.surf.toNat (decide (o.kind≠2))):=by
 refine Jb h8 ?_;unfold vL at hk;rw[Bool.and_eq_true] at hk;have h17:inB o.kind 1 7=true:=by
  have:=hk.1;unfold inB at this ⊢;simp only[Bool.and_eq_true,decide_eq_true_eq] at this ⊢;omega
 rw[h17,hs,hk.2];simpa using h
structure J8 (w wr:World)(x:List Bool):Prop where
 len:x.length=4
 arr:wr.heap[w.heap.size]?=some (.cells (x.map Value.bool).toArray 111)
 res:wr.heap[w.heap.size+1]?=some (.cells #[.bool false,.bool false,.bool false,.bool false] 111)
 bel:Below w.heap.size w wr
theorem J8.below {w wr w2:World}{x:List Bool}(h:J8 w wr x)(hb:Below wr.heap.size wr w2):J8 w w2 x:=by
 have h1:=qh h.arr;have h2:=qh h.res;exact⟨h.len,(hb.block _ h1).trans h.arr,(hb.block _ h2).trans h.res,h.bel.trans (hb.mono h.bel.size)⟩
def bagg (x:List Bool):Value:=.agg (x.map Value.bool).toArray
def Aft (will:List Bool)(n:Nat)(b:List Bool)(l:List Opn)(e:Ending):Prop:=
 (∃ x:List Bool,x.length=4/\qR will l=some (x.take n)/\x.drop n=b.drop n/\e=.returned (.tuple #[bagg x,.bool true]))\/(qR will l=none/\e=.returned (.tuple #[.agg #[.bool false,.bool false,.bool false,.bool false],.bool false]))
theorem v8 (tmps:Array Value)(w:World)(g:Nat)(cs:Array Value)(hp:tmps.getD 6 undef=.pointer (some ⟨g,0,none⟩))(hg:w.heap[g]?=some (.cells cs 111))(hs:cs.size=4):(results Tryz.f95 tmps).run Tryz.prog w=.ok (.tuple #[.agg cs,tmps.getD 7 undef]) w:=by
 rw[results_cell_tmp rfl,hp];have h:=run_loadVar_row (P:=Tryz.prog) w g 111 111 cs (0,0) _ hg Tryz.underlying111 rfl (by rw[hs];rfl);simp[asAddr,h,Result.andThen]
theorem qs1 (q:Int):(!(q == 2))=decide (q≠2):=by by_cases h:q=2<;>simp[h]
theorem J8.zero {w w2:World}{x:List Bool}(h:J8 w w2 x)(m:Nat):(((((w2.drewN m).setCell ⟨w.heap.size+1,0,none⟩ (.bool false)).setCell ⟨w.heap.size+1,1,none⟩ (.bool false)).setCell ⟨w.heap.size+1,2,none⟩ (.bool false)).setCell ⟨w.heap.size+1,3,none⟩ (.bool false)).heap[w.heap.size+1]?=some (.cells #[.bool false,.bool false,.bool false,.bool false] 111):=by
 simpa using qp (i:=3) (qp (i:=2) (qp (i:=1) (qp (i:=0) (h.below (below_drewN (Below.refl _ _) m)).res (.bool false)) (.bool false)) (.bool false)) (.bool false)
theorem J8.zeroBel {w w2:World}{x:List Bool}(h:J8 w w2 x)(m:Nat):Below w.heap.size w (((((w2.drewN m).setCell ⟨w.heap.size+1,0,none⟩ (.bool false)).setCell ⟨w.heap.size+1,1,none⟩ (.bool false)).setCell ⟨w.heap.size+1,2,none⟩ (.bool false)).setCell ⟨w.heap.size+1,3,none⟩ (.bool false)):=
 ((((h.below (below_drewN (Below.refl _ _) m)).bel.setCell (p:=⟨w.heap.size+1,0,none⟩) (Nat.le_succ _) _).setCell (p:=⟨w.heap.size+1,1,none⟩) (Nat.le_succ _) _).setCell (p:=⟨w.heap.size+1,2,none⟩) (Nat.le_succ _) _).setCell (p:=⟨w.heap.size+1,3,none⟩) (Nat.le_succ _) _
theorem J8.put {w w2:World}{x:List Bool}(h:J8 w w2 x)(m j:Nat)(b:Bool):J8 w ((w2.drewN m).setCell ⟨w.heap.size,j,none⟩ (.bool b)) (x.set j b):=by
 have h':=h.below (below_drewN (Below.refl _ _) m);refine⟨by rw[List.length_set];exact h'.len,?_,qu h'.res (by simp) _,h'.bel.setCell (p:=⟨w.heap.size,j,none⟩) (zzl _) _⟩;have hst:=qp (i:=j) h'.arr (.bool b);rw[List.map_set];simpa using hst
theorem qm4 (U:Nat->Prop)(v:Value)(l:List Opn)(b0 b1 b2 b3:Bool)(n:Nat)(hn:1<=n/\n<=4)(w:World)(hR:RdO U w v l)(hl:l.length<=1759218604390)(hpx:∀ o∈l,o.px.length<=17592186043904) :
 Calls Tryz.prog 95 #[.agg #[.bool b0,.bool b1,.bool b2,.bool b3],v,.int .i64 (n:Int)] w fun e w'=>Aft ([b0,b1,b2,b3].take n) n [b0,b1,b2,b3] l e/\Below w.heap.size w w':=by
 obtain⟨ao,cap,rfl,h1,h2,h3⟩:=id hR;have HR:=qg hR;have HPx:=qg hpx;clear hR hpx h3
 go_enter Tryz.func95,Tryz.ntmps95
 go_wp2
 go_loopw [12] (fun i wr=>∃ (k:Nat)(x:List Bool),k<=l.length/\i=.int .i64 k/\qR ([b0,b1,b2,b3].take n) (l.take k)=some (x.take n)/\x.drop n=[b0,b1,b2,b3].drop n/\J8 w wr x) (fun i _=>l.length-(intOf i).toNat)
 case atStart=>
  refine⟨0,[b0,b1,b2,b3],Nat.zero_le _,rfl,rfl,rfl,⟨rfl,?_,?_,?_⟩⟩
  ·exact heap_alloc2_old _ _ _
  ·exact heap_alloc2_new _ _ _
  ·exact ((Below.refl _ w).alloc (zzl _) _).alloc (by show w.heap.size<=(w.heap.push _).size;rw[Array.size_push];omega) _
 case round=>
  rename World=>wq;obtain⟨k,x,hk,rfl,hv,hd,hI⟩:=hrel
  by_cases hlt:k<l.length
  ·obtain⟨o,ho⟩:∃ o,l[k]?=some o:=⟨l[k],by simp[hlt]⟩;obtain⟨ao',cap',e,_,_,h3⟩:=(qb HR).below hI.bel;simp only[Value.slice.injEq,true_and] at e;obtain⟨rfl,rfl⟩:=e;obtain⟨b,off,rfl,_,_,hc⟩:=h3 (by intro e;rw[e] at hlt;simp at hlt);obtain⟨c0,c1,c2,c3,c4,c5,⟨pv,c6,hpv⟩,c7⟩:=hc k o ho;have hpv':=hpv;obtain⟨po,pc,epv,_⟩:=hpv;rw[epv] at c6;have hpl:=(qb HPx) o (zzn ho);have CA:Hid (∀ w',Below wq.heap.size wq w'->Calls Tryz.prog 125 #[ovq o (.slice po o.px.length pc)] w' fun e w2=>e=.returned (.bool (vL o))/\Below w'.heap.size w' w2):=fun w' hb=>VH U o po pc w' (epv ▸ hpv'.below hb) hpl;unfold ovq at CA;have HV:=qg hv;have HD:=qg hd;have HI:=qg hI;have HO:=qg ho;clear hpv' epv hpl hv hd hI ho h3 hc
   cases hok:vL o
   ·rw[hok] at CA
    go_wp2_with fail
    refine ((qb CA) _ ((Below.refl _ _).alloc (zzl _) _)).mono ?_;rintro e w2 ⟨rfl,hb2⟩;have hI2:=((qb HI).below ((Below.refl _ wq).alloc (zzl _) _)).below hb2;have r0:w2.cell? ⟨w.heap.size+1,0,none⟩=some (.bool false):=qe hI2.res 0;have r1:w2.cell? ⟨w.heap.size+1,1,none⟩=some (.bool false):=qe hI2.res 1;have r2:w2.cell? ⟨w.heap.size+1,2,none⟩=some (.bool false):=qe hI2.res 2;have r3:w2.cell? ⟨w.heap.size+1,3,none⟩=some (.bool false):=qe hI2.res 3;have rz:∀ t,w2.frozen? ⟨w.heap.size+1,t,none⟩=false:=qj hI2.res;have HI2:=qg hI2;have HB2:=qg hb2;have HOK:=qg hok;clear CA hI2 hb2 hok;go_wp2
    (try simp only[Exit.inBlock,Exit.then])
    refine bodyPost_ret (v8 _ _ (w.heap.size+1) #[.bool false,.bool false,.bool false,.bool false] rfl ?_ rfl) rfl ⟨.inr ⟨vk (qb HV) (qb HO) (Xb (qb HOK)),rfl⟩,?_⟩
    ·simpa using qp (i:=3) (qp (i:=2) (qp (i:=1) (qp (i:=0) (qb HI2).res (.bool false)) (.bool false)) (.bool false)) (.bool false)
    ·exact ((((qb HI2).bel.setCell (p:=⟨w.heap.size+1,0,none⟩) (Nat.le_succ _) _).setCell (p:=⟨w.heap.size+1,1,none⟩) (Nat.le_succ _) _).setCell (p:=⟨w.heap.size+1,2,none⟩) (Nat.le_succ _) _).setCell (p:=⟨w.heap.size+1,3,none⟩) (Nat.le_succ _) _
   ·rw[hok] at CA
    go_wp2_with fail
    refine ((qb CA) _ ((Below.refl _ _).alloc (zzl _) _)).mono ?_;rintro e w2 ⟨rfl,hb2⟩;have hI2:=((qb HI).below ((Below.refl _ wq).alloc (zzl _) _)).below hb2;have hx2:w2.heap[wq.heap.size]?=some (.cells #[.int .i64 o.kind,.int .i64 o.surf,.int .i64 o.x,.int .i64 o.y,.int .i64 o.w,.int .i64 o.h,.slice po o.px.length pc,.int .i64 o.mark] 52):=(hb2.block _ (by show _<(wq.heap.push _).size;rw[Array.size_push];omega)).trans (qt _ _ _ rfl);have d0:w2.cell? ⟨wq.heap.size,0,none⟩=some (.int .i64 o.kind):=qe hx2 0;have d1:w2.cell? ⟨wq.heap.size,1,none⟩=some (.int .i64 o.surf):=qe hx2 1;have hxl:((x.take n).length:Int)=(n:Int):=(by have:=hI2.len;rw[List.length_take];omega);have HXL:=qg hxl;have HI2:=qg hI2;have HOK:=qg hok;have r0:w2.cell? ⟨w.heap.size+1,0,none⟩=some (.bool false):=qe hI2.res 0;have r1:w2.cell? ⟨w.heap.size+1,1,none⟩=some (.bool false):=qe hI2.res 1;have r2:w2.cell? ⟨w.heap.size+1,2,none⟩=some (.bool false):=qe hI2.res 2;have r3:w2.cell? ⟨w.heap.size+1,3,none⟩=some (.bool false):=qe hI2.res 3;have rz:∀ t,w2.frozen? ⟨w.heap.size+1,t,none⟩=false:=qj hI2.res;clear CA hok hx2 hb2 hI2 hxl
    by_cases h8:o.kind=8
    ·have q8:(o.kind == 8)=true:=(by simp[h8]);have H8:=qg h8;clear h8 r0 r1 r2 r3 rz;go_wp2
     go_roundw
     case rel=>exact⟨k+1,x,by omega,by go_num,by rw[vj (qb HV) (qb HO)];unfold qP;rw[if_pos (qb H8)],qb HD,qb HI2⟩
     case measure=>simp[intOf];omega
    ·have q8:(o.kind == 8)=false:=(by simpa using h8);have H8:=qg h8;clear h8;have hw:IntKind.i64.wrap ((n:Int)-1)=(n:Int)-1:=(by rw[IntKind.wrap_i64];omega);have CW:Hid (∀ w,Calls Tryz.prog 75 #[.int .i64 o.surf,.int .i64 0,.int .i64 ((n:Int)-1)] w fun e w'=>e=.returned (.bool (inB o.surf 0 ((n:Int)-1)))/\w'=w):=fun w=>zk _ _ _ w
     cases hs:inB o.surf 0 ((n:Int)-1)
     ·rw[hs] at CW;have HS:=qg hs;clear hs
      go_wp2_with fail
      go_quiet ((go_at_call 75;exact Calls.quiet_of_same ((qb CW) _)))
      clear CW;go_wp2
      (try simp only[Exit.inBlock,Exit.then])
      refine bodyPost_ret (v8 _ _ (w.heap.size+1) #[.bool false,.bool false,.bool false,.bool false] rfl ?_ rfl) rfl ⟨.inr ⟨vk (qb HV) (qb HO) (qg2 (qb H8) (by rw[qb HXL];exact qb HS)),rfl⟩,?_⟩
      ·exact (qb HI2).zero _
      ·exact (qb HI2).zeroBel _
     ·rw[hs] at CW;have HS:=qg hs;obtain⟨j,hj,hjn⟩:∃ j:Nat,o.surf=(j:Int)/\j<n:=by
       unfold inB at hs;simp only[Bool.and_eq_true,decide_eq_true_eq] at hs;exact⟨o.surf.toNat,by omega,by omega⟩
      rw[hj] at d1 CW;have HJ:=qg hj;clear hs hj;have hxl4:=(qb HI2).len;obtain⟨y,hy⟩:∃ y,x[j]?=some y:=⟨x[j]'(by omega),by simp⟩;have aj:w2.cell? ⟨w.heap.size,j,none⟩=some (.bool y):=(by rw[qe (qb HI2).arr j];simp[hy]);have az:∀ t,w2.frozen? ⟨w.heap.size,t,none⟩=false:=qj (qb HI2).arr;have i0:(0:Int)<=(j:Int):=(by omega);have i1:(j:Int)<4:=(by omega);obtain⟨bk,hbk⟩:∃ bk,(o.kind == 1)=bk:=⟨_,rfl⟩;have hgd:(x.take n).getD o.surf.toNat false=y:=by
       rw[qb HJ,Int.toNat_natCast,List.getD_eq_getElem?_getD,List.getElem?_take_of_lt hjn,hy];rfl
      have HG:=qg hgd;have HY:=qg hy;have hdk:decide (o.kind=1)=bk:=(by rw[<-hbk];rfl);have HDK:=qg hdk;clear hgd hy hdk hxl4
      cases y<;>cases bk
      ·go_wp2_with fail
       go_quiet ((go_at_call 75;exact Calls.quiet_of_same ((qb CW) _)))
       clear CW;go_wp2
       (try simp only[Exit.inBlock,Exit.then])
       refine bodyPost_ret (v8 _ _ (w.heap.size+1) #[.bool false,.bool false,.bool false,.bool false] rfl ?_ rfl) rfl ⟨.inr ⟨vk (qb HV) (qb HO) (ZA (qb H8) ((qb HG).trans (qb HDK).symm)),rfl⟩,?_⟩
       ·exact (qb HI2).zero _
       ·exact (qb HI2).zeroBel _
      ·go_wp2_with fail
       go_quiet ((go_at_call 75;exact Calls.quiet_of_same ((qb CW) _)))
       clear CW;go_wp2
       go_roundw
       case rel=>
        refine⟨k+1,x.set j (decide (o.kind≠2)),by omega,by go_num,?_,?_,?_⟩
        ·rw[vj (qb HV) (qb HO),Jc (qb H8) (qb HOK) (by rw[qb HXL];exact qb HS) (by rw[qb HG,qb HDK];decide),qb HJ,Int.toNat_natCast,List.take_set]
        ·rw[List.drop_set_of_lt hjn];exact qb HD
        ·first | exact (qb HI2).put _ j _ | (rw[<-qs1];exact (qb HI2).put _ j _)
       case measure=>simp[intOf];omega
      ·go_wp2_with fail
       go_quiet ((go_at_call 75;exact Calls.quiet_of_same ((qb CW) _)))
       clear CW;go_wp2
       go_roundw
       case rel=>
        refine⟨k+1,x.set j (decide (o.kind≠2)),by omega,by go_num,?_,?_,?_⟩
        ·rw[vj (qb HV) (qb HO),Jc (qb H8) (qb HOK) (by rw[qb HXL];exact qb HS) (by rw[qb HG,qb HDK];decide),qb HJ,Int.toNat_natCast,List.take_set]
        ·rw[List.drop_set_of_lt hjn];exact qb HD
        ·first | exact (qb HI2).put _ j _ | (rw[<-qs1];exact (qb HI2).put _ j _)
       case measure=>simp[intOf];omega
      ·go_wp2_with fail
       go_quiet ((go_at_call 75;exact Calls.quiet_of_same ((qb CW) _)))
       clear CW;go_wp2
       (try simp only[Exit.inBlock,Exit.then])
       refine bodyPost_ret (v8 _ _ (w.heap.size+1) #[.bool false,.bool false,.bool false,.bool false] rfl ?_ rfl) rfl ⟨.inr ⟨vk (qb HV) (qb HO) (ZA (qb H8) ((qb HG).trans (qb HDK).symm)),rfl⟩,?_⟩
       ·exact (qb HI2).zero _
       ·exact (qb HI2).zeroBel _
  ·obtain rfl:k=l.length:=(by omega);rw[List.take_length] at hv;obtain⟨x0,x1,x2,x3,rfl⟩:∃ x0 x1 x2 x3,x=[x0,x1,x2,x3]:=by
    have:=hI.len
    match x,this with
    | [x0,x1,x2,x3],_=>exact⟨x0,x1,x2,x3,rfl⟩
   have a0:wq.cell? ⟨w.heap.size,0,none⟩=some (.bool x0):=qe hI.arr 0;have a1:wq.cell? ⟨w.heap.size,1,none⟩=some (.bool x1):=qe hI.arr 1;have a2:wq.cell? ⟨w.heap.size,2,none⟩=some (.bool x2):=qe hI.arr 2;have a3:wq.cell? ⟨w.heap.size,3,none⟩=some (.bool x3):=qe hI.arr 3;have r0:wq.cell? ⟨w.heap.size+1,0,none⟩=some (.bool false):=qe hI.res 0;have r1:wq.cell? ⟨w.heap.size+1,1,none⟩=some (.bool false):=qe hI.res 1;have r2:wq.cell? ⟨w.heap.size+1,2,none⟩=some (.bool false):=qe hI.res 2;have r3:wq.cell? ⟨w.heap.size+1,3,none⟩=some (.bool false):=qe hI.res 3;have rz:∀ t,wq.frozen? ⟨w.heap.size+1,t,none⟩=false:=qj hI.res;have HV:=qg hv;have HD:=qg hd;have HI:=qg hI;clear hv hd hI;go_wp2
   (try simp only[Exit.inBlock,Exit.then])
   refine bodyPost_ret (v8 _ _ (w.heap.size+1) #[.bool x0,.bool x1,.bool x2,.bool x3] rfl ?_ rfl) rfl ⟨.inl ⟨[x0,x1,x2,x3],rfl,qb HV,qb HD,rfl⟩,?_⟩
   ·simpa using qp (i:=3) (qp (i:=2) (qp (i:=1) (qp (i:=0) (qb HI).res (.bool x0)) (.bool x1)) (.bool x2)) (.bool x3)
   ·exact ((((qb HI).bel.setCell (p:=⟨w.heap.size+1,0,none⟩) (Nat.le_succ _) _).setCell (p:=⟨w.heap.size+1,1,none⟩) (Nat.le_succ _) _).setCell (p:=⟨w.heap.size+1,2,none⟩) (Nat.le_succ _) _).setCell (p:=⟨w.heap.size+1,3,none⟩) (Nat.le_succ _) _
end Go.Proofs.YtfnockbgkcgpkaaGreat
