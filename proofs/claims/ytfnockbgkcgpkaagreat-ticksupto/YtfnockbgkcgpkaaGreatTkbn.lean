import Derived.Test.YtfnockbgkcgpkaaGreatTkac
import Derived.Test.YtfnockbgkcgpkaaGreatTkas
import Derived.Test.YtfnockbgkcgpkaaGreatTkax
import Derived.Test.YtfnockbgkcgpkaaGreatTkbl
import Derived.Test.YtfnockbgkcgpkaaGreatTkbm
import Derived.BigQuiet
import Derived.Deep.QuietTactic
import Derived.Laws.AppendOwnNone
set_option linter.all false
set_option maxRecDepth 100000
set_option maxHeartbeats 16000000
namespace Go.Proofs.YtfnockbgkcgpkaaGreat
open Go.RowKit Go.Proofs.Panes
structure ClOk (c:Cfg)(l:List Srf)(j:Nat)(k:Cli):Prop where
 own:qR (hav l j c.surfaces.toNat) k.q.flatten=some k.own
 tr:∀ tr∈k.q,(1<=tr.length/\tr.length<=20)/\1<=qA tr/\qA tr<=c.most
 cr:0<=k.cr/\k.cr<=c.most
 ql:(k.q.length:Int)<=c.queue
structure CfgB (c:Cfg):Prop where
 w:1<=c.w/\c.w<=16
 h:1<=c.h/\c.h<=16
 clients:1<=c.clients/\c.clients<=4
 queue:1<=c.queue/\c.queue<=8
 most:1<=c.most/\c.most<=300
 quantum:c.most<=c.quantum/\c.quantum<=600
 surfaces:1<=c.surfaces/\c.surfaces<=4
 behind:1<=c.behind/\c.behind<=4294967295
theorem Qy {c:Cfg}(h:jU c=true):CfgB c:=by
 simp only[jU,Bool.and_eq_true,jh] at h;obtain⟨⟨⟨⟨⟨⟨⟨a,b⟩,c⟩,d⟩,e⟩,f⟩,g⟩,i⟩:=h;exact⟨a,b,c,d,e,f,g,i⟩
theorem CfgB.ks {c:Cfg}(h:CfgB c):c.clients.toNat*c.surfaces.toNat<=16:=Nat.mul_le_mul (show c.clients.toNat<=4 by have:=h.clients;omega) (show c.surfaces.toNat<=4 by have:=h.surfaces;omega)
structure jg (D:Nat)(s:qY):Prop where
 cfg:jU s.c=true
 len:s.ks.length=s.c.clients.toNat
 W:s.f.W=s.c.w.toNat
 H:s.f.H=s.c.h.toNat
 st:vM s.c.clients.toNat s.c.surfaces.toNat D (s.l,s.f)
 cl:∀ (j:Nat)(k:Cli),s.ks[j]?=some (some k)->ClOk s.c s.l j k
 no:∀ j:Nat,s.ks[j]?=some none->∀ x∈s.l,x.cl≠(j:Int)
theorem Jg:∀ (l:List (List Opn))(cr M:Int),0<=cr->(∀ x∈l,0<=qA x/\qA x<=M)->0<=(zP cr l).2/\(zP cr l).2<=cr/\((zP cr l).1<l.length->(zP cr l).2<M)/\(M<=cr->l≠[]->1<=(zP cr l).1)
 | [],cr,M,h,_=>⟨h,Int.le_refl _,fun hh=>by simp[zP] at hh,fun _ hh=>absurd rfl hh⟩
 | o::l,cr,M,h,hm=>by
  have ho:=hm o (by simp);unfold zP
  split
  ·rename_i hle;obtain⟨a,b,c,_⟩:=Jg l (cr-qA o) M (by omega) (fun x hx=>hm x (by simp[hx]));exact⟨a,by simp only;omega,fun hh=>c (by simp only[List.length_cons] at hh;omega),fun _ _=>by simp⟩
  ·rename_i hle;exact⟨h,Int.le_refl _,fun _=>by simp only;omega,fun hh=>by omega⟩
theorem qt7 (l:List Srf)(j S:Nat):hav (l.map goS) j S=hav l j S:=by
 unfold hav;refine List.map_congr_left fun n _=>?_;rw[Bool.eq_iff_iff,yI,yI];have e:(l.map goS).map qw=l.map qw:=(by rw[List.map_map];exact List.map_congr_left fun s _=>xH s);rw[e]
theorem JC {K S:Nat}{B:Int}{l:List Srf}(h:vh K S B l){j:Nat}:(∀ x∈l,x.cl≠(j:Int))↔hav l j S=List.replicate S false:=by
 constructor
 ·intro hn;apply List.ext_getElem?;intro n
  by_cases hlt:n<S
  ·rw[Qw hlt,List.getElem?_replicate,if_pos hlt]
   congr 1
   rw[List.any_eq_false];intro x hx he;have:=ju.1 he;simp only[qw,Prod.mk.injEq] at this;exact hn x hx this.1
  ·rw[List.getElem?_eq_none (by rw[vQ];omega),List.getElem?_eq_none (by simp;omega)]
 ·intro he x hx e;have hk:=h.ky x hx;have h1:(hav l j S)[x.num.toNat]?=some (l.any (isK (j:Int) ((x.num.toNat:Nat):Int))):=Qw (by omega);rw[he,List.getElem?_replicate,if_pos (by omega)] at h1;have h2:l.any (isK (j:Int) ((x.num.toNat:Nat):Int))=true:=yI.2 (List.mem_map.2 ⟨x,hx,by simp only[qw,Prod.mk.injEq];omega⟩);rw[h2] at h1;simp at h1
section
variable {D:Nat}{s:qY}
theorem zc3 {K S:Nat}{B:Int}{l:List Srf}(h:vh K S B l)(hB:B<=100000000000000):∀ r∈l.flatMap zW,Q9 r:=by
 intro r hr;obtain⟨x,hx,hr⟩:=List.mem_flatMap.1 hr;exact (Vx (ch:=goB x) ((h.sf x hx).rc hB) ((h.sf x hx).go.rc hB)).1 r hr
theorem Y5 (h:jg D s):vM s.c.clients.toNat s.c.surfaces.toNat D ((tk3 s).l,(tk3 s).f):=⟨h.st.sc.go,h.st.fr.flip.dam (yF _ _)⟩
structure AdmI (D:Nat)(s:qY)(j:Nat):Prop where
 st:vM s.c.clients.toNat s.c.surfaces.toNat (D+160*j) (qJ s.c.quantum s.ks ((tk3 s).l,(tk3 s).f) j)
 old:∀ (i:Nat)(k:Cli),j<=i->s.ks[i]?=some (some k)->qR (hav (qJ s.c.quantum s.ks ((tk3 s).l,(tk3 s).f) j).1 i s.c.surfaces.toNat) k.q.flatten=some k.own
 new:∀ (i:Nat)(k:Cli),i<j->s.ks[i]?=some (some k)->qR (hav (qJ s.c.quantum s.ks ((tk3 s).l,(tk3 s).f) j).1 i s.c.surfaces.toNat) (qB k s.c.quantum).2.q.flatten=some k.own
 no:∀ i:Nat,s.ks[i]?=some none->hav (qJ s.c.quantum s.ks ((tk3 s).l,(tk3 s).f) j).1 i s.c.surfaces.toNat=List.replicate s.c.surfaces.toNat false
theorem qm9 (h:jg D s):AdmI D s 0:=by
 refine⟨Y5 h,fun i k _ hk=>?_,fun i k hi=>by omega,fun i hi=>?_⟩
 ·show qR (hav (s.l.map goS) i _) _=_;rw[qt7];exact (h.cl i k hk).own
 ·show hav (s.l.map goS) i _=_;rw[qt7];exact (JC h.st.sc).1 (h.no i hi)
theorem XZ (h:jg D s)(hD:D+640<=900000000){j:Nat}(hj:j<s.ks.length)(hI:AdmI D s j):AdmI D s (j+1)/\∀ (k:Cli)(m:Nat)(tr:List Opn),s.ks[j]?=some (some k)->(qB k s.c.quantum).1[m]?=some tr->vX j ((jx j (qJ s.c.quantum s.ks ((tk3 s).l,(tk3 s).f) j) ((qB k s.c.quantum).1.take m)).1,{ (jx j (qJ s.c.quantum s.ks ((tk3 s).l,(tk3 s).f) j) ((qB k s.c.quantum).1.take m)).2 with due:=true}) tr:=by
 have hc:=Qy h.cfg;have hKS:=hc.ks;have hlen:=h.len;have hK:s.c.clients.toNat<=4:=by have:=hc.clients;omega
 cases hk:s.ks[j]? with
 | none=>rw[List.getElem?_eq_getElem hj] at hk;cases hk
 | some x=>
  cases x with
  | none=>
   have e:qJ s.c.quantum s.ks ((tk3 s).l,(tk3 s).f) (j+1)=qJ s.c.quantum s.ks ((tk3 s).l,(tk3 s).f) j:=(by simp[qJ,hk]);refine⟨⟨by rw[e];exact hI.st.mono (by omega),fun i k hi hik=>by rw[e];exact hI.old i k (by omega) hik,fun i k hi hik=>?_,fun i hi=>by rw[e];exact hI.no i hi⟩,fun k m tr hk'=>by cases hk'⟩;rw[e]
   by_cases hij:i=j
   ·subst hij;rw[hk] at hik;cases hik
   ·exact hI.new i k (by omega) hik
  | some k=>
   have hcl:=h.cl j k hk;have e:qJ s.c.quantum s.ks ((tk3 s).l,(tk3 s).f) (j+1)=jx j (qJ s.c.quantum s.ks ((tk3 s).l,(tk3 s).f) j) (qB k s.c.quantum).1:=(by simp[qJ,hk]);have hv:=hI.old j k (zzl _) hk;obtain⟨n,hn⟩:∃ n,n=(zP (k.cr+s.c.quantum) k.q).1:=⟨_,rfl⟩;have e1:(qB k s.c.quantum).1=k.q.take n:=(by rw[hn];rfl);have e2:(qB k s.c.quantum).2.q=k.q.drop n:=(by rw[hn];rfl);have hsplit:k.q.flatten=(k.q.take n).flatten++(k.q.drop n).flatten:=(by rw[<-List.flatten_append,List.take_append_drop]);rw[hsplit,zF] at hv
   cases hy:qR (hav (qJ s.c.quantum s.ks ((tk3 s).l,(tk3 s).f) j).1 j s.c.surfaces.toNat) (k.q.take n).flatten with
   | none=>rw[hy] at hv;cases hv
   | some y=>
    rw[hy] at hv;have hv2:qR y (k.q.drop n).flatten=some k.own:=hv;have hql:k.q.length<=8:=(by have:=hcl.ql;have:=hc.queue;omega);have htl:(k.q.take n).length<=8:=(by rw[List.length_take];omega);obtain⟨g1,g2,g3,g4⟩:=Y3 (j:=j) (K:=s.c.clients.toNat) (S:=s.c.surfaces.toNat) (by omega) (by omega) (k.q.take n) (D+160*j) _ y hI.st (fun tr htr=>(hcl.tr tr (List.mem_of_mem_take htr)).1.2) (by omega) hy;rw[<-e1] at g1 g2 g3 g4;rw[<-e] at g2 g3 g4;refine⟨⟨?_,fun i k' hi hik=>?_,fun i k' hi hik=>?_,fun i hi=>?_⟩,fun k' m tr hk' hm=>?_⟩
    ·refine g2.mono ?_;rw[e1];omega
    ·rw[g4 i (by omega)];exact hI.old i k' (by omega) hik
    ·by_cases hij:i=j
     ·subst hij;rw[hk] at hik;simp only[Option.some.injEq] at hik;subst hik;rw[g3,e2];exact hv2
     ·rw[g4 i hij];exact hI.new i k' (by omega) hik
    ·have hij:i≠j:=fun e=>by subst e;rw[hk] at hi;cases hi
     rw[g4 i hij];exact hI.no i hi
    ·simp only[Option.some.injEq] at hk';subst hk';exact g1 m tr hm
theorem jL (h:jg D s)(hD:D+640<=900000000):∀ j,j<=s.ks.length->AdmI D s j
 | 0,_=>qm9 h
 | j+1,hj=>(XZ h hD (by omega) (jL h hD j (by omega))).1
theorem qm7 {c:Cfg}(hc:CfgB c){l:List Srf}{j:Nat}{k:Cli}(h:ClOk c l j k):(0<=(qB k c.quantum).2.cr/\(qB k c.quantum).2.cr<=c.most)/\(k.q≠[]->1<=(qB k c.quantum).1.length):=by
 have h1:=h.cr;have h2:=hc.quantum;have h3:=hc.most;obtain⟨a,b,d,e⟩:=Jg k.q (k.cr+c.quantum) c.most (by omega) (fun x hx=>by have:=(h.tr x hx).2;omega);refine⟨?_,fun hn=>?_⟩
 ·unfold qB;simp only
  split
  ·omega
  ·have:=d (by omega);omega
 ·have h4:=e (by omega) hn;have h5:=VY k.q (k.cr+c.quantum);unfold qB;simp only[List.length_take];omega
theorem qg8 (h:jg D s)(hD:D+640<=900000000)(ht:0<=s.t/\s.t<=1000000000000000000):xO s:=by
 have hc:=Qy h.cfg;have hKS:=hc.ks;have hlen:=h.len;have hq:=hc.quantum;have hmo:=hc.most;have hK:s.c.clients.toNat<=4:=(by have:=hc.clients;omega);have hl:=h.st.sc.len;simp only at hl;have hI:=jL h hD s.ks.length (zzl _);have hwh:=Y4 s;have hB:(100:Int)+80*((D+160*s.ks.length:Nat):Int)<=100000000000000:=(by omega);have hB0:(100:Int)+80*(D:Int)<=100000000000000:=(by omega);have hl4:=hI.st.sc.len;refine⟨ht,by omega,fun x hx=>(h.st.sc.sf x hx).sl hB0,zc3 h.st.sc hB0,h.st.fr.W,h.st.fr.H,⟨?_,?_,fun j k hk=>?_,fun j k m tr hk hm=>?_,?_,?_⟩,hI.st.fr.fr,fun x hx=>(hI.st.sc.sf x hx).ok hB,Nat.le_trans hl4 (by omega),fun g hg=>?_⟩
 ·show s.ks.length<=4;omega
 ·show 0<=s.c.quantum/\s.c.quantum<=1000000;omega
 ·have:=h.cl j k hk;have h1:=this.cr;have h2:=this.ql;have h3:=hc.queue;exact⟨by omega,by omega,fun x hx=>by have:=this.tr x hx;omega⟩
 ·have hjl:j<s.ks.length:=(zzg hk).1;exact (XZ h hD hjl (jL h hD j (by omega))).2 k m tr hk hm
 ·exact (Y5 h).fr.W
 ·exact (Y5 h).fr.H
 ·have hf:=(hI.st.fr.begin (s.t+1) (jP (tk4 s).l s.c.behind)).fm g hg;have hwh2:=hI.st.fr.wh;have e:=XX (qJ s.c.quantum s.ks ((tk3 s).l,(tk3 s).f) s.ks.length).2 (s.t+1) (jP (tk4 s).l s.c.behind);refine⟨?_,hf.2.2.2.1⟩;have h5:=hf.2.2.1;rw[e.1,e.2] at h5;exact Nat.le_trans h5 (Nat.le_trans hwh2 (by omega))
theorem Jz (q:Int)(ks:List (Option Cli)):ksI q ks ks.length=ks.map (J3 q):=by simp[ksI]
theorem qz8 (h:jg D s)(hD:D+640<=900000000)(b:Nat):jg (D+640) (vZ s b):=by
 have hc:=Qy h.cfg;have hlen:=h.len;have hK:s.c.clients.toNat<=4:=(by have:=hc.clients;omega);have hI:=jL h hD s.ks.length (zzl _);have hwh:=qq0 s;have hks:(vZ s b).ks=s.ks.map (J3 s.c.quantum):=Jz s.c.quantum s.ks;have hpw:(je (tk5 s).f b).W=(tk5 s).f.W/\(je (tk5 s).f b).H=(tk5 s).f.H:=by
  unfold je
  split<;>exact⟨rfl,rfl⟩
 refine⟨h.cfg,by rw[hks,List.length_map];exact hlen,?_,?_,⟨(hI.st.mono (by omega)).sc,?_⟩,fun j k hk=>?_,fun j hj=>?_⟩
 ·show (je (tk5 s).f b).W=_;rw[hpw.1,hwh.1];exact h.W
 ·show (je (tk5 s).f b).H=_;rw[hpw.2,hwh.2];exact h.H
 ·exact ((hI.st.fr.mono (by omega)).begin _ _).paint b
 ·rw[hks,List.getElem?_map] at hk
  cases hk0:s.ks[j]? with
  | none=>rw[hk0] at hk;cases hk
  | some x=>
   rw[hk0] at hk
   cases x with
   | none=>simp[J3] at hk
   | some k0=>
    simp[J3] at hk;subst hk;have hjl:j<s.ks.length:=(zzg hk0).1;have h0:=h.cl j k0 hk0;refine⟨hI.new j k0 hjl hk0,fun tr htr=>h0.tr tr ?_,(qm7 hc h0).1,?_⟩
    ·exact List.mem_of_mem_drop htr
    ·have:=h0.ql;show (((k0.q.drop _).length:Nat):Int)<=s.c.queue;rw[List.length_drop];omega
 ·rw[hks,List.getElem?_map] at hj
  cases hk0:s.ks[j]? with
  | none=>rw[hk0] at hj;cases hj
  | some x=>
   rw[hk0] at hj
   cases x with
   | some k0=>simp[J3] at hj
   | none=>
    have:=hI.no j hk0;exact (JC (hI.st.mono (zzl _)).sc).2 this
end
theorem ZB (will:List Bool)(o:Opn):qP will (qy o)=qP will o:=by
 unfold qy
 split
 ·rfl
 ·rename_i h;unfold qP zt;simp only[h,if_false]
theorem Jd:∀ (ops:List Opn)(will:List Bool),qR will (ops.map qy)=qR will ops
 | [],_=>rfl
 | o::l,will=>by
  show (qP will (qy o)).bind (fun x=>qR x (l.map qy))=(qP will o).bind (fun x=>qR x l);rw[ZB]
  cases qP will o with
  | none=>rfl
  | some y=>exact Jd l y
section
variable {D:Nat}{s:qY}
theorem new_ok {c:Cfg}(h:jU c=true):jg 0 (xZ c):=by
 have hc:=Qy h;refine⟨h,by simp[xZ],rfl,rfl,⟨⟨by simp[xZ],fun x hx=>by simp[xZ] at hx,fun x hx=>by simp[xZ] at hx⟩,⟨?_,?_,by simp[xZ,QQ],fun i hi=>by simp[xZ,QQ],fun i hi=>by simp[xZ,QQ],fun g hg=>by simp[xZ,QQ] at hg,by simp[xZ,QQ]⟩⟩,fun j k hk=>?_,fun j hj x hx=>by simp[xZ] at hx⟩
 ·have:=hc.w;simp only[xZ,QQ];omega
 ·have:=hc.h;simp only[xZ,QQ];omega
 ·simp only[xZ] at hk;rw[List.getElem?_replicate] at hk
  split at hk<;>simp at hk
theorem zd7 (h:jg D s){k:Nat}(hk:s.ks[k]?=some none):jg D {s with ks:=s.ks.set k (some (yS s.c))}:=by
 have hkl:=(zzg hk).1;have hc:=Qy h.cfg;refine⟨h.cfg,by simp only[List.length_set];exact h.len,h.W,h.H,h.st,fun j c hj=>?_,fun j hj=>?_⟩
 ·by_cases e:j=k
  ·subst e;simp only at hj;rw[List.getElem?_set_self hkl] at hj;simp only[Option.some.injEq] at hj;subst hj;refine⟨?_,fun tr htr=>by simp[yS] at htr,?_,?_⟩
   ·show some (hav s.l j s.c.surfaces.toNat)=some (List.replicate s.c.surfaces.toNat false);rw[(JC h.st.sc).1 (h.no j hk)]
   ·have:=hc.most;simp only[yS];omega
   ·have:=hc.queue;simp[yS];omega
  ·simp only at hj;rw[List.getElem?_set_ne (Ne.symm e)] at hj;exact h.cl j c hj
 ·by_cases e:j=k
  ·subst e;simp only at hj;rw[List.getElem?_set_self hkl] at hj;simp at hj
  ·simp only at hj;rw[List.getElem?_set_ne (Ne.symm e)] at hj;exact h.no j hj
theorem qa1 (l:List Srf){i k S:Nat}(hi:i≠k):hav (l.filter fun x=>!(x.cl == (k:Int))) i S=hav l i S:=by
 unfold hav;refine List.map_congr_left fun n _=>?_;rw[Bool.eq_iff_iff,List.any_eq_true,List.any_eq_true]
 constructor
 ·rintro⟨x,hx,he⟩;exact⟨x,(List.mem_filter.1 hx).1,he⟩
 ·rintro⟨x,hx,he⟩;refine⟨x,List.mem_filter.2 ⟨hx,?_⟩,he⟩;have:=ju.1 he;simp only[qw,Prod.mk.injEq] at this;have:¬x.cl=(k:Int):=(by omega);simpa using this
theorem ql2 (h:jg D s)(hD:D<=900000000)(k:Nat):J5 s k:=by
 have hc:=Qy h.cfg;have hKS:=hc.ks;have hl:=h.st.sc.len;simp only at hl;have hfl:(s.l.filter fun x=>x.cl == (k:Int)).length<=s.l.length:=List.length_filter_le _ _;have hlen:((s.l.filter fun x=>x.cl == (k:Int)).flatMap jf).length<=2*(s.l.filter fun x=>x.cl == (k:Int)).length:=by
  generalize s.l.filter _=m
  induction m with
  | nil=>simp
  | cons a m ih=>
   have h2:(jf a).length<=2:=(by unfold jf vd;split<;>(try split)<;>simp);simp only[List.flatMap_cons,List.length_append,List.length_cons];omega
 have hs:=yF ((s.l.filter fun x=>x.cl == (k:Int)).flatMap jf) s.f;have hB:(100:Int)+80*(D:Int)<=100000000000000:=(by omega);refine⟨by omega,h.st.fr.W,h.st.fr.H,fun r hr=>?_,by omega,?_,fun g hg=>?_⟩
 ·obtain⟨x,hx,hr⟩:=List.mem_flatMap.1 hr;exact (Vx (ch:=true) ((h.st.sc.sf x (List.mem_filter.1 hx).1).rc hB) qo0).1 r hr
 ·rw[hs.marks];have:=h.st.fr.mks;simp only at this;omega
 ·rw[hs.frame] at hg;have:=(h.st.fr.fm g hg).2.2.2.2;omega
theorem zc9 (h:jg D s){k:Nat}{cl:Cli}(hk:s.ks[k]?=some (some cl)):jg D (yi s k):=by
 have hkl:=(zzg hk).1;have hs:=yF ((s.l.filter fun x=>x.cl == (k:Int)).flatMap jf) s.f;have hsub:(s.l.filter fun x=>!(x.cl == (k:Int))).Sublist s.l:=List.filter_sublist;refine⟨h.cfg,by simp only[yi,List.length_set];exact h.len,?_,?_,⟨h.st.sc.sub hsub,(h.st.fr.dam hs).forget _⟩,fun j c hj=>?_,fun j hj=>?_⟩
 ·show (zX s.f _).W=_;rw[hs.W];exact h.W
 ·show (zX s.f _).H=_;rw[hs.H];exact h.H
 ·by_cases e:j=k
  ·subst e;simp only[yi] at hj;rw[List.getElem?_set_self hkl] at hj;simp at hj
  ·simp only[yi] at hj;rw[List.getElem?_set_ne (Ne.symm e)] at hj;have h0:=h.cl j c hj;exact⟨by show qR (hav (s.l.filter _) j _) _=_;rw[qa1 _ e];exact h0.own,h0.tr,h0.cr,h0.ql⟩
 ·by_cases e:j=k
  ·subst e;intro x hx;have:=(List.mem_filter.1 hx).2;simpa using this
  ·simp only[yi] at hj;rw[List.getElem?_set_ne (Ne.symm e)] at hj;intro x hx;exact h.no j hj x (List.mem_filter.1 hx).1
theorem Xw {c:Cfg}{k:Cli}{ops:List Opn}(h:qL c k ops=0):(1<=ops.length/\ops.length<=20)/\(∃ x,qR k.own ops=some x)/\qA ops<=c.most/\(k.q.length:Int)<c.queue:=by
 unfold qL at h
 split at h
 ·simp at h
 ·rename_i hin;have hin':inB (ops.length:Int) 1 20=true:=(by simpa using hin);rw[jh] at hin'
  cases hv:qR k.own ops with
  | none=>rw[hv] at h;simp at h
  | some x=>
   rw[hv] at h;simp only at h
   split at h
   ·simp at h
   ·split at h
    ·simp at h
    ·exact⟨by omega,⟨x,rfl⟩,by omega,by omega⟩
theorem qq3 {k:Cli}{ops:List Opn}{x:List Bool}(hv:qR k.own ops=some x)(hl:1<=ops.length):1<=qA ops:=by
 have:=X4 ops (xy ops _ _ hv);unfold qA;omega
theorem sub_ok (h:jg D s){k:Nat}{cl:Cli}{ops:List Opn}(hk:s.ks[k]?=some (some cl))(hs:qL s.c cl ops=0):jg D {s with ks:=s.ks.set k (some (X5 cl ops))}:=by
 have hkl:=(zzg hk).1;obtain⟨h1,⟨x,hx⟩,h3,h4⟩:=Xw hs;refine⟨h.cfg,by simp only[List.length_set];exact h.len,h.W,h.H,h.st,fun j c hj=>?_,fun j hj=>?_⟩
 ·by_cases e:j=k
  ·subst e;simp only at hj;rw[List.getElem?_set_self hkl] at hj;simp only[Option.some.injEq] at hj;subst hj;have h0:=h.cl j cl hk;refine⟨?_,fun tr htr=>?_,h0.cr,?_⟩
   ·show qR _ (cl.q++[ops.map qy]).flatten=some ((qR cl.own ops).getD cl.own);rw[List.flatten_append,zF,h0.own,hx];show qR cl.own [ops.map qy].flatten=some x;simp only[List.flatten_cons,List.flatten_nil,List.append_nil];rw[Jd];exact hx
   ·rcases List.mem_append.1 htr with q | q
    ·exact h0.tr tr q
    ·simp at q;subst q;rw[List.length_map,ve];exact⟨h1,qq3 hx h1.1,h3⟩
   ·show (((cl.q++[ops.map qy]).length:Nat):Int)<=s.c.queue;rw[List.length_append,List.length_singleton];omega
  ·simp only at hj;rw[List.getElem?_set_ne (Ne.symm e)] at hj;exact h.cl j c hj
 ·by_cases e:j=k
  ·subst e;simp only at hj;rw[List.getElem?_set_self hkl] at hj;simp at hj
  ·simp only at hj;rw[List.getElem?_set_ne (Ne.symm e)] at hj;exact h.no j hj
end
def nz (x y:Int)(l:List Srf):List Int:=(l.map fun s=>zC s x y).filter fun v=>!(v == 0)
theorem vm (x y:Int)(k l:List Srf):nz x y (k++l)=nz x y k++nz x y l:=by simp[nz]
theorem QO {x y:Int}{s:Srf}(h:zC s x y=0):nz x y [s]=[]:=by simp[nz,h]
theorem kS (x y:Int)(s:Srf)(l:List Srf):nz x y (s::l)=nz x y [s]++nz x y l:=vm x y [s] l
theorem Vc (x y:Int):∀ (l:List Srf)(b:Int),jP l b x y=(nz x y l).foldl (fun _ v=>v) b
 | [],b=>rfl
 | s::l,b=>by
  show jP l (if zC s x y=0 then b else zC s x y) x y=_;rw[Vc x y l,kS]
  by_cases h:zC s x y=0
  ·rw[if_pos h,QO h];rfl
  ·rw[if_neg h];have:nz x y [s]=[zC s x y]:=(by simp[nz,h]);rw[this];rfl
theorem xY {x y:Int}{k l:List Srf}(h:nz x y k=nz x y l)(b:Int):jP k b x y=jP l b x y:=by rw[Vc,Vc,h]
theorem covP_S (s:Srf)(x y:Int):xt ⟨s.x,s.y,s.w,s.h⟩ x y=xE s x y:=by
 rw[Bool.eq_iff_iff];simp only[xt,xE,Bool.and_eq_true,decide_eq_true_eq];omega
theorem jT {s:Srf}{x y:Int}(h:xt ⟨s.x,s.y,s.w,s.h⟩ x y=false):zC s x y=0:=by
 rw[covP_S] at h;unfold zC;rw[if_neg (by rw[h];simp)]
theorem vC {a b:Rc}{x y:Int}(h:∀ R∈vd true a b,xt R x y=false):xt a x y=false/\xt b x y=false:=by
 unfold vd at h;rw[if_neg (by simp)] at h
 split at h
 ·rename_i he;have h1:=h a (by simp);have:b=a:=by
   simp only[Xg,Bool.and_eq_true,beq_iff_eq] at he
   cases a;cases b
   simp only at he;simp[he]
  exact⟨h1,by rw[this];exact h1⟩
 ·exact⟨h a (by simp),h b (by simp)⟩
theorem qr8 {x y:Int}{l:List Srf}{f:Srf->Srf}(h:∀ s∈l,zC (f s) x y=zC s x y):nz x y (l.map f)=nz x y l:=by
 unfold nz;rw[List.map_map]
 congr 1
 exact List.map_congr_left h
theorem Zo {x y:Int}{p:Srf->Bool}:∀ {l:List Srf},(∀ s∈l,p s=false->zC s x y=0)->nz x y (l.filter p)=nz x y l
 | [],_=>rfl
 | s::l,h=>by
  have ih:=Zo (p:=p) (l:=l) (fun t ht=>h t (by simp[ht]));rw[List.filter_cons]
  cases hp:p s with
  | true=>simp only[if_true];rw[kS,kS x y s l,ih]
  | false=>simp only[Bool.false_eq_true,if_false];rw[kS x y s l,QO (h s (by simp) hp),ih];rfl
theorem Ze {l:List Srf}{x y:Int}(h:∀ R∈l.flatMap zW,xt R x y=false)(b:Int):jP (l.map goS) b x y=jP l b x y:=by
 refine xY (qr8 fun s hs=>?_) b;have hd:∀ R∈zW s,xt R x y=false:=fun R hR=>h R (List.mem_flatMap.2 ⟨s,hs,hR⟩);unfold zW at hd
 by_cases hl:s.left=0
 ·have:goS s=s:=(by unfold goS;rw[if_pos hl]);rw[this]
 ·cases hg:goB s with
  | false=>
   have hg':goS s={s with x:=s.x+s.dx,y:=s.y+s.dy,left:=s.left-1}:=(by unfold goS;rw[if_neg hl]);unfold goB at hg;rw[if_neg hl] at hg;simp only[Bool.not_eq_false',Bool.and_eq_true,beq_iff_eq] at hg;rw[hg'];unfold zC xE;simp only;rw[<-hg.1,<-hg.2]
  | true=>
   rw[hg] at hd;obtain⟨h1,h2⟩:=vC hd;rw[jT h1,jT h2]
theorem qj9 {l:List Srf}{c x y:Int}(h:∀ R∈(l.filter fun s=>s.cl == c).flatMap jf,xt R x y=false)(b:Int):jP (l.filter fun s=>!(s.cl == c)) b x y=jP l b x y:=by
 refine xY (Zo fun s hs hp=>?_) b;have hd:∀ R∈jf s,xt R x y=false:=fun R hR=>h R (List.mem_flatMap.2 ⟨s,List.mem_filter.2 ⟨hs,by simpa using hp⟩,hR⟩);exact jT (vC hd).1
theorem Zq {α β:Type}{f:α->β}:∀ {l:List α},(l.map f).Nodup->∀ a∈l,∀ b∈l,f a=f b->a=b
 | [],_,a,ha,_,_,_=>by cases ha
 | x::l,h,a,ha,b,hb,e=>by
  rw[List.map_cons,List.nodup_cons] at h
  rcases List.mem_cons.1 ha with p | p
  ·rcases List.mem_cons.1 hb with q | q
   ·rw[p,q]
   ·exact absurd (List.mem_map.2 ⟨b,q,by rw[<-e,p]⟩) h.1
  ·rcases List.mem_cons.1 hb with q | q
   ·exact absurd (List.mem_map.2 ⟨a,p,by rw[e,q]⟩) h.1
   ·exact Zq h.2 a p b q e
theorem VB {l:List Srf}{c n:Int}{s:Srf}(hnd:(l.map qw).Nodup)(hs:s∈l)(hk:qw s=(c,n)):jW l c n=⟨s.x,s.y,s.w,s.h⟩:=by
 unfold jW;have hf:l.find? (fun s=>s.cl == c&&s.num == n)=some s:=by
  cases hf:l.find? (fun s=>s.cl == c&&s.num == n) with
  | none=>
   have:=List.find?_eq_none.1 hf s hs;simp only[qw,Prod.mk.injEq] at hk;simp[hk.1,hk.2] at this
  | some t=>
   have h1:=List.mem_of_find?_eq_some hf;have h2:=List.find?_some hf;simp only[Bool.and_eq_true,beq_iff_eq] at h2;have h3:qw t=qw s:=(by rw[hk];simp[qw,h2]);have:=Zq hnd t h1 s hs h3;rw[this]
 rw[hf]
theorem Kx {x y:Int}{l:List Srf}{u:Srf}(h:∀ s∈l,qw s=qw u->zC s x y=zC u x y):nz x y (xr l u)=nz x y l:=by
 unfold xr;refine qr8 fun s hs=>?_
 split
 ·rename_i e;exact (h s hs e).symm
 ·rfl
theorem qr9 {x y:Int}{l:List Srf}{i t:Nat}{s:Srf}(hi:l[i]?=some s)(h:zC s x y=0):nz x y (vy l i t s)=nz x y l:=by
 have hlt:=(zzg hi).1;have he:=(zzg hi).2;have h2:l.take i++s::l.drop (i+1)=l:=(by rw[<-he,List.getElem_cons_drop,List.take_append_drop]);have h3:nz x y l=nz x y (l.take i++l.drop (i+1)):=by
  conv=>lhs;rw[<-h2]
  rw[vm,kS,QO h,vm];rfl
 rw[h3];unfold vy;rw[vm,kS,QO h,List.nil_append,<-vm,List.take_append_drop]
theorem op_pic {l:List Srf}(hnd:(l.map qw).Nodup){c:Int}{o:Opn}(hk:ZS l c o){x y:Int}(h:∀ R∈yh l c o,xt R x y=false)(b:Int):jP (zi l c o).1 b x y=jP l b x y:=by
 rcases hk with ⟨hk1,hk2⟩ | ⟨hk1,hk2⟩
 ·have e:(zi l c o).1=l++[⟨c,o.surf,o.x,o.y,0,0,[],0,0,0⟩]:=(by unfold zi;rw[if_pos hk1]);rw[e];refine xY ?_ b;rw[vm,QO (by unfold zC xE;simp),List.append_nil]
 ·obtain⟨s,hs,hc1,hc2⟩:=xC hk2;have hsm:=zzn hs;have hks:qw s=(c,o.surf):=(by simp[qw,hc1,hc2]);have uniq:∀ t∈l,qw t=qw s->t=s:=fun t ht e=>Zq hnd t ht s hsm e;have ha:=VB hnd hsm hks;have h1:¬o.kind=1:=(by omega);unfold yh at h;rw[ha] at h
  by_cases h2:o.kind=2
  ·have e:zi l c o=(yT l c o.surf,true):=(by unfold zi;rw[if_neg h1,hs];simp only;rw[if_pos h2]);rw[e] at h ⊢;obtain⟨d1,-⟩:=vC h;refine xY ?_ b;unfold yT;refine Zo fun t ht hp=>?_;have hkt:qw t=(c,o.surf):=ju.1 (by simpa using hp);rw[uniq t ht (hkt.trans hks.symm)];exact jT d1
  ·by_cases h3:o.kind=3
   ·have e:zi l c o=(xr l {s with w:=o.w,h:=o.h,px:=o.px},true):=(by unfold zi;rw[if_neg h1,hs];simp only;rw[if_neg h2,if_pos h3]);rw[e] at h ⊢;obtain⟨d1,d2⟩:=vC h;have hu:({s with w:=o.w,h:=o.h,px:=o.px}:Srf)∈xr l {s with w:=o.w,h:=o.h,px:=o.px}:=List.mem_map.2 ⟨s,hsm,if_pos rfl⟩;have hnd':((xr l {s with w:=o.w,h:=o.h,px:=o.px}).map qw).Nodup:=(by rw[jB];exact hnd);rw[VB hnd' hu hks] at d2;refine xY (Kx fun t ht hkt=>?_) b;rw[uniq t ht hkt,jT d1,jT d2]
   ·by_cases h4:o.kind=4
    ·have e:zi l c o=(xr l {s with x:=o.x,y:=o.y,dx:=0,dy:=0,left:=0},!(s.x == o.x&&s.y == o.y)):=(by unfold zi;rw[if_neg h1,hs];simp only;rw[if_neg h2,if_neg h3,if_pos h4]);rw[e] at h ⊢;simp only at h ⊢;refine xY (Kx fun t ht hkt=>?_) b;rw[uniq t ht hkt]
     by_cases hxy:s.x=o.x/\s.y=o.y
     ·unfold zC xE;simp only;rw[hxy.1,hxy.2]
     ·have hf:(!(s.x == o.x&&s.y == o.y))=true:=by
       simp only[Bool.not_eq_true',Bool.and_eq_false_imp,beq_iff_eq,beq_eq_false_iff_ne];exact fun e1 e2=>hxy ⟨e1,e2⟩
      rw[hf] at h;obtain⟨d1,d2⟩:=vC h;have hu:({s with x:=o.x,y:=o.y,dx:=0,dy:=0,left:=0}:Srf)∈xr l {s with x:=o.x,y:=o.y,dx:=0,dy:=0,left:=0}:=List.mem_map.2 ⟨s,hsm,if_pos rfl⟩;have hnd':((xr l {s with x:=o.x,y:=o.y,dx:=0,dy:=0,left:=0}).map qw).Nodup:=(by rw[jB];exact hnd);rw[VB hnd' hu hks] at d2;rw[jT d1,jT d2]
    ·by_cases h5:o.kind=5
     ·have e:zi l c o=(vy l (l.findIdx (isK c o.surf)) (l.length-1) s,!decide (l.findIdx (isK c o.surf)=l.length-1)):=(by unfold zi;rw[if_neg h1,hs];simp only;rw[if_neg h2,if_neg h3,if_neg h4,if_pos h5]);rw[e] at h ⊢;simp only at h ⊢
      by_cases hi:l.findIdx (isK c o.surf)=l.length-1
      ·have hlt:=(zzg hs).1;have hself:vy l (l.findIdx (isK c o.surf)) (l.length-1) s=l:=by
        unfold vy;rw[hi] at hs ⊢;have he:=(zzg hs).2;have hd0:l.drop (l.length-1+1)=[]:=List.drop_eq_nil_of_le (by omega);have h2:l.take (l.length-1)++s::l.drop (l.length-1+1)=l:=(by rw[<-he,List.getElem_cons_drop,List.take_append_drop]);rw[hd0] at h2 ⊢;rw[List.append_nil,List.take_of_length_le (by rw[List.length_take];omega),List.drop_eq_nil_of_le (by rw[List.length_take];omega)];exact h2
       rw[hself]
      ·rw[show (!decide (l.findIdx (isK c o.surf)=l.length-1))=true from by simp[hi]] at h;exact xY (qr9 hs (jT (vC h).1)) b
     ·by_cases h6:o.kind=6
      ·have e:zi l c o=(vy l (l.findIdx (isK c o.surf)) 0 s,!decide (l.findIdx (isK c o.surf)=0)):=(by unfold zi;rw[if_neg h1,hs];simp only;rw[if_neg h2,if_neg h3,if_neg h4,if_neg h5,if_pos h6]);rw[e] at h ⊢;simp only at h ⊢
       by_cases hi:l.findIdx (isK c o.surf)=0
       ·have hself:vy l (l.findIdx (isK c o.surf)) 0 s=l:=by
         unfold vy;rw[hi] at hs ⊢
         cases l with
         | nil=>simp at hs
         | cons t l=>simp at hs;subst hs;simp
        rw[hself]
       ·rw[show (!decide (l.findIdx (isK c o.surf)=0))=true from by simp[hi]] at h;exact xY (qr9 hs (jT (vC h).1)) b
      ·have e:zi l c o=(xr l {s with dx:=o.x,dy:=o.y,left:=o.w},false):=(by unfold zi;rw[if_neg h1,hs];simp only;rw[if_neg h2,if_neg h3,if_neg h4,if_neg h5,if_neg h6]);rw[e];refine xY (Kx fun t ht hkt=>?_) b;rw[uniq t ht hkt]
       rfl
def yW (f:Frs)(i:Nat):List (Int×Int):=match f.frame with
 | some g=>if g.buf=i then g.left else []
 | none=>[]
def jJ (f:Frs):Nat:=match f.frame with
 | some g=>g.buf
 | none=>f.front
def Qq (l:List Srf)(beh:Int)(W p:Nat):Int:=jP l beh ((p%W:Nat):Int) ((p/W:Nat):Int)
def RtP (l:List Srf)(beh:Int)(f:Frs)(i p:Nat):Prop:=(∀ v,((p:Int),v)∈yW f i->v=Qq l beh f.W p)/\((∀ v,((p:Int),v)∉yW f i)->(f.b i).px[p]?=some (Qq l beh f.W p))
structure PxI (l:List Srf)(beh:Int)(f:Frs):Prop where
 rt:∀ i,i<3->∀ p,p<f.W*f.H->(f.b i).st[p]?=some false->RtP l beh f i p
 nd:∀ g,f.frame=some g->(g.left.map Prod.fst).Nodup
 nw:f.due=false->∀ p,p<f.W*f.H->(f.b (jJ f)).st[p]?=some false
section
variable {l l':List Srf}{beh:Int}{f:Frs}{D:Nat}
theorem PxI.dam (h:PxI l beh f)(hB:FrB D f){rs:List Rc}(hch:∀ x y,(∀ R∈rs,xt R x y=false)->jP l' beh x y=jP l beh x y):PxI l' beh (zX f rs):=by
 have hs:=yF rs f;have hl:∀ i,yW (zX f rs) i=yW f i:=fun i=>by unfold yW;rw[hs.frame]
 have hn:jJ (zX f rs)=jJ f:=(by unfold jJ;rw[hs.frame,hs.front]);have key:∀ i,i<3->∀ p,p<f.W*f.H->((zX f rs).b i).st[p]?=some false->(f.b i).st[p]?=some false/\∀ R∈rs,xt R ((p%f.W:Nat):Int) ((p/f.W:Nat):Int)=false:=fun i hi p hp hst=>by
  rw[Vz rs f hB.W.1 i hi (hB.st i hi) p hp] at hst;simp only[Option.some.injEq,Bool.or_eq_false_iff] at hst;refine⟨?_,fun R hR=>?_⟩
  ·have:=hst.1;rw[List.getD_eq_getElem?_getD] at this;rw[List.getElem?_eq_getElem (by rw[hB.st i hi];exact hp)] at this ⊢;simpa using this
  ·have h2:=hst.2;rw[List.any_eq_false] at h2;simpa using h2 R hR
 refine⟨fun i hi p hp hst=>?_,fun g hg=>h.nd g (by rw[<-hs.frame];exact hg),fun hd p hp=>?_⟩
 ·rw[hs.W,hs.H] at hp;obtain⟨k1,k2⟩:=key i hi p hp hst;obtain⟨r1,r2⟩:=h.rt i hi p hp k1;have hp2:Qq l' beh f.W p=Qq l beh f.W p:=hch _ _ k2;unfold RtP;rw[hl,hs.W,hp2,hs.px];exact⟨r1,r2⟩
 ·rw[hs.W,hs.H] at hp;rw[YH rs f hB.W.1] at hd;simp only[Bool.or_eq_false_iff] at hd;have h0:=h.nw hd.1 p hp;rw[hn];have hi:jJ f<3:=by
   unfold jJ
   cases hf:f.frame with
   | none=>exact hB.fr
   | some g=>exact (hB.fm g hf).1
  rw[Vz rs f hB.W.1 _ hi (hB.st _ hi) p hp];have h2:(rs.any fun r=>xt r ((p%f.W:Nat):Int) ((p/f.W:Nat):Int))=false:=by
   rw[List.any_eq_false];intro R hR;have h3:=hd.2;rw[List.any_eq_false] at h3;have h4:=h3 R hR;unfold XJ at h4;simp only[Bool.not_eq_true] at h4;rw[List.any_eq_false] at h4;exact h4 p (List.mem_range.2 hp)
  rw[h2,List.getD_eq_getElem?_getD,h0]
  rfl
theorem PxI.due (h:PxI l beh f):PxI l beh {f with due:=true}:=⟨h.rt,h.nd,fun e=>by cases e⟩
theorem PxI.ask (h:PxI l beh f)(m:List (Int×Int)):PxI l beh {f with marks:=m}:=⟨h.rt,h.nd,h.nw⟩
theorem PxI.flip (h:PxI l beh f):PxI l beh (zd f).1:=by
 unfold zd
 cases hf:f.frame with
 | none=>exact h
 | some g=>
  simp only
  split
  ·rename_i hg;have hl:∀ i,yW f i=[]:=fun i=>by unfold yW;rw[hf];simp only;split<;>first | exact hg | rfl
   refine⟨fun i hi p hp hst=>?_,fun g' hg'=>(by cases hg'),fun hd p hp=>?_⟩
   ·obtain⟨r1,r2⟩:=h.rt i hi p hp hst;refine⟨fun v hv=>(by cases hv),fun _=>r2 (fun v=>by rw[hl];simp)⟩
   ·have:=h.nw hd p hp;unfold jJ at this;rw[hf] at this;exact this
  ·exact h
theorem PxI.forget (h:PxI l beh f)(c:Int):PxI l beh (ji f c):=by
 have hl:∀ i,yW (ji f c) i=yW f i:=fun i=>by
  unfold yW ji
  cases f.frame<;>rfl
 have hn:jJ (ji f c)=jJ f:=by
  unfold jJ ji
  cases f.frame<;>rfl
 refine⟨fun i hi p hp hst=>?_,fun g hg=>?_,fun hd p hp=>?_⟩
 ·obtain⟨r1,r2⟩:=h.rt i hi p hp hst;unfold RtP;rw[hl];exact⟨r1,r2⟩
 ·unfold ji at hg
  cases hf:f.frame with
  | none=>rw[hf] at hg;cases hg
  | some g0=>
   rw[hf] at hg;simp only[Option.map_some,Option.some.injEq] at hg;rw[<-hg];exact h.nd g0 hf
 ·rw[hn];exact h.nw hd p hp
theorem QY (st:List Bool)(W:Nat)(pic:Int->Int->Int):∀ (n p:Nat)(v:Int),((p:Int),v)∈zH st W pic n↔p<n/\st[p]?=some true/\v=pic ((p%W:Nat):Int) ((p/W:Nat):Int)
 | 0,p,v=>by simp[zH]
 | n+1,p,v=>by
  unfold zH;rw[List.mem_append,QY st W pic n p v]
  by_cases h:st[n]?=some true
  ·rw[if_pos h];simp only[List.mem_singleton,Prod.mk.injEq]
   constructor
   ·rintro (⟨a,b,c⟩ | ⟨a,b⟩)
    ·exact⟨by omega,b,c⟩
    ·have:p=n:=(by omega);subst this;exact⟨by omega,h,b⟩
   ·rintro⟨a,b,c⟩
    rcases Nat.lt_or_ge p n with q | q
    ·exact .inl ⟨q,b,c⟩
    ·have:p=n:=(by omega);subst this;exact .inr ⟨rfl,c⟩
  ·rw[if_neg h];simp only[List.not_mem_nil,or_false]
   constructor
   ·rintro⟨a,b,c⟩;exact⟨by omega,b,c⟩
   ·rintro⟨a,b,c⟩;refine⟨?_,b,c⟩
    rcases Nat.lt_or_ge p n with q | q
    ·exact q
    ·have:p=n:=(by omega);subst this;exact absurd b h
theorem YC (st:List Bool)(W:Nat)(pic:Int->Int->Int):∀ n,(∀ d∈zH st W pic n,0<=d.1/\d.1<(n:Int))/\((zH st W pic n).map Prod.fst).Nodup
 | 0=>⟨fun d hd=>by simp[zH] at hd,by simp[zH]⟩
 | n+1=>by
  obtain⟨h1,h2⟩:=YC st W pic n;unfold zH
  split
  ·refine⟨fun d hd=>?_,?_⟩
   ·rcases List.mem_append.1 hd with q | q
    ·have:=h1 d q;omega
    ·simp only[List.mem_singleton] at q;rw[q];simp only;omega
   ·rw[List.map_append,List.nodup_append];refine⟨h2,by simp,fun a ha b hb e=>?_⟩;obtain⟨d,hd,rfl⟩:=List.mem_map.1 ha;simp only[List.map_cons,List.map_nil,List.mem_singleton] at hb;have:=h1 d hd;omega
  ·refine⟨fun d hd=>?_,?_⟩
   ·rw[List.append_nil] at hd;have:=h1 d hd;omega
   ·rw[List.append_nil];exact h2
theorem Ky (f:Frs):∀ k j,za f k=some j->j<k
 | 0,j,h=>by simp[za] at h
 | k+1,j,h=>by
  unfold za at h
  split at h
  ·have:=Ky f k j h;omega
  ·split at h
   ·cases h;omega
   ·rename_i j' hj';have:=Ky f k j' hj'
    split at h
    ·cases h;omega
    ·cases h;omega
theorem PxI.begin (h:PxI l beh f)(hB:FrB D f)(t:Int):PxI l beh (zR f t (jP l beh)):=by
 unfold zR
 split
 ·exact h
 ·rename_i hc;have hn:f.frame=none:=by
   cases hf:f.frame with
   | none=>rfl
   | some g=>exact absurd (.inl (by simp[hf])) hc
  obtain⟨nb,hnb⟩:∃ nb,nb=(za f 3).getD 0:=⟨_,rfl⟩;rw[<-hnb];have hnb3:nb<3:=by
   rw[hnb]
   cases hk:za f 3 with
   | none=>simp
   | some j=>exact Ky f 3 j hk
  have hl0:∀ i,yW f i=[]:=fun i=>by unfold yW;rw[hn]
  refine⟨fun i hi p hp hst=>?_,fun g hg=>?_,fun _ p hp=>?_⟩
  ·simp only at hp hst;unfold RtP yW;simp only
   by_cases e:nb=i
   ·subst e;rw[if_pos rfl];simp only[if_true];refine⟨fun v hv=>((QY _ _ _ _ _ _).1 hv).2.2,fun hno=>?_⟩;have hst0:(f.b nb).st[p]?=some false:=by
     have hlen:p<(f.b nb).st.length:=by rw[hB.st nb hi];exact hp
     cases hb:(f.b nb).st[p]'hlen with
     | false=>rw[List.getElem?_eq_getElem hlen,hb]
     | true=>exact absurd ((QY _ _ _ _ _ _).2 ⟨hp,by rw[List.getElem?_eq_getElem hlen,hb],rfl⟩) (hno _)
    exact (h.rt nb hi p hp hst0).2 (fun v=>by rw[hl0];simp)
   ·rw[if_neg e];rw[if_neg (Ne.symm e)] at hst ⊢;exact⟨fun v hv=>(by cases hv),fun _=>(h.rt i hi p hp hst).2 (fun v=>by rw[hl0];simp)⟩
  ·simp only[Option.some.injEq] at hg;rw[<-hg];exact (YC _ _ _ _).2
  ·simp only at hp ⊢;unfold jJ;simp only[if_true];rw[List.getElem?_replicate,if_pos hp]
theorem Jq:∀ (ds:List (Int×Int))(px:List Int)(p:Nat),(∀ d∈ds,0<=d.1)->(ds.map Prod.fst).Nodup->p<px.length->(∀ v,((p:Int),v)∈ds->(xl px ds)[p]?=some v)/\((∀ v,((p:Int),v)∉ds)->(xl px ds)[p]?=px[p]?)
 | [],px,p,_,_,_=>⟨fun v hv=>by simp at hv,fun _=>rfl⟩
 | d::ds,px,p,h0,hn,hp=>by
  rw[List.map_cons,List.nodup_cons] at hn;have e:xl px (d::ds)=xl (px.set d.1.toNat d.2) ds:=rfl;rw[e];obtain⟨g1,g2⟩:=Jq ds (px.set d.1.toNat d.2) p (fun x hx=>h0 x (by simp[hx])) hn.2 (by rw[List.length_set];exact hp);have hd0:=h0 d (by simp);refine⟨fun v hv=>?_,fun hno=>?_⟩
  ·rcases List.mem_cons.1 hv with q | q
   ·have hno:∀ v',((p:Int),v')∉ds:=fun v' hv'=>hn.1 (List.mem_map.2 ⟨_,hv',by rw[<-q]⟩);rw[g2 hno,<-q];simp only[Int.toNat_natCast];rw[List.getElem?_set_self hp]
   ·exact g1 v q
  ·rw[g2 (fun v hv=>hno v (by simp[hv])),List.getElem?_set_ne (fun e2=>hno d.2 (by
    have:d=((p:Int),d.2):=(by rw[<-e2];cases d;simp only at hd0 ⊢;simp;omega);rw[<-this];simp))]
theorem PxI.paint (h:PxI l beh f)(hB:FrB D f)(b:Nat):PxI l beh (je f b):=by
 unfold je
 cases hf:f.frame with
 | none=>exact h
 | some g=>
  simp only;obtain⟨k,hk⟩:∃ k,k=min b g.left.length:=⟨_,rfl⟩;rw[<-hk];have hnd:=h.nd g hf;have hfm:=hB.fm g hf;have hsplit:g.left.take k++g.left.drop k=g.left:=List.take_append_drop k g.left;have hnt:((g.left.take k).map Prod.fst).Nodup/\((g.left.drop k).map Prod.fst).Nodup/\∀ d∈g.left.take k,∀ d'∈g.left.drop k,d.1≠d'.1:=by
   rw[<-hsplit,List.map_append,List.nodup_append] at hnd;exact⟨hnd.1,hnd.2.1,fun d hd d' hd'=>hnd.2.2 d.1 (List.mem_map.2 ⟨d,hd,rfl⟩) d'.1 (List.mem_map.2 ⟨d',hd',rfl⟩)⟩
  refine⟨fun i hi p hp hst=>?_,fun g' hg'=>?_,fun hd p hp=>?_⟩
  ·have hp':p<f.W*f.H:=hp;have hst':(f.b i).st[p]?=some false:=by
    simp only[zx] at hst
    split at hst<;>exact hst
   obtain⟨r1,r2⟩:=h.rt i hi p hp' hst';unfold yW at r1 r2;rw[hf] at r1 r2;simp only at r1 r2;unfold RtP yW zx;simp only
   by_cases e:g.buf=i
   ·subst e;rw[if_pos rfl] at r1 r2 ⊢;simp only[if_true];refine⟨fun v hv=>r1 v (List.mem_of_mem_drop hv),fun hno=>?_⟩;obtain⟨q1,q2⟩:=Jq (g.left.take k) (f.b g.buf).px p (fun d hd=>(hfm.2.2.2.1 d (List.mem_of_mem_take hd)).1) hnt.1 (by rw[hB.px g.buf hi];exact hp')
    by_cases hin:∃ v,((p:Int),v)∈g.left.take k
    ·obtain⟨v,hv⟩:=hin;rw[q1 v hv,r1 v (List.mem_of_mem_take hv)]
    ·have hno2:∀ v,((p:Int),v)∉g.left:=fun v hv=>by
      rw[<-hsplit] at hv
      rcases List.mem_append.1 hv with z | z
      ·exact hin ⟨v,z⟩
      ·exact hno v z
     rw[q2 (fun v hv=>hin ⟨v,hv⟩)];exact r2 hno2
   ·rw[if_neg e] at r1 r2 ⊢;rw[if_neg (Ne.symm e)];exact⟨r1,r2⟩
  ·simp only[zx,Option.some.injEq] at hg';rw[<-hg'];exact hnt.2.1
  ·have h0:=h.nw hd p hp;unfold jJ at h0;rw[hf] at h0;show ((zx f g k).b (jJ (zx f g k))).st[p]?=_;unfold jJ zx;simp only[if_true];exact h0
end
theorem op_px {K S D j:Nat}{st:List Srf×Frs}{op:Opn}{x:List Bool}{beh:Int}(h:vM K S D st)(hKS:K*S<=1000)(hj:j<K)(hD:D<=900000000)(hv:qP (hav st.1 j S) op=some x)(hP:PxI st.1 beh st.2):PxI (zU j st op).1 beh (zU j st op).2:=by
 obtain⟨h1,-⟩:=Z5 h hKS hj hD hv;unfold zU
 split
 ·exact hP.ask _
 ·rename_i h8;exact hP.dam h.fr (fun x y hc=>op_pic h.sc.nd (h1.fit h8).1 hc beh)
theorem qr7 {K S j:Nat}{beh:Int}(hKS:K*S<=1000)(hj:j<K):∀ (ops:List Opn)(D:Nat)(st:List Srf×Frs)(x:List Bool),vM K S D st->D+ops.length<=900000000->qR (hav st.1 j S) ops=some x->PxI st.1 beh st.2->PxI (ops.foldl (zU j) st).1 beh (ops.foldl (zU j) st).2
 | [],D,st,x,h,_,hv,hP=>hP
 | o::l,D,st,x,h,hD,hv,hP=>by
  have hv':(qP (hav st.1 j S) o).bind (fun y=>qR y l)=some x:=hv
  cases hs:qP (hav st.1 j S) o with
  | none=>rw[hs] at hv';cases hv'
  | some y=>
   rw[hs] at hv';have hv2:qR y l=some x:=hv';simp only[List.length_cons] at hD;obtain⟨h1,h2,h3,h4⟩:=Z5 h hKS hj (by omega) hs;rw[<-h3] at hv2;exact qr7 hKS hj l (D+1) (zU j st o) x h2 (by omega) hv2 (op_px h hKS hj (by omega) hs hP)
theorem qp4 {K S j:Nat}{beh:Int}(hKS:K*S<=1000)(hj:j<K):∀ (trs:List (List Opn))(D:Nat)(st:List Srf×Frs)(x:List Bool),vM K S D st->(∀ tr∈trs,tr.length<=20)->D+20*trs.length<=900000000->qR (hav st.1 j S) trs.flatten=some x->PxI st.1 beh st.2->PxI (jx j st trs).1 beh (jx j st trs).2
 | [],D,st,x,h,_,_,hv,hP=>hP
 | t::l,D,st,x,h,ht,hD,hv,hP=>by
  rw[List.flatten_cons,zF] at hv;simp only[List.length_cons] at hD
  cases hs:qR (hav st.1 j S) t with
  | none=>rw[hs] at hv;cases hv
  | some y=>
   rw[hs] at hv;have hv2:qR y l.flatten=some x:=hv;obtain⟨h1,h2,h3,h4⟩:=qp5 hKS hj h (ht t (by simp)) (by omega) hs;rw[<-h3] at hv2;have hlt:=ht t (by simp);have hP2:PxI (yD j st t).1 beh (yD j st t).2:=qr7 hKS hj t D (st.1,{st.2 with due:=true}) y ⟨h.sc,h.fr.due true⟩ (by omega) hs hP.due;exact qp4 hKS hj l (D+20) (yD j st t) x h2 (fun tr htr=>ht tr (by simp[htr])) (by omega) hv2 hP2
section
variable {D:Nat}{s:qY}
theorem VK (h:jg D s)(hD:D+640<=900000000)(hP:PxI (tk3 s).l s.c.behind (tk3 s).f):∀ j,j<=s.ks.length->PxI (qJ s.c.quantum s.ks ((tk3 s).l,(tk3 s).f) j).1 s.c.behind (qJ s.c.quantum s.ks ((tk3 s).l,(tk3 s).f) j).2
 | 0,_=>hP
 | j+1,hj=>by
  have hc:=Qy h.cfg;have hKS:=hc.ks;have hlen:=h.len;have hK:s.c.clients.toNat<=4:=(by have:=hc.clients;omega);have ih:=VK h hD hP j (by omega);have hI:=jL h hD j (by omega)
  cases hk:s.ks[j]? with
  | none=>rw[List.getElem?_eq_getElem (by omega)] at hk;cases hk
  | some x=>
   cases x with
   | none=>
    have e:qJ s.c.quantum s.ks ((tk3 s).l,(tk3 s).f) (j+1)=qJ s.c.quantum s.ks ((tk3 s).l,(tk3 s).f) j:=(by simp[qJ,hk]);rw[e];exact ih
   | some k=>
    have hcl:=h.cl j k hk;have e:qJ s.c.quantum s.ks ((tk3 s).l,(tk3 s).f) (j+1)=jx j (qJ s.c.quantum s.ks ((tk3 s).l,(tk3 s).f) j) (qB k s.c.quantum).1:=(by simp[qJ,hk]);have hv:=hI.old j k (zzl _) hk;obtain⟨n,hn⟩:∃ n,n=(zP (k.cr+s.c.quantum) k.q).1:=⟨_,rfl⟩;have e1:(qB k s.c.quantum).1=k.q.take n:=(by rw[hn];rfl);have hsplit:k.q.flatten=(k.q.take n).flatten++(k.q.drop n).flatten:=(by rw[<-List.flatten_append,List.take_append_drop]);rw[hsplit,zF] at hv
    cases hy:qR (hav (qJ s.c.quantum s.ks ((tk3 s).l,(tk3 s).f) j).1 j s.c.surfaces.toNat) (k.q.take n).flatten with
    | none=>rw[hy] at hv;cases hv
    | some y=>
     have hql:k.q.length<=8:=(by have:=hcl.ql;have:=hc.queue;omega);have htl:(k.q.take n).length<=8:=(by rw[List.length_take];omega);rw[e,e1];exact qp4 (K:=s.c.clients.toNat) (S:=s.c.surfaces.toNat) (by omega) (by omega) (k.q.take n) (D+160*j) _ y hI.st (fun tr htr=>(hcl.tr tr (List.mem_of_mem_take htr)).1.2) (by omega) hy ih
theorem qz7 (h:jg D s)(hD:D+640<=900000000)(hP:PxI s.l s.c.behind s.f)(b:Nat):PxI (vZ s b).l s.c.behind (vZ s b).f:=by
 have h3:PxI (tk3 s).l s.c.behind (tk3 s).f:=hP.flip.dam h.st.fr.flip (fun x y hc=>Ze hc s.c.behind);have h4:=VK h hD h3 s.ks.length (zzl _);have hI:=jL h hD s.ks.length (zzl _);have h5:PxI (tk5 s).l s.c.behind (tk5 s).f:=PxI.begin h4 hI.st.fr (s.t+1);exact PxI.paint h5 (hI.st.fr.begin (s.t+1) _) b
theorem zc8 (h:jg D s)(hP:PxI s.l s.c.behind s.f)(k:Nat):PxI (yi s k).l s.c.behind (yi s k).f:=
 (hP.dam (l':=s.l.filter fun x=>!(x.cl == (k:Int))) h.st.fr (fun x y hc=>qj9 hc s.c.behind)).forget _
theorem new_px (c:Cfg):PxI (xZ c).l c.behind (xZ c).f:=by
 refine⟨fun i hi p hp hst=>?_,fun g hg=>(by cases hg),fun _ p hp=>?_⟩
 ·refine⟨fun v hv=>(by cases hv),fun _=>?_⟩;show (List.replicate (c.w.toNat*c.h.toNat) c.behind)[p]?=some c.behind;rw[List.getElem?_replicate];exact if_pos hp
 ·show (List.replicate (c.w.toNat*c.h.toNat) false)[p]?=some false;rw[List.getElem?_replicate];exact if_pos hp
end
def VC (s:Srf)(W i:Nat):Bool:=xE s ((i%W:Nat):Int) ((i/W:Nat):Int)
def qV (s:Srf)(W k:Nat)(st:List Bool):List Bool:=st.mapIdx fun i b=>b||(decide (i<k)&&VC s W i)
def Q7 (s:Srf)(W k:Nat):Bool:=(List.range k).any fun i=>VC s W i
structure Dc where
 c:Cfg
 ks:List (Option Cli)
 l:List Srf
 p:Nat->List Int
 st:Nat->List Bool
 fn:Nat->Int
 front:Nat
 pnt:Bool
 tgt:Nat
 left:Int
 fp:List Int
 marks:List (Int×Int)
 wait:List (Int×Int)
 frames:Int
 ch:Bool
 t:Int
def Dc.W (d:Dc):Nat:=d.c.w.toNat
def Dc.N (d:Dc):Nat:=d.c.w.toNat*d.c.h.toNat
def kC (d:Dc)(cov:Int->Int->Bool):Dc:={d with st:=fun b=>(d.st b).mapIdx fun i x=>x||(decide (i<d.N)&&cov ((i%d.W:Nat):Int) ((i/d.W:Nat):Int)),ch:=d.ch||(List.range d.N).any fun i=>cov ((i%d.W:Nat):Int) ((i/d.W:Nat):Int)}
def zw (d:Dc)(s:Srf):Dc:={d with st:=fun b=>qV s d.W d.N (d.st b),ch:=d.ch||Q7 s d.W d.N}
theorem jo (d:Dc)(s:Srf):zw d s=kC d (xE s):=rfl
theorem vA (d:Dc)(a b:Int->Int->Bool)(m:List Srf):kC {kC d a with l:=m} b={kC d (fun x y=>a x y||b x y) with l:=m}:=by
 unfold kC;simp only[Dc.N,Dc.W,Dc.mk.injEq,true_and,and_true,List.mapIdx_mapIdx]
 constructor
 ·funext q
  congr 1
  funext i x
  simp only[Function.comp];generalize a _ _=a1;generalize b _ _=b1
  by_cases hz:i<d.c.w.toNat*d.c.h.toNat
  ·have hz':i<(kC d (fun x y=>a x y||b x y)).c.w.toNat*d.c.h.toNat:=hz
   cases x<;>cases a1<;>cases b1<;>simp[hz]
  ·cases x<;>cases a1<;>cases b1<;>simp[hz]
 ·rw[Bool.or_assoc]
  congr 1
  rw[Bool.eq_iff_iff];simp only[Bool.or_eq_true,List.any_eq_true]
  constructor
  ·rintro (⟨i,h1,h2⟩ | ⟨i,h1,h2⟩)
   ·exact⟨i,h1,.inl h2⟩
   ·exact⟨i,h1,.inr h2⟩
  ·rintro⟨i,h1,h2 | h2⟩
   ·exact .inl ⟨i,h1,h2⟩
   ·exact .inr ⟨i,h1,h2⟩
def zu (d:Dc)(i:Nat)(x y:Int):Dc:=match d.l[i]? with
 | none=>d
 | some s=>if s.x=x/\s.y=y then d else zw {zw d s with l:=d.l.set i {s with x:=x,y:=y}} {s with x:=x,y:=y}
def qO (d:Dc)(c:Int)(o:Opn):Dc:=
 if o.kind=8 then {d with wait:=d.wait++[(c,o.mark)]}
 else if o.kind=1 then {d with l:=d.l++[⟨c,o.surf,o.x,o.y,0,0,[],0,0,0⟩]}
 else match d.l[d.l.findIdx (isK c o.surf)]? with
  | none=>d
  | some s=>
   if o.kind=2 then {zw d s with l:=d.l.take (d.l.findIdx (isK c o.surf))++d.l.drop (d.l.findIdx (isK c o.surf)+1)}
   else if o.kind=3 then zw {zw d s with l:=d.l.set (d.l.findIdx (isK c o.surf)) {s with w:=o.w,h:=o.h,px:=o.px}} {s with w:=o.w,h:=o.h,px:=o.px}
   else if o.kind=4 then zu {d with l:=d.l.set (d.l.findIdx (isK c o.surf)) {s with left:=0}} (d.l.findIdx (isK c o.surf)) o.x o.y
   else if o.kind=5 then if d.l.findIdx (isK c o.surf)+1<d.l.length then {zw d s with l:=(d.l.take (d.l.findIdx (isK c o.surf))++d.l.drop (d.l.findIdx (isK c o.surf)+1))++[s]} else d
   else if o.kind=6 then if 0<d.l.findIdx (isK c o.surf) then {zw d s with l:=s::(d.l.take (d.l.findIdx (isK c o.surf))++d.l.drop (d.l.findIdx (isK c o.surf)+1))} else d
   else {d with l:=d.l.set (d.l.findIdx (isK c o.surf)) {s with dx:=o.x,dy:=o.y,left:=o.w}}
def nrm (s:Srf):Srf:=if s.left=0 then {s with dx:=0,dy:=0} else s
theorem kg {s t:Srf}(h:nrm s=nrm t):s.cl=t.cl/\s.num=t.num/\s.x=t.x/\s.y=t.y/\s.w=t.w/\s.h=t.h/\s.px=t.px/\s.left=t.left/\(s.left≠0->s.dx=t.dx/\s.dy=t.dy):=by
 have e:∀ q:Srf,(nrm q).cl=q.cl/\(nrm q).num=q.num/\(nrm q).x=q.x/\(nrm q).y=q.y/\(nrm q).w=q.w/\(nrm q).h=q.h/\(nrm q).px=q.px/\(nrm q).left=q.left:=fun q=>by unfold nrm;split<;>exact⟨rfl,rfl,rfl,rfl,rfl,rfl,rfl,rfl⟩
 obtain⟨a1,a2,a3,a4,a5,a6,a7,a8⟩:=e s;obtain⟨b1,b2,b3,b4,b5,b6,b7,b8⟩:=e t;rw[h] at a1 a2 a3 a4 a5 a6 a7 a8;have e8:s.left=t.left:=a8.symm.trans b8;refine⟨a1.symm.trans b1,a2.symm.trans b2,a3.symm.trans b3,a4.symm.trans b4,a5.symm.trans b5,a6.symm.trans b6,a7.symm.trans b7,e8,fun hl=>?_⟩;unfold nrm at h;rw[if_neg hl,if_neg (by rw[<-e8];exact hl)] at h;rw[h];exact⟨rfl,rfl⟩
theorem Zp {s t:Srf}(h1:s.cl=t.cl)(h2:s.num=t.num)(h3:s.x=t.x)(h4:s.y=t.y)(h5:s.w=t.w)(h6:s.h=t.h)(h7:s.px=t.px)(h8:s.left=t.left)(h9:s.left≠0->s.dx=t.dx/\s.dy=t.dy):nrm s=nrm t:=by
 cases s;cases t
 simp only at h1 h2 h3 h4 h5 h6 h7 h8 h9;subst h1;subst h2;subst h3;subst h4;subst h5;subst h6;subst h7;subst h8;unfold nrm;simp only
 split
 ·rfl
 ·rename_i h;obtain⟨a,b⟩:=h9 h;rw[a,b]
theorem za9 {c n:Int}{s t:Srf}(h:nrm s=nrm t):isK c n s=isK c n t:=by
 obtain⟨h1,h2,-⟩:=kg h;unfold isK;rw[h1,h2]
theorem yv {s t:Srf}(h:nrm s=nrm t):xE s=xE t:=by
 obtain⟨-,-,h3,h4,h5,h6,-⟩:=kg h
 funext x y
 unfold xE;rw[h3,h4,h5,h6]
theorem Yk {c n:Int}:∀ {l m:List Srf},l.map nrm=m.map nrm->l.findIdx (isK c n)=m.findIdx (isK c n)
 | [],[],_=>rfl
 | [],b::m,h=>by simp at h
 | a::l,[],h=>by simp at h
 | a::l,b::m,h=>by
  simp only[List.map_cons,List.cons.injEq] at h;rw[List.findIdx_cons,List.findIdx_cons,za9 h.1,Yk h.2]
theorem jD (s:Srf)(x y:Int):xt (Qg s) x y=xE s x y:=by
 unfold xt Qg xE;rw[Bool.eq_iff_iff];simp only[Bool.and_eq_true,decide_eq_true_eq];omega
theorem YN (x y:Int):xt zrc x y=false:=by
 unfold xt zrc;rw[Bool.eq_false_iff];simp only[ne_eq,Bool.and_eq_true,decide_eq_true_eq];omega
structure FR (f:Frs)(d:Dc):Prop where
 W:f.W=d.W
 H:f.H=d.c.h.toNat
 st:∀ i,i<3->d.st i=(f.b i).st
 front:d.front=f.front
 due:d.ch=f.due
 wait:d.wait=f.marks
 pnt:d.pnt=f.frame.isSome
 frm:∀ g,f.frame=some g->d.tgt=g.buf/\d.left=(g.left.length:Int)/\d.marks=g.marks/\d.fp.length=d.N/\∀ p,p<d.N->(∀ v,((p:Int),v)∈g.left->d.fp[p]?=some v)/\((∀ v,((p:Int),v)∉g.left)->(f.b g.buf).px[p]?=d.fp[p]?)
 nof:f.frame=none->d.marks=[]
 ord:∀ i j,i<3->j<3->((f.b i).begun<(f.b j).begun↔d.fn i<d.fn j)
 top:∀ i,i<3->d.fn i<=d.frames
 shown:(f.b f.front).px=d.p f.front
section
variable {f:Frs}{d:Dc}{D:Nat}
theorem FR.dam (h:FR f d)(hB:FrB D f)(rs:List Rc)(cov:Int->Int->Bool)(hc:∀ x y,(rs.any fun r=>xt r x y)=cov x y):FR (zX f rs) (kC d cov):=by
 have hs:=yF rs f;have hN:d.N=f.W*f.H:=(by unfold Dc.N;rw[h.W,h.H];rfl);have hW:d.W=f.W:=h.W.symm;refine⟨hs.W.trans h.W,hs.H.trans h.H,fun i hi=>?_,h.front.trans hs.front.symm,?_,h.wait.trans hs.marks.symm,by show d.pnt=_;rw[h.pnt,hs.frame],fun g hg=>?_,fun hg=>h.nof (by rw[<-hs.frame];exact hg),fun i j hi hj=>by rw[hs.begun,hs.begun];exact h.ord i j hi hj,h.top,by rw[hs.front,hs.px];exact h.shown⟩
 ·apply List.ext_getElem?;intro p;show ((d.st i).mapIdx _)[p]?=_;rw[List.getElem?_mapIdx,h.st i hi]
  by_cases hp:p<f.W*f.H
  ·rw[Vz rs f hB.W.1 i hi (hB.st i hi) p hp,hc,List.getElem?_eq_getElem (by rw[hB.st i hi];exact hp),List.getD_eq_getElem?_getD,List.getElem?_eq_getElem (by rw[hB.st i hi];exact hp),hN,hW];simp[hp]
  ·rw[List.getElem?_eq_none (by rw[hB.st i hi];omega),List.getElem?_eq_none (by rw[hs.len,hB.st i hi];omega)]
   rfl
 ·show (d.ch||_)=_;rw[YH rs f hB.W.1,h.due,hN,hW]
  congr 1
  rw[Bool.eq_iff_iff];simp only[List.any_eq_true,XJ]
  constructor
  ·rintro⟨p,hp,hx⟩;rw[<-hc] at hx;obtain⟨r,hr,hx⟩:=List.any_eq_true.1 hx;exact⟨r,hr,p,hp,hx⟩
  ·rintro⟨r,hr,p,hp,hx⟩;exact⟨p,hp,by rw[<-hc];exact List.any_eq_true.2 ⟨r,hr,hx⟩⟩
 ·rw[hs.frame] at hg;rw[hs.px];exact h.frm g hg
theorem FR.ls (h:FR f d)(m:List Srf):FR f {d with l:=m}:=⟨h.W,h.H,h.st,h.front,h.due,h.wait,h.pnt,h.frm,h.nof,h.ord,h.top,h.shown⟩
end
theorem qh1 {l m:List Srf}{c n:Int}(hn:l.map nrm=m.map nrm)(hd:(l.map qw).Nodup)(hm:(c,n)∈l.map qw):∃ A s B A' s' B',l=A++s::B/\m=A'++s'::B'/\A.map nrm=A'.map nrm/\nrm s=nrm s'/\B.map nrm=B'.map nrm/\A'.length=A.length/\l.findIdx (isK c n)=A.length/\m.findIdx (isK c n)=A.length/\qw s=(c,n)/\(∀ x∈A,qw x≠(c,n))/\(∀ x∈B,qw x≠(c,n)):=by
 obtain⟨s,hs,h1,h2⟩:=xC hm;have hf:=Yk (c:=c) (n:=n) hn;obtain⟨i,hi⟩:∃ i,i=l.findIdx (isK c n):=⟨_,rfl⟩;rw[<-hi] at hs;obtain⟨hlt,he⟩:=zzg hs;have hlen:l.length=m.length:=(by have:=congrArg List.length hn;simpa using this);have hlt':i<m.length:=(by omega);have e1:l=l.take i++s::l.drop (i+1):=(by rw[<-he,List.getElem_cons_drop,List.take_append_drop]);have e2:m=m.take i++m[i]::m.drop (i+1):=(by rw[List.getElem_cons_drop,List.take_append_drop]);have hk:qw s=(c,n):=(by unfold qw;rw[h1,h2]);have hA:(l.take i).length=i:=(by rw[List.length_take];omega);refine⟨l.take i,s,l.drop (i+1),m.take i,m[i],m.drop (i+1),e1,e2,?_,?_,?_,?_,?_,?_,hk,fun x hx e=>?_,fun x hx e=>?_⟩
 ·rw[List.map_take,List.map_take,hn]
 ·have:=congrArg (fun q=>q[i]?) hn;simp only[List.getElem?_map,hs,List.getElem?_eq_getElem hlt',Option.map_some,Option.some.injEq] at this;exact this
 ·rw[List.map_drop,List.map_drop,hn]
 ·rw[List.length_take,List.length_take];omega
 ·rw[hA,hi]
 ·rw[hA,<-hf,hi]
 ·rw[e1] at hd;rw[List.map_append,List.map_cons,List.nodup_append] at hd;exact hd.2.2 _ (List.mem_map.2 ⟨x,hx,rfl⟩) _ (by simp) (e.trans hk.symm)
 ·rw[e1] at hd;rw[List.map_append,List.map_cons,List.nodup_append,List.nodup_cons] at hd;exact hd.2.1.1 (List.mem_map.2 ⟨x,hx,e.trans hk.symm⟩)
theorem qq9 {A B:List Srf}{s u:Srf}{c n:Int}(hs:qw s=(c,n))(hu:qw u=(c,n))(hA:∀ x∈A,qw x≠(c,n))(hB:∀ x∈B,qw x≠(c,n)):xr (A++s::B) u=A++u::B:=by
 have key:∀ X:List Srf,(∀ x∈X,qw x≠(c,n))->X.map (fun s=>if qw s=qw u then u else s)=X:=fun X hX=>by
  conv=>rhs;rw[<-List.map_id X]
  refine List.map_congr_left fun x hx=>?_;rw[if_neg (by rw[hu];exact hX x hx)]
  rfl
 unfold xr;rw[List.map_append,List.map_cons,key A hA,key B hB,if_pos (by rw[hs,hu])]
theorem qv4 {A B:List Srf}{s:Srf}{c n:Int}(hs:qw s=(c,n))(hA:∀ x∈A,qw x≠(c,n))(hB:∀ x∈B,qw x≠(c,n)):yT (A++s::B) c n=A++B:=by
 have key:∀ X:List Srf,(∀ x∈X,qw x≠(c,n))->X.filter (fun s=>!isK c n s)=X:=fun X hX=>by
  rw[List.filter_eq_self];intro x hx;have:isK c n x=false:=by
   cases e:isK c n x with
   | false=>rfl
   | true=>exact absurd (ju.1 e) (hX x hx)
  rw[this];rfl
 unfold yT;rw[List.filter_append,List.filter_cons,key A hA,key B hB,if_neg (by rw[ju.2 hs];simp)]
theorem Q3 {A B:List Srf}{s:Srf}{c n:Int}(hs:qw s=(c,n))(hA:∀ x∈A,qw x≠(c,n)):jW (A++s::B) c n=Qg s:=by
 have hf:(A++s::B).find? (fun s=>s.cl == c&&s.num == n)=some s:=by
  rw[List.find?_append];have h1:A.find? (fun s=>s.cl == c&&s.num == n)=none:=by
   rw[List.find?_eq_none];intro x hx e;exact hA x hx (ju.1 e)
  have h2:(s::B).find? (fun s=>s.cl == c&&s.num == n)=some s:=List.find?_cons_of_pos (ju.2 hs);rw[h1,h2]
  rfl
 unfold jW;rw[hf]
 rfl
theorem zd6 {l:List Srf}{c n:Int}(h:∀ x∈l,qw x≠(c,n)):jW l c n=zrc:=by
 have hf:l.find? (fun s=>s.cl == c&&s.num == n)=none:=by
  rw[List.find?_eq_none];intro x hx e;exact h x hx (ju.1 e)
 unfold jW;rw[hf]
theorem X6 (o:Opn):(qy o).kind=o.kind/\(qy o).surf=o.surf/\(qy o).x=o.x/\(qy o).y=o.y/\(qy o).w=o.w/\(qy o).h=o.h/\(qy o).mark=o.mark/\(o.kind=3->(qy o).px=o.px):=by
 unfold qy
 split
 ·exact⟨rfl,rfl,rfl,rfl,rfl,rfl,rfl,fun _=>rfl⟩
 ·rename_i h;exact⟨rfl,rfl,rfl,rfl,rfl,rfl,rfl,fun e=>absurd e h⟩
theorem vD (ch:Bool)(a b:Rc)(x y:Int):((vd ch a b).any fun r=>xt r x y)=(ch&&(xt a x y||xt b x y)):=by
 unfold vd
 cases ch with
 | false=>simp
 | true=>
  rw[if_neg (by simp)]
  split
  ·rename_i h;have e:b=a:=by
    unfold Xg at h;simp only[Bool.and_eq_true,beq_iff_eq] at h
    cases a;cases b
    simp only at h;obtain⟨⟨⟨h1,h2⟩,h3⟩,h4⟩:=h;subst h1;subst h2;subst h3;subst h4
    rfl
   rw[e];simp
  ·simp
theorem Vo {α:Type}(A B:List α)(s:α):(A++s::B)[A.length]?=some s:=by simp
theorem Vn {α:Type}(A B:List α)(s u:α):(A++s::B).set A.length u=A++u::B:=by simp
theorem Yp {α:Type}(A B:List α)(s:α):(A++s::B).take A.length++(A++s::B).drop (A.length+1)=A++B:=by
 rw[List.take_left,List.drop_append,Nat.add_sub_cancel_left,List.drop_of_length_le (by omega)]
 rfl
theorem qe2 (A B:List Srf)(s u:Srf):vy (A++s::B) A.length ((A++s::B).length-1) u=A++B++[u]/\vy (A++s::B) A.length 0 u=u::(A++B):=by
 unfold vy;rw[Yp]
 constructor
 ·rw[List.take_of_length_le (by simp),List.drop_of_length_le (by simp)]
 ·simp
theorem qu6 {f:Frs}{d:Dc}{D:Nat}{l:List Srf}(hl:l.map nrm=d.l.map nrm)(hF:FR f d)(hB:FrB D f)(hd:(l.map qw).Nodup)(c:Nat)(o:Opn)(hk:o.kind≠8->ZS l c o) :
 (zU c (l,f) (qy o)).1.map nrm=(qO d c o).l.map nrm/\FR (zU c (l,f) (qy o)).2 (qO d c o)/\(qO d c o).c=d.c/\(qO d c o).ks=d.ks/\(qO d c o).t=d.t:=by
 obtain⟨o',ho'⟩:∃ o',o'=qy o:=⟨_,rfl⟩;obtain⟨f1,f2,f3,f4,f5,f6,f7,f8⟩:=X6 o;rw[<-ho'] at f1 f2 f3 f4 f5 f6 f7 f8 ⊢
 by_cases h8:o.kind=8
 ·unfold zU qO;rw[if_pos (by rw[f1];exact h8),if_pos h8,f7];refine⟨hl,⟨hF.W,hF.H,hF.st,hF.front,hF.due,?_,hF.pnt,hF.frm,hF.nof,hF.ord,hF.top,hF.shown⟩,rfl,rfl,rfl⟩;show d.wait++_=f.marks++_;rw[hF.wait]
 ·have hkk:=hk h8;unfold zU;rw[if_neg (by rw[f1];exact h8)]
  by_cases h1:o.kind=1
  ·unfold yh zi qO;rw[if_neg h8,if_pos h1,if_pos (by rw[f1];exact h1),f2,f3,f4];refine⟨?_,hF.ls _,rfl,rfl,rfl⟩;simp only[List.map_append,hl]
  ·have hm:((c:Int),o.surf)∈l.map qw:=by
    rcases hkk with h | h
    ·exact absurd h.1 h1
    ·exact h.2
   have hr:2<=o.kind/\o.kind<=7:=by
    rcases hkk with h | h
    ·exact absurd h.1 h1
    ·exact h.1
   obtain⟨A,s,B,A',s',B',e1,e2,n1,n2,n3,n4,i1,i2,ks,kA,kB⟩:=qh1 (c:=(c:Int)) (n:=o.surf) hl hd hm;have hcs:=yv n2;obtain⟨q1,q2,q3,q4,q5,q6,q7,q8,q9⟩:=kg n2;have cov0:jW l c o'.surf=Qg s:=(by rw[e1,f2];exact Q3 ks kA);have g1:l[l.findIdx (isK c o'.surf)]?=some s:=(by rw[f2,i1,e1];exact Vo A B s);have g2:d.l[d.l.findIdx (isK c o.surf)]?=some s':=(by rw[i2,e2,<-n4];exact Vo A' B' s');have i1':l.findIdx (isK c o'.surf)=A.length:=(by rw[f2];exact i1);have hless:d.l.take (d.l.findIdx (isK c o.surf))++d.l.drop (d.l.findIdx (isK c o.surf)+1)=A'++B':=(by rw[i2,e2,<-n4];exact Yp A' B' s');have hset:∀ u,d.l.set (d.l.findIdx (isK c o.surf)) u=A'++u::B':=fun u=>by rw[i2,e2,<-n4];exact Vn A' B' s' u
   have hput:∀ u:Srf,qw u=((c:Int),o.surf)->xr l u=A++u::B:=fun u hu=>by rw[e1];exact qq9 ks hu kA kB
   have covU:∀ u:Srf,qw u=((c:Int),o.surf)->jW (A++u::B) c o'.surf=Qg u:=fun u hu=>by rw[f2];exact Q3 hu kA
   have hmap:∀ u u':Srf,nrm u=nrm u'->(A++u::B).map nrm=(A'++u'::B').map nrm:=fun u u' hu=>by simp only[List.map_append,List.map_cons,n1,n3,hu]
   rcases (show o.kind=2\/o.kind=3\/o.kind=4\/o.kind=5\/o.kind=6\/o.kind=7 by omega) with k | k | k | k | k | k
   ·
    have ek:zi l c o'=(A++B,true):=by
     unfold zi;rw[if_neg (by omega),g1];simp only;rw[if_pos (by omega),f2,e1,qv4 ks kA kB]
    have ed:qO d c o={zw d s' with l:=A'++B'}:=by
     unfold qO;rw[if_neg h8,if_neg h1,g2];simp only;rw[if_pos k,hless]
    rw[ed];unfold yh;rw[ek,cov0];refine⟨by simp only[List.map_append,n1,n3],?_,rfl,rfl,rfl⟩;have:jW (A++B) c o'.surf=zrc:=by
     rw[f2];refine zd6 fun x hx=>?_
     rcases List.mem_append.1 hx with h | h
     ·exact kA x h
     ·exact kB x h
    rw[this];refine (hF.dam hB _ (xE s') fun x y=>?_).ls _;rw[vD,jD,YN,hcs];simp
   ·
    have ek:zi l c o'=(A++{s with w:=o.w,h:=o.h,px:=o.px} :: B,true):=by
     unfold zi;rw[if_neg (by omega),g1];simp only;rw[if_neg (by omega),if_pos (by omega),f5,f6,f8 k,hput {s with w:=o.w,h:=o.h,px:=o.px} ks]
    have ed:qO d c o={kC d (fun x y=>xE s' x y||xE {s' with w:=o.w,h:=o.h,px:=o.px} x y) with l:=A'++{s' with w:=o.w,h:=o.h,px:=o.px} :: B'}:=by
     unfold qO;rw[if_neg h8,if_neg h1,g2];simp only;rw[if_neg (by omega),if_pos k,hset,jo,jo,vA]
    rw[ed];unfold yh;rw[ek,cov0];have hn:nrm {s with w:=o.w,h:=o.h,px:=o.px}=nrm {s' with w:=o.w,h:=o.h,px:=o.px}:=Zp q1 q2 q3 q4 rfl rfl rfl q8 q9;refine⟨hmap _ _ hn,?_,rfl,rfl,rfl⟩;simp only;rw[covU {s with w:=o.w,h:=o.h,px:=o.px} ks];refine (hF.dam hB _ _ fun x y=>?_).ls _;rw[vD,jD,jD,hcs,yv hn];simp
   ·
    have ek:zi l c o'=(A++{s with x:=o.x,y:=o.y,dx:=0,dy:=0,left:=0} :: B,!(s.x == o.x&&s.y == o.y)):=by
     unfold zi;rw[if_neg (by omega),g1];simp only;rw[if_neg (by omega),if_neg (by omega),if_pos (by omega),f3,f4,hput {s with x:=o.x,y:=o.y,dx:=0,dy:=0,left:=0} ks]
    have ed0:qO d c o=zu {d with l:=A'++{s' with left:=0} :: B'} A'.length o.x o.y:=by
     unfold qO;rw[if_neg h8,if_neg h1,g2];simp only;rw[if_neg (by omega),if_neg (by omega),if_pos k,hset,i2,<-n4]
    have hn:nrm {s with x:=o.x,y:=o.y,dx:=0,dy:=0,left:=0}=nrm {s' with left:=0,x:=o.x,y:=o.y}:=Zp q1 q2 rfl rfl q5 q6 q7 rfl (fun h=>absurd rfl h);unfold yh;rw[ek,cov0];simp only;rw[covU {s with x:=o.x,y:=o.y,dx:=0,dy:=0,left:=0} ks]
    by_cases hs:s'.x=o.x/\s'.y=o.y
    ·have ed:qO d c o={d with l:=A'++{s' with left:=0} :: B'}:=by
      rw[ed0];unfold zu;rw[Vo];simp only;rw[if_pos hs]
     rw[ed];have hb:(!(s.x == o.x&&s.y == o.y))=false:=(by rw[q3,q4,hs.1,hs.2];simp);refine⟨hmap _ _ (Zp q1 q2 hs.1.symm hs.2.symm q5 q6 q7 rfl (fun h=>absurd rfl h)),?_,rfl,rfl,rfl⟩;rw[hb];exact hF.ls _
    ·have ed:qO d c o={kC d (fun x y=>xE {s' with left:=0} x y||xE {s' with left:=0,x:=o.x,y:=o.y} x y) with l:=A'++{s' with left:=0,x:=o.x,y:=o.y} :: B'}:=by
      rw[ed0];unfold zu;rw[Vo];simp only;rw[if_neg hs,Vn,jo,jo,vA]
      rfl
     rw[ed];have hb:(!(s.x == o.x&&s.y == o.y))=true:=by
      rw[q3,q4];simp only[Bool.not_eq_true',Bool.and_eq_false_iff,beq_eq_false_iff_ne]
      by_cases e:s'.x=o.x
      ·exact .inr (fun e2=>hs ⟨e,e2⟩)
      ·exact .inl e
     refine⟨hmap _ _ hn,?_,rfl,rfl,rfl⟩;rw[hb];refine (hF.dam hB _ _ fun x y=>?_).ls _;rw[vD,jD,jD,hcs,yv hn];simp only[Bool.true_and]
     rfl
   ·
    have hlen:l.length=A.length+1+B.length:=(by rw[e1];simp;omega);have hlen':d.l.length=A.length+1+B.length:=by
     have:=congrArg List.length hl;simp only[List.length_map] at this;omega
    have ek:zi l c o'=(A++B++[s],!decide (A.length=l.length-1)):=by
     unfold zi;rw[if_neg (by omega),g1];simp only;rw[if_neg (by omega),if_neg (by omega),if_neg (by omega),if_pos (by omega),i1',e1,(qe2 A B s s).1]
    unfold yh;rw[ek,cov0];simp only
    by_cases hb:B=[]
    ·subst hb;have hB':B'=[]:=(by simpa using n3.symm);have ed:qO d c o=d:=by
      unfold qO;rw[if_neg h8,if_neg h1,g2];simp only;rw[if_neg (by omega),if_neg (by omega),if_neg (by omega),if_pos k,i2,if_neg (by rw[hlen'];simp)]
     rw[ed];refine⟨?_,?_,rfl,rfl,rfl⟩
     ·rw[<-hl,e1];simp
     ·have:(!decide (A.length=l.length-1))=false:=(by rw[hlen];simp);rw[this];exact hF
    ·have hbl:0<B.length:=List.length_pos_iff.2 hb;have ed:qO d c o={zw d s' with l:=A'++B'++[s']}:=by
      unfold qO;rw[if_neg h8,if_neg h1,g2];simp only;rw[if_neg (by omega),if_neg (by omega),if_neg (by omega),if_pos k,hless,i2,if_pos (by rw[hlen'];omega)]
     rw[ed];have hcv:jW (A++B++[s]) c o'.surf=Qg s:=by
      rw[f2];refine Q3 ks (fun x hx=>?_)
      rcases List.mem_append.1 hx with h | h
      ·exact kA x h
      ·exact kB x h
     refine⟨by simp only[List.map_append,List.map_cons,List.map_nil,n1,n2,n3],?_,rfl,rfl,rfl⟩;have:(!decide (A.length=l.length-1))=true:=by
      rw[hlen];simp only[Bool.not_eq_true',decide_eq_false_iff_not];omega
     rw[this,hcv];refine (hF.dam hB _ _ fun x y=>?_).ls _;rw[vD,jD,hcs];simp
   ·
    have ek:zi l c o'=(s::(A++B),!decide (A.length=0)):=by
     unfold zi;rw[if_neg (by omega),g1];simp only;rw[if_neg (by omega),if_neg (by omega),if_neg (by omega),if_neg (by omega),if_pos (by omega),i1',e1,(qe2 A B s s).2]
    unfold yh;rw[ek,cov0];simp only
    by_cases hb:A=[]
    ·subst hb;have hA':A'=[]:=(by simpa using n1.symm);have ed:qO d c o=d:=by
      unfold qO;rw[if_neg h8,if_neg h1,g2];simp only;rw[if_neg (by omega),if_neg (by omega),if_neg (by omega),if_neg (by omega),if_pos k,i2,if_neg (by simp)]
     rw[ed];refine⟨?_,?_,rfl,rfl,rfl⟩
     ·rw[<-hl,e1];simp
     ·exact hF
    ·have hbl:0<A.length:=List.length_pos_iff.2 hb;have ed:qO d c o={zw d s' with l:=s'::(A'++B')}:=by
      unfold qO;rw[if_neg h8,if_neg h1,g2];simp only;rw[if_neg (by omega),if_neg (by omega),if_neg (by omega),if_neg (by omega),if_pos k,hless,i2,if_pos hbl]
     rw[ed];have hcv:jW (s::(A++B)) c o'.surf=Qg s:=by
      rw[f2];exact Q3 (A:=[]) ks (fun x hx=>by simp at hx)
     refine⟨by simp only[List.map_append,List.map_cons,n1,n2,n3],?_,rfl,rfl,rfl⟩;have:(!decide (A.length=0))=true:=by
      simp only[Bool.not_eq_true',decide_eq_false_iff_not];omega
     rw[this,hcv];refine (hF.dam hB _ _ fun x y=>?_).ls _;rw[vD,jD,hcs];simp
   ·
    have ek:zi l c o'=(A++{s with dx:=o.x,dy:=o.y,left:=o.w} :: B,false):=by
     unfold zi;rw[if_neg (by omega),g1];simp only;rw[if_neg (by omega),if_neg (by omega),if_neg (by omega),if_neg (by omega),if_neg (by omega),f3,f4,f5,hput {s with dx:=o.x,dy:=o.y,left:=o.w} ks]
    have ed:qO d c o={d with l:=A'++{s' with dx:=o.x,dy:=o.y,left:=o.w} :: B'}:=by
     unfold qO;rw[if_neg h8,if_neg h1,g2];simp only;rw[if_neg (by omega),if_neg (by omega),if_neg (by omega),if_neg (by omega),if_neg (by omega),hset]
    rw[ed];unfold yh;rw[ek];exact⟨hmap _ _ (Zp q1 q2 q3 q4 q5 q6 q7 rfl (fun _=>⟨rfl,rfl⟩)),hF.ls _,rfl,rfl,rfl⟩
def yR (d:Dc)(c:Int)(ops:List Opn):Dc:=ops.foldl (fun d o=>qO d c o) d
def trD (d:Dc)(c:Int)(ops:List Opn):Dc:={yR d c ops with ch:=true}
def yP (d:Dc)(c:Int)(trs:List (List Opn)):Dc:=trs.foldl (fun d t=>trD d c t) d
theorem QZ (d:Dc)(cov:Int->Int->Bool):kC {d with ch:=true} cov={kC d cov with ch:=true}:=by
 unfold kC;simp only[Dc.mk.injEq,true_and,and_true,Bool.true_or];exact rfl
theorem qj4 (d:Dc)(i:Nat)(x y:Int):zu {d with ch:=true} i x y={zu d i x y with ch:=true}:=by
 unfold zu;simp only
 split
 ·rfl
 ·split
  ·rfl
  ·rename_i s _ _;rw[jo,jo,jo,jo,vA,vA,QZ]
theorem qv0 (d:Dc)(c:Int)(o:Opn):qO {d with ch:=true} c o={qO d c o with ch:=true}:=by
 unfold qO;simp only
 split
 ·rfl
 ·split
  ·rfl
  ·split
   ·rfl
   ·rename_i s _
    split
    ·rw[jo,jo,QZ]
    ·split
     ·rw[jo,jo,jo,jo,vA,vA,QZ]
     ·split
      ·exact qj4 {d with l:=d.l.set (d.l.findIdx (isK c o.surf)) {s with left:=0}} _ _ _
      ·split
       ·split
        ·rw[jo,jo,QZ]
        ·rfl
       ·split
        ·split
         ·rw[jo,jo,QZ]
         ·rfl
        ·rfl
theorem qd7 (c:Int):∀ (ops:List Opn)(d:Dc),yR {d with ch:=true} c ops={yR d c ops with ch:=true}
 | [],d=>rfl
 | o::l,d=>by
  show yR (qO {d with ch:=true} c o) c l={yR (qO d c o) c l with ch:=true};rw[qv0,qd7 c l]
section
variable {K S j:Nat}
theorem Vf (hKS:K*S<=1000)(hj:j<K):∀ (ops:List Opn)(D:Nat)(l:List Srf)(f:Frs)(d:Dc)(x:List Bool),vM K S D (l,f)->D+ops.length<=900000000->qR (hav l j S) (ops.map qy)=some x->l.map nrm=d.l.map nrm->FR f d->
 ((ops.map qy).foldl (zU j) (l,f)).1.map nrm=(yR d j ops).l.map nrm/\FR ((ops.map qy).foldl (zU j) (l,f)).2 (yR d j ops)/\(yR d j ops).c=d.c/\(yR d j ops).ks=d.ks/\(yR d j ops).t=d.t
 | [],D,l,f,d,x,h,hD,hv,hl,hF=>⟨hl,hF,rfl,rfl,rfl⟩
 | o::r,D,l,f,d,x,h,hD,hv,hl,hF=>by
  rw[List.map_cons] at hv ⊢;have hv':(qP (hav l j S) (qy o)).bind (fun y=>qR y (r.map qy))=some x:=hv
  cases hs:qP (hav l j S) (qy o) with
  | none=>rw[hs] at hv';cases hv'
  | some y=>
   rw[hs] at hv';have hv2:qR y (r.map qy)=some x:=hv';simp only[List.length_cons] at hD;obtain⟨h1,h2,h3,h4⟩:=Z5 (st:=(l,f)) h hKS hj (by omega) hs;rw[<-h3] at hv2;obtain⟨f1,f2,-⟩:=X6 o;obtain⟨k1,k2,k3,k4,k5⟩:=qu6 hl hF h.fr h.sc.nd j o (fun h8=>by
    have:=(h1.fit (by rw[f1];exact h8)).1;unfold ZS at this ⊢;rw[f1,f2] at this;exact this)
   obtain⟨g1,g2,g3,g4,g5⟩:=Vf hKS hj r (D+1) (zU j (l,f) (qy o)).1 (zU j (l,f) (qy o)).2 (qO d j o) x h2 (by omega) hv2 k1 k2;exact⟨g1,g2,g3.trans k3,g4.trans k4,g5.trans k5⟩
theorem tr_rel (hKS:K*S<=1000)(hj:j<K){ops:List Opn}{D:Nat}{l:List Srf}{f:Frs}{d:Dc}{x:List Bool}(h:vM K S D (l,f))(hD:D+ops.length<=900000000)(hv:qR (hav l j S) (ops.map qy)=some x)(hl:l.map nrm=d.l.map nrm)(hF:FR f d) :
 (yD j (l,f) (ops.map qy)).1.map nrm=(trD d j ops).l.map nrm/\FR (yD j (l,f) (ops.map qy)).2 (trD d j ops)/\(trD d j ops).c=d.c/\(trD d j ops).ks=d.ks/\(trD d j ops).t=d.t:=by
 have hF2:FR {f with due:=true} {d with ch:=true}:=⟨hF.W,hF.H,hF.st,hF.front,rfl,hF.wait,hF.pnt,hF.frm,hF.nof,hF.ord,hF.top,hF.shown⟩;have:=Vf hKS hj ops D l {f with due:=true} {d with ch:=true} x ⟨h.sc,h.fr.due true⟩ hD hv hl hF2;rw[qd7] at this;exact this
theorem X1 (hKS:K*S<=1000)(hj:j<K):∀ (trs:List (List Opn))(D:Nat)(l:List Srf)(f:Frs)(d:Dc)(x:List Bool),vM K S D (l,f)->(∀ tr∈trs,tr.length<=20)->D+20*trs.length<=900000000->qR (hav l j S) (trs.map fun t=>t.map qy).flatten=some x->l.map nrm=d.l.map nrm->FR f d->
 (jx j (l,f) (trs.map fun t=>t.map qy)).1.map nrm=(yP d j trs).l.map nrm/\FR (jx j (l,f) (trs.map fun t=>t.map qy)).2 (yP d j trs)/\(yP d j trs).c=d.c/\(yP d j trs).ks=d.ks/\(yP d j trs).t=d.t
 | [],D,l,f,d,x,h,ht,hD,hv,hl,hF=>⟨hl,hF,rfl,rfl,rfl⟩
 | t::r,D,l,f,d,x,h,ht,hD,hv,hl,hF=>by
  rw[List.map_cons,List.flatten_cons,zF] at hv;simp only[List.length_cons] at hD
  cases hs:qR (hav l j S) (t.map qy) with
  | none=>rw[hs] at hv;cases hv
  | some y=>
   rw[hs] at hv;have hv2:qR y (r.map fun t=>t.map qy).flatten=some x:=hv;have htl:t.length<=20:=ht t (by simp);obtain⟨h1,h2,h3,h4⟩:=qp5 (st:=(l,f)) hKS hj h (by rw[List.length_map];exact htl) (by omega) hs;rw[<-h3] at hv2;obtain⟨k1,k2,k3,k4,k5⟩:=tr_rel hKS hj h (by omega) hs hl hF;obtain⟨g1,g2,g3,g4,g5⟩:=X1 hKS hj r (D+20) (yD j (l,f) (t.map qy)).1 (yD j (l,f) (t.map qy)).2 (trD d j t) x h2 (fun tr htr=>ht tr (by simp[htr])) (by omega) hv2 k1 k2;exact⟨g1,g2,g3.trans k3,g4.trans k4,g5.trans k5⟩
end
def qH (k:Cli):Cli:={k with q:=k.q.map fun t=>t.map qy}
theorem ZD:∀ (l:List (List Opn))(cr:Int),zP cr (l.map fun t=>t.map qy)=zP cr l
 | [],cr=>rfl
 | o::l,cr=>by
  rw[List.map_cons];unfold zP;rw[ve,ZD l]
theorem yK (k:Cli)(q:Int):qB (qH k) q=((qB k q).1.map fun t=>t.map qy,qH (qB k q).2):=by
 unfold qB qH;simp only;rw[ZD,List.map_take,List.map_drop,List.length_map]
def xR (d:Dc)(j:Nat):Dc:=match d.ks[j]? with
 | some (some k)=>{yP d j (qB k d.c.quantum).1 with ks:=d.ks.set j (some (qB k d.c.quantum).2)}
 | _=>d
def zD (d:Dc):Nat->Dc
 | 0=>d
 | j+1=>xR (zD d j) j
def jq (d:Dc)(i:Nat):Dc:=match d.l[i]? with
 | none=>d
 | some x=>if 0<x.left then zu {d with l:=d.l.set i {x with left:=x.left-1}} i (x.x+x.dx) (x.y+x.dy) else d
def zj (d:Dc):Nat->Dc
 | 0=>d
 | k+1=>jq (zj d k) k
theorem XS (f:Frs)(a b:List Rc):zX f (a++b)=zX (zX f a) b:=by simp[zX]
theorem Zd {f:Frs}{d:Dc}{D:Nat}{l:List Srf}(hl:l.map nrm=d.l.map nrm)(hF:FR f d)(hB:FrB D f)(h0:∀ s∈l,0<=s.left):∀ k,k<=l.length->((l.take k).map goS++l.drop k).map nrm=(zj d k).l.map nrm/\FR (zX f ((l.take k).flatMap zW)) (zj d k)/\(zj d k).c=d.c/\(zj d k).ks=d.ks/\(zj d k).t=d.t
 | 0,_=>⟨hl,hF,rfl,rfl,rfl⟩
 | k+1,hk=>by
  obtain⟨i1,i2,i3,i4,i5⟩:=Zd hl hF hB h0 k (by omega);have hB2:FrB D (zX f ((l.take k).flatMap zW)):=hB.dam (yF _ _);obtain⟨s,hs⟩:∃ s,l[k]?=some s:=⟨l[k],by simp⟩;have hsm:=h0 s (zzn hs);have hlt:=(zzg hs).1;have hP:((l.take k).map goS++l.drop k)[k]?=some s:=by
   rw[List.getElem?_append_right (by simp;omega)];simp only[List.length_map,List.length_take];rw[show k-min k l.length=0 by omega,List.getElem?_drop];exact hs
  have hnext:(l.take (k+1)).map goS++l.drop (k+1)=((l.take k).map goS++l.drop k).set k (goS s):=by
   have e1:l.take (k+1)=l.take k++[s]:=(by rw[List.take_add_one,hs];rfl);have e2:l.drop k=s::l.drop (k+1):=(by rw[<-List.getElem_cons_drop hlt];congr 1;exact (zzg hs).2);have e3:((l.take k).map goS).length=k:=(by simp;omega);rw[e1,e2,List.map_append,List.map_cons,List.map_nil]
   conv=>rhs;rw[<-e3]
   rw[e3]
   conv=>rhs;arg 2;rw[<-e3]
   rw[Vn,List.append_assoc]
   rfl
  obtain⟨m,hm⟩:∃ m,m=zj d k:=⟨_,rfl⟩;have hrec:zj d (k+1)=jq m k:=(by rw[hm];rfl);rw[<-hm] at i1 i2 i3 i4 i5;obtain⟨s',hs',hn⟩:∃ s',m.l[k]?=some s'/\nrm s=nrm s':=by
   have:=congrArg (fun q=>q[k]?) i1;simp only[List.getElem?_map,hP,Option.map_some] at this
   cases hq:m.l[k]? with
   | none=>rw[hq] at this;simp at this
   | some s'=>
    rw[hq] at this;simp only[Option.map_some,Option.some.injEq] at this;exact⟨s',rfl,this⟩
  obtain⟨q1,q2,q3,q4,q5,q6,q7,q8,q9⟩:=kg hn;have hflat:(l.take (k+1)).flatMap zW=(l.take k).flatMap zW++zW s:=by
   have e1:l.take (k+1)=l.take k++[s]:=(by rw[List.take_add_one,hs];rfl);rw[e1,List.flatMap_append];simp
  rw[hrec,hnext,hflat,XS];have hset:∀ u u':Srf,nrm u=nrm u'->(((l.take k).map goS++l.drop k).set k u).map nrm=(m.l.set k u').map nrm:=fun u u' hu=>by rw[List.map_set,List.map_set,i1,hu]
  by_cases hz:s.left=0
  ·have e1:goS s=s:=(by unfold goS;rw[if_pos hz]);have e2:zW s=[]:=(by unfold zW goB;rw[if_pos hz];rfl);have e3:jq m k=m:=(by unfold jq;rw[hs'];simp only;rw[if_neg (by omega)]);rw[e1,e2,e3];refine⟨?_,i2,i3,i4,i5⟩;have:((l.take k).map goS++l.drop k).set k s=(l.take k).map goS++l.drop k:=by
    apply List.ext_getElem?;intro j;rw[List.getElem?_set]
    split
    ·rename_i e;subst e;rw[if_pos (zzg hP).1,hP]
    ·rfl
   rw[this];exact i1
  ·obtain⟨d1,d2⟩:=q9 hz;have e1:goS s={s with x:=s.x+s.dx,y:=s.y+s.dy,left:=s.left-1}:=(by unfold goS;rw[if_neg hz]);have hk2:k<m.l.length:=(zzg hs').1;have e3:jq m k=zu {m with l:=m.l.set k {s' with left:=s'.left-1}} k (s'.x+s'.dx) (s'.y+s'.dy):=(by unfold jq;rw[hs'];simp only;rw[if_pos (by omega)]);have hat:(m.l.set k {s' with left:=s'.left-1})[k]?=some {s' with left:=s'.left-1}:=List.getElem?_set_self hk2;have hgB:goB s=!(s'.x == s'.x+s'.dx&&s'.y == s'.y+s'.dy):=by unfold goB;rw[if_neg hz,q3,q4,d1,d2]
   by_cases hsame:s'.x=s'.x+s'.dx/\s'.y=s'.y+s'.dy
   ·have e4:jq m k={m with l:=m.l.set k {s' with left:=s'.left-1}}:=by
     rw[e3];unfold zu;simp only[hat];rw[if_pos hsame]
    have e5:zW s=[]:=by
     unfold zW;have:goB s=false:=(by rw[hgB,<-hsame.1,<-hsame.2];simp);rw[this];rfl
    rw[e1,e4,e5];refine⟨hset _ _ (Zp q1 q2 ?_ ?_ q5 q6 q7 ?_ (fun _=>⟨d1,d2⟩)),i2.ls _,i3,i4,i5⟩
    ·show s.x+s.dx=s'.x;rw[q3,d1,<-hsame.1]
    ·show s.y+s.dy=s'.y;rw[q4,d2,<-hsame.2]
    ·show s.left-1=s'.left-1;rw[q8]
   ·have e4:jq m k={kC m (fun x y=>xE {s' with left:=s'.left-1} x y||xE {s' with left:=s'.left-1,x:=s'.x+s'.dx,y:=s'.y+s'.dy} x y) with l:=m.l.set k {s' with left:=s'.left-1,x:=s'.x+s'.dx,y:=s'.y+s'.dy}}:=by
     rw[e3];unfold zu;simp only[hat];rw[if_neg hsame,jo,jo,vA,List.set_set];rfl
    have hb:goB s=true:=by
     rw[hgB];simp only[Bool.not_eq_true',Bool.and_eq_false_iff,beq_eq_false_iff_ne]
     by_cases e:s'.x=s'.x+s'.dx
     ·exact .inr (fun e2=>hsame ⟨e,e2⟩)
     ·exact .inl e
    have hn2:nrm {s with x:=s.x+s.dx,y:=s.y+s.dy,left:=s.left-1}=nrm {s' with left:=s'.left-1,x:=s'.x+s'.dx,y:=s'.y+s'.dy}:=Zp q1 q2 (by simp only;rw[q3,d1]) (by simp only;rw[q4,d2]) q5 q6 q7 (by simp only;rw[q8]) (fun _=>⟨d1,d2⟩);rw[e1,e4];refine⟨hset _ _ hn2,?_,i3,i4,i5⟩;refine (i2.dam hB2 _ _ fun x y=>?_).ls _;unfold zW;rw[hb,vD,e1];have c1:=jD s x y;have c2:=jD {s with x:=s.x+s.dx,y:=s.y+s.dy,left:=s.left-1} x y;unfold Qg at c1 c2;rw[c1,c2,yv hn,yv hn2];simp only[Bool.true_and]
    rfl
def yy (d:Dc):Prop:=d.pnt=true/\d.left=0
def isFlD (d:Dc):Decidable (yy d):=(instDecidableAnd:Decidable (d.pnt=true/\d.left=0))
def xU (d:Dc):Dc:=@ite Dc (yy d) (isFlD d) {d with pnt:=false,front:=d.tgt,p:=fun i=>if i=d.tgt then d.fp else d.p i,marks:=[]} d
def flN (d:Dc):Int:=@ite Int (yy d) (isFlD d) 1 0
def flM (d:Dc):List (Int×Int):=@ite (List (Int×Int)) (yy d) (isFlD d) d.marks []
theorem JE {f:Frs}{d:Dc}{D:Nat}(hF:FR f d)(hB:FrB D f):FR (zd f).1 (xU d)/\(zd f).2.1=flN d/\(zd f).2.2=flM d:=by
 unfold zd xU flN flM
 cases hf:f.frame with
 | none=>
  have:¬yy d:=fun e=>by have:=hF.pnt;rw[hf,e.1] at this;simp at this
  rw[if_neg this,if_neg this,if_neg this];exact⟨hF,rfl,rfl⟩
 | some g=>
  obtain⟨h1,h2,h3,h4,h5⟩:=hF.frm g hf;have hp:d.pnt=true:=by rw[hF.pnt,hf];rfl
  by_cases hg:g.left=[]
  ·have:yy d:=⟨hp,by rw[h2,hg];rfl⟩;rw[if_pos this,if_pos this,if_pos this];simp only[hg,if_true];refine⟨⟨hF.W,hF.H,hF.st,h1,hF.due,hF.wait,rfl,fun g' hg'=>by simp at hg',fun _=>rfl,hF.ord,hF.top,?_⟩,trivial,h3.symm⟩;show (f.b g.buf).px=if g.buf=d.tgt then d.fp else d.p g.buf;rw[if_pos h1.symm];have hN:d.N=f.W*f.H:=(by unfold Dc.N;rw[hF.W,hF.H];rfl);apply List.ext_getElem?;intro p
   by_cases hpp:p<d.N
   ·exact (h5 p hpp).2 (fun v=>by rw[hg];simp)
   ·rw[List.getElem?_eq_none (by rw[hB.px g.buf (hB.fm g hf).1];omega),List.getElem?_eq_none (by omega)]
  ·have:¬yy d:=fun e=>by
    have:=e.2;rw[h2] at this;exact hg (List.eq_nil_of_length_eq_zero (by omega))
   rw[if_neg this,if_neg this,if_neg this];simp only[hg,if_false];exact⟨hF,by simp,by simp⟩
def zG (d:Dc):Nat->Option Nat
 | 0=>none
 | k+1=>if k=d.front then zG d k else match zG d k with
  | none=>some k
  | some j=>if d.fn k<d.fn j then some k else some j
theorem Ym {f:Frs}{d:Dc}(hF:FR f d):∀ k,k<=3->zG d k=za f k
 | 0,_=>rfl
 | k+1,hk=>by
  unfold zG za;rw[hF.front,Ym hF k (by omega)]
  split
  ·rfl
  ·cases hq:za f k with
   | none=>rfl
   | some j=>
    have hj:=ya f k j hq;simp only[hF.ord k j (by omega) (by omega)]
def stN (st:List Bool):Nat->Nat
 | 0=>0
 | k+1=>stN st k+(if st[k]?=some true then 1 else 0)
theorem JL (st:List Bool)(W:Nat)(pic:Int->Int->Int):∀ k,(zH st W pic k).length=stN st k
 | 0=>rfl
 | k+1=>by
  unfold zH stN;rw[List.length_append,JL st W pic k]
  split<;>rfl
def jF (d:Dc):Dc:=if d.pnt=true\/d.ch=false then d else
 {d with frames:=d.frames+1,pnt:=true,tgt:=(zG d 3).getD 0,fp:=(List.range d.N).map (Qq d.l d.c.behind d.W),left:=(stN (d.st ((zG d 3).getD 0)) d.N:Int),st:=fun i=>if i=(zG d 3).getD 0 then List.replicate d.N false else d.st i,fn:=fun i=>if i=(zG d 3).getD 0 then d.frames+1 else d.fn i,marks:=d.wait,wait:=[],ch:=false}
theorem za5 {s t:Srf}(h:nrm s=nrm t)(x y:Int):zC s x y=zC t x y:=by
 obtain⟨-,-,h3,h4,h5,h6,h7,-⟩:=kg h;unfold zC;rw[yv h,h3,h4,h5,h7]
theorem Ya (x y:Int):∀ (l m:List Srf)(b:Int),l.map nrm=m.map nrm->jP l b x y=jP m b x y
 | [],[],_,_=>rfl
 | [],b::m,_,h=>by simp at h
 | a::l,[],_,h=>by simp at h
 | a::l,c::m,b,h=>by
  simp only[List.map_cons,List.cons.injEq] at h;show jP l (if zC a x y=0 then b else zC a x y) x y=jP m (if zC c x y=0 then b else zC c x y) x y;rw[za5 h.1];exact Ya x y l m _ h.2
theorem XW {f:Frs}{d:Dc}{D:Nat}{l:List Srf}{t:Int}(hl:l.map nrm=d.l.map nrm)(hF:FR f d)(hB:FrB D f)(hP:PxI l d.c.behind f)(ht:∀ i,i<3->(f.b i).begun<t):FR (zR f t (jP l d.c.behind)) (jF d):=by
 unfold zR jF;have hc:(f.frame.isSome=true\/f.due=false)↔(d.pnt=true\/d.ch=false):=by rw[hF.pnt,hF.due]
 by_cases hh:d.pnt=true\/d.ch=false
 ·rw[if_pos hh,if_pos (hc.2 hh)];exact hF
 ·rw[if_neg hh,if_neg (fun e=>hh (hc.1 e)),Ym hF 3 (zzl _)];have hn:=next3 f hB.fr;obtain⟨q,hq⟩:∃ q,q=(za f 3).getD 0:=⟨_,rfl⟩;rw[<-hq] at hn ⊢;have hN:d.N=f.W*f.H:=(by unfold Dc.N;rw[hF.W,hF.H];rfl);have hfr:f.frame=none:=by
   cases hf:f.frame with
   | none=>rfl
   | some g=>exact absurd (hc.1 (.inl (by rw[hf];rfl))) hh
  refine⟨hF.W,hF.H,fun i hi=>?_,hF.front,rfl,rfl,rfl,fun g hg=>?_,fun hg=>by simp at hg,fun i j hi hj=>?_,fun i hi=>?_,?_⟩
  ·simp only
   split
   ·rw[hN]
   ·exact hF.st i hi
  ·simp only[Option.some.injEq] at hg;subst hg;refine⟨rfl,?_,hF.wait,by simp;rfl,fun p hp=>?_⟩
   ·simp only;rw[JL,hF.st q hn.1,hN]
   ·have hp2:p<f.W*f.H:=(by rw[<-hN];exact hp);have hfp:((List.range d.N).map (Qq d.l d.c.behind d.W))[p]?=some (jP l d.c.behind ((p%f.W:Nat):Int) ((p/f.W:Nat):Int)):=by
     have hp3:p<d.N:=hp;rw[List.getElem?_map,List.getElem?_range hp3];show some (Qq d.l d.c.behind d.W p)=_;unfold Qq;rw[Ya _ _ l d.l _ hl,hF.W]
    simp only;refine⟨fun v hv=>?_,fun hv=>?_⟩
    ·obtain⟨-,-,e⟩:=(QY _ _ _ _ _ _).1 hv;rw[hfp,e]
    ·rw[if_pos trivial];simp only;rw[hfp];have hst:(f.b q).st[p]?=some false:=by
      have hl2:=hB.st q hn.1
      cases hb:(f.b q).st[p]? with
      | none=>rw[List.getElem?_eq_getElem (by rw[hl2];exact hp2)] at hb;cases hb
      | some b=>
       cases b with
       | false=>rfl
       | true=>exact absurd ((QY _ _ _ _ _ _).2 ⟨hp2,hb,rfl⟩) (hv _)
     have hrt:=(hP.rt q hn.1 p hp2 hst).2 (fun v=>by unfold yW;rw[hfr];simp);exact hrt
  ·simp only;have h1:=ht i hi;have h2:=ht j hj;have h3:=hF.top i hi;have h4:=hF.top j hj;have h5:=hF.ord i j hi hj
   by_cases e1:i=q<;>by_cases e2:j=q
   ·rw[if_pos e1,if_pos e2,if_pos e1,if_pos e2];simp
   ·rw[if_pos e1,if_neg e2,if_pos e1,if_neg e2];simp only;omega
   ·rw[if_neg e1,if_pos e2,if_neg e1,if_pos e2];simp only;omega
   ·rw[if_neg e1,if_neg e2,if_neg e1,if_neg e2];exact h5
  ·simp only;have h3:=hF.top i hi
   split<;>omega
  ·simp only
   split
   ·exact hF.shown
   ·exact hF.shown
def ptN (d:Dc)(b:Nat):Int:=if d.pnt=true then (if (b:Int)<d.left then (b:Int) else d.left) else 0
def jI (d:Dc)(b:Nat):Dc:=if d.pnt=true then {d with left:=d.left-ptN d b} else d
theorem qi3 {f:Frs}{d:Dc}{D:Nat}(hF:FR f d)(hB:FrB D f)(hnd:∀ g,f.frame=some g->(g.left.map Prod.fst).Nodup)(b:Nat):FR (je f b) (jI d b)/\(vu f b:Int)=ptN d b:=by
 unfold je vu jI
 cases hf:f.frame with
 | none=>
  have:d.pnt=false:=(by rw[hF.pnt,hf];rfl);rw[if_neg (by rw[this];simp)];refine⟨hF,?_⟩;unfold ptN;rw[if_neg (by rw[this];simp)]
  rfl
 | some g=>
  have hp:d.pnt=true:=(by rw[hF.pnt,hf];rfl);obtain⟨h1,h2,h3,h4,h5⟩:=hF.frm g hf;obtain⟨b1,b2,b3,b4,b5⟩:=hB.fm g hf;have hN:d.N=f.W*f.H:=(by unfold Dc.N;rw[hF.W,hF.H];rfl);have hpt:((min b g.left.length:Nat):Int)=ptN d b:=by
   unfold ptN;rw[if_pos hp,h2]
   split<;>omega
  rw[if_pos hp];refine⟨?_,hpt⟩;obtain⟨k,hk⟩:∃ k,k=min b g.left.length:=⟨_,rfl⟩;simp only;rw[<-hk] at hpt ⊢;unfold zx;refine⟨hF.W,hF.H,fun i hi=>?_,hF.front,hF.due,hF.wait,hp,fun g' hg'=>?_,fun hg'=>by simp at hg',fun i j hi hj=>?_,hF.top,?_⟩
  ·simp only
   split
   ·exact hF.st i hi
   ·exact hF.st i hi
  ·simp only[Option.some.injEq] at hg';subst hg';refine⟨h1,?_,h3,h4,fun p hpp=>?_⟩
   ·simp only[List.length_drop];rw[<-hpt,h2];omega
   ·obtain⟨g1,g2⟩:=h5 p hpp;simp only[if_true];refine⟨fun v hv=>g1 v (List.mem_of_mem_drop hv),fun hv=>?_⟩;have hsplit:g.left=g.left.take k++g.left.drop k:=(List.take_append_drop k g.left).symm;have hndt:((g.left.take k).map Prod.fst).Nodup:=by
     have:=hnd g hf;rw[hsplit,List.map_append,List.nodup_append] at this;exact this.1
    obtain⟨a1,a2⟩:=Jq (g.left.take k) (f.b g.buf).px p (fun d hd=>(b4 d (List.mem_of_mem_take hd)).1) hndt (by rw[hB.px g.buf b1,<-hN];exact hpp)
    by_cases hex:∃ v,((p:Int),v)∈g.left.take k
    ·obtain⟨v,hv2⟩:=hex;rw[a1 v hv2,g1 v (List.mem_of_mem_take hv2)]
    ·have hno:∀ v,((p:Int),v)∉g.left.take k:=fun v e=>hex ⟨v,e⟩;rw[a2 hno];refine g2 (fun v e=>?_);rw[hsplit,List.mem_append] at e
     rcases e with e | e
     ·exact hno v e
     ·exact hv v e
  ·have e:∀ i,((fun i=>if i=g.buf then ({f.b i with px:=xl (f.b i).px (g.left.take k)}:Buf) else f.b i) i).begun=(f.b i).begun:=fun i=>by simp only;split<;>rfl
   show ((fun i=>if i=g.buf then ({f.b i with px:=xl (f.b i).px (g.left.take k)}:Buf) else f.b i) i).begun<((fun i=>if i=g.buf then ({f.b i with px:=xl (f.b i).px (g.left.take k)}:Buf) else f.b i) j).begun↔_;rw[e,e];exact hF.ord i j hi hj
  ·simp only;rw[if_neg (fun e=>b2 e.symm)];exact hF.shown
theorem vP {α:Type}{l:List α}{i:Nat}{x:α}(h:l[i]?=some x):l.set i x=l:=by
 refine List.ext_getElem? fun j=>?_;rw[List.getElem?_set]
 split
 ·rename_i e;subst e;rw[if_pos (zzg h).1,h]
 ·rfl
structure DR (s:qY)(d:Dc):Prop where
 c:s.c=d.c
 ks:s.ks=d.ks.map (Option.map qH)
 l:s.l.map nrm=d.l.map nrm
 f:FR s.f d
 t:s.t=d.t
 beg:∀ i,i<3->(s.f.b i).begun<=s.t
theorem FR.tt {f:Frs}{d:Dc}(h:FR f d)(t:Int):FR f {d with t:=t}:=⟨h.W,h.H,h.st,h.front,h.due,h.wait,h.pnt,h.frm,h.nof,h.ord,h.top,h.shown⟩
theorem FR.kss {f:Frs}{d:Dc}(h:FR f d)(ks:List (Option Cli)):FR f {d with ks:=ks}:=⟨h.W,h.H,h.st,h.front,h.due,h.wait,h.pnt,h.frm,h.nof,h.ord,h.top,h.shown⟩
def td1 (d:Dc):Dc:=xU {d with t:=d.t+1}
def td2 (d:Dc):Dc:=zj (td1 d) d.l.length
def td3 (d:Dc):Dc:=zD (td2 d) d.ks.length
def td4 (d:Dc):Dc:=jF (td3 d)
def xS (d:Dc)(b:Nat):Dc:=jI (td4 d) b
theorem yB (d:Dc):(xU d).c=d.c/\(xU d).ks=d.ks/\(xU d).l=d.l/\(xU d).t=d.t:=by
 unfold xU
 split<;>exact⟨rfl,rfl,rfl,rfl⟩
theorem YR (d:Dc):(jF d).c=d.c/\(jF d).ks=d.ks/\(jF d).l=d.l/\(jF d).t=d.t:=by
 unfold jF
 split<;>exact⟨rfl,rfl,rfl,rfl⟩
theorem Ye (d:Dc)(b:Nat):(jI d b).c=d.c/\(jI d b).ks=d.ks/\(jI d b).l=d.l/\(jI d b).t=d.t:=by
 unfold jI
 split<;>exact⟨rfl,rfl,rfl,rfl⟩
section
variable {s:qY}{d:Dc}{D:Nat}
theorem qc8 (h:DR s d)(hO:jg D s):(tk3 s).l.map nrm=(td2 d).l.map nrm/\FR (tk3 s).f (td2 d)/\(td2 d).c=d.c/\(td2 d).ks=d.ks/\(td2 d).t=d.t+1:=by
 obtain⟨h1,-,-⟩:=JE (h.f.tt (d.t+1)) hO.st.fr;obtain⟨k1,k2,k3,k4⟩:=yB {d with t:=d.t+1};have hl:s.l.map nrm=(td1 d).l.map nrm:=(by unfold td1;rw[k3];exact h.l);have hlen:d.l.length=s.l.length:=(by have:=congrArg List.length h.l;simpa using this.symm);obtain⟨g1,g2,g3,g4,g5⟩:=Zd (f:=(zd s.f).1) (d:=td1 d) (D:=D) hl h1 hO.st.fr.flip (fun x hx=>(hO.st.sc.sf x hx).lf.1) s.l.length (zzl _);rw[List.take_length,List.drop_length,List.append_nil] at g1;rw[List.take_length] at g2;unfold td2;rw[hlen];exact⟨g1,g2,g3.trans k1,g4.trans k2,g5.trans k4⟩
theorem QE (h:DR s d)(hO:jg D s)(hD:D+640<=900000000):∀ j,j<=s.ks.length->(qJ s.c.quantum s.ks ((tk3 s).l,(tk3 s).f) j).1.map nrm=(zD (td2 d) j).l.map nrm/\FR (qJ s.c.quantum s.ks ((tk3 s).l,(tk3 s).f) j).2 (zD (td2 d) j)/\(zD (td2 d) j).c=d.c/\(zD (td2 d) j).ks=ksI d.c.quantum d.ks j/\(zD (td2 d) j).t=d.t+1
 | 0,_=>by
  obtain⟨g1,g2,g3,g4,g5⟩:=qc8 h hO;refine⟨g1,g2,g3,?_,g5⟩;show (td2 d).ks=_;rw[g4];simp[ksI]
 | j+1,hj=>by
  obtain⟨g1,g2,g3,g4,g5⟩:=QE h hO hD j (by omega);have hc:=Qy hO.cfg;have hKS:=hc.ks;have hlen:=hO.len;have hK:s.c.clients.toNat<=4:=(by have:=hc.clients;omega);have hI:=jL hO hD j (by omega);have hjd:j<d.ks.length:=(by have:=congrArg List.length h.ks;rw[List.length_map] at this;omega);have hat:(zD (td2 d) j).ks[j]?=d.ks[j]?:=(by rw[g4];exact Qt hjd);have hrec:zD (td2 d) (j+1)=xR (zD (td2 d) j) j:=rfl;rw[hrec];obtain⟨m,hm⟩:∃ m,m=zD (td2 d) j:=⟨_,rfl⟩;rw[<-hm] at g1 g2 g3 g4 g5 hat ⊢;obtain⟨x,hx⟩:∃ x,d.ks[j]?=some x:=⟨d.ks[j],by simp⟩;have hsx:s.ks[j]?=some (x.map qH):=by rw[h.ks,List.getElem?_map,hx];rfl
  cases x with
  | none=>
   have e:qJ s.c.quantum s.ks ((tk3 s).l,(tk3 s).f) (j+1)=qJ s.c.quantum s.ks ((tk3 s).l,(tk3 s).f) j:=(by simp[qJ,hsx]);have e2:xR m j=m:=(by unfold xR;rw[hat,hx]);rw[e,e2];refine⟨g1,g2,g3,?_,g5⟩;rw[g4,QT hx];refine (vP ?_).symm;rw[Qt hjd,hx];rfl
  | some k=>
   have hsk:s.ks[j]?=some (some (qH k)):=hsx;have hcl:=hO.cl j (qH k) hsk;have e:qJ s.c.quantum s.ks ((tk3 s).l,(tk3 s).f) (j+1)=jx j (qJ s.c.quantum s.ks ((tk3 s).l,(tk3 s).f) j) (qB (qH k) s.c.quantum).1:=(by simp[qJ,hsk]);have e2:xR m j={yP m j (qB k d.c.quantum).1 with ks:=m.ks.set j (some (qB k d.c.quantum).2)}:=(by unfold xR;rw[hat,hx,g3]);have hv:=hI.old j (qH k) (zzl _) hsk;obtain⟨n,hn⟩:∃ n,n=(zP ((qH k).cr+s.c.quantum) (qH k).q).1:=⟨_,rfl⟩;have e1:(qB (qH k) s.c.quantum).1=(qH k).q.take n:=(by rw[hn];rfl);have hsplit:(qH k).q.flatten=((qH k).q.take n).flatten++((qH k).q.drop n).flatten:=(by rw[<-List.flatten_append,List.take_append_drop]);rw[hsplit,zF] at hv
   cases hy:qR (hav (qJ s.c.quantum s.ks ((tk3 s).l,(tk3 s).f) j).1 j s.c.surfaces.toNat) ((qH k).q.take n).flatten with
   | none=>rw[hy] at hv;cases hv
   | some y=>
    have hql:(qH k).q.length<=8:=(by have:=hcl.ql;have:=hc.queue;omega);have htl:((qH k).q.take n).length<=8:=(by rw[List.length_take];omega);have e3:(qB (qH k) s.c.quantum).1=(qB k d.c.quantum).1.map fun t=>t.map qy:=(by rw[h.c,yK]);rw[<-e1,e3] at hy htl;rw[List.length_map] at htl;obtain⟨r1,r2,r3,r4,r5⟩:=X1 (K:=s.c.clients.toNat) (S:=s.c.surfaces.toNat) (j:=j) (by omega) (by omega) (qB k d.c.quantum).1 (D+160*j) _ _ m y hI.st (fun tr htr=>by
     have h1:tr.map qy∈(qH k).q:=by
      have:tr.map qy∈(qB (qH k) s.c.quantum).1:=(by rw[e3];exact List.mem_map.2 ⟨tr,htr,rfl⟩);rw[e1] at this;exact List.mem_of_mem_take this
     have:=(hcl.tr _ h1).1.2;rw[List.length_map] at this;exact this) (by omega) hy g1 g2
    rw[e,e3,e2];refine⟨r1,r2.kss _,r3.trans g3,?_,r5.trans g5⟩;show m.ks.set j (some (qB k d.c.quantum).2)=_;rw[g4,QT hx]
    rfl
theorem Z6 {f:Frs}(rs:List Rc)(i:Nat):((zX f rs).b i).begun=(f.b i).begun:=(yF rs f).begun i
theorem beg_op (c:Nat)(st:List Srf×Frs)(o:Opn)(i:Nat):((zU c st o).2.b i).begun=(st.2.b i).begun:=by
 unfold zU
 split
 ·rfl
 ·exact Z6 _ i
theorem qf7 (c:Nat)(i:Nat):∀ (ops:List Opn)(st:List Srf×Frs),((ops.foldl (zU c) st).2.b i).begun=(st.2.b i).begun
 | [],_=>rfl
 | o::l,st=>(qf7 c i l (zU c st o)).trans (beg_op c st o i)
theorem qf6 (c:Nat)(i:Nat):∀ (trs:List (List Opn))(st:List Srf×Frs),((jx c st trs).2.b i).begun=(st.2.b i).begun
 | [],_=>rfl
 | t::l,st=>(qf6 c i l (yD c st t)).trans (qf7 c i t (st.1,{st.2 with due:=true}))
theorem Z7 (q:Int)(ks:List (Option Cli))(st:List Srf×Frs)(i:Nat):∀ j,((qJ q ks st j).2.b i).begun=(st.2.b i).begun
 | 0=>rfl
 | j+1=>by
  unfold qJ
  split
  ·rw[qf6];exact Z7 q ks st i j
  ·exact Z7 q ks st i j
theorem YS (f:Frs)(i:Nat):((zd f).1.b i).begun=(f.b i).begun:=by
 unfold zd
 split
 ·rfl
 ·split<;>rfl
theorem ql8 (q:Int)(x:Option Cli):xF q (x.map qH)=xF q x:=by
 cases x with
 | none=>rfl
 | some k=>
  show (((qB (qH k) q).1.length:Nat):Int)=((qB k q).1.length:Int);rw[yK,List.length_map]
theorem qm8 (q:Int)(x:Option Cli):J3 q (x.map qH)=(J3 q x).map qH:=by
 cases x with
 | none=>rfl
 | some k=>
  show some (qB (qH k) q).2=some (qH (qB k q).2);rw[yK]
theorem VV (h:DR s d)(hO:jg D s)(hD:D+640<=900000000)(hP:PxI s.l s.c.behind s.f)(b:Nat):DR (vZ s b) (xS d b)/\(zd s.f).2.1=flN d/\(zd s.f).2.2=flM d/\ZC s=d.ks.map (xF d.c.quantum)/\(Je s b:Int)=ptN (td4 d) b:=by
 have hlen:s.ks.length=d.ks.length:=(by have:=congrArg List.length h.ks;simpa using this);obtain⟨g1,g2,g3,g4,g5⟩:=QE h hO hD s.ks.length (zzl _);obtain⟨-,f2,f3⟩:=JE h.f hO.st.fr;have hI:=jL hO hD s.ks.length (zzl _);have h3:PxI (tk3 s).l s.c.behind (tk3 s).f:=hP.flip.dam hO.st.fr.flip (fun x y hc=>Ze hc s.c.behind);have h4:=VK hO hD h3 s.ks.length (zzl _);have hbeg:∀ i,i<3->((qJ s.c.quantum s.ks ((tk3 s).l,(tk3 s).f) s.ks.length).2.b i).begun<s.t+1:=fun i hi=>by
  rw[Z7];show ((zX (zd s.f).1 _).b i).begun<_;rw[Z6,YS];have:=h.beg i hi;omega
 rw[hlen] at g1 g2 g3 g4 g5;have e3:zD (td2 d) d.ks.length=td3 d:=rfl;rw[e3] at g1 g2 g3 g4 g5;rw[<-hlen] at g1 g2;have hbh:(td3 d).c.behind=s.c.behind:=(by rw[g3,h.c]);have hB:=XW (t:=s.t+1) g1 g2 hI.st.fr (by rw[hbh];exact h4) hbeg;rw[hbh] at hB;have h5:PxI (tk5 s).l s.c.behind (tk5 s).f:=PxI.begin h4 hI.st.fr (s.t+1);have hB5:FR (tk5 s).f (td4 d):=hB;obtain⟨p1,p2⟩:=qi3 hB5 (hI.st.fr.begin (s.t+1) _) h5.nd b;obtain⟨b1,b2,b3,b4⟩:=YR (td3 d);obtain⟨c1,c2,c3,c4⟩:=Ye (td4 d) b;refine⟨⟨?_,?_,?_,p1,?_,fun i hi=>?_⟩,f2,f3,?_,p2⟩
 ·show s.c=(jI (td4 d) b).c;rw[c1];show s.c=(jF (td3 d)).c;rw[b1,g3];exact h.c
 ·show ksI s.c.quantum s.ks s.ks.length=(jI (td4 d) b).ks.map (Option.map qH);rw[c2];show _=(jF (td3 d)).ks.map (Option.map qH);rw[b2,g4,Jz,Jz,h.ks,h.c,List.map_map,List.map_map];exact List.map_congr_left fun x _=>qm8 _ x
 ·show (tk5 s).l.map nrm=(jI (td4 d) b).l.map nrm;rw[c3];show _=(jF (td3 d)).l.map nrm;rw[b3];exact g1
 ·show s.t+1=(jI (td4 d) b).t;rw[c4];show _=(jF (td3 d)).t;rw[b4,g5,h.t]
 ·show ((je (tk5 s).f b).b i).begun<=s.t+1;have hp:((je (tk5 s).f b).b i).begun=((tk5 s).f.b i).begun:=by
   unfold je
   split
   ·rfl
   ·unfold zx;simp only
    split<;>rfl
  rw[hp];have h1:=hbeg i hi;show ((zR (qJ s.c.quantum s.ks ((tk3 s).l,(tk3 s).f) s.ks.length).2 (s.t+1) (jP (tk4 s).l s.c.behind)).b i).begun<=_;unfold zR
  split
  ·omega
  ·simp only
   split
   ·simp
   ·omega
 ·unfold ZC;rw[h.ks,h.c,List.map_map];exact List.map_congr_left fun x _=>ql8 _ x
end
def xa (d:Dc)(n:Int):Nat->Dc
 | 0=>d
 | k+1=>match d.l[k]? with
  | some x=>if x.cl=n then zw (xa d n k) x else xa d n k
  | none=>xa d n k
def Qr (l:List Srf)(n:Int)(k:Nat):List Srf:=(l.take k).filter (fun x=>!(x.cl == n))++l.drop k
def jV (d:Dc)(n:Int)(k:Nat):Dc:={xa d n k with l:=Qr d.l n k}
def yj (d:Dc)(n:Nat):Dc:={jV {d with ks:=d.ks.set n none} n d.l.length with marks:=zT n (jV {d with ks:=d.ks.set n none} n d.l.length).marks,wait:=zT n (jV {d with ks:=d.ks.set n none} n d.l.length).wait}
theorem Zu (d:Dc)(n:Int):∀ k,(xa d n k).c=d.c/\(xa d n k).ks=d.ks/\(xa d n k).t=d.t/\(xa d n k).l=d.l/\(xa d n k).marks=d.marks/\(xa d n k).wait=d.wait
 | 0=>⟨rfl,rfl,rfl,rfl,rfl,rfl⟩
 | k+1=>by
  have ih:=Zu d n k;unfold xa
  split
  ·split
   ·exact ih
   ·exact ih
  ·exact ih
theorem JK (n:Int):∀ (l m:List Srf),l.map nrm=m.map nrm->(l.filter fun x=>!(x.cl == n)).map nrm=(m.filter fun x=>!(x.cl == n)).map nrm
 | [],[],_=>rfl
 | [],b::m,h=>by simp at h
 | a::l,[],h=>by simp at h
 | a::l,b::m,h=>by
  simp only[List.map_cons,List.cons.injEq] at h;obtain⟨q1,-⟩:=kg h.1;have ih:=JK n l m h.2;rw[List.filter_cons,List.filter_cons,q1]
  split
  ·rw[List.map_cons,List.map_cons,h.1,ih]
  ·exact ih
theorem FR.forget {f:Frs}{d:Dc}(h:FR f d)(n:Int):FR (ji f n) {d with marks:=zT n d.marks,wait:=zT n d.wait}:=by
 refine⟨h.W,h.H,h.st,h.front,h.due,?_,?_,fun g hg=>?_,fun hg=>?_,h.ord,h.top,h.shown⟩
 ·show zT n d.wait=zT n f.marks;rw[h.wait]
 ·show d.pnt=(f.frame.map _).isSome;rw[h.pnt]
  cases f.frame<;>rfl
 ·have hg':f.frame.map (fun g=>({g with marks:=zT n g.marks}:Frm))=some g:=hg
  cases hf:f.frame with
  | none=>rw[hf] at hg';simp at hg'
  | some g0=>
   rw[hf] at hg';simp only[Option.map_some,Option.some.injEq] at hg';subst hg';obtain⟨h1,h2,h3,h4,h5⟩:=h.frm g0 hf;exact⟨h1,h2,by show zT n d.marks=zT n g0.marks;rw[h3],h4,h5⟩
 ·have hg':f.frame.map (fun g=>({g with marks:=zT n g.marks}:Frm))=none:=hg;have hf:f.frame=none:=(by simpa using hg');show zT n d.marks=[];rw[h.nof hf]
  rfl
theorem XH {f:Frs}{d:Dc}{D:Nat}{l:List Srf}(n:Int)(hl:l.map nrm=d.l.map nrm)(hF:FR f d)(hB:FrB D f):∀ k,k<=l.length->FR (zX f (((l.take k).filter fun x=>x.cl == n).flatMap jf)) (xa d n k)
 | 0,_=>hF
 | k+1,hk=>by
  have ih:=XH n hl hF hB k (by omega);obtain⟨s,hs⟩:∃ s,l[k]?=some s:=⟨l[k],by simp⟩;obtain⟨s',hs',hn⟩:∃ s',d.l[k]?=some s'/\nrm s=nrm s':=by
   have:=congrArg (fun q=>q[k]?) hl;simp only[List.getElem?_map,hs,Option.map_some] at this
   cases hq:d.l[k]? with
   | none=>rw[hq] at this;simp at this
   | some s'=>
    rw[hq] at this;simp only[Option.map_some,Option.some.injEq] at this;exact⟨s',rfl,this⟩
  obtain⟨q1,-⟩:=kg hn;have e1:l.take (k+1)=l.take k++[s]:=(by rw[List.take_add_one,hs];rfl);have e2:xa d n (k+1)=if s'.cl=n then zw (xa d n k) s' else xa d n k:=by
   show (match d.l[k]? with | some x=>if x.cl=n then zw (xa d n k) x else xa d n k | none=>xa d n k)=_;rw[hs']
  rw[e1,e2,List.filter_append,List.flatMap_append,XS]
  by_cases hc:s'.cl=n
  ·have e3:[s].filter (fun x=>x.cl == n)=[s]:=(by simp[q1,hc]);rw[if_pos hc,e3];simp only[List.flatMap_cons,List.flatMap_nil,List.append_nil];refine ih.dam (hB.dam (yF _ _)) _ _ fun x y=>?_;unfold jf;rw[vD,jD,YN,yv hn];simp
  ·have e3:[s].filter (fun x=>x.cl == n)=[]:=(by simp[q1,hc]);rw[if_neg hc,e3];exact ih
theorem qv3 {s:qY}{d:Dc}{D:Nat}(h:DR s d)(hO:jg D s)(k:Nat):DR (yi s k) (yj d k):=by
 have hlen:d.l.length=s.l.length:=(by have:=congrArg List.length h.l;simpa using this.symm);have hr:=XH (d:={d with ks:=d.ks.set k none}) (k:Int) h.l (h.f.kss _) hO.st.fr s.l.length (zzl _);rw[List.take_length] at hr;obtain⟨k1,k2,k3,k4,k5,k6⟩:=Zu {d with ks:=d.ks.set k none} (k:Int) s.l.length;refine⟨?_,?_,?_,?_,?_,fun i hi=>?_⟩
 ·show s.c=(xa {d with ks:=d.ks.set k none} (k:Int) d.l.length).c;rw[hlen,k1];exact h.c
 ·show s.ks.set k none=(xa {d with ks:=d.ks.set k none} (k:Int) d.l.length).ks.map (Option.map qH);rw[hlen,k2,List.map_set,<-h.ks];rfl
 ·show (s.l.filter fun x=>!(x.cl == (k:Int))).map nrm=(Qr d.l (k:Int) d.l.length).map nrm;unfold Qr;rw[List.take_length,List.drop_length,List.append_nil];exact JK _ _ _ h.l
 ·unfold yj;rw[hlen];exact (hr.ls (Qr d.l (k:Int) s.l.length)).forget (k:Int)
 ·show s.t=(xa {d with ks:=d.ks.set k none} (k:Int) d.l.length).t;rw[hlen,k3];exact h.t
 ·show ((zX s.f _).b i).begun<=s.t;rw[Z6];exact h.beg i hi
theorem XM {α β:Type}(g:α->β):∀ l:List (Option α),qC (l.map (Option.map g))=qC l
 | []=>rfl
 | none::l=>rfl
 | some a::l=>by
  show (qC (l.map (Option.map g))).map (· + 1)=(qC l).map (· + 1);rw[XM g l]
theorem qw1 {s:qY}{d:Dc}(h:DR s d)(k:Nat):DR {s with ks:=s.ks.set k (some (yS s.c))} {d with ks:=d.ks.set k (some (yS d.c))}:=by
 refine⟨h.c,?_,h.l,h.f.kss _,h.t,h.beg⟩;show s.ks.set k (some (yS s.c))=(d.ks.set k (some (yS d.c))).map (Option.map qH);rw[List.map_set,<-h.ks,h.c]
 rfl
theorem firstD {s:qY}{d:Dc}(h:DR s d):qC s.ks=qC d.ks:=by rw[h.ks];exact XM _ _
def Ji (k:Cli)(ops:List Opn):Cli:={k with q:=k.q++[ops],own:=(qR k.own ops).getD k.own}
theorem Ka (k:Cli)(ops:List Opn):qH (Ji k ops)=X5 (qH k) ops:=by
 unfold qH Ji X5;simp only[List.map_append,List.map_cons,List.map_nil]
theorem JV (c:Cfg)(k:Cli)(ops:List Opn):qL c (qH k) ops=qL c k ops:=by
 unfold qL qH;simp only[List.length_map]
theorem qc9 {s:qY}{d:Dc}(h:DR s d){i:Nat}{k:Cli}(hk:d.ks[i]?=some (some k))(ops:List Opn):s.ks[i]?=some (some (qH k))/\DR {s with ks:=s.ks.set i (some (X5 (qH k) ops))} {d with ks:=d.ks.set i (some (Ji k ops))}:=by
 refine⟨by rw[h.ks,List.getElem?_map,hk];rfl,h.c,?_,h.l,h.f.kss _,h.t,h.beg⟩;show s.ks.set i _=(d.ks.set i (some (Ji k ops))).map (Option.map qH);rw[List.map_set,<-h.ks,<-Ka]
 rfl
def Vj (c:Cfg):Dc:={c:=c,ks:=List.replicate c.clients.toNat none,l:=[],p:=fun _=>List.replicate (c.w.toNat*c.h.toNat) c.behind,st:=fun _=>List.replicate (c.w.toNat*c.h.toNat) false,fn:=fun _=>0,front:=0,pnt:=false,tgt:=0,left:=0,fp:=[],marks:=[],wait:=[],frames:=0,ch:=false,t:=0}
theorem zb0 (c:Cfg):DR (xZ c) (Vj c):=by
 refine⟨rfl,?_,rfl,⟨rfl,rfl,fun i hi=>rfl,rfl,rfl,rfl,rfl,fun g hg=>(by cases hg),fun _=>rfl,fun i j hi hj=>?_,fun i hi=>Int.le_refl _,rfl⟩,rfl,fun i hi=>Int.le_refl _⟩
 ·show List.replicate _ none=(List.replicate _ none).map _;rw[List.map_replicate];rfl
 ·show (0:Int)<0↔(0:Int)<0;exact Iff.rfl
def sval (s:Srf)(pv:Value):Value:=.agg #[.int .i64 s.cl,.int .i64 s.num,.int .i64 s.x,.int .i64 s.y,.int .i64 s.w,.int .i64 s.h,pv,.int .i64 s.dx,.int .i64 s.dy,.int .i64 s.left]
theorem zc0 (U:Nat->Prop)(s:Srf)(hs:xq s)(po:Option Addr)(pc:Nat)(c r:Int)(hc:0<=c/\c<=1000)(hr:0<=r/\r<=1000)(w:World)(hR:RdN U w (.slice po s.px.length pc) s.px) :
 Calls Tryz.prog 111 #[sval s (.slice po s.px.length pc),.int .i64 c,.int .i64 r] w fun e w'=>e=.returned (.int .i64 (zC s c r))/\Below w.heap.size w w':=by
 obtain⟨w0,w8,h0,h8,hpx,xb,yb⟩:=hs;have e1:IntKind.i64.wrap (c-s.x)=c-s.x:=(by rw[IntKind.wrap_i64];omega);have e2:IntKind.i64.wrap (r-s.y)=r-s.y:=(by rw[IntKind.wrap_i64];omega);unfold sval
 by_cases hcov:xE s c r=true
 ·have hb:=hcov;unfold xE at hb;simp only[Bool.and_eq_true,decide_eq_true_eq] at hb;obtain⟨⟨⟨b1,b2⟩,b3⟩,b4⟩:=hb;obtain⟨m1,m2,m3,m4⟩:=mul8 b2 b4 b1 b3 h8 w8;obtain⟨j,hj⟩:∃ j:Nat,(r-s.y)*s.w+(c-s.x)=j:=⟨((r-s.y)*s.w+(c-s.x)).toNat,by omega⟩;have e3:IntKind.i64.wrap ((r-s.y)*s.w)=(r-s.y)*s.w:=(by rw[IntKind.wrap_i64];omega);have e4:IntKind.i64.wrap ((r-s.y)*s.w+(c-s.x))=(j:Int):=(by rw[IntKind.wrap_i64];omega);have hjl:j<s.px.length:=(by omega);obtain⟨z,hz⟩:∃ z,s.px[j]?=some z:=⟨s.px[j],by simp[hjl]⟩;have ep:zC s c r=z:=(by unfold zC;rw[if_pos hcov,hj,Int.toNat_natCast,List.getD_eq_getElem?_getD,hz];rfl);rw[ep];obtain⟨ao,cap,ee,_,_,h3⟩:=hR;simp only[Value.slice.injEq,true_and] at ee;obtain⟨rfl,rfl⟩:=ee;obtain⟨b,off,rfl,_,hbl,qF⟩:=h3 (by intro e;rw[e] at hjl;simp at hjl);have c0:=qF j z hz;have i0:(0:Int)<=(j:Int):=(by omega);have i1:(j:Int)<(s.px.length:Int):=(by omega);have n1:¬c-s.x<0:=(by omega);have n2:¬r-s.y<0:=(by omega);have n3:¬s.w<=c-s.x:=(by omega);have n4:¬s.h<=r-s.y:=(by omega);clear h3 qF hz ep hcov hj m1 m2 m3 m4 hpx xb yb b1 b2 b3 b4 hc hr
  go_enter Tryz.func111,Tryz.ntmps111
  go_wp2;go_ret;exact⟨rfl,(Below.refl _ w).alloc (zzl _) _⟩
 ·have ep:zC s c r=0:=(by unfold zC;rw[if_neg hcov]);rw[ep];have hno:c-s.x<0\/r-s.y<0\/s.w<=c-s.x\/s.h<=r-s.y:=by
   unfold xE at hcov;simp only[Bool.and_eq_true,decide_eq_true_eq] at hcov;omega
  clear ep hcov hpx xb yb hc hr hR
  by_cases n1:c-s.x<0
  ·clear hno
   go_enter Tryz.func111,Tryz.ntmps111
   go_wp2;go_ret;exact⟨rfl,(Below.refl _ w).alloc (zzl _) _⟩
  ·by_cases n2:r-s.y<0
   ·clear hno
    go_enter Tryz.func111,Tryz.ntmps111
    go_wp2;go_ret;exact⟨rfl,(Below.refl _ w).alloc (zzl _) _⟩
   ·by_cases n3:s.w<=c-s.x
    ·clear hno
     go_enter Tryz.func111,Tryz.ntmps111
     go_wp2;go_ret;exact⟨rfl,(Below.refl _ w).alloc (zzl _) _⟩
    ·have n4:s.h<=r-s.y:=(by omega);clear hno
     go_enter Tryz.func111,Tryz.ntmps111
     go_wp2;go_ret;exact⟨rfl,(Below.refl _ w).alloc (zzl _) _⟩
def zA (p:Srf×Value):List Value:=[.int .i64 p.1.cl,.int .i64 p.1.num,.int .i64 p.1.x,.int .i64 p.1.y,.int .i64 p.1.w,.int .i64 p.1.h,p.2,.int .i64 p.1.dx,.int .i64 p.1.dy,.int .i64 p.1.left]
def qQ (l:List (Srf×Value)):List Value:=l.flatMap zA
theorem v7 (l:List (Srf×Value)):(qQ l).length=l.length*10:=by
 induction l with
 | nil=>rfl
 | cons r l ih=>show (zA r++qQ l).length=_;rw[List.length_append,ih];simp[zA];omega
theorem zY:∀ (l:List (Srf×Value))(j:Nat)(m:Srf×Value),l[j]?=some m->∀ t,t<10->(qQ l)[j*10+t]?=(zA m)[t]?
 | [],j,r,h=>by simp at h
 | q::l,0,r,h=>by
  intro t ht;simp at h;subst h;show (zA q++qQ l)[0*10+t]?=_;rw[List.getElem?_append_left (by simp[zA];omega)]
  congr 1;omega
 | q::l,j+1,r,h=>by
  intro t ht;have ih:=zY l j r (by simpa using h) t ht;show (zA q++qQ l)[(j+1)*10+t]?=_;rw[List.getElem?_append_right (by simp[zA];omega),<-ih]
  congr 1
  simp[zA];omega
structure xv (U:Nat->Prop)(w:World)(base:Nat)(v:Value)(l:List (Srf×Value)):Prop where
 own:w.ownsRow base 128 10 v l.length (qQ l)
 px:∀ p∈l,∃ po pc,p.2=.slice po p.1.px.length pc/\RdN U w (.slice po p.1.px.length pc) p.1.px
 ok:∀ p∈l,xq p.1
def JI (l:List (Srf×Value))(c n:Int):Option Nat:=l.findIdx? (fun p=>decide (p.1.cl=c)&&decide (p.1.num=n))
theorem JG (l:List (Srf×Value))(c n:Int)(k:Nat)(p:Srf×Value)(hb:∀ (i:Nat)(p:Srf×Value),i<k->l[i]?=some p->(decide (p.1.cl=c)&&decide (p.1.num=n))=false)(hp:l[k]?=some p)(ht:(decide (p.1.cl=c)&&decide (p.1.num=n))=true):JI l c n=some k:=by
 unfold JI;rw[List.findIdx?_eq_some_iff_getElem];obtain⟨hk1,hk2⟩:=zzg hp;refine⟨hk1,by rw[hk2];exact ht,fun j hj=>?_⟩;have:=hb j (l[j]'(by omega)) hj (by simp);simp only[this];decide
theorem qa2 (l:List (Srf×Value))(c n:Int)(hb:∀ (i:Nat)(p:Srf×Value),l[i]?=some p->(decide (p.1.cl=c)&&decide (p.1.num=n))=false):JI l c n=none:=by
 unfold JI;rw[List.findIdx?_eq_none_iff];intro x hx;obtain⟨i,hi⟩:=List.mem_iff_getElem?.1 hx;exact hb i x hi
theorem JH {l:List (Srf×Value)}{c n:Int}{k:Nat}{p:Srf×Value}(hb:∀ (i:Nat)(p:Srf×Value),i<k->l[i]?=some p->(decide (p.1.cl=c)&&decide (p.1.num=n))=false)(hp:l[k]?=some p)(hf:(decide (p.1.cl=c)&&decide (p.1.num=n))=false):∀ (i:Nat)(p:Srf×Value),i<k+1->l[i]?=some p->(decide (p.1.cl=c)&&decide (p.1.num=n))=false:=fun i q hi hq=>by
 rcases Nat.lt_or_ge i k with h | h
 ·exact hb i q h hq
 ·have e:i=k:=(by omega);subst e;rw[hp] at hq
  cases hq
  exact hf
theorem qu3 {U:Nat->Prop}{w:World}{base sp:Nat}{v:Value}{l:List (Srf×Value)}(h:xv U w base v l)(h9:w.cell? ⟨sp,9,none⟩=some v)(hl:l.length<=1000)(c n:Int) :
 Calls Tryz.prog 143 #[.pointer (some ⟨sp,0,none⟩),.int .i64 c,.int .i64 n] w fun e w'=>(∃ k:Int,e=.returned (.int .i64 k)/\((JI l c n=none/\k=-1)\/∃ j:Nat,JI l c n=some j/\k=j))/\Below w.heap.size w w':=by
 obtain⟨vo,vc,rfl⟩:=qr h.own;have hsp:sp<w.heap.size:=World.block_lt_of_cell? w _ h9;have HO:=qg h;clear h
 go_enter Tryz.func143,Tryz.ntmps143
 go_wp2
 go_loopw [7] (fun i wr=>∃ k:Nat,k<=l.length/\i=.int .i64 k/\Below w.heap.size w wr/\∀ (i:Nat)(p:Srf×Value),i<k->l[i]?=some p->(decide (p.1.cl=c)&&decide (p.1.num=n))=false) (fun i _=>l.length-(intOf i).toNat)
 case atStart=>exact⟨0,Nat.zero_le _,rfl,Below.refl _ _,fun i p hi=>by omega⟩
 case round=>
  rename World=>wq;obtain⟨k,hk,rfl,hbel,hall⟩:=hrel;have d9:=(hbel.cell (p:=⟨sp,9,none⟩) hsp).trans h9;have hall':=qg hall;clear hall
  by_cases hlt:k<l.length
  ·obtain⟨p,hp⟩:∃ p,l[k]?=some p:=⟨l[k],by simp[hlt]⟩;have hown:=qi (S:=fun _=>False) (qb HO).own (.of_below hbel) (fun _ _ c=>c);obtain⟨g,rfl⟩:∃ g,vo=some ⟨g,0,none⟩:=by
    rcases hown.2 with ⟨e,e2⟩ | ⟨g,cap,cur,e,_⟩
    ·omega
    ·simp only[Value.slice.injEq] at e;exact⟨g,e.1⟩
   have a0:wq.cell? ⟨g,k*10,none⟩=some (.int .i64 p.1.cl):=by
    have:=zY l k p hp 0 (by omega);rw[Nat.add_zero] at this;rw[World.ownsRow.cellAt hown _ (by omega),this];rfl
   have a1:wq.cell? ⟨g,k*10+1,none⟩=some (.int .i64 p.1.num):=by
    rw[World.ownsRow.cellAt hown _ (by omega),zY l k p hp 1 (by omega)];rfl
   have i0:(0:Int)<=(k:Int):=(by omega);have i1:(k:Int)<(l.length:Int):=(by omega);have HP:=qg hp;have HB:=qg hbel;clear hown hp hbel
   by_cases q1:p.1.cl=c
   ·by_cases q2:p.1.num=n
    ·have b1:(p.1.cl == c)=true:=(by simp[q1]);have b2:(p.1.num == n)=true:=(by simp[q2]);have HJ:=qg (JG l c n k p (qb hall') (qb HP) (by simp[q1,q2]));clear q1 q2;go_wp2;go_ret;exact⟨⟨k,rfl,.inr ⟨k,qb HJ,rfl⟩⟩,qb HB⟩
    ·have b1:(p.1.cl == c)=true:=(by simp[q1]);have b2:(p.1.num == n)=false:=(by simpa using q2);have HF:Hid ((decide (p.1.cl=c)&&decide (p.1.num=n))=false):=(by show _=_;simp[q2]);clear q1 q2;go_wp2
     go_roundw
     case rel=>exact⟨k+1,by omega,by go_num,qb HB,JH (qb hall') (qb HP) (qb HF)⟩
     case measure=>simp[intOf];omega
   ·have b1:(p.1.cl == c)=false:=(by simpa using q1);have HF:Hid ((decide (p.1.cl=c)&&decide (p.1.num=n))=false):=(by show _=_;simp[q1]);clear q1;go_wp2
    go_roundw
    case rel=>exact⟨k+1,by omega,by go_num,qb HB,JH (qb hall') (qb HP) (qb HF)⟩
    case measure=>simp[intOf];omega
  ·have HB:=qg hbel;have hkl:k=l.length:=(by omega);have HN:=qg (qa2 l c n (fun i p hp=>(qb hall') i p (by have:=(zzg hp).1;omega) hp));clear hbel;go_wp2;go_ret;exact⟨⟨-1,rfl,.inl ⟨qb HN,rfl⟩⟩,qb HB⟩
theorem vO (s:Srf)(W k:Nat)(st:List Bool):(qV s W k st).length=st.length:=by simp[qV]
theorem yp (s:Srf)(W:Nat)(st:List Bool):qV s W 0 st=st:=by
 apply List.ext_getElem?;intro i;simp[qV]
theorem zN {s:Srf}{W k:Nat}{st:List Bool}(h:VC s W k=false):qV s W (k+1) st=qV s W k st:=by
 apply List.ext_getElem?;intro i;simp only[qV,List.getElem?_mapIdx]
 cases st[i]? with
 | none=>rfl
 | some b=>
  simp only[Option.map_some,Option.some.injEq]
  by_cases e:i=k
  ·subst e;simp[h]
  ·have:decide (i<k+1)=decide (i<k):=by
    by_cases c:i<k
    ·simp[c];omega
    ·simp[c];omega
   rw[this]
theorem yX {s:Srf}{W k:Nat}{st:List Bool}(h:VC s W k=true):qV s W (k+1) st=(qV s W k st).set k true:=by
 apply List.ext_getElem?;intro i
 by_cases e:i=k
 ·subst e
  by_cases hl:i<st.length
  ·rw[List.getElem?_set_self (by rw[vO];exact hl)];simp[qV,List.getElem?_mapIdx,hl,h]
  ·rw[List.getElem?_eq_none (by rw[vO];omega),List.getElem?_eq_none (by rw[List.length_set,vO];omega)]
 ·rw[List.getElem?_set_ne (Ne.symm e)];simp only[qV,List.getElem?_mapIdx]
  cases st[i]? with
  | none=>rfl
  | some b=>
   simp only[Option.map_some,Option.some.injEq];have:decide (i<k+1)=decide (i<k):=by
    by_cases c:i<k
    ·simp[c];omega
    ·simp[c];omega
   rw[this]
theorem vG (s:Srf)(W k:Nat):Q7 s W (k+1)=(Q7 s W k||VC s W k):=by
 simp[Q7,List.range_succ,List.any_append]
structure Dmg (w:World)(base sp:Nat)(cs:Array Value)(W H g0 g1 g2:Nat)(s0 s1 s2:List Bool)(ch:Bool):Prop where
 blk:w.heap[sp]?=some (.cells cs 121)
 size:cs.size=29
 cw:cs[0]?=some (.int .i64 W)
 chh:cs[1]?=some (.int .i64 H)
 v0:cs[11]?=some (.slice (some ⟨g0,0,none⟩) (W*H) (W*H))
 v1:cs[14]?=some (.slice (some ⟨g1,0,none⟩) (W*H) (W*H))
 v2:cs[17]?=some (.slice (some ⟨g2,0,none⟩) (W*H) (W*H))
 cc:cs[27]?=some (.bool ch)
 o0:ze w base (.slice (some ⟨g0,0,none⟩) (W*H) (W*H)) s0
 o1:ze w base (.slice (some ⟨g1,0,none⟩) (W*H) (W*H)) s1
 o2:ze w base (.slice (some ⟨g2,0,none⟩) (W*H) (W*H)) s2
 l0:s0.length=W*H
 l1:s1.length=W*H
 l2:s2.length=W*H
 n01:g0≠g1
 n02:g0≠g2
 n12:g1≠g2
def Z8 (cs cs':Array Value):Prop:=∀ i,i≠27->cs'[i]?=cs[i]?
theorem Dmg.below {w w':World}{base sp:Nat}{cs:Array Value}{W H g0 g1 g2:Nat}{s0 s1 s2:List Bool}{ch:Bool}(h:Dmg w base sp cs W H g0 g1 g2 s0 s1 s2 ch)(hb:Below w.heap.size w w'):Dmg w' base sp cs W H g0 g1 g2 s0 s1 s2 ch:=
 ⟨(hb.block _ (qh h.blk)).trans h.blk,h.size,h.cw,h.chh,h.v0,h.v1,h.v2,h.cc,zm h.o0 hb,zm h.o1 hb,zm h.o2 hb,h.l0,h.l1,h.l2,h.n01,h.n02,h.n12⟩
theorem Dmg.gs {w:World}{base sp:Nat}{cs:Array Value}{W H g0 g1 g2:Nat}{s0 s1 s2:List Bool}{ch:Bool}(h:Dmg w base sp cs W H g0 g1 g2 s0 s1 s2 ch):sp≠g0/\sp≠g1/\sp≠g2:=
 ⟨fun e=>qq h.o0 h.blk (by decide) (by rw[e];rfl),fun e=>qq h.o1 h.blk (by decide) (by rw[e];rfl),fun e=>qq h.o2 h.blk (by decide) (by rw[e];rfl)⟩
theorem Dmg.put0 {w:World}{base sp:Nat}{cs:Array Value}{W H g0 g1 g2:Nat}{s0 s1 s2:List Bool}{ch:Bool}(h:Dmg w base sp cs W H g0 g1 g2 s0 s1 s2 ch)(k:Nat)(b:Bool):Dmg (w.setCell ⟨g0,k,none⟩ (.bool b)) base sp cs W H g0 g1 g2 (s0.set k b) s1 s2 ch:=
 ⟨qu h.blk h.gs.1 _,h.size,h.cw,h.chh,h.v0,h.v1,h.v2,h.cc,kc h.o0 h.l0.symm k b,ownsRow_setCell_other h.o1 (by simp[Value.ownBlock];exact h.n01.symm) _,ownsRow_setCell_other h.o2 (by simp[Value.ownBlock];exact h.n02.symm) _,by rw[List.length_set];exact h.l0,h.l1,h.l2,h.n01,h.n02,h.n12⟩
theorem Dmg.put1 {w:World}{base sp:Nat}{cs:Array Value}{W H g0 g1 g2:Nat}{s0 s1 s2:List Bool}{ch:Bool}(h:Dmg w base sp cs W H g0 g1 g2 s0 s1 s2 ch)(k:Nat)(b:Bool):Dmg (w.setCell ⟨g1,k,none⟩ (.bool b)) base sp cs W H g0 g1 g2 s0 (s1.set k b) s2 ch:=
 ⟨qu h.blk h.gs.2.1 _,h.size,h.cw,h.chh,h.v0,h.v1,h.v2,h.cc,ownsRow_setCell_other h.o0 (by simp[Value.ownBlock];exact h.n01) _,kc h.o1 h.l1.symm k b,ownsRow_setCell_other h.o2 (by simp[Value.ownBlock];exact h.n12.symm) _,h.l0,by rw[List.length_set];exact h.l1,h.l2,h.n01,h.n02,h.n12⟩
theorem Dmg.put2 {w:World}{base sp:Nat}{cs:Array Value}{W H g0 g1 g2:Nat}{s0 s1 s2:List Bool}{ch:Bool}(h:Dmg w base sp cs W H g0 g1 g2 s0 s1 s2 ch)(k:Nat)(b:Bool):Dmg (w.setCell ⟨g2,k,none⟩ (.bool b)) base sp cs W H g0 g1 g2 s0 s1 (s2.set k b) ch:=
 ⟨qu h.blk h.gs.2.2 _,h.size,h.cw,h.chh,h.v0,h.v1,h.v2,h.cc,ownsRow_setCell_other h.o0 (by simp[Value.ownBlock];exact h.n02) _,ownsRow_setCell_other h.o1 (by simp[Value.ownBlock];exact h.n12) _,kc h.o2 h.l2.symm k b,h.l0,h.l1,by rw[List.length_set];exact h.l2,h.n01,h.n02,h.n12⟩
theorem Dmg.chg {w:World}{base sp:Nat}{cs:Array Value}{W H g0 g1 g2:Nat}{s0 s1 s2:List Bool}{ch:Bool}(h:Dmg w base sp cs W H g0 g1 g2 s0 s1 s2 ch)(b:Bool):Dmg (w.setCell ⟨sp,27,none⟩ (.bool b)) base sp (cs.setIfInBounds 27 (.bool b)) W H g0 g1 g2 s0 s1 s2 b/\Z8 cs (cs.setIfInBounds 27 (.bool b)):=by
 have ne:∀ i,i≠27->(cs.setIfInBounds 27 (.bool b))[i]?=cs[i]?:=fun i hi=>by rw[Array.getElem?_setIfInBounds_ne (Ne.symm hi)]
 refine⟨⟨qp (i:=27) h.blk _,by simp[h.size],(ne 0 (by decide)).trans h.cw,(ne 1 (by decide)).trans h.chh,(ne 11 (by decide)).trans h.v0,(ne 14 (by decide)).trans h.v1,(ne 17 (by decide)).trans h.v2,?_,ownsRow_setCell_other h.o0 (by simp[Value.ownBlock];exact h.gs.1.symm) _,ownsRow_setCell_other h.o1 (by simp[Value.ownBlock];exact h.gs.2.1.symm) _,ownsRow_setCell_other h.o2 (by simp[Value.ownBlock];exact h.gs.2.2.symm) _,h.l0,h.l1,h.l2,h.n01,h.n02,h.n12⟩,ne⟩;rw[Array.getElem?_setIfInBounds_self_of_lt (by rw[h.size];decide)]
structure vJ (w wr:World)(base sp:Nat)(cs:Array Value)(W H g0 g1 g2:Nat)(s0 s1 s2:List Bool)(ch:Bool)(xs:Array Value):Prop where
 st:∃ cs',Dmg wr base sp cs' W H g0 g1 g2 s0 s1 s2 ch/\Z8 cs cs'
 but:But (fun k=>k=sp\/k=g0\/k=g1\/k=g2) w wr
 box:wr.heap[w.heap.size]?=some (.cells xs 128)
theorem vJ.upd {w wr:World}{base sp:Nat}{cs:Array Value}{W H g0 g1 g2:Nat}{s0 s1 s2:List Bool}{ch:Bool}{xs:Array Value}(h:vJ w wr base sp cs W H g0 g1 g2 s0 s1 s2 ch xs){q i:Nat}{u:Value}(hq:q=sp\/q=g0\/q=g1\/q=g2)(hl:q<w.heap.size):But (fun k=>k=sp\/k=g0\/k=g1\/k=g2) w (wr.setCell ⟨q,i,none⟩ u)/\(wr.setCell ⟨q,i,none⟩ u).heap[w.heap.size]?=some (.cells xs 128):=
 ⟨h.but.setCell (p:=⟨q,i,none⟩) (.inl hq) _,qu h.box (by simp;omega) _⟩
theorem vJ.drewN {w wr:World}{base sp:Nat}{cs:Array Value}{W H g0 g1 g2:Nat}{s0 s1 s2:List Bool}{ch:Bool}{xs:Array Value}(h:vJ w wr base sp cs W H g0 g1 g2 s0 s1 s2 ch xs)(n:Nat):vJ w (wr.drewN n) base sp cs W H g0 g1 g2 s0 s1 s2 ch xs:=by
 obtain⟨cs',hD,hsb⟩:=h.st;exact⟨⟨cs',hD.below (below_drewN (Below.refl _ _) _),hsb⟩,h.but.drewN _,h.box⟩
theorem vJ.chg {w wr:World}{base sp:Nat}{cs:Array Value}{W H g0 g1 g2:Nat}{s0 s1 s2:List Bool}{ch:Bool}{xs:Array Value}(h:vJ w wr base sp cs W H g0 g1 g2 s0 s1 s2 ch xs)(n:Nat)(hl:sp<w.heap.size):vJ w ((wr.drewN n).setCell ⟨sp,27,none⟩ (.bool true)) base sp cs W H g0 g1 g2 s0 s1 s2 true xs:=by
 obtain⟨cs',hD,hsb⟩:=(h.drewN n).st;have hq:=hD.chg true;have hu:=(h.drewN n).upd (i:=27) (u:=.bool true) (.inl rfl) hl;exact⟨⟨_,hq.1,fun i hi=>(hq.2 i hi).trans (hsb i hi)⟩,hu.1,hu.2⟩
theorem vJ.at0 {w wr:World}{base sp:Nat}{cs:Array Value}{W H g0 g1 g2:Nat}{s0 s1 s2:List Bool}{ch:Bool}{xs:Array Value}(h:vJ w wr base sp cs W H g0 g1 g2 s0 s1 s2 ch xs)(k:Nat)(hl:g0<w.heap.size):vJ w (wr.setCell ⟨g0,k,none⟩ (.bool true)) base sp cs W H g0 g1 g2 (s0.set k true) s1 s2 ch xs:=by
 obtain⟨cs',hD,hsb⟩:=h.st;have hu:=h.upd (i:=k) (u:=.bool true) (.inr (.inl rfl)) hl;exact⟨⟨cs',hD.put0 k true,hsb⟩,hu.1,hu.2⟩
theorem vJ.at1 {w wr:World}{base sp:Nat}{cs:Array Value}{W H g0 g1 g2:Nat}{s0 s1 s2:List Bool}{ch:Bool}{xs:Array Value}(h:vJ w wr base sp cs W H g0 g1 g2 s0 s1 s2 ch xs)(k:Nat)(hl:g1<w.heap.size):vJ w (wr.setCell ⟨g1,k,none⟩ (.bool true)) base sp cs W H g0 g1 g2 s0 (s1.set k true) s2 ch xs:=by
 obtain⟨cs',hD,hsb⟩:=h.st;have hu:=h.upd (i:=k) (u:=.bool true) (.inr (.inr (.inl rfl))) hl;exact⟨⟨cs',hD.put1 k true,hsb⟩,hu.1,hu.2⟩
theorem vJ.at2 {w wr:World}{base sp:Nat}{cs:Array Value}{W H g0 g1 g2:Nat}{s0 s1 s2:List Bool}{ch:Bool}{xs:Array Value}(h:vJ w wr base sp cs W H g0 g1 g2 s0 s1 s2 ch xs)(k:Nat)(hl:g2<w.heap.size):vJ w (wr.setCell ⟨g2,k,none⟩ (.bool true)) base sp cs W H g0 g1 g2 s0 s1 (s2.set k true) ch xs:=by
 obtain⟨cs',hD,hsb⟩:=h.st;have hu:=h.upd (i:=k) (u:=.bool true) (.inr (.inr (.inr rfl))) hl;exact⟨⟨cs',hD.put2 k true,hsb⟩,hu.1,hu.2⟩
theorem qa9 {w:World}{base sp:Nat}{cs:Array Value}{W H g0 g1 g2:Nat}{s0 s1 s2:List Bool}{ch:Bool}(h:Dmg w base sp cs W H g0 g1 g2 s0 s1 s2 ch)(hW:1<=W/\W<=16)(hH:1<=H/\H<=16)(s:Srf)(hs:xq s)(po:Option Addr)(pn pc:Nat) :
 Calls Tryz.prog 48 #[.pointer (some ⟨sp,0,none⟩),sval s (.slice po pn pc)] w fun e w'=>e=.returned (.tuple #[])/\vJ w w' base sp cs W H g0 g1 g2 (qV s W (W*H) s0) (qV s W (W*H) s1) (qV s W (W*H) s2) (ch||Q7 s W (W*H)) #[.int .i64 s.cl,.int .i64 s.num,.int .i64 s.x,.int .i64 s.y,.int .i64 s.w,.int .i64 s.h,.slice po pn pc,.int .i64 s.dx,.int .i64 s.dy,.int .i64 s.left]:=by
 have hWH:W*H<=256:=by
  have:=Nat.mul_le_mul hW.2 hH.2;omega
 obtain⟨N,hN⟩:∃ N,N=W*H:=⟨_,rfl⟩;have hmul:IntKind.i64.wrap ((W:Int)*(H:Int))=(N:Int):=by
  rw[hN,IntKind.wrap_i64];have:((W:Int)*(H:Int))=((W*H:Nat):Int):=(by simp);rw[this];omega
 have HN:=qg hN;have hN256:N<=256:=(by omega);rw[<-hN];clear hN;have lsp:=qh h.blk;have lg0:=(World.ownsRow.lt h.o0 g0 rfl).2;have lg1:=(World.ownsRow.lt h.o1 g1 rfl).2;have lg2:=(World.ownsRow.lt h.o2 g2 rfl).2;have hd1:Dmg (w.alloc (.cells #[.int .i64 s.cl,.int .i64 s.num,.int .i64 s.x,.int .i64 s.y,.int .i64 s.w,.int .i64 s.h,.slice po pn pc,.int .i64 s.dx,.int .i64 s.dy,.int .i64 s.left] 128)) base sp cs W H g0 g1 g2 s0 s1 s2 ch:=h.below ((Below.refl _ w).alloc (zzl _) _);have HD1:=qg hd1;obtain⟨_,_,_,_,_,xb,yb⟩:=hs;unfold sval;clear h hd1
 go_enter Tryz.func48,Tryz.ntmps48
 go_wp2
 go_loopw [4] (fun i wr=>∃ k:Nat,k<=N/\i=.int .i64 k/\vJ w wr base sp cs W H g0 g1 g2 (qV s W k s0) (qV s W k s1) (qV s W k s2) (ch||Q7 s W k) #[.int .i64 s.cl,.int .i64 s.num,.int .i64 s.x,.int .i64 s.y,.int .i64 s.w,.int .i64 s.h,.slice po pn pc,.int .i64 s.dx,.int .i64 s.dy,.int .i64 s.left]) (fun i _=>N-(intOf i).toNat)
 case atStart=>
  refine⟨0,Nat.zero_le _,rfl,⟨cs,?_,fun _ _=>rfl⟩,.of_below ((Below.refl _ w).alloc (zzl _) _),qt _ _ _ rfl⟩;rw[yp,yp,yp];simpa[Q7] using qb HD1
 case round=>
  rename World=>wq;obtain⟨k,hk,rfl,hI⟩:=hrel;clear HD1;obtain⟨cs',hD,hsb⟩:=hI.st;have c0:wq.cell? ⟨sp,0,none⟩=some (.int .i64 (W:Int)):=(by rw[qe hD.blk];exact hD.cw);have c1:wq.cell? ⟨sp,1,none⟩=some (.int .i64 (H:Int)):=(by rw[qe hD.blk];exact hD.chh);have x2:wq.cell? ⟨w.heap.size,2,none⟩=some (.int .i64 s.x):=qe hI.box 2;have x3:wq.cell? ⟨w.heap.size,3,none⟩=some (.int .i64 s.y):=qe hI.box 3;have x4:wq.cell? ⟨w.heap.size,4,none⟩=some (.int .i64 s.w):=qe hI.box 4;have x5:wq.cell? ⟨w.heap.size,5,none⟩=some (.int .i64 s.h):=qe hI.box 5;have HI:=qg hI;have HD:=qg hD;have HSB:=qg hsb;clear hI hD hsb
  by_cases hlt:k<N
  ·have i1:(k:Int)<(N:Int):=(by omega);have nW:¬(W:Int)=0:=(by omega);have hqa:(0:Int)<=(k:Int)%(W:Int)/\(k:Int)%(W:Int)<16:=⟨Int.emod_nonneg _ nW,by have:=Int.emod_lt_of_pos (k:Int) (show (0:Int)<(W:Int) by omega);omega⟩;have hqb:(0:Int)<=(k:Int)/(W:Int)/\(k:Int)/(W:Int)<=256:=⟨Int.ediv_nonneg (by omega) (by omega),by have:=Int.ediv_le_self (W:Int) (show (0:Int)<=(k:Int) by omega);omega⟩;have e1:IntKind.i64.wrap ((k:Int)%(W:Int)-s.x)=(k:Int)%(W:Int)-s.x:=(by rw[IntKind.wrap_i64];omega);have e3:IntKind.i64.wrap ((k:Int)/(W:Int))=(k:Int)/(W:Int):=(by rw[IntKind.wrap_i64];omega);have e2:IntKind.i64.wrap ((k:Int)/(W:Int)-s.y)=(k:Int)/(W:Int)-s.y:=(by rw[IntKind.wrap_i64];omega);have ecov:VC s W k=(decide (0<=(k:Int)%(W:Int)-s.x)&&decide (0<=(k:Int)/(W:Int)-s.y)&&decide ((k:Int)%(W:Int)-s.x<s.w)&&decide ((k:Int)/(W:Int)-s.y<s.h)):=by
    unfold VC xE;rw[Int.natCast_emod,Int.natCast_ediv]
   clear hqa hqb xb yb
   by_cases hcov:VC s W k=true
   ·rw[hcov] at ecov;have hb:=ecov.symm;simp only[Bool.and_eq_true,decide_eq_true_eq] at hb;obtain⟨⟨⟨b1,b2⟩,b3⟩,b4⟩:=hb;have HC:=qg hcov;have c27:wq.cell? ⟨sp,27,none⟩=some (.bool (ch||Q7 s W k)):=(by rw[qe (qb HD).blk];exact (qb HD).cc);have cz:∀ t,wq.frozen? ⟨sp,t,none⟩=false:=qj (qb HD).blk;clear ecov hcov;go_wp2
    go_quiet (fail)
    go_wp2
    go_quiet (fail)
    go_wp2
    go_quiet (fail)
    go_wp2;have hI2:∀ n,vJ w ((wq.drewN n).setCell ⟨sp,27,none⟩ (.bool true)) base sp cs W H g0 g1 g2 (qV s W k s0) (qV s W k s1) (qV s W k s2) true #[.int .i64 s.cl,.int .i64 s.num,.int .i64 s.x,.int .i64 s.y,.int .i64 s.w,.int .i64 s.h,.slice po pn pc,.int .i64 s.dx,.int .i64 s.dy,.int .i64 s.left]:=fun n=>(qb HI).chg n lsp;have HI2:=qg hI2;clear hI2 c0 c1 x2 x3 x4 x5 c27 cz
    go_loopw [7] (fun b wr=>∃ j:Nat,j<=3/\b=.int .i64 j/\vJ w wr base sp cs W H g0 g1 g2 (if 0<j then (qV s W k s0).set k true else qV s W k s0) (if 1<j then (qV s W k s1).set k true else qV s W k s1) (if 2<j then (qV s W k s2).set k true else qV s W k s2) true #[.int .i64 s.cl,.int .i64 s.num,.int .i64 s.x,.int .i64 s.y,.int .i64 s.w,.int .i64 s.h,.slice po pn pc,.int .i64 s.dx,.int .i64 s.dy,.int .i64 s.left]) (fun b _=>3-(intOf b).toNat)
    case atStart=>exact⟨0,by omega,rfl,by simpa using (qb HI2) _⟩
    case round=>
     obtain⟨j,hj,rfl,hJ⟩:=hrel;clear HI2;obtain⟨cs2,hD2,hsb2⟩:=hJ.st;have hj4:j=0\/j=1\/j=2\/j=3:=(by omega);have ik0:(0:Int)<=(k:Int):=by omega
     rcases hj4 with rfl | rfl | rfl | rfl
     ·have v:wr.cell? ⟨sp,11,none⟩=some (.slice (some ⟨g0,0,none⟩) N N):=(by rw[qe hD2.blk,hD2.v0,<-qb HN]);obtain⟨u,hu⟩:∃ u,wr.cell? ⟨g0,k,none⟩=some u:=⟨_,xm hD2.o0 (List.getElem?_eq_getElem (by rw[hD2.l0,<-qb HN];omega))⟩;have uz:∀ t,wr.frozen? ⟨g0,t,none⟩=false:=fun t=>by
       have h1:=hD2.o0;unfold ze at h1;rw[hD2.l0] at h1;exact World.ownsRow.frozenAt h1 t
      have HJ:=qg hJ;clear hJ hD2 hsb2;go_wp2
      go_roundw
      case rel=>exact⟨0+1,by omega,by go_num,by simpa using (qb HJ).at0 k lg0⟩
      case measure=>simp[intOf]
     ·have v:wr.cell? ⟨sp,14,none⟩=some (.slice (some ⟨g1,0,none⟩) N N):=(by rw[qe hD2.blk,hD2.v1,<-qb HN]);obtain⟨u,hu⟩:∃ u,wr.cell? ⟨g1,k,none⟩=some u:=⟨_,xm hD2.o1 (List.getElem?_eq_getElem (by rw[hD2.l1,<-qb HN];omega))⟩;have uz:∀ t,wr.frozen? ⟨g1,t,none⟩=false:=fun t=>by
       have h1:=hD2.o1;unfold ze at h1;rw[hD2.l1] at h1;exact World.ownsRow.frozenAt h1 t
      have HJ:=qg hJ;clear hJ hD2 hsb2;go_wp2
      go_roundw
      case rel=>exact⟨1+1,by omega,by go_num,by simpa using (qb HJ).at1 k lg1⟩
      case measure=>simp[intOf]
     ·have v:wr.cell? ⟨sp,17,none⟩=some (.slice (some ⟨g2,0,none⟩) N N):=(by rw[qe hD2.blk,hD2.v2,<-qb HN]);obtain⟨u,hu⟩:∃ u,wr.cell? ⟨g2,k,none⟩=some u:=⟨_,xm hD2.o2 (List.getElem?_eq_getElem (by rw[hD2.l2,<-qb HN];omega))⟩;have uz:∀ t,wr.frozen? ⟨g2,t,none⟩=false:=fun t=>by
       have h1:=hD2.o2;unfold ze at h1;rw[hD2.l2] at h1;exact World.ownsRow.frozenAt h1 t
      have HJ:=qg hJ;clear hJ hD2 hsb2;go_wp2
      go_roundw
      case rel=>exact⟨2+1,by omega,by go_num,by simpa using (qb HJ).at2 k lg2⟩
      case measure=>simp[intOf]
     ·have HJ:=qg hJ;clear hJ hD2 hsb2;go_wp2
      go_roundw
      case rel=>
       refine⟨k+1,by omega,by go_num,?_⟩;rw[yX (qb HC),yX (qb HC),yX (qb HC),vG,qb HC,Bool.or_true,Bool.or_true];simpa using qb HJ
      case measure=>simp[intOf];omega
   ·have hno:¬((((0<=(k:Int)%(W:Int)-s.x)/\(0<=(k:Int)/(W:Int)-s.y))/\((k:Int)%(W:Int)-s.x<s.w))/\((k:Int)/(W:Int)-s.y<s.h)):=fun hh=>by
     apply hcov;rw[ecov];simp only[Bool.and_eq_true,decide_eq_true_eq];exact hh
    have HC:Hid (VC s W k=false):=(by show _=_;simpa using hcov);clear ecov hcov;have hn4:(k:Int)%(W:Int)-s.x<0\/(k:Int)/(W:Int)-s.y<0\/s.w<=(k:Int)%(W:Int)-s.x\/s.h<=(k:Int)/(W:Int)-s.y:=(by omega);clear hno
    by_cases b1:0<=(k:Int)%(W:Int)-s.x
    ·by_cases b2:0<=(k:Int)/(W:Int)-s.y
     ·by_cases b3:(k:Int)%(W:Int)-s.x<s.w
      ·have b4:¬(k:Int)/(W:Int)-s.y<s.h:=(by omega);clear hn4;go_wp2
       go_quiet (fail)
       go_wp2
       go_quiet (fail)
       go_wp2
       go_quiet (fail)
       go_wp2
       go_roundw
       case rel=>
        refine⟨k+1,by omega,by go_num,?_⟩;rw[zN (qb HC),zN (qb HC),zN (qb HC),vG,qb HC,Bool.or_false];exact (qb HI).drewN _
       case measure=>simp[intOf];omega
      ·clear hn4;go_wp2
       go_quiet (fail)
       go_wp2
       go_quiet (fail)
       go_wp2
       go_quiet (fail)
       go_wp2
       go_roundw
       case rel=>
        refine⟨k+1,by omega,by go_num,?_⟩;rw[zN (qb HC),zN (qb HC),zN (qb HC),vG,qb HC,Bool.or_false];exact (qb HI).drewN _
       case measure=>simp[intOf];omega
     ·clear hn4;go_wp2
      go_quiet (fail)
      go_wp2
      go_quiet (fail)
      go_wp2
      go_quiet (fail)
      go_wp2
      go_roundw
      case rel=>
       refine⟨k+1,by omega,by go_num,?_⟩;rw[zN (qb HC),zN (qb HC),zN (qb HC),vG,qb HC,Bool.or_false];exact (qb HI).drewN _
      case measure=>simp[intOf];omega
    ·clear hn4;go_wp2
     go_quiet (fail)
     go_wp2
     go_quiet (fail)
     go_wp2
     go_quiet (fail)
     go_wp2
     go_roundw
     case rel=>
      refine⟨k+1,by omega,by go_num,?_⟩;rw[zN (qb HC),zN (qb HC),zN (qb HC),vG,qb HC,Bool.or_false];exact (qb HI).drewN _
     case measure=>simp[intOf];omega
  ·obtain rfl:k=N:=(by omega);have i1:¬(k:Int)<(k:Int):=(by omega);go_wp2
   go_quiet (fail)
   go_wp2;go_end0;exact⟨rfl,(qb HI).drewN _⟩
def ZH (l:List (Srf×Value))(b c r:Int):Int:=l.foldl (fun a p=>if zC p.1 c r=0 then a else zC p.1 c r) b
def Ks (l:List (Srf×Value))(b:Int)(W i:Nat):Int:=ZH l b ((i%W:Nat):Int) ((i/W:Nat):Int)
theorem Kt {l:List (Srf×Value)}{k:Nat}{p:Srf×Value}(h:l[k]?=some p)(b c r:Int):ZH (l.take (k+1)) b c r=if zC p.1 c r=0 then ZH (l.take k) b c r else zC p.1 c r:=by
 unfold ZH;rw[List.take_add_one,h,List.foldl_append]
 rfl
theorem modW (k W:Nat)(h:1<=W/\W<=16):(0:Int)<=((k%W:Nat):Int)/\((k%W:Nat):Int)<=1000:=by
 have h1:=Nat.mod_lt k (show 0<W by omega);generalize k%W=a at *;omega
theorem divW (k W:Nat)(h:k<=256):(0:Int)<=((k/W:Nat):Int)/\((k/W:Nat):Int)<=1000:=by
 have h1:=Nat.div_le_self k W;generalize k/W=a at *;omega
structure VN (w wr:World)(N:Nat)(cur:List Int):Prop where
 bel:Below w.heap.size w wr
 blk:wr.heap[w.heap.size]?=some (.cells (cur.map (Value.int .i64)).toArray 3)
 len:cur.length=N
theorem VN.below {w wr w':World}{N:Nat}{cur:List Int}(h:VN w wr N cur)(hb:Below wr.heap.size wr w'):VN w w' N cur:=
 ⟨h.bel.trans (hb.mono h.bel.size),(hb.block _ (qh h.blk)).trans h.blk,h.len⟩
theorem VN.put {w wr:World}{N:Nat}{cur:List Int}(h:VN w wr N cur)(k:Nat)(z:Int):VN w (wr.setCell ⟨w.heap.size,k,none⟩ (.int .i64 z)) N (cur.set k z):=by
 refine⟨h.bel.setCell (p:=⟨w.heap.size,k,none⟩) (zzl _) _,?_,by rw[List.length_set];exact h.len⟩;have:=qp (i:=k) h.blk (.int .i64 z);rw[List.map_set];simpa using this
theorem ZG {U:Nat->Prop}{w:World}{base sp:Nat}{v:Value}{l:List (Srf×Value)}(h:xv U w base v l)(W H:Nat)(beh:Int)(h0:w.cell? ⟨sp,0,none⟩=some (.int .i64 (W:Int)))(h1:w.cell? ⟨sp,1,none⟩=some (.int .i64 (H:Int)))(h7:w.cell? ⟨sp,7,none⟩=some (.int .i64 beh))(h9:w.cell? ⟨sp,9,none⟩=some v)(hl:l.length<=1000)(hW:1<=W/\W<=16)(hH:1<=H/\H<=16) :
 Calls Tryz.prog 74 #[.pointer (some ⟨sp,0,none⟩)] w fun e w'=>e=.returned (.slice (some ⟨w.heap.size,0,none⟩) (W*H) (W*H))/\VN w w' (W*H) ((List.range (W*H)).map (Ks l beh W)):=by
 have hWH:W*H<=256:=by
  have:=Nat.mul_le_mul hW.2 hH.2;omega
 obtain⟨N,hN⟩:∃ N,N=W*H:=⟨_,rfl⟩;have hmul:IntKind.i64.wrap ((W:Int)*(H:Int))=(N:Int):=by
  rw[hN,IntKind.wrap_i64];have:((W:Int)*(H:Int))=((W*H:Nat):Int):=(by simp);rw[this];omega
 have hN256:N<=256:=(by omega);rw[<-hN];have hmk:=vx N (by omega);have hsp:sp<w.heap.size:=World.block_lt_of_cell? w _ h9;obtain⟨vo,vc,rfl⟩:=qr h.own;have HH:=qg h;have Hc0:=qg h0;have Hc7:=qg h7;have Hc9:=qg h9;clear h hN hWH
 go_enter Tryz.func74,Tryz.ntmps74
 go_wp2;go_region;go_wp2
 go_loopw [4] (fun i wr=>∃ k:Nat,k<=N/\i=.int .i64 k/\∃ cur,VN w wr N cur/\∀ i,i<k->cur[i]?=some (Ks l beh W i)) (fun i _=>N-(intOf i).toNat)
 case atStart=>exact⟨0,Nat.zero_le _,rfl,List.replicate N 0,⟨((Below.refl _ w).alloc (zzl _) _).drew,by rw[show ((List.replicate N (0:Int)).map (Value.int .i64)).toArray=Array.replicate N (Value.int .i64 0) by simp];exact qt _ _ _ rfl,by simp⟩,fun i hi=>by omega⟩
 case round=>
  rename World=>wq;obtain⟨k,hk,rfl,cur,hP,hcur⟩:=hrel
  by_cases hlt:k<N
  ·have f7:=(hP.bel.cell (p:=⟨sp,7,none⟩) hsp).trans (qb Hc7);obtain⟨u,hu⟩:∃ u,cur[k]?=some u:=⟨cur[k]'(by rw[hP.len];omega),by simp⟩;have fk:wq.cell? ⟨w.heap.size,k,none⟩=some (.int .i64 u):=(by rw[qe hP.blk];simp[hu]);have ff:∀ t,wq.frozen? ⟨w.heap.size,t,none⟩=false:=qj hP.blk;have i0:(0:Int)<=(k:Int):=(by omega);have i1:(k:Int)<(N:Int):=(by omega);have HP:=qg hP;have HC:=qg hcur;clear hP hcur h0 h1 h7 h9 hmul hmk hu;go_wp2
   go_loopw [5] (fun i wr=>∃ j:Nat,j<=l.length/\i=.int .i64 j/\∃ cur,VN w wr N cur/\(∀ i,i<k->cur[i]?=some (Ks l beh W i))/\cur[k]?=some (ZH (l.take j) beh ((k%W:Nat):Int) ((k/W:Nat):Int))) (fun i _=>l.length-(intOf i).toNat)
   case atStart=>
    refine⟨0,Nat.zero_le _,rfl,cur.set k beh,(qb HP).put k beh,fun i hi=>?_,?_⟩
    ·rw[List.getElem?_set_ne (by omega)];exact (qb HC) i hi
    ·rw[List.getElem?_set_self (by rw[(qb HP).len];exact hlt)];rfl
   case round=>
    rename World=>wp;clear HP HC f7 fk ff;obtain⟨j,hj,rfl,cur',hP,hcur,hck⟩:=hrel;have g9:=(hP.bel.cell (p:=⟨sp,9,none⟩) hsp).trans (qb Hc9);have g0:=(hP.bel.cell (p:=⟨sp,0,none⟩) hsp).trans (qb Hc0)
    by_cases hjl:j<l.length
    ·obtain⟨p,hp⟩:∃ p,l[j]?=some p:=⟨l[j],by simp[hjl]⟩;have hmem:=zzn hp;obtain⟨po,pc,epv,hpv⟩:=(qb HH).px p hmem;have hown:=qi (S:=fun _=>False) (qb HH).own (.of_below hP.bel) (fun _ _ c=>c);obtain⟨g,hg⟩:∃ g,vo=some ⟨g,0,none⟩:=by
      rcases hown.2 with ⟨e,e2⟩ | ⟨g,cap,cur,e,_⟩
      ·omega
      ·simp only[Value.slice.injEq] at e;exact⟨g,e.1⟩
     rw[hg] at hown g9;have a0:wp.cell? ⟨g,j*10,none⟩=some (.int .i64 p.1.cl):=by
      have:=zY l j p hp 0 (by omega);rw[Nat.add_zero] at this;rw[World.ownsRow.cellAt hown _ (by omega),this];rfl
     have a1:wp.cell? ⟨g,j*10+1,none⟩=some (.int .i64 p.1.num):=by
      rw[World.ownsRow.cellAt hown _ (by omega),zY l j p hp 1 (by omega)];rfl
     have a2:wp.cell? ⟨g,j*10+2,none⟩=some (.int .i64 p.1.x):=by
      rw[World.ownsRow.cellAt hown _ (by omega),zY l j p hp 2 (by omega)];rfl
     have a3:wp.cell? ⟨g,j*10+3,none⟩=some (.int .i64 p.1.y):=by
      rw[World.ownsRow.cellAt hown _ (by omega),zY l j p hp 3 (by omega)];rfl
     have a4:wp.cell? ⟨g,j*10+4,none⟩=some (.int .i64 p.1.w):=by
      rw[World.ownsRow.cellAt hown _ (by omega),zY l j p hp 4 (by omega)];rfl
     have a5:wp.cell? ⟨g,j*10+5,none⟩=some (.int .i64 p.1.h):=by
      rw[World.ownsRow.cellAt hown _ (by omega),zY l j p hp 5 (by omega)];rfl
     have a6:wp.cell? ⟨g,j*10+6,none⟩=some (.slice po p.1.px.length pc):=by
      rw[World.ownsRow.cellAt hown _ (by omega),zY l j p hp 6 (by omega)];show some p.2=_;rw[epv]
     have a7:wp.cell? ⟨g,j*10+7,none⟩=some (.int .i64 p.1.dx):=by
      rw[World.ownsRow.cellAt hown _ (by omega),zY l j p hp 7 (by omega)];rfl
     have a8:wp.cell? ⟨g,j*10+8,none⟩=some (.int .i64 p.1.dy):=by
      rw[World.ownsRow.cellAt hown _ (by omega),zY l j p hp 8 (by omega)];rfl
     have a9:wp.cell? ⟨g,j*10+9,none⟩=some (.int .i64 p.1.left):=by
      rw[World.ownsRow.cellAt hown _ (by omega),zY l j p hp 9 (by omega)];rfl
     have nW:¬(W:Int)=0:=(by omega);have nW':¬W=0:=(by omega);have nW2:((W:Int) == 0)=false:=(by simpa using nW');have e3:IntKind.i64.wrap ((k:Int)/(W:Int))=(k:Int)/(W:Int):=by
      have h1:(0:Int)<=(k:Int)/(W:Int):=Int.ediv_nonneg (by omega) (by omega);have h2:=Int.ediv_le_self (W:Int) (show (0:Int)<=(k:Int) by omega);rw[IntKind.wrap_i64];omega
     have HS:Hid (∀ w',Below wp.heap.size wp w'->Calls Tryz.prog 111 #[.agg #[.int .i64 p.1.cl,.int .i64 p.1.num,.int .i64 p.1.x,.int .i64 p.1.y,.int .i64 p.1.w,.int .i64 p.1.h,.slice po p.1.px.length pc,.int .i64 p.1.dx,.int .i64 p.1.dy,.int .i64 p.1.left],.int .i64 ((k:Int)%(W:Int)),.int .i64 ((k:Int)/(W:Int))] w' fun e w''=>e=.returned (.int .i64 (zC p.1 ((k%W:Nat):Int) ((k/W:Nat):Int)))/\Below w'.heap.size w' w''):=fun w' hb=>by
      have:=zc0 U p.1 ((qb HH).ok p hmem) po pc ((k%W:Nat):Int) ((k/W:Nat):Int) (modW k W hW) (divW k W (by omega)) w' ((hpv.below hP.bel).below hb);unfold sval at this;rw[Int.natCast_emod,Int.natCast_ediv] at this ⊢;exact this
     obtain⟨z,hz⟩:∃ z,z=zC p.1 ((k%W:Nat):Int) ((k/W:Nat):Int):=⟨_,rfl⟩;rw[<-hz] at HS;have hst:=Kt hp beh ((k%W:Nat):Int) ((k/W:Nat):Int);rw[<-hz] at hst;have HST:=qg hst;have hls:=hP.bel.size;have HP:=qg hP;have HC:=qg hcur;have HK:=qg hck;have l1:g<wp.heap.size:=World.block_lt_of_cell? wp _ a0;have l2:sp<wp.heap.size:=(by omega);clear hP hcur hck hown hp hpv epv hz hst hg hmem
     go_wp2_with fail
     go_region_held3 (fun w'=>w'.cell? ⟨sp,9,none⟩=some (.slice (some ⟨g,0,none⟩) l.length vc)/\w'.cell? ⟨sp,0,none⟩=some (.int .i64 (W:Int))/\w'.cell? ⟨g,j*10,none⟩=some (.int .i64 p.1.cl)/\w'.cell? ⟨g,j*10+1,none⟩=some (.int .i64 p.1.num)/\w'.cell? ⟨g,j*10+2,none⟩=some (.int .i64 p.1.x)/\w'.cell? ⟨g,j*10+3,none⟩=some (.int .i64 p.1.y)/\w'.cell? ⟨g,j*10+4,none⟩=some (.int .i64 p.1.w)/\w'.cell? ⟨g,j*10+5,none⟩=some (.int .i64 p.1.h)/\w'.cell? ⟨g,j*10+6,none⟩=some (.slice po p.1.px.length pc)/\w'.cell? ⟨g,j*10+7,none⟩=some (.int .i64 p.1.dx)/\w'.cell? ⟨g,j*10+8,none⟩=some (.int .i64 p.1.dy)/\w'.cell? ⟨g,j*10+9,none⟩=some (.int .i64 p.1.left))
      (first | (refine⟨?_,?_,?_,?_,?_,?_,?_,?_,?_,?_,?_,?_⟩<;>assumption) | go_keep)
      ((
        go_at_call 111
        refine ((qb HS) _ (Below.refl _ _).drew).mono ?_
        rintro e w3 ⟨rfl,hb3⟩
        have hb3':Below wp.heap.size wp w3:=(Below.refl _ wp).drew.trans hb3
        have b9:=(hb3'.cell (p:=⟨sp,9,none⟩) l2).trans g9
        have b0:=(hb3'.cell (p:=⟨sp,0,none⟩) l2).trans g0
        have d0:=(hb3'.cell (p:=⟨g,j*10,none⟩) l1).trans a0
        have d1:=(hb3'.cell (p:=⟨g,j*10+1,none⟩) l1).trans a1
        have d2:=(hb3'.cell (p:=⟨g,j*10+2,none⟩) l1).trans a2
        have d3:=(hb3'.cell (p:=⟨g,j*10+3,none⟩) l1).trans a3
        have d4:=(hb3'.cell (p:=⟨g,j*10+4,none⟩) l1).trans a4
        have d5:=(hb3'.cell (p:=⟨g,j*10+5,none⟩) l1).trans a5
        have d6:=(hb3'.cell (p:=⟨g,j*10+6,none⟩) l1).trans a6
        have d7:=(hb3'.cell (p:=⟨g,j*10+7,none⟩) l1).trans a7
        have d8:=(hb3'.cell (p:=⟨g,j*10+8,none⟩) l1).trans a8
        have d9:=(hb3'.cell (p:=⟨g,j*10+9,none⟩) l1).trans a9
        have HP3:=qg ((qb HP).below hb3')
        clear hb3 hb3'))
     clear a0 a1 a2 a3 a4 a5 a6 a7 a8 a9 d0 d1 d2 d3 d4 d5 d6 d7 d8 d9 g0 g9 b0 b9 HS
     by_cases hz0:z=0
     ·have HZ:=qg hz0;have bz:(z == 0)=true:=(by simp[hz0]);clear hz0;go_wp2
      go_roundw
      case rel=>
       refine⟨j+1,by omega,by go_num,cur',qb HP3,qb HC,?_⟩;rw[qb HST,if_pos (qb HZ)];exact qb HK
      case measure=>simp[intOf];omega
     ·have fk:w3.cell? ⟨w.heap.size,k,none⟩=some (.int .i64 (ZH (l.take j) beh ((k%W:Nat):Int) ((k/W:Nat):Int))):=(by rw[qe (qb HP3).blk];simp[qb HK]);have ff:∀ t,w3.frozen? ⟨w.heap.size,t,none⟩=false:=qj (qb HP3).blk;have HZ:=qg hz0;have bz:(z == 0)=false:=(by simpa using hz0);generalize ZH (l.take j) beh ((k%W:Nat):Int) ((k/W:Nat):Int)=old at fk;clear hz0;go_wp2
      go_roundw
      case rel=>
       refine⟨j+1,by omega,by go_num,cur'.set k z,(qb HP3).put k z,fun i hi=>?_,?_⟩
       ·rw[List.getElem?_set_ne (by omega)];exact (qb HC) i hi
       ·rw[List.getElem?_set_self (by rw[(qb HP3).len];exact hlt),qb HST,if_neg (qb HZ)]
      case measure=>simp[intOf];omega
    ·obtain rfl:j=l.length:=(by omega);have HP:=qg hP;have HC:=qg hcur;have HK:=qg hck;clear hP hcur hck;go_wp2
     go_roundw
     case rel=>
      refine⟨k+1,by omega,by go_num,cur',qb HP,fun i hi=>?_⟩
      rcases Nat.lt_or_ge i k with c | c
      ·exact (qb HC) i c
      ·have e:i=k:=(by omega);subst e;have:=qb HK;rw[List.take_length] at this;exact this
     case measure=>simp[intOf];omega
  ·obtain rfl:k=N:=(by omega);have i1:¬(k:Int)<(k:Int):=(by omega);have HP:=qg hP;have HC:=qg hcur;clear hP hcur;go_wp2;go_ret;refine⟨rfl,?_⟩;have e:cur=(List.range k).map (Ks l beh W):=by
    apply List.ext_getElem?;intro i
    by_cases hi:i<k
    ·rw[(qb HC) i hi];simp[hi]
    ·rw[List.getElem?_eq_none (by rw[(qb HP).len];omega),List.getElem?_eq_none (by simp;omega)]
   rw[<-e];exact qb HP
def jQ (l:List (Int×Int))(n:Int):List (Int×Int):=l.filter fun p=>!decide (p.1=n)
theorem Ve {l:List (Int×Int)}{k:Nat}{p:Int×Int}(h:l[k]?=some p)(n:Int):jQ (l.take (k+1)) n=jQ (l.take k) n++(if p.1=n then [] else [p]):=by
 unfold jQ;rw[List.take_add_one,h,List.filter_append]
 congr 1
 by_cases e:p.1=n<;>simp[e]
theorem Jt {w:World}{base:Nat}{v:Value}{l:List (Int×Int)}(h:jM w base v l)(hl:l.length<=1000000000)(n:Int) :
 Calls Tryz.prog 50 #[v,.int .i64 n] w fun e w'=>∃ v',e=.returned v'/\jM w' w.heap.size v' (jQ l n)/\Below w.heap.size w w':=by
 obtain⟨vo,vc,rfl⟩:=qr h;have HO:=qg h;clear h
 go_enter Tryz.func50,Tryz.ntmps50
 go_wp2
 go_loopw [5,6] (fun out i wr=>∃ k:Nat,k<=l.length/\i=.int .i64 k/\Below w.heap.size w wr/\jM wr w.heap.size out (jQ (l.take k) n)) (fun _ i _=>l.length-(intOf i).toNat)
 case atStart=>exact⟨0,Nat.zero_le _,rfl,Below.refl _ _,World.ownsRow_nil _ _ _ _⟩
 case round=>
  rename World=>wq;obtain⟨k,hk,rfl,hbel,hout⟩:=hrel
  by_cases hlt:k<l.length
  ·obtain⟨p,hp⟩:∃ p,l[k]?=some p:=⟨l[k],by simp[hlt]⟩;have hown:=qi (S:=fun _=>False) (qb HO) (.of_below hbel) (fun _ _ c=>c);obtain⟨g,hg⟩:∃ g,vo=some ⟨g,0,none⟩:=by
    rcases hown.2 with ⟨e,e2⟩ | ⟨g,cap,cur,e,_⟩
    ·omega
    ·simp only[Value.slice.injEq] at e;exact⟨g,e.1⟩
   subst hg;have a0:wq.cell? ⟨g,k*2,none⟩=some (.int .i64 p.1):=(by rw[World.ownsRow.cellAt hown _ (by omega)];exact (kU l k p hp).1);have a1:wq.cell? ⟨g,k*2+1,none⟩=some (.int .i64 p.2):=(by rw[World.ownsRow.cellAt hown _ (by omega)];exact (kU l k p hp).2);have i0:(0:Int)<=(k:Int):=(by omega);have i1:(k:Int)<(l.length:Int):=(by omega);have lg:g<wq.heap.size:=World.block_lt_of_cell? wq _ a0;obtain⟨xo,xc,rfl⟩:=qr hout;have hst:=Ve hp n;have hol:(jQ (l.take k) n).length<=k:=by
    have:=List.length_filter_le (fun p:Int×Int=>!decide (p.1=n)) (l.take k);rw[List.length_take] at this;unfold jQ;omega
   have HST:=qg hst;have HB:=qg hbel;have HOut:=qg hout;clear hst hbel hout hown hp
   by_cases q1:p.1=n
   ·have b1:(p.1 == n)=true:=(by simp[q1]);have b2:(p.1 != n)=false:=(by simp[q1]);have HQ:=qg q1;clear q1;go_wp2
    go_roundw
    case rel=>
     refine⟨k+1,by omega,by go_num,qb HB,?_⟩;rw[qb HST,if_pos (qb HQ),List.append_nil];exact qb HOut
    case measure=>simp[intOf];omega
   ·have b1:(p.1 == n)=false:=(by simpa using q1);have b2:(p.1 != n)=true:=(by simpa using q1);have HQ:=qg q1;have hs:=(qb HB).size;obtain⟨jj,hj,hy0,hy1,hy2⟩:=info_parts Qv;clear q1
    go_wp2_with (
     at_builtin
     refine wpList_append_own _ rfl _ _ 87 rfl w.heap.size 153 jj _ 2 16 Tryz.underlying87 hj hy0 hy1 hy2 rfl (by decide) (.slice xo (jQ (l.take k) n).length xc) (jQ (l.take k) n).length (jk (jQ (l.take k) n)) rfl (World.ownsRow.alloc (qb HOut) _) ⟨wq.heap.size,0,none⟩ 1 1 [.int .i64 p.1,.int .i64 p.2] rfl rfl (xT (qt _ _ _ rfl)) (by intro u hu;simp at hu;rcases hu with rfl | rfl<;>rfl) (by unfold maxLen;omega) (by omega) (by simp;omega) ?_;intro v' w' hown' hgrow _;have hB':Below w.heap.size w w':=((qb HB).alloc hs _).grown hgrow (by simp;omega) (fun q e=>(World.ownsRow.lt (qb HOut) q e).1);have hown2:jM w' w.heap.size v' (jQ (l.take k) n++[p]):=by
      unfold jM;rw[Qh,List.length_append];exact hown'
     have HOn:=qg hown2;have HBn:=qg hB';clear hown' hgrow hown2 hB')
    go_roundw
    case rel=>
     refine⟨k+1,by omega,by go_num,qb HBn,?_⟩;rw[qb HST,if_neg (qb HQ)];exact qb HOn
    case measure=>simp[intOf];omega
  ·have HB:=qg hbel;have hkl:k=l.length:=(by omega);rw[hkl,List.take_length] at hout;obtain⟨xo,xc,rfl⟩:=qr hout;have HOut:=qg hout;clear hbel hout;go_wp2;go_ret;exact⟨_,rfl,qb HOut,qb HB⟩
theorem jO (k l:List (Srf×Value)):qQ (k++l)=qQ k++qQ l:=by simp[qQ]
theorem QV:(Tryz.prog.info? 128).map (fun i=>(i.zero,i.size,i.bytes))=some (some (.agg #[.int .i64 0,.int .i64 0,.int .i64 0,.int .i64 0,.int .i64 0,.int .i64 0,.slice none 0 0,.int .i64 0,.int .i64 0,.int .i64 0]),10,96):=by kernel_rfl
theorem Zc (l:List (Srf×Value))(h:∀ p∈l,∃ po pn pc,p.2=.slice po pn pc):∀ u∈qQ l,u.oneCell'=true:=by
 induction l with
 | nil=>intro u hu;simp[qQ] at hu
 | cons p l ih=>
  intro u hu;have hu':u∈zA p++qQ l:=hu
  rcases List.mem_append.1 hu' with c | c
  ·obtain⟨po,pn,pc,e⟩:=h p (by simp);simp only[zA,List.mem_cons,List.mem_nil_iff,or_false] at c
   rcases c with rfl | rfl | rfl | rfl | rfl | rfl | rfl | rfl | rfl | rfl
   all_goals first | rfl | (rw[e];rfl)
  ·exact ih (fun q hq=>h q (by simp[hq])) u c
theorem Jj (l:List (Srf×Value))(i:Nat):qQ (l.take i)=(qQ l).take (i*10):=by
 induction l generalizing i with
 | nil=>simp[qQ]
 | cons p l ih=>
  cases i with
  | zero=>simp[qQ]
  | succ i=>
   show zA p++qQ (l.take i)=(zA p++qQ l).take _;have e:(i+1)*10=(zA p).length+i*10:=(by show (i+1)*10=10+i*10;omega);rw[ih,e,List.take_length_add_append]
theorem Kd (l:List (Srf×Value))(i:Nat):qQ (l.drop i)=(qQ l).drop (i*10):=by
 have h1:=jO (l.take i) (l.drop i);rw[List.take_append_drop,Jj] at h1;have h2:=List.take_append_drop (i*10) (qQ l);exact (List.append_cancel_left (h2.trans h1)).symm
theorem VR {U:Nat->Prop}{w:World}{base sp:Nat}{v:Value}{l:List (Srf×Value)}(h:xv U w base v l)(h9:w.cell? ⟨sp,9,none⟩=some v)(hl:l.length<=1000)(i:Nat)(hi:i<l.length) :
 Calls Tryz.prog 49 #[.pointer (some ⟨sp,0,none⟩),.int .i64 (i:Int)] w fun e w'=>∃ v',e=.returned v'/\xv U w' w.heap.size v' (l.eraseIdx i)/\Below w.heap.size w w':=by
 obtain⟨g,vc,rfl⟩:∃ g vc,v=.slice (some ⟨g,0,none⟩) l.length vc:=by
  rcases h.own.2 with ⟨e,e2⟩ | ⟨g,cap,cur,e,_⟩
  ·omega
  ·exact⟨g,cap,e⟩
 have hsp:sp<w.heap.size:=World.block_lt_of_cell? w _ h9;have hcap:l.length<=vc:=by
  rcases h.own.2 with ⟨e,e2⟩ | ⟨g',cap,cur,e,_,_,hc,_⟩
  ·omega
  ·simp only[Value.slice.injEq,Option.some.injEq,Addr.mk.injEq,and_true,true_and] at e;omega
 have hsum:IntKind.i64.wrap ((i:Int)+1)=(i:Int)+1:=(by rw[IntKind.wrap_i64];omega);have i0:(0:Int)<=(i:Int):=(by omega);have i1:(i:Int)<=(l.length:Int):=(by omega);have i2:(i:Int)+1<=(l.length:Int):=(by omega);have i3:(0:Int)<=(i:Int)+1:=(by omega);have HH:=qg h;obtain⟨jj,hj,hy0,hy1,hy2⟩:=info_parts QV;clear h;have hpvs:∀ p∈l,∃ po pn pc,p.2=.slice po pn pc:=fun p hp=>by
  obtain⟨po,pc,e,_⟩:=(qb HH).px p hp;exact⟨po,_,pc,e⟩
 have qF:∀ q,q<l.length*10->w.cell? ⟨g,q,none⟩=(qQ l)[q]?:=fun q hq=>World.ownsRow.cellAt (qb HH).own q hq;have hadd:∀ (o j:Nat),(⟨g,o,none⟩:Addr).add j=⟨g,o+j,none⟩:=fun o j=>by unfold Addr.add;split<;>simp_all
 have HN1:Hid (∀ j u,(qQ (l.take i))[j]?=some u->w.cell? ((⟨g,0,none⟩:Addr).add j)=some u):=fun j u hu=>by
  rw[hadd,Nat.zero_add];rw[Jj] at hu;have hj':=(zzg hu).1;rw[List.length_take] at hj';rw[List.getElem?_take_of_lt (by omega)] at hu;rw[qF j (by omega)];exact hu
 have HN2:Hid (∀ w',Below w.heap.size w w'->∀ j u,(qQ (l.drop (i+1)))[j]?=some u->w'.cell? ((⟨g,(i+1)*10,none⟩:Addr).add j)=some u):=fun w' hb j u hu=>by
  rw[hadd];rw[Kd,List.getElem?_drop] at hu;have hj':=(zzg hu).1;rw[v7] at hj';exact (hb.cell (p:=⟨g,_,none⟩) (World.ownsRow.lt (qb HH).own g rfl).2).trans ((qF _ (by omega)).trans hu)
 have HO1:=qg (Zc (l.take i) (fun p hp=>hpvs p (List.mem_of_mem_take hp)));have HO2:=qg (Zc (l.drop (i+1)) (fun p hp=>hpvs p (List.mem_of_mem_drop hp)));have hl1:(l.take i).length=i:=(by rw[List.length_take];omega);have HL1:=qg (show (qQ (l.take i)).length=i*10 by rw[v7,hl1]);have HL2:=qg (show (qQ (l.drop (i+1))).length=(l.length-(i+1))*10 by rw[v7,List.length_drop]);clear hpvs qF hadd hl1
 by_cases hvc:vc=i+1
 ·subst hvc
  go_enter Tryz.func49,Tryz.ntmps49
  have HZ:=qg (show qQ (l.drop (i+1))=[]/\l.length-(i+1)=0 by rw[List.drop_of_length_le (by omega)];exact⟨rfl,by omega⟩)
  go_wp2_with (first
    | (at_builtin
       refine wpList_append_own _ rfl _ _ 115 rfl w.heap.size 128 jj _ 10 96 Tryz.underlying115 hj hy0 hy1 hy2 rfl (by decide) (.slice none 0 0) 0 [] rfl (World.ownsRow_nil _ _ _ _) ⟨g,0,none⟩ i (i+1) (qQ (l.take i)) rfl (qb HL1) (qb HN1) (qb HO1) (by unfold maxLen;omega) (by omega) (zzl _) ?_
       intro v1 w1 hown1 hgrow1 _
       have hB1:Below w.heap.size w w1:=(Below.refl _ w).grown hgrow1 (zzl _) (fun q e=>by cases e)
       have hs1:=hB1.size
       have d9:=(hB1.cell (p:=⟨sp,9,none⟩) hsp).trans h9
       have hown1':w1.ownsRow w.heap.size 128 10 v1 i (qQ (l.take i)):=by simpa using hown1
       obtain⟨xo,xc,ev1⟩:=qr hown1'
       rw[ev1] at hown1' ⊢
       have HW1:=qg hown1'
       have HB1:=qg hB1
       clear hown1 hown1' hgrow1 hB1 ev1)
    | (at_builtin
       refine wpList_append_own _ rfl _ _ 115 rfl w.heap.size 128 jj _ 10 96 Tryz.underlying115 hj hy0 hy1 hy2 rfl (by decide) (.slice xo i xc) i (qQ (l.take i)) rfl (qb HW1) ⟨g,0,none⟩ 0 0 [] rfl rfl (fun j u hu=>by simp at hu) (fun u hu=>by simp at hu) (by unfold maxLen;omega) (by omega) hs1 ?_
       intro v2 w2 hown2 hgrow2 _
       have hB2:Below w.heap.size w w2:=(qb HB1).grown hgrow2 hs1 (fun q e=>(World.ownsRow.lt (qb HW1) q e).1)
       obtain⟨yo,yc,ev2⟩:=qr hown2
       rw[ev2] at hown2 ⊢
       have HW2:=qg hown2
       have HB2:=qg hB2
       clear hown2 hgrow2 hB2 ev2))
  go_ret;refine⟨_,rfl,⟨?_,fun p hp=>?_,fun p hp=>(qb HH).ok p (List.mem_of_mem_eraseIdx hp)⟩,qb HB2⟩
  ·rw[List.eraseIdx_eq_take_drop_succ,jO,List.length_append,List.length_take,List.length_drop,Nat.min_eq_left (by omega)];rw[(qb HZ).1,(qb HZ).2];exact qb HW2
  ·obtain⟨po,pc,e,hR⟩:=(qb HH).px p (List.mem_of_mem_eraseIdx hp);exact⟨po,pc,e,hR.below (qb HB2)⟩
 ·go_enter Tryz.func49,Tryz.ntmps49
  go_wp2_with (first
    | (at_builtin
       refine wpList_append_own _ rfl _ _ 115 rfl w.heap.size 128 jj _ 10 96 Tryz.underlying115 hj hy0 hy1 hy2 rfl (by decide) (.slice none 0 0) 0 [] rfl (World.ownsRow_nil _ _ _ _) ⟨g,0,none⟩ i vc (qQ (l.take i)) rfl (qb HL1) (qb HN1) (qb HO1) (by unfold maxLen;omega) (by omega) (zzl _) ?_
       intro v1 w1 hown1 hgrow1 _
       have hB1:Below w.heap.size w w1:=(Below.refl _ w).grown hgrow1 (zzl _) (fun q e=>by cases e)
       have hs1:=hB1.size
       have d9:=(hB1.cell (p:=⟨sp,9,none⟩) hsp).trans h9
       have hown1':w1.ownsRow w.heap.size 128 10 v1 i (qQ (l.take i)):=by simpa using hown1
       obtain⟨xo,xc,ev1⟩:=qr hown1'
       rw[ev1] at hown1' ⊢
       have HW1:=qg hown1'
       have HB1:=qg hB1
       clear hown1 hown1' hgrow1 hB1 ev1)
    | (at_builtin
       refine wpList_append_own _ rfl _ _ 115 rfl w.heap.size 128 jj _ 10 96 Tryz.underlying115 hj hy0 hy1 hy2 rfl (by decide) (.slice xo i xc) i (qQ (l.take i)) rfl (qb HW1) ⟨g,(i+1)*10,none⟩ (l.length-(i+1)) (vc-(i+1)) (qQ (l.drop (i+1))) rfl (qb HL2) ((qb HN2) w1 (qb HB1)) (qb HO2) (by unfold maxLen;omega) (by omega) hs1 ?_
       intro v2 w2 hown2 hgrow2 _
       have hB2:Below w.heap.size w w2:=(qb HB1).grown hgrow2 hs1 (fun q e=>(World.ownsRow.lt (qb HW1) q e).1)
       obtain⟨yo,yc,ev2⟩:=qr hown2
       rw[ev2] at hown2 ⊢
       have HW2:=qg hown2
       have HB2:=qg hB2
       clear hown2 hgrow2 hB2 ev2))
  go_ret;refine⟨_,rfl,⟨?_,fun p hp=>?_,fun p hp=>(qb HH).ok p (List.mem_of_mem_eraseIdx hp)⟩,qb HB2⟩
  ·rw[List.eraseIdx_eq_take_drop_succ,jO,List.length_append,List.length_take,List.length_drop,Nat.min_eq_left (by omega)];exact qb HW2
  ·obtain⟨po,pc,e,hR⟩:=(qb HH).px p (List.mem_of_mem_eraseIdx hp);exact⟨po,pc,e,hR.below (qb HB2)⟩
structure Dv where
 cb:Nat
 cl:List DCl
 sv:Value
 pp:Nat->Value
 g:Nat->Nat
 fpv:Value
 mv:Value
 wv:Value
def dcs (d:Dc)(v:Dv):Array Value:=#[.int .i64 d.c.w,.int .i64 d.c.h,.int .i64 d.c.clients,.int .i64 d.c.queue,.int .i64 d.c.most,.int .i64 d.c.quantum,.int .i64 d.c.surfaces,.int .i64 d.c.behind,
 .slice (some ⟨v.cb,0,none⟩) v.cl.length v.cl.length,v.sv,
 v.pp 0,.slice (some ⟨v.g 0,0,none⟩) d.N d.N,.int .i64 (d.fn 0),v.pp 1,.slice (some ⟨v.g 1,0,none⟩) d.N d.N,.int .i64 (d.fn 1),v.pp 2,.slice (some ⟨v.g 2,0,none⟩) d.N d.N,.int .i64 (d.fn 2),
 .int .i64 (d.front:Int),.bool d.pnt,.int .i64 (d.tgt:Int),.int .i64 d.left,v.fpv,v.mv,v.wv,.int .i64 d.frames,.bool d.ch,.int .i64 d.t]
structure DSc (U:Nat->Prop)(w:World)(rp:Nat)(d:Dc)(v:Dv)(pvs:List Value):Prop where
 blk:w.heap[rp]?=some (.cells (dcs d v) 121)
 st:∀ i,i<3->ze w 0 (.slice (some ⟨v.g i,0,none⟩) d.N d.N) (d.st i)/\(d.st i).length=d.N
 gi:v.g 0≠v.g 1/\v.g 0≠v.g 2/\v.g 1≠v.g 2
 sf:xv U w 0 v.sv (d.l.zip pvs)
 pl:pvs.length=d.l.length
 far:¬U rp/\(∀ i,i<3->¬U (v.g i))/\(∀ k,v.sv.ownBlock=some k->¬U k)
 cfg:jU d.c=true
 len:d.l.length<=16
 wt:jM w 0 v.wv d.wait
 wU:∀ k,v.wv.ownBlock=some k->¬U k
def DsB (rp:Nat)(v:Dv)(k:Nat):Prop:=k=rp\/k=v.g 0\/k=v.g 1\/k=v.g 2
section
variable {U:Nat->Prop}{w w':World}{rp:Nat}{d:Dc}{v:Dv}{pvs:List Value}
theorem DSc.wh (h:DSc U w rp d v pvs):d.c.w=(d.W:Int)/\d.c.h=(d.c.h.toNat:Int)/\(1<=d.W/\d.W<=16)/\(1<=d.c.h.toNat/\d.c.h.toNat<=16)/\d.N=d.W*d.c.h.toNat:=by
 have hc:=Qy h.cfg;have h1:=hc.w;have h2:=hc.h;unfold Dc.W Dc.N;refine⟨by omega,by omega,by omega,by omega,rfl⟩
theorem DSc.dmg (h:DSc U w rp d v pvs):Dmg w 0 rp (dcs d v) d.W d.c.h.toNat (v.g 0) (v.g 1) (v.g 2) (d.st 0) (d.st 1) (d.st 2) d.ch:=by
 obtain⟨e1,e2,-,-,e3⟩:=h.wh;refine⟨h.blk,rfl,?_,?_,?_,?_,?_,rfl,?_,?_,?_,?_,?_,?_,h.gi.1,h.gi.2.1,h.gi.2.2⟩
 ·show some (Value.int .i64 d.c.w)=_;rw[e1]
 ·show some (Value.int .i64 d.c.h)=_;rw[<-e2]
 ·rw[<-e3];rfl
 ·rw[<-e3];rfl
 ·rw[<-e3];rfl
 ·rw[<-e3];exact (h.st 0 (by omega)).1
 ·rw[<-e3];exact (h.st 1 (by omega)).1
 ·rw[<-e3];exact (h.st 2 (by omega)).1
 ·rw[<-e3];exact (h.st 0 (by omega)).2
 ·rw[<-e3];exact (h.st 1 (by omega)).2
 ·rw[<-e3];exact (h.st 2 (by omega)).2
theorem zd1 {cs:Array Value}{ch:Bool}(h1:Z8 (dcs d v) cs)(h2:cs.size=29)(h3:cs[27]?=some (.bool ch)):cs=dcs {d with ch:=ch} v:=by
 apply Array.ext_getElem?;intro i
 by_cases e:i=27
 ·subst e;rw[h3];rfl
 ·rw[h1 i e]
  by_cases hlt:i<29
  ·rcases (show i=0\/i=1\/i=2\/i=3\/i=4\/i=5\/i=6\/i=7\/i=8\/i=9\/i=10\/i=11\/i=12\/i=13\/i=14\/i=15\/i=16\/i=17\/i=18\/i=19\/i=20\/i=21\/i=22\/i=23\/i=24\/i=25\/i=26\/i=28 by omega) with rfl | rfl | rfl | rfl | rfl | rfl | rfl | rfl | rfl | rfl | rfl | rfl | rfl | rfl | rfl | rfl | rfl | rfl | rfl | rfl | rfl | rfl | rfl | rfl | rfl | rfl | rfl | rfl<;>rfl
  ·rw[Array.getElem?_eq_none (by show 29<=i;omega),Array.getElem?_eq_none (by show 29<=i;omega)]
theorem DSc.apart (h:DSc U w rp d v pvs):∀ k,v.sv.ownBlock=some k->¬DsB rp v k:=fun k hk e=>by
 rcases e with e | e | e | e
 ·exact qq h.sf.own h.blk (by decide) (by rw[<-e];exact hk)
 ·exact qS h.sf.own (h.st 0 (by omega)).1 (by decide) hk (by rw[e];rfl)
 ·exact qS h.sf.own (h.st 1 (by omega)).1 (by decide) hk (by rw[e];rfl)
 ·exact qS h.sf.own (h.st 2 (by omega)).1 (by decide) hk (by rw[e];rfl)
theorem DSc.apartW (h:DSc U w rp d v pvs):∀ k,v.wv.ownBlock=some k->¬DsB rp v k/\v.sv.ownBlock≠some k:=fun k hk=>⟨fun e=>by
 rcases e with e | e | e | e
 ·exact qq h.wt h.blk (by decide) (by rw[<-e];exact hk)
 ·exact qS h.wt (h.st 0 (by omega)).1 (by decide) hk (by rw[e];rfl)
 ·exact qS h.wt (h.st 1 (by omega)).1 (by decide) hk (by rw[e];rfl)
 ·exact qS h.wt (h.st 2 (by omega)).1 (by decide) hk (by rw[e];rfl),fun e=>qS h.wt h.sf.own (by decide) hk e⟩
theorem DSc.nU (h:DSc U w rp d v pvs):∀ k,U k->¬DsB rp v k:=fun k hk e=>by
 rcases e with e | e | e | e<;>subst e
 ·exact h.far.1 hk
 ·exact h.far.2.1 0 (by omega) hk
 ·exact h.far.2.1 1 (by omega) hk
 ·exact h.far.2.1 2 (by omega) hk
theorem xv.but {base:Nat}{sv:Value}{l:List (Srf×Value)}{S:Nat->Prop}(h:xv U w base sv l)(hb:But S w w')(h1:∀ k,sv.ownBlock=some k->¬S k)(h2:∀ k,U k->¬S k):xv U w' base sv l:=
 ⟨qi h.own hb h1,fun p hp=>by
  obtain⟨po,pc,e,hR⟩:=h.px p hp;exact⟨po,pc,e,hR.but hb h2⟩,h.ok⟩
theorem DSc.after (h:DSc U w rp d v pvs){xs:Array Value}{s:Srf}(hI:vJ w w' 0 rp (dcs d v) d.W d.c.h.toNat (v.g 0) (v.g 1) (v.g 2) (qV s d.W (d.W*d.c.h.toNat) (d.st 0)) (qV s d.W (d.W*d.c.h.toNat) (d.st 1)) (qV s d.W (d.W*d.c.h.toNat) (d.st 2)) (d.ch||Q7 s d.W (d.W*d.c.h.toNat)) xs):DSc U w' rp (zw d s) v pvs/\But (DsB rp v) w w':=by
 obtain⟨cs',hD,hsb⟩:=hI.st;obtain⟨-,-,-,-,e3⟩:=h.wh;rw[<-e3] at hD;have hcs:=zd1 hsb hD.size hD.cc;have hb:But (DsB rp v) w w':=hI.but;have hbk:=hD.blk;rw[hcs] at hbk;refine⟨⟨hbk,fun i hi=>?_,h.gi,h.sf.but hb h.apart h.nU,h.pl,h.far,h.cfg,h.len,qi h.wt hb (fun k hk=>(h.apartW k hk).1),h.wU⟩,hb⟩;have hl:(qV s d.W d.N (d.st i)).length=d.N:=by rw[vO];exact (h.st i hi).2
 rcases (show i=0\/i=1\/i=2 by omega) with rfl | rfl | rfl
 ·exact⟨hD.o0,hl⟩
 ·exact⟨hD.o1,hl⟩
 ·exact⟨hD.o2,hl⟩
theorem jK (h:DSc U w rp d v pvs)(s:Srf)(hs:xq s)(po:Option Addr)(pn pc:Nat) :
 Calls Tryz.prog 48 #[.pointer (some ⟨rp,0,none⟩),sval s (.slice po pn pc)] w fun e w'=>e=.returned (.tuple #[])/\DSc U w' rp (zw d s) v pvs/\But (DsB rp v) w w':=by
 obtain⟨-,-,hW,hH,-⟩:=h.wh;refine (qa9 h.dmg hW hH s hs po pn pc).mono ?_;rintro e w' ⟨h1,h2⟩;exact⟨h1,h.after h2⟩
end
section
variable {U:Nat->Prop}{w w':World}{rp:Nat}{d:Dc}{v:Dv}{pvs:List Value}
theorem Y1 {l:List Srf}{pvs:List Value}(hl:pvs.length=l.length){i:Nat}{s:Srf}(hs:l[i]?=some s):∃ p,pvs[i]?=some p/\(l.zip pvs)[i]?=some (s,p):=by
 have hi:=(zzg hs).1;refine⟨pvs[i]'(by omega),by simp,?_⟩;rw[List.getElem?_zip_eq_some];exact⟨hs,by simp⟩
theorem DSc.at (h:DSc U w rp d v pvs){i:Nat}{s:Srf}(hs:d.l[i]?=some s):∃ g vc po pc,v.sv=.slice (some ⟨g,0,none⟩) d.l.length vc/\g<w.heap.size/\g≠rp/\¬DsB rp v g/\¬U g/\pvs[i]?=some (.slice po s.px.length pc)/\RdN U w (.slice po s.px.length pc) s.px/\xq s/\(∀ t,w.frozen? ⟨g,t,none⟩=false)/\∀ t,t<10->w.cell? ⟨g,i*10+t,none⟩=(zA (s,.slice po s.px.length pc))[t]?:=by
 obtain⟨p,hp,hz⟩:=Y1 h.pl hs;have hlen:(d.l.zip pvs).length=d.l.length:=(by rw[List.length_zip,h.pl,Nat.min_self]);have hi:=(zzg hs).1;obtain⟨po,pc,e,hR⟩:=h.sf.px (s,p) (zzn hz);simp only at e hR
 rcases h.sf.own.2 with ⟨-,h0⟩ | ⟨g,cap,cur,hv,hb,hg,hr⟩
 ·omega
 ·rw[hlen] at hv;have hob:v.sv.ownBlock=some g:=(by rw[hv];rfl);have hlt:=qh hg;refine⟨g,cap,po,pc,hv,hlt,fun q=>h.apart g hob (.inl q),h.apart g hob,h.far.2.2 g hob,by rw[hp,e],hR,h.sf.ok (s,p) (zzn hz),fun t=>?_,fun t ht=>?_⟩
  ·have:=h.sf.own;rw[hv,<-hlen] at this;exact World.ownsRow.frozenAt this t
  ·have:=h.sf.own;rw[hv,<-hlen] at this;rw[World.ownsRow.cellAt this _ (by omega),zY _ i (s,p) hz t ht,<-e]
theorem DSc.c9 (h:DSc U w rp d v pvs):w.cell? ⟨rp,9,none⟩=some v.sv:=qe h.blk 9
end
theorem Xx {l:List (Srf×Value)}{j:Nat}{p:Srf×Value}(h:l[j]?=some p):qQ l=qQ (l.take j)++(zA p++qQ (l.drop (j+1)))/\(qQ (l.take j)).length=j*10:=by
 obtain⟨hlt,he⟩:=zzg h;refine⟨?_,by rw[v7,List.length_take,Nat.min_eq_left (by omega)]⟩;have e:l=l.take j++p::l.drop (j+1):=by rw[<-he,List.getElem_cons_drop,List.take_append_drop]
 conv=>lhs;rw[e]
 rw[jO]
 rfl
theorem Z0 {A C B:List Value}{t:Nat}(ht:t<C.length)(u:Value){n:Nat}(hn:A.length=n):(A++(C++B)).set (n+t) u=A++(C.set t u++B):=by
 subst hn;rw[List.set_append_right _ _ (by omega),Nat.add_sub_cancel_left,List.set_append_left _ _ ht]
theorem Kf {l:List (Srf×Value)}{j:Nat}{p p':Srf×Value}(h:l[j]?=some p):qQ (l.set j p')=qQ (l.take j)++(zA p'++qQ (l.drop (j+1))):=by
 have hlt:=(zzg h).1;have h2:(l.set j p')[j]?=some p':=List.getElem?_set_self hlt;rw[(Xx h2).1,List.take_set_of_le (zzl _),List.drop_set_of_lt (by omega)]
theorem ZY:∀ (l:List Srf)(pvs:List Value)(i:Nat)(s:Srf)(p:Value),(l.zip pvs).set i (s,p)=(l.set i s).zip (pvs.set i p)
 | [],_,_,_,_=>by simp
 | _::_,[],_,_,_=>by simp
 | a::l,b::m,0,s,p=>rfl
 | a::l,b::m,i+1,s,p=>by
  show (a,b)::((l.zip m).set i (s,p))=(a,b)::((l.set i s).zip (m.set i p));rw[ZY l m i s p]
section
variable {U:Nat->Prop}{w w':World}{rp:Nat}{d:Dc}{v:Dv}{pvs:List Value}
theorem DSc.row (h:DSc U w rp d v pvs){i g vc:Nat}{s s':Srf}{pv pv':Value}(hs:d.l[i]?=some s)(hp:pvs[i]?=some pv)(hv:v.sv=.slice (some ⟨g,0,none⟩) d.l.length vc)(hb:But (fun k=>k=g) w w')(hrow:w'.ownsRow 0 128 10 (.slice (some ⟨g,0,none⟩) d.l.length vc) d.l.length (qQ ((d.l.zip pvs).take i)++(zA (s',pv')++qQ ((d.l.zip pvs).drop (i+1)))))(hok:xq s')(hpx:∃ po pc,pv'=.slice po s'.px.length pc/\RdN U w (.slice po s'.px.length pc) s'.px):DSc U w' rp {d with l:=d.l.set i s'} v (pvs.set i pv'):=by
 have hob:v.sv.ownBlock=some g:=(by rw[hv];rfl);have hng:=h.apart g hob;have hnU:=h.far.2.2 g hob;have hz:(d.l.zip pvs)[i]?=some (s,pv):=(by rw[List.getElem?_zip_eq_some];exact⟨hs,hp⟩);have hlen:(d.l.zip pvs).length=d.l.length:=(by rw[List.length_zip,h.pl,Nat.min_self]);have hn:∀ k,k=rp\/k=v.g 0\/k=v.g 1\/k=v.g 2->¬k=g:=fun k hk e=>hng (by rw[<-e];exact hk);refine⟨hb.heap h.blk (hn rp (.inl rfl)),fun j hj=>⟨qi (h.st j hj).1 hb (fun k hk=>?_),(h.st j hj).2⟩,h.gi,⟨?_,fun q hq=>?_,fun q hq=>?_⟩,by rw[List.length_set,List.length_set];exact h.pl,h.far,h.cfg,by rw[List.length_set];exact h.len,qi h.wt hb (fun k hk e=>(h.apartW k hk).2 (by rw[e];exact hob)),h.wU⟩
 ·have e:v.g j=k:=by
   have:some (v.g j)=some k:=hk;exact Option.some.inj this
  refine hn k ?_
  rcases (show j=0\/j=1\/j=2 by omega) with rfl | rfl | rfl
  ·exact .inr (.inl e.symm)
  ·exact .inr (.inr (.inl e.symm))
  ·exact .inr (.inr (.inr e.symm))
 ·show w'.ownsRow 0 _ 10 v.sv ((d.l.set i s').zip (pvs.set i pv')).length (qQ ((d.l.set i s').zip (pvs.set i pv')));rw[<-ZY,List.length_set,hlen,Kf hz,hv];exact hrow
 ·rw[show ({d with l:=d.l.set i s'}:Dc).l=d.l.set i s' from rfl,<-ZY] at hq
  rcases List.mem_or_eq_of_mem_set hq with e | e
  ·obtain⟨po,pc,e1,e2⟩:=h.sf.px q e;exact⟨po,pc,e1,e2.but hb (fun k hk e=>hnU (e ▸ hk))⟩
  ·subst e;obtain⟨po,pc,e1,e2⟩:=hpx;exact⟨po,pc,e1,e2.but hb (fun k hk e=>hnU (e ▸ hk))⟩
 ·rw[show ({d with l:=d.l.set i s'}:Dc).l=d.l.set i s' from rfl,<-ZY] at hq
  rcases List.mem_or_eq_of_mem_set hq with e | e
  ·exact h.sf.ok q e
  ·subst e;exact hok
theorem DSc.own' (h:DSc U w rp d v pvs){i g vc:Nat}{s:Srf}{pv:Value}(hs:d.l[i]?=some s)(hp:pvs[i]?=some pv)(hv:v.sv=.slice (some ⟨g,0,none⟩) d.l.length vc):w.ownsRow 0 128 10 (.slice (some ⟨g,0,none⟩) d.l.length vc) d.l.length (qQ ((d.l.zip pvs).take i)++(zA (s,pv)++qQ ((d.l.zip pvs).drop (i+1))))/\(qQ ((d.l.zip pvs).take i)).length=i*10:=by
 have hz:(d.l.zip pvs)[i]?=some (s,pv):=(by rw[List.getElem?_zip_eq_some];exact⟨hs,hp⟩);have hlen:(d.l.zip pvs).length=d.l.length:=(by rw[List.length_zip,h.pl,Nat.min_self]);obtain⟨e1,e2⟩:=Xx hz;have:=h.sf.own;rw[e1,hlen,hv] at this;exact⟨this,e2⟩
theorem DSc.put (h:DSc U w rp d v pvs){i g vc t:Nat}{s s':Srf}{pv:Value}{u:Value}(hs:d.l[i]?=some s)(hp:pvs[i]?=some pv)(hv:v.sv=.slice (some ⟨g,0,none⟩) d.l.length vc)(ht:t<10)(hc:zA (s',pv)=(zA (s,pv)).set t u)(hok:xq s')(hpx:s'.px=s.px):DSc U (w.setCell ⟨g,i*10+t,none⟩ u) rp {d with l:=d.l.set i s'} v pvs:=by
 obtain⟨h1,h2⟩:=h.own' hs hp hv;have h3:=(World.ownsRow.stored h1 (i*10+t) u).1;rw[Z0 (by simp[zA];omega) u h2,<-hc] at h3;have hb:But (fun k=>k=g) w (w.setCell ⟨g,i*10+t,none⟩ u):=(But.refl (fun k=>k=g) w).setCell (p:=⟨g,i*10+t,none⟩) (.inl rfl) _;obtain⟨p,hp',hz⟩:=Y1 h.pl hs;rw[hp] at hp';simp only[Option.some.injEq] at hp';subst hp';obtain⟨po,pc,e1,e2⟩:=h.sf.px (s,pv) (zzn hz);have:=h.row hs hp hv hb h3 hok ⟨po,pc,by rw[hpx];exact e1,by rw[hpx];exact e2⟩;rw[vP hp] at this;exact this
end
def SrB (x:Int):Prop:=-1000000000000000<=x/\x<=1000000000000000
def DsV (rp:Nat)(v:Dv)(k:Nat):Prop:=DsB rp v k\/v.sv.ownBlock=some k
section
variable {U:Nat->Prop}{w w':World}{rp:Nat}{d:Dc}{v:Dv}{pvs:List Value}
theorem xq.at {s:Srf}(h:xq s){x y:Int}(hx:SrB x)(hy:SrB y):xq {s with x:=x,y:=y}:=⟨h.w0,h.w8,h.h0,h.h8,h.px,hx,hy⟩
theorem XF (h:DSc U w rp d v pvs){i:Nat}{s:Srf}(hs:d.l[i]?=some s)(x y:Int)(hx:SrB x)(hy:SrB y) :
 Calls Tryz.prog 91 #[.pointer (some ⟨rp,0,none⟩),.int .i64 (i:Int),.int .i64 x,.int .i64 y] w fun e w'=>e=.returned (.tuple #[])/\DSc U w' rp (zu d i x y) v pvs/\But (DsV rp v) w w':=by
 obtain⟨g,vc,po,pc,hv,hgl,hgr,hgn,hgU,hpv,hR,hok,hz,hc⟩:=h.at hs;have hi:=(zzg hs).1;have hl16:=h.len;obtain⟨n,hn⟩:∃ n,n=d.l.length:=⟨_,rfl⟩;obtain⟨np,hnp⟩:∃ n,n=s.px.length:=⟨_,rfl⟩;have c9:=h.c9;rw[hv,<-hn] at c9;have a0:=hc 0 (by omega);have a1:=hc 1 (by omega);have a2:=hc 2 (by omega);have a3:=hc 3 (by omega);have a4:=hc 4 (by omega);have a5:=hc 5 (by omega);have a6:=hc 6 (by omega);have a7:=hc 7 (by omega);have a8:=hc 8 (by omega);have a9:=hc 9 (by omega);simp only[zA,List.getElem?_cons_zero,List.getElem?_cons_succ,Nat.add_zero,<-hnp] at a0 a1 a2 a3 a4 a5 a6 a7 a8 a9;have lrp:=qh h.blk;have i0:(0:Int)<=(i:Int):=(by omega);have i1:(i:Int)<(n:Int):=(by omega);have hob:v.sv.ownBlock=some g:=(by rw[hv];rfl);have hE:zu d i x y=if s.x=x/\s.y=y then d else zw {zw d s with l:=d.l.set i {s with x:=x,y:=y}} {s with x:=x,y:=y}:=(by unfold zu;rw[hs]);have HD1:Hid (Calls Tryz.prog 48 #[.pointer (some ⟨rp,0,none⟩),.agg #[.int .i64 s.cl,.int .i64 s.num,.int .i64 s.x,.int .i64 s.y,.int .i64 s.w,.int .i64 s.h,.slice po np pc,.int .i64 s.dx,.int .i64 s.dy,.int .i64 s.left]] w fun e w1=>e=.returned (.tuple #[])/\(w1.cell? ⟨rp,9,none⟩=some (.slice (some ⟨g,0,none⟩) n vc)/\rp<w1.heap.size/\g<w1.heap.size/\(∀ t,w1.frozen? ⟨g,t,none⟩=false)/\
  w1.cell? ⟨g,i*10,none⟩=some (.int .i64 s.cl)/\w1.cell? ⟨g,i*10+1,none⟩=some (.int .i64 s.num)/\w1.cell? ⟨g,i*10+2,none⟩=some (.int .i64 s.x)/\w1.cell? ⟨g,i*10+3,none⟩=some (.int .i64 s.y)/\w1.cell? ⟨g,i*10+4,none⟩=some (.int .i64 s.w)/\w1.cell? ⟨g,i*10+5,none⟩=some (.int .i64 s.h)/\w1.cell? ⟨g,i*10+6,none⟩=some (.slice po np pc)/\w1.cell? ⟨g,i*10+7,none⟩=some (.int .i64 s.dx)/\w1.cell? ⟨g,i*10+8,none⟩=some (.int .i64 s.dy)/\w1.cell? ⟨g,i*10+9,none⟩=some (.int .i64 s.left))/\
  Calls Tryz.prog 48 #[.pointer (some ⟨rp,0,none⟩),.agg #[.int .i64 s.cl,.int .i64 s.num,.int .i64 x,.int .i64 y,.int .i64 s.w,.int .i64 s.h,.slice po np pc,.int .i64 s.dx,.int .i64 s.dy,.int .i64 s.left]] ((w1.setCell ⟨g,i*10+2,none⟩ (.int .i64 x)).setCell ⟨g,i*10+3,none⟩ (.int .i64 y)) fun e w2=>e=.returned (.tuple #[])/\DSc U w2 rp (zw {zw d s with l:=d.l.set i {s with x:=x,y:=y}} {s with x:=x,y:=y}) v pvs/\But (DsV rp v) w w2):=by
  have hd1:=jK h s hok po np pc;refine hd1.mono ?_;rintro e w1 ⟨rfl,h1,hb1⟩;have hs1:(zw d s).l[i]?=some s:=hs;obtain⟨g',vc',po',pc',hv',hgl',-,-,-,hpv',-,-,hz',hc'⟩:=h1.at hs1;have eg:g'=g/\vc'=vc:=by
   have:(zw d s).l.length=d.l.length:=rfl;rw[this,hv] at hv';simp only[Value.slice.injEq,Option.some.injEq,Addr.mk.injEq,and_true,true_and] at hv';exact⟨hv'.1.symm,hv'.2.symm⟩
  obtain⟨rfl,rfl⟩:=eg;rw[hpv] at hpv';simp only[Option.some.injEq,Value.slice.injEq] at hpv';obtain⟨rfl,-,rfl⟩:=hpv';have d9:=h1.c9;rw[hv,<-hn] at d9;have b0:=hc' 0 (by omega);have b1:=hc' 1 (by omega);have b2:=hc' 2 (by omega);have b3:=hc' 3 (by omega);have b4:=hc' 4 (by omega);have b5:=hc' 5 (by omega);have b6:=hc' 6 (by omega);have b7:=hc' 7 (by omega);have b8:=hc' 8 (by omega);have b9:=hc' 9 (by omega);simp only[zA,List.getElem?_cons_zero,List.getElem?_cons_succ,Nat.add_zero,<-hnp] at b0 b1 b2 b3 b4 b5 b6 b7 b8 b9;refine⟨rfl,⟨d9,qh h1.blk,hgl',hz',b0,b1,b2,b3,b4,b5,b6,b7,b8,b9⟩,?_⟩;have h2:=h1.put (t:=2) (s':={s with x:=x}) (u:=.int .i64 x) hs1 hpv hv (by omega) rfl ⟨hok.w0,hok.w8,hok.h0,hok.h8,hok.px,hx,hok.yb⟩ rfl;have hs2:({zw d s with l:=(zw d s).l.set i {s with x:=x}}:Dc).l[i]?=some {s with x:=x}:=List.getElem?_set_self hi;have hv2:v.sv=.slice (some ⟨g',0,none⟩) ({zw d s with l:=(zw d s).l.set i {s with x:=x}}:Dc).l.length vc':=by
   show v.sv=.slice _ (d.l.set i {s with x:=x}).length _;rw[List.length_set];exact hv
  have h3:=h2.put (t:=3) (s':={s with x:=x,y:=y}) (u:=.int .i64 y) hs2 hpv hv2 (by omega) rfl (hok.at hx hy) rfl;have e3:({ ({zw d s with l:=(zw d s).l.set i {s with x:=x}}:Dc) with l:=({zw d s with l:=(zw d s).l.set i {s with x:=x}}:Dc).l.set i {s with x:=x,y:=y}}:Dc)={zw d s with l:=d.l.set i {s with x:=x,y:=y}}:=by
   show ({zw d s with l:=(d.l.set i {s with x:=x}).set i {s with x:=x,y:=y}}:Dc)=_;rw[List.set_set]
  rw[e3] at h3;refine (jK h3 {s with x:=x,y:=y} (hok.at hx hy) po np pc).mono ?_;rintro e w2 ⟨rfl,h4,hb4⟩;refine⟨rfl,h4,?_⟩;have hw1:But (DsV rp v) w w1:=hb1.wide fun k _ c=>.inl c;have hw2:=(hw1.setCell (p:=⟨g',i*10+2,none⟩) (.inl (.inr hob)) (.int .i64 x)).setCell (p:=⟨g',i*10+3,none⟩) (.inl (.inr hob)) (.int .i64 y);exact hw2.step hb4 fun k c=>.inl (.inl c)
 have HH:=qg h;have HE:=qg hE;clear h hs hv hok hc hR hpv hE hob hn hnp hi hl16
 by_cases q1:s.x=x
 ·have b1:(s.x == x)=true:=by simpa using q1
  by_cases q2:s.y=y
  ·have b2:(s.y == y)=true:=(by simpa using q2);have HR:Hid (zu d i x y=d):=by
    show zu d i x y=d;rw[qb HE,if_pos ⟨q1,q2⟩]
   clear q1 q2
   go_enter Tryz.func91,Tryz.ntmps91
   go_wp2;refine bodyPost_ret (results_none rfl _ _ _) rfl ⟨rfl,?_,But.refl _ _⟩;rw[qb HR];exact qb HH
  ·have b2:(s.y == y)=false:=(by simpa using q2);have HR:Hid (zu d i x y=zw {zw d s with l:=d.l.set i {s with x:=x,y:=y}} {s with x:=x,y:=y}):=by
    show zu d i x y=_;rw[qb HE,if_neg (fun e=>q2 e.2)]
   subst q1;clear q2 HH b1
   go_enter Tryz.func91,Tryz.ntmps91
   go_wp2_with (first
     | (go_at_call 48;refine (qb HD1).mono ?_;rintro e w1 ⟨rfl,⟨d9,lr1,lg1,hz1,d0,d1,d2,d3,d4,d5,d6,d7,d8,d10⟩,hD2⟩
        have HD2:=qg hD2
        clear hD2 HD1 a0 a1 a2 a3 a4 a5 a6 a7 a8 a9 c9)
     | (go_at_call 48;refine (qb HD2).mono ?_;rintro e w2 ⟨rfl,h2,hb2⟩
        have H2:=qg h2
        have HB2:=qg hb2
        clear h2 hb2))
   go_end0;refine⟨rfl,?_,qb HB2⟩;rw[qb HR];exact qb H2
 ·have b1:(s.x == x)=false:=(by simpa using q1);have HR:Hid (zu d i x y=zw {zw d s with l:=d.l.set i {s with x:=x,y:=y}} {s with x:=x,y:=y}):=by
   show zu d i x y=_;rw[qb HE,if_neg (fun e=>q1 e.1)]
  clear q1 HH
  go_enter Tryz.func91,Tryz.ntmps91
  go_wp2_with (first
    | (go_at_call 48;refine (qb HD1).mono ?_;rintro e w1 ⟨rfl,⟨d9,lr1,lg1,hz1,d0,d1,d2,d3,d4,d5,d6,d7,d8,d10⟩,hD2⟩
       have HD2:=qg hD2
       clear hD2 HD1 a0 a1 a2 a3 a4 a5 a6 a7 a8 a9 c9)
    | (go_at_call 48;refine (qb HD2).mono ?_;rintro e w2 ⟨rfl,h2,hb2⟩
       have H2:=qg h2
       have HB2:=qg hb2
       clear h2 hb2))
  go_end0;refine⟨rfl,?_,qb HB2⟩;rw[qb HR];exact qb H2
end
def DsW (rp:Nat)(v:Dv)(k:Nat):Prop:=DsB rp v k\/v.sv.ownBlock=some k\/v.wv.ownBlock=some k
structure jX (U:Nat->Prop)(w:World)(rp:Nat)(v:Dv)(d':Dc)(w':World):Prop where
 ex:∃ sv' wv' pvs',DSc U w' rp d' {v with sv:=sv',wv:=wv'} pvs'/\(∀ k,sv'.ownBlock=some k->v.sv.ownBlock=some k\/w.heap.size<=k)/\(∀ k,wv'.ownBlock=some k->v.wv.ownBlock=some k\/w.heap.size<=k)
 but:But (DsW rp v) w w'
section
variable {U:Nat->Prop}{w w1 w':World}{rp:Nat}{d d' d'':Dc}{v:Dv}{pvs:List Value}
theorem jX.of (h:DSc U w' rp d' v pvs)(hb:But (DsV rp v) w w'):jX U w rp v d' w':=
 ⟨⟨v.sv,v.wv,pvs,h,fun k e=>.inl e,fun k e=>.inl e⟩,hb.wide fun k _ e=>e.elim (fun e=>.inl e) (fun e=>.inr (.inl e))⟩
theorem DSc.below (h:DSc U w rp d v pvs)(hb:Below w.heap.size w w'):DSc U w' rp d v pvs:=by
 have hbt:But (fun _=>False) w w':=.of_below hb;exact⟨hbt.heap h.blk (fun e=>e),fun i hi=>⟨qi (h.st i hi).1 hbt (fun _ _ e=>e),(h.st i hi).2⟩,h.gi,h.sf.but hbt (fun _ _ e=>e) (fun _ _ e=>e),h.pl,h.far,h.cfg,h.len,qi h.wt hbt (fun _ _ e=>e),h.wU⟩
theorem DSc.newl (h:DSc U w rp d v pvs){l':List Srf}{sv':Value}{pvs':List Value}(hb:But (fun k=>k=rp\/v.sv.ownBlock=some k) w w')(hblk:w'.heap[rp]?=some (.cells (dcs d {v with sv:=sv'}) 121))(hsf:xv U w' 0 sv' (l'.zip pvs'))(hpl:pvs'.length=l'.length)(hU:∀ k,sv'.ownBlock=some k->¬U k)(hlen:l'.length<=16):DSc U w' rp {d with l:=l'} {v with sv:=sv'} pvs':=by
 refine⟨hblk,fun i hi=>⟨qi (h.st i hi).1 hb (fun k hk e=>?_),(h.st i hi).2⟩,h.gi,hsf,hpl,⟨h.far.1,h.far.2.1,hU⟩,h.cfg,hlen,qi h.wt hb (fun k hk e=>?_),h.wU⟩
 ·rcases e with e | e
  ·exact qq (h.st i hi).1 h.blk (by decide) (by rw[<-e];exact hk)
  ·exact qS h.sf.own (h.st i hi).1 (by decide) e hk
 ·rcases e with e | e
  ·exact (h.apartW k hk).1 (.inl e)
  ·exact (h.apartW k hk).2 e
theorem Xt:∀ (l:List Srf)(pvs:List Value)(i:Nat),(l.zip pvs).eraseIdx i=(l.eraseIdx i).zip (pvs.eraseIdx i)
 | [],_,_=>by simp
 | _::_,[],_=>by simp
 | a::l,b::m,0=>rfl
 | a::l,b::m,i+1=>by
  show (a,b)::(l.zip m).eraseIdx i=(a,b)::((l.eraseIdx i).zip (m.eraseIdx i));rw[Xt l m i]
theorem xv.base0 {base:Nat}{sv:Value}{l:List (Srf×Value)}(h:xv U w base sv l):xv U w 0 sv l:=
 ⟨⟨h.own.1,h.own.2.imp id (fun ⟨g,cap,cur,h1,h2,h3⟩=>⟨g,cap,cur,h1,Nat.zero_le _,h3⟩)⟩,h.px,h.ok⟩
theorem qu2 {l:List Srf}{pvs:List Value}(hl:pvs.length=l.length){c n:Int}(h:(c,n)∈l.map qw):JI (l.zip pvs) c n=some (l.findIdx (isK c n)):=by
 obtain⟨s,hs,h1,h2⟩:=xC h;obtain⟨p,hp,hz⟩:=Y1 hl hs;refine JG _ c n _ (s,p) (fun i q hi hq=>?_) hz (by simp[h1,h2]);rw[List.getElem?_zip_eq_some] at hq;have:=List.not_of_lt_findIdx hi;have hq1:=(zzg hq.1).2;rw[hq1] at this;unfold isK at this;have e1:(decide (q.1.cl=c)&&decide (q.1.num=n))=(q.1.cl == c&&q.1.num == n):=by
  rw[Bool.eq_iff_iff];simp
 rw[e1];exact this
end
section
variable {U:Nat->Prop}{w w1 w':World}{rp:Nat}{d d' d'':Dc}{v:Dv}{pvs:List Value}
theorem DSc.newW (h:DSc U w rp d v pvs){m':List (Int×Int)}{wv':Value}(hb:But (fun k=>k=rp\/v.wv.ownBlock=some k) w w')(hblk:w'.heap[rp]?=some (.cells (dcs d {v with wv:=wv'}) 121))(hwt:jM w' 0 wv' m')(hU:∀ k,wv'.ownBlock=some k->¬U k):DSc U w' rp {d with wait:=m'} {v with wv:=wv'} pvs:=by
 refine⟨hblk,fun i hi=>⟨qi (h.st i hi).1 hb (fun k hk e=>?_),(h.st i hi).2⟩,h.gi,h.sf.but hb (fun k hk e=>?_) (fun k hk e=>?_),h.pl,h.far,h.cfg,h.len,hwt,hU⟩
 ·rcases e with e | e
  ·exact qq (h.st i hi).1 h.blk (by decide) (by rw[<-e];exact hk)
  ·exact qS h.wt (h.st i hi).1 (by decide) e hk
 ·rcases e with e | e
  ·exact h.apart k hk (.inl e)
  ·exact (h.apartW k e).2 hk
 ·rcases e with e | e
  ·exact h.far.1 (e ▸ hk)
  ·exact h.wU k e hk
theorem qu8 (h:DSc U w rp d v pvs)(hUl:∀ k,U k->k<w.heap.size)(c:Nat)(o:Opn)(po:Option Addr)(pn pc:Nat)(h8:o.kind=8)(hl:d.wait.length<=1000000000) :
 Calls Tryz.prog 124 #[.pointer (some ⟨rp,0,none⟩),.int .i64 (c:Int),.agg #[.int .i64 o.kind,.int .i64 o.surf,.int .i64 o.x,.int .i64 o.y,.int .i64 o.w,.int .i64 o.h,.slice po pn pc,.int .i64 o.mark]] w fun e w'=>(∃ u,e=.returned u)/\jX U w rp v (qO d c o) w':=by
 have hdd:qO d c o={d with wait:=d.wait++[((c:Int),o.mark)]}:=(by unfold qO;rw[if_pos h8]);rw[hdd,h8];obtain⟨m,hm⟩:∃ m,m=o.mark:=⟨_,rfl⟩;rw[<-hm];obtain⟨ro,rc,hov⟩:=qr h.wt;obtain⟨n,hn⟩:∃ n,n=d.wait.length:=⟨_,rfl⟩;rw[<-hn] at hov;obtain⟨w1,hw1⟩:∃ w1:World,w1=w.alloc (.cells #[.int .i64 8,.int .i64 o.surf,.int .i64 o.x,.int .i64 o.y,.int .i64 o.w,.int .i64 o.h,.slice po pn pc,.int .i64 m] 52):=⟨_,rfl⟩;have hB1:Below w.heap.size w w1:=(by rw[hw1];exact (Below.refl _ w).alloc (zzl _) _);have hK1:w1.heap[w.heap.size]?=some (.cells #[.int .i64 8,.int .i64 o.surf,.int .i64 o.x,.int .i64 o.y,.int .i64 o.w,.int .i64 o.h,.slice po pn pc,.int .i64 m] 52):=(by rw[hw1];exact qt _ _ _ rfl);have hF1:=h.below hB1;obtain⟨W4,hW4⟩:∃ W4:World,W4=(w1.alloc (.cells #[.int .i64 (c:Int),.int .i64 m] 153)).drew:=⟨_,rfl⟩;have hB4:Below w1.heap.size w1 W4:=(by rw[hW4];exact ((Below.refl _ w1).alloc (zzl _) _).drew);have hN4:W4.heap[w1.heap.size]?=some (.cells #[.int .i64 (c:Int),.int .i64 m] 153):=(by rw[hW4];exact qt w1 _ _ rfl);have hF4:=hF1.below hB4;obtain⟨i0',hi',hz0,hz1,hz2⟩:=info_parts Qv;obtain⟨v',w5,hrun,hO5,hg5,-,hv5⟩:=run_append_own_at (P:=Tryz.prog) (w:=W4) 0 87 87 153 i0' _ 2 16 Tryz.underlying87 hi' hz0 hz1 hz2 rfl (by decide) v.wv _ _ hF4.wt ⟨w1.heap.size,0,none⟩ 1 1 [.int .i64 (c:Int),.int .i64 m] rfl (xT hN4) (by simp[Value.oneCell']) (by unfold maxLen;omega) (by omega) (Nat.zero_le _);obtain⟨g',cap',hv'⟩:=jH hO5 (by omega);obtain⟨m5,hm5⟩:∃ m5,m5=d.wait.length+1:=⟨_,rfl⟩;rw[<-hm5] at hv' hO5;subst hv';have hBg:But (fun k=>v.wv.ownBlock=some k) W4 w5:=.of_grown hg5 (fun k e=>e);have hnb:¬v.wv.ownBlock=some rp:=qq h.wt h.blk (by decide);have hS5:=hBg.heap hF4.blk hnb;have hlt:rp<w.heap.size:=qh h.blk;have s1:rp<w1.heap.size:=zzm hlt hB1.size;have s2:w.heap.size<w1.heap.size:=qh hK1;have c16:w1.cell? ⟨rp,25,none⟩=some v.wv:=qe hF1.blk 25;have y0:w1.cell? ⟨w.heap.size,0,none⟩=some (.int .i64 8):=qe hK1 0;have y1:w1.cell? ⟨w.heap.size,7,none⟩=some (.int .i64 m):=qe hK1 7;have s3:(w1.alloc (.cells #[.int .i64 (c:Int),.int .i64 m] 153)).cell? ⟨rp,25,none⟩=some v.wv:=((Below.refl w1.heap.size w1).alloc (zzl _) _).cell s1 |>.trans c16;have r1:w5.cell? ⟨rp,25,none⟩=some v.wv:=qe hS5 25;have r2:∀ j,w5.frozen? ⟨rp,j,none⟩=false:=fun j=>qj hS5 j;have hE:jX U w rp v {d with wait:=d.wait++[((c:Int),m)]} (w5.setCell ⟨rp,25,none⟩ (.slice (some ⟨g',0,none⟩) m5 cap')):=by
  have sz1:=hB1.size;have sz4:=hB4.size;have sz5:=hBg.size;have hb:But (fun k=>k=rp\/v.wv.ownBlock=some k) w (w5.setCell ⟨rp,25,none⟩ (.slice (some ⟨g',0,none⟩) m5 cap')):=(((But.of_below hB1).trans (.of_below hB4)).trans (hBg.wide (fun k _ e=>.inr e))).setCell (p:=⟨rp,25,none⟩) (.inl (.inl rfl)) _;have hnew:∀ k,(Value.slice (some ⟨g',0,none⟩) m5 cap').ownBlock=some k->v.wv.ownBlock=some k\/w.heap.size<=k:=fun k hk=>by
   rcases hv5 with q | q
   ·exact .inl (by rw[<-q];exact hk)
   ·rw[hk] at q;have:=Option.some.inj q;exact .inr (by omega)
  have hgb:¬g'=rp:=fun e=>by
   rcases hnew g' rfl with q | q
   ·exact hnb (by rw[<-e];exact q)
   ·omega
  have hO5':jM w5 0 (.slice (some ⟨g',0,none⟩) m5 cap') (d.wait++[((c:Int),m)]):=by
   unfold jM;rw[Qh,List.length_append];show w5.ownsRow 0 _ 2 _ (d.wait.length+1) _;rw[<-hm5];exact hO5
  have hO6:jM (w5.setCell ⟨rp,25,none⟩ (.slice (some ⟨g',0,none⟩) m5 cap')) 0 (.slice (some ⟨g',0,none⟩) m5 cap') (d.wait++[((c:Int),m)]):=qi hO5' ((But.refl (fun k=>k=rp) w5).setCell (p:=⟨rp,25,none⟩) (.inl rfl) _) (fun k hk e=>by cases hk;exact hgb e);refine⟨⟨v.sv,.slice (some ⟨g',0,none⟩) m5 cap',pvs,h.newW hb (qp (i:=25) hS5 _) hO6 (fun k hk e=>?_),fun k e=>.inl e,hnew⟩,hb.wide fun k _ e=>?_⟩
  ·rcases hnew k hk with q | q
   ·exact h.wU k q e
   ·have:=hUl k e;omega
  ·rcases e with e | e
   ·exact .inl (.inl e)
   ·exact .inr (.inr e)
 have HE:=qg hE;have HR:=qg hrun;have HW1:=qg hw1;rw[hov] at c16 s3 r1 HR;subst hW4;clear hE hrun hw1 hB1 hF1 hB4 hN4 hF4 hi' hz0 hz1 hz2 hO5 hg5 hv5 hm5 hBg hnb hS5 h hn hov hK1 hdd h8 hm hUl
 go_enter Tryz.func124,Tryz.ntmps124
 go_wp2;rw[<-qb HW1]
 go_region_law (refine zS (by kernel_rfl) (.tmp 20) (.tmp 25) 87 87 (by kernel_rfl) (by kernel_rfl) (.slice ro n rc) (.slice (some ⟨w1.heap.size,0,none⟩) 1 1) _ _ (by kernel_rfl) (by kernel_rfl) (qb HR) ?_)
 all_goals
  (try simp only[Exit.then])
  (try go_simp)
  (try go_wp2)
  (first | go_end0 | refine bodyPost_ret (results_none rfl _ _ _) rfl ?_)
  exact⟨⟨_,rfl⟩,qb HE⟩
end
section
variable {U:Nat->Prop}{w w1 w':World}{rp:Nat}{d d' d'':Dc}{v:Dv}{pvs:List Value}
theorem yn (h:DSc U w rp d v pvs):(d.l.zip pvs).length=d.l.length:=by rw[List.length_zip,h.pl,Nat.min_self]
theorem DSc.find (h:DSc U w rp d v pvs)(c n:Int):Calls Tryz.prog 143 #[.pointer (some ⟨rp,0,none⟩),.int .i64 c,.int .i64 n] w fun e w'=>(∃ k:Int,e=.returned (.int .i64 k)/\((c,n)∈d.l.map qw->k=(d.l.findIdx (isK c n):Nat)))/\Below w.heap.size w w':=by
 refine (qu3 h.sf h.c9 (by rw[yn h];have:=h.len;omega) c n).mono ?_;rintro e w' ⟨⟨k,he,hk⟩,hb⟩;refine⟨⟨k,he,fun hm=>?_⟩,hb⟩;have hf:=qu2 h.pl hm
 rcases hk with ⟨hn,-⟩ | ⟨j,hj,e2⟩
 ·rw[hf] at hn;cases hn
 ·rw[hf] at hj;have:=Option.some.inj hj;rw[e2,<-this]
end
abbrev opX (o:Opn)(k:Int)(po:Option Addr)(pn pc:Nat):Obj:=.cells #[.int .i64 k,.int .i64 o.surf,.int .i64 o.x,.int .i64 o.y,.int .i64 o.w,.int .i64 o.h,.slice po pn pc,.int .i64 o.mark] 52
section
variable {U:Nat->Prop}{w w1 w2 w':World}{rp:Nat}{d d' d'':Dc}{v:Dv}{pvs:List Value}
theorem DSc.gl (h:DSc U w rp d v pvs):∀ k,DsB rp v k->k<w.heap.size:=fun k e=>by
 rcases e with e | e | e | e<;>subst e
 ·exact qh h.blk
 ·exact (World.ownsRow.lt (h.st 0 (by omega)).1 _ rfl).2
 ·exact (World.ownsRow.lt (h.st 1 (by omega)).1 _ rfl).2
 ·exact (World.ownsRow.lt (h.st 2 (by omega)).1 _ rfl).2
theorem kW (h:DSc U w rp d v pvs)(c:Nat){n:Int}(hm:((c:Int),n)∈d.l.map qw)(B:Obj):Calls Tryz.prog 143 #[.pointer (some ⟨rp,0,none⟩),.int .i64 (c:Int),.int .i64 n] (w.alloc B) fun e w2=>e=.returned (.int .i64 ((d.l.findIdx (isK c n):Nat):Int))/\DSc U w2 rp d v pvs/\Below w.heap.size w w2/\w2.heap[w.heap.size]?=some B:=by
 have hB1:Below w.heap.size w (w.alloc B):=(Below.refl _ w).alloc (zzl _) _;have hF1:=h.below hB1;refine (hF1.find (c:Int) n).mono ?_;rintro e w2 ⟨⟨k,rfl,hk⟩,hb2⟩;rw[hk hm];exact⟨rfl,hF1.below hb2,hB1.trans (hb2.mono hB1.size),(hb2.block _ (by simp)).trans (qt w B _ rfl)⟩
structure SfC (w:World)(rp g n vc i:Nat)(s:Srf)(qo:Option Addr)(np qc:Nat):Prop where
 c9:w.cell? ⟨rp,9,none⟩=some (.slice (some ⟨g,0,none⟩) n vc)
 lr:rp<w.heap.size
 lg:g<w.heap.size
 fz:∀ t,w.frozen? ⟨g,t,none⟩=false
 fr:∀ t,w.frozen? ⟨rp,t,none⟩=false
 a0:w.cell? ⟨g,i*10,none⟩=some (.int .i64 s.cl)
 a1:w.cell? ⟨g,i*10+1,none⟩=some (.int .i64 s.num)
 a2:w.cell? ⟨g,i*10+2,none⟩=some (.int .i64 s.x)
 a3:w.cell? ⟨g,i*10+3,none⟩=some (.int .i64 s.y)
 a4:w.cell? ⟨g,i*10+4,none⟩=some (.int .i64 s.w)
 a5:w.cell? ⟨g,i*10+5,none⟩=some (.int .i64 s.h)
 a6:w.cell? ⟨g,i*10+6,none⟩=some (.slice qo np qc)
 a7:w.cell? ⟨g,i*10+7,none⟩=some (.int .i64 s.dx)
 a8:w.cell? ⟨g,i*10+8,none⟩=some (.int .i64 s.dy)
 a9:w.cell? ⟨g,i*10+9,none⟩=some (.int .i64 s.left)
theorem DSc.sfc (h:DSc U w rp d v pvs){i:Nat}{s:Srf}(hs:d.l[i]?=some s){g vc np qc:Nat}{qo:Option Addr}(hv:v.sv=.slice (some ⟨g,0,none⟩) d.l.length vc)(hp:pvs[i]?=some (.slice qo np qc)):SfC w rp g d.l.length vc i s qo np qc/\np=s.px.length:=by
 obtain⟨g',vc',po',pc',hv',hgl',-,-,-,hpv',-,-,hz',hc⟩:=h.at hs;rw[hv] at hv';simp only[Value.slice.injEq,Option.some.injEq,Addr.mk.injEq,and_true,true_and] at hv';obtain⟨rfl,rfl⟩:=hv';rw[hp] at hpv';simp only[Option.some.injEq,Value.slice.injEq] at hpv';obtain⟨rfl,rfl,rfl⟩:=hpv';have a0:=hc 0 (by omega);have a1:=hc 1 (by omega);have a2:=hc 2 (by omega);have a3:=hc 3 (by omega);have a4:=hc 4 (by omega);have a5:=hc 5 (by omega);have a6:=hc 6 (by omega);have a7:=hc 7 (by omega);have a8:=hc 8 (by omega);have a9:=hc 9 (by omega);simp only[zA,List.getElem?_cons_zero,List.getElem?_cons_succ,Nat.add_zero] at a0 a1 a2 a3 a4 a5 a6 a7 a8 a9;exact⟨⟨by rw[h.c9,hv],qh h.blk,hgl',hz',fun t=>qj h.blk t,a0,a1,a2,a3,a4,a5,a6,a7,a8,a9⟩,rfl⟩
theorem vN (h:DSc U w rp d v pvs){i:Nat}(hi:i<d.l.length):Calls Tryz.prog 49 #[.pointer (some ⟨rp,0,none⟩),.int .i64 (i:Int)] w fun e w'=>∃ v',e=.returned v'/\xv U w' w.heap.size v' ((d.l.eraseIdx i).zip (pvs.eraseIdx i))/\Below w.heap.size w w':=by
 refine (VR h.sf h.c9 (by rw[yn h];have:=h.len;omega) i (by rw[yn h];exact hi)).mono ?_;rintro e w' ⟨v',h1,h2,h3⟩;rw[Xt] at h2;exact⟨v',h1,h2,h3⟩
theorem xv.lt {base:Nat}{sv:Value}{l:List (Srf×Value)}(h:xv U w base sv l):∀ k,sv.ownBlock=some k->base<=k/\k<w.heap.size:=World.ownsRow.lt h.own
theorem DSc.lay (h:DSc U w rp d v pvs)(hUl:∀ k,U k->k<w.heap.size){l':List Srf}{sv':Value}{pvs':List Value}(hb:Below w.heap.size w w')(hsf:xv U w' w.heap.size sv' (l'.zip pvs'))(hpl:pvs'.length=l'.length)(hlen:l'.length<=16):DSc U (w'.setCell ⟨rp,9,none⟩ sv') rp {d with l:=l'} {v with sv:=sv'} pvs'/\But (fun k=>k=rp) w (w'.setCell ⟨rp,9,none⟩ sv')/\∀ k,sv'.ownBlock=some k->w.heap.size<=k:=by
 have hlt:=qh h.blk;have hbt:But (fun k=>k=rp) w' (w'.setCell ⟨rp,9,none⟩ sv'):=(But.refl (fun k=>k=rp) w').setCell (p:=⟨rp,9,none⟩) (.inl rfl) _;have hball:But (fun k=>k=rp) w (w'.setCell ⟨rp,9,none⟩ sv'):=(But.of_below hb).trans hbt;have hnew:∀ k,sv'.ownBlock=some k->w.heap.size<=k:=fun k hk=>(hsf.lt k hk).1;have hk0:w'.heap[rp]?=some (.cells (dcs d v) 121):=(hb.block rp hlt).trans h.blk;refine⟨h.newl (hball.wide fun k _ e=>.inl e) (qp (i:=9) hk0 _) ((hsf.base0).but hbt (fun k hk e=>?_) (fun k hk e=>h.far.1 (e ▸ hk))) hpl (fun k hk e=>?_) hlen,hball,hnew⟩
 ·have:=hnew k hk;omega
 ·have:=hnew k hk;have:=hUl k e;omega
theorem Vw (h:DSc U w rp d v pvs)(hUl:∀ k,U k->k<w.heap.size)(c:Nat)(o:Opn)(po:Option Addr)(pn pc:Nat)(h2:o.kind=2)(hm:((c:Int),o.surf)∈d.l.map qw) :
 Calls Tryz.prog 124 #[.pointer (some ⟨rp,0,none⟩),.int .i64 (c:Int),.agg #[.int .i64 o.kind,.int .i64 o.surf,.int .i64 o.x,.int .i64 o.y,.int .i64 o.w,.int .i64 o.h,.slice po pn pc,.int .i64 o.mark]] w fun e w'=>(∃ u,e=.returned u)/\jX U w rp v (qO d c o) w':=by
 obtain⟨s,hs,-,-⟩:=xC hm;obtain⟨i,hi⟩:∃ i,i=d.l.findIdx (isK c o.surf):=⟨_,rfl⟩;have hF:=kW h c hm (opX o 2 po pn pc);have hdd:qO d c o={zw d s with l:=d.l.eraseIdx i}:=by
  unfold qO;rw[if_neg (by omega),if_neg (by omega),hs];simp only;rw[if_pos h2,List.eraseIdx_eq_take_drop_succ,hi]
 rw[<-hi] at hF hs;rw[hdd,h2];obtain⟨g,vc,qo,qc,hv,-,-,-,-,hpv,-,hok,-,-⟩:=h.at hs;obtain⟨np,hnp⟩:∃ np,np=s.px.length:=⟨_,rfl⟩;rw[<-hnp] at hpv;obtain⟨n,hn⟩:∃ n,n=d.l.length:=⟨_,rfl⟩;have hil:=(zzg hs).1;have hl16:=h.len;have HF:Hid (Calls Tryz.prog 143 #[.pointer (some ⟨rp,0,none⟩),.int .i64 (c:Int),.int .i64 o.surf] (w.alloc (opX o 2 po pn pc)) fun e w2=>e=.returned (.int .i64 (i:Int))/\SfC w2 rp g n vc i s qo np qc/\w2.cell? ⟨w.heap.size,0,none⟩=some (.int .i64 2)/\w.heap.size<w2.heap.size/\
  Calls Tryz.prog 48 #[.pointer (some ⟨rp,0,none⟩),.agg #[.int .i64 s.cl,.int .i64 s.num,.int .i64 s.x,.int .i64 s.y,.int .i64 s.w,.int .i64 s.h,.slice qo np qc,.int .i64 s.dx,.int .i64 s.dy,.int .i64 s.left]] w2 fun e w3=>e=.returned (.tuple #[])/\
   Calls Tryz.prog 49 #[.pointer (some ⟨rp,0,none⟩),.int .i64 (i:Int)] w3 fun e w4=>∃ v',e=.returned v'/\(∃ u,w4.cell? ⟨rp,9,none⟩=some u)/\(∀ t,w4.frozen? ⟨rp,t,none⟩=false)/\rp<w4.heap.size/\(∃ ro rn rc,v'=.slice ro rn rc)/\jX U w rp v {zw d s with l:=d.l.eraseIdx i} (w4.setCell ⟨rp,9,none⟩ v')):=by
  refine hF.mono ?_;rintro e w2 ⟨rfl,hS2,hb2,hbx⟩;have hc2:=hS2.sfc hs hv hpv;have hz2:=hb2.size;refine⟨rfl,by rw[hn];exact hc2.1,qe hbx 0,qh hbx,(jK hS2 s hok qo np qc).mono ?_⟩;rintro e w3 ⟨rfl,hS3,hb3⟩;have hz3:=hb3.size;refine⟨rfl,(vN (i:=i) hS3 hil).mono ?_⟩;rintro e w4 ⟨v',rfl,hR4,hb4⟩;have hk4:w4.heap[rp]?=some (.cells (dcs (zw d s) v) 121):=(hb4.block rp (qh hS3.blk)).trans hS3.blk;refine⟨v',rfl,⟨_,qe hk4 9⟩,fun t=>qj hk4 t,qh hk4,?_,?_⟩
  ·obtain⟨ro,rc,e⟩:=qr hR4.own;exact⟨ro,_,rc,e⟩
  ·have hle:((zw d s).l.eraseIdx i).length<=16:=by
    show (d.l.eraseIdx i).length<=16;rw[List.length_eraseIdx];split<;>omega
   obtain⟨k1,k2,k3⟩:=hS3.lay (fun k hk=>by have:=hUl k hk;omega) hb4 hR4 (by rw[List.length_eraseIdx,List.length_eraseIdx,h.pl];rfl) hle;refine⟨⟨v',v.wv,_,k1,fun k hk=>.inr (by have:=k3 k hk;omega),fun k e=>.inl e⟩,?_⟩;have hw2:But (DsW rp v) w w2:=.of_below hb2;exact (hw2.step hb3 fun k e=>.inl (.inl e)).step k2 fun k e=>.inl (.inl (.inl e))
 have i0:(0:Int)<=(i:Int):=(by omega);have i1:(i:Int)<(n:Int):=(by omega);have hn16:n<=16:=(by omega);clear hF hdd h hUl hs hm h2 hv hpv hok hi hl16 hnp hn hil;have en:IntKind.i64.wrap ((n:Int)-1)=(n:Int)-1:=by rw[IntKind.wrap_i64];omega
 go_enter Tryz.func124,Tryz.ntmps124
 go_wp2_with (first
   | (go_at_call 143;refine (qb HF).mono ?_;rintro e w2 ⟨rfl,hC,y0,ly,hD⟩
      obtain⟨c9,lr,lg,fz,fr,a0,a1,a2,a3,a4,a5,a6,a7,a8,a9⟩:=hC
      have HD:=qg hD
      clear hD HF)
   | (go_at_call 48;refine (qb HD).mono ?_;rintro e w3 ⟨rfl,hWo⟩
      have HWo:=qg hWo
      clear hWo c9 a0 a1 a2 a3 a4 a5 a6 a7 a8 a9 HD)
   | (go_at_call 49;refine (qb HWo).mono ?_;rintro e w4 ⟨v',rfl,⟨u,d9⟩,f9,l4,⟨ro,rn,rc,rfl⟩,hG⟩
      have HG:=qg hG
      clear hG))
 go_end0;exact⟨⟨_,rfl⟩,qb HG⟩
end
section
variable {U:Nat->Prop}{w w1 w2 w':World}{rp:Nat}{d d' d'':Dc}{v:Dv}{pvs:List Value}
theorem xv.one {base:Nat}{sv:Value}{l:List (Srf×Value)}(h:xv U w base sv l):∀ u∈qQ l,u.oneCell'=true:=Zc l (fun p hp=>by
 obtain⟨po,pc,e,-⟩:=h.px p hp;exact⟨po,_,pc,e⟩)
theorem qq5 {w3 w4:World}{v1:Value}{l:List Srf}{ps:List Value}(hpl:ps.length=l.length)(hl:l.length<=1000)(hR:xv U w4 w3.heap.size v1 (l.zip ps))(hb:Below w3.heap.size w3 w4)(hUl:∀ k,U k->k<w3.heap.size){s:Srf}{qo:Option Addr}{np qc:Nat}(hnp:np=s.px.length)(hok:xq s)(hpx:RdN U w4 (.slice qo np qc) s.px) :
 ∃ v2 w6,(Builtin.append_ #[115,115] 115 #[v1,.slice (some ⟨w4.heap.size,0,none⟩) 1 1]).run Tryz.prog (w4.alloc (.cells #[.int .i64 s.cl,.int .i64 s.num,.int .i64 s.x,.int .i64 s.y,.int .i64 s.w,.int .i64 s.h,.slice qo np qc,.int .i64 s.dx,.int .i64 s.dy,.int .i64 s.left] 128))=.ok v2 w6/\Below w3.heap.size w3 w6/\xv U w6 w3.heap.size v2 ((l++[s]).zip (ps++[.slice qo np qc])):=by
 have hzl:(l.zip ps).length=l.length:=(by rw[List.length_zip,hpl,Nat.min_self]);obtain⟨W5,hW5⟩:∃ W5:World,W5=w4.alloc (.cells #[.int .i64 s.cl,.int .i64 s.num,.int .i64 s.x,.int .i64 s.y,.int .i64 s.w,.int .i64 s.h,.slice qo np qc,.int .i64 s.dx,.int .i64 s.dy,.int .i64 s.left] 128):=⟨_,rfl⟩;have hB5:Below w4.heap.size w4 W5:=(by rw[hW5];exact (Below.refl _ w4).alloc (zzl _) _);have hN5:W5.heap[w4.heap.size]?=some (.cells #[.int .i64 s.cl,.int .i64 s.num,.int .i64 s.x,.int .i64 s.y,.int .i64 s.w,.int .i64 s.h,.slice qo np qc,.int .i64 s.dx,.int .i64 s.dy,.int .i64 s.left] 128):=(by rw[hW5];exact qt w4 _ _ rfl);have hbt:But (fun _=>False) w4 W5:=.of_below hB5;have hR5:=hR.but hbt (fun _ _ e=>e) (fun _ _ e=>e);obtain⟨i0',hi',hz0,hz1,hz2⟩:=info_parts QV;have s1:=hb.size;have s2:=hB5.size;obtain⟨v2,w6,hrun,hO6,hg6,-,-⟩:=run_append_own_at (P:=Tryz.prog) (w:=W5) w3.heap.size 115 115 128 i0' _ 10 96 Tryz.underlying115 hi' hz0 hz1 hz2 rfl (by decide) v1 _ _ hR5.own ⟨w4.heap.size,0,none⟩ 1 1 [.int .i64 s.cl,.int .i64 s.num,.int .i64 s.x,.int .i64 s.y,.int .i64 s.w,.int .i64 s.h,.slice qo np qc,.int .i64 s.dx,.int .i64 s.dy,.int .i64 s.left] rfl (xT hN5) (by simp[Value.oneCell']) (by unfold maxLen;omega) (by omega) (by omega);rw[<-hW5];have hBg:But (fun k=>v1.ownBlock=some k) W5 w6:=.of_grown hg6 (fun k e=>e);have hbel:Below w3.heap.size w3 w6:=(hb.trans (hB5.mono s1)).trans (hBg.below (by omega) (fun k e=>(hR5.lt k e).1));refine⟨v2,w6,hrun,hbel,?_⟩;have hzip:(l++[s]).zip (ps++[.slice qo np qc])=l.zip ps++[(s,.slice qo np qc)]:=List.zip_append hpl.symm;have hbU:But (fun k=>v1.ownBlock=some k) w4 w6:=(But.of_below hB5).trans hBg;have hnU:∀ k,U k->¬v1.ownBlock=some k:=fun k hk e=>by have:=hUl k hk;have:=(hR.lt k e).1;omega
 refine⟨?_,fun q hq=>?_,fun q hq=>?_⟩
 ·rw[hzip,List.length_append,jO];exact hO6
 ·rw[hzip] at hq
  rcases List.mem_append.1 hq with e | e
  ·obtain⟨po,pc,e1,e2⟩:=hR.px q e;exact⟨po,pc,e1,e2.but hbU hnU⟩
  ·rw[List.mem_singleton] at e;subst e;exact⟨qo,qc,by rw[hnp],by rw[<-hnp];exact hpx.but hbU hnU⟩
 ·rw[hzip] at hq
  rcases List.mem_append.1 hq with e | e
  ·exact hR.ok q e
  ·rw[List.mem_singleton] at e;subst e;exact hok
theorem qa4 (h:DSc U w rp d v pvs)(hUl:∀ k,U k->k<w.heap.size)(c:Nat)(o:Opn)(po:Option Addr)(pn pc:Nat)(hkd:o.kind=5)(hm:((c:Int),o.surf)∈d.l.map qw) :
 Calls Tryz.prog 124 #[.pointer (some ⟨rp,0,none⟩),.int .i64 (c:Int),.agg #[.int .i64 o.kind,.int .i64 o.surf,.int .i64 o.x,.int .i64 o.y,.int .i64 o.w,.int .i64 o.h,.slice po pn pc,.int .i64 o.mark]] w fun e w'=>(∃ u,e=.returned u)/\jX U w rp v (qO d c o) w':=by
 obtain⟨s,hs,-,-⟩:=xC hm;obtain⟨i,hi⟩:∃ i,i=d.l.findIdx (isK c o.surf):=⟨_,rfl⟩;have hF:=kW h c hm (opX o 5 po pn pc);have hdd:qO d c o=if i+1<d.l.length then {zw d s with l:=d.l.eraseIdx i++[s]} else d:=by
  unfold qO;rw[if_neg (by omega),if_neg (by omega),hs];simp only;rw[if_neg (by omega),if_neg (by omega),if_neg (by omega),if_pos hkd,List.eraseIdx_eq_take_drop_succ,hi]
 rw[<-hi] at hF hs;rw[hdd,hkd];obtain⟨g,vc,qo,qc,hv,hgl,hgr,hgn,hgU,hpv,hRpx,hok,-,-⟩:=h.at hs;obtain⟨np,hnp⟩:∃ np,np=s.px.length:=⟨_,rfl⟩;rw[<-hnp] at hpv;obtain⟨n,hn⟩:∃ n,n=d.l.length:=⟨_,rfl⟩;have hil:=(zzg hs).1;have hl16:=h.len;have hob:v.sv.ownBlock=some g:=(by rw[hv];rfl);have HF:Hid (Calls Tryz.prog 143 #[.pointer (some ⟨rp,0,none⟩),.int .i64 (c:Int),.int .i64 o.surf] (w.alloc (opX o 5 po pn pc)) fun e w2=>e=.returned (.int .i64 (i:Int))/\SfC w2 rp g n vc i s qo np qc/\(w2.cell? ⟨w.heap.size,0,none⟩=some (.int .i64 5)/\w2.cell? ⟨w.heap.size,2,none⟩=some (.int .i64 o.x)/\w2.cell? ⟨w.heap.size,3,none⟩=some (.int .i64 o.y)/\w2.cell? ⟨w.heap.size,4,none⟩=some (.int .i64 o.w)/\w2.cell? ⟨w.heap.size,5,none⟩=some (.int .i64 o.h)/\w2.cell? ⟨w.heap.size,6,none⟩=some (.slice po pn pc)/\w.heap.size<w2.heap.size)/\(¬i+1<n->jX U w rp v d w2)/\
  (i+1<n->Calls Tryz.prog 48 #[.pointer (some ⟨rp,0,none⟩),.agg #[.int .i64 s.cl,.int .i64 s.num,.int .i64 s.x,.int .i64 s.y,.int .i64 s.w,.int .i64 s.h,.slice qo np qc,.int .i64 s.dx,.int .i64 s.dy,.int .i64 s.left]] (w2.alloc (.cells #[.int .i64 s.cl,.int .i64 s.num,.int .i64 s.x,.int .i64 s.y,.int .i64 s.w,.int .i64 s.h,.slice qo np qc,.int .i64 s.dx,.int .i64 s.dy,.int .i64 s.left] 128)) fun e w3=>e=.returned (.tuple #[])/\
   Calls Tryz.prog 49 #[.pointer (some ⟨rp,0,none⟩),.int .i64 (i:Int)] w3 fun e w4=>∃ ro rn rc,e=.returned (.slice ro rn rc)/\(w4.cell? ⟨w2.heap.size,0,none⟩=some (.int .i64 s.cl)/\w4.cell? ⟨w2.heap.size,1,none⟩=some (.int .i64 s.num)/\w4.cell? ⟨w2.heap.size,2,none⟩=some (.int .i64 s.x)/\w4.cell? ⟨w2.heap.size,3,none⟩=some (.int .i64 s.y)/\w4.cell? ⟨w2.heap.size,4,none⟩=some (.int .i64 s.w)/\w4.cell? ⟨w2.heap.size,5,none⟩=some (.int .i64 s.h)/\w4.cell? ⟨w2.heap.size,6,none⟩=some (.slice qo np qc)/\w4.cell? ⟨w2.heap.size,7,none⟩=some (.int .i64 s.dx)/\w4.cell? ⟨w2.heap.size,8,none⟩=some (.int .i64 s.dy)/\w4.cell? ⟨w2.heap.size,9,none⟩=some (.int .i64 s.left))/\w2.heap.size<w4.heap.size/\
    ∃ v2 w6,(Builtin.append_ #[115,115] 115 #[.slice ro rn rc,.slice (some ⟨w4.heap.size,0,none⟩) 1 1]).run Tryz.prog (w4.alloc (.cells #[.int .i64 s.cl,.int .i64 s.num,.int .i64 s.x,.int .i64 s.y,.int .i64 s.w,.int .i64 s.h,.slice qo np qc,.int .i64 s.dx,.int .i64 s.dy,.int .i64 s.left] 128))=.ok v2 w6/\(∃ u,w6.cell? ⟨rp,9,none⟩=some u)/\(∀ t,w6.frozen? ⟨rp,t,none⟩=false)/\rp<w6.heap.size/\(∃ ro rn rc,v2=.slice ro rn rc)/\jX U w rp v {zw d s with l:=d.l.eraseIdx i++[s]} (w6.setCell ⟨rp,9,none⟩ v2))):=by
  refine hF.mono ?_;rintro e w2 ⟨rfl,hS2,hb2,hbx⟩;have hc2:=hS2.sfc hs hv hpv;have hz2:=hb2.size;refine⟨rfl,by rw[hn];exact hc2.1,⟨qe hbx 0,qe hbx 2,qe hbx 3,qe hbx 4,qe hbx 5,qe hbx 6,qh hbx⟩,fun _=>jX.of hS2 (.of_below hb2),fun hlt=>?_⟩;have hBw:Below w2.heap.size w2 (w2.alloc (.cells #[.int .i64 s.cl,.int .i64 s.num,.int .i64 s.x,.int .i64 s.y,.int .i64 s.w,.int .i64 s.h,.slice qo np qc,.int .i64 s.dx,.int .i64 s.dy,.int .i64 s.left] 128)):=(Below.refl _ w2).alloc (zzl _) _;have hSw:=hS2.below hBw;refine (jK hSw s hok qo np qc).mono ?_;rintro e w3 ⟨rfl,hS3,hb3⟩;have hz3:=hb3.size;have hz3':w2.heap.size<w3.heap.size:=zzm (by simp) hz3;have hB3:w3.heap[w2.heap.size]?=some (.cells #[.int .i64 s.cl,.int .i64 s.num,.int .i64 s.x,.int .i64 s.y,.int .i64 s.w,.int .i64 s.h,.slice qo np qc,.int .i64 s.dx,.int .i64 s.dy,.int .i64 s.left] 128):=hb3.heap (qt w2 _ _ rfl) (fun e=>by have:=hS2.gl _ e;omega);refine⟨rfl,(vN (i:=i) hS3 hil).mono ?_⟩;rintro e w4 ⟨v',rfl,hR4,hb4⟩;have hz4:=hb4.size;obtain⟨ro,rc,hv1⟩:=qr hR4.own;have hB:w4.heap[w2.heap.size]?=some (.cells #[.int .i64 s.cl,.int .i64 s.num,.int .i64 s.x,.int .i64 s.y,.int .i64 s.w,.int .i64 s.h,.slice qo np qc,.int .i64 s.dx,.int .i64 s.dy,.int .i64 s.left] 128):=(hb4.block _ hz3').trans hB3;have hUl3:∀ k,U k->k<w3.heap.size:=fun k hk=>by have:=hUl k hk;omega
  have hw3:But (DsB rp v) w w3:=((But.of_below hb2).trans (.of_below hBw)).trans hb3;have hRp:RdN U w4 (.slice qo np qc) s.px:=by
   rw[hnp];exact (hRpx.but hw3 h.nU).below hb4
  have hle:((zw d s).l.eraseIdx i).length+1=d.l.length:=by
   show (d.l.eraseIdx i).length+1=_;rw[List.length_eraseIdx,if_pos hil];omega
  have hpe:(pvs.eraseIdx i).length=((zw d s).l.eraseIdx i).length:=(by rw[List.length_eraseIdx,List.length_eraseIdx,h.pl];rfl);obtain⟨v2,w6,hrun,hbel,hR6⟩:=qq5 hpe (by omega) hR4 hb4 hUl3 hnp hok hRp;rw[hv1] at hrun ⊢;have hk6:w6.heap[rp]?=some (.cells (dcs (zw d s) v) 121):=(hbel.block rp (qh hS3.blk)).trans hS3.blk;obtain⟨ro2,rc2,hv2⟩:=qr hR6.own;refine⟨ro,_,rc,rfl,⟨qe hB 0,qe hB 1,qe hB 2,qe hB 3,qe hB 4,qe hB 5,qe hB 6,qe hB 7,qe hB 8,qe hB 9⟩,by omega,v2,w6,hrun,⟨_,qe hk6 9⟩,fun t=>qj hk6 t,qh hk6,⟨ro2,_,rc2,hv2⟩,?_⟩;obtain⟨k1,k2,k3⟩:=hS3.lay hUl3 hbel hR6 (by rw[List.length_append,List.length_append,hpe];rfl) (by rw[List.length_append];simp only[List.length_cons,List.length_nil];omega);refine⟨⟨v2,v.wv,_,k1,fun k hk=>.inr (by have:=k3 k hk;omega),fun k e=>.inl e⟩,?_⟩;exact (hw3.wide fun k _ e=>.inl e).step k2 fun k e=>.inl (.inl (.inl e))
 have i0:(0:Int)<=(i:Int):=(by omega);have i1:(i:Int)<(n:Int):=(by omega);have hn16:n<=16:=(by omega);have en:IntKind.i64.wrap ((n:Int)-1)=(n:Int)-1:=(by rw[IntKind.wrap_i64];omega);have hgb:¬g=w.heap.size:=(by omega);have hbg:¬w.heap.size=g:=(by omega);have hgr':¬rp=g:=fun e=>hgr e.symm;have hrb:¬rp=w.heap.size:=(by have:=qh h.blk;omega);rw[<-hn];clear hF hdd h hUl hs hm hkd hv hpv hok hi hl16 hnp hn hil hRpx hgn hgU hob
 by_cases hlt:i+1<n
 ·rw[if_pos hlt];have i2:(i:Int)<(n:Int)-1:=by omega
  go_enter Tryz.func124,Tryz.ntmps124
  go_wp2_with (first
    | (go_at_call 143;refine (qb HF).mono ?_;rintro e w2 ⟨rfl,hC,⟨y0,y2,y3,y4,y5,y6,ly⟩,-,hD⟩
       obtain⟨c9,lr,lg,fz,fr,a0,a1,a2,a3,a4,a5,a6,a7,a8,a9⟩:=hC
       have HD:=qg (hD hlt)
       clear hD HF fz)
    | (go_at_call 48;refine (qb HD).mono ?_;rintro e w3 ⟨rfl,hWo⟩
       have HWo:=qg hWo
       clear hWo c9 lr lg fr a0 a1 a2 a3 a4 a5 a6 a7 a8 a9 HD y0 y2 y3 y4 y5 y6 ly)
    | (go_at_call 49;refine (qb HWo).mono ?_;rintro e w4 ⟨ro,rn,rc,rfl,⟨x0,x1,x2,x3,x4,x5,x6,x7,x8,x9⟩,lx,v2,w6,hrun,⟨u,d9⟩,f9,l6,⟨ro2,rn2,rc2,rfl⟩,hG⟩
       have HR:=qg hrun
       have HG:=qg hG
       clear hG hrun)
    | (at_builtin;refine zq rfl _ _ 115 115 rfl rfl _ _ _ _ rfl rfl (qb HR) ?_))
  go_end0;exact⟨⟨_,rfl⟩,qb HG⟩
 ·rw[if_neg hlt];have i2:¬(i:Int)<(n:Int)-1:=by omega
  go_enter Tryz.func124,Tryz.ntmps124
  go_wp2_with (go_at_call 143;refine (qb HF).mono ?_;rintro e w2 ⟨rfl,hC,⟨y0,y2,y3,y4,y5,y6,ly⟩,hG,-⟩
               obtain⟨c9,lr,lg,fz,fr,a0,a1,a2,a3,a4,a5,a6,a7,a8,a9⟩:=hC
               have HG:=qg (hG hlt)
               clear hG HF fz)
  go_end0;exact⟨⟨_,rfl⟩,qb HG⟩
end
section
variable {U:Nat->Prop}{w w1 w2 w':World}{rp:Nat}{d d' d'':Dc}{v:Dv}{pvs:List Value}
theorem qq6 {w3 w5:World}{v1:Value}{l:List Srf}{ps:List Value}(hpl:ps.length=l.length)(hl:l.length<=1000)(hl0:0<l.length){s:Srf}{qo:Option Addr}{np qc:Nat}(hR:xv U w5 (w3.alloc (.cells #[.int .i64 s.cl,.int .i64 s.num,.int .i64 s.x,.int .i64 s.y,.int .i64 s.w,.int .i64 s.h,.slice qo np qc,.int .i64 s.dx,.int .i64 s.dy,.int .i64 s.left] 128)).heap.size v1 (l.zip ps))(hb:Below (w3.alloc (.cells #[.int .i64 s.cl,.int .i64 s.num,.int .i64 s.x,.int .i64 s.y,.int .i64 s.w,.int .i64 s.h,.slice qo np qc,.int .i64 s.dx,.int .i64 s.dy,.int .i64 s.left] 128)).heap.size (w3.alloc (.cells #[.int .i64 s.cl,.int .i64 s.num,.int .i64 s.x,.int .i64 s.y,.int .i64 s.w,.int .i64 s.h,.slice qo np qc,.int .i64 s.dx,.int .i64 s.dy,.int .i64 s.left] 128)) w5)(hUl:∀ k,U k->k<w3.heap.size)(hnp:np=s.px.length)(hok:xq s)(hpx:RdN U w5 (.slice qo np qc) s.px) :
 ∃ v2 w6,(Builtin.append_ #[115,115] 115 #[.slice (some ⟨w3.heap.size,0,none⟩) 1 1,v1]).run Tryz.prog w5=.ok v2 w6/\Below w3.heap.size w3 w6/\xv U w6 w3.heap.size v2 ((s::l).zip (.slice qo np qc::ps)):=by
 have hzl:(l.zip ps).length=l.length:=(by rw[List.length_zip,hpl,Nat.min_self]);have hB4:Below w3.heap.size w3 (w3.alloc (.cells #[.int .i64 s.cl,.int .i64 s.num,.int .i64 s.x,.int .i64 s.y,.int .i64 s.w,.int .i64 s.h,.slice qo np qc,.int .i64 s.dx,.int .i64 s.dy,.int .i64 s.left] 128)):=(Below.refl _ w3).alloc (zzl _) _;have hs4:(w3.alloc (.cells #[.int .i64 s.cl,.int .i64 s.num,.int .i64 s.x,.int .i64 s.y,.int .i64 s.w,.int .i64 s.h,.slice qo np qc,.int .i64 s.dx,.int .i64 s.dy,.int .i64 s.left] 128)).heap.size=w3.heap.size+1:=(by simp);have hs5:=hb.size;have hown:(w3.alloc (.cells #[.int .i64 s.cl,.int .i64 s.num,.int .i64 s.x,.int .i64 s.y,.int .i64 s.w,.int .i64 s.h,.slice qo np qc,.int .i64 s.dx,.int .i64 s.dy,.int .i64 s.left] 128)).ownsRow w3.heap.size 128 10 (.slice (some ⟨w3.heap.size,0,none⟩) 1 1) 1 (zA (s,.slice qo np qc)):=
  World.ownsRow_lit (base:=w3.heap.size) (e:=128) (size:=10) w3 #[.int .i64 s.cl,.int .i64 s.num,.int .i64 s.x,.int .i64 s.y,.int .i64 s.w,.int .i64 s.h,.slice qo np qc,.int .i64 s.dx,.int .i64 s.dy,.int .i64 s.left] 1 (zzl _) (by unfold maxLen;omega) (by rfl)
 have hbt:But (fun _=>False) (w3.alloc (.cells #[.int .i64 s.cl,.int .i64 s.num,.int .i64 s.x,.int .i64 s.y,.int .i64 s.w,.int .i64 s.h,.slice qo np qc,.int .i64 s.dx,.int .i64 s.dy,.int .i64 s.left] 128)) w5:=.of_below hb;have hown5:=qi hown hbt (fun _ _ e=>e);obtain⟨i0',hi',hz0,hz1,hz2⟩:=info_parts QV;obtain⟨g1,cap1,hv1⟩:=jH hR.own (by omega);have hcl:=World.ownsRow.cells hR.own (g:=g1) (by rw[hv1];rfl);obtain⟨v2,w6,hrun,hO6,hg6,-,-⟩:=run_append_own_at (P:=Tryz.prog) (w:=w5) w3.heap.size 115 115 128 i0' _ 10 96 Tryz.underlying115 hi' hz0 hz1 hz2 rfl (by decide) (.slice (some ⟨w3.heap.size,0,none⟩) 1 1) _ _ hown5 ⟨g1,0,none⟩ (l.zip ps).length cap1 (qQ (l.zip ps)) (v7 _) hcl hR.one (by unfold maxLen;omega) (by omega) (by omega);rw[<-hv1] at hrun;have hBg:But (fun k=>k=w3.heap.size) w5 w6:=.of_grown hg6 (fun k e=>by
  have:some w3.heap.size=some k:=e;exact (Option.some.inj this).symm)
 have hbel:Below w3.heap.size w3 w6:=(hB4.trans (hb.mono (by omega))).trans (hBg.below (by omega) (fun k e=>by omega));have hnU:∀ k,U k->¬k=w3.heap.size:=fun k hk e=>by have:=hUl k hk;omega
 refine⟨v2,w6,hrun,hbel,?_,fun q hq=>?_,fun q hq=>?_⟩
 ·show w6.ownsRow w3.heap.size _ 10 v2 ((l.zip ps).length+1) (zA (s,.slice qo np qc)++qQ (l.zip ps));rw[Nat.add_comm];exact hO6
 ·rcases List.mem_cons.1 hq with e | e
  ·subst e;exact⟨qo,qc,by rw[hnp],by rw[<-hnp];exact hpx.but hBg hnU⟩
  ·obtain⟨po,pc,e1,e2⟩:=hR.px q e;exact⟨po,pc,e1,e2.but hBg hnU⟩
 ·rcases List.mem_cons.1 hq with e | e
  ·subst e;exact hok
  ·exact hR.ok q e
theorem qa5 (h:DSc U w rp d v pvs)(hUl:∀ k,U k->k<w.heap.size)(c:Nat)(o:Opn)(po:Option Addr)(pn pc:Nat)(hkd:o.kind=6)(hm:((c:Int),o.surf)∈d.l.map qw) :
 Calls Tryz.prog 124 #[.pointer (some ⟨rp,0,none⟩),.int .i64 (c:Int),.agg #[.int .i64 o.kind,.int .i64 o.surf,.int .i64 o.x,.int .i64 o.y,.int .i64 o.w,.int .i64 o.h,.slice po pn pc,.int .i64 o.mark]] w fun e w'=>(∃ u,e=.returned u)/\jX U w rp v (qO d c o) w':=by
 obtain⟨s,hs,-,-⟩:=xC hm;obtain⟨i,hi⟩:∃ i,i=d.l.findIdx (isK c o.surf):=⟨_,rfl⟩;have hF:=kW h c hm (opX o 6 po pn pc);have hdd:qO d c o=if 0<i then {zw d s with l:=s::d.l.eraseIdx i} else d:=by
  unfold qO;rw[if_neg (by omega),if_neg (by omega),hs];simp only;rw[if_neg (by omega),if_neg (by omega),if_neg (by omega),if_neg (by omega),if_pos hkd,List.eraseIdx_eq_take_drop_succ,hi]
 rw[<-hi] at hF hs;rw[hdd,hkd];obtain⟨g,vc,qo,qc,hv,hgl,hgr,hgn,hgU,hpv,hRpx,hok,-,-⟩:=h.at hs;obtain⟨np,hnp⟩:∃ np,np=s.px.length:=⟨_,rfl⟩;rw[<-hnp] at hpv;obtain⟨n,hn⟩:∃ n,n=d.l.length:=⟨_,rfl⟩;have hil:=(zzg hs).1;have hl16:=h.len;have hob:v.sv.ownBlock=some g:=(by rw[hv];rfl);have HF:Hid (Calls Tryz.prog 143 #[.pointer (some ⟨rp,0,none⟩),.int .i64 (c:Int),.int .i64 o.surf] (w.alloc (opX o 6 po pn pc)) fun e w2=>e=.returned (.int .i64 (i:Int))/\SfC w2 rp g n vc i s qo np qc/\(w2.cell? ⟨w.heap.size,0,none⟩=some (.int .i64 6)/\w2.cell? ⟨w.heap.size,2,none⟩=some (.int .i64 o.x)/\w2.cell? ⟨w.heap.size,3,none⟩=some (.int .i64 o.y)/\w2.cell? ⟨w.heap.size,4,none⟩=some (.int .i64 o.w)/\w2.cell? ⟨w.heap.size,5,none⟩=some (.int .i64 o.h)/\w2.cell? ⟨w.heap.size,6,none⟩=some (.slice po pn pc)/\w.heap.size<w2.heap.size)/\(¬0<i->jX U w rp v d w2)/\
  (0<i->Calls Tryz.prog 48 #[.pointer (some ⟨rp,0,none⟩),.agg #[.int .i64 s.cl,.int .i64 s.num,.int .i64 s.x,.int .i64 s.y,.int .i64 s.w,.int .i64 s.h,.slice qo np qc,.int .i64 s.dx,.int .i64 s.dy,.int .i64 s.left]] (w2.alloc (.cells #[.int .i64 s.cl,.int .i64 s.num,.int .i64 s.x,.int .i64 s.y,.int .i64 s.w,.int .i64 s.h,.slice qo np qc,.int .i64 s.dx,.int .i64 s.dy,.int .i64 s.left] 128)) fun e w3=>e=.returned (.tuple #[])/\(w3.cell? ⟨w2.heap.size,0,none⟩=some (.int .i64 s.cl)/\w3.cell? ⟨w2.heap.size,1,none⟩=some (.int .i64 s.num)/\w3.cell? ⟨w2.heap.size,2,none⟩=some (.int .i64 s.x)/\w3.cell? ⟨w2.heap.size,3,none⟩=some (.int .i64 s.y)/\w3.cell? ⟨w2.heap.size,4,none⟩=some (.int .i64 s.w)/\w3.cell? ⟨w2.heap.size,5,none⟩=some (.int .i64 s.h)/\w3.cell? ⟨w2.heap.size,6,none⟩=some (.slice qo np qc)/\w3.cell? ⟨w2.heap.size,7,none⟩=some (.int .i64 s.dx)/\w3.cell? ⟨w2.heap.size,8,none⟩=some (.int .i64 s.dy)/\w3.cell? ⟨w2.heap.size,9,none⟩=some (.int .i64 s.left))/\w2.heap.size<w3.heap.size/\
   Calls Tryz.prog 49 #[.pointer (some ⟨rp,0,none⟩),.int .i64 (i:Int)] (w3.alloc (.cells #[.int .i64 s.cl,.int .i64 s.num,.int .i64 s.x,.int .i64 s.y,.int .i64 s.w,.int .i64 s.h,.slice qo np qc,.int .i64 s.dx,.int .i64 s.dy,.int .i64 s.left] 128)) fun e w5=>∃ ro rn rc,e=.returned (.slice ro rn rc)/\
    ∃ v2 w6,(Builtin.append_ #[115,115] 115 #[.slice (some ⟨w3.heap.size,0,none⟩) 1 1,.slice ro rn rc]).run Tryz.prog w5=.ok v2 w6/\(∃ u,w6.cell? ⟨rp,9,none⟩=some u)/\(∀ t,w6.frozen? ⟨rp,t,none⟩=false)/\rp<w6.heap.size/\(∃ ro rn rc,v2=.slice ro rn rc)/\jX U w rp v {zw d s with l:=s::d.l.eraseIdx i} (w6.setCell ⟨rp,9,none⟩ v2))):=by
  refine hF.mono ?_;rintro e w2 ⟨rfl,hS2,hb2,hbx⟩;have hc2:=hS2.sfc hs hv hpv;have hz2:=hb2.size;refine⟨rfl,by rw[hn];exact hc2.1,⟨qe hbx 0,qe hbx 2,qe hbx 3,qe hbx 4,qe hbx 5,qe hbx 6,qh hbx⟩,fun _=>jX.of hS2 (.of_below hb2),fun hlt=>?_⟩;have hBw:Below w2.heap.size w2 (w2.alloc (.cells #[.int .i64 s.cl,.int .i64 s.num,.int .i64 s.x,.int .i64 s.y,.int .i64 s.w,.int .i64 s.h,.slice qo np qc,.int .i64 s.dx,.int .i64 s.dy,.int .i64 s.left] 128)):=(Below.refl _ w2).alloc (zzl _) _;have hSw:=hS2.below hBw;refine (jK hSw s hok qo np qc).mono ?_;rintro e w3 ⟨rfl,hS3,hb3⟩;have hz3:=hb3.size;have hz3':w2.heap.size<w3.heap.size:=zzm (by simp) hz3;have hB:w3.heap[w2.heap.size]?=some (.cells #[.int .i64 s.cl,.int .i64 s.num,.int .i64 s.x,.int .i64 s.y,.int .i64 s.w,.int .i64 s.h,.slice qo np qc,.int .i64 s.dx,.int .i64 s.dy,.int .i64 s.left] 128):=hb3.heap (qt w2 _ _ rfl) (fun e=>by have:=hS2.gl _ e;omega);have hBl:Below w3.heap.size w3 (w3.alloc (.cells #[.int .i64 s.cl,.int .i64 s.num,.int .i64 s.x,.int .i64 s.y,.int .i64 s.w,.int .i64 s.h,.slice qo np qc,.int .i64 s.dx,.int .i64 s.dy,.int .i64 s.left] 128)):=(Below.refl _ w3).alloc (zzl _) _;refine⟨rfl,⟨qe hB 0,qe hB 1,qe hB 2,qe hB 3,qe hB 4,qe hB 5,qe hB 6,qe hB 7,qe hB 8,qe hB 9⟩,hz3',(vN (i:=i) (hS3.below hBl) hil).mono ?_⟩;rintro e w5 ⟨v',rfl,hR5,hb5⟩;obtain⟨ro,rc,hv1⟩:=qr hR5.own;have hUl3:∀ k,U k->k<w3.heap.size:=fun k hk=>by have:=hUl k hk;omega
  have hw3:But (DsB rp v) w w3:=((But.of_below hb2).trans (.of_below hBw)).trans hb3;have hRp:RdN U w5 (.slice qo np qc) s.px:=by
   rw[hnp];exact ((hRpx.but hw3 h.nU).below hBl).below hb5
  have hle:((zw d s).l.eraseIdx i).length+1=d.l.length:=by
   show (d.l.eraseIdx i).length+1=_;rw[List.length_eraseIdx,if_pos hil];omega
  have hpe:(pvs.eraseIdx i).length=((zw d s).l.eraseIdx i).length:=(by rw[List.length_eraseIdx,List.length_eraseIdx,h.pl];rfl);obtain⟨v2,w6,hrun,hbel,hR6⟩:=qq6 hpe (by omega) (by omega) hR5 hb5 hUl3 hnp hok hRp;rw[hv1] at hrun ⊢;have hk6:w6.heap[rp]?=some (.cells (dcs (zw d s) v) 121):=(hbel.block rp (qh hS3.blk)).trans hS3.blk;obtain⟨ro2,rc2,hv2⟩:=qr hR6.own;refine⟨ro,_,rc,rfl,v2,w6,hrun,⟨_,qe hk6 9⟩,fun t=>qj hk6 t,qh hk6,⟨ro2,_,rc2,hv2⟩,?_⟩;obtain⟨k1,k2,k3⟩:=hS3.lay hUl3 hbel hR6 (by rw[List.length_cons,List.length_cons,hpe]) (by rw[List.length_cons];omega);refine⟨⟨v2,v.wv,_,k1,fun k hk=>.inr (by have:=k3 k hk;omega),fun k e=>.inl e⟩,?_⟩;exact (hw3.wide fun k _ e=>.inl e).step k2 fun k e=>.inl (.inl (.inl e))
 have i0:(0:Int)<=(i:Int):=(by omega);have i1:(i:Int)<(n:Int):=(by omega);have hn16:n<=16:=(by omega);have en:IntKind.i64.wrap ((n:Int)-1)=(n:Int)-1:=(by rw[IntKind.wrap_i64];omega);have hgb:¬g=w.heap.size:=(by omega);have hbg:¬w.heap.size=g:=(by omega);have hgr':¬rp=g:=fun e=>hgr e.symm;have hrb:¬rp=w.heap.size:=(by have:=qh h.blk;omega);clear hF hdd h hUl hs hm hkd hv hpv hok hi hl16 hnp hn hil hRpx hgn hgU hob
 by_cases hlt:0<i
 ·rw[if_pos hlt];have i2:(0:Int)<(i:Int):=by omega
  go_enter Tryz.func124,Tryz.ntmps124
  go_wp2_with (first
    | (go_at_call 143;refine (qb HF).mono ?_;rintro e w2 ⟨rfl,hC,⟨y0,y2,y3,y4,y5,y6,ly⟩,-,hD⟩
       obtain⟨c9,lr,lg,fz,fr,a0,a1,a2,a3,a4,a5,a6,a7,a8,a9⟩:=hC
       have HD:=qg (hD hlt)
       clear hD HF fz)
    | (go_at_call 48;refine (qb HD).mono ?_;rintro e w3 ⟨rfl,⟨x0,x1,x2,x3,x4,x5,x6,x7,x8,x9⟩,lx,hWo⟩
       have HWo:=qg hWo
       clear hWo c9 lr lg fr a0 a1 a2 a3 a4 a5 a6 a7 a8 a9 HD y0 y2 y3 y4 y5 y6 ly)
    | (go_at_call 49;refine (qb HWo).mono ?_;rintro e w5 ⟨ro,rn,rc,rfl,v2,w6,hrun,⟨u,d9⟩,f9,l6,⟨ro2,rn2,rc2,rfl⟩,hG⟩
       have HR:=qg hrun
       have HG:=qg hG
       clear hG hrun)
    | (at_builtin;refine zq rfl _ _ 115 115 rfl rfl _ _ _ _ rfl rfl (qb HR) ?_))
  go_end0;exact⟨⟨_,rfl⟩,qb HG⟩
 ·rw[if_neg hlt];have i2:¬(0:Int)<(i:Int):=by omega
  go_enter Tryz.func124,Tryz.ntmps124
  go_wp2_with (go_at_call 143;refine (qb HF).mono ?_;rintro e w2 ⟨rfl,hC,⟨y0,y2,y3,y4,y5,y6,ly⟩,hG,-⟩
               obtain⟨c9,lr,lg,fz,fr,a0,a1,a2,a3,a4,a5,a6,a7,a8,a9⟩:=hC
               have HG:=qg (hG hlt)
               clear hG HF fz)
  go_end0;exact⟨⟨_,rfl⟩,qb HG⟩
end
theorem qk3:(Tryz.prog.info? 53).map (fun i=>(i.zero,i.size,i.bytes))=some (some (.slice none 0 0),1,24):=by kernel_rfl
abbrev T3:Type:=Option Addr×Nat×Nat
def sl (t:T3):Value:=.slice t.1 t.2.1 t.2.2
def xi (C:Nat->Prop)(w:World)(v:Value)(l:List T3):Prop:=
 (v=.slice none 0 0/\l=[])\/∃ g off cap cs,v=.slice (some ⟨g,off,none⟩) l.length cap/\C g/\w.heap[g]?=some (.cells cs 53 (0,0))/\l.length<=cap/\cap<=maxLen/\off+cap<=cs.size/\∀ (j:Nat)(n:T3),l[j]?=some n->cs[off+j]?=some (sl n)
theorem xi.but {C T:Nat->Prop}{w w':World}{v:Value}{l:List T3}(h:xi C w v l)(hb:But T w w')(hT:∀ x,C x->¬T x):xi C w' v l:=by
 rcases h with h | ⟨g,off,cap,cs,h1,h2,h3,h4⟩
 ·exact .inl h
 ·exact .inr ⟨g,off,cap,cs,h1,h2,hb.heap h3 (hT g h2),h4⟩
theorem xi.mono {C C':Nat->Prop}{w:World}{v:Value}{l:List T3}(h:xi C w v l)(hC:∀ x,C x->C' x):xi C' w v l:=by
 rcases h with h | ⟨g,off,cap,cs,h1,h2,h3,h4⟩
 ·exact .inl h
 ·exact .inr ⟨g,off,cap,cs,h1,hC g h2,h3,h4⟩
theorem xi.slice {C:Nat->Prop}{w:World}{v:Value}{l:List T3}(h:xi C w v l):∃ ao cap,v=.slice ao l.length cap/\l.length<=cap:=by
 rcases h with ⟨h1,h2⟩ | ⟨g,off,cap,cs,h1,h2,h3,h4,_⟩
 ·subst h2;exact⟨none,0,h1,by simp⟩
 ·exact⟨_,_,h1,h4⟩
theorem xi.cut {C:Nat->Prop}{w:World}{g off n cap:Nat}{l:List T3}(h:xi C w (.slice (some ⟨g,off,none⟩) n cap) l)(k:Nat)(hk:k<=l.length):xi C w (.slice (if cap=k then some ⟨g,off,none⟩ else some ⟨g,off+k,none⟩) (n-k) (cap-k)) (l.drop k):=by
 rcases h with ⟨h1,h2⟩ | ⟨g',off',cap',cs,h1,h2,h3,h4,h5,h6,h7⟩
 ·cases h1
 ·simp only[Value.slice.injEq,Option.some.injEq,Addr.mk.injEq,and_true] at h1;obtain⟨⟨rfl,rfl⟩,rfl,rfl⟩:=h1
  by_cases hc:cap=k
  ·rw[if_pos hc];have hl:l.drop k=[]:=List.drop_of_length_le (by omega);refine .inr ⟨g,off,cap-k,cs,by rw[hl];simp;omega,h2,h3,by rw[hl];simp,by omega,by omega,fun j n hj=>by rw[hl] at hj;simp at hj⟩
  ·rw[if_neg hc];refine .inr ⟨g,off+k,cap-k,cs,by simp,h2,h3,by simp;omega,by omega,by omega,fun j n hj=>?_⟩;rw[List.getElem?_drop] at hj;have:=h7 (k+j) n hj;rw[show off+(k+j)=off+k+j by omega] at this;exact this
theorem xi.append {C:Nat->Prop}{w:World}{v:Value}{l:List T3}(h:xi C w v l)(hl:l.length<=1000000)(a:Addr)(n:T3)(ha:w.cell? a=some (sl n)) :
 ∃ ao cap w',(Builtin.append_ #[24,24] 24 #[v,.slice (some a) 1 1]).run Tryz.prog w=.ok (.slice ao (l.length+1) cap) w'/\xi (fun x=>C x\/(w.heap.size<=x/\x<w'.heap.size)) w' (.slice ao (l.length+1) cap) (l++[n])/\But C w w':=by
 obtain⟨i0,hi,hz0,hz1,hz2⟩:=info_parts qk3;have hnews:∀ (j:Nat)(u:Value),[sl n][j]?=some u->w.cell? (a.add j)=some u:=by
  intro j u hj
  match j,hj with
  | 0,hj=>
   simp at hj;subst hj;have:a.add 0=a:=(by unfold Addr.add;split<;>simp_all);rw[this];exact ha
  | j+1,hj=>simp at hj
 have own_off:∀ {w':World}{v':Value}{m:List T3}{base:Nat},w'.ownsRow base 53 1 v' m.length (m.map sl)->m≠[]->(∀ g,v'.ownBlock=some g->w.heap.size<=g)->∃ ao cap,v'=.slice ao m.length cap/\xi (fun x=>C x\/(w.heap.size<=x/\x<w'.heap.size)) w' v' m:=by
  intro w' v' m base ho hm hg
  rcases ho.2 with ⟨_,h0⟩ | ⟨g,cap,cur,rfl,hb,hk,hc,hmx,hz,ht⟩
  ·exact absurd (List.eq_nil_of_length_eq_zero h0) hm
  ·refine⟨_,_,rfl,.inr ⟨g,0,cap,cur,rfl,.inr ⟨hg g rfl,qh hk⟩,hk,hc,hmx,by omega,fun j x hx=>?_⟩⟩;have hj:=(zzg hx).1;have h2:(cur.toList.take (m.length*1))[j]?=some (sl x):=(by rw[ht,List.getElem?_map,hx];rfl);rw[List.getElem?_take_of_lt (by omega)] at h2;rw[Nat.zero_add];simpa using h2
 rcases h with ⟨rfl,rfl⟩ | ⟨g,off,cap,cs,rfl,hC,hg,hlc,hmx,hsz,hat⟩
 ·have hO:w.ownsRow 0 53 1 (.slice none 0 0) 0 []:=World.ownsRow_nil _ _ _ _;obtain⟨g,cap,w',hrun,hO',hgr,hat,hlt⟩:=run_append_lies (P:=Tryz.prog) w 24 24 0 53 i0 _ 1 24 Tryz.underlying24 hi hz0 hz1 hz2 rfl (by omega) (.slice none 0 0) 0 [] hO a 1 1 [sl n] rfl hnews (by intro u hu;simp at hu;subst hu;rfl) (by omega) (by unfold maxLen;omega) (by omega) (Nat.zero_le _) w.heap.size rfl;obtain⟨ao,cap',e,ho⟩:=own_off (m:=[n]) hO' (by simp) (fun g' hg'=>by
   simp[Value.ownBlock] at hg';subst hg'
   rcases hat with e | e
   ·simp[Value.ownBlock] at e
   ·omega)
  exact⟨_,_,w',hrun,ho,.of_grown hgr (fun k e=>by simp[Value.ownBlock] at e)⟩
 ·by_cases hroom:l.length+1<=cap
  ·have hrun:=run_append_room_cells (P:=Tryz.prog) w 24 24 53 i0 Tryz.underlying24 hi g off l.length cap a 1 1 [sl n] (by rw[hz1];rfl) hnews (by intro u hu;simp at hu;subst hu;rfl) hroom (by
    intro j hj;simp at hj;subst hj;rw[hz1,qe hg,Array.getElem?_eq_getElem (by omega)]
    rfl) (fun j hj=>qj hg _)
   rw[hz1,Nat.mul_one] at hrun;have hset:w.setCells g (off+l.length) [sl n]=w.setCell ⟨g,off+l.length,none⟩ (sl n):=rfl;rw[hset] at hrun;refine⟨_,_,_,hrun,.inr ⟨g,off,cap,_,by simp,.inl hC,qp (i:=off+l.length) hg _,by simpa using hroom,hmx,by simpa using hsz,fun j x hx=>?_⟩,(But.refl C w).setCell (p:=⟨g,off+l.length,none⟩) (.inl hC) _⟩;rw[Array.getElem?_setIfInBounds]
   by_cases e:j=l.length
   ·subst e;simp at hx;subst hx;rw[if_pos rfl,if_pos (by omega)]
   ·rw[if_neg (by omega)];have hj:=(zzg hx).1;simp at hj;rw[List.getElem?_append_left (by omega)] at hx;exact hat j x hx
  ·obtain⟨v',w',hrun,hO,hgr⟩:=run_append_arg_grows (P:=Tryz.prog) w 24 24 53 i0 _ 1 24 Tryz.underlying24 hi hz0 hz1 hz2 rfl (by omega) ⟨g,off,none⟩ l.length cap (l.map sl) (by simp) (fun j u hj=>by
    rw[List.getElem?_map] at hj;obtain⟨x,hx,rfl⟩:=Option.map_eq_some_iff.1 hj;have hadd:(⟨g,off,none⟩:Addr).add j=⟨g,off+j,none⟩:=(by unfold Addr.add;split<;>simp_all);rw[hadd,qe hg];exact hat j x hx) a 1 1 [sl n] rfl hnews (by omega) (by unfold maxLen;omega) (by omega)
   have hO':w'.ownsRow w.heap.size 53 1 v' (l++[n]).length ((l++[n]).map sl):=(by simpa using hO);obtain⟨ao,cap',e,ho⟩:=own_off (m:=l++[n]) hO' (by simp) (fun g' hg'=>(World.ownsRow.lt hO g' hg').1);have el:(l++[n]).length=l.length+1:=(by simp);rw[el] at e;subst e;exact⟨_,_,w',hrun,ho,.of_grown hgr (fun k e=>by cases e)⟩
section
variable {U:Nat->Prop}{w w1 w2 w':World}{rp:Nat}{d d' d'':Dc}{v:Dv}{pvs:List Value}
theorem ql0 (h:DSc U w rp d v pvs)(hUl:∀ k,U k->k<w.heap.size)(c:Nat)(o:Opn)(po:Option Addr)(pn pc:Nat)(hkd:o.kind=4)(hm:((c:Int),o.surf)∈d.l.map qw)(hx:SrB o.x)(hy:SrB o.y) :
 Calls Tryz.prog 124 #[.pointer (some ⟨rp,0,none⟩),.int .i64 (c:Int),.agg #[.int .i64 o.kind,.int .i64 o.surf,.int .i64 o.x,.int .i64 o.y,.int .i64 o.w,.int .i64 o.h,.slice po pn pc,.int .i64 o.mark]] w fun e w'=>(∃ u,e=.returned u)/\jX U w rp v (qO d c o) w':=by
 obtain⟨s,hs,-,-⟩:=xC hm;obtain⟨i,hi⟩:∃ i,i=d.l.findIdx (isK c o.surf):=⟨_,rfl⟩;have hF:=kW h c hm (opX o 4 po pn pc);have hdd:qO d c o=zu {d with l:=d.l.set i {s with left:=0}} i o.x o.y:=by
  unfold qO;rw[if_neg (by omega),if_neg (by omega),hs];simp only;rw[if_neg (by omega),if_neg (by omega),if_pos hkd,hi]
 rw[<-hi] at hF hs;rw[hdd,hkd];obtain⟨g,vc,qo,qc,hv,hgl,hgr,hgn,hgU,hpv,hRpx,hok,-,-⟩:=h.at hs;obtain⟨np,hnp⟩:∃ np,np=s.px.length:=⟨_,rfl⟩;rw[<-hnp] at hpv;obtain⟨n,hn⟩:∃ n,n=d.l.length:=⟨_,rfl⟩;have hil:=(zzg hs).1;have hl16:=h.len;have hob:v.sv.ownBlock=some g:=(by rw[hv];rfl);have HF:Hid (Calls Tryz.prog 143 #[.pointer (some ⟨rp,0,none⟩),.int .i64 (c:Int),.int .i64 o.surf] (w.alloc (opX o 4 po pn pc)) fun e w2=>e=.returned (.int .i64 (i:Int))/\SfC w2 rp g n vc i s qo np qc/\(w2.cell? ⟨w.heap.size,0,none⟩=some (.int .i64 4)/\w2.cell? ⟨w.heap.size,2,none⟩=some (.int .i64 o.x)/\w2.cell? ⟨w.heap.size,3,none⟩=some (.int .i64 o.y)/\w2.cell? ⟨w.heap.size,4,none⟩=some (.int .i64 o.w)/\w2.cell? ⟨w.heap.size,5,none⟩=some (.int .i64 o.h)/\w2.cell? ⟨w.heap.size,6,none⟩=some (.slice po pn pc)/\w.heap.size<w2.heap.size)/\
  Calls Tryz.prog 91 #[.pointer (some ⟨rp,0,none⟩),.int .i64 (i:Int),.int .i64 o.x,.int .i64 o.y] (w2.setCell ⟨g,i*10+9,none⟩ (.int .i64 0)) fun e w3=>e=.returned (.tuple #[])/\jX U w rp v (zu {d with l:=d.l.set i {s with left:=0}} i o.x o.y) w3):=by
  refine hF.mono ?_;rintro e w2 ⟨rfl,hS2,hb2,hbx⟩;have hc2:=hS2.sfc hs hv hpv;refine⟨rfl,by rw[hn];exact hc2.1,⟨qe hbx 0,qe hbx 2,qe hbx 3,qe hbx 4,qe hbx 5,qe hbx 6,qh hbx⟩,?_⟩;have hP:=hS2.put (t:=9) (s':={s with left:=0}) (u:=.int .i64 0) hs hpv hv (by omega) rfl ⟨hok.w0,hok.w8,hok.h0,hok.h8,hok.px,hok.xb,hok.yb⟩ rfl;have hs3:({d with l:=d.l.set i {s with left:=0}}:Dc).l[i]?=some {s with left:=0}:=List.getElem?_set_self hil;refine (XF hP hs3 o.x o.y hx hy).mono ?_;rintro e w3 ⟨rfl,hS3,hb3⟩;have hw2:But (DsV rp v) w w2:=.of_below hb2;have hw3:=hw2.setCell (p:=⟨g,i*10+9,none⟩) (.inl (.inr hob)) (.int .i64 0);exact⟨rfl,jX.of hS3 (hw3.trans hb3)⟩
 have i0:(0:Int)<=(i:Int):=(by omega);have i1:(i:Int)<(n:Int):=(by omega);have hn16:n<=16:=(by omega);have en:IntKind.i64.wrap ((n:Int)-1)=(n:Int)-1:=(by rw[IntKind.wrap_i64];omega);have hgb:¬g=w.heap.size:=(by omega);have hbg:¬w.heap.size=g:=(by omega);have hgr':¬rp=g:=fun e=>hgr e.symm;have hrb:¬rp=w.heap.size:=(by have:=qh h.blk;omega);clear hF hdd h hUl hs hm hkd hv hpv hok hi hl16 hnp hn hil hRpx hgn hgU hob
 go_enter Tryz.func124,Tryz.ntmps124
 go_wp2_with (first
   | (go_at_call 143;refine (qb HF).mono ?_;rintro e w2 ⟨rfl,hC,⟨y0,y2,y3,y4,y5,y6,ly⟩,hD⟩
      obtain⟨c9,lr,lg,fz,fr,a0,a1,a2,a3,a4,a5,a6,a7,a8,a9⟩:=hC
      have z9:=fz (i*10+9)
      have HD:=qg hD
      clear hD HF fz)
   | (go_at_call 91;refine (qb HD).mono ?_;rintro e w3 ⟨rfl,hG⟩
      have HG:=qg hG
      clear hG))
 go_end0;exact⟨⟨_,rfl⟩,qb HG⟩
theorem qa3 (h:DSc U w rp d v pvs)(hUl:∀ k,U k->k<w.heap.size)(c:Nat)(o:Opn)(po:Option Addr)(pn pc:Nat)(hkd:o.kind=7)(hm:((c:Int),o.surf)∈d.l.map qw) :
 Calls Tryz.prog 124 #[.pointer (some ⟨rp,0,none⟩),.int .i64 (c:Int),.agg #[.int .i64 o.kind,.int .i64 o.surf,.int .i64 o.x,.int .i64 o.y,.int .i64 o.w,.int .i64 o.h,.slice po pn pc,.int .i64 o.mark]] w fun e w'=>(∃ u,e=.returned u)/\jX U w rp v (qO d c o) w':=by
 obtain⟨s,hs,-,-⟩:=xC hm;obtain⟨i,hi⟩:∃ i,i=d.l.findIdx (isK c o.surf):=⟨_,rfl⟩;have hF:=kW h c hm (opX o 7 po pn pc);have hdd:qO d c o={d with l:=d.l.set i {s with dx:=o.x,dy:=o.y,left:=o.w}}:=by
  unfold qO;rw[if_neg (by omega),if_neg (by omega),hs];simp only;rw[if_neg (by omega),if_neg (by omega),if_neg (by omega),if_neg (by omega),if_neg (by omega),hi]
 rw[<-hi] at hF hs;rw[hdd,hkd];obtain⟨g,vc,qo,qc,hv,hgl,hgr,hgn,hgU,hpv,hRpx,hok,-,-⟩:=h.at hs;obtain⟨np,hnp⟩:∃ np,np=s.px.length:=⟨_,rfl⟩;rw[<-hnp] at hpv;obtain⟨n,hn⟩:∃ n,n=d.l.length:=⟨_,rfl⟩;have hil:=(zzg hs).1;have hl16:=h.len;have hob:v.sv.ownBlock=some g:=(by rw[hv];rfl);have HF:Hid (Calls Tryz.prog 143 #[.pointer (some ⟨rp,0,none⟩),.int .i64 (c:Int),.int .i64 o.surf] (w.alloc (opX o 7 po pn pc)) fun e w2=>e=.returned (.int .i64 (i:Int))/\SfC w2 rp g n vc i s qo np qc/\(w2.cell? ⟨w.heap.size,0,none⟩=some (.int .i64 7)/\w2.cell? ⟨w.heap.size,2,none⟩=some (.int .i64 o.x)/\w2.cell? ⟨w.heap.size,3,none⟩=some (.int .i64 o.y)/\w2.cell? ⟨w.heap.size,4,none⟩=some (.int .i64 o.w)/\w2.cell? ⟨w.heap.size,5,none⟩=some (.int .i64 o.h)/\w2.cell? ⟨w.heap.size,6,none⟩=some (.slice po pn pc)/\w.heap.size<w2.heap.size)/\jX U w rp v {d with l:=d.l.set i {s with dx:=o.x,dy:=o.y,left:=o.w}} (((w2.setCell ⟨g,i*10+7,none⟩ (.int .i64 o.x)).setCell ⟨g,i*10+8,none⟩ (.int .i64 o.y)).setCell ⟨g,i*10+9,none⟩ (.int .i64 o.w)).drew.drew.drew):=by
  refine hF.mono ?_;rintro e w2 ⟨rfl,hS2,hb2,hbx⟩;have hc2:=hS2.sfc hs hv hpv;refine⟨rfl,by rw[hn];exact hc2.1,⟨qe hbx 0,qe hbx 2,qe hbx 3,qe hbx 4,qe hbx 5,qe hbx 6,qh hbx⟩,?_⟩;have hP:=hS2.put (t:=7) (s':={s with dx:=o.x}) (u:=.int .i64 o.x) hs hpv hv (by omega) rfl ⟨hok.w0,hok.w8,hok.h0,hok.h8,hok.px,hok.xb,hok.yb⟩ rfl;have hs3:({d with l:=d.l.set i {s with dx:=o.x}}:Dc).l[i]?=some {s with dx:=o.x}:=List.getElem?_set_self hil;have hv3:v.sv=.slice (some ⟨g,0,none⟩) ({d with l:=d.l.set i {s with dx:=o.x}}:Dc).l.length vc:=(by show v.sv=.slice _ (d.l.set i _).length _;rw[List.length_set];exact hv);have hP2:=hP.put (t:=8) (s':={s with dx:=o.x,dy:=o.y}) (u:=.int .i64 o.y) hs3 hpv hv3 (by omega) rfl ⟨hok.w0,hok.w8,hok.h0,hok.h8,hok.px,hok.xb,hok.yb⟩ rfl;have e2:({ ({d with l:=d.l.set i {s with dx:=o.x}}:Dc) with l:=({d with l:=d.l.set i {s with dx:=o.x}}:Dc).l.set i {s with dx:=o.x,dy:=o.y}}:Dc)={d with l:=d.l.set i {s with dx:=o.x,dy:=o.y}}:=by
   show ({d with l:=(d.l.set i _).set i _}:Dc)=_;rw[List.set_set]
  rw[e2] at hP2;have hs4:({d with l:=d.l.set i {s with dx:=o.x,dy:=o.y}}:Dc).l[i]?=some {s with dx:=o.x,dy:=o.y}:=List.getElem?_set_self hil;have hv4:v.sv=.slice (some ⟨g,0,none⟩) ({d with l:=d.l.set i {s with dx:=o.x,dy:=o.y}}:Dc).l.length vc:=(by show v.sv=.slice _ (d.l.set i _).length _;rw[List.length_set];exact hv);have hP3:=hP2.put (t:=9) (s':={s with dx:=o.x,dy:=o.y,left:=o.w}) (u:=.int .i64 o.w) hs4 hpv hv4 (by omega) rfl ⟨hok.w0,hok.w8,hok.h0,hok.h8,hok.px,hok.xb,hok.yb⟩ rfl;have e3:({ ({d with l:=d.l.set i {s with dx:=o.x,dy:=o.y}}:Dc) with l:=({d with l:=d.l.set i {s with dx:=o.x,dy:=o.y}}:Dc).l.set i {s with dx:=o.x,dy:=o.y,left:=o.w}}:Dc)={d with l:=d.l.set i {s with dx:=o.x,dy:=o.y,left:=o.w}}:=by
   show ({d with l:=(d.l.set i _).set i _}:Dc)=_;rw[List.set_set]
  rw[e3] at hP3;have hw2:But (DsV rp v) w w2:=.of_below hb2;have hw3:=((hw2.setCell (p:=⟨g,i*10+7,none⟩) (.inl (.inr hob)) (.int .i64 o.x)).setCell (p:=⟨g,i*10+8,none⟩) (.inl (.inr hob)) (.int .i64 o.y)).setCell (p:=⟨g,i*10+9,none⟩) (.inl (.inr hob)) (.int .i64 o.w);have hbd:Below (((w2.setCell ⟨g,i*10+7,none⟩ (.int .i64 o.x)).setCell ⟨g,i*10+8,none⟩ (.int .i64 o.y)).setCell ⟨g,i*10+9,none⟩ (.int .i64 o.w)).heap.size (((w2.setCell ⟨g,i*10+7,none⟩ (.int .i64 o.x)).setCell ⟨g,i*10+8,none⟩ (.int .i64 o.y)).setCell ⟨g,i*10+9,none⟩ (.int .i64 o.w)) (((w2.setCell ⟨g,i*10+7,none⟩ (.int .i64 o.x)).setCell ⟨g,i*10+8,none⟩ (.int .i64 o.y)).setCell ⟨g,i*10+9,none⟩ (.int .i64 o.w)).drew.drew.drew:=(((Below.refl _ _).drew).drew).drew;exact jX.of (hP3.below hbd) (hw3.trans (.of_below hbd))
 have i0:(0:Int)<=(i:Int):=(by omega);have i1:(i:Int)<(n:Int):=(by omega);have hn16:n<=16:=(by omega);have en:IntKind.i64.wrap ((n:Int)-1)=(n:Int)-1:=(by rw[IntKind.wrap_i64];omega);have hgb:¬g=w.heap.size:=(by omega);have hbg:¬w.heap.size=g:=(by omega);have hgr':¬rp=g:=fun e=>hgr e.symm;have hrb:¬rp=w.heap.size:=(by have:=qh h.blk;omega);clear hF hdd h hUl hs hm hkd hv hpv hok hi hl16 hnp hn hil hRpx hgn hgU hob
 go_enter Tryz.func124,Tryz.ntmps124
 go_wp2_with (go_at_call 143;refine (qb HF).mono ?_;rintro e w2 ⟨rfl,hC,⟨y0,y2,y3,y4,y5,y6,ly⟩,hG⟩
              obtain⟨c9,lr,lg,fz,fr,a0,a1,a2,a3,a4,a5,a6,a7,a8,a9⟩:=hC
              have z7:=fz (i*10+7)
              have z8:=fz (i*10+8)
              have z9:=fz (i*10+9)
              have HG:=qg hG
              clear hG HF fz)
 go_region;go_wp2
 go_region;go_wp2
 go_region;go_wp2
 go_end0;exact⟨⟨_,rfl⟩,qb HG⟩
theorem YE (h:DSc U w rp d v pvs)(hUl:∀ k,U k->k<w.heap.size)(c:Nat)(o:Opn)(po:Option Addr)(pn pc:Nat)(hkd:o.kind=3)(hm:((c:Int),o.surf)∈d.l.map qw)(hwh:(0<=o.w/\o.w<=8)/\(0<=o.h/\o.h<=8))(hpl:(o.px.length:Int)=o.w*o.h)(hpn:pn=o.px.length)(hR:RdN U w (.slice po pn pc) o.px) :
 Calls Tryz.prog 124 #[.pointer (some ⟨rp,0,none⟩),.int .i64 (c:Int),.agg #[.int .i64 o.kind,.int .i64 o.surf,.int .i64 o.x,.int .i64 o.y,.int .i64 o.w,.int .i64 o.h,.slice po pn pc,.int .i64 o.mark]] w fun e w'=>(∃ u,e=.returned u)/\jX U w rp v (qO d c o) w':=by
 obtain⟨s,hs,-,-⟩:=xC hm;obtain⟨i,hi⟩:∃ i,i=d.l.findIdx (isK c o.surf):=⟨_,rfl⟩;have hF:=kW h c hm (opX o 3 po pn pc);have hdd:qO d c o=zw {zw d s with l:=d.l.set i {s with w:=o.w,h:=o.h,px:=o.px}} {s with w:=o.w,h:=o.h,px:=o.px}:=by
  unfold qO;rw[if_neg (by omega),if_neg (by omega),hs];simp only;rw[if_neg (by omega),if_pos hkd,hi]
 rw[<-hi] at hF hs;rw[hdd,hkd];obtain⟨g,vc,qo,qc,hv,hgl,hgr,hgn,hgU,hpv,hRpx,hok,-,-⟩:=h.at hs;obtain⟨np,hnp⟩:∃ np,np=s.px.length:=⟨_,rfl⟩;rw[<-hnp] at hpv;obtain⟨n,hn⟩:∃ n,n=d.l.length:=⟨_,rfl⟩;have hil:=(zzg hs).1;have hl16:=h.len;have hob:v.sv.ownBlock=some g:=(by rw[hv];rfl);have hok2:xq {s with w:=o.w,h:=o.h,px:=o.px}:=⟨hwh.1.1,hwh.1.2,hwh.2.1,hwh.2.2,hpl,hok.xb,hok.yb⟩;have HF:Hid (Calls Tryz.prog 143 #[.pointer (some ⟨rp,0,none⟩),.int .i64 (c:Int),.int .i64 o.surf] (w.alloc (opX o 3 po pn pc)) fun e w2=>e=.returned (.int .i64 (i:Int))/\SfC w2 rp g n vc i s qo np qc/\(w2.cell? ⟨w.heap.size,0,none⟩=some (.int .i64 3)/\w2.cell? ⟨w.heap.size,2,none⟩=some (.int .i64 o.x)/\w2.cell? ⟨w.heap.size,3,none⟩=some (.int .i64 o.y)/\w2.cell? ⟨w.heap.size,4,none⟩=some (.int .i64 o.w)/\w2.cell? ⟨w.heap.size,5,none⟩=some (.int .i64 o.h)/\w2.cell? ⟨w.heap.size,6,none⟩=some (.slice po pn pc)/\w.heap.size<w2.heap.size)/\
  Calls Tryz.prog 48 #[.pointer (some ⟨rp,0,none⟩),.agg #[.int .i64 s.cl,.int .i64 s.num,.int .i64 s.x,.int .i64 s.y,.int .i64 s.w,.int .i64 s.h,.slice qo np qc,.int .i64 s.dx,.int .i64 s.dy,.int .i64 s.left]] w2 fun e w3=>e=.returned (.tuple #[])/\SfC w3 rp g n vc i s qo np qc/\(w3.cell? ⟨w.heap.size,0,none⟩=some (.int .i64 3)/\w3.cell? ⟨w.heap.size,2,none⟩=some (.int .i64 o.x)/\w3.cell? ⟨w.heap.size,3,none⟩=some (.int .i64 o.y)/\w3.cell? ⟨w.heap.size,4,none⟩=some (.int .i64 o.w)/\w3.cell? ⟨w.heap.size,5,none⟩=some (.int .i64 o.h)/\w3.cell? ⟨w.heap.size,6,none⟩=some (.slice po pn pc)/\w.heap.size<w3.heap.size)/\
   Calls Tryz.prog 48 #[.pointer (some ⟨rp,0,none⟩),.agg #[.int .i64 s.cl,.int .i64 s.num,.int .i64 s.x,.int .i64 s.y,.int .i64 o.w,.int .i64 o.h,.slice po pn pc,.int .i64 s.dx,.int .i64 s.dy,.int .i64 s.left]] (((w3.setCell ⟨g,i*10+4,none⟩ (.int .i64 o.w)).setCell ⟨g,i*10+5,none⟩ (.int .i64 o.h)).setCell ⟨g,i*10+6,none⟩ (.slice po pn pc)).drew.drew.drew fun e w4=>e=.returned (.tuple #[])/\jX U w rp v (zw {zw d s with l:=d.l.set i {s with w:=o.w,h:=o.h,px:=o.px}} {s with w:=o.w,h:=o.h,px:=o.px}) w4):=by
  refine hF.mono ?_;rintro e w2 ⟨rfl,hS2,hb2,hbx⟩;have hc2:=hS2.sfc hs hv hpv;refine⟨rfl,by rw[hn];exact hc2.1,⟨qe hbx 0,qe hbx 2,qe hbx 3,qe hbx 4,qe hbx 5,qe hbx 6,qh hbx⟩,(jK hS2 s hok qo np qc).mono ?_⟩;rintro e w3 ⟨rfl,hS3,hb3⟩;have hs3:(zw d s).l[i]?=some s:=hs;have hc3:=hS3.sfc hs3 hv hpv;have hbx:w3.heap[w.heap.size]?=_:=hb3.heap hbx (fun e=>by have:=h.gl _ e;omega);refine⟨rfl,by rw[hn];exact hc3.1,⟨qe hbx 0,qe hbx 2,qe hbx 3,qe hbx 4,qe hbx 5,qe hbx 6,qh hbx⟩,?_⟩;obtain⟨r1,r2⟩:=hS3.own' hs3 hpv hv;have r4:=(World.ownsRow.stored r1 (i*10+4) (.int .i64 o.w)).1;rw[Z0 (by simp[zA]) _ r2] at r4;have r5:=(World.ownsRow.stored r4 (i*10+5) (.int .i64 o.h)).1;rw[Z0 (by simp[zA]) _ r2] at r5;have r6:=(World.ownsRow.stored r5 (i*10+6) (.slice po pn pc)).1;rw[Z0 (by simp[zA]) _ r2] at r6;have hbg:But (fun k=>k=g) w3 (((w3.setCell ⟨g,i*10+4,none⟩ (.int .i64 o.w)).setCell ⟨g,i*10+5,none⟩ (.int .i64 o.h)).setCell ⟨g,i*10+6,none⟩ (.slice po pn pc)):=(((But.refl (fun k=>k=g) w3).setCell (p:=⟨g,i*10+4,none⟩) (.inl rfl) _).setCell (p:=⟨g,i*10+5,none⟩) (.inl rfl) _).setCell (p:=⟨g,i*10+6,none⟩) (.inl rfl) _;have hw3:But (DsB rp v) w w3:=(But.of_below hb2).trans hb3;have hRp:RdN U w3 (.slice po o.px.length pc) o.px:=by
   have:=hR.but hw3 h.nU;rw[hpn] at this;exact this
  have hP:=hS3.row (s':={s with w:=o.w,h:=o.h,px:=o.px}) (pv':=.slice po pn pc) hs3 hpv hv hbg r6 hok2 ⟨po,pc,by rw[hpn],hRp⟩;have hbd:Below (((w3.setCell ⟨g,i*10+4,none⟩ (.int .i64 o.w)).setCell ⟨g,i*10+5,none⟩ (.int .i64 o.h)).setCell ⟨g,i*10+6,none⟩ (.slice po pn pc)).heap.size (((w3.setCell ⟨g,i*10+4,none⟩ (.int .i64 o.w)).setCell ⟨g,i*10+5,none⟩ (.int .i64 o.h)).setCell ⟨g,i*10+6,none⟩ (.slice po pn pc)) (((w3.setCell ⟨g,i*10+4,none⟩ (.int .i64 o.w)).setCell ⟨g,i*10+5,none⟩ (.int .i64 o.h)).setCell ⟨g,i*10+6,none⟩ (.slice po pn pc)).drew.drew.drew:=(((Below.refl _ _).drew).drew).drew;refine (jK (hP.below hbd) {s with w:=o.w,h:=o.h,px:=o.px} hok2 po pn pc).mono ?_;rintro e w4 ⟨rfl,hS4,hb4⟩;have hw4:But (DsV rp v) w (((w3.setCell ⟨g,i*10+4,none⟩ (.int .i64 o.w)).setCell ⟨g,i*10+5,none⟩ (.int .i64 o.h)).setCell ⟨g,i*10+6,none⟩ (.slice po pn pc)).drew.drew.drew:=((hw3.wide fun k _ e=>.inl e).step hbg fun k e=>.inl (.inr (by rw[e];exact hob))).trans (.of_below hbd);exact⟨rfl,jX.of hS4 (hw4.step hb4 fun k e=>.inl (.inl e))⟩
 have i0:(0:Int)<=(i:Int):=(by omega);have i1:(i:Int)<(n:Int):=(by omega);have hn16:n<=16:=(by omega);have en:IntKind.i64.wrap ((n:Int)-1)=(n:Int)-1:=(by rw[IntKind.wrap_i64];omega);have hgb:¬g=w.heap.size:=(by omega);have hbg:¬w.heap.size=g:=(by omega);have hgr':¬rp=g:=fun e=>hgr e.symm;have hrb:¬rp=w.heap.size:=(by have:=qh h.blk;omega);clear hF hdd h hUl hs hm hkd hv hpv hok hi hl16 hnp hn hil hRpx hgn hgU hob hok2 hwh hpl hpn hR
 go_enter Tryz.func124,Tryz.ntmps124
 go_wp2_with (first
   | (go_at_call 143;refine (qb HF).mono ?_;rintro e w2 ⟨rfl,hC,⟨y0,y2,y3,y4,y5,y6,ly⟩,hD⟩
      obtain⟨c9,lr,lg,fz,fr,a0,a1,a2,a3,a4,a5,a6,a7,a8,a9⟩:=hC
      have HD:=qg hD
      clear hD HF fz)
   | (go_at_call 48;refine (qb HD).mono ?_;rintro e w3 ⟨rfl,hC,⟨x0,x2,x3,x4,x5,x6,lx⟩,hD2⟩
      clear c9 lr lg fr a0 a1 a2 a3 a4 a5 a6 a7 a8 a9 HD y0 y2 y3 y4 y5 y6 ly
      obtain⟨c9,lr,lg,fz,fr,a0,a1,a2,a3,a4,a5,a6,a7,a8,a9⟩:=hC
      have z4:=fz (i*10+4)
      have z5:=fz (i*10+5)
      have z6:=fz (i*10+6)
      have HD2:=qg hD2
      clear hD2 fz))
 go_region;go_wp2
 go_region;go_wp2
 go_region
 go_wp2_with (go_at_call 48;refine (qb HD2).mono ?_;rintro e w4 ⟨rfl,hG⟩
              have HG:=qg hG
              clear hG)
 go_end0;exact⟨⟨_,rfl⟩,qb HG⟩
end
end Go.Proofs.YtfnockbgkcgpkaaGreat
