import Derived.Test.YtfnockbgkcgpkaaGreatTkae
import Derived.Laws.StructEq
set_option linter.all false
set_option maxRecDepth 100000
set_option maxHeartbeats 16000000
namespace Go.Proofs.YtfnockbgkcgpkaaGreat
open Go.RowKit Go.Proofs.Panes
def k2 (k:Int×Int):P2:=(.int .i64 k.1,.int .i64 k.2)
theorem Vs (l:List (Int×Int)):yN (l.map k2):=by
 intro p hp;obtain⟨k,_,rfl⟩:=List.mem_map.1 hp;exact⟨rfl,rfl⟩
theorem kR {w:World}{base g n cap:Nat}{t:TypeId}{l:List P2}(h:qN w base t (.slice (some ⟨g,0,none⟩) n cap) l){j:Nat}{p:P2}(hp:l[j]?=some p):w.cell? ⟨g,j*2,none⟩=some p.1/\w.cell? ⟨g,j*2+1,none⟩=some p.2:=by
 obtain⟨R,hR,_⟩:=h.row;have hj:(l++R)[j]?=some p:=(by rw[List.getElem?_append_left (zzg hp).1];exact hp);have:=XV _ j p hj;rw[qe hR,qe hR,List.getElem?_toArray,List.getElem?_toArray];exact this
theorem KU {w:World}{g cap:Nat}{ks:List (Int×Int)}(hc:∀ (j:Nat)(k:Int×Int),ks[j]?=some k->w.cell? ⟨g,j*2,none⟩=some (.int .i64 k.1)/\w.cell? ⟨g,j*2+1,none⟩=some (.int .i64 k.2))(hg:ks≠[]->g<w.heap.size)(hl:ks.length<=1000)(c n:Int)(i:Nat)(hi:ks[i]?=some (c,n))(hf:∀ j,j<i->ks[j]?≠some (c,n)) :
 Calls Tryz.prog 156 #[.slice (some ⟨g,0,none⟩) ks.length cap,.agg #[.int .i64 c,.int .i64 n]] w fun e w'=>e=.returned (.int .i64 (i:Int))/\Below w.heap.size w w':=by
 have hil:i<ks.length:=(zzg hi).1;have lg:=hg (by intro e;rw[e] at hil;simp at hil);obtain⟨w0,hw0⟩:∃ w0,w0=w.alloc (.cells #[.int .i64 c,.int .i64 n] 173):=⟨_,rfl⟩;have hN:w0.heap[w.heap.size]?=some (.cells #[.int .i64 c,.int .i64 n] 173):=(by rw[hw0];exact qt _ _ _ rfl);have hB:Below w.heap.size w w0:=(by rw[hw0];exact (Below.refl _ w).alloc (zzl _) _);have HC:=qg fun j k hk=>And.intro ((hB.cell lg).trans (hc j k hk).1) ((hB.cell lg).trans (hc j k hk).2);have y0:w0.cell? ⟨w.heap.size,0,none⟩=some (.int .i64 c):=qe hN 0;have y1:w0.cell? ⟨w.heap.size,1,none⟩=some (.int .i64 n):=qe hN 1;have HI:=qg hi;have HF:=qg hf;have HB:=qg hB;have HW0:=qg hw0;clear hc hi hf hN hB hw0 hg lg
 go_enter Tryz.func156,Tryz.ntmps156
 go_wp2;rw[<-qb HW0]
 go_loopw [8] (fun v wr=>∃ k:Nat,k<=i/\v=.int .i64 k/\(∃ q,wr=w0.drewN q)) (fun v _=>ks.length-(intOf v).toNat)
 case atStart=>exact⟨0,Nat.zero_le _,rfl,⟨0,rfl⟩⟩
 case round=>
  obtain⟨k,hk,rfl,⟨q,rfl⟩⟩:=hrel;obtain⟨⟨d1,d2⟩,hd⟩:∃ d,ks[k]?=some d:=⟨ks[k]'(by omega),by simp⟩;obtain⟨b0,b1⟩:=(qb HC) k _ hd;simp only at b0 b1;have i0:(0:Int)<=(k:Int):=(by omega);have i1:(k:Int)<(ks.length:Int):=by omega
  by_cases he:k=i
  ·subst he;rw[qb HI] at hd;simp only[Option.some.injEq,Prod.mk.injEq] at hd;obtain⟨rfl,rfl⟩:=hd;go_wp2
   go_quiet (fail)
   go_wp2;go_ret;exact⟨rfl,below_drewN (below_drewN (qb HB) _) _⟩
  ·have hne:¬(c=d1/\n=d2):=fun hh=>(qb HF) k (by omega) (by rw[hd,hh.1,hh.2]);clear hd
   by_cases e1:c=d1
   ·have e2:¬n=d2:=fun h=>hne ⟨e1,h⟩;subst e1;clear hne;go_wp2
    go_quiet (fail)
    go_wp2
    go_roundw
    case rel=>exact⟨k+1,by omega,by go_num,⟨q+nq,by rfl⟩⟩
    case measure=>simp[intOf];omega
   ·clear hne;go_wp2
    go_quiet (fail)
    go_wp2
    go_roundw
    case rel=>exact⟨k+1,by omega,by go_num,⟨q+nq,by rfl⟩⟩
    case measure=>simp[intOf];omega
theorem qx1:∀ (L:List P2)(i:Nat)(p:P2),c2 (L.set i p)=((c2 L).set (i*2) p.1).set (i*2+1) p.2
 | [],i,p=>by simp[c2]
 | q::L,0,p=>by simp[jd]
 | q::L,i+1,p=>by
  rw[List.set_cons_succ,jd,jd,qx1 L i p,show (i+1)*2=i*2+1+1 by omega,show i*2+1+1+1=(i*2+1)+1+1 by omega];simp
theorem V5 {w:World}{g:Nat}{t:TypeId}{L:List P2}(h:vi w g t L)(i:Nat)(p:P2):vi ((w.setCell ⟨g,i*2,none⟩ p.1).setCell ⟨g,i*2+1,none⟩ p.2) g t (L.set i p):=by
 have h1:=qp (i:=i*2) h p.1;have h2:=qp (i:=i*2+1) h1 p.2;rw[vi,qx1,h2];simp
theorem Z1 {w:World}{g:Nat}{t:TypeId}{L:List P2}(h:vi w g t L){j:Nat}{p:P2}(hp:L[j]?=some p):w.cell? ⟨g,j*2,none⟩=some p.1/\w.cell? ⟨g,j*2+1,none⟩=some p.2:=by
 have:=XV _ j p hp;rw[qe h,qe h,List.getElem?_toArray,List.getElem?_toArray];exact this
theorem qw9 {w:World}{cb:Nat}{c n:Int}(hb:w.heap[cb]?=some (.cells #[.int .i64 c,.int .i64 n] 173 (0,0)))(k:Int×Int) :
 Calls Tryz.prog 135 #[.agg #[.int .i64 k.1,.int .i64 k.2],.pointer (some ⟨cb,0,none⟩)] w fun e w'=>e=.returned (.bool (k.1 == c&&k.2 == n))/\Below w.heap.size w w':=by
 obtain⟨a,b⟩:=k;have c0:w.cell? ⟨cb,0,none⟩=some (.int .i64 c):=qe hb 0;have c1:w.cell? ⟨cb,1,none⟩=some (.int .i64 n):=qe hb 1;have lb:cb<w.heap.size:=qh hb;clear hb
 by_cases e1:a=c
 ·by_cases e2:b=n
  ·subst e1 e2
   go_enter Tryz.func135,Tryz.ntmps135
   go_wp2;go_ret;exact⟨by simp,(Below.refl _ w).alloc (zzl _) _⟩
  ·subst e1
   go_enter Tryz.func135,Tryz.ntmps135
   go_wp2;go_ret;exact⟨by simp[e2],(Below.refl _ w).alloc (zzl _) _⟩
 ·go_enter Tryz.func135,Tryz.ntmps135
  go_wp2;go_ret;exact⟨by simp[e1],(Below.refl _ w).alloc (zzl _) _⟩
theorem jH {w:World}{base:Nat}{e:TypeId}{size:Nat}{v:Value}{n:Nat}{xs:List Value}(h:w.ownsRow base e size v n xs)(hn:0<n):∃ g cap,v=.slice (some ⟨g,0,none⟩) n cap:=by
 rcases h.2 with ⟨rfl,rfl⟩ | ⟨g,cap,cur,rfl,_⟩
 ·omega
 ·exact⟨g,cap,rfl⟩
def Fst (p:Int×Int->Bool)(ks:List (Int×Int))(n:Int):Prop:=(n=-1/\∀ k∈ks,p k=false)\/∃ i:Nat,n=i/\i<ks.length/\(∀ k∈ks.take i,p k=false)/\∀ k,ks[i]?=some k->p k=true
theorem qk1 {w:World}{v:Value}{ks:List (Int×Int)}(hO:qN w 0 173 v (ks.map k2))(hl:ks.length<=100000000)(p:Int×Int->Bool)(cb:Nat)
 (hP:∀ (W:World)(k:Int×Int),Below w.heap.size w W->Calls Tryz.prog 135 #[.agg #[.int .i64 k.1,.int .i64 k.2],.pointer (some ⟨cb,0,none⟩)] W fun e w'=>e=.returned (.bool (p k))/\Below W.heap.size W w') :
 Calls Tryz.prog 155 #[v,.func (.func 135) #[] #[.pointer (some ⟨cb,0,none⟩)]] w fun e w'=>(∃ n:Int,e=.returned (.int .i64 n)/\Fst p ks n)/\Below w.heap.size w w':=by
 obtain⟨ao,cap,rfl⟩:=qr hO;have hlm:(ks.map k2).length=ks.length:=(by simp);rw[hlm];have hc:∀ (j:Nat)(k:Int×Int),ks[j]?=some k->∃ g,ao=some ⟨g,0,none⟩/\g<w.heap.size/\w.cell? ⟨g,j*2,none⟩=some (.int .i64 k.1)/\w.cell? ⟨g,j*2+1,none⟩=some (.int .i64 k.2):=by
  intro j k hk;have hj:j<ks.length:=(zzg hk).1
  rcases hO.2 with ⟨e,e'⟩ | ⟨g,c,cur,e,_,hg,_⟩
  ·rw[hlm] at e';omega
  ·simp only[Value.slice.injEq] at e;obtain⟨rfl,_,rfl⟩:=e;have:=kR hO (p:=k2 k) (j:=j) (by rw[List.getElem?_map,hk];rfl);exact⟨g,rfl,qh hg,this⟩
 have HC:=qg hc;have HP:=qg hP;clear hc hP hO hlm
 go_enter Tryz.func155,Tryz.ntmps155
 go_wp2
 go_loopw [8] (fun i wr=>∃ k:Nat,k<=ks.length/\i=.int .i64 k/\(∀ x∈ks.take k,p x=false)/\Below w.heap.size w wr) (fun i _=>ks.length-(intOf i).toNat)
 case atStart=>exact⟨0,Nat.zero_le _,rfl,by simp,Below.refl _ w⟩
 case round=>
  obtain⟨k,hk,rfl,hh,hB⟩:=hrel;have HH:=qg hh;clear hh
  by_cases hlt:k<ks.length
  ·obtain⟨⟨d1,d2⟩,hd⟩:∃ d,ks[k]?=some d:=⟨ks[k],by simp[hlt]⟩;obtain⟨g,rfl,lg,b0,b1⟩:=(qb HC) k _ hd;have b0:wr.cell? ⟨g,k*2,none⟩=some (.int .i64 d1):=(hB.cell lg).trans b0;have b1:wr.cell? ⟨g,k*2+1,none⟩=some (.int .i64 d2):=(hB.cell lg).trans b1;have i0:(0:Int)<=(k:Int):=(by omega);have i1:(k:Int)<(ks.length:Int):=(by omega);have HPk:=qg ((qb HP) wr (d1,d2) hB);have HD:=qg hd;have HB:=qg hB;clear hd hB
   cases ho:p (d1,d2)
   ·rw[ho] at HPk;have HO:=qg ho;clear ho
    go_wp2_with (go_at_call 135;refine (qb HPk).mono ?_;rintro e w' ⟨rfl,hb'⟩;have HB':=qg hb';clear hb')
    go_roundw
    case rel=>
     refine⟨k+1,by omega,by go_num,?_,(qb HB).trans ((qb HB').mono (qb HB).size)⟩;intro x hx;rw[List.take_add_one,qb HD] at hx
     rcases List.mem_append.1 hx with hx | hx
     ·exact (qb HH) x hx
     ·simp at hx;rw[hx];exact qb HO
    case measure=>simp[intOf];omega
   ·rw[ho] at HPk;have HO:=qg ho;clear ho
    go_wp2_with (go_at_call 135;refine (qb HPk).mono ?_;rintro e w' ⟨rfl,hb'⟩;have HB':=qg hb';clear hb')
    go_ret;exact⟨⟨_,rfl,.inr ⟨k,rfl,hlt,qb HH,fun x hx=>by rw[qb HD] at hx;rw[<-Option.some.inj hx];exact qb HO⟩⟩,(qb HB).trans ((qb HB').mono (qb HB).size)⟩
  ·have HB:=qg hB;clear hB;go_wp2;go_ret;exact⟨⟨_,rfl,.inl ⟨rfl,fun x hx=>(qb HH) x (by rw[List.take_of_length_le (by omega)];exact hx)⟩⟩,qb HB⟩
theorem vR {α:Type}(q:α->Bool):∀ l:List α,(∀ x∈l,q x=false)->l.filter (fun x=>!q x)=l:=by
 intro l h;rw[List.filter_eq_self];intro x hx;simp[h x hx]
theorem Yx {p:Int×Int->Bool}{ks:List (Int×Int)}{n:Int}(hall:∀ k∈ks,p k=false)(h:Fst p ks n):n=-1:=by
 rcases h with ⟨rfl,_⟩ | ⟨i,rfl,hi,_,h2⟩
 ·rfl
 ·have:=h2 ks[i] (by simp[hi]);rw[hall _ (List.getElem_mem hi)] at this
  cases this
theorem Yw {p:Int×Int->Bool}{ks:List (Int×Int)}{n:Int}{i:Nat}{x:Int×Int}(hx:ks[i]?=some x)(h1:∀ k∈ks.take i,p k=false)(h2:p x=true)(h:Fst p ks n):n=i:=by
 have hi:i<ks.length:=(zzg hx).1;have hxi:ks[i]=x:=(zzg hx).2
 rcases h with ⟨rfl,hall⟩ | ⟨j,rfl,hj,k1,k2⟩
 ·rw[hall x (zzn hx)] at h2;cases h2
 ·rcases Nat.lt_trichotomy i j with hlt | heq | hgt
  ·have:=k1 ks[i] (List.mem_take_iff_getElem.2 ⟨i,by omega,rfl⟩);rw[hxi,h2] at this;cases this
  ·rw[heq]
  ·have:=h1 ks[j] (List.mem_take_iff_getElem.2 ⟨j,by omega,rfl⟩);rw[k2 ks[j] (by simp[hj])] at this;cases this
theorem qt9 (p:Int×Int->Bool)(ks:List (Int×Int)):(∀ k∈ks,p k=false)\/∃ i x,ks[i]?=some x/\(∀ k∈ks.take i,p k=false)/\p x=true:=by
 induction ks with
 | nil=>exact .inl (by simp)
 | cons a ks ih=>
  cases ha:p a
  ·rcases ih with ih | ⟨i,x,h1,h2,h3⟩
   ·exact .inl (fun k hk=>by rcases List.mem_cons.1 hk with rfl | hk;exact ha;exact ih k hk)
   ·exact .inr ⟨i+1,x,by simpa using h1,fun k hk=>by rw[List.take_succ_cons] at hk;rcases List.mem_cons.1 hk with rfl | hk;exact ha;exact h2 k hk,h3⟩
  ·exact .inr ⟨0,a,rfl,by simp,ha⟩
theorem xg {α:Type}(q:α->Bool)(l:List α)(x:α):(l++[x]).filter q=if q x=true then l.filter q++[x] else l.filter q:=by
 rw[List.filter_append]
 by_cases h:q x=true
 ·rw[if_pos h];simp[h]
 ·rw[if_neg h];simp[h]
theorem qk2 {w:World}{v:Value}{ks:List (Int×Int)}(hO:qN w 0 173 v (ks.map k2))(hl:ks.length<=100000000)(p:Int×Int->Bool)(cb:Nat)
 (hP:∀ (W:World)(k:Int×Int),But (fun x=>v.ownBlock=some x) w W->Calls Tryz.prog 135 #[.agg #[.int .i64 k.1,.int .i64 k.2],.pointer (some ⟨cb,0,none⟩)] W fun e w'=>e=.returned (.bool (p k))/\Below W.heap.size W w')
 (F:List (Int×Int)) (hF:F=ks.filter fun k=>!p k) :
 Calls Tryz.prog 134 #[v,.func (.func 135) #[] #[.pointer (some ⟨cb,0,none⟩)]] w fun e w'=>(∃ v',e=.returned v'/\qN w' 0 173 v' (F.map k2)/\v'.ownBlock=v.ownBlock)/\But (fun x=>v.ownBlock=some x) w w':=by
 have hI:=qk1 hO hl p cb (fun W k hb=>hP W k (.of_below hb))
 rcases qt9 p ks with hall | ⟨i,x,hx,h1,h2⟩
 ·have hI:=hI.mono (R':=fun e w'=>e=.returned (.int .i64 (-1))/\Below w.heap.size w w') (by rintro e w' ⟨⟨n,rfl,hf⟩,hb⟩;rw[Yx hall hf];exact⟨rfl,hb⟩);have hFe:F=ks:=(by rw[hF,vR p ks hall]);have hE:∀ w',Below w.heap.size w w'->(∃ v',Ending.returned v=.returned v'/\qN w' 0 173 v' (F.map k2)/\v'.ownBlock=v.ownBlock)/\But (fun x=>v.ownBlock=some x) w w':=fun w' hb=>⟨⟨v,rfl,by rw[hFe];exact qi hO (S:=fun _=>False) (.of_below hb) (fun _ _ h=>h),rfl⟩,.of_below hb⟩;obtain⟨ao,cap,rfl⟩:=qr hO;have hlm:(ks.map k2).length=ks.length:=(by simp);rw[hlm] at hI hE ⊢;have HI:=qg hI;have HE:=qg hE;clear hI hE hP hO hF hFe
  go_enter Tryz.func134,Tryz.ntmps134
  go_wp2_with (go_at_call 155;refine (qb HI).mono ?_;rintro e w1 ⟨rfl,hb1⟩;have HB1:=qg hb1;clear hb1)
  go_ret;exact (qb HE) _ (qb HB1)
 ·have hI:=hI.mono (R':=fun e w'=>e=.returned (.int .i64 (i:Int))/\Below w.heap.size w w') (by rintro e w' ⟨⟨n,rfl,hf⟩,hb⟩;rw[Yw hx h1 h2 hf];exact⟨rfl,hb⟩);have hi:i<ks.length:=(zzg hx).1;have hlm:(ks.map k2).length=ks.length:=(by simp);obtain⟨g,cap,rfl⟩:=jH hO (by omega);obtain⟨R,hR,hcl,_,hb0,hmx⟩:=qN.row hO;obtain⟨L,hL⟩:∃ L,L=ks.map k2++R:=⟨_,rfl⟩;rw[<-hL] at hR hcl;rw[hlm] at hI ⊢;have hcn:ks.length<=cap:=(by rw[<-hcl,hL];simp);obtain⟨n,hn⟩:∃ n,n=ks.length:=⟨_,rfl⟩;rw[<-hn] at hI ⊢;have hl:ks.length<=100000000:=hl;have hP:∀ (W:World)(k:Int×Int),But (fun x=>x=g) w W->Calls Tryz.prog 135 #[.agg #[.int .i64 k.1,.int .i64 k.2],.pointer (some ⟨cb,0,none⟩)] W fun e w'=>e=.returned (.bool (p k))/\Below W.heap.size W w':=fun W k hb=>hP W k (hb.wide (fun x _ e=>by rw[e];rfl));have hS:∀ w',But (fun x=>x=g) w w'->But (fun x=>(Value.slice (some ⟨g,0,none⟩) n cap).ownBlock=some x) w w':=fun w' hb=>hb.wide (fun x _ e=>by rw[e];rfl);have hLk:∀ j k,ks[j]?=some k->L[j]?=some (k2 k):=fun j k hk=>by
   rw[hL,List.getElem?_append_left (by simp;exact (zzg hk).1),List.getElem?_map,hk];rfl
  have HI:=qg hI;have HP:=qg hP;have HS:=qg hS;have HR:=qg hR;have HN:=qg hn;have HF:=qg hF;have HLk:=qg hLk;have HL:=qg hL;have HCL:=qg hcl;have HH1:=qg h1;have HH2:=qg h2;have HX:=qg hx;have hwi:IntKind.i64.wrap ((i:Int)+1)=((i+1:Nat):Int):=(by rw[IntKind.wrap_i64];omega);have hi1:((i:Int) == -1)=false:=(by simp);have hin:i<n:=(by omega);have hncap:n<=cap:=(by omega);have hn8:n<=100000000:=(by omega);clear hI hP hS hR hF hLk hL hcl h1 h2 hx hO hlm hi hcn hl hn
  go_enter Tryz.func134,Tryz.ntmps134
  go_wp2_with (go_at_call 155;refine (qb HI).mono ?_;rintro e w1 ⟨rfl,hb1⟩;have HB1:=qg hb1;clear hb1)
  go_loopw [5,6] (fun a b wr=>∃ (m j:Nat)(Lw:List P2),a=.int .i64 (m:Int)/\b=.int .i64 (j:Int)/\m<j/\j<=n/\vi wr g 173 Lw/\Lw.length=cap/\Lw.take m=((ks.take j).filter fun k=>!p k).map k2/\m=((ks.take j).filter fun k=>!p k).length/\Lw.drop j=L.drop j/\But (fun x=>x=g) w wr) (fun a b _=>n-(intOf b).toNat)
  case atStart=>
   have hn:=qb HN;have e0:(ks.take (i+1)).filter (fun k=>!p k)=ks.take i:=by
    rw[List.take_add_one,qb HX];show (ks.take i++[x]).filter _=_;rw[xg,if_neg (by rw[qb HH2];simp),vR p _ (qb HH1)]
   refine⟨i,i+1,L,rfl,by go_num,by omega,by omega,(But.of_below (S:=fun _=>False) (qb HB1)).heap (qb HR) (fun h=>h),qb HCL,?_,?_,rfl,.of_below (qb HB1)⟩
   ·rw[e0,qb HL,List.take_append_of_le_length (by simp;omega),List.map_take]
   ·rw[e0,List.length_take];omega
  case round=>
   obtain⟨m,j,Lw,rfl,rfl,hmj,hjn,hrw,hlw,htk,hml,hdr,hbt⟩:=hrel;have HRW:=qg hrw;have HTK:=qg htk;have HML:=qg hml;have HDR:=qg hdr;have HBT:=qg hbt;have HLW:=qg hlw;have lg:g<wr.heap.size:=qh hrw;clear hrw htk hml hdr hbt hlw
   by_cases hlt:j<n
   ·obtain⟨⟨d1,d2⟩,hd⟩:∃ d,ks[j]?=some d:=⟨ks[j]'(by rw[<-qb HN];exact hlt),by simp⟩;have hLj:Lw[j]?=some (k2 (d1,d2)):=by
     have h1:(Lw.drop j)[0]?=(L.drop j)[0]?:=(by rw[qb HDR]);simp only[List.getElem?_drop,Nat.add_zero] at h1;rw[h1];exact (qb HLk) j _ hd
    obtain⟨b0,b1⟩:=Z1 (qb HRW) hLj;simp only[k2] at b0 b1;have i0:(0:Int)<=(j:Int):=(by omega);have i1:(j:Int)<(n:Int):=(by omega);have i2:(0:Int)<=(m:Int):=(by omega);have i3:(m:Int)<(n:Int):=(by omega);have hwj:IntKind.i64.wrap ((j:Int)+1)=((j+1:Nat):Int):=(by rw[IntKind.wrap_i64];omega);have hwm:IntKind.i64.wrap ((m:Int)+1)=((m+1:Nat):Int):=(by rw[IntKind.wrap_i64];omega);have hBx:But (fun x=>x=g) w (wr.alloc (.cells #[.int .i64 d1,.int .i64 d2] 173)):=(qb HBT).alloc _;have HPk:=qg ((qb HP) _ (d1,d2) hBx);have hNx:(wr.alloc (.cells #[.int .i64 d1,.int .i64 d2] 173)).heap[wr.heap.size]?=some (.cells #[.int .i64 d1,.int .i64 d2] 173):=qt _ _ _ rfl;have hRx:vi (wr.alloc (.cells #[.int .i64 d1,.int .i64 d2] 173)) g 173 Lw:=qx (qb HRW) _;have HNx:=qg hNx;have HRx:=qg hRx;have HBx:=qg hBx;have hne:¬g=wr.heap.size:=(by omega);obtain⟨⟨q1,q2⟩,hq⟩:∃ q,Lw[m]?=some q:=⟨Lw[m]'(by rw[qb HLW];omega),by simp⟩;have HQ:=qg hq;clear hq;have HD:=qg hd;clear hd hLj hNx hRx hBx
    cases ho:p (d1,d2)
    ·rw[ho] at HPk;have HO:=qg ho;clear ho
     go_wp2_with (go_at_call 135;refine (qb HPk).mono ?_;rintro e w' ⟨rfl,hb'⟩;have y0:w'.cell? ⟨wr.heap.size,0,none⟩=some (.int .i64 d1):=qe ((hb'.block _ (by simp)).trans (qb HNx)) 0;have y1:w'.cell? ⟨wr.heap.size,1,none⟩=some (.int .i64 d2):=qe ((hb'.block _ (by simp)).trans (qb HNx)) 1;have hR':vi w' g 173 Lw:=(hb'.block _ (by simp;omega)).trans (qb HRx);have f':∀ t,w'.frozen? ⟨g,t,none⟩=false:=qj hR';obtain⟨u0,u1⟩:=Z1 hR' (qb HQ);have HR':=qg hR';have HB':=qg hb';clear hb' hR')
     go_roundw
     case rel=>
      have eF:(ks.take (j+1)).filter (fun k=>!p k)=(ks.take j).filter (fun k=>!p k)++[(d1,d2)]:=by
       rw[List.take_add_one,qb HD];show (ks.take j++[(d1,d2)]).filter _=_;rw[xg,if_pos (by rw[qb HO];rfl)]
      refine⟨m+1,j+1,Lw.set m (k2 (d1,d2)),by go_num,by go_num,by omega,by omega,V5 (qb HR') m (k2 (d1,d2)),by rw[List.length_set];exact qb HLW,?_,?_,?_,(((qb HBx).trans (.of_below (qb HB'))).setCell (p:=⟨g,m*2,none⟩) (.inl rfl) _).setCell (p:=⟨g,m*2+1,none⟩) (.inl rfl) _⟩
      ·rw[eF,List.map_append,<-qb HTK];rw[List.take_add_one,List.getElem?_set_self (by rw[qb HLW];omega),List.take_set_of_le (zzl _)]
       rfl
      ·rw[eF,List.length_append,<-qb HML];rfl
      ·rw[List.drop_set_of_lt (by omega)];have:=congrArg (List.drop 1) (qb HDR);rw[List.drop_drop,List.drop_drop] at this;exact this
     case measure=>simp[intOf];omega
    ·rw[ho] at HPk;have HO:=qg ho;clear ho
     go_wp2_with (go_at_call 135;refine (qb HPk).mono ?_;rintro e w' ⟨rfl,hb'⟩;have HB':=qg hb';clear hb')
     go_roundw
     case rel=>
      have eF:(ks.take (j+1)).filter (fun k=>!p k)=(ks.take j).filter (fun k=>!p k):=by
       rw[List.take_add_one,qb HD];show (ks.take j++[(d1,d2)]).filter _=_;rw[xg,if_neg (by rw[qb HO];simp)]
      refine⟨m,j+1,Lw,rfl,by go_num,by omega,by omega,((qb HB').block _ (by simp;omega)).trans (qb HRx),qb HLW,by rw[eF];exact qb HTK,by rw[eF];exact qb HML,?_,(qb HBx).trans (.of_below (qb HB'))⟩;have:=congrArg (List.drop 1) (qb HDR);rw[List.drop_drop,List.drop_drop] at this;exact this
     case measure=>simp[intOf];omega
   ·have hjn:j=n:=(by omega);subst hjn;have hFl:F=(ks.take j).filter fun k=>!p k:=(by rw[qb HF,List.take_of_length_le (by rw[qb HN];exact zzl _)]);obtain⟨w2,hw2⟩:∃ w2,w2=wr.setRow g (c2 (Lw.take m++List.replicate (j-m) X0++Lw.drop (m+(j-m)))).toArray:=⟨_,rfl⟩;have hclr:∀ mc,(Builtin.clear_ #[170] 0 #[.slice (some ⟨g,m*2,none⟩) (j-m) mc]).run Tryz.prog wr=.ok (.tuple #[]) w2:=fun mc=>by
     rw[hw2];exact xj (m:=j-m) (o:=m) (z:=X0) Tryz.underlying170 (by rfl) (qb HRW) (by omega) (by rw[qb HLW];omega) ⟨rfl,rfl⟩
    have hO2:qN w2 0 173 (.slice (some ⟨g,0,none⟩) m cap) (F.map k2):=by
     have hr2:=setRow_heap wr g _ (c2 (Lw.take m++List.replicate (j-m) X0++Lw.drop (m+(j-m)))).toArray _ _ (qb HRW);rw[<-hw2,List.append_assoc,qb HTK,<-hFl] at hr2;have hlen:(F.map k2).length=m:=(by rw[List.length_map,hFl];exact (qb HML).symm);have:=kQ hr2 (cap:=cap) (by rw[List.length_append,hlen,List.length_append,List.length_replicate,List.length_drop,qb HLW];omega) (Nat.zero_le _) hmx;rw[hlen] at this;rw[qN,hlen];rw[qN,hlen] at this;exact this
    have hB2:But (fun x=>x=g) w w2:=by
     rw[hw2];exact (qb HBT).trans ⟨rfl,rfl,rfl,by simp,fun k _ hk=>setRow_other _ _ _ _ hk⟩
    have HO2:=qg hO2;have HB2:=qg hB2;have j0:(0:Int)<=(m:Int):=(by omega);have j1:(m:Int)<=(j:Int):=(by omega);have j2:(j:Int)<=(cap:Int):=(by omega);have j3:¬cap=m:=(by omega);have j4:(m:Int)<=(cap:Int):=(by omega);clear hO2 hB2 hw2 hFl;go_wp2;go_ret;exact⟨⟨_,rfl,qb HO2,rfl⟩,(qb HS) _ (qb HB2)⟩
theorem YA {w:World}{cb:Nat}{c:Int}(hb:w.heap[cb]?=some (.cells #[.int .i64 c] 3 (0,0)))(k:Int×Int) :
 Calls Tryz.prog 80 #[.agg #[.int .i64 k.1,.int .i64 k.2],.pointer (some ⟨cb,0,none⟩)] w fun e w'=>e=.returned (.bool (k.1 == c))/\Below w.heap.size w w':=by
 obtain⟨a,b⟩:=k;have c0:w.cell? ⟨cb,0,none⟩=some (.int .i64 c):=qe hb 0;have lb:cb<w.heap.size:=qh hb;clear hb
 go_enter Tryz.func80,Tryz.ntmps80
 go_wp2;go_ret;exact⟨by simp,(Below.refl _ w).alloc (zzl _) _⟩
theorem qk8 {w:World}{v:Value}{ks:List (Int×Int)}(hO:qN w 0 153 v (ks.map k2))(hl:ks.length<=1000000000)(p:Int×Int->Bool)(cb:Nat)
 (hP:∀ (W:World)(k:Int×Int),Below w.heap.size w W->Calls Tryz.prog 80 #[.agg #[.int .i64 k.1,.int .i64 k.2],.pointer (some ⟨cb,0,none⟩)] W fun e w'=>e=.returned (.bool (p k))/\Below W.heap.size W w') :
 Calls Tryz.prog 115 #[v,.func (.func 80) #[] #[.pointer (some ⟨cb,0,none⟩)]] w fun e w'=>(∃ n:Int,e=.returned (.int .i64 n)/\Fst p ks n)/\Below w.heap.size w w':=by
 obtain⟨ao,cap,rfl⟩:=qr hO;have hlm:(ks.map k2).length=ks.length:=(by simp);rw[hlm];have hc:∀ (j:Nat)(k:Int×Int),ks[j]?=some k->∃ g,ao=some ⟨g,0,none⟩/\g<w.heap.size/\w.cell? ⟨g,j*2,none⟩=some (.int .i64 k.1)/\w.cell? ⟨g,j*2+1,none⟩=some (.int .i64 k.2):=by
  intro j k hk;have hj:j<ks.length:=(zzg hk).1
  rcases hO.2 with ⟨e,e'⟩ | ⟨g,c,cur,e,_,hg,_⟩
  ·rw[hlm] at e';omega
  ·simp only[Value.slice.injEq] at e;obtain⟨rfl,_,rfl⟩:=e;have:=kR hO (p:=k2 k) (j:=j) (by rw[List.getElem?_map,hk];rfl);exact⟨g,rfl,qh hg,this⟩
 have HC:=qg hc;have HP:=qg hP;clear hc hP hO hlm
 go_enter Tryz.func115,Tryz.ntmps115
 go_wp2
 go_loopw [8] (fun i wr=>∃ k:Nat,k<=ks.length/\i=.int .i64 k/\(∀ x∈ks.take k,p x=false)/\Below w.heap.size w wr) (fun i _=>ks.length-(intOf i).toNat)
 case atStart=>exact⟨0,Nat.zero_le _,rfl,by simp,Below.refl _ w⟩
 case round=>
  obtain⟨k,hk,rfl,hh,hB⟩:=hrel;have HH:=qg hh;clear hh
  by_cases hlt:k<ks.length
  ·obtain⟨⟨d1,d2⟩,hd⟩:∃ d,ks[k]?=some d:=⟨ks[k],by simp[hlt]⟩;obtain⟨g,rfl,lg,b0,b1⟩:=(qb HC) k _ hd;have b0:wr.cell? ⟨g,k*2,none⟩=some (.int .i64 d1):=(hB.cell lg).trans b0;have b1:wr.cell? ⟨g,k*2+1,none⟩=some (.int .i64 d2):=(hB.cell lg).trans b1;have i0:(0:Int)<=(k:Int):=(by omega);have i1:(k:Int)<(ks.length:Int):=(by omega);have HPk:=qg ((qb HP) wr (d1,d2) hB);have HD:=qg hd;have HB:=qg hB;clear hd hB
   cases ho:p (d1,d2)
   ·rw[ho] at HPk;have HO:=qg ho;clear ho
    go_wp2_with (go_at_call 80;refine (qb HPk).mono ?_;rintro e w' ⟨rfl,hb'⟩;have HB':=qg hb';clear hb')
    go_roundw
    case rel=>
     refine⟨k+1,by omega,by go_num,?_,(qb HB).trans ((qb HB').mono (qb HB).size)⟩;intro x hx;rw[List.take_add_one,qb HD] at hx
     rcases List.mem_append.1 hx with hx | hx
     ·exact (qb HH) x hx
     ·simp at hx;rw[hx];exact qb HO
    case measure=>simp[intOf];omega
   ·rw[ho] at HPk;have HO:=qg ho;clear ho
    go_wp2_with (go_at_call 80;refine (qb HPk).mono ?_;rintro e w' ⟨rfl,hb'⟩;have HB':=qg hb';clear hb')
    go_ret;exact⟨⟨_,rfl,.inr ⟨k,rfl,hlt,qb HH,fun x hx=>by rw[qb HD] at hx;rw[<-Option.some.inj hx];exact qb HO⟩⟩,(qb HB).trans ((qb HB').mono (qb HB).size)⟩
  ·have HB:=qg hB;clear hB;go_wp2;go_ret;exact⟨⟨_,rfl,.inl ⟨rfl,fun x hx=>(qb HH) x (by rw[List.take_of_length_le (by omega)];exact hx)⟩⟩,qb HB⟩
theorem XN {w:World}{v:Value}{ks:List (Int×Int)}(hO:qN w 0 153 v (ks.map k2))(hl:ks.length<=1000000000)(p:Int×Int->Bool)(cb:Nat)
 (hP:∀ (W:World)(k:Int×Int),But (fun x=>v.ownBlock=some x) w W->Calls Tryz.prog 80 #[.agg #[.int .i64 k.1,.int .i64 k.2],.pointer (some ⟨cb,0,none⟩)] W fun e w'=>e=.returned (.bool (p k))/\Below W.heap.size W w')
 (F:List (Int×Int)) (hF:F=ks.filter fun k=>!p k) :
 Calls Tryz.prog 81 #[v,.func (.func 80) #[] #[.pointer (some ⟨cb,0,none⟩)]] w fun e w'=>(∃ v',e=.returned v'/\qN w' 0 153 v' (F.map k2)/\v'.ownBlock=v.ownBlock)/\But (fun x=>v.ownBlock=some x) w w':=by
 have hI:=qk8 hO hl p cb (fun W k hb=>hP W k (.of_below hb))
 rcases qt9 p ks with hall | ⟨i,x,hx,h1,h2⟩
 ·have hI:=hI.mono (R':=fun e w'=>e=.returned (.int .i64 (-1))/\Below w.heap.size w w') (by rintro e w' ⟨⟨n,rfl,hf⟩,hb⟩;rw[Yx hall hf];exact⟨rfl,hb⟩);have hFe:F=ks:=(by rw[hF,vR p ks hall]);have hE:∀ w',Below w.heap.size w w'->(∃ v',Ending.returned v=.returned v'/\qN w' 0 153 v' (F.map k2)/\v'.ownBlock=v.ownBlock)/\But (fun x=>v.ownBlock=some x) w w':=fun w' hb=>⟨⟨v,rfl,by rw[hFe];exact qi hO (S:=fun _=>False) (.of_below hb) (fun _ _ h=>h),rfl⟩,.of_below hb⟩;obtain⟨ao,cap,rfl⟩:=qr hO;have hlm:(ks.map k2).length=ks.length:=(by simp);rw[hlm] at hI hE ⊢;have HI:=qg hI;have HE:=qg hE;clear hI hE hP hO hF hFe
  go_enter Tryz.func81,Tryz.ntmps81
  go_wp2_with (go_at_call 115;refine (qb HI).mono ?_;rintro e w1 ⟨rfl,hb1⟩;have HB1:=qg hb1;clear hb1)
  go_ret;exact (qb HE) _ (qb HB1)
 ·have hI:=hI.mono (R':=fun e w'=>e=.returned (.int .i64 (i:Int))/\Below w.heap.size w w') (by rintro e w' ⟨⟨n,rfl,hf⟩,hb⟩;rw[Yw hx h1 h2 hf];exact⟨rfl,hb⟩);have hi:i<ks.length:=(zzg hx).1;have hlm:(ks.map k2).length=ks.length:=(by simp);obtain⟨g,cap,rfl⟩:=jH hO (by omega);obtain⟨R,hR,hcl,_,hb0,hmx⟩:=qN.row hO;obtain⟨L,hL⟩:∃ L,L=ks.map k2++R:=⟨_,rfl⟩;rw[<-hL] at hR hcl;rw[hlm] at hI ⊢;have hcn:ks.length<=cap:=(by rw[<-hcl,hL];simp);obtain⟨n,hn⟩:∃ n,n=ks.length:=⟨_,rfl⟩;rw[<-hn] at hI ⊢;have hl:ks.length<=1000000000:=hl;have hP:∀ (W:World)(k:Int×Int),But (fun x=>x=g) w W->Calls Tryz.prog 80 #[.agg #[.int .i64 k.1,.int .i64 k.2],.pointer (some ⟨cb,0,none⟩)] W fun e w'=>e=.returned (.bool (p k))/\Below W.heap.size W w':=fun W k hb=>hP W k (hb.wide (fun x _ e=>by rw[e];rfl));have hS:∀ w',But (fun x=>x=g) w w'->But (fun x=>(Value.slice (some ⟨g,0,none⟩) n cap).ownBlock=some x) w w':=fun w' hb=>hb.wide (fun x _ e=>by rw[e];rfl);have hLk:∀ j k,ks[j]?=some k->L[j]?=some (k2 k):=fun j k hk=>by
   rw[hL,List.getElem?_append_left (by simp;exact (zzg hk).1),List.getElem?_map,hk];rfl
  have HI:=qg hI;have HP:=qg hP;have HS:=qg hS;have HR:=qg hR;have HN:=qg hn;have HF:=qg hF;have HLk:=qg hLk;have HL:=qg hL;have HCL:=qg hcl;have HH1:=qg h1;have HH2:=qg h2;have HX:=qg hx;have hwi:IntKind.i64.wrap ((i:Int)+1)=((i+1:Nat):Int):=(by rw[IntKind.wrap_i64];omega);have hi1:((i:Int) == -1)=false:=(by simp);have hin:i<n:=(by omega);have hncap:n<=cap:=(by omega);have hn8:n<=1000000000:=(by omega);clear hI hP hS hR hF hLk hL hcl h1 h2 hx hO hlm hi hcn hl hn
  go_enter Tryz.func81,Tryz.ntmps81
  go_wp2_with (go_at_call 115;refine (qb HI).mono ?_;rintro e w1 ⟨rfl,hb1⟩;have HB1:=qg hb1;clear hb1)
  go_loopw [5,6] (fun a b wr=>∃ (m j:Nat)(Lw:List P2),a=.int .i64 (m:Int)/\b=.int .i64 (j:Int)/\m<j/\j<=n/\vi wr g 153 Lw/\Lw.length=cap/\Lw.take m=((ks.take j).filter fun k=>!p k).map k2/\m=((ks.take j).filter fun k=>!p k).length/\Lw.drop j=L.drop j/\But (fun x=>x=g) w wr) (fun a b _=>n-(intOf b).toNat)
  case atStart=>
   have hn:=qb HN;have e0:(ks.take (i+1)).filter (fun k=>!p k)=ks.take i:=by
    rw[List.take_add_one,qb HX];show (ks.take i++[x]).filter _=_;rw[xg,if_neg (by rw[qb HH2];simp),vR p _ (qb HH1)]
   refine⟨i,i+1,L,rfl,by go_num,by omega,by omega,(But.of_below (S:=fun _=>False) (qb HB1)).heap (qb HR) (fun h=>h),qb HCL,?_,?_,rfl,.of_below (qb HB1)⟩
   ·rw[e0,qb HL,List.take_append_of_le_length (by simp;omega),List.map_take]
   ·rw[e0,List.length_take];omega
  case round=>
   obtain⟨m,j,Lw,rfl,rfl,hmj,hjn,hrw,hlw,htk,hml,hdr,hbt⟩:=hrel;have HRW:=qg hrw;have HTK:=qg htk;have HML:=qg hml;have HDR:=qg hdr;have HBT:=qg hbt;have HLW:=qg hlw;have lg:g<wr.heap.size:=qh hrw;clear hrw htk hml hdr hbt hlw
   by_cases hlt:j<n
   ·obtain⟨⟨d1,d2⟩,hd⟩:∃ d,ks[j]?=some d:=⟨ks[j]'(by rw[<-qb HN];exact hlt),by simp⟩;have hLj:Lw[j]?=some (k2 (d1,d2)):=by
     have h1:(Lw.drop j)[0]?=(L.drop j)[0]?:=(by rw[qb HDR]);simp only[List.getElem?_drop,Nat.add_zero] at h1;rw[h1];exact (qb HLk) j _ hd
    obtain⟨b0,b1⟩:=Z1 (qb HRW) hLj;simp only[k2] at b0 b1;have i0:(0:Int)<=(j:Int):=(by omega);have i1:(j:Int)<(n:Int):=(by omega);have i2:(0:Int)<=(m:Int):=(by omega);have i3:(m:Int)<(n:Int):=(by omega);have hwj:IntKind.i64.wrap ((j:Int)+1)=((j+1:Nat):Int):=(by rw[IntKind.wrap_i64];omega);have hwm:IntKind.i64.wrap ((m:Int)+1)=((m+1:Nat):Int):=(by rw[IntKind.wrap_i64];omega);have hBx:But (fun x=>x=g) w (wr.alloc (.cells #[.int .i64 d1,.int .i64 d2] 153)):=(qb HBT).alloc _;have HPk:=qg ((qb HP) _ (d1,d2) hBx);have hNx:(wr.alloc (.cells #[.int .i64 d1,.int .i64 d2] 153)).heap[wr.heap.size]?=some (.cells #[.int .i64 d1,.int .i64 d2] 153):=qt _ _ _ rfl;have hRx:vi (wr.alloc (.cells #[.int .i64 d1,.int .i64 d2] 153)) g 153 Lw:=qx (qb HRW) _;have HNx:=qg hNx;have HRx:=qg hRx;have HBx:=qg hBx;have hne:¬g=wr.heap.size:=(by omega);obtain⟨⟨q1,q2⟩,hq⟩:∃ q,Lw[m]?=some q:=⟨Lw[m]'(by rw[qb HLW];omega),by simp⟩;have HQ:=qg hq;clear hq;have HD:=qg hd;clear hd hLj hNx hRx hBx
    cases ho:p (d1,d2)
    ·rw[ho] at HPk;have HO:=qg ho;clear ho
     go_wp2_with (go_at_call 80;refine (qb HPk).mono ?_;rintro e w' ⟨rfl,hb'⟩;have y0:w'.cell? ⟨wr.heap.size,0,none⟩=some (.int .i64 d1):=qe ((hb'.block _ (by simp)).trans (qb HNx)) 0;have y1:w'.cell? ⟨wr.heap.size,1,none⟩=some (.int .i64 d2):=qe ((hb'.block _ (by simp)).trans (qb HNx)) 1;have hR':vi w' g 153 Lw:=(hb'.block _ (by simp;omega)).trans (qb HRx);have f':∀ t,w'.frozen? ⟨g,t,none⟩=false:=qj hR';obtain⟨u0,u1⟩:=Z1 hR' (qb HQ);have HR':=qg hR';have HB':=qg hb';clear hb' hR')
     go_roundw
     case rel=>
      have eF:(ks.take (j+1)).filter (fun k=>!p k)=(ks.take j).filter (fun k=>!p k)++[(d1,d2)]:=by
       rw[List.take_add_one,qb HD];show (ks.take j++[(d1,d2)]).filter _=_;rw[xg,if_pos (by rw[qb HO];rfl)]
      refine⟨m+1,j+1,Lw.set m (k2 (d1,d2)),by go_num,by go_num,by omega,by omega,V5 (qb HR') m (k2 (d1,d2)),by rw[List.length_set];exact qb HLW,?_,?_,?_,(((qb HBx).trans (.of_below (qb HB'))).setCell (p:=⟨g,m*2,none⟩) (.inl rfl) _).setCell (p:=⟨g,m*2+1,none⟩) (.inl rfl) _⟩
      ·rw[eF,List.map_append,<-qb HTK];rw[List.take_add_one,List.getElem?_set_self (by rw[qb HLW];omega),List.take_set_of_le (zzl _)]
       rfl
      ·rw[eF,List.length_append,<-qb HML];rfl
      ·rw[List.drop_set_of_lt (by omega)];have:=congrArg (List.drop 1) (qb HDR);rw[List.drop_drop,List.drop_drop] at this;exact this
     case measure=>simp[intOf];omega
    ·rw[ho] at HPk;have HO:=qg ho;clear ho
     go_wp2_with (go_at_call 80;refine (qb HPk).mono ?_;rintro e w' ⟨rfl,hb'⟩;have HB':=qg hb';clear hb')
     go_roundw
     case rel=>
      have eF:(ks.take (j+1)).filter (fun k=>!p k)=(ks.take j).filter (fun k=>!p k):=by
       rw[List.take_add_one,qb HD];show (ks.take j++[(d1,d2)]).filter _=_;rw[xg,if_neg (by rw[qb HO];simp)]
      refine⟨m,j+1,Lw,rfl,by go_num,by omega,by omega,((qb HB').block _ (by simp;omega)).trans (qb HRx),qb HLW,by rw[eF];exact qb HTK,by rw[eF];exact qb HML,?_,(qb HBx).trans (.of_below (qb HB'))⟩;have:=congrArg (List.drop 1) (qb HDR);rw[List.drop_drop,List.drop_drop] at this;exact this
     case measure=>simp[intOf];omega
   ·have hjn:j=n:=(by omega);subst hjn;have hFl:F=(ks.take j).filter fun k=>!p k:=(by rw[qb HF,List.take_of_length_le (by rw[qb HN];exact zzl _)]);obtain⟨w2,hw2⟩:∃ w2,w2=wr.setRow g (c2 (Lw.take m++List.replicate (j-m) X0++Lw.drop (m+(j-m)))).toArray:=⟨_,rfl⟩;have hclr:∀ mc,(Builtin.clear_ #[87] 0 #[.slice (some ⟨g,m*2,none⟩) (j-m) mc]).run Tryz.prog wr=.ok (.tuple #[]) w2:=fun mc=>by
     rw[hw2];exact xj (m:=j-m) (o:=m) (z:=X0) Tryz.underlying87 (by rfl) (qb HRW) (by omega) (by rw[qb HLW];omega) ⟨rfl,rfl⟩
    have hO2:qN w2 0 153 (.slice (some ⟨g,0,none⟩) m cap) (F.map k2):=by
     have hr2:=setRow_heap wr g _ (c2 (Lw.take m++List.replicate (j-m) X0++Lw.drop (m+(j-m)))).toArray _ _ (qb HRW);rw[<-hw2,List.append_assoc,qb HTK,<-hFl] at hr2;have hlen:(F.map k2).length=m:=(by rw[List.length_map,hFl];exact (qb HML).symm);have:=kQ hr2 (cap:=cap) (by rw[List.length_append,hlen,List.length_append,List.length_replicate,List.length_drop,qb HLW];omega) (Nat.zero_le _) hmx;rw[hlen] at this;rw[qN,hlen];rw[qN,hlen] at this;exact this
    have hB2:But (fun x=>x=g) w w2:=by
     rw[hw2];exact (qb HBT).trans ⟨rfl,rfl,rfl,by simp,fun k _ hk=>setRow_other _ _ _ _ hk⟩
    have HO2:=qg hO2;have HB2:=qg hB2;have j0:(0:Int)<=(m:Int):=(by omega);have j1:(m:Int)<=(j:Int):=(by omega);have j2:(j:Int)<=(cap:Int):=(by omega);have j3:¬cap=m:=(by omega);have j4:(m:Int)<=(cap:Int):=(by omega);clear hO2 hB2 hw2 hFl;go_wp2;go_ret;exact⟨⟨_,rfl,qb HO2,rfl⟩,(qb HS) _ (qb HB2)⟩
end Go.Proofs.YtfnockbgkcgpkaaGreat
