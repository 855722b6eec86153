import Derived.Test.YtfnockbgkcgpkaaGreatTkbn
set_option linter.all false
set_option maxRecDepth 100000
set_option maxHeartbeats 16000000
namespace Go.Proofs.YtfnockbgkcgpkaaGreat
open Go.RowKit Go.Proofs.Panes
section
variable {U:Nat->Prop}{w w1 w':World}{rp:Nat}{d d' d'':Dc}{v:Dv}{pvs:List Value}
theorem YD (h:DSc U w rp d v pvs)(hUl:∀ k,U k->k<w.heap.size)(c:Nat)(o:Opn)(po:Option Addr)(pn pc:Nat)(h1:o.kind=1)(hx:SrB o.x)(hy:SrB o.y)(hlen:d.l.length<16) :
 Calls Tryz.prog 124 #[.pointer (some ⟨rp,0,none⟩),.int .i64 (c:Int),.agg #[.int .i64 o.kind,.int .i64 o.surf,.int .i64 o.x,.int .i64 o.y,.int .i64 o.w,.int .i64 o.h,.slice po pn pc,.int .i64 o.mark]] w fun e w'=>(∃ u,e=.returned u)/\jX U w rp v (qO d c o) w':=by
 obtain⟨z,hz⟩:∃ z:Srf,z=⟨(c:Int),o.surf,o.x,o.y,0,0,[],0,0,0⟩:=⟨_,rfl⟩;have hdd:qO d c o={d with l:=d.l++[z]}:=(by unfold qO;rw[if_neg (by omega),if_pos h1,hz]);rw[hdd,h1];have hzl:=yn h;obtain⟨ro,rc,hov⟩:=qr h.sf.own;obtain⟨n,hn⟩:∃ n,n=d.l.length:=⟨_,rfl⟩;rw[hzl,<-hn] at hov;obtain⟨w1,hw1⟩:∃ w1:World,w1=w.alloc (.cells #[.int .i64 1,.int .i64 o.surf,.int .i64 o.x,.int .i64 o.y,.int .i64 o.w,.int .i64 o.h,.slice po pn pc,.int .i64 o.mark] 52):=⟨_,rfl⟩;have hB1:Below w.heap.size w w1:=(by rw[hw1];exact (Below.refl _ w).alloc (zzl _) _);have hK1:w1.heap[w.heap.size]?=some (.cells #[.int .i64 1,.int .i64 o.surf,.int .i64 o.x,.int .i64 o.y,.int .i64 o.w,.int .i64 o.h,.slice po pn pc,.int .i64 o.mark] 52):=(by rw[hw1];exact qt _ _ _ rfl);have hF1:=h.below hB1;have hlt:rp<w.heap.size:=qh h.blk;have s2:w.heap.size<w1.heap.size:=qh hK1;have hnU:∀ k,w.heap.size<=k->¬U k:=fun k hk e=>by have:=hUl k e;omega
 have y0:w1.cell? ⟨w.heap.size,0,none⟩=some (.int .i64 1):=qe hK1 0;have y1:w1.cell? ⟨w.heap.size,1,none⟩=some (.int .i64 o.surf):=qe hK1 1;have HF:Hid (Calls Tryz.prog 143 #[.pointer (some ⟨rp,0,none⟩),.int .i64 (c:Int),.int .i64 o.surf] w1 fun e w2=>∃ k:Int,e=.returned (.int .i64 k)/\(w2.cell? ⟨rp,9,none⟩=some (.slice ro n rc)/\rp<w2.heap.size/\w.heap.size<w2.heap.size/\w2.cell? ⟨w.heap.size,0,none⟩=some (.int .i64 1)/\w2.cell? ⟨w.heap.size,1,none⟩=some (.int .i64 o.surf)/\w2.cell? ⟨w.heap.size,2,none⟩=some (.int .i64 o.x)/\w2.cell? ⟨w.heap.size,3,none⟩=some (.int .i64 o.y))/\
  ∃ g' cap' w5,(Builtin.append_ #[115,115] 115 #[.slice ro n rc,.slice (some ⟨w2.heap.size,0,none⟩) 1 1]).run Tryz.prog (w2.alloc (.cells #[.int .i64 (c:Int),.int .i64 o.surf,.int .i64 o.x,.int .i64 o.y,.int .i64 0,.int .i64 0,.slice none 0 0,.int .i64 0,.int .i64 0,.int .i64 0] 128)).drew=.ok (.slice (some ⟨g',0,none⟩) (n+1) cap') w5/\w5.cell? ⟨rp,9,none⟩=some (.slice ro n rc)/\(∀ j,w5.frozen? ⟨rp,j,none⟩=false)/\jX U w rp v {d with l:=d.l++[z]} (w5.setCell ⟨rp,9,none⟩ (.slice (some ⟨g',0,none⟩) (n+1) cap'))):=by
  refine (hF1.find (c:Int) o.surf).mono ?_;rintro e w2 ⟨⟨k,rfl,-⟩,hb2⟩;have hF2:=hF1.below hb2;have hK2:w2.heap[w.heap.size]?=_:=(hb2.block _ s2).trans hK1;have sz1:=hB1.size;have sz2:=hb2.size;refine⟨k,rfl,⟨by rw[hF2.c9,hov],qh hF2.blk,by omega,qe hK2 0,qe hK2 1,qe hK2 2,qe hK2 3⟩,?_⟩;obtain⟨W4,hW4⟩:∃ W4:World,W4=(w2.alloc (.cells #[.int .i64 (c:Int),.int .i64 o.surf,.int .i64 o.x,.int .i64 o.y,.int .i64 0,.int .i64 0,.slice none 0 0,.int .i64 0,.int .i64 0,.int .i64 0] 128)).drew:=⟨_,rfl⟩;have hB4:Below w2.heap.size w2 W4:=(by rw[hW4];exact ((Below.refl _ w2).alloc (zzl _) _).drew);have hN4:W4.heap[w2.heap.size]?=some (.cells #[.int .i64 (c:Int),.int .i64 o.surf,.int .i64 o.x,.int .i64 o.y,.int .i64 0,.int .i64 0,.slice none 0 0,.int .i64 0,.int .i64 0,.int .i64 0] 128):=(by rw[hW4];exact qt w2 _ _ rfl);have hF4:=hF2.below hB4;obtain⟨i0',hi',hz0,hz1,hz2⟩:=info_parts QV;obtain⟨v',w5,hrun,hO5,hg5,-,hv5⟩:=run_append_own_at (P:=Tryz.prog) (w:=W4) 0 115 115 128 i0' _ 10 96 Tryz.underlying115 hi' hz0 hz1 hz2 rfl (by decide) v.sv _ _ hF4.sf.own ⟨w2.heap.size,0,none⟩ 1 1 [.int .i64 (c:Int),.int .i64 o.surf,.int .i64 o.x,.int .i64 o.y,.int .i64 0,.int .i64 0,.slice none 0 0,.int .i64 0,.int .i64 0,.int .i64 0] rfl (xT hN4) (by simp[Value.oneCell']) (by unfold maxLen;omega) (by omega) (Nat.zero_le _);obtain⟨g',cap',hv'⟩:=jH hO5 (by omega);rw[hzl,<-hn] at hv' hO5;subst hv';have hBg:But (fun k=>v.sv.ownBlock=some k) W4 w5:=.of_grown hg5 (fun k e=>e);have hnb:¬v.sv.ownBlock=some rp:=qq h.sf.own h.blk (by decide);have hS5:=hBg.heap hF4.blk hnb;have sz4:=hB4.size;rw[hov,hW4] at hrun;refine⟨g',cap',w5,hrun,by rw[qe hS5 9];show some v.sv=_;rw[hov],fun j=>qj hS5 j,?_⟩;have hb:But (fun k=>k=rp\/v.sv.ownBlock=some k) w (w5.setCell ⟨rp,9,none⟩ (.slice (some ⟨g',0,none⟩) (n+1) cap')):=((((But.of_below hB1).trans (.of_below hb2)).trans (.of_below hB4)).trans (hBg.wide (fun k _ e=>.inr e))).setCell (p:=⟨rp,9,none⟩) (.inl (.inl rfl)) _;have hnew:∀ k,(Value.slice (some ⟨g',0,none⟩) (n+1) cap').ownBlock=some k->v.sv.ownBlock=some k\/w.heap.size<=k:=fun k hk=>by
   rcases hv5 with q | q
   ·exact .inl (by rw[<-q];exact hk)
   ·rw[hk] at q;have:=Option.some.inj q;exact .inr (by omega)
  have hgb:¬g'=rp:=fun e=>by
   rcases hnew g' rfl with q | q
   ·exact hnb (by rw[<-e];exact q)
   ·omega
  have hzip:(d.l++[z]).zip (pvs++[.slice none 0 0])=d.l.zip pvs++[(z,.slice none 0 0)]:=List.zip_append h.pl.symm;have hO6:(w5.setCell ⟨rp,9,none⟩ (.slice (some ⟨g',0,none⟩) (n+1) cap')).ownsRow 0 128 10 (.slice (some ⟨g',0,none⟩) (n+1) cap') ((d.l++[z]).zip (pvs++[.slice none 0 0])).length (qQ ((d.l++[z]).zip (pvs++[.slice none 0 0]))):=by
   have e1:((d.l++[z]).zip (pvs++[.slice none 0 0])).length=n+1:=(by rw[hzip,List.length_append,hzl,<-hn];rfl);have e2:qQ ((d.l++[z]).zip (pvs++[.slice none 0 0]))=qQ (d.l.zip pvs)++[.int .i64 (c:Int),.int .i64 o.surf,.int .i64 o.x,.int .i64 o.y,.int .i64 0,.int .i64 0,.slice none 0 0,.int .i64 0,.int .i64 0,.int .i64 0]:=by
    rw[hzip,jO,hz];rfl
   rw[e1,e2];exact qi hO5 ((But.refl (fun k=>k=rp) w5).setCell (p:=⟨rp,9,none⟩) (.inl rfl) _) (fun k hk e=>by cases hk;exact hgb e)
  have hUn:∀ k,U k->¬(k=rp\/v.sv.ownBlock=some k):=fun k hk e=>by
   rcases e with e | e
   ·exact h.far.1 (e ▸ hk)
   ·exact h.far.2.2 k e hk
  refine⟨⟨.slice (some ⟨g',0,none⟩) (n+1) cap',v.wv,pvs++[.slice none 0 0],h.newl hb (qp (i:=9) hS5 _) ⟨hO6,fun q hq=>?_,fun q hq=>?_⟩ (by rw[List.length_append,List.length_append,h.pl];rfl) (fun k hk e=>?_) (by rw[List.length_append];simp;omega),hnew,fun k e=>.inl e⟩,hb.wide fun k _ e=>?_⟩
  ·rw[hzip] at hq
   rcases List.mem_append.1 hq with e | e
   ·obtain⟨po,pc,e1,e2⟩:=h.sf.px q e;exact⟨po,pc,e1,e2.but hb hUn⟩
   ·rw[List.mem_singleton] at e;subst e;refine⟨none,0,by rw[hz];rfl,?_⟩;rw[hz];exact⟨none,0,rfl,zzl _,by simp[maxLen],fun h=>absurd rfl h⟩
  ·rw[hzip] at hq
   rcases List.mem_append.1 hq with e | e
   ·exact h.sf.ok q e
   ·rw[List.mem_singleton] at e;subst e;rw[hz];exact⟨by simp,by simp,by simp,by simp,by simp,hx,hy⟩
  ·rcases hnew k hk with q | q
   ·exact h.far.2.2 k q e
   ·exact hnU k q e
  ·rcases e with e | e
   ·exact .inl (.inl e)
   ·exact .inr (.inl e)
 have HW1:=qg hw1;have hn16:n<16:=(by omega);have en:IntKind.i64.wrap ((n:Int)-1)=(n:Int)-1:=(by rw[IntKind.wrap_i64];omega);clear hdd hzl hov hw1 hB1 hK1 hF1 hnU h hUl h1 hx hy hlen hn hz
 go_enter Tryz.func124,Tryz.ntmps124
 go_wp2_with (rw[<-qb HW1];go_at_call 143;refine (qb HF).mono ?_;rintro e w2 ⟨k,rfl,⟨d9,l2,l3,x0,x1,x2,x3⟩,g',cap',w5,hrun,r1,r2,hE⟩
              have HR:=qg hrun
              have HE:=qg hE
              have s3:(w2.alloc (.cells #[.int .i64 (c:Int),.int .i64 o.surf,.int .i64 o.x,.int .i64 o.y,.int .i64 0,.int .i64 0,.slice none 0 0,.int .i64 0,.int .i64 0,.int .i64 0] 128)).cell? ⟨rp,9,none⟩=some (.slice ro n rc):=((Below.refl w2.heap.size w2).alloc (zzl _) _).cell l2 |>.trans d9
              clear hrun hE)
 go_region_law (refine zS (by kernel_rfl) (.tmp 48) (.tmp 57) 115 115 (by kernel_rfl) (by kernel_rfl) (.slice ro n rc) (.slice (some ⟨w2.heap.size,0,none⟩) 1 1) _ _ (by kernel_rfl) (by kernel_rfl) (qb HR) ?_)
 all_goals
  (try simp only[Exit.then])
  (try go_simp)
  (try go_wp2)
  (first | go_end0 | refine bodyPost_ret (results_none rfl _ _ _) rfl ?_)
  exact⟨⟨_,rfl⟩,qb HE⟩
end
end Go.Proofs.YtfnockbgkcgpkaaGreat
