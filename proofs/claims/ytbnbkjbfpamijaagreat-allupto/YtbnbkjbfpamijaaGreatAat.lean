import Derived.Test.YtbnbkjbfpamijaaGreatAas
set_option linter.all false
set_option maxRecDepth 100000
set_option maxHeartbeats 0
namespace Go.Proofs.YtbnbkjbfpamijaaGreat
open Go.RowKit Go.Proofs.Panes
section
variable {U:Nat->Prop}{w w1 w':World}{rp:Nat}{d d' d'':Dc}{v:Dv}{tI:List Value}
def YD (f:gT U w rp d v tI)(Y:∀ c,U c->c<w.heap.size)(j:Nat)(a:gt)(t:Option Addr)(K u:Nat)(h1:a.kind=1)(Z:iq a.x)(a0:iq a.y)(a8:d.l.length<16):Calls Tryz.prog 121 #[.pointer (some ⟨rp,0,none⟩),.int .i64 (j:Int),.agg #[.int .i64 a.kind,.int .i64 a.iV,.int .i64 a.x,.int .i64 a.y,.int .i64 a.w,.int .i64 a.h,.slice t K u,.int .i64 a.mark]] w fun b w'=>(∃ a9,b=.returned a9)/\jX U w rp v (qO d j a) w':=by
 obtain⟨n,r⟩:∃ n:gv,n=⟨(j:Int),a.iV,a.x,a.y,0,0,[],0,0,0⟩:=⟨_,rfl⟩;have a1:qO d j a={d with l:=d.l++[n]}:=(by unfold qO;rw[ah (by omega),an h1,r]);rw[a1,h1];have C:=yn f;obtain⟨x,y,z⟩:=qr f.sf.own;obtain⟨g,D⟩:=zx d.l.length;rw[C,<-D] at z;obtain⟨w1,E⟩:∃ w1:World,w1=w.alloc (.cells #[.int .i64 1,.int .i64 a.iV,.int .i64 a.x,.int .i64 a.y,.int .i64 a.w,.int .i64 a.h,.slice t K u,.int .i64 a.mark] 52):=⟨_,rfl⟩;have F:Below w.heap.size w w1:=(by rw[E];exact (aa _ w).alloc (zzl _) _);have G:w1.heap[w.heap.size]?=some (.cells #[.int .i64 1,.int .i64 a.iV,.int .i64 a.x,.int .i64 a.y,.int .i64 a.w,.int .i64 a.h,.slice t K u,.int .i64 a.mark] 52):=(by rw[E];exact qt _ _ _ rfl);have L:=f.below F;have c8:=qh f.nS;have b0:=qh G;have a2:∀ c,w.heap.size<=c->¬U c:=fun c o b=>by have:=Y c b;omega
 obtain⟨c9,d0,-⟩:=zzc G;have b1:Hid (Calls Tryz.prog 140 #[.pointer (some ⟨rp,0,none⟩),.int .i64 (j:Int),.int .i64 a.iV] w1 fun b e=>∃ c:Int,b=.returned (.int .i64 c)/\(e.cell? ⟨rp,9,none⟩=some (.slice x g y)/\rp<e.heap.size/\w.heap.size<e.heap.size/\e.cell? ⟨w.heap.size,0,none⟩=some (.int .i64 1)/\e.cell? ⟨w.heap.size,1,none⟩=some (.int .i64 a.iV)/\e.cell? ⟨w.heap.size,2,none⟩=some (.int .i64 a.x)/\e.cell? ⟨w.heap.size,3,none⟩=some (.int .i64 a.y))/\
  ∃ k q m,(Builtin.append_ #[115,115] 115 #[.slice x g y,.slice (some ⟨e.heap.size,0,none⟩) 1 1]).run Tryz.prog (e.alloc (.cells #[.int .i64 (j:Int),.int .i64 a.iV,.int .i64 a.x,.int .i64 a.y,.int .i64 0,.int .i64 0,.slice none 0 0,.int .i64 0,.int .i64 0,.int .i64 0] 128)).drew=.ok (.slice (some ⟨k,0,none⟩) (g+1) q) m/\m.cell? ⟨rp,9,none⟩=some (.slice x g y)/\(∀ M,m.frozen? ⟨rp,M,none⟩=false)/\jX U w rp v {d with l:=d.l++[n]} (m.setCell ⟨rp,9,none⟩ (.slice (some ⟨k,0,none⟩) (g+1) q))):=by
  refine (L.find (j:Int) a.iV).mono ?_;rintro b e ⟨⟨c,rfl,-⟩,H⟩;have N:=L.below H;have I:e.heap[w.heap.size]?=_:=(H.block _ b0).trans G;have d1:=F.size;have d2:=H.size;refine⟨c,rfl,⟨by rw[N.c9,z],qh N.nS,by omega,qe I 0,qe I 1,qe I 2,qe I 3⟩,?_⟩;obtain⟨s,O⟩:∃ s:World,s=(e.alloc (.cells #[.int .i64 (j:Int),.int .i64 a.iV,.int .i64 a.x,.int .i64 a.y,.int .i64 0,.int .i64 0,.slice none 0 0,.int .i64 0,.int .i64 0,.int .i64 0] 128)).drew:=⟨_,rfl⟩;have Q:Below e.heap.size e s:=(by rw[O];exact ((aa _ e).alloc (zzl _) _).drew);have b2:s.heap[e.heap.size]?=some (.cells #[.int .i64 (j:Int),.int .i64 a.iV,.int .i64 a.x,.int .i64 a.y,.int .i64 0,.int .i64 0,.slice none 0 0,.int .i64 0,.int .i64 0,.int .i64 0] 128):=(by rw[O];exact qt e _ _ rfl);have a3:=N.below Q;obtain⟨b3,b4,b5,b6,b7⟩:=aZ QV;obtain⟨d3,m,A,R,b8,-,b9⟩:=cE (P:=Tryz.prog) (w:=s) 0 115 115 128 b3 _ 10 96 Tryz.underlying115 b4 b5 b6 b7 rfl (by decide) v.sv _ _ a3.sf.own ⟨e.heap.size,0,none⟩ 1 1 [.int .i64 (j:Int),.int .i64 a.iV,.int .i64 a.x,.int .i64 a.y,.int .i64 0,.int .i64 0,.slice none 0 0,.int .i64 0,.int .i64 0,.int .i64 0] rfl (xT b2) (by simp[Value.oneCell']) (by unfold maxLen;omega) (by omega) (aj _);obtain⟨k,q,a4⟩:=jH R (by omega);rw[C,<-D] at a4 R;subst a4;have a5:gp (fun c=>v.sv.ownBlock=some c) s m:=.tJ b8 (fun c b=>b);have a6:=qq f.sf.own f.nS (by decide);have S:=a5.heap a3.nS a6;have d4:=Q.size;rw[z,O] at A;refine⟨k,q,m,A,by rw[qe S 9];show some v.sv=_;rw[z],fun M=>qj S M,?_⟩;have T:gp (fun c=>c=rp\/v.sv.ownBlock=some c) w (m.setCell ⟨rp,9,none⟩ (.slice (some ⟨k,0,none⟩) (g+1) q)):=((((gp.aD F).trans (.aD H)).trans (.aD Q)).trans (a5.wide (fun c _ b=>.inr b))).setCell (p:=⟨rp,9,none⟩) (.inl (.inl rfl)) _;have V:∀ c,(Value.slice (some ⟨k,0,none⟩) (g+1) q).ownBlock=some c->v.sv.ownBlock=some c\/w.heap.size<=c:=fun c o=>by
   rcases b9 with h | h
   ·exact .inl (by rw[<-h];exact o)
   ·rw[o] at h;have:=aA h;exact .inr (by omega)
  have c0:¬k=rp:=fun b=>by
   rcases V k rfl with h | h
   ·exact a6 (by rw[<-b];exact h)
   ·omega
  have J:(d.l++[n]).zip (tI++[.slice none 0 0])=d.l.zip tI++[(n,.slice none 0 0)]:=List.zip_append f.pl.symm;have c1:(m.setCell ⟨rp,9,none⟩ (.slice (some ⟨k,0,none⟩) (g+1) q)).ownsRow 0 128 10 (.slice (some ⟨k,0,none⟩) (g+1) q) ((d.l++[n]).zip (tI++[.slice none 0 0])).length (qQ ((d.l++[n]).zip (tI++[.slice none 0 0]))):=(by have W:((d.l++[n]).zip (tI++[.slice none 0 0])).length=g+1:=(by rw[J,ae,C,<-D];rfl);have X:qQ ((d.l++[n]).zip (tI++[.slice none 0 0]))=qQ (d.l.zip tI)++[.int .i64 (j:Int),.int .i64 a.iV,.int .i64 a.x,.int .i64 a.y,.int .i64 0,.int .i64 0,.slice none 0 0,.int .i64 0,.int .i64 0,.int .i64 0]:=(by rw[J,jO,r];rfl);rw[W,X];exact qi R ((gp.refl (fun c=>c=rp) m).setCell (p:=⟨rp,9,none⟩) (.inl rfl) _) (fun c o b=>by cases o;exact c0 b));have c2:∀ c,U c->¬(c=rp\/v.sv.ownBlock=some c):=fun c o b=>by
   rcases b with b | b
   ·exact f.tL.1 (b ▸ o)
   ·exact f.tL.2.2 c b o
  refine⟨⟨.slice (some ⟨k,0,none⟩) (g+1) q,v.wv,tI++[.slice none 0 0],f.newl T (qp (i:=9) S _) ⟨c1,fun h B=>?_,fun h B=>?_⟩ (by rw[ae,ae,f.pl];rfl) (fun c o b=>?_) (by rw[ae];simp;omega),V,fun c b=>.inl b⟩,T.wide fun c _ b=>?_⟩
  ·rw[J] at B;rcases al.1 B with b | b
   ·obtain⟨t,u,W,X⟩:=f.sf.px h b;exact⟨t,u,W,X.but T c2⟩
   ·rw[ay] at b;subst b;refine⟨none,0,by rw[r];rfl,?_⟩;rw[r];exact⟨none,0,rfl,zzl _,by simp[maxLen],fun f=>absurd rfl f⟩
  ·rw[J] at B;rcases al.1 B with b | b
   ·exact f.sf.ok h b
   ·rw[ay] at b;subst b;rw[r];exact⟨by simp,by simp,by simp,by simp,by simp,Z,a0⟩
  ·rcases V c o with h | h
   ·exact f.tL.2.2 c h b
   ·exact a2 c h b
  ·rcases b with b | b
   ·exact .inl (.inl b)
   ·exact .inr (.inl b)
 have c3:=qg E;have d5:g<16:=(by omega);have d6:IntKind.i64.wrap ((g:Int)-1)=(g:Int)-1:=(by rw[af];omega);clear a1 C z E F G L a2 f Y h1 Z a0 a8 D r;go_enter Tryz.func121,Tryz.ntmps121
 go_wp2_with (rw[<-qb c3];go_at_call 140;refine (qb b1).mono ?_;rintro b e ⟨c,rfl,⟨c4,c5,d7,d8,d9,e0,e1⟩,k,q,m,A,e2,e3,a7⟩;have c6:=qg A;have c7:=qg a7;have e4:(e.alloc (.cells #[.int .i64 (j:Int),.int .i64 a.iV,.int .i64 a.x,.int .i64 a.y,.int .i64 0,.int .i64 0,.slice none 0 0,.int .i64 0,.int .i64 0,.int .i64 0] 128)).cell? ⟨rp,9,none⟩=some (.slice x g y):=((aa e.heap.size e).alloc (zzl _) _).cell c5 |>.trans c4;clear A a7)
 go_region_law (refine zS (by kernel_rfl) (.tmp 48) (.tmp 57) 115 115 (by kernel_rfl) (by kernel_rfl) (.slice x g y) (.slice (some ⟨e.heap.size,0,none⟩) 1 1) _ _ (by kernel_rfl) (by kernel_rfl) (qb c6) ?_)
 all_goals
  (try simp only[Exit.then])
  (try go_simp)
  (try go_wp2)
  (first | go_end0 | refine bV (ed rfl _ _ _) rfl ?_)
  exact⟨⟨_,rfl⟩,qb c7⟩
end
end Go.Proofs.YtbnbkjbfpamijaaGreat
