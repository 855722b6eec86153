import Derived.Test.YtfnockbgkcgpkaaGreatTkae
import Derived.Lib.Overlaps
import Derived.Laws.Externs
set_option linter.all false
set_option maxRecDepth 100000
set_option maxHeartbeats 16000000
namespace Go.Proofs.YtfnockbgkcgpkaaGreat
open Go.RowKit Go.Proofs.Panes
theorem QB {P:Program}{w:World}{ops:Array Oper}{rest:List Oper}{o:Oper}{a:Act}{Q:Exit->Act->World->Prop}(hgd:o.guard=none)(s x:Operand)(t:TypeId)
 (ho:o.op=.call {callee:=.builtin .append,args:=#[s,x],argTypes:=#[t,t]}) (v u r:Value) (w':World) (hs:a.eval s=v) (hx:a.eval x=u) (hrun:∀ ty,(Builtin.append_ #[t,t] ty #[v,u]).run P w=.ok r w')
 (h:wpList P ops Q rest (a.put o.dst r) w'):wpList P ops Q (o::rest) a w:=by
 refine wpList_plain hgd fun K hK=>?_;unfold Oper.wp;simp[execOp,ho,resolve,invoke,builtin,hs,hx,hrun,Result.andThen];exact hK _ _ h
theorem Zy (g o t:Nat):(⟨g,o,none⟩:Addr).add t=⟨g,o+t,none⟩:=by unfold Addr.add;split<;>simp_all
theorem Yt {w:World}{base g cap vb:Nat}{l:List P2}{p:P2}(hO:qN w base 173 (.slice (some ⟨g,0,none⟩) l.length cap) l)(h1:yN l)(hp:p.1.oneCell'=true/\p.2.oneCell'=true)(hv:w.heap[vb]?=some (.cells #[p.1,p.2] 173 (0,0)))(hvg:vb≠g)(i:Nat)(hi:i<=l.length)(hc:l.length<cap)(hl:l.length<=1000)(D:List P2)(hD:D=l.take i++p::l.drop i) :
 Calls Tryz.prog 157 #[.slice (some ⟨g,0,none⟩) l.length cap,.int .i64 (i:Int),.slice (some ⟨vb,0,none⟩) 1 1] w fun e w'=>
  e=.returned (.slice (some ⟨g,0,none⟩) D.length cap)/\qN w' base 173 (.slice (some ⟨g,0,none⟩) D.length cap) D/\But (fun k=>k=g) w w':=by
 obtain⟨R,hR,hcl,_,hb,hm⟩:=hO.row;obtain⟨n,hn⟩:∃ n,n=l.length:=⟨_,rfl⟩;obtain⟨L,hL⟩:∃ L,L=l++R:=⟨_,rfl⟩;rw[<-hL] at hR hcl;rw[<-hn];have hT:L.take n=l:=(by rw[hL,hn];simp);have hDl:D.length=n+1:=(by rw[hD];simp;omega);obtain⟨i0',hi',hz0,hz1,hz2⟩:=info_parts QW;have hsz:(Tryz.prog.info? 173).map (·.size)=some 2:=(by rw[hi'];simp[hz1]);have hvc:∀ (u:World),u.heap[vb]?=some (.cells #[p.1,p.2] 173 (0,0))->∀ (t:Nat)(v:Value),(c2 [p])[t]?=some v->u.cell? ((⟨vb,0,none⟩:Addr).add t)=some v:=by
  intro u hu t v ht;rw[Zy,Nat.zero_add,qe hu];simpa[c2] using ht
 have ho1:yN [p]:=fun q hq=>by simp at hq;subst hq;exact hp
 have i0:(0:Int)<=(i:Int):=(by omega);have i1:(i:Int)<=(n:Int):=(by omega);have i2:(n:Int)<=(cap:Int):=by omega
 by_cases hin:i=n
 ·have hDn:D=l++[p]:=(by rw[hD,hin,hn];simp);obtain⟨w1,hw1⟩:∃ w1,w1=w.setRow g (c2 (L.take n++[p]++L.drop (n+1))).toArray:=⟨_,rfl⟩;have hAp:∀ ty,(Builtin.append_ #[170,170] ty #[.slice (some ⟨g,0,none⟩) n cap,.slice (some ⟨vb,0,none⟩) 1 1]).run Tryz.prog w=.ok (.slice (some ⟨g,0,none⟩) (n+1) cap) w1:=fun ty=>by
   rw[hw1];exact jv Tryz.underlying170 hsz hR hcl rfl (hvc w hv) (by omega) ho1
  have hr1:vi w1 g 173 (L.take n++[p]++L.drop (n+1)):=(by rw[hw1];exact setRow_heap _ _ _ _ _ _ hR);rw[hT,List.append_assoc,<-List.append_assoc,<-hDn] at hr1;have hown:qN w1 base 173 (.slice (some ⟨g,0,none⟩) D.length cap) D:=kQ hr1 (by rw[List.length_append,hDl,List.length_drop,hcl];omega) hb hm;have hbut:But (fun k=>k=g) w w1:=(by rw[hw1];exact⟨rfl,rfl,rfl,by simp,fun k _ hk=>setRow_other _ _ _ _ hk⟩);have HO:=qg hown;have HB:=qg hbut;have HAp:=qg hAp;have HDl:=qg hDl;subst hin;clear hown hbut hAp hDl hr1 hw1 hDn hD hT hvc ho1 hR hv h1 hO hi' hz0 hz1 hz2 hsz hL hn hp
  go_enter Tryz.func157,Tryz.ntmps157
  go_wp2_with (at_builtin;refine QB rfl _ _ 170 rfl _ _ _ _ rfl rfl (qb HAp) ?_)
  go_ret;exact⟨by rw[qb HDl];rfl,qb HO,qb HB⟩
 ·have hlt:i<n:=(by omega);have hov:∀ lb cb,(callFunc 168 #[.slice (some ⟨vb,0,none⟩) 1 1,.slice (some ⟨g,(i+1)*2,none⟩) lb cb]).run Tryz.prog w=.ok (.value (.bool false)) w:=fun lb cb=>by
   rw[run_callFunc_extern Tryz.func168 (by kernel_rfl) (by kernel_rfl) (by kernel_rfl) (e:=Extern.SlicesOverlaps.overlaps #[170,170] #[4]) (by kernel_rfl),
    Lib.run_overlaps_apart w 170 4 173 Tryz.underlying170 2 (fun w=>by rfl) ⟨vb,0,none⟩ ⟨g,(i+1)*2,none⟩ 1 1 lb cb hvg 173 173 2 (cap*2) (by simp[World.shape?,hv]) (by simp[World.shape?,hR,zV,hcl]) (by omega) (qj hv _) (qj hv _)]
   rfl
  obtain⟨X,hX⟩:∃ X,X=l.drop i:=⟨_,rfl⟩;have hXl:X.length=n-i:=(by rw[hX,List.length_drop];omega);have hX1:yN X:=fun q hq=>h1 q (List.mem_of_mem_drop (hX ▸ hq));obtain⟨L1,hL1⟩:∃ L1,L1=L.take (i+1)++X++L.drop (i+1+X.length):=⟨_,rfl⟩;obtain⟨w1,hw1⟩:∃ w1,w1=w.drew.setRow g (c2 L1).toArray:=⟨_,rfl⟩;have hcp1:∀ dl dc sl sc ty,Nat.min sl dl=n-i->(Builtin.copy_ #[170,170] ty #[.slice (some ⟨g,(i+1)*2,none⟩) dl dc,.slice (some ⟨g,i*2,none⟩) sl sc]).run Tryz.prog w.drew=.ok (goInt X.length) w1:=fun dl dc sl sc ty hmin=>by
   rw[hw1,hL1];refine Qe (w:=w.drew) Tryz.underlying170 hsz hR (by rw[hXl,hmin]) ?_ (by rw[hXl,hcl];omega) hX1;intro t v ht;rw[Zy];show w.cell? _=_;rw[qe hR,List.getElem?_toArray];have htl:t<(c2 X).length:=(zzg ht).1;rw[zV,hXl] at htl;rw[hL,zs,List.getElem?_append_left (by rw[zV];omega)];rw[hX,<-yH,List.getElem?_drop] at ht;exact ht
  have hr1:vi w1 g 173 L1:=(by rw[hw1];exact setRow_heap w.drew g _ _ _ _ hR);have hv1:w1.heap[vb]?=some (.cells #[p.1,p.2] 173 (0,0)):=(by rw[hw1];exact (setRow_other _ _ _ _ hvg).trans hv);have hl1:L1.length=cap:=(by rw[hL1];simp[hXl,hcl];omega);obtain⟨w2,hw2⟩:∃ w2,w2=w1.setRow g (c2 (L1.take i++[p]++L1.drop (i + [p].length))).toArray:=⟨_,rfl⟩;have hcp2:∀ dl dc ty,1<=dl->(Builtin.copy_ #[170,170] ty #[.slice (some ⟨g,i*2,none⟩) dl dc,.slice (some ⟨vb,0,none⟩) 1 1]).run Tryz.prog w1=.ok (goInt [p].length) w2:=fun dl dc ty hdl=>by
   rw[hw2];exact Qe Tryz.underlying170 hsz hr1 (by show 1=_;simp only[Nat.min_def];split<;>omega) (hvc w1 hv1) (by rw[hl1];simp;omega) ho1
  have hr2:vi w2 g 173 (L1.take i++[p]++L1.drop (i+1)):=(by rw[hw2];exact setRow_heap _ _ _ _ _ _ hr1);have e1:L1.take i=l.take i:=by
   rw[hL1,List.append_assoc,List.take_append_of_le_length (by rw[List.length_take,hcl];omega),List.take_take,Nat.min_eq_left (by omega),<-hT,List.take_take,Nat.min_eq_left (by omega)]
  have e2:L1.drop (i+1)=X++L.drop (i+1+X.length):=by
   rw[hL1,List.append_assoc,List.drop_append_of_le_length (by rw[List.length_take,hcl];omega),List.drop_of_length_le (by rw[List.length_take];omega),List.nil_append]
  have hown:qN w2 base 173 (.slice (some ⟨g,0,none⟩) D.length cap) D:=by
   rw[e1,e2,<-List.append_assoc,hX,show l.take i++[p]++l.drop i=D by rw[hD];simp] at hr2;exact kQ hr2 (by rw[List.length_append,hDl,List.length_drop,hcl,<-hX,hXl];omega) hb hm
  have hbut:But (fun k=>k=g) w w2:=by
   rw[hw2,hw1];exact (show But (fun k=>k=g) w (w.drew.setRow g (c2 L1).toArray) from⟨rfl,rfl,rfl,by simp,fun k _ hk=>setRow_other _ _ _ _ hk⟩).trans ⟨rfl,rfl,rfl,by simp,fun k _ hk=>setRow_other _ _ _ _ hk⟩
  have HO:=qg hown;have HB:=qg hbut;have HDl:=qg hDl;have Hcp1:=qg hcp1;have Hcp2:=qg hcp2;have hww:IntKind.i64.wrap ((n:Int)+1)=((n+1:Nat):Int):=(by rw[IntKind.wrap_i64];omega);have hwi:IntKind.i64.wrap ((i:Int)+1)=((i+1:Nat):Int):=(by rw[IntKind.wrap_i64];omega);have j1:((n+1:Nat):Int)<=(cap:Int):=(by omega);have j2:((i:Int) == (n:Int))=false:=(by simp;omega);have j3:((i+1:Nat):Int)<=((n+1:Nat):Int):=(by omega);have j4:(i:Int)<=((n+1:Nat):Int):=(by omega);have j5:(0:Int)<=((i+1:Nat):Int):=(by omega);have j6:(0:Int)<=((n+1:Nat):Int):=(by omega);have j7:¬cap=i+1:=(by omega);have j8:¬cap=i:=(by omega);have ja:(0:Int)<=(i:Int)+1:=(by omega);have jb:(i:Int)+1<=(n:Int)+1:=(by omega);have jc:(i:Int)<=(n:Int)+1:=(by omega);have j9:¬((n+1:Nat):Int) > (cap:Int):=(by omega);have hmin:Nat.min (n+1-i) (n-i)=n-i:=(by simp only[Nat.min_def];split<;>omega);clear hown hbut hcp1 hcp2 hr1 hr2 hv1 hw1 hw2 hL1 hX1 hXl hX e1 e2 hDl hD hT hvc ho1 hR hv h1 hO hi' hz0 hz1 hz2 hsz hL hp hl1 hn hl hc hi
  go_enter Tryz.func157,Tryz.ntmps157
  go_wp2_with (simp only[hov])
  go_region_law (refine Xd (by kernel_rfl) (.tmp 73) (.tmp 76) 170 (by kernel_rfl) (.slice (some ⟨g,(i+1)*2,none⟩) (n-i) (cap-(i+1))) (.slice (some ⟨g,i*2,none⟩) (n+1-i) (cap-i)) _ _ (by kernel_rfl) (by kernel_rfl) (fun ty=>(qb Hcp1) _ _ _ _ ty hmin) ?_)
  simp only[Exit.then];go_simp;have hc2:=(qb Hcp2) (n+1-i) (cap-i) 3 (by omega);go_wp2;go_ret;exact⟨by rw[qb HDl];rfl,qb HO,qb HB⟩
end Go.Proofs.YtfnockbgkcgpkaaGreat
