import Derived.Test.YtfnockbgkcgpkaaGreatTkal
import Derived.Test.YtfnockbgkcgpkaaGreatTkam
set_option linter.all false
set_option maxRecDepth 100000
set_option maxHeartbeats 16000000
namespace Go.Proofs.YtfnockbgkcgpkaaGreat
open Go.RowKit Go.Proofs.Panes
def za0 (s:Srf)(pv:Value):Array Value:=#[.int .i64 s.x,.int .i64 s.y,.int .i64 s.w,.int .i64 s.h,pv,.int .i64 s.dx,.int .i64 s.dy,.int .i64 s.left]
abbrev yL (w:World)(b:Nat)(s:Srf)(pv:Value):Prop:=w.heap[b]?=some (.cells (za0 s pv) 236 (0,0))
theorem ZO (w:World)(a b:Nat):(w.drewN a).drewN b=w.drewN (a+b):=by simp[World.drewN,Nat.add_assoc]
theorem za2 {U:Nat->Prop}{w:World}{b:Nat}{s:Srf}{pv:Value}(hb:yL w b s pv)(hs:xq s)(hR:RdN U w pv s.px)(c r:Int)(hc:0<=c/\c<=1000)(hr:0<=r/\r<=1000) :
 Calls Tryz.prog 122 #[.pointer (some ⟨b,0,none⟩),.int .i64 c,.int .i64 r] w fun e w'=>e=.returned (.int .i64 (zC s c r))/\∃ q,w'=w.drewN q:=by
 obtain⟨w0,w8,h0,h8,hpx,xb,yb⟩:=hs;have e1:IntKind.i64.wrap (c-s.x)=c-s.x:=(by rw[IntKind.wrap_i64];omega);have e2:IntKind.i64.wrap (r-s.y)=r-s.y:=(by rw[IntKind.wrap_i64];omega);have e5:IntKind.i64.wrap (s.w-1)=s.w-1:=(by rw[IntKind.wrap_i64];omega);have e6:IntKind.i64.wrap (s.h-1)=s.h-1:=(by rw[IntKind.wrap_i64];omega);have c0:w.cell? ⟨b,0,none⟩=some (.int .i64 s.x):=qe hb 0;have c1:w.cell? ⟨b,1,none⟩=some (.int .i64 s.y):=qe hb 1;have c2:w.cell? ⟨b,2,none⟩=some (.int .i64 s.w):=qe hb 2;have c3:w.cell? ⟨b,3,none⟩=some (.int .i64 s.h):=qe hb 3;have c4:w.cell? ⟨b,4,none⟩=some pv:=qe hb 4
 by_cases hcov:xE s c r=true
 ·have hb:=hcov;unfold xE at hb;simp only[Bool.and_eq_true,decide_eq_true_eq] at hb;obtain⟨⟨⟨b1,b2⟩,b3⟩,b4⟩:=hb;obtain⟨m1,m2,m3,m4⟩:=mul8 b2 b4 b1 b3 h8 w8;obtain⟨j,hj⟩:∃ j:Nat,(r-s.y)*s.w+(c-s.x)=j:=⟨((r-s.y)*s.w+(c-s.x)).toNat,by omega⟩;have e3:IntKind.i64.wrap ((r-s.y)*s.w)=(r-s.y)*s.w:=(by rw[IntKind.wrap_i64];omega);have e4:IntKind.i64.wrap ((r-s.y)*s.w+(c-s.x))=(j:Int):=(by rw[IntKind.wrap_i64];omega);have hjl:j<s.px.length:=(by omega);obtain⟨z,hz⟩:∃ z,s.px[j]?=some z:=⟨s.px[j],by simp[hjl]⟩;have ep:zC s c r=z:=(by unfold zC;rw[if_pos hcov,hj,Int.toNat_natCast,List.getD_eq_getElem?_getD,hz];rfl);rw[ep];obtain⟨ao,cap,rfl,h1,h2,h3⟩:=hR;obtain⟨pb,po,rfl,_,_,qF⟩:=h3 (by intro e;rw[e] at hjl;simp at hjl);have cz:=qF j z hz;have i0:(0:Int)<=(j:Int):=(by omega);have i1:(j:Int)<(s.px.length:Int):=(by omega);have d1:(decide (0<=c-s.x)&&decide (c-s.x<=s.w-1))=true:=(by simp;omega);have d2:(decide (0<=r-s.y)&&decide (r-s.y<=s.h-1))=true:=(by simp;omega);clear hcov b1 b2 b3 b4 m1 m2 m3 m4 hj hjl hz ep h1 h2 h3 qF xb yb w0 w8 h0 h8 hpx hb hc hr
  go_enter Tryz.func122,Tryz.ntmps122
  go_wp2
  go_quiet (fail)
  go_wp2_with (go_at_call 75;refine (zk _ _ _ _).mono ?_;rintro e w' ⟨rfl,rfl⟩;first | rw[d1] | rw[d2])
  go_quiet (fail)
  go_wp2;go_ret;exact⟨rfl,⟨_,ZO _ _ _⟩⟩
 ·have ep:zC s c r=0:=(by unfold zC;rw[if_neg hcov]);rw[ep];have hno:¬(0<=c-s.x/\c-s.x<=s.w-1)\/((0<=c-s.x/\c-s.x<=s.w-1)/\¬(0<=r-s.y/\r-s.y<=s.h-1)):=by
   unfold xE at hcov;simp only[Bool.and_eq_true,decide_eq_true_eq] at hcov;omega
  rcases hno with n1 | ⟨n1,n2⟩
  ·have d1:(decide (0<=c-s.x)&&decide (c-s.x<=s.w-1))=false:=(by simp only[Bool.and_eq_false_iff,decide_eq_false_iff_not];omega);clear n1 hcov ep w0 w8 h0 h8 hpx hb hR hc hr xb yb
   go_enter Tryz.func122,Tryz.ntmps122
   go_wp2
   go_quiet (fail)
   go_wp2_with (go_at_call 75;refine (zk _ _ _ _).mono ?_;rintro e w' ⟨rfl,rfl⟩;first | rw[d1] | rw[d2])
   go_ret;exact⟨rfl,⟨_,rfl⟩⟩
  ·have d1:(decide (0<=c-s.x)&&decide (c-s.x<=s.w-1))=true:=(by simp;omega);have d2:(decide (0<=r-s.y)&&decide (r-s.y<=s.h-1))=false:=(by simp only[Bool.and_eq_false_iff,decide_eq_false_iff_not];omega);clear n1 n2 hcov ep w0 w8 h0 h8 hpx hb hR hc hr xb yb
   go_enter Tryz.func122,Tryz.ntmps122
   go_wp2
   go_quiet (fail)
   go_wp2_with (go_at_call 75;refine (zk _ _ _ _).mono ?_;rintro e w' ⟨rfl,rfl⟩;first | rw[d1] | rw[d2])
   go_ret;exact⟨rfl,⟨_,rfl⟩⟩
theorem Xy {w:World}{b:Nat}{s:Srf}{pv:Value}(hb:yL w b s pv)(x y:Int) :
 Calls Tryz.prog 136 #[.pointer (some ⟨b,0,none⟩),.agg #[.int .i64 x,.int .i64 y]] w fun e w'=>e=.returned (.bool (!(s.x == x&&s.y == y)))/\yL w' b {s with x:=x,y:=y} pv/\But (fun k=>k=b) w w':=by
 have c0:w.cell? ⟨b,0,none⟩=some (.int .i64 s.x):=qe hb 0;have c1:w.cell? ⟨b,1,none⟩=some (.int .i64 s.y):=qe hb 1;have f0:∀ j,w.frozen? ⟨b,j,none⟩=false:=fun j=>qj hb j;have lb:b<w.heap.size:=qh hb;have HB:=qg hb;clear hb
 go_enter Tryz.func136,Tryz.ntmps136
 go_wp2
 all_goals go_ret
 all_goals
  refine⟨by simp_all,?_,?_⟩
  ·have h1:=qp (i:=0) (qb HB) (.int .i64 x);have h2:=qp (i:=1) h1 (.int .i64 y);exact qx (qx h2 _) _
  ·exact ((((But.refl (fun k=>k=b) w).setCell (p:=⟨b,0,none⟩) (.inl rfl) _).setCell (p:=⟨b,1,none⟩) (.inl rfl) _).alloc _).alloc _
def zrc:Rc:=⟨0,0,0,0⟩
def yQ (r:Rc):Value:=.agg #[.int .i64 r.x,.int .i64 r.y,.int .i64 r.w,.int .i64 r.h]
structure ScM (w:World)(sb mb:Nat)(ov bv:Value)(L:List Ke)(clock:Nat):Prop where
 blk:w.heap[sb]?=some (.cells #[.map (some mb),ov,bv] 176 (0,0))
 map:w.heap[mb]?=some (.map (L.map ke).toArray clock)
theorem ScM.but {S:Nat->Prop}{w w':World}{sb mb:Nat}{ov bv:Value}{L:List Ke}{clock:Nat}(h:ScM w sb mb ov bv L clock)(hb:But S w w')(h1:¬S sb)(h2:¬S mb):ScM w' sb mb ov bv L clock:=
 ⟨hb.heap h.blk h1,hb.heap h.map h2⟩
theorem YL {w:World}{sb mb:Nat}{ov bv:Value}{L:List Ke}{clock:Nat}(h:ScM w sb mb ov bv L clock)(c n:Int)(r:Rc)
 (hr:(atE c n L=.pointer none/\r=zrc)\/∃ b s pv,atE c n L=.pointer (some ⟨b,0,none⟩)/\yL w b s pv/\r=⟨s.x,s.y,s.w,s.h⟩) :
 Calls Tryz.prog 133 #[.pointer (some ⟨sb,0,none⟩),zZ c n] w fun e w'=>e=.returned (yQ r)/\Below w.heap.size w w':=by
 have c0:w.cell? ⟨sb,0,none⟩=some (.map (some mb)):=qe h.blk 0;have l1:sb<w.heap.size:=qh h.blk;have hlk:∀ k,(Instr.lookup 174 (.map (some mb)) (.agg #[.int .i64 c,.int .i64 n]) false).run Tryz.prog ((((w.alloc (.cells #[.int .i64 c,.int .i64 n] 173)).alloc (.cells #[.int .i64 0,.int .i64 0,.int .i64 0,.int .i64 0] 46))).drewN k)=.ok (atE c n L) ((((w.alloc (.cells #[.int .i64 c,.int .i64 n] 173)).alloc (.cells #[.int .i64 0,.int .i64 0,.int .i64 0,.int .i64 0] 46))).drewN k):=
  fun k=>zn (w:=World.drewN _ k) (qx (qx h.map _) _) c n
 unfold zZ
 rcases hr with ⟨ha,rfl⟩ | ⟨b,s,pv,ha,hs,rfl⟩
 ·rw[ha] at hlk;clear h ha
  go_enter Tryz.func133,Tryz.ntmps133
  go_wp2
  go_quiet (fail)
  go_wp2;refine bodyPost_ret (v:=yQ zrc) (by simp[results,Tryz.results133,go_sem,yQ,zrc]) rfl ⟨rfl,?_⟩;have hB:=below_drewN (((Below.refl _ w).alloc (zzl _) (.cells #[.int .i64 c,.int .i64 n] 173)).alloc (by simp) (.cells #[.int .i64 0,.int .i64 0,.int .i64 0,.int .i64 0] 46)) nq;exact (((hB.setCell (p:=⟨w.heap.size+1,0,none⟩) (Nat.le_succ _) _).setCell (p:=⟨w.heap.size+1,1,none⟩) (Nat.le_succ _) _).setCell (p:=⟨w.heap.size+1,2,none⟩) (Nat.le_succ _) _).setCell (p:=⟨w.heap.size+1,3,none⟩) (Nat.le_succ _) _
 ·rw[ha] at hlk;have d0:w.cell? ⟨b,0,none⟩=some (.int .i64 s.x):=qe hs 0;have d1:w.cell? ⟨b,1,none⟩=some (.int .i64 s.y):=qe hs 1;have d2:w.cell? ⟨b,2,none⟩=some (.int .i64 s.w):=qe hs 2;have d3:w.cell? ⟨b,3,none⟩=some (.int .i64 s.h):=qe hs 3;have l2:b<w.heap.size:=qh hs;clear h ha hs
  go_enter Tryz.func133,Tryz.ntmps133
  go_wp2
  go_quiet (fail)
  go_wp2;have hB:Below w.heap.size w (((w.alloc (.cells #[.int .i64 c,.int .i64 n] 173)).alloc (.cells #[.int .i64 0,.int .i64 0,.int .i64 0,.int .i64 0] 46)).drewN nq):=below_drewN (((Below.refl _ w).alloc (zzl _) (.cells #[.int .i64 c,.int .i64 n] 173)).alloc (by simp) (.cells #[.int .i64 0,.int .i64 0,.int .i64 0,.int .i64 0] 46)) nq;have hN:(((w.alloc (.cells #[.int .i64 c,.int .i64 n] 173)).alloc (.cells #[.int .i64 0,.int .i64 0,.int .i64 0,.int .i64 0] 46)).drewN nq).heap[w.heap.size+1]?=some (.cells #[.int .i64 0,.int .i64 0,.int .i64 0,.int .i64 0] 46):=qt _ _ _ (by simp);have d0:=(hB.cell l2).trans d0;have d1:=(hB.cell l2).trans d1;have d2:=(hB.cell l2).trans d2;have d3:=(hB.cell l2).trans d3;generalize ((w.alloc (.cells #[.int .i64 c,.int .i64 n] 173)).alloc (.cells #[.int .i64 0,.int .i64 0,.int .i64 0,.int .i64 0] 46)).drewN nq=w1 at *;have y0:w1.cell? ⟨w.heap.size+1,0,none⟩=some (.int .i64 0):=qe hN 0;have y1:w1.cell? ⟨w.heap.size+1,1,none⟩=some (.int .i64 0):=qe hN 1;have y2:w1.cell? ⟨w.heap.size+1,2,none⟩=some (.int .i64 0):=qe hN 2;have y3:w1.cell? ⟨w.heap.size+1,3,none⟩=some (.int .i64 0):=qe hN 3;have yz:∀ t,w1.frozen? ⟨w.heap.size+1,t,none⟩=false:=qj hN;have hne:b≠w.heap.size+1:=(by omega);have HB:=qg hB;clear hB hN hlk;go_region;go_wp2;refine bodyPost_ret (v:=yQ ⟨s.x,s.y,s.w,s.h⟩) (by simp[results,Tryz.results133,go_sem,yQ,y0,y1,y2,y3]) rfl ⟨rfl,?_⟩;exact (((((qb HB).setCell (p:=⟨w.heap.size+1,0,none⟩) (Nat.le_succ _) _).setCell (p:=⟨w.heap.size+1,1,none⟩) (Nat.le_succ _) _).setCell (p:=⟨w.heap.size+1,2,none⟩) (Nat.le_succ _) _).setCell (p:=⟨w.heap.size+1,3,none⟩) (Nat.le_succ _) _).drew
end Go.Proofs.YtfnockbgkcgpkaaGreat
