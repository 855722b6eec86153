import Derived.Test.YtfnockbgkcgpkaaGreatTkan
set_option linter.all false
set_option maxRecDepth 100000
set_option maxHeartbeats 16000000
namespace Go.Proofs.YtfnockbgkcgpkaaGreat
open Go.RowKit Go.Proofs.Panes
def goS (s:Srf):Srf:=if s.left=0 then s else {s with x:=s.x+s.dx,y:=s.y+s.dy,left:=s.left-1}
def goB (s:Srf):Bool:=if s.left=0 then false else !(s.x == s.x+s.dx&&s.y == s.y+s.dy)
theorem qt8 {w:World}{b:Nat}{s:Srf}{pv:Value}(hb:yL w b s pv)(hl:0<=s.left/\s.left<=1000)(hx:-2000000000000000<=s.x+s.dx/\s.x+s.dx<=2000000000000000)(hy:-2000000000000000<=s.y+s.dy/\s.y+s.dy<=2000000000000000) :
 Calls Tryz.prog 116 #[.pointer (some ⟨b,0,none⟩)] w fun e w'=>e=.returned (.bool (goB s))/\yL w' b (goS s) pv/\But (fun k=>k=b) w w':=by
 have c0:w.cell? ⟨b,0,none⟩=some (.int .i64 s.x):=qe hb 0;have c1:w.cell? ⟨b,1,none⟩=some (.int .i64 s.y):=qe hb 1;have c5:w.cell? ⟨b,5,none⟩=some (.int .i64 s.dx):=qe hb 5;have c6:w.cell? ⟨b,6,none⟩=some (.int .i64 s.dy):=qe hb 6;have c7:w.cell? ⟨b,7,none⟩=some (.int .i64 s.left):=qe hb 7;have f0:∀ j,w.frozen? ⟨b,j,none⟩=false:=fun j=>qj hb j;have lb:b<w.heap.size:=qh hb;have e1:IntKind.i64.wrap (s.x+s.dx)=s.x+s.dx:=(by rw[IntKind.wrap_i64];omega);have e2:IntKind.i64.wrap (s.y+s.dy)=s.y+s.dy:=(by rw[IntKind.wrap_i64];omega);have e3:IntKind.i64.wrap (s.left-1)=s.left-1:=by rw[IntKind.wrap_i64];omega
 by_cases h0:s.left=0
 ·have g1:goS s=s:=(by simp[goS,h0]);have g2:goB s=false:=(by simp[goB,h0]);rw[g1,g2];have HB:=qg hb;clear hb g1 g2 hl hx hy e1 e2 e3
  go_enter Tryz.func116,Tryz.ntmps116
  go_wp2;go_ret;exact⟨rfl,qb HB,But.refl _ _⟩
 ·have g1:goS s={s with x:=s.x+s.dx,y:=s.y+s.dy,left:=s.left-1}:=(by simp[goS,h0]);have g2:goB s=!(s.x == s.x+s.dx&&s.y == s.y+s.dy):=(by simp[goB,h0]);rw[g1,g2];obtain⟨bb,hbb⟩:∃ bb,bb=!(s.x == s.x+s.dx&&s.y == s.y+s.dy):=⟨_,rfl⟩;rw[<-hbb];have HBB:=qg hbb;have hS:yL (w.setCell ⟨b,7,none⟩ (.int .i64 (s.left-1))) b {s with left:=s.left-1} pv:=qp (i:=7) hb _;have HS:=qg hS;obtain⟨w1,hw1⟩:∃ w1,w1=w.setCell ⟨b,7,none⟩ (.int .i64 (s.left-1)):=⟨_,rfl⟩;have d0:w1.cell? ⟨b,0,none⟩=some (.int .i64 s.x):=(by rw[hw1];exact qe hS 0);have d1:w1.cell? ⟨b,1,none⟩=some (.int .i64 s.y):=(by rw[hw1];exact qe hS 1);have d5:w1.cell? ⟨b,5,none⟩=some (.int .i64 s.dx):=(by rw[hw1];exact qe hS 5);have d6:w1.cell? ⟨b,6,none⟩=some (.int .i64 s.dy):=(by rw[hw1];exact qe hS 6);have hbut:But (fun k=>k=b) w w1:=(by rw[hw1];exact (But.refl (fun k=>k=b) w).setCell (p:=⟨b,7,none⟩) (.inl rfl) _);have HBut:=qg hbut;have HW1:=qg hw1;clear hb g1 g2 hl hx hy hS hbut hw1 hbb
  go_enter Tryz.func116,Tryz.ntmps116
  go_wp2;rw[<-qb HW1];rw[<-qb HW1] at HS;clear c0 c1 c5 c6 c7 f0
  go_region_with
   (first
     | (go_at_call 136
        refine (Xy (w:=w1.drew) (pv:=pv) (s:={s with left:=s.left-1}) (qb HS) _ _).mono ?_
        rintro e w2 ⟨he,hs2,hb2⟩
        rw[show (!(({s with left:=s.left-1}:Srf).x == s.x+s.dx&&({s with left:=s.left-1}:Srf).y == s.y+s.dy))=bb from (qb HBB).symm] at he
        subst he
        have HS2:=qg hs2
        have HB2:=qg hb2
        clear hs2 hb2))
  all_goals
   simp only[Exit.then];go_simp;go_wp2;go_ret;exact⟨rfl,qb HS2,(qb HBut).trans ((But.refl (fun k=>k=b) w1).drew.trans (qb HB2))⟩
end Go.Proofs.YtfnockbgkcgpkaaGreat
