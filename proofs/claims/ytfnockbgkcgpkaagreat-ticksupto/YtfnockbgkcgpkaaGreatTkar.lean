import Derived.Test.YtfnockbgkcgpkaaGreatTkap
import Derived.Test.YtfnockbgkcgpkaaGreatTkaq
set_option linter.all false
set_option maxRecDepth 100000
set_option maxHeartbeats 16000000
namespace Go.Proofs.YtfnockbgkcgpkaaGreat
open Go.RowKit Go.Proofs.Panes
def yt (k s x y w h:Int)(pv:Value)(m:Int):Value:=.agg #[.int .i64 k,.int .i64 s,.int .i64 x,.int .i64 y,.int .i64 w,.int .i64 h,pv,.int .i64 m]
abbrev bxd (w:World)(c n:Int)(k s x y W H:Int)(pv:Value)(m:Int):World:=(w.alloc (.cells #[.int .i64 c,.int .i64 n] 173)).alloc (.cells #[.int .i64 k,.int .i64 s,.int .i64 x,.int .i64 y,.int .i64 W,.int .i64 H,pv,.int .i64 m] 52)
theorem zL (w:World)(c n:Int)(k s x y W H:Int)(pv:Value)(m:Int)(q:Nat):Below w.heap.size w ((bxd w c n k s x y W H pv m).drewN q):=below_drewN (((Below.refl _ w).alloc (zzl _) _).alloc (by simp) _) q
theorem kY (w:World)(c n:Int)(k s x y W H:Int)(pv:Value)(m:Int)(q:Nat):((bxd w c n k s x y W H pv m).drewN q).heap[w.heap.size]?=some (.cells #[.int .i64 c,.int .i64 n] 173):=qx (qt w _ _ rfl) _
theorem Qz (w:World)(c n:Int)(k s x y W H:Int)(pv:Value)(m:Int)(q:Nat):((bxd w c n k s x y W H pv m).drewN q).heap[w.heap.size+1]?=some (.cells #[.int .i64 k,.int .i64 s,.int .i64 x,.int .i64 y,.int .i64 W,.int .i64 H,pv,.int .i64 m] 52):=qt _ _ _ (by simp)
theorem qw7 {C U:Nat->Prop}{w:World}{sb:Nat}{beh:Int}{l:List Srf}{mb:Nat}{ov:Value}{L:List Ke}{clock:Nat}{bk:Int->Int->Nat}{pv:Int->Int->Value}(h:Scn C U w sb beh l mb ov L clock bk pv)(hCU:∀ k,C k->¬U k){s:Srf}(hs:s∈l)(x y W H mk:Int)(po:Option Addr)(pn pc:Nat)(px:List Int)(hR:RdN U w (.slice po pn pc) px) :
 Calls Tryz.prog 114 #[.pointer (some ⟨sb,0,none⟩),zZ s.cl s.num,yt 3 s.num x y W H (.slice po pn pc) mk] w fun e w'=>e=.returned (.bool true)/\(∃ pv',Scn C U w' sb beh (xr l {s with w:=W,h:=H,px:=px}) mb ov L clock bk pv')/\But C w w':=by
 have c0:w.cell? ⟨sb,0,none⟩=some (.map (some mb)):=qe h.scm.blk 0;have l1:sb<w.heap.size:=qh h.scm.blk;have hS:=(h.surf s hs).1;obtain⟨b,hbk⟩:∃ b,b=bk s.cl s.num:=⟨_,rfl⟩;rw[<-hbk] at hS;have lb:b<w.heap.size:=qh hS;have hlk:∀ q,(Instr.lookup 174 (.map (some mb)) (.agg #[.int .i64 s.cl,.int .i64 s.num]) false).run Tryz.prog ((bxd w s.cl s.num 3 s.num x y W H (.slice po pn pc) mk).drewN q)=.ok (.pointer (some ⟨b,0,none⟩)) ((bxd w s.cl s.num 3 s.num x y W H (.slice po pn pc) mk).drewN q):=fun q=>by
  have:=zn (w:=(bxd w s.cl s.num 3 s.num x y W H (.slice po pn pc) mk).drewN q) (((zL w s.cl s.num 3 s.num x y W H (.slice po pn pc) mk q).block _ (qh h.scm.map)).trans h.scm.map) s.cl s.num;rw[h.at_some hs,<-hbk] at this;exact this
 have HH:=qg h;have HS:=qg hS;have HBK:=qg hbk;unfold zZ yt;clear h hS hbk
 go_enter Tryz.func114,Tryz.ntmps114
 go_wp2
 go_quiet (fail)
 go_wp2;obtain⟨w1,hw1⟩:∃ w1,w1=(bxd w s.cl s.num 3 s.num x y W H (.slice po pn pc) mk).drewN nq:=⟨_,rfl⟩;rw[<-hw1];have hB1:Below w.heap.size w w1:=(by rw[hw1];exact zL _ _ _ _ _ _ _ _ _ _ _ _);have hO1:=Qz w s.cl s.num 3 s.num x y W H (.slice po pn pc) mk nq;rw[<-hw1] at hO1;have hS1:yL w1 b s (pv s.cl s.num):=(hB1.block _ lb).trans (qb HS);have o4:w1.cell? ⟨w.heap.size+1,4,none⟩=some (.int .i64 W):=qe hO1 4;have o5:w1.cell? ⟨w.heap.size+1,5,none⟩=some (.int .i64 H):=qe hO1 5;have o6:w1.cell? ⟨w.heap.size+1,6,none⟩=some (.slice po pn pc):=qe hO1 6;have s2:w1.cell? ⟨b,2,none⟩=some (.int .i64 s.w):=qe hS1 2;have s3:w1.cell? ⟨b,3,none⟩=some (.int .i64 s.h):=qe hS1 3;have s4:w1.cell? ⟨b,4,none⟩=some (pv s.cl s.num):=qe hS1 4;have f0:∀ j,w1.frozen? ⟨b,j,none⟩=false:=fun j=>qj hS1 j;have hne:¬b=w.heap.size+1:=(by omega);have HS1:=qg hS1;have HB1:=qg hB1;clear hlk hB1 hO1 hS1 hw1 c0;have HR:=qg hR;clear hR;go_region
 all_goals
  simp only[Exit.then];go_simp;go_wp2;go_ret;have hb:But (fun k=>k=bk s.cl s.num) w (((w1.setCell ⟨b,2,none⟩ (.int .i64 W)).setCell ⟨b,3,none⟩ (.int .i64 H)).setCell ⟨b,4,none⟩ (.slice po pn pc)):=((But.of_below (qb HB1)).setCell (p:=⟨b,2,none⟩) (.inl (qb HBK)) _ |>.setCell (p:=⟨b,3,none⟩) (.inl (qb HBK)) _).setCell (p:=⟨b,4,none⟩) (.inl (qb HBK)) _;have hS2:yL (((w1.setCell ⟨b,2,none⟩ (.int .i64 W)).setCell ⟨b,3,none⟩ (.int .i64 H)).setCell ⟨b,4,none⟩ (.slice po pn pc)) b {s with w:=W,h:=H,px:=px} (.slice po pn pc):=qp (i:=4) (qp (i:=3) (qp (i:=2) (qb HS1) _) _) _;have hcb:=((qb HH).surf s hs).2.1;refine⟨rfl,⟨_,(qb HH).upd (u:={s with w:=W,h:=H,px:=px}) (v:=.slice po pn pc) hCU hs rfl hb.drew (by rw[<-qb HBK];exact hS2) (((qb HR).but hb (fun k hu e=>hCU k (by rw[e];exact hcb) hu)).below (below_drewN (Below.refl _ _) 1))⟩,(hb.wide (fun k _ e=>by rw[e];exact hcb)).drew⟩
theorem qw3 {C U:Nat->Prop}{w:World}{sb:Nat}{beh:Int}{l:List Srf}{mb:Nat}{ov:Value}{L:List Ke}{clock:Nat}{bk:Int->Int->Nat}{pv:Int->Int->Value}(h:Scn C U w sb beh l mb ov L clock bk pv)(hCU:∀ k,C k->¬U k){s:Srf}(hs:s∈l)(x y W H mk:Int)(po:Option Addr)(pn pc:Nat) :
 Calls Tryz.prog 114 #[.pointer (some ⟨sb,0,none⟩),zZ s.cl s.num,yt 7 s.num x y W H (.slice po pn pc) mk] w fun e w'=>e=.returned (.bool false)/\(∃ pv',Scn C U w' sb beh (xr l {s with dx:=x,dy:=y,left:=W}) mb ov L clock bk pv')/\But C w w':=by
 have c0:w.cell? ⟨sb,0,none⟩=some (.map (some mb)):=qe h.scm.blk 0;have l1:sb<w.heap.size:=qh h.scm.blk;have hS:=(h.surf s hs).1;obtain⟨b,hbk⟩:∃ b,b=bk s.cl s.num:=⟨_,rfl⟩;rw[<-hbk] at hS;have lb:b<w.heap.size:=qh hS;have hlk:∀ q,(Instr.lookup 174 (.map (some mb)) (.agg #[.int .i64 s.cl,.int .i64 s.num]) false).run Tryz.prog ((bxd w s.cl s.num 7 s.num x y W H (.slice po pn pc) mk).drewN q)=.ok (.pointer (some ⟨b,0,none⟩)) ((bxd w s.cl s.num 7 s.num x y W H (.slice po pn pc) mk).drewN q):=fun q=>by
  have:=zn (w:=(bxd w s.cl s.num 7 s.num x y W H (.slice po pn pc) mk).drewN q) (((zL w s.cl s.num 7 s.num x y W H (.slice po pn pc) mk q).block _ (qh h.scm.map)).trans h.scm.map) s.cl s.num;rw[h.at_some hs,<-hbk] at this;exact this
 have HH:=qg h;have HS:=qg hS;have HBK:=qg hbk;unfold zZ yt;clear h hS hbk
 go_enter Tryz.func114,Tryz.ntmps114
 go_wp2
 go_quiet (fail)
 obtain⟨w1,hw1⟩:∃ w1,w1=(bxd w s.cl s.num 7 s.num x y W H (.slice po pn pc) mk).drewN nq:=⟨_,rfl⟩;rw[<-hw1];have hB1:Below w.heap.size w w1:=(by rw[hw1];exact zL _ _ _ _ _ _ _ _ _ _ _ _);have hO1:=Qz w s.cl s.num 7 s.num x y W H (.slice po pn pc) mk nq;have hK1:=kY w s.cl s.num 7 s.num x y W H (.slice po pn pc) mk nq;rw[<-hw1] at hO1 hK1;have hS1:yL w1 b s (pv s.cl s.num):=(hB1.block _ lb).trans (qb HS);have k0:w1.cell? ⟨w.heap.size+1,0,none⟩=some (.int .i64 7):=qe hO1 0;have o2:w1.cell? ⟨w.heap.size+1,2,none⟩=some (.int .i64 x):=qe hO1 2;have o3:w1.cell? ⟨w.heap.size+1,3,none⟩=some (.int .i64 y):=qe hO1 3;have o4:w1.cell? ⟨w.heap.size+1,4,none⟩=some (.int .i64 W):=qe hO1 4;have s5:w1.cell? ⟨b,5,none⟩=some (.int .i64 s.dx):=qe hS1 5;have s6:w1.cell? ⟨b,6,none⟩=some (.int .i64 s.dy):=qe hS1 6;have s7:w1.cell? ⟨b,7,none⟩=some (.int .i64 s.left):=qe hS1 7;have f0:∀ j,w1.frozen? ⟨b,j,none⟩=false:=fun j=>qj hS1 j;have hne:¬b=w.heap.size+1:=(by omega);have HS1:=qg hS1;have HB1:=qg hB1;clear hlk hB1 hO1 hS1 hK1 hw1 c0;go_wp2;go_ret;have hb:But (fun k=>k=bk s.cl s.num) w (((w1.setCell ⟨b,5,none⟩ (.int .i64 x)).setCell ⟨b,6,none⟩ (.int .i64 y)).setCell ⟨b,7,none⟩ (.int .i64 W)):=((But.of_below (qb HB1)).setCell (p:=⟨b,5,none⟩) (.inl (qb HBK)) _ |>.setCell (p:=⟨b,6,none⟩) (.inl (qb HBK)) _).setCell (p:=⟨b,7,none⟩) (.inl (qb HBK)) _;have hS2:yL (((w1.setCell ⟨b,5,none⟩ (.int .i64 x)).setCell ⟨b,6,none⟩ (.int .i64 y)).setCell ⟨b,7,none⟩ (.int .i64 W)) b {s with dx:=x,dy:=y,left:=W} (pv s.cl s.num):=qp (i:=7) (qp (i:=6) (qp (i:=5) (qb HS1) _) _) _;have hcb:=((qb HH).surf s hs).2.1;refine⟨rfl,⟨_,(qb HH).upd (u:={s with dx:=x,dy:=y,left:=W}) (v:=pv s.cl s.num) hCU hs rfl hb (by rw[<-qb HBK];exact hS2) (((qb HH).surf s hs).2.2.but hb (fun k hu e=>hCU k (by rw[e];exact hcb) hu))⟩,hb.wide (fun k _ e=>by rw[e];exact hcb)⟩
theorem qw6 {C U:Nat->Prop}{w:World}{sb:Nat}{beh:Int}{l:List Srf}{mb:Nat}{ov:Value}{L:List Ke}{clock:Nat}{bk:Int->Int->Nat}{pv:Int->Int->Value}(h:Scn C U w sb beh l mb ov L clock bk pv)(hCU:∀ k,C k->¬U k){s:Srf}(hs:s∈l)(x y W H mk:Int)(po:Option Addr)(pn pc:Nat) :
 Calls Tryz.prog 114 #[.pointer (some ⟨sb,0,none⟩),zZ s.cl s.num,yt 4 s.num x y W H (.slice po pn pc) mk] w fun e w'=>e=.returned (.bool (!(s.x == x&&s.y == y)))/\(∃ pv',Scn C U w' sb beh (xr l {s with x:=x,y:=y,dx:=0,dy:=0,left:=0}) mb ov L clock bk pv')/\But C w w':=by
 obtain⟨bb,hbb⟩:∃ bb,bb=!(s.x == x&&s.y == y):=⟨_,rfl⟩;rw[<-hbb];have HBB:=qg hbb;clear hbb;have c0:w.cell? ⟨sb,0,none⟩=some (.map (some mb)):=qe h.scm.blk 0;have l1:sb<w.heap.size:=qh h.scm.blk;have hS:=(h.surf s hs).1;obtain⟨b,hbk⟩:∃ b,b=bk s.cl s.num:=⟨_,rfl⟩;rw[<-hbk] at hS;have lb:b<w.heap.size:=qh hS;have hlk:∀ q,(Instr.lookup 174 (.map (some mb)) (.agg #[.int .i64 s.cl,.int .i64 s.num]) false).run Tryz.prog ((bxd w s.cl s.num 4 s.num x y W H (.slice po pn pc) mk).drewN q)=.ok (.pointer (some ⟨b,0,none⟩)) ((bxd w s.cl s.num 4 s.num x y W H (.slice po pn pc) mk).drewN q):=fun q=>by
  have:=zn (w:=(bxd w s.cl s.num 4 s.num x y W H (.slice po pn pc) mk).drewN q) (((zL w s.cl s.num 4 s.num x y W H (.slice po pn pc) mk q).block _ (qh h.scm.map)).trans h.scm.map) s.cl s.num;rw[h.at_some hs,<-hbk] at this;exact this
 have HH:=qg h;have HS:=qg hS;have HBK:=qg hbk;unfold zZ yt;clear h hS hbk
 go_enter Tryz.func114,Tryz.ntmps114
 go_wp2
 go_quiet (fail)
 obtain⟨w1,hw1⟩:∃ w1,w1=(bxd w s.cl s.num 4 s.num x y W H (.slice po pn pc) mk).drewN nq:=⟨_,rfl⟩;rw[<-hw1];have hB1:Below w.heap.size w w1:=(by rw[hw1];exact zL _ _ _ _ _ _ _ _ _ _ _ _);have hO1:=Qz w s.cl s.num 4 s.num x y W H (.slice po pn pc) mk nq;have hK1:=kY w s.cl s.num 4 s.num x y W H (.slice po pn pc) mk nq;rw[<-hw1] at hO1 hK1;have hS1:yL w1 b s (pv s.cl s.num):=(hB1.block _ lb).trans (qb HS);have k0:w1.cell? ⟨w.heap.size+1,0,none⟩=some (.int .i64 4):=qe hO1 0;have o2:w1.cell? ⟨w.heap.size+1,2,none⟩=some (.int .i64 x):=qe hO1 2;have o3:w1.cell? ⟨w.heap.size+1,3,none⟩=some (.int .i64 y):=qe hO1 3;have s5:w1.cell? ⟨b,5,none⟩=some (.int .i64 s.dx):=qe hS1 5;have s6:w1.cell? ⟨b,6,none⟩=some (.int .i64 s.dy):=qe hS1 6;have s7:w1.cell? ⟨b,7,none⟩=some (.int .i64 s.left):=qe hS1 7;have f0:∀ j,w1.frozen? ⟨b,j,none⟩=false:=fun j=>qj hS1 j;have hne:¬b=w.heap.size+1:=(by omega);have hS2:yL (((w1.setCell ⟨b,5,none⟩ (.int .i64 0)).setCell ⟨b,6,none⟩ (.int .i64 0)).setCell ⟨b,7,none⟩ (.int .i64 0)) b {s with dx:=0,dy:=0,left:=0} (pv s.cl s.num):=qp (i:=7) (qp (i:=6) (qp (i:=5) hS1 _) _) _;have HMv:=qg (Xy hS2 x y);have HB1:=qg hB1;clear hlk hB1 hO1 hS1 hS2 hK1 hw1 c0
 go_wp2_with (go_at_call 136;refine (qb HMv).mono ?_;rintro e w2 ⟨he,hs2,hb2⟩;have he:e=.returned (.bool bb):=he.trans (congrArg (fun z=>Ending.returned (.bool z)) (qb HBB).symm);subst he;have HS2:=qg hs2;have HB2:=qg hb2;clear hs2 hb2)
 go_ret;have hb:But (fun k=>k=bk s.cl s.num) w w2:=(((But.of_below (qb HB1)).setCell (p:=⟨b,5,none⟩) (.inl (qb HBK)) _ |>.setCell (p:=⟨b,6,none⟩) (.inl (qb HBK)) _).setCell (p:=⟨b,7,none⟩) (.inl (qb HBK)) _).trans ((qb HB2).wide (fun k _ e=>by rw[e];exact qb HBK));have hcb:=((qb HH).surf s hs).2.1;refine⟨rfl,⟨_,(qb HH).upd (u:={s with x:=x,y:=y,dx:=0,dy:=0,left:=0}) (v:=pv s.cl s.num) hCU hs rfl hb (by rw[<-qb HBK];exact qb HS2) (((qb HH).surf s hs).2.2.but hb (fun k hu e=>hCU k (by rw[e];exact hcb) hu))⟩,hb.wide (fun k _ e=>by rw[e];exact hcb)⟩
theorem qw5 {C U:Nat->Prop}{w:World}{sb:Nat}{beh:Int}{l:List Srf}{mb:Nat}{ov:Value}{L:List Ke}{clock:Nat}{bk:Int->Int->Nat}{pv:Int->Int->Value}(h:Scn C U w sb beh l mb ov L clock bk pv)(hCU:∀ k,C k->¬U k)(hCl:∀ k,C k->k<w.heap.size)(hl:l.length<=1000){i:Nat}{s:Srf}(hi:l[i]?=some s){t:Nat}(ht:t=l.length-1)(x y W H mk:Int)(po:Option Addr)(pn pc:Nat) :
 Calls Tryz.prog 114 #[.pointer (some ⟨sb,0,none⟩),zZ s.cl s.num,yt 5 s.num x y W H (.slice po pn pc) mk] w fun e w'=>e=.returned (.bool (!((i:Int) == (t:Int))))/\Scn C U w' sb beh (vy l i t s) mb ov L clock bk pv/\But C w w':=by
 have hs:s∈l:=zzn hi;have hil:i<l.length:=(zzg hi).1;have c0:w.cell? ⟨sb,0,none⟩=some (.map (some mb)):=qe h.scm.blk 0;have c1:w.cell? ⟨sb,1,none⟩=some ov:=qe h.scm.blk 1;have l1:sb<w.heap.size:=qh h.scm.blk;have hS:=(h.surf s hs).1;obtain⟨b,hbk⟩:∃ b,b=bk s.cl s.num:=⟨_,rfl⟩;rw[<-hbk] at hS;have lb:b<w.heap.size:=qh hS;obtain⟨ro,rc,hov⟩:=qr h.row;rw[List.length_map] at hov;have hlk:∀ q,(Instr.lookup 174 (.map (some mb)) (.agg #[.int .i64 s.cl,.int .i64 s.num]) false).run Tryz.prog ((bxd w s.cl s.num 5 s.num x y W H (.slice po pn pc) mk).drewN q)=.ok (.pointer (some ⟨b,0,none⟩)) ((bxd w s.cl s.num 5 s.num x y W H (.slice po pn pc) mk).drewN q):=fun q=>by
  have:=zn (w:=(bxd w s.cl s.num 5 s.num x y W H (.slice po pn pc) mk).drewN q) (((zL w s.cl s.num 5 s.num x y W H (.slice po pn pc) mk q).block _ (qh h.scm.map)).trans h.scm.map) s.cl s.num;rw[h.at_some hs,<-hbk] at this;exact this
 have HLay:Hid (∀ W,Below w.heap.size w W->Calls Tryz.prog 137 #[.pointer (some ⟨sb,0,none⟩),.agg #[.int .i64 s.cl,.int .i64 s.num],.int .i64 (IntKind.i64.wrap ((l.length:Int)-1))] W fun e w'=>e=.returned (.bool (!((i:Int) == (t:Int))))/\Scn C U w' sb beh (vy l i t s) mb ov L clock bk pv/\But C W w'):=fun W hb=>by
  have:=qe3 (h.below hb) hCU hi t (by omega) hl;rw[show (IntKind.i64.wrap ((l.length:Int)-1))=(t:Int) by rw[IntKind.wrap_i64];omega];exact this
 obtain⟨n,hn⟩:∃ n,n=l.length:=⟨_,rfl⟩;rw[<-hn] at hov;rw[<-hn] at HLay;subst hov;obtain⟨bb,hbb⟩:∃ bb,bb=!((i:Int) == (t:Int)):=⟨_,rfl⟩;rw[<-hbb] at HLay ⊢;have HN:=qg hn;unfold zZ yt;clear h hS hbk hn hbb ht hil
 go_enter Tryz.func114,Tryz.ntmps114
 go_wp2
 go_quiet (fail)
 obtain⟨w1,hw1⟩:∃ w1,w1=(bxd w s.cl s.num 5 s.num x y W H (.slice po pn pc) mk).drewN nq:=⟨_,rfl⟩;rw[<-hw1];have hB1:Below w.heap.size w w1:=(by rw[hw1];exact zL _ _ _ _ _ _ _ _ _ _ _ _);have hO1:=Qz w s.cl s.num 5 s.num x y W H (.slice po pn pc) mk nq;have hK1:=kY w s.cl s.num 5 s.num x y W H (.slice po pn pc) mk nq;rw[<-hw1] at hO1 hK1;have k0:w1.cell? ⟨w.heap.size+1,0,none⟩=some (.int .i64 5):=qe hO1 0;have y0:w1.cell? ⟨w.heap.size,0,none⟩=some (.int .i64 s.cl):=qe hK1 0;have y1:w1.cell? ⟨w.heap.size,1,none⟩=some (.int .i64 s.num):=qe hK1 1;have x1:w1.cell? ⟨sb,1,none⟩=some (.slice ro n rc):=(hB1.cell l1).trans c1;have HB1:=qg hB1;have HK1:=qg hK1;clear hlk hB1 hO1 hK1 hw1 c0 c1;go_wp2
 go_region_held3 (fun w'=>w'.cell? ⟨sb,1,none⟩=some (.slice ro n rc)/\w'.cell? ⟨w.heap.size,0,none⟩=some (.int .i64 s.cl)/\w'.cell? ⟨w.heap.size,1,none⟩=some (.int .i64 s.num))
  (first | (refine⟨?_,?_,?_⟩<;>assumption) | go_keep)
  ((go_at_call 137
    refine ((qb HLay) w1.drew (qb HB1).drew).mono ?_
    rintro e w2 ⟨he,hs2,hb2⟩
    subst he
    have hK2:w2.heap[w.heap.size]?=some (.cells #[.int .i64 s.cl,.int .i64 s.num] 173):=hb2.heap (w:=w1.drew) (qb HK1) (fun hc=>Nat.lt_irrefl _ (hCl _ hc))
    have p1:w2.cell? ⟨sb,1,none⟩=some (.slice ro n rc):=qe hs2.scm.blk 1
    have p2:w2.cell? ⟨w.heap.size,0,none⟩=some (.int .i64 s.cl):=qe hK2 0
    have p3:w2.cell? ⟨w.heap.size,1,none⟩=some (.int .i64 s.num):=qe hK2 1
    have HS2:=qg hs2
    have HB2:=qg hb2
    clear hs2 hb2 hK2))
 all_goals
  simp only[Exit.then];go_simp;go_wp2;go_ret;exact⟨rfl,qb HS2,(But.of_below ((qb HB1).drew)).trans (qb HB2)⟩
theorem qw4 {C U:Nat->Prop}{w:World}{sb:Nat}{beh:Int}{l:List Srf}{mb:Nat}{ov:Value}{L:List Ke}{clock:Nat}{bk:Int->Int->Nat}{pv:Int->Int->Value}(h:Scn C U w sb beh l mb ov L clock bk pv)(hCU:∀ k,C k->¬U k)(hCl:∀ k,C k->k<w.heap.size)(hl:l.length<=1000){i:Nat}{s:Srf}(hi:l[i]?=some s){t:Nat}(ht:t=0)(x y W H mk:Int)(po:Option Addr)(pn pc:Nat) :
 Calls Tryz.prog 114 #[.pointer (some ⟨sb,0,none⟩),zZ s.cl s.num,yt 6 s.num x y W H (.slice po pn pc) mk] w fun e w'=>e=.returned (.bool (!((i:Int) == (t:Int))))/\Scn C U w' sb beh (vy l i t s) mb ov L clock bk pv/\But C w w':=by
 have hs:s∈l:=zzn hi;have hil:i<l.length:=(zzg hi).1;have c0:w.cell? ⟨sb,0,none⟩=some (.map (some mb)):=qe h.scm.blk 0;have c1:w.cell? ⟨sb,1,none⟩=some ov:=qe h.scm.blk 1;have l1:sb<w.heap.size:=qh h.scm.blk;have hS:=(h.surf s hs).1;obtain⟨b,hbk⟩:∃ b,b=bk s.cl s.num:=⟨_,rfl⟩;rw[<-hbk] at hS;have lb:b<w.heap.size:=qh hS;obtain⟨ro,rc,hov⟩:=qr h.row;rw[List.length_map] at hov;have hlk:∀ q,(Instr.lookup 174 (.map (some mb)) (.agg #[.int .i64 s.cl,.int .i64 s.num]) false).run Tryz.prog ((bxd w s.cl s.num 6 s.num x y W H (.slice po pn pc) mk).drewN q)=.ok (.pointer (some ⟨b,0,none⟩)) ((bxd w s.cl s.num 6 s.num x y W H (.slice po pn pc) mk).drewN q):=fun q=>by
  have:=zn (w:=(bxd w s.cl s.num 6 s.num x y W H (.slice po pn pc) mk).drewN q) (((zL w s.cl s.num 6 s.num x y W H (.slice po pn pc) mk q).block _ (qh h.scm.map)).trans h.scm.map) s.cl s.num;rw[h.at_some hs,<-hbk] at this;exact this
 have HLay:Hid (∀ W,Below w.heap.size w W->Calls Tryz.prog 137 #[.pointer (some ⟨sb,0,none⟩),.agg #[.int .i64 s.cl,.int .i64 s.num],.int .i64 (0:Int)] W fun e w'=>e=.returned (.bool (!((i:Int) == (t:Int))))/\Scn C U w' sb beh (vy l i t s) mb ov L clock bk pv/\But C W w'):=fun W hb=>by
  have:=qe3 (h.below hb) hCU hi t (by omega) hl;rw[show (0:Int)=(t:Int) by omega];exact this
 obtain⟨n,hn⟩:∃ n,n=l.length:=⟨_,rfl⟩;rw[<-hn] at hov;subst hov;obtain⟨bb,hbb⟩:∃ bb,bb=!((i:Int) == (t:Int)):=⟨_,rfl⟩;rw[<-hbb] at HLay ⊢;have HN:=qg hn;unfold zZ yt;clear h hS hbk hn hbb ht hil
 go_enter Tryz.func114,Tryz.ntmps114
 go_wp2
 go_quiet (fail)
 obtain⟨w1,hw1⟩:∃ w1,w1=(bxd w s.cl s.num 6 s.num x y W H (.slice po pn pc) mk).drewN nq:=⟨_,rfl⟩;rw[<-hw1];have hB1:Below w.heap.size w w1:=(by rw[hw1];exact zL _ _ _ _ _ _ _ _ _ _ _ _);have hO1:=Qz w s.cl s.num 6 s.num x y W H (.slice po pn pc) mk nq;have hK1:=kY w s.cl s.num 6 s.num x y W H (.slice po pn pc) mk nq;rw[<-hw1] at hO1 hK1;have k0:w1.cell? ⟨w.heap.size+1,0,none⟩=some (.int .i64 6):=qe hO1 0;have y0:w1.cell? ⟨w.heap.size,0,none⟩=some (.int .i64 s.cl):=qe hK1 0;have y1:w1.cell? ⟨w.heap.size,1,none⟩=some (.int .i64 s.num):=qe hK1 1;have x1:w1.cell? ⟨sb,1,none⟩=some (.slice ro n rc):=(hB1.cell l1).trans c1;have HB1:=qg hB1;have HK1:=qg hK1;clear hlk hB1 hO1 hK1 hw1 c0 c1
 go_wp2_with (go_at_call 137;refine ((qb HLay) w1 (qb HB1)).mono ?_;rintro e w2 ⟨he,hs2,hb2⟩;subst he;have HS2:=qg hs2;have HB2:=qg hb2;clear hs2 hb2)
 go_ret;exact⟨rfl,qb HS2,(But.of_below (qb HB1)).trans (qb HB2)⟩
theorem ZP {P:Program}{ops:Array Oper}{o:Oper}{a:Act}{w:World}{K:Act->World->Prop}{Q:Exit->Act->World->Prop}{E:Prop}
 (hg:o.guard=none) (s x:Operand) (t u:TypeId) (hop:o.op=Op.call {callee:=Callee.builtin Builtin.delete,args:=#[s,x],argTypes:=#[t,u]})
 (v k r:Value) (w':World) (hs:a.eval s=v) (hx:a.eval x=k) (hrun:∀ ty,(Builtin.delete_ #[t,u] ty #[v,k]).run P w=.ok r w') (hK:K (a.put o.dst r) w') :
 if Region.wanted o (yielded ops a.tmps)=true then Oper.wp P o a w K Q else E:=by
 have hw:Region.wanted o (yielded ops a.tmps)=true:=(by simp[Region.wanted,hg]);rw[if_pos hw];unfold Oper.wp;simp[execOp,hop,resolve,invoke,builtin,hs,hx,hrun,Result.andThen];exact hK
theorem zS {P:Program}{ops:Array Oper}{o:Oper}{a:Act}{w:World}{K:Act->World->Prop}{Q:Exit->Act->World->Prop}{E:Prop}
 (hg:o.guard=none) (s x:Operand) (t ty:TypeId) (hop:o.op=Op.call {callee:=Callee.builtin Builtin.append,args:=#[s,x],argTypes:=#[t,t]}) (hty:o.type=ty)
 (v u r:Value) (w':World) (hs:a.eval s=v) (hx:a.eval x=u) (hrun:(Builtin.append_ #[t,t] ty #[v,u]).run P w=.ok r w') (hK:K (a.put o.dst r) w') :
 if Region.wanted o (yielded ops a.tmps)=true then Oper.wp P o a w K Q else E:=by
 have hw:Region.wanted o (yielded ops a.tmps)=true:=(by simp[Region.wanted,hg]);rw[if_pos hw];unfold Oper.wp;simp[execOp,hop,hty,resolve,invoke,builtin,hs,hx,hrun,Result.andThen];exact hK
theorem Vp {w:World}{mb:Nat}{o o':Obj}(h:w.heap[mb]?=some o):({w with heap:=w.heap.setIfInBounds mb o'}:World).heap[mb]?=some o'/\But (fun k=>k=mb) w {w with heap:=w.heap.setIfInBounds mb o'}:=by
 have hlt:=qh h;refine⟨by simp[hlt],⟨rfl,rfl,rfl,by simp,fun k _ hk=>?_⟩⟩;simp only[Array.getElem?_setIfInBounds];rw[if_neg (fun e=>hk e.symm)]
theorem qw8 {C U:Nat->Prop}{w:World}{sb:Nat}{beh:Int}{l:List Srf}{mb:Nat}{ov:Value}{L:List Ke}{clock:Nat}{bk:Int->Int->Nat}{pv:Int->Int->Value}(h:Scn C U w sb beh l mb ov L clock bk pv)(hCU:∀ k,C k->¬U k)(hCl:∀ k,C k->k<w.heap.size)(hl:l.length<=1000){s:Srf}(hs:s∈l)(x y W H mk:Int)(po:Option Addr)(pn pc:Nat) :
 Calls Tryz.prog 114 #[.pointer (some ⟨sb,0,none⟩),zZ s.cl s.num,yt 2 s.num x y W H (.slice po pn pc) mk] w fun e w'=>e=.returned (.bool true)/\(∃ ov' L',Scn C U w' sb beh (yT l s.cl s.num) mb ov' L' clock bk pv)/\But C w w':=by
 have c0:w.cell? ⟨sb,0,none⟩=some (.map (some mb)):=qe h.scm.blk 0;have c1:w.cell? ⟨sb,1,none⟩=some ov:=qe h.scm.blk 1;have l1:sb<w.heap.size:=qh h.scm.blk;have lmb:mb<w.heap.size:=qh h.scm.map;have hS:=(h.surf s hs).1;obtain⟨b,hbk⟩:∃ b,b=bk s.cl s.num:=⟨_,rfl⟩;rw[<-hbk] at hS;have lb:b<w.heap.size:=qh hS;have hsm:=h.sb_mb;have hlk:∀ q,(Instr.lookup 174 (.map (some mb)) (.agg #[.int .i64 s.cl,.int .i64 s.num]) false).run Tryz.prog ((bxd w s.cl s.num 2 s.num x y W H (.slice po pn pc) mk).drewN q)=.ok (.pointer (some ⟨b,0,none⟩)) ((bxd w s.cl s.num 2 s.num x y W H (.slice po pn pc) mk).drewN q):=fun q=>by
  have:=zn (w:=(bxd w s.cl s.num 2 s.num x y W H (.slice po pn pc) mk).drewN q) (((zL w s.cl s.num 2 s.num x y W H (.slice po pn pc) mk q).block _ (qh h.scm.map)).trans h.scm.map) s.cl s.num;rw[h.at_some hs,<-hbk] at this;exact this
 obtain⟨i,hfi,e,hLi,hke⟩:=h.some hs;obtain⟨ro,rc,hov⟩:=qr h.row;rw[List.length_map] at hov;obtain⟨n,hn⟩:∃ n,n=l.length:=⟨_,rfl⟩;rw[<-hn] at hov;subst hov;obtain⟨ks,hks⟩:∃ ks,ks=l.map qw:=⟨_,rfl⟩;have hk2:(l.map fun s=>k2 (qw s))=ks.map k2:=(by rw[hks,List.map_map];rfl);have hF:(yT l s.cl s.num).map (fun s=>k2 (qw s))=(ks.filter fun k=>!(k.1 == s.cl&&k.2 == s.num)).map k2:=by
  have e1:=congrArg (List.map k2) (yk l s.cl s.num);rw[List.map_map] at e1;refine Eq.trans (show _=_ from rfl) (e1.trans ?_);rw[<-hks];refine congrArg (List.map k2) (List.filter_congr fun k _=>?_);rw[Bool.eq_iff_iff];obtain⟨k1,k2⟩:=k
  by_cases q1:k1=s.cl<;>simp[q1]
 have HH:=qg h;have HN:=qg hn;have HF:=qg hF;have HK2:=qg hk2;have HKS:=qg hks;have HFI:=qg hfi;have HLI:=qg hLi;have HKE:=qg hke;unfold zZ yt;clear h hS hbk hn hF hk2 hks hfi hLi hke
 go_enter Tryz.func114,Tryz.ntmps114
 go_wp2
 go_quiet (fail)
 obtain⟨w1,hw1⟩:∃ w1,w1=(bxd w s.cl s.num 2 s.num x y W H (.slice po pn pc) mk).drewN nq:=⟨_,rfl⟩;rw[<-hw1];have hB1:Below w.heap.size w w1:=(by rw[hw1];exact zL _ _ _ _ _ _ _ _ _ _ _ _);have hO1:=Qz w s.cl s.num 2 s.num x y W H (.slice po pn pc) mk nq;have hK1:=kY w s.cl s.num 2 s.num x y W H (.slice po pn pc) mk nq;rw[<-hw1] at hO1 hK1;have k0:w1.cell? ⟨w.heap.size+1,0,none⟩=some (.int .i64 2):=qe hO1 0;have y0:w1.cell? ⟨w.heap.size,0,none⟩=some (.int .i64 s.cl):=qe hK1 0;have y1:w1.cell? ⟨w.heap.size,1,none⟩=some (.int .i64 s.num):=qe hK1 1;have x0:w1.cell? ⟨sb,0,none⟩=some (.map (some mb)):=(hB1.cell l1).trans c0;have hM1:w1.heap[mb]?=some (.map (L.map ke).toArray clock):=(hB1.block _ lmb).trans (qb HH).scm.map;obtain⟨w2,hw2⟩:∃ w2:World,w2={w1.drew with heap:=w1.drew.heap.setIfInBounds mb (.map ((L.eraseIdx i).map ke).toArray clock)}:=⟨_,rfl⟩;have hdel:∀ ty,(Builtin.delete_ #[174,173] ty #[.map (some mb),.agg #[.int .i64 s.cl,.int .i64 s.num]]).run Tryz.prog w1.drew=.ok (.tuple #[]) w2:=fun ty=>by
  rw[hw2];exact Jn (w:=w1.drew) hM1 s.cl s.num i _ (qb HFI) ty
 obtain⟨hM2,hB2⟩:=Vp (w:=w1.drew) (o':=.map ((L.eraseIdx i).map ke).toArray clock) hM1;rw[<-hw2] at hM2 hB2;have hBw2:But (fun k=>k=mb) w w2:=(But.of_below hB1.drew).trans hB2;have hKb:w2.heap[w.heap.size]?=some (.cells #[.int .i64 s.cl,.int .i64 s.num] 173):=hB2.heap (w:=w1.drew) hK1 (by omega);have hSc2:w2.heap[sb]?=some (.cells #[.map (some mb),.slice ro n rc,.int .i64 beh] 176 (0,0)):=hBw2.heap (qb HH).scm.blk hsm;have hR2:qN w2 0 173 (.slice ro n rc) (ks.map k2):=(by rw[<-qb HK2];exact qi (qb HH).row hBw2 (fun k hk e=>(qb HH).mb_ov (by rw[hk,e])));have z1:w2.cell? ⟨sb,1,none⟩=some (.slice ro n rc):=qe hSc2 1;have HDf:=qg (qk2 hR2 (by rw[qb HKS,List.length_map];omega) (fun k=>k.1 == s.cl&&k.2 == s.num) w.heap.size (fun W k hb=>qw9 (hb.heap hKb (fun e=>by have:=hCl _ ((qb HH).cov _ e);omega)) k) _ rfl);have HDel:=qg hdel;have HB1:=qg hB1;have HM2:=qg hM2;have HBw2:=qg hBw2;have HSc2:=qg hSc2;clear hlk hB1 hO1 hK1 hw1 c0 c1 hM1 hdel hB2 hw2 hM2 hBw2 hSc2 hR2 hKb;go_wp2
 go_region_law (refine ZP (by kernel_rfl) (.tmp 45) (.tmp 46) 174 173 (by kernel_rfl) (.map (some mb)) (.agg #[.int .i64 s.cl,.int .i64 s.num]) _ _ (by kernel_rfl) (by kernel_rfl) (qb HDel) ?_)
 all_goals
  simp only[Exit.then];go_simp
  go_wp2_with (go_at_call 134;refine (qb HDf).mono ?_;rintro e w3 ⟨⟨v',rfl,hO3,hv3⟩,hb3⟩;obtain⟨r3,q3,hv'⟩:=qr hO3;obtain⟨m3,hm3⟩:∃ m3,m3=(List.map k2 (List.filter (fun k=>!(k.1 == s.cl&&k.2 == s.num)) ks)).length:=⟨_,rfl⟩;rw[<-hm3] at hv';clear hm3;have hS3:w3.heap[sb]?=some (.cells #[.map (some mb),.slice ro n rc,.int .i64 beh] 176 (0,0)):=hb3.heap (qb HSc2) (qb HH).sb_ov;have q1:w3.cell? ⟨sb,1,none⟩=some (.slice ro n rc):=qe hS3 1;have qf:∀ j,w3.frozen? ⟨sb,j,none⟩=false:=fun j=>qj hS3 j;have HO3:=qg hO3;have HV3:=qg hv3;have HS3:=qg hS3;have HB3:=qg hb3;clear hO3 hv3 hS3 hb3;subst hv')
  go_ret;have hS4:=qp (i:=1) (qb HS3) (.slice r3 m3 q3);have hO4:qN (w3.setCell ⟨sb,1,none⟩ (.slice r3 m3 q3)) 0 173 (.slice r3 m3 q3) (List.map k2 (List.filter (fun k=>!(k.1 == s.cl&&k.2 == s.num)) ks)):=qi (qb HO3) ((But.refl (fun k=>k=sb) w3).setCell (p:=⟨sb,1,none⟩) (.inl rfl) _) (fun k hk e=>(qb HH).sb_ov (by rw[<-qb HV3,hk,e]));have hB4:But (fun k=>k=sb\/k=mb\/(Value.slice ro n rc).ownBlock=some k) w (w3.setCell ⟨sb,1,none⟩ (.slice r3 m3 q3)):=(((qb HBw2).wide (fun k _ e=>.inr (.inl e))).trans ((qb HB3).wide (fun k _ e=>.inr (.inr e)))).setCell (p:=⟨sb,1,none⟩) (.inl (.inl rfl)) _;have hM4:(w3.setCell ⟨sb,1,none⟩ (.slice r3 m3 q3)).heap[mb]?=some (.map ((L.eraseIdx i).map ke).toArray clock):=qu ((qb HB3).heap (qb HM2) (qb HH).mb_ov) (fun e=>hsm e.symm) _;refine⟨rfl,⟨_,_,(qb HH).less (qb HLI) (qb HKE) (fun _ h=>h) hB4 (fun _ h=>h) hCU hS4 hM4 (by rw[qb HF];exact hO4) (fun k hk=>(qb HH).cov k (by rw[<-qb HV3];exact hk))⟩,hB4.wide ?_⟩;rintro k _ (e | e | e)
  ·rw[e];exact (qb HH).csb
  ·rw[e];exact (qb HH).cmb
  ·exact (qb HH).cov _ e
theorem ql9 {C U:Nat->Prop}{w:World}{sb:Nat}{beh:Int}{l:List Srf}{mb:Nat}{ov:Value}{L:List Ke}{clock:Nat}{bk:Int->Int->Nat}{pv:Int->Int->Value}(h:Scn C U w sb beh l mb ov L clock bk pv)(hCU:∀ k,C k->¬U k)(hCl:∀ k,C k->k<w.heap.size)(hl:l.length<=1000)(c n:Int)(hs:(c,n)∉l.map qw)(x y W H mk:Int)(po:Option Addr)(pn pc:Nat) :
 Calls Tryz.prog 114 #[.pointer (some ⟨sb,0,none⟩),zZ c n,yt 1 n x y W H (.slice po pn pc) mk] w fun e w'=>e=.returned (.bool false)/\(∃ ov' L' clock' bk' pv',Scn (grow C w w') U w' sb beh (l++[⟨c,n,x,y,0,0,[],0,0,0⟩]) mb ov' L' clock' bk' pv')/\But C w w':=by
 have c0:w.cell? ⟨sb,0,none⟩=some (.map (some mb)):=qe h.scm.blk 0;have c1:w.cell? ⟨sb,1,none⟩=some ov:=qe h.scm.blk 1;have l1:sb<w.heap.size:=qh h.scm.blk;have lmb:mb<w.heap.size:=qh h.scm.map;have hsm:=h.sb_mb;have hlk:∀ q,(Instr.lookup 174 (.map (some mb)) (.agg #[.int .i64 c,.int .i64 n]) false).run Tryz.prog ((bxd w c n 1 n x y W H (.slice po pn pc) mk).drewN q)=.ok (.pointer none) ((bxd w c n 1 n x y W H (.slice po pn pc) mk).drewN q):=fun q=>by
  have:=zn (w:=(bxd w c n 1 n x y W H (.slice po pn pc) mk).drewN q) (((zL w c n 1 n x y W H (.slice po pn pc) mk q).block _ (qh h.scm.map)).trans h.scm.map) c n;rw[h.at_none hs] at this;exact this
 obtain⟨ro,rc,hov⟩:=qr h.row;rw[List.length_map] at hov;obtain⟨m,hm⟩:∃ m,m=l.length:=⟨_,rfl⟩;rw[<-hm] at hov;subst hov;have hfn:=h.none hs;have HH:=qg h;have HM:=qg hm;have HFN:=qg hfn;unfold zZ yt;clear h hm hfn
 go_enter Tryz.func114,Tryz.ntmps114
 go_wp2
 go_quiet (fail)
 obtain⟨w1,hw1⟩:∃ w1,w1=(bxd w c n 1 n x y W H (.slice po pn pc) mk).drewN nq:=⟨_,rfl⟩;rw[<-hw1];have hB1:Below w.heap.size w w1:=(by rw[hw1];exact zL _ _ _ _ _ _ _ _ _ _ _ _);have hO1:=Qz w c n 1 n x y W H (.slice po pn pc) mk nq;have hK1:=kY w c n 1 n x y W H (.slice po pn pc) mk nq;rw[<-hw1] at hO1 hK1;have k0:w1.cell? ⟨w.heap.size+1,0,none⟩=some (.int .i64 1):=qe hO1 0;have k2':w1.cell? ⟨w.heap.size+1,2,none⟩=some (.int .i64 x):=qe hO1 2;have k3':w1.cell? ⟨w.heap.size+1,3,none⟩=some (.int .i64 y):=qe hO1 3;have y0:w1.cell? ⟨w.heap.size,0,none⟩=some (.int .i64 c):=qe hK1 0;have y1:w1.cell? ⟨w.heap.size,1,none⟩=some (.int .i64 n):=qe hK1 1;have x0:w1.cell? ⟨sb,0,none⟩=some (.map (some mb)):=(hB1.cell l1).trans c0;have hM1:w1.heap[mb]?=some (.map (L.map ke).toArray clock):=(hB1.block _ lmb).trans (qb HH).scm.map;obtain⟨w2,hw2⟩:∃ w2:World,w2=(w1.alloc (.cells #[.int .i64 x,.int .i64 y,.int .i64 0,.int .i64 0,.slice none 0 0,.int .i64 0,.int .i64 0,.int .i64 0] 236)).drew:=⟨_,rfl⟩;have hM2:w2.heap[mb]?=some (.map (L.map ke).toArray clock):=(by rw[hw2];exact qx hM1 _);obtain⟨w3,hw3⟩:∃ w3:World,w3={w2 with heap:=w2.heap.setIfInBounds mb (.map ((L++[Ke.mk c n (.pointer (some ⟨w1.heap.size,0,none⟩)) clock]).map ke).toArray (clock+1))}:=⟨_,rfl⟩;have hup:=Jl hM2 c n (.pointer (some ⟨w1.heap.size,0,none⟩)) (qb HFN);rw[<-hw3,hw2] at hup;unfold zZ at hup;have l2:w.heap.size<w1.heap.size:=qh hK1;have l3:w.heap.size+1<w1.heap.size:=qh hO1;have hB2:Below w1.heap.size w1 w2:=(by rw[hw2];exact ((Below.refl _ w1).alloc (zzl _) _).drew);obtain⟨hM3,hP3⟩:=Vp (w:=w2) (o':=.map ((L++[Ke.mk c n (.pointer (some ⟨w1.heap.size,0,none⟩)) clock]).map ke).toArray (clock+1)) hM2;rw[<-hw3] at hM3 hP3;have hN2:w2.heap[w1.heap.size]?=some (.cells #[.int .i64 x,.int .i64 y,.int .i64 0,.int .i64 0,.slice none 0 0,.int .i64 0,.int .i64 0,.int .i64 0] 236 (0,0)):=(by rw[hw2];exact qt w1 _ _ rfl);have hN3:w3.heap[w1.heap.size]?=some (.cells #[.int .i64 x,.int .i64 y,.int .i64 0,.int .i64 0,.slice none 0 0,.int .i64 0,.int .i64 0,.int .i64 0] 236 (0,0)):=hP3.heap hN2 (by omega);have hK3:w3.heap[w.heap.size]?=some (.cells #[.int .i64 c,.int .i64 n] 173):=hP3.heap ((hB2.block _ l2).trans hK1) (by omega);have hO3:=hP3.heap ((hB2.block _ l3).trans hO1) (by omega);have hBw3:But (fun k=>k=mb) w w3:=((But.of_below hB1).trans (.of_below hB2)).trans hP3;have hSc3:w3.heap[sb]?=some (.cells #[.map (some mb),.slice ro m rc,.int .i64 beh] 176 (0,0)):=hBw3.heap (qb HH).scm.blk hsm;have p0:w3.cell? ⟨sb,0,none⟩=some (.map (some mb)):=qe hSc3 0;have p1:w3.cell? ⟨w.heap.size,0,none⟩=some (.int .i64 c):=qe hK3 0;have p2:w3.cell? ⟨w.heap.size,1,none⟩=some (.int .i64 n):=qe hK3 1;have p3:w3.cell? ⟨w.heap.size+1,2,none⟩=some (.int .i64 x):=qe hO3 2;have p4:w3.cell? ⟨w.heap.size+1,3,none⟩=some (.int .i64 y):=qe hO3 3;have p5:w3.cell? ⟨sb,1,none⟩=some (.slice ro m rc):=qe hSc3 1;have p6:w3.heap.size=w1.heap.size+1:=by
  have:w2.heap.size=w1.heap.size+1:=(by rw[hw2];simp);rw[hw3];simp[this]
 have p7:∀ j,w3.frozen? ⟨sb,j,none⟩=false:=fun j=>qj hSc3 j;have HB1:=qg hB1;have HN3:=qg hN3;have HM3:=qg hM3;have HBw3:=qg hBw3;have HSc3:=qg hSc3;have HP6:=qg p6;have HK3:=qg hK3;clear hlk hB1 hO1 hK1 hw1 c0 c1 hM1 hw2 hw3 hM2 hM3 hB2 hP3 hN2 hN3 hK3 hO3 hBw3 hSc3 p6;go_wp2
 go_region_held3 (fun w'=>w'.cell? ⟨sb,0,none⟩=some (.map (some mb))/\w'.cell? ⟨w.heap.size,0,none⟩=some (.int .i64 c)/\w'.cell? ⟨w.heap.size,1,none⟩=some (.int .i64 n)/\w'.cell? ⟨w.heap.size+1,2,none⟩=some (.int .i64 x)/\w'.cell? ⟨w.heap.size+1,3,none⟩=some (.int .i64 y))
  (first | (refine⟨?_,?_,?_,?_,?_⟩<;>assumption) | go_keep)
  (fail)
 simp only[Exit.then];go_simp;go_wp2;obtain⟨W4,hW4⟩:∃ W4:World,W4=(w3.alloc (.cells #[.int .i64 c,.int .i64 n] 173)).drew:=⟨_,rfl⟩;have hB4:Below w3.heap.size w3 W4:=(by rw[hW4];exact ((Below.refl _ w3).alloc (zzl _) _).drew);have hN4:W4.heap[w3.heap.size]?=some (.cells #[.int .i64 c,.int .i64 n] 173):=(by rw[hW4];exact qt w3 _ _ rfl);have hR3:qN w3 0 173 (.slice ro m rc) (l.map fun s=>k2 (qw s)):=qi (qb HH).row (qb HBw3) (fun k hk e=>(qb HH).mb_ov (by rw[hk,e]));have hR4:qN W4 0 173 (.slice ro m rc) (l.map fun s=>k2 (qw s)):=qi hR3 (S:=fun _=>False) (.of_below hB4) (fun _ _ h=>h);obtain⟨i0',hi',hz0,hz1,hz2⟩:=info_parts QW;obtain⟨v',w5,hrun,hO5,hg5,_,hv5⟩:=run_append_own_at (P:=Tryz.prog) (w:=W4) 0 170 170 173 i0' _ 2 16 Tryz.underlying170 hi' hz0 hz1 hz2 rfl (by decide) (.slice ro m rc) _ _ hR4 ⟨w3.heap.size,0,none⟩ 1 1 [.int .i64 c,.int .i64 n] rfl (xT hN4) (by simp[Value.oneCell']) (by simp;simp only[maxLen];omega) (by simp;omega) (Nat.zero_le _);obtain⟨g',cap',hv'⟩:=jH hO5 (by omega);obtain⟨m5,hm5⟩:∃ m5,m5=(l.map fun s=>k2 (qw s)).length+1:=⟨_,rfl⟩;rw[<-hm5] at hv' hO5;subst hv';have hov4:∀ k,(Value.slice ro m rc).ownBlock=some k->k<w3.heap.size:=fun k hk=>(World.ownsRow.lt hR3 k hk).2;have hSc4:W4.heap[sb]?=some (.cells #[.map (some mb),.slice ro m rc,.int .i64 beh] 176 (0,0)):=(hB4.block _ (qh (qb HSc3))).trans (qb HSc3);have hBg:But (fun k=>(Value.slice ro m rc).ownBlock=some k) W4 w5:=.of_grown hg5 (fun k e=>e);have hSc5:=hBg.heap hSc4 (qb HH).sb_ov;have r1:w5.cell? ⟨sb,1,none⟩=some (.slice ro m rc):=qe hSc5 1;have r2:∀ j,w5.frozen? ⟨sb,j,none⟩=false:=fun j=>qj hSc5 j;have HR:=qg hrun;have HO5:=qg hO5;have HV5:=qg hv5;have HSc5:=qg hSc5;have HBg:=qg hBg;have HB4:=qg hB4;have HW4:=qg hW4;have HM5:=qg hm5;have HOV:=qg hov4;clear hB4 hN4 hR3 hR4 hi' hz0 hz1 hz2 hrun hO5 hg5 hv5 hSc4 hBg hSc5 hm5 hup hov4;subst hW4;have s1:sb<w3.heap.size:=qh (qb HSc3);have s2:w.heap.size<w3.heap.size:=qh (qb HK3);have s3:(w3.alloc (.cells #[.int .i64 c,.int .i64 n] 173)).cell? ⟨sb,1,none⟩=some (.slice ro m rc):=((Below.refl w3.heap.size w3).alloc (zzl _) _).cell s1 |>.trans p5
 go_region_law (refine zS (by kernel_rfl) (.tmp 34) (.tmp 36) 170 170 (by kernel_rfl) (by kernel_rfl) (.slice ro m rc) (.slice (some ⟨w3.heap.size,0,none⟩) 1 1) _ _ (by kernel_rfl) (by kernel_rfl) (qb HR) ?_)
 all_goals
  simp only[Exit.inBlock,Exit.then];go_simp;go_wp2;go_ret;refine⟨rfl,?_⟩;have hB4:=qb HB4;have hBg:=qb HBg;have sz1:=(qb HB1).size;have sz3:=(qb HBw3).size;have p6:=qb HP6;have sz4:=hB4.size;have sz5:=hBg.size;have lmb3:mb<w3.heap.size:=(by omega);have ln3:w1.heap.size<w3.heap.size:=(by omega);have hovlt:∀ k,(Value.slice ro m rc).ownBlock=some k->k<w.heap.size:=fun k hk=>hCl k ((qb HH).cov k hk);have hM5:=hBg.heap ((hB4.block _ lmb3).trans (qb HM3)) (qb HH).mb_ov;have hN5:=hBg.heap ((hB4.block _ ln3).trans (qb HN3)) (fun e=>by have:=hovlt _ e;omega);have hOc:c2 (l.map fun s=>k2 (qw s))++[.int .i64 c,.int .i64 n]=c2 ((l++[(⟨c,n,x,y,0,0,[],0,0,0⟩:Srf)]).map fun s=>k2 (qw s)):=by
   rw[List.map_append,zs];rfl
  have hm5:m5=((l++[(⟨c,n,x,y,0,0,[],0,0,0⟩:Srf)]).map fun s=>k2 (qw s)).length:=(by rw[qb HM5];simp);have hO5:qN w5 0 173 (.slice (some ⟨g',0,none⟩) m5 cap') ((l++[(⟨c,n,x,y,0,0,[],0,0,0⟩:Srf)]).map fun s=>k2 (qw s)):=by
   have:=qb HO5;rw[hOc] at this;rw[qN,<-hm5];exact this
  have hgsb:¬g'=sb:=fun e=>by
   rcases qb HV5 with q | q
   ·exact (qb HH).sb_ov (by rw[<-q,<-e];rfl)
   ·have:g'=(w3.alloc (.cells #[.int .i64 c,.int .i64 n] 173)).drew.heap.size:=(by have:=q;simp only[Value.ownBlock,Option.some.injEq] at this;exact this);rw[e] at this;omega
  have hO6:qN (w5.setCell ⟨sb,1,none⟩ (.slice (some ⟨g',0,none⟩) m5 cap')) 0 173 (.slice (some ⟨g',0,none⟩) m5 cap') ((l++[(⟨c,n,x,y,0,0,[],0,0,0⟩:Srf)]).map fun s=>k2 (qw s)):=qi hO5 ((But.refl (fun k=>k=sb) w5).setCell (p:=⟨sb,1,none⟩) (.inl rfl) _) (fun k hk e=>by cases hk;exact hgsb e);have hS6:=qp (i:=1) (qb HSc5) (.slice (some ⟨g',0,none⟩) m5 cap');have hM6:=qu hM5 (p:=⟨sb,1,none⟩) (fun e=>hsm e.symm) (.slice (some ⟨g',0,none⟩) m5 cap');have hN6:=qu hN5 (p:=⟨sb,1,none⟩) (by show w1.heap.size≠sb;omega) (.slice (some ⟨g',0,none⟩) m5 cap');have hB6:But (fun k=>k=sb\/k=mb\/(Value.slice ro m rc).ownBlock=some k) w (w5.setCell ⟨sb,1,none⟩ (.slice (some ⟨g',0,none⟩) m5 cap')):=((((qb HBw3).wide (fun k _ e=>.inr (.inl e))).trans (.of_below hB4)).trans (hBg.wide (fun k _ e=>.inr (.inr e)))).setCell (p:=⟨sb,1,none⟩) (.inl (.inl rfl)) _;have hsz:(w5.setCell ⟨sb,1,none⟩ (.slice (some ⟨g',0,none⟩) m5 cap')).heap.size=w5.heap.size:=(by simp[World.setCell]);refine⟨⟨_,_,_,_,_,(qb HH).more (u:=⟨c,n,x,y,0,0,[],0,0,0⟩) (v:=.slice none 0 0) (nb:=w1.heap.size) hs xn (.inr ⟨sz1,by rw[hsz];omega⟩) sz1 hB6 (fun _ h=>h) hCU hS6 hM6 hO6 ?_ hN6 ⟨none,0,rfl,zzl _,Nat.zero_le _,fun h=>absurd rfl h⟩⟩,hB6.wide ?_⟩
  ·intro k hk
   rcases qb HV5 with q | q
   ·exact .inl ((qb HH).cov k (by rw[<-q];exact hk))
   ·have hk':=(World.ownsRow.lt hO5 k hk).2;have:k=(w3.alloc (.cells #[.int .i64 c,.int .i64 n] 173)).drew.heap.size:=(by rw[hk] at q;exact Option.some.inj q);exact .inr ⟨by rw[this];omega,by rw[hsz];exact hk'⟩
  ·rintro k _ (e | e | e)
   ·rw[e];exact (qb HH).csb
   ·rw[e];exact (qb HH).cmb
   ·exact (qb HH).cov _ e
def Xg (a b:Rc):Bool:=a.x == b.x&&a.y == b.y&&a.w == b.w&&a.h == b.h
theorem Jm (a b:Rc)(w:World):(Op.equal 46 (yQ a) (yQ b)).run Tryz.prog w=.ok (Xg a b) w:=by
 unfold yQ Op.equal Xg;rw[show Op.maxDepth=9999+1 from rfl,run_equalIn_struct w 9999 46 _ _ (by kernel_rfl) (by kernel_rfl)];go_simp
 by_cases e1:a.x=b.x<;>by_cases e2:a.y=b.y<;>by_cases e3:a.w=b.w<;>by_cases e4:a.h=b.h<;>simp[e1,e2,e3,e4]
theorem QH (a b:Rc)(w:World):(binOp .eql 46 (yQ a) (yQ b)).run Tryz.prog w=.ok (.bool (Xg a b)) w:=by
 have:=Jm a b w;unfold yQ at this ⊢;simp only[binOp];simp[this]
def xu (C U:Nat->Prop)(w:World)(sb:Nat)(beh:Int)(l:List Srf):Prop:=∃ mb ov L clock bk pv,Scn C U w sb beh l mb ov L clock bk pv
theorem xu.but {C U S:Nat->Prop}{w w':World}{sb:Nat}{beh:Int}{l:List Srf}(h:xu C U w sb beh l)(hb:But S w w')(hS:∀ k,C k->¬S k)(hU:∀ k,U k->¬S k):xu C U w' sb beh l:=by
 obtain⟨mb,ov,L,clock,bk,pv,h⟩:=h;exact⟨mb,ov,L,clock,bk,pv,h.but hb hS hU⟩
theorem xu.mono {C U C' U':Nat->Prop}{w:World}{sb:Nat}{beh:Int}{l:List Srf}(h:xu C U w sb beh l)(hC:∀ k,C k->C' k)(hU:∀ k,U k->U' k):xu C' U' w sb beh l:=by
 obtain⟨mb,ov,L,clock,bk,pv,h⟩:=h;exact⟨mb,ov,L,clock,bk,pv,h.mono hC hU⟩
theorem xu.below {C U:Nat->Prop}{w w':World}{sb:Nat}{beh:Int}{l:List Srf}(h:xu C U w sb beh l)(hb:Below w.heap.size w w'):xu C U w' sb beh l:=by
 obtain⟨mb,ov,L,clock,bk,pv,h⟩:=h;exact⟨mb,ov,L,clock,bk,pv,h.below hb⟩
theorem xu.nd {C U:Nat->Prop}{w:World}{sb:Nat}{beh:Int}{l:List Srf}(h:xu C U w sb beh l):(l.map qw).Nodup:=by
 obtain⟨mb,ov,L,clock,bk,pv,h⟩:=h;exact h.nd
def zi (l:List Srf)(c:Int)(o:Opn):List Srf×Bool:=
 if o.kind=1 then (l++[⟨c,o.surf,o.x,o.y,0,0,[],0,0,0⟩],false)
 else match l[l.findIdx (isK c o.surf)]? with
  | none=>(l,false)
  | some s=>
   if o.kind=2 then (yT l c o.surf,true)
   else if o.kind=3 then (xr l {s with w:=o.w,h:=o.h,px:=o.px},true)
   else if o.kind=4 then (xr l {s with x:=o.x,y:=o.y,dx:=0,dy:=0,left:=0},!(s.x == o.x&&s.y == o.y))
   else if o.kind=5 then (vy l (l.findIdx (isK c o.surf)) (l.length-1) s,!decide (l.findIdx (isK c o.surf)=l.length-1))
   else if o.kind=6 then (vy l (l.findIdx (isK c o.surf)) 0 s,!decide (l.findIdx (isK c o.surf)=0))
   else (xr l {s with dx:=o.x,dy:=o.y,left:=o.w},false)
def ZS (l:List Srf)(c:Int)(o:Opn):Prop:=(o.kind=1/\(c,o.surf)∉l.map qw)\/((2<=o.kind/\o.kind<=7)/\(c,o.surf)∈l.map qw)
theorem xC {l:List Srf}{c n:Int}(h:(c,n)∈l.map qw):∃ s,l[l.findIdx (isK c n)]?=some s/\s.cl=c/\s.num=n:=by
 obtain⟨s,hs,hk⟩:=List.mem_map.1 h;have hlt:l.findIdx (isK c n)<l.length:=List.findIdx_lt_length_of_exists ⟨s,hs,ju.2 hk⟩;have hp:=List.findIdx_getElem (w:=hlt);have:=ju.1 hp;simp only[qw,Prod.mk.injEq] at this;exact⟨_,List.getElem?_eq_getElem hlt,this.1,this.2⟩
theorem qs2 (a b:Nat):(!((a:Int) == (b:Int)))=!decide (a=b):=by
 by_cases h:a=b
 ·simp[h]
 ·have:¬(a:Int)=(b:Int):=(by omega);simp[h,this]
def ZI (o:Opn)(pv:Value):Value:=yt o.kind o.surf o.x o.y o.w o.h pv o.mark
theorem qb3 {C U:Nat->Prop}{w:World}{sb:Nat}{beh:Int}{l:List Srf}(h:xu C U w sb beh l)(hCU:∀ k,C k->¬U k)(hCl:∀ k,C k->k<w.heap.size)(hl:l.length<=1000)(c:Int)(o:Opn)(po:Option Addr)(pn pc:Nat)(hR:RdN U w (.slice po pn pc) o.px)(hf:ZS l c o) :
 Calls Tryz.prog 114 #[.pointer (some ⟨sb,0,none⟩),zZ c o.surf,ZI o (.slice po pn pc)] w fun e w'=>e=.returned (.bool (zi l c o).2)/\xu (grow C w w') U w' sb beh (zi l c o).1/\But C w w':=by
 obtain⟨mb,ov,L,clock,bk,pv,h⟩:=h;obtain⟨kd,sf,x,y,W,H,px,mk⟩:=o
 rcases hf with ⟨hk,hn⟩ | ⟨hk,hm⟩
 ·simp only at hk;subst hk;refine (ql9 h hCU hCl hl c sf hn x y W H mk po pn pc).mono ?_;rintro e w' ⟨rfl,⟨ov',L',clock',bk',pv',h'⟩,hb⟩;exact⟨by simp[zi],⟨_,_,_,_,_,_,h'⟩,hb⟩
 ·obtain⟨s,hs,rfl,rfl⟩:=xC hm;simp only at hk hs hR;have hsm:s∈l:=zzn hs;have hil:=(zzg hs).1;have hcase:kd=2\/kd=3\/kd=4\/kd=5\/kd=6\/kd=7:=by omega
  rcases hcase with rfl | rfl | rfl | rfl | rfl | rfl
  ·refine (qw8 h hCU hCl hl hsm x y W H mk po pn pc).mono ?_;rintro e w' ⟨rfl,⟨ov',L',h'⟩,hb⟩;exact⟨by simp[zi,hs],⟨_,_,_,_,_,_,by simp only[zi,hs];exact h'.mono xn (fun _ h=>h)⟩,hb⟩
  ·refine (qw7 h hCU hsm x y W H mk po pn pc px hR).mono ?_;rintro e w' ⟨rfl,⟨pv',h'⟩,hb⟩;exact⟨by simp[zi,hs],⟨_,_,_,_,_,_,by simp only[zi,hs];exact h'.mono xn (fun _ h=>h)⟩,hb⟩
  ·refine (qw6 h hCU hsm x y W H mk po pn pc).mono ?_;rintro e w' ⟨rfl,⟨pv',h'⟩,hb⟩;exact⟨by simp[zi,hs],⟨_,_,_,_,_,_,by simp only[zi,hs];exact h'.mono xn (fun _ h=>h)⟩,hb⟩
  ·refine (qw5 h hCU hCl hl hs rfl x y W H mk po pn pc).mono ?_;rintro e w' ⟨rfl,h',hb⟩;exact⟨by rw[qs2];simp[zi,hs],⟨_,_,_,_,_,_,by simp only[zi,hs];exact h'.mono xn (fun _ h=>h)⟩,hb⟩
  ·refine (qw4 h hCU hCl hl hs rfl x y W H mk po pn pc).mono ?_;rintro e w' ⟨rfl,h',hb⟩;exact⟨by rw[qs2];simp[zi,hs],⟨_,_,_,_,_,_,by simp only[zi,hs];exact h'.mono xn (fun _ h=>h)⟩,hb⟩
  ·refine (qw3 h hCU hsm x y W H mk po pn pc).mono ?_;rintro e w' ⟨rfl,⟨pv',h'⟩,hb⟩;exact⟨by simp[zi,hs],⟨_,_,_,_,_,_,by simp only[zi,hs];exact h'.mono xn (fun _ h=>h)⟩,hb⟩
theorem zc7 {C U:Nat->Prop}{w:World}{sb:Nat}{beh:Int}{l:List Srf}(h:xu C U w sb beh l)(hCU:∀ k,C k->¬U k)(hCl:∀ k,C k->k<w.heap.size)(hl:l.length<=1000)(c:Int)(o:Opn)(po:Option Addr)(pn pc:Nat)(hR:RdN U w (.slice po pn pc) o.px)(hf:ZS l c o){bs bq bo:Nat}
 (h1:w.heap[bs]?=some (.cells #[.pointer (some ⟨sb,0,none⟩)] 105)) (h2:w.heap[bq]?=some (.cells #[.int .i64 c,.int .i64 o.surf] 173)) (h3:w.heap[bo]?=some (.cells #[.int .i64 o.kind,.int .i64 o.surf,.int .i64 o.x,.int .i64 o.y,.int .i64 o.w,.int .i64 o.h,.slice po pn pc,.int .i64 o.mark] 52)) :
 Calls Tryz.prog 113 #[.pointer (some ⟨bs,0,none⟩),.pointer (some ⟨bq,0,none⟩),.pointer (some ⟨bo,0,none⟩)] w fun e w'=>e=.returned (.bool (zi l c o).2)/\xu (grow C w w') U w' sb beh (zi l c o).1/\But C w w':=by
 have hc:=qb3 h hCU hCl hl c o po pn pc hR hf;unfold ZI yt zZ at hc;obtain⟨bb,hbb⟩:∃ bb,bb=(zi l c o).2:=⟨_,rfl⟩;rw[<-hbb] at hc ⊢;have HC:=qg hc;have a0:w.cell? ⟨bs,0,none⟩=some (.pointer (some ⟨sb,0,none⟩)):=qe h1 0;have b0:w.cell? ⟨bq,0,none⟩=some (.int .i64 c):=qe h2 0;have b1:w.cell? ⟨bq,1,none⟩=some (.int .i64 o.surf):=qe h2 1;have d0:w.cell? ⟨bo,0,none⟩=some (.int .i64 o.kind):=qe h3 0;have d1:w.cell? ⟨bo,1,none⟩=some (.int .i64 o.surf):=qe h3 1;have d2:w.cell? ⟨bo,2,none⟩=some (.int .i64 o.x):=qe h3 2;have d3:w.cell? ⟨bo,3,none⟩=some (.int .i64 o.y):=qe h3 3;have d4:w.cell? ⟨bo,4,none⟩=some (.int .i64 o.w):=qe h3 4;have d5:w.cell? ⟨bo,5,none⟩=some (.int .i64 o.h):=qe h3 5;have d6:w.cell? ⟨bo,6,none⟩=some (.slice po pn pc):=qe h3 6;have d7:w.cell? ⟨bo,7,none⟩=some (.int .i64 o.mark):=qe h3 7;clear hc hbb h hR hf h1 h2 h3
 go_enter Tryz.func113,Tryz.ntmps113
 go_wp2_with (go_at_call 114;refine (qb HC).mono ?_;rintro e w' ⟨rfl,h1,h2⟩;have H1:=qg h1;have H2:=qg h2;clear h1 h2)
 go_ret;exact⟨rfl,qb H1,qb H2⟩
structure Gr (C C':Nat->Prop)(w w':World):Prop where
 old:∀ k,C k->C' k
 new:∀ k,C' k->C k\/(w.heap.size<=k/\k<w'.heap.size)
theorem Gr.refl (C:Nat->Prop)(w w':World):Gr C C w w':=⟨fun _ h=>h,fun _ h=>.inl h⟩
theorem Gr.grow (C:Nat->Prop)(w w':World):Gr C (grow C w w') w w':=⟨fun _ h=>.inl h,fun _ h=>h⟩
theorem Gr.trans {A B C:Nat->Prop}{a b c:World}(h:Gr A B a b)(k:Gr B C b c)(h1:a.heap.size<=b.heap.size)(h2:b.heap.size<=c.heap.size):Gr A C a c:=
 ⟨fun i hi=>k.old i (h.old i hi),fun i hi=>by
  rcases k.new i hi with q | q
  ·rcases h.new i q with r | r
   ·exact .inl r
   ·exact .inr ⟨r.1,by omega⟩
  ·exact .inr ⟨by omega,q.2⟩⟩
theorem Gr.wide {A B:Nat->Prop}{a b a' b':World}(h:Gr A B a b)(h1:a'.heap.size<=a.heap.size)(h2:b.heap.size<=b'.heap.size):Gr A B a' b':=
 ⟨h.old,fun i hi=>by
  rcases h.new i hi with r | r
  ·exact .inl r
  ·exact .inr ⟨by omega,by omega⟩⟩
theorem Gr.lt {A B:Nat->Prop}{a b:World}(h:Gr A B a b)(hA:∀ k,A k->k<a.heap.size)(hs:a.heap.size<=b.heap.size):∀ k,B k->k<b.heap.size:=fun k hk=>by
 rcases h.new k hk with r | r
 ·have:=hA k r;omega
 ·exact r.2
theorem Gr.apart {A B U:Nat->Prop}{a b:World}(h:Gr A B a b)(hA:∀ k,A k->¬U k)(hU:∀ k,U k->k<a.heap.size):∀ k,B k->¬U k:=fun k hk hu=>by
 rcases h.new k hk with r | r
 ·exact hA k r hu
 ·have:=hU k hu;omega
def vd (ch:Bool)(a b:Rc):List Rc:=if ch=false then [] else if Xg b a=true then [a] else [a,b]
theorem kN {w:World}{g base:Nat}{l:List Rc}(h:w.heap[g]?=some (.cells (qK l).toArray 46 (0,0)))(hb:base<=g)(hm:l.length<=maxLen):Own w base (.slice (some ⟨g,0,none⟩) l.length l.length) l:=
 ⟨qM l,.inr ⟨g,l.length,_,rfl,hb,h,zzl _,hm,by simp[qM],by rw[List.toList_toArray,List.take_of_length_le (by rw[qM];exact zzl _)]⟩⟩
theorem ql4 {C U:Nat->Prop}{w:World}{sb:Nat}{beh:Int}{l l':List Srf}(h:xu C U w sb beh l)(hCl:∀ k,C k->k<w.heap.size)(c n:Int)(ch:Bool)(p1 p2 p3:Nat)
 (hcl:∀ W,Below w.heap.size w W->Calls Tryz.prog 113 #[.pointer (some ⟨p1,0,none⟩),.pointer (some ⟨p2,0,none⟩),.pointer (some ⟨p3,0,none⟩)] W fun e w'=>e=.returned (.bool ch)/\xu (grow C W w') U w' sb beh l'/\But C W w') :
 Calls Tryz.prog 112 #[.pointer (some ⟨sb,0,none⟩),zZ c n,.func (.func 113) #[] #[.pointer (some ⟨p1,0,none⟩),.pointer (some ⟨p2,0,none⟩),.pointer (some ⟨p3,0,none⟩)]] w fun e w'=>(∃ v C',e=.returned v/\Gr C C' w w'/\xu C' U w' sb beh l'/\Own w' w.heap.size v (vd ch (jW l c n) (jW l' c n))/\∀ k,v.ownBlock=some k->¬C' k)/\But C w w':=by
 have HCov:Hid (∀ W,Below w.heap.size w W->Calls Tryz.prog 133 #[.pointer (some ⟨sb,0,none⟩),.agg #[.int .i64 c,.int .i64 n]] W fun e w'=>e=.returned (yQ (jW l c n))/\Below W.heap.size W w'):=fun W hb=>by
  obtain⟨mb,ov,L,clock,bk,pv,h⟩:=h;exact (h.below hb).covered c n
 have HCov2:Hid (∀ W C',xu C' U W sb beh l'->Calls Tryz.prog 133 #[.pointer (some ⟨sb,0,none⟩),.agg #[.int .i64 c,.int .i64 n]] W fun e w'=>e=.returned (yQ (jW l' c n))/\Below W.heap.size W w'):=fun W C' hs=>by
  obtain⟨mb,ov,L,clock,bk,pv,hs⟩:=hs;exact hs.covered c n
 obtain⟨a,ha⟩:∃ a,a=jW l c n:=⟨_,rfl⟩;obtain⟨b,hb⟩:∃ b,b=jW l' c n:=⟨_,rfl⟩;rw[<-ha] at HCov ⊢;rw[<-hb] at HCov2 ⊢;unfold yQ at HCov HCov2;have HCl:=qg hcl;unfold zZ;clear h hcl ha hb
 cases ch with
 | false=>
  go_enter Tryz.func112,Tryz.ntmps112
  go_wp2_with (first
    | (go_at_call 133
       refine ((qb HCov) _ ((Below.refl _ w).alloc (zzl _) _)).mono ?_
       rintro e w1 ⟨rfl,hb1⟩
       have hB1:Below w.heap.size w w1:=((Below.refl _ w).alloc (zzl _) _).trans (hb1.mono (by simp))
       have HB1:=qg hB1
       clear hb1 hB1)
    | (go_at_call 113
       refine ((qb HCl) _ ((qb HB1).alloc (qb HB1).size _)).mono ?_
       rintro e w2 ⟨rfl,hs2,hb2⟩
       have HS2:=qg hs2
       have HB2:=qg hb2
       clear hs2 hb2))
  go_ret;have hBw:But C w w2:=((But.of_below (qb HB1)).alloc _).trans (qb HB2);have s1:=(qb HB1).size;have s2:=(qb HB2).size;refine⟨⟨_,_,rfl,(Gr.grow _ _ _).wide (by simp;omega) (zzl _),qb HS2,?_,fun k hk=>by simp[Value.ownBlock] at hk⟩,hBw⟩;exact⟨rfl,.inl ⟨rfl,rfl⟩⟩
 | true=>
  go_enter Tryz.func112,Tryz.ntmps112
  have he:∀ W,(binOp .eql 46 (.agg #[.int .i64 b.x,.int .i64 b.y,.int .i64 b.w,.int .i64 b.h]) (.agg #[.int .i64 a.x,.int .i64 a.y,.int .i64 a.w,.int .i64 a.h])).run Tryz.prog W=.ok (.bool (Xg b a)) W:=fun W=>QH b a W
  go_wp2_with (first
    | (go_at_call 113
       refine ((qb HCl) _ ((qb HB1).alloc (qb HB1).size _)).mono ?_
       rintro e w2 ⟨rfl,hs2,hb2⟩
       have hK2:w2.heap[w.heap.size]?=some (.cells #[.int .i64 c,.int .i64 n] 173):=hb2.heap (qx (qb HK1) _) (fun hc=>Nat.lt_irrefl _ (hCl _ hc))
       have hA2:w2.heap[w1.heap.size]?=some (.cells #[.int .i64 a.x,.int .i64 a.y,.int .i64 a.w,.int .i64 a.h] 46):=hb2.heap (qt w1 _ _ rfl) (fun hc=>by have:=hCl _ hc;have:=(qb HB1).size;omega)
       have t0:w2.cell? ⟨w.heap.size,0,none⟩=some (.int .i64 c):=qe hK2 0
       have t1:w2.cell? ⟨w.heap.size,1,none⟩=some (.int .i64 n):=qe hK2 1
       have HS2:=qg hs2
       have HB2:=qg hb2
       have HA2:=qg hA2
       clear hs2 hb2 hA2 hK2)
    | (go_at_call 133
       first
         | (refine ((qb HCov2) w2 _ (qb HS2)).mono ?_
            rintro e w3 ⟨rfl,hb3⟩
            have hA3:w3.heap[w1.heap.size]?=some (.cells #[.int .i64 a.x,.int .i64 a.y,.int .i64 a.w,.int .i64 a.h] 46):=(hb3.block _ (qh (qb HA2))).trans (qb HA2)
            have u0:w3.cell? ⟨w1.heap.size,0,none⟩=some (.int .i64 a.x):=qe hA3 0
            have u1:w3.cell? ⟨w1.heap.size,1,none⟩=some (.int .i64 a.y):=qe hA3 1
            have u2:w3.cell? ⟨w1.heap.size,2,none⟩=some (.int .i64 a.w):=qe hA3 2
            have u3:w3.cell? ⟨w1.heap.size,3,none⟩=some (.int .i64 a.h):=qe hA3 3
            have lu:w1.heap.size<w3.heap.size:=qh hA3
            have HB3:=qg hb3
            clear hb3 hA3)
         | (refine ((qb HCov) _ ((Below.refl _ w).alloc (zzl _) _)).mono ?_
            rintro e w1 ⟨rfl,hb1⟩
            have hB1:Below w.heap.size w w1:=((Below.refl _ w).alloc (zzl _) _).trans (hb1.mono (by simp))
            have hK1:w1.heap[w.heap.size]?=some (.cells #[.int .i64 c,.int .i64 n] 173):=(hb1.block _ (by simp)).trans (qt w _ _ rfl)
            have HB1:=qg hB1
            have HK1:=qg hK1
            clear hb1 hB1 hK1)))
  all_goals
   rename_i hq;go_ret;have s1:=(qb HB1).size;have s2:=(qb HB2).size;have s3:=(qb HB3).size;simp only[World.size_alloc] at s2
  ·have hL:Below w2.heap.size w2 ((w3.alloc (.cells #[.int .i64 b.x,.int .i64 b.y,.int .i64 b.w,.int .i64 b.h] 46)).alloc (.cells #[.int .i64 a.x,.int .i64 a.y,.int .i64 a.w,.int .i64 a.h] 46)):=((qb HB3).alloc s3 _).alloc (by simp;omega) _;refine⟨⟨_,_,rfl,(Gr.grow C _ w2).wide (by simp;omega) hL.size,(qb HS2).below hL,?_,?_⟩,(((But.of_below (qb HB1)).alloc _).trans (qb HB2)).trans (.of_below hL)⟩
   ·rw[show vd true a b=[a] by simp[vd,hq]];exact kN (l:=[a]) (qt _ _ _ (by simp)) (by omega) (by simp[maxLen])
   ·intro k hk hc;have hk:w3.heap.size+1=k:=Option.some.inj hk
    rcases hc with hc | hc
    ·have:=hCl k hc;omega
    ·omega
  ·have hL:Below w2.heap.size w2 ((w3.alloc (.cells #[.int .i64 b.x,.int .i64 b.y,.int .i64 b.w,.int .i64 b.h] 46)).alloc (.cells #[.int .i64 a.x,.int .i64 a.y,.int .i64 a.w,.int .i64 a.h,.int .i64 b.x,.int .i64 b.y,.int .i64 b.w,.int .i64 b.h] 46)):=((qb HB3).alloc s3 _).alloc (by simp;omega) _;refine⟨⟨_,_,rfl,(Gr.grow C _ w2).wide (by simp;omega) hL.size,(qb HS2).below hL,?_,?_⟩,(((But.of_below (qb HB1)).alloc _).trans (qb HB2)).trans (.of_below hL)⟩
   ·rw[show vd true a b=[a,b] by simp[vd,hq]];exact kN (l:=[a,b]) (qt _ _ _ (by simp)) (by omega) (by simp[maxLen])
   ·intro k hk hc;have hk:w3.heap.size+1=k:=Option.some.inj hk
    rcases hc with hc | hc
    ·have:=hCl k hc;omega
    ·omega
theorem ql3 {C:Nat->Prop}{w:World}{sb:Nat}(hCl:∀ k,C k->k<w.heap.size)(c n:Int)(ch:Bool)(p1:Nat)(a b:Rc)(Qp:World->Prop)(hQ:∀ W W',Qp W->Below W.heap.size W W'->Qp W')
 (hv1:∀ W,Below w.heap.size w W->Calls Tryz.prog 133 #[.pointer (some ⟨sb,0,none⟩),zZ c n] W fun e w'=>e=.returned (yQ a)/\Below W.heap.size W w')
 (hv2:∀ W,Qp W->Calls Tryz.prog 133 #[.pointer (some ⟨sb,0,none⟩),zZ c n] W fun e w'=>e=.returned (yQ b)/\Below W.heap.size W w')
 (hcl:∀ W,Below w.heap.size w W->Calls Tryz.prog 116 #[.pointer (some ⟨p1,0,none⟩)] W fun e w'=>e=.returned (.bool ch)/\Qp w'/\But C W w') :
 Calls Tryz.prog 112 #[.pointer (some ⟨sb,0,none⟩),zZ c n,.func (.func 116) #[.pointer (some ⟨p1,0,none⟩)] #[]] w fun e w'=>(∃ v,e=.returned v/\Qp w'/\Own w' w.heap.size v (vd ch a b))/\But C w w':=by
 have HCov:=qg hv1;have HCov2:=qg hv2;have HQp:=qg hQ;unfold yQ zZ at HCov HCov2;have HCl:=qg hcl;clear hv1 hv2 hcl hQ;unfold zZ
 cases ch with
 | false=>
  go_enter Tryz.func112,Tryz.ntmps112
  go_wp2_with (first
    | (go_at_call 133
       refine ((qb HCov) _ ((Below.refl _ w).alloc (zzl _) _)).mono ?_
       rintro e w1 ⟨rfl,hb1⟩
       have hB1:Below w.heap.size w w1:=((Below.refl _ w).alloc (zzl _) _).trans (hb1.mono (by simp))
       have HB1:=qg hB1
       clear hb1 hB1)
    | (go_at_call 116
       refine ((qb HCl) _ ((qb HB1).alloc (qb HB1).size _)).mono ?_
       rintro e w2 ⟨rfl,hs2,hb2⟩
       have HS2:=qg hs2
       have HB2:=qg hb2
       clear hs2 hb2))
  go_ret;have hBw:But C w w2:=((But.of_below (qb HB1)).alloc _).trans (qb HB2);have s1:=(qb HB1).size;have s2:=(qb HB2).size;refine⟨⟨_,rfl,qb HS2,?_⟩,hBw⟩;exact⟨rfl,.inl ⟨rfl,rfl⟩⟩
 | true=>
  go_enter Tryz.func112,Tryz.ntmps112
  have he:∀ W,(binOp .eql 46 (.agg #[.int .i64 b.x,.int .i64 b.y,.int .i64 b.w,.int .i64 b.h]) (.agg #[.int .i64 a.x,.int .i64 a.y,.int .i64 a.w,.int .i64 a.h])).run Tryz.prog W=.ok (.bool (Xg b a)) W:=fun W=>QH b a W
  go_wp2_with (first
    | (go_at_call 116
       refine ((qb HCl) _ ((qb HB1).alloc (qb HB1).size _)).mono ?_
       rintro e w2 ⟨rfl,hs2,hb2⟩
       have hK2:w2.heap[w.heap.size]?=some (.cells #[.int .i64 c,.int .i64 n] 173):=hb2.heap (qx (qb HK1) _) (fun hc=>Nat.lt_irrefl _ (hCl _ hc))
       have hA2:w2.heap[w1.heap.size]?=some (.cells #[.int .i64 a.x,.int .i64 a.y,.int .i64 a.w,.int .i64 a.h] 46):=hb2.heap (qt w1 _ _ rfl) (fun hc=>by have:=hCl _ hc;have:=(qb HB1).size;omega)
       have t0:w2.cell? ⟨w.heap.size,0,none⟩=some (.int .i64 c):=qe hK2 0
       have t1:w2.cell? ⟨w.heap.size,1,none⟩=some (.int .i64 n):=qe hK2 1
       have HS2:=qg hs2
       have HB2:=qg hb2
       have HA2:=qg hA2
       clear hs2 hb2 hA2 hK2)
    | (go_at_call 133
       first
         | (refine ((qb HCov2) w2 (qb HS2)).mono ?_
            rintro e w3 ⟨rfl,hb3⟩
            have hA3:w3.heap[w1.heap.size]?=some (.cells #[.int .i64 a.x,.int .i64 a.y,.int .i64 a.w,.int .i64 a.h] 46):=(hb3.block _ (qh (qb HA2))).trans (qb HA2)
            have u0:w3.cell? ⟨w1.heap.size,0,none⟩=some (.int .i64 a.x):=qe hA3 0
            have u1:w3.cell? ⟨w1.heap.size,1,none⟩=some (.int .i64 a.y):=qe hA3 1
            have u2:w3.cell? ⟨w1.heap.size,2,none⟩=some (.int .i64 a.w):=qe hA3 2
            have u3:w3.cell? ⟨w1.heap.size,3,none⟩=some (.int .i64 a.h):=qe hA3 3
            have lu:w1.heap.size<w3.heap.size:=qh hA3
            have HB3:=qg hb3
            clear hb3 hA3)
         | (refine ((qb HCov) _ ((Below.refl _ w).alloc (zzl _) _)).mono ?_
            rintro e w1 ⟨rfl,hb1⟩
            have hB1:Below w.heap.size w w1:=((Below.refl _ w).alloc (zzl _) _).trans (hb1.mono (by simp))
            have hK1:w1.heap[w.heap.size]?=some (.cells #[.int .i64 c,.int .i64 n] 173):=(hb1.block _ (by simp)).trans (qt w _ _ rfl)
            have HB1:=qg hB1
            have HK1:=qg hK1
            clear hb1 hB1 hK1)))
  all_goals
   rename_i hq;go_ret;have s1:=(qb HB1).size;have s2:=(qb HB2).size;have s3:=(qb HB3).size;simp only[World.size_alloc] at s2
  ·have hL:Below w2.heap.size w2 ((w3.alloc (.cells #[.int .i64 b.x,.int .i64 b.y,.int .i64 b.w,.int .i64 b.h] 46)).alloc (.cells #[.int .i64 a.x,.int .i64 a.y,.int .i64 a.w,.int .i64 a.h] 46)):=((qb HB3).alloc s3 _).alloc (by simp;omega) _;refine⟨⟨_,rfl,(qb HQp) _ _ (qb HS2) hL,?_⟩,(((But.of_below (qb HB1)).alloc _).trans (qb HB2)).trans (.of_below hL)⟩
   ·rw[show vd true a b=[a] by simp[vd,hq]];exact kN (l:=[a]) (qt _ _ _ (by simp)) (by omega) (by simp[maxLen])
  ·have hL:Below w2.heap.size w2 ((w3.alloc (.cells #[.int .i64 b.x,.int .i64 b.y,.int .i64 b.w,.int .i64 b.h] 46)).alloc (.cells #[.int .i64 a.x,.int .i64 a.y,.int .i64 a.w,.int .i64 a.h,.int .i64 b.x,.int .i64 b.y,.int .i64 b.w,.int .i64 b.h] 46)):=((qb HB3).alloc s3 _).alloc (by simp;omega) _;refine⟨⟨_,rfl,(qb HQp) _ _ (qb HS2) hL,?_⟩,(((But.of_below (qb HB1)).alloc _).trans (qb HB2)).trans (.of_below hL)⟩
   ·rw[show vd true a b=[a,b] by simp[vd,hq]];exact kN (l:=[a,b]) (qt _ _ _ (by simp)) (by omega) (by simp[maxLen])
def yh (l:List Srf)(c:Int)(o:Opn):List Rc:=vd (zi l c o).2 (jW l c o.surf) (jW (zi l c o).1 c o.surf)
def xK (C U:Nat->Prop)(w:World)(sb:Nat)(beh:Int)(l':List Srf)(rs:List Rc)(e:Ending)(w':World):Prop:=(∃ v C',e=.returned v/\Gr C C' w w'/\xu C' U w' sb beh l'/\Own w' w.heap.size v rs/\∀ k,v.ownBlock=some k->¬C' k)/\But C w w'
theorem xK.from {C U:Nat->Prop}{w W:World}{sb:Nat}{beh:Int}{l':List Srf}{rs:List Rc}{e:Ending}{w':World}(h:xK C U W sb beh l' rs e w')(hb:Below w.heap.size w W):xK C U w sb beh l' rs e w':=by
 obtain⟨⟨v,C',h1,h2,h3,h4,h5⟩,h6⟩:=h;exact⟨⟨v,C',h1,h2.wide hb.size (zzl _),h3,h4.mono hb.size,h5⟩,(But.of_below hb).trans h6⟩
theorem qz1 {C U:Nat->Prop}{w:World}{sb:Nat}{beh:Int}{l:List Srf}(h:xu C U w sb beh l)(hCU:∀ k,C k->¬U k)(hCl:∀ k,C k->k<w.heap.size)(hl:l.length<=1000)(c:Int)(o:Opn)(po:Option Addr)(pn pc:Nat)(hR:RdN U w (.slice po pn pc) o.px)(hf:ZS l c o) :
 Calls Tryz.prog 79 #[.pointer (some ⟨sb,0,none⟩),.int .i64 c,ZI o (.slice po pn pc)] w (xK C U w sb beh (zi l c o).1 (yh l c o)):=by
 obtain⟨w0,hw0⟩:∃ w0:World,w0=((w.alloc (.cells #[.pointer (some ⟨sb,0,none⟩)] 105)).alloc (.cells #[.int .i64 o.kind,.int .i64 o.surf,.int .i64 o.x,.int .i64 o.y,.int .i64 o.w,.int .i64 o.h,.slice po pn pc,.int .i64 o.mark] 52)).alloc (.cells #[.int .i64 c,.int .i64 o.surf] 173):=⟨_,rfl⟩;have hB0:Below w.heap.size w w0:=(by rw[hw0];exact (((Below.refl _ w).alloc (zzl _) _).alloc (by simp) _).alloc (by simp;omega) _);have g1:w0.heap[w.heap.size]?=some (.cells #[.pointer (some ⟨sb,0,none⟩)] 105):=(by rw[hw0];exact qx (qx (qt w _ _ rfl) _) _);have g2:w0.heap[w.heap.size+1]?=some (.cells #[.int .i64 o.kind,.int .i64 o.surf,.int .i64 o.x,.int .i64 o.y,.int .i64 o.w,.int .i64 o.h,.slice po pn pc,.int .i64 o.mark] 52):=(by rw[hw0];exact qx (qt _ _ _ (by simp)) _);have g3:w0.heap[w.heap.size+2]?=some (.cells #[.int .i64 c,.int .i64 o.surf] 173):=(by rw[hw0];exact qt _ _ _ (by simp));have hD:=ql4 (h.below hB0) (fun k hk=>zzm (hCl k hk) hB0.size) c o.surf (zi l c o).2 w.heap.size (w.heap.size+2) (w.heap.size+1) (l':=(zi l c o).1) (fun W hb=>zc7 ((h.below hB0).below hb) hCU (fun k hk=>zzm (hCl k hk) (Nat.le_trans hB0.size hb.size)) hl c o po pn pc ((hR.below hB0).below hb) hf ((hb.block _ (qh g1)).trans g1) ((hb.block _ (qh g3)).trans g3) ((hb.block _ (qh g2)).trans g2));have hD':Calls Tryz.prog 112 #[.pointer (some ⟨sb,0,none⟩),.agg #[.int .i64 c,.int .i64 o.surf],.func (.func 113) #[] #[.pointer (some ⟨w.heap.size,0,none⟩),.pointer (some ⟨w.heap.size+2,0,none⟩),.pointer (some ⟨w.heap.size+1,0,none⟩)]] w0 (xK C U w sb beh (zi l c o).1 (yh l c o)):=hD.mono (fun e w' hp=>xK.from hp hB0);have HD:=qg hD';obtain⟨P,hP⟩:∃ P,P=xK C U w sb beh (zi l c o).1 (yh l c o):=⟨_,rfl⟩;rw[<-hP] at HD ⊢;have HW0:=qg hw0;have HP:=qg hP;unfold ZI yt;clear hD hD' g1 g2 g3 hB0 h hR hf hP hw0
 go_enter Tryz.func79,Tryz.ntmps79
 go_wp2_with (go_at_call 112;rw[<-qb HW0];refine (qb HD).mono ?_;rintro e w' hp;rw[qb HP] at hp;obtain⟨⟨v,C',rfl,hr⟩,hq⟩:=hp;have HR:=qg hr;have HQ:=qg hq;clear hr hq)
 rw[qb HP];exact⟨⟨v,C',rfl,qb HR⟩,qb HQ⟩
end Go.Proofs.YtfnockbgkcgpkaaGreat
