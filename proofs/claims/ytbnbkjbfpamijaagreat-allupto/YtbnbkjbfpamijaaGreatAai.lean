import Derived.Test.YtbnbkjbfpamijaaGreatAah
set_option linter.all false
set_option maxRecDepth 100000
set_option maxHeartbeats 0
namespace Go.Proofs.YtbnbkjbfpamijaaGreat
open Go.RowKit Go.Proofs.Panes
variable{C x:List Bool}{o:gt}{m w w2:World}{c g i j n ob t:Nat}{v vf z:Value}{q:Int}{xs:List Value}{h:List gt}{o':Obj}{ch:Bool}
def qg3 (b:qP x o=some C)(e:o.kind=3):1<=o.px.length/\o.px.length<=64:=by
 have f:¬o.kind=8:=(by omega);unfold qP at b;rw[ah f] at b;split at b
 ·rename_i d;simp only[aK] at d;have c:=d.2;unfold zt at c;rw[ah (by omega),an e] at c;simp only[aK,jh,be] at c;obtain⟨⟨⟨h,i⟩,g⟩,_⟩:=c;have:o.w=1\/o.w=2\/o.w=3\/o.w=4\/o.w=5\/o.w=6\/o.w=7\/o.w=8:=(by omega);rcases this with a | a | a | a | a | a | a | a<;>rw[a] at g<;>omega
 ·cases b
def VU:∀ (b:List gt)(c d:List Bool),qR c b=some d->∀ a∈b,a.kind=3->1<=a.px.length/\a.px.length<=64
 | [],_,_,_=>by simp
 | a::b,c,d,i=>by
  intro j k;have e:(qP c a).bind (fun f=>qR f b)=some d:=i;cases g:qP c a with
  | none=>rw[g] at e;cases e
  | some f=>
   rw[g] at e;cases bf.1 k with
   | inl h=>subst h;exact qg3 g
   | inr h=>exact VU b f d e j h
structure rv (w w':World)(cp:Nat)(pq:Value)(cr:Int)(bq m:Nat)(pq':Value)(x:List Bool)(xs:List Value)(ops:List gt)(ov:Value):Prop where
 cell:w'.heap[cp]?=some (.cells ([pq',.int .i64 cr]++x.map Value.bool).toArray 113)
 row:w'.ownsRow bq 195 2 pq' (m+1) (xs++[ov,.int .i64 (qA ops)])
 rd:gW (fun q=>w.heap.size<=q/\pq'.ownBlock≠some q) w' ov (ops.map qy)
 uh:∀ u,pq'.ownBlock=some u->pq.ownBlock=some u\/w.heap.size<=u
 but:gp (fun u=>u=cp\/pq.ownBlock=some u) w w'
def tF (g:Bool)(b:List gt)(e h:Int)(i:Nat)(j:Value)(k:Int)(l f:Nat)(m:List Bool)(n:List Value)(a:World)(c:Ending)(d:World):Prop:=
 (g=false/\c=.returned (.int .i64 3)/\Below a.heap.size a d)\/(g=true/\((e<qA b/\c=.returned (.int .i64 3)/\Below a.heap.size a d)\/(qA b<=e/\h<=(f:Int)/\c=.returned (.int .i64 4)/\Below a.heap.size a d)\/(qA b<=e/\(f:Int)<h/\c=.returned (.int .i64 0)/\∃ o p,rv a d i j k l f o m n b p)))
structure Mid (w w8:World)(cp ob:Nat)(pq q':Value)(cr:Int)(b x:List Bool)(bq m:Nat)(xs:List Value)(ops:List gt)(ov:Value):Prop where
 cell:w8.heap[cp]?=some (.cells ([q',.int .i64 cr]++b.map Value.bool).toArray 113)
 ob:w8.heap[ob]?=some (.cells (x.map Value.bool).toArray 111)
 row:w8.ownsRow bq 195 2 q' (m+1) (xs++[ov,.int .i64 (qA ops)])
 rd:gW (fun q=>w.heap.size<=q/\q'.ownBlock≠some q) w8 ov (ops.map qy)
 lcp:cp<w.heap.size
 uh:∀ u,q'.ownBlock=some u->pq.ownBlock=some u\/w.heap.size<=u
 but:gp (fun u=>u=cp\/pq.ownBlock=some u) w w8
def qv9 {b:List Bool}(D:n<w.heap.size)(u:∀ f,v.ownBlock=some f->f<w.heap.size)(E:gW (fun k=>w.heap.size<=k) w2 z (h.map qy))(y:Below w.heap.size w w2)(l:w2.heap[n]?=some (.cells ([v,.int .i64 q]++b.map Value.bool).toArray 113))(o:w2.heap[ob]?=some (.cells (x.map Value.bool).toArray 111))(A:w2.ownsRow c 195 2 v t xs)(F:(w2.alloc o').grownBy m v.ownBlock) (G:m.ownsRow c 195 2 (.slice (some ⟨j,0,none⟩) (t+1) g) (t+1) (xs++[z,.int .i64 (qA h)])) (s:v.ownBlock=some j\/j=w2.heap.size+1):Mid w (m.setCell ⟨n,0,none⟩ (.slice (some ⟨j,0,none⟩) (t+1) g)) n ob v (.slice (some ⟨j,0,none⟩) (t+1) g) q b x c t xs h z:=by
 have B:=qq A l (by decide);have H:=qq A o (by decide);have r:=((gp.refl _ w2).alloc o').grown F (fun e d=>.inl d);have I:=r.heap l B;have J:=r.heap o H;have K:ob≠n:=fun d=>by rw[d,l] at o;simp at o
 have L:j≠n:=fun d=>by
  rcases s with a | a
  ·exact B (d ▸ a)
  ·have:=qh l;omega
 refine⟨?_,qu J K _,aw G (by simp[Value.ownBlock];exact L) _,?_,D,fun f C=>?_,?_⟩
 ·have:=qp (i:=0) I (.slice (some ⟨j,0,none⟩) (t+1) g);simpa using this
 ·have M:gW (fun k=>w.heap.size<=k/\(Value.slice (some ⟨j,0,none⟩) (t+1) g).ownBlock≠some k) w2 z (h.map qy):=E.lt.wide (fun k N=>⟨N.1,fun d=>by
   simp only[Value.ownBlock,ac] at d;subst d;rcases s with a | a
   ·have:=u j a;omega
   ·omega⟩)
  exact (M.but r (fun e O d=>by have:=u e d;omega)).but (S:=fun e=>e=n) ((gp.refl (fun e=>e=n) m).setCell (p:=⟨n,0,none⟩) (.inl rfl) _) (fun e O d=>by omega)
 ·simp only[Value.ownBlock,ac] at C;subst C;rcases s with a | a
  ·exact .inl a
  ·have:=y.size;exact .inr (by omega)
 ·exact ((gp.aD y).step (r.wide (T:=fun f=>f=n\/v.ownBlock=some f) (fun _ _ a=>.inr a)) (fun _ a=>.inl a)).setCell (p:=⟨n,0,none⟩) (.inl (.inl rfl)) _
def qw0 {A B C k l m o:Bool}(d:Mid w w2 n i v z q [ch,A,B,C] [k,l,m,o] g j xs h vf):rv w ((((w2.setCell ⟨n,2,none⟩ (.bool k)).setCell ⟨n,3,none⟩ (.bool l)).setCell ⟨n,4,none⟩ (.bool m)).setCell ⟨n,5,none⟩ (.bool o)) n v q g j z [k,l,m,o] xs h vf:=by
 have x:=d.row;have y:=qq x d.cell (by decide);have r:∀ (c:Nat)(a:Value){b:World},b.ownsRow g 195 2 z (j+1) (xs++[vf,.int .i64 (qA h)])->(b.setCell ⟨n,c,none⟩ a).ownsRow g 195 2 z (j+1) (xs++[vf,.int .i64 (qA h)]):=fun c a b e=>aw e y _;have s:∀ (c:Nat)(a:Value){b:World},gp (fun a=>a=n\/v.ownBlock=some a) w b->gp (fun a=>a=n\/v.ownBlock=some a) w (b.setCell ⟨n,c,none⟩ a):=fun c a b e=>e.setCell (p:=⟨n,c,none⟩) (.inl (.inl rfl)) _;have t:∀ (c:Nat)(a:Value){b:World},gW (fun f=>w.heap.size<=f/\z.ownBlock≠some f) b vf (h.map qy)->gW (fun f=>w.heap.size<=f/\z.ownBlock≠some f) (b.setCell ⟨n,c,none⟩ a) vf (h.map qy):=fun c a b e=>e.but (S:=fun u=>u=n) ((gp.refl (fun u=>u=n) b).setCell (p:=⟨n,c,none⟩) (.inl rfl) _) (fun u y D=>by have:=d.lcp;omega);refine⟨?_,r _ _ (r _ _ (r _ _ (r _ _ x))),t _ _ (t _ _ (t _ _ (t _ _ d.rd))),d.uh,s _ _ (s _ _ (s _ _ (s _ _ d.but)))⟩;have:=qp (i:=5) (qp (i:=4) (qp (i:=3) (qp (i:=2) d.cell (.bool k)) (.bool l)) (.bool m)) (.bool o);simpa using this
def JS (X:Nat->Prop)(g:Nat)(J:Option Addr)(K:Nat)(b6:Int)(L M N O l m n q r:Bool)(Y j:Nat)(b7:List Value)(B C D t s E F:Int)(u:Nat)(v:Option Addr)(w:Nat)(d:List gt)(a:World)(Z:a.heap[g]?=some (.cells #[.slice J j K,.int .i64 b6,.bool L,.bool M,.bool N,.bool O] 113)) (b8:a.ownsRow Y 195 2 (.slice J j K) j b7) (n2:Y<=a.heap.size) (n3:j<=100000)(d4:gW X a (.slice v d.length w) d) (i2:1<=d.length/\d.length<=20) (d5:r=true->∀ o∈d,Qk o) (P:r=true->∀ o∈d,o.kind=3->1<=o.px.length/\o.px.length<=64) (d6:∀ a0,X a0->a0<a.heap.size)(d7:Hid (∀ a,Calls Tryz.prog 72 #[.int .i64 d.length,.int .i64 1,.int .i64 20] a fun h e=>h=.returned (.bool true)/\e=a))(d8:Hid (∀ e,Below a.heap.size a e->Calls Tryz.prog 92 #[.agg #[.bool L,.bool M,.bool N,.bool O],.slice v d.length w,.int .i64 (u:Int)] e fun h f=>h=.returned (.tuple #[.agg #[.bool l,.bool m,.bool n,.bool q],.bool r])/\Below e.heap.size e f)):Calls Tryz.prog 53 #[.pointer (some ⟨g,0,none⟩),.slice v d.length w,.agg #[.int .i64 B,.int .i64 C,.int .i64 D,.int .i64 t,.int .i64 s,.int .i64 E,.int .i64 (u:Int),.int .i64 F]] a fun h e=>tF r d s t g (.slice J j K) b6 Y j [l,m,n,q] b7 a h e:=by
 have d9:=fun e0 a1=>(ab b8 e0 a1).2;have i3:=qg d9;clear d9;obtain⟨-,-,k2,e1,e2,e3,-⟩:=zzc Z;have G:=qh Z;have i4:=qg Z;have i5:=qg b8;have e4:=qg d4;have i6:=qg d5;have i7:=qg P;have i8:=qg d6;clear Z b8 d4 d5 P d6;go_enter Tryz.func53,Tryz.ntmps53;go_wp2_with (go_at_call 72;refine ((qb d7) _).mono ?_;rintro h e ⟨rfl,e5⟩;have i9:=e5.symm;clear e5;subst i9)
 have y:Below a.heap.size a (a.alloc (.cells #[.int .i64 B,.int .i64 C,.int .i64 D,.int .i64 t,.int .i64 s,.int .i64 E,.int .i64 (u:Int),.int .i64 F] 49)):=(aa _ a).alloc (zzl _) _;have a2:(a.alloc (.cells #[.int .i64 B,.int .i64 C,.int .i64 D,.int .i64 t,.int .i64 s,.int .i64 E,.int .i64 (u:Int),.int .i64 F] 49)).heap[a.heap.size]?=some (.cells #[.int .i64 B,.int .i64 C,.int .i64 D,.int .i64 t,.int .i64 s,.int .i64 E,.int .i64 (u:Int),.int .i64 F] 49):=qt _ _ _ rfl;generalize a.alloc (.cells #[.int .i64 B,.int .i64 C,.int .i64 D,.int .i64 t,.int .i64 s,.int .i64 E,.int .i64 (u:Int),.int .i64 F] 49)=c at *;have m2:=(y.cell G).trans k2;have m3:=(y.cell G).trans e1;have m4:=(y.cell G).trans e2;have m5:=(y.cell G).trans e3;obtain⟨j0,-⟩:=zzk a2 6;have a3:=qh a2;have n4:g<c.heap.size:=(by omega);have e6:=qg y.drew;have e7:=qg (((y.alloc (cA a3) (.cells #[.bool false,.bool false,.bool false,.bool false] 111)).drew));have e8:Hid (∀ f,Below c.drew.heap.size c.drew f->Below c.heap.size c f):=fun f j1=>(aa _ c).drew.trans j1;have e9:Hid (∀ f,Below (c.alloc (.cells #[.bool false,.bool false,.bool false,.bool false] 111)).drew.heap.size (c.alloc (.cells #[.bool false,.bool false,.bool false,.bool false] 111)).drew f->Below c.heap.size c f):=fun f z=>(((aa _ c).alloc (zzl _) _).drew).trans (z.mono (by show _<=(c.heap.push _).size;rw[bJ];omega));have f0:Hid (∀ f,Below (c.alloc (.cells #[.bool false,.bool false,.bool false,.bool false] 111)).drew.heap.size (c.alloc (.cells #[.bool false,.bool false,.bool false,.bool false] 111)).drew f->f.heap[c.heap.size]?=some (.cells #[.bool false,.bool false,.bool false,.bool false] 111)):=fun f z=>(z.block _ (by show _<(c.heap.push _).size;rw[bJ];omega)).trans (QP _ _ _ rfl);have f1:=qg y;have j2:=qg a2;clear k2 e1 e2 e3 y a2 d7;rename_i j3 b9;have f2:Hid (∀ (H:Nat)(wr:World),Below c.heap.size c wr->wr.heap[H]?=some (.cells #[.bool l,.bool m,.bool n,.bool q] 111)->c.heap.size<=H->j3 {tmps:=#[.pointer (some ⟨g,0,none⟩),.slice v d.length w,.agg #[.int .i64 B,.int .i64 C,.int .i64 D,.int .i64 t,.int .i64 s,.int .i64 E,.int .i64 (u:Int),.int .i64 F],undef,undef,.pointer (some ⟨a.heap.size,0,none⟩),.int .i64 0,.pointer (some ⟨H,0,none⟩),.bool r,.slice v d.length w,.int .i64 d.length,.bool true,.bool false,.tuple #[.agg #[.bool l,.bool m,.bool n,.bool q],.bool r],.pointer (some ⟨g,0,none⟩),.pointer (some ⟨g,0,none⟩),.pointer (some ⟨g,2,none⟩),.agg #[.bool L,.bool M,.bool N,.bool O],.slice v d.length w,.pointer (some ⟨a.heap.size,6,none⟩),.int .i64 (u:Int),.tuple #[.agg #[.bool l,.bool m,.bool n,.bool q],.bool r],.agg #[.bool l,.bool m,.bool n,.bool q],.bool r,undef,undef,undef,undef,undef,undef,undef,undef,undef,undef,undef,undef,undef,undef,undef,undef,undef,undef,undef,undef,undef,undef,undef,undef,undef,undef,undef,undef,undef,undef,undef,undef,undef,undef,undef],defers:=[]} wr):=by
  intro H wr Q c0 n5;refine b9 _ _ ?_;clear b9 d8 e6 e7 e8 e9 f0;cases r with
  | false=>
   have R:=qg ((qb f1).trans (Q.mono (cA a3)));clear Q c0;go_wp2_with fail
   go_region;go_wp2;go_ret;exact .inl ⟨rfl,rfl,(qb R).drew⟩
  | true=>
   have R:=qg ((qb f1).trans (Q.mono (cA a3)));have a4:=(Q.block _ a3).trans (qb j2);obtain⟨j4,-⟩:=zzk a4 4;have f3:=qh a4;have S:Hid (∀ e,Below a.heap.size a e->Calls Tryz.prog 93 #[.slice v d.length w] e fun h j5=>h=.returned (.int .i64 (qA d))/\Below e.heap.size e j5):=fun e j6=>qi2 X _ d e ((qb e4).below j6) (by omega) ((qb i6) rfl);have f4:=qg a4;have c1:=qg c0;clear Q a4 c0;go_wp2_with fail
   go_region_held3 (fun e=>e.cell? ⟨a.heap.size,4,none⟩=some (.int .i64 s))
    (first | go_keep | assumption)
    ((go_at_call 93;refine ((qb S) wr.drew (qb R).drew).mono ?_;rintro h a5 ⟨rfl,A⟩;have c2:a5.heap[a.heap.size]?=_:=(A.block _ f3).trans (qb f4);obtain⟨j7,-⟩:=zzk c2 4;have f5:=qg c2;have k:=qg (((qb R).drew).trans (A.mono (cA f3)));have f6:=qg ((A.block _ (qh (qb c1))).trans (qb c1));have j8:=qg A.size;clear A c2))
   by_cases j9:s<qA d
   ·clear S;go_wp2;go_ret;exact .inr ⟨rfl,.inl ⟨j9,rfl,qb k⟩⟩
   ·have c3:=((qb k).block _ G).trans (qb i4);obtain⟨a6,-⟩:=zzc c3;obtain⟨k0,-⟩:=zzk (qb f5) 3;have f7:=qg c3;clear c3 j4 j7 m2 m3 m4 m5 j0;by_cases f8:t<=(j:Int)
    ·clear S;go_wp2;go_quiet (fail)
     go_wp2;go_ret;exact .inr ⟨rfl,.inr (.inl ⟨by omega,f8,rfl,ax (qb k) _⟩)⟩
    ·go_wp2;go_quiet (fail)
     have a7:=qg (ax (qb k) nq);have a8:(a5.drewN nq).heap[g]?=some (.cells #[.slice J j K,.int .i64 b6,.bool L,.bool M,.bool N,.bool O] 113):=qb f7;have f9:(a5.drewN nq).heap[H]?=some (.cells #[.bool l,.bool m,.bool n,.bool q] 111):=qb f6;clear a6 k0 f7 k f6 f5 j8 f4 c1 R;generalize a5.drewN nq=T at *;obtain⟨a6,-⟩:=zzc a8;have k1:=qj a8;have c4:=qg a8;have c5:=qg f9;clear a8 f9;have g0:=qh (qb c4);have g1:=qg (qb2 X v w d T.drew ((qb e4).below (qb a7).drew) i2 (by have:=qb i7;first | exact this rfl | exact this trivial) (fun a0 k3=>zzm ((qb i8) a0 k3) (qb a7).size));have k4:=(qb a7).size;obtain⟨k5,k6,k7,k8,k9⟩:=aZ Vu;go_wp2_with fail
     go_region_law
      (first
        | (refine step_append_lies _ (by rfl) _ _ _ (by rfl) Y 195 k5 _ 2 32 Tryz.underlying109 k6 k7 k8 k9 rfl (by omega) (.slice J j K) j b7 (by first | rfl | go_simp) (aR (qb c6) _) ⟨I.heap.size,0,none⟩ 1 1 [.slice l0 l1 l2,.int .i64 (qA d)] (by first | rfl | go_simp) (by rfl) (xT (qt _ _ _ rfl)) (by intro e0 a1;simp at a1;rcases a1 with rfl | rfl<;>rfl) (by omega) (by unfold maxLen;omega) (by omega) (by simp;omega) (I.heap.size+1) (by simp) ?_;intro l3 gk l4 g2 a9 P l5;have l6:=(a9.frozen_far ⟨g,0,none⟩ (zzm b0 (by show _<=(I.heap.push _).size;rw[bJ];omega)) (cu (qb c7))).trans ((cW (w:=I) (bH _ _ _ b0)).trans (qj (qb c8) 0));have l7:=(a9.cell_far ⟨g,0,none⟩ (zzm b0 (by show _<=(I.heap.push _).size;rw[bJ];omega)) (cu (qb c7))).trans ((aH (w:=I) (bH _ _ _ b0)).trans h0))
        | (go_simp;go_at_call 94;refine (qb g1).mono ?_;rintro h g3 ⟨l0,l1,l2,rfl,g4,g5⟩;have g6:=qg (g4.wide (V:=fun c9=>a.heap.size<=c9) (fun c9 (f8:T.heap.size<=c9)=>by omega));clear g4;have b1:Below T.heap.size T g3:=((aa _ T).drew).trans g5;have l8:=(b1.cell g0).trans a6;have d0:=qg b1;have b2:=qg ((qb a7).trans (b1.mono k4));clear g5 b1)
        | (go_simp;go_at_call 93;refine ((qb S) g3 (qb b2)).mono ?_;rintro h I ⟨rfl,b3⟩;have d1:=(qb d0).trans (b3.mono (qb d0).size);have g7:=qg ((qb g6).below b3);have U:=(d1.block _ g0).trans (qb c4);obtain⟨h0,-⟩:=zzc U;have b4:=(qb b2).trans (b3.mono (qb b2).size);have d2:=qi (S:=fun _=>False) (qb i5) (.aD b4) (fun _ _ l9=>l9);have g8:=qq d2 U (by decide);have b0:=qh U;have c8:=qg U;have g9:=qg d1;have i0:=qg b4;have c6:=qg d2;have c7:=qg g8;have n6:=b4.size;clear b3 d1 U b4 d2 g8))
     all_goals
      have b5:=qv9 (b:=[L,M,N,O]) (x:=[l,m,n,q]) (ob:=H) G (qb i3) (qb g7) (qb i0) (qb c8) (((qb g9).block _ (qh (qb c5))).trans (qb c5)) (qb c6) a9 g2 P;have d3:=b5.cell;have i1:=b5.ob;have n0:=qg b5;clear b5 a9 g2 P l5 l6 l7 h0 l8 a6 k1 i0 c8 g9 c6 c7 d0 b2 c4 c5 g1 S g6 g7;generalize l4.setCell ⟨g,0,none⟩ (.slice (some ⟨l3,0,none⟩) (j+1) gk)=n7 at *;obtain⟨n8,n9,o0,o1,-⟩:=zzc i1;obtain⟨-,-,o2,o3,o4,o5,-⟩:=zzc d3;have o6:=qj d3;clear d3 i1;go_wp2;go_ret;exact .inr ⟨rfl,.inr (.inr ⟨by omega,by omega,rfl,_,_,qw0 (qb n0)⟩)⟩
 clear b9
 go_region_with
  (
   go_at_call 92
   refine ((qb d8) _ (by first | exact qb e6 | exact qb e7)).mono ?_;rintro h f ⟨rfl,z⟩;have A:Below c.heap.size c f:=(by first | exact (qb e8) f z | exact (qb e9) f z);try
    have W:=(qb f0) f z;obtain⟨o7,o8,o9,p0,-⟩:=zzc W;have p1:=qj W;have p2:=qh W;have n1:=qg W;clear W
   have k:=qg A;clear z A)
 all_goals
  simp only[Exit.then];go_simp
  first
   | exact (qb f2) _ _ ((qb k).alloc (qb k).size _) (qt _ _ _ rfl) (qb k).size
   | exact (qb f2) _ _ ((((qb k).setCell (p:=⟨c.heap.size,0,none⟩) (zzl _) _).setCell (p:=⟨c.heap.size,1,none⟩) (zzl _) _).setCell (p:=⟨c.heap.size,2,none⟩) (zzl _) _ |>.setCell (p:=⟨c.heap.size,3,none⟩) (zzl _) _) (by simpa using qp (i:=3) (qp (i:=2) (qp (i:=1) (qp (i:=0) (qb n1) (.bool l)) (.bool m)) (.bool n)) (.bool q)) (zzl _)
end Go.Proofs.YtbnbkjbfpamijaaGreat
