import Derived.Test.YtfnockbgkcgpkaaGreatTkbf
set_option linter.all false
set_option maxRecDepth 100000
set_option maxHeartbeats 16000000
namespace Go.Proofs.YtfnockbgkcgpkaaGreat
open Go.RowKit Go.Proofs.Panes
def za (f:Frs):Nat->Option Nat
 | 0=>none
 | k+1=>if k=f.front then za f k else match za f k with
  | none=>some k
  | some j=>if (f.b k).begun<(f.b j).begun then some k else some j
def nxt (o:Option Nat):Int:=match o with
 | none=>-1
 | some j=>(j:Int)
theorem ya (f:Frs):∀ k j,za f k=some j->j<k
 | 0,j,h=>by simp[za] at h
 | k+1,j,h=>by
  unfold za at h
  split at h
  ·have:=ya f k j h;omega
  ·cases hq:za f k with
   | none=>rw[hq] at h;simp at h;omega
   | some q=>
    rw[hq] at h;have:=ya f k q hq;simp only at h
    split at h<;>simp at h<;>omega
theorem Jv {C:Nat->Prop}{w:World}{b0:Nat}{f:Frs}{v:Fl}(h:Fr C w b0 f v)(hfr:f.front<3) :
 Calls Tryz.prog 119 #[.pointer (some ⟨b0,0,none⟩)] w fun e w'=>e=.returned (.int .i64 (nxt (za f 3)))/\∃ q,w'=w.drewN q:=by
 have c13:w.cell? ⟨b0,13,none⟩=some (.int .i64 (f.front:Int)):=qe h.blk 13;have cbg:∀ j:Nat,j<3->w.cell? ⟨b0,4+j*3+2,none⟩=some (.int .i64 (f.b j).begun):=fun j hj=>by
  rw[qe h.blk];have:j=0\/j=1\/j=2:=by omega
  rcases this with rfl | rfl | rfl<;>rfl
 have HCB:=qg cbg;clear h cbg
 go_enter Tryz.func119,Tryz.ntmps119
 go_wp2
 go_loopw [3,5] (fun a b wr=>∃ k:Nat,k<=3/\b=.int .i64 (k:Int)/\a=.int .i64 (nxt (za f k))/\∃ q,wr=w.drewN q) (fun a b _=>3-(intOf b).toNat)
 case atStart=>exact⟨0,by omega,rfl,rfl,0,rfl⟩
 case round=>
  obtain⟨k,hk,rfl,rfl,q,rfl⟩:=hrel
  by_cases hlt:k<3
  ·have j0:(0:Int)<=(k:Int):=(by omega);have j1:(k:Int)<3:=(by omega);have ck:=(qb HCB) k hlt
   by_cases hkf:k=f.front
   ·have en:za f (k+1)=za f k:=(by rw[za,if_pos hkf]);have hkb:((k:Int) == (f.front:Int))=true:=(by rw[hkf];simp);have HEN:=qg en;obtain⟨z,hz⟩:∃ z,z=nxt (za f k):=⟨_,rfl⟩;rw[<-hz];have HZ:=qg hz;clear en hz;go_wp2
    go_quiet (fail)
    go_wp2
    go_roundw
    case rel=>exact⟨k+1,by omega,by go_num,by rw[qb HEN,qb HZ],q+nq,by rfl⟩
    case measure=>simp[intOf];omega
   ·have hkb:((k:Int) == (f.front:Int))=false:=by
     have:¬(k:Int)=(f.front:Int):=(by omega);simp[this]
    have hk1:((k:Int) != (f.front:Int))=true:=by
     have:¬(k:Int)=(f.front:Int):=(by omega);simp[this]
    have hk2:(k == f.front)=false:=(by simp[hkf]);have hk3:(k != f.front)=true:=(by simp[hkf]);have hk4:¬(k:Int)=(f.front:Int):=by omega
    cases hq:za f k with
    | none=>
     have en:za f (k+1)=some k:=(by rw[za,if_neg hkf,hq]);have HEN:=qg en;clear en;simp only[nxt];go_wp2
     go_quiet (fail)
     go_wp2
     go_roundw
     case rel=>exact⟨k+1,by omega,by go_num,by rw[qb HEN]<;>rfl,q+nq,by rfl⟩
     case measure=>simp[intOf];omega
    | some j=>
     have hj:=ya f k j hq;have cj:=(qb HCB) j (by omega);have i0:(0:Int)<=(j:Int):=(by omega);have i1:(j:Int)<3:=by omega
     by_cases hb:(f.b k).begun<(f.b j).begun
     ·have en:za f (k+1)=some k:=(by rw[za,if_neg hkf,hq];simp[hb]);have HEN:=qg en;clear en;simp only[nxt];go_wp2
      go_quiet (fail)
      go_wp2
      go_roundw
      case rel=>exact⟨k+1,by omega,by go_num,by rw[qb HEN]<;>rfl,q+nq,by rfl⟩
      case measure=>simp[intOf];omega
     ·have en:za f (k+1)=some j:=(by rw[za,if_neg hkf,hq];simp[hb]);have HEN:=qg en;clear en;simp only[nxt];go_wp2
      go_quiet (fail)
      go_wp2
      go_roundw
      case rel=>exact⟨k+1,by omega,by go_num,by rw[qb HEN]<;>rfl,q+nq,by rfl⟩
      case measure=>simp[intOf];omega
  ·have:k=3:=(by omega);subst this;obtain⟨z,hz⟩:∃ z,z=nxt (za f 3):=⟨_,rfl⟩;rw[<-hz];have HZ:=qg hz;clear hz;go_wp2;go_ret;exact⟨by rw[<-qb HZ];rfl,q,rfl⟩
theorem qt6:(Tryz.prog.info? 222).map (fun i=>(i.zero,i.size,i.bytes))=some (some (.agg #[.int .i64 0,.int .i64 0]),2,16):=by kernel_rfl
def zH (st:List Bool)(W:Nat)(pic:Int->Int->Int):Nat->List (Int×Int)
 | 0=>[]
 | i+1=>zH st W pic i++(if st[i]?=some true then [((i:Int),pic ((i%W:Nat):Int) ((i/W:Nat):Int))] else [])
theorem kV (st:List Bool)(W:Nat)(pic:Int->Int->Int):∀ i,(zH st W pic i).length<=i
 | 0=>by simp[zH]
 | i+1=>by
  have:=kV st W pic i;unfold zH
  split<;>simp<;>omega
theorem JM {C:Nat->Prop}{w:World}{b0:Nat}{f:Frs}{v:Fl}(h:Fr C w b0 f v){q:Nat}(hq:q<3)(hW:1<=f.W/\f.W<=16)(hH:1<=f.H/\f.H<=16)(sb:Nat)(pic:Int->Int->Int)
 (hP:∀ (W:World)(x y:Nat),Below w.heap.size w W->x<=16->y<=256->Calls Tryz.prog 89 #[.pointer (some ⟨sb,0,none⟩),.int .i64 (x:Int),.int .i64 (y:Int)] W fun e w'=>e=.returned (.int .i64 (pic (x:Int) (y:Int)))/\Below W.heap.size W w') :
 Calls Tryz.prog 120 #[.pointer (some ⟨b0,0,none⟩),zJ (v.st q) (f.W*f.H),.func (.func 89) #[.pointer (some ⟨sb,0,none⟩)] #[]] w fun e w'=>(∃ lv,e=.returned lv/\qN w' w.heap.size 222 lv ((zH (f.b q).st f.W pic (f.W*f.H)).map k2))/\Below w.heap.size w w':=by
 obtain⟨n,hn⟩:∃ n,n=f.W*f.H:=⟨_,rfl⟩;obtain⟨q1,q2,q3⟩:=h.st q hq;have hn256:n<=256:=(by rw[hn];have:=Nat.mul_le_mul hW.2 hH.2;omega);rw[<-hn] at q3 ⊢;unfold zJ;have c2:w.cell? ⟨b0,2,none⟩=some (.int .i64 (f.W:Int)):=qe h.blk 2;have lb:b0<w.heap.size:=qh h.blk;have ls:v.st q<w.heap.size:=qh q1;have hc:∀ j z,(f.b q).st[j]?=some z->w.cell? ⟨v.st q,j,none⟩=some (.bool z):=fun j z hz=>by rw[qe q1];simp[hz]
 obtain⟨st,hst⟩:∃ st,st=(f.b q).st:=⟨_,rfl⟩;obtain⟨Wd,hWd⟩:∃ Wd,Wd=f.W:=⟨_,rfl⟩;rw[<-hst] at hc q3 ⊢;rw[<-hWd] at c2 ⊢;have hW1:1<=Wd/\Wd<=16:=(by omega);have HC:=qg hc;have HP:=qg hP;clear h q1 q2 hn hc hP hst hWd hW hH
 go_enter Tryz.func120,Tryz.ntmps120
 go_wp2
 go_loopw [7,12] (fun a b wr=>∃ i:Nat,i<=n/\b=.int .i64 (i:Int)/\qN wr w.heap.size 222 a ((zH st Wd pic i).map k2)/\Below w.heap.size w wr) (fun a b _=>n-(intOf b).toNat)
 case atStart=>exact⟨0,Nat.zero_le _,rfl,⟨rfl,.inl ⟨rfl,rfl⟩⟩,Below.refl _ _⟩
 case round=>
  obtain⟨i,hi,rfl,hO,hB⟩:=hrel
  by_cases hlt:i<n
  ·obtain⟨z,hz⟩:∃ z,st[i]?=some z:=⟨st[i]'(by omega),by simp⟩;have cz:wr.cell? ⟨v.st q,i,none⟩=some (.bool z):=(hB.cell ls).trans ((qb HC) i z hz);have cW:wr.cell? ⟨b0,2,none⟩=some (.int .i64 (Wd:Int)):=(hB.cell lb).trans c2;have i0:(0:Int)<=(i:Int):=(by omega);have i1:(i:Int)<(n:Int):=by omega
   cases z with
   | false=>
    have ed:zH st Wd pic (i+1)=zH st Wd pic i:=(by unfold zH;rw[if_neg (by rw[hz];simp),List.append_nil];cases i<;>rfl);have HO:=qg hO;have HB:=qg hB;have HED:=qg ed;clear hO hB hz ed;go_wp2
    go_roundw
    case rel=>exact⟨i+1,by omega,by go_num,by rw[qb HED];exact qb HO,qb HB⟩
    case measure=>simp[intOf];omega
   | true=>
    have ed:zH st Wd pic (i+1)=zH st Wd pic i++[((i:Int),pic ((i%Wd:Nat):Int) ((i/Wd:Nat):Int))]:=by
     conv=>lhs;unfold zH
     rw[if_pos hz]
    have hxm:i%Wd<=16:=(by have:=Nat.mod_lt i (show 0<Wd by omega);omega);have hyd:i/Wd<=256:=Nat.le_trans (Nat.div_le_self _ _) (by omega);have qm:(i:Int).tmod (Wd:Int)=((i%Wd:Nat):Int):=(by rw[Int.tmod_eq_emod_of_nonneg (Int.natCast_nonneg i)];rfl);have qd:(i:Int)/(Wd:Int)=((i/Wd:Nat):Int):=rfl;obtain⟨pp,hpp⟩:∃ pp,pp=pic ((i%Wd:Nat):Int) ((i/Wd:Nat):Int):=⟨_,rfl⟩;have HAt:Hid (Calls Tryz.prog 89 #[.pointer (some ⟨sb,0,none⟩),.int .i64 ((i:Int).tmod (Wd:Int)),.int .i64 ((i:Int)/(Wd:Int))] wr.drew fun e w'=>e=.returned (.int .i64 pp)/\Below wr.heap.size wr w'):=by
     rw[qm,qd,hpp];refine ((qb HP) wr.drew (i%Wd) (i/Wd) hB.drew hxm hyd).mono ?_;rintro e w' ⟨he,hb⟩;exact⟨he,((Below.refl _ wr).drew).trans hb⟩
    rw[<-hpp] at ed;have e1:IntKind.i64.wrap ((i:Int)/(Wd:Int))=(i:Int)/(Wd:Int):=by
     have h1:(0:Int)<=(i:Int)/(Wd:Int):=Int.ediv_nonneg (by omega) (by omega);have h2:(i:Int)/(Wd:Int)<=256:=(by rw[qd];exact Int.ofNat_le.2 hyd);rw[IntKind.wrap_i64];omega
    have W0:¬Wd=0:=(by omega);have hlen:=kV st Wd pic i;have lbr:b0<wr.heap.size:=zzm lb hB.size;have HO:=qg hO;have HB:=qg hB;have HED:=qg ed;clear hO hB hz ed qm qd hpp hxm hyd;go_wp2
    go_region_held3 (fun w'=>w'.cell? ⟨b0,2,none⟩=some (.int .i64 (Wd:Int)))
     (first | assumption | go_keep)
     (first
       | (go_at_call 89
          refine (qb HAt).mono ?_
          rintro e w2 ⟨rfl,hb2⟩
          have d2:w2.cell? ⟨b0,2,none⟩=some (.int .i64 (Wd:Int)):=(hb2.cell lbr).trans cW
          have hO2:qN w2 w.heap.size 222 u7 ((zH st Wd pic i).map k2):=qi (qb HO) (S:=fun _=>False) (.of_below hb2) (fun _ _ h=>h)
          have hN3:(w2.alloc (.cells #[.int .i64 (i:Int),.int .i64 pp] 222)).heap[w2.heap.size]?=some (.cells #[.int .i64 (i:Int),.int .i64 pp] 222):=qt w2 _ _ rfl
          have hO3:qN (w2.alloc (.cells #[.int .i64 (i:Int),.int .i64 pp] 222)) w.heap.size 222 u7 ((zH st Wd pic i).map k2):=qi hO2 (S:=fun _=>False) ((But.refl _ w2).alloc _) (fun _ _ h=>h)
          obtain⟨i0',hi',hz0,hz1,hz2⟩:=info_parts qt6
          obtain⟨v',w5,hrun,hO5,hg5,-,hv5⟩:=run_append_own_at (P:=Tryz.prog) (w:=w2.alloc (.cells #[.int .i64 (i:Int),.int .i64 pp] 222)) w.heap.size 180 180 222 i0' _ 2 16 Tryz.underlying180 hi' hz0 hz1 hz2 rfl (by decide) u7 _ _ hO3 ⟨w2.heap.size,0,none⟩ 1 1 [.int .i64 (i:Int),.int .i64 pp] rfl (xT hN3) (by simp[Value.oneCell']) (by simp;simp only[maxLen];omega) (by simp;omega) (by simp;have:=(qb HB).size;have:=hb2.size;omega)
          have hB5:Below w.heap.size w w5:=(((qb HB).trans (hb2.mono (qb HB).size)).alloc (Nat.le_trans (qb HB).size hb2.size) _).trans ((But.of_grown (S:=fun k=>u7.ownBlock=some k) hg5 (fun k e=>e)).below (by simp;have:=(qb HB).size;have:=hb2.size;omega) (fun k e=>(World.ownsRow.lt hO3 k e).1))
          have d5:w5.cell? ⟨b0,2,none⟩=some (.int .i64 (Wd:Int)):=(hB5.cell lb).trans c2
          have hO5':qN w5 w.heap.size 222 v' ((zH st Wd pic (i+1)).map k2):=by
            rw[qb HED,List.map_append]
            rw[qN,zs,List.length_append]
            exact hO5
          have HRun:=qg hrun
          have HO5:=qg hO5'
          have HB5:=qg hB5
          clear hb2 hO2 hN3 hO3 hi' hz0 hz1 hz2 hrun hO5 hg5 hv5 hB5 hO5')
       | (refine zS (by kernel_rfl) (.tmp 18) (.tmp 37) 180 180 (by kernel_rfl) (by kernel_rfl) u7 (.slice (some ⟨w2.heap.size,0,none⟩) 1 1) _ _ (by kernel_rfl) (by kernel_rfl) (qb HRun) ?_))
    all_goals
     (try simp only[Exit.then])
     (try go_simp)
     go_wp2
     go_roundw
     case rel=>exact⟨i+1,by omega,by go_num,qb HO5,qb HB5⟩
     case measure=>simp[intOf];omega
  ·have:i=n:=(by omega);subst this;have HO:=qg hO;have HB:=qg hB;clear hO hB;go_wp2;go_ret;exact⟨⟨_,rfl,qb HO⟩,qb HB⟩
theorem Xa (z:Value)(m:Nat):(Builtin.zeroCells #[z] m).toList=List.replicate m z:=by
 apply List.ext_getElem?;intro i
 by_cases h:i<m
 ·simp[Builtin.zeroCells,h,List.getElem?_replicate,Nat.mod_one]
 ·rw[List.getElem?_eq_none (by simp[Builtin.zeroCells];omega),List.getElem?_eq_none (by simp;omega)]
theorem xQ {w:World}{g n:Nat}{l:List Bool}(hg:w.heap[g]?=some (.cells (l.map Value.bool).toArray 4 (0,0)))(hn:l.length=n)(h0:0<n)(ty:TypeId) :
 (Builtin.clear_ #[116] ty #[.slice (some ⟨g,0,none⟩) n n]).run Tryz.prog w=.ok (.tuple #[]) (w.setRow g ((List.replicate n false).map Value.bool).toArray):=by
 have hz:(zeroValue 4).run Tryz.prog w=.ok (.bool false) w:=(by rfl);have hst:=run_storeCells_at Tryz.prog g 0 4 (List.replicate n (.bool false)) 0 _ w hg (by simp[hn]) (by intro u hu;rw[List.eq_of_mem_replicate hu];rfl);have e1:((l.map Value.bool).take (0+0)++List.replicate n (Value.bool false)++(l.map Value.bool).drop (0+0+(List.replicate n (Value.bool false)).length))=(List.replicate n false).map Value.bool:=by
  rw[List.length_replicate,List.drop_of_length_le (by simp[hn])];simp
 rw[List.toList_toArray,e1] at hst
 cases n with
 | zero=>omega
 | succ n=>
  have ez:(Value.bool false).cells=#[.bool false]:=rfl;simp[Builtin.clear_,run_underlying Tryz.underlying116,hz,ez,Xa,hst,-List.reduceReplicate]
theorem Jw (f:Frs)(h:f.front<3):∃ q,za f 3=some q/\q<3/\q≠f.front:=by
 have key:∀ k q,za f k=some q->q≠f.front:=by
  intro k
  induction k with
  | zero=>intro q h;simp[za] at h
  | succ k ih=>
   intro q h;unfold za at h
   split at h
   ·exact ih q h
   ·rename_i hk
    cases hq:za f k with
    | none=>rw[hq] at h;simp at h;omega
    | some j=>
     rw[hq] at h;simp only at h
     split at h<;>simp at h
     ·omega
     ·rw[<-h];exact ih j hq
 cases hq:za f 3 with
 | some q=>exact⟨q,rfl,ya f 3 q hq,key 3 q hq⟩
 | none=>
  exfalso
  have step:∀ k,za f (k+1)=none->k=f.front/\za f k=none:=by
   intro k hk;unfold za at hk
   split at hk
   ·rename_i e;exact⟨e,hk⟩
   ·cases hq:za f k with
    | none=>rw[hq] at hk;simp at hk
    | some j=>rw[hq] at hk;simp only at hk;split at hk<;>simp at hk
  have h2:=step 2 hq;have h1:=step 1 h2.2;omega
def zR (f:Frs)(t:Int)(pic:Int->Int->Int):Frs:=
 if f.frame.isSome=true\/f.due=false then f else
  {f with frame:=some ⟨(za f 3).getD 0,f.marks,zH (f.b ((za f 3).getD 0)).st f.W pic (f.W*f.H)⟩,due:=false,marks:=[],b:=fun i=>if i=(za f 3).getD 0 then {f.b i with st:=List.replicate (f.W*f.H) false,begun:=t} else f.b i}
theorem Fr.begun {C:Nat->Prop}{w w':World}{b0:Nat}{f:Frs}{v:Fl}(h:Fr C w b0 f v)(hCl:∀ k,C k->k<w.heap.size){q nb:Nat}{t:Int}{lv:Value}{ds:List (Int×Int)}(hq:q<3)(hnb:w.heap.size<=nb)(hnl:nb<w'.heap.size)
 (hb:But (fun x=>x=b0\/x=v.st q) w w') (hblk:w'.heap[b0]?=some (.cells (qT {f with frame:=some ⟨q,f.marks,ds⟩,due:=false,marks:=[],b:=fun i=>if i=q then {f.b i with st:=List.replicate (f.W*f.H) false,begun:=t} else f.b i} {v with fb:=nb,fm:=v.mv,fl:=lv,mv:=.slice none 0 0}) 169 (0,0)))
 (hst:w'.heap[v.st q]?=some (.cells ((List.replicate (f.W*f.H) false).map Value.bool).toArray 4 (0,0))) (hfb:w'.heap[nb]?=some (.cells #[.int .i64 (q:Int),v.mv,lv] 182 (0,0))) (hds:qN w' w.heap.size 222 lv (ds.map k2)) :
 Fr (grow C w w') w' b0 {f with frame:=some ⟨q,f.marks,ds⟩,due:=false,marks:=[],b:=fun i=>if i=q then {f.b i with st:=List.replicate (f.W*f.H) false,begun:=t} else f.b i} {v with fb:=nb,fm:=v.mv,fl:=lv,mv:=.slice none 0 0}:=by
 have hS:∀ {x:Nat}{cs:Array Value}{ty:TypeId}{fz:Nat×Nat},w.heap[x]?=some (.cells cs ty fz)->ty≠4->ty≠169->¬(x=b0\/x=v.st q):=by
  rintro x cs ty fz hx t1 t2 (e | e)
  ·have:=h.blk;rw[<-e,hx] at this;simp at this;exact t2 this.2.1
  ·have:=(h.st q hq).1;rw[<-e,hx] at this;simp at this;exact t1 this.2.1
 refine⟨hblk,.inl h.cb,?_,?_,h.pinj,h.sinj,⟨rfl,.inl ⟨rfl,rfl⟩⟩,fun k hk=>by simp[Value.ownBlock] at hk,?_⟩
 ·intro i hi;obtain⟨q1,q2,q3⟩:=h.px i hi;have e:((fun i=>if i=q then ({f.b i with st:=List.replicate (f.W*f.H) false,begun:=t}:Buf) else f.b i) i).px=(f.b i).px:=(by dsimp only;split<;>rfl);refine⟨?_,.inl q2,?_⟩
  ·show w'.heap[v.pb i]?=some (.cells ((((fun i=>if i=q then ({f.b i with st:=List.replicate (f.W*f.H) false,begun:=t}:Buf) else f.b i) i).px).map (Value.int .i64)).toArray 3 (0,0));rw[e];exact hb.heap q1 (hS q1 (by decide) (by decide))
  ·show ((fun i=>if i=q then ({f.b i with st:=List.replicate (f.W*f.H) false,begun:=t}:Buf) else f.b i) i).px.length=_;rw[e];exact q3
 ·intro i hi
  by_cases e:i=q
  ·subst e;simp only[if_pos];exact⟨hst,.inl (h.st i hi).2.1,by simp⟩
  ·obtain⟨q1,q2,q3⟩:=h.st i hi;simp only[if_neg e];refine⟨hb.heap q1 ?_,.inl q2,q3⟩;rintro (e' | e')
   ·have:=h.blk;rw[<-e',q1] at this;simp at this
   ·exact e (h.sinj i q hi hq e')
 ·intro g hg;simp only[Option.some.injEq] at hg;subst hg;refine⟨hfb,.inr ⟨hnb,hnl⟩,hq,qi h.mks hb (fun k hk=>?_),fun k hk=>⟨.inl (h.mc k hk),by simp[Value.ownBlock]⟩,?_⟩
  ·rintro (e | e)
   ·exact qq h.mks h.blk (by decide) (by rw[hk,e])
   ·exact qq h.mks (h.st q hq).1 (by decide) (by rw[hk,e])
  ·rcases hds.2 with ⟨e,hn⟩ | ⟨g,cap,cur,e,hge,hg,hcc,hm,hz,ht⟩
   ·have hd0:ds=[]:=List.eq_nil_of_length_eq_zero (by simpa using hn);subst hd0;exact⟨none,0,e,zzl _,Nat.zero_le _,fun h=>absurd rfl h⟩
   ·refine⟨some ⟨g,0,none⟩,cap,by rw[e];simp,by simpa using hcc,hm,fun _=>⟨g,0,cur,rfl,.inr ⟨hge,qh hg⟩,hg,fun j k hk=>?_⟩⟩;have hlt:j<ds.length:=(zzg hk).1;have hat:=XV (ds.map k2) j (k2 k) (by rw[List.getElem?_map,hk];rfl);rw[Nat.zero_add,qe hg,qe hg,<-Array.getElem?_toList,<-Array.getElem?_toList];have hl2:(ds.map k2).length=ds.length:=(by simp);rw[<-ht] at hat;rw[List.getElem?_take,List.getElem?_take,if_pos (by omega),if_pos (by omega)] at hat;exact hat
theorem qn5 {C:Nat->Prop}{w:World}{b0:Nat}{f:Frs}{v:Fl}(h:Fr C w b0 f v)(t:Int)(sb:Nat)(hno:f.frame.isSome=true\/f.due=false) :
 Calls Tryz.prog 88 #[.pointer (some ⟨b0,0,none⟩),.int .i64 t,.func (.func 89) #[.pointer (some ⟨sb,0,none⟩)] #[]] w fun e w'=>(∃ u,e=.returned u)/\w'=w:=by
 have c14:w.cell? ⟨b0,14,none⟩=some (xD f v):=qe h.blk 14;have c15:w.cell? ⟨b0,15,none⟩=some (.bool f.due):=qe h.blk 15;clear h
 cases hfr:f.frame with
 | some g=>
  simp only[xD,hfr] at c14;clear hno
  go_enter Tryz.func88,Tryz.ntmps88
  go_wp2;refine bodyPost_ret (results_none rfl _ _ _) rfl ?_;exact⟨⟨_,rfl⟩,rfl⟩
 | none=>
  simp only[xD,hfr] at c14;rw[hfr] at hno;have hd:f.due=false:=(by simpa using hno);rw[hd] at c15;clear hno hd
  go_enter Tryz.func88,Tryz.ntmps88
  go_wp2;refine bodyPost_ret (results_none rfl _ _ _) rfl ?_;exact⟨⟨_,rfl⟩,rfl⟩
theorem Qm {w:World}{base base':Nat}{e:TypeId}{size:Nat}{v:Value}{n:Nat}{xs:List Value}(h:w.ownsRow base e size v n xs)(hb:base'<=base):w.ownsRow base' e size v n xs:=by
 refine⟨h.1,?_⟩
 rcases h.2 with hn | ⟨g,cap,cur,e,hg,r⟩
 ·exact .inl hn
 ·exact .inr ⟨g,cap,cur,e,Nat.le_trans hb hg,r⟩
theorem ze9 {C:Nat->Prop}{w:World}{b0:Nat}{f:Frs}{v:Fl}(h:Fr C w b0 f v)(hCl:∀ k,C k->k<w.heap.size)(hfr3:f.front<3)(hW:1<=f.W/\f.W<=16)(hH:1<=f.H/\f.H<=16)(t:Int)(sb:Nat)(pic:Int->Int->Int)(hfn:f.frame=none)(hdue:f.due=true)(hnx:za f 3=some 0)
 (hP:∀ (W:World)(x y:Nat),Below w.heap.size w W->x<=16->y<=256->Calls Tryz.prog 89 #[.pointer (some ⟨sb,0,none⟩),.int .i64 (x:Int),.int .i64 (y:Int)] W fun e w'=>e=.returned (.int .i64 (pic (x:Int) (y:Int)))/\Below W.heap.size W w') :
 Calls Tryz.prog 88 #[.pointer (some ⟨b0,0,none⟩),.int .i64 t,.func (.func 89) #[.pointer (some ⟨sb,0,none⟩)] #[]] w fun e w'=>(∃ u,e=.returned u)/\(∃ v',Fr (grow C w w') w' b0 (zR f t pic) v')/\But C w w':=by
 have eb:zR f t pic={f with frame:=some ⟨0,f.marks,zH (f.b 0).st f.W pic (f.W*f.H)⟩,due:=false,marks:=[],b:=fun i=>if i=0 then {f.b i with st:=List.replicate (f.W*f.H) false,begun:=t} else f.b i}:=by
  unfold zR;rw[if_neg (by rw[hfn,hdue];simp),hnx]
  rfl
 rw[eb];clear eb;have c14:w.cell? ⟨b0,14,none⟩=some (.pointer none):=(by rw[qe h.blk];simp[qT,xD,hfn]);have c15:w.cell? ⟨b0,15,none⟩=some (.bool true):=(by rw[qe h.blk];simp[qT,hdue]);have HNx:Hid (Calls Tryz.prog 119 #[.pointer (some ⟨b0,0,none⟩)] w fun e w'=>e=.returned (.int .i64 0)/\∃ q,w'=w.drewN q):=by
  have:=Jv h hfr3;rw[hnx] at this;exact this
 obtain⟨n,hn⟩:∃ n,n=f.W*f.H:=⟨_,rfl⟩;have hn0:0<n:=(by rw[hn];exact Nat.mul_pos (by omega) (by omega));obtain⟨ds,hds⟩:∃ ds,ds=zH (f.b 0).st f.W pic (f.W*f.H):=⟨_,rfl⟩;have HDt:Hid (∀ W,Below w.heap.size w W->Calls Tryz.prog 120 #[.pointer (some ⟨b0,0,none⟩),.slice (some ⟨v.st 0,0,none⟩) n n,.func (.func 89) #[.pointer (some ⟨sb,0,none⟩)] #[]] W fun e w'=>(∃ lv,e=.returned lv/\qN w' w.heap.size 222 lv (ds.map k2))/\Below w.heap.size w w'):=fun W hb=>by
  have:=JM (h.below hb) (q:=0) (by decide) hW hH sb pic (fun W' x y hb' hx hy=>hP W' x y (hb.trans (hb'.mono hb.size)) hx hy);rw[<-hds,zJ,<-hn] at this;refine this.mono ?_;rintro e w' ⟨⟨lv,he,hO⟩,hb'⟩;exact⟨⟨lv,he,Qm hO hb.size⟩,hb.trans (hb'.mono hb.size)⟩
 rw[<-hds];obtain⟨ro,rc,hov⟩:=qr h.mks;obtain⟨mn,hmn⟩:∃ mn,mn=(f.marks.map k2).length:=⟨_,rfl⟩;rw[<-hmn] at hov;have HH:=qg h;have HOV:=qg hov;have HN:=qg hn;have lb:b0<w.heap.size:=qh h.blk;have c16:w.cell? ⟨b0,16,none⟩=some v.mv:=qe h.blk 16;rw[hov] at c16;have cs:w.cell? ⟨b0,5,none⟩=some (.slice (some ⟨v.st 0,0,none⟩) n n):=(by rw[qe h.blk,hn];rfl);clear h hov hn hds hmn hP
 go_enter Tryz.func88,Tryz.ntmps88
 go_wp2_with (go_at_call 119;refine (qb HNx).mono ?_;rintro e w1 ⟨rfl,q1,rfl⟩)
 go_region_held3 (fun w'=>w'.cell? ⟨b0,16,none⟩=some (.slice ro mn rc)/\w'.cell? ⟨b0,5,none⟩=some (.slice (some ⟨v.st 0,0,none⟩) n n))
  (first | exact qb HS3 | exact qb HS2 | go_keep)
  ((go_at_call 120
    refine ((qb HDt) _ ?bb).mono ?_
    case bb=>first | exact below_drewN (Below.refl _ w) _ | exact (below_drewN (Below.refl _ w) _).drew
    rintro e w2 ⟨⟨lv,rfl,hO2⟩,hb2⟩
    obtain⟨lr,lc,hlv⟩:=qr hO2
    obtain⟨ln,hln⟩:∃ ln,ln=(ds.map k2).length:=⟨_,rfl⟩
    rw[<-hln] at hlv
    clear hln
    subst hlv
    have hF2:=(qb HH).below hb2
    have g14:w2.cell? ⟨b0,14,none⟩=some (.pointer none):=(hb2.cell lb).trans c14
    have g15:w2.cell? ⟨b0,15,none⟩=some (.bool true):=(hb2.cell lb).trans c15
    have g16:w2.cell? ⟨b0,16,none⟩=some (.slice ro mn rc):=(hb2.cell lb).trans c16
    have gs:w2.cell? ⟨b0,5,none⟩=some (.slice (some ⟨v.st 0,0,none⟩) n n):=(hb2.cell lb).trans cs
    have gf:∀ j,w2.frozen? ⟨b0,j,none⟩=false:=fun j=>qj hF2.blk j
    have lb2:b0<w2.heap.size:=zzm lb hb2.size
    have hX:((w2.setCell ⟨b0,14,none⟩ (.pointer (some ⟨w2.heap.size,0,none⟩))).alloc (.cells #[.int .i64 0,.slice ro mn rc,.slice lr ln lc] 182)).heap[b0]?=_:=qx (qp (i:=14) hF2.blk (.pointer (some ⟨w2.heap.size,0,none⟩))) _
    have k16:((w2.setCell ⟨b0,14,none⟩ (.pointer (some ⟨w2.heap.size,0,none⟩))).alloc (.cells #[.int .i64 0,.slice ro mn rc,.slice lr ln lc] 182)).cell? ⟨b0,16,none⟩=some v.mv:=qe hX 16
    rw[qb HOV] at k16
    have ks:((w2.setCell ⟨b0,14,none⟩ (.pointer (some ⟨w2.heap.size,0,none⟩))).alloc (.cells #[.int .i64 0,.slice ro mn rc,.slice lr ln lc] 182)).cell? ⟨b0,5,none⟩=some (zJ (v.st 0) (f.W*f.H)):=qe hX 5
    rw[zJ,<-qb HN] at ks
    have HS3:=qg (And.intro k16 ks)
    have HXX:=qg hX
    clear k16 ks hX
    have HS2:=qg (And.intro g16 gs)
    have HF2:=qg hF2
    have HB2:=qg hb2
    have HO2:=qg hO2
    clear hb2 hO2 hF2))
 all_goals
  obtain⟨X,hXe⟩:∃ X,X=(w2.setCell ⟨b0,14,none⟩ (.pointer (some ⟨w2.heap.size,0,none⟩))).alloc (.cells #[.int .i64 0,.slice ro mn rc,.slice lr ln lc] 182):=⟨_,rfl⟩;rw[<-hXe];have hXb:=qb HXX;rw[<-hXe] at hXb;have hXf:X.heap[w2.heap.size]?=some (.cells #[.int .i64 0,.slice ro mn rc,.slice lr ln lc] 182 (0,0)):=(by rw[hXe];exact qt _ _ _ (by simp[World.setCell]));have hXB:But (fun x=>x=b0) w X:=(by rw[hXe];exact ((But.of_below (S:=fun x=>x=b0) (qb HB2)).setCell (p:=⟨b0,14,none⟩) (.inl rfl) _).alloc _);have hXs:=hXB.heap ((qb HH).st 0 (by decide)).1 (fun e=>by have:=(qb HH).blk;rw[<-e,((qb HH).st 0 (by decide)).1] at this;simp at this);have hXd:qN X w.heap.size 222 (.slice lr ln lc) (ds.map k2):=by
   rw[hXe];refine qi (qi (qb HO2) ((But.refl (fun k=>k=b0) w2).setCell (p:=⟨b0,14,none⟩) (.inl rfl) _) (fun k hk e=>?_)) (S:=fun _=>False) ((But.refl _ _).alloc _) (fun _ _ h=>h);have:=(World.ownsRow.lt (qb HO2) k hk).1;omega
  obtain⟨Y,hYe⟩:∃ Y,Y=(X.setCell ⟨b0,15,none⟩ (.bool false)).setCell ⟨b0,16,none⟩ (.slice none 0 0):=⟨_,rfl⟩;have hYb:=qp (i:=16) (qp (i:=15) hXb (.bool false)) (.slice none 0 0);rw[<-hYe] at hYb;have hsb:¬v.st 0=b0:=fun e=>by have:=(qb HH).blk;rw[<-e,((qb HH).st 0 (by decide)).1] at this;simp at this
  have hYs:=qu (qu hXs (p:=⟨b0,15,none⟩) hsb (.bool false)) (p:=⟨b0,16,none⟩) hsb (.slice none 0 0);rw[<-hYe] at hYs;have hnb:¬w2.heap.size=b0:=(by omega);have hYf:=qu (qu hXf (p:=⟨b0,15,none⟩) hnb (.bool false)) (p:=⟨b0,16,none⟩) hnb (.slice none 0 0);rw[<-hYe] at hYf;obtain⟨Z,hZe⟩:∃ Z,Z=Y.setRow (v.st 0) ((List.replicate n false).map Value.bool).toArray:=⟨_,rfl⟩;have hclr:∀ ty,(Builtin.clear_ #[116] ty #[.slice (some ⟨v.st 0,0,none⟩) n n]).run Tryz.prog Y=.ok (.tuple #[]) Z:=fun ty=>by
   rw[hZe];exact xQ hYs (by rw[((qb HH).st 0 (by decide)).2.2,qb HN]) hn0 ty
  have hZb:=(setRow_other Y (v.st 0) b0 ((List.replicate n false).map Value.bool).toArray (fun e=>hsb e.symm)).trans hYb;rw[<-hZe] at hZb;have hZs:Z.heap[v.st 0]?=some (.cells ((List.replicate n false).map Value.bool).toArray 4 (0,0)):=(by rw[hZe];exact setRow_heap _ _ _ _ _ _ hYs);have hns:¬w2.heap.size=v.st 0:=fun e=>by
   have h1:=qh ((qb HH).st 0 (by decide)).1;have h2:=(qb HB2).size;omega
  have hZf:=(setRow_other Y (v.st 0) w2.heap.size ((List.replicate n false).map Value.bool).toArray hns).trans hYf;rw[<-hZe] at hZf;have hBZ:But (fun x=>x=b0\/x=v.st 0) w Z:=by
   rw[hZe,hYe];refine (((hXB.wide (fun x _ e=>.inl e)).setCell (p:=⟨b0,15,none⟩) (.inl (.inl rfl)) _).setCell (p:=⟨b0,16,none⟩) (.inl (.inl rfl)) _).trans ⟨rfl,rfl,rfl,by simp,fun k _ hk=>setRow_other _ _ _ _ (fun e=>hk (.inr e))⟩
  have hZd:qN Z w.heap.size 222 (.slice lr ln lc) (ds.map k2):=by
   rw[hZe,hYe];refine qi (qi hXd (((But.refl (fun k=>k=b0) X).setCell (p:=⟨b0,15,none⟩) (.inl rfl) _).setCell (p:=⟨b0,16,none⟩) (.inl rfl) _) (fun k hk e=>?_)) (S:=fun x=>x=v.st 0) ⟨rfl,rfl,rfl,by simp,fun k _ hk=>setRow_other _ _ _ _ hk⟩ (fun k hk e=>?_)
   ·have:=(World.ownsRow.lt (qb HO2) k hk).1;omega
   ·have:=(World.ownsRow.lt (qb HO2) k hk).1;have:=qh ((qb HH).st 0 (by decide)).1;omega
  have a15:X.cell? ⟨b0,15,none⟩=some (.bool true):=(by rw[qe hXb];simp[qT,hdue]);have a16:X.cell? ⟨b0,16,none⟩=some (.slice ro mn rc):=(by rw[qe hXb];simp[qT,qb HOV]);have aS:X.cell? ⟨b0,5,none⟩=some (.slice (some ⟨v.st 0,0,none⟩) n n):=(by rw[qe hXb];simp[qT,zJ,qb HN]);have aB:Z.cell? ⟨b0,6,none⟩=some (.int .i64 (f.b 0).begun):=(by rw[qe hZb];simp[qT]);have aF:∀ j,X.frozen? ⟨b0,j,none⟩=false:=fun j=>qj hXb j;have aZ:∀ j,Z.frozen? ⟨b0,j,none⟩=false:=fun j=>qj hZb j;have hsz2:=(qb HB2).size;have hZl:w2.heap.size<Z.heap.size:=qh hZf;have hE:Fr (grow C w (Z.setCell ⟨b0,6,none⟩ (.int .i64 t))) (Z.setCell ⟨b0,6,none⟩ (.int .i64 t)) b0 {f with frame:=some ⟨0,f.marks,ds⟩,due:=false,marks:=[],b:=fun i=>if i=0 then {f.b i with st:=List.replicate (f.W*f.H) false,begun:=t} else f.b i} {v with fb:=w2.heap.size,fm:=v.mv,fl:=.slice lr ln lc,mv:=.slice none 0 0}:=by
   refine (qb HH).begun hCl (by decide) hsz2 (by simp[World.setCell];exact hZl) (hBZ.setCell (p:=⟨b0,6,none⟩) (.inl (.inl rfl)) _) ?_ ?_ ?_ ?_
   ·rw[qp (i:=6) hZb (.int .i64 t)];simp[qT,xD,zJ]
   ·rw[<-qb HN];exact qu hZs (p:=⟨b0,6,none⟩) hsb _
   ·have:=qu hZf (p:=⟨b0,6,none⟩) hnb (.int .i64 t);rw[this,qb HOV];rfl
   ·exact qi hZd ((But.refl (fun k=>k=b0) Z).setCell (p:=⟨b0,6,none⟩) (.inl rfl) _) (fun k hk e=>by have:=(World.ownsRow.lt hZd k hk).1;omega)
  have hEB:But C w (Z.setCell ⟨b0,6,none⟩ (.int .i64 t)):=(hBZ.wide (fun x _ e=>by rcases e with e | e;rw[e];exact (qb HH).cb;rw[e];exact ((qb HH).st 0 (by decide)).2.1)).setCell (p:=⟨b0,6,none⟩) (.inl (qb HH).cb) _;have HE:=qg hE;have HEB:=qg hEB;have hclr0:=hclr 0;rw[hYe] at hclr0;clear hE hEB hclr hZd hBZ hZf hns hZs hZb hZe hYf hYs hYb hYe hXd hXs hXB hXf hXb hXe
  (try simp only[Exit.then])
  (try go_simp)
  go_wp2;go_end0;exact⟨⟨_,rfl⟩,⟨_,qb HE⟩,qb HEB⟩
theorem ze8 {C:Nat->Prop}{w:World}{b0:Nat}{f:Frs}{v:Fl}(h:Fr C w b0 f v)(hCl:∀ k,C k->k<w.heap.size)(hfr3:f.front<3)(hW:1<=f.W/\f.W<=16)(hH:1<=f.H/\f.H<=16)(t:Int)(sb:Nat)(pic:Int->Int->Int)(hfn:f.frame=none)(hdue:f.due=true)(hnx:za f 3=some 1)
 (hP:∀ (W:World)(x y:Nat),Below w.heap.size w W->x<=16->y<=256->Calls Tryz.prog 89 #[.pointer (some ⟨sb,0,none⟩),.int .i64 (x:Int),.int .i64 (y:Int)] W fun e w'=>e=.returned (.int .i64 (pic (x:Int) (y:Int)))/\Below W.heap.size W w') :
 Calls Tryz.prog 88 #[.pointer (some ⟨b0,0,none⟩),.int .i64 t,.func (.func 89) #[.pointer (some ⟨sb,0,none⟩)] #[]] w fun e w'=>(∃ u,e=.returned u)/\(∃ v',Fr (grow C w w') w' b0 (zR f t pic) v')/\But C w w':=by
 have eb:zR f t pic={f with frame:=some ⟨1,f.marks,zH (f.b 1).st f.W pic (f.W*f.H)⟩,due:=false,marks:=[],b:=fun i=>if i=1 then {f.b i with st:=List.replicate (f.W*f.H) false,begun:=t} else f.b i}:=by
  unfold zR;rw[if_neg (by rw[hfn,hdue];simp),hnx]
  rfl
 rw[eb];clear eb;have c14:w.cell? ⟨b0,14,none⟩=some (.pointer none):=(by rw[qe h.blk];simp[qT,xD,hfn]);have c15:w.cell? ⟨b0,15,none⟩=some (.bool true):=(by rw[qe h.blk];simp[qT,hdue]);have HNx:Hid (Calls Tryz.prog 119 #[.pointer (some ⟨b0,0,none⟩)] w fun e w'=>e=.returned (.int .i64 1)/\∃ q,w'=w.drewN q):=by
  have:=Jv h hfr3;rw[hnx] at this;exact this
 obtain⟨n,hn⟩:∃ n,n=f.W*f.H:=⟨_,rfl⟩;have hn0:0<n:=(by rw[hn];exact Nat.mul_pos (by omega) (by omega));obtain⟨ds,hds⟩:∃ ds,ds=zH (f.b 1).st f.W pic (f.W*f.H):=⟨_,rfl⟩;have HDt:Hid (∀ W,Below w.heap.size w W->Calls Tryz.prog 120 #[.pointer (some ⟨b0,0,none⟩),.slice (some ⟨v.st 1,0,none⟩) n n,.func (.func 89) #[.pointer (some ⟨sb,0,none⟩)] #[]] W fun e w'=>(∃ lv,e=.returned lv/\qN w' w.heap.size 222 lv (ds.map k2))/\Below w.heap.size w w'):=fun W hb=>by
  have:=JM (h.below hb) (q:=1) (by decide) hW hH sb pic (fun W' x y hb' hx hy=>hP W' x y (hb.trans (hb'.mono hb.size)) hx hy);rw[<-hds,zJ,<-hn] at this;refine this.mono ?_;rintro e w' ⟨⟨lv,he,hO⟩,hb'⟩;exact⟨⟨lv,he,Qm hO hb.size⟩,hb.trans (hb'.mono hb.size)⟩
 rw[<-hds];obtain⟨ro,rc,hov⟩:=qr h.mks;obtain⟨mn,hmn⟩:∃ mn,mn=(f.marks.map k2).length:=⟨_,rfl⟩;rw[<-hmn] at hov;have HH:=qg h;have HOV:=qg hov;have HN:=qg hn;have lb:b0<w.heap.size:=qh h.blk;have c16:w.cell? ⟨b0,16,none⟩=some v.mv:=qe h.blk 16;rw[hov] at c16;have cs:w.cell? ⟨b0,8,none⟩=some (.slice (some ⟨v.st 1,0,none⟩) n n):=(by rw[qe h.blk,hn];rfl);clear h hov hn hds hmn hP
 go_enter Tryz.func88,Tryz.ntmps88
 go_wp2_with (go_at_call 119;refine (qb HNx).mono ?_;rintro e w1 ⟨rfl,q1,rfl⟩)
 go_region_held3 (fun w'=>w'.cell? ⟨b0,16,none⟩=some (.slice ro mn rc)/\w'.cell? ⟨b0,8,none⟩=some (.slice (some ⟨v.st 1,0,none⟩) n n))
  (first | exact qb HS3 | exact qb HS2 | go_keep)
  ((go_at_call 120
    refine ((qb HDt) _ ?bb).mono ?_
    case bb=>first | exact below_drewN (Below.refl _ w) _ | exact (below_drewN (Below.refl _ w) _).drew
    rintro e w2 ⟨⟨lv,rfl,hO2⟩,hb2⟩
    obtain⟨lr,lc,hlv⟩:=qr hO2
    obtain⟨ln,hln⟩:∃ ln,ln=(ds.map k2).length:=⟨_,rfl⟩
    rw[<-hln] at hlv
    clear hln
    subst hlv
    have hF2:=(qb HH).below hb2
    have g14:w2.cell? ⟨b0,14,none⟩=some (.pointer none):=(hb2.cell lb).trans c14
    have g15:w2.cell? ⟨b0,15,none⟩=some (.bool true):=(hb2.cell lb).trans c15
    have g16:w2.cell? ⟨b0,16,none⟩=some (.slice ro mn rc):=(hb2.cell lb).trans c16
    have gs:w2.cell? ⟨b0,8,none⟩=some (.slice (some ⟨v.st 1,0,none⟩) n n):=(hb2.cell lb).trans cs
    have gf:∀ j,w2.frozen? ⟨b0,j,none⟩=false:=fun j=>qj hF2.blk j
    have lb2:b0<w2.heap.size:=zzm lb hb2.size
    have hX:((w2.setCell ⟨b0,14,none⟩ (.pointer (some ⟨w2.heap.size,0,none⟩))).alloc (.cells #[.int .i64 1,.slice ro mn rc,.slice lr ln lc] 182)).heap[b0]?=_:=qx (qp (i:=14) hF2.blk (.pointer (some ⟨w2.heap.size,0,none⟩))) _
    have k16:((w2.setCell ⟨b0,14,none⟩ (.pointer (some ⟨w2.heap.size,0,none⟩))).alloc (.cells #[.int .i64 1,.slice ro mn rc,.slice lr ln lc] 182)).cell? ⟨b0,16,none⟩=some v.mv:=qe hX 16
    rw[qb HOV] at k16
    have ks:((w2.setCell ⟨b0,14,none⟩ (.pointer (some ⟨w2.heap.size,0,none⟩))).alloc (.cells #[.int .i64 1,.slice ro mn rc,.slice lr ln lc] 182)).cell? ⟨b0,8,none⟩=some (zJ (v.st 1) (f.W*f.H)):=qe hX 8
    rw[zJ,<-qb HN] at ks
    have HS3:=qg (And.intro k16 ks)
    have HXX:=qg hX
    clear k16 ks hX
    have HS2:=qg (And.intro g16 gs)
    have HF2:=qg hF2
    have HB2:=qg hb2
    have HO2:=qg hO2
    clear hb2 hO2 hF2))
 all_goals
  obtain⟨X,hXe⟩:∃ X,X=(w2.setCell ⟨b0,14,none⟩ (.pointer (some ⟨w2.heap.size,0,none⟩))).alloc (.cells #[.int .i64 1,.slice ro mn rc,.slice lr ln lc] 182):=⟨_,rfl⟩;rw[<-hXe];have hXb:=qb HXX;rw[<-hXe] at hXb;have hXf:X.heap[w2.heap.size]?=some (.cells #[.int .i64 1,.slice ro mn rc,.slice lr ln lc] 182 (0,0)):=(by rw[hXe];exact qt _ _ _ (by simp[World.setCell]));have hXB:But (fun x=>x=b0) w X:=(by rw[hXe];exact ((But.of_below (S:=fun x=>x=b0) (qb HB2)).setCell (p:=⟨b0,14,none⟩) (.inl rfl) _).alloc _);have hXs:=hXB.heap ((qb HH).st 1 (by decide)).1 (fun e=>by have:=(qb HH).blk;rw[<-e,((qb HH).st 1 (by decide)).1] at this;simp at this);have hXd:qN X w.heap.size 222 (.slice lr ln lc) (ds.map k2):=by
   rw[hXe];refine qi (qi (qb HO2) ((But.refl (fun k=>k=b0) w2).setCell (p:=⟨b0,14,none⟩) (.inl rfl) _) (fun k hk e=>?_)) (S:=fun _=>False) ((But.refl _ _).alloc _) (fun _ _ h=>h);have:=(World.ownsRow.lt (qb HO2) k hk).1;omega
  obtain⟨Y,hYe⟩:∃ Y,Y=(X.setCell ⟨b0,15,none⟩ (.bool false)).setCell ⟨b0,16,none⟩ (.slice none 0 0):=⟨_,rfl⟩;have hYb:=qp (i:=16) (qp (i:=15) hXb (.bool false)) (.slice none 0 0);rw[<-hYe] at hYb;have hsb:¬v.st 1=b0:=fun e=>by have:=(qb HH).blk;rw[<-e,((qb HH).st 1 (by decide)).1] at this;simp at this
  have hYs:=qu (qu hXs (p:=⟨b0,15,none⟩) hsb (.bool false)) (p:=⟨b0,16,none⟩) hsb (.slice none 0 0);rw[<-hYe] at hYs;have hnb:¬w2.heap.size=b0:=(by omega);have hYf:=qu (qu hXf (p:=⟨b0,15,none⟩) hnb (.bool false)) (p:=⟨b0,16,none⟩) hnb (.slice none 0 0);rw[<-hYe] at hYf;obtain⟨Z,hZe⟩:∃ Z,Z=Y.setRow (v.st 1) ((List.replicate n false).map Value.bool).toArray:=⟨_,rfl⟩;have hclr:∀ ty,(Builtin.clear_ #[116] ty #[.slice (some ⟨v.st 1,0,none⟩) n n]).run Tryz.prog Y=.ok (.tuple #[]) Z:=fun ty=>by
   rw[hZe];exact xQ hYs (by rw[((qb HH).st 1 (by decide)).2.2,qb HN]) hn0 ty
  have hZb:=(setRow_other Y (v.st 1) b0 ((List.replicate n false).map Value.bool).toArray (fun e=>hsb e.symm)).trans hYb;rw[<-hZe] at hZb;have hZs:Z.heap[v.st 1]?=some (.cells ((List.replicate n false).map Value.bool).toArray 4 (0,0)):=(by rw[hZe];exact setRow_heap _ _ _ _ _ _ hYs);have hns:¬w2.heap.size=v.st 1:=fun e=>by
   have h1:=qh ((qb HH).st 1 (by decide)).1;have h2:=(qb HB2).size;omega
  have hZf:=(setRow_other Y (v.st 1) w2.heap.size ((List.replicate n false).map Value.bool).toArray hns).trans hYf;rw[<-hZe] at hZf;have hBZ:But (fun x=>x=b0\/x=v.st 1) w Z:=by
   rw[hZe,hYe];refine (((hXB.wide (fun x _ e=>.inl e)).setCell (p:=⟨b0,15,none⟩) (.inl (.inl rfl)) _).setCell (p:=⟨b0,16,none⟩) (.inl (.inl rfl)) _).trans ⟨rfl,rfl,rfl,by simp,fun k _ hk=>setRow_other _ _ _ _ (fun e=>hk (.inr e))⟩
  have hZd:qN Z w.heap.size 222 (.slice lr ln lc) (ds.map k2):=by
   rw[hZe,hYe];refine qi (qi hXd (((But.refl (fun k=>k=b0) X).setCell (p:=⟨b0,15,none⟩) (.inl rfl) _).setCell (p:=⟨b0,16,none⟩) (.inl rfl) _) (fun k hk e=>?_)) (S:=fun x=>x=v.st 1) ⟨rfl,rfl,rfl,by simp,fun k _ hk=>setRow_other _ _ _ _ hk⟩ (fun k hk e=>?_)
   ·have:=(World.ownsRow.lt (qb HO2) k hk).1;omega
   ·have:=(World.ownsRow.lt (qb HO2) k hk).1;have:=qh ((qb HH).st 1 (by decide)).1;omega
  have a15:X.cell? ⟨b0,15,none⟩=some (.bool true):=(by rw[qe hXb];simp[qT,hdue]);have a16:X.cell? ⟨b0,16,none⟩=some (.slice ro mn rc):=(by rw[qe hXb];simp[qT,qb HOV]);have aS:X.cell? ⟨b0,8,none⟩=some (.slice (some ⟨v.st 1,0,none⟩) n n):=(by rw[qe hXb];simp[qT,zJ,qb HN]);have aB:Z.cell? ⟨b0,9,none⟩=some (.int .i64 (f.b 1).begun):=(by rw[qe hZb];simp[qT]);have aF:∀ j,X.frozen? ⟨b0,j,none⟩=false:=fun j=>qj hXb j;have aZ:∀ j,Z.frozen? ⟨b0,j,none⟩=false:=fun j=>qj hZb j;have hsz2:=(qb HB2).size;have hZl:w2.heap.size<Z.heap.size:=qh hZf;have hE:Fr (grow C w (Z.setCell ⟨b0,9,none⟩ (.int .i64 t))) (Z.setCell ⟨b0,9,none⟩ (.int .i64 t)) b0 {f with frame:=some ⟨1,f.marks,ds⟩,due:=false,marks:=[],b:=fun i=>if i=1 then {f.b i with st:=List.replicate (f.W*f.H) false,begun:=t} else f.b i} {v with fb:=w2.heap.size,fm:=v.mv,fl:=.slice lr ln lc,mv:=.slice none 0 0}:=by
   refine (qb HH).begun hCl (by decide) hsz2 (by simp[World.setCell];exact hZl) (hBZ.setCell (p:=⟨b0,9,none⟩) (.inl (.inl rfl)) _) ?_ ?_ ?_ ?_
   ·rw[qp (i:=9) hZb (.int .i64 t)];simp[qT,xD,zJ]
   ·rw[<-qb HN];exact qu hZs (p:=⟨b0,9,none⟩) hsb _
   ·have:=qu hZf (p:=⟨b0,9,none⟩) hnb (.int .i64 t);rw[this,qb HOV];rfl
   ·exact qi hZd ((But.refl (fun k=>k=b0) Z).setCell (p:=⟨b0,9,none⟩) (.inl rfl) _) (fun k hk e=>by have:=(World.ownsRow.lt hZd k hk).1;omega)
  have hEB:But C w (Z.setCell ⟨b0,9,none⟩ (.int .i64 t)):=(hBZ.wide (fun x _ e=>by rcases e with e | e;rw[e];exact (qb HH).cb;rw[e];exact ((qb HH).st 1 (by decide)).2.1)).setCell (p:=⟨b0,9,none⟩) (.inl (qb HH).cb) _;have HE:=qg hE;have HEB:=qg hEB;have hclr0:=hclr 0;rw[hYe] at hclr0;clear hE hEB hclr hZd hBZ hZf hns hZs hZb hZe hYf hYs hYb hYe hXd hXs hXB hXf hXb hXe
  (try simp only[Exit.then])
  (try go_simp)
  go_wp2;go_end0;exact⟨⟨_,rfl⟩,⟨_,qb HE⟩,qb HEB⟩
theorem ze7 {C:Nat->Prop}{w:World}{b0:Nat}{f:Frs}{v:Fl}(h:Fr C w b0 f v)(hCl:∀ k,C k->k<w.heap.size)(hfr3:f.front<3)(hW:1<=f.W/\f.W<=16)(hH:1<=f.H/\f.H<=16)(t:Int)(sb:Nat)(pic:Int->Int->Int)(hfn:f.frame=none)(hdue:f.due=true)(hnx:za f 3=some 2)
 (hP:∀ (W:World)(x y:Nat),Below w.heap.size w W->x<=16->y<=256->Calls Tryz.prog 89 #[.pointer (some ⟨sb,0,none⟩),.int .i64 (x:Int),.int .i64 (y:Int)] W fun e w'=>e=.returned (.int .i64 (pic (x:Int) (y:Int)))/\Below W.heap.size W w') :
 Calls Tryz.prog 88 #[.pointer (some ⟨b0,0,none⟩),.int .i64 t,.func (.func 89) #[.pointer (some ⟨sb,0,none⟩)] #[]] w fun e w'=>(∃ u,e=.returned u)/\(∃ v',Fr (grow C w w') w' b0 (zR f t pic) v')/\But C w w':=by
 have eb:zR f t pic={f with frame:=some ⟨2,f.marks,zH (f.b 2).st f.W pic (f.W*f.H)⟩,due:=false,marks:=[],b:=fun i=>if i=2 then {f.b i with st:=List.replicate (f.W*f.H) false,begun:=t} else f.b i}:=by
  unfold zR;rw[if_neg (by rw[hfn,hdue];simp),hnx]
  rfl
 rw[eb];clear eb;have c14:w.cell? ⟨b0,14,none⟩=some (.pointer none):=(by rw[qe h.blk];simp[qT,xD,hfn]);have c15:w.cell? ⟨b0,15,none⟩=some (.bool true):=(by rw[qe h.blk];simp[qT,hdue]);have HNx:Hid (Calls Tryz.prog 119 #[.pointer (some ⟨b0,0,none⟩)] w fun e w'=>e=.returned (.int .i64 2)/\∃ q,w'=w.drewN q):=by
  have:=Jv h hfr3;rw[hnx] at this;exact this
 obtain⟨n,hn⟩:∃ n,n=f.W*f.H:=⟨_,rfl⟩;have hn0:0<n:=(by rw[hn];exact Nat.mul_pos (by omega) (by omega));obtain⟨ds,hds⟩:∃ ds,ds=zH (f.b 2).st f.W pic (f.W*f.H):=⟨_,rfl⟩;have HDt:Hid (∀ W,Below w.heap.size w W->Calls Tryz.prog 120 #[.pointer (some ⟨b0,0,none⟩),.slice (some ⟨v.st 2,0,none⟩) n n,.func (.func 89) #[.pointer (some ⟨sb,0,none⟩)] #[]] W fun e w'=>(∃ lv,e=.returned lv/\qN w' w.heap.size 222 lv (ds.map k2))/\Below w.heap.size w w'):=fun W hb=>by
  have:=JM (h.below hb) (q:=2) (by decide) hW hH sb pic (fun W' x y hb' hx hy=>hP W' x y (hb.trans (hb'.mono hb.size)) hx hy);rw[<-hds,zJ,<-hn] at this;refine this.mono ?_;rintro e w' ⟨⟨lv,he,hO⟩,hb'⟩;exact⟨⟨lv,he,Qm hO hb.size⟩,hb.trans (hb'.mono hb.size)⟩
 rw[<-hds];obtain⟨ro,rc,hov⟩:=qr h.mks;obtain⟨mn,hmn⟩:∃ mn,mn=(f.marks.map k2).length:=⟨_,rfl⟩;rw[<-hmn] at hov;have HH:=qg h;have HOV:=qg hov;have HN:=qg hn;have lb:b0<w.heap.size:=qh h.blk;have c16:w.cell? ⟨b0,16,none⟩=some v.mv:=qe h.blk 16;rw[hov] at c16;have cs:w.cell? ⟨b0,11,none⟩=some (.slice (some ⟨v.st 2,0,none⟩) n n):=(by rw[qe h.blk,hn];rfl);clear h hov hn hds hmn hP
 go_enter Tryz.func88,Tryz.ntmps88
 go_wp2_with (go_at_call 119;refine (qb HNx).mono ?_;rintro e w1 ⟨rfl,q1,rfl⟩)
 go_region_held3 (fun w'=>w'.cell? ⟨b0,16,none⟩=some (.slice ro mn rc)/\w'.cell? ⟨b0,11,none⟩=some (.slice (some ⟨v.st 2,0,none⟩) n n))
  (first | exact qb HS3 | exact qb HS2 | go_keep)
  ((go_at_call 120
    refine ((qb HDt) _ ?bb).mono ?_
    case bb=>first | exact below_drewN (Below.refl _ w) _ | exact (below_drewN (Below.refl _ w) _).drew
    rintro e w2 ⟨⟨lv,rfl,hO2⟩,hb2⟩
    obtain⟨lr,lc,hlv⟩:=qr hO2
    obtain⟨ln,hln⟩:∃ ln,ln=(ds.map k2).length:=⟨_,rfl⟩
    rw[<-hln] at hlv
    clear hln
    subst hlv
    have hF2:=(qb HH).below hb2
    have g14:w2.cell? ⟨b0,14,none⟩=some (.pointer none):=(hb2.cell lb).trans c14
    have g15:w2.cell? ⟨b0,15,none⟩=some (.bool true):=(hb2.cell lb).trans c15
    have g16:w2.cell? ⟨b0,16,none⟩=some (.slice ro mn rc):=(hb2.cell lb).trans c16
    have gs:w2.cell? ⟨b0,11,none⟩=some (.slice (some ⟨v.st 2,0,none⟩) n n):=(hb2.cell lb).trans cs
    have gf:∀ j,w2.frozen? ⟨b0,j,none⟩=false:=fun j=>qj hF2.blk j
    have lb2:b0<w2.heap.size:=zzm lb hb2.size
    have hX:((w2.setCell ⟨b0,14,none⟩ (.pointer (some ⟨w2.heap.size,0,none⟩))).alloc (.cells #[.int .i64 2,.slice ro mn rc,.slice lr ln lc] 182)).heap[b0]?=_:=qx (qp (i:=14) hF2.blk (.pointer (some ⟨w2.heap.size,0,none⟩))) _
    have k16:((w2.setCell ⟨b0,14,none⟩ (.pointer (some ⟨w2.heap.size,0,none⟩))).alloc (.cells #[.int .i64 2,.slice ro mn rc,.slice lr ln lc] 182)).cell? ⟨b0,16,none⟩=some v.mv:=qe hX 16
    rw[qb HOV] at k16
    have ks:((w2.setCell ⟨b0,14,none⟩ (.pointer (some ⟨w2.heap.size,0,none⟩))).alloc (.cells #[.int .i64 2,.slice ro mn rc,.slice lr ln lc] 182)).cell? ⟨b0,11,none⟩=some (zJ (v.st 2) (f.W*f.H)):=qe hX 11
    rw[zJ,<-qb HN] at ks
    have HS3:=qg (And.intro k16 ks)
    have HXX:=qg hX
    clear k16 ks hX
    have HS2:=qg (And.intro g16 gs)
    have HF2:=qg hF2
    have HB2:=qg hb2
    have HO2:=qg hO2
    clear hb2 hO2 hF2))
 all_goals
  obtain⟨X,hXe⟩:∃ X,X=(w2.setCell ⟨b0,14,none⟩ (.pointer (some ⟨w2.heap.size,0,none⟩))).alloc (.cells #[.int .i64 2,.slice ro mn rc,.slice lr ln lc] 182):=⟨_,rfl⟩;rw[<-hXe];have hXb:=qb HXX;rw[<-hXe] at hXb;have hXf:X.heap[w2.heap.size]?=some (.cells #[.int .i64 2,.slice ro mn rc,.slice lr ln lc] 182 (0,0)):=(by rw[hXe];exact qt _ _ _ (by simp[World.setCell]));have hXB:But (fun x=>x=b0) w X:=(by rw[hXe];exact ((But.of_below (S:=fun x=>x=b0) (qb HB2)).setCell (p:=⟨b0,14,none⟩) (.inl rfl) _).alloc _);have hXs:=hXB.heap ((qb HH).st 2 (by decide)).1 (fun e=>by have:=(qb HH).blk;rw[<-e,((qb HH).st 2 (by decide)).1] at this;simp at this);have hXd:qN X w.heap.size 222 (.slice lr ln lc) (ds.map k2):=by
   rw[hXe];refine qi (qi (qb HO2) ((But.refl (fun k=>k=b0) w2).setCell (p:=⟨b0,14,none⟩) (.inl rfl) _) (fun k hk e=>?_)) (S:=fun _=>False) ((But.refl _ _).alloc _) (fun _ _ h=>h);have:=(World.ownsRow.lt (qb HO2) k hk).1;omega
  obtain⟨Y,hYe⟩:∃ Y,Y=(X.setCell ⟨b0,15,none⟩ (.bool false)).setCell ⟨b0,16,none⟩ (.slice none 0 0):=⟨_,rfl⟩;have hYb:=qp (i:=16) (qp (i:=15) hXb (.bool false)) (.slice none 0 0);rw[<-hYe] at hYb;have hsb:¬v.st 2=b0:=fun e=>by have:=(qb HH).blk;rw[<-e,((qb HH).st 2 (by decide)).1] at this;simp at this
  have hYs:=qu (qu hXs (p:=⟨b0,15,none⟩) hsb (.bool false)) (p:=⟨b0,16,none⟩) hsb (.slice none 0 0);rw[<-hYe] at hYs;have hnb:¬w2.heap.size=b0:=(by omega);have hYf:=qu (qu hXf (p:=⟨b0,15,none⟩) hnb (.bool false)) (p:=⟨b0,16,none⟩) hnb (.slice none 0 0);rw[<-hYe] at hYf;obtain⟨Z,hZe⟩:∃ Z,Z=Y.setRow (v.st 2) ((List.replicate n false).map Value.bool).toArray:=⟨_,rfl⟩;have hclr:∀ ty,(Builtin.clear_ #[116] ty #[.slice (some ⟨v.st 2,0,none⟩) n n]).run Tryz.prog Y=.ok (.tuple #[]) Z:=fun ty=>by
   rw[hZe];exact xQ hYs (by rw[((qb HH).st 2 (by decide)).2.2,qb HN]) hn0 ty
  have hZb:=(setRow_other Y (v.st 2) b0 ((List.replicate n false).map Value.bool).toArray (fun e=>hsb e.symm)).trans hYb;rw[<-hZe] at hZb;have hZs:Z.heap[v.st 2]?=some (.cells ((List.replicate n false).map Value.bool).toArray 4 (0,0)):=(by rw[hZe];exact setRow_heap _ _ _ _ _ _ hYs);have hns:¬w2.heap.size=v.st 2:=fun e=>by
   have h1:=qh ((qb HH).st 2 (by decide)).1;have h2:=(qb HB2).size;omega
  have hZf:=(setRow_other Y (v.st 2) w2.heap.size ((List.replicate n false).map Value.bool).toArray hns).trans hYf;rw[<-hZe] at hZf;have hBZ:But (fun x=>x=b0\/x=v.st 2) w Z:=by
   rw[hZe,hYe];refine (((hXB.wide (fun x _ e=>.inl e)).setCell (p:=⟨b0,15,none⟩) (.inl (.inl rfl)) _).setCell (p:=⟨b0,16,none⟩) (.inl (.inl rfl)) _).trans ⟨rfl,rfl,rfl,by simp,fun k _ hk=>setRow_other _ _ _ _ (fun e=>hk (.inr e))⟩
  have hZd:qN Z w.heap.size 222 (.slice lr ln lc) (ds.map k2):=by
   rw[hZe,hYe];refine qi (qi hXd (((But.refl (fun k=>k=b0) X).setCell (p:=⟨b0,15,none⟩) (.inl rfl) _).setCell (p:=⟨b0,16,none⟩) (.inl rfl) _) (fun k hk e=>?_)) (S:=fun x=>x=v.st 2) ⟨rfl,rfl,rfl,by simp,fun k _ hk=>setRow_other _ _ _ _ hk⟩ (fun k hk e=>?_)
   ·have:=(World.ownsRow.lt (qb HO2) k hk).1;omega
   ·have:=(World.ownsRow.lt (qb HO2) k hk).1;have:=qh ((qb HH).st 2 (by decide)).1;omega
  have a15:X.cell? ⟨b0,15,none⟩=some (.bool true):=(by rw[qe hXb];simp[qT,hdue]);have a16:X.cell? ⟨b0,16,none⟩=some (.slice ro mn rc):=(by rw[qe hXb];simp[qT,qb HOV]);have aS:X.cell? ⟨b0,11,none⟩=some (.slice (some ⟨v.st 2,0,none⟩) n n):=(by rw[qe hXb];simp[qT,zJ,qb HN]);have aB:Z.cell? ⟨b0,12,none⟩=some (.int .i64 (f.b 2).begun):=(by rw[qe hZb];simp[qT]);have aF:∀ j,X.frozen? ⟨b0,j,none⟩=false:=fun j=>qj hXb j;have aZ:∀ j,Z.frozen? ⟨b0,j,none⟩=false:=fun j=>qj hZb j;have hsz2:=(qb HB2).size;have hZl:w2.heap.size<Z.heap.size:=qh hZf;have hE:Fr (grow C w (Z.setCell ⟨b0,12,none⟩ (.int .i64 t))) (Z.setCell ⟨b0,12,none⟩ (.int .i64 t)) b0 {f with frame:=some ⟨2,f.marks,ds⟩,due:=false,marks:=[],b:=fun i=>if i=2 then {f.b i with st:=List.replicate (f.W*f.H) false,begun:=t} else f.b i} {v with fb:=w2.heap.size,fm:=v.mv,fl:=.slice lr ln lc,mv:=.slice none 0 0}:=by
   refine (qb HH).begun hCl (by decide) hsz2 (by simp[World.setCell];exact hZl) (hBZ.setCell (p:=⟨b0,12,none⟩) (.inl (.inl rfl)) _) ?_ ?_ ?_ ?_
   ·rw[qp (i:=12) hZb (.int .i64 t)];simp[qT,xD,zJ]
   ·rw[<-qb HN];exact qu hZs (p:=⟨b0,12,none⟩) hsb _
   ·have:=qu hZf (p:=⟨b0,12,none⟩) hnb (.int .i64 t);rw[this,qb HOV];rfl
   ·exact qi hZd ((But.refl (fun k=>k=b0) Z).setCell (p:=⟨b0,12,none⟩) (.inl rfl) _) (fun k hk e=>by have:=(World.ownsRow.lt hZd k hk).1;omega)
  have hEB:But C w (Z.setCell ⟨b0,12,none⟩ (.int .i64 t)):=(hBZ.wide (fun x _ e=>by rcases e with e | e;rw[e];exact (qb HH).cb;rw[e];exact ((qb HH).st 2 (by decide)).2.1)).setCell (p:=⟨b0,12,none⟩) (.inl (qb HH).cb) _;have HE:=qg hE;have HEB:=qg hEB;have hclr0:=hclr 0;rw[hYe] at hclr0;clear hE hEB hclr hZd hBZ hZf hns hZs hZb hZe hYf hYs hYb hYe hXd hXs hXB hXf hXb hXe
  (try simp only[Exit.then])
  (try go_simp)
  go_wp2;go_end0;exact⟨⟨_,rfl⟩,⟨_,qb HE⟩,qb HEB⟩
theorem qn6 {C:Nat->Prop}{w:World}{b0:Nat}{f:Frs}{v:Fl}(h:Fr C w b0 f v)(hCl:∀ k,C k->k<w.heap.size)(hfr3:f.front<3)(hW:1<=f.W/\f.W<=16)(hH:1<=f.H/\f.H<=16)(t:Int)(sb:Nat)(pic:Int->Int->Int)
 (hP:∀ (W:World)(x y:Nat),Below w.heap.size w W->x<=16->y<=256->Calls Tryz.prog 89 #[.pointer (some ⟨sb,0,none⟩),.int .i64 (x:Int),.int .i64 (y:Int)] W fun e w'=>e=.returned (.int .i64 (pic (x:Int) (y:Int)))/\Below W.heap.size W w') :
 Calls Tryz.prog 88 #[.pointer (some ⟨b0,0,none⟩),.int .i64 t,.func (.func 89) #[.pointer (some ⟨sb,0,none⟩)] #[]] w fun e w'=>(∃ u,e=.returned u)/\(∃ v',Fr (grow C w w') w' b0 (zR f t pic) v')/\But C w w':=by
 by_cases hno:f.frame.isSome=true\/f.due=false
 ·refine (qn5 h t sb hno).mono ?_;rintro e w' ⟨he,rfl⟩;refine⟨he,⟨v,?_⟩,.refl _ _⟩;rw[show zR f t pic=f from if_pos hno];exact h.mono xn
 ·have hfn:f.frame=none:=by
   cases hf:f.frame with
   | none=>rfl
   | some g=>exact absurd (.inl (by rw[hf];rfl)) hno
  have hdue:f.due=true:=by
   cases hd:f.due with
   | true=>rfl
   | false=>exact absurd (.inr hd) hno
  obtain⟨q,hq,hq3,_⟩:=Jw f hfr3;have:q=0\/q=1\/q=2:=by omega
  rcases this with rfl | rfl | rfl
  ·exact ze9 h hCl hfr3 hW hH t sb pic hfn hdue hq hP
  ·exact ze8 h hCl hfr3 hW hH t sb pic hfn hdue hq hP
  ·exact ze7 h hCl hfr3 hW hH t sb pic hfn hdue hq hP
end Go.Proofs.YtfnockbgkcgpkaaGreat
