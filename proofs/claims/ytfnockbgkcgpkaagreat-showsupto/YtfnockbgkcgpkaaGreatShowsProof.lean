import Derived.Test.YtfnockbgkcgpkaaGreatTkcd
import Derived.Test.YtfnockbgkcgpkaaGreatRows
import Derived.ProofKit
import Derived.OpenShut
import Derived.ShutString
import Derived.ChangeOld
import Derived.Below
import Derived.Lib.SmallJoins
import Derived.Deep.Slices
import Derived.JoinedCond
set_option linter.all false
set_option maxRecDepth 100000
set_option maxHeartbeats 16000000
namespace Go.Proofs.YtfnockbgkcgpkaaGreat
open Go.RowKit Go.Proofs.Panes
section
open Go.ChangeShapes Go.WideShapes Go.ChangeAt Go.RowKit Go.Proofs.Panes Go.Deep Go.Joins
namespace Shows
theorem own:ownKnob Tryz.prog.godebug=none:=by kernel_rfl
theorem QS:laidOutB Tryz.prog=true:=by kernel_rfl
theorem kG:Tryz.prog.cellsOf 26=3:=by kernel_rfl
theorem vT {H:Type}{enc:TypeId×Value->H}{W:World}{base:Nat}{spare:Nat->Bool}{held:Bool}{fuel:Nat}{t e:TypeId}{v:Value}{x:DataW H×List MemPlace}(ht:Tryz.prog.underlying t=some (.slice e))
 (h:DataW.trod enc Tryz.prog W base spare held fuel t [v]=some x):∃ ao n cap,v=.slice ao n cap:=by
 rcases open_slice ht h with ⟨hcs,_⟩ | ⟨a,len,cap,m,n,D,Pl,hcs,_⟩
 ·simp only[List.cons.injEq,and_true] at hcs;exact⟨_,_,_,hcs⟩
 ·simp only[List.cons.injEq,and_true] at hcs;exact⟨_,_,_,hcs⟩
theorem JU (H:Type)(enc:TypeId×Value->H)(W:World)(base:Nat)(args:Array Value)(ds gs:List (DataW H))(before:List MemPlace)
 (hval:∀ (j:Nat) t v,Tryz.f6.params[j]?=some t->args[j]?=some v->Value.okWide Tryz.prog W .any base t v)
 (hW:DataW.Whole enc Tryz.prog Tryz.f6.params.toList Rows.showsSpec.vars false W args.toList ds gs before) (hk:Rows.uptoSmall H (ds++gs)=true) :
 Calls Tryz.prog 6 args W fun e W'=>∃ v,e=.returned v/\Rows.showsSpec.post enc Tryz.prog Tryz.f6 false true false false W args v W':=by
 have hW':=hW;obtain⟨p,q,hA0,hV,rfl,hfz,hnd⟩:=hW;have hA:DataW.TrodAll enc Tryz.prog W 0 (fun _=>true) true Tryz.f6.params.toList args.toList ds p:=hA0;rw[Tryz.params6] at hA hval;obtain⟨v0,vs0,d0,ds0,p0,q0,hargs,rfl,rfl,h0,r0⟩:=trodAll_cons hA;obtain⟨v1,vs1,d1,ds1,p1,q1,rfl,rfl,rfl,h1,r1⟩:=trodAll_cons r0;obtain⟨rfl,rfl,rfl⟩:=trodAll_nil r1;obtain rfl:args=#[v0,v1]:=(by cases args;simp_all);obtain⟨rfl,rfl⟩:=trodVars_none hV;have k0:=h0;have k1:=h1;have lt0:∀ x∈p0,x.block<W.heap.size:=(by obtain⟨m,hm⟩:=k0;exact DataW.trod_lt m _ _ _ hm);have lt1:∀ x∈p1,x.block<W.heap.size:=(by obtain⟨m,hm⟩:=k1;exact DataW.trod_lt m _ _ _ hm);have hbulk:Rows.uptoBulkAll ([d0,d1]++([]:List (DataW H)))<=1048576:=of_decide_eq_true hk;simp only[List.append_nil,Rows.uptoBulkAll] at hbulk;obtain⟨u0,u1,u2,y0,y1,y2,n,rfl,rfl,rfl,t0,t1,t2⟩:=open_agg3 Tryz.underlying26 (by kernel_rfl) kG (hval 0 26 v0 rfl rfl) h0;simp only[Rows.uptoBulk,Rows.uptoBulkAll] at hbulk;obtain⟨ro,rn,rc,rfl⟩:=vT Tryz.underlying22 t0;obtain⟨C,hC,hCn⟩:=LRead.cfgs_of_trod t1;obtain⟨O,hO,hOn,hol⟩:=LRead.opnss_of_trod t2;obtain⟨co,cc,rfl,_⟩:=id hC;obtain⟨oo,oc,rfl,_⟩:=id hO;obtain⟨a1,len1,cap1,rfl⟩:=okWide_slice Tryz.underlying27 (hval 1 27 v1 rfl rfl);obtain⟨so,scap,ops,es,hS,hfit,hon⟩:∃ ao cap l,Value.slice a1 len1 cap1=.slice ao l.length cap/\RdU (fun k=>k<W.heap.size) W (.slice a1 len1 cap1) l/\(∀ r∈l,LRead.Fit r)/\l.length<=Rows.uptoBulk d1:=by
  obtain⟨fuel,hf⟩:=h1;exact LRead.ops_of_trod hf
 rw[es] at hS hW' k1 ⊢;clear hA0;refine (X7 ro co oo so rn rc cc oc scap C O ops W hC hO hS (by omega) (by omega) (by omega) (fun l hl=>⟨by have:=(hol l hl).1;omega,fun o ho=>by have:=(hol l hl).2 o ho;omega⟩) (fun r hr=>⟨(hfit r hr).2.1,(hfit r hr).2.2.1,(hfit r hr).2.2.2⟩)).mono fun e W' ⟨he,bel⟩=>?_;subst he;exact⟨_,rfl,_,_,_,[],_,[],hW',trodAll_mk1 (shut_bool Tryz.underlying4 _),(trodAll_cons_mk (Below.trod QS (by kernel_rfl) (of_decide_eq_true (by kernel_rfl)) k0 bel lt0) (trodAll_cons_mk (Below.trod QS (by kernel_rfl) (of_decide_eq_true (by kernel_rfl)) k1 bel lt1) trodAll_mk0)),rfl,bel.frame _,fun h=>by cases h⟩
theorem KT (os:Os)(started:os.Started)(H:Type)(enc:TypeId×Value->H)(F:Stop.Interp) :
 ReturnsInHanded {} Tryz.checked os 6 .any ((Rows.OpenSpec.upto Rows.showsSpec).pre6 enc Tryz.prog Tryz.f6 Rows.showsUptoRow.domain false) (((Rows.OpenSpec.upto Rows.showsSpec).at F).post enc Tryz.prog Tryz.f6 false true false false):=by
 refine returnsInHanded_of_cond (C:=Tryz.checked) (s:=Rows.OpenSpec.upto Rows.showsSpec) (k:=Rows.uptoSmall) rfl own started (by kernel_rfl) Tryz.func6
  (OpenSpec.witness (enc:=enc) (C:=Tryz.checked) (s:=Rows.OpenSpec.upto Rows.showsSpec) (k:=Rows.uptoSmall) rfl false ⟨#[],#[.agg #[.slice none 0 0,.slice none 0 0,.slice none 0 0],.slice none 0 0],[]⟩ 8 (by kernel_rfl) (by kernel_rfl) (by kernel_rfl)
   (x:=([.agg [.nil,.nil,.nil],.nil],[],[])) (by kernel_rfl) rfl (by kernel_rfl)) ?_
 intro W base args ds gs before hval hW _ hk _;exact JU H enc W base args ds gs before hval hW hk
theorem over:Rows.showsUptoRow.holds Tryz.pinned (Rows.OpenSpec.upto Rows.showsSpec):=
 OpenClaim.holds_of_cond 6 Tryz.f6 rfl rfl rfl rfl rfl rfl rfl ⟨rfl,rfl,rfl,rfl,rfl⟩ rfl rfl rfl rfl rfl (by kernel_rfl) Tryz.func6 (by kernel_rfl)
  (of_decide_eq_true (by kernel_rfl)) (by unfold Func.isWrapper;first | (rw[if_pos (by decide +kernel)];kernel_rfl) | (rw[if_neg (by decide +kernel)];exact⟨rfl,rfl⟩))
  (fun os started H enc _ F=>KT os started H enc F)
end Shows
theorem shows_upto_holds:Rows.ShowsUptoSaid:=Shows.over
#print axioms shows_upto_holds
end
end Go.Proofs.YtfnockbgkcgpkaaGreat
