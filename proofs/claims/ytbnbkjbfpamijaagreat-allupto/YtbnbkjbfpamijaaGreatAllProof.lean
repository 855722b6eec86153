import Derived.Test.YtbnbkjbfpamijaaGreatAbm
set_option linter.all false
set_option maxRecDepth 100000
set_option maxHeartbeats 0
namespace Go.Proofs.YtbnbkjbfpamijaaGreat
open Go.ChangeShapes Go.WideShapes Go.ChangeAt Go.RowKit Go.Proofs.Panes Go.Deep Go.Joins
namespace All
def own:ownKnob Tryz.prog.godebug=none:=by kernel_rfl
def QS:laidOutB Tryz.prog=true:=by kernel_rfl
def kG:Tryz.prog.cellsOf 26=3:=by kernel_rfl
def vT {b:Type}{g:TypeId×Value->b}{h:World}{i:Nat}{j:Nat->Bool}{k:Bool}{l:Nat}{c m:TypeId}{d:Value}{n:DataW b×List MemPlace}(o:Tryz.prog.underlying c=some (.slice m))(p:DataW.trod g Tryz.prog h i j k l c [d]=some n):∃ q e f,d=.slice q e f:=by
 rcases open_slice o p with ⟨a,_⟩ | ⟨r,s,f,t,e,u,v,a,_⟩
 ·simp only[bE,bB] at a;exact⟨_,_,_,a⟩
 ·simp only[bE,bB] at a;exact⟨_,_,_,a⟩
def JU (g:Type)(q:TypeId×Value->g)(a:World)(O:Nat)(c:Array Value)(r s:List (DataW g))(P:List MemPlace)(h:∀ (j:Nat) t d,Tryz.f3.params[j]?=some t->c[j]?=some d->Value.okWide Tryz.prog a .any O t d)(u:DataW.Whole q Tryz.prog Tryz.f3.params.toList Rows.allSpec.vars false a c.toList r s P) (Q:Rows.uptoSmall g (r++s)=true):Calls Tryz.prog 3 c a fun v w=>∃ d,v=.returned d/\Rows.allSpec.post q Tryz.prog Tryz.f3 false true false false a c d w:=by
 have x:=u;obtain⟨c6,c7,y,R,rfl,c8,c9⟩:=u;have z:=y;rw[Tryz.params3] at z h;obtain⟨A,d0,d1,d2,S,d3,d4,rfl,rfl,B,T⟩:=trodAll_cons z;obtain⟨C,d5,U,d6,V,d7,rfl,rfl,rfl,D,W⟩:=trodAll_cons T;obtain⟨rfl,rfl,rfl⟩:=trodAll_nil W;obtain rfl:c=#[A,C]:=(by cases c;simp_all);obtain⟨rfl,rfl⟩:=trodVars_none R;have E:=B;have i:=D;have X:∀ k∈S,k.block<a.heap.size:=(by obtain⟨l,m⟩:=E;exact DataW.trod_lt l _ _ _ m);have Y:∀ k∈V,k.block<a.heap.size:=(by obtain⟨l,m⟩:=i;exact DataW.trod_lt l _ _ _ m);have F:=fd Q;simp only[aW,Rows.uptoBulkAll] at F;obtain⟨d8,d9,e0,e1,e2,e3,e4,rfl,rfl,rfl,G,Z,a0⟩:=open_agg3 Tryz.underlying26 (by kernel_rfl) kG (h 0 26 A rfl rfl) B;simp only[Rows.uptoBulk,Rows.uptoBulkAll] at F;obtain⟨a1,a2,e5,a3⟩:=LRead.qm G;obtain⟨a4,a5,a6,a7⟩:=vT Tryz.underlying22 G;subst a7;obtain⟨a8,H,e6⟩:=LRead.rr Z;obtain⟨a9,I,e7,J⟩:=LRead.qk a0;obtain⟨b0,b1,rfl,_⟩:=id H;obtain⟨b2,b3,rfl,_⟩:=id I;obtain⟨K,L,M,rfl⟩:=okWide_slice Tryz.underlying27 (h 1 27 C rfl rfl);obtain⟨b4,b5,b6,b7,N,n,e8⟩:∃ b8 b9 b,Value.slice K L M=.slice b8 b.length b9/\iG (fun c0=>c0<a.heap.size) a (.slice K L M) b/\(∀ e∈b,LRead.tk e)/\b.length<=Rows.uptoBulk U:=by
  obtain⟨e9,c1⟩:=D;exact LRead.rE c1
 rw[b7] at N x i ⊢;clear y;refine (nZ a4 b0 b2 b4 a5 a6 b1 b3 b5 a8 a9 b6 a H I N (by omega) a1 a2 (by omega) (fun b f=>by have:=a3 b f;omega) (by omega) (by omega) (fun b f=>⟨by have:=(J b f).1;omega,fun c2 c3=>by have:=(J b f).2 c2 c3;omega⟩) (fun e o=>⟨(n e o).2.1,(n e o).2.2.1,(n e o).2.2.2⟩)).mono fun v w ⟨c4,p⟩=>?_;subst c4;exact⟨_,rfl,_,_,_,[],_,[],x,trodAll_mk1 (shut_bool Tryz.underlying4 _),(trodAll_cons_mk (Below.trod QS (by kernel_rfl) (fd (by kernel_rfl)) E p X) (trodAll_cons_mk (Below.trod QS (by kernel_rfl) (fd (by kernel_rfl)) i p Y) trodAll_mk0)),rfl,p.frame _,fun c5=>by cases c5⟩
def KT (b:Os)(d:b.Started)(c:Type)(a:TypeId×Value->c)(e:Stop.Interp):ReturnsInHanded {} Tryz.checked b 3 .any ((Rows.OpenSpec.upto Rows.allSpec).pre6 a Tryz.prog Tryz.f3 Rows.allUptoRow.domain false) (((Rows.OpenSpec.upto Rows.allSpec).at e).post a Tryz.prog Tryz.f3 false true false false):=by
 refine returnsInHanded_of_cond (C:=Tryz.checked) (s:=Rows.OpenSpec.upto Rows.allSpec) (k:=Rows.uptoSmall) rfl own d (by kernel_rfl) Tryz.func3
  (OpenSpec.witness (enc:=a) (C:=Tryz.checked) (s:=Rows.OpenSpec.upto Rows.allSpec) (k:=Rows.uptoSmall) rfl false ⟨#[],#[.agg #[.slice none 0 0,.slice none 0 0,.slice none 0 0],.slice none 0 0],[]⟩ 8 (by kernel_rfl) (by kernel_rfl) (by kernel_rfl)
   (x:=([.agg [.nil,.nil,.nil],.nil],[],[])) (by kernel_rfl) rfl (by kernel_rfl)) ?_
 intro f g h i j l m n _ o _;exact JU c a f g h i j l m n o
def over:Rows.allUptoRow.holds Tryz.pinned (Rows.OpenSpec.upto Rows.allSpec):=
 OpenClaim.holds_of_cond 3 Tryz.f3 rfl rfl rfl rfl rfl rfl rfl ⟨rfl,rfl,rfl,rfl,rfl⟩ rfl rfl rfl rfl rfl (by kernel_rfl) Tryz.func3 (by kernel_rfl)
  (fd (by kernel_rfl)) (by unfold Func.isWrapper;first | (rw[an (by decide +kernel)];kernel_rfl) | (rw[ah (by decide +kernel)];exact⟨rfl,rfl⟩))
  (fun a b c d _ e=>KT a b c d e)
end All
theorem all_upto_holds:Rows.AllUptoSaid:=All.over
end Go.Proofs.YtbnbkjbfpamijaaGreat
