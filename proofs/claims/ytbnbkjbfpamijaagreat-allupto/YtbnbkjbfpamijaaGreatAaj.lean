import Derived.Test.YtbnbkjbfpamijaaGreatAai
set_option linter.all false
set_option maxRecDepth 100000
set_option maxHeartbeats 0
namespace Go.Proofs.YtbnbkjbfpamijaaGreat
open Go.RowKit Go.Proofs.Panes
def YI (h:Nat)(i j k l m n o p:Int)(q:Option Addr)(r b:Nat)(a:World)(t:b<=1759218604390)(e:gz b 1 20=false):Calls Tryz.prog 53 #[.pointer (some ⟨h,0,none⟩),.slice q b r,.agg #[.int .i64 i,.int .i64 j,.int .i64 k,.int .i64 l,.int .i64 m,.int .i64 n,.int .i64 o,.int .i64 p]] a fun c d=>c=.returned (.int .i64 3)/\Below a.heap.size a d:=by
 have f:Hid (∀ a,Calls Tryz.prog 72 #[.int .i64 b,.int .i64 1,.int .i64 20] a fun c d=>c=.returned (.bool (gz b 1 20))/\d=a):=fun a=>zk _ _ _ a;rw[e] at f;clear e;go_enter Tryz.func53,Tryz.ntmps53;go_wp2_with (go_at_call 72;refine ((qb f) _).mono ?_;rintro c d ⟨rfl,g⟩;have s:=g.symm;clear g;subst s)
 go_ret;exact⟨rfl,(aa _ a).alloc (zzl _) _⟩
def YJ (F:Nat->Prop)(z:Nat)(Q:Value)(K:Int)(j l m n:Bool)(G t:Nat)(L:List Value)(q:hg)(c:Nat)(A:Option Addr)(B:Nat)(a:List gt)(d:World)(a5:d.heap[z]?=some (.cells #[Q,.int .i64 K,.bool j,.bool l,.bool m,.bool n] 113)) (R:d.ownsRow G 195 2 Q t L) (a6:G<=d.heap.size) (a7:t<=100000) (a8:q.iE=c) (b7:1<=c/\c<=4)(S:gW F d (.slice A a.length B) a) (b8:a.length<=1759218604390) (b9:∀ M∈a,M.px.length<=17592186043904) (a9:∀ k,F k->k<d.heap.size):Calls Tryz.prog 53 #[.pointer (some ⟨z,0,none⟩),.slice A a.length B,vF q] d fun o h=>∃ C:Int,o=.returned (.int .i64 C)/\ ((gz a.length 1 20=false/\C=3/\Below d.heap.size d h)\/(gz a.length 1 20=true/\((qR ([j,l,m,n].take c) a=none/\C=3/\Below d.heap.size d h)\/∃ i,qR ([j,l,m,n].take c) a=some i/\((q.tK<qA a/\C=3/\Below d.heap.size d h)\/(qA a<=q.tK/\q.queue<=(t:Int)/\C=4/\Below d.heap.size d h)\/ (qA a<=q.tK/\(t:Int)<q.queue/\C=0/\∃ T b U,b.length=4/\b.take c=i/\rv d h z Q K G t T b L a U))))):=by
 obtain⟨V,W,X,Y,Z,a0,d0,a1⟩:=q;simp only at a8;subst a8;unfold vF;simp only;obtain⟨b0,b1,rfl⟩:=qr R;cases N:gz a.length 1 20 with
 | false=>exact (YI z V W X Y Z a0 c a1 A B a.length d b8 N).mono fun o h ⟨e,g⟩=>⟨3,e,.inl ⟨rfl,rfl,g⟩⟩
 | true=>
  have b2:1<=a.length/\a.length<=20:=(by have b3:=N;unfold gz at b3;simp only[aK,be] at b3;omega);have b4:Hid (∀ d,Calls Tryz.prog 72 #[.int .i64 a.length,.int .i64 1,.int .i64 20] d fun o h=>o=.returned (.bool true)/\h=d):=fun d=>by
   have:=zk a.length 1 20 d;have o:(decide ((1:Int)<=(a.length:Int))&&decide ((a.length:Int)<=20))=true:=N
   first | (rw[o] at this;exact this) | (rw[N] at this;exact this)
  have b5:=fun h H=>qm4 F (.slice A a.length B) a j l m n c b7 h (S.below H) (by omega) b9;cases D:qR ([j,l,m,n].take c) a with
  | none=>
   refine (JS F z b0 b1 K j l m n false false false false false G t L V W X Y Z a0 a1 c A B a d a5 R a6 a7 S b2 (fun f=>by cases f) (fun f=>by cases f) a9 b4 (fun h H=>(b5 h H).mono fun o c0 ⟨e,g⟩=>?_)).mono ?_
   ·rcases e with ⟨b,_,f,_⟩ | ⟨_,f⟩
    ·rw[D] at f;cases f
    ·exact⟨f,g⟩
   ·rintro o h (⟨_,e,g⟩ | ⟨f,_⟩)
    ·exact⟨3,e,.inr ⟨rfl,.inl ⟨rfl,rfl,g⟩⟩⟩
    ·cases f
  | some i=>
   have c1:∃ u v w x:Bool,∀ b:List Bool,b.length=4->b.take c=i->b.drop c=[j,l,m,n].drop c->b=[u,v,w,x]:=by
    by_cases I:∃ b:List Bool,b.length=4/\b.take c=i/\b.drop c=[j,l,m,n].drop c
    ·obtain⟨b,e,g,p⟩:=I
     match b,e with
     | [u,v,w,x],_=>
      refine⟨u,v,w,x,fun r _ c2 c3=>?_⟩;rw[<-ap c r,c2,c3,<-g,<-p,ap]
    ·exact⟨false,false,false,false,fun b e g p=>absurd ⟨b,e,g,p⟩ I⟩
   obtain⟨u,v,w,x,b6⟩:=c1;have c4:=xy a _ _ D;have c5:=VU a _ _ D;by_cases I:[u,v,w,x].take c=i
   ·refine (JS F z b0 b1 K j l m n u v w x true G t L V W X Y Z a0 a1 c A B a d a5 R a6 a7 S b2 (fun _=>c4) (fun _=>c5) a9 b4 (fun h H=>(b5 h H).mono fun o c0 ⟨e,g⟩=>?_)).mono ?_
    ·rcases e with ⟨b,a2,E,a3,c6⟩ | ⟨f,_⟩
     ·rw[D] at E;simp only[ac] at E;have:=b6 b a2 E.symm a3;subst this;exact⟨c6,g⟩
     ·rw[D] at f;cases f
    ·rintro o h (⟨f,_⟩ | ⟨_,f⟩)
     ·cases f
     ·rcases f with ⟨e,g,p⟩ | ⟨e,g,p,a4⟩ | ⟨e,g,p,T,U,a4⟩
      ·exact⟨3,g,.inr ⟨rfl,.inr ⟨i,rfl,.inl ⟨e,rfl,p⟩⟩⟩⟩
      ·exact⟨4,p,.inr ⟨rfl,.inr ⟨i,rfl,.inr (.inl ⟨e,g,rfl,a4⟩)⟩⟩⟩
      ·exact⟨0,p,.inr ⟨rfl,.inr ⟨i,rfl,.inr (.inr ⟨e,g,rfl,T,[u,v,w,x],U,rfl,I,a4⟩)⟩⟩⟩
   ·have c7:∃ b:List Bool,b.length=4/\b.take c=i/\b.drop c=[j,l,m,n].drop c:=by
     have c8:∀ (J:List gt)(y r:List Bool),qR y J=some r->r.length=y.length:=by
      intro J;induction J with
      | nil=>intro y r f;cases f;rfl
      | cons M J c9=>
       intro y r f;have O:(qP y M).bind (fun P=>qR P J)=some r:=f;cases s:qP y M with
       | none=>rw[s] at O;cases O
       | some P=>
        rw[s] at O;have e:=c9 P r O;have g:P.length=y.length:=by
         unfold qP at s;split at s
         ·cases s;rfl
         ·split at s
          ·cases s;simp
          ·cases s
        omega
     have e:=c8 a _ _ D;rw[ao] at e;simp only[aX,cM] at e;refine⟨i++[j,l,m,n].drop c,by rw[ae,aV,e];simp only[aX,cM];omega,?_,?_⟩
     ·rw[bi (by omega),aL (by omega)]
     ·rw[fZ,bI (by omega),cd,show c-i.length=0 by omega,eH]
    obtain⟨b,a2,E,a3⟩:=c7;exact absurd (by rw[<-b6 b a2 E a3];exact E) I
end Go.Proofs.YtbnbkjbfpamijaaGreat
