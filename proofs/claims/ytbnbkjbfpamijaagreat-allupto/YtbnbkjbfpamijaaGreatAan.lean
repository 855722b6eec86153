import Derived.Test.YtbnbkjbfpamijaaGreatAam
set_option linter.all false
set_option maxRecDepth 100000
set_option maxHeartbeats 0
namespace Go.Proofs.YtbnbkjbfpamijaaGreat
open Go.RowKit Go.Proofs.Panes
variable{S:Nat→Prop}{w w2:World}{i j n:Nat}{a:gB}{y:Fl}
def kD (a:gB)(d e:Nat):gB:={a with due:=true,b:=fun c=>if c<e then {a.b c with st:=(a.b c).st.set d true} else a.b c}
def VA (a:gB)(b:Nat):gB:=kD a b 3
def Fr.bufs (e:Fr S w n a y)(g:i<3)(j:gp (fun f=>f=y.st i) w w2){b:Nat->pg}(s:∀ c,c<3->c≠i->b c=a.b c)(C:(b i).px=(a.b i).px)(D:(b i).begun=(a.b i).begun)(l:(b i).st.length=a.W*a.H)(E:w2.heap[y.st i]?=some (.cells ((b i).st.map Value.bool).toArray 4 (0,0))):Fr S w2 n {a with b:=b} y:=by
 have q:∀ {f:Nat}{r:Array Value}{t:TypeId}{x:Nat×Nat},w.heap[f]?=some (.cells r t x)->t≠4->¬f=y.st i:=(by intro f r t x m F d;have:=(e.st i g).1;rw[<-d,m] at this;simp at this;exact F this.2.1);have u:∀ c,c<3->(b c).begun=(a.b c).begun:=fun c h=>by by_cases d:c=i;rw[d];exact D;rw[s c h d]
 refine⟨?_,e.cb,?_,?_,e.tW,e.tV,qi e.tN j (fun f m d=>qq e.tN (e.st i g).1 (by decide) (by rw[m,d])),e.mc,?_⟩
 ·have:=j.heap e.nS (q e.nS (by decide));rw[this];simp[qT,xD,u 0 (by omega),u 1 (by omega),u 2 (by omega)]
 ·intro c h;obtain⟨k,o,p⟩:=e.px c h;have d:(b c).px=(a.b c).px:=(by by_cases d:c=i;rw[d];exact C;rw[s c h d]);show w2.heap[y.pb c]?=some (.cells ((b c).px.map (Value.int .i64)).toArray 3 (0,0))/\S (y.pb c)/\(b c).px.length=a.W*a.H;exact⟨by rw[d];exact j.heap k (q k (by decide)),o,by rw[d];exact p⟩
 ·intro c h;by_cases d:c=i
  ·rw[d];exact⟨E,(e.st i g).2.1,l⟩
  ·obtain⟨k,o,p⟩:=e.st c h;show w2.heap[y.st c]?=some (.cells ((b c).st.map Value.bool).toArray 4 (0,0))/\S (y.st c)/\(b c).st.length=a.W*a.H;rw[s c h d];exact⟨j.heap k (fun G=>d (e.tV c i h g G)),o,p⟩
 ·intro H I;obtain⟨z,J,K,A,L,M⟩:=e.fr H I;refine⟨j.heap z (q z (by decide)),J,K,qi A j (fun f m d=>qq A (e.st i g).1 (by decide) (by rw[m,d])),L,?_⟩;obtain⟨N,O,d,k,o,p⟩:=M;refine⟨N,O,d,k,o,fun P=>?_⟩;obtain⟨f,Q,r,d,R,v,qF⟩:=p P;have l:=j.block f (qh v) (q v (by decide));exact⟨f,Q,r,d,R,l.trans v,fun B i g=>⟨(aH l).trans (qF B i g).1,(aH l).trans (qF B i g).2⟩⟩
def qs5 (b:List Bool)(a:Nat)(c:Bool):(b.set a c).map Value.bool=(b.map Value.bool).set a (.bool c):=by
 induction b generalizing a with
 | nil=>rfl
 | cons e b d=>cases a with
  | zero=>rfl
  | succ a=>simp[d]
def Fr.more {v:Fl}(f:Fr S w n (kD a i j) v)(g:j<3):Fr S (w.setCell ⟨v.st j,i,none⟩ (.bool true)) n (kD a i (j+1)) v:=by
 have l:gp (fun e=>e=v.st j) w (w.setCell ⟨v.st j,i,none⟩ (.bool true)):=(gp.refl (fun e=>e=v.st j) w).setCell (p:=⟨v.st j,i,none⟩) (.inl rfl) _;obtain⟨m,p,h⟩:=f.st j g;have c:(kD a i j).b j=a.b j:=(by simp[kD]);have d:(kD a i (j+1)).b j={a.b j with st:=(a.b j).st.set i true}:=(by simp[kD]);have:=f.bufs g l (b:=(kD a i (j+1)).b) (fun o q r=>by
  simp only[kD];by_cases k:o<j
  ·rw[an (by omega),an k]
  ·rw[ah (by omega),ah k]) (by rw[c,d]) (by rw[c,d]) (by rw[d];rw[c] at h;simpa using h) (by
   rw[d,qs5];have:=qp (i:=i) m (.bool true);rw[this,c];simp)
 exact this
def ql5 (e:Fr S w n a y)(c:Nat)(E:c<a.W*a.H)(F:a.W*a.H<=1000):Calls Tryz.prog 74 #[.pointer (some ⟨n,0,none⟩),.int .i64 (c:Int)] w fun h j=>(∃ G,h=.returned G)/\Fr S j n (VA a c) y/\gp S w j/\j.heap.size=w.heap.size:=by
 obtain⟨M,-⟩:=zzk e.nS 15;have N:=fun H=>qj e.nS H;have k:gp (fun b=>b=n) w (w.setCell ⟨n,15,none⟩ (.bool true)):=(gp.refl (fun b=>b=n) w).setCell (p:=⟨n,15,none⟩) (.inl rfl) _;have hF:=e.set k true (qp (i:=15) e.nS _);have v:({a with due:=true}:gB)=kD a c 0:=(by simp[kD]);rw[v] at hF;have I:=qg hF;have J:=qg (k.wide (T:=S) (fun b _ h=>by rw[h];exact e.cb));clear e k hF v;obtain⟨f,l⟩:=zx (a.W*a.H);have x:=qg l;rw[<-l] at E F;clear l;go_enter Tryz.func74,Tryz.ntmps74;go_wp2;go_loopw [8] (fun m wr=>∃ b:Nat,b<=3/\m=.int .i64 (b:Int)/\Fr S wr n (kD a c b) y/\gp S w wr/\wr.heap.size=w.heap.size) (fun m _=>3-(intOf m).toNat)
 case atStart=>exact⟨0,by omega,rfl,qb I,qb J,by simp[World.setCell]⟩
 case round=>
  obtain⟨b,O,rfl,d,g,o⟩:=hrel;by_cases p:b<3
  ·have z:=d.more p;have A:gp S w (wr.setCell ⟨y.st b,c,none⟩ (.bool true)):=g.setCell (p:=⟨y.st b,c,none⟩) (.inl (d.st b p).2.1) _;have B:=d.nS;obtain⟨q,K,C⟩:=d.st b p;have L:((kD a c b).b b).st.length=f:=(by rw[C,qb x];rfl);obtain⟨r,D⟩:∃ r,((kD a c b).b b).st[c]?=some r:=⟨_,aB (by omega)⟩;have P:wr.cell? ⟨y.st b,c,none⟩=some (.bool r):=(by rw[qe q];simp[D]);have Q:=qj q c;have R:(0:Int)<=(c:Int):=(by omega);have U:(c:Int)<(f:Int):=(by omega);have V:wr.cell? ⟨n,4+b*3+1,none⟩=some (.slice (some ⟨y.st b,0,none⟩) f f):=(by rw[qe B,qb x];have:b=0\/b=1\/b=2:=(by omega);rcases this with rfl | rfl | rfl<;>rfl);have W:(0:Int)<=(b:Int):=(by omega);have X:(b:Int)<3:=(by omega);have s:=qg z;have t:=qg A;have u:=qg o;clear z A B q K C L D d g;go_wp2;go_roundw
   case rel=>exact⟨b+1,by omega,by go_num,qb s,qb t,by simp[World.setCell];exact qb u⟩
   case measure=>simp[intOf];omega
  ·have:b=3:=(by omega);subst this;have s:=qg d;have t:=qg g;have u:=qg o;clear d g o;go_wp2;go_end0;exact⟨⟨_,rfl⟩,qb s,qb t,qb u⟩
def zd5 (c d g h e f i j:Int)(k:World)(n:-4000000000000000<=c/\c<=4000000000000000) (o:-4000000000000000<=d/\d<=4000000000000000) (p:-4000000000000000<=g/\g<=4000000000000000) (q:-4000000000000000<=h/\h<=4000000000000000)(r:-4000000000000000<=e/\e<=4000000000000000) (c2:-4000000000000000<=f/\f<=4000000000000000) (s:-4000000000000000<=i/\i<=4000000000000000) (t:-4000000000000000<=j/\j<=4000000000000000):Calls Tryz.prog 73 #[.agg #[.int .i64 c,.int .i64 d,.int .i64 g,.int .i64 h],.agg #[.int .i64 e,.int .i64 f,.int .i64 i,.int .i64 j]] k fun l m=> l=.returned (.agg #[.int .i64 (max c e),.int .i64 (max d f),.int .i64 (max 0 (min (c+g) (e+i)-max c e)),.int .i64 (max 0 (min (d+h) (f+j)-max d f))])/\Below k.heap.size k m:=by
 have u:∀ a b:Int,(if a<b then b else a)=max a b:=fun a b=>by omega
 have w:∀ a b:Int,(if b<a then b else a)=min a b:=fun a b=>by omega
 have mz:∀ a b:Int,(if b<a then a-b else 0)=max 0 (a-b):=fun a b=>by omega
 go_enter Tryz.func73,Tryz.ntmps73;go_wp2;go_quiet (fail);go_wp2;go_quiet (fail);go_wp2;refine bV (v:=.agg #[.int .i64 (max c e),.int .i64 (max d f),.int .i64 (max 0 (min (c+g) (e+i)-max c e)),.int .i64 (max 0 (min (d+h) (f+j)-max d f))]) (by simp[results,Tryz.results73,go_sem]) rfl ⟨rfl,?_⟩;repeat (first | exact aa _ _ | refine Below.setCell ?_ (by first | (simp;done) | (simp;omega)) _ | refine ax ?_ _ | refine fa ?_ | refine cP ?_ (by first | (simp;done) | (simp;omega)) _)
def xh (b:gB)(a:Rc):Rc:=⟨max a.x 0,max a.y 0,max 0 (min (a.x+a.w) (0+(b.W:Int))-max a.x 0),max 0 (min (a.y+a.h) (0+(b.H:Int))-max a.y 0)⟩
def QJ (c:gB)(a:Rc)(b:Nat):Nat:=((a.y+(b:Int)/a.w)*(c.W:Int)+a.x+(b:Int)%a.w).toNat
def vE (a:gB)(b:Rc)(c:Nat):gB:=(List.range c).foldl (fun d e=>VA d (QJ a b e)) a
def Q1 (a:gB)(b:Rc):gB:=vE a (xh a b) ((xh a b).w*(xh a b).h).toNat
def zX (a:gB)(b:List Rc):gB:=b.foldl Q1 a
def yl (a:gB)(b:Rc)(c:Nat):vE a b (c+1)=VA (vE a b c) (QJ a b c):=by simp[vE,fA]
def JR (a:gB)(c:Rc)(b:Nat):(vE a c b).W=a.W/\(vE a c b).H=a.H:=by
 induction b with
 | zero=>exact⟨rfl,rfl⟩
 | succ b d=>rw[yl];exact d
def sk (a:gB)(b:Rc):(Q1 a b).W=a.W/\(Q1 a b).H=a.H:=JR _ _ _
def qv6 (b:List Rc):∀ a:gB,(zX a b).W=a.W/\(zX a b).H=a.H:=by
 induction b with
 | nil=>intro a;exact⟨rfl,rfl⟩
 | cons c b e=>intro a;have:=e (Q1 a c);have d:=sk a c;exact⟨this.1.trans d.1,this.2.trans d.2⟩
def ql6 (a:gB)(b:List Rc)(c:Rc):zX a (b++[c])=Q1 (zX a b) c:=by simp[zX]
def Q9 (a:Rc):Prop:=(-2000000000000000<=a.x/\a.x<=2000000000000000)/\(-2000000000000000<=a.y/\a.y<=2000000000000000)/\(0<=a.w/\a.w<=8)/\(0<=a.h/\a.h<=8)
def sq (a:gB)(b:Rc)(d:a.W<=16)(e:a.H<=16)(c:Q9 b):0<=(xh a b).x/\0<=(xh a b).y/\0<=(xh a b).w/\(xh a b).w<=8/\0<=(xh a b).h/\(xh a b).h<=8/\(0<(xh a b).w->(xh a b).x+(xh a b).w<=a.W)/\(0<(xh a b).h->(xh a b).y+(xh a b).h<=a.H):=by
 obtain⟨f,g,h,i⟩:=c;simp only[xh];omega
end Go.Proofs.YtbnbkjbfpamijaaGreat
