import Derived.Test.YtodagkkjfipbgaaGreatDoorW11toA29
set_option maxRecDepth 100000
set_option maxHeartbeats 8000000
namespace Go.Proofs.YtodagkkjfipbgaaGreatDoor
open Go.RowKit Go.Maps Go.Proofs.Tryz
def He:List (List Nat->Prop)->List Nat->Prop
 | [],w=>w=[]
 | P::r,w=>∃u v,w=u++v/\P u/\He r v
def mS:Nat->Px->List Nat->Prop
 | 0,_,w=>w=[]
 | d+1,x,w =>
  if x.what=0 then (if x.k=0 then w=[]else ∃j,w=[j]/\x.k.testBit j=true)
  else if x.what=1 then He (x.l.map (mS d)) w
  else if x.what=2 then ∃y∈x.l,mS d y w
  else match x.l with
   | [y]=>if x.what=3 then Tr.n2 (mS d y) w else ∃u v,w=u++v/\mS d y u/\Tr.n2 (mS d y) v
   | _=>w=[]
inductive lE (F:List St):Nat->Nat->List Nat->Nat->Prop where
 | nil (q:Nat):lE F 0 q [] q
 | eps {n q z t:Nat} {w l:List Nat} (h:F[q]?=some (0,l)) (hz:z∈l) (r:lE F n z w t):lE F (n+1) q w t
 | one {n q z t k j:Nat} {w l:List Nat} (h:F[q]?=some (k,l)) (hk:k.testBit j=true) (hz:z∈l) (r:lE F n z w t):lE F (n+1) q (j::w) t
theorem lE.app{F:List St}{n m q z t:Nat}{u v:List Nat}(h:lE F n q u z)(k:lE F m z v t):∃r,lE F r q (u++v) t:=by
 induction h with
 | nil q=>exact⟨m,k⟩
 | eps h g _ i=>obtain⟨r,d⟩:=i k;exact⟨r+1,lE.eps h g d⟩
 | one h j g _ i=>obtain⟨r,d⟩:=i k;exact⟨r+1,lE.one h j g d⟩
theorem jX(S:List St)(f t i:Nat):(b9 S f t)[i]?=if f=i then (S[i]?).map (fun s=>(s.1,s.2++[t]))else S[i]?:=by
 unfold b9;rw[qY]
 by_cases h:f=i
 ·simp[h]
 ·simp only[ae h];cases S[i]?<;>rfl
theorem lU(d:Nat)(x:Px)(S:List St)(b:Nat):S.length<=(mk d x S b).1.length:=(nQ d x S b).1
def II(d:Nat)(y:Px)(b:Nat)(R:List St)(a z:Nat):Prop:=∃Z,a<=Z.length/\(mk d y Z b).1.length<=R.length/\z=(mk d y Z b).2/\∀i,Z.length<=i->i<(mk d y Z b).1.length->R[i]?=(mk d y Z b).1[i]?
def eN(d b e:Nat)(l:List Px)(Z:List St):List St:=l.foldl (fun Z y=>b9 (mk d y Z b).1 e (mk d y Z b).2) Z
theorem II.iS{d b j z n:Nat}{y:Px}{R g:List St}(h:II d y b R j z)(x:n<=j)(hlen:R.length<=g.length)(v:∀i,j<=i->i<R.length->g[i]?=R[i]?):II d y b g n z:=by
 obtain⟨Z,h1,w,o,q⟩:=h;exact⟨Z,by omega,by omega,o,fun i t u=>by rw[v i (by omega) (by omega)];exact q i t u⟩
theorem m8(d b e:Nat)(n:∀(x:Px) (S:List St) (i:Nat),i<S.length->(mk d x S b).1[i]?=S[i]?):∀(l:List Px) (Z:List St) (a:List Nat),e<Z.length->Z[e]?=some (0,a) ->Z.length<=(eN d b e l Z).length/\(∀i,i<Z.length->i≠e->(eN d b e l Z)[i]?=Z[i]?)/\∃g,(eN d b e l Z)[e]?=some (0,a++g)/\(∀z∈g,∃y∈l,II d y b (eN d b e l Z) Z.length z)/\∀y∈l,∃z∈g,II d y b (eN d b e l Z) Z.length z:=by
 intro l
 induction l with
 | nil=>intro Z a _ h;exact⟨ar _,fun i _ _=>rfl,[],by simpa[eN]using h,by simp,by simp⟩
 | cons y l s =>
  intro Z a r h;have p:eN d b e (y::l) Z=eN d b e l (b9 (mk d y Z b).1 e (mk d y Z b).2):=rfl;have u:=lU d y Z b;have q:(mk d y Z b).1[e]?=some (0,a):=by rw[n y Z e r];exact h
  have t:(b9 (mk d y Z b).1 e (mk d y Z b).2).length=(mk d y Z b).1.length:=dv _ _ _;obtain⟨o,a2,g,a3,a4,a5⟩:=s (b9 (mk d y Z b).1 e (mk d y Z b).2) (a++[(mk d y Z b).2]) (by omega) (by rw[jX,ag rfl,q];rfl);rw[<- p]at o a2 a3 a4 a5;have here:II d y b (eN d b e (y::l) Z) Z.length (mk d y Z b).2:=⟨Z,ar _,by omega,rfl,fun i h1 j=>by rw[a2 i (by omega) (by omega),jX,ae (by omega)]⟩;refine⟨by omega,fun i h1 j=>?_,(mk d y Z b).2::g,by rw[a3];simp,?_,?_⟩
  ·rw[a2 i (by omega) j,jX,ae (Ne.symm j),n y Z i h1]
  ·intro z f;rcases aT.1 f with rfl|f
   ·exact⟨y,aU ..,here⟩
   ·obtain⟨m,c,k⟩:=a4 z f;exact⟨m,b6 _ c,k.iS (by omega) (ar _) fun _ _ _=>rfl⟩
  ·intro m c;rcases aT.1 c with rfl|c
   ·exact⟨_,aU ..,here⟩
   ·obtain⟨z,f,k⟩:=a5 m c;exact⟨z,b6 _ f,k.iS (by omega) (ar _) fun _ _ _=>rfl⟩
def e7(d:Nat)(l:List Px)(S:List St)(b:Nat):List St×Nat:=l.foldr (fun y r=>mk d y r.1 r.2) (S,b)
theorem Ed{d:Nat}{x:Px}(h:x.what=0)(S:List St)(b:Nat):mk (d+1) x S b=(S++[(x.k,[b])],S.length):=by rw[mk,ag h]
theorem zU{d:Nat}{x:Px}(h:x.what=1)(S:List St)(b:Nat):mk (d+1) x S b=e7 d x.l S b:=by rw[mk,ae (by omega),ag h];rfl
theorem qp{d:Nat}{x:Px}(h:x.what=2)(S:List St)(b:Nat):mk (d+1) x S b=(eN d b S.length x.l (S++[(0,[])]),S.length):=by rw[mk,ae (by omega),ae (by omega),ag h];rfl
def j7(d:Nat)(y:Px)(S:List St)(b:Nat):List St:=b9 (mk d y (S++[(0,[b])]) S.length).1 S.length (mk d y (S++[(0,[b])]) S.length).2
theorem zT{d:Nat}{x y:Px}(h0:x.what≠0)(h1:x.what≠1)(a:x.what≠2)(c:x.l=[y])(S:List St)(b:Nat):mk (d+1) x S b=(j7 d y S b,if x.what=3 then S.length else (mk d y (S++[(0,[b])]) S.length).2):=by
 rw[mk,ae h0,ae h1,ae a,c];rfl
theorem zV{d:Nat}{x:Px}(h0:x.what≠0)(h1:x.what≠1)(a:x.what≠2)(c:∀y,x.l≠[y])(S:List St)(b:Nat):mk (d+1) x S b=(S,b):=by
 rw[mk,ae h0,ae h1,ae a];split
 ·rename_i y e;exact absurd e (c y)
 ·rfl
theorem lV(d:Nat):∀(x:Px) (S:List St) (b:Nat),(∀i,i<S.length->(mk d x S b).1[i]?=S[i]?)/\((mk d x S b).2=b\/(S.length<=(mk d x S b).2/\(mk d x S b).2<(mk d x S b).1.length)):=by
 induction d with
 | zero=>intro x S b;exact⟨fun _ _=>rfl,ah rfl⟩
 | succ d h =>
  intro x S b
  by_cases h0:x.what=0
  ·rw[Ed h0];exact⟨fun i hi=>dD hi,ac ⟨ar _,by simp⟩⟩
  by_cases h1:x.what=1
  ·rw[zU h1];generalize x.l=l
   induction l with
   | nil=>exact⟨fun _ _=>rfl,ah rfl⟩
   | cons y l f =>
    have e:e7 d (y::l) S b=mk d y (e7 d l S b).1 (e7 d l S b).2:=rfl;have hlen:S.length<=(e7 d l S b).1.length:=by
     clear f e
     induction l with
     | nil=>exact ar _
     | cons z l f=>exact aE f (lU d z _ _)
    have c:=h y (e7 d l S b).1 (e7 d l S b).2;have j:=lU d y (e7 d l S b).1 (e7 d l S b).2;rw[e];refine⟨fun i hi=>by rw[c.1 i (by omega)];exact f.1 i hi,?_⟩;rcases c.2 with q|q
    ·rw[q];rcases f.2 with p|p
     ·exact ah p
     ·exact ac ⟨p.1,by omega⟩
    ·exact ac ⟨by omega,q.2⟩
  by_cases g:x.what=2
  ·rw[qp g];have:=m8 d b S.length (fun x S i hi=>(h x S b).1 i hi) x.l (S++[(0,[])]) [] (by simp) (by simp);have a:(S++[((0:Nat),([]:List Nat))]).length=S.length+1:=by simp
   exact⟨fun i hi=>by rw[this.2.1 i (by omega) (by omega)];exact dD hi,ac ⟨ar _,by have:=this.1;show S.length<(eN d b S.length x.l (S++[(0,[])])).length;omega⟩⟩
  by_cases a:∃y,x.l=[y]
  ·obtain⟨y,a⟩:=a;rw[zT h0 h1 g a];have c:=h y (S++[(0,[b])]) S.length;have j:=lU d y (S++[(0,[b])]) S.length;have m:(S++[((0:Nat),[b])]).length=S.length+1:=by simp
   have k:(j7 d y S b).length=(mk d y (S++[(0,[b])]) S.length).1.length:=dv _ _ _;refine⟨fun i hi=>?_,?_⟩
   ·show (j7 d y S b)[i]?=_;unfold j7;rw[jX,ae (by omega),c.1 i (by omega)];exact dD hi
   ·show (if x.what=3 then S.length else _)=b\/(S.length<=(if x.what=3 then S.length else _)/\(if x.what=3 then S.length else _)<(j7 d y S b).length);right;split
    ·exact⟨ar _,by omega⟩
    ·rcases c.2 with q|q
     ·rw[q];exact⟨ar _,by omega⟩
     ·exact⟨by omega,by omega⟩
  ·rw[zV h0 h1 g (fun y e=>a ⟨y,e⟩)];exact⟨fun _ _=>rfl,ah rfl⟩
theorem yk(d:Nat)(l:List Px)(S:List St)(b:Nat):S.length<=(e7 d l S b).1.length:=by
 induction l with
 | nil=>exact ar _
 | cons z l a=>exact aE a (lU d z _ _)
theorem JY(d:Nat)(l:List Px)(S:List St)(b:Nat):(e7 d l S b).2=b\/(S.length<=(e7 d l S b).2/\(e7 d l S b).2<(e7 d l S b).1.length):=by
 have:=(lV (d+1) (eA l) S b).2;rw[zU rfl]at this;exact this
theorem Fw(d:Nat)(y:Px)(S:List St)(b:Nat):(j7 d y S b)[S.length]?=some (0,[b,(mk d y (S++[(0,[b])]) S.length).2])/\(j7 d y S b).length=(mk d y (S++[(0,[b])]) S.length).1.length/\∀i,i≠S.length->(j7 d y S b)[i]?=(mk d y (S++[(0,[b])]) S.length).1[i]?:=by
 refine⟨?_,dv _ _ _,fun i hi=>?_⟩
 ·unfold j7;rw[jX,ag rfl,(lV d y (S++[(0,[b])]) S.length).1 S.length (by simp)];simp
 ·unfold j7;rw[jX,ae (Ne.symm hi)]
theorem zS{d:Nat}{x:Px}(h:x.what=0)(w:List Nat):mS (d+1) x w=(if x.k=0 then w=[]else ∃j,w=[j]/\x.k.testBit j=true):=by rw[mS,ag h]
theorem tC{d:Nat}{x:Px}(h:x.what=1)(w:List Nat):mS (d+1) x w=He (x.l.map (mS d)) w:=by rw[mS,ae (by omega),ag h]
theorem lT{d:Nat}{x:Px}(h:x.what=2)(w:List Nat):mS (d+1) x w=∃y∈x.l,mS d y w:=by rw[mS,ae (by omega),ae (by omega),ag h]
theorem px{d:Nat}{x y:Px}(h0:x.what≠0)(h1:x.what≠1)(a:x.what≠2)(b:x.l=[y])(w:List Nat):mS (d+1) x w=if x.what=3 then Tr.n2 (mS d y) w else ∃u v,w=u++v/\mS d y u/\Tr.n2 (mS d y) v:=by
 rw[mS,ae h0,ae h1,ae a,b]
theorem B8{d:Nat}{x:Px}(h0:x.what≠0)(h1:x.what≠1)(a:x.what≠2)(b:∀y,x.l≠[y])(w:List Nat):mS (d+1) x w=(w=[]):=by
 rw[mS,ae h0,ae h1,ae a];split
 ·rename_i y c;exact absurd c (b y)
 ·rfl
def In(F R:List St)(a:Nat):Prop:=∀i,a<=i->i<R.length->F[i]?=R[i]?
theorem Pn(d:Nat):∀(x:Px) (S:List St) (b:Nat) (F:List St),In F (mk d x S b).1 S.length->∀w,mS d x w->∃n,lE F n (mk d x S b).2 w b:=by
 induction d with
 | zero=>intro x S b F _ w a;rw[show w=[] from a];exact⟨0,lE.nil b⟩
 | succ d A =>
  intro x S b F hF w a
  by_cases h0:x.what=0
  ·rw[zS h0]at a;rw[Ed h0]at hF ⊢;have t:F[S.length]?=some (x.k,[b]):=by rw[hF S.length (ar _) (by simp)];simp
   by_cases s:x.k=0
   ·rw[ag s]at a;rw[a];rw[s]at t;exact⟨1,lE.eps t (by simp) (lE.nil b)⟩
   ·rw[ae s]at a;obtain⟨j,rfl,C⟩:=a;exact⟨1,lE.one t C (by simp) (lE.nil b)⟩
  by_cases h1:x.what=1
  ·rw[tC h1]at a;rw[zU h1]at hF ⊢;generalize x.l=l at *
   induction l generalizing w with
   | nil=>rw[show w=[] from a];exact⟨0,lE.nil b⟩
   | cons y l H =>
    obtain⟨u,v,rfl,hu,o⟩:=a;have e:e7 d (y::l) S b=mk d y (e7 d l S b).1 (e7 d l S b).2:=rfl;rw[e]at hF ⊢;have f:=yk d l S b;have E:=lU d y (e7 d l S b).1 (e7 d l S b).2;obtain⟨n,g⟩:=A y _ _ F (fun i h1 c=>hF i (by omega) c) u hu;obtain⟨m,h⟩:=H v (fun i h1 c=>by rw[hF i h1 (by omega),(lV d y _ _).1 i c]) o;exact g.app h
  by_cases c:x.what=2
  ·rw[lT c]at a;rw[qp c]at hF ⊢;obtain⟨y,q,a⟩:=a;have f:(S++[((0:Nat),([]:List Nat))]).length=S.length+1:=by simp
   obtain⟨M,_,J,a3,_,a5⟩:=m8 d b S.length (fun x S i hi=>(lV d x S b).1 i hi) x.l (S++[(0,[])]) [] (by simp) (by simp);obtain⟨z,G,Z,P,z2,z3,z4⟩:=a5 y q;obtain⟨n,g⟩:=A y Z b F (fun i h1 c=>by rw[hF i (by omega) (by show i<(eN d b S.length x.l (S++[(0,[])])).length;omega)];exact z4 i h1 c) w a;rw[<- z3]at g;refine⟨n+1,lE.eps (l:=[]++J) ?_ (by simpa using G) g⟩;rw[hF S.length (ar _) (by show S.length<(eN d b S.length x.l (S++[(0,[])])).length;omega)];exact a3
  by_cases f:∃y,x.l=[y]
  ·obtain⟨y,f⟩:=f;rw[px h0 h1 c f]at a;rw[zT h0 h1 c f]at hF ⊢;obtain⟨K,O,L⟩:=Fw d y S b;have N:(S++[((0:Nat),[b])]).length=S.length+1:=by simp
   have E:=lU d y (S++[(0,[b])]) S.length;have B:F[S.length]?=some (0,[b,(mk d y (S++[(0,[b])]) S.length).2]):=by rw[hF S.length (ar _) (by show S.length<(j7 d y S b).length;omega)];exact K
   have q:=A y (S++[(0,[b])]) S.length F (fun i h1 c=>by rw[hF i (by omega) (by show i<(j7 d y S b).length;omega)];exact L i (by omega));have star:∀v,Tr.n2 (mS d y) v->∃n,lE F n S.length v b:=by
    intro v o
    induction o with
    | nil=>exact⟨1,lE.eps B (by simp) (lE.nil b)⟩
    | cons u v hu _ I =>
     obtain⟨n,g⟩:=q u hu;obtain⟨m,h⟩:=I;obtain⟨r,D⟩:=g.app h;exact⟨r+1,lE.eps B (by simp) D⟩
   by_cases p:x.what=3
   ·rw[ag p]at a;show ∃n,lE F n (if x.what=3 then _ else _) w b;rw[ag p];exact star w a
   ·rw[ae p]at a;show ∃n,lE F n (if x.what=3 then _ else _) w b;rw[ae p];obtain⟨u,v,rfl,hu,o⟩:=a;obtain⟨n,g⟩:=q u hu;obtain⟨m,h⟩:=star v o;exact g.app h
  ·rw[B8 h0 h1 c (fun y e=>f ⟨y,e⟩)]at a;rw[zV h0 h1 c (fun y e=>f ⟨y,e⟩),a];exact⟨0,lE.nil b⟩
theorem Po(d:Nat):∀(x:Px) (S:List St) (b:Nat) (F:List St),b<S.length->In F (mk d x S b).1 S.length->∀n w t,(t<S.length\/(mk d x S b).1.length<=t)->lE F n (mk d x S b).2 w t->∃u v m,w=u++v/\mS d x u/\m<=n/\lE F m b v t:=by
 induction d with
 | zero=>intro x S b F _ _ n w t _ h;exact⟨[],w,n,rfl,rfl,ar _,h⟩
 | succ d M =>
  intro x S b F hb hF n w t p h
  by_cases h0:x.what=0
  ·rw[Ed h0]at hF h p;have P:F[S.length]?=some (x.k,[b]):=by rw[hF S.length (ar _) (by simp)];simp
   have L:t≠S.length:=by rcases p with q|q;omega;simp at q;omega
   simp only[zS h0];cases h with
   | nil=>exact absurd rfl L
   | @eps n _ z _ _ l a c r =>
    rw[P]at a;simp at a;rw[<- a.2]at c;simp at c;subst c;exact⟨[],w,n,rfl,by rw[ag a.1],by omega,r⟩
   | @one n _ z _ k j w' l a g c r =>
    rw[P]at a;simp at a;rw[<- a.2]at c;simp at c;subst c;refine⟨[j],w',n,rfl,?_,by omega,r⟩;rw[ae (by rw[a.1];exact vA g),a.1];exact⟨j,rfl,g⟩
  by_cases h1:x.what=1
  ·rw[zU h1]at hF h p;simp only[tC h1];generalize x.l=l at *
   induction l generalizing w n with
   | nil=>exact⟨[],w,n,rfl,rfl,ar _,h⟩
   | cons y l V =>
    have e:e7 d (y::l) S b=mk d y (e7 d l S b).1 (e7 d l S b).2:=rfl;rw[e]at hF h p;have o:=yk d l S b;have T:=lU d y (e7 d l S b).1 (e7 d l S b).2;have Q:(e7 d l S b).2<(e7 d l S b).1.length:=by rcases JY d l S b with q|q<;>omega
    obtain⟨u,v,m,rfl,hu,K,A⟩:=M y _ _ F Q (fun i h1 f=>hF i (by omega) f) n w t (by omega) h;obtain⟨s,H,G,rfl,D,O,E⟩:=V m v (fun i h1 f=>by rw[hF i h1 (by omega),(lV d y _ _).1 i f]) (by omega) A;exact⟨u++s,H,G,by simp,⟨u,s,rfl,hu,D⟩,by omega,E⟩
  by_cases f:x.what=2
  ·rw[qp f]at hF h p;simp only[lT f];have o:(S++[((0:Nat),([]:List Nat))]).length=S.length+1:=by simp
   obtain⟨a0,_,W,a3,a4,_⟩:=m8 d b S.length (fun x S i hi=>(lV d x S b).1 i hi) x.l (S++[(0,[])]) [] (by simp) (by simp);have hlen:S.length<(eN d b S.length x.l (S++[(0,[])])).length:=by omega
   have C:F[S.length]?=some (0,W):=by rw[hF S.length (ar _) hlen];simpa using a3
   have L:t<S.length\/(eN d b S.length x.l (S++[(0,[])])).length<=t:=p;cases h with
   | nil=>omega
   | @eps n _ z _ _ l a c r =>
    rw[C]at a;simp at a;rw[<- a]at c;obtain⟨y,J,Z,a5,z2,z3,z4⟩:=a4 z c;rw[z3]at r;obtain⟨u,v,m,e,hu,K,A⟩:=M y Z b F (by omega) (fun i h1 f=>by rw[hF i (by omega) (by show i<(eN d b S.length x.l (S++[(0,[])])).length;omega)];exact z4 i h1 f) n w t (by omega) r;exact⟨u,v,m,e,⟨y,J,hu⟩,by omega,A⟩
   | @one n _ z _ k j w' l a g c r =>
    rw[C]at a;simp at a;rw[<- a.1]at g;simp at g
  by_cases o:∃y,x.l=[y]
  ·obtain⟨y,o⟩:=o;rw[zT h0 h1 f o]at hF h p;simp only[px h0 h1 f o];obtain⟨X,a2,Y⟩:=Fw d y S b;have a1:(S++[((0:Nat),[b])]).length=S.length+1:=by simp
   have T:=lU d y (S++[(0,[b])]) S.length;have L:t<S.length\/(j7 d y S b).length<=t:=p;have C:F[S.length]?=some (0,[b,(mk d y (S++[(0,[b])]) S.length).2]):=by rw[hF S.length (ar _) (by show S.length<(j7 d y S b).length;omega)];exact X
   have J:∀n w,lE F n (mk d y (S++[(0,[b])]) S.length).2 w t->∃u v m,w=u++v/\mS d y u/\m<=n/\lE F m S.length v t:=fun n w h=>M y (S++[(0,[b])]) S.length F (by omega) (fun i h1 f=>by rw[hF i (by omega) (by show i<(j7 d y S b).length;omega)];exact Y i (by omega)) n w t (by omega) h
   have star:∀N n w,n<=N->lE F n S.length w t->∃u v m,w=u++v/\Tr.n2 (mS d y) u/\m<=n/\lE F m b v t:=by
    intro N
    induction N with
    | zero =>
     intro n w R h;cases h with
     | nil=>omega
     | eps=>omega
     | one=>omega
    | succ N U =>
     intro n w R h;cases h with
     | nil=>omega
     | @eps n _ z _ _ l a c r =>
      rw[C]at a;simp at a;rw[<- a]at c;simp at c;rcases c with rfl|rfl
      ·exact⟨[],w,n,rfl,Tr.n2.nil,by omega,r⟩
      ·obtain⟨u,v,m,rfl,hu,K,A⟩:=J n w r;obtain⟨s,H,G,rfl,D,O,E⟩:=U m v (by omega) A;exact⟨u++s,H,G,by simp,Tr.n2.cons u s hu D,by omega,E⟩
     | @one n _ z _ k j w' l a g c r =>
      rw[C]at a;simp at a;rw[<- a.1]at g;simp at g
   by_cases I:x.what=3
   ·have B:lE F n (if x.what=3 then S.length else (mk d y (S++[(0,[b])]) S.length).2) w t:=h;rw[ag I]at B;simp only[ag I];exact star n n w (ar _) B
   ·have B:lE F n (if x.what=3 then S.length else (mk d y (S++[(0,[b])]) S.length).2) w t:=h;rw[ae I]at B;simp only[ae I];obtain⟨u,v,m,rfl,hu,K,A⟩:=J n w B;obtain⟨s,H,G,rfl,D,O,E⟩:=star m m v (ar _) A;exact⟨u++s,H,G,by simp,⟨u,s,rfl,hu,D⟩,by omega,E⟩
  ·rw[zV h0 h1 f (fun y e=>o ⟨y,e⟩)]at h;simp only[B8 h0 h1 f (fun y e=>o ⟨y,e⟩)];exact⟨[],w,n,rfl,rfl,ar _,h⟩
theorem py(d:Nat)(x:Px)(w:List Nat):(∃n,lE (mk d x bA 0).1 n (mk d x bA 0).2 w 0)↔mS d x w:=by
 constructor
 ·rintro⟨n,h⟩;obtain⟨u,v,m,rfl,hu,_,c⟩:=Po d x bA 0 _ (by decide) (fun i _ _=>rfl) n w 0 (ah (by decide)) h;have h0:(mk d x bA 0).1[0]?=some (0,[]):=by rw[(lV d x bA 0).1 0 (by decide)];rfl
  have:v=[]:=by
   cases c with
   | nil=>rfl
   | eps a b _=>rw[h0]at a;simp at a;rw[a]at b;simp at b
   | one a _ b _=>rw[h0]at a;simp at a;rw[a.2]at b;simp at b
  rw[this,mg];exact hu
 ·intro h;exact Pn d x bA 0 _ (fun i _ _=>rfl) w h
theorem pD{S:List St}{x t z:Nat}:(t,z)∈fY (av true S) x↔∃l,S[x]?=some (t,l)/\z∈l:=by
 rcases cF x S.length with c|c
 ·rw[ly true S x (t,z) c];constructor
  ·rintro⟨j,s,h1,a,b⟩;simp at b a;obtain⟨rfl,b⟩:=b;exact⟨s.2,by rw[h1,a],b⟩
  ·rintro⟨l,h1,a⟩;exact⟨x,(t,l),h1,rfl,by simp[a]⟩
 ·constructor
  ·intro h;unfold fY at h;rw[gB (by rw[fA];exact c)]at h;simp at h
  ·rintro⟨l,h1,_⟩;rw[gB c]at h1;cases h1
theorem tu{S:List St}:∀(r:List Nat) (x y:Nat),n6 (av true S) r x y↔∃n,lE S n x r y:=by
 have eps:∀n x z,goes (av true S) n x z->∀r y,(∃m,lE S m z r y)->∃m,lE S m x r y:=by
  intro n
  induction n with
  | zero=>intro x z h r y k;rw[show x=z from h];exact k
  | succ n d =>
   intro x z h r y k;obtain⟨u,h1,f⟩:=h;obtain⟨m,j⟩:=d u z f r y k;obtain⟨l,g,i⟩:=pD.1 h1;exact⟨m+1,lE.eps g i j⟩
 intro r
 induction r with
 | nil =>
  intro x y;constructor
  ·rintro⟨n,h⟩;exact eps n x y h [] y ⟨0,lE.nil y⟩
  ·rintro⟨n,h⟩;generalize b:([]:List Nat)=r at h
   induction h with
   | nil q=>exact c2 _ q
   | eps h e _ d=>exact lN (jU (pD.2 ⟨_,h,e⟩) (c2 _ _)) (d b)
   | one=>cases b
 | cons c r d =>
  intro x y;constructor
  ·rintro⟨a,t,z,⟨n,h1⟩,f,g,i⟩;obtain⟨l,o,p⟩:=pD.1 f;obtain⟨m,j⟩:=(d z y).1 i;exact eps n x a h1 _ _ ⟨m+1,lE.one o g p j⟩
  ·rintro⟨n,h⟩;generalize b:c::r=w at h
   induction h with
   | nil q=>cases b
   | eps h e _ v=>exact lN (jU (pD.2 ⟨_,h,e⟩) (c2 _ _)) (v b)
   | one h s e k _ =>
    cases b;exact⟨_,_,_,c2 _ _,pD.2 ⟨_,h,e⟩,s,(d _ _).2 ⟨_,k⟩⟩
theorem NG{d:Nat}{x:Px}{S:List St}{f:Nat}(hS:S=(mk d x bA 0).1)(e:f=(mk d x bA 0).2){bP:l9}(h:xF S f bP)(row:List Nat)(n:∀k∈row,k<8)(i:Nat)(hi:i<=row.length):bG bP (eC bP row i)=true↔∃j,j<=i/\mS d x ((row.take i).drop j):=by
 obtain⟨g,h1,l,_,c⟩:=h;have h0:g[0]?=some (a6 (av true S) f):=at_prefix l rfl;unfold eC;rw[vR c h1 (Bs c h1 (row.take i) (fun k m=>n k (ld m)) 0 _ h0),CC];have o:(row.take i).length=i:=by rw[cz];omega
 rw[o];constructor
 ·rintro⟨j,b,a⟩;rw[tu,hS,e]at a;exact⟨j,b,(py d x _).1 a⟩
 ·rintro⟨j,b,a⟩;refine⟨j,b,?_⟩;rw[tu,hS,e];exact(py d x _).2 a
theorem JZ{d:Nat}{x:Px}{S:List St}{f:Nat}(e:AZ S)(hS:S=(mk d x bA 0).1)(c:f=(mk d x bA 0).2){bP:l9}(h:AO S f bP)(row:List Nat)(q:∀k∈row,k<8)(i:Nat):bG bP (er bP row i)=true↔∃j,j<=row.length-i/\mS d x ((row.drop i).take j):=by
 obtain⟨l,h1,n,_,b⟩:=h;have h0:l[0]?=some (a6 (av false S) 0):=at_prefix n rfl;unfold er;rw[vR b h1 (Bs b h1 (row.drop i).reverse (fun k o=>q k (q0 (List.mem_reverse.1 o))) 0 _ h0),CC];have r:(row.drop i).reverse.length=row.length-i:=by simp
 rw[r];have g:∀m,(row.drop i).reverse.drop m=((row.drop i).take (row.length-i-m)).reverse:=by
  intro m;rw[List.drop_reverse,gg]
 constructor
 ·rintro⟨j,p,a⟩;rw[g,BH e,tu,hS,c]at a;exact⟨row.length-i-j,by omega,(py d x _).1 a⟩
 ·rintro⟨j,p,a⟩;refine⟨row.length-i-j,by omega,?_⟩;rw[g,BH e,tu,hS,c,show row.length-i-(row.length-i-j)=j by omega];exact(py d x _).2 a
end Go.Proofs.YtodagkkjfipbgaaGreatDoor
namespace Go.Proofs.YtodagkkjfipbgaaGreatDoor
open Go.RowKit Go.Proofs.Tryz
def mq(T:ai)(s:RS)(p:PS):Prop:=s.err=0/\p.f=0/\p.p=skip T s.at_/\s.at_<=T.size/\s.place=0
def hD(T:ai)(s:RS)(p:PS):Prop:=s.err≠0/\p.f=s.err/\p.pl=s.place/\p.p=T.size
def Mv(T:ai)(s:RS)(p:PS):Prop:=s.err=2/\p.f=0/\s.place=(p.p:Int)/\p.p<T.size/\bH [ct,eP,cJ] (p.tk T)=true
theorem dK{T:ai}{s:RS}{p:PS}(h:mq T s p):s.tk T=p.tk T:=by
 unfold RS.tk PS.tk tok bF;rw[h.2.2.1]
theorem hN{T:ai}{s:RS}{p:PS}(h:mq T s p):(s.pos T:Int)=(p.p:Int):=by unfold RS.pos;rw[h.2.2.1]
theorem cT{T:ai}{s:RS}{p:PS}(h:mq T s p):p.p<=T.size:=by rw[h.2.2.1];exact(gH T s.at_).2 h.2.2.2.1
theorem et{T:ai}{s:RS}{p:PS}(h:mq T s p):mq T (s.take T) (p.step T):=by
 refine⟨h.1,h.2.1,?_,?_,h.2.2.2.2⟩
 ·show hq T p.p=skip T (bO T (skip T s.at_));unfold hq;rw[h.2.2.1]
 ·exact(eQ T _).2.1 ((gH T s.at_).2 h.2.2.2.1)
theorem eu{T:ai}{s:RS}{p:PS}(h:mq T s p):mq T (s.aH T) p :=
 ⟨h.1,h.2.1,by show p.p=skip T (skip T s.at_);rw[qc];exact h.2.2.1,(gH T s.at_).2 h.2.2.2.1,h.2.2.2.2⟩
theorem en{T:ai}{s:RS}{p:PS}(h1:s.err=0)(b:p.f=0)(e:Int)(d:e≠0)(q:Int)(g:q=p.p):hD T (s.fail e q) (p.fail T e):=by
 have a:(s.fail e q).err=e:=by unfold RS.fail;rw[ag h1]
 have c:(s.fail e q).place=q:=by unfold RS.fail;rw[ag h1]
 refine⟨by rw[a];exact d,?_,?_,rfl⟩
 ·rw[a];show pf p.f e=e;unfold pf;rw[ag b]
 ·rw[c,g];show pp p.f p.p p.pl=_;unfold pp;rw[ag b]
theorem jo{s:RS}(h:s.err≠0)(e q:Int):s.fail e q=s:=by unfold RS.fail;rw[ae h]
theorem dj{T:ai}{s a:RS}{p p':PS}(h:hD T s p)(h1:a.err=s.err)(c:a.place=s.place)(d:eV p p')(e:Fz T p'):hD T a p':=by
 have b:p.f≠0:=by rw[h.2.1];exact h.1
 have:=d b;exact⟨by rw[h1];exact h.1,by rw[this.1,h1];exact h.2.1,by rw[this.2,c];exact h.2.2.1,e (by rw[this.1];exact b)⟩
theorem pL{T:ai}{s:RS}{p:PS}(h:hD T s p):Fz T p:=fun _=>h.2.2.2
theorem kZ{T:ai}{s:RS}{p:PS}(h:mq T s p):Fz T p:=fun e=>absurd h.2.1 e
theorem l8{T:ai}{s:RS}{p:PS}(h:hD T s p):p.tk T=[]:=by unfold PS.tk;rw[h.2.2.2];exact hH T
theorem mP{T:ai}{s:RS}{p:PS}(h:mq T s p)(c:UInt8):(p.tk T=[c]/\s.want T [c]=s.take T/\mq T (s.want T [c]) (p.aK T [aX c]))\/(p.tk T≠[c]/\hD T (s.want T [c]) (p.aK T [aX c])):=by
 by_cases e:p.tk T=[c]
 ·left;have a:s.want T [c]=s.take T:=by unfold RS.want;rw[dK h,ag e]
  have b:p.aK T [aX c]=p.step T:=by unfold PS.aK;rw[bk,e];simp
  exact⟨e,a,by rw[a,b];exact et h⟩
 ·right;have a:s.want T [c]=(s.take T).fail 2 (s.pos T):=by unfold RS.want;rw[dK h,ae e]
  have b:p.aK T [aX c]=p.fail T 2:=by unfold PS.aK;rw[bk];simp[e]
  exact⟨e,by rw[a,b];exact en (s:=s.take T) h.1 h.2.1 2 (by decide) _ (hN h)⟩
theorem oy{T:ai}{s:RS}{p:PS}(h:Mv T s p)(c:UInt8):hD T s (p.aK T [aX c])/\p.tk T≠[c]:=by
 have b:=h.2.2.2.2;rw[fU]at b;have d:p.tk T≠[c]:=by
  intro e;obtain⟨x,g,a⟩:=b;rw[e]at a;simp at g;rcases g with rfl|rfl|rfl
  ·unfold ct at a;rw[bM]at a;simp at a
  ·unfold eP at a;rw[bM]at a;simp at a
  ·unfold cJ at a;rw[bM]at a;simp at a
 have i:p.aK T [aX c]=p.fail T 2:=by unfold PS.aK;rw[bk];simp[d]
 refine⟨?_,d⟩;rw[i];refine⟨by rw[h.1];decide,?_,?_,rfl⟩
 ·rw[h.1];show pf p.f 2=2;unfold pf;rw[ag h.2.1]
 ·rw[h.2.2.1];show pp p.f p.p p.pl=_;unfold pp;rw[ag h.2.1]
theorem FU{T:ai}{s:RS}{p:PS}(h:mq T s p):(fC (p.tk T)=0/\s.hex T=s.take T/\mq T (s.hex T) (p.hex T)/\RS.fX (s.tk T)=RS.cg (p.tk T))\/(hD T (s.hex T) (p.hex T)):=by
 have i:=dK h;have k:=hN h
 by_cases e:fC (p.tk T)=0
 ·left;have hb:¬(6<(p.tk T).length\/RS.cY (p.tk T)=false\/p.tk T=[]):=by
   intro hb;unfold fC at e;rw[ag hb]at e;omega
  have b:¬1114111<RS.cg (p.tk T):=by
   intro b;unfold fC at e;rw[ae hb,ag b]at e;omega
  have a:¬6<(p.tk T).length:=fun h=>hb (ah h)
  have j:RS.cY (p.tk T)=true/\p.tk T≠[]:=by
   constructor
   ·cases c:RS.cY (p.tk T)with
    | true=>rfl
    | false=>exact absurd (ac (ah c)) hb
   ·intro c;exact hb (ac (ac c))
  have f:s.hex T=s.take T:=by unfold RS.hex;simp only;rw[i,ae a,ag j,ae b]
  have g:p.hex T=p.step T:=by unfold PS.hex;rw[ag e]
  refine⟨e,f,by rw[f,g];exact et h,?_⟩;unfold RS.fX;rw[i,ae a]
 ·right;have g:p.hex T=p.fail T (fC (p.tk T)):=by unfold PS.hex;rw[ae e]
  have f:s.hex T=(s.take T).fail (fC (p.tk T)) (s.pos T):=by
   have l:(s.take T).err=0:=h.1;unfold RS.hex fC;simp only;rw[i]
   by_cases a:6<(p.tk T).length
   ·rw[ag a,ag (ah a)]
   ·rw[ae a]
    by_cases d:RS.cY (p.tk T)=true/\p.tk T≠[]
    ·have hb:¬(6<(p.tk T).length\/RS.cY (p.tk T)=false\/p.tk T=[]):=by
      rintro(h|h|h)
      ·exact a h
      ·rw[d.1]at h;cases h
      ·exact d.2 h
     rw[ag d,ae hb]
     by_cases b:1114111<RS.cg (p.tk T)
     ·rw[ag b,ag b]
     ·exfalso;apply e;unfold fC;rw[ae hb,ae b]
    ·have hb:6<(p.tk T).length\/RS.cY (p.tk T)=false\/p.tk T=[]:=by
      cases c:RS.cY (p.tk T)with
      | false=>exact ac (ah rfl)
      | true =>
       right;right;rcases Classical.em (p.tk T=[])with h|h
       ·exact h
       ·exact absurd ⟨c,h⟩ d
     rw[ae d,ag hb];split
     ·exact jo (by unfold RS.fail;rw[ag l];show (2:Int)≠0;decide) _ _
     ·rfl
  rw[f,g];exact en (s:=s.take T) h.1 h.2.1 _ e _ k
theorem pM{T:ai}{s:RS}{p:PS}(h:hD T s p)(a b q:Int):(s.bR a b q).err=s.err/\(s.bR a b q).place=s.place:=by
 unfold RS.bR;simp only;split
 ·rw[jo h.1];exact⟨rfl,rfl⟩
 ·exact⟨rfl,rfl⟩
theorem y1{T:ai}{s:RS}{p:PS}{l:List (Int×Int×Nat)}{k:Nat}(h:mq T s p)(a b q:Int)(c:s.ay=ln l)(g:s.aa.length=k+1):(RS.dy a b (ln l)=false/\mq T (s.bR a b q) p/\(s.bR a b q).ay=ln (l++[(a,b,k)])/\(s.bR a b q).aa=s.aa)\/(RS.dy a b (ln l)=true/\hD T (s.bR a b q) (p.eD T 5 q)):=by
 cases hb:RS.dy a b (ln l)
 ·left;have e:s.bR a b q={ s with ay:=s.ay++[(a,b,(s.aa.length:Int)-1)] }:=by unfold RS.bR;simp only;rw[c,hb];simp[c]
  refine⟨rfl,?_,?_,?_⟩
  ·rw[e];exact h
  ·rw[e];show s.ay++_=_;rw[c];unfold ln;rw[c9,g];simp
  ·rw[e]
 ·right;refine⟨rfl,?_⟩;have d:(s.bR a b q).err=5/\(s.bR a b q).place=q:=by unfold RS.bR;simp only;rw[c,hb];simp[RS.fail,h.1]
  refine⟨by rw[d.1];decide,?_,?_,rfl⟩
  ·rw[d.1];show pf p.f 5=5;unfold pf;rw[ag h.2.1]
  ·rw[d.2];show pp p.f q p.pl=q;unfold pp;rw[ag h.2.1]
theorem jZ(T:ai)(s:RS):(s.hex T).aa=s.aa/\(s.hex T).ay=s.ay/\(s.hex T).L=s.L:=by
 have:=fW T s;exact⟨this.1,this.2.1,this.2.2.1⟩
theorem O6{T:ai}{s:RS}{p:PS}{l:List (Int×Int×Nat)}{k:Nat}(h:mq T s p)(z:s.ay=ln l)(y:s.aa.length=k+1):(mq T (s.span T) (p.span T l)/\(s.span T).ay=ln (l++[(p.fo T,p.dU T,k)])/\(s.span T).aa=s.aa)\/hD T (s.span T) (p.span T l):=by
 have J:=cT h;have I:=kZ h;rcases FU h with⟨E,G,h1,B⟩|a
 ·have j:=eu h1;have A:((s.hex T).aH T).tk T=(p.hex T).tk T:=dK j
  by_cases hd:(p.hex T).tk T=[45]
  ·have e:p.dash T=true:=by unfold PS.dash;rw[bk];simp[hd]
   have g:s.span T=((((s.hex T).aH T).take T).hex T).bR (RS.fX (s.tk T)) (RS.fX ((((s.hex T).aH T).take T).tk T)) ((((s.hex T).aH T).take T).pos T):=by
    unfold RS.span;simp only;rw[ag ⟨j.1,by rw[A];exact hd⟩]
   have w:=et j;have b:p.bv T=((p.hex T).step T).hex T:=by unfold PS.bv;rw[e];rfl
   have m:p.gT T=(((p.hex T).step T).p:Int):=by unfold PS.gT;rw[e];rfl
   have o:p.dU T=RS.cg (((p.hex T).step T).tk T):=by unfold PS.dU;rw[e];rfl
   rcases FU w with⟨F,H,x,D⟩|a
   ·have u:(p.bv T).f=0:=by rw[b];exact x.2.1
    have C:=hN w;rw[g,B,D,C];have n:p.fo T=RS.cg (p.tk T):=rfl;have v:(((((s.hex T).aH T).take T).hex T)).ay=ln l:=by rw[(jZ T _).2.1];show (s.hex T).ay=_;rw[(jZ T s).2.1];exact z
    have i:(((((s.hex T).aH T).take T).hex T)).aa=s.aa:=by rw[(jZ T _).1];show (s.hex T).aa=_;exact(jZ T s).1
    have c:p.span T l=if RS.dy (p.fo T) (p.dU T) (ln l)=true then (p.bv T).eD T 5 (p.gT T)else p.bv T:=by
     unfold PS.span;rw[ae (by simpa using u)]
    have:=y1 (k:=k) x (RS.cg (p.tk T)) (RS.cg (((p.hex T).step T).tk T)) (((p.hex T).step T).p:Int) v (by rw[i];exact y);rw[<- n,<- o]at this ⊢;rcases this with⟨hb,d,a2,a3⟩|⟨hb,d⟩
    ·left;rw[c,hb];refine⟨?_,a2,by rw[a3,i]⟩;simp only[la,fi];rw[b];exact d
    ·right;rw[c,hb];simp only[de];rw[b,m];exact d
   ·right;have r:(p.bv T).f≠0:=by rw[b,a.2.1];exact a.1
    have c:p.span T l=p.bv T:=by unfold PS.span;rw[ag r]
    rw[c,b,g];have:=pM a (RS.fX (s.tk T)) (RS.fX ((((s.hex T).aH T).take T).tk T)) ((((s.hex T).aH T).take T).pos T);exact dj a this.1 this.2 (eV.refl _) (pL a)
  ·have e:p.dash T=false:=by unfold PS.dash;rw[bk];simp[hd]
   have g:s.span T=((s.hex T).aH T).bR (RS.fX (s.tk T)) (RS.fX (s.tk T)) (s.pos T):=by
    unfold RS.span;simp only;rw[ae (fun t=>hd (by rw[<- A];exact t.2))]
   have b:p.bv T=p.hex T:=by unfold PS.bv;rw[e];rfl
   have m:p.gT T=(p.p:Int):=by unfold PS.gT;rw[e];rfl
   have o:p.dU T=RS.cg (p.tk T):=by unfold PS.dU;rw[e];rfl
   have n:p.fo T=RS.cg (p.tk T):=rfl;have u:(p.bv T).f=0:=by rw[b];exact h1.2.1
   have c:p.span T l=if RS.dy (p.fo T) (p.dU T) (ln l)=true then (p.bv T).eD T 5 (p.gT T)else p.bv T:=by
    unfold PS.span;rw[ae (by simpa using u)]
   have v:(((s.hex T).aH T)).ay=ln l:=by show (s.hex T).ay=_;rw[(jZ T s).2.1];exact z
   have i:(((s.hex T).aH T)).aa=s.aa:=(jZ T s).1;have:=y1 (k:=k) j (RS.cg (p.tk T)) (RS.cg (p.tk T)) (p.p:Int) v (by rw[i];exact y);rw[g,B,hN h];rw[c,n,o,b,m];rcases this with⟨hb,d,a2,a3⟩|⟨hb,d⟩
   ·left;rw[hb];exact⟨d,a2,by rw[a3,i]⟩
   ·right;rw[hb];exact d
 ·right;have r:(p.hex T).f≠0:=by rw[a.2.1];exact a.1
  have hd:p.dash T=false:=by unfold PS.dash;rw[l8 a,bk];simp
  have b:p.bv T=p.hex T:=by unfold PS.bv;rw[hd];rfl
  have c:p.span T l=p.hex T:=by unfold PS.span;rw[b,ag r]
  have g:s.span T=((s.hex T).aH T).bR (RS.fX (s.tk T)) (RS.fX (s.tk T)) (s.pos T):=by
   unfold RS.span;simp only;rw[ae (fun t=>a.1 t.1)]
  have q:hD T ((s.hex T).aH T) (p.hex T):=a;have:=pM q (RS.fX (s.tk T)) (RS.fX (s.tk T)) (s.pos T);rw[c,g];exact dj q this.1 this.2 (eV.refl _) (pL q)
theorem mH{T:ai}{k g:Nat}{p:PS}{l:List (Int×Int×Nat)}(h:p.tk T≠[44]):PS.aM T k g p l=(p,l):=by
 cases g with
 | zero=>rfl
 | succ g=>rw[PS.aM,ae h]
theorem M6{T:ai}{k:Nat}:∀(g:Nat) (s:RS) (p:PS) (l:List (Int×Int×Nat)) (a:Nat),mq T s p->s.ay=ln l->s.aa.length=k+1->T.size<p.p+g->T.size<p.p+a ->(mq T (RS.aM T g s) ((PS.aM T k a (p.span T l) (l++[(p.fo T,p.dU T,k)])).1.aK T [aX 59])/\(RS.aM T g s).ay=ln (PS.aM T k a (p.span T l) (l++[(p.fo T,p.dU T,k)])).2/\(RS.aM T g s).aa=s.aa) \/hD T (RS.aM T g s) ((PS.aM T k a (p.span T l) (l++[(p.fo T,p.dU T,k)])).1.aK T [aX 59]):=by
 intro g
 induction g with
 | zero=>intro s p l a h _ _ hg;have:=cT h;omega
 | succ g y =>
  intro s p l a h x n hg C;have u:=cT h;have D:=lL u l;rw[RS.aM,ae (by rw[h.1];simp)];simp only;rcases O6 h x n with⟨h1,o,m⟩|b
  ·rw[ae (by rw[h1.1];simp)];have f:=dK h1
   by_cases d:(s.span T).tk T=[59]
   ·rw[ag d];have e:(p.span T l).tk T=[59]:=by rw[<- f];exact d
    rw[mH (by rw[e];decide)];left;rcases mP h1 59 with⟨_,A,w3⟩|⟨z,_⟩
    ·rw[A]at w3;exact⟨w3,o,m⟩
    ·exact absurd e z
   ·rw[ae d]
    by_cases c:(s.span T).tk T=[44]
    ·rw[ag c];have e:(p.span T l).tk T=[44]:=by rw[<- f];exact c
     have v:=o0 (cT h1) e;have w:=cx T (p.span T l).p (cT h1);obtain⟨j,rfl⟩:∃j,a=j+1:=⟨a-1,by omega⟩;rw[PS.aM,ag e];have E:((p.span T l).step T).p=hq T (p.span T l).p:=rfl;have B:=w.2.2 v;have:=y ((s.span T).take T) ((p.span T l).step T) (l++[(p.fo T,p.dU T,k)]) j (et h1) o (by show (s.span T).aa.length=_;rw[m];exact n) (by omega) (by omega);rcases this with⟨i,a2,a3⟩|i
     ·left;exact⟨i,a2,by rw[a3];exact m⟩
     ·right;exact i
    ·rw[ae c];have e:(p.span T l).tk T≠[44]:=by rw[<- f];exact c
     have q:(p.span T l).tk T≠[59]:=by rw[<- f];exact d
     rw[mH e];right;have r:(p.span T l).aK T [aX 59]=(p.span T l).fail T 2:=by unfold PS.aK;rw[bk];simp[q]
     have hb:=en (T:=T) (s:=(s.span T).take T) h1.1 h1.2.1 2 (by decide) ((s.span T).pos T:Int) (hN h1);have t:RS.aM T g (((s.span T).take T).fail 2 ((s.span T).pos T))=((s.span T).take T).fail 2 ((s.span T).pos T):=by
      cases g with
      | zero=>rfl
      | succ g=>rw[RS.aM,ag hb.1]
     rw[t,r];exact hb
  ·right;rw[ag b.1,mH (by rw[l8 b];decide)];exact dj b rfl rfl (bm T _ _) ((pL b).aK (by rw[b.2.2.2];omega) _)
theorem p6{T:ai}{p:Nat}(h:p<T.size):(bF T p).toList≠[]/\((bF T p).toList.headD 0).toNat=Iz T p:=by
 have h1:=(eQ T p).2.2 h;have d:=(eQ T p).2.1 (by omega);have a:0<(bF T p).size:=by unfold bF;rw[ek];omega
 constructor
 ·intro e;have:(bF T p).toList.length=0:=by rw[e];rfl
  rw[bM]at this;simp at this;have c:(bF T p).size=(bF T p).data.size:=rfl;rw[c,this]at a;simp at a
 ·have e:∀(x:ai) (b:0<x.size),x=T.extract p (bO T p)->x[0]'b=T[p]'h:=by
   intro x b e;subst e;rw[ByteArray.getElem_extract];simp
  rw[kL _ a,ko h,e _ a rfl]
theorem Ec(T:ai)(p:Nat)(j:p<=T.size):ew (bF T p).toList=(eI T p&&!bH M9 (bF T p).toList):=by
 have b:bH M9 (bF T p).toList=true↔((bF T p).toList=[99,108,97,115,115]\/(bF T p).toList=[99,117,116]\/(bF T p).toList=[106,111,105,110]\/(bF T p).toList=[97,110,121]\/(bF T p).toList=[111,116,104,101,114]\/(bF T p).toList=[98,97,100]):=by
  rw[fU];unfold M9 ct eP cJ Qt I7 Qs;simp only[aT,hh,g6];constructor
  ·rintro⟨x,(rfl|rfl|rfl|rfl|rfl|rfl),c⟩<;>rw[bM]at c<;>simp[<- c]
  ·rintro(h|h|h|h|h|h)
   ·exact⟨_,ah rfl,by rw[bM];exact h.symm⟩
   ·exact⟨_,ac (ah rfl),by rw[bM];exact h.symm⟩
   ·exact⟨_,ac (ac (ah rfl)),by rw[bM];exact h.symm⟩
   ·exact⟨_,ac (ac (ac (ah rfl))),by rw[bM];exact h.symm⟩
   ·exact⟨_,ac (ac (ac (ac (ah rfl)))),by rw[bM];exact h.symm⟩
   ·exact⟨_,ac (ac (ac (ac (ac rfl)))),by rw[bM];exact h.symm⟩
 unfold ew;rcases cF p T.size with f|i
 ·obtain⟨g,d⟩:=p6 f;cases a:bH M9 (bF T p).toList
  ·rw[ae (by rintro(h|h);exact g h;exact absurd (b.2 h) (by rw[a];simp)),d];unfold eI;simp;omega
  ·rw[ag (ac (b.1 a))];simp
 ·have e:p=T.size:=by omega
  rw[e,hH,ag (ah rfl)];unfold eI;simp
theorem oL{T:ai}{p:PS}(h:bH [ct] (p.tk T)=true):p.tk T=[99,108,97,115,115]:=by
 rw[fU]at h;obtain⟨x,a,b⟩:=h;simp at a;subst a;rw[<- b];unfold ct;rw[bM]
def bV(aa:List ai):Prop:=∀x∈aa,ew x.toList=true
theorem G6{T:ai}{k:Nat}:∀(g:Nat) (p:PS) (l:List (Int×Int×Nat)),p.p<=T.size->Fz T p->Fz T (PS.aM T k g p l).1/\(PS.aM T k g p l).1.p<=T.size:=by
 intro g
 induction g with
 | zero=>intro p l a h;exact⟨h,a⟩
 | succ g b =>
  intro p l a h;rw[PS.aM];split
  ·have h1:=(cx T p.p a).1;exact b _ _ (lL (s:=p.step T) h1 l).2.1 ((h.step a).span h1 l)
  ·exact⟨h,a⟩
theorem LS{T:ai}{p:PS}(h:Fz T p)(c:p.p<=T.size)(aa:List ai)(l:List (Int×Int×Nat)):Fz T (p.dG T aa l):=by
 have a:=n1 h c aa;have b:=G6 (T:=T) (k:=aa.length) (T.size+1) ((p.c5 T aa).span T l) (l++[((p.c5 T aa).fo T,(p.c5 T aa).dU T,aa.length)]) (lL a.2.1 l).2.1 (a.1.span a.2.1 l);exact b.1.aK b.2 _
theorem Gr{T:ai}{s:RS}{p:PS}{l:List (Int×Int×Nat)}(h:mq T s p)(G:s.ay=ln l)(D:bH [ct] (p.tk T)=true)(E:bV s.aa):(mq T (s.bE T) (p.dG T s.aa l)/\(s.bE T).ay=ln (p.fD T s.aa l).2/\(s.bE T).aa=s.aa++[eM T s.aa p]/\bV (s.bE T).aa)\/hD T (s.bE T) (p.dG T s.aa l):=by
 have B:=cT h;have z:=kZ h;have g:=LS z B s.aa l;unfold RS.bE;simp only
 by_cases d:s.aa.length=6
 ·rw[ag (by show (s.take T).aa.length=6;exact d)];right;have hb:=en (T:=T) (s:=s.take T) h.1 h.2.1 6 (by decide) (s.pos T:Int) (hN h);have c:p.eE T s.aa.length=p.fail T 6:=by unfold PS.eE;rw[ag d]
  have b:eV (p.fail T 6) (p.dG T s.aa l):=by
   rw[<- c];exact((((bm T _ _).trans (mF T s.aa _)).trans (bm T _ _)).trans (ll T l _)).trans ((j4 T s.aa.length (T.size+1) _ _).trans (bm T _ _))
  exact dj hb rfl rfl b g
 ·rw[ae (by show ¬(s.take T).aa.length=6;exact d)];have h1:=et h;have c:(p.eE T s.aa.length).aK T [ct]=p.step T:=by
   have:p.eE T s.aa.length=p:=by unfold PS.eE;rw[ae d]
   rw[this];unfold PS.aK;rw[D];rfl
  have F:eM T s.aa p=tok T (s.take T).at_:=by unfold eM;rw[c];unfold bF tok;rw[h1.2.2.1]
  have o:=dK h1;have u:=hN h1;have C:=cT h1;have t:ew ((s.take T).tk T)=(eI T (p.step T).p&&!bH M9 ((p.step T).tk T)):=by rw[o];exact Ec T _ C
  have j:=et h1;have rest:∀(q:PS),eV q ((p.step T).newName T s.aa)->eV q (p.dG T s.aa l):=by
   intro q A;have e:p.dG T s.aa l=((PS.aM T s.aa.length (T.size+1) ((((p.step T).newName T s.aa).aK T [aX 61]).span T l) (l++[((((p.step T).newName T s.aa).aK T [aX 61]).fo T,(((p.step T).newName T s.aa).aK T [aX 61]).dU T,s.aa.length)])).1).aK T [aX 59]:=by
    unfold PS.dG PS.fD PS.c5;rw[c]
   rw[e];exact(((A.trans (bm T _ _)).trans (ll T l _)).trans (j4 T s.aa.length (T.size+1) _ _)).trans (bm T _ _)
  have stop:∀(x:RS),x.err≠0->RS.aM T (T.size+2) x=x:=fun x a=>by rw[RS.aM,ag a]
  cases m:ew ((s.take T).tk T)
  ·right;have f:(p.step T).dO T=(p.step T).fail T 2:=by unfold PS.dO;rw[<- t,m];rfl
   have hb:=en (T:=T) (s:=(s.take T).take T) j.1 h1.2.1 2 (by decide) ((s.take T).pos T:Int) u;simp only[la,fi];have w:(if 0<=ba (((s.take T).take T).fail 2 ((s.take T).pos T)).aa ((s.take T).tk T)then (((s.take T).take T).fail 2 ((s.take T).pos T)).fail 4 ((s.take T).pos T)else ((s.take T).take T).fail 2 ((s.take T).pos T))=((s.take T).take T).fail 2 ((s.take T).pos T):=by
    split
    ·exact jo hb.1 _ _
    ·rfl
   rw[w,ae hb.1,stop _ (by exact hb.1)];have b:eV ((p.step T).fail T 2) ((p.step T).newName T s.aa):=by
    unfold PS.newName;rw[f];exact(show eV ((p.step T).fail T 2) (((p.step T).fail T 2).ke T s.aa ((p.step T).tk T)) from mG T _ 4).trans (eo T _)
   exact dj hb rfl rfl (rest _ b) g
  ·have f:(p.step T).dO T=p.step T:=by unfold PS.dO;rw[<- t,m];rfl
   simp only[de]
   by_cases hc:0<=ba s.aa ((s.take T).tk T)
   ·right;have hb:=en (T:=T) (s:=(s.take T).take T) j.1 h1.2.1 4 (by decide) ((s.take T).pos T:Int) u;rw[ag (show 0<=ba ((s.take T).take T).aa ((s.take T).tk T) from hc),ae hb.1,stop _ (by exact hb.1)];have b:eV ((p.step T).fail T 4) ((p.step T).newName T s.aa):=by
     have:(p.step T).newName T s.aa=((p.step T).fail T 4).step T:=by
      unfold PS.newName;rw[f];unfold PS.ke;rw[<- o,ag hc]
     rw[this];exact eo T _
    exact dj hb rfl rfl (rest _ b) g
   ·rw[ae (show ¬0<=ba ((s.take T).take T).aa ((s.take T).tk T) from hc)];have y:(p.step T).newName T s.aa=(p.step T).step T:=by
     unfold PS.newName;rw[f];unfold PS.ke;rw[<- o,ae hc]
    have R3:p.c5 T s.aa=((p.step T).step T).aK T [aX 61]:=by unfold PS.c5;rw[c,y]
    have r:mq T { (s.take T).take T with aa:=((s.take T).take T).aa++[tok T (s.take T).at_] } ((p.step T).step T):=j;rw[ag r.1];rcases mP r 61 with⟨_,I,w3⟩|⟨_,w3⟩
    ·have v:({ (s.take T).take T with aa:=((s.take T).take T).aa++[tok T (s.take T).at_] }:RS).want T [61]=({ (s.take T).take T with aa:=((s.take T).take T).aa++[tok T (s.take T).at_] }:RS).take T:=I;have n:(({ (s.take T).take T with aa:=((s.take T).take T).aa++[tok T (s.take T).at_] }:RS).want T [61]).aa=s.aa++[tok T (s.take T).at_]:=by rw[v];rfl
     have H:(({ (s.take T).take T with aa:=((s.take T).take T).aa++[tok T (s.take T).at_] }:RS).want T [61]).ay=ln l:=by rw[v];exact G
     have:=M6 (k:=s.aa.length) (T.size+2) _ _ l (T.size+1) w3 H (by rw[n];simp) (by omega) (by omega);rw[<- R3]at this;rcases this with⟨i,a2,a3⟩|i
     ·left;refine⟨i,a2,by rw[a3,n,F],?_⟩;rw[a3,n];intro x a;rcases aR.1 a with a|a
      ·exact E x a
      ·simp at a;subst a;exact m
     ·right;exact i
    ·right;rw[stop _ w3.1];have b:eV (p.c5 T s.aa) (p.dG T s.aa l):=(ll T l _).trans ((j4 T s.aa.length (T.size+1) _ _).trans (bm T _ _));rw[R3]at b;exact dj w3 rfl rfl b g
def Ez(T:ai)(aa:List ai)(n:Nat)(s:RS)(p:PS):Prop:=mq T s p/\p.a=s.atoms/\p.k=s.nest/\0<=s.atoms/\s.atoms<=4/\s.aa=aa/\s.nest+n=4
def Rz(T:ai)(aa:List ai)(n:Nat)(s:RS)(p:PS):Prop:=Ez T aa n s p\/hD T s p\/Mv T s p
def oN(T:ai)(aa:List ai)(n:Nat)(f:RS->RS×Rx)(g:PS->PS×Px):Prop:=∀s p,Ez T aa n s p->Rz T aa n (f s).1 (g p).1
theorem GV(l:List UInt8):bH [ct,eP,cJ] l=true↔(l=[99,108,97,115,115]\/l=[99,117,116]\/l=[106,111,105,110]):=by
 rw[fU];unfold ct eP cJ;simp only[aT,hh,g6];constructor
 ·rintro⟨x,(rfl|rfl|rfl),a⟩<;>rw[bM]at a<;>simp[<- a]
 ·rintro(h|h|h)
  ·exact⟨_,ah rfl,by rw[bM];exact h.symm⟩
  ·exact⟨_,ac (ah rfl),by rw[bM];exact h.symm⟩
  ·exact⟨_,ac (ac rfl),by rw[bM];exact h.symm⟩
theorem CX{aa:List ai}(a:bV aa){l:List UInt8}(h:0<=ba aa l):ew l=true:=by
 have:bH aa l=true:=by unfold bH;simpa using h
 rw[fU]at this;obtain⟨x,b,rfl⟩:=this;exact a x b
theorem yq(l:List UInt8):ew l=true↔(l≠[]/\dL (l.headD 0).toNat=true/\l≠[99,108,97,115,115]/\l≠[99,117,116]/\l≠[106,111,105,110]/\l≠[97,110,121]/\l≠[111,116,104,101,114]/\l≠[98,97,100]):=by
 unfold ew;split
 ·rename_i h;simp;intro h1 _ b c d e f;rcases h with h|h|h|h|h|h|h
  ·exact absurd h h1
  ·exact absurd h b
  ·exact absurd h c
  ·exact absurd h d
  ·exact absurd h e
  ·exact absurd h f
  ·exact h
 ·rename_i h;simp only[not_or]at h;constructor
  ·intro a;exact⟨h.1,a,h.2.1,h.2.2.1,h.2.2.2.1,h.2.2.2.2.1,h.2.2.2.2.2.1,h.2.2.2.2.2.2⟩
  ·intro a;exact a.2.1
theorem x9(T:ai)(p:Nat)(c:p<=T.size):eI T p=true↔((bF T p).toList≠[]/\dL ((bF T p).toList.headD 0).toNat=true):=by
 rcases cF p T.size with h1|h1
 ·obtain⟨a,b⟩:=p6 h1;unfold eI;rw[b];simp[a];intro _;omega
 ·have e:p=T.size:=by omega
  rw[e,hH];unfold eI;simp
def dR(aa:List ai)(l:List UInt8):Prop:=0<=ba aa l\/l=[97,110,121]\/l=[111,116,104,101,114]\/l=[98,97,100]
theorem yD(aa:List ai)(l:List UInt8):(bn aa l).2=true↔dR aa l:=by
 unfold bn dR;split
 ·rename_i h;simp[h]
 ·rename_i h1;split
  ·rename_i h;simp[h]
  ·rename_i a;split
   ·rename_i h;simp[h]
   ·rename_i b;simp[h1,a,b]
theorem oD{T:ai}{aa:List ai}(k:bV aa)(p:PS)(l:p.p<=T.size)(i:p.tk T≠[40]):(p.isAtom T=false/\¬dR aa (p.tk T)/\ew (p.tk T)=false)\/(p.isAtom T=true/\dR aa (p.tk T))\/(p.isAtom T=true/\¬dR aa (p.tk T)/\ew (p.tk T)=true):=by
 have m:=x9 T p.p l;have d:=yq (p.tk T);have e:=GV (p.tk T);have c:p.isAtom T=true↔(eI T p.p=true/\¬bH [ct,eP,cJ] (p.tk T)=true):=by
  unfold PS.isAtom;rw[bk];simp[i]
 have f:eI T p.p=true↔(p.tk T≠[]/\dL ((p.tk T).headD 0).toNat=true):=m
 by_cases a:dR aa (p.tk T)
 ·right;left;refine⟨c.2 ?_,a⟩;rw[f,e];rcases a with h|h|h|h
  ·have:=d.1 (CX k h);exact⟨⟨this.1,this.2.1⟩,by rintro(h|h|h);exact this.2.2.1 h;exact this.2.2.2.1 h;exact this.2.2.2.2.1 h⟩
  all_goals (rw[h];decide)
 ·cases hi:p.isAtom T
  ·left;refine⟨rfl,a,?_⟩;cases j:ew (p.tk T)with
   | false=>rfl
   | true =>
    exfalso;have:=d.1 j;have:p.isAtom T=true:=c.2 ⟨f.2 ⟨this.1,this.2.1⟩,by rw[e];rintro(h|h|h);exact this.2.2.1 h;exact this.2.2.2.1 h;exact this.2.2.2.2.1 h⟩;rw[hi]at this;cases this
  ·right;right;refine⟨rfl,a,?_⟩;have h1:=c.1 hi;have g:=f.1 h1.1;have b:¬(p.tk T=[99,108,97,115,115]\/p.tk T=[99,117,116]\/p.tk T=[106,111,105,110]):=fun h=>h1.2 (e.2 h)
   unfold dR at a;simp only[not_or]at b a;exact d.2 ⟨g.1,g.2,b.1,b.2.1,b.2.2,a.2.1,a.2.2.1,a.2.2.2⟩
theorem xP(T:ai)(aa:List ai)(s:PS):eV (s.known T aa) (s.one T aa).1:=by
 have a:eV (s.known T aa) ((s.known T aa).many T):=mG T _ 6;have b:eV ((s.known T aa).many T) ((s.known T aa).many T).more:=fun _=>⟨rfl,rfl⟩
 exact(a.trans b).trans (eo T _)
theorem lX{s:RS}(h:s.err≠0)(q:Int):(s.dn q).err=s.err/\(s.dn q).place=s.place:=by
 unfold RS.dn;simp only;split
 ·rw[jo h];exact⟨rfl,rfl⟩
 ·exact⟨rfl,rfl⟩
theorem Ps{T:ai}{aa:List ai}{n:Nat}{s:RS}{p:PS}{j:RS->RS×Rx}{aV:PS->PS×Px}(D:bV aa)(h:Ez T aa n s p)(m:p.tk T≠[40]):Ez T aa n (s.atom T j).1 (p.atom T aa aV).1\/(hD T (s.atom T j).1 (p.atom T aa aV).1/\(p.isAtom T=false->(s.atom T j).1.err=2/\(s.atom T j).1.place=p.p)):=by
 obtain⟨h0,u,B,F,G,z,C⟩:=h;have v:=cT h0;have q:=dK h0;have o:=hN h0;have y:=kZ h0;have t:(s.atom T j).1=((s.take T).bd (s.tk T) (s.pos T)).dn (s.pos T):=by unfold RS.atom;rw[ae (by rw[q];exact m)];rfl
 have x:(s.take T).aa=aa:=z;rcases oD D p v m with⟨hi,d,w⟩|⟨hi,d⟩|⟨hi,d,w⟩
 ·right;have f:(s.take T).bd (s.tk T) (s.pos T)=(s.take T).fail 2 (s.pos T):=by
   unfold RS.bd;rw[q,x,ae (by exact d),w];rfl
  have hb:=en (T:=T) (s:=s.take T) h0.1 h0.2.1 2 (by decide) (s.pos T:Int) o;have i:p.aQ T=p.fail T 2:=by unfold PS.aQ;rw[hi];rfl
  have g:(p.atom T aa aV).1=((p.fail T 2).one T aa).1:=by
   unfold PS.atom;rw[i,bk,l8 hb];rfl
  have e:=lX hb.1 (s.pos T:Int);rw[t,f,g];refine⟨dj hb e.1 e.2 (tm T aa _) ((pL hb).one (by show T.size<=T.size;omega)),fun _=>?_⟩;rw[e.1,e.2];have b:((s.take T).fail 2 (s.pos T)).err=2/\((s.take T).fail 2 (s.pos T)).place=s.pos T:=by
   unfold RS.fail;rw[ag (show (s.take T).err=0 from h0.1)];exact⟨rfl,rfl⟩
  rw[b.1,b.2];exact⟨rfl,o⟩
 ·have f:(s.take T).bd (s.tk T) (s.pos T)=s.take T:=by unfold RS.bd;rw[q,x,ag (by exact d)]
  have i:p.aQ T=p:=by unfold PS.aQ;rw[hi];rfl
  have g:(p.atom T aa aV).1=(p.one T aa).1:=by
   unfold PS.atom;rw[i,bk];simp[m]
  have k:p.known T aa=p:=by unfold PS.known;rw[(yD aa _).2 d];rfl
  rw[t,f,g]
  by_cases l:s.atoms=4
  ·right;have hb:=en (T:=T) (s:=s.take T) h0.1 h0.2.1 6 (by decide) (s.pos T:Int) o;have b:((s.take T).dn (s.pos T)).err=((s.take T).fail 6 (s.pos T)).err/\((s.take T).dn (s.pos T)).place=((s.take T).fail 6 (s.pos T)).place:=by
    unfold RS.dn;simp only;rw[ag (show (s.take T).atoms=4 from l)];exact⟨rfl,rfl⟩
   have em:(p.known T aa).many T=p.fail T 6:=by rw[k];unfold PS.many;rw[ag (by rw[u];exact l)]
   have r:eV (p.fail T 6) (p.one T aa).1:=by
    rw[<- em];exact(show eV ((p.known T aa).many T) ((p.known T aa).many T).more from fun _=>⟨rfl,rfl⟩).trans (eo T _)
   exact⟨dj hb b.1 b.2 r (y.one v),fun c=>by rw[hi]at c;cases c⟩
  ·left;have b:(s.take T).dn (s.pos T)={ s.take T with atoms:=s.atoms+1 }:=by
    unfold RS.dn;simp only;rw[ae (show ¬(s.take T).atoms=4 from l)];rfl
   have em:(p.known T aa).many T=p:=by rw[k];unfold PS.many;rw[ae (by rw[u];exact l)]
   have A:(p.one T aa).1=(p.more).step T:=by unfold PS.one;simp only;rw[em]
   have E:IntKind.i64.wrap (p.a+1)=p.a+1:=IntWalk.i64_in _ ⟨by omega,by omega⟩;rw[b,A];refine⟨et h0,?_,B,by show 0<=s.atoms+1;omega,by show s.atoms+1<=4;omega,z,C⟩;show IntKind.i64.wrap (p.a+1)=s.atoms+1;rw[E,u]
 ·right;have f:(s.take T).bd (s.tk T) (s.pos T)=(s.take T).fail 3 (s.pos T):=by
   unfold RS.bd;rw[q,x,ae (by exact d),w];rfl
  have hb:=en (T:=T) (s:=s.take T) h0.1 h0.2.1 3 (by decide) (s.pos T:Int) o;have i:p.aQ T=p:=by unfold PS.aQ;rw[hi];rfl
  have g:(p.atom T aa aV).1=(p.one T aa).1:=by
   unfold PS.atom;rw[i,bk];simp[m]
  have k:p.known T aa=p.fail T 3:=by
   unfold PS.known;rw[ae (fun c=>d ((yD aa _).1 c))]
  have e:=lX hb.1 (s.pos T:Int);rw[t,f,g];have r:=xP T aa p;rw[k]at r;exact⟨dj hb e.1 e.2 r (y.one v),fun c=>by rw[hi]at c;cases c⟩
theorem r6(T:ai)(sub:PS->PS×Px)(d:bN T sub)(c:dQ T sub)(s:PS)(h:s.p<=T.size)(e:Fz T s):eV (s.nest T) (s.bracket T sub).1:=by
 have h1:Goes T s (s.nest T):=jr 6 h;have i:Fz T (s.nest T):=e.MI 6;have a:=gb T [aX 40] (s.nest T) h1.2.2;have z2:Fz T (((s.nest T).aK T [aX 40]).hE):=i.aK h1.2.2 _;have f:eV (s.nest T) (((s.nest T).aK T [aX 40]).hE):=bm T _ _;have b:=c (((s.nest T).aK T [aX 40]).hE) a.1.2.2 z2;have g:eV (((s.nest T).aK T [aX 40]).hE) ((sub (((s.nest T).aK T [aX 40]).hE)).1.gC):=b.2;have _:=d;exact(f.trans g).trans (bm T _ _)
theorem Iw{T:ai}{aa:List ai}{n:Nat}{s:RS}{p:PS}{a:RS->RS×Rx}{aV:PS->PS×Px}(w:bN T aV)(i:dQ T aV)(U:∀m,n=m+1->oN T aa m a aV)(h:Ez T aa n s p)(e:p.tk T=[40]):Ez T aa n (s.atom T a).1 (p.atom T aa aV).1\/hD T (s.atom T a).1 (p.atom T aa aV).1:=by
 obtain⟨h0,I,l,J,K,O,X⟩:=h;have f:=cT h0;have V:=dK h0;have Q:=hN h0;have j:=kZ h0;have hi:p.isAtom T=true:=by unfold PS.isAtom;rw[bk,e];simp
 have B:p.aQ T=p:=by unfold PS.aQ;rw[hi];rfl
 have A:(p.atom T aa aV).1=(p.bracket T aV).1:=by unfold PS.atom;rw[B,bk,e];simp
 have M:=(wW T aV w i p f j).1;rw[A];unfold RS.atom;rw[ag (by rw[V];exact e)]
 by_cases d:s.nest=4
 ·right;rw[ag d];have hb:=en (T:=T) (s:=s.take T) h0.1 h0.2.1 6 (by decide) (s.pos T:Int) Q;have g:p.nest T=p.fail T 6:=by unfold PS.nest;rw[ag (by rw[l];exact d)]
  have x:=r6 T aV w i p f j;rw[g]at x;exact dj hb rfl rfl x M
 ·rw[ae d];obtain⟨m,N⟩:∃m,n=m+1:=⟨n-1,by omega⟩;have g:p.nest T=p:=by unfold PS.nest;rw[ae (by rw[l];exact d)]
  have y:(p.nest T).aK T [aX 40]=p.step T:=by rw[g];unfold PS.aK;rw[bk,e];simp
  have H:Ez T aa m { s.take T with nest:=s.nest+1 } (p.step T).hE:=by
   refine⟨et h0,I,?_,J,K,O,?_⟩
   ·show p.k+1=s.nest+1;rw[l]
   ·show s.nest+1+(m:Int)=4;omega
  have t:=U m N _ _ H;have z:(p.bracket T aV).1=((aV ((p.step T).hE)).1.gC).aK T [aX 41]:=by unfold PS.bracket;simp only;rw[y]
  rw[z];obtain⟨r,S⟩:∃r,r=(a { s.take T with nest:=s.nest+1 }).1:=⟨_,rfl⟩;obtain⟨q,v⟩:∃q,q=(aV ((p.step T).hE)).1:=⟨_,rfl⟩;show Ez T aa n ((a { s.take T with nest:=s.nest+1 }).1.eg T) _\/hD T ((a { s.take T with nest:=s.nest+1 }).1.eg T) _;rw[<- S,<- v]at t ⊢;have R:Fz T q:=by rw[v];exact(i (p.step T).hE (cx T p.p f).1 (j.step f)).1
  rcases t with⟨g0,D,gk,E,F,G,W⟩|hb|u
  ·have C:mq T { r with nest:=r.nest-1 } q.gC:=g0;have c:r.eg T=({ r with nest:=r.nest-1 }:RS).want T [41]:=by unfold RS.eg;simp only;rw[ag g0.1]
   rw[c];rcases mP C 41 with⟨_,b,w3⟩|⟨_,w3⟩
   ·left;have o:=pw T [aX 41] q.gC;refine⟨w3,?_,?_,?_,?_,?_,?_⟩
    ·rw[o.1,b];exact D
    ·rw[o.2,b];show q.k-1=r.nest-1;rw[gk]
    ·rw[b];exact E
    ·rw[b];exact F
    ·rw[b];exact G
    ·rw[b];show r.nest-1+(n:Int)=4;omega
   ·right;exact w3
  ·right;have c:r.eg T={ r with nest:=r.nest-1 }:=by unfold RS.eg;simp only;rw[ae hb.1]
   rw[c];have L:hD T { r with nest:=r.nest-1 } q.gC:=hb;exact dj L rfl rfl (bm T _ _) ((show Fz T q.gC from R).aK (by show q.p<=T.size;rw[hb.2.2.2];omega) _)
  ·right;have c:r.eg T={ r with nest:=r.nest-1 }:=by unfold RS.eg;simp only;rw[ae (by rw[u.1];decide)]
   rw[c];have P:Mv T { r with nest:=r.nest-1 } q.gC:=u;exact(oy P 41).1
theorem L9{T:ai}{aa:List ai}{n:Nat}{s:RS}{p:PS}{a:RS->RS×Rx}{aV:PS->PS×Px}(e:bV aa)(f:bN T aV)(d:dQ T aV)(g:∀m,n=m+1->oN T aa m a aV)(h:Ez T aa n s p):Ez T aa n (s.atom T a).1 (p.atom T aa aV).1\/(hD T (s.atom T a).1 (p.atom T aa aV).1/\(p.isAtom T=false->(s.atom T a).1.err=2/\(s.atom T a).1.place=p.p)):=by
 by_cases b:p.tk T=[40]
 ·rcases Iw f d g h b with h1|h1
  ·exact ah h1
  ·refine ac ⟨h1,fun c=>?_⟩;have hi:p.isAtom T=true:=by unfold PS.isAtom;rw[bk,b];simp
   rw[hi]at c;cases c
 ·exact Ps e h b
theorem wd{T:ai}{aa:List ai}{n:Nat}{s:RS}{p:PS}{a:RS->RS×Rx}{aV:PS->PS×Px}(f:bV aa)(g:bN T aV)(d:dQ T aV)(i:∀m,n=m+1->oN T aa m a aV)(h:Ez T aa n s p):Ez T aa n (s.part T a).1 (PS.di T aa aV p).1\/(hD T (s.part T a).1 (PS.di T aa aV p).1/\(p.isAtom T=false->(s.part T a).1.err=2/\(s.part T a).1.place=p.p)):=by
 rcases L9 f g d i h with h1|⟨h1,c⟩
 ·left;have e:s.part T a=RS.suffix T (s.atom T a).1 (s.atom T a).2:=by unfold RS.part;rw[ae (by rw[h1.1.1];simp)]
  have j:=dK h1.1;have step:Ez T aa n (((s.atom T a).1.aH T).take T) ((p.atom T aa aV).1.step T):=⟨et (eu h1.1),h1.2.1,h1.2.2.1,h1.2.2.2.1,h1.2.2.2.2.1,h1.2.2.2.2.2.1,h1.2.2.2.2.2.2⟩;rw[e];unfold RS.suffix PS.di PS.gu;simp only;rw[j];split
  ·exact step
  ·split
   ·exact step
   ·split
    ·exact step
    ·exact⟨eu h1.1,h1.2⟩
 ·right;have e:s.part T a=s.atom T a:=by unfold RS.part;rw[ag h1.1]
  have b:PS.di T aa aV p=p.atom T aa aV:=by
   unfold PS.di PS.gu;rw[l8 h1];rw[ae (by decide),ae (by decide),ae (by decide)]
  rw[e,b];exact⟨h1,c⟩
theorem wF{T:ai}{p:PS}(h:p.p=T.size):p.isAtom T=false:=by
 cases a:p.isAtom T with
 | false=>rfl
 | true=>have:=lv (by omega) a;omega
theorem B9{T:ai}(p:PS)(a:p.p<=T.size):RS.mT (p.tk T)=(decide (p.tk T=[40])||eI T p.p):=by
 have b:=x9 T p.p a;unfold RS.mT;congr 1;rw[kv,b];simp;rfl
theorem Pd{T:ai}{aa:List ai}{n:Nat}{b:RS->RS×Rx}{aV:PS->PS×Px}(x:bV aa)(q:bN T aV)(w:dQ T aV)(z:∀m,n=m+1->oN T aa m b aV):∀(g:Nat) (s:RS) (e:Rx) (p:PS) (l:List Px) (a:Nat),(Ez T aa n s p/\T.size<p.p+g/\T.size<p.p+a)\/hD T s p->Rz T aa n (RS.cS T b g s e).1 (PS.cS T (PS.di T aa aV) a p l).1:=by
 intro g
 induction g with
 | zero =>
  intro s e p l a h;rcases h with⟨h,h1,_⟩|hb
  ·have:=cT h.1;omega
  ·have c:(PS.cS T (PS.di T aa aV) a p l).1=p:=by
    cases a with
    | zero=>rfl
    | succ a=>rw[PS.cS,wF hb.2.2.2];rfl
   rw[c];exact ac (ah hb)
 | succ g A =>
  intro s e p l a h;rcases h with⟨h,h1,N⟩|hb
  ·have j:=cT h.1;have J:=dK h.1;obtain⟨u,rfl⟩:∃u,a=u+1:=⟨a-1,by omega⟩;rw[RS.cS,ae (by rw[h.1.1];simp),PS.cS,J,B9 p j];have o:Ez T aa n (s.aH T) p:=⟨eu h.1,h.2⟩;cases hi:p.isAtom T
   ·have H:p.tk T≠[40]:=by
     intro e;unfold PS.isAtom at hi;rw[bk,e]at hi;simp at hi
    cases r:eI T p.p
    ·simp only[H,decide_false,Bool.or_false,la,fi];exact ah o
    ·simp only[Bool.or_true,de,la,fi];have F:bH [ct,eP,cJ] (p.tk T)=true:=by
      unfold PS.isAtom at hi;rw[r]at hi;simp at hi;exact hi.2
     have k:p.p<T.size:=by
      unfold eI at r;simp at r;omega
     rcases wd x q w z o with i|⟨d,I⟩
     ·exfalso;have B:(PS.di T aa aV p).1.f≠0:=by
       have C:p.aQ T=p.fail T 2:=by unfold PS.aQ;rw[hi];rfl
       have v:(p.fail T 2).f≠0:=by
        show pf p.f 2≠0;unfold pf;rw[ag h.1.2.1];decide
       have E:(p.fail T 2).tk T=[]:=hH T;have t:p.atom T aa aV=(p.fail T 2).one T aa:=by unfold PS.atom;rw[C,bk,E];rfl
       have L:=tm T aa (p.fail T 2);have K:=(show Fz T (p.fail T 2) from Fz.CN p 2).one (aa:=aa) (by show T.size<=T.size;omega);have M:=(m7 T (p.fail T 2) (p.atom T aa aV) (by rw[t];exact(tL T aa _ (by show T.size<=T.size;omega)).1.2.2) (by rw[t];exact⟨K,L⟩)).2;have:=(M v).1;unfold PS.di;rw[this];exact v
      exact B i.1.2.1
     ·have y:=I hi;right;right;have D:(RS.cS T b g ((s.aH T).part T b).1 (iT e ((s.aH T).part T b).2)).1=((s.aH T).part T b).1:=by
       cases g with
       | zero=>rfl
       | succ g=>rw[RS.cS,ag d.1]
      rw[D];exact⟨y.1,h.1.2.1,y.2,k,F⟩
   ·have G:(decide (p.tk T=[40])||eI T p.p)=true:=by
     unfold PS.isAtom at hi;rw[bk]at hi;simp at hi ⊢;rcases hi with h|h
     ·exact ah h
     ·exact ac h.1
    rw[G];simp only[de];have k:=lv j hi;have O:=(dw T aa aV q p j).2.2.2 k;rcases wd x q w z o with i|⟨d,_⟩
    ·exact A _ _ _ _ _ (ah ⟨i,by omega,by omega⟩)
    ·exact A _ _ _ _ _ (ac d)
  ·have c:(PS.cS T (PS.di T aa aV) a p l).1=p:=by
    cases a with
    | zero=>rfl
    | succ a=>rw[PS.cS,wF hb.2.2.2];rfl
   rw[c,RS.cS,ag hb.1];exact ac (ah hb)
theorem h8{T:ai}{aa:List ai}{n:Nat}{s:RS}{p:PS}{e:RS->RS×Rx}{aV:PS->PS×Px}(c:bV aa)(a:bN T aV)(b:dQ T aV)(d:∀m,n=m+1->oN T aa m e aV)(h:Ez T aa n s p):Rz T aa n (s.row T e).1 (PS.iT T (PS.di T aa aV) p).1:=by
 have i:=cT h.1;have hg:=dw T aa aV a p i;unfold RS.row PS.iT;simp only;refine Pd c a b d _ _ _ _ _ _ ?_;rcases wd c a b d h with g|⟨f,_⟩
 ·exact ah ⟨g,by omega,by omega⟩
 ·exact ac f
theorem N0{T:ai}{aa:List ai}{n:Nat}{j:RS->RS×Rx}{aV:PS->PS×Px}(t:bV aa)(i:bN T aV)(q:dQ T aV)(v:∀m,n=m+1->oN T aa m j aV):∀(g:Nat) (s:RS) (e:Rx) (p:PS) (l:List Px) (a:Nat),p.p<=T.size->Rz T aa n s p->T.size<p.p+g->T.size<p.p+a->Rz T aa n (RS.bo T j g s e).1 (PS.bo T (PS.iT T (PS.di T aa aV)) a p l).1:=by
 intro g
 induction g with
 | zero=>intro s e p l a c h h1 _;omega
 | succ g x =>
  intro s e p l a c h h1 y;obtain⟨f,rfl⟩:∃f,a=f+1:=⟨a-1,by omega⟩;rcases h with h|hb|d
  ·have w:=dK h.1;rw[RS.bo,ae (by rw[h.1.1];simp),PS.bo,w]
   by_cases b:p.tk T=[47]
   ·rw[ag b,ag b];have r:=o0 c b;have u:=cx T p.p c;have A:(p.step T).p=hq T p.p:=rfl;have z:=u.2.2 r;have k:Ez T aa n ((s.aH T).take T) (p.step T):=⟨et (eu h.1),h.2⟩;have o:=h8 t i q v k;have hg:=good_row T _ (dw T aa aV i) (p.step T) (by omega);exact x _ _ _ _ _ hg.2.2.1 o (by omega) (by omega)
   ·rw[ae b,ae b];exact ah ⟨eu h.1,h.2⟩
  ·rw[RS.bo,ag hb.1,PS.bo,ae (by rw[l8 hb];decide)];exact ac (ah hb)
  ·rw[RS.bo,ag (by rw[d.1];decide),PS.bo,ae (oy d 47).2];exact ac (ac d)
theorem Gi{T:ai}{aa:List ai}{n:Nat}{s:RS}{p:PS}{e:RS->RS×Rx}{aV:PS->PS×Px}(c:bV aa)(a:bN T aV)(b:dQ T aV)(d:∀m,n=m+1->oN T aa m e aV)(h:Ez T aa n s p):Rz T aa n (RS.fK T e s).1 (PS.w5 T aa aV p).1:=by
 have f:=cT h.1;have hg:=good_row T _ (dw T aa aV a) p f;unfold RS.fK PS.w5 PS.rK;simp only;exact N0 c a b d _ _ _ _ _ _ hg.2.2.1 (h8 c a b d h) (by omega) (by omega)
theorem EI{T:ai}{aa:List ai}(a:bV aa):∀n,oN T aa n (RS.expr T n) (PS.expr T aa (n+1)):=by
 intro n
 induction n with
 | zero =>
  intro s p h;exact Gi a (ch T aa 0) (kO T aa 0) (fun m b=>by omega) h
 | succ n d =>
  intro s p h;have c:∀m,n+1=m+1->oN T aa m (RS.expr T n) (PS.expr T aa (n+1)):=by
   intro m b;have e:m=n:=by omega
   subst e;exact d
  exact Gi a (ch T aa (n+1)) (kO T aa (n+1)) c h
theorem DQ{T:ai}{aa:List ai}{s:RS}{p:PS}(l:bV aa)(c:UInt8)(h:mq T s p)(i:s.aa=aa)(h0:s.nest=0):(mq T (s.side T [c]).1 ((p.side T aa (aX c)).1.aK T [aX c])/\(s.side T [c]).1.aa=aa/\(s.side T [c]).1.nest=0)\/hD T (s.side T [c]).1 ((p.side T aa (aX c)).1.aK T [aX c]):=by
 have k:=cT h;have h1:mq T (({ s with atoms:=0 }:RS).aH T) p:=eu (s:={ s with atoms:=0 }) h;have o:=dK h1;unfold RS.side PS.side;simp only;rw[o,bk]
 by_cases e:p.tk T=[c]
 ·rw[ag e,ag (by simpa using e)];simp only;have a:RS.hC T (({ s with atoms:=0 }:RS).aH T) [c]=(({ s with atoms:=0 }:RS).aH T).want T [c]:=by unfold RS.hC;rw[ag h1.1]
  rw[a];rcases mP h1 c with⟨_,d,w3⟩|⟨_,w3⟩
  ·left;exact⟨w3,by rw[d];exact i,by rw[d];exact h0⟩
  ·right;exact w3
 ·rw[ae e,ae (by simpa using e)];simp only;have b:Ez T aa 4 (({ s with atoms:=0 }:RS).aH T) p.zero:=⟨h1,rfl,by show (0:Int)=s.nest;rw[h0],by show (0:Int)<=0;omega,by show (0:Int)<=4;omega,i,by show s.nest+4=4;omega⟩;have f:=EI l 4 _ _ b;obtain⟨r,n⟩:∃r,r=(RS.expr T 4 (({ s with atoms:=0 }:RS).aH T)).1:=⟨_,rfl⟩;obtain⟨q,g⟩:∃q,q=(PS.expr T aa 5 p.zero).1:=⟨_,rfl⟩;have m:Fz T q:=by rw[g];exact(kO T aa 5 p.zero k (kZ h)).1
  rw[<- n]at f ⊢;rw[show PS.expr T aa (4+1) p.zero=PS.expr T aa 5 p.zero from rfl,<- g]at f;rw[<- g];rcases f with b|hb|j
  ·have a:RS.hC T r [c]=r.want T [c]:=by unfold RS.hC;rw[ag b.1.1]
   rw[a];rcases mP b.1 c with⟨_,d,w3⟩|⟨_,w3⟩
   ·left;exact⟨w3,by rw[d];exact b.2.2.2.2.2.1,by rw[d];show r.nest=0;have:=b.2.2.2.2.2.2;omega⟩
   ·right;exact w3
  ·right;have a:RS.hC T r [c]=r:=by unfold RS.hC;rw[ae hb.1]
   rw[a];exact dj hb rfl rfl (bm T _ _) (m.aK (by rw[hb.2.2.2];omega) _)
  ·right;have a:RS.hC T r [c]=r:=by unfold RS.hC;rw[ae (by rw[j.1];decide)]
   rw[a];exact(oy j c).1
theorem JQ{T:ai}{aa:List ai}{s:RS}{p:PS}{n:Nat}(j:bV aa)(h:mq T s p)(y:s.aa=aa)(h0:s.nest=0)(x:bH [eP,cJ] (p.tk T)=true)(v:s.L.length=n):(mq T (s.ep T) (p.ep T aa n)/\(s.ep T).aa=aa/\(s.ep T).nest=0/\(s.ep T).L.length=n+1)\/hD T (s.ep T) (p.ep T aa n):=by
 have i:=cT h;have g:=kZ h;have k:=ie T aa n p i g;unfold RS.ep;simp only
 by_cases f:n=4
 ·rw[ag (by show s.L.length=4;omega)];right;have hb:=en (T:=T) (s:=s.take T) h.1 h.2.1 6 (by decide) (s.pos T:Int) (hN h);have c:p.dm T n=p.fail T 6:=by unfold PS.dm;rw[ag f]
  have z:Fz T (p.dm T n):=g.MI 6;have l:(p.dm T n).p<=T.size:=(D8 i 6).1;have z2:=z.aK l [eP,cJ];have m:=(kd l [eP,cJ]).1;have f3:=l2 T aa (aX 124) _ m z2;have o:=(nE T aa (aX 124) _ m).2;have z4:=f3.1.aK o [aX 124];have p4:=(kd o [aX 124]).1;have f5:=l2 T aa (aX 59) _ p4 z4;have b:eV (p.dm T n) (p.ep T aa n):=((((bm T _ _).trans f3.2).trans (bm T _ _)).trans f5.2).trans (bm T _ _);rw[c]at b;exact dj hb rfl rfl b k.1
 ·rw[ae (by show ¬s.L.length=4;omega)];have c:(p.dm T n).aK T [eP,cJ]=p.step T:=by
   have:p.dm T n=p:=by unfold PS.dm;rw[ae f]
   rw[this];unfold PS.aK;rw[x];rfl
  have h1:=et h;have t:=DQ j 124 h1 y h0;have e:(p.iB T aa n).1.aK T [aX 124]=((p.step T).side T aa (aX 124)).1.aK T [aX 124]:=by unfold PS.iB;rw[c]
  rcases t with⟨d,a2,a3⟩|a
  ·rw[ag d.1];have u:=DQ j 59 d a2 a3;have r:p.ep T aa n=((((p.step T).side T aa (aX 124)).1.aK T [aX 124]).side T aa (aX 59)).1.aK T [aX 59]:=by unfold PS.ep PS.lo;rw[e]
   rw[r];rcases u with⟨b1,b2,b3⟩|q
   ·left;refine⟨b1,b2,b3,?_⟩;show ((((s.take T).side T [124]).1.side T [59]).1.L++_).length=n+1;rw[aF,qe,qe];show s.L.length+_=_;rw[v];rfl
   ·right;exact q
  ·right;rw[ae a.1];have w:hD T { ((s.take T).side T [124]).1 with L:=((s.take T).side T [124]).1.L++[(decide (s.tk T=[99,117,116]),((s.take T).side T [124]).2,dp)] } (((p.step T).side T aa (aX 124)).1.aK T [aX 124]):=a;have f5:=l2 T aa (aX 59) (((p.step T).side T aa (aX 124)).1.aK T [aX 124]) (by rw[a.2.2.2];omega) (pL a);have b:eV (((p.step T).side T aa (aX 124)).1.aK T [aX 124]) (p.ep T aa n):=by
    unfold PS.ep PS.lo;rw[e];exact f5.2.trans (bm T _ _)
   exact dj w rfl rfl b k.1
def Qi(T:ai)(s:RS)(p:PS):Prop:=(s.err=0/\s.place=0/\p.f=0)\/hD T s p
theorem ig{T:ai}{s:RS}(h:s.err≠0)(g:Nat):RS.cW T g s=s:=by
 cases g with
 | zero=>rfl
 | succ g=>rw[RS.cW,ag h]
theorem xg(l:List UInt8):bH [eP,cJ] l=true↔(l=[99,117,116]\/l=[106,111,105,110]):=by
 rw[fU];unfold eP cJ;simp only[aT,hh,g6];constructor
 ·rintro⟨x,(rfl|rfl),a⟩<;>rw[bM]at a<;>simp[<- a]
 ·rintro(h|h)
  ·exact⟨_,ah rfl,by rw[bM];exact h.symm⟩
  ·exact⟨_,ac rfl,by rw[bM];exact h.symm⟩
theorem Gk{T:ai}{s:RS}{p:PS}{aa:List ai}(h:hD T s p)(a:Nat)(b:List bw):hD T s (dk T (gs T aa a p b).1):=by
 have c:(gs T aa a p b).1=p:=by
  cases a with
  | zero=>rfl
  | succ a=>rw[gs,ae (by rw[xg,l8 h];simp)]
 have d:dk T p=p:=by unfold dk;rw[ag h.2.2.2]
 rw[c,d];exact h
theorem vz{T:ai}{p:PS}(a:p.p<=T.size):p.tk T=[]↔p.p=T.size:=by
 constructor
 ·intro h;rcases cF p.p T.size with h1|h1
  ·exact absurd h (p6 h1).1
  ·omega
 ·intro h;unfold PS.tk;rw[h];exact hH T
theorem Ni{T:ai}{aa:List ai}(r:bV aa):∀(g:Nat) (s:RS) (p:PS) (c:List bw) (a:Nat),mq T s p->s.aa=aa->s.nest=0->s.L.length=c.length->(p.tk T=[99,108,97,115,115]->s.L.length≠0)->T.size<p.p+g->T.size<p.p+a ->Qi T (RS.cW T g s) (dk T (gs T aa a p c).1):=by
 intro g
 induction g with
 | zero=>intro s p c a h _ _ _ _ hg;have:=cT h;omega
 | succ g w =>
  intro s p c a h q h0 n hc hg y;have i:=cT h;have v:=dK h;have t:=eu h;obtain⟨l,rfl⟩:∃l,a=l+1:=⟨a-1,by omega⟩;rw[RS.cW,ae (by rw[h.1];simp)];simp only;rw[v,ae (fun b=>hc b.1 b.2),gs]
  by_cases f:p.tk T=[99,117,116]\/p.tk T=[106,111,105,110]
  ·have d:=(xg (p.tk T)).2 f;rw[ag f,ag d];have o:=qr i Gs d;have u:=ie T aa c.length p i (kZ h);have x:=u.2.2.2.2 o;rcases JQ r t q h0 d n with⟨m,a2,a3,a4⟩|k
   ·exact w _ _ _ _ m a2 a3 (by rw[a4,aF];rfl) (fun _=>by rw[a4];omega) (by omega) (by omega)
   ·right;rw[ig k.1];exact Gk k _ _
  ·have d:¬bH [eP,cJ] (p.tk T)=true:=fun b=>f ((xg _).1 b)
   rw[ae f,ae d]
   by_cases e:p.tk T=[]
   ·rw[ag e];have j:dk T p=p:=by unfold dk;rw[ag ((vz i).1 e)]
    show Qi T (s.aH T) (dk T p);rw[j];exact ah ⟨h.1,h.2.2.2.2,h.2.1⟩
   ·rw[ae e];have hb:=en (T:=T) (s:=s.aH T) h.1 h.2.1 2 (by decide) (s.pos T:Int) (hN h);rw[ig hb.1];have j:dk T p=p.fail T 2:=by unfold dk;rw[ae (fun b=>e ((vz i).2 b))]
    right;show hD T _ (dk T p);rw[j];exact hb
theorem wY(s:RS)(e p:Int):(s.fail e p).L=s.L/\(s.fail e p).nest=s.nest:=⟨(bu s e p).2.2.1,(bu s e p).2.2.2.2.2⟩
theorem y2(s:RS)(a b q:Int):(s.bR a b q).L=s.L/\(s.bR a b q).nest=s.nest:=by
 unfold RS.bR;simp only;split
 ·exact wY s 5 q
 ·exact⟨rfl,rfl⟩
theorem O7(T:ai)(s:RS):(s.span T).L=s.L/\(s.span T).nest=s.nest:=by
 have h1:=fW T s;unfold RS.span;simp only;split
 ·have b:=fW T (((s.hex T).aH T).take T);have a:=y2 ((((s.hex T).aH T).take T).hex T) (RS.fX (s.tk T)) (RS.fX ((((s.hex T).aH T).take T).tk T)) ((((s.hex T).aH T).take T).pos T);exact⟨a.1.trans (b.2.2.1.trans h1.2.2.1),a.2.trans (b.2.2.2.2.2.trans h1.2.2.2.2.2)⟩
 ·have a:=y2 ((s.hex T).aH T) (RS.fX (s.tk T)) (RS.fX (s.tk T)) (s.pos T);exact⟨a.1.trans h1.2.2.1,a.2.trans h1.2.2.2.2.2⟩
theorem Bx(T:ai):∀(g:Nat) (s:RS),(RS.aM T g s).L=s.L/\(RS.aM T g s).nest=s.nest:=by
 intro g
 induction g with
 | zero=>intro s;exact⟨rfl,rfl⟩
 | succ g b =>
  intro s;have h1:=O7 T s;rw[RS.aM];split
  ·exact⟨rfl,rfl⟩
  ·simp only;split
   ·exact h1
   ·split
    ·exact h1
    ·split
     ·have:=b ((s.span T).take T);exact⟨this.1.trans h1.1,this.2.trans h1.2⟩
     ·have:=b (((s.span T).take T).fail 2 ((s.span T).pos T));have a:=wY ((s.span T).take T) 2 ((s.span T).pos T);exact⟨this.1.trans (a.1.trans h1.1),this.2.trans (a.2.trans h1.2)⟩
def RS.PW(T:ai)(s2:RS)(b:Bool)(q:Int)(i:ai)(l:List UInt8):RS :=
 let d:=if b=true then s2 else s2.fail 2 q
 let h:=if 0<=ba d.aa l then d.fail 4 q else d
 let g:={ h with aa:=h.aa++[i] }
 let j:=if g.err=0 then g.want T [61]else g
 RS.aM T (T.size+2) j
theorem PV(T:ai)(a:RS):(RS.aM T (T.size+2) (if a.err=0 then a.want T [61]else a)).L=a.L/\(RS.aM T (T.size+2) (if a.err=0 then a.want T [61]else a)).nest=a.nest:=by
 split
 ·have c:=gl T a [61];have b:=Bx T (T.size+2) (a.want T [61]);exact⟨b.1.trans c.2.2.1,b.2.trans c.2.2.2.2.2⟩
 ·exact Bx T (T.size+2) a
theorem PT(T:ai)(s2:RS)(b:Bool)(q:Int)(d:ai)(l:List UInt8):(RS.PW T s2 b q d l).L=s2.L/\(RS.PW T s2 b q d l).nest=s2.nest:=by
 have i:∀a:RS,a=(if b=true then s2 else s2.fail 2 q)->a.L=s2.L/\a.nest=s2.nest:=by
  intro a e;rw[e];split
  ·exact⟨rfl,rfl⟩
  ·exact wY s2 2 q
 have j:∀a c:RS,a.L=s2.L/\a.nest=s2.nest->c=(if 0<=ba a.aa l then a.fail 4 q else a)->c.L=s2.L/\c.nest=s2.nest:=by
  intro a c h e;rw[e];split
  ·have:=wY a 4 q;exact⟨this.1.trans h.1,this.2.trans h.2⟩
  ·exact h
 have f:=j _ _ (i _ rfl) rfl;have g:=PV T { (if 0<=ba (if b=true then s2 else s2.fail 2 q).aa l then (if b=true then s2 else s2.fail 2 q).fail 4 q else (if b=true then s2 else s2.fail 2 q))with aa:=(if 0<=ba (if b=true then s2 else s2.fail 2 q).aa l then (if b=true then s2 else s2.fail 2 q).fail 4 q else (if b=true then s2 else s2.fail 2 q)).aa++[d] };exact⟨g.1.trans f.1,g.2.trans f.2⟩
theorem xf(T:ai)(s:RS):s.bE T=if (s.take T).aa.length=6 then (s.take T).fail 6 (s.pos T)else RS.PW T ((s.take T).take T) (ew ((s.take T).tk T)) ((s.take T).pos T) (tok T (s.take T).at_) ((s.take T).tk T):=rfl
theorem yU(T:ai)(s:RS):(s.bE T).L=s.L/\(s.bE T).nest=s.nest:=by
 rw[xf];split
 ·exact wY (s.take T) 6 _
 ·exact PT T ((s.take T).take T) _ _ _ _
theorem Il{T:ai}:∀(g:Nat) (s:RS) (p:PS) (l:List (Int×Int×Nat)) (a:Nat),mq T s p->bV s.aa->s.ay=ln l->s.nest=0->s.L=[]->T.size<p.p+g->T.size<p.p+a ->Qi T (RS.cW T g s) (dk T (gs T (db T a ⟨p,s.aa,l⟩).aa (T.size+1) (db T a ⟨p,s.aa,l⟩).s []).1):=by
 intro g
 induction g with
 | zero=>intro s p l a h _ _ _ _ hg;have:=cT h;omega
 | succ g x =>
  intro s p l a h n v h0 e hg z;have m:=cT h;have w:=dK h;have u:=eu h;obtain⟨b,rfl⟩:∃b,a=b+1:=⟨a-1,by omega⟩
  by_cases c:bH [ct] (p.tk T)=true
  ·have r:=oL c;rw[db,ag c,RS.cW,ae (by rw[h.1];simp)];simp only;rw[w,ag ⟨r,by show s.L.length=0;rw[e];rfl⟩];have t:=qr m AC c;have q:=pJ T s.aa l p (kZ h) m;have y:=q.2.2 t;have k:=yU T (s.aH T);rcases Gr u v c n with⟨o,a2,a3,a4⟩|i
   ·have:=x ((s.aH T).bE T) (p.dG T s.aa l) (p.fD T s.aa l).2 b o a4 a2 (by rw[k.2];exact h0) (by rw[k.1];exact e) (by omega) (by omega);rw[a3]at this;exact this
   ·right;rw[ig i.1];have j:hD T ((s.aH T).bE T) (p.dG T s.aa l):=i;have d:db T b ⟨p.dG T s.aa l,s.aa++[eM T s.aa p],(p.fD T s.aa l).2⟩=⟨p.dG T s.aa l,s.aa++[eM T s.aa p],(p.fD T s.aa l).2⟩:=by
     cases b with
     | zero=>rfl
     | succ g=>rw[db,ae (by
       intro f;have:=oL (p:=p.dG T s.aa l) f;rw[l8 j]at this;cases this)]
    rw[d];exact Gk j _ _
  ·have d:db T (b+1) ⟨p,s.aa,l⟩=⟨p,s.aa,l⟩:=by rw[db,ae c]
   rw[d];refine Ni n (g+1) s p [] (T.size+1) h rfl h0 (by rw[e];rfl) (fun f=>?_) hg (by omega);exfalso;apply c;rw[fU];exact⟨ct,by simp,by unfold ct;rw[bM];exact f.symm⟩
theorem J0(T:ai)(g:T.size<=1000):(ed T).f=(RS.read T).err/\((RS.read T).err=0->(RS.read T).place=0)/\((RS.read T).err≠0->(ed T).pl=(RS.read T).place):=by
 have h0:mq T RS.start (ji T).s:=⟨rfl,rfl,rfl,aJ _,rfl⟩;have h:=Il (T:=T) (T.size+2) RS.start (ji T).s [] (T.size+1) h0 (fun x e=>by simp[RS.start]at e) rfl rfl rfl (by omega) (by omega);have c:RS.read T=RS.cW T (T.size+2) RS.start:=by unfold RS.read;rw[ae (by omega)]
 have d:ed T=dk T (gs T (db T (T.size+1) ⟨(ji T).s,RS.start.aa,[]⟩).aa (T.size+1) (db T (T.size+1) ⟨(ji T).s,RS.start.aa,[]⟩).s []).1:=rfl;rw[<- c,<- d]at h;rcases h with⟨b,a2,a3⟩|hb
 ·exact⟨by rw[b,a3],fun _=>a2,fun a=>absurd b a⟩
 ·exact⟨hb.2.1,fun a=>absurd a hb.1,fun _=>hb.2.2.1⟩
open Go.Maps
def wb(a k:Nat):Nat:=if k=6 then a else if k=7 then a+1 else k
def E6(b:Nat)(a:List Nat):Prop:=∀k∈a,k<b\/k=6\/k=7
def Sm(b D:Nat)(x:Px)(t:Tr):Prop:=∀d,D<=d->∀a,E6 b a->(mS d x a↔t.Mt (a.map (wb b)))
def MM(b D:Nat)(l:List Px)(t:Tr):Prop:=∀d,D<=d->∀a,E6 b a->(He (l.map (mS d)) a↔t.Mt (a.map (wb b)))
def MN(b D:Nat)(l:List Px)(t:Tr):Prop:=∀d,D<=d->∀a,E6 b a->((∃y∈l,mS d y a)↔t.Mt (a.map (wb b)))
theorem E6.app{g:Nat}{u v:List Nat}(h:E6 g (u++v)):E6 g u/\E6 g v:=⟨fun k d=>h k (gi _ d),fun k d=>h k (h5 _ d)⟩
theorem Sm.up{g D E:Nat}{x:Px}{t:Tr}(h:Sm g D x t)(i:D<=E):Sm g E x t:=fun d hd=>h d (by omega)
theorem vu(t:Tr)(w:List Nat):(Tr.many t).Mt w↔Tr.n2 t.Mt w:=by
 have one:∀P:List Nat->Prop,(∀u,P u->u=[])->(w=[]↔Tr.n2 P w):=by
  intro P d;constructor
  ·intro h;rw[h];exact Tr.n2.nil
  ·intro h
   induction h with
   | nil=>rfl
   | cons u v hu _ b=>rw[d u hu,b];rfl
 cases t with
 | z=>exact one _ (fun u h=>h.elim)
 | e=>exact one _ (fun u h=>h)
 | m p =>
  clear one;show Tr.n2 p.Mt w↔Tr.n2 (Tr.n2 p.Mt) w;constructor
  ·intro h;have:=Tr.n2.cons (P:=Tr.n2 p.Mt) w [] h Tr.n2.nil;simpa using this
  ·intro h
   induction h with
   | nil=>exact Tr.n2.nil
   | cons u v hu _ b =>
    induction hu with
    | nil=>simpa using b
    | cons u1 g h1 _ f=>rw[eG];exact Tr.n2.cons u1 _ h1 f
 | c n=>exact Iff.rfl
 | s p q=>exact Iff.rfl
 | a p q=>exact Iff.rfl
theorem Bi{d:Nat}{P Q:List Nat->Prop}(h:∀c,E6 d c->(P c↔Q (c.map (wb d)))){c:List Nat}(e:E6 d c):Tr.n2 P c↔Tr.n2 Q (c.map (wb d)):=by
 constructor
 ·intro f
  induction f with
  | nil=>exact Tr.n2.nil
  | cons u v hu _ i =>
   rw[c9];exact Tr.n2.cons _ _ ((h u e.app.1).1 hu) (i e.app.2)
 ·intro f;generalize g:c.map (wb d)=j at f
  induction f generalizing c with
  | nil=>simp at g;rw[g];exact Tr.n2.nil
  | cons u v hu _ i =>
   obtain⟨a,b,rfl,rfl,rfl⟩:=List.map_eq_append_iff.1 g;exact Tr.n2.cons a b ((h a e.app.1).2 hu) (i e.app.2 rfl)
theorem A3{d:Nat}{P i Q Q':List Nat->Prop}(h:∀c,E6 d c->(P c↔Q (c.map (wb d))))(j:∀c,E6 d c->(i c↔Q' (c.map (wb d)))){c:List Nat}(f:E6 d c):(∃u v,c=u++v/\P u/\i v)↔∃u v,c.map (wb d)=u++v/\Q u/\Q' v:=by
 constructor
 ·rintro⟨u,v,rfl,hu,g⟩;exact⟨_,_,c9,(h u f.app.1).1 hu,(j v f.app.2).1 g⟩
 ·rintro⟨u,v,e,hu,g⟩;obtain⟨a,b,rfl,rfl,rfl⟩:=List.map_eq_append_iff.1 e;exact⟨a,b,rfl,(h a f.app.1).2 hu,(j b f.app.2).2 g⟩
theorem Sm.star{g D:Nat}{x:Px}{t:Tr}(h:Sm g D x t):Sm g (D+1) (q7 x) (Tr.many t):=by
 intro d hd j i;obtain⟨d,rfl⟩:∃e,d=e+1:=⟨d-1,by omega⟩;rw[px (x:=q7 x) (y:=x) (show (3:Nat)≠0 by decide) (show (3:Nat)≠1 by decide) (show (3:Nat)≠2 by decide) rfl,ag (show (q7 x).what=3 from rfl),vu];exact Bi (h d (by omega)) i
theorem Sm.plus{i D:Nat}{x:Px}{t:Tr}(h:Sm i D x t):Sm i (D+1) (rq x) (Tr.row t (Tr.many t)):=by
 intro d hd j g;obtain⟨d,rfl⟩:∃e,d=e+1:=⟨d-1,by omega⟩;rw[px (x:=rq x) (y:=x) (show (4:Nat)≠0 by decide) (show (4:Nat)≠1 by decide) (show (4:Nat)≠2 by decide) rfl,ae (show ¬(rq x).what=3 from(show ¬(4:Nat)=3 by decide)),Tr.zQ];refine A3 (h d (by omega)) (fun j g=>?_) g;rw[vu];exact Bi (h d (by omega)) g
theorem yr(d:Nat)(w:List Nat):mS d (eA []) w↔w=[]:=by
 cases d with
 | zero=>exact Iff.rfl
 | succ d=>rw[tC (x:=eA []) rfl];exact Iff.rfl
theorem Sm.maybe{i D:Nat}{x:Px}{t:Tr}(h:Sm i D x t)(n:t.ok):Sm i (D+1) (mU x) (Tr.either t .e):=by
 intro d hd g j;obtain⟨d,rfl⟩:∃e,d=e+1:=⟨d-1,by omega⟩;rw[lT (x:=mU x) rfl,Tr.nP n (y:=.e) trivial];have e:(∃y∈(mU x).l,mS d y g)↔mS d x g\/g=[]:=by
  show (∃y∈[x,eA []],mS d y g)↔_;simp only[aT,hh,g6,exists_eq_or_imp,exists_eq_left,yr]
 rw[e,h d (by omega) g j];show _↔_\/g.map (wb i)=[];simp
theorem MM.one{i D:Nat}{x:Px}{t:Tr}(h:Sm i D x t):MM i D [x] t:=by
 intro d hd g j;rw[<- h d hd g j];constructor
 ·rintro⟨u,v,rfl,hu,n⟩;rw[show v=[] from n,mg];exact hu
 ·intro hu;exact⟨g,[],by simp,hu,rfl⟩
theorem Hc(l:List (List Nat->Prop))(P:List Nat->Prop):∀w,He (l++[P]) w↔∃u v,w=u++v/\He l u/\P v:=by
 induction l with
 | nil =>
  intro w;constructor
  ·rintro⟨u,v,rfl,hu,c⟩;exact⟨[],u,by rw[show v=[] from c];simp,rfl,hu⟩
  ·rintro⟨u,v,rfl,hu,c⟩;exact⟨v,[],by rw[show u=[] from hu];simp,c,rfl⟩
 | cons R l e =>
  intro w;constructor
  ·rintro⟨u,v,rfl,hu,c⟩;obtain⟨a,b,rfl,d,hb⟩:=(e v).1 c;exact⟨u++a,b,by simp,⟨u,a,rfl,hu,d⟩,hb⟩
  ·rintro⟨u,v,rfl,⟨a,b,rfl,d,hb⟩,c⟩;exact⟨a,b++v,by simp,d,(e _).2 ⟨b,v,rfl,hb,c⟩⟩
theorem MM.snoc{g D:Nat}{l:List Px}{x:Px}{t i:Tr}(h:MM g D l t)(j:Sm g D x i):MM g D (l++[x]) (Tr.row t i):=by
 intro d hd o n;rw[c9,bS,g7,Hc,Tr.zQ];exact A3 (h d hd) (j d hd) n
theorem MM.row{g D:Nat}{l:List Px}{t:Tr}(h:MM g D l t):Sm g (D+1) (eA l) t:=by
 intro d hd j i;obtain⟨d,rfl⟩:∃e,d=e+1:=⟨d-1,by omega⟩;rw[tC (x:=eA l) rfl];exact h d (by omega) j i
theorem MN.one{g D:Nat}{x:Px}{t:Tr}(h:Sm g D x t):MN g D [x] t:=by
 intro d hd j i;rw[<- h d hd j i];simp
theorem MN.snoc{j D:Nat}{l:List Px}{x:Px}{t n:Tr}(h:MN j D l t)(v:Sm j D x n)(o:t.ok)(w:n.ok):MN j D (l++[x]) (Tr.either t n):=by
 intro d hd u q;rw[Tr.nP o w,<- h d hd u q,<- v d hd u q];constructor
 ·rintro⟨y,g,i⟩;rcases aR.1 g with g|g
  ·exact ah ⟨y,g,i⟩
  ·simp at g;subst g;exact ac i
 ·rintro(⟨y,g,i⟩|i)
  ·exact⟨y,gi _ g,i⟩
  ·exact⟨x,by simp,i⟩
theorem MN.either{j D:Nat}{l:List Px}{t:Tr}(h:MN j D l t):Sm j (D+1) (ff l) t:=by
 intro d hd i g;unfold ff;split
 ·rename_i x;rw[<- h d (by omega) i g];simp
 ·obtain⟨d,rfl⟩:∃e,d=e+1:=⟨d-1,by omega⟩;rw[lT (x:=⟨2,0,l⟩) rfl];exact h d (by omega) i g
theorem yW{aa:List ai}(m:bV aa)(o:aa.length<=6){s:RS}(n:s.aa=aa){l:List UInt8}(k:dR aa l){j:Nat}(r:j<aa.length\/j=6\/j=7):(bn aa l).1.testBit j=(s.b8 l).testBit (wb aa.length j):=by
 have c:∀a b:Nat,(2^a).testBit b=decide (a=b):=fun a b=>Nat.testBit_two_pow
 have g:∀a,a<=7->(decide (a=j)=decide ((if a=6 then aa.length else if a=7 then aa.length+1 else a)=wb aa.length j)\/¬(a<aa.length\/a=6\/a=7)):=by
  intro a p
  by_cases i:a<aa.length\/a=6\/a=7
  ·left;apply decide_eq_decide.2;unfold wb
   (repeat' split)<;>omega
  ·exact ac i
 unfold RS.b8;rw[n]
 by_cases hc:0<=ba aa l
 ·have hb:=pI aa l;have f:=(yq l).1 (CX m hc);have e:(bn aa l).1=2^(ba aa l).toNat:=by
   unfold bn;rw[ae f.2.2.2.2.2.1,ae f.2.2.2.2.2.2.1,ae f.2.2.2.2.2.2.2];show 2^(max (ba aa l) 0).toNat=_;rw[show max (ba aa l) 0=ba aa l by omega]
  rw[e,ag hc,c,c];rcases g (ba aa l).toNat (by omega)with q|q
  ·rw[q,ae (by omega),ae (by omega)]
  ·exact absurd (ah (by omega)) q
 ·rw[ae hc];unfold bn
  by_cases h1:l=[97,110,121]
  ·rw[ag h1,ag h1];show (255:Nat).testBit j=_;rw[show (255:Nat)=2^8-1 from rfl,Nat.testBit_two_pow_sub_one,Nat.testBit_two_pow_sub_one];apply decide_eq_decide.2;unfold wb
   (repeat' split)<;>omega
  ·rw[ae h1,ae h1]
   by_cases d:l=[111,116,104,101,114]
   ·rw[ag d,ag d];show (64:Nat).testBit j=_;rw[show (64:Nat)=2^6 from rfl,c,c];rcases g 6 (by omega)with q|q
    ·rw[q];rfl
    ·exact absurd (ac (ah rfl)) q
   ·rw[ae d,ae d];have h:l=[98,97,100]:=by
     rcases k with q|q|q|q
     ·exact absurd q hc
     ·exact absurd q h1
     ·exact absurd q d
     ·exact q
    rw[ag h,ag h];show (128:Nat).testBit j=_;rw[show (128:Nat)=2^7 from rfl,c,c];rcases g 7 (by omega)with q|q
    ·rw[q];rfl
    ·exact absurd (ac (ac rfl)) q
theorem Cb{aa:List ai}(l:List UInt8):(bn aa l).1≠0:=by
 unfold bn
 (repeat' split)<;>first|decide|exact Nat.ne_of_gt (Nat.pow_pos (by omega))
theorem Sm.atom{aa:List ai}(q:bV aa)(i:aa.length<=6){s:RS}(t:s.aa=aa){l:List UInt8}(n:dR aa l):Sm aa.length 1 (r0 (bn aa l).1) (.c (s.b8 l)):=by
 intro d hd g o;obtain⟨d,rfl⟩:∃e,d=e+1:=⟨d-1,by omega⟩;rw[zS (x:=r0 (bn aa l).1) rfl,ae (show ¬(r0 (bn aa l).1).k=0 from Cb l)];show (∃j,g=[j]/\(bn aa l).1.testBit j=true)↔∃j,g.map (wb aa.length)=[j]/\(s.b8 l).testBit j=true;constructor
 ·rintro⟨j,rfl,h⟩;exact⟨_,rfl,by rw[<- yW q i t n (o j (by simp))];exact h⟩
 ·rintro⟨j,e,h⟩;obtain⟨a,rfl,rfl⟩:∃a,g=[a]/\wb aa.length a=j:=by
   cases g with
   | nil=>simp at e
   | cons a r=>simp at e;exact⟨a,by rw[e.2],e.1⟩
  exact⟨a,rfl,by rw[yW q i t n (o a (by simp))];exact h⟩
def Qc(a D:Nat)(Q:Nat->Tr->Prop)(s:RS)(r:RS×Rx)(x:Px):Prop:=∃(t:Tr) (k:Nat),r.2=t.rx/\Q k t/\r.1.atoms=s.atoms+(k:Int)/\Sm a D x t
def AL(T:ai)(aa:List ai)(m D:Nat)(f:RS->RS×Rx)(g:PS->PS×Px):Prop:=∀s p,Ez T aa m s p->(f s).1.err=0->Qc aa.length D (Tr.Ct (Tr.Pa m)) s (f s) (g p).2
theorem pN{T:ai}{s:RS}{sub:RS->RS×Rx}(a:s.tk T≠[40])(b:¬dR s.aa (s.tk T)):(s.atom T sub).1.err≠0:=by
 have e:(s.atom T sub).1=((s.take T).bd (s.tk T) (s.pos T)).dn (s.pos T):=by unfold RS.atom;rw[ae a];rfl
 have hb:((s.take T).bd (s.tk T) (s.pos T)).err≠0:=by
  unfold RS.bd;rw[ae (show ¬(0<=ba (s.take T).aa (s.tk T)\/_) from b)];split
  ·exact cO _ _ _ (by omega)
  ·exact cO _ _ _ (by omega)
 rw[e,(lX hb _).1];exact hb
theorem Q0{T:ai}{aa:List ai}{n:Nat}{s:RS}{p:PS}{j:RS->RS×Rx}{aV:PS->PS×Px}(m:bV aa)(l:aa.length<=6)(h:Ez T aa n s p)(b:p.tk T≠[40])(a:(s.atom T j).1.err=0):Qc aa.length 1 (Qa n) s (s.atom T j) (p.atom T aa aV).2:=by
 obtain⟨h0,A,D,B,C,g,E⟩:=h;have w:=cT h0;have i:=dK h0;have k:s.tk T≠[40]:=by rw[i];exact b
 have f:dR aa (p.tk T):=by
  refine h6 fun v=>?_
  exact pN k (by rw[g,i];exact v) a
 have hi:p.isAtom T=true:=by
  rcases oD m p w b with⟨_,q,_⟩|⟨q,_⟩|⟨_,q,_⟩
  ·exact absurd f q
  ·exact q
  ·exact absurd f q
 have t:p.aQ T=p:=by unfold PS.aQ;rw[hi];rfl
 have o:(p.atom T aa aV).2=r0 (bn aa (p.tk T)).1:=by
  unfold PS.atom;rw[t,bk];simp[b];rfl
 have r:s.atom T j=s.gF T:=by unfold RS.atom;rw[ae k]
 rw[o];rw[r]at a ⊢;have y:=jq (s.take T) (s.tk T) (s.pos T);have d:((s.take T).bd (s.tk T) (s.pos T)).atoms=s.atoms:=y.2.2.2.2.1;have x:¬s.atoms=4:=by
  intro e;refine cO ((s.take T).bd (s.tk T) (s.pos T)) 6 (s.pos T) (by omega) ?_;have:(s.gF T).1.err=(if ((s.take T).bd (s.tk T) (s.pos T)).atoms=4 then ((s.take T).bd (s.tk T) (s.pos T)).fail 6 (s.pos T)else (s.take T).bd (s.tk T) (s.pos T)).err:=rfl;rw[this,ag (by rw[d];exact e)]at a;exact a
 have z:(s.gF T).1={ (s.take T).bd (s.tk T) (s.pos T)with atoms:=((s.take T).bd (s.tk T) (s.pos T)).atoms+1 }:=by
  show RS.dn _ _=_;unfold RS.dn;simp only[d,ae x]
 have u:(s.take T).aa.length<=6:=by show s.aa.length<=6;rw[g];exact l
 refine⟨.c ((s.take T).b8 (s.tk T)),1,rfl,ah ⟨_,HK _ _ u,rfl,rfl⟩,?_,?_⟩
 ·rw[z];show _+1=_;rw[d];rfl
 ·rw[i];exact Sm.atom m l (show (s.take T).aa=aa from g) f
theorem L1{T:ai}{aa:List ai}{n:Nat}{s:RS}{p:PS}{c:RS->RS×Rx}{aV:PS->PS×Px}(z:∀m,n=m+1->AL T aa m (3*m+4) c aV)(h:Ez T aa n s p)(b:p.tk T=[40])(a:(s.atom T c).1.err=0):Qc aa.length (3*n+1) (Qa n) s (s.atom T c) (p.atom T aa aV).2:=by
 obtain⟨h0,r,f,u,v,y,G⟩:=h;have A:=dK h0;have hi:p.isAtom T=true:=by unfold PS.isAtom;rw[bk,b];simp
 have o:p.aQ T=p:=by unfold PS.aQ;rw[hi];rfl
 have j:(p.atom T aa aV).2=(p.bracket T aV).2:=by unfold PS.atom;rw[o,bk,b];simp
 rw[j];unfold RS.atom at a ⊢;rw[ag (by rw[A];exact b)]at a ⊢
 by_cases d:s.nest=4
 ·rw[ag d]at a;exact absurd a (cO _ _ _ (by omega))
 ·rw[ae d]at a ⊢;obtain⟨m,rfl⟩:∃m,n=m+1:=⟨n-1,by omega⟩;have l:p.nest T=p:=by unfold PS.nest;rw[ae (by rw[f];exact d)]
  have g:(p.nest T).aK T [aX 40]=p.step T:=by rw[l];unfold PS.aK;rw[bk,b];simp
  have q:Ez T aa m { s.take T with nest:=s.nest+1 } (p.step T).hE:=by
   refine⟨et h0,r,?_,u,v,y,?_⟩
   ·show p.k+1=s.nest+1;rw[f]
   ·show s.nest+1+(m:Int)=4;omega
  have w:(c { s.take T with nest:=s.nest+1 }).1.err=0:=Ih a;obtain⟨t,k,C,D,E,F⟩:=z m rfl _ _ q w;have i:(p.bracket T aV).2=(aV ((p.step T).hE)).2:=by unfold PS.bracket;simp only;rw[g]
  have hc:∀x:RS,(x.eg T).atoms=x.atoms:=by
   intro x;unfold RS.eg;have B:=gl T { x with nest:=x.nest-1 } [41];show (if x.err=0 then _ else _:RS).atoms=_
   by_cases e:x.err=0
   ·rw[ag e];exact B.2.2.2.2.1
   ·rw[ae e]
  refine⟨t,k,C,ac ⟨m,rfl,D⟩,?_,?_⟩
  ·show (RS.eg T _).atoms=_;rw[hc];exact E
  ·rw[i];exact F.up (by omega)
theorem Rf{T:ai}{aa:List ai}{n:Nat}{s:RS}{p:PS}{a:RS->RS×Rx}{aV:PS->PS×Px}(e:bV aa)(d:aa.length<=6)(f:∀m,n=m+1->AL T aa m (3*m+4) a aV)(h:Ez T aa n s p)(c:(s.atom T a).1.err=0):Qc aa.length (3*n+1) (Qa n) s (s.atom T a) (p.atom T aa aV).2:=by
 by_cases b:p.tk T=[40]
 ·exact L1 f h b c
 ·obtain⟨t,k,g,i,j,l⟩:=Q0 (aV:=aV) e d h b c;exact⟨t,k,g,i,j,l.up (by omega)⟩
theorem BS{T:ai}{s:RS}{sub:RS->RS×Rx}(h:(s.part T sub).1.err=0):(s.atom T sub).1.err=0:=by
 unfold RS.part at h
 by_cases e:(s.atom T sub).1.err=0
 ·exact e
 ·rw[ag e]at h;exact h
theorem OE{T:ai}{aa:List ai}{n:Nat}{s:RS}{p:PS}{b:RS->RS×Rx}{aV:PS->PS×Px}(l:bV aa)(u:aa.length<=6)(x:bN T aV)(w:dQ T aV)(B:∀m,n=m+1->oN T aa m b aV)(z:∀m,n=m+1->AL T aa m (3*m+4) b aV)(h:Ez T aa n s p)(v:(s.part T b).1.err=0):Qc aa.length (3*n+2) (Tr.Pa n) s (s.part T b) (PS.di T aa aV p).2:=by
 have g:=BS v;have r:Ez T aa n (s.atom T b).1 (p.atom T aa aV).1:=by
  rcases L9 l x w B h with q|⟨q,_⟩
  ·exact q
  ·exact absurd g q.1
 obtain⟨t,k,C,a,d,f⟩:=Rf l u z h g;have A:=dK r.1;have o:t.ok:=by
  rcases a with⟨c,hc,_,rfl⟩|⟨m,rfl,hc⟩
  ·exact hc
  ·exact LK hc
 unfold RS.part PS.di PS.gu;rw[ae (by simpa using g),C];unfold RS.suffix;rw[A]
 by_cases i:(p.atom T aa aV).1.tk T=[42]
 ·simp only[ag i];exact⟨_,k,Tr.Cf t,FM a .st,d,f.star⟩
 ·simp only[ae i]
  by_cases j:(p.atom T aa aV).1.tk T=[43]
  ·simp only[ag j];refine⟨_,k,?_,FM a .pl,d,f.plus⟩;show iT t.rx (hO t.rx)=_;rw[Tr.Cf,Tr.FJ];rfl
  ·simp only[ae j]
   by_cases c3:(p.atom T aa aV).1.tk T=[63]
   ·simp only[ag c3];exact⟨_,k,Tr.l4 o (y:=.e) trivial,FM a .op,d,f.maybe o⟩
   ·simp only[ae c3];exact⟨t,k,rfl,FM a .no,d,f.up (by omega)⟩
theorem zF{T:ai}{s:RS}{sub:RS->RS×Rx}(a:s.tk T≠[40])(b:¬dR s.aa (s.tk T)):(s.part T sub).1.err≠0:=by
 intro h;exact pN a b (BS h)
theorem QM{T:ai}{aa:List ai}{n:Nat}{a:RS->RS×Rx}{aV:PS->PS×Px}(o:bV aa)(F:aa.length<=6)(u:bN T aV)(y:dQ T aV)(C:∀m,n=m+1->oN T aa m a aV)(I:∀m,n=m+1->AL T aa m (3*m+4) a aV)(D:RS):∀(g:Nat) (s:RS) (e:Rx) (p:PS) (l:List Px) (c:Nat),Ez T aa n s p->T.size<p.p+g->T.size<p.p+c->(∃t k,e=Tr.rx t/\Tr.Rw (Tr.Pa n) k t/\s.atoms=D.atoms+(k:Int)/\MM aa.length (3*n+2) l t)->(RS.cS T a g s e).1.err=0 ->∃t k,(RS.cS T a g s e).2=Tr.rx t/\Tr.Rw (Tr.Pa n) k t/\(RS.cS T a g s e).1.atoms=D.atoms+(k:Int)/\MM aa.length (3*n+2) (PS.cS T (PS.di T aa aV) c p l).2 t:=by
 intro g
 induction g with
 | zero=>intro s e p l c h h1;have:=cT h.1;omega
 | succ g J =>
  intro s e p l c h h1 S x b;have f:=cT h.1;have v:=dK h.1;obtain⟨w,rfl⟩:∃w,c=w+1:=⟨c-1,by omega⟩;rw[PS.cS];have i:Ez T aa n (s.aH T) p:=⟨eu h.1,h.2⟩;have j:=B9 p f;cases hi:p.isAtom T
  ·have r:p.tk T≠[40]:=by
    intro e;unfold PS.isAtom at hi;rw[bk,e]at hi;simp at hi
   simp only[la,fi];cases B:eI T p.p
   ·have d:RS.mT (s.tk T)=false:=by rw[v,j,B];simp[r]
    rw[BK h.1.1 d];exact x
   ·exfalso;have d:RS.mT (s.tk T)=true:=by rw[v,j,B];simp
    rw[qi h.1.1 d]at b;have G:¬dR aa (p.tk T):=by
     rcases oD o p f r with⟨_,q,_⟩|⟨q,_⟩|⟨q,_⟩
     ·exact q
     ·rw[hi]at q;cases q
     ·rw[hi]at q;cases q
    have A:(s.aH T).tk T=p.tk T:=dK i.1;have hb:((s.aH T).part T a).1.err≠0:=zF (by rw[A];exact r) (by rw[A,i.2.2.2.2.2.1];exact G);rw[pe hb]at b;exact hb b
  ·have d:RS.mT (s.tk T)=true:=by
    rw[v,j];unfold PS.isAtom at hi;rw[bk]at hi;simp at hi ⊢;rcases hi with h|h
    ·exact ah h
    ·exact ac h.1
   simp only[de];rw[qi h.1.1 d]at b ⊢;have z:((s.aH T).part T a).1.err=0:=by
    refine h6 fun hb=>?_
    rw[pe hb]at b;exact hb b
   have H:=lv f hi;have U:=(dw T aa aV u p f).2.2.2 H;have E:Ez T aa n ((s.aH T).part T a).1 (PS.di T aa aV p).1:=by
    rcases wd o u y C i with q|⟨q,_⟩
    ·exact q
    ·exact absurd z q.1
   obtain⟨t,k,O,P,V,Q⟩:=x;obtain⟨R,k',K,L,M,N⟩:=OE o F u y C I i z;refine J _ _ _ _ _ E (by omega) (by omega) ⟨Tr.row t R,k+k',?_,Tr.Rw.more P L,?_,Q.snoc N⟩ b
   ·rw[O,K,Tr.FJ]
   ·rw[M];show s.atoms+(k':Int)=_;omega
theorem OB{T:ai}{aa:List ai}{n:Nat}{s:RS}{p:PS}{a:RS->RS×Rx}{aV:PS->PS×Px}(f:bV aa)(i:aa.length<=6)(c:bN T aV)(d:dQ T aV)(g:∀m,n=m+1->oN T aa m a aV)(l:∀m,n=m+1->AL T aa m (3*m+4) a aV)(h:Ez T aa n s p)(b:(s.row T a).1.err=0):Qc aa.length (3*n+3) (Tr.Rw (Tr.Pa n)) s (s.row T a) (PS.iT T (PS.di T aa aV) p).2:=by
 have r:=cT h.1;have hg:=dw T aa aV c p r;have e:s.row T a=RS.cS T a (T.size+2) (s.part T a).1 (s.part T a).2:=rfl;rw[e]at b ⊢;have j:(s.part T a).1.err=0:=by
  refine h6 fun hb=>?_
  rw[pe hb]at b;exact hb b
 have o:Ez T aa n (s.part T a).1 (PS.di T aa aV p).1:=by
  rcases wd f c d g h with q|⟨q,_⟩
  ·exact q
  ·exact absurd j q.1
 obtain⟨C,k',u,v,w,x⟩:=OE f i c d g l h j;obtain⟨t,k,y,z,A,B⟩:=QM f i c d g l s (T.size+2) _ _ _ [(PS.di T aa aV p).2] (T.size+1) o (by omega) (by omega) ⟨C,k',u,Tr.Rw.one v,w,MM.one x⟩ b;exact⟨t,k,y,z,A,B.row⟩
theorem PL{T:ai}{aa:List ai}{n:Nat}{a:RS->RS×Rx}{aV:PS->PS×Px}(w:bV aa)(F:aa.length<=6)(i:bN T aV)(u:dQ T aV)(y:∀m,n=m+1->oN T aa m a aV)(J:∀m,n=m+1->AL T aa m (3*m+4) a aV)(D:RS):∀(g:Nat) (s:RS) (e:Rx) (p:PS) (l:List Px) (b:Nat),Ez T aa n s p->T.size<p.p+g->T.size<p.p+b->(∃t k,e=Tr.rx t/\Tr.Ct (Tr.Pa n) k t/\s.atoms=D.atoms+(k:Int)/\MN aa.length (3*n+3) l t)->(RS.bo T a g s e).1.err=0 ->∃t k,(RS.bo T a g s e).2=Tr.rx t/\Tr.Ct (Tr.Pa n) k t/\(RS.bo T a g s e).1.atoms=D.atoms+(k:Int)/\MN aa.length (3*n+3) (PS.bo T (PS.iT T (PS.di T aa aV)) b p l).2 t:=by
 intro g
 induction g with
 | zero=>intro s e p l b h h1;have:=cT h.1;omega
 | succ g K =>
  intro s e p l b h h1 R r d;have v:=cT h.1;have x:=dK h.1;obtain⟨j,rfl⟩:∃j,b=j+1:=⟨b-1,by omega⟩;rw[PS.bo]
  by_cases c:p.tk T=[47]
  ·rw[ag c];rw[w4 h.1.1 (by rw[x];exact c)]at d ⊢;have f:(((s.aH T).take T).row T a).1.err=0:=by
    refine h6 fun hb=>?_
    rw[qG hb]at d;exact hb d
   have G:=o0 v c;have H:=cx T p.p v;have U:(p.step T).p=hq T p.p:=rfl;have S:=H.2.2 G;have o:Ez T aa n ((s.aH T).take T) (p.step T):=⟨et (eu h.1),h.2⟩;have hg:=good_row T _ (dw T aa aV i) (p.step T) (by omega);have E:Ez T aa n (((s.aH T).take T).row T a).1 (PS.iT T (PS.di T aa aV) (p.step T)).1:=by
    rcases h8 w i u y o with q|q|q
    ·exact q
    ·exact absurd f q.1
    ·have:=q.1;rw[f]at this;omega
   obtain⟨t,k,O,C,V,P⟩:=r;obtain⟨Q,k',L,B,M,N⟩:=OB w F i u y J o f;have z:=LK C;have A:=JO (fun _ _ I=>OG I) B;refine K _ _ _ _ _ E (by omega) (by omega) ⟨Tr.either t Q,k+k',?_,Tr.Ct.more C B,?_,P.snoc N z A⟩ d
   ·rw[O,L,Tr.l4 z A]
   ·rw[M];show s.atoms+(k':Int)=_;omega
  ·rw[ae c,yQ h.1.1 (by rw[x];exact c)];exact r
theorem Ly{T:ai}{aa:List ai}{n:Nat}{s:RS}{p:PS}{a:RS->RS×Rx}{aV:PS->PS×Px}(f:bV aa)(j:aa.length<=6)(c:bN T aV)(d:dQ T aV)(i:∀m,n=m+1->oN T aa m a aV)(l:∀m,n=m+1->AL T aa m (3*m+4) a aV)(h:Ez T aa n s p)(b:(s.fK T a).1.err=0):Qc aa.length (3*n+4) (Tr.Ct (Tr.Pa n)) s (s.fK T a) (PS.w5 T aa aV p).2:=by
 have r:=cT h.1;have hg:=good_row T _ (dw T aa aV c) p r;have e:s.fK T a=RS.bo T a (T.size+2) (s.row T a).1 (s.row T a).2:=rfl;rw[e]at b ⊢;have g:(s.row T a).1.err=0:=by
  refine h6 fun hb=>?_
  rw[qG hb]at b;exact hb b
 have o:Ez T aa n (s.row T a).1 (PS.iT T (PS.di T aa aV) p).1:=by
  rcases h8 f c d i h with q|q|q
  ·exact q
  ·exact absurd g q.1
  ·have:=q.1;rw[g]at this;omega
 obtain⟨C,k',u,v,w,x⟩:=OB f j c d i l h g;obtain⟨t,k,y,z,A,B⟩:=PL f j c d i l s (T.size+2) _ _ _ [(PS.iT T (PS.di T aa aV) p).2] (T.size+1) o (by omega) (by omega) ⟨C,k',u,Tr.Ct.one v,w,MN.one x⟩ b;exact⟨t,k,y,z,A,B.either⟩
theorem Rc{T:ai}{aa:List ai}(c:bV aa)(d:aa.length<=6):∀n,AL T aa n (3*n+4) (RS.expr T n) (PS.expr T aa (n+1)):=by
 intro n
 induction n with
 | zero =>
  intro s p h a;exact Ly c d (ch T aa 0) (kO T aa 0) (fun m b=>by omega) (fun m b=>by omega) h a
 | succ n i =>
  intro s p h a;have g:∀m,n+1=m+1->oN T aa m (RS.expr T n) (PS.expr T aa (n+1)):=by
   intro m b;have e:m=n:=by omega
   subst e;exact EI c m
  have f:∀m,n+1=m+1->AL T aa m (3*m+4) (RS.expr T n) (PS.expr T aa (n+1)):=by
   intro m b;have e:m=n:=by omega
   subst e;exact i
  exact Ly c d (ch T aa (n+1)) (kO T aa (n+1)) g f h a
def Mq(a:Nat)(e:Rx)(x:Px):Prop:=∃t:Tr,e=t.rx/\xy t/\Sm a 24 x t
theorem Oy{T:ai}{aa:List ai}{s:RS}{p:PS}(i:bV aa)(l:aa.length<=6)(c:UInt8)(h:mq T s p)(m:s.aa=aa)(h0:s.nest=0)(a:(s.side T [c]).1.err=0):Mq aa.length (s.side T [c]).2 (p.side T aa (aX c)).2:=by
 have h1:mq T (({ s with atoms:=0 }:RS).aH T) p:=eu (s:={ s with atoms:=0 }) h;have n:=dK h1;unfold RS.side PS.side at *;simp only at a ⊢;rw[n]at a ⊢;rw[bk]
 by_cases e:p.tk T=[c]
 ·rw[ag e,ag (by simpa using e)];refine⟨.e,rfl,ah rfl,fun d _ o _=>?_⟩;rw[yr];show _↔o.map (wb aa.length)=[];simp
 ·rw[ae e]at a ⊢;rw[ae (by simpa using e)];have g:Ez T aa 4 (({ s with atoms:=0 }:RS).aH T) p.zero:=⟨h1,rfl,by show (0:Int)=s.nest;rw[h0],by show (0:Int)<=0;omega,by show (0:Int)<=4;omega,m,by show s.nest+4=4;omega⟩;have f:((({ s with atoms:=0 }:RS).aH T).expr T 4).1.err=0:=by
   refine h6 fun hb=>?_
   have b:(RS.hC T ((({ s with atoms:=0 }:RS).aH T).expr T 4).1 [c]).err=0:=a;unfold RS.hC at b;rw[ae hb]at b;exact hb b
  obtain⟨t,k,r,u,v,w⟩:=Rc i l 4 _ _ g f;have j:Ez T aa 4 ((({ s with atoms:=0 }:RS).aH T).expr T 4).1 (PS.expr T aa (4+1) p.zero).1:=by
   rcases EI i 4 _ _ g with q|q|q
   ·exact q
   ·exact absurd f q.1
   ·have:=q.1;rw[f]at this;omega
  have x:=j.2.2.2.2.1;have y:((({ s with atoms:=0 }:RS).aH T).expr T 4).1.atoms=0+(k:Int):=v;exact⟨t,r,ac ⟨k,by omega,u⟩,w.up (by omega)⟩
theorem Ii(T:ai)(s:RS):(s.eg T).ay=s.ay:=by
 unfold RS.eg;simp only;split
 ·rw[(gl T _ _).2.1]
 ·rfl
theorem C8(T:ai)(s:RS):(s.gF T).1.ay=s.ay:=by
 unfold RS.gF RS.dn;simp only;have h:=(jq (s.take T) (s.tk T) (s.pos T)).2.1;split
 ·show ((((s.take T).bd (s.tk T) (s.pos T)).fail 6 (s.pos T))).ay=_;rw[(bu _ _ _).2.1,h];rfl
 ·exact h.trans rfl
theorem Gw(T:ai)(sub:RS->RS×Rx)(a:∀s,(sub s).1.ay=s.ay)(s:RS):(s.atom T sub).1.ay=s.ay:=by
 unfold RS.atom;split
 ·split
  ·show ((s.take T).fail 6 (s.pos T)).ay=_;rw[(bu _ _ _).2.1];rfl
  ·show ((sub _).1.eg T).ay=_;rw[Ii,a];rfl
 ·exact C8 T s
theorem FS(T:ai)(sub:RS->RS×Rx)(a:∀s,(sub s).1.ay=s.ay)(s:RS):(s.part T sub).1.ay=s.ay:=by
 unfold RS.part;split
 ·exact Gw T sub a s
 ·unfold RS.suffix;simp only
  (repeat' split)<;>exact Gw T sub a s
theorem Np(T:ai)(sub:RS->RS×Rx)(a:∀s,(sub s).1.ay=s.ay)(g:Nat):∀s e,(RS.cS T sub g s e).1.ay=s.ay:=by
 induction g with
 | zero=>intro s e;rfl
 | succ g b =>
  intro s e;rw[RS.cS];split
  ·rfl
  ·split
   ·rw[b,FS T sub a];rfl
   ·rfl
theorem JV(T:ai)(sub:RS->RS×Rx)(a:∀s,(sub s).1.ay=s.ay)(s:RS):(s.row T sub).1.ay=s.ay:=by
 unfold RS.row;rw[Np T sub a,FS T sub a]
theorem Lz(T:ai)(sub:RS->RS×Rx)(a:∀s,(sub s).1.ay=s.ay)(g:Nat):∀s e,(RS.bo T sub g s e).1.ay=s.ay:=by
 induction g with
 | zero=>intro s e;rfl
 | succ g b =>
  intro s e;rw[RS.bo];split
  ·rfl
  ·split
   ·rw[b,JV T sub a];rfl
   ·rfl
theorem CP(T:ai)(sub:RS->RS×Rx)(a:∀s,(sub s).1.ay=s.ay)(s:RS):(s.fK T sub).1.ay=s.ay:=by
 unfold RS.fK;rw[Lz T sub a,JV T sub a]
theorem NY(T:ai)(n:Nat):∀s,(RS.expr T n s).1.ay=s.ay:=by
 induction n with
 | zero=>intro s;exact CP T _ (fun _=>rfl) s
 | succ n a=>intro s;exact CP T _ a s
theorem Fy(T:ai)(s:RS)(l:List UInt8):(s.side T l).1.ay=s.ay:=by
 have hb:∀x:RS,(x.hC T l).ay=x.ay:=by
  intro x;unfold RS.hC;split
  ·exact(gl T x l).2.1
  ·rfl
 unfold RS.side;simp only;split
 ·rw[hb];rfl
 ·rw[hb,NY];rfl
def xz(c:Nat)(o:Bool×Rx×Rx)(M:bw):Prop:=∃a b:Px,o.1=M.cut/\Mq c o.2.1 a/\Mq c o.2.2 b/\M.SL=(mk 24 a bA 0).1/\M.fL=(mk 24 a bA 0).2/\M.SR=(mk 24 b bA 0).1/\M.fR=(mk 24 b bA 0).2
theorem QK{T:ai}{aa:List ai}{s:RS}{p:PS}{n:Nat}(d:bV aa)(i:aa.length<=6)(h:mq T s p)(k:s.aa=aa)(h0:s.nest=0)(j:bH [eP,cJ] (p.tk T)=true)(v:s.L.length=n)(a:(s.ep T).err=0):∃o,(s.ep T).L=s.L++[o]/\xz aa.length o (kY T aa n p)/\(s.ep T).ay=s.ay:=by
 have u:¬n=4:=by
  intro e;unfold RS.ep at a;simp only at a;rw[ag (show (s.take T).L.length=4 from v.trans e)]at a;exact absurd a (cO _ _ _ (by omega))
 have l:=yj T s (s.take T) rfl (by show ¬s.L.length=4;omega);have g:p.dm T n=p:=by unfold PS.dm;rw[ae u]
 have r:(p.dm T n).aK T [eP,cJ]=p.step T:=by rw[g];unfold PS.aK;rw[j];rfl
 have h1:=et h;have c:((s.take T).side T [124]).1.err=0:=by
  refine h6 fun hb=>?_
  rw[l,ae hb]at a;exact hb a
 rw[l,ag c]at a ⊢;have hb:(((s.take T).side T [124]).1.side T [59]).1.err=0:=a;have b:mq T ((s.take T).side T [124]).1 (((p.step T).side T aa (aX 124)).1.aK T [aX 124])/\((s.take T).side T [124]).1.aa=aa/\((s.take T).side T [124]).1.nest=0:=by
  rcases DQ d 124 h1 k h0 with q|q
  ·exact q
  ·exact absurd c q.1
 have w:=Oy d i 124 h1 k h0 c;have x:=Oy d i 59 b.1 b.2.1 b.2.2 hb;have f:(p.iB T aa n)=(p.step T).side T aa (aX 124):=by unfold PS.iB;rw[r]
 have m:(p.lo T aa n)=(((p.step T).side T aa (aX 124)).1.aK T [aX 124]).side T aa (aX 59):=by unfold PS.lo;rw[f]
 refine⟨(decide (s.tk T=[99,117,116]),((s.take T).side T [124]).2,(((s.take T).side T [124]).1.side T [59]).2),?_,⟨(p.iB T aa n).2,(p.lo T aa n).2,?_,?_,?_,rfl,rfl,rfl,rfl⟩,?_⟩
 ·show _++_=_;rw[qe,qe];rfl
 ·show decide (s.tk T=_)=((ce T [eP,cJ] (p.dm T n).p).toList==[99,117,116]);have t:ce T [eP,cJ] p.p=bF T p.p:=by unfold ce;rw[show bH [eP,cJ] (bF T p.p).toList=true from j];rfl
  rw[g,t,dK h,kv];simp only[e1,bL];exact Iff.rfl
 ·rw[f];exact w
 ·rw[m];exact x
 ·show (((s.take T).side T [124]).1.side T [59]).1.ay=_;rw[Fy,Fy];rfl
theorem O9{T:ai}{aa:List ai}(r:bV aa)(y:aa.length<=6):∀(g:Nat) (s:RS) (p:PS) (a:List bw) (c:Nat),mq T s p->s.aa=aa->s.nest=0->s.L.length=a.length->(p.tk T=[99,108,97,115,115]->s.L.length≠0)->T.size<p.p+g->T.size<p.p+c->jR (xz aa.length) s.L a->(RS.cW T g s).err=0 ->jR (xz aa.length) (RS.cW T g s).L (gs T aa c p a).2/\(RS.cW T g s).aa=aa/\(RS.cW T g s).ay=s.ay:=by
 intro g
 induction g with
 | zero=>intro s p a c h _ _ _ _ hg;have:=cT h;omega
 | succ g B =>
  intro s p a c h l h0 n hc hg G m b;have q:=cT h;have f:=dK h;have t:=eu h;obtain⟨k,rfl⟩:∃k,c=k+1:=⟨c-1,by omega⟩;rw[gs]
  by_cases i:p.tk T=[99,117,116]\/p.tk T=[106,111,105,110]
  ·have d:=(xg (p.tk T)).2 i;rw[ag d];rw[v7 h.1 (by rw[f];exact i)]at b ⊢;have z:=qr q Gs d;have A:=ie T aa a.length p q (kZ h);have F:=A.2.2.2.2 z;have u:((s.aH T).ep T).err=0:=by
    refine h6 fun hb=>?_
    rw[ig hb]at b;exact hb b
   obtain⟨o,C,D,E⟩:=QK r y t l h0 d n u;rcases JQ r t l h0 d n with⟨v,a2,a3,a4⟩|w
   ·have x:jR (xz aa.length) ((s.aH T).ep T).L (a++[kY T aa a.length p]):=by rw[C];exact jR.snoc m D
    have:=B _ _ _ k v a2 a3 (by rw[a4,aF];rfl) (fun _=>by rw[a4];omega) (by omega) (by omega) x b;exact⟨this.1,this.2.1,this.2.2.trans E⟩
   ·exact absurd u w.1
  ·have d:¬bH [eP,cJ] (p.tk T)=true:=fun j=>i ((xg _).1 j)
   rw[ae d]
   by_cases e:p.tk T=[]
   ·rw[ym h.1 (by rw[f];exact e)];exact⟨m,l,rfl⟩
   ·exfalso;rw[qk h.1 (by rw[f];exact fun j=>hc j.1 j.2) (by rw[f];exact i) (by rw[f];exact e)]at b;have hb:((s.aH T).fail 2 (s.pos T)).err≠0:=cO _ _ _ (by omega);rw[ig hb]at b;exact hb b
theorem Im{T:ai}{s:RS}(h:(s.bE T).err=0)(a:s.aa.length<=6):s.aa.length<6:=by
 refine h6 fun b=>?_
 rw[xf,ag (show (s.take T).aa.length=6 from(show s.aa.length=6 by omega))]at h;exact absurd h (cO _ _ _ (by omega))
theorem LR{T:ai}:∀(g:Nat) (s:RS) (p:PS) (l:List (Int×Int×Nat)) (a:Nat),mq T s p->bV s.aa->s.aa.length<=6->s.ay=ln l->s.nest=0->s.L=[]->T.size<p.p+g->T.size<p.p+a->(RS.cW T g s).err=0 ->jR (xz (db T a ⟨p,s.aa,l⟩).aa.length) (RS.cW T g s).L (gs T (db T a ⟨p,s.aa,l⟩).aa (T.size+1) (db T a ⟨p,s.aa,l⟩).s []).2/\(RS.cW T g s).aa=(db T a ⟨p,s.aa,l⟩).aa/\(RS.cW T g s).ay=ln (db T a ⟨p,s.aa,l⟩).l/\(db T a ⟨p,s.aa,l⟩).aa.length<=6:=by
 intro g
 induction g with
 | zero=>intro s p l a h _ _ _ _ _ hg;have:=cT h;omega
 | succ g A =>
  intro s p l a h m f n h0 e hg C c;have k:=cT h;have z:=dK h;have y:=eu h;obtain⟨d,rfl⟩:∃d,a=d+1:=⟨a-1,by omega⟩
  by_cases b:bH [ct] (p.tk T)=true
  ·have v:=oL b;rw[rm h.1 (by rw[z];exact v) (by rw[e];rfl)]at c ⊢;rw[db,ag b];have x:=qr k AC b;have u:=pJ T s.aa l p (kZ h) k;have B:=u.2.2 x;have i:=yU T (s.aH T);have j:((s.aH T).bE T).err=0:=by
    refine h6 fun hb=>?_
    rw[ig hb]at c;exact hb c
   have t:=Im j f;rcases Gr y n b m with⟨o,a2,a3,a4⟩|q
   ·have:=A ((s.aH T).bE T) (p.dG T s.aa l) (p.fD T s.aa l).2 d o a4 (by rw[a3,aF];show s.aa.length+1<=6;have:s.aa.length<6:=t;omega) a2 (by rw[i.2];exact h0) (by rw[i.1];exact e) (by omega) (by omega) c;rw[a3]at this;exact this
   ·exact absurd j q.1
  ·have r:db T (d+1) ⟨p,s.aa,l⟩=⟨p,s.aa,l⟩:=by rw[db,ae b]
   rw[r];have:=O9 m f (g+1) s p [] (T.size+1) h rfl h0 (by rw[e];rfl) (fun w=>by
    exfalso;apply b;rw[fU];exact⟨ct,by simp,by unfold ct;rw[bM];exact w.symm⟩) hg (by omega) (by rw[e];exact jR.nil) c
   exact⟨this.1,this.2.1,this.2.2.trans n,f⟩
theorem D3(T:ai)(d:T.size<=1000)(a:(RS.read T).err=0):jR (xz (bx T).aa.length) (RS.read T).L (cv T).2/\(RS.read T).aa=(bx T).aa/\(RS.read T).ay=ln (bx T).l/\(bx T).aa.length<=6:=by
 have h0:mq T RS.start (ji T).s:=⟨rfl,rfl,rfl,aJ _,rfl⟩;have b:RS.read T=RS.cW T (T.size+2) RS.start:=by unfold RS.read;rw[ae (by omega)]
 rw[b]at a ⊢;exact LR (T:=T) (T.size+2) RS.start (ji T).s [] (T.size+1) h0 (fun x c=>by simp[RS.start]at c) (by decide) rfl rfl rfl (by omega) (by omega) a
open Go.Lib
theorem jR.at{α β:Type}{R:α->β->Prop}{l:List α}{m:List β}(h:jR R l m):l.length=m.length/\∀(i:Nat) (a:α) (b:β),l[i]?=some a->m[i]?=some b->R a b:=by
 induction h with
 | nil=>exact⟨rfl,fun i a b h=>by simp at h⟩
 | @snoc l m a b h j g =>
  refine⟨by simp[g.1],fun i x y n d=>?_⟩;rcases bD n with⟨h1,o⟩|⟨h1,rfl⟩
  ·have hi:=(a1.1 h1).1;rw[dD (by have:=g.1;omega)]at d;exact g.2 i x y h1 d
  ·rw[eH (by have:=g.1;omega),show i-m.length=0 by have:=g.1;omega]at d;simp at d;rw[<- d];exact j
def QI(x:Bool×Tr×Tr):Bool×Rx×Rx:=(x.1,x.2.1.rx,x.2.2.rx)
def GB(c:Nat)(x:Bool×Tr×Tr)(M:bw):Prop:=xy x.2.1/\xy x.2.2/\∃a b:Px,x.1=M.cut/\Sm c 24 a x.2.1/\Sm c 24 b x.2.2/\M.SL=(mk 24 a bA 0).1/\M.fL=(mk 24 a bA 0).2/\M.SR=(mk 24 b bA 0).1/\M.fR=(mk 24 b bA 0).2
theorem Jh{c:Nat}{L:List (Bool×Rx×Rx)}{b:List bw}(h:jR (xz c) L b):∃a,L=List.map QI a/\jR (GB c) a b:=by
 induction h with
 | nil=>exact⟨[],rfl,jR.nil⟩
 | @snoc l m o M h g i =>
  obtain⟨a,e,f⟩:=i;obtain⟨s,t,h1,⟨tl,j,k,n⟩,⟨tr,p,q,r⟩,d⟩:=g;refine⟨a++[(o.1,tl,tr)],?_,jR.snoc f ⟨k,q,s,t,h1,n,r,d⟩⟩;rw[c9,<- e];show _=_++[(o.1,tl.rx,tr.rx)];rw[<- j,<- p]
theorem tt{t:Tr}(h:xy t):t.ok:=by
 rcases h with rfl|⟨k,_,hc⟩
 ·exact trivial
 ·exact LK hc
theorem JN{row c:List Nat}:∀(J:List PR) (b:List (Bool×Tr×Tr)),J.length=b.length->(∀(i:Nat) (r:PR) (x:Bool×Tr×Tr),J[i]?=some r->b[i]?=some x->r.1=x.1/\(∀i,1<=i->i<row.length->(bG r.2.1 (eC r.2.1 row i)=true↔lF x.2.1 c i))/\∀i,1<=i->i<row.length->(bG r.2.2 (er r.2.2 row i)=true↔iw x.2.2 c i))->rT row c J b:=by
 intro J
 induction J with
 | nil =>
  intro b h _;cases b with
  | nil=>exact rT.nil
  | cons a l=>simp at h
 | cons r J k =>
  intro b h d;cases b with
  | nil=>simp at h
  | cons x b =>
   obtain⟨h1,e,f⟩:=d 0 r x rfl rfl;exact rT.cons (k b (by simpa using h) fun i m n g j=>d (i+1) m n (by simpa using g) (by simpa using j)) h1 e f
theorem DY{e:Nat}{f:List (Bool×Tr×Tr)}{a:List bw}{J:List PR}(A:jR (GB e) f a)(D:∀x∈a,gY x)(o:Mw a J){row:List Nat}(C:E6 e row)(n:∀k∈row,k<8):rT row (row.map (wb e)) J f:=by
 obtain⟨q,B⟩:=A.at;refine JN J f (by rw[o.1,q]) fun i r x E s=>?_
 have hi:i<a.length:=by rw[<- q];exact(a1.1 s).1
 have p:a[i]?=some a[i]:=ax hi;obtain⟨t1,t2,K,L,t,l,c3,u,v,w,y⟩:=B i x a[i] s p;obtain⟨G,H,I⟩:=o.2 i a[i] r p E;have F:=D a[i] (bl hi);have sub:∀g:List Nat,(∀k∈g,k∈row)->E6 e g:=fun g h k b=>C k (h k b)
 refine⟨by rw[G,t],fun m h1 z=>?_,fun m h1 z=>?_⟩
 ·rw[NG u v H row n m (by omega)];unfold lF;constructor
  ·rintro⟨j,d,c⟩;refine⟨j,d,?_⟩;rw[Tr.tI (tt t1),<- List.map_take,<- List.map_drop];exact(l 24 (ar _) _ (sub _ fun k b=>ld (q0 b))).1 c
  ·rintro⟨j,d,c⟩;refine⟨j,d,?_⟩;rw[Tr.tI (tt t1),<- List.map_take,<- List.map_drop]at c;exact(l 24 (ar _) _ (sub _ fun k b=>ld (q0 b))).2 c
 ·rw[JZ F.sr w y I row n m];unfold iw;rw[b5];constructor
  ·rintro⟨j,d,c⟩;refine⟨j,d,?_⟩;rw[Tr.tI (tt t2),<- List.map_drop,<- List.map_take];exact(c3 24 (ar _) _ (sub _ fun k b=>q0 (ld b))).1 c
  ·rintro⟨j,d,c⟩;refine⟨j,d,?_⟩;rw[Tr.tI (tt t2),<- List.map_drop,<- List.map_take]at c;exact(c3 24 (ar _) _ (sub _ fun k b=>q0 (ld b))).2 c
theorem HI{b:Nat}(o:b<=6){g:List Int}{f:List Nat}(h:jR (Mx b) g f):g=f.map (fun k=>(wb b k:Int))/\E6 b f:=by
 induction h with
 | nil=>exact⟨rfl,fun k d=>by simp at d⟩
 | @snoc l m c k h i n =>
  obtain⟨e,d⟩:=n;refine⟨?_,fun k' j=>?_⟩
  ·rw[c9,<- e];congr 1;show [c]=[(wb b k:Int)];unfold wb;rcases i with⟨h1,a⟩|⟨h1,a⟩|⟨h1,a⟩
   ·rw[ae (by omega),ae (by omega),a]
   ·rw[ag h1,a]
   ·rw[ae (by omega),ag h1,a];rfl
  ·rcases aR.1 j with q|q
   ·exact d k' q
   ·simp at q;subst q;rcases i with⟨h1,_⟩|⟨h1,_⟩|⟨h1,_⟩
    ·exact ah h1
    ·exact ac (ah h1)
    ·exact ac (ac h1)
theorem EJ(p:Nat)(ns:List Nat):(gX p ns).length=ns.length:=by
 induction ns generalizing p with
 | nil=>rfl
 | cons n ns a=>simp[gX,a]
theorem GQ{T s:ai}{d:Nat}{S:List (Int×Int×Int)}{L:List (Int×Int×Nat)}{l:List (Bool×Tr×Tr)}(B:d<=6)(hS:Dm d S L)(C:hB L)(j:∀o∈L,o.2.2<8)(z:jR (GB d) l (cv T).2)(G:∀x∈(cv T).2,gY x){told u:List ai}(h:n4 T s L told)(n:GC d S l s u):told=u:=by
 obtain⟨J,g,ns,A,p,rfl⟩:=h;obtain⟨m,row,a,hc,q,t⟩:=n;obtain⟨I,K,v,w,c3⟩:=EQ hS j hc;obtain⟨rfl,rfl⟩:=AE C j s.size g ns I K p v;obtain⟨e,E⟩:=HI B w;have r:row=g.map (wb d):=by
  rw[q]at e;have y:row.map (fun k:Nat=>(k:Int))=(g.map (wb d)).map (fun k:Nat=>(k:Int)):=by rw[e,List.map_map];rfl
  exact(List.map_inj_right (f:=fun k:Nat=>(k:Int)) (fun a b h=>by have n:(a:Int)=(b:Int):=h;omega)).1 y
 have hlen:m.length=ns.length:=by have:=ej List.length c3;rw[b5,EJ]at this;exact this
 have F:m.length=row.length:=by have:=ej List.length q;simpa using this
 have H:=DY z G A E (p.ok j).kinds;rw[r]at t;have:=JJ (cb:=dM J g) c3 (fun i c h1 M D=>Ic (by simp) H i c h1 (by rw[r]at F;omega) D) t;rw[<- hlen,this]
theorem Hl(T:ai):∀(g:Nat) (r:RD),(∀o∈r.l,o.2.2<r.aa.length)->∀o∈(db T g r).l,o.2.2<(db T g r).aa.length:=by
 intro g
 induction g with
 | zero=>intro r h;exact h
 | succ g b =>
  intro r h;rw[db];split
  ·refine b _ fun o a=>?_
   show o.2.2<(r.aa++[eM T r.aa r.s]).length;rw[aF];show o.2.2<r.aa.length+1;rcases(vW T r.aa.length _ _ _).2 o a with q|q
   ·rcases aR.1 q with q|q
    ·have:=h o q;omega
    ·simp at q;subst q;exact Nat.lt_succ_self _
   ·omega
  ·exact h
theorem yn(T:ai):∀o∈(bx T).l,o.2.2<(bx T).aa.length:=Hl T _ _ (fun o a=>by simp[ji]at a)
theorem DX(T:ai){L:List (Int×Int×Nat)}(b:L.Perm (bx T).l):Dm (bx T).aa.length (ln (bx T).l) L:=by
 refine⟨fun o a=>⟨yn T o (b.mem_iff.1 a),aN.2 ⟨o,b.mem_iff.1 a,rfl⟩⟩,fun o a=>?_⟩;obtain⟨x,c,rfl⟩:=aN.1 a;exact⟨x.2.2,rfl,b.mem_iff.2 c⟩
theorem BO(l:List (Bool×Value×Value))(i:Nat)(h:i<l.length):(du l)[i*3]?=some (.bool l[i].1)/\(du l)[i*3+1]?=some l[i].2.1/\(du l)[i*3+2]?=some l[i].2.2:=by
 induction l generalizing i with
 | nil=>simp at h
 | cons a l f =>
  cases i with
  | zero=>exact⟨rfl,rfl,rfl⟩
  | succ i =>
   have:=f i (by simpa using h);have e:∀k,(du (a::l))[(i+1)*3+k]?=(du l)[i*3+k]?:=by
    intro k;rw[show (i+1)*3+k=(i*3+k)+3 from by omega];rfl
   have b:=e 0;have c:=e 1;have d:=e 2;simp only[k8]at b;rw[b,c,d];exact this
structure xA (T:ai) (w:World) (b nN:Nat) (S:List (Int×Int×Int)) (Lt:List (Bool×Tr×Tr)):Prop where
 ay:AQ w b nN S
 rules:Dn w b Lt
 fit:∀x∈Lt,g5 x.2.1/\g5 x.2.2
 iL:S.length<=100000
 low:pY nN S
 four:Lt.length<=4
 trees:jR (GB nN) Lt (cv T).2
 same:∀L:List (Int×Int×Nat),L.Perm (bx T).l->Dm nN S L
theorem xA.aY{T:ai}{w w':World}{b g:Nat}{S:List (Int×Int×Int)}{d:List (Bool×Tr×Tr)}(h:xA T w b g S d)(hb:Below w.heap.size w w'):xA T w' b g S d:=⟨h.ay.aY hb,h.rules.aY hb,h.fit,h.iL,h.low,h.four,h.trees,h.same⟩
theorem Pf{T:ai}{w:World}{b:Nat}(j:T.size<=1000)(r:(RS.read T).err=0)(h:fE w b b T (RS.read T)):∃a3 S a,xA T w b a3 S a:=by
 obtain⟨M,R,t,K⟩:=D3 T j r;obtain⟨a,m,n⟩:=Jh M;have X:(kJ T).err=0:=by rw[FL j];show (ed T).f=0;rw[(J0 T j).1];exact r
 have b7:=v6 T X;obtain⟨c1,c2,c0,b0,Y,a4,a5,a6,c3,A,B,C,a7,a8,b2⟩:=h.cells;obtain⟨N,hS,d,p,q⟩:=Y;have V:=h.2.2.2.1;obtain⟨y,E,rfl⟩:=ak N;obtain⟨z,F,rfl,O⟩:=o7 hS;obtain⟨v,D,rfl⟩:=ak p;have hlen:(RS.read T).L.length=a.length:=by rw[m,b5]
 have b4:(ln (bx T).l).length=(bx T).l.length:=by unfold ln;rw[b5]
 refine⟨(bx T).aa.length,ln (bx T).l,a,⟨⟨⟨y,E,by rw[<- R];exact A⟩,z,F,by rw[<- t];exact B,?_⟩,⟨v,D,by rw[<- hlen];exact C,?_⟩,?_,by omega,⟨K,fun o U=>?_⟩,by have:=V.2.2.2.1;omega,n,fun L W=>DX T W⟩⟩
 ·rw[<- t];intro i hi;obtain⟨g,e,_,a0,a1,a2⟩:=O i hi;exact⟨g,e,a0,a1,a2⟩
 ·intro i hi;have s:i<d.length:=by rw[q.1];omega
  have hc:=BO d i s;have c:(RS.read T).L[i]?=some (QI a[i]):=by rw[m,cV,ax hi];rfl
  obtain⟨G,H,I⟩:=q.2 i d[i] _ (ax s) c;obtain⟨_,J⟩:=p;rcases J with⟨u,b9⟩|⟨g,au,a9,u,hg,k,b1,b6,b8,Q⟩
  ·omega
  ·injection u with Z _ _
   rw[<- Q,bJ,bJ,bJ,ag (by omega),ag (by omega),ag (by omega)]at hc;refine⟨g,d[i].2.1,d[i].2.2,Z,?_,ab k _ _ (by simpa using hc.2.1),ab k _ _ (by simpa using hc.2.2),H,I⟩;have:=ab k (i*3) _ (by simpa using hc.1);rw[G]at this;exact this
 ·intro x c;obtain⟨i,hi,rfl⟩:=List.getElem_of_mem c;obtain⟨b3,P⟩:=n.at;obtain⟨t1,t2,_⟩:=P i a[i] _ (ax hi) (ax (by omega));exact⟨rP t1,rP t2⟩
 ·obtain⟨x,c,rfl⟩:=aN.1 U;have:=yn T x c;show (0:Int)<=(x.2.2:Int)/\(x.2.2:Int)<6;omega
end Go.Proofs.YtodagkkjfipbgaaGreatDoor
namespace Go.Proofs.YtodagkkjfipbgaaGreatDoor
open Go.RowKit Go.Proofs.Tryz
theorem Ph(T:ai):(kJ T).err=(RS.read T).err/\(kJ T).place=(RS.read T).place:=by
 rcases cF 1000 T.size with h|h
 ·have:RS.read T=RS.start.fail 1 0:=by unfold RS.read;rw[ag h]
  rw[this,zz h];exact⟨rfl,rfl⟩
 ·obtain⟨a,b,c⟩:=J0 T h;rw[FL h];refine⟨a,?_⟩;show (if (ed T).f=0 then 0 else (ed T).pl)=_
  by_cases h0:(RS.read T).err=0
  ·rw[ag (a.trans h0),b h0]
  ·rw[ae (by rw[a];exact h0),c h0]
theorem io:(kJ ⟨#[]⟩).err=0/\(kJ ⟨#[]⟩).place=0:=⟨by kernel_rfl,by kernel_rfl⟩
theorem xb:(kJ ⟨#[99,117,116]⟩).err=2/\(kJ ⟨#[99,117,116]⟩).place=3:=⟨by kernel_rfl,by kernel_rfl⟩
theorem Jj(w:World)(c:cc w):Calls prog 14 #[] w fun r w'=>r=.returned (.bool true)/\Below w.heap.size w w':=by
 have a:Hid (cc w):=c;clear c;go_enter func14,ntmps14;go_wp2_with fail;refine(kQ _ w a.out (by decide)).mono ?_;rintro r d ⟨b1,e,rfl,h1,-⟩;obtain⟨g,_,_,_,_,_,_,rfl,_⟩:=h1 io.1;rw[io.1,io.2];clear h1;go_wp2_with fail;refine(kQ _ d (a.out.below b1) (by decide)).mono ?_;rintro r f ⟨b2,v2,rfl,-,b⟩;obtain rfl:=b (by rw[xb.1];decide);rw[xb.1,xb.2];clear b;go_wp2_with fail;go_ret;exact⟨rfl,b1.trans (b2.mono b1.size)⟩
theorem Ko(n:Int)(w:World):Calls prog 17 #[.int .i64 n] w fun r w'=>r=.returned (.int .i64 n)/\w'=w:=by
 go_enter func17,ntmps17;go_wp2_with fail;go_ret;exact⟨rfl,rfl⟩
open Go.Maps Go.Lib
def mw(s:ai)(i:Nat):Nat:=(s.get! i).toNat
def pa(s:ai)(c:Nat->Bool):Nat->Nat×List ai
 | 0=>(0,[])
 | i+1=>if c i then (i+1,(pa s c i).2++[s.extract (pa s c i).1 (i+1)])else pa s c i
theorem JK(s:ai){n:Nat}{a:List Bool}{c:Nat->Bool}(hc:∀i,i<n->a[i+1]?=some (c i)):∀i,i<=n->ec s (List.replicate n 1) a i=((pa s c i).1,i,(pa s c i).2):=by
 intro i
 induction i with
 | zero=>intro _;rfl
 | succ i d =>
  intro hi;have b:(List.replicate n 1)[i]?=some 1:=by rw[fj,ag (by omega)]
  rw[gU b (hc i (by omega)),d (by omega),pa];unfold nG;cases c i<;>rfl
def z6(s:ai)(i:Nat):Bool:=mw s i==10||mw s i==13&&(i+1==s.size||mw s (i+1) != 10)
def RI(s:ai):List ai:=if (pa s (z6 s) s.size).1<s.size then (pa s (z6 s) s.size).2++[s.extract (pa s (z6 s) s.size).1 s.size]else (pa s (z6 s) s.size).2
def R0(c:Nat):Bool:=decide (97<=c)&&decide (c<=122)||decide (48<=c)&&decide (c<=57)
def partAt(s:ai)(i:Nat):Bool:=!(R0 (mw s (i+1))&&R0 (mw s i))
def Rv(s:ai):Nat->List ai
 | 0=>[]
 | i+1=>(pa s (partAt s) i).2++[s.extract (pa s (partAt s) i).1 (i+1)]
end Go.Proofs.YtodagkkjfipbgaaGreatDoor
