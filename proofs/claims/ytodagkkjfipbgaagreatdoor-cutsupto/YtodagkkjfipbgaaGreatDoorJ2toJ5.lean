import Derived.Laws.MakeOwn
import Derived.Shelf.Abstract
import Derived.Test.YtodagkkjfipbgaaGreatDoorBtoQ3
set_option maxRecDepth 100000
set_option maxHeartbeats 8000000
namespace Go.Proofs.YtodagkkjfipbgaaGreatDoor
open Go.RowKit Go.Maps Go.Proofs.Tryz
theorem Tryz.K6:(prog.info? 303).map (fun i=>(i.zero,i.size,i.bytes))=some (some (.agg #[.int .u8 0,.int .i64 0]),2,16):=by kernel_rfl
theorem Tryz.Ow:prog.underlying 301=some (.slice 303):=by kernel_rfl
def n9(w w':World):Prop:=∀(k:Nat) (a:Array Value) (t:TypeId) (m:Nat×Nat),w.heap[k]?=some (.cells a t m)->w'.heap[k]?=some (.cells a t m)
theorem n9.refl(w:World):n9 w w:=fun _ _ _ _ h=>h
theorem n9.trans{a b c:World}(h:n9 a b)(k:n9 b c):n9 a c:=fun i d t m g=>k i d t m (h i d t m g)
theorem n9.kp{w w':World}(h:n9 w w')(t:TypeId):Kp t w w':=fun k d m g=>h k d t m g
theorem n9.below{w w':World}(h:Below w.heap.size w w'):n9 w w':=fun k g t m d=>by rw[h.block k (an d)];exact d
theorem n9.C3{w w':World}{b N:Nat}{S:Nat->Prop}(h:bj (fun k=>k=b) w w')(i:be w b N S):n9 w w':=fun k j t m d=>by
 rw[h.block k (an d) ?_];exact d;intro e;subst e;obtain⟨D,g⟩:=i;obtain⟨n,c,h1,_⟩:=g.own;rw[h1]at d;cases d
theorem n9.cell{w w':World}(h:n9 w w'){b o:Nat}{v:Value}(hc:w.cell? ⟨b,o,none⟩=some v):w'.cell? ⟨b,o,none⟩=some v:=by
 unfold World.cell? at hc ⊢;cases hb:w.heap[b]? with
 | none=>simp[hb]at hc
 | some x =>
  cases x with
  | cells d t m=>rw[h b d t m hb];simpa[hb]using hc
  | _=>simp[hb]at hc
def dx(l:List (Nat×Nat)):List Value:=l.flatMap fun o=>[.int .u8 o.1,.int .i64 o.2]
theorem Au(l:List (Nat×Nat))(t y:Nat):dx (l++[(t,y)])=dx l++[.int .u8 t,.int .i64 y]:=by unfold dx;simp
theorem EN(l:List (Nat×Nat))(i:Nat)(h:i<l.length):(dx l)[i*2]?=some (.int .u8 l[i].1)/\(dx l)[i*2+1]?=some (.int .i64 l[i].2):=by
 induction l generalizing i with
 | nil=>simp at h
 | cons a r d =>
  cases i with
  | zero=>simp[dx]
  | succ i =>
   have:=d i (by simpa using h);have e:∀k,(dx (a::r))[(i+1)*2+k]?=(dx r)[i*2+k]?:=by
    intro k;rw[show (i+1)*2+k=(i*2+k)+2 from by omega];rfl
   have b:=e 0;have c:=e 1;simp only[k8]at b;rw[b,c];simpa using this
structure kC (w:World) (base:Nat) (v:Value) (g:List (List (Nat×Nat))) (rv:List Value):Prop where
 len:rv.length=g.length
 row:w.ownsRow base 301 1 v g.length rv
 ib:∀(i:Nat) (u:Value) (l:List (Nat×Nat)),rv[i]?=some u->g[i]?=some l->w.ownsRow base 303 2 u l.length (dx l)
 apart:∀(i j:Nat) (u v:Value) (k:Nat),i≠j->rv[i]?=some u->rv[j]?=some v->u.ownBlock=some k->v.ownBlock≠some k
def mx(w:World)(v:Value)(g:List (List (Nat×Nat))):Prop:=∃a,kC w 0 v g a
theorem kC.tE{w w':World}{base:Nat}{v:Value}{g:List (List (Nat×Nat))}{j:List Value}(h:kC w base v g j)(d:n9 w w'):kC w' base v g j :=
 ⟨h.len,al h.row (d.kp _),fun i u l hu n=>al (h.ib i u l hu n) (d.kp _),h.apart⟩
theorem mx.tE{w w':World}{v:Value}{g:List (List (Nat×Nat))}(h:mx w v g)(d:n9 w w'):mx w' v g:=by obtain⟨j,i⟩:=h;exact⟨j,i.tE d⟩
theorem mx.below{w w':World}{v:Value}{g:List (List (Nat×Nat))}(h:mx w v g)(hb:Below w.heap.size w w'):mx w' v g:=h.tE (n9.below hb)
structure OT (g:List (List (Nat×Nat))):Prop where
 len:g.length<=9000
 row:∀l∈g,l.length<=9000
 ib:∀l∈g,∀e∈l,e.2<g.length/\e.1<256
theorem mx.form{w:World}{v:Value}{g:List (List (Nat×Nat))}(h:mx w v g):∃y au,v=.slice y g.length au/\∀i (hi:i<g.length),∃q A H,y=some ⟨q,0,none⟩/\w.cell? ⟨q,i,none⟩=some (.slice A g[i].length H) /\∀j (n:j<g[i].length),∃x,A=some ⟨x,0,none⟩/\w.cell? ⟨x,j*2,none⟩=some (.int .u8 g[i][j].1)/\w.cell? ⟨x,j*2+1,none⟩=some (.int .i64 g[i][j].2):=by
 obtain⟨F,Z,⟨U,J⟩,K,_⟩:=h;rcases J with⟨o,R⟩|⟨q,au,I,o,hg,Q,W,a0,a2,O⟩
 ·exact⟨none,0,by rw[o,R],fun i hi=>by omega⟩
 ·refine⟨some ⟨q,0,none⟩,au,o,fun i hi=>?_⟩;obtain⟨u,hu⟩:∃u,F[i]?=some u:=⟨F[i]'(by omega),ax (by omega)⟩;have M:=K i u _ hu (ax hi);have hc:w.cell? ⟨q,i,none⟩=some u:=by
   refine ab Q i _ ?_;have B:(I.toList.take (g.length*1))[i]?=some u:=by rw[O];exact hu
   rw[bJ,ag (by omega)]at B;simpa using B
  obtain⟨V,N⟩:=M;rcases N with⟨t,S⟩|⟨E,G,T,t,Y,C,X,a1,a4,P⟩
  ·exact⟨q,none,0,rfl,by rw[hc,t,S],fun j n=>by omega⟩
  ·refine⟨q,some ⟨E,0,none⟩,G,rfl,by rw[hc,t],fun j n=>⟨E,rfl,?_⟩⟩;have d:=EN g[i] j n;rw[<- P,bJ,bJ,ag (by omega),ag (by omega)]at d;exact⟨ab C _ _ (by simpa using d.1),ab C _ _ (by simpa using d.2)⟩
theorem eW.M8{w:World}{b N x:Nat}{D:DataW Unit}{S:Nat->Prop}(h:eW w b N D S)(u:x<N)(t:¬S x):Maps.size D<N:=by
 obtain⟨j,rfl,q,i⟩:=h.own.entries gx;have e:((List.range N).map fun x:Nat=>Lit.int .i64 (x:Int)).length=N:=by simp
 have o:(Lit.int .i64 (x:Int)::j.map Prod.fst).Nodup:=by
  rw[mh];refine⟨fun n=>t ?_,nX q⟩;obtain⟨p,d,e⟩:=aN.1 n;have h1:=nR d (i p d);rw[e]at h1;exact(h.mem x).1 h1
 have:=q1 (l₂:=(List.range N).map fun x:Nat=>Lit.int .i64 (x:Int)) o (by
  intro kl g;rw[aT]at g;rcases g with rfl|g
  ·exact aN.2 ⟨x,ja.2 u,rfl⟩
  ·obtain⟨p,d,rfl⟩:=aN.1 g;obtain⟨y,v,e⟩:=h.key _ (nR d (i p d));exact aN.2 ⟨y,ja.2 v,e.symm⟩)
 rw[bT,e,b5]at this;rw[Maps.size_eq];omega
theorem pC(w:World)(b N x:Nat)(S:Nat->Prop)(h:be w b N S)(e:x<=1000000):Calls prog 209 #[.map (some b),.int .i64 x] w fun r w'=>∃c,r=.returned (.bool c)/\(c=true↔S x)/\Below w.heap.size w w':=by
 obtain⟨D,d⟩:=h;have a:Hid (eW w b N D S):=d;clear d;go_enter func209,ntmps209;go_wp2_with (at_lookup;refine wpList_lookup_own_unit _ rfl _ _ 296 rfl 3 338 gx Tryz.lH (IW _) b (Maps.size D) D rfl a.out.own _ _ rfl (lu x e) ?_);go_ret;exact⟨_,rfl,a.out.mem x,(aB _ _).alloc (ar _) _⟩
theorem Ge{w:World}{d:Option Addr}{au:Nat}{g:List (List (Nat×Nat))}{a:Nat}(h:mx w (.slice d g.length au) g)(j:a<g.length):∃q b c,d=some ⟨q,0,none⟩/\w.cell? ⟨q,a,none⟩=some (.slice b g[a].length c):=by
 obtain⟨l,m,e,k⟩:=h.form;injection e with f _ _
 subst f;obtain⟨q,b,c,h1,i,_⟩:=k a j;exact⟨q,b,c,h1,i⟩
theorem Cx{w:World}{q au d:Nat}{c:Option Addr}{g:List (List (Nat×Nat))}{a j:Nat}(h:mx w (.slice (some ⟨q,0,none⟩) g.length au) g)(l:a<g.length)(hc:w.cell? ⟨q,a,none⟩=some (.slice c g[a].length d))(n:j<g[a].length):∃b,c=some ⟨b,0,none⟩/\w.cell? ⟨b,j*2,none⟩=some (.int .u8 g[a][j].1)/\w.cell? ⟨b,j*2+1,none⟩=some (.int .i64 g[a][j].2):=by
 obtain⟨o,r,e,m⟩:=h.form;injection e with f _ _
 subst f;obtain⟨t,p,s,h1,i,k⟩:=m a l;simp at h1;subst h1;rw[i]at hc;simp at hc;obtain⟨rfl,_⟩:=hc;exact k j n
def y4(g:List (List (Nat×Nat)))(b:Nat)(S:Nat->Prop)(a:Nat)(w:World)(r:Ending)(w':World):Prop :=
 r=.returned (.tuple #[])/\(∃R,be w' b g.length R/\xx g S R a)/\bj (fun k=>k=b) w w'
theorem kM{g:List (List (Nat×Nat))}{a:Nat}(h:a<g.length):fY g a=g[a]:=by unfold fY;rw[ax h];rfl
theorem DJ(g:List (List (Nat×Nat)))(hg:OT g)(v:Value):∀(m:Nat) (w:World) (b:Nat) (D:DataW Unit) (S:Nat->Prop) (a:Nat),mx w v g->eW w b g.length D S->g.length<=m+Maps.size D->a<g.length ->Calls prog 178 #[v,.map (some b),.int .i64 a] w (y4 g b S a w):=by
 intro m
 induction m with
 | zero =>
  intro w b D S a o n c0 f;have p:S a:=by
   by_cases hc:S a
   ·exact hc
   ·have:=n.M8 f hc;omega
  have d:Hid (eW w b g.length D S):=n;have hlen:=hg.len;obtain⟨F,au,rfl,_⟩:=o.form;clear n o;go_enter func178,ntmps178;go_wp2_with fail;refine(pC w b _ a S ⟨D,d.out⟩ (by omega)).mono ?_;rintro r P ⟨c,rfl,hc,hb⟩;obtain rfl:c=true:=hc.2 p;go_wp2_with fail
  go_end0
  exact⟨rfl,⟨S,be.below ⟨D,d.out⟩ hb,fun _ h=>h,p,fun x O M=>absurd O M⟩,bj.aL hb⟩
 | succ m a5 =>
  intro w b D S a o n c0 f;have d:Hid (eW w b g.length D S):=n;have U:Hid (mx w v g):=o;have hlen:=hg.len;obtain⟨F,au,rfl,_⟩:=o.form;have b0:Hid (∀(w:World) (b:Nat) (D:DataW Unit) (S:Nat->Prop) (a:Nat),mx w (.slice F g.length au) g->eW w b g.length D S->g.length<=m+Maps.size D->a<g.length->Calls prog 178 #[.slice F g.length au,.map (some b),.int .i64 a] w (y4 g b S a w)):=a5;clear n o a5;go_enter func178,ntmps178;go_wp2_with fail;refine(pC w b _ a S ⟨D,d.out⟩ (by omega)).mono ?_;rintro r P ⟨c,rfl,hc,hb⟩;have A:Hid (Below w.heap.size w P):=hb;have z:Hid (eW P b g.length D S):=d.out.kept (hb.block b d.out.da);clear hb;cases c
  ·have p:¬S a:=fun e=>by have:=hc.2 e;cases this
   have c8:=d.out.size_le;have b9:=lu a (by omega);have c7:=hg.row g[a] (bl f);obtain⟨q,b4,b5,c1,a0⟩:=Ge U.out f;subst c1;have V:Hid (w.cell? ⟨q,a,none⟩=some (.slice b4 g[a].length b5)):=a0;clear a0;go_wp2_with (at_mapUpdate;refine wpList_mapUpdate_own _ rfl _ _ _ 296 rfl 3 338 gx Tryz.lH unitElem b (Maps.size D) D rfl z.out.own (by unfold maxLen;omega) _ _ (.int .i64 a) rfl rfl b9 (.agg []) [] unitElem_mk ?_;intro a6 a2 a1;have Q:Hid (bj (fun k=>k=b) w a6):=(bj.aL A.out).grown a1 (fun k e=>ac (g8 e).symm);have b2:Hid (eW a6 b g.length (D.put (.int .i64 a) (.agg [])) (fun y=>S y\/y=a)):=z.out.put f a2;clear a2 a1;have c5:=(n9.C3 Q.out ⟨D,d.out⟩).cell V.out);have b6:=z.out.J6 p
   go_loopg [19] g[a].length (fun b8 c4 a8=>∃i:Nat,i<=g[a].length/\b8=g[a].length-i/\c4=.int .i64 i/\∃R j,eW a8 b g.length j R/\Hid (ez g S R a i)/\Hid (Maps.size D+1<=Maps.size j)/\Hid (bj (fun k=>k=b) w a8))
   case atStart=>exact⟨0,aJ _,rfl,rfl,_,_,b2.out,ez.start g S a,(by show _<=_;rw[b6];exact ar _),Q⟩
   case round =>
    obtain⟨i,hi,rfl,rfl,R,j,Z,H,K,s⟩:=hrel;obtain⟨w3,c3⟩:∃w3,w3=wr:=⟨wr,rfl⟩;subst c3;have l:Hid (eW w3 b g.length j R):=Z;have B:=n9.C3 s.out ⟨D,d.out⟩;have T:Hid (mx w3 (.slice (some ⟨q,0,none⟩) g.length au) g):=U.out.tE B;have a3:=B.cell V.out;clear Z B
    by_cases L:i<g[a].length
    ·obtain⟨e0,c2,W,X⟩:=Cx T.out f a3 L;subst c2;have N:=hg.ib g[a] (bl f) g[a][i] (bl L);have J:Hid ((fY g a)[i]?=some g[a][i]):=by show _=_;rw[kM f];exact ax L
     generalize g[a][i]=b7 at W X N J;obtain⟨t,y⟩:=b7;simp only at W X N;clear a3
     by_cases a4:t=0
     ·subst a4;go_wp2_with fail;refine(b0.out _ b j R y (T.out.below (af _ _)) (l.out.kept (aW _ _ _ l.out.da)) (by have:=K.out;omega) N.1).mono ?_;rintro r a7 ⟨rfl,⟨C,⟨u,G⟩,I⟩,Y⟩;have b3:Hid (eW a7 b g.length u C):=G;have a9:Hid (bj (fun k=>k=b) w a7):=(s.out.alloc _).trans Y;have E:Hid (ez g S C a (i+1)):=H.out.next J.out I;have b1:Hid (Maps.size D+1<=Maps.size u):=aE K.out (l.out.qd G I.AX);clear G Y I;go_wp2_with fail;go_roundg (g[a].length-(i+1))
      case measure=>omega
      case rel=>exact⟨i+1,by omega,rfl,by go_num,C,u,b3.out,E,b1,a9⟩
     ·have c9:¬((t:Int)=0):=by omega
      have E:Hid (ez g S R a (i+1)):=H.out.skip J.out a4;go_wp2_with fail;go_roundg (g[a].length-(i+1))
      case measure=>omega
      case rel=>exact⟨i+1,by omega,rfl,by go_num,R,j,l.out.kept (aW _ _ _ l.out.da),E,K,s.out.alloc _⟩
    ·go_wp2_with fail
     go_end0
     exact⟨rfl,⟨R,⟨j,l.out⟩,H.out.LD (by rw[kM f];omega)⟩,s.out⟩
  ·have p:S a:=hc.1 rfl;go_wp2_with fail
   go_end0
   exact⟨rfl,⟨S,be.below ⟨D,d.out⟩ A.out,fun _ h=>h,p,fun x O M=>absurd O M⟩,bj.aL A.out⟩
def pV(g:List (List (Nat×Nat)))(a:Nat×Nat×Nat):List (List (Nat×Nat)):=g.modify a.1 (·++[a.2])
def gS(a:Bool)(i:Nat)(s:St):List (Nat×Nat×Nat):=s.2.map fun u=>if a=true then (i,s.1,u)else (u,s.1,i)
def cC(a:Bool):List St->Nat->List (Nat×Nat×Nat)
 | [],_=>[]
 | s::r,i=>gS a i s++cC a r (i+1)
def mz(n:Nat)(A:List (Nat×Nat×Nat)):List (List (Nat×Nat)):=A.foldl pV (List.replicate n [])
def av(a:Bool)(S:List St):List (List (Nat×Nat)):=mz S.length (cC a S 0)
theorem pU(g:List (List (Nat×Nat)))(a:Nat×Nat×Nat):(pV g a).length=g.length:=by unfold pV;simp
theorem wS(A:List (Nat×Nat×Nat)):∀g:List (List (Nat×Nat)),(A.foldl pV g).length=g.length:=by
 induction A with
 | nil=>intro g;rfl
 | cons a A b=>intro g;rw[jb,b,pU]
theorem fJ(n:Nat)(A:List (Nat×Nat×Nat)):(mz n A).length=n:=by unfold mz;rw[wS];simp
theorem pE(n:Nat)(A:List (Nat×Nat×Nat))(a:Nat×Nat×Nat):mz n (A++[a])=pV (mz n A) a:=by unfold mz;rw[e0];rfl
theorem AI{g:List (List (Nat×Nat))}{a:Nat×Nat×Nat}{i:Nat}{l:List (Nat×Nat)}(h:(pV g a)[i]?=some l):(i≠a.1/\g[i]?=some l)\/(i=a.1/\∃b,g[i]?=some b/\l=b++[a.2]):=by
 unfold pV at h;rw[qY]at h
 by_cases e:a.1=i
 ·right;subst e;simp at h;obtain⟨b,h1,rfl⟩:=h;exact⟨rfl,_,h1,rfl⟩
 ·left;refine⟨fun c=>e c.symm,?_⟩;cases hS:g[i]? with
  | none=>rw[hS]at h;simp at h
  | some x=>rw[hS]at h;simp[e]at h;rw[h]
theorem Aj(n:Nat):∀(B A:List (Nat×Nat×Nat)),A.reverse=B->∀l∈mz n A,l.length<=A.length:=by
 intro B
 induction B with
 | nil =>
  intro A e l a;have:A=[]:=by simpa using e
  subst this;unfold mz at a;simp at a;rw[a.2];simp
 | cons b B c =>
  intro A e l a;have:A=B.reverse++[b]:=by rw[<- List.reverse_cons,<- e];simp
  subst this;rw[pE]at a;obtain⟨i,hi⟩:=e3.1 a;have h0:=c B.reverse (by simp);rcases AI hi with⟨_,h1⟩|⟨_,d,h1,rfl⟩
  ·have:=h0 l (bC h1);simp at this ⊢;omega
  ·have:=h0 d (bC h1);simp at this ⊢;omega
theorem Gd(n:Nat)(x:Nat)(f:x<n)(e:Nat×Nat):∀(B A:List (Nat×Nat×Nat)),A.reverse=B->(e∈fY (mz n A) x↔(x,e)∈A):=by
 intro B
 induction B with
 | nil =>
  intro A h;have:A=[]:=by simpa using h
  subst this;unfold fY mz;simp[f]
 | cons b B k =>
  intro A h;have:A=B.reverse++[b]:=by rw[<- List.reverse_cons,<- h];simp
  subst this;have h0:=k B.reverse (by simp);rw[pE,aR,<- h0];have c:x<(mz n B.reverse).length:=by rw[fJ];exact f
  have d:x<(pV (mz n B.reverse) b).length:=by rw[pU];exact c
  have g:fY (mz n B.reverse) x=(mz n B.reverse)[x]:=kM c;have i:fY (pV (mz n B.reverse) b) x=(pV (mz n B.reverse) b)[x]:=kM d;rw[g,i];rcases AI (ax d)with⟨h1,a⟩|⟨h1,l,a,j⟩
  ·rw[ax c]at a;simp at a;rw[<- a];constructor
   ·exact ah
   ·rintro(h|h)
    ·exact h
    ·simp at h;exact absurd (ej Prod.fst h) h1
  ·rw[ax c]at a;simp at a;rw[j,<- a,aR,List.mem_singleton,List.mem_singleton];constructor
   ·rintro(h|h)
    ·exact ah h
    ·exact ac (by rw[h1,h])
   ·rintro(h|h)
    ·exact ah h
    ·exact ac (by rw[<- h])
theorem rz(c:Bool)(x:Nat×Nat×Nat):∀(S:List St) (i:Nat),x∈cC c S i↔∃(j:Nat) (s:St),S[j]?=some s/\x∈gS c (i+j) s:=by
 intro S
 induction S with
 | nil=>intro i;simp[cC]
 | cons s S d =>
  intro i;rw[cC,aR,d];constructor
  ·rintro(h|⟨j,b,h1,a⟩)
   ·exact⟨0,s,rfl,by simpa using h⟩
   ·exact⟨j+1,b,by simpa using h1,by rw[show i+(j+1)=i+1+j from by omega];exact a⟩
  ·rintro⟨j,b,h1,a⟩;cases j with
   | zero=>simp at h1;subst h1;exact ah (by simpa using a)
   | succ j=>exact ac ⟨j,b,by simpa using h1,by rw[show i+1+j=i+(j+1) from by omega];exact a⟩
theorem rQ(a:Bool):∀(S:List St) (i:Nat),(cC a S i).length=lg S:=by
 intro S
 induction S with
 | nil=>intro i;rfl
 | cons s S b=>intro i;rw[cC,aF,b];simp[gS,lg]
theorem xp(a:Bool):∀(S R:List St) (i:Nat),cC a (S++R) i=cC a S i++cC a R (i+S.length):=by
 intro S
 induction S with
 | nil=>intro R i;rfl
 | cons s S b=>intro R i;rw[jd,cC,cC,b,eG,bT,show i+1+S.length=i+(S.length+1) from by omega]
def bQ(a:Bool)(S:List St)(i j:Nat):List (Nat×Nat×Nat):=cC a (S.take i) 0++((S[i]?).map fun s=>(gS a i s).take j).getD []
theorem oe(a:Bool)(S:List St)(i:Nat)(h:i<S.length):bQ a S i 0=cC a (S.take i) 0:=by unfold bQ;rw[ax h];simp
theorem ph(a:Bool)(S:List St)(i j:Nat)(hi:i<S.length)(b:j<(S[i]'hi).2.length):bQ a S i (j+1)=bQ a S i j++[if a=true then (i,(S[i]'hi).1,(S[i]'hi).2[j]'b)else ((S[i]'hi).2[j]'b,(S[i]'hi).1,i)]:=by
 unfold bQ;rw[ax hi];simp only[cU,Option.getD_some];rw[eG,lc];congr 2;unfold gS;rw[cV,ax b];rfl
theorem rp(a:Bool)(S:List St)(i:Nat)(hi:i<S.length):bQ a S i (S[i]'hi).2.length=cC a (S.take (i+1)) 0:=by
 unfold bQ;rw[ax hi,lc,ax hi];simp only[cU,Option.getD_some,Option.toList_some];have e:(gS a i (S[i]'hi)).take (S[i]'hi).2.length=gS a i (S[i]'hi):=gj (by simp[gS]);rw[xp,e];congr 1;rw[cz,Nat.min_eq_left (Nat.le_of_lt hi),k9];simp[cC]
theorem Ji(S:List St):∀i,lg (S.take i)<=lg S:=by
 intro i;have:lg S=lg (S.take i)+lg (S.drop i):=by
  unfold lg;rw[<- List.sum_append,<- c9,List.take_append_drop]
 omega
theorem DC(S:List St)(i:Nat)(hi:i<S.length):lg (S.take i)+(S[i]'hi).2.length<=lg S:=by
 have h:=Ji S (i+1);have e:lg (S.take (i+1))=lg (S.take i)+(S[i]'hi).2.length:=by
  unfold lg;rw[lc,ax hi,c9,List.sum_append];simp
 omega
theorem ro(a:Bool)(S:List St)(i j:Nat)(hi:i<S.length):(bQ a S i j).length<=lg S:=by
 unfold bQ;rw[ax hi];have h:=DC S i hi;simp only[cU,Option.getD_some,aF,rQ,cz];have:(gS a i (S[i]'hi)).length=(S[i]'hi).2.length:=by simp[gS]
 omega
structure AZ (S:List St):Prop where
 len:S.length<=9000
 O2:lg S<=9000
 kind:∀s∈S,s.1<256
 ib:∀s∈S,∀t∈s.2,t<S.length
theorem fA(a:Bool)(S:List St):(av a S).length=S.length:=fJ _ _
theorem ly(c:Bool)(S:List St)(x:Nat)(e:Nat×Nat)(f:x<S.length):e∈fY (av c S) x↔∃(j:Nat) (s:St),S[j]?=some s/\e.1=s.1/\(if c=true then x=j/\e.2∈s.2 else e.2=j/\x∈s.2):=by
 unfold av;rw[Gd _ _ f e _ _ rfl,rz];constructor
 ·rintro⟨j,s,h1,b⟩;unfold gS at b;rw[aN]at b;obtain⟨t,a,d⟩:=b;refine⟨j,s,h1,?_⟩;cases c
  ·simp at d;obtain⟨rfl,rfl⟩:=d;exact⟨rfl,by simp[a]⟩
  ·simp at d;obtain⟨rfl,rfl⟩:=d;exact⟨rfl,by simp[a]⟩
 ·rintro⟨j,s,h1,b,a⟩;refine⟨j,s,h1,?_⟩;unfold gS;rw[aN];cases c
  ·simp at a;exact⟨x,a.2,by simp;rw[<- a.1,<- b]⟩
  ·simp at a;exact⟨e.2,a.2,by simp;rw[<- b];exact⟨a.1.symm,rfl⟩⟩
theorem wM(a:Bool)(S:List St)(h:AZ S):OT (av a S):=by
 refine⟨by rw[fA];exact h.len,fun l c=>?_,?_⟩
 ·have:=Aj S.length _ (cC a S 0) rfl l c;rw[rQ]at this;have:=h.O2;omega
 ·intro l c e f;obtain⟨x,d,rfl⟩:=List.mem_iff_getElem.1 c;rw[<- kM d]at f;rw[fA]at d;obtain⟨j,s,h1,i,b⟩:=(ly a S x e d).1 f;have g:=bC h1;have k:=(a1.1 h1).1;refine⟨?_,by rw[i];exact h.kind s g⟩;rw[fA];cases a
  ·simp at b;omega
  ·simp at b;exact h.ib s g _ b.2
theorem Tryz.K4:(prog.info? 301).map (fun i=>(i.zero,i.size,i.bytes))=some (some (.slice none 0 0),1,24):=by kernel_rfl
theorem Tryz.Jg:prog.underlying 229=some (.slice 301):=by kernel_rfl
theorem wu(v:Value)(n:Nat):(madeCells #[v] n).toList=List.replicate n v:=by
 unfold madeCells;simp[Nat.mod_one];apply List.ext_getElem
 ·simp
 ·intro i h1 a;simp
theorem ws(W:World)(n:Nat)(d:n<=9000):(Instr.makeSlice 229 (.int .i64 n) (.int .i64 n)).run prog W=.ok (.slice (some ⟨W.heap.size,0,none⟩) n n) (W.alloc (.cells (madeCells #[.slice none 0 0] n) 301)):=by
 obtain⟨i,hi,a,b,c⟩:=info_parts Tryz.K4;have h:=run_make (P:=prog) W 229 301 i (.slice none 0 0) Tryz.Jg hi a .i64 .i64 n n (by omega) (by omega) (by rw[c];omega) (by omega);rw[b]at h;simpa[Value.cells]using h
theorem yI(W:World)(n:Nat)(c:n<=9000):kC (W.alloc (.cells (madeCells #[.slice none 0 0] n) 301)) W.heap.size (.slice (some ⟨W.heap.size,0,none⟩) n n) (List.replicate n []) (List.replicate n (.slice none 0 0)):=by
 refine⟨by simp,⟨by simp,ac ⟨W.heap.size,n,_,by simp,ar _,aw W _,by simp,by unfold maxLen;omega,by simp[size_madeCells],?_⟩⟩,?_,?_⟩
 ·rw[wu];simp
 ·intro i u l hu a;rw[fj]at hu a;split at hu
  ·rw[ag (by assumption)]at a;cases hu;cases a;exact cq _ _ _ _
  ·cases hu
 ·intro i j u v k _ hu _ b;rw[fj]at hu;split at hu
  ·cases hu;simp[Value.ownBlock]at b
  ·cases hu
theorem Fm(w:World)(t y:Nat):∀(j:Nat) (u:Value),[Value.int .u8 t,.int .i64 y][j]?=some u->(w.alloc (.cells #[.int .u8 t,.int .i64 y] 303)).drew.cell? ⟨w.heap.size,j,none⟩=some u:=fun j u hu=>ab (aw w _) j u (by simpa using hu)
theorem kC.add{w G:World}{base I au i:Nat}{t y:Nat}{u v:Value}{g:List (List (Nat×Nat))}{A:List Value}(h:kC w base (.slice (some ⟨I,0,none⟩) g.length au) g A)(hi:i<g.length)(hu:A[i]?=some u) (U:G.ownsRow base 301 1 (.slice (some ⟨I,0,none⟩) g.length au) g.length (A.set i v)) (T:∀(k:Nat),some k≠u.ownBlock->(∃Q,w.heap[k]?=some (.cells Q 303 (0,0)))->G.heap[k]?=w.heap[k]?) (V:G.ownsRow base 303 2 v (g[i].length+1) (dx g[i]++[.int .u8 t,.int .i64 y])) (E:v.ownBlock=u.ownBlock\/∃k,v.ownBlock=some k/\w.heap.size<=k):kC G base (.slice (some ⟨I,0,none⟩) g.length au) (pV g (i,t,y)) (A.set i v):=by
 have O:=h.len;have at_:∀(j:Nat) (x:Value),(A.set i v)[j]?=some x->(j≠i/\A[j]?=some x)\/(j=i/\x=v):=by
  intro j x d
  by_cases e:j=i
  ·right;subst e;rw[oW (by omega)]at d;simp at d;exact⟨rfl,d.symm⟩
  ·left;rw[qZ (fun R=>e R.symm)]at d;exact⟨e,d⟩
 have M:∀(j:Nat) (x:Value) (k:Nat),j≠i->A[j]?=some x->x.ownBlock=some k->v.ownBlock≠some k:=by
  intro j x k K d o e;rcases E with E|⟨k',E,W⟩
  ·exact h.apart j i x u k K d hu o (by rw[<- E];exact e)
  ·have S:j<g.length:=by rw[<- O];exact(a1.1 d).1
   have:=((h.ib j x _ d (ax S)).lt k o).2;rw[E]at e;simp at e;omega
 refine⟨by rw[jc,pU];exact O,by rw[pU];exact U,?_,?_⟩
 ·intro j x l d K;rcases AI K with⟨h1,B⟩|⟨h1,X,B,rfl⟩
  ·rcases at_ j x d with⟨n,q⟩|⟨n,q⟩
   ·have h0:=h.ib j x l q B;refine qg h0 fun k o=>T k (fun e=>?_) (bh h0 k o)
    exact h.apart j i x u k n q hu o e.symm
   ·exact absurd n h1
  ·simp only at h1;subst h1;rcases at_ j x d with⟨n,q⟩|⟨n,rfl⟩
   ·exact absurd rfl n
   ·rw[ax hi]at B;simp at B;subst B;rw[Au,aF];exact V
 ·intro j F x H k N d P o;rcases at_ j x d with⟨n,q⟩|⟨n,rfl⟩
  ·rcases at_ F H P with⟨C,J⟩|⟨C,rfl⟩
   ·exact h.apart j F x H k N q J o
   ·exact M j x k n q o
  ·rcases at_ F H P with⟨C,J⟩|⟨C,rfl⟩
   ·intro e;exact M F H k C J e o
   ·exact absurd (n.trans C.symm) N
theorem jT{w:World}{base:Nat}{e:TypeId}{v:Value}{n:Nat}{us:List Value}(h:w.ownsRow base e 1 v n us):∃b au,v=.slice b n au/\∀i (u:Value),us[i]?=some u->i<n->∃g,b=some ⟨g,0,none⟩/\g<w.heap.size/\w.cell? ⟨g,i,none⟩=some u:=by
 obtain⟨m,j⟩:=h;rcases j with⟨a,l⟩|⟨g,au,f,a,hg,d,o,p,q,k⟩
 ·exact⟨none,0,by rw[a,l],fun i u hu hi=>by omega⟩
 ·refine⟨some ⟨g,0,none⟩,au,a,fun i u hu hi=>⟨g,rfl,an d,ab d i _ ?_⟩⟩;have c:(f.toList.take (n*1))[i]?=some u:=by rw[k];exact hu
  rw[bJ,ag (by omega)]at c;simpa using c
theorem nI{w:World}{base:Nat}{e:TypeId}{size:Nat}{v:Value}{n:Nat}{us:List Value}(h:w.ownsRow base e size v n us)(_hb:0<=base):w.ownsRow 0 e size v n us:=by
 refine⟨h.1,?_⟩;rcases h.2 with b|⟨g,au,a,c,_,r⟩
 ·exact ah b
 ·exact ac ⟨g,au,a,c,aJ _,r⟩
theorem m5(l:List Nat)(j:Nat)(h:j<l.length):(aP l)[j]?=some (.int .i64 (l[j]:Nat)):=by unfold aP;rw[cV,ax h];rfl
theorem kC.cell{w:World}{base j au n i:Nat}{g:List (List (Nat×Nat))}{o:List Value}(h:kC w base (.slice (some ⟨j,0,none⟩) n au) g o)(H:g.length=n)(hi:i<n):∃d c,o[i]?=some (.slice d (g[i]'(by omega)).length c)/\w.cell? ⟨j,i,none⟩=some (.slice d (g[i]'(by omega)).length c)/\w.ownsRow base 303 2 (.slice d (g[i]'(by omega)).length c) (g[i]'(by omega)).length (dx (g[i]'(by omega)))/\∃q,w.heap[j]?=some (.cells q 301 (0,0)):=by
 have G:=h.len;obtain⟨u,hu⟩:∃u,o[i]?=some u:=⟨o[i]'(by omega),ax (by omega)⟩;have h0:=h.ib i u _ hu (ax (by omega));obtain⟨d,c,rfl⟩:=ak h0;obtain⟨A,B,e,y⟩:=jT h.row;injection e with t C E
 obtain⟨F,v,_,hc⟩:=y i _ hu (by omega);rw[v]at t;cases t;obtain⟨q,x⟩:=bh h.row j rfl;exact⟨d,c,hu,hc,h0,q,x⟩
theorem Gz{w w':World}{base e n i t y:Nat}{l:List (Nat×Nat)}{a b:Option Addr}{c d:Nat}{g:List (List (Nat×Nat))}{m:List Value}{o:Obj}(hg:kC w base (.slice (some ⟨e,0,none⟩) n n) g m)(v:g.length=n)(hi:i<n)(r:g[i]?=some l)(hu:m[i]?=some (.slice a l.length c)) (A:w.ownsRow base 303 2 (.slice a l.length c) l.length (dx l)) (q:(w.alloc o).drew.grownBy w' (Value.ownBlock (.slice a l.length c))) (x:w'.ownsRow base 303 2 (.slice b (l.length+1) d) (l.length+1) (dx l++[.int .u8 t,.int .i64 y])) (B:eX (w.alloc o).drew (.slice a l.length c) (.slice b (l.length+1) d)) {s:Array Value} (p:w'.heap[e]?=some (.cells s 301 (0,0))):kC (w'.setCell ⟨e,i,none⟩ (.slice b (l.length+1) d)) base (.slice (some ⟨e,0,none⟩) n n) (pV g (i,t,y)) (m.set i (.slice b (l.length+1) d)):=by
 subst v;have u:g[i]'hi=l:=by rw[ax hi]at r;simpa using r
 have z:(w.alloc o).drew.ownsRow base 303 2 (.slice a l.length c) l.length (dx l):=al A (Kp.alloc (Kp.refl _ w) o);refine hg.add hi hu ?_ ?_ ?_ ?_
 ·have j:Kp 301 w w':=(Kp.alloc (Kp.refl _ w) o).grown (w:=(w.alloc o).drew) z q (by decide);exact tx (al hg.row j) _ _
 ·rintro k j ⟨C,f⟩;have h1:w'.heap[k]?=w.heap[k]?:=(q.block k (by have:=an f;show k<(w.alloc o).heap.size;simp;omega) j).trans (aW _ _ _ (an f));rw[e2 _ _ _ _ (dI (h1.trans f) p (by decide))];exact h1
 ·rw[u];exact al x ((Kp.refl _ _).setCell p (by decide) _)
 ·rcases B with h|h
  ·exact ah h
  ·exact ac ⟨_,h,by show w.heap.size<=(w.alloc o).heap.size;simp⟩
theorem yL(S:List St)(T:Value)(b4:List Value)(first:Int)(w:World)(M:dH w 0 T S b4)(hS:AZ S):Calls prog 136 #[.agg #[T,.int .i64 first]] w fun r w'=>∃v,r=.returned v/\mx w' v (av true S)/\Below w.heap.size w w':=by
 have X:Hid (dH w 0 T S b4):=M;obtain⟨B,au,rfl⟩:=ak M.row;have hlen:=hS.len;have h3:=hS.O2;clear M;have h0:=fun W=>ws W S.length hlen
 have H:=yI (w.alloc (.cells #[.slice B S.length au,.int .i64 first] 146)) S.length hlen;have c4:(w.alloc (.cells #[.slice B S.length au,.int .i64 first] 146)).heap.size=w.heap.size+1:=by simp
 rw[c4]at H;have b9:Hid (kC ((w.alloc (.cells #[.slice B S.length au,.int .i64 first] 146)).alloc (.cells (madeCells #[.slice none 0 0] S.length) 301)) (w.heap.size+1) (.slice (some ⟨w.heap.size+1,0,none⟩) S.length S.length) (mz S.length (cC true (S.take 0) 0)) (List.replicate S.length (.slice none 0 0))):=H;have b5:Hid (Below w.heap.size w ((w.alloc (.cells #[.slice B S.length au,.int .i64 first] 146)).alloc (.cells (madeCells #[.slice none 0 0] S.length) 301))):=(af w _).alloc (by simp) _;clear H;go_enter func136,ntmps136;go_wp2_with fail
 go_loopg [15] S.length (fun K e8 q=>∃i:Nat,i<=S.length/\K=S.length-i/\e8=.int .i64 i/\∃f,Hid (kC q (w.heap.size+1) (.slice (some ⟨w.heap.size+1,0,none⟩) S.length S.length) (mz S.length (cC true (S.take i) 0)) f)/\Hid (Below w.heap.size w q))
 case atStart=>exact⟨0,aJ _,rfl,rfl,_,b9,b5⟩
 case round =>
  obtain⟨i,hi,rfl,rfl,f,a8,s⟩:=hrel;obtain⟨d,e6⟩:∃d,d=wr:=⟨wr,rfl⟩;subst e6
  by_cases c:i<S.length
  ·obtain⟨a6,g1,g2,c5,b1,_,u,hu,a2,a3⟩:=X.out.cells i c;injection c5 with c7 g6 c8
   subst c7;subst c8;have b3:=X.out.ib i u _ hu (ax c);obtain⟨m,n,rfl,b0⟩:=jT b3;have b8:Hid (∀j (x:Value),(aP S[i].2)[j]?=some x->j<S[i].2.length->∃g,m=some ⟨g,0,none⟩/\g<w.heap.size/\w.cell? ⟨g,j,none⟩=some x):=b0;have d0:=(s.out.cell (p:=⟨a6,i*2,none⟩) (an b1)).trans a2;have d1:=(s.out.cell (p:=⟨a6,i*2+1,none⟩) (an b1)).trans a3;have e4:=s.out.size;have h2:=DC S i c;have V:Hid (kC (d.alloc (.cells #[.int .u8 (S[i].1:Nat),.slice m S[i].2.length n] 293)) (w.heap.size+1) (.slice (some ⟨w.heap.size+1,0,none⟩) S.length S.length) (mz S.length (bQ true S i 0)) f):=by rw[oe true S i c];exact a8.out.tE (n9.below (af _ _))
   have Y:Hid ((d.alloc (.cells #[.int .u8 (S[i].1:Nat),.slice m S[i].2.length n] 293)).heap[d.heap.size]?=some (.cells #[.int .u8 (S[i].1:Nat),.slice m S[i].2.length n] 293 (0,0))):=aw d _;have U:Hid (Below w.heap.size w (d.alloc (.cells #[.int .u8 (S[i].1:Nat),.slice m S[i].2.length n] 293))):=s.out.alloc e4 _;clear a2 a3 b3 b0;go_wp2_with fail
   go_loopg [23] S[i].2.length (fun K e9 q=>∃j:Nat,j<=S[i].2.length/\K=S[i].2.length-j/\e9=.int .i64 j/\∃f,Hid (kC q (w.heap.size+1) (.slice (some ⟨w.heap.size+1,0,none⟩) S.length S.length) (mz S.length (bQ true S i j)) f)/\Hid (q.heap[d.heap.size]?=some (.cells #[.int .u8 (S[i].1:Nat),.slice m S[i].2.length n] 293 (0,0)))/\Hid (Below w.heap.size w q))
   case atStart=>exact⟨0,aJ _,rfl,rfl,f,V,Y,U⟩
   case round =>
    obtain⟨j,g9,rfl,rfl,G,L,E,D⟩:=hrel;obtain⟨b,e7⟩:∃b,b=wr:=⟨wr,rfl⟩;subst e7;clear V Y U d0 d1;have e5:=D.out.size
    by_cases F:j<S[i].2.length
    ·obtain⟨a7,rfl,c9,a4⟩:=b8.out j _ (m5 _ j F) F;have g4:=(D.out.cell (p:=⟨a7,j,none⟩) c9).trans a4;have g0:=ab E.out 0 _ rfl;have h8:=ab E.out 1 _ rfl;have h5:S[i].2[j]<S.length:=hS.ib S[i] (bl c) _ (bl F);have c1:Hid (bQ true S i (j+1)=bQ true S i j++[(i,S[i].1,S[i].2[j])]):=by show _=_;have:=ph true S i j c F;simpa using this
     obtain⟨C,cr,R,N,Q,a5,a9⟩:=L.out.cell (i:=i) (fJ _ _) c;have O:(mz S.length (bQ true S i j))[i]?=some ((mz S.length (bQ true S i j))[i]'(by rw[fJ];exact c)):=ax _;have e3:((mz S.length (bQ true S i j))[i]'(by rw[fJ];exact c)).length<=9000:=by
      have h1:=Aj S.length _ (bQ true S i j) rfl _ (bl (by rw[fJ];exact c));have g7:=ro true S i j c;omega
     generalize (mz S.length (bQ true S i j))[i]'(by rw[fJ];exact c)=l at R N Q O e3;generalize h6:S[i].2[j]=y at *;generalize h4:S[i].1=tk at *;have c2:Hid (G[i]?=some (.slice C l.length cr)):=R;have a0:Hid (b.ownsRow (w.heap.size+1) 303 2 (.slice C l.length cr) l.length (dx l)):=Q;have c0:Hid ((mz S.length (bQ true S i j))[i]?=some l):=O;have I:Hid (b.heap[w.heap.size+1]?=some (.cells a5 301 (0,0))):=a9;clear R Q O a9 a4;have A:Hid ((b.alloc (.cells #[.int .u8 (tk:Nat),.int .i64 (y:Nat)] 303)).drew.ownsRow (w.heap.size+1) 303 2 (.slice C l.length cr) l.length (dx l)):=al a0.out (Kp.alloc (Kp.refl _ b) _);have a1:w.heap.size+1<=(b.alloc (.cells #[.int .u8 (tk:Nat),.int .i64 (y:Nat)] 303)).drew.heap.size:=by show _<=(b.alloc _).heap.size;simp;omega
     have g8:=fun o=>((af b o).cell (p:=⟨w.heap.size+1,i,none⟩) (an I.out)).trans N
     have h7:=fun o=>((af b o).cell (p:=⟨d.heap.size,0,none⟩) (an E.out)).trans g0
     go_wp2_with fail
     go_region_law
      (refine dz rfl (.tmp 32) (.tmp 37) 301 rfl (w.heap.size+1) 303 (.agg #[.int .u8 0,.int .i64 0]) 2 16 Tryz.K6 Tryz.Ow rfl (by decide) (.slice C l.length cr) l.length (dx l) (by simp[Act.eval]) A.out b.heap.size 1 [.int .u8 (tk:Nat),.int .i64 (y:Nat)] (by simp[Act.eval]) rfl (Fm b tk y) (p5 _ _ rfl rfl) (by omega) (by omega) a1 ?_
       intro h9 w3 P t b2;obtain⟨J,c3,rfl⟩:=ak P;have z:Hid (w3.heap[w.heap.size+1]?=some (.cells a5 301 (0,0))):=((Kp.alloc (Kp.refl _ b) _).grown (w:=(b.alloc _).drew) A.out t (by decide)) _ _ _ I.out;have b7:Hid (kC (w3.setCell ⟨w.heap.size+1,i,none⟩ (.slice J (l.length+1) c3)) (w.heap.size+1) (.slice (some ⟨w.heap.size+1,0,none⟩) S.length S.length) (pV (mz S.length (bQ true S i j)) (i,tk,y)) (G.set i (.slice J (l.length+1) c3))):=Gz L.out (fJ _ _) c c0.out c2.out a0.out t P b2 z.out;have Z:Hid (w3.heap[d.heap.size]?=some (.cells #[.int .u8 (tk:Nat),.slice (some ⟨a7,0,none⟩) S[i].2.length n] 293 (0,0))):=((Kp.alloc (Kp.refl _ b) _).grown (w:=(b.alloc _).drew) A.out t (by decide)) _ _ _ E.out;have b6:Hid (Below w.heap.size w w3):=Below.grown (w:=(b.alloc _).drew) ((D.out.alloc e5 _).drew) t (aE (Nat.le_succ _) a1) (fun k e0=>by have:=(A.out.lt k e0).1;omega);have g3:=(oV (a:=⟨w.heap.size+1,i,none⟩) (w:=b) (z.out.trans I.out.symm)).trans N;have f3:=aq z.out;clear P t b2)
     all_goals go_wp2_with fail
     all_goals go_roundg (S[i].2.length-(j+1))
     all_goals first
      | (case measure=>omega)
      | skip
     all_goals
      refine⟨j+1,by omega,rfl,by go_num,G.set i (.slice J (l.length+1) c3),?_,?_,?_⟩
      ·rw[c1.out,pE];exact b7
      ·show _=_;rw[e2 _ _ _ _ (dI Z.out z.out (by decide))];exact Z.out
      ·exact b6.out.setCell (by show w.heap.size<=w.heap.size+1;omega) _
    ·obtain rfl:j=S[i].2.length:=by omega
     go_wp2_with fail;go_roundg (S.length-(i+1))
     case measure=>omega
     case rel=>exact⟨i+1,by omega,rfl,by go_num,G,by rw[<- rp true S i c];exact L,D⟩
  ·go_wp2_with fail;go_ret;refine⟨_,rfl,⟨f,?_⟩,s.out⟩;have e:S.take i=S:=gj (by omega);have h:=a8.out;rw[e]at h;have g5:(av true S).length=S.length:=fA true S;exact⟨h.len,nI h.row (aJ _),fun i u l hu e1=>nI (h.ib i u l hu e1) (aJ _),h.apart⟩
theorem L8(S:List St)(U:Value)(b5:List Value)(first:Int)(w:World)(N:dH w 0 U S b5)(hS:AZ S):Calls prog 137 #[.agg #[U,.int .i64 first]] w fun r w'=>∃v,r=.returned v/\mx w' v (av false S)/\Below w.heap.size w w':=by
 have Y:Hid (dH w 0 U S b5):=N;obtain⟨C,au,rfl⟩:=ak N.row;have hlen:=hS.len;have h4:=hS.O2;clear N;have h2:=fun W=>ws W S.length hlen
 have I:=yI (w.alloc (.cells #[.slice C S.length au,.int .i64 first] 146)) S.length hlen;have c5:(w.alloc (.cells #[.slice C S.length au,.int .i64 first] 146)).heap.size=w.heap.size+1:=by simp
 rw[c5]at I;have c0:Hid (kC ((w.alloc (.cells #[.slice C S.length au,.int .i64 first] 146)).alloc (.cells (madeCells #[.slice none 0 0] S.length) 301)) (w.heap.size+1) (.slice (some ⟨w.heap.size+1,0,none⟩) S.length S.length) (mz S.length (cC false (S.take 0) 0)) (List.replicate S.length (.slice none 0 0))):=I;have b6:Hid (Below w.heap.size w ((w.alloc (.cells #[.slice C S.length au,.int .i64 first] 146)).alloc (.cells (madeCells #[.slice none 0 0] S.length) 301))):=(af w _).alloc (by simp) _;clear I;go_enter func137,ntmps137;go_wp2_with fail
 go_loopg [15] S.length (fun L e9 s=>∃i:Nat,i<=S.length/\L=S.length-i/\e9=.int .i64 i/\∃f,Hid (kC s (w.heap.size+1) (.slice (some ⟨w.heap.size+1,0,none⟩) S.length S.length) (mz S.length (cC false (S.take i) 0)) f)/\Hid (Below w.heap.size w s))
 case atStart=>exact⟨0,aJ _,rfl,rfl,_,c0,b6⟩
 case round =>
  obtain⟨i,hi,rfl,rfl,f,a9,t⟩:=hrel;obtain⟨c,e7⟩:∃c,c=wr:=⟨wr,rfl⟩;subst e7
  by_cases d:i<S.length
  ·obtain⟨a7,g2,g4,c7,b2,_,u,hu,a3,a4⟩:=Y.out.cells i d;injection c7 with c8 g7 c9
   subst c8;subst c9;have b4:=Y.out.ib i u _ hu (ax d);obtain⟨m,n,rfl,b1⟩:=jT b4;have b9:Hid (∀j (x:Value),(aP S[i].2)[j]?=some x->j<S[i].2.length->∃g,m=some ⟨g,0,none⟩/\g<w.heap.size/\w.cell? ⟨g,j,none⟩=some x):=b1;have d0:=(t.out.cell (p:=⟨a7,i*2,none⟩) (an b2)).trans a3;have d1:=(t.out.cell (p:=⟨a7,i*2+1,none⟩) (an b2)).trans a4;have e5:=t.out.size;have h3:=DC S i d;have X:Hid (kC (c.alloc (.cells #[.int .u8 (S[i].1:Nat),.slice m S[i].2.length n] 293)) (w.heap.size+1) (.slice (some ⟨w.heap.size+1,0,none⟩) S.length S.length) (mz S.length (bQ false S i 0)) f):=by rw[oe false S i d];exact a9.out.tE (n9.below (af _ _))
   have Z:Hid ((c.alloc (.cells #[.int .u8 (S[i].1:Nat),.slice m S[i].2.length n] 293)).heap[c.heap.size]?=some (.cells #[.int .u8 (S[i].1:Nat),.slice m S[i].2.length n] 293 (0,0))):=aw c _;have V:Hid (Below w.heap.size w (c.alloc (.cells #[.int .u8 (S[i].1:Nat),.slice m S[i].2.length n] 293))):=t.out.alloc e5 _;clear a3 a4 b4 b1;go_wp2_with fail
   go_loopg [23] S[i].2.length (fun L g0 s=>∃j:Nat,j<=S[i].2.length/\L=S[i].2.length-j/\g0=.int .i64 j/\∃f,Hid (kC s (w.heap.size+1) (.slice (some ⟨w.heap.size+1,0,none⟩) S.length S.length) (mz S.length (bQ false S i j)) f)/\Hid (s.heap[c.heap.size]?=some (.cells #[.int .u8 (S[i].1:Nat),.slice m S[i].2.length n] 293 (0,0)))/\Hid (Below w.heap.size w s))
   case atStart=>exact⟨0,aJ _,rfl,rfl,f,X,Z,V⟩
   case round =>
    obtain⟨j,h0,rfl,rfl,H,M,F,E⟩:=hrel;obtain⟨b,e8⟩:∃b,b=wr:=⟨wr,rfl⟩;subst e8;clear X Z V d0 d1;have e6:=E.out.size
    by_cases G:j<S[i].2.length
    ·obtain⟨a8,rfl,e0,a5⟩:=b9.out j _ (m5 _ j G) G;have g5:=(E.out.cell (p:=⟨a8,j,none⟩) e0).trans a5;have g1:=ab F.out 0 _ rfl;have h8:=ab F.out 1 _ rfl;have q:S[i].2[j]<S.length:=hS.ib S[i] (bl d) _ (bl G);have c2:Hid (bQ false S i (j+1)=bQ false S i j++[(S[i].2[j],S[i].1,i)]):=by show _=_;have:=ph false S i j d G;simpa using this
     obtain⟨D,cr,T,O,R,a6,b0⟩:=M.out.cell (i:=S[i].2[j]) (fJ _ _) q;have P:(mz S.length (bQ false S i j))[S[i].2[j]]?=some ((mz S.length (bQ false S i j))[S[i].2[j]]'(by rw[fJ];exact q)):=ax _;have e4:((mz S.length (bQ false S i j))[S[i].2[j]]'(by rw[fJ];exact q)).length<=9000:=by
      have h1:=Aj S.length _ (bQ false S i j) rfl _ (bl (by rw[fJ];exact q));have g8:=ro false S i j d;omega
     generalize (mz S.length (bQ false S i j))[S[i].2[j]]'(by rw[fJ];exact q)=l at T O R P e4;generalize h6:S[i].2[j]=y at *;generalize h5:S[i].1=tk at *;have c4:Hid (H[y]?=some (.slice D l.length cr)):=T;have a1:Hid (b.ownsRow (w.heap.size+1) 303 2 (.slice D l.length cr) l.length (dx l)):=R;have c1:Hid ((mz S.length (bQ false S i j))[y]?=some l):=P;have J:Hid (b.heap[w.heap.size+1]?=some (.cells a6 301 (0,0))):=b0;clear T R P b0 a5;have B:Hid ((b.alloc (.cells #[.int .u8 (tk:Nat),.int .i64 (i:Nat)] 303)).drew.ownsRow (w.heap.size+1) 303 2 (.slice D l.length cr) l.length (dx l)):=al a1.out (Kp.alloc (Kp.refl _ b) _);have a2:w.heap.size+1<=(b.alloc (.cells #[.int .u8 (tk:Nat),.int .i64 (i:Nat)] 303)).drew.heap.size:=by show _<=(b.alloc _).heap.size;simp;omega
     have g9:=fun o=>((af b o).cell (p:=⟨w.heap.size+1,y,none⟩) (an J.out)).trans O
     have h7:=fun o=>((af b o).cell (p:=⟨c.heap.size,0,none⟩) (an F.out)).trans g1
     go_wp2_with fail
     go_region_law
      (refine dz rfl (.tmp 32) (.tmp 37) 301 rfl (w.heap.size+1) 303 (.agg #[.int .u8 0,.int .i64 0]) 2 16 Tryz.K6 Tryz.Ow rfl (by decide) (.slice D l.length cr) l.length (dx l) (by simp[Act.eval]) B.out b.heap.size 1 [.int .u8 (tk:Nat),.int .i64 (i:Nat)] (by simp[Act.eval]) rfl (Fm b tk i) (p5 _ _ rfl rfl) (by omega) (by omega) a2 ?_
       intro h9 w3 Q z b3;obtain⟨K,c3,rfl⟩:=ak Q;have A:Hid (w3.heap[w.heap.size+1]?=some (.cells a6 301 (0,0))):=((Kp.alloc (Kp.refl _ b) _).grown (w:=(b.alloc _).drew) B.out z (by decide)) _ _ _ J.out;have b8:Hid (kC (w3.setCell ⟨w.heap.size+1,y,none⟩ (.slice K (l.length+1) c3)) (w.heap.size+1) (.slice (some ⟨w.heap.size+1,0,none⟩) S.length S.length) (pV (mz S.length (bQ false S i j)) (y,tk,i)) (H.set y (.slice K (l.length+1) c3))):=Gz M.out (fJ _ _) q c1.out c4.out a1.out z Q b3 A.out;have a0:Hid (w3.heap[c.heap.size]?=some (.cells #[.int .u8 (tk:Nat),.slice (some ⟨a8,0,none⟩) S[i].2.length n] 293 (0,0))):=((Kp.alloc (Kp.refl _ b) _).grown (w:=(b.alloc _).drew) B.out z (by decide)) _ _ _ F.out;have b7:Hid (Below w.heap.size w w3):=Below.grown (w:=(b.alloc _).drew) ((E.out.alloc e6 _).drew) z (aE (Nat.le_succ _) a2) (fun k e1=>by have:=(B.out.lt k e1).1;omega);have g3:=(oV (a:=⟨w.heap.size+1,y,none⟩) (w:=b) (A.out.trans J.out.symm)).trans O;have f3:=aq A.out;clear Q z b3)
     all_goals go_wp2_with fail
     all_goals go_roundg (S[i].2.length-(j+1))
     all_goals first
      | (case measure=>omega)
      | skip
     all_goals
      refine⟨j+1,by omega,rfl,by go_num,H.set y (.slice K (l.length+1) c3),?_,?_,?_⟩
      ·rw[c2.out,pE];exact b8
      ·show _=_;rw[e2 _ _ _ _ (dI a0.out A.out (by decide))];exact a0.out
      ·exact b7.out.setCell (by show w.heap.size<=w.heap.size+1;omega) _
    ·obtain rfl:j=S[i].2.length:=by omega
     go_wp2_with fail;go_roundg (S.length-(i+1))
     case measure=>omega
     case rel=>exact⟨i+1,by omega,rfl,by go_num,H,by rw[<- rp false S i d];exact M,E⟩
  ·go_wp2_with fail;go_ret;refine⟨_,rfl,⟨f,?_⟩,t.out⟩;have e:S.take i=S:=gj (by omega);have h:=a9.out;rw[e]at h;have g6:(av false S).length=S.length:=fA false S;exact⟨h.len,nI h.row (aJ _),fun i u l hu e3=>nI (h.ib i u l hu e3) (aJ _),h.apart⟩
end Go.Proofs.YtodagkkjfipbgaaGreatDoor
namespace Go.Proofs.YtodagkkjfipbgaaGreatDoor
open Go.RowKit Go.Proofs.Tryz
def xE(d:Nat)(x:Px)(base:Nat)(w:World)(f q:Nat):Prop :=
 ∀(W:World) (m:Nat) (S:List St) (first:Int) (b:Nat),Below base w W->n3 W base m S first->S.length+fB d x<=9000->lg S+fB d x<=9000 ->
  Calls prog f #[.pointer (some ⟨m,0,none⟩),.int .i64 b,.pointer (some ⟨q,0,none⟩)] W fun e w'=>e=.returned (.int .i64 (mk d x S b).2)/\n3 w' base m (mk d x S b).1 first/\Below base W w'
def Enters(f:Nat):Prop:=∀(args:Array Value) (w:World),(callFunc f args).run prog w=.ok (.enter f args) w
def xB(d:Nat):Prop:=∀(x:Px) (v:Value) (base:Nat) (w:World),eY d (fun k=>k<base) w v x->base<=w.heap.size->∃f q,v=gW f q/\Enters f/\xE d x base w f q
theorem iq{base q:Nat}{w W:World}{a:Array Value}{t:TypeId}(b:q<base)(hb:Below base w W)(h:w.heap[q]?=some (.cells a t (0,0))):W.heap[q]?=some (.cells a t (0,0)):=by rw[hb.block q b];exact h
theorem Km(d:Nat)(x:Px)(base:Nat)(w:World)(q:Nat)(g:x.what=0)(p:q<base)(h:w.heap[q]?=some (.cells #[.int .u8 x.k] 167 (0,0))):xE (d+1) x base w 255 q:=by
 intro W m S first b o f h1 l;have e:mk (d+1) x S b=(S++[(x.k,[b])],S.length):=by rw[mk,ag g]
 have a:fB (d+1) x=1:=by rw[fB,ag g]
 rw[a]at h1;rw[e];have r:=ab (iq p o h) 0 _ rfl;have j:=az f;clear f e a h l;go_enter func255,ntmps255;go_wp2_with fail;refine(Gy base m S first x.k b W j.out (by omega)).mono ?_;rintro s t ⟨rfl,c,n⟩;have i:=az c;clear c;go_wp2_with fail;go_ret;exact⟨rfl,i.out,n⟩
def qj(d:Nat)(l:List Px)(k:Nat)(S:List St)(b:Nat):List St×Nat:=(l.drop k).foldr (fun y r=>mk d y r.1 r.2) (S,b)
theorem Hf(d:Nat)(l:List Px)(k:Nat)(h:k<l.length)(S:List St)(b:Nat):qj d l k S b=mk d l[k] (qj d l (k+1) S b).1 (qj d l (k+1) S b).2:=by
 unfold qj;rw[lf h];rfl
theorem Hg(d:Nat)(l:List Px)(S:List St)(b:Nat):∀k,i7 ((l.drop k).map (fB d)).sum S (qj d l k S b).1:=by
 intro k;unfold qj
 induction l.drop k with
 | nil=>simp[i7]
 | cons y l a=>rw[List.foldr_cons,bS,dC];exact a.trans (nQ d y _ _) (by omega)
theorem Jp{f:Px->Nat}(l:List Px)(k:Nat)(h:k<l.length):((l.drop k).map f).sum=f l[k]+((l.drop (k+1)).map f).sum:=by
 rw[lf h,bS,dC]
theorem Bd{f:Px->Nat}(l:List Px):∀k,((l.drop k).map f).sum<=(l.map f).sum:=by
 induction l with
 | nil=>simp
 | cons a l b=>intro k;cases k with
  | zero=>simp
  | succ k=>have:=b k;rw[List.drop_succ_cons,bS,dC];omega
theorem gv.form{R:Value->Px->Prop}{A:Nat->Prop}{w:World}{v:Value}{l:List Px}(h:gv R A w v l):∃j au,v=.slice j l.length au/\∀i (hi:i<l.length),∃g u,j=some ⟨g,0,none⟩/\A g/\w.cell? ⟨g,i,none⟩=some u/\R u l[i]:=by
 obtain⟨o,h1,_,⟨F,t⟩,x,y⟩:=h;rcases t with⟨d,E⟩|⟨g,au,q,d,hg,C,G,H,I,B⟩
 ·exact⟨none,0,by rw[d,E],fun i hi=>by omega⟩
 ·refine⟨some ⟨g,0,none⟩,au,d,fun i hi=>?_⟩;obtain⟨u,hu⟩:∃u,o[i]?=some u:=⟨o[i]'(by omega),ax (by omega)⟩;refine⟨g,u,rfl,x g (by rw[d];rfl),?_,y i _ _ hu (ax hi)⟩;refine ab C i _ ?_;have n:(q.toList.take (l.length*1))[i]?=some u:=by rw[B];exact hu
  rw[bJ,ag (by omega)]at n;simpa using n
theorem JX(d:Nat)(hd:xB d)(x:Px)(base:Nat)(w:World)(q:Nat)(I:Value)(s:x.what=1)(G:q<base)(R:base<=w.heap.size)(h:w.heap[q]?=some (.cells #[I] 337 (0,0))) (i:gv (eY d (fun k=>k<base) w) (fun k=>k<base) w I x.l):xE (d+1) x base w 206 q:=by
 intro W m S first b n z h1 c;have e:mk (d+1) x S b=qj d x.l 0 S b:=by rw[mk,ae (by omega),ag s];rfl
 have v:fB (d+1) x=(x.l.map (fB d)).sum:=by rw[fB,ae (by omega),ag s]
 rw[v]at h1 c;rw[e];obtain⟨l,D⟩:∃l,l=x.l:=⟨_,rfl⟩;rw[<- D]at i h1 c ⊢;have hlen:=i.len;obtain⟨a2,au,rfl,B⟩:=i.form;have P:=ab (iq G n h) 0 _ rfl;have N:=az z;have L:=az B;have t:Hid (S.length+(l.map (fB d)).sum<=9000/\lg S+(l.map (fB d)).sum<=9000):=⟨h1,c⟩;clear z i B D e v s h h1 c;go_enter func206,ntmps206;go_wp2_with fail
 go_loopg [1,6] l.length (fun g O a0 J=>∃k:Nat,k<=l.length/\g=k/\a0=.int .i64 ((k:Int)-1)/\O=.int .i64 (qj d l k S b).2/\Hid (n3 J base m (qj d l k S b).1 first)/\Below base W J)
 case atStart=>exact⟨l.length,ar _,rfl,rfl,by unfold qj;simp,by unfold qj;simpa using N,aB _ _⟩
 case round =>
  obtain⟨k,a5,C,rfl,rfl,A,a⟩:=hrel;have U:k=gk:=C.symm;subst U;clear C;obtain⟨j,Z⟩:∃j,j=wr:=⟨wr,rfl⟩;subst Z;have a3:=(a.cell (p:=⟨q,0,none⟩) G).trans P;cases k with
  | zero =>
   go_wp2_with fail;go_ret;exact⟨rfl,A.out,a⟩
  | succ k =>
   obtain⟨g,u,rfl,hg,hu,F⟩:=L.out k (by omega);obtain⟨f,a1,rfl,T,E⟩:=hd _ _ _ _ F R;have Y:j.cell? ⟨g,k,none⟩=some (gW f a1):=(a.cell (p:=⟨g,k,none⟩) hg).trans ((n.cell (p:=⟨g,k,none⟩) hg).trans hu);have H:=Hf d l k (by omega) S b;have o:=Hg d l S b (k+1);have V:=Jp (f:=fB d) l k (by omega);have X:=Bd (f:=fB d) l k;have r:=E j m (qj d l (k+1) S b).1 first (qj d l (k+1) S b).2 (n.trans a) A.out (by have:=t.out;have:=o.2.1;omega) (by have:=t.out;have:=o.2.2;omega);rw[<- H]at r;have M:=az r;clear r E H o V X F hu;unfold Enters at T;unfold gW at Y;go_wp2_with fail;refine M.out.mono ?_;rintro a4 a6 ⟨rfl,y,Q⟩;have K:=az y;clear y;go_wp2_with fail;go_roundg k
   case measure=>omega
   case rel=>exact⟨k,by omega,rfl,by go_num,rfl,K,a.trans Q⟩
def jk(d:Nat)(l:List Px)(k:Nat)(Z:List St)(f b:Nat):List St:=(l.take k).foldl (fun Z y=>b9 (mk d y Z b).1 f (mk d y Z b).2) Z
theorem EL(d:Nat)(l:List Px)(k:Nat)(h:k<l.length)(Z:List St)(f b:Nat):jk d l (k+1) Z f b=b9 (mk d l[k] (jk d l k Z f b) b).1 f (mk d l[k] (jk d l k Z f b) b).2:=by
 unfold jk;rw[jh h,e0];rfl
theorem EM(d:Nat)(l:List Px)(f b:Nat):∀(k:Nat) (Z:List St),i7 ((l.take k).map fun y=>1+fB d y).sum Z (jk d l k Z f b):=by
 intro k;unfold jk
 induction l.take k with
 | nil=>intro Z;simp[i7]
 | cons y l c =>
  intro Z;rw[jb,bS,dC];have a:i7 1 (mk d y Z b).1 (b9 (mk d y Z b).1 f (mk d y Z b).2):=⟨by rw[dv];omega,by rw[dv];omega,qu _ _ _⟩;exact((nQ d y Z b).trans a (ar _)).trans (c _) (by omega)
theorem Jn{f:Px->Nat}(l:List Px)(k:Nat)(h:k<l.length):((l.take (k+1)).map f).sum=((l.take k).map f).sum+f l[k]:=by
 rw[jh h,c9,List.sum_append];simp
theorem Bb{f:Px->Nat}(l:List Px):∀k,((l.take k).map f).sum<=(l.map f).sum:=by
 induction l with
 | nil=>simp
 | cons a l b=>intro k;cases k with
  | zero=>simp
  | succ k=>have:=b k;rw[List.take_succ_cons,bS,dC,bS,dC];omega
theorem CS(d:Nat)(hd:xB d)(x:Px)(base:Nat)(w:World)(q:Nat)(X:Value)(G:x.what=2)(U:q<base)(b2:base<=w.heap.size)(h:w.heap[q]?=some (.cells #[X] 337 (0,0))) (F:gv (eY d (fun k=>k<base) w) (fun k=>k<base) w X x.l):xE (d+1) x base w 225 q:=by
 intro W m S first b B L h1 j;have e:mk (d+1) x S b=(jk d x.l x.l.length (S++[(0,[])]) S.length b,S.length):=by rw[mk,ae (by omega),ae (by omega),ag G];unfold jk;rw[mi]
 have v:fB (d+1) x=1+(x.l.map fun y=>1+fB d y).sum:=by rw[fB,ae (by omega),ae (by omega),ag G]
 rw[v]at h1 j;rw[e];obtain⟨l,P⟩:∃l,l=x.l:=⟨_,rfl⟩;rw[<- P]at F h1 j ⊢;obtain⟨c2,au,rfl,O⟩:=F.form;have hlen:l.length<=9000:=by
  have:∀l:List Px,l.length<=(l.map fun y=>1+fB d y).sum:=by
   intro l;induction l with
   | nil=>simp
   | cons a l c5=>rw[bS,dC,bT];omega
  have:=this l;omega
 have a7:=ab (iq U B h) 0 _ rfl;have a6:=az L;have a3:=az O;have s:Hid (S.length+(1+(l.map fun y=>1+fB d y).sum)<=9000/\lg S+(1+(l.map fun y=>1+fB d y).sum)<=9000):=⟨h1,j⟩;have b1:S.length<=9000:=by omega
 have H:(S++[((0:Nat),([]:List Nat))]).length=S.length+1/\lg (S++[(0,[])])=lg S:=by constructor<;>simp[lg]
 obtain⟨Z,C⟩:∃Z,Z=S++[((0:Nat),([]:List Nat))]:=⟨_,rfl⟩;rw[<- C]at H ⊢;have t:=az H;have a4:=az C;clear L F O P e v G h h1 j H C;go_enter func225,ntmps225;go_wp2_with fail;refine(Oh base m S first 0 W a6.out b1).mono ?_;rintro a8 c7 ⟨rfl,z,J⟩;rw[<- a4.out]at z;have a0:=az z;clear z;have c3:=(J.cell (p:=⟨q,0,none⟩) U).trans a7;go_wp2_with fail
 go_loopg [13] l.length (fun g b9 Y=>∃k:Nat,k<=l.length/\g=l.length-k/\b9=.int .i64 k/\Hid (n3 Y base m (jk d l k Z S.length b) first)/\Below base W Y)
 case atStart=>exact⟨0,aJ _,rfl,rfl,by unfold jk;simpa using a0,J⟩
 case round =>
  obtain⟨k,c4,rfl,rfl,M,n⟩:=hrel;obtain⟨r,b8⟩:∃r,r=wr:=⟨wr,rfl⟩;subst b8
  by_cases E:k<l.length
  ·obtain⟨g,u,rfl,hg,hu,T⟩:=a3.out k E;obtain⟨f,c0,rfl,b3,Q⟩:=hd _ _ _ _ T b2;have b7:r.cell? ⟨g,k,none⟩=some (gW f c0):=(n.cell (p:=⟨g,k,none⟩) hg).trans ((B.cell (p:=⟨g,k,none⟩) hg).trans hu);have V:=EL d l k E Z S.length b;have c:=EM d l S.length b k Z;have b5:=Jn (f:=fun y=>1+fB d y) l k E;have b6:=Bb (f:=fun y=>1+fB d y) l (k+1);have o:=nQ d l[k] (jk d l k Z S.length b) b;have D:=Q r m (jk d l k Z S.length b) first b (B.trans n) M.out (by have:=s.out;have:=t.out;have:=c.2.1;omega) (by have:=s.out;have:=t.out;have:=c.2.2;omega);have i:Hid (S.length<(mk d l[k] (jk d l k Z S.length b) b).1.length/\(mk d l[k] (jk d l k Z S.length b) b).1.length<=9000/\lg (mk d l[k] (jk d l k Z S.length b) b).1<=9000):=by
    have:=s.out;have:=t.out;have:=c.1;have:=c.2.1;have:=c.2.2;have:=o.1;have:=o.2.1;have:=o.2.2;refine⟨by omega,by omega,by omega⟩
   have I:=az V;obtain⟨R,N⟩:∃R,R=mk d l[k] (jk d l k Z S.length b) b:=⟨_,rfl⟩;rw[<- N]at D i I;have a5:=az D;clear D Q V c b5 b6 T hu o N;unfold Enters at b3;unfold gW at b7;go_wp2_with fail;refine a5.out.mono ?_;rintro a8 c1 ⟨rfl,K,a9⟩;have a1:=az K;clear K;go_wp2_with fail;refine(Ck base m R.1 first S.length R.2 c1 a1.out i.out.1 i.out.2.1 i.out.2.2).mono ?_;rintro v w3 ⟨rfl,A,b0⟩;rw[<- I.out]at A;have a2:=az A;clear A;go_wp2_with fail;go_roundg (l.length-(k+1))
   case measure=>omega
   case rel=>exact⟨k+1,by omega,rfl,by go_num,a2,(n.trans a9).trans b0⟩
  ·have b4:Hid (k=l.length):=by show k=l.length;omega
   go_wp2_with fail;go_ret;exact⟨rfl,by rw[<- b4.out];exact M.out,n⟩
theorem Ch(d:Nat)(y:Px)(base:Nat)(w:World)(f q:Nat)(I:Enters f)(r:xE d y base w f q)(W:World)(m:Nat)(S:List St)(first:Int)(b:Nat)(H:Below base w W)(o:n3 W base m S first)(h1:S.length+(2+fB d y)<=9000)(D:lg S+(2+fB d y)<=9000):Calls prog 251 #[.pointer (some ⟨m,0,none⟩),gW f q,.int .i64 b] W fun e w'=>e=.returned (.tuple #[.int .i64 S.length,.int .i64 (mk d y (S++[(0,[b])]) S.length).2]) /\n3 w' base m (b9 (mk d y (S++[(0,[b])]) S.length).1 S.length (mk d y (S++[(0,[b])]) S.length).2) first/\Below base W w':=by
 have C:Hid (n3 W base m S first):=o;have G:S.length<=9000:=by omega
 have s:(S++[((0:Nat),[b])]).length=S.length+1/\lg (S++[(0,[b])])=lg S+1:=by constructor<;>simp[lg]
 obtain⟨Z,h⟩:∃Z,Z=S++[((0:Nat),[b])]:=⟨_,rfl⟩;rw[<- h]at s ⊢;have A:Hid (Z=S++[((0:Nat),[b])]):=h;have i:=nQ d y Z S.length;have p:=fun W1 (hb:Below base W W1) (j:n3 W1 base m Z first)=>r W1 m Z first S.length (H.trans hb) j (by omega) (by omega)
 obtain⟨R,g⟩:∃R,R=mk d y Z S.length:=⟨_,rfl⟩;rw[<- g]at i ⊢;have a:Hid (S.length<R.1.length/\R.1.length<=9000/\lg R.1<=9000):=by
  obtain⟨J,a2,a3⟩:=i;exact⟨by omega,by omega,by omega⟩
 have B:Hid (∀W1,Below base W W1->n3 W1 base m Z first->Calls prog f #[.pointer (some ⟨m,0,none⟩),.int .i64 S.length,.pointer (some ⟨q,0,none⟩)] W1 fun e w'=>e=.returned (.int .i64 R.2)/\n3 w' base m R.1 first/\Below base W1 w'):=by
  intro W1 hb j;have:=p W1 hb j;rw[<- g]at this;exact this
 clear o h1 D s h p i g r;unfold Enters at I;unfold gW;go_enter func251,ntmps251;go_wp2_with fail;refine(Gy base m S first 0 b W C.out G).mono ?_;rintro K t ⟨rfl,c,k⟩;rw[<- A.out]at c;have v:Hid (n3 t base m Z first):=c;clear c;go_wp2_with fail;refine(B.out t k v.out).mono ?_;rintro L u ⟨rfl,l,E⟩;have x:Hid (n3 u base m R.1 first):=l;clear l;go_wp2_with fail;refine(Ck base m R.1 first S.length R.2 u x.out a.out.1 a.out.2.1 a.out.2.2).mono ?_;rintro M w3 ⟨rfl,n,F⟩;have z:Hid (n3 w3 base m (b9 R.1 S.length R.2) first):=n;clear n;go_wp2_with fail
 go_ret2
 exact⟨rfl,z.out,(k.trans E).trans F⟩
theorem G4(d:Nat)(hd:xB d)(x y:Px)(base:Nat)(w:World)(q:Nat)(u:Value)(B:x.what=3)(g:x.l=[y])(H:q<base)(F:base<=w.heap.size)(h:w.heap[q]?=some (.cells #[u] 224 (0,0))) (z:eY d (fun k=>k<base) w u y):xE (d+1) x base w 250 q:=by
 intro W m S first b s p h1 a;obtain⟨f,i,rfl,G,t⟩:=hd _ _ _ _ z F;have e:mk (d+1) x S b=(b9 (mk d y (S++[(0,[b])]) S.length).1 S.length (mk d y (S++[(0,[b])]) S.length).2,S.length):=by
  rw[mk,ae (by omega),ae (by omega),ae (by omega),g];simp[B]
 have n:fB (d+1) x=2+fB d y:=by rw[fB,ae (by omega),ae (by omega),ae (by omega),g];simp
 rw[n]at h1 a;rw[e];have c:=Ch d y base w f i G t W m S first b s p h1 a;obtain⟨R,r⟩:∃R,R=mk d y (S++[(0,[b])]) S.length:=⟨_,rfl⟩;rw[<- r]at c ⊢;have j:Hid (Calls prog 251 #[.pointer (some ⟨m,0,none⟩),gW f i,.int .i64 b] W fun e w'=>e=.returned (.tuple #[.int .i64 S.length,.int .i64 R.2])/\n3 w' base m (b9 R.1 S.length R.2) first/\Below base W w'):=c;have D:=ab (iq H s h) 0 _ rfl;clear c t p h1 a e n z h r B g;obtain⟨v,A⟩:∃v,v=gW f i:=⟨_,rfl⟩;rw[<- A]at j D;clear A;go_enter func250,ntmps250;go_wp2_with fail;refine j.out.mono ?_;rintro J I ⟨rfl,o,E⟩;have C:Hid (n3 I base m (b9 R.1 S.length R.2) first):=o;clear o;go_wp2_with fail;go_ret;exact⟨rfl,C.out,E⟩
theorem Hq(d:Nat)(hd:xB d)(x y:Px)(base:Nat)(w:World)(q:Nat)(u:Value)(B:x.what=4)(g:x.l=[y])(H:q<base)(F:base<=w.heap.size)(h:w.heap[q]?=some (.cells #[u] 224 (0,0))) (z:eY d (fun k=>k<base) w u y):xE (d+1) x base w 252 q:=by
 intro W m S first b s p h1 a;obtain⟨f,i,rfl,G,t⟩:=hd _ _ _ _ z F;have e:mk (d+1) x S b=(b9 (mk d y (S++[(0,[b])]) S.length).1 S.length (mk d y (S++[(0,[b])]) S.length).2,(mk d y (S++[(0,[b])]) S.length).2):=by
  rw[mk,ae (by omega),ae (by omega),ae (by omega),g];simp[B]
 have n:fB (d+1) x=2+fB d y:=by rw[fB,ae (by omega),ae (by omega),ae (by omega),g];simp
 rw[n]at h1 a;rw[e];have c:=Ch d y base w f i G t W m S first b s p h1 a;obtain⟨R,r⟩:∃R,R=mk d y (S++[(0,[b])]) S.length:=⟨_,rfl⟩;rw[<- r]at c ⊢;have j:Hid (Calls prog 251 #[.pointer (some ⟨m,0,none⟩),gW f i,.int .i64 b] W fun e w'=>e=.returned (.tuple #[.int .i64 S.length,.int .i64 R.2])/\n3 w' base m (b9 R.1 S.length R.2) first/\Below base W w'):=c;have D:=ab (iq H s h) 0 _ rfl;clear c t p h1 a e n z h r B g;obtain⟨v,A⟩:∃v,v=gW f i:=⟨_,rfl⟩;rw[<- A]at j D;clear A;go_enter func252,ntmps252;go_wp2_with fail;refine j.out.mono ?_;rintro J I ⟨rfl,o,E⟩;have C:Hid (n3 I base m (b9 R.1 S.length R.2) first):=o;clear o;go_wp2_with fail;go_ret;exact⟨rfl,C.out,E⟩
theorem Nx:∀d,xB d:=by
 intro d
 induction d with
 | zero=>intro x v base w h;exact h.elim
 | succ d f =>
  intro x v base w h hb;obtain⟨q,e,h⟩:=h;rcases h with⟨h1,a,b,_⟩|⟨h1,a,i,b,c⟩|⟨h1,a,i,b,c⟩|⟨h1,a,u,y,b,c,g⟩|⟨h1,a,u,y,b,c,g⟩
  ·exact⟨_,q,a,enters_of func255 (by kernel_rfl) rfl,Km d x base w q h1 e b⟩
  ·exact⟨_,q,a,enters_of func206 (by kernel_rfl) rfl,JX d f x base w q i h1 e hb b c⟩
  ·exact⟨_,q,a,enters_of func225 (by kernel_rfl) rfl,CS d f x base w q i h1 e hb b c⟩
  ·exact⟨_,q,a,enters_of func250 (by kernel_rfl) rfl,G4 d f x y base w q u h1 b e hb c g⟩
  ·exact⟨_,q,a,enters_of func252 (by kernel_rfl) rfl,Hq d f x y base w q u h1 b e hb c g⟩
def bA:List St:=[(0,[])]
theorem vY{w:World}{m:Nat}{a b v:Value}{t:TypeId}(h:w.heap[m]?=some (.cells #[a,b] t (0,0))):(w.setCell ⟨m,1,none⟩ v).heap[m]?=some (.cells #[a,v] t (0,0)):=(am h 1 _).trans rfl
theorem bX{w:World}{base a:Nat}{e:TypeId}{size:Nat}{v:Value}{n:Nat}{us:List Value}(h:w.ownsRow base e size v n us)(hb:a<=base):w.ownsRow a e size v n us:=by
 refine⟨h.1,?_⟩;rcases h.2 with c|⟨g,au,b,d,hg,r⟩
 ·exact ah c
 ·exact ac ⟨g,au,b,d,aE hb hg,r⟩
theorem KD(d:Nat)(x:Px)(v:Value)(w:World)(h:eY d (fun k=>k<w.heap.size) w v x)(a5:fB d x<=8000):Calls prog 133 #[v] w fun e w'=>∃B r,e=.returned (.agg #[B,.int .i64 (mk d x bA 0).2])/\dH w' w.heap.size B (mk d x bA 0).1 r/\Below w.heap.size w w':=by
 have J:=h.iS (A':=fun k=>k<w.heap.size+1) (eZ.refl _ _) (fun k _ h=>by omega);have K:eY d (fun k=>k<w.heap.size+1) (w.alloc (.cells #[.slice none 0 0,.int .i64 0] 146)) v x:=J.iS (eZ.below (af w _) fun k U _=>U) fun _ _ h=>h
 obtain⟨f,q,rfl,T,I⟩:=Nx d x v (w.heap.size+1) _ K (by simp);obtain⟨W,g⟩:∃W,W=((w.alloc (.cells #[.slice none 0 0,.int .i64 0] 146)).alloc (.cells #[.int .u8 0,.slice none 0 0] 293)).alloc (.cells #[.slice (some ⟨w.heap.size+1,0,none⟩) 1 1,.int .i64 0] 146):=⟨_,rfl⟩;have C:Hid (Below (w.heap.size+1) (w.alloc (.cells #[.slice none 0 0,.int .i64 0] 146)) W):=by
  show Below _ _ _;rw[g];exact((aB _ _).alloc (by simp) _).alloc (by simp) _
 have H:W.heap[w.heap.size+2]?=some (.cells #[.slice (some ⟨w.heap.size+1,0,none⟩) 1 1,.int .i64 0] 146 (0,0)):=by rw[g];exact(show (((w.alloc _).alloc _).heap.size)=w.heap.size+2 by simp)▸aw ((w.alloc _).alloc _) _
 have L:W.heap[w.heap.size+1]?=some (.cells #[.int .u8 0,.slice none 0 0] 293 (0,0)):=by
  rw[g,aW _ _ _ (by simp)];exact(show ((w.alloc _).heap.size)=w.heap.size+1 by simp)▸aw (w.alloc _) _
 have F:n3 W (w.heap.size+1) (w.heap.size+2) bA 0:=by
  refine⟨by omega,_,[.slice none 0 0],H,rfl,?_,?_,?_⟩
  ·exact⟨rfl,ac ⟨w.heap.size+1,1,_,rfl,ar _,L,ar _,by decide,rfl,rfl⟩⟩
  ·intro i v s c p;cases i with
   | zero=>simp[bA]at c p;subst c;subst p;exact cq _ _ _ _
   | succ i=>simp at c
  ·intro i j v u k a4 c hu;have h1:=(a1.1 c).1;have Q:=(a1.1 hu).1;simp at h1 Q;omega
 have t:=I W (w.heap.size+2) bA 0 0 C.out F (by simp[bA];omega) (by simp[bA,lg];omega);obtain⟨R,G⟩:∃R,R=mk d x bA 0:=⟨_,rfl⟩;rw[<- G]at t ⊢;have M:Hid (Calls prog f #[.pointer (some ⟨w.heap.size+2,0,none⟩),.int .i64 0,.pointer (some ⟨q,0,none⟩)] W fun e w'=>e=.returned (.int .i64 R.2)/\n3 w' (w.heap.size+1) (w.heap.size+2) R.1 0/\Below (w.heap.size+1) W w'):=t;have P:Hid (W=((w.alloc (.cells #[.slice none 0 0,.int .i64 0] 146)).alloc (.cells #[.int .u8 0,.slice none 0 0] 293)).alloc (.cells #[.slice (some ⟨w.heap.size+1,0,none⟩) 1 1,.int .i64 0] 146)):=g;have V:Hid (W.heap[w.heap.size]?=some (.cells #[.slice none 0 0,.int .i64 0] 146 (0,0))):=by
  show _=_;rw[g,aW _ _ _ (by simp;omega),aW _ _ _ (by simp)];exact aw w _
 clear t I h J K F H L G g;unfold Enters at T;unfold gW;go_enter func133,ntmps133;go_wp2_with fail;rw[<- P.out];refine M.out.mono ?_;rintro a3 a ⟨rfl,S,E⟩;obtain⟨_,B,r,n,b⟩:=S;obtain⟨l,au,rfl⟩:=ak b.row;have o:a.heap[w.heap.size]?=some (.cells #[.slice none 0 0,.int .i64 0] 146 (0,0)):=by rw[E.block _ (by omega)];exact V.out
 have a0:=ab n 0 _ rfl;have a2:=ab n 1 _ rfl;have cf:=aq n;have d0:=ab o 0 _ rfl;have d1:=ab o 1 _ rfl;have df:=aq o;have D:Hid (a.heap[w.heap.size+2]?=some (.cells #[.slice l R.1.length au,.int .i64 0] 146 (0,0))):=n;have N:Hid (a.heap[w.heap.size]?=some (.cells #[.slice none 0 0,.int .i64 0] 146 (0,0))):=o;have O:Hid (dH a (w.heap.size+1) (.slice l R.1.length au) R.1 r):=b;clear n o b;go_wp2_with fail;obtain⟨W2,m⟩:∃W2,W2=a.setCell ⟨w.heap.size+1+1,1,none⟩ (.int .i64 R.2):=⟨_,rfl⟩;rw[<- m];have z:W2.heap[w.heap.size]?=some (.cells #[.slice none 0 0,.int .i64 0] 146 (0,0)):=by
  rw[m,e2 _ _ _ _ (by simp;omega)];exact N.out
 have A:=mL (v:=.slice l R.1.length au) z;have Z:=vY (v:=.int .i64 R.2) A;refine bodyPost_ret (kx rfl _ _ w.heap.size 146 _ (0,0) _ rfl Z Tryz.underlying146 rfl (by kernel_rfl)) rfl ?_;have Y:Kp 293 a ((W2.setCell ⟨w.heap.size,0,none⟩ (.slice l R.1.length au)).setCell ⟨w.heap.size,1,none⟩ (.int .i64 R.2)):=by
  have y:Kp 293 a W2:=by rw[m];exact(Kp.refl _ _).setCell D.out (by decide) _
  exact(y.setCell z (by decide) _).setCell A (by decide) _
 have X:Kp 3 a ((W2.setCell ⟨w.heap.size,0,none⟩ (.slice l R.1.length au)).setCell ⟨w.heap.size,1,none⟩ (.int .i64 R.2)):=by
  have y:Kp 3 a W2:=by rw[m];exact(Kp.refl _ _).setCell D.out (by decide) _
  exact(y.setCell z (by decide) _).setCell A (by decide) _
 have b:=O.out;refine⟨_,r,rfl,⟨b.len,?_,fun i v s c p=>?_,b.apart⟩,?_⟩
 ·exact bX (al b.row Y) (by omega)
 ·exact bX (al (b.ib i v s c p) X) (by omega)
 ·have b0:Below w.heap.size w (w.alloc (.cells #[.slice none 0 0,.int .i64 0] 146)):=af _ _;have b1:Below w.heap.size w W2:=by
   rw[m];exact((b0.trans (C.out.mono (by omega))).trans (E.mono (by omega))).setCell (by simp;omega) _
  exact(b1.setCell (ar _) _).setCell (ar _) _
theorem Af{w:World}{b o:Nat}{v:Value}(h:w.cell? ⟨b,o,none⟩=some v):b<w.heap.size:=jf w _ h
def dB(N:Nat):Nat->Prop:=fun k=>N<=k
theorem eY.up{N d:Nat}{w w':World}{v:Value}{x:Px}(h:eY d (dB N) w v x)(hb:Below w.heap.size w w'):eY d (dB N) w' v x:=h.iS (eZ.below hb fun _ g _=>g) fun _ _ h=>h
theorem gv.up{N d:Nat}{w w':World}{v:Value}{l:List Px}(h:gv (eY d (dB N) w) (dB N) w v l)(hb:Below w.heap.size w w'):gv (eY d (dB N) w') (dB N) w' v l:=h.iS (eZ.below hb fun _ g _=>g) (fun _ _ h=>h) fun _ _ h=>h.up hb
theorem eY.from{N M d:Nat}{w:World}{v:Value}{x:Px}(h:eY d (dB N) w v x)(g:M<=N):eY d (dB M) w v x:=h.iS (eZ.refl _ _) fun _ _ h=>aE g h
theorem eY.fn{d:Nat}{A:Nat->Prop}{w:World}{v:Value}{x:Px}(h:eY d A w v x):∃f q,v=gW f q:=by
 cases d with
 | zero=>exact h.elim
 | succ d =>
  obtain⟨q,_,h⟩:=h;rcases h with⟨_,h,_⟩|⟨_,h,_⟩|⟨_,h,_⟩|⟨_,h,_⟩|⟨_,h,_⟩
  all_goals exact⟨_,q,h⟩
theorem NB(k:Nat)(a:k<256)(w:World):Calls prog 254 #[.int .u8 k] w fun e w'=>∃v,e=.returned v/\eY 1 (dB w.heap.size) w' v (r0 k)/\Below w.heap.size w w':=by
 go_enter func254,ntmps254;go_wp2;go_ret;exact⟨_,rfl,⟨w.heap.size,ar _,ah ⟨rfl,rfl,aw _ _,a⟩⟩,af _ _⟩
theorem v1(N d:Nat)(l:List Px)(v:Value)(w:World)(h:gv (eY d (dB N) w) (dB N) w v l)(c:N<=w.heap.size):Calls prog 174 #[v] w fun e w'=>∃u,e=.returned u/\eY (d+1) (dB N) w' u (eA l)/\Below w.heap.size w w':=by
 obtain⟨b,au,rfl,_⟩:=h.form;have a:Hid (gv (eY d (dB N) w) (dB N) w (.slice b l.length au) l):=h;clear h;go_enter func174,ntmps174;go_wp2;go_ret;exact⟨_,rfl,⟨w.heap.size,c,ac (ah ⟨rfl,rfl,_,aw _ _,a.out.up (af _ _)⟩)⟩,af _ _⟩
theorem rN(x:Px):ff [x]=x:=rfl
theorem w7(l:List Px)(h:l.length≠1):ff l=⟨2,0,l⟩:=by
 unfold ff;split
 ·simp at h
 ·rfl
theorem rM(N d:Nat)(l:List Px)(v:Value)(w:World)(h:gv (eY d (dB N) w) (dB N) w v l)(j:N<=w.heap.size):Calls prog 208 #[v] w fun e w'=>∃u,e=.returned u/\eY (d+1) (dB N) w' u (ff l)/\Below w.heap.size w w':=by
 have hlen:=h.len;obtain⟨i,au,rfl,a⟩:=h.form;have c:Hid (gv (eY d (dB N) w) (dB N) w (.slice i l.length au) l):=h;clear h
 by_cases h1:l.length=1
 ·obtain⟨x,rfl⟩:∃x,l=[x]:=List.length_eq_one_iff.1 h1;obtain⟨g,u,rfl,hg,hu,b⟩:=a 0 (by simp);rw[rN];have f:Hid (eY d (dB N) w u x):=b;have m:∀o,(w.alloc o).cell? ⟨g,0,none⟩=some u:=fun o=>((af w o).cell (p:=⟨g,0,none⟩) (Af hu)).trans hu
  clear a b h1;go_enter func208,ntmps208;go_wp2;go_ret;exact⟨u,rfl,(f.out.up (af _ _)).qJ (by omega),af _ _⟩
 ·have k:((l.length:Int)==1)=false:=by rw[aO];omega
  rw[w7 l h1];clear h1 a;go_enter func208,ntmps208;go_wp2;go_ret;exact⟨_,rfl,⟨w.heap.size,j,ac (ac (ah ⟨rfl,rfl,_,aw _ _,c.out.up (af _ _)⟩))⟩,af _ _⟩
theorem Jt(N d:Nat)(x:Px)(u:Value)(w:World)(h:eY d (dB N) w u x)(b:N<=w.heap.size):Calls prog 242 #[u] w fun e w'=>∃v,e=.returned v/\eY (d+1) (dB N) w' v (q7 x)/\Below w.heap.size w w':=by
 obtain⟨f,q,rfl⟩:=h.fn;have a:Hid (eY d (dB N) w (gW f q) x):=h;clear h;unfold gW;go_enter func242,ntmps242;go_wp2;go_ret;exact⟨_,rfl,⟨w.heap.size,b,ac (ac (ac (ah ⟨rfl,rfl,_,x,rfl,aw _ _,a.out.up (af _ _)⟩)))⟩,af _ _⟩
theorem Kc(N d:Nat)(x:Px)(u:Value)(w:World)(h:eY d (dB N) w u x)(b:N<=w.heap.size):Calls prog 243 #[u] w fun e w'=>∃v,e=.returned v/\eY (d+1) (dB N) w' v (rq x)/\Below w.heap.size w w':=by
 obtain⟨f,q,rfl⟩:=h.fn;have a:Hid (eY d (dB N) w (gW f q) x):=h;clear h;unfold gW;go_enter func243,ntmps243;go_wp2;go_ret;exact⟨_,rfl,⟨w.heap.size,b,ac (ac (ac (ac ⟨rfl,rfl,_,x,rfl,aw _ _,a.out.up (af _ _)⟩)))⟩,af _ _⟩
theorem y5(R:Value->Px->Prop)(A:Nat->Prop)(w:World):gv R A w (.slice none 0 0) []:=⟨[],rfl,by simp,cq _ _ _ _,fun k e=>by simp[Value.ownBlock]at e,fun i u x hu=>by simp at hu⟩
theorem Hz(N d:Nat)(x:Px)(u:Value)(w:World)(h:eY (d+1) (dB N) w u x)(l:N<=w.heap.size):Calls prog 244 #[u] w fun e w'=>∃v,e=.returned v/\eY (d+2) (dB N) w' v (mU x)/\Below w.heap.size w w':=by
 obtain⟨f,q,rfl⟩:=h.fn;have p:Hid (eY (d+1) (dB N) w (gW f q) x):=h;clear h;unfold gW;go_enter func244,ntmps244;go_wp2_with fail;refine(v1 N d [] (.slice none 0 0) w (y5 _ _ _) l).mono ?_;rintro C b ⟨r,rfl,m,hb⟩;obtain⟨j,n,rfl⟩:=m.fn;have s:Hid (eY (d+1) (dB N) b (gW j n) (eA [])):=m;clear m;unfold gW;have c:=hb.size;go_wp2_with fail;refine(rM N (d+1) [x,eA []] _ _ ?_ (aE l (aE c (af b _).size))).mono ?_
 ·refine⟨[gW f q,gW j n],rfl,by simp,⟨rfl,ac ⟨b.heap.size,2,#[gW f q,gW j n],rfl,aJ _,aw _ _,ar _,by decide,rfl,rfl⟩⟩,fun k e=>?_,?_⟩
  ·simp[Value.ownBlock]at e;subst e;exact aE l c
  ·intro i y z a g;cases i with
   | zero=>simp at a g;subst a;subst g;exact(p.out.up hb).up (af _ _)
   | succ i=>cases i with
    | zero=>simp at a g;subst a;subst g;exact s.out.up (af _ _)
    | succ i=>simp at a
 ·rintro D B ⟨v,rfl,o,A⟩;have t:Hid (eY (d+2) (dB N) B v (ff [x,eA []])):=o;clear o;go_wp2_with fail;go_ret;refine⟨v,rfl,t.out,?_⟩;exact(hb.trans ((af b _).mono c)).trans (A.mono (aE c (af b _).size))
structure PS where
 p:Nat
 f:Int
 pl:Int
 a:Int
 k:Int
namespace PS
def tk(T:ai)(s:PS):List UInt8:=(bF T s.p).toList
def eD(T:ai)(s:PS)(no at_:Int):PS:={ s with p:=T.size,f:=pf s.f no,pl:=pp s.f at_ s.pl }
def fail(T:ai)(s:PS)(no:Int):PS:=s.eD T no s.p
def step(T:ai)(s:PS):PS:={ s with p:=hq T s.p }
def take(T:ai)(L:List ai)(s:PS):PS:=if bH L (s.tk T)=true then s.step T else s
def aK(T:ai)(L:List ai)(s:PS):PS:=if bH L (s.tk T)=true then s.step T else s.fail T 2
end PS
def ce(T:ai)(L:List ai)(p:Nat):ai:=if bH L (bF T p).toList=true then bF T p else ⟨#[]⟩
theorem cx(T:ai)(p:Nat)(i:p<=T.size):hq T p<=T.size/\p<=hq T p/\(p<T.size->p<hq T p):=by
 have h1:=eQ T p;have d:=gH T (bO T p);have g:=d.2 (h1.2.1 i);unfold hq;refine⟨g,by omega,fun h=>?_⟩;have:=h1.2.2 h;omega
structure e4 (w:World) (b:Nat) (T:ai) (vN vE vL:Value) (s:PS):Prop where
 da:xM w b T s.p vN vE vL s.f s.pl
 le:s.p<=T.size
 short:T.size<=1000
theorem e4.lt{w:World}{b:Nat}{T:ai}{g d vL:Value}{s:PS}(h:e4 w b T g d vL s):b<w.heap.size:=an h.da
theorem e4.later{w w':World}{b:Nat}{T:ai}{g d vL:Value}{s:PS}(h:e4 w b T g d vL s)(hb:Below w.heap.size w w'):e4 w' b T g d vL s :=
 ⟨by show w'.heap[b]?=_;rw[hb.block b h.lt];exact h.da,h.le,h.short⟩
theorem hy{B:Nat}{a w:World}(h:Below B a w)(n:Nat):Below B a (w.drewN n):=⟨h.os,h.tape,h.output,h.size,h.block⟩
theorem bj.BZ{p:Nat->Prop}(w:World)(o:Obj):bj p w (w.alloc o):=(bj.refl _ _).alloc o
theorem jS(L:List ai)(w:World)(d:L.length<=100)(h1:1<=L.length):iP (w.alloc (.cells (L.map .string).toArray 9)) (.slice (some ⟨w.heap.size,0,none⟩) L.length L.length) L:=by
 refine⟨⟨by simp,ac ⟨w.heap.size,L.length,(L.map .string).toArray,rfl,aJ _,aw _ _,ar _,by simp only[maxLen];omega,by simp,by simp[gj]⟩⟩,d⟩
theorem qx(b:Nat)(T:ai)(g d vL:Value)(s:PS)(L:List ai)(w:World)(h:e4 w b T g d vL s)(j:L.length<=100)(h1:1<=L.length):Calls prog 76 #[.pointer (some ⟨b,0,none⟩),.slice (some ⟨w.heap.size,0,none⟩) L.length L.length] (w.alloc (.cells (L.map .string).toArray 9)) fun r w'=>r=.returned (.bool (bH L (s.tk T)))/\Below w.heap.size w w':=by
 have i:=h.later (af w (.cells (L.map .string).toArray 9));refine(qy b T s.p g d vL s.f s.pl _ L _ i.da h.le (jS L w j h1)).mono ?_;rintro r w' ⟨rfl,n,rfl⟩;exact⟨rfl,hy (af w _) n⟩
theorem vC(b:Nat)(T:ai)(i g vL:Value)(s:PS)(L:List ai)(w:World)(h:e4 w b T i g vL s)(o:L.length<=100)(h1:1<=L.length):Calls prog 131 #[.pointer (some ⟨b,0,none⟩),.slice (some ⟨w.heap.size,0,none⟩) L.length L.length] (w.alloc (.cells (L.map .string).toArray 9)) fun r w'=>r=.returned (.string (ce T L s.p))/\e4 w' b T i g vL (s.take T L)/\bj (fun k=>k=b) w w':=by
 have j:=h.later (af w (.cells (L.map .string).toArray 9));have hc:bj (fun k=>k=b) w (w.alloc (.cells (L.map .string).toArray 9)):=bj.BZ _ _;cases d:bH L (s.tk T)
 ·refine(Fp b T s.p i g vL s.f s.pl _ L _ j.da h.le (jS L w o h1) d).mono ?_;rintro r w' ⟨rfl,n,rfl⟩;refine⟨?_,?_,hc.drewN n⟩
  ·unfold ce;rw[show bH L (bF T s.p).toList=false from d];rfl
  ·unfold PS.take;rw[d];exact⟨qo j.da n,h.le,h.short⟩
 ·refine(A9 b T s.p i g vL s.f s.pl _ L _ j.da h.le h.short (jS L w o h1) d).mono ?_;rintro r w' ⟨rfl,t,q⟩;refine⟨?_,?_,hc.trans q⟩
  ·unfold ce;rw[show bH L (bF T s.p).toList=true from d];rfl
  ·unfold PS.take;rw[d];exact⟨t,(cx T s.p h.le).1,h.short⟩
theorem mR(b:Nat)(T:ai)(i g vL:Value)(s:PS)(L:List ai)(w:World)(h:e4 w b T i g vL s)(q:L.length<=100)(h1:1<=L.length)(t:∀x∈L,x.toList≠[]):Calls prog 128 #[.pointer (some ⟨b,0,none⟩),.slice (some ⟨w.heap.size,0,none⟩) L.length L.length] (w.alloc (.cells (L.map .string).toArray 9)) fun r w'=>r=.returned (.string (ce T L s.p))/\e4 w' b T i g vL (s.aK T L)/\bj (fun k=>k=b) w w':=by
 have o:=h.later (af w (.cells (L.map .string).toArray 9));have hc:bj (fun k=>k=b) w (w.alloc (.cells (L.map .string).toArray 9)):=bj.BZ _ _;cases d:bH L (s.tk T)
 ·refine(NC b T s.p i g vL s.f s.pl _ L _ o.da h.le (jS L w q h1) d).mono ?_;rintro r w' ⟨rfl,n,j⟩;refine⟨?_,?_,hc.trans j⟩
  ·unfold ce;rw[show bH L (bF T s.p).toList=false from d];rfl
  ·unfold PS.aK;rw[d];exact⟨n,ar _,h.short⟩
 ·refine(Kv b T s.p i g vL s.f s.pl _ L _ o.da h.le h.short (jS L w q h1) d t).mono ?_;rintro r w' ⟨rfl,n,j⟩;refine⟨?_,?_,hc.trans j⟩
  ·unfold ce;rw[show bH L (bF T s.p).toList=true from d];rfl
  ·unfold PS.aK;rw[d];exact⟨n,(cx T s.p h.le).1,h.short⟩
theorem H8(b:Nat)(T:ai)(g d vL:Value)(s:PS)(no at_:Int)(w:World)(h:e4 w b T g d vL s):Calls prog 134 #[.pointer (some ⟨b,0,none⟩),.int .i64 no,.int .i64 at_] w fun r w'=>r=.returned (.tuple #[])/\e4 w' b T g d vL (s.eD T no at_)/\bj (fun k=>k=b) w w':=by
 refine(wZ b T s.p (bO T s.p) g d vL s.f s.pl no at_ w h.da).mono ?_;rintro r w' ⟨rfl,i,hc⟩;refine⟨rfl,⟨?_,ar _,h.short⟩,hc⟩;show fF _ _ _ _ _ _ _ _ _ _;rw[show (s.eD T no at_).p=T.size from rfl,kD];exact i
theorem kP(b:Nat)(T:ai)(g d vL:Value)(s:PS)(no:Int)(w:World)(h:e4 w b T g d vL s):Calls prog 80 #[.pointer (some ⟨b,0,none⟩),.int .i64 no] w fun r w'=>r=.returned (.tuple #[])/\e4 w' b T g d vL (s.fail T no)/\bj (fun k=>k=b) w w':=by
 refine(Gh b T s.p (bO T s.p) g d vL s.f s.pl no w h.da).mono ?_;rintro r w' ⟨rfl,i,hc⟩;refine⟨rfl,⟨?_,ar _,h.short⟩,hc⟩;show fF _ _ _ _ _ _ _ _ _ _;rw[show (s.fail T no).p=T.size from rfl,kD];exact i
theorem zi(b:Nat)(T:ai)(g d vL:Value)(s:PS)(w:World)(h:e4 w b T g d vL s):Calls prog 75 #[.pointer (some ⟨b,0,none⟩)] w fun r w'=>r=.returned (.tuple #[])/\e4 w' b T g d vL (s.step T)/\bj (fun k=>k=b) w w':=by
 refine(vM b T s.p (bO T s.p) g d vL s.f s.pl w h.da ((eQ T s.p).2.1 h.le) h.short).mono ?_;rintro r w' ⟨rfl,i,hc⟩;exact⟨rfl,⟨i,(cx T s.p h.le).1,h.short⟩,hc⟩
theorem zO(b:Nat)(T:ai)(g d vL:Value)(s:PS)(w:World)(h:e4 w b T g d vL s):Calls prog 127 #[.pointer (some ⟨b,0,none⟩)] w fun r w'=>r=.returned (.string (bF T s.p))/\∃n,w'=w.drewN n :=
 zP b T s.p (bO T s.p) g d vL s.f s.pl w h.da (eQ T s.p).1 ((eQ T s.p).2.1 h.le)
theorem e4.drewN{w:World}{b:Nat}{T:ai}{g d vL:Value}{s:PS}(h:e4 w b T g d vL s)(n:Nat):e4 (w.drewN n) b T g d vL s:=⟨h.da,h.le,h.short⟩
theorem oj(b:Nat)(T:ai)(g d vL:Value)(s:PS)(L:List ai)(w:World)(h:e4 w b T g d vL s)(j:L.length<=100)(h1:1<=L.length):Calls prog 170 #[.pointer (some ⟨b,0,none⟩),.slice (some ⟨w.heap.size,0,none⟩) L.length L.length] (w.alloc (.cells (L.map .string).toArray 9)) fun r w'=>r=.returned (.bool (eI T s.p&&!bH L (s.tk T)))/\Below w.heap.size w w':=by
 have i:=h.later (af w (.cells (L.map .string).toArray 9));refine(xY b T s.p g d vL s.f s.pl _ L _ i.da h.le (jS L w j h1)).mono ?_;rintro r w' ⟨rfl,n,rfl⟩;exact⟨rfl,hy (af w _) n⟩
def ct:ai:=⟨#[99,108,97,115,115]⟩
def eP:ai:=⟨#[99,117,116]⟩
def cJ:ai:=⟨#[106,111,105,110]⟩
def aX(c:UInt8):ai:=⟨#[c]⟩
def PS.isAtom(T:ai)(s:PS):Bool:=bH [aX 40] (s.tk T)||(eI T s.p&&!bH [ct,eP,cJ] (s.tk T))
theorem wG(b:Nat)(T:ai)(g d vL:Value)(s:PS)(w:World)(h:e4 w b T g d vL s):Calls prog 224 #[.pointer (some ⟨b,0,none⟩)] w fun r w'=>r=.returned (.bool (s.isAtom T))/\Below w.heap.size w w':=by
 have j:Hid (e4 w b T g d vL s):=h;clear h;cases i:bH [aX 40] (s.tk T)
 ·have e:Hid (s.isAtom T=(eI T s.p&&!bH [ct,eP,cJ] (s.tk T))):=by show _=_;unfold PS.isAtom;rw[i];rfl
  rw[e.out];go_enter func224,ntmps224;go_wp2_with fail;refine(qx b T g d vL s [aX 40] w j.out (by decide) (by decide)).mono ?_;rintro r n ⟨rfl,hb⟩;rw[i];have o:Hid (e4 n b T g d vL s):=j.out.later hb;go_wp2_with fail;refine(oj b T g d vL s [ct,eP,cJ] n o.out (by decide) (by decide)).mono ?_;rintro r t ⟨rfl,q⟩;go_wp2_with fail;go_ret;exact⟨rfl,hb.trans (q.mono hb.size)⟩
 ·have e:Hid (s.isAtom T=true):=by show _=_;unfold PS.isAtom;rw[i];rfl
  rw[e.out];go_enter func224,ntmps224;go_wp2_with fail;refine(qx b T g d vL s [aX 40] w j.out (by decide) (by decide)).mono ?_;rintro r n ⟨rfl,hb⟩;rw[i];go_wp2_with fail;go_ret;exact⟨rfl,hb⟩
theorem kc(g k:Nat)(w:World)(i:k<=7)(h:w.cell? ⟨g,0,none⟩=some (.int .u8 k)):Calls prog 87 #[.slice (some ⟨g,0,none⟩) 1 1] w fun e w'=>e=.returned (.int .u8 (2^k:Nat))/\w'=w:=by
 obtain⟨r,a⟩:∃r:Int,r=((2^k:Nat):Int):=⟨_,rfl⟩;rw[<- a];have f:Hid (r=((2^k:Nat):Int)):=a;clear a;have hc:k=0\/k=1\/k=2\/k=3\/k=4\/k=5\/k=6\/k=7:=by omega
 rcases hc with rfl|rfl|rfl|rfl|rfl|rfl|rfl|rfl
 all_goals
  clear i;go_enter func87,ntmps87;go_wp2_with fail
  go_loopg [3,8] 1 (fun b d c l=>l=w/\((b=1/\c=.int .i64 0/\d=.int .u8 0)\/(b=0/\c=.int .i64 1/\∃v,d=.int .u8 v/\Hid (v=r))))
  case atStart=>exact⟨rfl,ah ⟨rfl,rfl,rfl⟩⟩
  case round =>
   obtain⟨rfl,⟨rfl,rfl,rfl⟩|⟨rfl,rfl,v,rfl,j⟩⟩:=hrel
   ·go_wp2_with fail;go_roundg 0
    case measure=>omega
    case rel=>exact⟨rfl,ac ⟨rfl,rfl,_,rfl,by show _=r;rw[f.out];decide⟩⟩
   ·go_wp2_with fail;go_ret;exact⟨kH j.out,rfl⟩
def Qt:ai:=⟨#[97,110,121]⟩
def I7:ai:=⟨#[111,116,104,101,114]⟩
def Qs:ai:=⟨#[98,97,100]⟩
def bn(aa:List ai)(l:List UInt8):Nat×Bool :=
 if l=[97,110,121]then (255,true)else if l=[111,116,104,101,114]then (64,true)else if l=[98,97,100]then (128,true)
 else (2^(max (ba aa l) 0).toNat,decide (0<=ba aa l))
theorem CY(aa:List ai)(l:List UInt8):-1<=ba aa l/\ba aa l<(aa.length:Int)+1/\(0<aa.length->ba aa l<aa.length):=by
 unfold ba;cases a:aa.findIdx? (fun y=>y.toList==l)with
 | none=>simp;omega
 | some i=>have:=(q2.1 a).1;simp;omega
theorem rB(aa:List ai)(l:List UInt8)(h:aa.length<=7):(bn aa l).1<256:=by
 unfold bn;split
 ·decide
 ·split
  ·decide
  ·split
   ·decide
   ·have:=CY aa l;have h1:(max (ba aa l) 0).toNat<=7:=by omega
    calc 2^(max (ba aa l) 0).toNat<=2^7:=nv (by decide) h1
     _<256:=by decide
theorem Cc(b:Nat)(T:ai)(g k vL:Value)(s:PS)(aa:List ai)(x:ai)(w:World)(h:e4 w b T g k vL s)(m:w.ownsRow 0 9 1 g aa.length (aa.map .string))(A:aa.length<=7):Calls prog 253 #[.pointer (some ⟨b,0,none⟩),.string x] w fun r w'=>r=.returned (.tuple #[.int .u8 (bn aa x.toList).1,.bool (bn aa x.toList).2])/\Below w.heap.size w w':=by
 have o:Hid (e4 w b T g k vL s):=h;have t:Hid (w.ownsRow 0 9 1 g aa.length (aa.map .string)):=m;clear h m
 by_cases h1:x.toList=[97,110,121]
 ·have v:(x.toList==[97,110,121])=true:=by simpa using h1
  have e:Hid (bn aa x.toList=(255,true)):=by show _=_;unfold bn;rw[ag h1]
  rw[e.out];clear h1;go_enter func253,ntmps253;go_wp2_with fail
  go_ret2
  exact⟨rfl,aB _ _⟩
 ·have v:(x.toList==[97,110,121])=false:=by simpa using h1
  by_cases a:x.toList=[111,116,104,101,114]
  ·have y:(x.toList==[111,116,104,101,114])=true:=by simpa using a
   have e:Hid (bn aa x.toList=(64,true)):=by show _=_;unfold bn;rw[ae h1,ag a]
   rw[e.out];clear h1 a;go_enter func253,ntmps253;go_wp2_with fail;refine(kc w.heap.size 6 _ (by decide) (ab (aw _ _) 0 _ rfl)).mono ?_;rintro r l ⟨rfl,rfl⟩;go_wp2_with fail
   go_ret2
   exact⟨rfl,af _ _⟩
  ·have y:(x.toList==[111,116,104,101,114])=false:=by simpa using a
   by_cases c:x.toList=[98,97,100]
   ·have z:(x.toList==[98,97,100])=true:=by simpa using c
    have e:Hid (bn aa x.toList=(128,true)):=by show _=_;unfold bn;rw[ae h1,ae a,ag c]
    rw[e.out];clear h1 a c;go_enter func253,ntmps253;go_wp2_with fail;refine(kc w.heap.size 7 _ (by decide) (ab (aw _ _) 0 _ rfl)).mono ?_;rintro r l ⟨rfl,rfl⟩;go_wp2_with fail
    go_ret2
    exact⟨rfl,af _ _⟩
   ·have z:(x.toList==[98,97,100])=false:=by simpa using c
    have e:Hid (bn aa x.toList=(2^(max (ba aa x.toList) 0).toNat,decide (0<=ba aa x.toList))):=by show _=_;unfold bn;rw[ae h1,ae a,ae c]
    rw[e.out];have hb:=CY aa x.toList;obtain⟨i,hi⟩:∃i:Nat,i=(max (ba aa x.toList) 0).toNat:=⟨_,rfl⟩;have n:max (ba aa x.toList) 0=(i:Int):=by omega
    have u:i<=7:=by omega
    obtain⟨d,hd⟩:∃d,d=decide (0<=ba aa x.toList):=⟨_,rfl⟩;have j:=wB b 0 T s.p g k vL s.f s.pl aa x w o.out.da t.out (by omega);rw[n,<- hd]at j;rw[<- hi,<- hd];have q:Hid (Calls prog 171 #[.pointer (some ⟨b,0,none⟩),.string x] w fun r w'=>r=.returned (.tuple #[.int .u8 i,.bool d])/\w'=w):=j;clear h1 a c hi n hd j hb;go_enter func253,ntmps253;go_wp2_with fail;refine q.out.mono ?_;rintro r l ⟨rfl,rfl⟩;go_wp2_with fail;refine(kc _ i _ u (ab (aw _ _) 0 _ rfl)).mono ?_;rintro r l ⟨rfl,rfl⟩;go_wp2_with fail
    go_ret2
    exact⟨rfl,af _ _⟩
open Go.Maps
theorem L4:((List.range 256).all fun t=>(List.range 8).all fun k=>(bits BinOp.and IntKind.u8 (t:Nat) (2^k) != 0)==t.testBit k)=true:=by kernel_rfl
theorem L3(t k:Nat)(b:t<256)(a:k<8):(bits BinOp.and IntKind.u8 (t:Nat) (2^k) != 0)=t.testBit k:=by
 have h:=List.all_eq_true.1 (List.all_eq_true.1 L4 t (ja.2 b)) k (ja.2 a);simpa using h
theorem Cw(w:World)(t k:Nat)(b:t<256)(a:k<8):Calls prog 89 #[.int .u8 t,.int .u8 k] w fun r w'=>r=.returned (.bool (t.testBit k))/\Below w.heap.size w w':=by
 go_enter func89,ntmps89;go_wp2_with fail;refine(kc w.heap.size k _ (by omega) (ab (aw w _) 0 _ rfl)).mono ?_;rintro r c ⟨rfl,rfl⟩;go_wp2_with fail;go_ret;exact⟨j9 (L3 t k b a),af w _⟩
theorem p9(g:List (List (Nat×Nat)))(hg:OT g)(v:Value)(w:World)(b:Nat)(S:Nat->Prop)(a:Nat)(e:mx w v g)(hS:be w b g.length S)(i:a<g.length)(hc:gO g S):Calls prog 178 #[v,.map (some b),.int .i64 a] w fun r w'=>r=.returned (.tuple #[])/\be w' b g.length (fun x=>S x\/a6 g a x)/\bj (fun k=>k=b) w w':=by
 obtain⟨D,d⟩:=hS;refine(DJ g hg v g.length w b D S a e d (by omega) i).mono ?_;rintro r w' ⟨rfl,⟨R,f,h⟩,c⟩;exact⟨rfl,f.congr (h.eq hc),c⟩
theorem CA(g:List (List (Nat×Nat)))(hg:OT g)(v:Value)(w:World)(a:Nat)(c:mx w v g)(l:a<g.length):Calls prog 180 #[v,.int .i64 a] w fun r w'=>∃b,r=.returned (.map (some b))/\w.heap.size<=b/\be w' b g.length (a6 g a)/\Below w.heap.size w w':=by
 have j:Hid (mx w v g):=c;obtain⟨m,au,rfl,_⟩:=c.form;clear c;have o:=@run_makeMap prog;go_enter func180,ntmps180;go_wp2_with fail;refine(p9 g hg _ _ w.heap.size (fun _=>False) a (j.out.below (af _ _)) ⟨_,mJ w g.length⟩ l (CZ g)).mono ?_;rintro r f ⟨rfl,hS,d⟩;have i:Hid (be f w.heap.size g.length (a6 g a)):=hS.congr fun x=>by simp
 have h:Hid (Below w.heap.size w f):=(af w _).trans (d.below (by simp) (fun k n e=>by omega));clear hS d;go_wp2_with fail;go_ret;exact⟨_,rfl,ar _,i.out,h.out⟩
def lK(g:List (List (Nat×Nat)))(F:Nat->Prop)(k:Nat)(left:Lit->Bool)(x:Nat):Prop:=∃(a:Nat) (t y:Nat),F a/\left (.int .i64 (a:Int))=false/\(t,y)∈fY g a/\t.testBit k=true/\a6 g y x
def j6(g:List (List (Nat×Nat)))(F:Nat->Prop)(k:Nat)(left:Lit->Bool)(a0 i:Nat)(x:Nat):Prop:=lK g F k left x\/∃(j t y:Nat),j<i/\(fY g a0)[j]?=some (t,y)/\t.testBit k=true/\a6 g y x
theorem vO(g:List (List (Nat×Nat)))(F:Nat->Prop)(k:Nat)(left:Lit->Bool):gO g (lK g F k left):=fun _ ⟨a,t,z,h1,h0,b,c,d⟩ y e=>⟨a,t,z,h1,h0,b,c,jp g z _ d y e⟩
theorem xQ(g:List (List (Nat×Nat)))(F:Nat->Prop)(k:Nat)(left:Lit->Bool)(a0 i:Nat):gO g (j6 g F k left a0 i):=by
 rintro x (h|⟨j,t,z,h1,b,c,d⟩) y a
 ·exact ah (vO g F k left x h y a)
 ·exact ac ⟨j,t,z,h1,b,c,jp g z _ d y a⟩
theorem Bj{g:List (List (Nat×Nat))}{F:Nat->Prop}{k:Nat}{left:Lit->Bool}(h:∀kl,left kl=false)(x:Nat):lK g F k left x↔gr g F k x :=
 ⟨fun ⟨a,t,y,h1,_,b⟩=>⟨a,t,y,h1,b⟩,fun ⟨a,t,y,h1,b⟩=>⟨a,t,y,h1,h _,b⟩⟩
theorem Bk{g:List (List (Nat×Nat))}{F:Nat->Prop}{k:Nat}{left:Lit->Bool}{a0:Nat}(x:Nat):lK g F k left x↔j6 g F k left a0 0 x :=
 ⟨ah,fun h=>h.elim id fun ⟨_,_,_,h,_⟩=>absurd h (nr _)⟩
theorem Bl{g:List (List (Nat×Nat))}{F:Nat->Prop}{k:Nat}{left:Lit->Bool}{a0 i t y:Nat}(f:(fY g a0)[i]?=some (t,y))(l:t.testBit k=false)(x:Nat):j6 g F k left a0 i x↔j6 g F k left a0 (i+1) x:=by
 constructor
 ·rintro(h|⟨j,c,z,h1,a⟩)
  ·exact ah h
  ·exact ac ⟨j,c,z,by omega,a⟩
 ·rintro(h|⟨j,c,z,h1,a,b,d⟩)
  ·exact ah h
  ·by_cases e:j=i
   ·subst e;rw[f]at a;simp at a;obtain⟨rfl,rfl⟩:=a;rw[l]at b;cases b
   ·exact ac ⟨j,c,z,by omega,a,b,d⟩
theorem Bm{g:List (List (Nat×Nat))}{F:Nat->Prop}{k:Nat}{left:Lit->Bool}{a0 i t y:Nat}(d:(fY g a0)[i]?=some (t,y))(l:t.testBit k=true)(x:Nat):(j6 g F k left a0 i x\/a6 g y x)↔j6 g F k left a0 (i+1) x:=by
 constructor
 ·rintro((h|⟨j,b,z,h1,a⟩)|h)
  ·exact ah h
  ·exact ac ⟨j,b,z,by omega,a⟩
  ·exact ac ⟨i,t,y,by omega,d,l,h⟩
 ·rintro(h|⟨j,b,z,h1,a,f,c⟩)
  ·exact ah (ah h)
  ·by_cases e:j=i
   ·subst e;rw[d]at a;simp at a;obtain⟨rfl,rfl⟩:=a;exact ac c
   ·exact ah (ac ⟨j,b,z,by omega,a,f,c⟩)
theorem DI{g:List (List (Nat×Nat))}{F:Nat->Prop}{k:Nat}{left:Lit->Bool}{a0 i:Nat}(hF:F a0)(hi:(fY g a0).length<=i)(x:Nat):j6 g F k left a0 i x↔lK g F k (fun z=>left z&&!z.sameKey (.int .i64 (a0:Int))) x:=by
 constructor
 ·rintro(⟨a,t,y,h1,c,b⟩|⟨j,t,y,h1,c,b,d⟩)
  ·exact⟨a,t,y,h1,by simp[c],b⟩
  ·exact⟨a0,t,y,hF,by simp[WideAt.sameKey_self (show WideAt.IsKeyLit (.int .i64 (a0:Int)) from trivial)],bC c,b,d⟩
 ·rintro⟨a,t,y,h1,c,b,d,l⟩
  by_cases e:a=a0
  ·subst e;obtain⟨j,m⟩:=e3.1 b;exact ac ⟨j,t,y,cI (a1.1 m).1 hi,m,d,l⟩
  ·refine ah ⟨a,t,y,h1,?_,b,d,l⟩;have n:(Lit.int .i64 (a:Int)).sameKey (.int .i64 (a0:Int))=false:=sameKey_ne (fun f=>e (by injection f with _ f;exact_mod_cast f));have h:(left (.int .i64 (a:Int))&&!(Lit.int .i64 (a:Int)).sameKey (.int .i64 (a0:Int)))=false:=c;rw[n]at h;simpa using h
theorem Ip{w w':World}{b:Nat}(h:bj (fun k=>k=b) w w'):w.grownBy w' (some b):=⟨h.os,h.tape,h.output,h.size,fun k a c=>h.block k a fun e=>c (by rw[e])⟩
theorem yH(g:List (List (Nat×Nat)))(hg:OT g)(v:Value)(w:World)(b k:Nat)(F:Nat->Prop)(M:mx w v g)(hF:be w b g.length F)(s:k<8):Calls prog 177 #[v,.map (some b),.int .u8 k] w fun r w'=>∃B,r=.returned (.map (some B))/\w.heap.size<=B/\be w' B g.length (gr g F k)/\Below w.heap.size w w':=by
 have a5:Hid (mx w v g):=M;obtain⟨g7,au,rfl,_⟩:=M.form;obtain⟨D,L⟩:=hF;have o:Hid (eW w b g.length D F):=L;have g9:=L.da;have h2:=hg.len;clear M L;have h3:=@run_makeMap prog;have a6:Hid ((w.alloc (.map #[] 0)).ownsMap prog 3 unitElem b (Maps.size D) D):=o.out.own.alloc _;go_enter func177,ntmps177;go_wp2_with (at_range;refine wpList_range_own _ rfl _ 296 rfl 3 338 gx Tryz.lH unitElem b (Maps.size D) D rfl a6.out ?_;intro a0 Z U g0)
 go_frame
 have a9:(w.alloc (.map #[] 0)).heap.size=w.heap.size+1:=by simp
 rw[a9]at Z ⊢;have b9:Hid (Below w.heap.size w a0):=(af w _).grown U (by simp) (fun k e=>by cases e);have c3:Hid (a0.ranges prog 3 unitElem b (w.heap.size+1) (Maps.size D) D (Maps.has D) (Maps.size D)):=Z;have c7:Hid (be a0 w.heap.size g.length (lK g F k (Maps.has D))):=by
  refine be.congr (S:=fun _=>False) ⟨_,(mJ w g.length).kept (U.block _ (by simp) (by simp))⟩ fun x=>⟨False.elim,?_⟩
  rintro⟨a,t,y,h1,b0,_⟩;rw[(o.out.mem a).2 h1]at b0;cases b0
 clear Z U g0 a9 a6
 go_loopg [14] (Maps.size D) (fun I _ j=>∃left,Hid (j.ranges prog 3 unitElem b (w.heap.size+1) (Maps.size D) D left I)/\Hid (be j w.heap.size g.length (lK g F k left))/\Hid (Below w.heap.size w j))
 case atStart=>exact⟨_,c3,c7,b9⟩
 case round =>
  obtain⟨left,b1,hS,J⟩:=hrel;obtain⟨a1,g3⟩:∃a1,a1=wr:=⟨wr,rfl⟩;subst g3;go_wp2_with (at_next;refine wpList_next_ranges _ rfl _ rfl 3 gx unitElem (fun x:Int=>Value.int .i64 x) (fun _:Unit=>Value.agg #[]) (fun key kl h=>by obtain⟨x,e,_⟩:=Maps.keyOf_int_inv Tryz.rY h;exact⟨x,e⟩) (fun v y h=>⟨(),(unitElem_inv h).1⟩) b (w.heap.size+1) (Maps.size D) D left gk rfl b1.out ?_ ?_)
  ·intro _ e5;go_wp2_with fail;go_ret;exact⟨w.heap.size,rfl,ar _,hS.out.congr (Bj e5),J.out⟩
  ·intro x c kl y a2 n b7 e7 g2 b3 b8 e6 V g1 h0;obtain⟨h6,H,e4,g5⟩:=Maps.keyOf_int_inv Tryz.rY b7;subst e4;have W:=Maps.has_true_of_atKey b3;obtain⟨a,m,G⟩:=o.out.key _ W;injection G with _ G
   subst G;injection H with _ H
   subst H;have e3:F a:=(o.out.mem a).1 W;have Q:w.heap.size<a1.heap.size:=hS.out.da;have a4:Hid (Below w.heap.size w a2):=J.out.grown V (Nat.le_of_lt Q) (fun k e=>by cases e;omega);have c4:Hid (a2.ranges prog 3 unitElem b (w.heap.size+1) (Maps.size D) D (fun z=>left z&&!z.sameKey (.int .i64 (a:Int))) n):=b8;have c8:Hid (be a2 w.heap.size g.length (j6 g F k left a 0)):=(hS.out.kept (V.block _ Q (fun e=>by have:=g8 e;omega))).congr Bk;obtain⟨q,e0,e1,e8,R⟩:=Ge (a:=a) a5.out m;subst e8;have c2:Hid (w.cell? ⟨q,a,none⟩=some (.slice e0 g[a].length e1)):=R;have b5:=(n9.below a4.out).cell R;have h4:=hg.row g[a] (bl m);clear R b3 b7 e7 g2 b8 V g1 W g5 b1 hS J Q;go_wp2_with fail
   go_loopg [23] g[a].length (fun I g6 j=>∃i:Nat,i<=g[a].length/\I=g[a].length-i/\g6=.int .i64 i/\Hid (j.ranges prog 3 unitElem b (w.heap.size+1) (Maps.size D) D (fun z=>left z&&!z.sameKey (.int .i64 (a:Int))) n)/\Hid (be j w.heap.size g.length (j6 g F k left a i))/\Hid (Below w.heap.size w j))
   case atStart=>exact⟨0,aJ _,rfl,rfl,c4,c8,a4⟩
   case round =>
    obtain⟨i,hi,rfl,rfl,N,O,l⟩:=hrel;obtain⟨w3,g4⟩:∃w3,w3=wr:=⟨wr,rfl⟩;subst g4;have A:Hid (mx w3 (.slice (some ⟨q,0,none⟩) g.length au) g):=a5.out.tE (n9.below l.out);have Y:=(n9.below l.out).cell c2.out
    by_cases X:i<g[a].length
    ·obtain⟨h5,e9,C,E⟩:=Cx A.out m Y X;subst e9;have u:=hg.ib g[a] (bl m) g[a][i] (bl X);have T:Hid ((fY g a)[i]?=some g[a][i]):=by show _=_;rw[kM m];exact ax X
     generalize g[a][i]=e2 at C E u T;obtain⟨t,y⟩:=e2;simp only at C E u;clear Y b5;go_wp2_with fail;refine(Cw _ t k u.2 s).mono ?_;rintro r f ⟨rfl,P⟩;have d:Below w3.heap.size w3 f:=(af w3 _).trans (P.mono (by simp));have b6:w3.grownBy f none:=⟨d.os,d.tape,d.output,d.size,fun k s _=>d.block k s⟩;have a7:Hid (f.ranges prog 3 unitElem b (w.heap.size+1) (Maps.size D) D (fun z=>left z&&!z.sameKey (.int .i64 (a:Int))) n):=N.out.kept b6 (by simp) (by simp);have a8:Hid (be f w.heap.size g.length (j6 g F k left a i)):=O.out.below d;have B4:Hid (Below w.heap.size w f):=l.out.trans (d.mono l.out.size);have d1:f.cell? ⟨w3.heap.size,1,none⟩=some (.int .i64 y):=(P.cell (p:=⟨w3.heap.size,1,none⟩) (by simp)).trans (ab (aw w3 _) 1 _ rfl);have c1:Hid (mx f (.slice (some ⟨q,0,none⟩) g.length au) g):=A.out.below d;clear P b6 d N O l A C E;cases b4:t.testBit k
     ·go_wp2_with fail;go_roundg (g[a].length-(i+1))
      case measure=>omega
      case rel=>exact⟨i+1,by omega,rfl,by go_num,a7,a8.out.congr (Bl T.out b4),B4⟩
     ·go_wp2_with fail;refine(p9 g hg _ f w.heap.size _ y c1.out a8.out u.1 (xQ g F k left a i)).mono ?_;rintro r a3 ⟨rfl,b2,K⟩;have c9:Hid (be a3 w.heap.size g.length (j6 g F k left a (i+1))):=b2.congr (Bm T.out b4);have c5:Hid (a3.ranges prog 3 unitElem b (w.heap.size+1) (Maps.size D) D (fun z=>left z&&!z.sameKey (.int .i64 (a:Int))) n):=a7.out.kept (Ip K) (fun e=>by have:=g8 e;omega) (fun e=>by have:=g8 e;omega);have c0:Hid (Below w.heap.size w a3):=B4.out.trans (K.below B4.out.size (fun k s e=>by omega));clear b2 K;go_wp2_with fail;go_roundg (g[a].length-(i+1))
      case measure=>omega
      case rel=>exact⟨i+1,by omega,rfl,by go_num,c5,c9,c0⟩
    ·clear Y b5;go_wp2_with fail;go_roundg n
     case measure=>exact e6
     case rel=>exact⟨_,N,O.out.congr (DI e3 (by rw[kM m];omega)),l⟩
theorem RG(w:World):(binOp .neq 338 (.agg #[]) (.agg #[])).run prog w=.ok (.bool false) w:=by
 have e:(prog.fieldsOf 338).toList=[]:=by kernel_rfl
 rw[run_neq_struct,run_equalIn_agg w 9999 338 #[] #[] (by kernel_rfl) (by kernel_rfl),e];rfl
theorem PF(w:World)(a b:Operand):(eqGuard .neq 338 a b (.agg #[]) (.agg #[])).run prog w=.ok () w:=run_eqGuard_agg w .neq 338 a b #[] #[] (by kernel_rfl)
def MB(a b:Nat->Prop)(w:World)(r:Ending)(w':World):Prop:=∃c,r=.returned (.bool c)/\(c=true↔∀x,a x↔b x)/\Below w.heap.size w w'
theorem Ia(w:World)(b1 b2 N:Nat)(j l:Nat->Prop)(h1:be w b1 N j)(n:be w b2 N l)(b4:N<=9000):Calls prog 230 #[.map (some b1),.map (some b2)] w (MB j l w):=by
 obtain⟨b,u⟩:=h1;obtain⟨d,A⟩:=n;have g:Hid (eW w b1 N b j):=u;have i:Hid (eW w b2 N d l):=A;have b3:=fun D=>u.own.len (t:=296) Tryz.lH D
 have R:=fun D=>A.own.len (t:=296) Tryz.lH D
 clear u A
 by_cases m:Maps.size b=Maps.size d
 ·rw[<- m]at R;have W:Hid (Maps.size b=Maps.size d):=m;clear m;go_enter func230,ntmps230;go_wp2_with (at_range;refine wpList_range_own _ rfl _ 296 rfl 3 338 gx Tryz.lH unitElem b1 (Maps.size b) b rfl g.out.own ?_;intro S P L a6)
  go_frame
  have X:Hid (S.ranges prog 3 unitElem b1 w.heap.size (Maps.size b) b (Maps.has b) (Maps.size b)):=P;have V:Hid (Below w.heap.size w S):=(aB _ _).grown L (ar _) (fun k e=>by cases e);clear P L a6 b3 R;have b9:=RG;have b7:=PF
  go_loopg [16] (Maps.size b) (fun Z _ U=>∃left,Hid (U.ranges prog 3 unitElem b1 w.heap.size (Maps.size b) b left Z)/\Hid (∀x:Nat,j x->left (.int .i64 (x:Int))=false->l x)/\Hid (Below w.heap.size w U))
  case atStart=>exact⟨_,X,(fun x h1 n=>by rw[(g.out.mem x).2 h1]at n;cases n),V⟩
  case round =>
   obtain⟨left,I,H,o⟩:=hrel;obtain⟨T,a9⟩:∃T,T=wr:=⟨wr,rfl⟩;subst a9;go_wp2_with (at_next;refine wpList_next_ranges _ rfl _ rfl 3 gx unitElem (fun x:Int=>Value.int .i64 x) (fun _:Unit=>Value.agg #[]) (fun key kl h=>by obtain⟨x,e,_⟩:=Maps.keyOf_int_inv Tryz.rY h;exact⟨x,e⟩) (fun v y h=>⟨(),(unitElem_inv h).1⟩) b1 w.heap.size (Maps.size b) b left gk rfl I.out ?_ ?_)
   ·intro _ a3;go_wp2_with fail;go_ret;exact⟨true,rfl,⟨fun _=>g.out.same i.out W.out fun x C=>H.out x C (a3 _),fun _=>rfl⟩,o.out⟩
   ·intro x c kl y E G O a5 a8 J Q a4 M a7 b6;obtain⟨c0,s,a2,b0⟩:=Maps.keyOf_int_inv Tryz.rY O;subst a2;have B:=Maps.has_true_of_atKey J;obtain⟨a,b5,r⟩:=g.out.key _ B;injection r with _ r
    subst r;injection s with _ s
    subst s;have a1:j a:=(g.out.mem a).1 B;have f:Hid (Below w.heap.size w E):=o.out.grown M o.out.size (fun k e=>by cases e;exact ar _);have Y:Hid (E.ranges prog 3 unitElem b1 w.heap.size (Maps.size b) b (fun z=>left z&&!z.sameKey (.int .i64 (a:Int))) G):=Q;have F:Hid ((E.alloc (.cells #[] 338)).ownsMap prog 3 unitElem b2 (Maps.size d) d):=(i.out.kept (f.out.block b2 i.out.da)).own.alloc _;clear J O a5 a8 Q M a7 B b0 I o;cases p:Maps.has d (.int .i64 (a:Int))
    ·go_wp2_with (at_lookup;refine wpList_lookup_own_unit _ rfl _ _ 296 rfl 3 338 gx Tryz.lH (IW _) b2 (Maps.size d) d rfl F.out _ _ rfl (lu a (by omega)) ?_;rw[p]);go_ret;refine⟨false,rfl,⟨(by intro e;cases e),fun e=>?_⟩,((f.out.alloc f.out.size _).alloc (by have:=f.out.size;simp;omega) _)⟩;have:=(i.out.mem a).2 ((e a).1 a1);rw[p]at this;cases this
    ·have a0:Hid (∀x:Nat,j x->(left (.int .i64 (x:Int))&&!(Lit.int .i64 (x:Int)).sameKey (.int .i64 (a:Int)))=false->l x):=by
      intro x C K
      by_cases e:x=a
      ·subst e;exact(i.out.mem x).1 p
      ·rw[sameKey_ne (fun q=>e (by injection q with _ q;exact_mod_cast q))]at K;exact H.out x C (by simpa using K)
     go_wp2_with (at_lookup;refine wpList_lookup_own_unit _ rfl _ _ 296 rfl 3 338 gx Tryz.lH (IW _) b2 (Maps.size d) d rfl F.out _ _ rfl (lu a (by omega)) ?_;rw[p]);go_roundg G
     case measure=>exact a4
     case rel=>exact⟨_,(Y.out.alloc _).alloc _,a0,((f.out.alloc f.out.size _).alloc (by have:=f.out.size;simp;omega) _)⟩
 ·have b8:¬((Maps.size b:Int)=(Maps.size d:Int)):=fun e=>m (by exact_mod_cast e)
  go_enter func230,ntmps230;go_wp2_with fail;go_ret;refine⟨false,rfl,⟨(by intro e;cases e),fun e=>absurd ?_ m⟩,aB _ _⟩;exact Nat.le_antisymm (g.out.qd i.out fun x=>(e x).1) (i.out.qd g.out fun x=>(e x).2)
theorem Tryz.NL:(prog.info? 296).map (fun i=>(i.zero,i.size,i.bytes))=some (some (.map none),1,8):=by kernel_rfl
theorem Tryz.MX:prog.underlying 339=some (.slice 296):=by kernel_rfl
theorem JM(w:World)(b d q N:Nat)(S a:Nat->Prop)(h1:be w b N S)(e:be w d N a)(i:N<=9000)(j:w.cell? ⟨q,0,none⟩=some (.map (some d))):Calls prog 229 #[.map (some b),.pointer (some ⟨q,0,none⟩)] w (MB S a w):=by
 have f:Hid (be w b N S):=h1;have g:Hid (be w d N a):=e;clear h1 e;go_enter func229,ntmps229;go_wp2_with fail;refine(Ia w b d N S a f.out g.out i).mono ?_;rintro r k ⟨c,rfl,hc,hb⟩;have h:Hid (c=true↔∀x,S x↔a x):=hc;clear hc;go_wp2_with fail;go_ret;exact⟨c,rfl,h.out,hb⟩
def iR(w:World)(base:Nat)(v:Value)(N:Nat)(a:List (Nat->Prop))(c:List Nat):Prop :=
 c.length=a.length/\w.ownsRow base 296 1 v a.length (c.map fun b=>Value.map (some b))/\∀(i:Nat) (b:Nat) (S:Nat->Prop),c[i]?=some b->a[i]?=some S->be w b N S
theorem iR.form{w:World}{base N:Nat}{v:Value}{d:List (Nat->Prop)}{j:List Nat}(h:iR w base v N d j):∃o au,v=.slice o d.length au/\∀i (hi:i<d.length),∃g b,o=some ⟨g,0,none⟩/\j[i]?=some b/\w.cell? ⟨g,i,none⟩=some (.map (some b))/\be w b N d[i]:=by
 obtain⟨F,⟨C,u⟩,x⟩:=h;rcases u with⟨n,B⟩|⟨g,au,t,n,hg,A,E,G,H,y⟩
 ·exact⟨none,0,by rw[n,B],fun i hi=>by omega⟩
 ·refine⟨some ⟨g,0,none⟩,au,n,fun i hi=>?_⟩;obtain⟨b,hb⟩:∃b,j[i]?=some b:=⟨j[i]'(by omega),ax (by omega)⟩;refine⟨g,b,rfl,hb,?_,x i _ _ hb (ax hi)⟩;refine ab A i _ ?_;have q:(t.toList.take (d.length*1))[i]?=some (.map (some b)):=by rw[y,cV,hb];rfl
  rw[bJ,ag (by omega)]at q;simpa using q
theorem iR.below{w w':World}{base N:Nat}{v:Value}{d:List (Nat->Prop)}{g:List Nat}(h:iR w base v N d g)(hb:Below w.heap.size w w'):iR w' base v N d g :=
 ⟨h.1,al h.2.1 (Kp.below hb),fun i b S h1 j=>(h.2.2 i b S h1 j).below hb⟩
def Om(a:List (Nat->Prop))(b:Nat->Prop)(w:World)(r:Ending)(w':World):Prop :=
 ∃i:Int,r=.returned (.int .i64 i)/\((i=-1/\b ∉ a)\/∃n:Nat,i=n/\a[n]?=some b)/\Below w.heap.size w w'
theorem nF{S T:Nat->Prop}(h:∀x,S x↔T x):S=T:=funext fun x=>propext (h x)
theorem DP(w:World)(base h q N:Nat)(v:Value)(a:List (Nat->Prop))(p:List Nat)(d:Nat->Prop)(h1:iR w base v N a p)(s:be w h N d)(G:N<=9000)(U:a.length<=9000)(z:w.heap[q]?=some (.cells #[.map (some h)] 296 (0,0))):Calls prog 228 #[v,.func (.func 229) #[] #[.pointer (some ⟨q,0,none⟩)]] w (Om a d w):=by
 obtain⟨D,au,rfl,t⟩:=h1.form;have B:Hid (∀i (hi:i<a.length),∃g b,D=some ⟨g,0,none⟩/\p[i]?=some b/\w.cell? ⟨g,i,none⟩=some (.map (some b))/\be w b N a[i]):=t;have A:Hid (be w h N d):=s;have C:Hid (w.heap[q]?=some (.cells #[.map (some h)] 296 (0,0))):=z;have T:∀(args:Array Value) (w:World),(callFunc 229 args).run prog w=.ok (.enter 229 args) w:=enters_of func229 (by kernel_rfl) rfl;clear h1 s t z;go_enter func228,ntmps228;go_wp2_with fail
 go_loopg [8] a.length (fun F O Q=>∃i:Nat,i<=a.length/\F=a.length-i/\O=.int .i64 i/\Hid (∀j,j<i->a[j]?≠some d)/\Hid (Below w.heap.size w Q))
 case atStart=>exact⟨0,aJ _,rfl,rfl,(fun j k=>absurd k (nr _)),aB _ _⟩
 case round =>
  obtain⟨i,hi,rfl,rfl,y,f⟩:=hrel;obtain⟨l,M⟩:∃l,l=wr:=⟨wr,rfl⟩;subst M
  by_cases u:i<a.length
  ·obtain⟨g,b,rfl,_,hc,hS⟩:=B.out i u;have R:=(n9.below f.out).cell hc;have o:Hid (be l b N a[i]):=hS.below f.out;have L:=(n9.below f.out).cell (ab C.out 0 _ rfl);have m:Hid (a[i]?=some a[i]):=ax u;generalize a[i]=S at o m;clear hS hc;go_wp2_with fail;refine(JM l b h q N S d o.out (A.out.below f.out) G L).mono ?_;rintro r P ⟨c,rfl,hc,H⟩;have n:Hid (Below w.heap.size w P):=f.out.trans (H.mono f.out.size);cases c
   ·have K:Hid (∀j,j<i+1->a[j]?≠some d):=fun j k e=>by
     by_cases E:j=i
     ·subst E;rw[m.out]at e;cases e;have:=hc.2 (fun x=>Iff.rfl);cases this
     ·exact y.out j (by omega) e
    clear hc;go_wp2_with fail;go_roundg (a.length-(i+1))
    case measure=>omega
    case rel=>exact⟨i+1,by omega,rfl,by go_num,K,n⟩
   ·have I:Hid (S=d):=nF (hc.1 rfl);clear hc;go_wp2_with fail;go_ret;exact⟨i,rfl,ac ⟨i,rfl,by rw[m.out,I.out]⟩,n.out⟩
  ·go_wp2_with fail;go_ret;refine⟨-1,rfl,ah ⟨rfl,fun J=>?_⟩,f.out⟩;obtain⟨j,k⟩:=e3.1 J;exact y.out j (by have:=(a1.1 k).1;omega) k
theorem rf{P:Program}{fn:Func}{p u:Tmp}(h:fn.results=#[.tmp p,.tmp u])(tmps:Array Value)(w:World):(results fn tmps).run P w=.ok (.tuple #[tmps.getD p undef,tmps.getD u undef]) w:=by
 simp[results,h]
theorem Nz(b:Nat):∀u∈[Value.map (some b)],u.oneCell'=true:=by
 intro u hu;simp at hu;subst hu;rfl
theorem iR.grown{w w':World}{base N:Nat}{v t:Value}{g:List (Nat->Prop)}{j:List Nat}{b:Nat}{S:Nat->Prop}(h:iR w base v N g j)(A:be w b N S)(hg:w.grownBy w' v.ownBlock)(y:w'.ownsRow base 296 1 t (g.length+1) ((j.map fun b=>Value.map (some b))++[.map (some b)])):iR w' base t N (g++[S]) (j++[b]):=by
 have aY:∀{c T},be w c N T->be w' c N T:=fun {c T} hc=>hc.kept (hg.block c hc.da (fun e=>by
  obtain⟨B,q⟩:=bh h.2.1 c e.symm;obtain⟨D,x⟩:=hc;obtain⟨C,cl,h1,_⟩:=x.own;rw[h1]at q;cases q))
 refine⟨by simp[h.1],by simpa using y,?_⟩;intro i c T hc o;rcases bD hc with⟨n,E⟩|⟨n,rfl⟩
 ·rcases bD o with⟨d,u⟩|⟨d,rfl⟩
  ·exact aY (h.2.2 i c T n d)
  ·have:=h.1;omega
 ·rcases bD o with⟨d,u⟩|⟨d,rfl⟩
  ·have:=h.1;omega
  ·exact aY A
def rU(w:World)(v a:Value):Prop:=a.ownBlock=v.ownBlock\/∃k,a.ownBlock=some k/\w.heap.size<=k
def Found(a:List (Nat->Prop))(b:Nat->Prop)(c:List (Nat->Prop))(n:Nat):Prop:=(c=a/\a[n]?=some b)\/(c=a++[b]/\n=a.length/\b ∉ a)
def MA(base N:Nat)(v:Value)(d:List (Nat->Prop))(f:List Nat)(e:Nat->Prop)(w:World)(r:Ending)(w':World):Prop :=
 ∃a n b c,r=.returned (.tuple #[a,.int .i64 (n:Nat)])/\iR w' base a N b c/\Found d e b n/\f <+: c/\bj (fun k=>v.ownBlock=some k) w w'/\rU w v a
theorem Lo(w:World)(base b N:Nat)(v:Value)(a:List (Nat->Prop))(f:List Nat)(d:Nat->Prop)(h1:iR w base v N a f)(s:be w b N d)(K:N<=9000)(M:a.length<=9000)(L:base<=w.heap.size):Calls prog 210 #[v,.map (some b)] w (MA base N v a f d w):=by
 have m:Hid (iR w base v N a f):=h1;have o:Hid (be w b N d):=s;obtain⟨l,au,rfl,_⟩:=h1.form;clear h1 s;go_enter func210,ntmps210;go_wp2_with fail;refine(DP _ base b w.heap.size N _ a f d (m.out.below (af w _)) (o.out.below (af w _)) K M (aw w _)).mono ?_;rintro r c ⟨i,rfl,hi,hb⟩;have h:Hid (Below w.heap.size w c):=(af w _).trans (hb.mono (by simp));have O:c.cell? ⟨w.heap.size,0,none⟩=some (.map (some b)):=(hb.cell (p:=⟨w.heap.size,0,none⟩) (by simp)).trans (ab (aw w _) 0 _ rfl);clear hb;rcases hi with⟨rfl,x⟩|⟨n,rfl,t⟩
 ·have E:Hid (d ∉ a):=x;clear x;have g:Hid (Below w.heap.size w (c.alloc (.cells #[.map (some b)] 296))):=h.out.alloc h.out.size _;have q:Hid (iR (c.alloc (.cells #[.map (some b)] 296)) base (.slice l a.length au) N a f):=m.out.below g.out;have J:Hid (be (c.alloc (.cells #[.map (some b)] 296)) b N d):=o.out.below g.out;have F:base<=(c.alloc (.cells #[.map (some b)] 296)).heap.size:=aE L g.out.size;have G:w.heap.size<=(c.alloc (.cells #[.map (some b)] 296)).heap.size:=g.out.size;go_wp2_with (at_builtin;refine bs rfl (.tmp 14) (.tmp 16) 339 rfl base 296 (.map none) 1 8 Tryz.NL Tryz.MX rfl (by decide) (.slice l a.length au) a.length _ rfl q.out.2.1 c.heap.size 1 [.map (some b)] rfl rfl (fun j u hu=>ab (aw c _) j u (by simpa using hu)) (Nz b) (by omega) (by omega) F ?_;intro A B y hg z;have I:Hid (iR B base A N (a++[d]) (f++[b])):=q.out.grown J.out hg y;have C:Hid (bj (fun k=>Value.ownBlock (.slice l a.length au)=some k) w B):=(bj.aL g.out).grown hg (fun k e=>ac e);have H:Hid (rU w (.slice l a.length au) A):=z.imp id (fun e=>⟨_,e,G⟩);clear y hg z);refine bodyPost_ret (rf rfl _ _) rfl ?_;exact⟨_,a.length,_,_,rfl,I.out,ac ⟨rfl,rfl,E.out⟩,List.prefix_append _ _,C.out,H.out⟩
 ·have D:Hid (a[n]?=some d):=t;clear t;go_wp2_with fail;refine bodyPost_ret (rf rfl _ _) rfl ?_;exact⟨_,n,a,f,rfl,m.out.below h.out,ah ⟨rfl,D.out⟩,kw _,bj.aL h.out,ah rfl⟩
end Go.Proofs.YtodagkkjfipbgaaGreatDoor
