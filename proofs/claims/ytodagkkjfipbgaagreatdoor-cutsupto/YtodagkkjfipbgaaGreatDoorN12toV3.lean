import Derived.RangeFuncNested
import Derived.RangeFuncBound
import Derived.RangeFuncCalls
import Derived.RangeFuncLeaves
import Derived.Shelf.RegionOpen
import Derived.OwnWalkIn
import Derived.TacticsInMore
import Derived.LoopNIn
import Derived.LoopIn
import Derived.Test.YtodagkkjfipbgaaGreatDoorN4toN11
set_option maxRecDepth 100000
set_option maxHeartbeats 8000000
namespace Go.Proofs.YtodagkkjfipbgaaGreatDoor
open Go.RowKit Go.Maps Go.Proofs.Tryz
theorem Tryz.PA:(prog.info? 246).map (fun i=>(i.zero,i.size,i.bytes))=some (some (.agg #[.int .i64 0,.int .i64 0,.int .i64 0,.int .i64 0,.int .i64 0,.int .i64 0,.int .i64 0,.int .i64 0,.int .i64 0]),9,72):=by kernel_rfl
theorem Tryz.QA:prog.underlying 92=some (.slice 246):=by kernel_rfl
theorem jY{a:List Nat}{j k:Nat}(h:a[j]?=some k):(bI a)[j]?=some (.int .u8 (k:Nat)):=by unfold bI;rw[cV,h];rfl
theorem H2:nk (false,[0,0,0,0]):=⟨rfl,fun j v a=>by have:=bC a;simp at this;omega⟩
def MD(base q o:Nat)(J:AJ)(l:List (Value×Value))(j:Value)(a:List Nat)(k:Value)(w:World)(r:Ending)(w':World):Prop :=
 r=.returned (.tuple #[])/\∃(p:Nat) (X:List bY) (d:Option Addr) (g:Nat) (i:Option Nat) (K:List bY) (c:Option Addr) (f:Nat) (h:Option Nat) (H:List Hd) (b:Option Addr) (e:Nat),x6 base w' p q o J l j a k X d g i K c f h H b e/\iz J a X K H/\H.length=X.length/\(∀x∈K,fG J a x)/\(∀x∈X,jm J a x)/\X[0]?=some (false,[0,0,0,0])/\Below base w w'
theorem Lb(w:World)(s:Nat)(l:List Nat)(j:Nat)(u:Value)(hu:(cN (s,l))[j]?=some u):(w.alloc (.cells (cN (s,l)).toArray 246)).drew.cell? ⟨w.heap.size,j,none⟩=some u:=ab (w:=(w.alloc _).drew) (aw w _) j u ((h4 ..).trans hu)
def x7:List Nat:=[0,0,0,0,0,0,0,0]
theorem zY(base q o:Nat)(J:AJ)(Q:List (Value×Value))(l2:Value)(a:List Nat)(l3:Value)(w:World)(n7:J.length<=4)(o3:∀k∈a,k<8)(x0:a.length<=8)(g7:mA 0 w l2 J Q)(j2:w.ownsRow 0 169 1 l3 a.length (bI a))(i7:hX base w q [] none 0 none) (j1:w.heap[o]?=some (.cells #[l3,.slice none 0 0,.slice none 0 0] 95 (0,0))) (j4:base<=w.heap.size) (s1:base<=q) (x2:base<=o):Calls prog 84 #[.pointer (some ⟨o,0,none⟩),l2,.pointer (some ⟨q,0,none⟩)] w (MD base q o J Q l2 a l3 w):=by
 obtain⟨c3,c5,rfl,_⟩:=g7.form;obtain⟨a0,a3,rfl⟩:=ak j2;have s0:=an j1;have x4:=an i7.da;obtain⟨R,c9⟩:∃R,R=w.alloc (.cells #[.slice none 0 0,.map none] 238):=⟨_,rfl⟩;have p9:=az c9;have b0:Below w.heap.size w R:=by rw[c9];exact af w _
 have y2:R.heap.size=w.heap.size+1:=by rw[c9];simp
 have l7:jP base R w.heap.size [] none 0 none:=⟨by rw[c9];exact aw w _,cq _ _ _ _,ah ⟨rfl,rfl⟩,List.nodup_nil,fun x G=>by simp at G⟩;have h7:Hid (x6 base R w.heap.size q o J Q (.slice c3 J.length c5) a (.slice a0 a.length a3) [] none 0 none [] none 0 none [] none 0) :=
  ⟨l7,i7.below b0,fun b e=>(by cases e),g7.below b0,al j2 (Kp.below b0),cq _ _ _ _,(b0.block o s0).trans j1⟩
 have l5:=az (b0.mono j4);have c1:=az g7.ok;have p6:=az o3;clear g7 j2 i7 j1 l7 b0 c9 o3;go_enter func84,ntmps84;go_wp2_with fail;rw[<- p9.out];refine(yO base w.heap.size [] none 0 none (false,[0,0,0,0]) R h7.out.fx H2 j4 (by omega)).mono ?_;rintro r v6 ⟨i0,e8,r2,r4,v2,rfl,m9,j5,o5,_,i6⟩;have m4:=az (h7.out.Gf m9 o5 i6 j5);have l6:Hid (Below base w v6):=l5.out.trans (i6.below (by omega) fun k L e=>by
  rcases e with e|e|e
  ·omega
  ·simp[Value.ownBlock]at e
  ·cases e)
 have j3:e8=[(false,[0,0,0,0])]:=by
  rcases j5 with⟨_,h⟩|⟨_,h,_⟩
  ·simp at h
  ·exact h
 have l4:Hid (∀x∈e8,jm J a x):=fun x G=>by rw[j3]at G;simp at G;subst G;exact jm.zero c1.out a
 have m5:Hid (e8[0]?=some (false,[0,0,0,0])):=by rw[j3];rfl
 clear m9 j5 o5 i6 j3 h7 l5;go_wp2_with fail
 go_loopg [7] 320001 (fun i3 v0 F=>∃(i:Nat) (X:List bY) (e9:Option Addr) (U:Nat) (e4:Option Nat) (K:List bY) (c4:Option Addr) (c7:Nat) (e2:Option Nat) (H:List Hd) (O:Option Addr) (P:Nat),i3+i=320001/\i<=X.length/\v0=.int .i64 i/\Hid (H.length=i)/\Hid (x6 base F w.heap.size q o J Q (.slice c3 J.length c5) a (.slice a0 a.length a3) X e9 U e4 K c4 c7 e2 H O P)/\Hid (iz J a X K H)/\Hid (∀x∈K,fG J a x)/\Hid (∀x∈X,jm J a x)/\Hid (X[0]?=some (false,[0,0,0,0]))/\Hid (Below base w F))
 case atStart=>exact⟨0,e8,r2,r4,v2,[],none,0,none,[],none,0,rfl,aJ _,rfl,(rfl:([]:List Hd).length=0),m4,(fun i h hi=>by simp at hi),(fun x G=>by simp at G),l4,m5,l6⟩
 case round =>
  obtain⟨i,X,e9,U,e4,K,c4,c7,e2,H,O,P,w6,hi,rfl,n5,D,n4,j0,g8,o1,i4⟩:=hrel;obtain⟨c,s6⟩:∃c,c=wr:=⟨wr,rfl⟩;subst s6;clear m4 l4 m5 l6;have w5:=wX D.out.fx.nodup D.out.fx.ok;have x5:=i4.out.size;have v8:c.cell? ⟨w.heap.size,0,none⟩=some (.slice e9 X.length U):=ab D.out.fx.da 0 _ rfl;have x3:=an D.out.fx.da
  by_cases o4:i<X.length
  ·obtain⟨x,G⟩:∃x,X[i]?=some x:=⟨X[i],ax o4⟩;have Y:Hid (jm J a x):=g8.out x (bC G);have q1:=az G;have a8:=q8 X i x (fun y s9=>(g8.out y s9).1.len) G;obtain⟨A,z8⟩:=x;obtain⟨d,f,l,m,e⟩:=Go.Proofs.YtodagkkjfipbgaaGreatDoor.four Y.out.1.len;simp only at e;subst e;obtain⟨g,hg,_,r5⟩:=cu D.out.fx.row (a8 0 _ rfl) (by omega);obtain⟨g1,j6,_,i1⟩:=cu D.out.fx.row (a8 1 _ rfl) (by omega);obtain⟨g2,j7,_,v9⟩:=cu D.out.fx.row (a8 2 _ rfl) (by omega);obtain⟨g3,j8,_,w0⟩:=cu D.out.fx.row (a8 3 _ rfl) (by omega);obtain⟨g4,j9,_,w1⟩:=cu D.out.fx.row (a8 4 _ rfl) (by omega);rw[hg]at j6 j7 j8 j9;simp at j6 j7 j8 j9;subst j6;subst j7;subst j8;subst j9;subst hg;simp only[k8]at r5;obtain⟨W2,a7⟩:∃W2,W2=(c.alloc (.cells #[.bool A,.int .i64 (d:Nat),.int .i64 (f:Nat),.int .i64 (l:Nat),.int .i64 (m:Nat)] 243)).alloc (.cells #[.int .i64 0,.int .i64 0,.int .i64 0,.int .i64 0,.int .i64 0,.int .i64 0,.int .i64 0,.int .i64 0,.int .i64 0] 246):=⟨_,rfl⟩;have q0:=az a7;have b2:Below c.heap.size c W2:=by rw[a7];exact(af c _).alloc (by simp) _
   have y3:W2.heap.size=c.heap.size+2:=by rw[a7];simp
   have z:W2.heap[c.heap.size]?=some (.cells #[.bool A,.int .i64 (d:Nat),.int .i64 (f:Nat),.int .i64 (l:Nat),.int .i64 (m:Nat)] 243 (0,0)):=by rw[a7,aW _ _ _ (by simp)];exact aw c _
   have g0:W2.heap[c.heap.size+1]?=some (.cells (cN (0,x7)).toArray 246 (0,0)):=by rw[a7];exact(show ((c.alloc (.cells #[.bool A,.int .i64 (d:Nat),.int .i64 (f:Nat),.int .i64 (l:Nat),.int .i64 (m:Nat)] 243)).heap.size)=c.heap.size+1 by simp)▸aw (c.alloc _) _
   have e6:=az (D.out.below b2);have h8:=az z;have h6:=az g0;have h2:Hid (Below base w W2):=i4.out.trans (b2.mono (by omega));have m3:Hid (∀k,(Value.slice O H.length P).ownBlock=some k->k≠c.heap.size+1):=fun k e=>by have:=(D.out.hd.lt k e).2;omega
   have r0:Hid (∀k,(Value.slice (some ⟨g,0,none⟩) X.length U).ownBlock=some k->k≠c.heap.size):=fun k e=>by have:=(D.out.fx.row.lt k e).2;omega
   have k6:=ab z 0 _ rfl;have k7:=ab z 1 _ rfl;have k9:=ab z 2 _ rfl;have l0:=ab z 3 _ rfl;have l1:=ab z 4 _ rfl;clear a7 z g0 b2 a8 G
   go_upto_if 27 with fail
   rw[<- q0.out]
   go_cut [] (fun F=>∃(v:List bY) (S:Option Addr) (T:Nat) (W:Option Nat) (s:Nat),Hid (x6 base F w.heap.size q o J Q (.slice c3 J.length c5) a (.slice a0 a.length a3) X (some ⟨g,0,none⟩) U e4 v S T W H O P)/\Hid (F.heap[c.heap.size]?=some (.cells #[.bool A,.int .i64 (d:Nat),.int .i64 (f:Nat),.int .i64 (l:Nat),.int .i64 (m:Nat)] 243 (0,0)))/\Hid (F.heap[c.heap.size+1]?=some (.cells (cN (s,x7)).toArray 246 (0,0)))/\Hid (K <+: v/\(A=true->v[s]?=some (kU J (A,[d,f,l,m])))/\∀y∈v,fG J a y)/\Hid (Below base w F))
   case first =>
    cases o9:A
    ·go_wp2_with fail;go_meet;exact⟨K,c4,c7,e2,0,e6,h8,h6,⟨kw _,fun e=>(by rw[o9]at e;cases e),j0.out⟩,h2⟩
    ·subst o9;go_wp2_with fail;refine(G2 W2 _ J Q (true,[d,f,l,m]) e6.out.aj n7 Y.out.1).mono ?_;rintro r w3 ⟨rfl,a9⟩;have h9:Hid (dl J (kU J (true,[d,f,l,m]))):=Bn c1.out _;have Z:=az (e6.out.below a9);have q5:Hid (w3.heap[c.heap.size]?=some (.cells #[.bool true,.int .i64 (d:Nat),.int .i64 (f:Nat),.int .i64 (l:Nat),.int .i64 (m:Nat)] 243 (0,0))):=(a9.block _ (by omega)).trans h8.out;have p4:Hid (w3.heap[c.heap.size+1]?=some (.cells (cN (0,x7)).toArray 246 (0,0))):=(a9.block _ (by omega)).trans h6.out;have p2:Hid (Below base w w3):=h2.out.trans (a9.mono (by omega));have s2:=a9.size;clear a9;go_wp2_with fail;refine(yP base q K c4 c7 e2 _ w3 Z.out.fk h9.out.four s1 (by omega)).mono ?_;rintro r E ⟨s,v,S,T,W,rfl,n1,e0,o6,_,c8⟩;have q3:=az (Z.out.CG n1 o6 c8 e0);have k4:=Z.out.fk.kp c8 (t:=246) (by decide) (by decide);have p0:=Z.out.fk.kp c8 (t:=243) (by decide) (by decide);have q6:Hid (E.heap[c.heap.size]?=some (.cells #[.bool true,.int .i64 (d:Nat),.int .i64 (f:Nat),.int .i64 (l:Nat),.int .i64 (m:Nat)] 243 (0,0))):=p0 _ _ _ q5.out;have g5:=k4 _ _ _ p4.out;have l8:=az g5;have B4:Hid (Below base w E):=p2.out.trans (c8.below (by omega) fun k L e=>by
      rcases e with e|e|e
      ·omega
      ·have:=(Z.out.fk.row.lt k e).1;omega
      ·have:=(Z.out.fk.lt e).2.1;omega)
     have h5:Hid (K <+: v/\v[s]?=some (kU J (true,[d,f,l,m]))/\∀y∈v,fG J a y):=⟨e0.pre.1,e0.pre.2,e0.all j0.out (Y.out.start c1.out rfl)⟩;have t0:=ab g5 0 _ rfl;have v5:=aq g5 0;clear n1 e0 o6 c8 k4 p0 g5;go_wp2_with fail;go_meet;refine⟨v,S,T,W,s,q3.out.FC l8.out m3.out _,?_,?_,⟨h5.out.1,fun _=>h5.out.2.1,h5.out.2.2⟩,B4.out.setCell (by show base<=c.heap.size+1;omega) _⟩
     ·exact(aD (by omega)).trans q6.out
     ·exact(am l8.out 0 _).trans rfl
   case rest =>
    obtain⟨v,S,T,W,s,n8,n9,n3,i9,m8⟩:=hcut;obtain⟨w3,s7⟩:∃w3,w3=wc:=⟨wc,rfl⟩;subst s7;clear e6 h8 h6 h2 k6 k7 k9 l0 l1;have s2:=m8.out.size;have y6:w3.cell? ⟨o,0,none⟩=some (.slice a0 a.length a3):=ab n8.out.ob 0 _ rfl;have x1:=an n9.out;have w7:=an n3.out;go_wp2_with fail
    go_loopg [39] a.length (fun i3 v1 F=>∃(j:Nat) (N:List bY) (a2:Option Addr) (a4:Nat) (e5:Option Nat) (M:List Nat),j<=a.length/\i3=a.length-j/\v1=.int .i64 j/\Hid (x6 base F w.heap.size q o J Q (.slice c3 J.length c5) a (.slice a0 a.length a3) N a2 a4 e5 v S T W H O P)/\Hid (F.heap[c.heap.size]?=some (.cells #[.bool A,.int .i64 (d:Nat),.int .i64 (f:Nat),.int .i64 (l:Nat),.int .i64 (m:Nat)] 243 (0,0)))/\Hid (F.heap[c.heap.size+1]?=some (.cells (cN (s,M)).toArray 246 (0,0)))/\Hid (M.length=8/\X <+: N/\(∀y∈N,jm J a y)/\∀t k,t<j->a[t]?=some k->∃n,M[k]?=some n/\N[n]?=some (k0 J (A,[d,f,l,m]) k))/\Hid (∀k,(Value.slice a2 N.length a4).ownBlock=some k->k≠c.heap.size)/\Hid (w3.heap.size<=F.heap.size)/\Hid (Below base w F))
    case atStart=>exact⟨0,X,some ⟨g,0,none⟩,U,e4,x7,aJ _,rfl,rfl,n8,n9,n3,⟨rfl,kw _,g8.out,fun t k e1=>absurd e1 (nr _)⟩,r0,ar _,m8⟩
    case round =>
     obtain⟨j,N,a2,a4,e5,M,w8,rfl,rfl,a6,V,I,C,o0,s4,i5⟩:=hrel;obtain⟨E,s8⟩:∃E,E=wr:=⟨wr,rfl⟩;subst s8;have x8:=s4.out;have y1:=i5.out.size
     by_cases r9:j<a.length
     ·obtain⟨k,L⟩:∃k,a[j]?=some k:=⟨a[j],ax r9⟩;have o2:k<8:=p6.out k (bC L);have w9:(k:Int)<8:=by omega
      obtain⟨w2,r7,_,y5⟩:=cu a6.out.ps (jY L) (by omega);subst r7;have m2:=az L;have k6:=ab V.out 0 _ rfl;have k7:=ab V.out 1 _ rfl;have k9:=ab V.out 2 _ rfl;have l0:=ab V.out 3 _ rfl;have l1:=ab V.out 4 _ rfl;clear L;go_wp2_with fail;refine(HG E _ J Q (A,[d,f,l,m]) k a6.out.aj n7 Y.out.1 o2).mono ?_;rintro r h0 ⟨rfl,b1⟩;have h9:=az (Cl c1.out Y.out.1 k);have B:=az (a6.out.below b1);have e7:Hid (h0.heap[c.heap.size]?=some (.cells #[.bool A,.int .i64 (d:Nat),.int .i64 (f:Nat),.int .i64 (l:Nat),.int .i64 (m:Nat)] 243 (0,0))):=(b1.block _ (an V.out)).trans V.out;have p5:Hid (h0.heap[c.heap.size+1]?=some (.cells (cN (s,M)).toArray 246 (0,0))):=(b1.block _ (an I.out)).trans I.out;have h3:Hid (Below base w h0):=i5.out.trans (b1.mono (by omega));have x9:=b1.size;clear b1 k6 k7 k9 l0 l1;go_wp2_with fail;refine(yO base w.heap.size N a2 a4 e5 _ h0 B.out.fx h9.out.four j4 (by omega)).mono ?_;rintro r p1 ⟨n,c2,m6,m7,v3,rfl,n2,b3,o7,o8,a5⟩;have q4:=az (B.out.Gf n2 o7 a5 b3);have g6:=B.out.fx.kp a5 (t:=246) (by decide) (by decide) _ _ _ p5.out;have l9:=az g6;have q7:Hid (p1.heap[c.heap.size]?=some (.cells #[.bool A,.int .i64 (d:Nat),.int .i64 (f:Nat),.int .i64 (l:Nat),.int .i64 (m:Nat)] 243 (0,0))):=by
       refine(a5.block _ (an e7.out) fun e=>?_).trans e7.out;rcases e with e|e|e
       ·have:=B.out.fx.da;rw[<- e,e7.out]at this;cases this
       ·exact o0.out _ e rfl
       ·exact(B.out.fx.lt e).2.2 _ _ _ e7.out
      have p3:Hid (Below base w p1):=h3.out.trans (a5.below (by omega) fun k L e=>by
       rcases e with e|e|e
       ·omega
       ·have:=(B.out.fx.row.lt k e).1;omega
       ·have:=(B.out.fx.lt e).2.1;omega)
      have q9:Hid (∀k,(Value.slice m6 c2.length m7).ownBlock=some k->k≠c.heap.size):=fun k e=>by
       rcases o8 k e with i1|i1
       ·exact o0.out k i1
       ·omega
      have y0:=a5.size;have q2:Hid ((M.set k n).length=8/\X <+: c2/\(∀y∈c2,jm J a y)/\∀t k',t<j+1->a[t]?=some k'->∃g9,(M.set k n)[k']?=some g9/\c2[g9]?=some (k0 J (A,[d,f,l,m]) k')):=by
       refine⟨by rw[jc];exact C.out.1,C.out.2.1.trans b3.pre.1,b3.all C.out.2.2.1 (Y.out.later c1.out (bC m2.out)),fun t k' e1 k2=>?_⟩
       by_cases i2:k'=k
       ·subst i2;exact⟨n,oW (by rw[C.out.1];exact o2),b3.pre.2⟩
       ·have s5:t<j:=by
         rcases cF t j with h|h
         ·exact h
         ·have e:t=j:=by omega
          subst e;rw[m2.out]at k2;cases k2;exact absurd rfl i2
        obtain⟨g9,h1,g0⟩:=C.out.2.2.2 t k' s5 k2;exact⟨g9,by rw[qZ (fun e=>i2 e.symm)];exact h1,at_prefix b3.pre.1 g0⟩
      obtain⟨u,hu⟩:∃u,M[k]?=some u:=⟨M[k]'(by have:=C.out.1;omega),ax _⟩;have t0:=ab g6 (1+k) _ ((h4 ..).trans (Cv (h:=(s,M)) hu));have v5:=aq g6 (1+k);clear n2 b3 o7 o8 a5 g6 hu;go_wp2_with fail;go_roundg (a.length-(j+1))
      case measure=>omega
      case rel =>
       refine⟨j+1,c2,m6,m7,v3,M.set k n,by omega,rfl,by go_num,q4.out.FC l9.out m3.out _,?_,?_,q2,q9,?_,p3.out.setCell (by show base<=c.heap.size+1;omega) _⟩
       ·exact(aD (by omega)).trans q7.out
       ·show _=_;rw[<- Ag];exact am l9.out _ _
       ·show _<=_;simp;omega
     ·have r8:j=a.length:=by omega
      obtain⟨b4,b5,z,b6,b7,b8,b9,c0,r6⟩:=CT C.out.1;subst r6;have p7:Hid (qT J a N v (A,[d,f,l,m]) (s,[b4,b5,z,b6,b7,b8,b9,c0])):=⟨rfl,fun k L=>by obtain⟨t,e1⟩:=e3.1 L;exact C.out.2.2.2 t k (by rw[r8];exact(a1.1 e1).1) e1,i9.out.2.1⟩;have y8:=ab I.out 0 _ rfl;have y9:=ab I.out 1 _ rfl;have z0:=ab I.out 2 _ rfl;have z1:=ab I.out 3 _ rfl;have z2:=ab I.out 4 _ rfl;have z3:=ab I.out 5 _ rfl;have z4:=ab I.out 6 _ rfl;have z5:=ab I.out 7 _ rfl;have z6:=ab I.out 8 _ rfl;have v4:E.cell? ⟨o,1,none⟩=some (.slice O H.length P):=ab a6.out.ob 1 _ rfl;have n6:=n5.out;have w4:H.length<=320000:=by omega
      have m1:=az n6;clear n6;have y7:=fun ob=>((af E ob).cell (p:=⟨o,1,none⟩) (an a6.out.ob)).trans v4
      have B:Hid (x6 base (E.alloc (.cells (cN (s,[b4,b5,z,b6,b7,b8,b9,c0])).toArray 246)).drew w.heap.size q o J Q (.slice c3 J.length c5) a (.slice a0 a.length a3) N a2 a4 e5 v S T W H O P):=a6.out.below (af E _).drew;have h3:Hid (Below base w (E.alloc (.cells (cN (s,[b4,b5,z,b6,b7,b8,b9,c0])).toArray 246)).drew):=(i5.out.alloc (by omega) _).drew;go_wp2_with fail
      go_region_law (first
       | (refine dz rfl (.tmp 56) (.tmp 58) 92 rfl base 246 (.agg #[.int .i64 0,.int .i64 0,.int .i64 0,.int .i64 0,.int .i64 0,.int .i64 0,.int .i64 0,.int .i64 0,.int .i64 0]) 9 72 Tryz.PA Tryz.QA rfl (by decide) (.slice O H.length P) H.length (gp H) (by simp[Act.eval]) B.out.hd E.heap.size 1 (cN (s,[b4,b5,z,b6,b7,b8,b9,c0])) (by simp[Act.eval]) rfl (Lb E s [b4,b5,z,b6,b7,b8,b9,c0]) (Ah _) (by omega) (by omega) (by simp;omega) ?_
          intro z7 v7 k3 k1 s3;obtain⟨r1,r3,rfl⟩:=ak k3;have p8:=az k3;have m0:=az k1;have k5:=br B.out.ob (Kp.refl _ _) B.out.hd k1 (by decide);have i0:=ab k5 1 _ rfl;have y4:=aq k5;clear k3 k1 s3 k5))
      all_goals go_wp2_with fail
      all_goals go_roundg (320001-(i+1))
      all_goals first
       | (case measure=>omega)
       | exact⟨i+1,N,a2,a4,e5,v,S,T,W,H++[(s,[b4,b5,z,b6,b7,b8,b9,c0])],r1,r3,by omega,cI o4 C.out.2.1.length_le,by go_num,by show _=_;rw[aF,m1.out];rfl,B.out.push m0.out p8.out,(n4.out.more C.out.2.1 i9.out.1).snoc (by rw[m1.out];exact at_prefix C.out.2.1 q1.out) p7.out,i9.out.2.2,C.out.2.2.1,at_prefix C.out.2.1 o1.out,(h3.out.grown m0.out (by simp;omega) (fun k L=>(B.out.hd.lt k L).1)).setCell (by show base<=o;omega) _⟩
  ·go_wp2_with fail
   go_end0
   exact⟨rfl,w.heap.size,X,e9,U,e4,K,c4,c7,e2,H,O,P,D.out,n4.out,by rw[n5.out];omega,j0.out,g8.out,o1.out,i4.out⟩
abbrev Vw:=Bool×Bool×List Nat
def aZ(v:Vw):List Value:=.bool v.1::.bool v.2.1::v.2.2.map fun (n:Nat)=>Value.int .i64 (n:Int)
def a7(V:List Vw):List Value:=V.flatMap aZ
theorem vt(V:List Vw)(v:Vw):a7 (V++[v])=a7 V++aZ v:=by unfold a7;simp
theorem zb(v:Vw):∀u∈aZ v,u.oneCell'=true:=by
 intro u hu;unfold aZ at hu;simp only[aT,aN]at hu;rcases hu with rfl|rfl|⟨n,_,rfl⟩<;>rfl
theorem za(c t:Bool)(l:List Nat)(k n:Nat):(aZ (c,t,l)).toArray.setIfInBounds (2+k) (.int .i64 n)=(aZ (c,t,l.set k n)).toArray:=by
 unfold aZ;rw[List.setIfInBounds_toArray,Nat.add_comm 2 k,oT,oT,List.map_set]
theorem q3{v:Vw}{j u:Nat}(a:v.2.2[j]?=some u):(aZ v)[2+j]?=some (.int .i64 (u:Nat)):=by
 unfold aZ;rw[Nat.add_comm,xJ,xJ,cV,a];rfl
def qP(J:AJ)(a:List Nat)(K:List bY)(x:bY)(v:Vw):Prop:=v.2.2.length=8/\v.1=xa J x/\∀k∈a,∃n,v.2.2[k]?=some n/\K[n]?=some (mQ J x k)
theorem qP.more{J:AJ}{g:List Nat}{K d:List bY}{x:bY}{v:Vw}(h:qP J g K x v)(j:K <+: d):qP J g d x v :=
 ⟨h.1,h.2.1,fun k o=>by obtain⟨n,h1,i⟩:=h.2.2 k o;exact⟨n,h1,at_prefix j i⟩⟩
def gQ(J:AJ)(a:List Nat)(K:List bY)(V:List Vw):Prop:=∀(i:Nat) (v:Vw),V[i]?=some v->∃x,K[i]?=some x/\qP J a K x v
theorem gQ.more{J:AJ}{j:List Nat}{K d:List bY}{V:List Vw}(h:gQ J j K V)(g:K <+: d):gQ J j d V:=fun i v hi=>by
 obtain⟨x,h1,n⟩:=h i v hi;exact⟨x,at_prefix g h1,n.more g⟩
theorem gQ.snoc{J:AJ}{j:List Nat}{K:List bY}{V:List Vw}{x:bY}{v:Vw}(h:gQ J j K V)(n:K[V.length]?=some x)(h1:qP J j K x v):gQ J j K (V++[v]):=fun i g hi=>by
 rcases bD hi with⟨d,_⟩|⟨d,rfl⟩
 ·exact h i g d
 ·exact⟨x,by rw[d];exact n,h1⟩
structure xG (base:Nat) (w:World) (q o:Nat) (J:AJ) (vs:List (Value×Value)) (vJ:Value) (ks:List Nat) (vP:Value) (K:List bY) (aoK:Option Addr) (capK:Nat) (moK:Option Nat) (H:List Hd) (vH:Value) (V:List Vw) (aoV:Option Addr) (capV:Nat):Prop where
 fk:hX base w q K aoK capK moK
 aj:mA 0 w vJ J vs
 ps:w.ownsRow 0 169 1 vP ks.length (bI ks)
 hd:w.ownsRow base 246 9 vH H.length (gp H)
 vw:w.ownsRow base 254 10 (.slice aoV V.length capV) V.length (a7 V)
 ob:w.heap[o]?=some (.cells #[vP,vH,.slice aoV V.length capV] 95 (0,0))
theorem xG.below{base q o:Nat}{w w':World}{J:AJ}{y:List (Value×Value)}{v:Value}{n:List Nat}{x:Value}{K:List bY}{d:Option Addr}{i:Nat}{t:Option Nat}{H:List Hd}{u:Value}{V:List Vw}{g:Option Addr}{j:Nat}(h:xG base w q o J y v n x K d i t H u V g j)(hb:Below w.heap.size w w'):xG base w' q o J y v n x K d i t H u V g j :=
 ⟨h.fk.below hb,h.aj.below hb,al h.ps (Kp.below hb),al h.hd (Kp.below hb),al h.vw (Kp.below hb),(hb.block o (an h.ob)).trans h.ob⟩
theorem xG.CG{base q o:Nat}{w w':World}{J:AJ}{E:List (Value×Value)}{B:Value}{v:List Nat}{C:Value}{K:List bY}{i:Option Addr}{t:Nat}{y:Option Nat}{H:List Hd}{A:Value}{V:List Vw}{j:Option Addr}{u:Nat}{d:List bY}{g:Option Addr}{n:Nat}{x:Option Nat}(h:xG base w q o J E B v C K i t y H A V j u)(F:hX base w' q d g n x)(hc:bj (ME q K.length i t y) w w'):xG base w' q o J E B v C d g n x H A V j u :=
 ⟨F,h.aj.kp (h.fk.kp hc (by decide) (by decide)) (h.fk.kp hc (by decide) (by decide)),al h.ps (h.fk.kp hc (by decide) (by decide)),al h.hd (h.fk.kp hc (by decide) (by decide)),al h.vw (h.fk.kp hc (by decide) (by decide)),h.fk.kp hc (by decide) (by decide) _ _ _ h.ob⟩
theorem xG.Nb{base q o:Nat}{w:World}{J:AJ}{B:List (Value×Value)}{y:Value}{t:List Nat}{A:Value}{K:List bY}{j:Option Addr}{n:Nat}{v:Option Nat}{H:List Hd}{x:Value}{V:List Vw}{g:Option Addr}{i:Nat}{lb f:Nat}{C:Array Value}(h:xG base w q o J B y t A K j n v H x V g i)(d:w.heap[lb]?=some (.cells C 254 (0,0)))(E:∀k,(Value.slice g V.length i).ownBlock=some k->k≠lb)(u:Value):xG base (w.setCell ⟨lb,f,none⟩ u) q o J B y t A K j n v H x V g i :=
 ⟨h.fk.Na d (by decide) (by decide) u,h.aj.kp ((Kp.refl _ _).setCell d (by decide) u) ((Kp.refl _ _).setCell d (by decide) u),al h.ps ((Kp.refl _ _).setCell d (by decide) u),al h.hd ((Kp.refl _ _).setCell d (by decide) u),BI h.vw E u,(Kp.refl _ _).setCell d (by decide) u _ _ _ h.ob⟩
theorem xG.push{base q o:Nat}{w w':World}{J:AJ}{O:List (Value×Value)}{M:Value}{E:List Nat}{N:Value}{K:List bY}{u:Option Addr}{x:Nat}{F:Option Nat}{H:List Hd}{I:Value}{V:List Vw}{v:Option Addr}{y:Nat}{i:Option Addr}{j:Nat}{v0:Vw}(h:xG base w q o J O M E N K u x F H I V v y)(hg:w.grownBy w' (Value.slice v V.length y).ownBlock)(R:w'.ownsRow base 254 10 (.slice i (V.length+1) j) (V.length+1) (a7 V++aZ v0)):xG base (w'.setCell ⟨o,2,none⟩ (.slice i (V.length+1) j)) q o J O M E N K u x F H I (V++[v0]) i j:=by
 have G:=br h.ob (Kp.refl _ _) h.vw hg (by decide);have B:∀k,(∀n t m,w.heap[k]?=some (.cells n t m)->t≠254/\t≠95)->k<w.heap.size->(w'.setCell ⟨o,2,none⟩ (.slice i (V.length+1) j)).heap[k]?=w.heap[k]?:=fun k g Q=>by
  rw[aD (fun e=>by subst e;exact(g _ _ _ h.ob).2 rfl),hg.block k Q (fun e=>by obtain⟨A,d⟩:=bh h.vw k e.symm;exact(g _ _ _ d).1 rfl)]
 have kp:∀t:TypeId,t≠254->t≠95->Kp t w (w'.setCell ⟨o,2,none⟩ (.slice i (V.length+1) j)):=fun t h1 P k n m d=>by
  rw[B k (fun A T S C=>by rw[d]at C;cases C;exact⟨h1,P⟩) (an d)];exact d
 refine⟨h.fk.C3 fun k g hu=>B k (fun n t m d=>?_) g,h.aj.kp (kp _ (by decide) (by decide)) (kp _ (by decide) (by decide)),al h.ps (kp _ (by decide) (by decide)),al h.hd (kp _ (by decide) (by decide)),?_,?_⟩
 ·rcases hu with e|e|e
  ·subst e;rw[h.fk.da]at d;cases d;decide
  ·obtain⟨A,g⟩:=bh h.fk.row k e;rw[g]at d;cases d;decide
  ·exact((h.fk.lt e).2.2 _ _ _ d).elim
 ·rw[aF,vt];exact al R ((Kp.refl _ _).setCell G (by decide) _)
 ·rw[aF];exact(am G 2 _).trans rfl
theorem Tryz.Pw:(prog.info? 254).map (fun i=>(i.zero,i.size,i.bytes))=some (some (.agg #[.bool false,.bool false,.int .i64 0,.int .i64 0,.int .i64 0,.int .i64 0,.int .i64 0,.int .i64 0,.int .i64 0,.int .i64 0]),10,72):=by kernel_rfl
theorem Tryz.Qv:prog.underlying 93=some (.slice 254):=by kernel_rfl
theorem I8(w:World)(c t:Bool)(l:List Nat)(j:Nat)(u:Value)(hu:(aZ (c,t,l))[j]?=some u):(w.alloc (.cells (aZ (c,t,l)).toArray 254)).drew.cell? ⟨w.heap.size,j,none⟩=some u:=ab (w:=(w.alloc _).drew) (aw w _) j u ((h4 ..).trans hu)
theorem hX.cells{base p au i:Nat}{w:World}{X:List bY}{t:Option Addr}{I:Option Nat}(h:hX base w p X t au I){b:Bool}{v x A xs:Nat}(u:X[i]?=some (b,[v,x,A,xs])):∃g,t=some ⟨g,0,none⟩/\w.cell? ⟨g,i*5,none⟩=some (.bool b)/\w.cell? ⟨g,i*5+1,none⟩=some (.int .i64 (v:Nat))/\w.cell? ⟨g,i*5+2,none⟩=some (.int .i64 (x:Nat))/\w.cell? ⟨g,i*5+3,none⟩=some (.int .i64 (A:Nat))/\w.cell? ⟨g,i*5+4,none⟩=some (.int .i64 (xs:Nat)):=by
 have J:=(a1.1 u).1;have d:=q8 X i _ (fun y H=>(h.ok y H).len) u;obtain⟨g,hg,_,B⟩:=cu h.row (d 0 _ rfl) (by omega);obtain⟨g1,j,_,C⟩:=cu h.row (d 1 _ rfl) (by omega);obtain⟨g2,n,_,E⟩:=cu h.row (d 2 _ rfl) (by omega);obtain⟨g3,o,_,F⟩:=cu h.row (d 3 _ rfl) (by omega);obtain⟨g4,q,_,G⟩:=cu h.row (d 4 _ rfl) (by omega);rw[hg]at j n o q;simp at j n o q;subst j;subst n;subst o;subst q;exact⟨g,hg,B,C,E,F,G⟩
def Qf(base q o:Nat)(J:AJ)(k:List (Value×Value))(i:Value)(a:List Nat)(j:Value)(b:List bY)(H:List Hd)(h:Value)(w:World)(r:Ending)(w':World):Prop :=
 r=.returned (.tuple #[])/\∃(K:List bY) (c:Option Addr) (e:Nat) (g:Option Nat) (V:List Vw) (d:Option Addr) (f:Nat),xG base w' q o J k i a j K c e g H h V d f/\gQ J a K V/\V.length=K.length/\b <+: K/\(∀x∈K,fG J a x)/\(∀v∈V,v.2.1=false)/\Below base w w'
theorem El(base q o:Nat)(J:AJ)(B:List (Value×Value))(h3:Value)(a:List Nat)(k8:Value)(Y:List bY)(e0:Option Addr)(e1:Nat)(h2:Option Nat)(H:List Hd)(k7:Value)(w:World)(j6:J.length<=4)(k2:∀k∈a,k<8)(o5:a.length<=8)(a8:xG base w q o J B h3 a k8 Y e0 e1 h2 H k7 [] none 0)(j7:∀x∈Y,fG J a x)(o1:base<=w.heap.size)(m7:base<=q)(o6:base<=o):Calls prog 85 #[.pointer (some ⟨o,0,none⟩),h3,.pointer (some ⟨q,0,none⟩)] w (Qf base q o J B h3 a k8 Y H k7 w):=by
 obtain⟨a0,a3,rfl,_⟩:=a8.aj.form;obtain⟨a5,N,rfl⟩:=ak a8.ps;obtain⟨Z,a2,rfl⟩:=ak a8.hd;have i2:Hid (∀r∈J,fh r):=a8.aj.ok;have l2:Hid (∀k∈a,k<8):=k2;have i6:Hid (xG base w q o J B (.slice a0 J.length a3) a (.slice a5 a.length N) Y e0 e1 h2 H (.slice Z H.length a2) [] none 0):=a8;have h6:Hid (∀x∈Y,fG J a x):=j7;clear a8 k2 j7;go_enter func85,ntmps85;go_wp2_with fail
 go_loopg [6] 320001 (fun g0 n5 b1=>∃(i:Nat) (K:List bY) (b9:Option Addr) (a6:Nat) (b8:Option Nat) (V:List Vw) (f:Option Addr) (l:Nat),g0+i=320001/\i<=K.length/\n5=.int .i64 i/\Hid (V.length=i)/\Hid (xG base b1 q o J B (.slice a0 J.length a3) a (.slice a5 a.length N) K b9 a6 b8 H (.slice Z H.length a2) V f l)/\Hid (gQ J a K V)/\Hid (Y <+: K)/\Hid (∀x∈K,fG J a x)/\Hid (∀v∈V,v.2.1=false)/\Hid (Below base w b1))
 case atStart=>exact⟨0,Y,e0,e1,h2,[],none,0,rfl,aJ _,rfl,(rfl:([]:List Vw).length=0),i6,(fun i h hi=>by simp at hi),kw _,h6,(fun v E=>by simp at E),aB _ _⟩
 case round =>
  obtain⟨i,K,b9,a6,b8,V,f,l,o2,hi,rfl,c3,O,k0,j8,g3,j9,g1⟩:=hrel;obtain⟨b0,n2⟩:∃b0,b0=wr:=⟨wr,rfl⟩;subst n2;clear i6 h6;have n8:=wX O.out.fk.nodup O.out.fk.ok;have o7:=g1.out.size;have j1:b0.cell? ⟨q,0,none⟩=some (.slice b9 K.length a6):=ab O.out.fk.da 0 _ rfl
  by_cases k3:i<K.length
  ·obtain⟨x,c4⟩:∃x,K[i]?=some x:=⟨K[i],ax k3⟩;have b2:Hid (fG J a x):=g3.out x (bC c4);obtain⟨F,q7⟩:=x;obtain⟨G,I,L,M,e⟩:=Go.Proofs.YtodagkkjfipbgaaGreatDoor.four b2.out.1.len;simp only at e;subst e;have i5:Hid (K[i]?=some (F,[G,I,L,M])):=c4;obtain⟨g,hg,e2,e4,e5,e6,e7⟩:=O.out.fk.cells c4;subst hg;clear c4;go_wp2_with fail;refine(LF b0 _ J B (F,[G,I,L,M]) O.out.aj j6 b2.out.1).mono ?_;rintro r w3 ⟨rfl,g4⟩;obtain⟨b,g6⟩:∃b,b=xa J (F,[G,I,L,M]):=⟨_,rfl⟩;rw[<- g6];have l1:Hid (b=xa J (F,[G,I,L,M])):=g6;obtain⟨W3,b4⟩:∃W3,W3=w3.alloc (.cells #[.bool b,.bool false,.int .i64 0,.int .i64 0,.int .i64 0,.int .i64 0,.int .i64 0,.int .i64 0,.int .i64 0,.int .i64 0] 254):=⟨_,rfl⟩;have i4:Hid (W3=w3.alloc (.cells #[.bool b,.bool false,.int .i64 0,.int .i64 0,.int .i64 0,.int .i64 0,.int .i64 0,.int .i64 0,.int .i64 0,.int .i64 0] 254)):=b4;have m8:=g4.size;have g5:Below b0.heap.size b0 W3:=by rw[b4];exact g4.alloc m8 _
   have p0:W3.heap.size=w3.heap.size+1:=by rw[b4];simp
   have c9:Hid (xG base W3 q o J B (.slice a0 J.length a3) a (.slice a5 a.length N) K (some ⟨g,0,none⟩) a6 b8 H (.slice Z H.length a2) V f l):=O.out.below g5;have h8:Hid (W3.heap[w3.heap.size]?=some (.cells (aZ (b,false,x7)).toArray 254 (0,0))):=by rw[b4];exact aw w3 _
   have h7:Hid (Below base w W3):=g1.out.trans (g5.mono (by omega));have l3:Hid (∀k,(Value.slice f V.length l).ownBlock=some k->k≠w3.heap.size):=fun k e=>by have:=(O.out.vw.lt k e).2;omega
   have k5:W3.cell? ⟨o,0,none⟩=some (.slice a5 a.length N):=ab c9.out.ob 0 _ rfl;have k6:=k5;rw[i4.out]at k6;clear g6 g4 g5 b4;go_wp2_with fail;rw[<- i4.out]
   go_loopg [34] a.length (fun g0 n6 b1=>∃(j:Nat) (d:List bY) (c0:Option Addr) (a4:Nat) (a9:Option Nat) (s:List Nat),j<=a.length/\g0=a.length-j/\n6=.int .i64 j/\Hid (xG base b1 q o J B (.slice a0 J.length a3) a (.slice a5 a.length N) d c0 a4 a9 H (.slice Z H.length a2) V f l)/\Hid (b1.heap[w3.heap.size]?=some (.cells (aZ (b,false,s)).toArray 254 (0,0)))/\Hid (s.length=8/\K <+: d/\(∀y∈d,fG J a y)/\∀t k,t<j->a[t]?=some k->∃n,s[k]?=some n/\d[n]?=some (mQ J (F,[G,I,L,M]) k))/\Hid (Below base w b1))
   case atStart=>exact⟨0,K,some ⟨g,0,none⟩,a6,b8,x7,aJ _,rfl,rfl,c9,h8,⟨rfl,kw _,g3.out,fun t k b7=>absurd b7 (nr _)⟩,h7⟩
   case round =>
    obtain⟨j,d,c0,a4,a9,s,o3,rfl,rfl,C,m,c,g2⟩:=hrel;obtain⟨z,n3⟩:∃z,z=wr:=⟨wr,rfl⟩;subst n3;clear c9 h8 h7 k5 k6 e2 e4 e5 e6 e7 j1;have o9:=g2.out.size;have m5:i<d.length:=cI k3 c.out.2.1.length_le;have n9:=wX C.out.fk.nodup C.out.fk.ok
    by_cases m4:j<a.length
    ·obtain⟨k,D⟩:∃k,a[j]?=some k:=⟨a[j],ax m4⟩;have k1:k<8:=l2.out k (bC D);have o4:(k:Int)<8:=by omega
     obtain⟨j4,m2,_,p2⟩:=cu C.out.ps (jY D) (by omega);subst m2;have i3:Hid (a[j]?=some k):=D;obtain⟨e9,m1,e2,e4,e5,e6,e7⟩:=C.out.fk.cells (at_prefix c.out.2.1 i5.out);subst m1;have j1:z.cell? ⟨q,0,none⟩=some (.slice (some ⟨e9,0,none⟩) d.length a4):=ab C.out.fk.da 0 _ rfl;clear D;go_wp2_with fail;refine(Kr z _ J B (F,[G,I,L,M]) k C.out.aj j6 b2.out.1 k1).mono ?_;rintro r c7 ⟨rfl,b5⟩;have l8:Hid (dl J (mQ J (F,[G,I,L,M]) k)):=FZ i2.out b2.out.1 k;have A:Hid (xG base c7 q o J B (.slice a0 J.length a3) a (.slice (some ⟨j4,0,none⟩) a.length N) d (some ⟨e9,0,none⟩) a4 a9 H (.slice Z H.length a2) V f l):=C.out.below b5;have l0:Hid (c7.heap[w3.heap.size]?=some (.cells (aZ (b,false,s)).toArray 254 (0,0))):=(b5.block _ (an m.out)).trans m.out;have c8:Hid (Below base w c7):=g2.out.trans (b5.mono (by omega));have o8:=b5.size;clear b5 e2 e4 e5 e6 e7;go_wp2_with fail;refine(yP base q d (some ⟨e9,0,none⟩) a4 a9 _ c7 A.out.fk l8.out.four m7 (by omega)).mono ?_;rintro r h5 ⟨n,b3,j0,j3,k4,rfl,j5,b6,m6,n4,c2⟩;have l7:Hid (xG base h5 q o J B (.slice a0 J.length a3) a (.slice (some ⟨j4,0,none⟩) a.length N) b3 j0 j3 k4 H (.slice Z H.length a2) V f l):=A.out.CG j5 c2;have c1:=A.out.fk.kp c2 (t:=254) (by decide) (by decide) _ _ _ l0.out;have h9:Hid (h5.heap[w3.heap.size]?=some (.cells (aZ (b,false,s)).toArray 254 (0,0))):=c1;have k9:Hid (Below base w h5):=c8.out.trans (c2.below (by omega) fun k D e=>by
      rcases e with e|e|e
      ·omega
      ·have:=(A.out.fk.row.lt k e).1;omega
      ·have:=(A.out.fk.lt e).2.1;omega)
     have l6:Hid ((s.set k n).length=8/\K <+: b3/\(∀y∈b3,fG J a y)/\∀t k',t<j+1->a[t]?=some k'->∃c5,(s.set k n)[k']?=some c5/\b3[c5]?=some (mQ J (F,[G,I,L,M]) k')):=by
      refine⟨by rw[jc];exact c.out.1,c.out.2.1.trans b6.pre.1,b6.all c.out.2.2.1 (b2.out.next i2.out (bC i3.out)),fun t k' b7 g8=>?_⟩
      by_cases e8:k'=k
      ·subst e8;exact⟨n,oW (by rw[c.out.1];exact k1),b6.pre.2⟩
      ·have n1:t<j:=by
        rcases cF t j with h|h
        ·exact h
        ·have e:t=j:=by omega
         subst e;rw[i3.out]at g8;cases g8;exact absurd rfl e8
       obtain⟨c5,h1,m0⟩:=c.out.2.2.2 t k' n1 g8;exact⟨c5,by rw[qZ (fun e=>e8 e.symm)];exact h1,at_prefix b6.pre.1 m0⟩
     obtain⟨u,hu⟩:∃u,s[k]?=some u:=⟨s[k]'(by have:=c.out.1;omega),ax _⟩;have t0:=ab c1 (2+k) _ ((h4 ..).trans (q3 (v:=(b,false,s)) hu));have q5:=aq c1 (2+k);clear j5 b6 m6 n4 c2 c1 hu;go_wp2_with fail;go_roundg (a.length-(j+1))
     case measure=>omega
     case rel =>
      refine⟨j+1,b3,j0,j3,k4,s.set k n,by omega,rfl,by go_num,l7.out.Nb h9.out l3.out _,?_,l6,k9.out.setCell (by show base<=w3.heap.size;omega) _⟩;show _=_;rw[<- za];exact am h9.out _ _
    ·have m3:j=a.length:=by omega
     obtain⟨P,Q,R,S,T,U,W,X,l9⟩:=CT c.out.1;subst l9;have l4:Hid (qP J a d (F,[G,I,L,M]) (b,false,[P,Q,R,S,T,U,W,X])):=⟨rfl,l1.out,fun k D=>by obtain⟨t,b7⟩:=e3.1 D;exact c.out.2.2.2 t k (by rw[m3];exact(a1.1 b7).1) b7⟩;have p4:=ab m.out 0 _ rfl;have p5:=ab m.out 1 _ rfl;have p6:=ab m.out 2 _ rfl;have p7:=ab m.out 3 _ rfl;have p8:=ab m.out 4 _ rfl;have p9:=ab m.out 5 _ rfl;have q0:=ab m.out 6 _ rfl;have q1:=ab m.out 7 _ rfl;have q2:=ab m.out 8 _ rfl;have q4:=ab m.out 9 _ rfl;have n7:z.cell? ⟨o,2,none⟩=some (.slice f V.length l):=ab C.out.ob 2 _ rfl;have o0:V.length<=320000:=by have:=c3.out;omega
     have p3:=fun ob=>((af z ob).cell (p:=⟨o,2,none⟩) (an C.out.ob)).trans n7
     have A:Hid (xG base (z.alloc (.cells (aZ (b,false,[P,Q,R,S,T,U,W,X])).toArray 254)).drew q o J B (.slice a0 J.length a3) a (.slice a5 a.length N) d c0 a4 a9 H (.slice Z H.length a2) V f l):=C.out.below (af z _).drew;have c8:Hid (Below base w (z.alloc (.cells (aZ (b,false,[P,Q,R,S,T,U,W,X])).toArray 254)).drew):=(g2.out.alloc (by omega) _).drew;go_wp2_with fail
     go_region_law (first
      | (refine dz rfl (.tmp 58) (.tmp 60) 93 rfl base 254 (.agg #[.bool false,.bool false,.int .i64 0,.int .i64 0,.int .i64 0,.int .i64 0,.int .i64 0,.int .i64 0,.int .i64 0,.int .i64 0]) 10 72 Tryz.Pw Tryz.Qv rfl (by decide) (.slice f V.length l) V.length (a7 V) (by simp[Act.eval]) A.out.vw z.heap.size 1 (aZ (b,false,[P,Q,R,S,T,U,W,X])) (by simp[Act.eval]) rfl (I8 z b false [P,Q,R,S,T,U,W,X]) (zb _) (by omega) (by omega) (by simp;omega) ?_
         intro q6 i7 g9 g7 m9;obtain⟨i9,j2,rfl⟩:=ak g9;have l5:Hid (i7.ownsRow base 254 10 (.slice i9 (V.length+1) j2) (V.length+1) (a7 V++aZ (b,false,[P,Q,R,S,T,U,W,X]))):=g9;have i1:Hid ((z.alloc (.cells (aZ (b,false,[P,Q,R,S,T,U,W,X])).toArray 254)).drew.grownBy i7 (Value.slice f V.length l).ownBlock):=g7;have h0:=br A.out.ob (Kp.refl _ _) A.out.vw g7 (by decide);have i0:=ab h0 2 _ rfl;have p1:=aq h0;clear g9 g7 m9 h0))
     all_goals go_wp2_with fail
     all_goals go_roundg (320001-(i+1))
     all_goals first
      | (case measure=>omega)
      | exact⟨i+1,d,c0,a4,a9,V++[(b,false,[P,Q,R,S,T,U,W,X])],i9,j2,by omega,m5,by go_num,by show _=_;rw[aF,c3.out];rfl,A.out.push i1.out l5.out,(k0.out.more c.out.2.1).snoc (by rw[c3.out];exact at_prefix c.out.2.1 i5.out) l4.out,j8.out.trans c.out.2.1,c.out.2.2.1,(fun v E=>by
        rw[aR]at E;rcases E with E|E
        ·exact j9.out v E
        ·simp at E;rw[E]),(c8.out.grown i1.out (by simp;omega) (fun k D=>(A.out.vw.lt k D).1)).setCell (by show base<=o;omega) _⟩
  ·go_wp2_with fail
   go_end0
   exact⟨rfl,K,b9,a6,b8,V,f,l,O.out,k0.out,by rw[c3.out];omega,j8.out,g3.out,j9.out,g1.out⟩
theorem y9:∀(V:List Vw) (i:Nat) (v:Vw),(∀y∈V,y.2.2.length=8)->V[i]?=some v->∀o u,(aZ v)[o]?=some u->(a7 V)[i*10+o]?=some u:=by
 intro X
 induction X with
 | nil=>intro i x _ h;simp at h
 | cons a X d =>
  intro i x b h o u hu;have c:(aZ a).length=10:=by unfold aZ;simp[b a aU]
  have e:a7 (a::X)=aZ a++a7 X:=rfl;have g:=(a1.1 hu).1;cases i with
  | zero =>
   simp at h;subst h;rw[e,dD (by omega),show 0*10+o=o from by omega];exact hu
  | succ i =>
   have f:(aZ x).length=10:=by unfold aZ;simp[b x (b6 _ (bC (by simpa using h)))]
   have:=d i x (fun r h=>b r (b6 _ h)) (by simpa using h) o u hu;rw[e,eH (by omega),c,show (i+1)*10+o-10=i*10+o from by omega];exact this
def xw(a:List Nat)(V:List Vw):Prop:=∀v∈V,v.2.2.length=8/\∀k∈a,∃n,v.2.2[k]?=some n/\n<V.length
def bq(V:List Vw):List (Bool×List Nat):=V.map fun v=>(v.1,v.2.2)
structure xL (w:World) (base:Nat) (v:Value) (g:List (List Nat)) (rv:List Value):Prop where
 len:rv.length=g.length
 row:w.ownsRow base 33 1 v g.length rv
 ib:∀(i:Nat) (u:Value) (l:List Nat),rv[i]?=some u->g[i]?=some l->w.ownsRow base 3 1 u l.length (aP l)
 apart:∀(i j:Nat) (u v:Value) (k:Nat),i≠j->rv[i]?=some u->rv[j]?=some v->u.ownBlock=some k->v.ownBlock≠some k
theorem xL.tE{w w':World}{base:Nat}{v:Value}{g:List (List Nat)}{j:List Value}(h:xL w base v g j)(d:n9 w w'):xL w' base v g j :=
 ⟨h.len,al h.row (d.kp _),fun i u l hu n=>al (h.ib i u l hu n) (d.kp _),h.apart⟩
theorem Tryz.K3:(prog.info? 33).map (fun i=>(i.zero,i.size,i.bytes))=some (some (.slice none 0 0),1,24):=by kernel_rfl
theorem Tryz.OK:(prog.info? 3).map (fun i=>(i.zero,i.size,i.bytes))=some (some (.int .i64 0),1,8):=by kernel_rfl
theorem Tryz.Jf:prog.underlying 256=some (.slice 33):=by kernel_rfl
theorem Tryz.Fi:prog.underlying 33=some (.slice 3):=by kernel_rfl
theorem KB(W:World)(n:Nat)(d:n<=320000):(Instr.makeSlice 256 (.int .i64 n) (.int .i64 n)).run prog W=.ok (.slice (some ⟨W.heap.size,0,none⟩) n n) (W.alloc (.cells (madeCells #[.slice none 0 0] n) 33)):=by
 obtain⟨i,hi,a,b,c⟩:=info_parts Tryz.K3;have h:=run_make (P:=prog) W 256 33 i (.slice none 0 0) Tryz.Jf hi a .i64 .i64 n n (by omega) (by omega) (by rw[c];omega) (by omega);rw[b]at h;simpa[Value.cells]using h
theorem Ju(W:World)(n:Nat)(c:n<=320000):xL (W.alloc (.cells (madeCells #[.slice none 0 0] n) 33)) W.heap.size (.slice (some ⟨W.heap.size,0,none⟩) n n) (List.replicate n []) (List.replicate n (.slice none 0 0)):=by
 refine⟨by simp,⟨by simp,ac ⟨W.heap.size,n,_,by simp,ar _,aw W _,by simp,by unfold maxLen;omega,by simp[size_madeCells],?_⟩⟩,?_,?_⟩
 ·rw[wu];simp
 ·intro i u l hu a;rw[fj]at hu a;split at hu
  ·rw[ag (by assumption)]at a;cases hu;cases a;exact cq _ _ _ _
  ·cases hu
 ·intro i j u v k _ hu _ b;rw[fj]at hu;split at hu
  ·cases hu;simp[Value.ownBlock]at b
  ·cases hu
def x2(g:List (List Nat))(i x:Nat):List (List Nat):=g.modify i (·++[x])
theorem xr(g:List (List Nat))(i x:Nat):(x2 g i x).length=g.length:=by unfold x2;simp
theorem AH{g:List (List Nat)}{i x j:Nat}{l:List Nat}(h:(x2 g i x)[j]?=some l):(j≠i/\g[j]?=some l)\/(j=i/\∃a,g[j]?=some a/\l=a++[x]):=by
 unfold x2 at h;rw[qY]at h
 by_cases e:i=j
 ·right;subst e;simp at h;obtain⟨a,h1,rfl⟩:=h;exact⟨rfl,_,h1,rfl⟩
 ·left;refine⟨fun b=>e b.symm,?_⟩;cases hS:g[j]? with
  | none=>rw[hS]at h;simp at h
  | some x=>rw[hS]at h;simp[e]at h;rw[h]
theorem xL.add{w E:World}{base G au i x:Nat}{u v:Value}{g:List (List Nat)}{t:List Value}(h:xL w base (.slice (some ⟨G,0,none⟩) g.length au) g t)(hi:i<g.length)(hu:t[i]?=some u) (T:E.ownsRow base 33 1 (.slice (some ⟨G,0,none⟩) g.length au) g.length (t.set i v)) (S:∀(k:Nat),some k≠u.ownBlock->(∃P,w.heap[k]?=some (.cells P 3 (0,0)))->E.heap[k]?=w.heap[k]?) (U:E.ownsRow base 3 1 v (g[i].length+1) (aP g[i]++[.int .i64 (x:Nat)])) (B:v.ownBlock=u.ownBlock\/∃k,v.ownBlock=some k/\w.heap.size<=k):xL E base (.slice (some ⟨G,0,none⟩) g.length au) (x2 g i x) (t.set i v):=by
 have M:=h.len;have at_:∀(j:Nat) (x:Value),(t.set i v)[j]?=some x->(j≠i/\t[j]?=some x)\/(j=i/\x=v):=by
  intro j x d
  by_cases e:j=i
  ·right;subst e;rw[oW (by omega)]at d;simp at d;exact⟨rfl,d.symm⟩
  ·left;rw[qZ (fun Q=>e Q.symm)]at d;exact⟨e,d⟩
 have J:∀(j:Nat) (x:Value) (k:Nat),j≠i->t[j]?=some x->x.ownBlock=some k->v.ownBlock≠some k:=by
  intro j x k I d o e;rcases B with B|⟨k',B,V⟩
  ·exact h.apart j i x u k I d hu o (by rw[<- B];exact e)
  ·have R:j<g.length:=by rw[<- M];exact(a1.1 d).1
   have:=((h.ib j x _ d (ax R)).lt k o).2;rw[B]at e;simp at e;omega
 refine⟨by rw[jc,xr];exact M,by rw[xr];exact T,?_,?_⟩
 ·intro j z l O I;rcases AH I with⟨h1,y⟩|⟨h1,W,y,rfl⟩
  ·rcases at_ j z O with⟨n,q⟩|⟨n,q⟩
   ·have h0:=h.ib j z l q y;refine qg h0 fun k o=>S k (fun e=>?_) (bh h0 k o)
    exact h.apart j i z u k n q hu o e.symm
   ·exact absurd n h1
  ·subst h1;rcases at_ j z O with⟨n,q⟩|⟨n,rfl⟩
   ·exact absurd rfl n
   ·rw[ax hi]at y;simp at y;subst y;rw[aF];have e:aP (g[j]++[x])=aP g[j]++[.int .i64 (x:Nat)]:=by unfold aP;simp
    rw[e];exact U
 ·intro j C x F k K d N o;rcases at_ j x d with⟨n,q⟩|⟨n,rfl⟩
  ·rcases at_ C F N with⟨A,H⟩|⟨A,rfl⟩
   ·exact h.apart j C x F k K q H o
   ·exact J j x k n q o
  ·rcases at_ C F N with⟨A,H⟩|⟨A,rfl⟩
   ·intro e;exact J C F k A H e o
   ·exact absurd (n.trans A.symm) K
theorem xL.cell{w:World}{base j au n i:Nat}{g:List (List Nat)}{o:List Value}(h:xL w base (.slice (some ⟨j,0,none⟩) n au) g o)(H:g.length=n)(hi:i<n):∃d c,o[i]?=some (.slice d (g[i]'(by omega)).length c)/\w.cell? ⟨j,i,none⟩=some (.slice d (g[i]'(by omega)).length c)/\w.ownsRow base 3 1 (.slice d (g[i]'(by omega)).length c) (g[i]'(by omega)).length (aP (g[i]'(by omega)))/\∃q,w.heap[j]?=some (.cells q 33 (0,0)):=by
 have G:=h.len;obtain⟨u,hu⟩:∃u,o[i]?=some u:=⟨o[i]'(by omega),ax (by omega)⟩;have h0:=h.ib i u _ hu (ax (by omega));obtain⟨d,c,rfl⟩:=ak h0;obtain⟨A,B,e,y⟩:=jT h.row;injection e with t C E
 obtain⟨F,v,_,hc⟩:=y i _ hu (by omega);rw[v]at t;cases t;obtain⟨q,x⟩:=bh h.row j rfl;exact⟨d,c,hu,hc,h0,q,x⟩
theorem Ml{w w':World}{base e n i x:Nat}{l:List Nat}{a b:Option Addr}{c d:Nat}{g:List (List Nat)}{m:List Value}{o:Obj}(hg:xL w base (.slice (some ⟨e,0,none⟩) n n) g m)(u:g.length=n)(hi:i<n)(r:g[i]?=some l)(hu:m[i]?=some (.slice a l.length c)) (z:w.ownsRow base 3 1 (.slice a l.length c) l.length (aP l)) (q:(w.alloc o).drew.grownBy w' (Value.ownBlock (.slice a l.length c))) (v:w'.ownsRow base 3 1 (.slice b (l.length+1) d) (l.length+1) (aP l++[.int .i64 (x:Nat)])) (A:eX (w.alloc o).drew (.slice a l.length c) (.slice b (l.length+1) d)) {s:Array Value} (p:w'.heap[e]?=some (.cells s 33 (0,0))):xL (w'.setCell ⟨e,i,none⟩ (.slice b (l.length+1) d)) base (.slice (some ⟨e,0,none⟩) n n) (x2 g i x) (m.set i (.slice b (l.length+1) d)):=by
 subst u;have t:g[i]'hi=l:=by rw[ax hi]at r;simpa using r
 have y:(w.alloc o).drew.ownsRow base 3 1 (.slice a l.length c) l.length (aP l):=al z (Kp.alloc (Kp.refl _ w) o);refine hg.add hi hu ?_ ?_ ?_ ?_
 ·have j:Kp 33 w w':=(Kp.alloc (Kp.refl _ w) o).grown (w:=(w.alloc o).drew) y q (by decide);exact tx (al hg.row j) _ _
 ·rintro k j ⟨B,f⟩;have h1:w'.heap[k]?=w.heap[k]?:=(q.block k (by have:=an f;show k<(w.alloc o).heap.size;simp;omega) j).trans (aW _ _ _ (an f));rw[e2 _ _ _ _ (dI (h1.trans f) p (by decide))];exact h1
 ·rw[t];exact al v ((Kp.refl _ _).setCell p (by decide) _)
 ·rcases A with h|h
  ·exact ah h
  ·exact ac ⟨_,h,by show w.heap.size<=(w.alloc o).heap.size;simp⟩
def kr(a:List Nat)(V:List (Bool×List Nat))(i j:Nat)(src:List (List Nat)):Prop:=src.length=V.length/\(∀l∈src,l.length<=8*i+j)/\∀y l,src[y]?=some l->∀x,x∈l↔(x<i/\mW a V x y)\/(x=i/\∃t k,t<j/\a[t]?=some k/\((V[x]?).bind fun r=>r.2[k]?)=some y)
theorem kr.start(g:List Nat)(V:List (Bool×List Nat)):kr g V 0 0 (List.replicate V.length []):=by
 refine⟨by simp,fun l d=>?_,fun y l d x=>?_⟩
 ·rw[List.mem_replicate]at d;rw[d.2];simp
 ·rw[fj]at d;split at d
  ·cases d;constructor
   ·intro h;simp at h
   ·rintro(⟨h,_⟩|⟨_,t,k,h,_⟩)<;>omega
  ·cases d
theorem kr.step{w:List Nat}{V:List (Bool×List Nat)}{i j k n:Nat}{src:List (List Nat)}(h:kr w V i j src)(C:w[j]?=some k)(E:((V[i]?).bind fun r=>r.2[k]?)=some n):kr w V i (j+1) (x2 src n i):=by
 refine⟨(xr _ _ _).trans h.1,fun l v=>?_,fun y l v x=>?_⟩
 ·obtain⟨y,F⟩:=e3.1 v;rcases AH F with⟨_,h1⟩|⟨_,A,h1,rfl⟩
  ·have:=h.2.1 l (bC h1);omega
  ·have:=h.2.1 A (bC h1);simp;omega
 ·rcases AH v with⟨h1,q⟩|⟨h1,A,q,rfl⟩
  ·rw[h.2.2 y l q x];constructor
   ·rintro(d|⟨d,t,k',u,g⟩)
    ·exact ah d
    ·exact ac ⟨d,t,k',by omega,g⟩
   ·rintro(d|⟨d,t,k',u,g,o⟩)
    ·exact ah d
    ·refine ac ⟨d,t,k',?_,g,o⟩;rcases cF t j with B|B
     ·exact B
     ·exfalso;have e:t=j:=by omega
      subst e;rw[C]at g;cases g;subst d;rw[E]at o;cases o;exact h1 rfl
  ·subst h1;rw[aR,h.2.2 y A q x];constructor
   ·rintro((d|⟨d,t,k',u,g⟩)|d)
    ·exact ah d
    ·exact ac ⟨d,t,k',by omega,g⟩
    ·simp at d;subst d;exact ac ⟨rfl,j,k,by omega,C,E⟩
   ·rintro(d|⟨d,t,k',u,g,o⟩)
    ·exact ah (ah d)
    ·exact ac (by simp[d])
theorem kr.next{j:List Nat}{V:List (Bool×List Nat)}{i:Nat}{src:List (List Nat)}(h:kr j V i j.length src)(w:j.length<=8):kr j V (i+1) 0 src:=by
 refine⟨h.1,fun l u=>by have:=h.2.1 l u;omega,fun y l v x=>?_⟩;rw[h.2.2 y l v x];constructor
 ·rintro(⟨h1,d⟩|⟨h1,t,k,d,g,n⟩)
  ·exact ah ⟨by omega,d⟩
  ·exact ah ⟨by omega,k,bC g,n⟩
 ·rintro(⟨h1,d⟩|⟨_,t,k,d,_⟩)
  ·rcases cF x i with g|g
   ·exact ah ⟨g,d⟩
   ·obtain⟨k,q,n⟩:=d;obtain⟨t,o⟩:=e3.1 q;exact ac ⟨by omega,t,k,(a1.1 o).1,o,n⟩
  ·omega
theorem kr.done{n:List Nat}{V:List (Bool×List Nat)}{i:Nat}{src:List (List Nat)}(h:kr n V i 0 src)(hi:V.length<=i):Dj n V src:=by
 refine⟨h.1,fun y l o x=>?_⟩;rw[h.2.2 y l o x];constructor
 ·rintro(⟨_,d⟩|⟨_,t,k,d,_⟩)
  ·exact d
  ·omega
 ·intro d;refine ah ⟨?_,d⟩;obtain⟨k,_,j⟩:=d;rcases cF x i with g|g
  ·exact g
  ·rw[gB (by omega)]at j;cases j
theorem Ny(w:World)(x:Nat):∀(j:Nat) (u:Value),[Value.int .i64 (x:Nat)][j]?=some u->(w.alloc (.cells #[.int .i64 (x:Nat)] 3)).drew.cell? ⟨w.heap.size,j,none⟩=some u:=fun j u hu=>ab (w:=(w.alloc _).drew) (aw w _) j u (by simpa using hu)
theorem FT(x:Nat):∀u∈[Value.int .i64 (x:Nat)],u.oneCell'=true:=by
 intro u hu;simp at hu;subst hu;rfl
theorem ot{w:World}{base i au:Nat}{c:Option Addr}{V:List Vw}(h:w.ownsRow base 254 10 (.slice c V.length au) V.length (a7 V))(d:∀v∈V,v.2.2.length=8){v:Vw}(b:V[i]?=some v):∃g,c=some ⟨g,0,none⟩/\g<w.heap.size/\∀o u,(aZ v)[o]?=some u->w.cell? ⟨g,i*10+o,none⟩=some u:=by
 have l:=(a1.1 b).1;have k:=d v (bC b);have e:=y9 V i _ d b;have hlen:(aZ v).length=10:=by unfold aZ;simp[k]
 obtain⟨g,hg,_,f⟩:=cu h (e 0 _ rfl) (by omega);refine⟨g,hg,k3 f,fun o u hu=>?_⟩;have m:=(a1.1 hu).1;obtain⟨g1,a,_,j⟩:=cu h (e o u hu) (by omega);rw[hg]at a;simp at a;subst a;exact j
theorem By(base o:Nat)(b:List Nat)(g2 g1:Value)(V:List Vw)(H:Option Addr)(I:Nat)(w:World)(e5:∀k∈b,k<8)(i3:b.length<=8)(a3:w.ownsRow 0 169 1 g2 b.length (bI b))(e3:w.ownsRow base 254 10 (.slice H V.length I) V.length (a7 V))(e0:xw b V)(e1:V.length<=320000) (J:w.heap[o]?=some (.cells #[g2,g1,.slice H V.length I] 95 (0,0))):Calls prog 145 #[.pointer (some ⟨o,0,none⟩)] w fun r w'=>∃v src s,r=.returned v/\xL w' w.heap.size v src s/\Dj b (bq V) src/\(∀l∈src,l.length<=2560000)/\Below w.heap.size w w':=by
 obtain⟨Y,Z,rfl⟩:=ak a3;have g8:Hid (w.ownsRow 0 169 1 (.slice Y b.length Z) b.length (bI b)):=a3;have h3:Hid (w.ownsRow base 254 10 (.slice H V.length I) V.length (a7 V)):=e3;have c1:Hid (xw b V):=e0;have g6:Hid (∀k∈b,k<8):=e5;have j4:Hid (w.heap[o]?=some (.cells #[.slice Y b.length Z,g1,.slice H V.length I] 95 (0,0))):=J;have e7:=an J;have h6:w.cell? ⟨o,0,none⟩=some (.slice Y b.length Z):=ab J 0 _ rfl;have h7:w.cell? ⟨o,2,none⟩=some (.slice H V.length I):=ab J 2 _ rfl;have j9:=fun W=>KB W V.length e1
 have b7:Hid (xL (w.alloc (.cells (madeCells #[.slice none 0 0] V.length) 33)) w.heap.size (.slice (some ⟨w.heap.size,0,none⟩) V.length V.length) (List.replicate V.length []) (List.replicate V.length (.slice none 0 0))):=Ju w V.length e1;have b5:Hid (Below w.heap.size w (w.alloc (.cells (madeCells #[.slice none 0 0] V.length) 33))):=af w _;have h8:=fun ob=>((af w ob).cell (p:=⟨o,2,none⟩) e7).trans h7
 have b0:(bq V).length=V.length:=by unfold bq;simp
 have c5:Hid (kr b (bq V) 0 0 (List.replicate V.length [])):=by have:=kr.start b (bq V);rw[b0]at this;exact this
 have b9:Hid ((bq V).length=V.length):=b0;clear a3 e3 e0 e5 J b0;go_enter func145,ntmps145;go_wp2_with fail
 go_loopg [19] V.length (fun a1 j2 G=>∃(i:Nat) (src:List (List Nat)) (s:List Value),i<=V.length/\a1=V.length-i/\j2=.int .i64 i/\Hid (xL G w.heap.size (.slice (some ⟨w.heap.size,0,none⟩) V.length V.length) src s)/\Hid (kr b (bq V) i 0 src)/\Hid (Below w.heap.size w G))
 case atStart=>exact⟨0,_,_,aJ _,rfl,rfl,b7,c5,b5⟩
 case round =>
  obtain⟨i,src,s,hi,rfl,rfl,c9,hS,d⟩:=hrel;obtain⟨e,j0⟩:∃e,e=wr:=⟨wr,rfl⟩;subst j0;clear b7 b5 c5 h8;have i7:=d.out.size
  by_cases i6:i<V.length
  ·obtain⟨v,R⟩:∃v,V[i]?=some v:=⟨V[i],ax i6⟩;have b3:=c1.out v (bC R);obtain⟨m,i1,q,f⟩:=ot h3.out (fun v h=>(c1.out v h).1) R;subst i1;have g9:Hid ((bq V)[i]?=some (v.1,v.2.2)):=by show _=_;unfold bq;rw[cV,R];rfl
   have h2:Hid (∀k∈b,∃n,v.2.2[k]?=some n/\n<V.length):=b3.2;obtain⟨D,E,k6⟩:=v;obtain⟨t,u,x,y,z,A,B,C,c8⟩:=CT b3.1;simp only at c8;subst c8;have d0:=(d.out.cell (p:=⟨m,i*10,none⟩) q).trans (f 0 _ rfl);have d1:=(d.out.cell (p:=⟨m,i*10+1,none⟩) q).trans (f 1 _ rfl);have d2:=(d.out.cell (p:=⟨m,i*10+2,none⟩) q).trans (f 2 _ rfl);have d3:=(d.out.cell (p:=⟨m,i*10+3,none⟩) q).trans (f 3 _ rfl);have d4:=(d.out.cell (p:=⟨m,i*10+4,none⟩) q).trans (f 4 _ rfl);have d5:=(d.out.cell (p:=⟨m,i*10+5,none⟩) q).trans (f 5 _ rfl);have d6:=(d.out.cell (p:=⟨m,i*10+6,none⟩) q).trans (f 6 _ rfl);have d7:=(d.out.cell (p:=⟨m,i*10+7,none⟩) q).trans (f 7 _ rfl);have d8:=(d.out.cell (p:=⟨m,i*10+8,none⟩) q).trans (f 8 _ rfl);have d9:=(d.out.cell (p:=⟨m,i*10+9,none⟩) q).trans (f 9 _ rfl);have a0:=(d.out.cell (p:=⟨o,0,none⟩) e7).trans h6;have h5:=fun ob=>((af e ob).cell (p:=⟨o,0,none⟩) (by show o<_;omega)).trans a0
   have b8:Hid (xL (e.alloc (.cells (aZ (D,E,[t,u,x,y,z,A,B,C])).toArray 254)) w.heap.size (.slice (some ⟨w.heap.size,0,none⟩) V.length V.length) src s):=c9.out.tE (n9.below (af _ _));have c4:Hid ((e.alloc (.cells (aZ (D,E,[t,u,x,y,z,A,B,C])).toArray 254)).heap[e.heap.size]?=some (.cells (aZ (D,E,[t,u,x,y,z,A,B,C])).toArray 254 (0,0))):=aw e _;have b6:Hid (Below w.heap.size w (e.alloc (.cells (aZ (D,E,[t,u,x,y,z,A,B,C])).toArray 254))):=d.out.alloc i7 _;clear f b3 R;go_wp2_with fail
   go_loopg [29] b.length (fun a1 j3 G=>∃(j:Nat) (src:List (List Nat)) (s:List Value),j<=b.length/\a1=b.length-j/\j3=.int .i64 j/\Hid (xL G w.heap.size (.slice (some ⟨w.heap.size,0,none⟩) V.length V.length) src s)/\Hid (kr b (bq V) i j src)/\Hid (G.heap[e.heap.size]?=some (.cells (aZ (D,E,[t,u,x,y,z,A,B,C])).toArray 254 (0,0)))/\Hid (Below w.heap.size w G))
   case atStart=>exact⟨0,src,s,aJ _,rfl,rfl,b8,hS,c4,b6⟩
   case round =>
    obtain⟨j,g,S,j6,rfl,rfl,a2,Q,P,O⟩:=hrel;obtain⟨c,j1⟩:∃c,c=wr:=⟨wr,rfl⟩;subst j1;clear b8 c4 b6 d0 d1 d2 d3 d4 d5 d6 d7 d8 d9 a0 h5;have i9:=O.out.size
    by_cases i2:j<b.length
    ·obtain⟨k,F⟩:∃k,b[j]?=some k:=⟨b[j],ax i2⟩;have a5:=bC F;have j7:k<8:=g6.out k a5;have j8:(k:Int)<8:=by omega
     obtain⟨h9,i0,_,b4⟩:=cu g8.out (jY F) (by omega);subst i0;have k1:=(O.out.cell (p:=⟨h9,j,none⟩) (k3 b4)).trans b4;obtain⟨n,a8,e6⟩:=h2.out k a5;have h1:Hid (kr b (bq V) i (j+1) (x2 g n i)):=Q.out.step F (by rw[g9.out];exact a8);have g0:=ab P.out (2+k) _ ((h4 ..).trans (q3 (v:=(D,E,[t,u,x,y,z,A,B,C])) a8));have e8:g.length=V.length:=Q.out.1.trans b9.out;have k0:(n:Int)<(V.length:Int):=by omega
     obtain⟨N,cr,b2,a4,b1,c7,e4⟩:=a2.out.cell (i:=n) e8 e6;have a6:g[n]?=some (g[n]'(by omega)):=ax _;have i5:(g[n]'(by omega)).length<=2560009:=by have:=Q.out.2.1 _ (bl (by omega:n<g.length));omega
     generalize g[n]'(by omega)=l at b2 a4 b1 a6 i5;have h0:Hid (S[n]?=some (.slice N l.length cr)):=b2;have c0:Hid (c.ownsRow w.heap.size 3 1 (.slice N l.length cr) l.length (aP l)):=b1;have g7:Hid (g[n]?=some l):=a6;have T:Hid (c.heap[w.heap.size]?=some (.cells c7 33 (0,0))):=e4;clear b2 b1 a6 e4 b4 a8 F a5;have M:Hid ((c.alloc (.cells #[.int .i64 (i:Nat)] 3)).drew.ownsRow w.heap.size 3 1 (.slice N l.length cr) l.length (aP l)):=al c0.out (Kp.alloc (Kp.refl _ c) _);have c2:w.heap.size<=(c.alloc (.cells #[.int .i64 (i:Nat)] 3)).drew.heap.size:=by show _<=(c.alloc _).heap.size;simp;omega
     have j5:=fun o=>((af c o).cell (p:=⟨w.heap.size,n,none⟩) (an T.out)).trans a4
     have k4:=fun o=>((af c o).cell (p:=⟨e.heap.size,2+k,none⟩) (an P.out)).trans g0
     go_wp2_with fail
     go_region_law
      (first
       | (refine dz rfl (.tmp 44) (.tmp 46) 33 rfl w.heap.size 3 (.int .i64 0) 1 8 Tryz.OK Tryz.Fi rfl (by decide) (.slice N l.length cr) l.length (aP l) (by simp[Act.eval]) M.out c.heap.size 1 [.int .i64 (i:Nat)] (by simp[Act.eval]) rfl (Ny c i) (FT i) (by omega) (by omega) c2 ?_
          intro k5 w3 a9 K e9;obtain⟨X,c3,rfl⟩:=ak a9;have L:Hid (w3.heap[w.heap.size]?=some (.cells c7 33 (0,0))):=((Kp.alloc (Kp.refl _ c) _).grown (w:=(c.alloc _).drew) M.out K (by decide)) _ _ _ T.out;have g5:Hid (xL (w3.setCell ⟨w.heap.size,n,none⟩ (.slice X (l.length+1) c3)) w.heap.size (.slice (some ⟨w.heap.size,0,none⟩) V.length V.length) (x2 g n i) (S.set n (.slice X (l.length+1) c3))):=Ml a2.out e8 e6 g7.out h0.out c0.out K a9 e9 L.out;have U:Hid (w3.heap[e.heap.size]?=some (.cells (aZ (D,E,[t,u,x,y,z,A,B,C])).toArray 254 (0,0))):=((Kp.alloc (Kp.refl _ c) _).grown (w:=(c.alloc _).drew) M.out K (by decide)) _ _ _ P.out;have g4:Hid (Below w.heap.size w w3):=Below.grown (w:=(c.alloc _).drew) ((O.out.alloc i9 _).drew) K c2 (fun k F=>(M.out.lt k F).1);have g3:=(oV (a:=⟨w.heap.size,n,none⟩) (w:=c) (L.out.trans T.out.symm)).trans a4;have k2:=(oV (a:=⟨e.heap.size,2+k,none⟩) (w:=c) (U.out.trans P.out.symm)).trans g0;have f3:=aq L.out;clear a9 K e9))
     all_goals go_wp2_with fail
     all_goals go_roundg (b.length-(j+1))
     all_goals first
      | (case measure=>omega)
      | exact⟨j+1,x2 g n i,S.set n (.slice X (l.length+1) c3),by omega,rfl,by go_num,g5,h1,(e2 _ _ _ _ (dI U.out L.out (by decide))).trans U.out,g4.out.setCell (ar _) _⟩
    ·obtain rfl:j=b.length:=by omega
     go_wp2_with fail;go_roundg (V.length-(i+1))
     case measure=>omega
     case rel=>exact⟨i+1,g,S,by omega,rfl,by go_num,a2,Q.out.next i3,O⟩
  ·go_wp2_with fail;go_ret;exact⟨_,src,s,rfl,c9.out,hS.out.done (by rw[b9.out];omega),fun l i4=>by have:=hS.out.2.1 l i4;omega,d.out⟩
theorem Tryz.OL:(prog.info? 4).map (fun i=>(i.zero,i.size,i.bytes))=some (some (.bool false),1,1):=by kernel_rfl
theorem Tryz.th:prog.underlying 108=some (.slice 4):=by kernel_rfl
def aC(M:List Bool):Array Value:=(M.map Value.bool).toArray
theorem cB{M:List Bool}{i:Nat}{b:Bool}(h:M[i]?=some b):(aC M)[i]?=some (.bool b):=by
 unfold aC;rw[h4,cV,h];rfl
theorem gE(M:List Bool)(i:Nat)(b:Bool):(aC M).setIfInBounds i (.bool b)=aC (M.set i b):=by
 unfold aC;rw[List.setIfInBounds_toArray,List.map_set]
theorem k1(l:List Nat)(x:Nat):aP (l++[x])=aP l++[.int .i64 (x:Nat)]:=by unfold aP;simp
structure E5 (N:Nat) (w:World) (M:List Bool) (W:List Nat) (aoW:Option Addr) (capW:Nat):Prop where
 mr:w.heap[N]?=some (.cells (aC M) 4 (0,0))
 mv:w.heap[N+1]?=some (.cells #[.slice (some ⟨N,0,none⟩) M.length M.length] 108 (0,0))
 wv:w.heap[N+2]?=some (.cells #[.slice aoW W.length capW] 33 (0,0))
 wr:w.ownsRow (N+3) 3 1 (.slice aoW W.length capW) W.length (aP W)
theorem E5.below{N g:Nat}{w w':World}{M:List Bool}{W:List Nat}{d:Option Addr}(h:E5 N w M W d g)(hb:Below w.heap.size w w'):E5 N w' M W d g :=
 ⟨(hb.block _ (an h.mr)).trans h.mr,(hb.block _ (an h.mv)).trans h.mv,(hb.block _ (an h.wv)).trans h.wv,al h.wr (Kp.below hb)⟩
theorem Cd(N:Nat)(w:World)(M:List Bool)(W:List Nat)(a:Option Addr)(c i:Nat)(h:E5 N w M W a c)(hi:i<M.length)(O:W.length<=1000000):Calls prog 186 #[.int .i64 i,.pointer (some ⟨N+1,0,none⟩),.pointer (some ⟨N+2,0,none⟩)] w fun r w'=>r=.returned (.tuple #[])/\(∃H au,E5 N w' (dc M W i).1 (dc M W i).2 H au)/\Below N w w':=by
 obtain⟨b,hb⟩:∃b,M[i]?=some b:=⟨M[i],ax hi⟩;have D:Hid (E5 N w M W a c):=h;have m0:w.cell? ⟨N+1,0,none⟩=some (.slice (some ⟨N,0,none⟩) M.length M.length):=ab h.mv 0 _ rfl;have m1:w.cell? ⟨N,i,none⟩=some (.bool b):=ab h.mr i _ (cB hb);have Q:=aq h.mr;have P:=an h.wv;cases b
 ·have m:Hid (dc M W i=(M.set i true,W++[i])):=by show _=_;unfold dc;rw[ag hb]
  have S:w.cell? ⟨N+2,0,none⟩=some (.slice a W.length c):=ab h.wv 0 _ rfl;obtain⟨V,f⟩:∃V,V=w.setCell ⟨N,i,none⟩ (.bool true):=⟨_,rfl⟩;have E:Hid (V=w.setCell ⟨N,i,none⟩ (.bool true)):=f;have e:Hid (E5 N V (M.set i true) W a c):=by
   rw[f];refine⟨(am h.mr i _).trans (by rw[gE]),?_,?_,al h.wr ((Kp.refl _ _).setCell h.mr (by decide) _)⟩
   ·rw[jc];exact(aD (by omega)).trans h.mv
   ·exact(aD (by omega)).trans h.wv
  have A:Hid (Below N w V):=by rw[f];exact(aB N w).setCell (ar N) _
  have I:V.heap.size=w.heap.size:=by rw[f];simp
  have v0:V.cell? ⟨N+2,0,none⟩=some (.slice a W.length c):=ab e.out.wv 0 _ rfl;have L:=fun ob=>((af V ob).cell (p:=⟨N+2,0,none⟩) (by show N+2<_;omega)).trans v0
  have d:Hid ((V.alloc (.cells #[.int .i64 (i:Nat)] 3)).ownsRow (N+3) 3 1 (.slice a W.length c) W.length (aP W)):=al e.out.wr (Kp.below (af V _));have v:Hid (∀(j:Nat) (u:Value),[Value.int .i64 (i:Nat)][j]?=some u->(V.alloc (.cells #[.int .i64 (i:Nat)] 3)).cell? ⟨w.heap.size,j,none⟩=some u):=fun j u hu=>by rw[<- I];exact ab (aw V _) j u (by simpa using hu)
  have x:Hid ((V.alloc (.cells #[.int .i64 (i:Nat)] 3)).heap[N+2]?=some (.cells #[.slice a W.length c] 33 (0,0))):=(aW _ _ _ (by omega)).trans e.out.wv;have t:N+3<=(V.alloc (.cells #[.int .i64 (i:Nat)] 3)).heap.size:=by simp;omega
  have n:Hid ((V.alloc (.cells #[.int .i64 (i:Nat)] 3)).heap[N]?=some (.cells (aC (M.set i true)) 4 (0,0))/\(V.alloc (.cells #[.int .i64 (i:Nat)] 3)).heap[N+1]?=some (.cells #[.slice (some ⟨N,0,none⟩) M.length M.length] 108 (0,0))):=⟨(aW _ _ _ (by omega)).trans e.out.mr,(aW _ _ _ (by omega)).trans (by have:=e.out.mv;rw[jc]at this;exact this)⟩;have q:Hid (Below N w (V.alloc (.cells #[.int .i64 (i:Nat)] 3))):=A.out.alloc (by omega) _;rw[E.out]at d v x t n q v0 L;clear h f hb;go_enter func186,ntmps186;go_wp2_with (at_builtin;refine bs rfl (.tmp 12) (.tmp 14) 33 rfl (N+3) 3 (.int .i64 0) 1 8 Tryz.OK Tryz.Fi rfl (by decide) (.slice a W.length c) W.length (aP W) rfl d.out w.heap.size 1 [.int .i64 (i:Nat)] rfl rfl v.out (FT i) (by omega) (by omega) t ?_;intro R W3 o g K;obtain⟨y,z,rfl⟩:=ak o;have C:Hid (W3.ownsRow (N+3) 3 1 (.slice y (W.length+1) z) (W.length+1) (aP W++[.int .i64 (i:Nat)])):=o;have l:=br x.out (Kp.refl _ _) d.out g (by decide);have s:Hid (W3.heap[N+2]?=some (.cells #[.slice a W.length c] 33 (0,0))):=l;have F:Hid (W3.heap[N]?=some (.cells (aC (M.set i true)) 4 (0,0))):=br n.out.1 (Kp.refl _ _) d.out g (by decide);have G:Hid (W3.heap[N+1]?=some (.cells #[.slice (some ⟨N,0,none⟩) M.length M.length] 108 (0,0))):=br n.out.2 (Kp.refl _ _) d.out g (by decide);have B:Hid (Below N w W3):=q.out.grown g (by omega) (fun k J=>by have:=(d.out.lt k J).1;omega);have T:=ab l 0 _ rfl;have U:=aq l;clear o g K l)
  go_end0
  refine⟨rfl,⟨y,z,?_⟩,B.out.setCell (by show N<=N+2;omega) _⟩;rw[m.out];refine⟨(aD (by omega)).trans F.out,?_,?_,?_⟩
  ·rw[jc];exact(aD (by omega)).trans G.out
  ·rw[aF];exact(am s.out 0 _).trans rfl
  ·rw[aF,k1];exact al C.out ((Kp.refl _ _).setCell s.out (by decide) _)
 ·have m:Hid (dc M W i=(M,W)):=by show _=_;unfold dc;rw[ae (by rw[hb];decide)]
  clear h hb;go_enter func186,ntmps186;go_wp2_with fail
  go_end0
  exact⟨rfl,⟨a,c,by rw[m.out];exact D.out⟩,aB _ _⟩
theorem xL.form{w:World}{base:Nat}{v:Value}{g:List (List Nat)}{y:List Value}(h:xL w base v g y):∃j au,v=.slice j g.length au/\∀i (hi:i<g.length),∃d n o,j=some ⟨d,0,none⟩/\d<w.heap.size/\w.cell? ⟨d,i,none⟩=some (.slice n g[i].length o)/\∀t (x:t<g[i].length),∃q,n=some ⟨q,0,none⟩/\q<w.heap.size/\w.cell? ⟨q,t,none⟩=some (.int .i64 (g[i][t]:Nat)):=by
 obtain⟨j,au,e,E⟩:=jT h.row;refine⟨j,au,e,fun i hi=>?_⟩;obtain⟨u,hu⟩:∃u,y[i]?=some u:=⟨y[i]'(by have:=h.len;omega),ax _⟩;obtain⟨d,h1,B,C⟩:=E i u hu hi;obtain⟨n,o,A,F⟩:=jT (h.ib i u _ hu (ax hi));subst A;exact⟨d,n,o,h1,B,C,fun t x=>F t _ (m5 _ t x) x⟩
theorem eh.pop{d:List Nat}{V:List (Bool×List Nat)}{c:Bool}{M:List Bool}{W:List Nat}{a:Nat}(h:eh d V c (fun _=>False) M (W++[a])):eh d V c (fun y=>y=a) M W:=by
 refine⟨h.len,h.sound,fun i hi=>h.work i (gi _ hi),fun y g=>?_⟩;rcases h.done y g with h1|h1|h1
 ·rw[aR]at h1;rcases h1 with h1|h1
  ·exact ah h1
  ·simp at h1;exact ac (ah h1)
 ·exact h1.elim
 ·exact ac (ac h1)
theorem eh.fin{d:List Nat}{V:List (Bool×List Nat)}{c:Bool}{M:List Bool}{W:List Nat}{a:Nat}(h:eh d V c (fun y=>y=a) M W)(g:∀x,mW d V x a->M[x]?=some true):eh d V c (fun _=>False) M W:=by
 refine⟨h.len,h.sound,h.work,fun y i=>?_⟩;rcases h.done y i with h1|h1|h1
 ·exact ah h1
 ·subst h1;exact ac (ac g)
 ·exact ac (ac h1)
theorem eh.begin(g:List Nat)(V:List (Bool×List Nat))(c:Bool):eh g V c (fun _=>False) (List.replicate V.length false) []:=by
 have d:∀i,(List.replicate V.length false)[i]?≠some true:=fun i h=>by
  rw[fj]at h;split at h<;>cases h
 exact⟨by simp,fun i h=>(d i h).elim,fun i h=>by simp at h,fun y h=>(d y h).elim⟩
theorem B3(l:List Nat):l=[]\/∃l' a,l=l'++[a]:=by
 rcases List.eq_nil_or_concat l with h|⟨l',a,h⟩
 ·exact ah h
 ·exact ac ⟨l',a,by rw[h,List.concat_eq_append]⟩
theorem DF(n:Nat):j3 (List.replicate n false) []=2*n:=by unfold j3;simp
theorem KC(W:World)(n:Nat)(d:n<=320000):(Instr.makeSlice 108 (.int .i64 n) (.int .i64 n)).run prog W=.ok (.slice (some ⟨W.heap.size,0,none⟩) n n) (W.alloc (.cells (madeCells #[.bool false] n) 4)):=by
 obtain⟨i,hi,a,b,c⟩:=info_parts Tryz.OL;have h:=run_make (P:=prog) W 108 4 i (.bool false) Tryz.th hi a .i64 .i64 n n (by omega) (by omega) (by rw[c];omega) (by omega);rw[b]at h;simpa[Value.cells]using h
theorem yw(n:Nat):madeCells #[.bool false] n=aC (List.replicate n false):=by
 apply Array.toList_inj.1;rw[wu];unfold aC;simp
theorem Nn{w:World}{base n au:Nat}{c:Option Addr}{l:List Nat}{a:Nat}(h:w.ownsRow base 3 1 (.slice c (l++[a]).length au) (l++[a]).length (aP (l++[a])))(b:n=l.length):∃q,c=some ⟨q,0,none⟩/\base<=q/\w.cell? ⟨q,n,none⟩=some (.int .i64 (a:Nat))/\(l++[a]).length<=au/\w.ownsRow base 3 1 (.slice (some ⟨q,0,none⟩) n au) n (aP l):=by
 subst b;have hc:(aP (l++[a]))[l.length]?=some (.int .i64 (a:Nat)):=by rw[k1,eH (by simp[aP])];simp[aP]
 obtain⟨q,s,hb,m⟩:=cu h hc (by simp);subst s;obtain⟨h1,k⟩:=h;rcases k with⟨i,b⟩|⟨g,v,d,i,hg,p,f,r,t,o⟩
 ·simp at b
 ·injection i with j x u
  simp at j;subst j;subst u;refine⟨q,rfl,hb,m,f,⟨by simp[aP],ac ⟨q,au,d,rfl,hg,p,by simp at f;omega,r,t,?_⟩⟩⟩;have e:(d.toList.take ((l++[a]).length*1)).take (l.length*1)=(aP (l++[a])).take (l.length*1):=by rw[o]
  rw[List.take_take]at e;rw[show min (l.length*1) ((l++[a]).length*1)=l.length*1 from by simp]at e;rw[e,k1,oX (by simp[aP])];exact gj (by simp[aP])
theorem wl(base sb o:Nat)(d:List Nat)(p1 p0 j9:Value)(V:List Vw)(S:Option Addr)(T:Nat)(src:List (List Nat))(o8:List Value)(c:Bool)(w:World)(i0:w.ownsRow base 254 10 (.slice S V.length T) V.length (a7 V))(h9:xw d V)(m7:V.length<=320000) (b9:w.heap[o]?=some (.cells #[p1,p0,.slice S V.length T] 95 (0,0))) (hS:xL w sb j9 src o8) (c0:Dj d (bq V) src) (h7:∀l∈src,l.length<=2560000):Calls prog 146 #[.pointer (some ⟨o,0,none⟩),.bool c,j9] w fun r w'=>∃M:List Bool,r=.returned (.slice (some ⟨w.heap.size,0,none⟩) M.length M.length)/\w'.heap[w.heap.size]?=some (.cells (aC M) 4 (0,0))/\M.length=V.length/\(∀i,M[i]?=some true↔mV d (bq V) c i)/\Below w.heap.size w w':=by
 obtain⟨m4,p4,rfl,h6⟩:=hS.form;have l0:Hid (∀i (hi:i<src.length),∃P F b3,m4=some ⟨P,0,none⟩/\P<w.heap.size/\w.cell? ⟨P,i,none⟩=some (.slice F src[i].length b3)/\∀t (C:t<src[i].length),∃q,F=some ⟨q,0,none⟩/\q<w.heap.size/\w.cell? ⟨q,t,none⟩=some (.int .i64 (src[i][t]:Nat))):=h6;have l5:Hid (w.ownsRow base 254 10 (.slice S V.length T) V.length (a7 V)):=i0;have e7:Hid (xw d V):=h9;have l2:Hid (Dj d (bq V) src):=c0;have l1:Hid (∀l∈src,l.length<=2560000):=h7;have a3:(bq V).length=V.length:=by unfold bq;simp
 have E:Hid ((bq V).length=V.length):=a3;have L:Hid (src.length=V.length):=c0.1.trans a3;have n3:=an b9;have b3:w.cell? ⟨o,2,none⟩=some (.slice S V.length T):=ab b9 2 _ rfl;have q4:=fun W=>KC W V.length m7
 have q2:∀(args:Array Value) (w:World),(callFunc 186 args).run prog w=.ok (.enter 186 args) w:=enters_of func186 (by kernel_rfl) rfl;obtain⟨I,G⟩:∃I,I=((w.alloc (.cells (madeCells #[.bool false] V.length) 4)).alloc (.cells #[.slice (some ⟨w.heap.size,0,none⟩) V.length V.length] 108)).alloc (.cells #[.slice none 0 0] 33):=⟨_,rfl⟩;have l4:Hid (I=((w.alloc (.cells (madeCells #[.bool false] V.length) 4)).alloc (.cells #[.slice (some ⟨w.heap.size,0,none⟩) V.length V.length] 108)).alloc (.cells #[.slice none 0 0] 33)):=G;have b0:Below w.heap.size w I:=by rw[G];exact((af w _).alloc (by simp) _).alloc (by simp;omega) _
 have e9:Hid (E5 w.heap.size I (List.replicate V.length false) [] none 0):=by
  refine⟨?_,?_,?_,cq _ _ _ _⟩
  ·rw[G,<- yw];exact(aW _ _ _ (by simp;omega)).trans ((aW _ _ _ (by simp)).trans (aw w _))
  ·rw[G,List.length_replicate];exact(aW _ _ _ (by simp)).trans ((show (w.alloc (.cells (madeCells #[.bool false] V.length) 4)).heap.size=w.heap.size+1 by simp)▸aw (w.alloc _) _)
  ·rw[G];exact(show ((w.alloc (.cells (madeCells #[.bool false] V.length) 4)).alloc (.cells #[.slice (some ⟨w.heap.size,0,none⟩) V.length V.length] 108)).heap.size=w.heap.size+2 by simp)▸aw ((w.alloc _).alloc _) _
 have e0:Hid (Below w.heap.size w I):=b0;have e8:Hid (eh d (bq V) c (fun _=>False) (List.replicate V.length false) []):=by have:=eh.begin d (bq V) c;rw[a3]at this;exact this
 have b4:=(b0.cell (p:=⟨o,2,none⟩) n3).trans b3;rw[G]at b4;clear i0 h9 b9 hS c0 h6 h7 a3 G b0;go_enter func146,ntmps146;go_wp2_with fail;rw[<- l4.out]
 go_loopg [27] V.length (fun Q o6 D=>∃(i:Nat) (M:List Bool) (W:List Nat) (u:Option Addr) (z:Nat),i<=V.length/\Q=V.length-i/\o6=.int .i64 i/\Hid (E5 w.heap.size D M W u z)/\Hid (eh d (bq V) c (fun _=>False) M W)/\Hid (∀t:Nat,t<i->((bq V)[t]?).map Prod.fst=some c->M[t]?=some true)/\Hid (j3 M W<=2*V.length)/\Hid (Below w.heap.size w D))
 case atStart=>exact⟨0,_,[],none,0,aJ _,rfl,rfl,e9,e8,(fun t C=>absurd C (nr _)),(by show _<=_;rw[DF];exact ar _),e0⟩
 case round =>
  obtain⟨i,M,W,u,z,hi,rfl,rfl,h0,Y,b7,U,g⟩:=hrel;obtain⟨H,o1⟩:∃H,H=wr:=⟨wr,rfl⟩;subst o1;clear e9 e8 e0 b4;have n7:=g.out.size;have p5:M.length=V.length:=Y.out.len.trans E.out;have p7:W.length<=640000:=by have:=U.out;unfold j3 at this;omega
  by_cases i3:i<V.length
  ·obtain⟨v,a4⟩:∃v,V[i]?=some v:=⟨V[i],ax i3⟩;have i9:=e7.out v (bC a4);obtain⟨A,n1,m,s⟩:=ot l5.out (fun v h=>(e7.out v h).1) a4;subst n1;have e6:Hid ((bq V)[i]?=some (v.1,v.2.2)):=by show _=_;unfold bq;rw[cV,a4];rfl
   obtain⟨K,k0,q6⟩:=v;obtain⟨j0,j1,j2,j4,j5,j6,j7,j8,g5⟩:=CT i9.1;simp only at g5;subst g5;have d0:=(g.out.cell (p:=⟨A,i*10,none⟩) m).trans (s 0 _ rfl);have d1:=(g.out.cell (p:=⟨A,i*10+1,none⟩) m).trans (s 1 _ rfl);have d2:=(g.out.cell (p:=⟨A,i*10+2,none⟩) m).trans (s 2 _ rfl);have d3:=(g.out.cell (p:=⟨A,i*10+3,none⟩) m).trans (s 3 _ rfl);have d4:=(g.out.cell (p:=⟨A,i*10+4,none⟩) m).trans (s 4 _ rfl);have d5:=(g.out.cell (p:=⟨A,i*10+5,none⟩) m).trans (s 5 _ rfl);have d6:=(g.out.cell (p:=⟨A,i*10+6,none⟩) m).trans (s 6 _ rfl);have d7:=(g.out.cell (p:=⟨A,i*10+7,none⟩) m).trans (s 7 _ rfl);have d8:=(g.out.cell (p:=⟨A,i*10+8,none⟩) m).trans (s 8 _ rfl);have d9:=(g.out.cell (p:=⟨A,i*10+9,none⟩) m).trans (s 9 _ rfl);obtain⟨W1,c1⟩:∃W1,W1=H.alloc (.cells #[.bool K,.bool k0,.int .i64 (j0:Nat),.int .i64 (j1:Nat),.int .i64 (j2:Nat),.int .i64 (j4:Nat),.int .i64 (j5:Nat),.int .i64 (j6:Nat),.int .i64 (j7:Nat),.int .i64 (j8:Nat)] 254):=⟨_,rfl⟩;have b2:Hid (W1=H.alloc (.cells #[.bool K,.bool k0,.int .i64 (j0:Nat),.int .i64 (j1:Nat),.int .i64 (j2:Nat),.int .i64 (j4:Nat),.int .i64 (j5:Nat),.int .i64 (j6:Nat),.int .i64 (j7:Nat),.int .i64 (j8:Nat)] 254)):=c1;have b1:Below H.heap.size H W1:=by rw[c1];exact af H _
   have M1:Hid (E5 w.heap.size W1 M W u z):=h0.out.below b1;have e1:Hid (Below w.heap.size w W1):=g.out.trans (b1.mono n7);have n8:=b1.size;clear s i9 a4 c1 b1
   by_cases c4:K=c
   ·subst c4;go_wp2_with fail;rw[<- b2.out];refine(Cd w.heap.size W1 M W u z i M1.out (by omega) (by omega)).mono ?_;rintro r B ⟨rfl,⟨F,g2,j⟩,i1⟩;have b:Hid (E5 w.heap.size B (dc M W i).1 (dc M W i).2 F g2):=j;have k2:Hid (Below w.heap.size w B):=e1.out.trans i1;have l8:Hid (eh d (bq V) K (fun _=>False) (dc M W i).1 (dc M W i).2):=Y.out.mark (by rw[E.out];exact i3) (Ky (by rw[e6.out];rfl));have a8:Hid (∀t:Nat,t<i+1->((bq V)[t]?).map Prod.fst=some K->(dc M W i).1[t]?=some true):=fun t C hc=>by
     rcases cF t i with h|h
     ·exact ii (b7.out t h hc)
     ·have e:t=i:=by omega
      subst e;exact oz (by omega)
    have k4:Hid (j3 (dc M W i).1 (dc M W i).2<=2*V.length):=aE (wn M W i) U.out;clear j i1;go_wp2_with fail;go_roundg (V.length-(i+1))
    case measure=>omega
    case rel=>exact⟨i+1,_,_,F,g2,by omega,rfl,by go_num,b,l8,a8,k4,k2⟩
   ·have q1:(K==c)=false:=by simpa using c4
    have a8:Hid (∀t:Nat,t<i+1->((bq V)[t]?).map Prod.fst=some c->M[t]?=some true):=fun t C hc=>by
     rcases cF t i with h|h
     ·exact b7.out t h hc
     ·have e:t=i:=by omega
      subst e;rw[e6.out]at hc;simp at hc;exact absurd hc c4
    go_wp2_with fail;go_roundg (V.length-(i+1))
    case measure=>omega
    case rel=>exact⟨i+1,M,W,u,z,by omega,rfl,by go_num,by rw[<- b2.out];exact M1,Y,a8,U,by rw[<- b2.out];exact e1⟩
  ·have k7:Hid (∀t:Nat,((bq V)[t]?).map Prod.fst=some c->M[t]?=some true):=fun t hc=>by
    refine b7.out t ?_ hc;rcases cF t (bq V).length with h|h
    ·have:=E.out;omega
    ·rw[gB h]at hc;cases hc
   go_wp2_with fail
   go_loopg [] (j3 M W) (fun Q D=>∃(M:List Bool) (W:List Nat) (u:Option Addr) (z:Nat),Q=j3 M W/\Hid (E5 w.heap.size D M W u z)/\Hid (eh d (bq V) c (fun _=>False) M W)/\Hid (∀t:Nat,((bq V)[t]?).map Prod.fst=some c->M[t]?=some true)/\Hid (j3 M W<=2*V.length)/\Hid (Below w.heap.size w D))
   case atStart=>exact⟨M,W,u,z,rfl,h0,Y,k7,U,g⟩
   case round =>
    obtain⟨b,W2,m5,O,rfl,j,Z,g8,b8,b5⟩:=hrel;obtain⟨B,o2⟩:∃B,B=wr:=⟨wr,rfl⟩;subst o2;have n8:=b5.out.size;have h4:b.length=V.length:=Z.out.len.trans E.out;have m8:W2.length<=640000:=by have:=b8.out;unfold j3 at this;omega
    have wc:B.cell? ⟨w.heap.size+2,0,none⟩=some (.slice m5 W2.length O):=ab j.out.wv 0 _ rfl;rcases B3 W2 with c2|⟨W3,a,c2⟩
    ·subst c2;have mc:B.cell? ⟨w.heap.size+1,0,none⟩=some (.slice (some ⟨w.heap.size,0,none⟩) b.length b.length):=ab j.out.mv 0 _ rfl;go_wp2_with fail;go_ret;exact⟨b,by rw[h4];rfl,j.out.mr,h4,Z.out.all g8.out,b5.out⟩
    ·subst c2;have a2:(W3++[a]).length=W3.length+1:=by simp
     obtain⟨a6,n6,q5,q7,p2,i5⟩:=Nn j.out.wr rfl;subst n6;rw[a2]at wc p2 m8;have c3:=Z.out.work a (by simp);have p9:a<V.length:=by have:=(a1.1 c3).1;omega
     have q0:(a:Int)<(src.length:Int):=by have:=L.out;omega
     have k6:Hid (b[a]?=some true):=c3;have p3:Hid ((W3++[a]).length=W3.length+1):=a2;have k9:Hid (B.ownsRow (w.heap.size+3) 3 1 (.slice (some ⟨a6,0,none⟩) W3.length O) W3.length (aP W3)):=i5;have wf:=aq j.out.wv;have q3:IntKind.i64.wrap (((W3.length+1:Nat):Int)-1)=(W3.length:Int):=by rw[IntWalk.i64_in _ ⟨by omega,by omega⟩];omega
     obtain⟨P,F,b4,m9,m,i6,c5⟩:=l0.out a (by have:=L.out;omega);subst m9;have h5:Hid (src[a]?=some (src[a]'(by have:=L.out;omega))):=ax _;have n2:=l1.out _ (bl (by have:=L.out;omega:a<src.length));generalize src[a]'(by have:=L.out;omega)=l at i6 c5 h5 n2;have l3:Hid (∀t (C:t<l.length),∃q,F=some ⟨q,0,none⟩/\q<w.heap.size/\w.cell? ⟨q,t,none⟩=some (.int .i64 (l[t]:Nat))):=c5;have e4:Hid (∀x,x∈l↔mW d (bq V) x a):=l2.out.2 a l h5.out;obtain⟨N,R⟩:∃N,N=B.setCell ⟨w.heap.size+2,0,none⟩ (.slice (some ⟨a6,0,none⟩) W3.length O):=⟨_,rfl⟩;have l6:Hid (N=B.setCell ⟨w.heap.size+2,0,none⟩ (.slice (some ⟨a6,0,none⟩) W3.length O)):=R;have m1:Hid (E5 w.heap.size N b W3 (some ⟨a6,0,none⟩) O):=by
      rw[R];exact⟨(aD (by omega)).trans j.out.mr,(aD (by omega)).trans j.out.mv,(am j.out.wv 0 _).trans rfl,al k9.out ((Kp.refl _ _).setCell j.out.wv (by decide) _)⟩
     have e2:Hid (Below w.heap.size w N):=by rw[R];exact b5.out.setCell (by show w.heap.size<=w.heap.size+2;omega) _
     have l9:Hid (eh d (bq V) c (fun y=>y=a) b W3):=Z.out.pop;have n9:=(e2.out.cell (p:=⟨P,a,none⟩) m).trans i6;have o0:=n9;rw[R]at o0;have i7:j3 b (W3++[a])=j3 b W3+1:=by unfold j3;rw[a2];omega
     have a9:Hid (j3 b (W3++[a])=j3 b W3+1):=i7;clear a2 i5 c5 R c3 i7;go_wp2_with fail;rw[<- l6.out]
     go_loopg [59] l.length (fun Q o9 D=>∃(t:Nat) (M:List Bool) (W:List Nat) (u:Option Addr) (z:Nat),t<=l.length/\Q=l.length-t/\o9=.int .i64 t/\Hid (E5 w.heap.size D M W u z)/\Hid (eh d (bq V) c (fun y=>y=a) M W)/\Hid (∀i:Nat,((bq V)[i]?).map Prod.fst=some c->M[i]?=some true)/\Hid (j3 M W<=j3 b W3)/\Hid (∀n x,n<t->l[n]?=some x->M[x]?=some true)/\Hid (M[a]?=some true)/\Hid (Below w.heap.size w D))
     case atStart=>exact⟨0,b,W3,_,_,aJ _,rfl,rfl,m1,l9,g8,ar _,(fun n x C=>absurd C (nr _)),k6,e2⟩
     case round =>
      obtain⟨t,f,W4,g1,g4,C,rfl,rfl,h2,a0,g9,X,h8,R2,b6⟩:=hrel;obtain⟨c9,o3⟩:∃c9,c9=wr:=⟨wr,rfl⟩;subst o3;have p6:f.length=V.length:=a0.out.len.trans E.out;have p8:W4.length<=640000:=by
       have h1:=X.out;have m6:=b8.out;have g6:=a9.out;unfold j3 at *;omega
      by_cases J:t<l.length
      ·obtain⟨q,n4,n5,i4⟩:=l3.out t J;subst n4;have o7:=(b6.out.cell (p:=⟨q,t,none⟩) n5).trans i4;have e5:Hid (l[t]?=some (l[t]'J)):=ax J;have a5:=(e4.out (l[t]'J)).1 (bl J);generalize l[t]'J=x at o7 e5 a5;have o5:x<V.length:=by
        obtain⟨k,_,g7⟩:=a5;rcases cF x (bq V).length with h|h
        ·rw[E.out]at h;exact h
        ·rw[gB h]at g7;cases g7
       have l7:Hid (mV d (bq V) c x):=Kz a5 (a0.out.sound a R2.out);clear i4 a5;go_wp2_with fail;refine(Cd w.heap.size c9 f W4 g1 g4 x h2.out (by omega) (by omega)).mono ?_;rintro r k1 ⟨rfl,⟨g0,g3,h3⟩,i2⟩;have m2:Hid (E5 w.heap.size k1 (dc f W4 x).1 (dc f W4 x).2 g0 g3):=h3;have k3:Hid (Below w.heap.size w k1):=b6.out.trans i2;have m0:Hid (eh d (bq V) c (fun y=>y=a) (dc f W4 x).1 (dc f W4 x).2):=a0.out.mark (by rw[E.out];exact o5) l7.out;have m3:Hid (∀n y,n<t+1->l[n]?=some y->(dc f W4 x).1[y]?=some true):=fun n y c7 c8=>by
        rcases cF n t with h|h
        ·exact ii (h8.out n y h c8)
        ·have e:n=t:=by omega
         subst e;rw[e5.out]at c8;cases c8;exact oz (by omega)
       have k5:Hid (j3 (dc f W4 x).1 (dc f W4 x).2<=j3 b W3):=aE (wn f W4 x) X.out;clear h3 i2;go_wp2_with fail;go_roundg (l.length-(t+1))
       case measure=>omega
       case rel=>exact⟨t+1,_,_,g0,g3,by omega,rfl,by go_num,m2,m0,(fun i hc=>ii (g9.out i hc)),k5,m3,ii R2.out,k3⟩
      ·have k8:Hid (eh d (bq V) c (fun _=>False) f W4):=a0.out.fin fun x o4=>by
        obtain⟨n,c7⟩:=e3.1 ((e4.out x).2 o4);exact h8.out n x (by have:=(a1.1 c7).1;omega) c7
       go_wp2_with fail;go_roundg (j3 f W4)
       case measure=>have h1:=X.out;have g6:=a9.out;omega
       case rel=>exact⟨f,W4,g1,g4,rfl,h2,k8,g9,(by have h1:=X.out;have m6:=b8.out;have g6:=a9.out;show _<=_;omega),b6⟩
theorem oC(W:World)(n:Nat)(d:n<=2300000):(Instr.makeSlice 108 (.int .i64 n) (.int .i64 n)).run prog W=.ok (.slice (some ⟨W.heap.size,0,none⟩) n n) (W.alloc (.cells (aC (List.replicate n false)) 4)):=by
 obtain⟨i,hi,a,b,c⟩:=info_parts Tryz.OL;have h:=run_make (P:=prog) W 108 4 i (.bool false) Tryz.th hi a .i64 .i64 n n (by omega) (by omega) (by rw[c];omega) (by omega);rw[b]at h;rw[<- yw];simpa[Value.cells]using h
def eC(t:l9)(row:List Nat)(i:Nat):Nat:=(row.take i).foldl (fun a k=>cm t a k) 0
theorem rC{t:l9}{row:List Nat}{i k:Nat}(h:row[i]?=some k):eC t row (i+1)=cm t (eC t row i) k:=by
 unfold eC;rw[lc,h,e0];rfl
theorem yA{t:l9}(a:dh t)(row:List Nat):∀i,eC t row i<t.length:=by
 intro i
 induction i with
 | zero=>exact a.pos
 | succ i b =>
  cases h:row[i]? with
  | none =>
   have e:eC t row (i+1)=eC t row i:=by unfold eC;rw[lc,h];simp
   rw[e];exact b
  | some k=>rw[rC h];exact li a b
def cn(f:Nat->Bool)(n m:Nat):List Bool:=(List.range m).map fun j=>if j<n then f j else false
theorem ia(f:Nat->Bool)(n m:Nat):(cn f n m).length=m:=by unfold cn;simp
theorem mC(f:Nat->Bool)(m:Nat):cn f 0 m=List.replicate m false:=by
 apply gh;intro i;unfold cn;rw[cV,fj]
 by_cases h:i<m
 ·rw[je h,ag h];simp
 ·rw[gB (by simp;omega),ae h];rfl
theorem mD(f:Nat->Bool){n m:Nat}(h:n<m):cn f (n+1) m=(cn f n m).set n (f n):=by
 apply gh;intro i;rw[ml,ia];unfold cn;rw[cV,cV]
 by_cases e:n=i
 ·subst e;rw[ag rfl,ag h,je h];simp
 ·rw[ae e]
  by_cases hi:i<m
  ·rw[je hi];simp only[cU,h3]
   by_cases h1:i<n
   ·rw[ag (by omega),ag h1]
   ·rw[ae (by omega),ae h1]
  ·rw[gB (by simp;omega)];rfl
theorem vx(f:Nat->Bool)(m:Nat):cn f m m=(List.range m).map f:=by
 unfold cn;apply List.map_congr_left;intro j a;rw[ag (ja.1 a)]
structure xH (w:World) (v:Value) (row:List Nat):Prop where
 own:w.ownsRow 0 169 1 v row.length (bI row)
 lt:∀k∈row,k<8
 iL:row.length<=2200000
theorem xH.below{w w':World}{v:Value}{row:List Nat}(h:xH w v row)(hb:Below w.heap.size w w'):xH w' v row:=⟨al h.own (Kp.below hb),h.lt,h.iL⟩
theorem zZ(w:World)(R Q:Value)(t:l9)(row:List Nat)(y:bz 0 w R t)(D:dh t)(o:xH w Q row):Calls prog 155 #[.agg #[R],Q] w fun r w'=>∃g,r=.returned (.slice (some ⟨g,0,none⟩) (row.length+1) (row.length+1))/\w.heap.size<=g/\w'.heap[g]?=some (.cells (aC ((List.range (row.length+1)).map fun i=>bG t (eC t row i))) 4 (0,0))/\Below w.heap.size w w':=by
 obtain⟨c,d,rfl⟩:=ak y;obtain⟨X,Z,rfl⟩:=ak o.own;have v:Hid (bz 0 w (.slice c t.length d) t):=y;have I:Hid (xH w (.slice X row.length Z) row):=o;have h:Hid (dh t):=D;have b3:=o.iL;have c0:=D.iL;have N:∀W:World,(Instr.makeSlice 108 (.int .i64 ((row.length:Int)+1)) (.int .i64 ((row.length:Int)+1))).run prog W=.ok (.slice (some ⟨W.heap.size,0,none⟩) (row.length+1) (row.length+1)) (W.alloc (.cells (aC (List.replicate (row.length+1) false)) 4)):=fun W=>oC W (row.length+1) (by omega)
 obtain⟨f,A⟩:∃f:Nat->Bool,f=fun i=>bG t (eC t row i):=⟨_,rfl⟩
 have T:Hid (f=fun i=>bG t (eC t row i)):=A;rw[<- A];have V:∃b,b=(w.alloc (.cells #[.slice c t.length d] 152)).alloc (.cells (aC (List.replicate (row.length+1) false)) 4):=⟨_,rfl⟩;obtain⟨b,e⟩:=V;have J:Hid (b=(w.alloc (.cells #[.slice c t.length d] 152)).alloc (.cells (aC (List.replicate (row.length+1) false)) 4)):=e;have b0:Below w.heap.size w b:=by rw[e];exact(af w _).alloc (by simp) _
 have a7:b.heap.size=w.heap.size+2:=by rw[e];simp
 have x:Hid (b.heap[w.heap.size]?=some (.cells #[.slice c t.length d] 152 (0,0))):=by rw[e,aW _ _ _ (by simp)];exact aw w _
 have m:Hid (b.heap[w.heap.size+1]?=some (.cells (aC (cn f 0 (row.length+1))) 4 (0,0))):=by rw[e,mC];exact(show ((w.alloc (.cells #[.slice c t.length d] 152)).heap.size)=w.heap.size+1 by simp)▸aw (w.alloc _) _
 have s:Hid (Below w.heap.size w b):=b0;have O:=ab x.out 0 _ rfl;have P:=O;rw[e]at P;clear y o D A e b0;go_enter func155,ntmps155;go_wp2_with (simp only[N]);rw[<- J.out];have a9:b.cell? ⟨w.heap.size+1,0,none⟩=some (.bool false):=ab m.out 0 _ (cB (by rw[mC,fj,ag (by omega)]));have b1:=aq m.out;have H:∀i,f i=bG t (eC t row i):=fun i=>by rw[T.out]
 refine(jW b _ t 0 (al v.out (Kp.below s.out)) h.out h.out.pos).mono ?_;rintro r S ⟨rfl,rfl⟩;obtain⟨f0,q⟩:∃f0,f0=bG t 0:=⟨_,rfl⟩;rw[<- q];obtain⟨W1,l⟩:∃W1,W1=S.setCell ⟨w.heap.size+1,0,none⟩ (.bool f0):=⟨_,rfl⟩;have K:Hid (W1=S.setCell ⟨w.heap.size+1,0,none⟩ (.bool f0)):=l;have P1:Hid (W1.heap[w.heap.size]?=some (.cells #[.slice c t.length d] 152 (0,0))):=by rw[l];exact(aD (by omega)).trans x.out
 have L:Hid (W1.heap[w.heap.size+1]?=some (.cells (aC (cn f 1 (row.length+1))) 4 (0,0))):=by
  rw[l,mD f (by omega),<- gE,show f 0=f0 from by rw[q];exact H 0];exact am m.out 0 _
 have G:Hid (Below w.heap.size w W1):=by rw[l];exact s.out.setCell (by show w.heap.size<=w.heap.size+1;omega) _
 clear x m s l P a7 O J N;have b2:Hid (f0=bG t 0):=q;clear q;go_wp2_with fail;rw[<- K.out];clear a9 b1 K
 go_loopg [6,21] row.length (fun a0 Y a8 F=>∃i:Nat,i<=row.length/\a0=row.length-i/\Y=.int .i64 (eC t row i:Nat)/\a8=.int .i64 i/\Hid (F.heap[w.heap.size]?=some (.cells #[.slice c t.length d] 152 (0,0)))/\Hid (F.heap[w.heap.size+1]?=some (.cells (aC (cn f (i+1) (row.length+1))) 4 (0,0)))/\Hid (Below w.heap.size w F))
 case atStart=>exact⟨0,aJ _,rfl,rfl,rfl,P1,L,G⟩
 case round =>
  obtain⟨i,hi,rfl,rfl,rfl,M,n,j⟩:=hrel;obtain⟨E,a6⟩:∃E,E=wr:=⟨wr,rfl⟩;subst a6;clear P1 L G;have b9:=j.out.size;have b4:=ab M.out 0 _ rfl
  by_cases a4:i<row.length
  ·obtain⟨k,C⟩:∃k,row[i]?=some k:=⟨row[i],ax a4⟩;have a3:=I.out.lt k (bC C);obtain⟨c1,a5,b6,b8⟩:=cu (I.out.below j.out).own (jY C) (by omega);subst a5;obtain⟨a,p⟩:∃a,a=eC t row i:=⟨_,rfl⟩;obtain⟨a',z⟩:∃a',a'=cm t a k:=⟨_,rfl⟩;have u:Hid (a'=eC t row (i+1)):=by show _=_;rw[rC C,z,p]
   have a1:a<t.length:=by rw[p];exact yA h.out row i
   have a2:a'<t.length:=by rw[u.out];exact yA h.out row (i+1)
   rw[<- p];clear p;have b5:E.cell? ⟨w.heap.size+1,i+1,none⟩=some (.bool false):=ab n.out (i+1) _ (cB (by unfold cn;rw[cV,je (by omega)];simp));have b7:=aq n.out;go_wp2_with fail;refine(nA _ _ t a k (al v.out (Kp.below j.out)) h.out a1 a3).mono ?_;rintro r w3 ⟨rfl,rfl⟩;rw[<- z];clear z;go_wp2_with fail;refine(jW _ _ t a' (al v.out (Kp.below j.out)) h.out a2).mono ?_;rintro r w3 ⟨rfl,rfl⟩;obtain⟨f1,B⟩:∃f1,f1=bG t a':=⟨_,rfl⟩;rw[<- B];have U:Hid (f1=bG t a'):=B;clear B;go_wp2_with fail;go_roundg (row.length-(i+1))
   case rel =>
    refine⟨i+1,by omega,rfl,?_,by go_num,?_,?_,j.out.setCell (by show w.heap.size<=w.heap.size+1;omega) _⟩
    ·rw[u.out]
    ·exact(aD (by omega)).trans M.out
    ·show _=_;rw[mD f (by omega),<- gE,show f (i+1)=f1 from by rw[U.out,u.out];exact H (i+1)];exact am n.out (i+1) _
   case measure=>omega
  ·obtain rfl:i=row.length:=by omega
   go_wp2_with fail;go_ret;refine⟨w.heap.size+1,rfl,by omega,?_,j.out⟩;rw[<- vx];exact n.out
end Go.Proofs.YtodagkkjfipbgaaGreatDoor
namespace Go.Proofs.YtodagkkjfipbgaaGreatDoor
open Go.RowKit Go.Maps Go.Shelf Go.Proofs.Tryz
attribute [local go_sem] Oper.semAt_some
abbrev At{β:Type}(L:List β):Type:={ x:Nat×β // L[x.1]?=some x.2 }
def iO(n j:Nat):List Nat:=(List.range' j (n-j)).reverse
theorem l6(n:Nat):iO n n=[]:=by unfold iO;simp
theorem l5{n j:Nat}(h:j<n):iO n j=iO n (j+1)++[j]:=by
 unfold iO;rw[show n-j=(n-(j+1))+1 from by omega,List.range'_succ,List.reverse_cons]
theorem yS(n j:Nat):(iO n j).length=n-j:=by unfold iO;simp
def dS{β:Type}{L:List β}(pre:List (At L)):List Nat:=pre.map fun x=>x.1.1
def fQ(c a:Nat)(W b:World):Prop:=Below c W b/\b.heap[a]?=W.heap[a]?
theorem fQ.refl(g d:Nat)(W:World):fQ g d W W:=⟨aB _ _,rfl⟩
theorem nU{b a:Nat}{A B C:World}(h:fQ b a A B)(k:fQ b a B C):fQ b a A C:=⟨h.1.trans k.1,k.2.trans h.2⟩
theorem yE{b a:Nat}{w:World}(e:b<=w.heap.size)(g:a<w.heap.size)(W:World)(l:Nat)(o c:Obj)(d:w.heap.size<=l)(h:W.heap[l]?=some o)(hc:o.isCells=false)(f:o.isWalk=false):fQ b a W (W.putObj l c) :=
 ⟨belowK_b e W l o c d h hc f,World.putObj_heap_other (by omega)⟩
theorem N9(F:Fence)(n:Nat)(A:F.fn 216)(E:F.round=none)(O:1<=n)(l b g au:Nat)(m:Option Addr)(row:List Nat)(M:row.length<=2200000)(J h:List (At row)->World->Prop) (y:∀pre x W,J pre W->pre.length<row.length->YieldAt F (n-1) prog l #[.int .i64 (x.1.1:Nat),.int .u8 (x.1.2:Nat)] W fun e a =>(e=.returned (.bool true)/\J (pre++[x]) a/\fQ g b W a)\/(e=.returned (.bool false)/\h (pre++[x]) a)) (W:World) (H:TypeId) (o:W.heap[b]?=some (.cells #[.slice m row.length au] H (0,0))) (hc:∀j k,row[j]?=some k->∃q,m=some ⟨q,0,none⟩/\q<g/\W.cell? ⟨q,j,none⟩=some (.int .u8 (k:Nat))) (h0:J [] W):CallsIn F n prog 216 #[.func (.yield l) #[] #[],.pointer (some ⟨b,0,none⟩)] W fun e a=>(∃v,e=.returned v) /\((∃s,dS s=iO row.length 0/\J s a)\/(∃pre,h pre a)):=by
 refine callsIn_of_wp func216 rfl A ?_ E;simp only[ntmps216,ky,bT,gd,Nat.reduceAdd,Nat.reduceSub,qW,qX,List.push_toArray,qV,np,jd];have I:=ab o 0 _ rfl
 gi_wp2
 gi_loopw [3] (fun i wr=>∃(j:Nat) (pre:List (At row)),j<=row.length/\i=.int .i64 ((j:Int)-1)/\dS pre=iO row.length j/\J pre wr/\fQ g b W wr)
  (fun i _=>(intOf i+1).toNat)
 case atStart=>exact⟨row.length,[],ar _,rfl,by rw[l6];rfl,h0,fQ.refl _ _ _⟩
 case round =>
  obtain⟨j,pre,N,rfl,f,r,d⟩:=hrel;have K:=ab (d.2.trans o) 0 _ rfl;cases j with
  | zero =>
   gi_wp2
   go_end0
   exact⟨⟨_,rfl⟩,.inl ⟨_,f,r⟩⟩
  | succ j =>
   obtain⟨k,c⟩:∃k,row[j]?=some k:=⟨row[j],ax (by omega)⟩;obtain⟨q,rfl,D,z⟩:=hc j k c;have L:=(d.1.cell (p:=⟨q,j,none⟩) D).trans z;have C:pre.length<row.length:=by
    have:=ej List.length f;rw[yS]at this;unfold dS at this;rw[b5]at this;omega
   obtain⟨fn,tmps,assign,body,G,w⟩:=y pre ⟨(j,k),c⟩ wr r C
   dsimp only at G
   rw[show ((j+1:Nat):Int)-1=(j:Int) from by omega]
   gi_wp2
   refine w.mono ?_;rintro e W3 (⟨rfl,t,B⟩|⟨rfl,u⟩)
   ·gi_wp2
    go_roundw
    case rel=>exact⟨j,pre++[⟨(j,k),c⟩],by omega,by simp,by rw[l5 (by omega),<- f];simp[dS],t,nU d B⟩
    case measure=>simp[intOf]
   ·gi_wp2
    refine bodyPost_ret (results_none rfl _ _ _) rfl ?_;exact⟨⟨_,rfl⟩,.inr ⟨_,u⟩⟩
theorem PZ(F:Fence)(n:Nat)(b:F.fn 193)(c:F.round=none)(a:Option Addr)(len au:Nat)(w:World):CallsIn F n prog 193 #[.slice a len au] w fun e w'=>e=.returned (.func (.func 216) #[] #[.pointer (some ⟨w.heap.size,0,none⟩)])/\w'=w.alloc (.cells #[.slice a len au] 91):=by
 refine callsIn_of_wp func193 rfl b ?_ c;simp only[ntmps193,ky,bT,gd,Nat.reduceAdd,Nat.reduceSub,qW,qX,List.push_toArray,qV,np,jd]
 gi_wp2
 go_ret;exact⟨rfl,rfl⟩
theorem Iu(F:Fence)(n:Nat)(v:F.fn 216)(C:F.round=none)(A:1<=n)(a b au:Nat)(c:Option Addr)(row:List Nat)(y:row.length<=2200000)(w:World)(m:TypeId)(B:b<=w.heap.size) (g:w.heap[a]?=some (.cells #[.slice c row.length au] m (0,0))) (hc:∀j k,row[j]?=some k->∃q,c=some ⟨q,0,none⟩/\q<b/\w.cell? ⟨q,j,none⟩=some (.int .u8 (k:Nat))):SeqStopsK F n prog 216 #[.pointer (some ⟨a,0,none⟩)] (fun x:At row=>#[Value.int .i64 (x.1.1:Nat),Value.int .u8 (x.1.2:Nat)]) (fQ b a) (fun o=>dS o=iO row.length 0) (fun _=>True) row.length w:=fun l J r W h _ _ u h0=>by
 have t:=h.mono B;refine(N9 F n v C A l a b au c row y J r u W m ((h.block _ (an g)).trans g) (fun j k z=>?_) h0).mono ?_
 ·obtain⟨q,h1,f,s⟩:=hc j k z;exact⟨q,h1,f,(t.cell (p:=⟨q,j,none⟩) f).trans s⟩
 ·rintro e E ⟨i,⟨o,D,d⟩|⟨pre,d⟩⟩
  ·exact⟨i,.inl ⟨_,D,d⟩⟩
  ·exact⟨i,.inr ⟨_,trivial,d⟩⟩
abbrev zq(k:Bool×Value×Value):Value:=.agg #[.bool k.1,k.2.1,k.2.2]
theorem N8(F:Fence)(n:Nat)(H:F.fn 154)(L:F.round=none)(S:1<=n)(l c m au:Nat)(r:Option Addr)(row:List (Bool×Value×Value))(Q:row.length<=100)(J o:List (At row)->World->Prop) (C:∀pre x W,J pre W->pre.length<row.length->YieldAt F (n-1) prog l #[.int .i64 (x.1.1:Nat),zq x.1.2] W fun e a =>(e=.returned (.bool true)/\J (pre++[x]) a/\fQ m c W a)\/(e=.returned (.bool false)/\o (pre++[x]) a)) (W:World) (N:TypeId) (s:W.heap[c]?=some (.cells #[.slice r row.length au] N (0,0))) (hc:∀j k,row[j]?=some k->∃q,r=some ⟨q,0,none⟩/\q<m/\W.cell? ⟨q,j*3,none⟩=some (.bool k.1)/\W.cell? ⟨q,j*3+1,none⟩=some k.2.1/\W.cell? ⟨q,j*3+2,none⟩=some k.2.2) (h0:J [] W):CallsIn F n prog 154 #[.func (.yield l) #[] #[],.pointer (some ⟨c,0,none⟩)] W fun e a=>(∃v,e=.returned v) /\((∃y,dS y=iO row.length 0/\J y a)\/(∃pre,o pre a)):=by
 refine callsIn_of_wp func154 rfl H ?_ L;simp only[ntmps154,ky,bT,gd,Nat.reduceAdd,Nat.reduceSub,qW,qX,List.push_toArray,qV,np,jd];have O:=ab s 0 _ rfl
 gi_wp2
 gi_loopw [3] (fun i wr=>∃(j:Nat) (pre:List (At row)),j<=row.length/\i=.int .i64 ((j:Int)-1)/\dS pre=iO row.length j/\J pre wr/\fQ m c W wr)
  (fun i _=>(intOf i+1).toNat)
 case atStart=>exact⟨row.length,[],ar _,rfl,by rw[l6];rfl,h0,fQ.refl _ _ _⟩
 case round =>
  obtain⟨j,pre,R,rfl,g,t,b⟩:=hrel;have P:=ab (b.2.trans s) 0 _ rfl;cases j with
  | zero =>
   gi_wp2
   go_end0
   exact⟨⟨_,rfl⟩,.inl ⟨_,g,t⟩⟩
  | succ j =>
   obtain⟨k,f⟩:∃k,row[j]?=some k:=⟨row[j],ax (by omega)⟩;obtain⟨q,rfl,h,d⟩:=hc j k f;have D:=(b.1.cell (p:=⟨q,j*3,none⟩) h).trans d.1;have E:=(b.1.cell (p:=⟨q,j*3+1,none⟩) h).trans d.2.1;have G:=(b.1.cell (p:=⟨q,j*3+2,none⟩) h).trans d.2.2;obtain⟨u,kl,w⟩:=k
   dsimp only at D E G
   have K:pre.length<row.length:=by
    have:=ej List.length g;rw[yS]at this;unfold dS at this;rw[b5]at this;omega
   obtain⟨fn,tmps,assign,body,M,B⟩:=C pre ⟨(j,(u,kl,w)),f⟩ wr t K
   dsimp only[zq]at M
   rw[show ((j+1:Nat):Int)-1=(j:Int) from by omega]
   gi_wp2
   refine B.mono ?_;rintro e W3 (⟨rfl,z,I⟩|⟨rfl,A⟩)
   ·gi_wp2
    go_roundw
    case rel=>exact⟨j,pre++[⟨(j,(u,kl,w)),f⟩],by omega,by simp,by rw[l5 (by omega),<- g];simp[dS],z,nU b I⟩
    case measure=>simp[intOf]
   ·gi_wp2
    refine bodyPost_ret (results_none rfl _ _ _) rfl ?_;exact⟨⟨_,rfl⟩,.inr ⟨_,A⟩⟩
theorem PY(F:Fence)(n:Nat)(b:F.fn 101)(c:F.round=none)(a:Option Addr)(len au:Nat)(w:World):CallsIn F n prog 101 #[.slice a len au] w fun e w'=>e=.returned (.func (.func 154) #[] #[.pointer (some ⟨w.heap.size,0,none⟩)])/\w'=w.alloc (.cells #[.slice a len au] 87):=by
 refine callsIn_of_wp func101 rfl b ?_ c;simp only[ntmps101,ky,bT,gd,Nat.reduceAdd,Nat.reduceSub,qW,qX,List.push_toArray,qV,np,jd]
 gi_wp2
 go_ret;exact⟨rfl,rfl⟩
theorem It(F:Fence)(n:Nat)(v:F.fn 154)(C:F.round=none)(A:1<=n)(a c au:Nat)(d:Option Addr)(row:List (Bool×Value×Value))(y:row.length<=100)(w:World)(r:TypeId)(B:c<=w.heap.size) (i:w.heap[a]?=some (.cells #[.slice d row.length au] r (0,0))) (hc:∀j k,row[j]?=some k->∃q,d=some ⟨q,0,none⟩/\q<c/\w.cell? ⟨q,j*3,none⟩=some (.bool k.1)/\w.cell? ⟨q,j*3+1,none⟩=some k.2.1/\w.cell? ⟨q,j*3+2,none⟩=some k.2.2):SeqStopsK F n prog 154 #[.pointer (some ⟨a,0,none⟩)] (fun x:At row=>#[Value.int .i64 (x.1.1:Nat),zq x.1.2]) (fQ c a) (fun s=>dS s=iO row.length 0) (fun _=>True) row.length w:=fun l J t W m _ _ u h0=>by
 have g:=m.mono B;refine(N8 F n v C A l a c au d row y J t u W r ((m.block _ (an i)).trans i) (fun j k z=>?_) h0).mono ?_
 ·obtain⟨q,h1,b,f⟩:=hc j k z;exact⟨q,h1,b,(g.cell (p:=⟨q,j*3,none⟩) b).trans f.1,(g.cell (p:=⟨q,j*3+1,none⟩) b).trans f.2.1,(g.cell (p:=⟨q,j*3+2,none⟩) b).trans f.2.2⟩
 ·rintro e E ⟨o,⟨s,D,h⟩|⟨pre,h⟩⟩
  ·exact⟨o,.inl ⟨_,D,h⟩⟩
  ·exact⟨o,.inr ⟨_,trivial,h⟩⟩
end Go.Proofs.YtodagkkjfipbgaaGreatDoor
namespace Go.Proofs.YtodagkkjfipbgaaGreatDoor
open Go.RowKit Go.Maps Go.Shelf Go.Proofs.Tryz
attribute [local go_sem] Oper.semAt_some
def er(t:l9)(row:List Nat)(i:Nat):Nat:=(row.drop i).reverse.foldl (fun a k=>cm t a k) 0
theorem zv{t:l9}{row:List Nat}{i k:Nat}(h:row[i]?=some k):er t row i=cm t (er t row (i+1)) k:=by
 unfold er;obtain⟨b,a⟩:=a1.1 h;rw[lf b,a,List.reverse_cons,e0];rfl
theorem re(t:l9)(row:List Nat):er t row row.length=0:=by unfold er;simp
def FH(t:l9){row:List Nat}(s:Nat×List Bool)(x:At row):Nat×List Bool:=(cm t s.1 x.1.2,s.2.set x.1.1 (bG t (cm t s.1 x.1.2)))
def rc(t:l9){row:List Nat}(pre:List (At row)):Nat×List Bool:=pre.foldl (FH t) (0,(List.replicate (row.length+1) false).set row.length (bG t 0))
theorem pd(t:l9){row:List Nat}(pre:List (At row))(x:At row):rc t (pre++[x])=FH t (rc t pre) x:=by unfold rc;rw[e0];rfl
theorem DO{β:Type}(l:List β):l=[]\/∃l' a,l=l'++[a]:=by
 rcases List.eq_nil_or_concat l with h|⟨l',a,h⟩
 ·exact ah h
 ·exact ac ⟨l',a,by rw[h,List.concat_eq_append]⟩
theorem mI{β:Type}{p:List β->Prop}(h0:p [])(h1:∀l a,p l->p (l++[a])):∀l,p l:=by
 intro l;have:∀r:List β,p r.reverse:=by
  intro r
  induction r with
  | nil=>exact h0
  | cons a r b=>rw[List.reverse_cons];exact h1 _ _ b
 have h:=this l.reverse
 rwa [List.reverse_reverse]at h
theorem Nk(t:l9){row:List Nat}:∀pre:List (At row),(rc t pre).2.length=row.length+1:=by
 apply mI
 ·unfold rc;simp
 ·intro l a b;rw[pd];unfold FH;rw[jc];exact b
theorem Pc{t:l9}(b:dh t){row:List Nat}:∀pre:List (At row),(rc t pre).1<t.length:=by
 apply mI
 ·exact b.pos
 ·intro l a c;rw[pd];exact li b c
theorem JU(t:l9){row:List Nat}:∀(d j:Nat) (pre:List (At row)),d+j=row.length->dS pre=iO row.length j->rc t pre=(er t row j,(List.range (row.length+1)).map fun i=>if j<=i then bG t (er t row i)else false):=by
 intro d
 induction d with
 | zero =>
  intro j pre m a;obtain rfl:j=row.length:=by omega
  rw[l6]at a;have e:pre=[]:=List.map_eq_nil_iff.1 a;subst e;unfold rc;rw[List.foldl_nil,re];refine Prod.ext rfl ?_;apply gh;intro i;show ((List.replicate (row.length+1) false).set row.length (bG t 0))[i]?=_;rw[ml,cV,List.length_replicate]
  by_cases h1:row.length=i
  ·subst h1;rw[ag rfl,ag (by omega),je (by omega)];simp[re]
  ·rw[ae h1,fj]
   by_cases c:i<row.length+1
   ·rw[ag c,je c,cU,ae (by omega)]
   ·rw[ae c,gB (by simp;omega)];rfl
 | succ d o =>
  intro j pre m a;rw[l5 (by omega)]at a;rcases DO pre with rfl|⟨l,x,rfl⟩
  ·simp[dS]at a
  ·unfold dS at a;rw[c9,bS,g7]at a;obtain⟨h1,c⟩:=List.append_inj' a rfl;obtain⟨⟨b,p⟩,n⟩:=x;have h:b=j:=by simpa using c
   subst h;rw[pd,o (b+1) l (by omega) h1];unfold FH;have e:=zv (t:=t) n;refine Prod.ext e.symm ?_;apply gh;intro i;show (List.set _ b (bG t (cm t (er t row (b+1)) p)))[i]?=_;rw[<- e,ml,cV,cV,b5,List.length_range]
   by_cases f:b=i
   ·subst f;rw[ag rfl,ag (by omega),je (by omega)];simp
   ·rw[ae f]
    by_cases k:i<row.length+1
    ·rw[je k,cU,cU]
     by_cases g:b+1<=i
     ·rw[ag g,ag (by omega)]
     ·rw[ae g,ae (by omega)]
    ·rw[gB (by simp;omega)];rfl
theorem Nl(t:l9){row:List Nat}{pre:List (At row)}(h:dS pre=iO row.length 0):(rc t pre).2=(List.range (row.length+1)).map fun i=>bG t (er t row i):=by
 rw[JU t row.length 0 pre rfl h];simp
theorem C5{w:World}{b o:Nat}{v:Value}(h:w.cell? ⟨b,o,none⟩=some v):b<w.heap.size:=by
 obtain⟨x,a,_⟩:=cells_of_cell h;exact(dE.1 a).1
def Ea(A:Act)(W:World):Exit->Act->World->Prop:=fun e a w=>match e with
 | .normal=>a=A/\w=W
 | _=>False
theorem ry{A:Act}{W:World}{Q:Exit->Act->World->Prop}(h:Q .normal A W):∀e a w,Ea A W e a w->Q e a w:=by
 intro e a w b;cases e with
 | normal=>obtain⟨rfl,rfl⟩:=b;exact h
 | _=>exact b.elim
structure lD (n0:Nat) (W:World) (vT:Value) (m:Nat) (s:Nat×List Bool):Prop where
 b0:W.heap[n0]?=some (.cells #[vT] 154 (0,0))
 b1:W.heap[n0+1]?=some (.cells (aC s.2) 4 (0,0))
 b2:W.heap[n0+1+1]?=some (.cells #[.slice (some ⟨n0+1,0,none⟩) m m] 108 (0,0))
 b3:W.heap[n0+1+1+1]?=some (.cells #[.int .i64 (s.1:Nat)] 3 (0,0))
theorem lD.blocks{j:Nat}{W g:World}{n:Value}{m:Nat}{s:Nat×List Bool}(h:lD j W n m s)(d:∀(k:Nat) (i:Array Value) (t:TypeId),W.heap[k]?=some (.cells i t (0,0))->g.heap[k]?=some (.cells i t (0,0))):lD j g n m s :=
 ⟨d _ _ _ h.b0,d _ _ _ h.b1,d _ _ _ h.b2,d _ _ _ h.b3⟩
theorem lD.below{i:Nat}{W d:World}{j:Value}{m:Nat}{s:Nat×List Bool}(h:lD i W j m s)(hb:Below W.heap.size W d):lD i d j m s:=h.blocks fun k _ _ g=>(hb.block k (an g)).trans g
theorem lD.told{d:Nat}{W:World}{g:Value}{m:Nat}{s:Nat×List Bool}(h:lD d W g m s)(i:Nat)(b:Bool):lD d (W.setCell ⟨d+1,i,none⟩ (.bool b)) g m (s.1,s.2.set i b) :=
 ⟨(aD (by omega)).trans h.b0,(am h.b1 i _).trans (by rw[gE]),(aD (by omega)).trans h.b2,(aD (by omega)).trans h.b3⟩
theorem lD.at_{d:Nat}{W:World}{g:Value}{m:Nat}{s:Nat×List Bool}(h:lD d W g m s)(a:Nat):lD d (W.setCell ⟨d+1+1+1,0,none⟩ (.int .i64 (a:Nat))) g m (a,s.2) :=
 ⟨(aD (by omega)).trans h.b0,(aD (by omega)).trans h.b1,(aD (by omega)).trans h.b2,(am h.b3 0 _).trans rfl⟩
theorem oM{A B:World}{row:Option Nat}(hg:A.grownBy B row)(c:∀r,row=some r->∃o:Obj,A.heap[r]?=some o/\o.isCells=false){k:Nat}{a:Array Value}{t:TypeId}{m:Nat×Nat}(h:A.heap[k]?=some (.cells a t m)):B.heap[k]?=some (.cells a t m) :=
 (hg.block k (an h) (fun e=>by obtain⟨o,h1,b⟩:=c k e.symm;rw[h]at h1;cases h1;cases b)).trans h
theorem yV{W:World}{D:Nat}{o:Obj}(b:W.heap[D]?=some o)(c:o.isCells=false)(d:Obj){k:Nat}{a:Array Value}{t:TypeId}{m:Nat×Nat}(h:W.heap[k]?=some (.cells a t m)):(W.putObj D d).heap[k]?=some (.cells a t m) :=
 (World.putObj_heap_other (fun e=>by subst e;rw[h]at b;cases b;cases c)).trans h
theorem zu(w:World)(g4 g3:Value)(t:l9)(row:List Nat)(a8:bz 0 w g4 t)(c2:dh t)(Y:xH w g3 row):Calls prog 156 #[.agg #[g4],g3] w fun r w'=>∃g,r=.returned (.slice (some ⟨g,0,none⟩) (row.length+1) (row.length+1))/\w.heap.size<=g/\w'.heap[g]?=some (.cells (aC ((List.range (row.length+1)).map fun i=>bG t (er t row i))) 4 (0,0))/\Below w.heap.size w w':=by
 obtain⟨a,b,rfl⟩:=ak a8;obtain⟨d,f,rfl⟩:=ak Y.own;have c7:Hid (bz 0 w (.slice a t.length b) t):=a8;have c5:Hid (xH w (.slice d row.length f) row):=Y;have G:Hid (dh t):=c2;have h3:=Y.iL;have i2:=c2.iL;have e8:∀W:World,(Instr.makeSlice 108 (.int .i64 ((row.length:Int)+1)) (.int .i64 ((row.length:Int)+1))).run prog W=.ok (.slice (some ⟨W.heap.size,0,none⟩) (row.length+1) (row.length+1)) (W.alloc (.cells (aC (List.replicate (row.length+1) false)) 4)):=fun W=>oC W (row.length+1) (by omega)
 have i1:prog.follows .mixedOrders=true:=by kernel_rfl
 obtain⟨o,z⟩:∃o,o=(((w.alloc (.cells #[.slice a t.length b] 154)).alloc (.cells (aC (List.replicate (row.length+1) false)) 4)).alloc (.cells #[.slice (some ⟨w.heap.size+1,0,none⟩) (row.length+1) (row.length+1)] 108)).alloc (.cells #[.int .i64 0] 3):=⟨_,rfl⟩;have c8:Hid (o=(((w.alloc (.cells #[.slice a t.length b] 154)).alloc (.cells (aC (List.replicate (row.length+1) false)) 4)).alloc (.cells #[.slice (some ⟨w.heap.size+1,0,none⟩) (row.length+1) (row.length+1)] 108)).alloc (.cells #[.int .i64 0] 3)):=z;have g0:o.heap.size=w.heap.size+4:=by rw[z];simp
 have a4:Hid (Below w.heap.size w o):=by rw[z];exact(((af w _).alloc (by simp) _).alloc (by simp;omega) _).alloc (by simp;omega) _
 have E:Hid (lD w.heap.size o (.slice a t.length b) (row.length+1) (0,List.replicate (row.length+1) false)):=by
  refine⟨?_,?_,?_,?_⟩
  ·rw[z];exact(aW _ _ _ (by simp;omega)).trans ((aW _ _ _ (by simp;omega)).trans ((aW _ _ _ (by simp)).trans (aw w _)))
  ·rw[z];exact(aW _ _ _ (by simp)).trans ((aW _ _ _ (by simp)).trans ((show (w.alloc (.cells #[.slice a t.length b] 154)).heap.size=w.heap.size+1 by simp)▸aw (w.alloc _) _))
  ·rw[z];exact(aW _ _ _ (by simp)).trans ((show ((w.alloc (.cells #[.slice a t.length b] 154)).alloc (.cells (aC (List.replicate (row.length+1) false)) 4)).heap.size=w.heap.size+1+1 by simp)▸aw ((w.alloc _).alloc _) _)
  ·rw[z];exact(show (((w.alloc (.cells #[.slice a t.length b] 154)).alloc (.cells (aC (List.replicate (row.length+1) false)) 4)).alloc (.cells #[.slice (some ⟨w.heap.size+1,0,none⟩) (row.length+1) (row.length+1)] 108)).heap.size=w.heap.size+1+1+1 by simp)▸aw (((w.alloc _).alloc _).alloc _) _
 clear a8 Y c2 z;refine(callsIn_wide (n:=3)).1 ?_;refine callsIn_of_wp_marks func156 rfl trivial ?_ rfl;simp only[ntmps156,ky,bT,gd,Nat.reduceAdd,Nat.reduceSub,qW,qX,List.push_toArray,qV,np,jd]
 gi_wp2_with (simp only[e8])
 rw[<- c8.out];clear c8 e8;have L:=ab E.out.b0 0 _ rfl;have M:o.cell? ⟨w.heap.size+1,row.length,none⟩=some (.bool false):=ab E.out.b1 row.length _ (cB (by rw[fj,ag (by omega)]));have N:=aq E.out.b1 row.length;have I:=ab E.out.b2 0 _ rfl;have c3:=ab E.out.b3 0 _ rfl;have H:Hid (bz 0 o.drew (.slice a t.length b) t):=al c7.out (fun k J m b8=>Kp.below a4.out k J m b8);have b4:=(callsIn_wide (n:=2)).2 (jW o.drew _ t 0 H.out G.out G.out.pos);obtain⟨f0,b6⟩:∃f0,f0=bG t 0:=⟨_,rfl⟩;rw[<- b6]at b4;have c4:Hid (f0=bG t 0):=b6;clear b6;refine wpIn_mono (Q:=Ea { tmps:=#[.agg #[.slice a t.length b],.slice d row.length f,.pointer (some ⟨w.heap.size,0,none⟩),undef,.slice none 0 0,.pointer (some ⟨w.heap.size+1+1,0,none⟩),.pointer (some ⟨w.heap.size+1+1+1,0,none⟩),undef,undef,.slice d row.length f,.int .i64 row.length,.int .i64 (row.length+1),.slice (some ⟨w.heap.size+1,0,none⟩) (row.length+1) (row.length+1),.slice (some ⟨w.heap.size+1,0,none⟩) (row.length+1) (row.length+1),.slice d row.length f,.int .i64 row.length,.pointer (some ⟨w.heap.size,0,none⟩),.slice a t.length b,.int .i64 0,.bool f0,.pointer (some ⟨w.heap.size+1,row.length,none⟩),undef,undef,undef,undef,undef,undef,undef,undef,undef,undef,undef,undef,undef,undef,undef,undef,undef],defers:=[] } (o.setCell ⟨w.heap.size+1,row.length,none⟩ (.bool f0)).drew) ?region (ry ?rest)
 case region =>
  first|gi_region_with_o (refine⟨trivial,?_⟩;gi_at_call 182;refine b4.mono ?_;rintro e w' ⟨rfl,rfl⟩)|fail
  all_goals exact⟨rfl,rfl⟩
 case rest =>
  obtain⟨W1,R⟩:∃W1,W1=(o.setCell ⟨w.heap.size+1,row.length,none⟩ (.bool f0)).drew:=⟨_,rfl⟩;have M1:Hid (lD w.heap.size W1 (.slice a t.length b) (row.length+1) (rc t ([]:List (At row)))):=by
   rw[R];have h:=E.out.told row.length f0;rw[c4.out]at h ⊢;exact h.blocks fun k J t C=>C
  have a5:Hid (Below w.heap.size w W1):=by rw[R];exact(a4.out.setCell (by show w.heap.size<=w.heap.size+1;omega) _).drew
  rw[<- R];have g1:W1.heap.size=w.heap.size+4:=by rw[R];exact(by simp:(o.setCell ⟨w.heap.size+1,row.length,none⟩ (.bool f0)).heap.size=o.heap.size).trans g0
  clear R L M N I c3 H b4 E a4 g0 c4
  gi_wp2_with (refine⟨trivial,?_⟩;gi_at_call 193;refine(PZ Fence.wide _ trivial rfl _ _ _ _).mono ?_;rintro e w' ⟨rfl,rfl⟩)
  obtain⟨W2,S⟩:∃W2,W2=W1.alloc (.cells #[.slice d row.length f] 91):=⟨_,rfl⟩;rw[<- S];have i3:W2.heap.size=w.heap.size+5:=by rw[S];simp[g1]
  have a7:Below W1.heap.size W1 W2:=by rw[S];exact af W1 _
  have c9:lD w.heap.size W2 (.slice a t.length b) (row.length+1) (rc t ([]:List (At row))):=M1.out.below a7;have a6:Below w.heap.size w W2:=a5.out.trans (a7.mono a5.out.size);have e3:W2.heap[w.heap.size+4]?=some (.cells #[.slice d row.length f] 91 (0,0)):=by rw[S,<- g1];exact aw W1 _
  have e5:∀j k,row[j]?=some k->∃q,d=some ⟨q,0,none⟩/\q<w.heap.size/\W2.cell? ⟨q,j,none⟩=some (.int .u8 (k:Nat)):=by
   intro j k C;have i0:=(a1.1 C).1;obtain⟨q,h5,_,e6⟩:=cu c5.out.own (jY C) (by omega);have e9:=C5 e6;exact⟨q,h5,e9,(a6.cell (p:=⟨q,j,none⟩) e9).trans e6⟩
  clear S M1 a5 a7;refine wpIn_rangeFunc_ownG rfl (by omega) (gf:=216) (lb:=#[.pointer (some ⟨w.heap.size+4,0,none⟩)]) rfl trivial (enters_of func216 (by kernel_rfl) rfl)
   (Iu Fence.wide 2 trivial rfl (by omega) (w.heap.size+4) w.heap.size f d row h3 W2 _ (by omega) e3 e5) nU (yE (by omega) (by omega)) (aB _ _) (fun _=>rfl)
   (fun pre W=>lD w.heap.size W (.slice a t.length b) (row.length+1) (rc t pre)/\Below w.heap.size w W)
   (fun _ _ _=>False)
   (OwnFrom.and (Own.from (fun s A B row c1 hg h6=>c1.blocks fun k J t C=>oM hg h6 C) _) (ownFrom_below (ar _) (by omega)))
   (fun _ _ _ _ _ c1 _ _=>c1)
   ⟨c9,a6⟩
   (fun x=>{ tmps:=#[.agg #[.slice a t.length b],.slice d row.length f,.pointer (some ⟨w.heap.size,0,none⟩),undef,.slice none 0 0,.pointer (some ⟨w.heap.size+1+1,0,none⟩),.pointer (some ⟨w.heap.size+1+1+1,0,none⟩),.int .i64 (x.1.1:Nat),.int .u8 (x.1.2:Nat),.slice d row.length f,.int .i64 row.length,.int .i64 (row.length+1),.slice (some ⟨w.heap.size+1,0,none⟩) (row.length+1) (row.length+1),.slice (some ⟨w.heap.size+1,0,none⟩) (row.length+1) (row.length+1),.slice d row.length f,.int .i64 row.length,.pointer (some ⟨w.heap.size,0,none⟩),.slice a t.length b,.int .i64 0,.bool f0,.pointer (some ⟨w.heap.size+1,row.length,none⟩),.slice d row.length f,.func (.func 216) #[] #[.pointer (some ⟨w.heap.size+4,0,none⟩)],.int .i64 (x.1.1:Nat),.int .u8 (x.1.2:Nat),undef,undef,undef,undef,undef,undef,undef,undef,undef,undef,undef,undef,undef],defers:=[] }) ?assign ?body ?done ?stop
  case assign =>
   intro l x W K P
   gi_wp2
   exact P
  case body =>
   rintro l pre ⟨⟨i,k⟩,U⟩ W ⟨v,O⟩ _;have h9:i<row.length:=(a1.1 U).1;have h4:=c5.out.lt k (bC U);have X:Hid (lD w.heap.size W (.slice a t.length b) (row.length+1) (rc t pre)):=v;have V:Hid (Below w.heap.size w W):=O;have e2:rc t (pre++[⟨(i,k),U⟩])=(cm t (rc t pre).1 k,(rc t pre).2.set i (bG t (cm t (rc t pre).1 k))):=pd t pre _;have b9:=Pc G.out pre;have c0:cm t (rc t pre).1 k<t.length:=li G.out b9;have e7:=Nk t pre;obtain⟨told,a3⟩:∃told,told=(rc t pre).2:=⟨_,rfl⟩;obtain⟨b0,e4⟩:∃b0,told[i]?=some b0:=⟨told[i]'(by rw[a3,e7];omega),ax _⟩;have g8:Hid ((rc t pre).2[i]?=some b0):=by rw[<- a3];exact e4
   have L:=ab v.b0 0 _ rfl;have M:W.cell? ⟨w.heap.size+1,i,none⟩=some (.bool b0):=ab v.b1 i _ (cB (by rw[<- a3];exact e4));have N:=aq v.b1 i;have I:=ab v.b2 0 _ rfl;have c3:=ab v.b3 0 _ rfl;have h1:=aq v.b3 0;obtain⟨a0,a9⟩:∃a0,a0=(rc t pre).1:=⟨_,rfl⟩;obtain⟨u,Z⟩:∃u,u=cm t a0 k:=⟨_,rfl⟩;obtain⟨f1,b7⟩:∃f1,f1=bG t u:=⟨_,rfl⟩;have g7:Hid (rc t (pre++[⟨(i,k),U⟩])=(u,(rc t pre).2.set i f1)):=by show _=_;rw[e2,b7,Z,a9]
   rw[<- a9]at b9 c0 c3;rw[<- Z]at c0;have H:Hid (bz 0 W (.slice a t.length b) t):=al c7.out (Kp.below V.out);have b5:=(callsIn_wide (n:=0)).2 (nA W _ t a0 k H.out G.out b9 h4);have e0:Hid (bz 0 (W.setCell ⟨w.heap.size+1+1+1,0,none⟩ (.int .i64 (u:Nat))).drew (.slice a t.length b) t):=al H.out (fun k J m b8=>(Kp.refl _ _).setCell X.out.b3 (by decide) _ k J m b8);have a2:=(callsIn_wide (n:=0)).2 (jW (W.setCell ⟨w.heap.size+1+1+1,0,none⟩ (.int .i64 (u:Nat))).drew _ t u e0.out G.out c0);rw[<- Z]at b5;rw[<- b7]at a2;have F:Hid (lD w.heap.size (W.setCell ⟨w.heap.size+1+1+1,0,none⟩ (.int .i64 (u:Nat))) (.slice a t.length b) (row.length+1) (u,(rc t pre).2)):=v.at_ u;clear v O e2 a9 Z b7 a3 e7 c9 a6 e5 e3;have hd:1<=3-1-1:=by omega
   gi_wp2_with (refine⟨trivial,?_⟩;gi_at_call 184;refine(CallsIn.inRound l b5).mono ?_;rintro e y ⟨rfl,rfl⟩)
   obtain⟨W3,T⟩:∃W3,W3=y.setCell ⟨w.heap.size+1+1+1,0,none⟩ (.int .i64 (u:Nat)):=⟨_,rfl⟩;rw[<- T]at a2 F ⊢;have g2:KeepsOthers y W3:=by rw[T];exact KeepsOthers.setCell _ _ _
   have b3:Below w.heap.size y W3:=by rw[T];exact(aB _ y).setCell (by show w.heap.size<=w.heap.size+1+1+1;omega) _
   have g5:W3.heap[w.heap.size+4]?=y.heap[w.heap.size+4]?:=by rw[T];exact aD (by omega)
   clear T L M N I c3 h1 H e0 b5 X;have g9:Hid (KeepsOthers y W3):=g2;have g6:Hid (Below w.heap.size y W3):=b3;have h0:Hid (W3.heap[w.heap.size+4]?=y.heap[w.heap.size+4]?):=g5;clear g2 b3 g5;have L:=ab F.out.b0 0 _ rfl;have M:W3.cell? ⟨w.heap.size+1,i,none⟩=some (.bool b0):=ab F.out.b1 i _ (cB g8.out);have N:=aq F.out.b1 i;have I:=ab F.out.b2 0 _ rfl;have c3:=ab F.out.b3 0 _ rfl;refine wpIn_mono (Q:=Ea { tmps:=#[.agg #[.slice a t.length b],.slice d row.length f,.pointer (some ⟨w.heap.size,0,none⟩),undef,.slice none 0 0,.pointer (some ⟨w.heap.size+1+1,0,none⟩),.pointer (some ⟨w.heap.size+1+1+1,0,none⟩),.int .i64 (i:Nat),.int .u8 (k:Nat),.slice d row.length f,.int .i64 row.length,.int .i64 (row.length+1),.slice (some ⟨w.heap.size+1,0,none⟩) (row.length+1) (row.length+1),.slice (some ⟨w.heap.size+1,0,none⟩) (row.length+1) (row.length+1),.slice d row.length f,.int .i64 row.length,.pointer (some ⟨w.heap.size,0,none⟩),.slice a t.length b,.int .i64 0,.bool f0,.pointer (some ⟨w.heap.size+1,row.length,none⟩),.slice d row.length f,.func (.func 216) #[] #[.pointer (some ⟨w.heap.size+4,0,none⟩)],.int .i64 (i:Nat),.int .u8 (k:Nat),.pointer (some ⟨w.heap.size,0,none⟩),.slice a t.length b,.int .i64 (a0:Nat),.int .u8 (k:Nat),.int .i64 (u:Nat),.slice (some ⟨w.heap.size+1,0,none⟩) (row.length+1) (row.length+1),.int .i64 (i:Nat),.pointer (some ⟨w.heap.size,0,none⟩),.slice a t.length b,.int .i64 (u:Nat),.bool f1,.pointer (some ⟨w.heap.size+1,i,none⟩),undef],defers:=[] } (W3.setCell ⟨w.heap.size+1,i,none⟩ (.bool f1)).drew) ?reg (ry ?nxt)
   case reg =>
    first|gi_region_with_o (refine⟨trivial,?_⟩;gi_at_call 182;refine(CallsIn.inRound l a2).mono ?_;rintro e w' ⟨rfl,rfl⟩)|fail
    all_goals exact⟨rfl,rfl⟩
   case nxt =>
    clear L M N I c3 a2
    gi_wp2
    have h2:lD w.heap.size (W3.setCell ⟨w.heap.size+1,i,none⟩ (.bool f1)).drew (.slice a t.length b) (row.length+1) (rc t (pre++[⟨(i,k),U⟩])):=by
     rw[g7.out];exact(F.out.told i f1).blocks fun k J t C=>C
    have e1:Below w.heap.size y (W3.setCell ⟨w.heap.size+1,i,none⟩ (.bool f1)).drew:=(g6.out.setCell (by show w.heap.size<=w.heap.size+1;omega) _).drew;exact⟨((g9.out.trans (KeepsOthers.setCell _ _ _)).trans (KeepsOthers.drew _)).from _,⟨e1,(show (W3.setCell ⟨w.heap.size+1,i,none⟩ (.bool f1)).heap[w.heap.size+4]?=_ from aD (by omega)).trans h0.out⟩,h2,V.out.trans e1⟩
  case done =>
   rintro D h7 W h8 hS ⟨v,O⟩ P;have I:=ab v.b2 0 _ rfl;have X:Hid (lD w.heap.size W (.slice a t.length b) (row.length+1) (rc t h7)):=v;have V:Hid (Below w.heap.size w W):=O;clear v O
   gi_wp2
   refine⟨by simp,.inl ⟨_,_,rfl,run_takeDeferred P,?_⟩⟩;refine⟨_,results_tmp rfl _ _ _,w.heap.size+1,rfl,by omega,?_,V.out.trans (belowK_b (w:=w) (ar _) W D _ _ (by omega) P rfl rfl)⟩;rw[<- Nl t hS];exact yV P rfl _ X.out.b1
  case stop =>
   rintro D c pre W _ _ h _;exact h.elim
end Go.Proofs.YtodagkkjfipbgaaGreatDoor
