import Derived.Test.YtodagkkjfipbgaaGreatDoorN20toN21
import Derived.Test.YtodagkkjfipbgaaGreatDoorJ12lone
import Derived.Test.YtodagkkjfipbgaaGreatDoorV4toV6
set_option maxRecDepth 100000
set_option maxHeartbeats 8000000
namespace Go.Proofs.YtodagkkjfipbgaaGreatDoor
open Go.RowKit Go.Maps Go.Proofs.Tryz
theorem rh{P:Program}{fn:Func}{p u v:Tmp}(h:fn.results=#[.tmp p,.tmp u,.tmp v])(tmps:Array Value)(w:World):(results fn tmps).run P w=.ok (.tuple #[tmps.getD p undef,tmps.getD u undef,tmps.getD v undef]) w:=by
 simp[results,h]
theorem xN.Gu{base:Nat}{w:World}{v:Value}{d:List bw}(h:xN base w v d):xN 0 w v d:=by
 obtain⟨j,h1,g,i⟩:=h;exact⟨j,h1,bX g (aJ _),i⟩
theorem xD.below{w w':World}{j i n:Value}{d:List bw}{g:List Nat}(h:xD w j i n d g)(hb:Below w.heap.size w w'):xD w' j i n d g:=by
 obtain⟨J,X,K,H,V,o,q,h1,t,u,v⟩:=h;exact⟨J,X,K,H,V,o,q,h1,al t (Kp.below hb),al u (Kp.below hb),al v (Kp.below hb)⟩
structure mb (w:World) (g:Nat) (T:ai) (vE vJ vP vH vV:Value) (L:List (Int×Int×Nat)):Prop where
 da:w.heap[g]?=some (.cells #[vE,vJ,vP,vH,vV] 99 (0,0))
 perm:L.Perm (bx T).l
 row:hB L
 bP:rR 0 w vE L
 OJ:xN 0 w vJ (cv T).2
 out:xD w vP vH vV (cv T).2 (fb L)
 ok:∀x∈(cv T).2,gY x
 iL:(cv T).2.length<=4
 ay:L.length<=100000/\∀o∈L,o.2.2<8
def Ds(T:ai)(w:World)(r:Ending)(w':World):Prop :=
 Below w.heap.size w w'/\∃a,r=.returned (.tuple #[a,.int .i64 (kJ T).err,.int .i64 (kJ T).place])/\((kJ T).err=0->∃g b d e c f L,a=.pointer (some ⟨g,0,none⟩)/\w.heap.size<=g/\mb w' g T b d e c f L)/\((kJ T).err≠0->a=.pointer none)
theorem kQ(T:ai)(w:World)(M:cc w)(e6:T.size<=140737488351232):Calls prog 15 #[.string T] w (Ds T w):=by
 have b7:Hid ((kJ T).err=0->(kJ T).place=0):=Hi T;have U:=J4 T w M e6;have a8:Hid (cc w):=M;have a9:Hid ((kJ T).err=0->(cv T).2.length<=4/\∀x∈(cv T).2,gY x):=J1 T;have b5:Hid ((kJ T).err=0->(bx T).l.length<=100000/\∀o∈(bx T).l,o.2.2<8):=v6 T;unfold Ds;generalize (kJ T).err=u at *;generalize (kJ T).place=pp at *;go_enter func15,ntmps15;go_wp2_with fail;refine U.mono ?_;rintro r d ⟨hb,_,_,rfl,⟨j,m,k,rfl⟩,⟨f,i,g,rfl⟩,a3⟩;have F:Hid (Below w.heap.size w d):=hb;have e8:=hb.size;have b0:Hid (u=0->Qm (w.heap.size+1) d (.slice j m k) (bx T).l/\qR (w.heap.size+1) d (.slice f i g) (cv T).2):=a3;clear hb M U a3
 by_cases h0:u=0
 ·have g3:(u==0)=true:=by rw[bL];exact h0
  have I:Hid (u=0):=h0;obtain⟨⟨L,D,a6,a4⟩,a5⟩:=b0.out h0;have S:=a9.out h0;have H:=b5.out h0;have a1:L.length<=100000:=by rw[D.length_eq];exact H.1
  have a0:∀o∈L,o.2.2<8:=fun o e7=>H.2 o (D.mem_iff.1 e7)
  have b4:Hid (L.Perm (bx T).l):=D;have b3:Hid (hB L):=a4;have t:Hid ((cv T).2.length<=4/\∀x∈(cv T).2,gY x):=S;have G:Hid (L.length<=100000/\∀o∈L,o.2.2<8):=⟨a1,a0⟩;obtain⟨W1,A⟩:∃W1,W1=d.alloc (.cells #[.slice j m k,.slice f i g] 84):=⟨_,rfl⟩;have b6:Hid (W1=d.alloc (.cells #[.slice j m k,.slice f i g] 84)):=A;have b1:Below d.heap.size d W1:=by rw[A];exact af d _
  have g6:W1.heap.size=d.heap.size+1:=by rw[A];simp
  have P:W1.heap[d.heap.size]?=some (.cells #[.slice j m k,.slice f i g] 84 (0,0)):=by rw[A];exact aw d _
  have E:Hid (Below w.heap.size w W1):=F.out.trans (b1.mono e8);have X:Hid (rR (w.heap.size+1) W1 (.slice j m k) L):=al a6 (Kp.below b1);have V:Hid (qR (w.heap.size+1) W1 (.slice f i g) (cv T).2):=a5.below b1;have m0:W1.cell? ⟨d.heap.size,0,none⟩=some (.slice j m k):=ab P 0 _ rfl;have m1:W1.cell? ⟨d.heap.size,1,none⟩=some (.slice f i g):=ab P 1 _ rfl;have c5:Hid (∀W,Below W1.heap.size W1 W->Calls prog 43 #[.slice f i g] W fun r w'=>∃v e0 n au,r=.returned (.agg #[v])/\v=.slice e0 n au/\xN W.heap.size w' v (cv T).2/\Below W.heap.size W w'):=fun W s=>Hp (w.heap.size+1) _ (cv T).2 W (V.out.below s) t.out.2 (by have:=t.out.1;omega)
  have c7:Hid (∀W,Below W1.heap.size W1 W->Calls prog 45 #[.pointer (some ⟨d.heap.size,0,none⟩)] W fun r w'=>∃v,r=.returned v/\w'.ownsRow W.heap.size 169 1 v (fb L).length (bI (fb L))/\Below W.heap.size W w'):=fun W s =>
   zD W d.heap.size (w.heap.size+1) _ L ((a8.out.below E.out).below s) (al X.out (Kp.below s)) G.out.2 G.out.1 ((s.cell (p:=⟨d.heap.size,0,none⟩) (by show d.heap.size<_;omega)).trans m0)
  have a7:Hid (∀W q,Below W1.heap.size W1 W->W.ownsRow 0 169 1 q (fb L).length (bI (fb L))->Calls prog 44 #[.slice f i g,q] W fun r w'=>∃Q R,r=.returned (.agg #[q,Q,R])/\(∃a b c,Q=.slice a b c)/\(∃a b c,R=.slice a b c)/\xD w' q Q R (cv T).2 (fb L)/\Below W.heap.size W w'):=fun W q s e5 =>
   IB (w.heap.size+1) _ q (cv T).2 (fb L) W (V.out.below s) t.out.2 t.out.1 (Hn L) (D4 L) e5
  clear h0 D a6 a4 a5 S H a1 a0 A b1 P;go_wp2_with fail;rw[<- b6.out]
  go_region_held3 (fun w'=>w'.cell? ⟨d.heap.size,0,none⟩=some (.slice j m k)/\w'.cell? ⟨d.heap.size,1,none⟩=some (.slice f i g))
   (first|exact b2.out|exact b8.out|exact c2.out|go_keep)
   (first
    | (go_at_call 43
       refine(c5.out _ ((aB _ _).drew)).mono ?_;rintro e W2 ⟨v2,J,O,K,rfl,rfl,Z,Y⟩;have b9:Hid (xN 0 W2 (.slice J O K) (cv T).2):=Z.Gu;have y:Hid (Below W1.heap.size W1 W2):=dW Y;have b2:Hid (W2.cell? ⟨d.heap.size,0,none⟩=some (.slice j m k)/\W2.cell? ⟨d.heap.size,1,none⟩=some (.slice f i g)):=⟨(y.out.cell (p:=⟨d.heap.size,0,none⟩) (by show d.heap.size<_;omega)).trans m0,(y.out.cell (p:=⟨d.heap.size,1,none⟩) (by show d.heap.size<_;omega)).trans m1⟩;clear Z Y)
    | (go_at_call 45
       refine(c7.out _ y.out).mono ?_;rintro e W3 ⟨q,rfl,N,B⟩;have e9:=y.out.size;have z:Hid (Below W1.heap.size W1 W3):=y.out.trans (B.mono e9);have c0:Hid (xN 0 W3 (.slice J O K) (cv T).2):=b9.out.kp (Kp.below B) (Kp.below B);have c4:Hid (W3.ownsRow 0 169 1 q (fb L).length (bI (fb L))):=bX N (aJ _);obtain⟨e1,e4,rfl⟩:=ak N;have b8:Hid (W3.cell? ⟨d.heap.size,0,none⟩=some (.slice j m k)/\W3.cell? ⟨d.heap.size,1,none⟩=some (.slice f i g)):=⟨(z.out.cell (p:=⟨d.heap.size,0,none⟩) (by show d.heap.size<_;omega)).trans m0,(z.out.cell (p:=⟨d.heap.size,1,none⟩) (by show d.heap.size<_;omega)).trans m1⟩;clear N B)
    | (go_at_call 44
       refine(a7.out _ _ z.out c4.out).mono ?_;rintro e W4 ⟨_,_,rfl,⟨c8,g4,e2,rfl⟩,⟨c9,g5,e3,rfl⟩,a2,C⟩;have g0:=z.out.size;have B4:Hid (Below W1.heap.size W1 W4):=z.out.trans (C.mono g0);have c1:Hid (xN 0 W4 (.slice J O K) (cv T).2):=c0.out.kp (Kp.below C) (Kp.below C);have c3:Hid (xD W4 (.slice e1 (fb L).length e4) (.slice c8 g4 e2) (.slice c9 g5 e3) (cv T).2 (fb L)):=a2;have c2:Hid (W4.cell? ⟨d.heap.size,0,none⟩=some (.slice j m k)/\W4.cell? ⟨d.heap.size,1,none⟩=some (.slice f i g)):=⟨(B4.out.cell (p:=⟨d.heap.size,0,none⟩) (by show d.heap.size<_;omega)).trans m0,(B4.out.cell (p:=⟨d.heap.size,1,none⟩) (by show d.heap.size<_;omega)).trans m1⟩;clear a2 C))
  all_goals go_wp2_with fail
  all_goals refine bodyPost_ret (rh rfl _ _) rfl ?_
  all_goals obtain rfl:=I.out
  all_goals obtain rfl:=b7.out rfl
  all_goals have g1:=B4.out.size
  all_goals have g2:=E.out.size
  all_goals refine⟨(E.out.trans (B4.out.mono g2)).alloc (by omega) _,_,rfl,fun _=>⟨W4.heap.size,_,_,_,_,_,L,rfl,by omega,⟨aw W4 _,b4.out,b3.out,bX (al X.out (Kp.below (B4.out.alloc g1 _))) (aJ _),c1.out.kp (Kp.below (af W4 _)) (Kp.below (af W4 _)),c3.out.below (af W4 _),t.out.2,t.out.1,G.out⟩⟩,fun h=>absurd rfl h⟩
 ·have g3:(u==0)=false:=by rw[aO];exact h0
  have I:Hid (u≠0):=h0;clear h0;go_wp2_with fail;refine bodyPost_ret (rh rfl _ _) rfl ?_;exact⟨F.out.alloc F.out.size _,_,rfl,fun h=>absurd h I.out,fun _=>rfl⟩
open Go.Lib
def AO(S:List St)(first:Nat)(bP:l9):Prop:=pW (xT (av false S) 0) first [a6 (av false S) 0] bP
def Mw(a:List bw)(J:List PR):Prop:=J.length=a.length/\∀(i:Nat) (L:bw) (r:PR),a[i]?=some L->J[i]?=some r->r.1=L.cut/\xF L.SL L.fL r.2.1/\AO L.SR L.fR r.2.2
theorem Hr{α:Type}(P:Nat->α->Prop):∀n,(∀i,i<n->∃x,P i x)->∃l:List α,l.length=n/\∀i x,l[i]?=some x->P i x:=by
 intro n
 induction n with
 | zero=>intro _;exact⟨[],rfl,fun i x h=>by simp at h⟩
 | succ n f =>
  intro h;obtain⟨l,h1,c⟩:=f fun i hi=>h i (by omega)
  obtain⟨x,d⟩:=h n (by omega);refine⟨l++[x],by simp[h1],fun i y e=>?_⟩;rcases bD e with⟨a,b⟩|⟨a,rfl⟩
  ·exact c i y a
  ·rw[show i=n from by omega];exact d
theorem zG:∀(c:List bw) (J:List PR) (b:List (Value×Value)),J.length=c.length->(∀(i:Nat) (L:bw) (r:PR),c[i]?=some L->J[i]?=some r->r.1=L.cut)->lR J b=dV c b:=by
 intro c
 induction c with
 | nil=>intro J b h _;cases J with
  | nil=>rfl
  | cons a J=>simp at h
 | cons L c e =>
  intro J b h hc;cases J with
  | nil=>simp at h
  | cons r J =>
   cases b with
   | nil=>rfl
   | cons u b =>
    have h1:=e J b (by simpa using h) (fun i L r h1 d=>hc (i+1) L r (by simpa using h1) (by simpa using d));have d:r.1=L.cut:=hc 0 L r rfl rfl;unfold lR dV at *;simp only[Qk,List.flatMap_cons,h1,d]
theorem xN.pr{w:World}{v:Value}{j:List bw}(h:xN 0 w v j)(M:j.length<=100):∃J n,xC w v J n/\Mw j J:=by
 obtain⟨n,h1,H,x⟩:=h;obtain⟨J,y,I⟩:=Hr (fun i (r:PR)=>∀(L:bw) (u:Value×Value),j[i]?=some L->n[i]?=some u->r.1=L.cut/\(bz 0 w u.1 r.2.1/\xF L.SL L.fL r.2.1)/\(bz 0 w u.2 r.2.2/\AO L.SR L.fR r.2.2)) j.length fun i hi=>by
  obtain⟨L,d⟩:∃L,j[i]?=some L:=⟨j[i],ax hi⟩;obtain⟨u,hu⟩:∃u,n[i]?=some u:=⟨n[i]'(by omega),ax (by omega)⟩;obtain⟨⟨tl,Sl,F,a2,a3,a4,a5⟩,tr,E,b1,b2,b3,b4,G⟩:=x i L u d hu;refine⟨(L.cut,tl,tr),fun K A C o=>?_⟩;rw[d]at C;rw[hu]at o;cases C;cases o;exact⟨rfl,⟨F,Sl,a2,a3,a4,a5⟩,b1,E,b2,b3,b4,G⟩
 have all:∀(i:Nat) (L:bw) (r:PR),j[i]?=some L->J[i]?=some r->∃u,n[i]?=some u/\r.1=L.cut/\(bz 0 w u.1 r.2.1/\xF L.SL L.fL r.2.1)/\(bz 0 w u.2 r.2.2/\AO L.SR L.fR r.2.2):=fun i L r d g=>by
  have hi:=(a1.1 d).1;obtain⟨u,hu⟩:∃u,n[i]?=some u:=⟨n[i]'(by omega),ax (by omega)⟩;exact⟨u,hu,I i r g L u d hu⟩
 have B:∀(i:Nat) (r:PR),J[i]?=some r->∃L,j[i]?=some L:=fun i r g=>⟨j[i]'(by have:=(a1.1 g).1;omega),ax _⟩
 refine⟨J,n,⟨by omega,?_,fun i r u g hu=>?_,fun r g=>?_,by omega⟩,y,fun i L r d g=>?_⟩
 ·rw[y,zG j J n y (fun i L r d g=>(all i L r d g).choose_spec.2.1)];exact H
 ·obtain⟨L,d⟩:=B i r g;obtain⟨A,o,_,q,t⟩:=all i L r d g;rw[hu]at o;cases o;exact⟨q.1,t.1⟩
 ·obtain⟨i,hi⟩:=e3.1 g;obtain⟨L,d⟩:=B i r hi;obtain⟨A,o,_,q,t⟩:=all i L r d hi;exact⟨(q.2.good (by simp)).1,(t.2.good (by simp)).1⟩
 ·obtain⟨A,o,x,q,t⟩:=all i L r d g;exact⟨x,q.2,t.2⟩
def n4(T s:ai)(L:List (Int×Int×Nat))(told:List ai):Prop:=∃J a ns,Mw (cv T).2 J/\c8 L s s.size a ns/\told=(ec s ns (dM J a) ns.length).2.2
theorem Ay(w:World)(g:Nat)(T s:ai)(Q b3 b4 b2 b5:Value)(L:List (Int×Int×Nat))(c:mb w g T Q b3 b4 b2 b5 L)(O:Utf8Tabs 2 3 w)(I:2<w.heap.size/\3<w.heap.size)(hlen:s.size<=2200000):Calls prog 19 #[.pointer (some ⟨g,0,none⟩),.string s] w fun r w'=>(∃v told,r=.returned v/\n4 T s L told/\w'.ownsRow w.heap.size 9 1 v told.length (strCells told))/\Below w.heap.size w w':=by
 obtain⟨J,R,A,M⟩:=c.OJ.pr (by have:=c.iL;omega);obtain⟨k,l,rfl⟩:=ak A.row;have a8:=an c.da;have P:=Ie 0 g 0 Q L s w O I (ab c.da 0 _ rfl) c.bP c.ay.1 c.row c.ay.2 hlen;have F:w.cell? ⟨g,1,none⟩=some (.slice k J.length l):=ab c.da 1 _ rfl;have a1:Hid (xC w (.slice k J.length l) J R):=A;have Z:Hid (Mw (cv T).2 J):=M;have a0:Hid (∀o∈L,o.2.2<8):=c.ay.2;clear c O I A M;go_enter func19,ntmps19;go_wp2_with fail;refine P.mono ?_;rintro r b ⟨⟨b8,b9,a,ns,rfl,D,B,C⟩,b1⟩;obtain⟨d,h,rfl⟩:=ak B;obtain⟨f,i,rfl⟩:=ak C;have m:=D.ok a0.out;have b0:=b1.size;obtain⟨W2,t⟩:∃W2,W2=b.alloc (.cells #[.slice d a.length h,.slice f ns.length i] 104):=⟨_,rfl⟩;have a2:Hid (W2=b.alloc (.cells #[.slice d a.length h,.slice f ns.length i] 104)):=t;have u:Below b.heap.size b W2:=by rw[t];exact af b _
 have b7:W2.heap.size=b.heap.size+1:=by rw[t];simp
 have E:W2.heap[b.heap.size]?=some (.cells #[.slice d a.length h,.slice f ns.length i] 104 (0,0)):=by rw[t];exact aw b _
 have q:Hid (Below w.heap.size w W2):=b1.trans (u.mono b0);have a5:Hid (xH W2 (.slice d a.length h) a):=⟨al (bX B (aJ _)) (Kp.below u),m.kinds,by have:=m.len;have:=m.iL;omega⟩;have a6:Hid (W2.ownsRow 0 5 1 (.slice f ns.length i) ns.length (bI ns)):=al (bX C (aJ _)) (Kp.below u);have X:Hid (c8 L s s.size a ns):=D;have z:Hid (GF s s.size a ns):=m;have y:a.length=ns.length:=m.len;have S:Hid (∀W,Below W2.heap.size W2 W->Calls prog 53 #[.agg #[.slice k J.length l],.slice d a.length h] W fun r w'=>∃g,r=.returned (.slice (some ⟨g,0,none⟩) (a.length+1) (a.length+1))/\W.heap.size<=g/\w'.heap[g]?=some (.cells (aC (dM J a)) 4 (0,0))/\Below W.heap.size W w'):=fun W hb=>Hs W _ _ J R a ((a1.out.below q.out).below hb) (a5.out.below hb)
 have U:Hid (∀W x,W2.heap.size<=W.heap.size->Below W2.heap.size W2 W->W.heap[x]?=some (.cells (aC (dM J a)) 4 (0,0))->Calls prog 52 #[.string s,.slice f ns.length i,.slice (some ⟨x,0,none⟩) (a.length+1) (a.length+1)] W fun r w'=>(∃v,r=.returned v/\w'.ownsRow W.heap.size 9 1 v (ec s ns (dM J a) ns.length).2.2.length (strCells (ec s ns (dM J a) ns.length).2.2))/\Below W.heap.size W w'):=fun W x _ hb hg=>by
  rw[y];exact zp s _ ns x (dM J a) W (al a6.out (Kp.below hb)) hg (by rw[oI,y]) z.out.sum (fun n a9=>(z.out.JF n a9).2) hlen (by have:=z.out.iL;omega)
 have m0:W2.cell? ⟨b.heap.size,0,none⟩=some (.slice d a.length h):=ab E 0 _ rfl;have m1:W2.cell? ⟨b.heap.size,1,none⟩=some (.slice f ns.length i):=ab E 1 _ rfl;have m2:W2.cell? ⟨g,1,none⟩=some (.slice k J.length l):=(q.out.cell (p:=⟨g,1,none⟩) a8).trans F;have b6:Hid (a.length=ns.length):=y;clear P D B C m t u E b1 F y;go_wp2_with fail;rw[<- a2.out]
 go_region_held3 (fun w'=>(w'.cell? ⟨b.heap.size,0,none⟩=some (.slice d a.length h)/\w'.cell? ⟨b.heap.size,1,none⟩=some (.slice f ns.length i)/\w'.cell? ⟨g,1,none⟩=some (.slice k J.length l)))
  (first|exact Y.out|exact a3.out|go_keep)
  (first
   | (go_at_call 53
      refine(S.out _ ((aB _ _).drew)).mono ?_;rintro e W3 ⟨g3,rfl,a7,K,G⟩;have j:Hid (Below W2.heap.size W2 W3):=dW G;have V:Hid (W3.heap[g3]?=some (.cells (aC (dM J a)) 4 (0,0))):=K;have Y:Hid ((W3.cell? ⟨b.heap.size,0,none⟩=some (.slice d a.length h)/\W3.cell? ⟨b.heap.size,1,none⟩=some (.slice f ns.length i)/\W3.cell? ⟨g,1,none⟩=some (.slice k J.length l))) :=
       ⟨(j.out.cell (p:=⟨b.heap.size,0,none⟩) (by show b.heap.size<_;omega)).trans m0,(j.out.cell (p:=⟨b.heap.size,1,none⟩) (by show b.heap.size<_;omega)).trans m1,(j.out.cell (p:=⟨g,1,none⟩) (by show g<_;omega)).trans m2⟩
      clear K G a7)
   | (go_at_call 52
      refine(U.out _ _ j.out.size j.out V.out).mono ?_;rintro e W4 ⟨⟨v4,rfl,N⟩,H⟩;have B4:Hid (Below W2.heap.size W2 W4):=j.out.trans (H.mono j.out.size);have a4:Hid (W4.ownsRow w.heap.size 9 1 v4 (ec s ns (dM J a) ns.length).2.2.length (strCells (ec s ns (dM J a) ns.length).2.2)):=bX N (aE q.out.size j.out.size);have a3:Hid ((W4.cell? ⟨b.heap.size,0,none⟩=some (.slice d a.length h)/\W4.cell? ⟨b.heap.size,1,none⟩=some (.slice f ns.length i)/\W4.cell? ⟨g,1,none⟩=some (.slice k J.length l))) :=
       ⟨(B4.out.cell (p:=⟨b.heap.size,0,none⟩) (by show b.heap.size<_;omega)).trans m0,(B4.out.cell (p:=⟨b.heap.size,1,none⟩) (by show b.heap.size<_;omega)).trans m1,(B4.out.cell (p:=⟨g,1,none⟩) (by show g<_;omega)).trans m2⟩
      clear N H))
 go_wp2_with fail;go_ret;exact⟨⟨v4,_,rfl,⟨J,a,ns,Z.out,X.out,rfl⟩,a4.out⟩,q.out.trans (B4.out.mono q.out.size)⟩
theorem G5{f:(Nat->Prop)->Nat->Nat->Prop}{g:Nat}{b:List (Nat->Prop)}{bP:l9}(h:iQ f g b bP)(o:bP.length=b.length){a:Nat}{S:Nat->Prop}(d:b[a]?=some S){k:Nat}(m:k<8):b[cm bP a k]?=some (f S k):=by
 have e:a<bP.length:=by rw[o];exact(a1.1 d).1
 obtain⟨h1,p,c,q,i⟩:=h a bP[a].1 bP[a].2 (ax e);rw[d]at c;cases c;obtain⟨n,j,l⟩:=i k m;unfold cm;rw[ax e];simp only[Option.bind_some,j,Option.getD_some];exact l
theorem vR{j:(Nat->Prop)->Nat->Nat->Prop}{c:Nat}{b:List (Nat->Prop)}{bP:l9}(h:iQ j c b bP)(i:bP.length=b.length){a:Nat}{S:Nat->Prop}(e:b[a]?=some S):bG bP a=true↔S c:=by
 have f:a<bP.length:=by rw[i];exact(a1.1 e).1
 obtain⟨h1,k,d,g,l⟩:=h a bP[a].1 bP[a].2 (ax f);rw[e]at d;cases d;unfold bG;rw[ax f];exact g
theorem Bs{e:(Nat->Prop)->Nat->Nat->Prop}{f:Nat}{b:List (Nat->Prop)}{bP:l9}(h:iQ e f b bP)(i:bP.length=b.length):∀(row:List Nat),(∀k∈row,k<8)->∀(a:Nat) (S:Nat->Prop),b[a]?=some S->b[row.foldl (fun a k=>cm bP a k) a]?=some (row.foldl e S):=by
 intro row
 induction row with
 | nil=>intro _ a S c;exact c
 | cons k row j =>
  intro d a S c;exact j (fun k' g=>d k' (b6 _ g)) _ _ (G5 h i c (d k (aU ..)))
theorem r3(c:Bool)(fl fr:Nat->Bool){m i:Nat}(a:List Bool)(hi:m<=i):(bK c fl fr m a)[i]?=a[i]?:=by
 unfold bK;rw[mn];cases h:a[i]? with
 | none=>rfl
 | some b=>rw[cU,ae (by omega)]
theorem oJ(J:List PR)(row:List Nat):(dM J row)[row.length]?=some true:=by
 unfold dM
 induction J with
 | nil=>simp
 | cons a J b=>rw[List.foldr_cons];exact(r3 _ _ _ _ (ar _)).trans b
def oi(l:List ai):ai:=l.foldl (·++·) ⟨#[]⟩
theorem wC(l:List ai)(x:ai):oi (l++[x])=oi l++x:=by unfold oi;rw[e0];rfl
theorem NX(s:ai)(a b:Nat)(h:a<=b):s.extract 0 a++s.extract a b=s.extract 0 b:=by
 rw[ByteArray.extract_append_extract];congr 1<;>omega
structure RO (s:ai) (st:Dl):Prop where
 full:∀x∈st.2.2,1<=x.size
 join:oi st.2.2=s.extract 0 st.1
theorem Ru(s:ai){ns:List Nat}{a:List Bool}(h:a.length=ns.length+1)(h1:∀n∈ns,1<=n)(p:ns.sum=s.size):∀i,i<=ns.length->RO s (ec s ns a i):=by
 intro i
 induction i with
 | zero=>intro _;exact⟨by unfold ec;simp,by unfold ec;simp[oi];rfl⟩
 | succ i g =>
  intro hi;have d:=g (by omega);have e:=FD s h i (by omega);have f:ns[i]?=some ns[i]:=ax (by omega);have hc:a[i+1]?=some (a[i+1]'(by omega)):=ax (by omega);have j:=gm f;have k:=vD ns (i+1);have o:=h1 ns[i] (bl _);rw[gU f hc];have l:=e.end_;have m:=e.order;generalize ec s ns a i=st at *;generalize (a[i+1]'(by omega))=c;unfold nG;cases c with
  | true =>
   refine⟨fun x b=>?_,?_⟩
   ·rcases aR.1 b with b|b
    ·exact d.full x b
    ·simp only[List.mem_singleton]at b;rw[b,ek];omega
   ·show oi (st.2.2++[s.extract st.1 (st.2.1+ns[i])])=_;rw[wC,d.join,NX _ _ _ (by omega)];rfl
  | false=>exact⟨d.full,d.join⟩
theorem Nd(s:ai){ns:List Nat}{a:List Bool}(h:a.length=ns.length+1)(g:a[ns.length]?=some true)(d:ns.sum=s.size):(ec s ns a ns.length).1=s.size:=by
 cases b:ns.length with
 | zero =>
  have:ns=[]:=hj b;subst this;simp at d;unfold ec;simp;omega
 | succ m =>
  have c:ns[m]?=some (ns[m]'(by omega)):=ax (by omega);have hc:a[m+1]?=some true:=by rw[<- b];exact g
  have f:=(FD s h m (by omega)).end_;have e:=gm c;rw[gU c hc];show (ec s ns a m).2.1+_=_;rw[f,<- e,<- b,mi,d]
theorem CO(s:ai):s.extract 0 s.size=s:=by simp
theorem vv{T s:ai}{L:List (Int×Int×Nat)}{told:List ai}(e:∀o∈L,o.2.2<8)(h:n4 T s L told):(∀x∈told,1<=x.size)/\oi told=s/\told.length<=s.size:=by
 obtain⟨J,c,ns,_,hc,rfl⟩:=h;have a:=hc.ok e;have b:(dM J c).length=ns.length+1:=by rw[oI,a.len]
 have f:(dM J c)[ns.length]?=some true:=by rw[<- a.len];exact oJ J c
 have d:=Ru s b (fun n g=>(a.JF n g).1) a.sum ns.length (ar _);refine⟨d.full,?_,aE (FD s b ns.length (ar _)).iL a.iL⟩;rw[d.join,Nd s b f a.sum,CO]
abbrev RZ:ai:=⟨#[106,111,105,110,32,124,32,59]⟩
theorem wD:∀l:List ai,(oi l).size=(l.map ByteArray.size).sum:=by
 apply mI
 ·rfl
 ·intro l a b;rw[wC,ByteArray.size_append,b,c9,List.sum_append];simp
structure hV (w:World):Prop where
 oF:cc w
 Ql:Utf8Tabs 2 3 w
 low:2<w.heap.size/\3<w.heap.size
theorem hV.below{w w':World}(h:hV w)(d:Below w.heap.size w w'):hV w' :=
 ⟨h.oF.below d,⟨fun c hc=>(d.cell (p:=⟨_,c,none⟩) h.low.1).trans (h.Ql.1 c hc),fun i hi=>⟨(d.cell (p:=⟨_,2*i,none⟩) h.low.2).trans (h.Ql.2 i hi).1,(d.cell (p:=⟨_,2*i+1,none⟩) h.low.2).trans (h.Ql.2 i hi).2⟩⟩,cI h.low.1 d.size,cI h.low.2 d.size⟩
def vn(T:ai)(w:World)(v:Value):Prop:=∃g a c d b e L,v=.pointer (some ⟨g,0,none⟩)/\mb w g T a c d b e L
theorem lG.at{w:World}{eK k:Nat}{m:ai}{u:Value}(h:lG w eK m u)(t:k<4):∃q x,u=.slice (some ⟨q,0,none⟩) 4 4/\w.cell? ⟨q,k,none⟩=some x/\ms w eK m x:=by
 obtain⟨q,v0,o,v2,v3,h1,_,d,g,i,j,n⟩:=h;rcases k with _|_|_|_|k
 ·exact⟨q,v0,h1,ab d 0 _ rfl,g⟩
 ·exact⟨q,o,h1,ab d 1 _ rfl,i⟩
 ·exact⟨q,v2,h1,ab d 2 _ rfl,j⟩
 ·exact⟨q,v3,h1,ab d 3 _ rfl,n⟩
 ·omega
theorem HE(w:World)(base eK bb n:Nat)(z:fg w base eK bb n)(a4:n<=2100000):Calls prog 23 #[.pointer (some ⟨bb,0,none⟩)] w fun r w'=>r=.returned (.bool true)/\Below w.heap.size w w':=by
 have F:Hid (fg w base eK bb n):=z;clear z;go_enter func23,ntmps23;go_wp2_with fail
 go_loopg [2,3] 4 (fun b e S f=>∃k:Nat,e=.bool false/\k<=4/\b=4-k/\S=.int .i64 k/\Hid (Below w.heap.size w f))
 case atStart=>exact⟨0,rfl,aJ _,rfl,rfl,aB _ _⟩
 case round =>
  obtain⟨k,rfl,a3,rfl,rfl,s⟩:=hrel;obtain⟨D,O⟩:∃D,D=wr:=⟨wr,rfl⟩;subst O
  by_cases N:k<4
  ·have p:Hid (k<4):=N;have a0:decide ((k:Int)<4)=true:=by simp;omega
   go_wp2_with fail
   go_loopg [2,4] n (fun b e Q f=>∃i:Nat,e=.bool false/\i<=n/\b=n-i/\Q=.int .i64 i/\Hid (Below w.heap.size w f))
   case atStart=>exact⟨0,rfl,aJ _,rfl,rfl,s⟩
   case round =>
    obtain⟨i,rfl,hi,rfl,rfl,g⟩:=hrel;obtain⟨l,P⟩:∃l,l=wr:=⟨wr,rfl⟩;subst P;have o:Hid (fg l base eK bb n):=F.out.below g.out;obtain⟨_,T,C,d,a,h⟩:=o.out;obtain⟨G,I,rfl⟩:=ak a;have A:=ab d 0 _ rfl;clear d a h s
    by_cases a1:i<n
    ·have B:=yv i (by omega) l;go_wp2_with fail;refine B.mono ?_;rintro r w3 ⟨rfl,b3⟩;have E:Hid (Below w.heap.size w w3):=g.out.trans (b3.mono g.out.size);have v:Hid (fg w3 base eK bb n):=o.out.below b3;clear A B b3 o;obtain⟨_,T,C,d,a,h⟩:=v.out;obtain⟨G,I,rfl⟩:=ak a;have A:=ab d 0 _ rfl;obtain⟨u,hu⟩:∃u,C[i]?=some u:=⟨_,ax (by have:=a.1;omega)⟩;obtain⟨U,K,_,Y⟩:=cu a hu (by omega);subst K;obtain⟨q,x,rfl,Z,c,W,t,_⟩:=(h i u hu).at p.out;obtain⟨H,J,rfl⟩:=ak t;have y:Hid (w3.ownsRow 0 9 1 (.slice H c J) c (bW c (oh i))):=t;generalize oh i=m at y;clear d a h t hu v;go_wp2_with fail
     go_loopg [2,6] c (fun b e R f=>∃j:Nat,e=.bool false/\j<=c/\b=c-j/\R=.int .i64 j/\f=w3)
     case atStart=>exact⟨0,rfl,aJ _,rfl,rfl,rfl⟩
     case round =>
      obtain⟨j,rfl,a2,rfl,rfl,rfl⟩:=hrel
      by_cases M:j<c
      ·obtain⟨V,L,_,X⟩:=cu y.out (KA m M) (by omega);subst L;go_wp2_with fail;go_roundg (c-(j+1))
       case measure=>omega
       case rel=>exact⟨j+1,rfl,by omega,rfl,by go_num,rfl⟩
      ·obtain rfl:j=c:=by omega
       go_wp2_with fail;go_roundg (n-(i+1))
       case measure=>omega
       case rel=>exact⟨i+1,rfl,by omega,rfl,by go_num,E⟩
    ·obtain rfl:i=n:=by omega
     go_wp2_with fail;go_roundg (4-(k+1))
     case measure=>have:=p.out;omega
     case rel=>exact⟨k+1,rfl,p.out,rfl,by go_num,g⟩
  ·obtain rfl:k=4:=by omega
   go_wp2_with fail;go_ret;exact⟨rfl,s.out⟩
end Go.Proofs.YtodagkkjfipbgaaGreatDoor
namespace Go.Proofs.YtodagkkjfipbgaaGreatDoor
open Go.RowKit Go.Maps Go.Proofs.Tryz
def n6(g:List (List (Nat×Nat))):List Nat->Nat->Nat->Prop
 | [],x,y=>a6 g x y
 | k::r,x,y=>∃a t z,a6 g x a/\(t,z)∈fY g a/\t.testBit k=true/\n6 g r z y
theorem lN{g:List (List (Nat×Nat))}{x z:Nat}(h:a6 g x z):∀{r:List Nat} {y:Nat},n6 g r z y->n6 g r x y:=by
 intro r y k;cases r with
 | nil=>exact iC h k
 | cons c r =>
  obtain⟨a,t,u,h1,b⟩:=k;exact⟨a,t,u,iC h h1,b⟩
theorem G9{g:List (List (Nat×Nat))}{k a t u y:Nat}(d:(t,u)∈fY g a)(e:t.testBit k=true)(f:a6 g u y):∀(r:List Nat) (x:Nat),n6 g r x a->n6 g (r++[k]) x y:=by
 intro r
 induction r with
 | nil=>intro x h;exact⟨a,t,u,h,d,e,f⟩
 | cons c r n =>
  intro x h;obtain⟨b,s,v,i,j,l,m⟩:=h;exact⟨b,s,v,i,j,l,n v m⟩
theorem Lk(g:List (List (Nat×Nat))):∀(row:List Nat) (F:Nat->Prop),gO g F->∀y,(row.foldl (gr g) F) y↔∃x,F x/\n6 g row x y:=by
 intro row
 induction row with
 | nil=>intro F hF y;exact⟨fun h=>⟨y,h,c2 g y⟩,fun ⟨x,h1,b⟩=>js hF h1 b⟩
 | cons k row f =>
  intro F hF y;rw[jb,f _ (q5 g F k) y];constructor
  ·rintro⟨x,⟨a,t,z,h1,b,c,d⟩,e⟩;exact⟨a,h1,a,t,z,c2 g a,b,c,lN d e⟩
  ·rintro⟨x,h1,a,t,z,b,c,d,e⟩;exact⟨z,⟨a,t,z,js hF h1 b,c,d,c2 g z⟩,e⟩
theorem qE(g:List (List (Nat×Nat)))(first:Nat)(row:List Nat)(y:Nat):(row.foldl (gr g) (a6 g first)) y↔n6 g row first y:=by
 rw[Lk g row _ (jp g first) y];exact⟨fun ⟨x,h1,a⟩=>lN h1 a,fun h=>⟨first,c2 g first,h⟩⟩
theorem yl{g a:List (List (Nat×Nat))}(h:∀t x y,(t,y)∈fY g x->(t,x)∈fY a y){x y:Nat}(k:a6 g x y):a6 a y x:=by
 obtain⟨n,b⟩:=k
 induction n generalizing x with
 | zero=>cases b;exact c2 a _
 | succ n d =>
  obtain⟨z,h1,c⟩:=b;exact iC (d c) (jU (h 0 x z h1) (c2 a x))
theorem FK{g b:List (List (Nat×Nat))}(h:∀t x y,(t,y)∈fY g x->(t,x)∈fY b y):∀(row:List Nat) (x y:Nat),n6 g row x y->n6 b row.reverse y x:=by
 intro row
 induction row with
 | nil=>intro x y k;exact yl h k
 | cons c row i =>
  intro x y k;obtain⟨a,t,z,h1,d,e,f⟩:=k;rw[List.reverse_cons];exact G9 (h t a z d) e (yl h h1) _ _ (i z y f)
theorem yJ(b:Bool){S:List St}(hS:AZ S)(t x y:Nat)(h:(t,y)∈fY (av b S) x):(t,x)∈fY (av (!b) S) y:=by
 have d:x<S.length:=by
  rcases cF x S.length with h1|h1
  ·exact h1
  ·unfold fY at h;rw[gB (by rw[fA];exact h1)]at h;simp at h
 obtain⟨j,s,h1,c,a⟩:=(ly b S x (t,y) d).1 h;have f:=(a1.1 h1).1;cases b with
 | true =>
  simp at a;have e:=hS.ib s (bC h1) y a.2;exact(ly false S y (t,x) e).2 ⟨j,s,h1,c,by simp;exact a⟩
 | false =>
  simp at a;exact(ly true S y (t,x) (by omega)).2 ⟨j,s,h1,c,by simp;exact a⟩
theorem BH{S:List St}(hS:AZ S)(row:List Nat)(x y:Nat):n6 (av false S) row.reverse y x↔n6 (av true S) row x y:=by
 constructor
 ·intro h;have:=FK (yJ false hS) row.reverse y x h
  rwa [List.reverse_reverse]at this
 ·intro h;exact FK (yJ true hS) row x y h
theorem CC(g:List (List (Nat×Nat)))(first:Nat):∀(row:List Nat) (y:Nat),(row.foldl (xT g first) (a6 g first)) y↔∃i,i<=row.length/\n6 g (row.drop i) first y:=by
 apply mI
 ·intro y;constructor
  ·intro h;exact⟨0,ar _,h⟩
  ·rintro⟨i,_,h⟩;rw[List.drop_nil]at h;exact h
 ·intro row k f y;rw[e0];show gr g (row.foldl (xT g first) (a6 g first)) k y\/a6 g first y↔_;have step:∀(r:List Nat) (y:Nat),n6 g (r++[k]) first y↔∃a t z,n6 g r first a/\(t,z)∈fY g a/\t.testBit k=true/\a6 g z y:=fun r y=>by
   rw[<- qE,e0];show gr g (r.foldl (gr g) (a6 g first)) k y↔_;constructor
   ·rintro⟨a,t,z,h1,b⟩;exact⟨a,t,z,(qE g first r a).1 h1,b⟩
   ·rintro⟨a,t,z,h1,b⟩;exact⟨a,t,z,(qE g first r a).2 h1,b⟩
  constructor
  ·rintro(⟨a,t,z,h1,b,c,d⟩|h)
   ·obtain⟨i,hi,e⟩:=(f a).1 h1;refine⟨i,by simp;omega,?_⟩;rw[AV hi];exact(step _ y).2 ⟨a,t,z,e,b,c,d⟩
   ·exact⟨(row++[k]).length,ar _,by rw[List.drop_length];exact h⟩
  ·rintro⟨i,hi,h⟩;rcases cF row.length i with h1|h1
   ·simp at hi;rw[List.drop_eq_nil_of_le (by simp;omega)]at h;exact ac h
   ·rw[AV h1]at h;obtain⟨a,t,z,e,b,c,d⟩:=(step _ y).1 h;exact ah ⟨a,t,z,(f a).2 ⟨i,h1,e⟩,b,c,d⟩
def Si(g:List (List (Nat×Nat)))(first a:Nat)(row:List Nat):Prop:=∃m,m<=row.length/\n6 g (row.take m) first a
end Go.Proofs.YtodagkkjfipbgaaGreatDoor
namespace Go.Proofs.YtodagkkjfipbgaaGreatDoor
open Go Go.Proofs.Tryz
abbrev xW:=Op.bytesLess
theorem zX:∀a:List UInt8,xW a a=false
 | []=>rfl
 | a::x=>by simp[xW,Op.bytesLess];exact zX x
theorem qs:∀{a b c:List UInt8},xW a b=true->xW b c=true->xW a c=true
 | _,[],_,h,_=>by cases ‹List UInt8›<;>simp[xW,Op.bytesLess]at h
 | _,_::_,[],_,h=>by simp[xW,Op.bytesLess]at h
 | [],_::_,_::_,_,_=>by simp[xW,Op.bytesLess]
 | a::x,b::y,c::z,h,k=>by
  simp only[xW,Op.bytesLess,Bool.or_eq_true,e1,gA,bL]at h k ⊢;rcases h with h|⟨rfl,h⟩<;>rcases k with k|⟨rfl,k⟩
  ·exact ah (UInt8.lt_trans h k)
  ·exact ah h
  ·exact ah k
  ·exact ac ⟨rfl,qs h k⟩
theorem F1:∀a b:List UInt8,xW a b=true\/a=b\/xW b a=true
 | [],[]=>by simp
 | [],_::_=>by simp[xW,Op.bytesLess]
 | _::_,[]=>by simp[xW,Op.bytesLess]
 | a::x,b::y=>by
  simp only[xW,Op.bytesLess,Bool.or_eq_true,e1,gA,bL,List.cons.injEq];rcases UInt8.lt_or_le a b with h|h
  ·exact ah (ah h)
  ·rcases UInt8.lt_or_le b a with c|c
   ·exact ac (ac (ah c))
   ·have e:a=b:=UInt8.le_antisymm c h;rcases F1 x y with k|k|k
    ·exact ah (ac ⟨e,k⟩)
    ·exact ac (ah ⟨e,k⟩)
    ·exact ac (ac (ac ⟨e.symm,k⟩))
def h9(n:Nat):List UInt8 :=
 if n<10 then [UInt8.ofNat (48+n)]else if n<100 then [UInt8.ofNat (48+n/10),UInt8.ofNat (48+n%10)]else [UInt8.ofNat (48+n/100),UInt8.ofNat (48+n/10%10),UInt8.ofNat (48+n%10)]
inductive Tr where
 | z|e
 | c (k:Nat)
 | s (p q:Tr)
 | a (p q:Tr)
 | m (p:Tr)
def Tr.gM:Bool->Tr->List UInt8
 | i,.z=>if i then [47,48]else [48]
 | i,.e=>if i then [47,49]else [49]
 | i,.c k=>if i then 47::91::(h9 k++[93])else 91::(h9 k++[93])
 | i,.s p q=>if i then 47::40::(p.gM false++(q.gM false++[41]))else 40::(p.gM false++(q.gM false++[41]))
 | i,.a p q=>if i then 47::(p.gM false++q.gM true)else 123::47::(p.gM false++(q.gM true++[125]))
 | i,.m p=>if i then 47::60::(p.gM false++[62])else 60::(p.gM false++[62])
def Tr.fm(t:Tr):List UInt8:=t.gM false
def Tr.low:Tr->Prop
 | .z|.e=>True
 | .c k=>k<256
 | .s p q=>p.low/\q.low
 | .a p q=>p.low/\q.low
 | .m p=>p.low
theorem HS:∀i:Nat,i<256->∀j:Nat,j<256->∀r b:List UInt8,h9 i++93::r=h9 j++93::b->i=j/\r=b:=by
 have cut:∀n:Fin 256,(h9 n).all (fun c=>c != 93)=true:=by decide +kernel
 have val:∀n:Fin 256,(h9 n).foldl (fun v c=>10*v+(c.toNat-48)) 0=n.val:=by decide +kernel
 have sp:∀(l a:List UInt8) (r b:List UInt8),l.all (fun c=>c != 93)=true->a.all (fun c=>c != 93)=true->l++93::r=a++93::b->l=a/\r=b:=by
  intro l
  induction l with
  | nil=>intro a r b _ d h
         cases a with
         | nil=>simpa using h
         | cons x a=>simp at h;rw[<- h.1]at d;simp at d
  | cons x l k=>intro a r b h1 d h
                cases a with
                | nil=>simp at h;rw[h.1]at h1;simp at h1
                | cons m a =>
                 simp only[jd,List.cons.injEq]at h;simp only[List.all_cons,gA]at h1 d;have:=k a r b h1.2 d.2 h.2;exact⟨by rw[h.1,this.1],this.2⟩
 intro i hi j g r b h;have:=sp _ _ _ _ (cut ⟨i,hi⟩) (cut ⟨j,g⟩) h;refine⟨?_,this.2⟩;have e:=val ⟨i,hi⟩;have f:=val ⟨j,g⟩;simp only at e f;rw[<- e,<- f];show List.foldl _ 0 (h9 i)=List.foldl _ 0 (h9 j);rw[this.1]
theorem Tr.NT(t:Tr):∃c l,t.fm=c::l/\c≠47/\c≠125:=by
 cases t<;>refine⟨_,_,rfl,?_,?_⟩<;>decide
theorem Tr.CE(t:Tr):∃l,t.gM true=47::l:=by
 cases t<;>exact⟨_,rfl⟩
theorem Tr.EF{t:Tr}(h:∀p q,t≠.a p q):t.gM true=47::t.fm:=by
 cases t<;>first|rfl|(exact absurd rfl (h _ _))
theorem Tr.KY{x y:Tr}(o:∀(y:Tr) (r d:List UInt8),x.low->y.low->x.fm++r=y.fm++d->x=y/\r=d)(v:∀p q,x≠.a p q)(r d:List UInt8)(i:x.low)(j:y.low)(h:x.gM true++125::r=y.gM true++125::d):x=y/\r=d:=by
 rw[Tr.EF v]at h
 by_cases n:∀p q,y≠.a p q
 ·rw[Tr.EF n]at h;simp only[jd,List.cons.injEq,true_and]at h;have:=o y _ _ i j h;exact⟨this.1,by simpa using this.2⟩
 ·have:∃p q,y=.a p q:=by
   cases y with
   | a p q=>exact⟨p,q,rfl⟩
   | _=>exact absurd (fun p q h=>by cases h) n
  obtain⟨p,q,rfl⟩:=this;have t:x.fm++125::r=p.fm++(q.gM true++125::d):=by
   have:(Tr.a p q).gM true=47::(p.fm++q.gM true):=rfl;rw[this]at h;simpa using h
  have g:=o p _ _ i j.1 t;obtain⟨l,u⟩:=q.CE;rw[u]at g;simp at g
theorem Tr.PG(x:Tr):(∀(y:Tr) (r d:List UInt8),x.low->y.low->x.fm++r=y.fm++d->x=y/\r=d) /\(∀(y:Tr) (r d:List UInt8),x.low->y.low->x.gM true++125::r=y.gM true++125::d->x=y/\r=d):=by
 induction x with
 | z=>
  have h1:∀(y:Tr) (r d:List UInt8),Tr.z.low->y.low->Tr.z.fm++r=y.fm++d->Tr.z=y/\r=d:=by
   intro y r d _ _ h;cases y<;>simp[Tr.fm,Tr.gM]at h;exact⟨rfl,h⟩
  exact⟨h1,fun y r d=>Tr.KY h1 (fun p q h=>by cases h) r d⟩
 | e=>
  have h1:∀(y:Tr) (r d:List UInt8),Tr.e.low->y.low->Tr.e.fm++r=y.fm++d->Tr.e=y/\r=d:=by
   intro y r d _ _ h;cases y<;>simp[Tr.fm,Tr.gM]at h;exact⟨rfl,h⟩
  exact⟨h1,fun y r d=>Tr.KY h1 (fun p q h=>by cases h) r d⟩
 | c k =>
  have h1:∀(y:Tr) (r d:List UInt8),(Tr.c k).low->y.low->(Tr.c k).fm++r=y.fm++d->(Tr.c k)=y/\r=d:=by
   intro y r d g i h;cases y with
   | c k' =>
    simp only[Tr.fm,Tr.gM,la,fi,jd,eG,List.cons.injEq,true_and]at h;have:=HS k g k' i r d (by simpa using h);exact⟨by rw[this.1],this.2⟩
   | _=>simp[Tr.fm,Tr.gM]at h
  exact⟨h1,fun y r d=>Tr.KY h1 (fun p q h=>by cases h) r d⟩
 | s p q u v =>
  have h1:∀(y:Tr) (r d:List UInt8),(Tr.s p q).low->y.low->(Tr.s p q).fm++r=y.fm++d->(Tr.s p q)=y/\r=d:=by
   intro y r d g i h;cases y with
   | s j n =>
    have o:p.fm++(q.fm++(41::r))=j.fm++(n.fm++(41::d)):=by simpa[Tr.fm,Tr.gM]using h
    have h1:=u.1 j _ _ g.1 i.1 o;have t:=v.1 n _ _ g.2 i.2 h1.2;exact⟨by rw[h1.1,t.1],by simpa using t.2⟩
   | _=>simp[Tr.fm,Tr.gM]at h
  exact⟨h1,fun y r d=>Tr.KY h1 (fun p q h=>by cases h) r d⟩
 | m p u =>
  have h1:∀(y:Tr) (r d:List UInt8),(Tr.m p).low->y.low->(Tr.m p).fm++r=y.fm++d->(Tr.m p)=y/\r=d:=by
   intro y r d g i h;cases y with
   | m j =>
    have o:p.fm++(62::r)=j.fm++(62::d):=by simpa[Tr.fm,Tr.gM]using h
    have h1:=u.1 j _ _ g i o;exact⟨by rw[h1.1],by simpa using h1.2⟩
   | _=>simp[Tr.fm,Tr.gM]at h
  exact⟨h1,fun y r d=>Tr.KY h1 (fun p q h=>by cases h) r d⟩
 | a p q u v =>
  constructor
  ·intro y r d g i h;cases y with
   | a j n =>
    have o:p.fm++(q.gM true++(125::r))=j.fm++(n.gM true++(125::d)):=by simpa[Tr.fm,Tr.gM]using h
    have h1:=u.1 j _ _ g.1 i.1 o;have t:=v.2 n _ _ g.2 i.2 h1.2;exact⟨by rw[h1.1,t.1],t.2⟩
   | _=>simp[Tr.fm,Tr.gM]at h
  ·intro y r d g i h;have e:(Tr.a p q).gM true=47::(p.fm++q.gM true):=rfl;rw[e]at h
   by_cases w:∀p q,y≠.a p q
   ·rw[Tr.EF w]at h;have o:p.fm++(q.gM true++(125::r))=y.fm++(125::d):=by simpa using h
    have h1:=u.1 y _ _ g.1 i o;obtain⟨l,B⟩:=q.CE;rw[B]at h1;simp at h1
   ·have:∃p q,y=.a p q:=by
     cases y with
     | a p q=>exact⟨p,q,rfl⟩
     | _=>exact absurd (fun p q h=>by cases h) w
    obtain⟨j,n,rfl⟩:=this;have o:p.fm++(q.gM true++(125::r))=j.fm++(n.gM true++(125::d)):=by
     have A:(Tr.a j n).gM true=47::(j.fm++n.gM true):=rfl;rw[A]at h;simpa using h
    have h1:=u.1 j _ _ g.1 i.1 o;have t:=v.2 n _ _ g.2 i.2 h1.2;exact⟨by rw[h1.1,t.1],t.2⟩
theorem Tr.Q6{x y:Tr}(d:x.low)(g:y.low)(h:x.fm=y.fm):x=y:=((Tr.PG x).1 y [] [] d g (by rw[h])).1
namespace Tr
def Pv:Tr->Bool|.a _ _=>true|_=>false
def cM:Tr->Bool|.z=>true|_=>false
def cX:Tr->Bool|.e=>true|_=>false
def AY:Tr->Bool|.s _ _=>true|_=>false
def Dt:Tr->Bool|.m _=>true|_=>false
def alts:Tr->List Tr
 | .z=>[]
 | .a p q=>p::q.alts
 | t=>[t]
def Ef:List Tr->Tr
 | []=>.z
 | [x]=>x
 | x::l=>.a x (Ef l)
def one(t:Tr):Prop:=t.Pv=false/\t.cM=false
def ok:Tr->Prop
 | .z|.e=>True
 | .c k=>k<256
 | .s p q=>p.ok/\q.ok/\p.cM=false/\p.cX=false/\p.AY=false/\q.cM=false/\q.cX=false
 | .a p q=>p.ok/\q.ok/\p.one/\q.cM=false/\∀u∈q.alts,xW p.fm u.fm=true
 | .m p=>p.ok/\p.cM=false/\p.cX=false/\p.Dt=false
theorem ok.low:∀{t:Tr},t.ok->t.low:=by
 intro t
 induction t with
 | z=>intro _;trivial
 | e=>intro _;trivial
 | c k=>intro h;exact h
 | s p q d g=>intro h;exact⟨d h.1,g h.2.1⟩
 | a p q d g=>intro h;exact⟨d h.1,g h.2.1⟩
 | m p i=>intro h;exact i h.1
theorem c7{t:Tr}(h:t.one):t.alts=[t]:=by
 obtain⟨h1,d⟩:=h;cases t<;>simp_all [alts,Pv,cM]
theorem pQ{t:Tr}:t.alts=[]↔t=.z:=by cases t<;>simp[alts]
def kz(l:List Tr):Prop:=l.Pairwise (fun x y=>xW x.fm y.fm=true)/\∀x∈l,x.ok/\x.one
theorem ok.kz{t:Tr}(h:t.ok):kz t.alts:=by
 induction t with
 | z=>exact⟨List.Pairwise.nil,by simp[alts]⟩
 | a p q w n =>
  obtain⟨h1,g,i,v,j⟩:=h;obtain⟨o,u⟩:=n g;refine⟨nu.2 ⟨j,o⟩,?_⟩;intro x d;rcases aT.1 d with rfl|d
  ·exact⟨h1,i⟩
  ·exact u x d
 | e=>exact⟨xK _ _,by intro x d;simp[alts]at d;subst d;exact⟨h,rfl,rfl⟩⟩
 | c k=>exact⟨xK _ _,by intro x d;simp[alts]at d;subst d;exact⟨h,rfl,rfl⟩⟩
 | s p q=>exact⟨xK _ _,by intro x d;simp[alts]at d;subst d;exact⟨h,rfl,rfl⟩⟩
 | m p=>exact⟨xK _ _,by intro x d;simp[alts]at d;subst d;exact⟨h,rfl,rfl⟩⟩
theorem kz.tail{x:Tr}{l:List Tr}(h:kz (x::l)):kz l:=⟨(nu.1 h.1).2,fun y d=>h.2 y (b6 _ d)⟩
theorem kz.nodup{l:List Tr}(h:kz l):l.Nodup:=by
 refine List.Pairwise.imp ?_ h.1;intro x y d e;subst e;rw[zX]at d;cases d
theorem tD{l:List Tr}(h:kz l):(Ef l).ok/\(Ef l).alts=l:=by
 induction l with
 | nil=>exact⟨trivial,rfl⟩
 | cons x l j =>
  have d:=h.2 x (aU ..);cases l with
  | nil=>exact⟨d.1,c7 d.2⟩
  | cons y l =>
   obtain⟨i,i2⟩:=j h.tail;refine⟨⟨d.1,i,d.2,?_,?_⟩,?_⟩
   ·cases g:Ef (y::l)with
    | z=>rw[g]at i2;simp[alts]at i2
    | _=>rfl
   ·rw[i2];exact(nu.1 h.1).1
   ·show x::(Ef (y::l)).alts=_;rw[i2]
theorem Ca{t:Tr}(h:t.ok):Ef t.alts=t:=by
 induction t with
 | a p q u j =>
  obtain⟨h1,g,n,i,o⟩:=h;have:=j g;cases d:q.alts with
  | nil=>rw[pQ]at d;subst d;simp[cM]at i
  | cons y l =>
   show Ef (p::q.alts)=_;rw[d];show a p (Ef (y::l))=_;rw[<- d,this]
 | _=>rfl
theorem M4:∀{l l':List Tr},kz l->kz l'->(∀x,x∈l↔x∈l')->l=l':=by
 intro l
 induction l with
 | nil=>intro l' _ _ h
        cases l' with
        | nil=>rfl
        | cons y l'=>exact absurd ((h y).2 (aU ..)) (by simp)
 | cons x l t =>
  intro l' d g h;cases l' with
  | nil=>exact absurd ((h x).1 (aU ..)) (by simp)
  | cons y l' =>
   have h1:=(nu.1 d.1).1;have i:=(nu.1 g.1).1;have e:x=y:=by
    rcases aT.1 ((h x).1 (aU ..))with e|o
    ·exact e
    ·rcases aT.1 ((h y).2 (aU ..))with e|q
     ·exact e.symm
     ·have:=qs (h1 y q) (i x o);rw[zX]at this;cases this
   subst e;congr 1;refine t d.tail g.tail fun u=>?_
   have j:=mh.1 d.nodup;have n:=mh.1 g.nodup;constructor
   ·intro hu;rcases aT.1 ((h u).1 (b6 _ hu))with e|k
    ·subst e;exact absurd hu j.1
    ·exact k
   ·intro hu;rcases aT.1 ((h u).2 (b6 _ hu))with e|k
    ·subst e;exact absurd hu n.1
    ·exact k
theorem ext{t d:Tr}(h:t.ok)(g:d.ok)(i:∀x,x∈t.alts↔x∈d.alts):t=d:=by
 rw[<- Ca h,<- Ca g,M4 h.kz g.kz i]
def among:List Tr->Tr->List Tr
 | [],x=>[x]
 | y::r,x=>if (xW x.fm y.fm||x.fm==y.fm)=true then (if (x.fm==y.fm)=true then y::r else x::y::r)else y::among r x
theorem IA{l:List Tr}{x:Tr}(h:kz l)(i:x.ok)(j:x.one):kz (among l x)/\∀u,u∈among l x↔u=x\/u∈l:=by
 induction l with
 | nil=>exact⟨⟨xK _ _,by intro u hu;simp[among]at hu;subst hu;exact⟨i,j⟩⟩,by intro u;simp[among]⟩
 | cons y l t =>
  obtain⟨o,i2⟩:=t h.tail;have n:=h.2 y (aU ..);have h1:=(nu.1 h.1).1;unfold among
  by_cases g:x.fm=y.fm
  ·have e:x=y:=Q6 i.low n.1.low g;subst e;simp only[beq_self_eq_true,Bool.or_true,de];exact⟨h,by intro u;simp⟩
  ·have q:(x.fm==y.fm)=false:=by simpa using g
   rw[q];simp only[Bool.or_false,la,fi]
   by_cases d:xW x.fm y.fm=true
   ·rw[ag d];refine⟨⟨nu.2 ⟨?_,h.1⟩,?_⟩,by intro u;simp⟩
    ·intro u hu;rcases aT.1 hu with rfl|hu
     ·exact d
     ·exact qs d (h1 u hu)
    ·intro u hu;rcases aT.1 hu with rfl|hu
     ·exact⟨i,j⟩
     ·exact h.2 u hu
   ·rw[ae d];have hg:xW y.fm x.fm=true:=by
     rcases F1 x.fm y.fm with k|k|k
     ·exact absurd k d
     ·exact absurd k g
     ·exact k
    refine⟨⟨nu.2 ⟨?_,o.1⟩,?_⟩,?_⟩
    ·intro u hu;rcases(i2 u).1 hu with rfl|hu
     ·exact hg
     ·exact h1 u hu
    ·intro u hu;rcases aT.1 hu with rfl|hu
     ·exact n
     ·exact o.2 u hu
    ·intro u;rw[aT,i2 u,aT];constructor
     ·rintro(k|k|k)
      ·exact ac (ah k)
      ·exact ah k
      ·exact ac (ac k)
     ·rintro(k|k|k)
      ·exact ac (ah k)
      ·exact ah k
      ·exact ac (ac k)
theorem iK{l':List Tr}:∀{l:List Tr},kz l->(∀x∈l',x.ok/\x.one)->kz (l'.foldl among l)/\∀u,u∈l'.foldl among l↔u∈l\/u∈l':=by
 induction l' with
 | nil=>intro l h _;exact⟨h,by simp⟩
 | cons x l' j =>
  intro l h d;have h1:=IA h (d x (aU ..)).1 (d x (aU ..)).2;have g:=j h1.1 (fun y i=>d y (b6 _ i));refine⟨g.1,fun u=>?_⟩;rw[jb,g.2 u,h1.2 u,aT];constructor
  ·rintro((k|k)|k)
   ·exact ac (ah k)
   ·exact ah k
   ·exact ac (ac k)
  ·rintro(k|k|k)
   ·exact ah (ac k)
   ·exact ah (ah k)
   ·exact ac k
def gV(l:List Tr)(x:Tr):List Tr:=x.alts.foldl among l
def either(x y:Tr):Tr:=Ef (gV (gV [] x) y)
theorem bg{x y:Tr}(h:x.ok)(i:y.ok):(either x y).ok/\∀u,u∈(either x y).alts↔u∈x.alts\/u∈y.alts:=by
 have h1:=iK (l:=[]) ⟨List.Pairwise.nil,by simp⟩ h.kz.2;have d:=iK h1.1 i.kz.2;have g:=tD d.1;refine⟨g.1,fun u=>?_⟩;have e:(either x y).alts=y.alts.foldl among (x.alts.foldl among []):=g.2;rw[e,d.2 u,h1.2 u];simp
def row:Tr->Tr->Tr
 | .z,_=>.z
 | .e,b=>b
 | .s p q,b=>match b with|.z=>.z|.e=>.s p q|b=>row p (row q b)
 | .c k,b=>match b with|.z=>.z|.e=>.c k|b=>.s (.c k) b
 | .a p q,b=>match b with|.z=>.z|.e=>.a p q|b=>.s (.a p q) b
 | .m p,b=>match b with|.z=>.z|.e=>.m p|b=>.s (.m p) b
theorem h8(x:Tr):row x .z=.z:=by cases x<;>rfl
theorem dN(x:Tr):row x .e=x:=by cases x<;>rfl
theorem lp{p q b:Tr}(h1:b.cM=false)(d:b.cX=false):row (.s p q) b=row p (row q b):=by
 cases b<;>simp_all [cM,cX,row]
theorem hM{x b:Tr}(h1:b.cM=false)(d:b.cX=false)(g:x.cM=false)(h:x.cX=false)(i:x.AY=false):row x b=.s x b:=by
 cases x<;>cases b<;>simp_all [cM,cX,AY,row]
theorem ee{x:Tr}(h:x.cM=true):x=.z:=by cases x<;>simp_all [cM]
theorem cp{x:Tr}(h:x.cX=true):x=.e:=by cases x<;>simp_all [cX]
theorem qz{x:Tr}(h:x.AY=true):∃p q,x=.s p q:=by cases x<;>simp_all [AY]
theorem bZ{x b:Tr}(d:x.ok)(hb:b.ok):(row x b).ok/\(x.cM=false->b.cM=false->(row x b).cM=false/\(b.cX=false->(row x b).cX=false)):=by
 induction x generalizing b with
 | z=>exact⟨trivial,fun h=>by simp[cM]at h⟩
 | e=>exact⟨hb,fun _ h=>⟨h,fun k=>k⟩⟩
 | s p q t u =>
  by_cases h1:b.cM=true
  ·rw[ee h1,h8];exact⟨trivial,fun _ h=>by simp[cM]at h⟩
  ·by_cases g:b.cX=true
   ·rw[cp g,dN];exact⟨d,fun _ _=>⟨rfl,fun h=>by simp[cX]at h⟩⟩
   ·rw[lp (by simpa using h1) (by simpa using g)];have n:=u d.2.1 hb;have o:=n.2 d.2.2.2.2.2.1 (by simpa using h1);have i:=t d.1 n.1;refine⟨i.1,fun _ _=>?_⟩;have j:=i.2 d.2.2.1 o.1;exact⟨j.1,fun h=>j.2 (o.2 h)⟩
 | _ =>
  by_cases h1:b.cM=true
  ·rw[ee h1,h8];exact⟨trivial,fun _ h=>by simp[cM]at h⟩
  ·by_cases g:b.cX=true
   ·rw[cp g,dN];exact⟨d,fun _ _=>⟨rfl,fun h=>by simp[cX]at h⟩⟩
   ·rw[hM (by simpa using h1) (by simpa using g) rfl rfl rfl];exact⟨⟨d,hb,rfl,rfl,rfl,by simpa using h1,by simpa using g⟩,fun _ _=>⟨rfl,fun _=>rfl⟩⟩
theorem nJ{x y b:Tr}(u:x.ok)(A:y.ok)(hb:b.ok):row (row x y) b=row x (row y b):=by
 by_cases h1:b.cM=true
 ·rw[ee h1];simp only[h8]
 by_cases B:b.cX=true
 ·rw[cp B];simp only[dN]
 have v:b.cM=false:=by simpa using h1
 have i:b.cX=false:=by simpa using B
 by_cases o:y.cM=true
 ·rw[ee o];simp only[h8];show z=row x z;rw[h8]
 by_cases t:y.cX=true
 ·rw[cp t];simp only[dN];rfl
 have g:y.cM=false:=by simpa using o
 have h:y.cX=false:=by simpa using t
 have d:=(bZ A hb).2 g v;have key:∀(x y:Tr),x.cM=false->x.cX=false->x.AY=false->y.cM=false->y.cX=false->row (row x y) b=row x (row y b)\/(row y b).cM=true\/(row y b).cX=true:=by
  intro x y F G H o t
  by_cases C:(row y b).cM=true
  ·exact ac (ah C)
  by_cases E:(row y b).cX=true
  ·exact ac (ac E)
  left;rw[hM o t F G H,lp v i,hM (by simpa using C) (by simpa using E) F G H]
 induction x generalizing y with
 | z=>rfl
 | e=>rfl
 | s p q I J =>
  rw[lp g h];have w:=bZ u.2.1 A;have j:=w.2 u.2.2.2.2.2.1 g;rw[I u.1 w.1 (by simp[j.1]) (by simp[j.2 h]) j.1 (j.2 h) ((bZ w.1 hb).2 j.1 v)];rw[J u.2.1 A o t g h d];rw[lp d.1 (d.2 i)]
 | c n =>
  rcases key (.c n) y rfl rfl rfl g h with k|k|k
  ·exact k
  ·rw[d.1]at k;cases k
  ·rw[d.2 i]at k;cases k
 | a p q =>
  rcases key (.a p q) y rfl rfl rfl g h with k|k|k
  ·exact k
  ·rw[d.1]at k;cases k
  ·rw[d.2 i]at k;cases k
 | m p =>
  rcases key (.m p) y rfl rfl rfl g h with k|k|k
  ·exact k
  ·rw[d.1]at k;cases k
  ·rw[d.2 i]at k;cases k
def many:Tr->Tr
 | .z|.e=>.e
 | .m p=>.m p
 | x=>.m x
theorem pz{x:Tr}(h:x.ok):(many x).ok/\(many x).cM=false:=by
 cases x<;>first|exact⟨trivial,rfl⟩|exact⟨⟨h,rfl,rfl,rfl⟩,rfl⟩|exact⟨h,rfl⟩
def hU:Tr->Bool
 | .e|.m _=>true
 | .s p q=>p.hU&&q.hU
 | .a p q=>p.hU||q.hU
 | .z|.c _=>false
def dt:Tr->Nat->Tr
 | .z,_|.e,_=>.z
 | .c n,k=>if n.testBit k then .e else .z
 | .s p q,k=>if p.hU=true then either (row (p.dt k) q) (q.dt k)else row (p.dt k) q
 | .a p q,k=>either (p.dt k) (q.dt k)
 | .m p,k=>row (p.dt k) (.m p)
theorem cj{x:Tr}(h:x.ok)(k:Nat):(x.dt k).ok:=by
 induction x with
 | z=>trivial
 | e=>trivial
 | c n=>show (if n.testBit k then e else z).ok;split<;>trivial
 | s p q d g =>
  have h1:=(bZ (d h.1) h.2.1).1;show (if p.hU=true then either (row (p.dt k) q) (q.dt k)else row (p.dt k) q).ok;split
  ·exact(bg h1 (g h.2.1)).1
  ·exact h1
 | a p q d g=>exact(bg (d h.1) (g h.2.1)).1
 | m p i=>exact(bZ (i h.1) h).1
end Tr
namespace Tr
inductive n2 (P:List Nat->Prop):List Nat->Prop where
 | nil:n2 P []
 | cons (u v:List Nat):P u->n2 P v->n2 P (u++v)
def Mt:Tr->List Nat->Prop
 | .z,_=>False
 | .e,w=>w=[]
 | .c n,w=>∃j,w=[j]/\n.testBit j=true
 | .s p q,w=>∃u v,w=u++v/\p.Mt u/\q.Mt v
 | .a p q,w=>p.Mt w\/q.Mt w
 | .m p,w=>n2 p.Mt w
theorem zR(t:Tr)(w:List Nat):t.Mt w↔∃u∈t.alts,u.Mt w:=by
 induction t with
 | z=>simp[Mt,alts]
 | a p q g d=>simp only[Mt,alts,aT,exists_eq_or_imp,d]
 | _=>simp[alts]
theorem nP{x y:Tr}(d:x.ok)(g:y.ok)(w:List Nat):(either x y).Mt w↔x.Mt w\/y.Mt w:=by
 rw[zR,zR x,zR y];constructor
 ·rintro⟨u,hu,h⟩;rcases((bg d g).2 u).1 hu with k|k
  ·exact ah ⟨u,k,h⟩
  ·exact ac ⟨u,k,h⟩
 ·rintro(⟨u,hu,h⟩|⟨u,hu,h⟩)
  ·exact⟨u,((bg d g).2 u).2 (ah hu),h⟩
  ·exact⟨u,((bg d g).2 u).2 (ac hu),h⟩
theorem zQ{x b:Tr}(w:List Nat):(row x b).Mt w↔∃u v,w=u++v/\x.Mt u/\b.Mt v:=by
 induction x generalizing b w with
 | z=>exact⟨fun h=>h.elim,fun ⟨_,_,_,h,_⟩=>h.elim⟩
 | e=>exact⟨fun h=>⟨[],w,rfl,rfl,h⟩,fun ⟨u,v,h,h1,d⟩=>by rw[show u=[] from h1]at h;rw[h];exact d⟩
 | s p q y o =>
  by_cases h1:b.cM=true
  ·rw[ee h1,h8];exact⟨fun h=>h.elim,fun ⟨_,_,_,_,h⟩=>h.elim⟩
  ·by_cases d:b.cX=true
   ·rw[cp d,dN];exact⟨fun h=>⟨w,[],by simp,h,rfl⟩,fun ⟨u,v,h,h1,d⟩=>by rw[show v=[] from d,mg]at h;rw[h];exact h1⟩
   ·rw[lp (by simpa using h1) (by simpa using d),y];constructor
    ·rintro⟨u,v,rfl,j,t⟩;obtain⟨g,i,rfl,n,hb⟩:=(o _).1 t;exact⟨u++g,i,by simp,⟨u,g,rfl,j,n⟩,hb⟩
    ·rintro⟨u,v,rfl,⟨g,i,rfl,j,n⟩,hb⟩;exact⟨g,i++v,by simp,j,(o _).2 ⟨i,v,rfl,n,hb⟩⟩
 | _ =>
  by_cases h1:b.cM=true
  ·rw[ee h1,h8];exact⟨fun h=>h.elim,fun ⟨_,_,_,_,h⟩=>h.elim⟩
  ·by_cases d:b.cX=true
   ·rw[cp d,dN];exact⟨fun h=>⟨w,[],by simp,h,rfl⟩,fun ⟨u,v,h,h1,d⟩=>by rw[show v=[] from d,mg]at h;rw[h];exact h1⟩
   ·rw[hM (by simpa using h1) (by simpa using d) rfl rfl rfl];exact Iff.rfl
theorem Jr{P:List Nat->Prop}{k:Nat}{w:List Nat}:n2 P (k::w)↔∃u v,w=u++v/\P (k::u)/\n2 P v:=by
 constructor
 ·intro h;generalize d:k::w=x at h
  induction h with
  | nil=>cases d
  | cons u v hu i n =>
   cases u with
   | nil=>exact n (by simpa using d)
   | cons j u=>simp at d;obtain⟨rfl,rfl⟩:=d;exact⟨u,v,rfl,hu,i⟩
 ·rintro⟨u,v,rfl,h1,g⟩;exact n2.cons (k::u) v h1 g
theorem EK(t:Tr):t.hU=true↔t.Mt []:=by
 induction t with
 | z=>simp[hU,Mt]
 | e=>simp[hU,Mt]
 | c n=>simp[hU,Mt]
 | s p q g i =>
  simp only[hU,gA,g,i,Mt];constructor
  ·rintro⟨h1,d⟩;exact⟨[],[],rfl,h1,d⟩
  ·rintro⟨u,v,h,h1,d⟩;have:=List.append_eq_nil_iff.1 h.symm;rw[this.1]at h1;rw[this.2]at d;exact⟨h1,d⟩
 | a p q g i=>simp only[hU,Bool.or_eq_true,g,i,Mt]
 | m p=>simp only[hU,Mt,true_iff];exact n2.nil
theorem P2{t:Tr}(h:t.ok)(k:Nat)(w:List Nat):(t.dt k).Mt w↔t.Mt (k::w):=by
 induction t generalizing w with
 | z=>simp[dt,Mt]
 | e=>simp[dt,Mt]
 | c n =>
  show (if n.testBit k=true then e else z).Mt w↔∃j,k::w=[j]/\n.testBit j=true;split
  ·rename_i o;constructor
   ·intro h;rw[show w=[] from h];exact⟨k,rfl,o⟩
   ·rintro⟨j,i,_⟩;simp at i;exact i.2
  ·rename_i o;constructor
   ·intro h;exact h.elim
   ·rintro⟨j,i,B⟩;simp at i;rw[i.1]at o;exact absurd B o
 | s p q x y =>
  have key:(row (p.dt k) q).Mt w↔∃u v,w=u++v/\p.Mt (k::u)/\q.Mt v:=by
   rw[zQ];constructor
   ·rintro⟨u,v,e,h1,d⟩;exact⟨u,v,e,(x h.1 u).1 h1,d⟩
   ·rintro⟨u,v,e,h1,d⟩;exact⟨u,v,e,(x h.1 u).2 h1,d⟩
  have C:(s p q).Mt (k::w)↔(∃u v,w=u++v/\p.Mt (k::u)/\q.Mt v)\/(p.Mt []/\q.Mt (k::w)):=by
   constructor
   ·rintro⟨u,v,e,h1,d⟩;cases u with
    | nil=>rw[show k::w=v from e];exact ac ⟨h1,d⟩
    | cons j u=>simp at e;obtain⟨rfl,rfl⟩:=e;exact ah ⟨u,v,rfl,h1,d⟩
   ·rintro(⟨u,v,rfl,h1,d⟩|⟨h1,d⟩)
    ·exact⟨k::u,v,rfl,h1,d⟩
    ·exact⟨[],k::w,rfl,h1,d⟩
  rw[C];show (if p.hU=true then either (row (p.dt k) q) (q.dt k)else row (p.dt k) q).Mt w↔_;split
  ·rename_i g;rw[nP (bZ (cj h.1 k) h.2.1).1 (cj h.2.1 k),key,y h.2.1];rw[EK]at g;simp[g]
  ·rename_i g;rw[EK]at g;rw[key];simp[g]
 | a p q x y =>
  show (either (p.dt k) (q.dt k)).Mt w↔_;rw[nP (cj h.1 k) (cj h.2.1 k),x h.1,y h.2.1];exact Iff.rfl
 | m p A =>
  show (row (p.dt k) (.m p)).Mt w↔n2 p.Mt (k::w);rw[zQ,Jr];constructor
  ·rintro⟨u,v,e,h1,d⟩;exact⟨u,v,e,(A h.1 u).1 h1,d⟩
  ·rintro⟨u,v,e,h1,d⟩;exact⟨u,v,e,(A h.1 u).2 h1,d⟩
def cE(t:Tr)(w:List Nat):Tr:=w.foldl dt t
theorem ef{t:Tr}(h:t.ok)(w:List Nat):(t.cE w).ok:=by
 induction w generalizing t with
 | nil=>exact h
 | cons k w d=>exact d (cj h k)
theorem PO{t:Tr}(h:t.ok)(w v:List Nat):(t.cE w).Mt v↔t.Mt (w++v):=by
 induction w generalizing t with
 | nil=>exact Iff.rfl
 | cons k w d=>show ((t.dt k).cE w).Mt v↔_;rw[d (cj h k),P2 h];rfl
theorem N6(t:Tr)(w v:List Nat):t.cE (w++v)=(t.cE w).cE v:=e0
theorem m9(t:Tr)(w:List Nat)(k:Nat):t.cE (w++[k])=(t.cE w).dt k:=by rw[N6];rfl
theorem Gl(w:List Nat):Tr.z.cE w=.z:=by induction w with|nil=>rfl|cons k w d=>exact d
theorem tI{t:Tr}(h:t.ok)(w:List Nat):(t.cE w).hU=true↔t.Mt w:=by rw[EK,PO h];simp
theorem nb{t:Tr}(h:t.ok)(k:Nat)(u:Tr):u∈(t.dt k).alts↔∃v∈t.alts,u∈(v.dt k).alts:=by
 induction t with
 | z=>simp[dt,alts]
 | a p q g d =>
  show u∈(either (p.dt k) (q.dt k)).alts↔_;rw[(bg (cj h.1 k) (cj h.2.1 k)).2 u,d h.2.1];simp only[alts,aT,exists_eq_or_imp]
 | _=>simp[alts]
theorem dr{t:Tr}(h:t.ok)(w:List Nat)(u:Tr):u∈(t.cE w).alts↔∃v∈t.alts,u∈(v.cE w).alts:=by
 induction w generalizing t with
 | nil =>
  show u∈t.alts↔∃v∈t.alts,u∈v.alts;constructor
  ·intro hu;exact⟨u,hu,by rw[c7 (h.kz.2 u hu).2];simp⟩
  ·rintro⟨v,d,hu⟩;rw[c7 (h.kz.2 v d).2]at hu;simp at hu;subst hu;exact d
 | cons k w i =>
  show u∈((t.dt k).cE w).alts↔∃v∈t.alts,u∈((v.dt k).cE w).alts;rw[i (cj h k)];constructor
  ·rintro⟨v,d,hu⟩;obtain⟨x,g,d⟩:=(nb h k v).1 d;exact⟨x,g,(i (cj (h.kz.2 x g).1 k)).2 ⟨v,d,hu⟩⟩
  ·rintro⟨x,g,hu⟩;obtain⟨v,d,hu⟩:=(i (cj (h.kz.2 x g).1 k)).1 hu;exact⟨v,(nb h k v).2 ⟨x,g,d⟩,hu⟩
def fI:Tr->Nat->List Tr
 | .s p q,k=>row (p.dt k) q::(if p.hU=true then q.fI k else [])
 | g,k=>[g.dt k]
def lQ:Tr->List Nat->List Tr
 | g,[]=>[g]
 | g,k::w=>(g.fI k).flatMap fun d=>d.lQ w
theorem v8{g:Tr}(h:g.ok)(k:Nat):∀d∈g.fI k,d.ok:=by
 induction g with
 | s p q j i =>
  intro d hg;unfold fI at hg;rcases aT.1 hg with rfl|hg
  ·exact(bZ (cj h.1 k) h.2.1).1
  ·split at hg
   ·exact i h.2.1 d hg
   ·cases hg
 | _=>intro d hg;unfold fI at hg;simp at hg;subst hg;exact cj h k
theorem qn{g:Tr}(h:g.ok)(w:List Nat):∀d∈g.lQ w,d.ok:=by
 induction w generalizing g with
 | nil=>intro d hg;simp[lQ]at hg;subst hg;exact h
 | cons k w j =>
  intro d hg;obtain⟨x,i,hg⟩:=g9.1 hg;exact j (v8 h k x i) d hg
theorem eR(g:Tr)(w:List Nat)(k:Nat)(i:Tr):i∈g.lQ (w++[k])↔∃x∈g.lQ w,i∈x.fI k:=by
 induction w generalizing g with
 | nil=>simp[lQ]
 | cons j w n =>
  simp only[jd,lQ,g9,n];constructor
  ·rintro⟨y,h,x,d,hg⟩;exact⟨x,⟨y,h,d⟩,hg⟩
  ·rintro⟨x,⟨y,h,d⟩,hg⟩;exact⟨y,h,x,d,hg⟩
theorem wa{g:Tr}(h:g.ok)(k:Nat)(u:Tr):u∈(g.dt k).alts↔∃d∈g.fI k,u∈d.alts:=by
 induction g with
 | s p q j i =>
  unfold fI;show u∈(if p.hU=true then either (row (p.dt k) q) (q.dt k)else row (p.dt k) q).alts↔_;split
  ·rw[(bg (bZ (cj h.1 k) h.2.1).1 (cj h.2.1 k)).2 u,i h.2.1];simp
  ·simp
 | _=>unfold fI;simp
theorem kb{g:Tr}(h:g.ok)(w:List Nat)(u:Tr):u∈(g.cE w).alts↔∃d∈g.lQ w,u∈d.alts:=by
 induction w generalizing g with
 | nil=>simp[lQ,cE]
 | cons k w q =>
  show u∈((g.dt k).cE w).alts↔_;rw[dr (cj h k)];simp only[lQ,g9];constructor
  ·rintro⟨v,i,hu⟩;obtain⟨x,j,i⟩:=(wa h k v).1 i;have n:=v8 h k x j;obtain⟨d,o,hu⟩:=(q n).1 ((dr n w u).2 ⟨v,i,hu⟩);exact⟨d,⟨x,j,o⟩,hu⟩
  ·rintro⟨d,⟨x,j,o⟩,hu⟩;have n:=v8 h k x j;obtain⟨v,i,hu⟩:=(dr n w u).1 ((q n).2 ⟨d,o,hu⟩);exact⟨v,(wa h k v).2 ⟨x,j,i⟩,hu⟩
theorem yo{g b:Tr}(hg:g.ok)(hb:b.ok)(b1:b.cM=false)(b2:b.cX=false)(k:Nat)(x:Tr)(d:x∈(row g b).fI k):x=.z\/(∃i∈g.fI k,x=row i b)\/x∈b.fI k:=by
 induction g generalizing x with
 | z=>left;simp[row,fI,dt]at d;exact d
 | e=>right;right;exact d
 | s p q v t =>
  have n:=(bZ hg.2.1 hb);have j:=n.2 hg.2.2.2.2.2.1 b1;rw[lp b1 b2,hM j.1 (j.2 b2) hg.2.2.1 hg.2.2.2.1 hg.2.2.2.2.1]at d;unfold fI at d;rcases aT.1 d with rfl|d
  ·right;left;refine⟨row (p.dt k) q,by unfold fI;simp,?_⟩;rw[nJ (cj hg.1 k) hg.2.1 hb]
  ·split at d
   ·rename_i o;rcases t hg.2.1 x d with h|⟨i,h,u⟩|h
    ·exact ah h
    ·right;left;exact⟨i,by unfold fI;rw[ag o];exact b6 _ h,u⟩
    ·exact ac (ac h)
   ·cases d
 | _ =>
  rw[hM b1 b2 rfl rfl rfl]at d;unfold fI at d;rcases aT.1 d with rfl|d
  ·right;left;exact⟨_,by unfold fI;simp,rfl⟩
  ·split at d
   ·exact ac (ac d)
   ·cases d
end Tr
namespace Tr
theorem pg(k:Nat):Tr.z.fI k=[.z]:=rfl
theorem FQ(w:List Nat):∀g∈Tr.z.lQ w,g=.z:=by
 induction w with
 | nil=>intro g hg;simp[lQ]at hg;exact hg
 | cons k w d=>intro g hg;simp[lQ,pg]at hg;exact d g hg
theorem zB{g:Tr}(h:g.AY=false)(k:Nat):g.fI k=[g.dt k]:=by cases g<;>first|rfl|simp[AY]at h
theorem ru{x y:Tr}(i:x.ok)(j:y.ok)(h1:x.one)(h:∀u∈y.alts,u=x)(g:y.cM=false):y=x:=by
 refine ext j i fun u=>?_
 rw[c7 h1];constructor
 ·intro hu;rw[h u hu];simp
 ·intro hu;simp at hu;subst hu;cases d:y.alts with
  | nil=>rw[pQ]at d;subst d;simp[cM]at g
  | cons v l=>have:=h v (by rw[d];simp);subst this;simp
theorem ny{t:Tr}(h:t.ok){v:List Nat}(h1:(t.cE v).one):t.cE v∈t.lQ v:=by
 have j:=ef h v;have i:t.cE v∈(t.cE v).alts:=by rw[c7 h1];simp
 obtain⟨g,hg,hu⟩:=(kb h v _).1 i;have d:=qn h v g hg;have:g=t.cE v:=by
  refine ru j d h1 ?_ ?_
  ·intro u n;have:=(kb h v u).2 ⟨g,hg,n⟩;rw[c7 h1]at this;simpa using this
  ·cases g<;>first|rfl|simp[alts]at hu
 rw[<- this];exact hg
def jn(t:Tr)(w:List Nat)(V:List Tr):Prop:=∀v,v≠[]->v <:+ w->∀g∈t.lQ v,g=.z\/g∈V
def GA(t:Tr)(w:List Nat)(V:List Tr):Prop:=∀v,v≠[]->v <:+ w->t.cE v=.z\/t.cE v∈V
theorem jn.sub{t:Tr}{w:List Nat}{V d:List Tr}(h:jn t w V)(j:∀x∈V,x∈d):jn t w d:=fun v h1 i g hg=>(h v h1 i g hg).imp id (j g)
theorem Bf{v w:List Nat}(k:Nat)(h:v <:+ w):v++[k] <:+ w++[k]:=by
 obtain⟨t,rfl⟩:=h;exact⟨t,by simp⟩
theorem Ft{w:List Nat}(k:Nat):[k] <:+ w++[k]:=⟨w,rfl⟩
theorem tz{P:List Nat->Prop}(h0:P [])(h1:∀w k,P w->P (w++[k])):∀w,P w:=by
 intro w;have:∀n (w:List Nat),w.length=n->P w:=by
  intro n
  induction n with
  | zero=>intro w d;rw[hj d];exact h0
  | succ n h =>
   intro w d;have g:w≠[]:=by intro e;rw[e]at d;cases d
   rw[<- List.dropLast_concat_getLast g];exact h1 _ _ (h _ (by simp[d]))
 exact this _ w rfl
theorem FR{x y:Tr}(u:x.ok)(A:y.ok)(v:List Nat):∀g∈(row x y).lQ v,g=.z\/(∃i∈x.lQ v,g=row i y)\/∃d,d≠[]/\d <:+ v/\g∈y.lQ d:=by
 by_cases n:y.cM=true
 ·rw[ee n,h8];intro g hg;exact ah (FQ v g hg)
 by_cases o:y.cX=true
 ·rw[cp o,dN];intro g hg;exact ac (ah ⟨g,hg,(dN g).symm⟩)
 induction v using tz with
 | h0=>intro g hg;simp[lQ]at hg;exact ac (ah ⟨x,by simp[lQ],hg⟩)
 | h1 w k B =>
  intro g hg;obtain⟨g0,q,hg⟩:=(eR _ _ _ _).1 hg;rcases B g0 q with rfl|⟨i,j,rfl⟩|⟨d,E,C,t⟩
  ·rw[pg]at hg;simp at hg;exact ah hg
  ·rcases yo (qn u w i j) A (by simpa using n) (by simpa using o) k g hg with h|⟨g2,h,e⟩|h
   ·exact ah h
   ·exact ac (ah ⟨g2,(eR _ _ _ _).2 ⟨i,j,h⟩,e⟩)
   ·exact ac (ac ⟨[k],by simp,Ft k,by simp[lQ,h]⟩)
  ·exact ac (ac ⟨d++[k],by simp,Bf k C,(eR _ _ _ _).2 ⟨g0,t,hg⟩⟩)
theorem jn.row{x y:Tr}(u:x.ok)(A:y.ok){w:List Nat}{V i:List Tr}(h:jn x w V)(o:jn y w i):jn (row x y) w (V.map (fun g=>Tr.row g y)++i):=by
 intro v h1 n g hg;rcases FR u A v g hg with e|⟨j,q,rfl⟩|⟨E,B,C,t⟩
 ·exact ah e
 ·rcases h v h1 n j q with rfl|d
  ·exact ah rfl
  ·exact ac (gi _ (aN.2 ⟨j,d,rfl⟩))
 ·rcases o E B (C.trans n) g t with e|d
  ·exact ah e
  ·exact ac (h5 _ d)
theorem BY{p q:Tr}:(Tr.s p q).one:=⟨rfl,rfl⟩
theorem Kd{x:Tr}(n:(Tr.m x).ok)(v:List Nat):v≠[]->∀g∈(Tr.m x).lQ v,g=.z\/∃d i,d≠[]/\d <:+ v/\(i=x.cE d\/i∈x.lQ d)/\g=row i (.m x):=by
 have first:∀(w:List Nat) (k:Nat) (g:Tr),g∈(Tr.m x).fI k->∃d i,d≠[]/\d <:+ w++[k]/\(i=x.cE d\/i∈x.lQ d)/\g=row i (.m x):=by
  intro w k g hg;simp[fI,dt]at hg;exact⟨[k],x.dt k,by simp,Ft k,ah rfl,hg⟩
 induction v using tz with
 | h0=>intro h;exact absurd rfl h
 | h1 w k B =>
 intro _ g hg;obtain⟨g0,o,hg⟩:=(eR _ _ _ _).1 hg
 by_cases y:w=[]
 ·subst y;simp[lQ]at o;subst o;exact ac (first [] k g hg)
 rcases B y g0 o with rfl|⟨d,i,E,C,j,rfl⟩
 ·rw[pg]at hg;simp at hg;exact ah hg
 ·have A:i.ok:=by rcases j with rfl|j
                  ·exact ef n.1 d
                  ·exact qn n.1 d i j
  rcases yo A n rfl rfl k g hg with h|⟨g2,h,e⟩|h
  ·exact ah h
  ·right;have t:i∈x.lQ d->g2∈x.lQ (d++[k]):=fun j=>(eR _ _ _ _).2 ⟨i,j,h⟩
   refine⟨d++[k],g2,by simp,Bf k C,?_,e⟩;rcases j with j|j
   ·by_cases u:i.AY=true
    ·obtain⟨p,q,e⟩:=qz u;refine ac (t ?_);rw[j];apply ny n.1;rw[<- j,e];exact BY
    ·rw[zB (by simpa using u)]at h;simp at h;left;rw[h,j,m9]
   ·exact ac (t j)
  ·exact ac (first w k g h)
theorem jn.m{x:Tr}(y:(Tr.m x).ok){w:List Nat}{V:List Tr}(h:jn x w V)(u:GA x w V):jn (.m x) w (V.map (fun g=>Tr.row g (.m x))):=by
 intro v h1 j g hg;rcases Kd y v h1 g hg with e|⟨q,d,n,o,i,rfl⟩
 ·exact ah e
 ·have:d=.z\/d∈V:=by
   rcases i with rfl|i
   ·exact u q n (o.trans j)
   ·exact h q n (o.trans j) d i
  rcases this with rfl|t
  ·exact ah rfl
  ·exact ac (aN.2 ⟨d,t,rfl⟩)
theorem fZ{x y:Tr}(h:x.ok)(i:y.ok)(w:List Nat)(u:Tr):u∈((either x y).cE w).alts↔u∈(x.cE w).alts\/u∈(y.cE w).alts:=by
 have g:=bg h i;rw[dr g.1,dr h,dr i];constructor
 ·rintro⟨v,d,hu⟩;rcases(g.2 v).1 d with k|k
  ·exact ah ⟨v,k,hu⟩
  ·exact ac ⟨v,k,hu⟩
 ·rintro(⟨v,d,hu⟩|⟨v,d,hu⟩)
  ·exact⟨v,(g.2 v).2 (ah d),hu⟩
  ·exact⟨v,(g.2 v).2 (ac d),hu⟩
theorem iF{t u:Tr}(h:u∈t.alts):t.cM=false:=by cases t<;>first|rfl|simp[alts]at h
theorem D5{x y:Tr}(i:x.ok)(j:y.ok)(v:List Nat):∀g∈(either x y).lQ v,g=.z\/g=(either x y).cE v\/g∈x.lQ v\/g∈y.lQ v:=by
 have t:=(bg i j).1
 induction v using tz with
 | h0=>intro g hg;simp[lQ]at hg;exact ac (ah hg)
 | h1 w k E =>
  intro g hg;obtain⟨g0,B,hg⟩:=(eR _ _ _ _).1 hg;rcases E g0 B with rfl|h|h|h
  ·rw[pg]at hg;simp at hg;exact ah hg
  ·by_cases A:g0.AY=true
   ·obtain⟨p,q,e⟩:=qz A;have h1:((either x y).cE w).one:=by rw[<- h,e];exact BY
    have C:(either x y).cE w∈((either x y).cE w).alts:=by rw[c7 h1];simp
    have o:∀u,u∈(x.cE w).alts\/u∈(y.cE w).alts->u=(either x y).cE w:=by
     intro u hu;have:=(fZ i j w u).2 hu;rw[c7 h1]at this;simpa using this
    rcases(fZ i j w _).1 C with n|n
    ·have d:x.cE w=(either x y).cE w:=ru (ef t w) (ef i w) h1 (fun u hu=>o u (ah hu)) (iF n);refine ac (ac (ah ((eR _ _ _ _).2 ⟨g0,?_,hg⟩)));rw[h,<- d];apply ny i;rw[d];exact h1
    ·have d:y.cE w=(either x y).cE w:=ru (ef t w) (ef j w) h1 (fun u hu=>o u (ac hu)) (iF n);refine ac (ac (ac ((eR _ _ _ _).2 ⟨g0,?_,hg⟩)));rw[h,<- d];apply ny j;rw[d];exact h1
   ·rw[zB (by simpa using A)]at hg;simp at hg;right;left;rw[hg,h,m9]
  ·exact ac (ac (ah ((eR _ _ _ _).2 ⟨g0,h,hg⟩)))
  ·exact ac (ac (ac ((eR _ _ _ _).2 ⟨g0,h,hg⟩)))
theorem jn.either{x y:Tr}(n:x.ok)(o:y.ok){w:List Nat}{V:List Tr}(h:jn x w V)(i:jn y w V)(j:GA (either x y) w V):jn (either x y) w V:=by
 intro v h1 d g hg;rcases D5 n o v g hg with e|rfl|k|k
 ·exact ah e
 ·exact j v h1 d
 ·exact h v h1 d g k
 ·exact i v h1 d g k
theorem pq(v:List Nat)(h:v≠[]):∀g∈Tr.e.lQ v,g=.z:=by
 intro g hg;cases v with
 | nil=>exact absurd rfl h
 | cons k v=>simp[lQ,fI,dt]at hg;exact FQ v g hg
theorem QR(n:Nat)(v:List Nat)(h:v≠[]):∀g∈(Tr.c n).lQ v,g=.z\/g=.e:=by
 intro g hg;cases v with
 | nil=>exact absurd rfl h
 | cons k v =>
  simp only[lQ,fI,dt,List.flatMap_cons,List.flatMap_nil,mg]at hg;split at hg
  ·cases v with
   | nil=>simp[lQ]at hg;exact ac hg
   | cons j v=>exact ah (pq _ (by simp) g hg)
  ·exact ah (FQ v g hg)
def wt(t:Tr):Nat:=t.fm.length
def sz(l:List Tr):Nat:=(l.map fun x=>x.wt+1).sum
theorem cP(x:Tr)(l:List Tr):sz (x::l)=x.wt+1+sz l:=by simp[sz]
theorem gR(l l':List Tr):sz (l++l')=sz l+sz l':=by simp[sz]
theorem Du(p q:Tr):(Tr.s p q).wt=p.wt+q.wt+2:=by simp[wt,fm,gM];omega
theorem GG(p:Tr):(Tr.m p).wt=p.wt+2:=by simp[wt,fm,gM]
theorem MR:Tr.z.wt=1:=rfl
theorem OV:Tr.e.wt=1:=rfl
theorem vq(t:Tr):1<=t.wt:=by
 obtain⟨c,l,h,_⟩:=NT t;simp[wt,h]
theorem p3(x y:Tr):(row x y).wt<=x.wt+y.wt+2:=by
 induction x generalizing y with
 | z=>have:=vq y;simp only[row,MR];omega
 | e=>simp only[row];omega
 | s p q g h =>
  by_cases h1:y.cM=true
  ·rw[ee h1,h8,MR];omega
  ·by_cases d:y.cX=true
   ·rw[cp d,dN];omega
   ·rw[lp (by simpa using h1) (by simpa using d),Du];have:=g (row q y);have:=h y;omega
 | _ =>
  by_cases h1:y.cM=true
  ·rw[ee h1,h8,MR];omega
  ·by_cases d:y.cX=true
   ·rw[cp d,dN];omega
   ·rw[hM (by simpa using h1) (by simpa using d) rfl rfl rfl,Du];omega
theorem wz{q:Tr}(d:q.ok)(h:q.cM=false):(q.gM true).length=sz q.alts:=by
 induction q with
 | z=>simp[cM]at h
 | a p q i g =>
  simp only[gM,de,alts,cP,bT,aF,g d.2.1 d.2.2.2.1];simp only[wt,fm];omega
 | _=>simp[gM,alts,sz,wt,fm]
theorem fH{t:Tr}(h:t.ok):t.wt<=sz t.alts+2/\sz t.alts<=t.wt+1:=by
 cases t with
 | z=>exact⟨by decide,by decide⟩
 | a p q =>
  have:=wz h.2.1 h.2.2.2.1;have e:(Tr.a p q).wt=p.wt+(q.gM true).length+3:=by simp[wt,fm,gM];omega
  simp only[alts,cP];omega
 | _=>simp[alts,sz];omega
theorem yd{l l':List Tr}(d:l.Nodup)(g:∀x∈l,x∈l'):sz l<=sz l':=by
 induction l generalizing l' with
 | nil=>simp[sz]
 | cons x l i =>
  obtain⟨a,b,rfl⟩:=List.append_of_mem (g x (aU ..));have:=i (l':=a++b) (mh.1 d).2 (fun y h=>by
   have h1:=g y (b6 _ h);rw[aR,aT]at h1;rw[aR];rcases h1 with k|rfl|k
   ·exact ah k
   ·exact absurd h (mh.1 d).1
   ·exact ac k)
  rw[cP,gR,cP];rw[gR]at this;omega
theorem Fs(V:List Tr)(h:∀g∈V,g.ok):sz (V.flatMap alts)<=sz V:=by
 induction V with
 | nil=>simp[sz]
 | cons g V i =>
  rw[List.flatMap_cons,gR,cP];have:=i (fun x d=>h x (b6 _ d));have:=(fH (h g (aU ..))).2;omega
theorem jn.flat{t:Tr}(j:t.ok){w:List Nat}{V:List Tr}(h:jn t w V){v:List Nat}(h1:v≠[])(d:v <:+ w):∀u∈(t.cE v).alts,u∈V.flatMap alts:=by
 intro u hu;obtain⟨g,hg,hu⟩:=(kb j v u).1 hu;rcases h v h1 d g hg with rfl|i
 ·simp[alts]at hu
 ·exact g9.2 ⟨g,i,hu⟩
theorem jn.wt{t:Tr}(d:t.ok){w:List Nat}{V:List Tr}(h:jn t w V)(j:∀g∈V,g.ok){v:List Nat}(h1:v≠[])(i:v <:+ w):(t.cE v).wt<=sz V+2:=by
 have:=(fH (ef d v)).1;have:=yd (ef d v).kz.nodup (h.flat d h1 i);have:=Fs V j;omega
theorem p7(V:List Tr)(y:Tr):sz (V.map fun g=>row g y)<=sz V+V.length*(y.wt+2):=by
 induction V with
 | nil=>simp[sz]
 | cons g V d =>
  rw[bS,cP,cP,bT,Nat.add_mul];have:=p3 g y;omega
def lj:List Tr->List (List Tr)
 | []=>[[]]
 | x::l=>lj l++(lj l).map (x::·)
theorem vF(l:List Tr):(lj l).length=2^l.length:=by
 induction l with
 | nil=>rfl
 | cons x l d=>simp[lj,d];omega
theorem Jq(l:List Tr):((lj l).map sz).sum*2=2^l.length*sz l:=by
 induction l with
 | nil=>simp[lj,sz]
 | cons x l g =>
  have h:∀L:List (List Tr),((L.map (x::·)).map sz).sum=(L.map sz).sum+L.length*(x.wt+1):=by
   intro L
   induction L with
   | nil=>simp
   | cons a L g=>simp only[bS,dC,g,cP,bT,Nat.add_mul];omega
  simp only[lj,c9,List.sum_append,h,vF,bT,cP];have:2^(l.length+1)=2*2^l.length:=by rw[Nat.pow_succ];omega
  rw[this];generalize 2^l.length=b at *;have e:2*b*(x.wt+1+sz l)=2*(b*(x.wt+1))+2*(b*sz l):=by rw[k7,Nat.mul_assoc,Nat.mul_assoc]
  rw[e,<- g];generalize b*(x.wt+1)=d;omega
theorem CH(f:Tr->Bool)(l:List Tr):l.filter f∈lj l:=by
 induction l with
 | nil=>simp[lj]
 | cons x l d =>
  simp only[lj,List.filter_cons];split
  ·exact h5 _ (aN.2 ⟨_,d,rfl⟩)
  ·exact gi _ d
def Is(l:List Tr):Tr:=Ef (l.foldl among [])
theorem xh{l:List Tr}(h:∀x∈l,x.ok/\x.one):(Is l).ok/\∀u,u∈(Is l).alts↔u∈l:=by
 have h1:=iK (l:=[]) ⟨List.Pairwise.nil,by simp⟩ h;have d:=tD h1.1;exact⟨d.1,fun u=>by unfold Is;rw[d.2,h1.2];simp⟩
theorem LZ{l:List Tr}(h:∀x∈l,x.ok/\x.one):(Is l).wt<=sz l+2:=by
 have h1:=xh h;have:=(fH h1.1).1;have:=yd h1.1.kz.nodup (fun x d=>(h1.2 x).1 d);omega
theorem PX{F:List Tr}(hF:∀x∈F,x.ok/\x.one){t:Tr}(d:t.ok)(h:∀u∈t.alts,u∈F):∃l∈lj F,t=Is l:=by
 have:∀x,Decidable (x∈t.alts):=fun x=>Classical.propDecidable _
 refine⟨F.filter (fun x=>decide (x∈t.alts)),CH _ _,?_⟩;have h1:∀x∈F.filter (fun x=>decide (x∈t.alts)),x.ok/\x.one:=fun x g=>hF x (eF.1 g).1
 refine ext d (xh h1).1 fun u=>?_
 rw[(xh h1).2,eF];exact⟨fun hu=>⟨h u hu,by simpa using hu⟩,fun hu=>by simpa using hu.2⟩
theorem Ek(F:List Tr)(hF:∀x∈F,x.ok/\x.one):sz ((lj F).map Is)*2<=2^F.length*(sz F+6):=by
 have o:∀(l:List Tr),∀m∈lj l,∀x∈m,x∈l:=by
  intro l
  induction l with
  | nil=>intro m g x d;simp[lj]at g;subst g;cases d
  | cons y l i =>
   intro m g x d;rcases aR.1 g with k|k
   ·exact b6 _ (i m k x d)
   ·obtain⟨q,n,rfl⟩:=aN.1 k;rcases aT.1 d with rfl|d
    ·exact aU ..
    ·exact b6 _ (i q n x d)
 have:∀L:List (List Tr),(∀m∈L,∀x∈m,x.ok/\x.one)->sz (L.map Is)<=(L.map sz).sum+3*L.length:=by
  intro L
  induction L with
  | nil=>intro _;simp[sz]
  | cons m L i =>
   intro h;have h1:=LZ (h m (aU ..));have j:=i (fun x d=>h x (b6 _ d));simp only[bS,cP,dC,bT];omega
 have h1:=this (lj F) (fun m g x d=>hF x (o F m g x d));have j:=Jq F;rw[vF]at h1;rw[k7,<- j];omega
def hc:Tr->Prop
 | .a p q=>q.alts.length+1<=10000000/\p.hc/\q.hc
 | .s p q=>p.hc/\q.hc
 | .m p=>p.hc
 | .z|.e|.c _=>True
theorem hc.alts{t:Tr}(h:t.hc):∀u∈t.alts,u.hc:=by
 induction t with
 | a p q g d =>
  intro u hu;rcases aT.1 hu with rfl|hu
  ·exact h.2.1
  ·exact d h.2.2 u hu
 | z=>intro u hu;cases hu
 | _=>intro u hu;simp[Tr.alts]at hu;subst hu;exact h
theorem hc.len{t:Tr}(h:t.hc):t.alts.length<=10000000:=by
 cases t with
 | a p q=>exact h.1
 | _=>simp[Tr.alts]
theorem Le{t:Tr}(h:∀u∈t.alts,u.hc)(d:t.alts.length<=10000000):t.hc:=by
 induction t with
 | a p q j i =>
  have g:q.alts.length+1<=10000000:=d;exact⟨g,h p (aU ..),i (fun u hu=>h u (b6 _ hu)) (by omega)⟩
 | z=>trivial
 | _=>exact h _ (by simp[Tr.alts])
theorem k2{x y:Tr}(g:x.hc)(h:y.hc):(row x y).hc:=by
 induction x generalizing y with
 | z=>trivial
 | e=>exact h
 | s p q i j =>
  by_cases h1:y.cM=true
  ·rw[ee h1,h8];trivial
  ·by_cases d:y.cX=true
   ·rw[cp d,dN];exact g
   ·rw[lp (by simpa using h1) (by simpa using d)];exact i g.1 (j g.2 h)
 | _ =>
  by_cases h1:y.cM=true
  ·rw[ee h1,h8];trivial
  ·by_cases d:y.cX=true
   ·rw[cp d,dN];exact g
   ·rw[hM (by simpa using h1) (by simpa using d) rfl rfl rfl];exact⟨g,h⟩
theorem z7{l l':List Tr}(d:l.Nodup)(g:∀x∈l,x∈l'):l.length<=l'.length:=by
 induction l generalizing l' with
 | nil=>simp
 | cons x l i =>
  obtain⟨a,b,rfl⟩:=List.append_of_mem (g x (aU ..));have:=i (l':=a++b) (mh.1 d).2 (fun y h=>by
   have h1:=g y (b6 _ h);rw[aR,aT]at h1;rw[aR];rcases h1 with k|rfl|k
   ·exact ah k
   ·exact absurd h (mh.1 d).1
   ·exact ac k)
  simp at this ⊢;omega
theorem Gb{t:Tr}(g:t.ok){F:List Tr}(hF:∀x∈F,x.hc)(d:F.length<=10000000)(h:∀u∈t.alts,u∈F):t.hc :=
 Le (fun u hu=>hF u (h u hu)) (aE (z7 g.kz.nodup h) d)
end Tr
namespace Tr
inductive Sg where|no|st|pl|op
def Sg.runs:Sg->Bool|.st|.pl=>true|_=>false
def sg:Sg->Tr->Tr
 | .no,t=>t
 | .st,t=>many t
 | .pl,t=>row t (many t)
 | .op,t=>either t .e
def pt(x:Nat×Sg):Tr:=sg x.2 (.c x.1)
def tl(x:Nat×Sg):Tr:=if x.2.runs=true then .m (.c x.1)else .e
def has(n:Nat)(v:List Nat):Prop:=∀k∈v,n.testBit k=true
def run(x:Nat×Sg)(v:List Nat):Prop:=v≠[]/\has x.1 v/\(x.2.runs=true\/v.length=1)
def lx(x:Nat×Sg)(u:List Nat):Prop:=has x.1 u/\(match x.2 with|.no=>u.length=1|.op=>u.length<=1|.st=>True|.pl=>1<=u.length)
theorem gD{n k:Nat}{v:List Nat}:has n (k::v)↔n.testBit k=true/\has n v:=by simp[has]
theorem Gc{n:Nat}:has n []:=by simp[has]
theorem EU{n:Nat}(h:n<256):(Tr.c n).ok:=h
theorem xV{n:Nat}(h:n<256):(Tr.m (.c n)).ok:=⟨h,rfl,rfl,rfl⟩
theorem BX(n:Nat)(h:n<256):either (.c n) .e=.a .e (.c n):=by
 have h1:=bg (EU h) (show Tr.e.ok from trivial);refine ext h1.1 ⟨trivial,h,⟨rfl,rfl⟩,rfl,?_⟩ fun u=>?_
 ·intro u hu;simp[alts]at hu;subst hu;simp[fm,gM,xW,Op.bytesLess]
 ·rw[h1.2];simp[alts];exact Or.comm
theorem lq{x:Nat×Sg}(h:x.1<256):(pt x).ok/\(pt x).cM=false/\(pt x).cX=false/\(pt x).wt<=14:=by
 have hi:(h9 x.1).length<=3:=by unfold h9;split<;>(try split)<;>simp
 obtain⟨n,s⟩:=x;have hi:(h9 n).length<=3:=hi;cases s with
 | no=>exact⟨h,rfl,rfl,by simp[pt,sg,wt,fm,gM];omega⟩
 | st=>exact⟨xV h,rfl,rfl,by simp[pt,sg,many,wt,fm,gM];omega⟩
 | pl=>exact⟨⟨h,xV h,rfl,rfl,rfl,rfl,rfl⟩,rfl,rfl,by simp[pt,sg,many,row,wt,fm,gM];omega⟩
 | op =>
  have e:pt (n,.op)=.a .e (.c n):=BX n h;rw[e];refine⟨⟨trivial,h,⟨rfl,rfl⟩,rfl,?_⟩,rfl,rfl,by simp[wt,fm,gM];omega⟩;intro u hu;simp[alts]at hu;subst hu;simp[fm,gM,xW,Op.bytesLess]
theorem A7{x:Nat×Sg}(h:x.1<256):(tl x).ok/\(tl x).cM=false/\(tl x).wt<=7:=by
 have hi:(h9 x.1).length<=3:=by unfold h9;split<;>(try split)<;>simp
 unfold tl;split
 ·exact⟨xV h,rfl,by simp[wt,fm,gM];omega⟩
 ·exact⟨trivial,rfl,by simp[wt,fm,gM]⟩
theorem CV{n:Nat}(B:n<256){R:Tr}(q:R.ok)(C:R.cM=false)(u:Tr):∀v,u∈((row (.m (.c n)) R).cE v).alts↔(has n v/\u∈(row (.m (.c n)) R).alts)\/∃u0 o,v=u0++o/\o≠[]/\has n u0/\u∈(R.cE o).alts:=by
 have t:=(bZ (xV B) q).1;have step:∀k u,u∈((row (.m (.c n)) R).dt k).alts↔(n.testBit k=true/\u∈(row (.m (.c n)) R).alts)\/u∈(R.dt k).alts:=by
  intro k u
  by_cases w:R.cX=true
  ·rw[cp w,dN];show u∈(row (if n.testBit k=true then .e else .z) (.m (.c n))).alts↔_;split
   ·rename_i h;simp[row,dt,alts,h]
   ·rename_i h;simp[row,dt,alts,h]
  ·rw[hM C (by simpa using w) rfl rfl rfl];show u∈(either (row (row (if n.testBit k=true then .e else .z) (.m (.c n))) R) (R.dt k)).alts↔_;rw[(bg (bZ (bZ (by split<;>trivial) (xV B)).1 q).1 (cj q k)).2];split
   ·rename_i h;rw[show row (.e) (.m (.c n))=.m (.c n) from rfl,hM C (by simpa using w) rfl rfl rfl];simp[h]
   ·rename_i h;simp[row,alts,h]
 intro v
 induction v with
 | nil=>simp[cE,has]
 | cons k v y =>
  show u∈(((row (.m (.c n)) R).dt k).cE v).alts↔_;rw[dr (cj t k)];constructor
  ·rintro⟨x,d,hu⟩;rcases(step k x).1 d with⟨A,d⟩|d
   ·rcases y.1 ((dr t v u).2 ⟨x,d,hu⟩)with⟨h1,g⟩|⟨u0,o,rfl,h1,g,i⟩
    ·exact ah ⟨gD.2 ⟨A,h1⟩,g⟩
    ·exact ac ⟨k::u0,o,rfl,h1,gD.2 ⟨A,g⟩,i⟩
   ·refine ac ⟨[],k::v,rfl,by simp,Gc,?_⟩;show u∈((R.dt k).cE v).alts;rw[dr (cj q k)];exact⟨x,d,hu⟩
  ·rintro(⟨h1,g⟩|⟨u0,o,e,h1,g,i⟩)
   ·rw[gD]at h1;obtain⟨x,d,hu⟩:=(dr t v u).1 (y.2 (ah ⟨h1.2,g⟩));exact⟨x,(step k x).2 (ah ⟨h1.1,d⟩),hu⟩
   ·cases u0 with
    | nil =>
     simp at e;subst e;have i:u∈((R.dt k).cE v).alts:=i;rw[dr (cj q k)]at i;obtain⟨x,d,hu⟩:=i;exact⟨x,(step k x).2 (ac d),hu⟩
    | cons j u0 =>
     simp at e;obtain⟨rfl,rfl⟩:=e;rw[gD]at g;obtain⟨x,d,hu⟩:=(dr t _ u).1 (y.2 (ac ⟨u0,o,rfl,h1,g.2,i⟩));exact⟨x,(step k x).2 (ah ⟨g.1,d⟩),hu⟩
theorem w9{n:Nat}{R:Tr}(g:R.cM=false)(u:Tr)(k:Nat)(v:List Nat):u∈((row (.c n) R).cE (k::v)).alts↔n.testBit k=true/\u∈(R.cE v).alts:=by
 have e:(row (.c n) R).dt k=if n.testBit k=true then R else .z:=by
  by_cases d:R.cX=true
  ·rw[cp d,dN];rfl
  ·rw[hM g (by simpa using d) rfl rfl rfl];show (if (Tr.c n).hU=true then either (row (if n.testBit k=true then .e else .z) R) (R.dt k)else row (if n.testBit k=true then .e else .z) R)=_;rw[ae (by simp[hU])];split<;>rfl
 show u∈(((row (.c n) R).dt k).cE v).alts↔_;rw[e];split
 ·rename_i h;simp[h]
 ·rename_i h;rw[Gl];simp[alts,h]
theorem PN{x:Nat×Sg}(w:x.1<256){R:Tr}(i:R.ok)(A:R.cM=false)(u:Tr)(v:List Nat)(B:v≠[]):u∈((row (pt x) R).cE v).alts↔(run x v/\u∈(row (tl x) R).alts)\/∃u0 t,v=u0++t/\t≠[]/\lx x u0/\u∈(R.cE t).alts:=by
 obtain⟨n,s⟩:=x;cases s with
 | st =>
  show u∈((row (.m (.c n)) R).cE v).alts↔_;rw[CV w i A];simp[run,lx,tl,Sg.runs,B]
 | no =>
  cases v with
  | nil=>exact absurd rfl B
  | cons k v =>
   show u∈((row (.c n) R).cE (k::v)).alts↔_;rw[w9 A];constructor
   ·rintro⟨h1,d⟩;cases v with
    | nil=>exact ah ⟨⟨by simp,by simp[has,h1],ac rfl⟩,d⟩
    | cons j v=>exact ac ⟨[k],j::v,rfl,by simp,⟨by simp[has,h1],rfl⟩,d⟩
   ·rintro(⟨⟨_,h1,d⟩,g⟩|⟨u0,t,e,h1,⟨d,g⟩,o⟩)
    ·rcases d with d|d
     ·simp[Sg.runs]at d
     ·simp at d;subst d;exact⟨h1 k (by simp),g⟩
    ·match u0,g with
     | [j],_=>simp at e;obtain⟨rfl,rfl⟩:=e;exact⟨d k (by simp),o⟩
 | pl =>
  cases v with
  | nil=>exact absurd rfl B
  | cons k v =>
   have e:row (pt (n,.pl)) R=row (.c n) (row (.m (.c n)) R):=nJ (EU w) (xV w) i;rw[e];have C:=bZ (xV w) i;rw[w9 (C.2 rfl A).1,CV w i A];constructor
   ·rintro⟨h1,⟨d,g⟩|⟨u0,t,rfl,d,g,o⟩⟩
    ·exact ah ⟨⟨by simp,gD.2 ⟨h1,d⟩,ah rfl⟩,g⟩
    ·exact ac ⟨k::u0,t,rfl,d,⟨gD.2 ⟨h1,g⟩,by simp⟩,o⟩
   ·rintro(⟨⟨_,h1,_⟩,g⟩|⟨u0,t,e,h1,⟨d,g⟩,o⟩)
    ·exact⟨(gD.1 h1).1,ah ⟨(gD.1 h1).2,g⟩⟩
    ·cases u0 with
     | nil=>simp at g
     | cons j u0 =>
      simp at e;obtain⟨rfl,rfl⟩:=e;exact⟨(gD.1 d).1,ac ⟨u0,t,rfl,h1,(gD.1 d).2,o⟩⟩
 | op =>
  cases v with
  | nil=>exact absurd rfl B
  | cons k v =>
   have e:pt (n,.op)=.a .e (.c n):=BX n w;have step:∀u,u∈((row (pt (n,.op)) R).dt k).alts↔(n.testBit k=true/\u∈R.alts)\/u∈(R.dt k).alts:=by
    intro u;rw[e];have E:(Tr.a .e (.c n)).dt k=if n.testBit k=true then .e else .z:=by
     show either .z (if n.testBit k=true then .e else .z)=_;split<;>rfl
    by_cases F:R.cX=true
    ·rw[cp F,dN,E];split
     ·rename_i h;simp[h,dt,alts]
     ·rename_i h;simp[h,dt,alts]
    ·rw[hM A (by simpa using F) rfl rfl rfl];show u∈(if (Tr.a .e (.c n)).hU=true then either (row ((Tr.a .e (.c n)).dt k) R) (R.dt k)else row ((Tr.a .e (.c n)).dt k) R).alts↔_;rw[ag (show (Tr.a .e (.c n)).hU=true from rfl),E,(bg (bZ (by split<;>trivial) i).1 (cj i k)).2];split
     ·rename_i h;simp[h,row]
     ·rename_i h;simp[h,row,alts]
   have C:=(bZ (lq (x:=(n,.op)) w).1 i).1;show u∈(((row (pt (n,.op)) R).dt k).cE v).alts↔_;rw[dr (cj C k)];constructor
   ·rintro⟨y,q,hu⟩;rcases(step y).1 q with⟨h1,q⟩|q
    ·have hu:=(dr i v u).2 ⟨y,q,hu⟩;cases v with
     | nil=>exact ah ⟨⟨by simp,by simp[has,h1],ac rfl⟩,hu⟩
     | cons j v=>exact ac ⟨[k],j::v,rfl,by simp,⟨by simp[has,h1],by simp⟩,hu⟩
    ·refine ac ⟨[],k::v,rfl,by simp,⟨Gc,by simp⟩,?_⟩;show u∈((R.dt k).cE v).alts;rw[dr (cj i k)];exact⟨y,q,hu⟩
   ·rintro(⟨⟨_,h1,d⟩,g⟩|⟨u0,t,e,h1,⟨d,g⟩,o⟩)
    ·rcases d with d|d
     ·simp[Sg.runs]at d
     ·simp at d;subst d;have g:u∈R.alts:=g;refine⟨u,(step u).2 (ah ⟨h1 k (by simp),g⟩),?_⟩;show u∈u.alts;rw[c7 (i.kz.2 u g).2];simp
    ·match u0,g with
     | [],_ =>
      simp at e;subst e;have o:u∈((R.dt k).cE v).alts:=o;rw[dr (cj i k)]at o;obtain⟨y,q,hu⟩:=o;exact⟨y,(step y).2 (ac q),hu⟩
     | [j],_ =>
      simp at e;obtain⟨rfl,rfl⟩:=e;obtain⟨y,q,hu⟩:=(dr i _ u).1 o;exact⟨y,(step y).2 (ah ⟨d k (by simp),q⟩),hu⟩
     | _::_::_,g=>simp at g
end Tr
namespace Tr
theorem Pk{t:Tr}(A:t.ok){ts:List Tr}(o:∀x∈ts,x.ok)(h:∀v u,u∈(t.cE v).alts↔∃x∈ts,u∈(x.cE v).alts)(v:List Nat):∀g∈t.lQ v,g=.z\/g=t.cE v\/∃x∈ts,g∈x.lQ v:=by
 induction v using tz with
 | h0=>intro g hg;simp[lQ]at hg;exact ac (ah hg)
 | h1 w k B =>
  intro g hg;obtain⟨g0,y,hg⟩:=(eR _ _ _ _).1 hg;rcases B g0 y with rfl|h0|⟨x,d,h0⟩
  ·rw[pg]at hg;simp at hg;exact ah hg
  ·by_cases n:g0.AY=true
   ·obtain⟨p,q,e⟩:=qz n;have h1:(t.cE w).one:=by rw[<- h0,e];exact BY
    have i:t.cE w∈(t.cE w).alts:=by rw[c7 h1];simp
    obtain⟨x,d,i⟩:=(h w _).1 i;have j:x.cE w=t.cE w:=ru (ef A w) (ef (o x d) w) h1 (fun u hu=>by
     have:=(h w u).2 ⟨x,d,hu⟩;rw[c7 h1]at this;simpa using this) (iF i)
    refine ac (ac ⟨x,d,(eR _ _ _ _).2 ⟨g0,?_,hg⟩⟩);rw[h0,<- j];apply ny (o x d);rw[j];exact h1
   ·rw[zB (by simpa using n)]at hg;simp at hg;right;left;rw[hg,h0,m9]
  ·exact ac (ac ⟨x,d,(eR _ _ _ _).2 ⟨g0,h0,hg⟩⟩)
theorem jn.of{t:Tr}(j:t.ok){ts:List Tr}(n:∀x∈ts,x.ok)(h:∀v u,u∈(t.cE v).alts↔∃x∈ts,u∈(x.cE v).alts){w:List Nat}{V:List Tr}(i:∀x∈ts,jn x w V)(o:GA t w V):jn t w V:=by
 intro v h1 d g hg;rcases Pk j n h v g hg with e|rfl|⟨x,q,k⟩
 ·exact ah e
 ·exact o v h1 d
 ·exact i x q v h1 d g k
theorem Dy{t:Tr}(g:t.ok){w:List Nat}{x:Tr}(i:x.ok)(h1:x.one)(h:∀v,v≠[]->v <:+ w->∀u∈(t.cE v).alts,u=x):GA t w [x]:=by
 intro v j n
 by_cases d:(t.cE v).cM=true
 ·exact ah (ee d)
 ·right;rw[ru i (ef g v) h1 (h v j n) (by simpa using d)];simp
theorem F4(n:Nat)(w:List Nat):jn (.c n) w [.e]:=by
 intro v h1 _ g hg;rcases QR n v h1 g hg with e|e
 ·exact ah e
 ·exact ac (by simp[e])
theorem Md{n:Nat}{v:List Nat}(h1:v≠[])(u:Tr)(hu:u∈((Tr.c n).cE v).alts):u=.e:=by
 cases v with
 | nil=>exact absurd rfl h1
 | cons k v =>
  have:=(w9 (n:=n) (R:=.e) rfl u k v).1 (by rw[dN];exact hu);cases v with
  | nil=>simpa[cE,alts]using this.2
  | cons j v =>
   have d:=this.2;have e:Tr.e.cE (j::v)=.z:=Gl v;rw[e]at d;simp[alts]at d
theorem Gm{v:List Nat}(h:v≠[]):Tr.e.cE v=.z:=by
 cases v with
 | nil=>exact absurd rfl h
 | cons k v=>exact Gl v
theorem qv{x:Nat×Sg}(d:x.1<256)(w:List Nat):jn (pt x) w [tl x]:=by
 obtain⟨n,s⟩:=x;have o:GA (.c n) w [.e]:=Dy (EU d) (x:=.e) trivial ⟨rfl,rfl⟩ (fun v h1 _ u hu=>Md h1 u hu);have h:jn (.m (.c n)) w [.m (.c n)]:=(F4 n w).m (xV d) o;cases s with
 | no=>exact F4 n w
 | st=>exact h
 | pl =>
  have:=(F4 n w).row (EU d) (xV d) h;refine this.sub ?_;intro y i;simp[row]at i;simp[tl,Sg.runs,i]
 | op =>
  have j:=bg (EU d) (show Tr.e.ok from trivial);refine(F4 n w).either (EU d) (y:=.e) trivial ?_ ?_
  ·intro v h1 _ g hg;exact ah (pq v h1 g hg)
  ·refine Dy j.1 (x:=.e) trivial ⟨rfl,rfl⟩ ?_;intro v h1 _ u hu;rcases(fZ (EU d) (y:=.e) trivial v u).1 hu with k|k
   ·exact Md h1 u k
   ·rw[Gm h1]at k;simp[alts]at k
abbrev ng:=(List Nat->Prop)×Tr
def dF:List (Nat×Sg)->Tr
 | []=>.e
 | x::xs=>row (pt x) (dF xs)
def eL:List (Nat×Sg)->List ng
 | []=>[]
 | x::xs=>(run x,row (tl x) (dF xs))::(eL xs).map fun p=>(fun v=>∃u0 d,v=u0++d/\d≠[]/\lx x u0/\p.1 d,p.2)
def ls(r:List (Nat×Sg)):Prop:=∀x∈r,x.1<256
theorem ls.tail{x:Nat×Sg}{r:List (Nat×Sg)}(h:ls (x::r)):ls r:=fun y d=>h y (b6 _ d)
theorem ls.head{x:Nat×Sg}{r:List (Nat×Sg)}(h:ls (x::r)):x.1<256:=h x (aU ..)
theorem dJ{r:List (Nat×Sg)}(h:ls r):(dF r).ok/\(dF r).cM=false/\(dF r).wt+2<=16*r.length+3/\(r≠[]->(dF r).wt+2<=16*r.length):=by
 induction r with
 | nil=>exact⟨trivial,rfl,by decide,fun h=>absurd rfl h⟩
 | cons x r q =>
  obtain⟨o,i2,i3,i4⟩:=q h.tail;have g:=lq h.head;have d:=bZ g.1 o;have n:(dF (x::r)).wt+2<=16*(x::r).length:=by
   have:=p3 (pt x) (dF r);have e:dF (x::r)=row (pt x) (dF r):=rfl
   by_cases i:r=[]
   ·subst i;have j:dF [x]=pt x:=dN _;rw[j];simp;omega
   ·have:=i4 i;rw[e];simp only[bT];omega
  exact⟨d.1,(d.2 g.2.1 i2).1,by omega,fun _=>n⟩
theorem Nu{r:List (Nat×Sg)}(h:ls r):∀p∈eL r,p.2.ok/\p.2.cM=false:=by
 induction r with
 | nil=>intro p d;cases d
 | cons x r n =>
  intro p d;rcases aT.1 d with rfl|d
  ·have i:=A7 h.head;have g:=dJ h.tail;have:=bZ i.1 g.1;exact⟨this.1,(this.2 i.2.1 g.2.1).1⟩
  ·obtain⟨q,j,rfl⟩:=aN.1 d;exact n h.tail q j
theorem CW{r:List (Nat×Sg)}(h:ls r)(v:List Nat)(t:v≠[])(u:Tr):u∈((dF r).cE v).alts↔∃p∈eL r,p.1 v/\u∈p.2.alts:=by
 induction r generalizing v with
 | nil=>show u∈(Tr.e.cE v).alts↔_;rw[Gm t];simp[alts,eL]
 | cons x r w =>
  have o:=dJ h.tail;show u∈((row (pt x) (dF r)).cE v).alts↔_;rw[PN h.head o.1 o.2.1 u v t];simp only[eL,aT,exists_eq_or_imp,aN];constructor
  ·rintro(k|⟨u0,d,e,h1,g,y⟩)
   ·exact ah k
   ·obtain⟨p,n,i,j⟩:=(w h.tail d h1).1 y;exact ac ⟨_,⟨p,n,rfl⟩,⟨u0,d,e,h1,g,i⟩,j⟩
  ·rintro(k|⟨q,⟨p,n,rfl⟩,⟨u0,d,e,h1,g,i⟩,j⟩)
   ·exact ah k
   ·exact ac ⟨u0,d,e,h1,g,(w h.tail d h1).2 ⟨p,n,i,j⟩⟩
theorem KS{r:List (Nat×Sg)}(h:ls r)(w:List Nat):jn (dF r) w ((eL r).map fun p=>p.2):=by
 induction r with
 | nil=>intro v h1 _ g hg;exact ah (pq v h1 g hg)
 | cons x r n =>
  have i:=dJ h.tail;have:=(qv h.head w).row (lq h.head).1 i.1 (n h.tail);refine this.sub ?_;intro y j;simp only[eL,bS,aT,List.map_map];rcases aR.1 j with k|k
  ·simp at k;exact ah k
  ·obtain⟨p,d,rfl⟩:=aN.1 k;exact ac (aN.2 ⟨p,d,rfl⟩)
def iy:List (List (Nat×Sg))->Tr
 | []=>.z
 | r::rs=>either (dF r) (iy rs)
def cd(rs:List (List (Nat×Sg))):List ng:=rs.flatMap eL
def ik(rs:List (List (Nat×Sg))):Prop:=∀r∈rs,ls r/\r≠[]
theorem ik.tail{r:List (Nat×Sg)}{rs:List (List (Nat×Sg))}(h:ik (r::rs)):ik rs:=fun y d=>h y (b6 _ d)
theorem gy{rs:List (List (Nat×Sg))}(h:ik rs):(iy rs).ok:=by
 induction rs with
 | nil=>trivial
 | cons r rs d=>exact(bg (dJ (h r (aU ..)).1).1 (d h.tail)).1
theorem lz{rs:List (List (Nat×Sg))}(h:ik rs)(v:List Nat)(u:Tr):u∈((iy rs).cE v).alts↔∃x∈rs.map dF,u∈(x.cE v).alts:=by
 induction rs with
 | nil=>show u∈(Tr.z.cE v).alts↔_;rw[Gl];simp[alts]
 | cons r rs d =>
  show u∈((either (dF r) (iy rs)).cE v).alts↔_;rw[fZ (dJ (h r (aU ..)).1).1 (gy h.tail),d h.tail];simp
theorem Gn{rs:List (List (Nat×Sg))}(h:ik rs)(v:List Nat)(i:v≠[])(u:Tr):u∈((iy rs).cE v).alts↔∃p∈cd rs,p.1 v/\u∈p.2.alts:=by
 rw[lz h];simp only[aN,cd,g9];constructor
 ·rintro⟨x,⟨r,d,rfl⟩,hu⟩;obtain⟨p,g,k⟩:=(CW (h r d).1 v i u).1 hu;exact⟨p,⟨r,d,g⟩,k⟩
 ·rintro⟨p,⟨r,d,g⟩,k⟩;exact⟨_,⟨r,d,rfl⟩,(CW (h r d).1 v i u).2 ⟨p,g,k⟩⟩
theorem pm{rs:List (List (Nat×Sg))}(h:ik rs):∀p∈cd rs,p.2.ok/\p.2.cM=false:=by
 intro p d;obtain⟨r,g,d⟩:=g9.1 d;exact Nu (h r g).1 p d
def D(S:List ng):Tr:=Is (S.flatMap fun p=>p.2.alts)
theorem GD{S:List ng}(h:∀p∈S,p.2.ok):∀x∈S.flatMap (fun p=>p.2.alts),x.ok/\x.one:=by
 intro x d;obtain⟨p,g,d⟩:=g9.1 d;exact(h p g).kz.2 x d
theorem E7{S:List ng}(h:∀p∈S,p.2.ok):(D S).ok/\∀u,u∈(D S).alts↔∃p∈S,u∈p.2.alts:=by
 have:=xh (GD h);exact⟨this.1,fun u=>by rw[show D S=Is _ from rfl,this.2,g9]⟩
def kE(S:List ng):Nat:=(S.map fun p=>p.2.wt+1).sum
theorem RT{S:List ng}(h:∀p∈S,p.2.ok):(D S).wt<=kE S+2:=by
 have h1:=LZ (GD h);have:sz (S.flatMap fun p=>p.2.alts)<=kE S:=by
  clear h1
  induction S with
  | nil=>simp[sz,kE]
  | cons p S g =>
   have:=g (fun q d=>h q (b6 _ d));have i:=(fH (h p (aU ..))).2;have e:kE (p::S)=p.2.wt+1+kE S:=by simp[kE]
   rw[List.flatMap_cons,gR,e];omega
 show (Is _).wt<=_;omega
theorem OO{rs:List (List (Nat×Sg))}(h:ik rs)(v:List Nat)(n:v≠[])(S:List ng)(hS:∀p,p∈S↔p∈cd rs/\p.1 v):(iy rs).cE v=D S:=by
 have g:∀p∈S,p.2.ok:=fun p j=>(pm h p ((hS p).1 j).1).1
 refine ext (ef (gy h) v) (E7 g).1 fun u=>?_
 rw[Gn h v n,(E7 g).2];constructor
 ·rintro⟨p,h1,i,d⟩;exact⟨p,(hS p).2 ⟨h1,i⟩,d⟩
 ·rintro⟨p,h1,d⟩;exact⟨p,((hS p).1 h1).1,((hS p).1 h1).2,d⟩
theorem Rh{p:ng}(h:p.2.ok):D [p]=p.2:=by
 have h1:∀q∈[p],q.2.ok:=by intro q d;simp at d;subst d;exact h
 refine ext (E7 h1).1 h fun u=>?_
 rw[(E7 h1).2];simp
theorem NH{rs:List (List (Nat×Sg))}(h:ik rs)(w:List Nat)(V:List Tr)(n:GA (iy rs) w V)(i:∀p∈cd rs,p.2∈V):jn (iy rs) w V:=by
 refine jn.of (gy h) (ts:=rs.map dF) ?_ (lz h) ?_ n
 ·intro x g;obtain⟨r,d,rfl⟩:=aN.1 g;exact(dJ (h r d).1).1
 ·intro x g;obtain⟨r,d,rfl⟩:=aN.1 g;refine(KS (h r d).1 w).sub ?_;intro y o;obtain⟨p,j,rfl⟩:=aN.1 o;exact i p (g9.2 ⟨r,d,j⟩)
def dP(S:List ng):List Tr:=S.flatMap fun p=>p.2.alts
theorem Ka{x:Nat×Sg}(d:x.1<256):(pt x).hc:=by
 obtain⟨n,s⟩:=x;cases s with
 | no=>trivial
 | st=>trivial
 | pl=>exact⟨trivial,trivial⟩
 | op =>
  have e:pt (n,.op)=.a .e (.c n):=BX n d;rw[e];exact⟨by simp[alts],trivial,trivial⟩
theorem Fo(x:Nat×Sg):(tl x).hc:=by unfold tl;split<;>trivial
theorem FI{r:List (Nat×Sg)}(h:ls r):(dF r).hc:=by
 induction r with
 | nil=>trivial
 | cons x r d=>exact k2 (Ka h.head) (d h.tail)
theorem Nv{r:List (Nat×Sg)}(h:ls r):∀p∈eL r,p.2.hc:=by
 induction r with
 | nil=>intro p d;cases d
 | cons x r i =>
  intro p d;rcases aT.1 d with rfl|d
  ·exact k2 (Fo x) (FI h.tail)
  ·obtain⟨q,g,rfl⟩:=aN.1 d;exact i h.tail q g
theorem Da{rs:List (List (Nat×Sg))}(h:ik rs):∀u∈dP (cd rs),u.hc:=by
 intro u hu;obtain⟨p,d,hu⟩:=g9.1 hu;obtain⟨r,g,d⟩:=g9.1 d;exact(Nv (h r g).1 p d).alts u hu
end Tr
end Go.Proofs.YtodagkkjfipbgaaGreatDoor
namespace Go.Proofs.YtodagkkjfipbgaaGreatDoor
open Go Go.Proofs.Tryz
namespace Tr
theorem o1(p:ng)(S:List ng):kE (p::S)=p.2.wt+1+kE S:=by simp[kE]
theorem zf(S T:List ng):kE (S++T)=kE S+kE T:=by simp[kE]
theorem M3(S:List ng)(f:ng->List Nat->Prop):kE (S.map fun p=>(f p,p.2))=kE S:=by simp[kE,Function.comp_def]
theorem iD(r:List (Nat×Sg)):(eL r).length=r.length:=by
 induction r with
 | nil=>rfl
 | cons x r d=>simp[eL,d]
theorem Nt{r:List (Nat×Sg)}(h:ls r):kE (eL r)<=8*(r.length*r.length):=by
 induction r with
 | nil=>simp[eL,kE]
 | cons x r i =>
  have h1:=i h.tail;have o:=A7 h.head;have g:=dJ h.tail;have j:=p3 (tl x) (dF r);have e:kE (eL (x::r))=(row (tl x) (dF r)).wt+1+kE (eL r):=by
   simp only[eL,o1,M3]
  have n:(row (tl x) (dF r)).wt<=16*r.length+7:=by
   by_cases d:r=[]
   ·subst d;show (row (tl x) .e).wt<=_;rw[dN];omega
   ·have:=g.2.2.2 d;omega
  rw[e,bT];have:(r.length+1)*(r.length+1)=r.length*r.length+2*r.length+1:=by rw[Nat.add_mul,k7];omega
  omega
theorem pj{rs:List (List (Nat×Sg))}(h:ik rs):kE (cd rs)<=8*((cd rs).length*(cd rs).length):=by
 induction rs with
 | nil=>simp[cd,kE]
 | cons r rs d =>
  have h1:=d h.tail;have g:=Nt (h r (aU ..)).1;have e:cd (r::rs)=eL r++cd rs:=by simp[cd]
  rw[e,zf,aF,iD];generalize (cd rs).length=b at *;generalize r.length=a at *;have:(a+b)*(a+b)=a*a+b*b+2*(a*b):=by rw[Nat.add_mul,k7,k7,Nat.mul_comm b a];omega
  omega
structure Fl (t:Tr) (M U:Nat) (F:List Tr):Prop where
 ok:t.ok
 nz:t.cM=false
 all:∀w,∃V,(∀g∈V,g.ok/\g.cM=false/\∀u∈g.alts,u∈F)/\jn t w V/\GA t w V/\V.length<=M/\sz V<=U
theorem tK{t:Tr}(h:t.cM=false):∃u,u∈t.alts:=by
 cases d:t.alts with
 | nil=>rw[pQ]at d;subst d;simp[cM]at h
 | cons u l=>exact⟨u,aU ..⟩
theorem xc{rs:List (List (Nat×Sg))}(h:ik rs)(g:rs≠[]):(iy rs).cM=false:=by
 cases rs with
 | nil=>exact absurd rfl g
 | cons r rs =>
  have d:=dJ (h r (aU ..)).1;obtain⟨u,hu⟩:=tK d.2.1;exact iF (((bg d.1 (gy h.tail)).2 u).2 (ah hu))
theorem RU{S:List ng}(h:∀p∈S,p.2.ok/\p.2.cM=false)(d:S≠[]):(D S).cM=false:=by
 cases S with
 | nil=>exact absurd rfl d
 | cons p S =>
  obtain⟨u,hu⟩:=tK (h p (aU ..)).2;exact iF (((E7 (fun q g=>(h q g).1)).2 u).2 ⟨p,aU ..,hu⟩)
theorem tG{rs:List (List (Nat×Sg))}(h:ik rs)(w:List Nat)(L:List (List ng))(i:∀S∈L,S≠[]/\∀p∈S,p∈cd rs)(h1:∀p∈cd rs,[p]∈L)(hc:∀v,v≠[]->v <:+ w->(∀p∈cd rs,¬p.1 v)\/∃S∈L,∀p,p∈S↔p∈cd rs/\p.1 v):(∀g∈L.map D,g.ok/\g.cM=false/\∀u∈g.alts,u∈dP (cd rs))/\jn (iy rs) w (L.map D)/\GA (iy rs) w (L.map D)/\(L.map D).length=L.length/\sz (L.map D)<=(L.map kE).sum+3*L.length:=by
 have j:=pm h;have n:GA (iy rs) w (L.map D):=by
  intro v o x;rcases hc v o x with k|⟨S,hS,k⟩
  ·left;have:=OO h v o [] (fun p=>by simp;exact fun h=>k p h);rw[this];rfl
  ·right;rw[OO h v o S k];exact aN.2 ⟨S,hS,rfl⟩
 refine⟨?_,NH h w _ n ?_,n,by simp,?_⟩
 ·intro g hg;obtain⟨S,hS,rfl⟩:=aN.1 hg;refine⟨(E7 (fun p d=>(j p ((i S hS).2 p d)).1)).1,RU (fun p d=>j p ((i S hS).2 p d)) (i S hS).1,fun u hu=>?_⟩;obtain⟨p,d,hu⟩:=((E7 (fun p d=>(j p ((i S hS).2 p d)).1)).2 u).1 hu;exact g9.2 ⟨p,(i S hS).2 p d,hu⟩
 ·intro p d;rw[<- Rh (j p d).1];exact aN.2 ⟨_,h1 p d,rfl⟩
 ·clear n hc h1
  induction L with
  | nil=>simp[sz]
  | cons S L t =>
   have:=t (fun T q=>i T (b6 _ q));have y:=RT (S:=S) (fun p d=>(j p ((i S (aU ..)).2 p d)).1);simp only[bS,cP,dC,bT];omega
theorem Ra{rs:List (List (Nat×Sg))}(h:ik rs)(j:rs≠[]){p:ng}(g:cd rs=[p]):Fl (iy rs) 1 11 (dP (cd rs)):=by
 refine⟨gy h,xc h j,fun w=>?_⟩;have i:=pj h;rw[g]at i;have:=tG h w [[p]] (by simp[g]) (by simp[g]) (fun v _ _=>by
  rw[g]
  by_cases k:p.1 v
  ·exact ac ⟨[p],by simp,fun q=>by constructor
                                   ·intro d;simp at d;subst d;exact⟨by simp,k⟩
                                   ·intro d;exact d.1⟩
  ·exact ah (by intro q d;simp at d;subst d;exact k))
 refine⟨_,this.1,this.2.1,this.2.2.1,by rw[this.2.2.2.1];simp,?_⟩;have n:=this.2.2.2.2;have o:([[p]].map kE).sum+3*[[p]].length=kE [p]+3:=by simp
 simp at i;omega
def pk(b:Bool)(p:ng):List ng:=if b=true then [p]else []
theorem qq{b:Bool}{p q:ng}:q∈pk b p↔b=true/\q=p:=by unfold pk;cases b<;>simp
theorem Jm(b:Bool)(p:ng):kE (pk b p)=if b=true then p.2.wt+1 else 0:=by unfold pk;cases b<;>simp[kE]
abbrev B4:=Bool×Bool×Bool×Bool
def ka(d g h i:ng)(m:B4):List ng:=pk m.1 d++pk m.2.1 g++pk m.2.2.1 h++pk m.2.2.2 i
def KF:List B4:=[(false,false,false,true),(false,false,true,false),(false,false,true,true),(false,true,false,false),(false,true,false,true),(false,true,true,false),(false,true,true,true),(true,false,false,false),(true,false,false,true),(true,false,true,false),(true,false,true,true),(true,true,false,false),(true,true,false,true),(true,true,true,false),(true,true,true,true)]
def m6:List B4:=[(false,false,true,true),(false,true,false,true),(false,true,true,false),(true,false,false,true),(true,false,true,false),(true,true,false,false)]
def MK(a b:B4):List B4:=KF.filter fun m=>decide (m≠a)&&decide (m≠b)
theorem Oa:∀a∈m6,∀b∈m6,a≠b->(MK a b).length=13/\(true,false,false,false)∈MK a b/\(false,true,false,false)∈MK a b/\(false,false,true,false)∈MK a b/\(false,false,false,true)∈MK a b:=by decide
theorem ND:∀m:B4,m≠(false,false,false,false)->m∈KF:=by
 rintro⟨a,b,c,d⟩;revert a b c d;decide
theorem KE:∀m∈KF,m.1=true\/m.2.1=true\/m.2.2.1=true\/m.2.2.2=true:=by decide
open Classical in
theorem Q7{rs:List (List (Nat×Sg))}(h:ik rs)(I:rs≠[]){d g i j:ng}(x:cd rs=[d,g,i,j]) (y:∀w,∃a∈m6,∃b∈m6,a≠b/\∀v,v≠[]->v <:+ w->(decide (d.1 v),decide (g.1 v),decide (i.1 v),decide (j.1 v))≠a/\(decide (d.1 v),decide (g.1 v),decide (i.1 v),decide (j.1 v))≠b):Fl (iy rs) 13 1069 (dP (cd rs)):=by
 refine⟨gy h,xc h I,fun w=>?_⟩;have B:=pj h;rw[x]at B;obtain⟨a,F,b,hb,G,y⟩:=y w;obtain⟨C,O,P,Q,R⟩:=Oa a F b hb G;have H:∀m∈MK a b,m∈KF:=fun m u=>(eF.1 u).1
 have J:∀m∈KF,ka d g i j m≠[]:=by
  intro m u e;have k:∀q,q ∉ ka d g i j m:=by rw[e];simp
  simp only[ka,aR,qq]at k;rcases KE m u with t|t|t|t
  ·exact k d (ah (ah (ah ⟨t,rfl⟩)))
  ·exact k g (ah (ah (ac ⟨t,rfl⟩)))
  ·exact k i (ah (ac ⟨t,rfl⟩))
  ·exact k j (ac ⟨t,rfl⟩)
 have:=tG h w ((MK a b).map (ka d g i j)) (fun S hS=>by
   obtain⟨m,u,rfl⟩:=aN.1 hS;refine⟨J m (H m u),fun q n=>?_⟩;rw[x];simp only[ka,aR,qq]at n;rcases n with((⟨_,rfl⟩|⟨_,rfl⟩)|⟨_,rfl⟩)|⟨_,rfl⟩<;>simp)
  (fun q n=>by
   rw[x]at n;simp at n;rcases n with rfl|rfl|rfl|rfl
   ·exact aN.2 ⟨_,O,rfl⟩
   ·exact aN.2 ⟨_,P,rfl⟩
   ·exact aN.2 ⟨_,Q,rfl⟩
   ·exact aN.2 ⟨_,R,rfl⟩)
  (fun v M N=>by
   rw[x]
   by_cases k:d.1 v\/g.1 v\/i.1 v\/j.1 v
   ·right;refine⟨_,aN.2 ⟨(decide (d.1 v),decide (g.1 v),decide (i.1 v),decide (j.1 v)),?_,rfl⟩,fun q=>?_⟩
    ·refine eF.2 ⟨?_,by simp only[gA,e1];exact y v M N⟩;refine ND _ ?_;intro e;simp only[hZ,jg]at e;rcases k with k|k|k|k
     ·exact e.1 k
     ·exact e.2.1 k
     ·exact e.2.2.1 k
     ·exact e.2.2.2 k
    ·simp only[ka,aR,qq,e1];constructor
     ·rintro(((⟨k,rfl⟩|⟨k,rfl⟩)|⟨k,rfl⟩)|⟨k,rfl⟩)<;>exact⟨by simp,k⟩
     ·rintro⟨n,o⟩;simp at n;rcases n with rfl|rfl|rfl|rfl
      ·exact ah (ah (ah ⟨o,rfl⟩))
      ·exact ah (ah (ac ⟨o,rfl⟩))
      ·exact ah (ac ⟨o,rfl⟩)
      ·exact ac ⟨o,rfl⟩
   ·left;intro q n o;simp at n;rcases n with rfl|rfl|rfl|rfl
    ·exact k (ah o)
    ·exact k (ac (ah o))
    ·exact k (ac (ac (ah o)))
    ·exact k (ac (ac (ac o))))
 refine⟨_,this.1,this.2.1,this.2.2.1,by rw[this.2.2.2.1,b5,C];omega,?_⟩;have A:=this.2.2.2.2;have K:∀(l:List B4) (f:B4->Nat) (q:B4->Bool),((l.filter q).map f).sum<=(l.map f).sum:=by
  intro l f q
  induction l with
  | nil=>simp
  | cons m l W=>rw[List.filter_cons];split<;>simp<;>omega
 have E:=K KF (fun m=>kE (ka d g i j m)) (fun m=>decide (m≠a)&&decide (m≠b));rw[show (((MK a b).map (ka d g i j)).map kE)=(MK a b).map (kE ∘ ka d g i j) from List.map_map ..,b5,C]at A;have U:((KF.filter (fun m=>decide (m≠a)&&decide (m≠b))).map (kE ∘ ka d g i j)).sum<=(KF.map fun m=>kE (ka d g i j m)).sum:=E;have V:(KF.map fun m=>kE (ka d g i j m)).sum=8*kE [d,g,i,j]:=by
  simp only[KF,bS,g7,dC,List.sum_nil,ka,zf,Jm,o1,la,fi,de,show kE []=0 from rfl];omega
 have T:sz (((MK a b).map (ka d g i j)).map D)<=(List.map (kE ∘ ka d g i j) (KF.filter (fun m=>decide (m≠a)&&decide (m≠b)))).sum+3*13:=A;simp only[bT,gd]at B;omega
end Tr
end Go.Proofs.YtodagkkjfipbgaaGreatDoor
namespace Go.Proofs.YtodagkkjfipbgaaGreatDoor
open Go Go.Proofs.Tryz
namespace Tr
open Classical in
theorem Q9{rs:List (List (Nat×Sg))}(h:ik rs)(u:rs≠[]){g i:ng}(j:cd rs=[g,i]):Fl (iy rs) 3 73 (dP (cd rs)):=by
 refine⟨gy h,xc h u,fun w=>?_⟩;have n:=pj h;rw[j]at n;have:=tG h w [[g],[i],[g,i]] (by
   intro S hS;rw[j];simp only[aT,hh,g6]at hS;rcases hS with rfl|rfl|rfl
   ·exact⟨by simp,fun q d=>by rw[List.mem_singleton.1 d];exact aU ..⟩
   ·exact⟨by simp,fun q d=>by rw[List.mem_singleton.1 d];exact b6 _ (aU ..)⟩
   ·exact⟨by simp,fun q d=>d⟩) (by simp[j]) (fun v _ _=>by
  rw[j]
  by_cases o:g.1 v<;>by_cases t:i.1 v
  ·exact ac ⟨[g,i],by simp,fun q=>⟨fun d=>⟨d,by simp at d;rcases d with rfl|rfl<;>assumption⟩,fun d=>d.1⟩⟩
  ·exact ac ⟨[g],by simp,fun q=>⟨fun d=>by simp at d;subst d;exact⟨by simp,o⟩,fun d=>by
    obtain⟨a,b⟩:=d;simp at a;rcases a with rfl|rfl
    ·simp
    ·exact absurd b t⟩⟩
  ·exact ac ⟨[i],by simp,fun q=>⟨fun d=>by simp at d;subst d;exact⟨by simp,t⟩,fun d=>by
    obtain⟨a,b⟩:=d;simp at a;rcases a with rfl|rfl
    ·exact absurd b o
    ·simp⟩⟩
  ·exact ah (by intro q d;simp at d;rcases d with rfl|rfl<;>assumption))
 refine⟨_,this.1,this.2.1,this.2.2.1,by rw[this.2.2.2.1];simp,?_⟩;have x:=this.2.2.2.2;have y:([[g],[i],[g,i]].map kE).sum+3*[[g],[i],[g,i]].length=2*kE [g,i]+9:=by simp[kE];omega
 simp only[bT,gd]at n;omega
open Classical in
theorem Q8{rs:List (List (Nat×Sg))}(h:ik rs)(C:rs≠[]){o j i:ng}(t:cd rs=[o,j,i]):Fl (iy rs) 7 309 (dP (cd rs)):=by
 refine⟨gy h,xc h C,fun w=>?_⟩;have x:=pj h;rw[t]at x
 let g:List (Bool×Bool×Bool):=[(false,false,true),(false,true,false),(false,true,true),(true,false,false),(true,false,true),(true,true,false),(true,true,true)]
 let f:Bool×Bool×Bool->List ng:=fun m=>pk m.1 o++pk m.2.1 j++pk m.2.2 i
 have this:=tG h w (g.map f) (fun S hS=>by
   obtain⟨m,u,rfl⟩:=aN.1 hS;refine⟨?_,fun q d=>?_⟩
   ·intro e;have k:∀q,q ∉ f m:=by rw[e];simp
    simp only[f,aR,qq]at k;simp only[g,aT,hh,g6]at u;rcases u with rfl|rfl|rfl|rfl|rfl|rfl|rfl
    ·exact k i (ac ⟨rfl,rfl⟩)
    ·exact k j (ah (ac ⟨rfl,rfl⟩))
    ·exact k i (ac ⟨rfl,rfl⟩)
    ·exact k o (ah (ah ⟨rfl,rfl⟩))
    ·exact k i (ac ⟨rfl,rfl⟩)
    ·exact k j (ah (ac ⟨rfl,rfl⟩))
    ·exact k i (ac ⟨rfl,rfl⟩)
   ·rw[t];simp only[f,aR,qq]at d;rcases d with(⟨_,rfl⟩|⟨_,rfl⟩)|⟨_,rfl⟩<;>simp)
  (fun q d=>by
   rw[t]at d;simp at d;rcases d with rfl|rfl|rfl
   ·exact aN.2 ⟨(true,false,false),by simp[g],rfl⟩
   ·exact aN.2 ⟨(false,true,false),by simp[g],rfl⟩
   ·exact aN.2 ⟨(false,false,true),by simp[g],rfl⟩)
  (fun v G H=>by
   rw[t]
   by_cases k:o.1 v\/j.1 v\/i.1 v
   ·right;refine⟨_,aN.2 ⟨(decide (o.1 v),decide (j.1 v),decide (i.1 v)),?_,rfl⟩,fun q=>?_⟩
    ·by_cases y:o.1 v<;>by_cases A:j.1 v<;>by_cases B:i.1 v<;>simp[g,y,A,B]
     rcases k with k|k|k
     ·exact y k
     ·exact A k
     ·exact B k
    ·simp only[f,aR,qq,e1];constructor
     ·rintro((⟨k,rfl⟩|⟨k,rfl⟩)|⟨k,rfl⟩)<;>exact⟨by simp,k⟩
     ·rintro⟨d,n⟩;simp at d;rcases d with rfl|rfl|rfl
      ·exact ah (ah ⟨n,rfl⟩)
      ·exact ah (ac ⟨n,rfl⟩)
      ·exact ac ⟨n,rfl⟩
   ·left;intro q d n;simp at d;rcases d with rfl|rfl|rfl
    ·exact k (ah n)
    ·exact k (ac (ah n))
    ·exact k (ac (ac n)))
 refine⟨_,this.1,this.2.1,this.2.2.1,by rw[this.2.2.2.1];simp[g],?_⟩;have E:=this.2.2.2.2;have F:((g.map f).map kE).sum+3*(g.map f).length=4*kE [o,j,i]+21:=by
  simp only[g,f,bS,g7,dC,List.sum_nil,zf,Jm,o1,la,fi,de,show kE []=0 from rfl,bT,gd];omega
 simp only[bT,gd]at x;omega
theorem Fu{v d w:List Nat}(h:v <:+ w)(g:d <:+ w):v <:+ d\/d <:+ v:=by
 rcases Nat.le_total v.length d.length with k|k
 ·exact ah (List.suffix_of_suffix_length_le h g k)
 ·exact ac (List.suffix_of_suffix_length_le g h k)
theorem FG{x:Nat×Sg}{v d:List Nat}(h:run x v)(o:d <:+ v)(i:d≠[]):run x d:=by
 obtain⟨t,rfl⟩:=o;obtain⟨h1,j,g⟩:=h;refine⟨i,fun k n=>j k (h5 _ n),g.imp id fun g=>?_⟩;have:1<=d.length:=oU.2 i;rw[aF]at g;omega
theorem Ng(x y:Nat×Sg)(w:List Nat):(∀v,v≠[]->v <:+ w->run x v->run y v)\/(∀v,v≠[]->v <:+ w->run y v->run x v):=by
 by_cases h:∀v,v≠[]->v <:+ w->run x v->run y v
 ·exact ah h
 ·right;intro v j n i;refine h6 fun d=>h fun o m1 m2 g=>?_
  rcases Fu n m2 with k|k
  ·exact absurd (FG g k j) d
  ·exact FG i k m1
theorem Rd{x:Nat×Sg}{w v d:List Nat}(h:v <:+ w)(A:d <:+ w)(u:run x v)(i:run x d):(∀p:ng,(∃u0 v0,v=u0++v0/\v0≠[]/\lx x u0/\p.1 v0)->∃u0 v0,d=u0++v0/\v0≠[]/\lx x u0/\p.1 v0)\/(∀p:ng,(∃u0 v0,d=u0++v0/\v0≠[]/\lx x u0/\p.1 v0)->∃u0 v0,v=u0++v0/\v0≠[]/\lx x u0/\p.1 v0):=by
 have key:∀{v d:List Nat},run x d->v≠[]->v <:+ d->∀p:ng,(∃u0 v0,v=u0++v0/\v0≠[]/\lx x u0/\p.1 v0)->∃u0 v0,d=u0++v0/\v0≠[]/\lx x u0/\p.1 v0:=by
  rintro v d i C ⟨t,rfl⟩ p ⟨u0,v0,rfl,y,o,q⟩
  by_cases n:t=[]
  ·subst n;exact⟨u0,v0,rfl,y,o,q⟩
  ·refine⟨t++u0,v0,by simp,y,⟨fun k g=>i.2.1 k (by simp at g ⊢;rcases g with g|g<;>simp[g]),?_⟩,q⟩;have j:x.2.runs=true:=by
    rcases i.2.2 with k|k
    ·exact k
    ·have h1:1<=t.length:=oU.2 n;have B:1<=(u0++v0).length:=oU.2 C;rw[aF]at k;omega
   have B:=o.2;have h1:1<=t.length:=oU.2 n;cases e:x.2 with
   | no=>rw[e]at j;simp[Sg.runs]at j
   | op=>rw[e]at j;simp[Sg.runs]at j
   | st=>trivial
   | pl=>show 1<=(t++u0).length;rw[aF];omega
 rcases Fu h A with k|k
 ·exact ah (key i u.1 k)
 ·exact ac (key u i.1 k)
def Mk(k:Nat):Nat:=if k=1 then 1 else if k=2 then 3 else if k=3 then 7 else 13
def Uk(k:Nat):Nat:=if k=1 then 11 else if k=2 then 73 else if k=3 then 309 else 1069
open Classical in
theorem flat{rs:List (List (Nat×Sg))}(h:ik rs)(E:rs≠[])(N:(cd rs).length<=4):Fl (iy rs) (Mk (cd rs).length) (Uk (cd rs).length) (dP (cd rs)):=by
 generalize hF:dP (cd rs)=F
 match g:cd rs,N with
 | [],_ =>
  exfalso;cases rs with
  | nil=>exact E rfl
  | cons r rs =>
   have e:cd (r::rs)=eL r++cd rs:=by simp[cd]
   have h1:=ej List.length g;rw[e,aF,iD]at h1;have:=oU.2 (h r (aU ..)).2;rw[gd]at h1;omega
 | [p],_=>rw[<- hF];exact Ra h E g
 | [t,o],_=>rw[<- hF];exact Q9 h E g
 | [t,o,q],_=>rw[<- hF];exact Q8 h E g
 | [t,o,q,u],_ =>
  show Fl (iy rs) 13 1069 F;rw[<- hF];refine Q7 h E g fun w=>?_
  have other:∀(x y:Nat×Sg) (rest:List (List (Nat×Sg))) (j K:List (Nat×Sg)),rs=(x::j)::(y::K)::rest->t.1=run x/\((o.1=run y/\j.length=0)\/(q.1=run y/\j.length=1)\/(u.1=run y/\j.length=2)):=by
   intro x y rest j K e;have C:cd rs=eL (x::j)++(eL (y::K)++cd rest):=by rw[e];simp[cd]
   rw[C]at g
   match j,g with
   | [],g=>simp[eL]at g;exact⟨by rw[<- g.1],ah ⟨by rw[<- g.2.1],rfl⟩⟩
   | [_],g=>simp[eL]at g;exact⟨by rw[<- g.1],ac (ah ⟨by rw[<- g.2.2.1],rfl⟩)⟩
   | [_,_],g=>simp[eL]at g;exact⟨by rw[<- g.1],ac (ac ⟨by rw[<- g.2.2.2.1],rfl⟩)⟩
   | _::_::_::j,g=>have:=ej List.length g;simp[eL,iD]at this
  cases rs with
  | nil=>exact absurd rfl E
  | cons r rs =>
  cases r with
  | nil=>exact absurd rfl (h _ (aU ..)).2
  | cons x j =>
  cases rs with
  | nil =>
   -- one row
   have C:cd [x::j]=eL (x::j):=by simp[cd]
   rw[C]at g;obtain⟨G,H,I,T⟩:∃G H I:ng,eL j=[G,H,I]:=by
    have h1:=ej List.length g;rw[iD]at h1;simp at h1
    match X:eL j,(iD j).trans h1 with
    | [G,H,I],_=>exact⟨G,H,I,rfl⟩
   simp only[eL,T,bS,g7,List.cons.injEq,and_true]at g;obtain⟨B,Q,C,R⟩:=g;have cmp:∀v d,v <:+ w->d <:+ w->t.1 v->t.1 d->(∀p∈[o,q,u],p.1 v->p.1 d)\/(∀p∈[o,q,u],p.1 d->p.1 v):=by
    intro v d s J h0 S;rw[<- B]at h0 S;rcases Rd s J h0 S with k|k
    ·left;intro p g;simp at g;rcases g with rfl|rfl|rfl
     ·rw[<- Q];exact k G
     ·rw[<- C];exact k H
     ·rw[<- R];exact k I
    ·right;intro p g;simp at g;rcases g with rfl|rfl|rfl
     ·rw[<- Q];exact k G
     ·rw[<- C];exact k H
     ·rw[<- R];exact k I
   have two:∀v d,v <:+ w->d <:+ w->(decide (t.1 v),decide (o.1 v),decide (q.1 v),decide (u.1 v))=(true,true,false,false)->(decide (t.1 d),decide (o.1 d),decide (q.1 d),decide (u.1 d))≠(true,false,true,false)/\(decide (t.1 d),decide (o.1 d),decide (q.1 d),decide (u.1 d))≠(true,false,false,true):=by
    intro v d s J i;simp only[hZ,e1,jg]at i;constructor
    ·intro n;simp only[hZ,e1,jg]at n;rcases cmp v d s J i.1 n.1 with k|k
     ·exact n.2.1 (k o (by simp) i.2.1)
     ·exact i.2.2.1 (k q (by simp) n.2.2.1)
    ·intro n;simp only[hZ,e1,jg]at n;rcases cmp v d s J i.1 n.1 with k|k
     ·exact n.2.1 (k o (by simp) i.2.1)
     ·exact i.2.2.2 (k u (by simp) n.2.2.2)
   have W:∀v d,v <:+ w->d <:+ w->(decide (t.1 v),decide (o.1 v),decide (q.1 v),decide (u.1 v))=(true,false,true,false)->(decide (t.1 d),decide (o.1 d),decide (q.1 d),decide (u.1 d))≠(true,false,false,true):=by
    intro v d s J i n;simp only[hZ,e1,jg]at i n;rcases cmp v d s J i.1 n.1 with k|k
    ·exact n.2.2.1 (k q (by simp) i.2.2.1)
    ·exact i.2.2.2 (k u (by simp) n.2.2.2)
   by_cases M:∃v,v≠[]/\v <:+ w/\(decide (t.1 v),decide (o.1 v),decide (q.1 v),decide (u.1 v))=(true,true,false,false)
   ·obtain⟨v,U,O,i⟩:=M;exact⟨(true,false,true,false),by simp[m6],(true,false,false,true),by simp[m6],by simp,fun d m1 m2=>two v d O m2 i⟩
   ·by_cases P:∃v,v≠[]/\v <:+ w/\(decide (t.1 v),decide (o.1 v),decide (q.1 v),decide (u.1 v))=(true,false,true,false)
    ·obtain⟨v,U,O,i⟩:=P;exact⟨(true,true,false,false),by simp[m6],(true,false,false,true),by simp[m6],by simp,fun d m1 m2=>⟨fun e=>M ⟨d,m1,m2,e⟩,W v d O m2 i⟩⟩
    ·exact⟨(true,true,false,false),by simp[m6],(true,false,true,false),by simp[m6],by simp,fun d m1 m2=>⟨fun e=>M ⟨d,m1,m2,e⟩,fun e=>P ⟨d,m1,m2,e⟩⟩⟩
  | cons V rest =>
  cases V with
  | nil=>exact absurd rfl (h _ (b6 _ (aU ..))).2
  | cons y K =>
   obtain⟨B,A⟩:=other x y rest j K rfl;rcases Ng x y w with k|k<;>rcases A with⟨A,_⟩|⟨A,_⟩|⟨A,_⟩
   ·refine⟨(true,false,true,false),by simp[m6],(true,false,false,true),by simp[m6],by simp,fun v m1 m2=>⟨fun e=>?_,fun e=>?_⟩⟩<;>(simp only[hZ,e1,jg]at e;exact e.2.1 (by rw[A];exact k v m1 m2 (by rw[<- B];exact e.1)))
   ·refine⟨(true,true,false,false),by simp[m6],(true,false,false,true),by simp[m6],by simp,fun v m1 m2=>⟨fun e=>?_,fun e=>?_⟩⟩<;>(simp only[hZ,e1,jg]at e;exact e.2.2.1 (by rw[A];exact k v m1 m2 (by rw[<- B];exact e.1)))
   ·refine⟨(true,true,false,false),by simp[m6],(true,false,true,false),by simp[m6],by simp,fun v m1 m2=>⟨fun e=>?_,fun e=>?_⟩⟩<;>(simp only[hZ,e1,jg]at e;exact e.2.2.2 (by rw[A];exact k v m1 m2 (by rw[<- B];exact e.1)))
   ·refine⟨(false,true,true,false),by simp[m6],(false,true,false,true),by simp[m6],by simp,fun v m1 m2=>⟨fun e=>?_,fun e=>?_⟩⟩<;>(simp only[hZ,e1,jg]at e;exact e.1 (by rw[B];exact k v m1 m2 (by rw[<- A];exact e.2.1)))
   ·refine⟨(false,true,true,false),by simp[m6],(false,false,true,true),by simp[m6],by simp,fun v m1 m2=>⟨fun e=>?_,fun e=>?_⟩⟩<;>(simp only[hZ,e1,jg]at e;exact e.1 (by rw[B];exact k v m1 m2 (by rw[<- A];exact e.2.2.1)))
   ·refine⟨(false,true,false,true),by simp[m6],(false,false,true,true),by simp[m6],by simp,fun v m1 m2=>⟨fun e=>?_,fun e=>?_⟩⟩<;>(simp only[hZ,e1,jg]at e;exact e.1 (by rw[B];exact k v m1 m2 (by rw[<- A];exact e.2.2.2)))
 | _::_::_::_::_::_,N=>simp at N
end Tr
end Go.Proofs.YtodagkkjfipbgaaGreatDoor
