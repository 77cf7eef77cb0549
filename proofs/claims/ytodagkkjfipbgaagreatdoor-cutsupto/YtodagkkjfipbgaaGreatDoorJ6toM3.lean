import Derived.Test.YtodagkkjfipbgaaGreatDoorJ2toJ5
set_option maxRecDepth 100000
set_option maxHeartbeats 8000000
namespace Go.Proofs.YtodagkkjfipbgaaGreatDoor
open Go.RowKit Go.Maps Go.Proofs.Tryz
theorem Tryz.KZ:(prog.info? 341).map (fun i=>(i.zero,i.size,i.bytes))=some (some (.agg #[.bool false,.int .i64 0,.int .i64 0,.int .i64 0,.int .i64 0,.int .i64 0,.int .i64 0,.int .i64 0,.int .i64 0]),9,72):=by kernel_rfl
theorem Tryz.Jc:prog.underlying 150=some (.slice 341):=by kernel_rfl
def aA(o:Bool×List Nat):List Value:=.bool o.1::o.2.map fun (n:Nat)=>Value.int .i64 (n:Int)
def fv(bP:List (Bool×List Nat)):List Value:=bP.flatMap aA
def bz(base:Nat)(w:World)(v:Value)(bP:List (Bool×List Nat)):Prop:=w.ownsRow base 341 9 v bP.length (fv bP)
def iQ(c:(Nat->Prop)->Nat->Nat->Prop)(b:Nat)(a:List (Nat->Prop))(bP:List (Bool×List Nat)):Prop :=
 ∀(i:Nat) (m:Bool) (l:List Nat),bP[i]?=some (m,l)->l.length=8/\∃S,a[i]?=some S/\(m=true↔S b)/\∀k,k<8->∃n,l[k]?=some n/\a[n]?=some (c S k)
theorem at_prefix{α:Type}{l l':List α}{i:Nat}{x:α}(h:l <+: l')(hi:l[i]?=some x):l'[i]?=some x:=by
 obtain⟨t,rfl⟩:=h;rw[dD (a1.1 hi).1];exact hi
theorem iQ.more{q:(Nat->Prop)->Nat->Nat->Prop}{j:Nat}{d g:List (Nat->Prop)}{bP:List (Bool×List Nat)}(h:iQ q j d bP)(o:d <+: g):iQ q j g bP:=fun i m l hi=>by
 obtain⟨h1,S,t,u,v⟩:=h i m l hi;refine⟨h1,S,at_prefix o t,u,fun k y=>?_⟩;obtain⟨n,w,x⟩:=v k y;exact⟨n,w,at_prefix o x⟩
theorem iQ.snoc{j:(Nat->Prop)->Nat->Nat->Prop}{g:Nat}{d:List (Nat->Prop)}{bP:List (Bool×List Nat)}{m:Bool}{l:List Nat}{S:Nat->Prop}(h:iQ j g d bP)(hS:d[bP.length]?=some S)(u:m=true↔S g)(t:l.length=8) (q:∀k,k<8->∃n,l[k]?=some n/\d[n]?=some (j S k)):iQ j g d (bP++[(m,l)]):=fun i v l' hi=>by
 rcases bD hi with⟨h1,_⟩|⟨h1,o⟩
 ·exact h i v l' h1
 ·cases o;subst h1;exact⟨t,S,hS,u,q⟩
def E3(base:Nat)(h:World)(f:Nat)(d e:Value)(N:Nat)(g:(Nat->Prop)->Nat->Nat->Prop)(c:List (Nat->Prop)):Prop :=
 ∀(W:World) (b k:Nat) (S:Nat->Prop),Below base h W->be W b N S->S∈c->k<8->Calls prog f #[.map (some b),.int .u8 k,d,e] W fun r w'=>∃a,r=.returned (.map (some a))/\be w' a N (g S k)/\Below W.heap.size W w'
structure AN (All Ss0 Ss:List (Nat->Prop)):Prop where
 nodup:Ss.Nodup
 sub:∀S∈Ss,S∈All
 pre:Ss0 <+: Ss
theorem AN.len{d i g:List (Nat->Prop)}(h:AN d i g):g.length<=d.length:=q1 h.nodup h.sub
theorem AN.found{i q j g:List (Nat->Prop)}{S:Nat->Prop}{n:Nat}(h:AN i q j)(u:Found j S g n)(hS:S∈i):AN i q g/\j <+: g/\g[n]?=some S:=by
 rcases u with⟨rfl,o⟩|⟨rfl,rfl,o⟩
 ·exact⟨h,kw _,o⟩
 ·refine⟨⟨?_,?_,h.pre.trans (List.prefix_append _ _)⟩,List.prefix_append _ _,by simp⟩
  ·rw[List.nodup_append];refine⟨h.nodup,by simp,fun a t b hb e=>?_⟩;simp at hb;subst hb;subst e;exact o t
  ·intro T d;rw[aR]at d;rcases d with d|d
   ·exact h.sub T d
   ·simp at d;subst d;exact hS
theorem iR.NR{w:World}{base N i au:Nat}{j:Option Addr}{d:List (Nat->Prop)}{n:List Nat}(h:iR w base (.slice j d.length au) N d n)(hi:i<d.length):∃g b,j=some ⟨g,0,none⟩/\n[i]?=some b/\w.cell? ⟨g,i,none⟩=some (.map (some b))/\be w b N d[i]:=by
 obtain⟨t,u,e,q⟩:=h.form;injection e with o _ _
 subst o;exact q i hi
def y3(base:Nat)(e:(Nat->Prop)->Nat->Nat->Prop)(d:Nat)(b c:List (Nat->Prop))(w:World)(r:Ending)(w':World):Prop :=
 ∃v bP a,r=.returned v/\bz base w' v bP/\bP.length=a.length/\AN b c a/\iQ e d a bP/\Below base w w'
theorem CT{l:List Nat}(h:l.length=8):∃a b c d e f g i,l=[a,b,c,d,e,f,g,i]:=by
 match l,h with
 | [a,b,c,d,e,f,g,i],_=>exact⟨a,b,c,d,e,f,g,i,rfl⟩
theorem od{w:World}{b N:Nat}{S:Nat->Prop}(h:be w b N S){q:Nat}{c:Array Value}{t:TypeId}{m:Nat×Nat}(a:w.heap[q]?=some (.cells c t m)):b≠q:=by
 intro e;subst e;obtain⟨D,d⟩:=h;obtain⟨f,cl,h1,_⟩:=d.own;rw[h1]at a;cases a
theorem be.setCell{w:World}{b N:Nat}{S:Nat->Prop}(h:be w b N S){q:Nat}{d:Array Value}{t:TypeId}{m:Nat×Nat}(g:w.heap[q]?=some (.cells d t m))(o:Nat)(u:Value):be (w.setCell ⟨q,o,none⟩ u) b N S :=
 h.kept (e2 _ _ _ _ (od h g))
theorem be.LV{w w':World}{b N base size n:Nat}{S:Nat->Prop}{e:TypeId}{v:Value}{us:List Value}(h:be w b N S)(j:w.ownsRow base e size v n us)(g:bj (fun k=>v.ownBlock=some k) w w'):be w' b N S :=
 h.kept (g.block b h.da (fun d=>by obtain⟨o,i⟩:=bh j b d;exact od h i rfl))
theorem KQ{w w':World}{base size n:Nat}{t e:TypeId}{v:Value}{us:List Value}(f:w.ownsRow base e size v n us)(d:bj (fun k=>v.ownBlock=some k) w w')(g:t≠e):Kp t w w':=fun k i m a=>by
 rw[d.block k (an a) (fun b=>by obtain⟨h,c⟩:=bh f k b;exact dI a c g rfl)];exact a
theorem iR.setCell{w:World}{base N:Nat}{v:Value}{d:List (Nat->Prop)}{g:List Nat}(h:iR w base v N d g){q:Nat}{n:Array Value}{m:Nat×Nat}(j:w.heap[q]?=some (.cells n 341 m))(o:Nat)(u:Value):iR (w.setCell ⟨q,o,none⟩ u) base v N d g :=
 ⟨h.1,al h.2.1 ((Kp.refl _ _).setCell j (by decide) u),fun i b S h1 t=>(h.2.2 i b S h1 t).setCell j o u⟩
theorem yX{w w':World}{base size n:Nat}{e:TypeId}{v:Value}{us:List Value}(c:w.ownsRow base e size v n us)(b:bj (fun k=>v.ownBlock=some k) w w')(hb:base<=w.heap.size):Below base w w' :=
 b.below hb (fun k d a=>by have:=(c.lt k a).1;omega)
theorem vU(bP:List (Bool×List Nat))(o:Bool×List Nat):fv (bP++[o])=fv bP++aA o:=by unfold fv;simp
theorem hJ(c:Bool)(l:List Nat)(k n:Nat):(aA (c,l)).toArray.setIfInBounds (1+k) (.int .i64 n)=(aA (c,l.set k n)).toArray:=by
 unfold aA;rw[List.setIfInBounds_toArray,Nat.add_comm 1 k,oT,List.map_set]
theorem o6(c:Bool)(l:List Nat):∀u∈aA (c,l),u.oneCell'=true:=by
 intro u hu;unfold aA at hu;simp only[aT,aN]at hu;rcases hu with rfl|⟨n,_,rfl⟩<;>rfl
theorem Jy(w:World)(c:Bool)(l:List Nat)(j:Nat)(u:Value)(hu:(aA (c,l))[j]?=some u):(w.alloc (.cells (aA (c,l)).toArray 341)).cell? ⟨w.heap.size,j,none⟩=some u:=ab (aw w _) j u (by simpa using hu)
def Dk(b:(Nat->Prop)->Nat->Nat->Prop)(S:Nat->Prop)(a:List (Nat->Prop))(l:List Nat)(k:Nat):Prop:=l.length=8/\∀j,j<k->∃n,l[j]?=some n/\a[n]?=some (b S j)
theorem Dk.next{g:(Nat->Prop)->Nat->Nat->Prop}{S:Nat->Prop}{i d:List (Nat->Prop)}{l:List Nat}{k n:Nat}(h:Dk g S i l k)(x:k<8)(u:i <+: d)(t:d[n]?=some (g S k)):Dk g S d (l.set k n) (k+1):=by
 refine⟨by rw[jc];exact h.1,fun j w=>?_⟩
 by_cases e:j=k
 ·subst e;exact⟨n,by rw[oW (by have:=h.1;omega)],t⟩
 ·obtain⟨v,h1,q⟩:=h.2 j (by omega);exact⟨v,by rw[qZ (fun o=>e o.symm)];exact h1,at_prefix u q⟩
theorem yc(base:Nat)(w:World)(f h5 h6 N Q:Nat)(H:(Nat->Prop)->Nat->Nat->Prop)(p F:List (Nat->Prop))(h7:Value)(g0:List Nat)(m5:∀(args:Array Value) (w:World),(callFunc f args).run prog w=.ok (.enter f args) w) (h2:E3 base w f (.pointer (some ⟨h5,0,none⟩)) (.pointer (some ⟨h6,0,none⟩)) N H p) (g7:∀S∈p,∀k,k<8->H S k∈p) (hlen:p.length<=1000) (k0:N<=9000) (m8:Q<=9000) (h4:iR w base h7 N F g0) (k1:AN p F F) (k3:base<=w.heap.size):Calls prog 179 #[.func (.func f) #[] #[.pointer (some ⟨h5,0,none⟩),.pointer (some ⟨h6,0,none⟩)],.int .i64 Q,h7] w (y3 base H Q p F w):=by
 have i4:=az h2;have c8:=az h4;have i2:=az g7;clear h2 g7 h4;go_enter func179,ntmps179;go_wp2_with fail
 go_loopg [7,2] p.length (fun b1 l3 c2 E=>∃(bP:List (Bool×List Nat)) (o:List (Nat->Prop)) (a9:List Nat) (u:Option Addr) (au:Nat) (M:Option Addr) (I:Nat),b1+bP.length=p.length/\bP.length<=o.length/\l3=.slice u bP.length au/\c2=.slice M o.length I/\Hid (bz base E (.slice u bP.length au) bP)/\Hid (iR E base (.slice M o.length I) N o a9)/\Hid (AN p F o)/\Hid (iQ H Q o bP)/\Hid (Below base w E))
 case atStart =>
  obtain⟨M,I,e,_⟩:=c8.out.form;subst e;exact⟨[],F,g0,none,0,M,I,rfl,aJ _,rfl,rfl,cq _ _ _ _,c8,k1,(fun i m l h=>by simp at h),aB _ _⟩
 case round =>
  obtain⟨bP,o,a9,u,au,M,I,hg,n2,rfl,rfl,b7,hS,X,g3,b2⟩:=hrel;obtain⟨U,l0⟩:∃U,U=wr:=⟨wr,rfl⟩;subst l0;have n5:=X.out.len
  by_cases c0:bP.length<o.length
  ·obtain⟨g,b,k2,_,m3,g5⟩:=hS.out.NR c0;subst k2;have c9:Hid (o[bP.length]?=some o[bP.length]):=ax c0;have a4:Hid (o[bP.length]∈p):=X.out.sub _ (bl c0);have a5:=az g5;generalize o[bP.length]=S at c9 a4 a5;clear g5;go_wp2_with fail;refine(pC U b N Q S a5.out (by omega)).mono ?_;rintro r d ⟨c,rfl,hc,b9⟩;have i3:=az hc;have k6:=b2.out.size;have k7:=b9.size;have h3:=aw d (.cells (aA (c,[0,0,0,0,0,0,0,0])).toArray 341);have J:Hid (Below U.heap.size U (d.alloc (.cells (aA (c,[0,0,0,0,0,0,0,0])).toArray 341))):=b9.trans ((af d _).mono k7);clear hc b9;have e7:Hid (bz base (d.alloc (.cells (aA (c,[0,0,0,0,0,0,0,0])).toArray 341)) (.slice u bP.length au) bP):=al b7.out (Kp.below J.out);have e4:=az (hS.out.below J.out);have e5:=az (a5.out.below J.out);have c5:=az (b2.out.trans (J.out.mono (aE k3 k6)));have j4:Hid (∀k,Value.ownBlock (.slice u bP.length au)=some k->k≠d.heap.size):=fun k b0 m2=>by have:=(b7.out.lt k b0).2;omega
   have c7:=az h3;clear h3;go_wp2_with fail
   go_loopg [2,25] 8 (fun b1 c2 l2 E=>∃(k:Nat) (s:List (Nat->Prop)) (O:List Nat) (L:Option Addr) (P:Nat) (l:List Nat),k<=8/\b1+k=8/\l2=.int .u8 k/\c2=.slice L s.length P/\Hid (E.heap[d.heap.size]?=some (.cells (aA (c,l)).toArray 341 (0,0)))/\Hid (Dk H S s l k)/\Hid (o <+: s)/\Hid (bz base E (.slice u bP.length au) bP)/\Hid (iR E base (.slice L s.length P) N s O)/\Hid (AN p F s)/\Hid (be E b N S)/\Hid (Below base w E))
   case atStart=>exact⟨0,o,a9,_,I,_,aJ _,rfl,rfl,rfl,c7,(⟨rfl,fun j k4=>absurd k4 (nr _)⟩:Dk H S o [0,0,0,0,0,0,0,0] 0),kw _,e7,e4,X,e5,c5⟩
   case round =>
    obtain⟨k,s,O,L,P,l,m9,m7,rfl,rfl,q,Z,T,b8,b5,Y,b6,R⟩:=hrel;obtain⟨a,l1⟩:∃a,a=wr:=⟨wr,rfl⟩;subst l1;have n6:=Y.out.len;have n3:=R.out.size;have g9:=Z.out.1;clear e7 e4 e5 c5 c7 J
    by_cases a0:k<8
    ·have n1:(k:Int)<8:=by omega
     go_wp2_with fail;refine(i4.out a b k S R.out b6.out a4.out a0).mono ?_;rintro r a2 ⟨j6,rfl,g4,G⟩;have e0:=az g4;have K:=az (b5.out.below G);have c4:Hid (Below base w a2):=R.out.trans (G.mono (by omega));have e3:Hid (a2.heap[d.heap.size]?=some (.cells (aA (c,l)).toArray 341 (0,0))):=by show _=_;rw[G.block _ (an q.out)];exact q.out
     have e8:Hid (bz base a2 (.slice u bP.length au) bP):=al b8.out (Kp.below G);have e6:=az (b6.out.below G);have n4:=G.size;clear g4 G q b8 b5 b6 R;go_wp2_with fail;refine(Lo a2 base j6 N _ s O (H S k) K.out e0.out k0 (by omega) (by omega)).mono ?_;rintro r h8 ⟨n8,n,j2,j7,rfl,b4,g2,k5,W,k9⟩;obtain⟨j5,j8,rfl⟩:=ak b4.2.1;obtain⟨g6,b3,h0⟩:=Y.out.found g2 (i2.out S a4.out k a0);have i7:=az b4;have j1:=az g6;have j0:=az (Z.out.next a0 b3 h0);have i6:=az (T.out.trans b3);have a6:=KQ (t:=341) K.out.2.1 W (by decide);have a1:=a6 _ _ _ e3.out;have j3:=az (al e8.out a6);have i9:=az (e6.out.LV K.out.2.1 W);have i0:Hid (Below base w h8):=c4.out.trans (yX K.out.2.1 W (by omega));have a7:=az a1;have m6:=aq a1;have m4:h8.cell? ⟨d.heap.size,1+k,none⟩=some (.int .i64 ((l[k]'(by omega):Nat):Int)):=ab a1 (1+k) _ (by unfold aA;rw[Nat.add_comm 1 k];simp[g9,a0]);clear b4 g2 k5 W k9 g6 b3 h0 a6 a1 K c4 e3 e8 e6 e0 Z T Y;go_wp2_with fail;go_roundg (8-(k+1))
     case measure=>omega
     case rel =>
      refine⟨k+1,j2,j7,j5,j8,l.set k n,by omega,by omega,by go_num,rfl,?_,j0,i6,?_,i7.out.setCell a7.out _ _,j1,i9.out.setCell a7.out _ _,i0.out.setCell (by show base<=d.heap.size;omega) _⟩
      ·show _=_;rw[am a7.out,hJ]
      ·exact qg j3.out fun k' b0=>e2 _ _ _ _ (j4.out k' b0)
    ·obtain rfl:k=8:=by omega
     obtain⟨v,x,y,z,A,B,C,D,rfl⟩:=CT g9;have l4:a.cell? ⟨d.heap.size,0,none⟩=some (.bool c):=ab q.out 0 _ rfl;have l5:a.cell? ⟨d.heap.size,1,none⟩=some (.int .i64 (v:Nat)):=ab q.out 1 _ rfl;have l6:a.cell? ⟨d.heap.size,2,none⟩=some (.int .i64 (x:Nat)):=ab q.out 2 _ rfl;have c3:a.cell? ⟨d.heap.size,3,none⟩=some (.int .i64 (y:Nat)):=ab q.out 3 _ rfl;have l7:a.cell? ⟨d.heap.size,4,none⟩=some (.int .i64 (z:Nat)):=ab q.out 4 _ rfl;have l8:a.cell? ⟨d.heap.size,5,none⟩=some (.int .i64 (A:Nat)):=ab q.out 5 _ rfl;have l9:a.cell? ⟨d.heap.size,6,none⟩=some (.int .i64 (B:Nat)):=ab q.out 6 _ rfl;have m0:a.cell? ⟨d.heap.size,7,none⟩=some (.int .i64 (C:Nat)):=ab q.out 7 _ rfl;have m1:a.cell? ⟨d.heap.size,8,none⟩=some (.int .i64 (D:Nat)):=ab q.out 8 _ rfl;have V:Hid (bz base (a.alloc (.cells (aA (c,[v,x,y,z,A,B,C,D])).toArray 341)) (.slice u bP.length au) bP):=al b8.out (Kp.below (af a _));have a8:Hid (iR (a.alloc (.cells (aA (c,[v,x,y,z,A,B,C,D])).toArray 341)) base (.slice L s.length P) N s O):=b5.out.below (af a _);have e1:base<=(a.alloc (.cells (aA (c,[v,x,y,z,A,B,C,D])).toArray 341)).heap.size:=by simp;omega
     have i1:Hid (Below base w (a.alloc (.cells (aA (c,[v,x,y,z,A,B,C,D])).toArray 341))):=R.out.alloc (by omega) _;go_wp2_with (at_builtin;refine bs rfl (.tmp 41) (.tmp 43) 150 rfl base 341 (.agg #[.bool false,.int .i64 0,.int .i64 0,.int .i64 0,.int .i64 0,.int .i64 0,.int .i64 0,.int .i64 0,.int .i64 0]) 9 72 Tryz.KZ Tryz.Jc rfl (by decide) (.slice u bP.length au) bP.length (fv bP) rfl V.out a.heap.size 1 (aA (c,[v,x,y,z,A,B,C,D])) rfl rfl (Jy a c [v,x,y,z,A,B,C,D]) (o6 _ _) (by omega) (by omega) e1 ?_;intro n7 h9 c1 g8 k8;obtain⟨e9,g1,rfl⟩:=ak c1;have i5:Hid (h9.ownsRow base 341 9 (.slice e9 (bP.length+1) g1) (bP.length+1) (fv bP++aA (c,[v,x,y,z,A,B,C,D]))):=c1;have a3:Hid (bj (fun k=>Value.ownBlock (.slice u bP.length au)=some k) (a.alloc (.cells (aA (c,[v,x,y,z,A,B,C,D])).toArray 341)) h9):=(bj.refl _ _).grown g8 (fun k e=>ac e);clear c1 g8 k8);go_roundg (p.length-(bP.length+1))
     case measure=>omega
     case rel =>
      refine⟨bP++[(c,[v,x,y,z,A,B,C,D])],s,O,e9,g1,L,P,?_,?_,?_,rfl,?_,?_,Y,?_,?_⟩
      ·simp;omega
      ·have:=T.out.length_le;simp;omega
      ·simp
      ·show bz _ _ _ _;unfold bz;rw[vU,aF];exact i5.out
      ·refine(⟨a8.out.1,al a8.out.2.1 (KQ V.out a3.out (by decide)),fun i b S h1 j9=>(a8.out.2.2 i b S h1 j9).LV V.out a3.out⟩:iR _ _ _ _ _ _)
      ·exact(g3.out.more T.out).snoc (at_prefix T.out c9.out) i3.out rfl Z.out.2
      ·exact i1.out.trans (yX V.out a3.out e1)
  ·have e:bP.length=o.length:=by omega
   go_wp2_with fail;go_ret;exact⟨_,bP,o,rfl,b7.out,e,X.out,g3.out,b2.out⟩
end Go.Proofs.YtodagkkjfipbgaaGreatDoor
namespace Go.Proofs.YtodagkkjfipbgaaGreatDoor
open Go.RowKit Go.Proofs.Tryz
namespace PS
def more(s:PS):PS:={ s with a:=IntKind.i64.wrap (s.a+1) }
def many(T:ai)(s:PS):PS:=if s.a=4 then s.fail T 6 else s
def known(T:ai)(aa:List ai)(s:PS):PS:=if (bn aa (s.tk T)).2=true then s else s.fail T 3
def one(T:ai)(aa:List ai)(s:PS):PS×Px:=((((s.known T aa).many T).more).step T,r0 (bn aa (s.tk T)).1)
def nest(T:ai)(s:PS):PS:=if s.k=4 then s.fail T 6 else s
def hE(s:PS):PS:={ s with k:=s.k+1 }
def gC(s:PS):PS:={ s with k:=s.k-1 }
def bracket(T:ai)(sub:PS->PS×Px)(s:PS):PS×Px :=
 ((((sub (((s.nest T).aK T [aX 40]).hE)).1.gC).aK T [aX 41]),(sub (((s.nest T).aK T [aX 40]).hE)).2)
def aQ(T:ai)(s:PS):PS:=if s.isAtom T=true then s else s.fail T 2
def atom(T:ai)(aa:List ai)(sub:PS->PS×Px)(s:PS):PS×Px :=
 if bH [aX 40] ((s.aQ T).tk T)=true then (s.aQ T).bracket T sub else (s.aQ T).one T aa
end PS
structure gw (w:World) (b c:Nat) (T:ai) (aa:List ai) (vN vE vL:Value) (s:PS):Prop where
 rd:e4 w b T vN vE vL s
 x0:w.heap[c]?=some (.cells #[.int .i64 s.a,.int .i64 s.k] 289 (0,0))
 row:w.ownsRow 0 9 1 vN aa.length (aa.map .string)
 iL:aa.length<=7
def b7(b c:Nat)(w w':World):Prop:=bj (fun k=>k=b\/k=c) w w'
theorem gw.bc{w:World}{b c:Nat}{T:ai}{aa:List ai}{g d vL:Value}{s:PS}(h:gw w b c T aa g d vL s):b≠c:=dI h.rd.da h.x0 (by decide)
theorem gw.later{w w':World}{b c:Nat}{T:ai}{aa:List ai}{g d vL:Value}{s:PS}(h:gw w b c T aa g d vL s)(hb:Below w.heap.size w w'):gw w' b c T aa g d vL s :=
 ⟨h.rd.later hb,by rw[hb.block c (an h.x0)];exact h.x0,al h.row (Kp.below hb),h.iL⟩
theorem Kp.n8{t t0:TypeId}{b:Nat}{w w':World}{g:Array Value}{m0:Nat×Nat}(hb:w.heap[b]?=some (.cells g t0 m0))(hc:bj (fun k=>k=b) w w')(h:t≠t0):Kp t w w':=fun k i m d=>by
 rw[hc.block k (an d) (dI d hb h)];exact d
theorem gw.on{w w':World}{b c:Nat}{T:ai}{aa:List ai}{i g vL:Value}{s d:PS}(h:gw w b c T aa i g vL s)(o:e4 w' b T i g vL d)(hc:bj (fun k=>k=b) w w')(j:d.a=s.a)(n:d.k=s.k):gw w' b c T aa i g vL d :=
 ⟨o,by rw[j,n,hc.block c (an h.x0) (fun e=>h.bc e.symm)];exact h.x0,al h.row (Kp.n8 h.rd.da hc (by decide)),h.iL⟩
theorem b7.OH{b c:Nat}{w w':World}(h:bj (fun k=>k=b) w w'):b7 b c w w':=h.mono fun _ _ e=>ah e
theorem b7.trans{b c:Nat}{w w' d:World}(h:b7 b c w w')(g:b7 b c w' d):b7 b c w d:=bj.trans h g
theorem b7.below{b c:Nat}{w w':World}(h:Below w.heap.size w w'):b7 b c w w':=bj.aL h
theorem gw.Rs{w:World}{b c:Nat}{T:ai}{aa:List ai}{g d vL:Value}{s:PS}(h:gw w b c T aa g d vL s)(x:Int):gw (w.setCell ⟨c,0,none⟩ (.int .i64 x)) b c T aa g d vL { s with a:=x } :=
 ⟨⟨by show _=_;rw[e2 _ _ _ _ h.bc];exact h.rd.da,h.rd.le,h.rd.short⟩,mL h.x0,al h.row ((Kp.refl _ _).setCell h.x0 (by decide) _),h.iL⟩
theorem gw.QG{w:World}{b c:Nat}{T:ai}{aa:List ai}{g d vL:Value}{s:PS}(h:gw w b c T aa g d vL s)(x:Int):gw (w.setCell ⟨c,1,none⟩ (.int .i64 x)) b c T aa g d vL { s with k:=x } :=
 ⟨⟨by show _=_;rw[e2 _ _ _ _ h.bc];exact h.rd.da,h.rd.le,h.rd.short⟩,vY h.x0,al h.row ((Kp.refl _ _).setCell h.x0 (by decide) _),h.iL⟩
theorem b7.JI(b c:Nat)(w:World)(o:Nat)(v:Value):b7 b c w (w.setCell ⟨c,o,none⟩ v):=(bj.refl _ _).setCell (q:=⟨c,o,none⟩) (ac (ac rfl)) v
theorem Aq(b c:Nat)(T:ai)(aa:List ai)(g d vL:Value)(s:PS)(no:Int)(w:World)(h:gw w b c T aa g d vL s):Calls prog 80 #[.pointer (some ⟨b,0,none⟩),.int .i64 no] w fun r w'=>r=.returned (.tuple #[])/\gw w' b c T aa g d vL (s.fail T no)/\b7 b c w w':=by
 refine(kP b T g d vL s no w h.rd).mono ?_;rintro r w' ⟨rfl,h1,i⟩;exact⟨rfl,h.on h1 i rfl rfl,b7.OH i⟩
theorem O5(b c:Nat)(T:ai)(aa:List ai)(g d vL:Value)(s:PS)(w:World)(h:gw w b c T aa g d vL s):Calls prog 75 #[.pointer (some ⟨b,0,none⟩)] w fun r w'=>r=.returned (.tuple #[])/\gw w' b c T aa g d vL (s.step T)/\b7 b c w w':=by
 refine(zi b T g d vL s w h.rd).mono ?_;rintro r w' ⟨rfl,h1,i⟩;exact⟨rfl,h.on h1 i rfl rfl,b7.OH i⟩
theorem pw(T:ai)(L:List ai)(s:PS):(s.aK T L).a=s.a/\(s.aK T L).k=s.k:=by unfold PS.aK;split<;>exact⟨rfl,rfl⟩
theorem Fq(T:ai)(L:List ai)(s:PS):(s.take T L).a=s.a/\(s.take T L).k=s.k:=by unfold PS.take;split<;>exact⟨rfl,rfl⟩
theorem Kw(b c:Nat)(T:ai)(aa:List ai)(g d vL:Value)(s:PS)(L:List ai)(w:World)(h:gw w b c T aa g d vL s)(j:L.length<=100)(h1:1<=L.length)(n:∀x∈L,x.toList≠[]):Calls prog 128 #[.pointer (some ⟨b,0,none⟩),.slice (some ⟨w.heap.size,0,none⟩) L.length L.length] (w.alloc (.cells (L.map .string).toArray 9)) fun r w'=>(∃x,r=.returned (.string x))/\gw w' b c T aa g d vL (s.aK T L)/\b7 b c w w':=by
 refine(mR b T g d vL s L w h.rd j h1 n).mono ?_;rintro r w' ⟨rfl,h1,i⟩;exact⟨⟨_,rfl⟩,h.on h1 i (pw T L s).1 (pw T L s).2,b7.OH i⟩
theorem Jk(b c:Nat)(T:ai)(aa:List ai)(g d vL:Value)(s:PS)(L:List ai)(w:World)(h:gw w b c T aa g d vL s)(j:L.length<=100)(h1:1<=L.length):Calls prog 131 #[.pointer (some ⟨b,0,none⟩),.slice (some ⟨w.heap.size,0,none⟩) L.length L.length] (w.alloc (.cells (L.map .string).toArray 9)) fun r w'=>r=.returned (.string (ce T L s.p))/\gw w' b c T aa g d vL (s.take T L)/\b7 b c w w':=by
 refine(vC b T g d vL s L w h.rd j h1).mono ?_;rintro r w' ⟨rfl,h1,i⟩;exact⟨rfl,h.on h1 i (Fq T L s).1 (Fq T L s).2,b7.OH i⟩
theorem QT(b c:Nat)(T:ai)(aa:List ai)(i g vL:Value)(s:PS)(w:World)(h:gw w b c T aa i g vL s):Calls prog 249 #[.pointer (some ⟨b,0,none⟩),.pointer (some ⟨c,0,none⟩)] w fun r w'=>∃v,r=.returned v/\gw w' b c T aa i g vL (s.one T aa).1/\eY 1 (dB w.heap.size) w' v (s.one T aa).2/\b7 b c w w':=by
 have Q:Hid (gw w b c T aa i g vL s):=h;have X:=rB aa (s.tk T) h.iL;clear h;unfold PS.one;go_enter func249,ntmps249;go_wp2_with fail;refine(zO b T i g vL s w Q.out.rd).mono ?_;rintro r O ⟨rfl,n,Y⟩;have E:Below w.heap.size w O:=by rw[Y];exact hy (aB _ _) n
 clear Y;have A:Hid (gw O b c T aa i g vL s):=Q.out.later E;go_wp2_with fail;refine(Cc b T i g vL s aa (bF T s.p) O A.out.rd A.out.row A.out.iL).mono ?_;rintro r G ⟨rfl,F⟩;have I:Hid (gw G b c T aa i g vL s):=A.out.later F;have y:Hid (b7 b c w G):=(b7.below E).trans (b7.below F);have a7:Hid (w.heap.size<=G.heap.size):=aE E.size F.size;clear E F;rw[show (bF T s.p).toList=s.tk T from rfl];obtain⟨x,K⟩:∃x,x=bn aa (s.tk T):=⟨_,rfl⟩;rw[<- K]at X ⊢;have J:Hid (x=bn aa (s.tk T)):=K;clear K
 go_upto_if 15 with fail
 go_cut [6] (fun _ t=>Hid (gw t b c T aa i g vL (s.known T aa))/\b7 b c w t/\w.heap.size<=t.heap.size)
 case first =>
  cases W:x.2
  ·have e:Hid (s.known T aa=s.fail T 3):=by show _=_;unfold PS.known;rw[<- J.out,W];rfl
   go_wp2_with fail;refine(Aq b c T aa i g vL s 3 G I.out).mono ?_;rintro r w3 ⟨rfl,o,c3⟩;have Z:Hid (gw w3 b c T aa i g vL (s.fail T 3)):=o;clear o;go_wp2_with fail;go_meet;exact⟨by rw[e.out];exact Z,y.out.trans c3,(y.out.trans c3).size⟩
  ·have e:Hid (s.known T aa=s):=by show _=_;unfold PS.known;rw[<- J.out,W];rfl
   go_wp2_with fail;go_meet;exact⟨by rw[e.out];exact I,y.out,y.out.size⟩
 case rest =>
  obtain⟨o,c3,z3⟩:=hcut;obtain⟨w3,b5⟩:∃w3,w3=wc:=⟨wc,rfl⟩;subst b5;obtain⟨d,M⟩:∃d,d=s.known T aa:=⟨_,rfl⟩;rw[<- M]at o;have a5:Hid (d=s.known T aa):=M;have u:=o.out.x0;have R:=ab u 0 _ rfl;clear A I y a7 M u
  go_upto_if 22 with fail
  go_cut [] (fun t=>Hid (gw t b c T aa i g vL (d.many T))/\b7 b c w t/\w.heap.size<=t.heap.size)
  case first =>
   by_cases j:d.a=4
   ·have k4:(d.a==4)=true:=by simpa using j
    have e:Hid (d.many T=d.fail T 6):=by show _=_;unfold PS.many;rw[ag j]
    clear j;go_wp2_with fail;refine(Aq b c T aa i g vL d 6 w3 o.out).mono ?_;rintro r B ⟨rfl,j,C⟩;have a0:Hid (gw B b c T aa i g vL (d.fail T 6)):=j;clear j;go_wp2_with fail;go_meet;exact⟨by rw[e.out];exact a0,c3.trans C,(c3.trans C).size⟩
   ·have k4:(d.a==4)=false:=by simpa using j
    have e:Hid (d.many T=d):=by show _=_;unfold PS.many;rw[ae j]
    clear j;go_wp2_with fail;go_meet;exact⟨by rw[e.out];exact o,c3,z3⟩
  case rest =>
   obtain⟨j,C,z4⟩:=hcut;obtain⟨B,b6⟩:∃B,B=wc:=⟨wc,rfl⟩;subst b6;obtain⟨q,N⟩:∃q,q=d.many T:=⟨_,rfl⟩;rw[<- N]at j;have a6:Hid (q=d.many T):=N;clear R;have u:=j.out.x0;have R:=ab u 0 _ rfl;have cf:=aq u;obtain⟨a',a9⟩:∃a',IntKind.i64.wrap (q.a+1)=a':=⟨_,rfl⟩;have a4:Hid (a'=IntKind.i64.wrap (q.a+1)):=a9.symm;clear o c3 z3 N u;go_wp2_with fail;refine(O5 b c T aa i g vL { q with a:=a' } _ (j.out.Rs a')).mono ?_;rintro r H ⟨rfl,S,a8⟩;have a1:Hid (gw H b c T aa i g vL (PS.step T { q with a:=a' })):=S;have P:Hid (b7 b c w H):=C.trans ((b7.JI b c B 0 _).trans a8);clear S;go_wp2_with fail;refine(NB x.1 X H).mono ?_;rintro r b8 ⟨v,rfl,U,V⟩;have a2:Hid (eY 1 (dB H.heap.size) b8 v (r0 x.1)):=U;clear U;go_wp2_with fail;go_ret;refine⟨v,rfl,?_,?_,P.out.trans (b7.below V)⟩
   ·have:=a1.out.later V;rw[a4.out,a6.out,a5.out]at this;exact this
   ·rw[<- J.out];exact a2.out.from P.out.size
def x4(b c:Nat)(T:ai)(aa:List ai)(d a vL:Value)(D:Nat)(q:PS×Px)(w:World)(r:Ending)(w':World):Prop :=
 ∃v,r=.returned v/\gw w' b c T aa d a vL q.1/\eY D (dB w.heap.size) w' v q.2/\b7 b c w w'
def OQ(b c:Nat)(T:ai)(aa:List ai)(d a vL:Value)(D:Nat)(ok:PS->Prop)(sub:PS->PS×Px):Prop :=
 ∀(s:PS) (w:World),gw w b c T aa d a vL s->ok s->Calls prog 175 #[.pointer (some ⟨b,0,none⟩),.pointer (some ⟨c,0,none⟩)] w (x4 b c T aa d a vL D (sub s) w)
theorem b7.aY{b c N:Nat}{w w':World}(h:b7 b c w w')(hb:b<N)(hc:c<N):eZ (dB N) w w':=fun k i t m g _ d=>by
 have j:N<=k:=g;rw[bj.block h k (an d) (fun e=>by rcases e with e|e<;>omega)];exact d
theorem eY.aY{b c N D:Nat}{w w':World}{v:Value}{x:Px}(h:eY D (dB N) w v x)(hc:b7 b c w w')(hb:b<N)(d:c<N):eY D (dB N) w' v x:=h.iS (hc.aY hb d) fun _ _ h=>h
theorem vX(c:UInt8):(aX c).toList=[c]:=by unfold aX;rw[bM]
theorem qf(c:UInt8):∀x∈[aX c],x.toList≠[]:=by
 intro x a;simp at a;subst a;rw[vX];simp
theorem lM(w:World)(a:Addr)(v:Value):(w.setCell a v).heap.size=w.heap.size:=by simp[World.setCell]
theorem Ku(T:ai)(s:PS):(s.nest T).k=s.k/\(s.nest T).a=s.a:=by unfold PS.nest;split<;>exact⟨rfl,rfl⟩
theorem Ix(b c:Nat)(T:ai)(aa:List ai)(g f vL:Value)(D:Nat)(ok:PS->Prop)(sub:PS->PS×Px)(R:OQ b c T aa g f vL D ok sub)(s:PS)(w:World)(h:gw w b c T aa g f vL s) (V:0<=s.k) (W:s.k<=4) (G:ok (((s.nest T).aK T [aX 40]).hE)) (H:(sub (((s.nest T).aK T [aX 40]).hE)).1.k=s.k+1):Calls prog 248 #[.pointer (some ⟨b,0,none⟩),.pointer (some ⟨c,0,none⟩)] w (x4 b c T aa g f vL D (s.bracket T sub) w):=by
 have j:=az h;have O:=az G;have n:=az H;have Q:=ab h.x0 1 _ rfl;clear h G H;go_enter func248,ntmps248
 go_upto_if 10 with fail
 go_cut [] (fun I=>Hid (gw I b c T aa g f vL (s.nest T))/\b7 b c w I)
 case first =>
  by_cases d:s.k=4
  ·have k4:(s.k==4)=true:=by simpa using d
   have e:Hid (s.nest T=s.fail T 6):=by show _=_;unfold PS.nest;rw[ag d]
   clear d;go_wp2_with fail;refine(Aq b c T aa g f vL s 6 w j.out).mono ?_;rintro r i ⟨rfl,d,o⟩;have m:=az d;clear d;go_wp2_with fail;go_meet;exact⟨by rw[e.out];exact m,o⟩
  ·have k4:(s.k==4)=false:=by simpa using d
   have e:Hid (s.nest T=s):=by show _=_;unfold PS.nest;rw[ae d]
   clear d;go_wp2_with fail;go_meet;exact⟨by rw[e.out];exact j,bj.refl _ _⟩
 case rest =>
  obtain⟨h1,z⟩:=hcut;obtain⟨t,S⟩:∃t,t=wc:=⟨wc,rfl⟩;subst S;clear Q;go_wp2_with fail;refine(Kw b c T aa g f vL (s.nest T) [aX 40] t h1.out (by decide) (by decide) (qf _)).mono ?_;rintro r u ⟨⟨x,rfl⟩,l,A⟩;have K:=az l;have C:((s.nest T).aK T [aX 40]).k=s.k:=by rw[(pw _ _ _).2,(Ku T s).1]
  have d0:=ab l.x0 1 _ rfl;have df:=aq l.x0;rw[show #[Value.int IntKind.i64 ((s.nest T).aK T [aX 40]).a,Value.int IntKind.i64 ((s.nest T).aK T [aX 40]).k][1]=Value.int IntKind.i64 s.k from by rw[<- C];rfl]at d0;clear l h1 C;go_wp2_with fail;have y:gw (u.setCell ⟨c,1,none⟩ (.int .i64 (s.k+1))) b c T aa g f vL (((s.nest T).aK T [aX 40]).hE):=by
   have:=K.out.QG (s.k+1);unfold PS.hE;rw[(pw _ _ _).2,(Ku T s).1];exact this
  refine(R _ _ y O.out).mono ?_;rintro r i ⟨v,rfl,d,p4,o⟩;obtain⟨q,p⟩:∃q,q=sub (((s.nest T).aK T [aX 40]).hE):=⟨_,rfl⟩;have N:Hid (s.bracket T sub=((q.1.gC).aK T [aX 41],q.2)):=by show _=_;unfold PS.bracket;rw[<- p]
  rw[<- p]at d p4 n;have m:=az d;have J:Hid (b7 b c w i):=((z.trans A).trans (b7.JI b c u 1 _)).trans o;have P:Hid (eY D (dB w.heap.size) i v q.2):=p4.from (((z.trans A).trans (b7.JI b c u 1 _)).size);have f0:=ab d.x0 1 _ rfl;have U:=aq d.x0;rw[show #[Value.int IntKind.i64 q.1.a,Value.int IntKind.i64 q.1.k][1]=Value.int IntKind.i64 (s.k+1) from by rw[<- n.out];rfl]at f0;clear d p4 y p d0 df;go_wp2_with fail;have L:Hid (gw (i.setCell ⟨c,1,none⟩ (.int .i64 s.k)) b c T aa g f vL q.1.gC):=by
   have:=m.out.QG s.k;unfold PS.gC;rw[n.out,show s.k+1-1=s.k from by omega];exact this
  have F:=Kw b c T aa g f vL q.1.gC [aX 41] _ L.out (by decide) (by decide) (qf _);rw[lM]at F;refine F.mono ?_;rintro r X ⟨⟨x,rfl⟩,E,B⟩;have M:=az E;clear E;go_wp2_with fail;go_ret;unfold x4;rw[N.out];refine⟨v,rfl,M.out,?_,(J.out.trans (b7.JI b c i 1 _)).trans B⟩;exact P.out.aY (bj.trans (b7.JI b c i 1 _) B) j.out.rd.lt (an j.out.x0)
theorem x4.before{b c:Nat}{T:ai}{aa:List ai}{g d vL:Value}{D:Nat}{q:PS×Px}{w w1 w':World}{r:Ending}(h:x4 b c T aa g d vL D q w1 r w')(hc:b7 b c w w1):x4 b c T aa g d vL D q w r w':=by
 obtain⟨v,h1,i,j,n⟩:=h;exact⟨v,h1,i,j.from hc.size,hc.trans n⟩
theorem Mb(b c:Nat)(T:ai)(aa:List ai)(d a vL:Value)(D:Nat)(sub:PS->PS×Px)(s:PS)(w:World)(h:gw w b c T aa d a vL s)(G:1<=D) (A:bH [aX 40] ((s.aQ T).tk T)=true->∀w,gw w b c T aa d a vL (s.aQ T)->Calls prog 248 #[.pointer (some ⟨b,0,none⟩),.pointer (some ⟨c,0,none⟩)] w (x4 b c T aa d a vL D ((s.aQ T).bracket T sub) w)):Calls prog 241 #[.pointer (some ⟨b,0,none⟩),.pointer (some ⟨c,0,none⟩)] w (x4 b c T aa d a vL D (s.atom T aa sub) w):=by
 have y:=az h;have x:=az A;clear h A;go_enter func241,ntmps241;go_wp2_with fail;refine(wG b T d a vL s w y.out.rd).mono ?_;rintro r w1 ⟨rfl,l⟩;have m:=az (y.out.later l)
 go_upto_if 7 with fail
 go_cut [] (fun C=>Hid (gw C b c T aa d a vL (s.aQ T))/\b7 b c w C)
 case first =>
  cases i:s.isAtom T
  ·have e:Hid (s.aQ T=s.fail T 2):=by show _=_;unfold PS.aQ;rw[i];rfl
   go_wp2_with fail;refine(Aq b c T aa d a vL s 2 w1 m.out).mono ?_;rintro r B ⟨rfl,f,n⟩;have j:=az f;clear f;go_wp2_with fail;go_meet;exact⟨by rw[e.out];exact j,(b7.below l).trans n⟩
  ·have e:Hid (s.aQ T=s):=by show _=_;unfold PS.aQ;rw[i];rfl
   go_wp2_with fail;go_meet;exact⟨by rw[e.out];exact m,b7.below l⟩
 case rest =>
  obtain⟨o,F⟩:=hcut;obtain⟨q,I⟩:∃q,q=wc:=⟨wc,rfl⟩;subst I;obtain⟨g,p⟩:∃g,g=s.aQ T:=⟨_,rfl⟩;rw[<- p]at o x;have k:Hid (s.atom T aa sub=if bH [aX 40] (g.tk T)=true then g.bracket T sub else g.one T aa):=by show _=_;unfold PS.atom;rw[<- p]
  clear m l p;go_wp2_with fail;refine(qx b T d a vL g [aX 40] q o.out.rd (by decide) (by decide)).mono ?_;rintro r w3 ⟨rfl,z⟩;have u:=az (o.out.later z);have t:Hid (b7 b c w w3):=F.trans (b7.below z);cases i:bH [aX 40] (g.tk T)
  ·rw[i]at k;go_wp2_with fail;refine(QT b c T aa d a vL g w3 u.out).mono ?_;rintro r B ⟨v,rfl,f,p4,n⟩;have j:=az f;have E:=az p4;clear f p4;go_wp2_with fail;go_ret;rw[k.out];exact x4.before (w1:=w3) ⟨v,rfl,j.out,E.out.qJ G,n⟩ t.out
  ·rw[i]at k;go_wp2_with fail;refine(x.out i w3 u.out).mono ?_;rintro r B H;obtain⟨v,rfl,f⟩:=H;have j:=az f;clear f;go_wp2_with fail;go_ret;rw[k.out];exact x4.before (w1:=w3) ⟨v,rfl,j.out⟩ t.out
theorem fU(L:List ai)(l:List UInt8):bH L l=true↔∃x∈L,x.toList=l:=by
 unfold bH ba;cases a:L.findIdx? (fun x=>x.toList==l)with
 | none =>
  simp;rw[List.findIdx?_eq_none_iff]at a;intro x c e;have:=a x c;simp[e]at this
 | some i =>
  obtain⟨hi,b,_⟩:=q2.1 a;simp at b;simp;exact⟨L[i],bl hi,b⟩
theorem bk(c:UInt8)(l:List UInt8):bH [aX c] l=decide (l=[c]):=by
 rw[kv,fU];simp[vX];exact⟨fun h=>h.symm,fun h=>h.symm⟩
theorem wk(a b c:UInt8)(l:List UInt8):bH [aX a,aX b,aX c] l=(decide (l=[a])||decide (l=[b])||decide (l=[c])):=by
 rw[kv,fU];simp[vX];constructor
 ·rintro(h|h|h)<;>simp[h.symm]
 ·rintro((h|h)|h)<;>simp[h]
def PS.gu(T:ai)(q:PS×Px):PS×Px :=
 if q.1.tk T=[42]then (q.1.step T,q7 q.2)else if q.1.tk T=[43]then (q.1.step T,rq q.2)else if q.1.tk T=[63]then (q.1.step T,mU q.2)else q
theorem zg(T:ai)(s:PS)(a:UInt8)(hc:a=42\/a=43\/a=63)(h:s.tk T=[a]):ce T [aX 42,aX 43,aX 63] s.p=bF T s.p/\s.take T [aX 42,aX 43,aX 63]=s.step T:=by
 have b:bH [aX 42,aX 43,aX 63] (s.tk T)=true:=by rw[wk,h];rcases hc with rfl|rfl|rfl<;>decide
 constructor
 ·unfold ce;rw[show bH _ (bF T s.p).toList=true from b];rfl
 ·unfold PS.take;rw[b];rfl
theorem O4(T:ai)(s:PS)(h1:s.tk T≠[42])(b:s.tk T≠[43])(c:s.tk T≠[63]):ce T [aX 42,aX 43,aX 63] s.p=⟨#[]⟩/\s.take T [aX 42,aX 43,aX 63]=s:=by
 have a:bH [aX 42,aX 43,aX 63] (s.tk T)=false:=by rw[wk];simp[h1,b,c]
 constructor
 ·unfold ce;rw[show bH _ (bF T s.p).toList=false from a];rfl
 ·unfold PS.take;rw[a];rfl
theorem Kg(b c:Nat)(T:ai)(aa:List ai)(t o vL:Value)(D:Nat)(s:PS)(q:PS×Px)(w:World)(h:gw w b c T aa t o vL s) (C:Calls prog 241 #[.pointer (some ⟨b,0,none⟩),.pointer (some ⟨c,0,none⟩)] w (x4 b c T aa t o vL (D+1) q w)):Calls prog 223 #[.pointer (some ⟨b,0,none⟩),.pointer (some ⟨c,0,none⟩)] w (x4 b c T aa t o vL (D+2) (PS.gu T q) w):=by
 have B:=az h;have H:=az C;clear h C;go_enter func223,ntmps223;go_wp2_with fail;refine H.out.mono ?_;rintro r J I;obtain⟨v,rfl,h1,G,y⟩:=I;have A:=az h1;have P1:=az G;clear h1 G;go_wp2_with fail;refine(Jk b c T aa t o vL q.1 [aX 42,aX 43,aX 63] J A.out (by decide) (by decide)).mono ?_;rintro r z ⟨rfl,d,n⟩;have m:=az (P1.out.aY n B.out.rd.lt (an B.out.x0));have x:=az ((b7.trans y n).size);have l:=az (b7.trans y n);clear y n P1 A
 by_cases a:q.1.tk T=[42]
 ·obtain⟨f1,f2⟩:=zg T q.1 42 (by decide) a;have i:Hid (PS.gu T q=(q.1.step T,q7 q.2)):=by show _=_;unfold PS.gu;rw[ag a]
  rw[f2]at d;rw[f1];have E:((bF T q.1.p).toList==[42])=true:=by rw[bL];exact a
  have g:=az d;clear a f1 f2 d;go_wp2_with fail;refine(Jt w.heap.size (D+1) q.2 v z m.out x.out).mono ?_;rintro r w3 ⟨u,rfl,f,b3⟩;have k:=az f;clear f;go_wp2_with fail;go_ret;rw[i.out];exact⟨u,rfl,g.out.later b3,k.out,l.out.trans (b7.below b3)⟩
 ·have E:((bF T q.1.p).toList==[42])=false:=by rw[aO];exact a
  by_cases e:q.1.tk T=[43]
  ·obtain⟨f1,f2⟩:=zg T q.1 43 (by decide) e;have i:Hid (PS.gu T q=(q.1.step T,rq q.2)):=by show _=_;unfold PS.gu;rw[ae a,ag e]
   rw[f2]at d;rw[f1];have F:((bF T q.1.p).toList==[43])=true:=by rw[bL];exact e
   have g:=az d;clear a e f1 f2 d;go_wp2_with fail;refine(Kc w.heap.size (D+1) q.2 v z m.out x.out).mono ?_;rintro r w3 ⟨u,rfl,f,b3⟩;have k:=az f;clear f;go_wp2_with fail;go_ret;rw[i.out];exact⟨u,rfl,g.out.later b3,k.out,l.out.trans (b7.below b3)⟩
  ·have F:((bF T q.1.p).toList==[43])=false:=by rw[aO];exact e
   by_cases j:q.1.tk T=[63]
   ·obtain⟨f1,f2⟩:=zg T q.1 63 (by decide) j;have i:Hid (PS.gu T q=(q.1.step T,mU q.2)):=by show _=_;unfold PS.gu;rw[ae a,ae e,ag j]
    rw[f2]at d;rw[f1];have K:((bF T q.1.p).toList==[63])=true:=by rw[bL];exact j
    have g:=az d;clear a e j f1 f2 d;go_wp2_with fail;refine(Hz w.heap.size D q.2 v z m.out x.out).mono ?_;rintro r w3 ⟨u,rfl,f,b3⟩;have k:=az f;clear f;go_wp2_with fail;go_ret;rw[i.out];exact⟨u,rfl,g.out.later b3,k.out,l.out.trans (b7.below b3)⟩
   ·obtain⟨f1,f2⟩:=O4 T q.1 a e j;have i:Hid (PS.gu T q=q):=by show _=_;unfold PS.gu;rw[ae a,ae e,ae j]
    rw[f2]at d;rw[f1];have g:=az d;clear a e j f1 f2 d E F;go_wp2_with fail;go_ret;rw[i.out];exact⟨v,rfl,g.out,m.out.qJ (by omega),l.out⟩
theorem Tryz.Cq:(prog.info? 224).map (fun i=>(i.zero,i.size,i.bytes))=some (some .nilFunc,1,8):=by kernel_rfl
theorem Tryz.Fj:prog.underlying 337=some (.slice 224):=by kernel_rfl
def bN(T:ai)(P:PS->PS×Px):Prop:=∀s:PS,s.p<=T.size->(P s).1.k=s.k/\s.p<=(P s).1.p/\(P s).1.p<=T.size/\(s.p<T.size->s.p<(P s).1.p)
def yp(n:Nat)(T:ai)(s:PS):Prop:=s.p=T.size\/(s.k+n=5/\0<=s.k/\s.k<=4)
theorem yp.on{n:Nat}{T:ai}{s d:PS}(h:yp n T s)(g:d.k=s.k)(h1:s.p<=d.p)(i:d.p<=T.size):yp n T d:=by
 rcases h with h|h
 ·left;omega
 ·right;rw[g];exact h
theorem hH(T:ai):(bF T T.size).toList=[]:=by
 unfold bF;rw[kD,bM];simp
theorem lv{T:ai}{s:PS}(d:s.p<=T.size)(h:s.isAtom T=true):s.p<T.size:=by
 rcases cF s.p T.size with h1|h1
 ·exact h1
 ·have e:s.p=T.size:=by omega
  unfold PS.isAtom PS.tk eI at h;rw[e,hH,bk]at h;simp at h
theorem o0{T:ai}{s:PS}{c:UInt8}(d:s.p<=T.size)(h:s.tk T=[c]):s.p<T.size:=by
 rcases cF s.p T.size with h1|h1
 ·exact h1
 ·have e:s.p=T.size:=by omega
  unfold PS.tk at h;rw[e,hH]at h;simp at h
namespace PS
def cS(T:ai)(P:PS->PS×Px):Nat->PS->List Px->PS×List Px
 | 0,s,l=>(s,l)
 | g+1,s,l=>if s.isAtom T=true then cS T P g (P s).1 (l++[(P s).2])else (s,l)
def iT(T:ai)(P:PS->PS×Px)(s:PS):PS×Px:=((cS T P (T.size+1) (P s).1 [(P s).2]).1,eA (cS T P (T.size+1) (P s).1 [(P s).2]).2)
def bo(T:ai)(R:PS->PS×Px):Nat->PS->List Px->PS×List Px
 | 0,s,l=>(s,l)
 | g+1,s,l=>if s.tk T=[47]then bo T R g (R (s.step T)).1 (l++[(R (s.step T)).2])else (s,l)
def rK(T:ai)(R:PS->PS×Px)(s:PS):PS×Px:=((bo T R (T.size+1) (R s).1 [(R s).2]).1,ff (bo T R (T.size+1) (R s).1 [(R s).2]).2)
end PS
def ei(D N:Nat)(w:World)(v:Value)(l:List Px):Prop :=
 ∃us:List Value,us.length=l.length/\w.ownsRow N 224 1 v l.length us/\∀(i:Nat) (u:Value) (x:Px),us[i]?=some u->l[i]?=some x->eY D (fun k=>N<=k/\v.ownBlock≠some k) w u x
theorem ei.aY{D N b c:Nat}{w w':World}{v:Value}{l:List Px}(h:ei D N w v l)(hc:b7 b c w w')(hb:b<N)(B:c<N):ei D N w' v l:=by
 obtain⟨y,h1,g,n⟩:=h;have d:∀k,k<w.heap.size->N<=k->w'.heap[k]?=w.heap[k]?:=fun k d C=>bj.block hc k d (fun e=>by rcases e with e|e<;>omega)
 refine⟨y,h1,qg g fun k e=>d k (g.lt k e).2 (g.lt k e).1,fun i u x hu q=>(n i u x hu q).iS (fun k A t m o _ j=>?_) fun _ _ h=>h⟩;rw[d k (an j) o.1];exact j
theorem ei.later{D N:Nat}{w w':World}{v:Value}{l:List Px}(h:ei D N w v l)(hb:Below w.heap.size w w'):ei D N w' v l:=by
 obtain⟨o,h1,d,g⟩:=h;exact⟨o,h1,al d (Kp.below hb),fun i u x hu n=>(g i u x hu n).iS (eZ.below hb fun _ j _=>j) fun _ _ h=>h⟩
theorem ei.new{D N:Nat}{w:World}{u:Value}{x:Px}(h:eY D (dB N) w u x)(n:N<=w.heap.size):ei D N (w.alloc (.cells #[u] 224)) (.slice (some ⟨w.heap.size,0,none⟩) 1 1) [x]:=by
 refine⟨[u],rfl,⟨rfl,ac ⟨w.heap.size,1,#[u],rfl,n,aw _ _,ar _,by decide,rfl,rfl⟩⟩,fun i y z d j=>?_⟩;cases i with
 | zero =>
  simp at d j;subst d;subst j;exact h.iS (eZ.below (af w _) fun _ g _=>g) fun k g o=>⟨o,by simp[Value.ownBlock];omega⟩
 | succ i=>simp at d
theorem ei.push{D N:Nat}{w w':World}{v g u:Value}{l:List Px}{x:Px}{us:List Value}(h1:us.length=l.length) (q:∀(i:Nat) (u:Value) (x:Px),us[i]?=some u->l[i]?=some x->eY D (fun k=>N<=k/\v.ownBlock≠some k) w u x) (hu:eY D (fun k=>N<=k/\v.ownBlock≠some k) w u x) (A:w'.ownsRow N 224 1 g (l.length+1) (us++[u])) (hg:w.grownBy w' v.ownBlock) (B:eX w v g):ei D N w' g (l++[x]):=by
 have iS:∀y z,eY D (fun k=>N<=k/\v.ownBlock≠some k) w y z->eY D (fun k=>N<=k/\g.ownBlock≠some k) w' y z:=by
  intro y z h;refine h.iS (fun k E t m d _ n=>?_) fun k F d=>⟨d.1,?_⟩
  ·rw[hg.block k (an n) (fun e=>d.2 e.symm)];exact n
  ·rcases B with e|e
   ·rw[e];exact d.2
   ·rw[e];simp;omega
 refine⟨us++[u],by simp[h1],by rw[aF];exact A,fun i y z C o=>?_⟩;rcases bD C with⟨j,a2⟩|⟨j,rfl⟩
 ·rcases bD o with⟨b1,b2⟩|⟨b1,rfl⟩
  ·exact iS _ _ (q i y z j b1)
  ·omega
 ·rcases bD o with⟨b1,b2⟩|⟨b1,rfl⟩
  ·omega
  ·exact iS _ _ hu
theorem ei.row{D N:Nat}{w:World}{v:Value}{l:List Px}(h:ei D N w v l)(j:l.length<=9000):gv (eY D (dB N) w) (dB N) w v l:=by
 obtain⟨o,h1,d,g⟩:=h;exact⟨o,h1,j,bX d (aJ _),fun k e=>(d.lt k e).1,fun i u x hu n=>(g i u x hu n).iS (eZ.refl _ _) fun _ _ h=>h.1⟩
theorem gw.kp{w w':World}{b c:Nat}{T:ai}{aa:List ai}{g d vL:Value}{s:PS}(h:gw w b c T aa g d vL s)(i:Kp 141 w w')(j:Kp 289 w w')(n:Kp 9 w w'):gw w' b c T aa g d vL s :=
 ⟨⟨i _ _ _ h.rd.da,h.rd.le,h.rd.short⟩,j _ _ _ h.x0,al h.row n,h.iL⟩
theorem gw.grown{w w':World}{b c base n:Nat}{T:ai}{aa:List ai}{i g vL v:Value}{us:List Value}{s:PS}(h:gw w b c T aa i g vL s)(d:w.ownsRow base 224 1 v n us)(hg:w.grownBy w' v.ownBlock):gw w' b c T aa i g vL s :=
 h.kp ((Kp.refl _ _).grown d hg (by decide)) ((Kp.refl _ _).grown d hg (by decide)) ((Kp.refl _ _).grown d hg (by decide))
theorem qL(w:World)(v:Value)(t:TypeId):∀(j:Nat) (u:Value),[v][j]?=some u->(w.alloc (.cells #[v] t)).cell? ⟨w.heap.size,j,none⟩=some u:=fun j u hu=>ab (aw w _) j u (by simpa using hu)
theorem Kl(f q:Nat):∀u∈[gW f q],u.oneCell'=true:=by intro u hu;simp at hu;subst hu;rfl
theorem dN(b c:Nat)(T:ai)(aa:List ai)(t o vL:Value)(n D:Nat)(P:PS->PS×Px)(a9:bN T P) (c1:∀(s:PS) (w:World),gw w b c T aa t o vL s->yp n T s->Calls prog 223 #[.pointer (some ⟨b,0,none⟩),.pointer (some ⟨c,0,none⟩)] w (x4 b c T aa t o vL D (P s) w)) (s:PS) (w:World) (h:gw w b c T aa t o vL s) (b8:yp n T s):Calls prog 207 #[.pointer (some ⟨b,0,none⟩),.pointer (some ⟨c,0,none⟩)] w (x4 b c T aa t o vL (D+1) (PS.iT T P s) w):=by
 have c7:Hid (gw w b c T aa t o vL s):=h;have Z:Hid (yp n T s):=b8;have e8:=h.rd.le;have g5:=h.rd.short;have e4:=h.rd.lt;have e5:=an h.x0;have a0:Hid (bN T P):=a9;have a1:Hid (∀(s:PS) (w:World),gw w b c T aa t o vL s->yp n T s->Calls prog 223 #[.pointer (some ⟨b,0,none⟩),.pointer (some ⟨c,0,none⟩)] w (x4 b c T aa t o vL D (P s) w)):=c1;clear h b8 a9 c1;go_enter func207,ntmps207;go_wp2_with fail;refine(a1.out s w c7.out Z.out).mono ?_;rintro r J S;obtain⟨v,rfl,h1,V,O⟩:=S;obtain⟨f,q,rfl⟩:=V.fn;have Y:Hid (gw (J.alloc (.cells #[gW f q] 224)) b c T aa t o vL (P s).1):=h1.later (af _ _);have M1:Hid (ei D w.heap.size (J.alloc (.cells #[gW f q] 224)) (.slice (some ⟨J.heap.size,0,none⟩) 1 1) [(P s).2]):=ei.new V O.size;have C1:Hid (b7 b c w (J.alloc (.cells #[gW f q] 224))):=bj.alloc O _;have A:=a0.out s e8;have a2:Hid (yp n T (P s).1):=Z.out.on A.1 A.2.1 A.2.2.1;have c8:Hid (PS.cS T P (T.size+1) (P s).1 [(P s).2]=PS.cS T P (T.size+1) (P s).1 [(P s).2]):=rfl;clear h1 V O A;unfold gW;go_wp2_with fail
 go_loopg [5] (T.size+1) (fun g v5 X=>∃(d:PS) (l:List Px),Hid (gw X b c T aa t o vL d)/\Hid (yp n T d)/\Hid (ei D w.heap.size X v5 l)/\Hid (b7 b c w X)/\Hid (PS.cS T P g d l=PS.cS T P (T.size+1) (P s).1 [(P s).2])/\T.size<d.p+g/\l.length<=d.p+1)
 case atStart=>exact⟨_,_,Y,a2,M1,C1,rfl,by omega,by simp⟩
 case round =>
  obtain⟨d,l,G,a8,a7,a5,a6,hg,g8⟩:=hrel;obtain⟨W,g1⟩:∃W,W=wr:=⟨wr,rfl⟩;subst g1;have b6:=G.out.rd.le;obtain⟨F,e6⟩:∃F,gk=F+1:=⟨gk-1,by omega⟩;subst e6;clear Y M1 C1 a2 c8;go_wp2_with fail;refine(wG b T t o vL d W G.out.rd).mono ?_;rintro r w3 ⟨rfl,H⟩;have K:Hid (gw w3 b c T aa t o vL d):=G.out.later H;have C:Hid (ei D w.heap.size w3 u5 l):=a7.out.later H;have B:Hid (b7 b c w w3):=b7.trans a5.out (b7.below H);clear G a7 a5 H;cases R:d.isAtom T
  ·have e:Hid (PS.cS T P (T.size+1) (P s).1 [(P s).2]=(d,l)):=by show _=_;rw[<- a6.out,PS.cS,R];rfl
   go_wp2_with fail;have U:w.heap.size<=w3.heap.size:=B.out.size;refine(v1 w.heap.size D l u5 w3 (C.out.row (by omega)) U).mono ?_;rintro r j ⟨u,rfl,p4,b4⟩;have e0:Hid (eY (D+1) (dB w.heap.size) j u (eA l)):=p4;clear p4;go_wp2_with fail;go_ret;refine⟨u,rfl,?_,?_,b7.trans B.out (b7.below b4)⟩
   ·show gw j b c T aa t o vL (PS.cS T P (T.size+1) (P s).1 [(P s).2]).1;rw[e.out];exact K.out.later b4
   ·show eY (D+1) _ _ _ (eA (PS.cS T P (T.size+1) (P s).1 [(P s).2]).2);rw[e.out];exact e0.out
  ·have e9:=lv b6 R;have e:Hid (PS.cS T P F (P d).1 (l++[(P d).2])=PS.cS T P (T.size+1) (P s).1 [(P s).2]):=by show _=_;rw[<- a6.out,PS.cS,R];rfl
   have A:=a0.out d b6;have c9:Hid (yp n T (P d).1):=a8.out.on A.1 A.2.1 A.2.2.1;have g7:=A.2.2.2 e9;clear A;go_wp2_with fail;refine(a1.out d w3 K.out a8.out).mono ?_;rintro r j S;obtain⟨v4,rfl,a4,p4,E⟩:=S;obtain⟨f4,y,rfl⟩:=p4.fn;have U:w.heap.size<=w3.heap.size:=B.out.size;have e3:=(C.out.aY E e4 e5).later (af j (.cells #[gW f4 y] 224));obtain⟨I,m1,m2,m3⟩:=e3;have c0:∀k,u5.ownBlock=some k->k<w3.heap.size:=by
    obtain⟨_,_,g2,_⟩:=C.out;exact fun k e=>(g2.lt k e).2
   have c2:eY D (fun k=>w.heap.size<=k/\u5.ownBlock≠some k) (j.alloc (.cells #[gW f4 y] 224)) (gW f4 y) (P d).2 :=
    p4.iS (eZ.below (af j _) fun _ e7 _=>e7) fun k _ b5=>⟨aE U b5,fun e=>by have:=c0 k e;have g6:w3.heap.size<=k:=b5;omega⟩
   have c5:Hid (gw (j.alloc (.cells #[gW f4 y] 224)) b c T aa t o vL (P d).1):=a4.later (af _ _);have c4:Hid (b7 b c w (j.alloc (.cells #[gW f4 y] 224))):=bj.alloc (b7.trans B.out E) _;have M:Hid ((j.alloc (.cells #[gW f4 y] 224)).ownsRow w.heap.size 224 1 u5 l.length I):=m2;have N:Hid (I.length=l.length/\(∀(i:Nat) (u:Value) (x:Px),I[i]?=some u->l[i]?=some x->eY D (fun k=>w.heap.size<=k/\u5.ownBlock≠some k) (j.alloc (.cells #[gW f4 y] 224)) u x)/\eY D (fun k=>w.heap.size<=k/\u5.ownBlock≠some k) (j.alloc (.cells #[gW f4 y] 224)) (gW f4 y) (P d).2):=⟨m1,m3,c2⟩;have e1:Hid (w.heap.size<=j.heap.size):=(b7.trans B.out E).size;obtain⟨e2,au,rfl⟩:=ak m2;clear a4 p4 E m1 m2 m3 c2 c0 K C B;unfold gW;go_wp2_with (at_builtin;go_loud (refine bs rfl (.tmp 12) (.tmp 16) 337 rfl w.heap.size 224 .nilFunc 1 8 Tryz.Cq Tryz.Fj rfl (by decide) (.slice e2 l.length au) l.length I rfl (by exact M.out) j.heap.size 1 [gW f4 y] rfl rfl (by exact qL j (gW f4 y) _) (Kl _ _) (by omega) (by omega) (by have:=e1.out;simp;omega) ?_);intro g9 h0 b9 Q g0;obtain⟨g3,g4,rfl⟩:=ak b9);go_roundg F
   case measure=>omega
   case rel =>
    refine⟨(P d).1,l++[(P d).2],c5.out.grown M.out Q,c9,?_,?_,e,by omega,by rw[aF];simp;omega⟩
    ·exact ei.push N.out.1 N.out.2.1 N.out.2.2 b9 Q g0
    ·exact bj.grown c4.out Q fun k e=>ah (M.out.lt k e).1
theorem Lw(b c:Nat)(T:ai)(aa:List ai)(j d vL:Value)(n D:Nat)(R:PS->PS×Px)(b0:bN T R) (c0:∀(s:PS) (w:World),gw w b c T aa j d vL s->yp n T s->Calls prog 207 #[.pointer (some ⟨b,0,none⟩),.pointer (some ⟨c,0,none⟩)] w (x4 b c T aa j d vL D (R s) w)) (s:PS) (w:World) (h:gw w b c T aa j d vL s) (b6:yp n T s):Calls prog 175 #[.pointer (some ⟨b,0,none⟩),.pointer (some ⟨c,0,none⟩)] w (x4 b c T aa j d vL (D+1) (PS.rK T R s) w):=by
 have c7:Hid (gw w b c T aa j d vL s):=h;have a1:Hid (yp n T s):=b6;have e7:=h.rd.le;have g4:=h.rd.short;have b2:=h.rd.lt;have b3:=an h.x0;have a2:Hid (bN T R):=b0;have a3:Hid (∀(s:PS) (w:World),gw w b c T aa j d vL s->yp n T s->Calls prog 207 #[.pointer (some ⟨b,0,none⟩),.pointer (some ⟨c,0,none⟩)] w (x4 b c T aa j d vL D (R s) w)):=c0;clear h b6 b0 c0;go_enter func175,ntmps175;go_wp2_with fail;refine(a3.out s w c7.out a1.out).mono ?_;rintro r M V;obtain⟨v,rfl,h1,X,Q⟩:=V;obtain⟨f,q,rfl⟩:=X.fn;have a0:Hid (gw (M.alloc (.cells #[gW f q] 224)) b c T aa j d vL (R s).1):=h1.later (af _ _);have M1:Hid (ei D w.heap.size (M.alloc (.cells #[gW f q] 224)) (.slice (some ⟨M.heap.size,0,none⟩) 1 1) [(R s).2]):=ei.new X Q.size;have C1:Hid (b7 b c w (M.alloc (.cells #[gW f q] 224))):=bj.alloc Q _;have t:=a2.out s e7;have a4:Hid (yp n T (R s).1):=a1.out.on t.1 t.2.1 t.2.2.1;have c8:Hid (PS.bo T R (T.size+1) (R s).1 [(R s).2]=PS.bo T R (T.size+1) (R s).1 [(R s).2]):=rfl;clear h1 X Q t;unfold gW;go_wp2_with fail
 go_loopg [5] (T.size+1) (fun g v5 Z=>∃(a:PS) (l:List Px),Hid (gw Z b c T aa j d vL a)/\Hid (yp n T a)/\Hid (ei D w.heap.size Z v5 l)/\Hid (b7 b c w Z)/\Hid (PS.bo T R g a l=PS.bo T R (T.size+1) (R s).1 [(R s).2])/\T.size<a.p+g/\l.length<=a.p+1)
 case atStart=>exact⟨_,_,a0,a4,M1,C1,rfl,by omega,by simp⟩
 case round =>
  obtain⟨a,l,S,e3,a9,a7,a8,hg,g6⟩:=hrel;obtain⟨Y,g0⟩:∃Y,Y=wr:=⟨wr,rfl⟩;subst g0;have b5:=S.out.rd.le;obtain⟨J,e5⟩:∃J,gk=J+1:=⟨gk-1,by omega⟩;subst e5;clear a0 M1 C1 a4 c8;go_wp2_with fail;refine(Jk b c T aa j d vL a [aX 47] Y S.out (by decide) (by decide)).mono ?_;rintro r w3 ⟨rfl,C,c3⟩;have H:Hid (ei D w.heap.size w3 u5 l):=a9.out.aY c3 b2 b3;have B:Hid (b7 b c w w3):=b7.trans a7.out c3;clear S a9 a7 c3
  by_cases y:a.tk T=[47]
  ·have A:bH [aX 47] (a.tk T)=true:=by rw[bk];simp[y]
   have F:ce T [aX 47] a.p=bF T a.p:=by unfold ce;rw[show bH _ (bF T a.p).toList=true from A];rfl
   have G:a.take T [aX 47]=a.step T:=by unfold PS.take;rw[A];rfl
   rw[G]at C;rw[F];have E:Hid (gw w3 b c T aa j d vL (a.step T)):=C;have e8:=o0 b5 y;have K:=cx T a.p b5;have e:Hid (PS.bo T R J (R (a.step T)).1 (l++[(R (a.step T)).2])=PS.bo T R (T.size+1) (R s).1 [(R s).2]):=by show _=_;rw[<- a8.out,PS.bo,ag y]
   have g7:(bF T a.p).toList.isEmpty=false:=by rw[show (bF T a.p).toList=[47] from y];rfl
   have P:Hid (yp n T (a.step T)):=e3.out.on rfl K.2.1 K.1;have t:=a2.out (a.step T) K.1;have a5:Hid (yp n T (R (a.step T)).1):=P.out.on t.1 t.2.1 t.2.2.1;have e4:a.p<(R (a.step T)).1.p:=by have:=t.2.1;have:=K.2.2 e8;have e:(a.step T).p=hq T a.p:=rfl;omega
   clear t y A F G C;obtain⟨z,c1⟩:∃z,z=a.step T:=⟨_,rfl⟩;rw[<- c1]at E e P a5 e4;clear c1;go_wp2_with fail;refine(a3.out z w3 E.out P.out).mono ?_;rintro r m V;obtain⟨v4,rfl,a6,p4,I⟩:=V;obtain⟨f4,o,rfl⟩:=p4.fn;have W:w.heap.size<=w3.heap.size:=B.out.size;have e2:=(H.out.aY I b2 b3).later (af m (.cells #[gW f4 o] 224));obtain⟨L,m1,m2,m3⟩:=e2;have b9:∀k,u5.ownBlock=some k->k<w3.heap.size:=by
    obtain⟨_,_,g1,_⟩:=H.out;exact fun k e=>(g1.lt k e).2
   have c2:eY D (fun k=>w.heap.size<=k/\u5.ownBlock≠some k) (m.alloc (.cells #[gW f4 o] 224)) (gW f4 o) (R z).2 :=
    p4.iS (eZ.below (af m _) fun _ e6 _=>e6) fun k _ b1=>⟨aE W b1,fun e=>by have:=b9 k e;have g5:w3.heap.size<=k:=b1;omega⟩
   have c5:Hid (gw (m.alloc (.cells #[gW f4 o] 224)) b c T aa j d vL (R z).1):=a6.later (af _ _);have c4:Hid (b7 b c w (m.alloc (.cells #[gW f4 o] 224))):=bj.alloc (b7.trans B.out I) _;have N:Hid ((m.alloc (.cells #[gW f4 o] 224)).ownsRow w.heap.size 224 1 u5 l.length L):=m2;have O:Hid (L.length=l.length/\(∀(i:Nat) (u:Value) (x:Px),L[i]?=some u->l[i]?=some x->eY D (fun k=>w.heap.size<=k/\u5.ownBlock≠some k) (m.alloc (.cells #[gW f4 o] 224)) u x)/\eY D (fun k=>w.heap.size<=k/\u5.ownBlock≠some k) (m.alloc (.cells #[gW f4 o] 224)) (gW f4 o) (R z).2):=⟨m1,m3,c2⟩;have e0:Hid (w.heap.size<=m.heap.size):=(b7.trans B.out I).size;obtain⟨e1,au,rfl⟩:=ak m2;clear a6 p4 I m1 m2 m3 c2 b9 E H B;unfold gW;go_wp2_with (at_builtin;go_loud (refine bs rfl (.tmp 14) (.tmp 18) 337 rfl w.heap.size 224 .nilFunc 1 8 Tryz.Cq Tryz.Fj rfl (by decide) (.slice e1 l.length au) l.length L rfl (by exact N.out) m.heap.size 1 [gW f4 o] rfl rfl (by exact qL m (gW f4 o) _) (Kl _ _) (by omega) (by omega) (by have:=e0.out;simp;omega) ?_);intro g8 g9 b8 U e9;obtain⟨g2,g3,rfl⟩:=ak b8);go_roundg J
   case measure=>omega
   case rel =>
    refine⟨(R z).1,l++[(R z).2],c5.out.grown N.out U,a5,?_,?_,e,by omega,by rw[aF];simp;omega⟩
    ·exact ei.push O.out.1 O.out.2.1 O.out.2.2 b8 U e9
    ·exact bj.grown c4.out U fun k e=>ah (N.out.lt k e).1
  ·have A:bH [aX 47] (a.tk T)=false:=by rw[bk];simp[y]
   have F:ce T [aX 47] a.p=⟨#[]⟩:=by unfold ce;rw[show bH _ (bF T a.p).toList=false from A];rfl
   have G:a.take T [aX 47]=a:=by unfold PS.take;rw[A];rfl
   rw[G]at C;rw[F];have E:Hid (gw w3 b c T aa j d vL a):=C;have e:Hid (PS.bo T R (T.size+1) (R s).1 [(R s).2]=(a,l)):=by show _=_;rw[<- a8.out,PS.bo,ae y]
   clear y A F G C;go_wp2_with fail;have W:w.heap.size<=w3.heap.size:=B.out.size;refine(rM w.heap.size D l u5 w3 (H.out.row (by omega)) W).mono ?_;rintro r m ⟨u,rfl,p4,b4⟩;have c9:Hid (eY (D+1) (dB w.heap.size) m u (ff l)):=p4;clear p4;go_wp2_with fail;go_ret;refine⟨u,rfl,?_,?_,b7.trans B.out (b7.below b4)⟩
   ·show gw m b c T aa j d vL (PS.bo T R (T.size+1) (R s).1 [(R s).2]).1;rw[e.out];exact E.out.later b4
   ·show eY (D+1) _ _ _ (ff (PS.bo T R (T.size+1) (R s).1 [(R s).2]).2);rw[e.out];exact c9.out
namespace PS
def di(T:ai)(aa:List ai)(sub:PS->PS×Px)(s:PS):PS×Px:=gu T (s.atom T aa sub)
def w5(T:ai)(aa:List ai)(sub:PS->PS×Px)(s:PS):PS×Px:=rK T (iT T (di T aa sub)) s
def expr(T:ai)(aa:List ai):Nat->PS->PS×Px
 | 0,s=>w5 T aa (fun s=>(s,eA [])) s
 | n+1,s=>w5 T aa (expr T aa n) s
end PS
def Goes(T:ai)(s d:PS):Prop:=d.k=s.k/\s.p<=d.p/\d.p<=T.size
def A0(T:ai)(s d:PS):Prop:=Goes T s d/\(s.p<T.size->s.p<d.p)
theorem Goes.refl{T:ai}{s:PS}(h:s.p<=T.size):Goes T s s:=⟨rfl,ar _,h⟩
theorem Goes.trans{T:ai}{a b c:PS}(h:Goes T a b)(k:Goes T b c):Goes T a c:=⟨k.1.trans h.1,aE h.2.1 k.2.1,k.2.2⟩
theorem A0.trans{T:ai}{a b c:PS}(h:A0 T a b)(k:Goes T b c):A0 T a c:=⟨h.1.trans k,fun e=>cI (h.2 e) k.2.1⟩
theorem Goes.P6{T:ai}{a b c:PS}(h:Goes T a b)(k:A0 T b c):A0 T a c:=⟨h.trans k.1,fun e=>by
 have h1:=h.2.1;have g:=k.1.2.1;have i:=k.1.2.2;have j:=h.2.2;rcases cF b.p T.size with d|d
 ·have:=k.2 d;omega
 ·omega⟩
theorem xq(T:ai)(s:PS)(no:Int)(h:s.p<=T.size):A0 T s (s.fail T no):=⟨⟨rfl,h,ar _⟩,fun e=>e⟩
theorem ga(T:ai)(s:PS)(h:s.p<=T.size):A0 T s (s.step T):=⟨⟨rfl,(cx T s.p h).2.1,(cx T s.p h).1⟩,(cx T s.p h).2.2⟩
theorem gb(T:ai)(L:List ai)(s:PS)(h:s.p<=T.size):A0 T s (s.aK T L):=by
 unfold PS.aK;split
 ·exact ga T s h
 ·exact xq T s 2 h
theorem jr{T:ai}{s:PS}{c:Prop}[Decidable c](no:Int)(h:s.p<=T.size):Goes T s (if c then s.fail T no else s):=by
 split
 ·exact(xq T s no h).1
 ·exact Goes.refl h
theorem iJ{T:ai}{s:PS}{c:Prop}[Decidable c](no:Int)(h:s.p<=T.size):Goes T s (if c then s else s.fail T no):=by
 split
 ·exact Goes.refl h
 ·exact(xq T s no h).1
theorem tL(T:ai)(aa:List ai)(s:PS)(h:s.p<=T.size):A0 T s (s.one T aa).1:=by
 have h1:Goes T s (s.known T aa):=iJ 3 h;have d:Goes T (s.known T aa) ((s.known T aa).many T):=jr 6 h1.2.2;have g:Goes T ((s.known T aa).many T) ((s.known T aa).many T).more:=⟨rfl,ar _,d.2.2⟩;exact((h1.trans d).trans g).P6 (ga T _ d.2.2)
theorem Dg(T:ai)(sub:PS->PS×Px)(q:bN T sub)(s:PS)(h:s.p<=T.size):A0 T s (s.bracket T sub).1:=by
 have h1:Goes T s (s.nest T):=jr 6 h;have j:=gb T [aX 40] (s.nest T) h1.2.2;have g:=q (((s.nest T).aK T [aX 40]).hE) j.1.2.2;have o:((sub (((s.nest T).aK T [aX 40]).hE)).1.gC).p<=T.size:=g.2.2.1;have i:=gb T [aX 41] _ o;have d:=h1.P6 j;have u:(((s.nest T).aK T [aX 40]).hE).p=((s.nest T).aK T [aX 40]).p:=rfl;have v:((sub (((s.nest T).aK T [aX 40]).hE)).1.gC).p=(sub (((s.nest T).aK T [aX 40]).hE)).1.p:=rfl;have n:((sub (((s.nest T).aK T [aX 40]).hE)).1.gC).k=s.k:=by
  show (sub (((s.nest T).aK T [aX 40]).hE)).1.k-1=s.k;rw[g.1];show ((s.nest T).aK T [aX 40]).k+1-1=s.k;rw[d.1.1];omega
 have t:=i.1.2.1;have a2:=g.2.1;have a3:=d.1.2.1;have a4:=i.1.2.2;refine⟨⟨?_,?_,a4⟩,fun e=>?_⟩
 ·show ((sub (((s.nest T).aK T [aX 40]).hE)).1.gC.aK T [aX 41]).k=s.k;rw[i.1.1,n]
 ·show s.p<=((sub (((s.nest T).aK T [aX 40]).hE)).1.gC.aK T [aX 41]).p;omega
 ·show s.p<((sub (((s.nest T).aK T [aX 40]).hE)).1.gC.aK T [aX 41]).p;have:=d.2 e;omega
theorem pS(T:ai)(aa:List ai)(sub:PS->PS×Px)(d:bN T sub)(s:PS)(h:s.p<=T.size):A0 T s (s.atom T aa sub).1:=by
 have h1:Goes T s (s.aQ T):=iJ 2 h;unfold PS.atom;split
 ·exact h1.P6 (Dg T sub d _ h1.2.2)
 ·exact h1.P6 (tL T aa _ h1.2.2)
theorem iu(T:ai)(s:PS)(q:PS×Px)(h:A0 T s q.1):A0 T s (PS.gu T q).1:=by
 have h1:=h.1.2.2;unfold PS.gu;split
 ·exact h.trans (ga T _ h1).1
 ·split
  ·exact h.trans (ga T _ h1).1
  ·split
   ·exact h.trans (ga T _ h1).1
   ·exact h
theorem c4{T:ai}{P:PS->PS×Px}:bN T P↔∀s:PS,s.p<=T.size->A0 T s (P s).1 :=
 ⟨fun h s d=>⟨⟨(h s d).1,(h s d).2.1,(h s d).2.2.1⟩,(h s d).2.2.2⟩,fun h s d=>⟨(h s d).1.1,(h s d).1.2.1,(h s d).1.2.2,(h s d).2⟩⟩
theorem dw(T:ai)(aa:List ai)(sub:PS->PS×Px)(d:bN T sub):bN T (PS.di T aa sub) :=
 c4.2 fun s h=>iu T s _ (pS T aa sub d s h)
theorem HX(T:ai)(P:PS->PS×Px)(d:bN T P):∀(g:Nat) (s:PS) (l:List Px),s.p<=T.size->Goes T s (PS.cS T P g s l).1:=by
 intro g
 induction g with
 | zero=>intro s l h;exact Goes.refl h
 | succ g i =>
  intro s l h;rw[PS.cS];split
  ·have h1:=c4.1 d s h;exact h1.1.trans (i _ _ h1.1.2.2)
  ·exact Goes.refl h
theorem good_row(T:ai)(P:PS->PS×Px)(d:bN T P):bN T (PS.iT T P) :=
 c4.2 fun s h=>(c4.1 d s h).trans (HX T P d _ _ _ (c4.1 d s h).1.2.2)
theorem Ex(T:ai)(R:PS->PS×Px)(d:bN T R):∀(g:Nat) (s:PS) (l:List Px),s.p<=T.size->Goes T s (PS.bo T R g s l).1:=by
 intro g
 induction g with
 | zero=>intro s l h;exact Goes.refl h
 | succ g i =>
  intro s l h;rw[PS.bo];split
  ·have h0:=ga T s h;have h1:=c4.1 d (s.step T) h0.1.2.2;exact(h0.1.trans h1.1).trans (i _ _ h1.1.2.2)
  ·exact Goes.refl h
theorem wN(T:ai)(R:PS->PS×Px)(d:bN T R):bN T (PS.rK T R) :=
 c4.2 fun s h=>(c4.1 d s h).trans (Ex T R d _ _ _ (c4.1 d s h).1.2.2)
theorem gq(T:ai)(aa:List ai)(s:PS)(h:s.p<=T.size):A0 T s (s.atom T aa (fun s=>(s,eA []))).1:=by
 have h1:Goes T s (s.aQ T):=iJ 2 h;unfold PS.atom;split
 ·have i:Goes T (s.aQ T) ((s.aQ T).nest T):=jr 6 h1.2.2;have d:=gb T [aX 40] ((s.aQ T).nest T) i.2.2;have g:=gb T [aX 41] (((((s.aQ T).nest T).aK T [aX 40]).hE).gC) d.1.2.2;have o:A0 T ((s.aQ T).nest T) ((((((s.aQ T).nest T).aK T [aX 40]).hE).gC).aK T [aX 41]):=by
   have e:((((((s.aQ T).nest T).aK T [aX 40]).hE).gC)).p=(((s.aQ T).nest T).aK T [aX 40]).p:=rfl;have n:((((((s.aQ T).nest T).aK T [aX 40]).hE).gC)).k=(((s.aQ T).nest T).aK T [aX 40]).k:=by
    show (((s.aQ T).nest T).aK T [aX 40]).k+1-1=_;omega
   have q:=g.1.2.1;have a2:=d.1.2.1;exact⟨⟨by rw[g.1.1,n];exact d.1.1,by omega,g.1.2.2⟩,fun j=>by have:=d.2 j;omega⟩
  exact(h1.trans i).P6 o
 ·exact h1.P6 (tL T aa _ h1.2.2)
theorem ch(T:ai)(aa:List ai):∀n,bN T (PS.expr T aa n):=by
 intro n
 induction n with
 | zero=>exact wN T _ (good_row T _ (c4.2 fun s h=>iu T s _ (gq T aa s h)))
 | succ n d=>exact wN T _ (good_row T _ (dw T aa _ d))
theorem x4.qJ{b c:Nat}{T:ai}{aa:List ai}{g d vL:Value}{D E:Nat}{q:PS×Px}{w w':World}{r:Ending}(h:x4 b c T aa g d vL D q w r w')(o:D<=E):x4 b c T aa g d vL E q w r w':=by
 obtain⟨v,h1,i,j,n⟩:=h;exact⟨v,h1,i,j.qJ o,n⟩
theorem rO{T:ai}{s:PS}(h:bH [aX 40] ((s.aQ T).tk T)=true):s.aQ T=s/\s.tk T=[40]:=by
 unfold PS.aQ at h ⊢;split at h
 ·rename_i d;rw[ag d];rw[bk]at h;exact⟨rfl,by simpa using h⟩
 ·exfalso;rw[bk]at h;have:(s.fail T 2).tk T=[]:=hH T;rw[this]at h;simp at h
theorem NZ(b c:Nat)(T:ai)(aa:List ai)(i g vL:Value):∀n,OQ b c T aa i g vL (4*n+4) (yp n T) (PS.expr T aa n):=by
 intro n
 induction n with
 | zero =>
  intro s w h d;refine Lw b c T aa i g vL 0 3 _ (good_row T _ (c4.2 fun s h=>iu T s _ (gq T aa s h))) ?_ s w h d;intro s w h d;refine dN b c T aa i g vL 0 2 _ (c4.2 fun s h=>iu T s _ (gq T aa s h)) ?_ s w h d;intro s w h d;refine Kg b c T aa i g vL 0 s _ w h ?_;refine Mb b c T aa i g vL 1 _ s w h (by omega) (fun o=>?_);exfalso;obtain⟨_,e⟩:=rO o;have:=o0 h.rd.le e;rcases d with h1|h1
  ·omega
  ·omega
 | succ n B =>
  intro s w h d;refine Lw b c T aa i g vL (n+1) (4*n+7) _ (good_row T _ (dw T aa _ (ch T aa n))) ?_ s w h d;intro s w h d;refine dN b c T aa i g vL (n+1) (4*n+6) _ (dw T aa _ (ch T aa n)) ?_ s w h d;intro s w h d;refine Kg b c T aa i g vL (4*n+4) s _ w h ?_;refine Mb b c T aa i g vL (4*n+5) _ s w h (by omega) (fun o C q=>?_);obtain⟨v,e⟩:=rO o;rw[v]at q ⊢;have E:=o0 h.rd.le e;have t:s.k+(n+1:Nat)=5/\0<=s.k/\s.k<=4:=by
   rcases d with h1|h1
   ·omega
   ·exact h1
  have hg:Goes T s (s.nest T):=jr 6 h.rd.le;have j:=gb T [aX 40] (s.nest T) hg.2.2;have u:(((s.nest T).aK T [aX 40]).hE).k=s.k+1:=by
   show ((s.nest T).aK T [aX 40]).k+1=s.k+1;rw[j.1.1,hg.1]
  refine(Ix b c T aa i g vL (4*n+4) (yp n T) _ B s C q t.2.1 t.2.2 ?_ ?_).mono fun r w' A=>A.qJ (by omega)
  ·by_cases y:s.k=4
   ·left;have x:s.nest T=s.fail T 6:=by unfold PS.nest;rw[ag y]
    have:T.size<=((s.nest T).aK T [aX 40]).p:=by have:=j.1.2.1;rw[x]at this ⊢;exact this
    have:=j.1.2.2;show ((s.nest T).aK T [aX 40]).p=T.size;omega
   ·right;rw[u];omega
  ·rw[(ch T aa n (((s.nest T).aK T [aX 40]).hE) j.1.2.2).1,u]
def oG(T:ai)(p:Nat):Nat:=if p=T.size then 1 else 0
def WB(T:ai)(s:PS)(q:PS×Px):Prop:=∀d,fB d q.2<=3*(q.1.p-s.p)+oG T q.1.p
theorem N4(T:ai){p p':Nat}(h:p<=p')(a:p'<=T.size):oG T p<=oG T p':=by
 unfold oG;split<;>split<;>omega
theorem As(T:ai){p:Nat}(h:p<T.size):oG T p=0:=by unfold oG;rw[ae (by omega)]
theorem MQ(d k:Nat):fB d (r0 k)<=1:=by
 cases d with
 | zero=>simp[fB]
 | succ d=>simp[fB,r0]
theorem Fb(d:Nat)(l:List Px):fB (d+1) (eA l)=(l.map (fB d)).sum:=by simp[fB,eA]
theorem vp(d:Nat):fB d (eA [])=0:=by
 cases d with
 | zero=>rfl
 | succ d=>rw[Fb];rfl
theorem I3(T:ai)(aa:List ai)(s:PS)(h:s.p<=T.size):WB T s (s.one T aa):=by
 intro d;have h1:=tL T aa s h;have b:=MQ d (bn aa (s.tk T)).1;have c:fB d (s.one T aa).2<=1:=b;have f:=h1.1.2.1;have g:=h1.1.2.2;rcases cF s.p T.size with a|a
 ·have:=h1.2 a;omega
 ·have e:(s.one T aa).1.p=T.size:=by omega
  unfold oG;rw[ag e];omega
theorem DA(T:ai)(sub:PS->PS×Px)(i:bN T sub)(j:∀s:PS,s.p<=T.size->WB T s (sub s))(s:PS)(h:s.p<=T.size):WB T s (s.bracket T sub):=by
 intro d;have h1:Goes T s (s.nest T):=jr 6 h;have a:=gb T [aX 40] (s.nest T) h1.2.2;have b:=i (((s.nest T).aK T [aX 40]).hE) a.1.2.2;have g:((sub (((s.nest T).aK T [aX 40]).hE)).1.gC).p<=T.size:=b.2.2.1;have c:=gb T [aX 41] _ g;have n:=j (((s.nest T).aK T [aX 40]).hE) a.1.2.2 d;have l:(((s.nest T).aK T [aX 40]).hE).p=((s.nest T).aK T [aX 40]).p:=rfl;have m:((sub (((s.nest T).aK T [aX 40]).hE)).1.gC).p=(sub (((s.nest T).aK T [aX 40]).hE)).1.p:=rfl;have k:=c.1.2.1;have a2:=b.2.1;have a3:=(h1.P6 a).1.2.1;have a4:=c.1.2.2;have e:(s.bracket T sub).1.p=((sub (((s.nest T).aK T [aX 40]).hE)).1.gC.aK T [aX 41]).p:=rfl;have f:(s.bracket T sub).2=(sub (((s.nest T).aK T [aX 40]).hE)).2:=rfl;rw[e,f];have:=N4 T (p:=(sub (((s.nest T).aK T [aX 40]).hE)).1.p) (p':=((sub (((s.nest T).aK T [aX 40]).hE)).1.gC.aK T [aX 41]).p) (by omega) a4;omega
theorem y7{T:ai}{s a:PS}{q:PS×Px}(h:WB T a q)(hg:Goes T s a):WB T s q:=by
 intro d;have:=h d;have:=hg.2.1;omega
theorem MU(T:ai)(aa:List ai)(sub:PS->PS×Px)(a:bN T sub)(b:∀s:PS,s.p<=T.size->WB T s (sub s))(s:PS)(h:s.p<=T.size):WB T s (s.atom T aa sub):=by
 have h1:Goes T s (s.aQ T):=iJ 2 h;unfold PS.atom;split
 ·exact y7 (DA T sub a b _ h1.2.2) h1
 ·exact y7 (I3 T aa _ h1.2.2) h1
theorem Dz(T:ai)(s:PS)(q:PS×Px)(c:UInt8)(h:q.1.tk T=[c])(a:A0 T s q.1)(f:WB T s q)(y:Px)(g:∀d,fB d y<=3+fB (d-1) q.2):WB T s (q.1.step T,y):=by
 intro d;have h1:=o0 a.1.2.2 h;have b:=ga T q.1 a.1.2.2;have i:=b.2 h1;have e:=f (d-1);have j:=g d;rw[As T h1]at e;have k:=a.1.2.1;show fB d y<=3*((q.1.step T).p-s.p)+oG T (q.1.step T).p;omega
theorem A1(T:ai)(s:PS)(q:PS×Px)(b:A0 T s q.1)(a:WB T s q):WB T s (PS.gu T q):=by
 unfold PS.gu;split
 ·rename_i e;refine Dz T s q 42 e b a _ fun d=>?_
  cases d with
  | zero=>simp[fB]
  | succ d=>simp[fB,q7]
 ·split
  ·rename_i e;refine Dz T s q 43 e b a _ fun d=>?_
   cases d with
   | zero=>simp[fB]
   | succ d=>simp[fB,rq]
  ·split
   ·rename_i e;refine Dz T s q 63 e b a _ fun d=>?_
    cases d with
    | zero=>simp[fB]
    | succ d =>
     have:=vp d;simp[fB,mU];omega
   ·exact a
theorem Bc(f:Px->Nat)(l:List Px)(x:Px):((l++[x]).map f).sum=(l.map f).sum+f x:=by simp
theorem MS(T:ai)(P:PS->PS×Px)(e:bN T P)(i:∀s:PS,s.p<=T.size->WB T s (P s))(b d:Nat):∀(g:Nat) (s:PS) (l:List Px),s.p<=T.size->b<=s.p ->(l.map (fB d)).sum<=3*(s.p-b)+oG T s.p->((PS.cS T P g s l).2.map (fB d)).sum<=3*((PS.cS T P g s l).1.p-b)+oG T (PS.cS T P g s l).1.p:=by
 intro g
 induction g with
 | zero=>intro s l _ _ h;exact h
 | succ g j =>
  intro s l a h0 h;rw[PS.cS];split
  ·rename_i f;have h1:=lv a f;have c:=c4.1 e s a;have k:=i s a d;have m:=c.1.2.1;rw[As T h1]at h;refine j _ _ c.1.2.2 (by omega) ?_;rw[Bc];omega
  ·exact h
theorem I2(T:ai)(P:PS->PS×Px)(b:bN T P)(c:∀s:PS,s.p<=T.size->WB T s (P s))(s:PS)(h:s.p<=T.size):WB T s (PS.iT T P s):=by
 intro d;cases d with
 | zero=>simp[fB]
 | succ d =>
  have a:=c4.1 b s h;have:=MS T P b c s.p d (T.size+1) (P s).1 [(P s).2] a.1.2.2 a.1.2.1 (by simpa using c s h d);show fB (d+1) (eA (PS.cS T P (T.size+1) (P s).1 [(P s).2]).2)<=_;rw[Fb];exact this
theorem H9(T:ai)(R:PS->PS×Px):∀(g:Nat) (s:PS) (l:List Px),1<=l.length->1<=(PS.bo T R g s l).2.length:=by
 intro g
 induction g with
 | zero=>intro s l h;exact h
 | succ g a =>
  intro s l h;rw[PS.bo];split
  ·exact a _ _ (by simp)
  ·exact h
theorem I4(T:ai)(R:PS->PS×Px)(f:bN T R)(j:∀s:PS,s.p<=T.size->WB T s (R s))(b d:Nat):∀(g:Nat) (s:PS) (l:List Px),s.p<=T.size->b<=s.p->1<=l.length ->(l.map (fB d)).sum+3*(l.length-1)<=3*(s.p-b)+oG T s.p->((PS.bo T R g s l).2.map (fB d)).sum+3*((PS.bo T R g s l).2.length-1)<=3*((PS.bo T R g s l).1.p-b)+oG T (PS.bo T R g s l).1.p:=by
 intro g
 induction g with
 | zero=>intro s l _ _ _ h;exact h
 | succ g k =>
  intro s l e h0 q h;rw[PS.bo];split
  ·rename_i i;have h1:=o0 e i;have a:=ga T s e;have c:=c4.1 f (s.step T) a.1.2.2;have m:=j (s.step T) a.1.2.2 d;have n:=a.2 h1;have o:=c.1.2.1;rw[As T h1]at h;refine k _ _ c.1.2.2 (by omega) (by simp) ?_;rw[Bc,aF];simp only[bT,gd];omega
  ·exact h
theorem Jo(d:Nat)(l:List Px):(l.map fun y=>1+fB d y).sum=l.length+(l.map (fB d)).sum:=by
 induction l with
 | nil=>rfl
 | cons a l b=>rw[bS,dC,b,bS,dC,bT];omega
theorem A2(T:ai)(R:PS->PS×Px)(b:bN T R)(f:∀s:PS,s.p<=T.size->WB T s (R s))(s:PS)(h:s.p<=T.size):WB T s (PS.rK T R s):=by
 intro d;have a:=c4.1 b s h;have key:∀d,_:=fun d=>I4 T R b f s.p d (T.size+1) (R s).1 [(R s).2] a.1.2.2 a.1.2.1 (by simp) (by simpa using f s h d)
 have i:=H9 T R (T.size+1) (R s).1 [(R s).2] (by simp);show fB d (ff (PS.bo T R (T.size+1) (R s).1 [(R s).2]).2)<=3*((PS.bo T R (T.size+1) (R s).1 [(R s).2]).1.p-s.p)+oG T (PS.bo T R (T.size+1) (R s).1 [(R s).2]).1.p;obtain⟨q,c⟩:∃q,q=PS.bo T R (T.size+1) (R s).1 [(R s).2]:=⟨_,rfl⟩;rw[<- c]at i ⊢;simp only[<- c]at key
 by_cases h1:q.2.length=1
 ·obtain⟨x,g⟩:=List.length_eq_one_iff.1 h1;rw[g,rN];have:=key d;rw[g]at this;simpa using this
 ·rw[w7 _ h1];cases d with
  | zero=>simp[fB]
  | succ d =>
   have:=key d;have e:fB (d+1) ⟨2,0,q.2⟩=1+(q.2.map fun y=>1+fB d y).sum:=by rw[fB];simp
   rw[e,Jo];omega
theorem I5(T:ai)(aa:List ai)(s:PS)(h:s.p<=T.size):WB T s (s.atom T aa (fun s=>(s,eA []))):=by
 have h1:Goes T s (s.aQ T):=iJ 2 h;unfold PS.atom;split
 ·intro d;show fB d (eA [])<=_;rw[vp];omega
 ·exact y7 (I3 T aa _ h1.2.2) h1
theorem MT(T:ai)(aa:List ai):∀(n:Nat) (s:PS),s.p<=T.size->WB T s (PS.expr T aa n s):=by
 intro n
 induction n with
 | zero =>
  have g0:bN T (PS.di T aa (fun s=>(s,eA []))):=c4.2 fun s h=>iu T s _ (gq T aa s h)
  exact fun s h=>A2 T _ (good_row T _ g0) (fun s h=>I2 T _ g0 (fun s h=>A1 T s _ (gq T aa s h) (I5 T aa s h)) s h) s h
 | succ n a =>
  have g0:bN T (PS.di T aa (PS.expr T aa n)):=dw T aa _ (ch T aa n);exact fun s h=>A2 T _ (good_row T _ g0) (fun s h=>I2 T _ g0 (fun s h=>A1 T s _ (pS T aa _ (ch T aa n) s h) (MU T aa _ (ch T aa n) a s h)) s h) s h
def PS.zero(s:PS):PS:={ s with a:=0,k:=0 }
def PS.side(T:ai)(aa:List ai)(x:ai)(s:PS):PS×Px:=if bH [x] (s.tk T)=true then (s,eA [])else PS.expr T aa 5 s.zero
theorem tq(T:ai)(aa:List ai)(x:ai)(s:PS)(h:s.p<=T.size)(b:T.size<=1000)(d:Nat):fB d (s.side T aa x).2<=3001:=by
 unfold PS.side;split
 ·rw[vp];omega
 ·have h1:=MT T aa 5 s.zero h d;have a:=(ch T aa 5 s.zero h).2.2.1;have:oG T (PS.expr T aa 5 s.zero).1.p<=1:=by unfold oG;split<;>omega
  omega
theorem nE(T:ai)(aa:List ai)(x:ai)(s:PS)(h:s.p<=T.size):s.p<=(s.side T aa x).1.p/\(s.side T aa x).1.p<=T.size:=by
 unfold PS.side;split
 ·exact⟨ar _,h⟩
 ·have:=ch T aa 5 s.zero h;exact⟨this.2.1,this.2.2.1⟩
theorem BA(b:Nat)(T:ai)(aa:List ai)(a c vL:Value)(x:ai)(s:PS)(w:World)(h:e4 w b T a c vL s)(m:w.ownsRow 0 9 1 a aa.length (aa.map .string))(D:aa.length<=7):Calls prog 132 #[.pointer (some ⟨b,0,none⟩),.string x] w fun r w'=>∃v,r=.returned v/\e4 w' b T a c vL (s.side T aa x).1/\eY 24 (dB w.heap.size) w' v (s.side T aa x).2/\bj (fun k=>k=b) w w':=by
 have g:Hid (e4 w b T a c vL s):=h;have z:Hid (w.ownsRow 0 9 1 a aa.length (aa.map .string)):=m;clear h m;go_enter func132,ntmps132;go_wp2_with fail;refine(qx b T a c vL s [x] w g.out (by simp) (by simp)).mono ?_;rintro r d ⟨rfl,b1⟩;have i:Hid (e4 d b T a c vL s):=g.out.later b1;have A:Hid (d.ownsRow 0 9 1 a aa.length (aa.map .string)):=al z.out (Kp.below b1);cases o:bH [x] (s.tk T)
 ·have e:Hid (s.side T aa x=PS.expr T aa 5 s.zero):=by show _=_;unfold PS.side;rw[o];rfl
  go_wp2_with fail;have b2:=af d (.cells #[.int .i64 0,.int .i64 0] 289);have l:gw (d.alloc (.cells #[.int .i64 0,.int .i64 0] 289)) b d.heap.size T aa a c vL s.zero :=
   ⟨⟨(i.out.later b2).da,g.out.le,g.out.short⟩,aw _ _,al A.out (Kp.below b2),D⟩
  refine(NZ b d.heap.size T aa a c vL 5 s.zero _ l (ac ⟨rfl,by show (0:Int)<=0;omega,by show (0:Int)<=4;omega⟩)).mono ?_;rintro r w3 E;obtain⟨v,rfl,j,t,c3⟩:=E;have y:Hid (e4 w3 b T a c vL (PS.expr T aa 5 s.zero).1):=j.rd;have C:Hid (eY 24 (dB w.heap.size) w3 v (PS.expr T aa 5 s.zero).2):=t.from (aE b1.size b2.size);have u:Hid (bj (fun k=>k=b) w w3):=by
   have f:bj (fun k=>k=b) w (d.alloc (.cells #[.int .i64 0,.int .i64 0] 289)):=(bj.aL b1).alloc _;refine⟨c3.os.trans f.os,c3.tape.trans f.tape,c3.output.trans f.output,aE f.size c3.size,fun k n p=>?_⟩;have G:=b1.size;rw[bj.block c3 k (cI n f.size) (fun e=>by rcases e with e|e;exact p e;omega)];exact f.block k n p
  clear j t c3 l b2;go_wp2_with fail;go_ret;rw[e.out];exact⟨v,rfl,y.out,C.out,u.out⟩
 ·have e:Hid (s.side T aa x=(s,eA [])):=by show _=_;unfold PS.side;rw[o];rfl
  go_wp2_with fail;refine(v1 w.heap.size 23 [] (.slice none 0 0) d (y5 _ _ _) b1.size).mono ?_;rintro r F ⟨v,rfl,q,b2⟩;have B:Hid (eY 24 (dB w.heap.size) F v (eA [])):=q;clear q;go_wp2_with fail;go_ret;rw[e.out];exact⟨v,rfl,i.out.later b2,B.out,(bj.aL b1).trans (bj.aL b2)⟩
theorem lm{P:Program}{w:World}{c:Array Oper}{o:Oper}{a:Act}{K:Act->World->Prop}{Q:Exit->Act->World->Prop}{E:Prop}(h:o.guard=none)(f:Nat)(x:Operand)(ts:Array TypeId) (j:o.op=.call { callee:=.value (.func f),args:=#[x],argTypes:=ts }) (b:Go.Proofs.Enters P f) (v0:Value) (m:a.eval x=v0) (R:Ending->World->Prop) (hc:Calls P f #[v0] w R) (d:∀e w',R e w'->∃v,e=.returned v/\K (a.put o.dst v) w'):if Region.wanted o (yielded c a.tmps)=true then Oper.wp P o a w K Q else E:=by
 have l:Region.wanted o (yielded c a.tmps)=true:=by simp[Region.wanted,h]
 rw[ag l];unfold Go.Proofs.Enters at b;unfold Oper.wp execOp;have g:a.eval (.func f)=.func (.func f) #[] #[]:=rfl;simp[j,resolve,invoke,m,g,Deferred.ofValue,b,Oper.upon_enter];refine hc.mono ?_;intro e w' k;obtain⟨v,rfl,i⟩:=d e w' k;exact i
theorem Tryz.NM:(prog.info? 148).map (fun i=>(i.zero,i.size,i.bytes))=some (some (.agg #[.bool false,.slice none 0 0,.int .i64 0,.slice none 0 0,.int .i64 0]),5,72):=by kernel_rfl
theorem Tryz.OY:prog.underlying 82=some (.slice 148):=by kernel_rfl
structure bw where
 cut:Bool
 SL:List St
 fL:Nat
 SR:List St
 fR:Nat
def cD(a:List bw)(b:List (Value×Value)):List Value:=(a.zip b).flatMap fun o=>[.bool o.1.cut,o.2.1,.int .i64 o.1.fL,o.2.2,.int .i64 o.1.fR]
def qR(base:Nat)(w:World)(vL:Value)(a:List bw):Prop :=
 ∃c:List (Value×Value),c.length=a.length/\w.ownsRow base 148 5 vL a.length (cD a c)/\∀(i:Nat) (L:bw) (v:Value×Value),a[i]?=some L->c[i]?=some v->(∃b,dH w 0 v.1 L.SL b)/\∃b,dH w 0 v.2 L.SR b
theorem dH.kp{w w':World}{base:Nat}{g:Value}{S:List St}{d:List Value}(h:dH w base g S d)(o:Kp 293 w w')(q:Kp 3 w w'):dH w' base g S d :=
 ⟨h.len,al h.row o,fun i v s n j=>al (h.ib i v s n j) q,h.apart⟩
theorem dH.Gu{w:World}{base:Nat}{g:Value}{S:List St}{d:List Value}(h:dH w base g S d):dH w 0 g S d :=
 ⟨h.len,bX h.row (aJ _),fun i v s n j=>bX (h.ib i v s n j) (aJ _),h.apart⟩
theorem rZ(a:List bw)(b:List (Value×Value))(L:bw)(v:Value×Value)(h:b.length=a.length):cD (a++[L]) (b++[v])=cD a b++[.bool L.cut,v.1,.int .i64 L.fL,v.2,.int .i64 L.fR]:=by
 unfold cD;rw[List.zip_append h.symm];simp
theorem qR.kp{base:Nat}{w w':World}{vL:Value}{d:List bw}(h:qR base w vL d)(x:Kp 148 w w')(g:Kp 293 w w')(j:Kp 3 w w'):qR base w' vL d:=by
 obtain⟨y,h1,n,o⟩:=h;exact⟨y,h1,al n x,fun i L v q u=>by
  obtain⟨⟨a,t⟩,c,hc⟩:=o i L v q u;exact⟨⟨a,t.kp g j⟩,c,hc.kp g j⟩⟩
theorem qR.below{base:Nat}{w w':World}{vL:Value}{d:List bw}(h:qR base w vL d)(hb:Below w.heap.size w w'):qR base w' vL d:=h.kp (Kp.below hb) (Kp.below hb) (Kp.below hb)
theorem qR.n8{w w':World}{base b:Nat}{vL:Value}{d:List bw}{g:Array Value}{m:Nat×Nat}(h:qR base w vL d)(hb:w.heap[b]?=some (.cells g 141 m))(hc:bj (fun k=>k=b) w w'):qR base w' vL d :=
 h.kp (Kp.n8 hb hc (by decide)) (Kp.n8 hb hc (by decide)) (Kp.n8 hb hc (by decide))
def PS.dm(T:ai)(n:Nat)(s:PS):PS:=if n=4 then s.fail T 6 else s
def PS.iB(T:ai)(aa:List ai)(n:Nat)(s:PS):PS×Px:=((s.dm T n).aK T [eP,cJ]).side T aa (aX 124)
def PS.lo(T:ai)(aa:List ai)(n:Nat)(s:PS):PS×Px:=((s.iB T aa n).1.aK T [aX 124]).side T aa (aX 59)
def PS.ep(T:ai)(aa:List ai)(n:Nat)(s:PS):PS:=(s.lo T aa n).1.aK T [aX 59]
def kY(T:ai)(aa:List ai)(n:Nat)(s:PS):bw :=
 ⟨(ce T [eP,cJ] (s.dm T n).p).toList==[99,117,116],(mk 24 (s.iB T aa n).2 bA 0).1,(mk 24 (s.iB T aa n).2 bA 0).2,(mk 24 (s.lo T aa n).2 bA 0).1,(mk 24 (s.lo T aa n).2 bA 0).2⟩
theorem wq(d:Nat)(x:Px)(v:Value)(w:World)(N:Nat)(h:eY d (dB N) w v x)(c:fB d x<=8000)(W:World)(hb:Below w.heap.size w W):Calls prog 133 #[v] W fun e w'=>∃b f,e=.returned (.agg #[b,.int .i64 (mk d x bA 0).2])/\dH w' W.heap.size b (mk d x bA 0).1 f/\Below W.heap.size W w' :=
 KD d x v W (h.iS (A':=fun k=>k<W.heap.size) (eZ.below hb fun _ a _=>a) fun _ a _=>cI a hb.size) c
def E4(R:List St×Nat)(W:World)(e:Ending)(w':World):Prop:=∃a b,e=.returned (.agg #[a,.int .i64 R.2])/\dH w' W.heap.size a R.1 b/\Below W.heap.size W w'
theorem yg{w:World}{k:Array Oper}{o:Oper}{a:Act}{K:Act->World->Prop}{Q:Exit->Act->World->Prop}{E:Prop}(x:Operand) (i:o.op=.call { callee:=.value (.func 133),args:=#[x],argTypes:=#[224] }) (g:o.guard=none) (v0:Value) (j:a.eval x=v0) (R:List St×Nat) (hc:Calls prog 133 #[v0] w (E4 R w)) (f:∀b c w',dH w' w.heap.size b R.1 c->Below w.heap.size w w'->K (a.put o.dst (.agg #[b,.int .i64 R.2])) w'):if Region.wanted o (yielded k a.tmps)=true then Oper.wp prog o a w K Q else E :=
 lm g 133 x _ i (enters_of func133 (by kernel_rfl) rfl) v0 j _ hc fun e w' h=>by
  obtain⟨b,c,rfl,h1,d⟩:=h;exact⟨_,rfl,f b c w' h1 d⟩
theorem dW{w W:World}(h:Below w.drew.heap.size w.drew W):Below w.heap.size w W:=⟨h.os,h.tape,h.output,h.size,h.block⟩
theorem EG(c:Bool)(a b:Value)(x y:Int)(d:a.oneCell'=true)(hb:b.oneCell'=true):∀u∈[Value.bool c,a,.int .i64 x,b,.int .i64 y],u.oneCell'=true:=by
 intro u hu;simp at hu;rcases hu with rfl|rfl|rfl|rfl|rfl
 ·rfl
 ·exact d
 ·rfl
 ·exact hb
 ·rfl
theorem Ir(w:World)(l:List Value)(t:TypeId):∀(j:Nat) (u:Value),l[j]?=some u->(w.alloc (.cells l.toArray t)).cell? ⟨w.heap.size,j,none⟩=some u:=fun j u hu=>ab (aw w _) j u (by simpa using hu)
theorem Gs:∀x∈[eP,cJ],x.toList≠[]:=by
 intro x a;simp at a;rcases a with rfl|rfl
 ·unfold eP;rw[bM];simp
 ·unfold cJ;rw[bM];simp
theorem Ns{w:World}{b:Nat}{T:ai}{a e:Int}{f d vL:Value}{c place:Int}(h:fF w b T a e f d vL c place)(x:Value):fF (w.setCell ⟨b,5,none⟩ x) b T a e f d x c place:=(am h 5 _).trans rfl
theorem JS{base b n au r s j:Nat}{T:ai}{G F:Value}{g:List bw}{x:PS}{w d W1 W2 W3:World}{l m o h:Option Addr}{a c:List St×Nat}{cb:Bool}{y:List (Value×Value)}{Q R:List Value}(a0:n=g.length) (H:e4 d b T G F (.slice l n au) x) (S:bj (fun k=>k=b) w d) (W:d.ownsRow base 148 5 (.slice l n au) n (cD g y)) (I:y.length=g.length) (X:∀(i:Nat) (L:bw) (v:Value×Value),g[i]?=some L->y[i]?=some v->(∃E,dH d 0 v.1 L.SL E)/\∃E,dH d 0 v.2 L.SR E) (U:dH W1 d.heap.size (.slice m a.1.length r) a.1 Q) (M:Below d.heap.size d W1) (V:dH W2 W1.heap.size (.slice o c.1.length s) c.1 R) (C:Below W1.heap.size W1 W2) (hg:(W2.alloc (.cells #[.bool cb,.slice m a.1.length r,.int .i64 a.2,.slice o c.1.length s,.int .i64 c.2] 148)).grownBy W3 (Value.ownBlock (.slice l n au))) (a1:W3.ownsRow base 148 5 (.slice h (n+1) j) (n+1) (cD g y++[.bool cb,.slice m a.1.length r,.int .i64 a.2,.slice o c.1.length s,.int .i64 c.2])) (D:W3.heap[b]?=some (.cells (Ke T x.p (bO T x.p) G F (.slice l n au) x.f x.pl) 141 (0,0))):e4 (W3.setCell ⟨b,5,none⟩ (.slice h (n+1) j)) b T G F (.slice h (n+1) j) x/\qR base (W3.setCell ⟨b,5,none⟩ (.slice h (n+1) j)) (.slice h (n+1) j) (g++[⟨cb,a.1,a.2,c.1,c.2⟩]) /\bj (fun k=>k=b\/Value.ownBlock (.slice l n au)=some k) w (W3.setCell ⟨b,5,none⟩ (.slice h (n+1) j)):=by
 subst a0;have u:Below d.heap.size d W2:=M.trans (C.mono M.size);have K:=af W2 (.cells #[.bool cb,.slice m a.1.length r,.int .i64 a.2,.slice o c.1.length s,.int .i64 c.2] 148);have N:=u.trans (K.mono u.size);have a3:=al W (Kp.below N);have P:∀t,t≠148->t≠141->Kp t W2 (W3.setCell ⟨b,5,none⟩ (.slice h (g.length+1) j)):=fun t h1 B =>
  ((Kp.below K).grown a3 hg h1).setCell D B _
 have A:=P 293 (by decide) (by decide);have z:=P 3 (by decide) (by decide);refine⟨⟨Ns D _,H.le,H.short⟩,⟨y++[(.slice m a.1.length r,.slice o c.1.length s)],by simp[I],?_,?_⟩,?_⟩
 ·rw[rZ _ _ _ _ I,aF];exact al a1 ((Kp.refl _ _).setCell D (by decide) _)
 ·intro i L v Z O;rcases bD Z with⟨J,a2⟩|⟨J,rfl⟩
  ·rcases bD O with⟨b1,b2⟩|⟨b1,rfl⟩
   ·obtain⟨⟨t1,h1⟩,t2,B⟩:=X i L v J b1;exact⟨⟨t1,h1.kp ((Kp.below u).trans A) ((Kp.below u).trans z)⟩,t2,B.kp ((Kp.below u).trans A) ((Kp.below u).trans z)⟩
   ·omega
  ·rcases bD O with⟨b1,b2⟩|⟨b1,rfl⟩
   ·omega
   ·exact⟨⟨Q,(U.kp ((Kp.below C).trans A) ((Kp.below C).trans z)).Gu⟩,R,(V.kp A z).Gu⟩
 ·have Y:bj (fun k=>k=b\/Value.ownBlock (.slice l g.length au)=some k) w (W2.alloc (.cells #[.bool cb,.slice m a.1.length r,.int .i64 a.2,.slice o c.1.length s,.int .i64 c.2] 148)) :=
   (S.mono fun _ _ e=>ah e).trans (bj.aL N)
  exact(Y.grown hg fun k e=>ac (ac e)).setCell (q:=⟨b,5,none⟩) (ac (ah rfl)) _
theorem JT(base b:Nat)(T:ai)(aa:List ai)(d m vL:Value)(a:List bw)(s:PS)(w:World)(h:e4 w b T d m vL s)(c8:w.ownsRow 0 9 1 d aa.length (aa.map .string))(e0:aa.length<=7)(P:qR base w vL a)(i7:a.length<=1000)(h4:base<=w.heap.size):Calls prog 78 #[.pointer (some ⟨b,0,none⟩)] w fun r w'=>r=.returned (.tuple #[])/\∃e8,e4 w' b T d m e8 (s.ep T aa a.length)/\qR base w' e8 (a++[kY T aa a.length s])/\bj (fun k=>k=b\/vL.ownBlock=some k) w w':=by
 have t:=az h;have a6:=az c8;have g1:=az P;obtain⟨i,au,rfl⟩:∃i au,vL=.slice i a.length au:=by obtain⟨_,_,G,_⟩:=P;exact ak G
 have n:=(dA h.da).2.2.2.2.2.1;clear h c8 P;go_enter func78,ntmps78
 go_upto_if 11 with fail
 go_cut [] (fun g0=>Hid (e4 g0 b T d m (.slice i a.length au) (s.dm T a.length))/\Hid (bj (fun k=>k=b) w g0))
 case first =>
  by_cases j:a.length=4
  ·have k4:((a.length:Int)==4)=true:=by rw[bL];omega
   have e:Hid (s.dm T a.length=s.fail T 6):=by show _=_;unfold PS.dm;rw[ag j]
   clear j;go_wp2_with fail;refine(kP b T d m (.slice i a.length au) s 6 w t.out).mono ?_;rintro r D ⟨rfl,j,A⟩;have u:=az j;clear j;go_wp2_with fail;go_meet;exact⟨by rw[e.out];exact u,A⟩
  ·have k4:((a.length:Int)==4)=false:=by rw[aO];omega
   have e:Hid (s.dm T a.length=s):=by show _=_;unfold PS.dm;rw[ae j]
   clear j;go_wp2_with fail;go_meet;exact⟨by rw[e.out];exact t,bj.refl _ _⟩
 case rest =>
  obtain⟨h1,b8⟩:=hcut;obtain⟨a1,h7⟩:∃a1,a1=wc:=⟨wc,rfl⟩;subst h7;clear n;go_wp2_with fail;refine(mR b T d m (.slice i a.length au) (s.dm T a.length) [eP,cJ] a1 h1.out (by decide) (by decide) Gs).mono ?_;rintro r C ⟨rfl,G,b9⟩;have E:=az G;have J:=az (b8.out.trans b9);have a7:Hid (C.ownsRow 0 9 1 d aa.length (aa.map .string)):=al a6.out (Kp.n8 t.out.da J.out (by decide));clear G b9 h1 b8;go_wp2_with fail;refine(BA b T aa d m (.slice i a.length au) (aX 124) ((s.dm T a.length).aK T [eP,cJ]) C E.out a7.out e0).mono ?_;rintro r w3 ⟨y,rfl,c2,e6,c3⟩;have a4:=az c2;have a9:=az e6;have a2:=az (J.out.trans c3);have b3:Hid (fB 24 (s.iB T aa a.length).2<=8000):=by have:=tq T aa (aX 124) _ E.out.le t.out.short 24;exact aE this (by omega)
  have x:=E.out.lt;clear c2 e6 c3 E J a7;go_wp2_with fail;refine(mR b T d m (.slice i a.length au) (s.iB T aa a.length).1 [aX 124] w3 a4.out (by decide) (by decide) (qf _)).mono ?_;rintro r D ⟨rfl,j,A⟩;have u:=az j;have K:=az (a2.out.trans A);have a8:Hid (D.ownsRow 0 9 1 d aa.length (aa.map .string)):=al a6.out (Kp.n8 t.out.da K.out (by decide));have b0:Hid (eY 24 (dB C.heap.size) D y (s.iB T aa a.length).2):=a9.out.aY (b7.OH (c:=b) A) x x;clear j A a4 a9 a2;go_wp2_with fail;refine(BA b T aa d m (.slice i a.length au) (aX 59) ((s.iB T aa a.length).1.aK T [aX 124]) D u.out a8.out e0).mono ?_;rintro r e9 ⟨I,rfl,c4,e7,n⟩;have a5:=az c4;have b1:=az e7;have b2:Hid (eY 24 (dB C.heap.size) e9 y (s.iB T aa a.length).2):=b0.out.aY (b7.OH (c:=b) n) x x;have a3:=az (K.out.trans n);have b4:Hid (fB 24 (s.lo T aa a.length).2<=8000):=by have:=tq T aa (aX 59) _ u.out.le t.out.short 24;exact aE this (by omega)
  have c9:=u.out.lt;clear c4 e7 n u K a8 b0;go_wp2_with fail;refine(mR b T d m (.slice i a.length au) (s.lo T aa a.length).1 [aX 59] e9 a5.out (by decide) (by decide) (qf _)).mono ?_;rintro r q ⟨rfl,c5,F⟩;have z:=az c5;have L:=az (a3.out.trans F);have O:Hid (eY 24 (dB D.heap.size) q I (s.lo T aa a.length).2):=b1.out.aY (b7.OH (c:=b) F) c9 c9;have N:Hid (eY 24 (dB C.heap.size) q y (s.iB T aa a.length).2):=b2.out.aY (b7.OH (c:=b) F) x x;have g8:=az (g1.out.n8 t.out.da L.out);clear c5 F a5 a3 b1 b2;obtain⟨i2,j1,h5⟩:=N.out.fn;obtain⟨i3,j2,h6⟩:=O.out.fn;obtain⟨f,S⟩:∃f,f=mk 24 (s.iB T aa a.length).2 bA 0:=⟨_,rfl⟩;obtain⟨g,U⟩:∃g,g=mk 24 (s.lo T aa a.length).2 bA 0:=⟨_,rfl⟩;obtain⟨H,a0⟩:∃H,H=ce T [eP,cJ] (s.dm T a.length).p:=⟨_,rfl⟩;obtain⟨v,Y⟩:∃v,v=(H.toList==[99,117,116]):=⟨_,rfl⟩;have g5:Hid (kY T aa a.length s=⟨v,f.1,f.2,g.1,g.2⟩):=by show _=_;unfold kY;rw[Y,a0,S,U]
  have g9:Hid (∀W,Below q.heap.size q W->Calls prog 133 #[y] W (E4 f W)):=by
   intro W hb;have:=wq 24 _ y q _ N.out b3.out W hb;rw[<- S]at this;exact this
  have h0:Hid (∀W,Below q.heap.size q W->Calls prog 133 #[I] W (E4 g W)):=by
   intro W hb;have:=wq 24 _ I q _ O.out b4.out W hb;rw[<- U]at this;exact this
  rw[<- a0];have i6:(H.toList==[99,117,116])=v:=Y.symm;clear a0 S U b3 b4 Y;have n:=(dA z.out.da).2.2.2.2.2.1;have i0:=aq z.out.da;have V:=z.out.lt;clear N O h5 h6;go_wp2_with fail;obtain⟨h8,e2,e3,e5⟩:=g8.out;have M:=az e3;have g6:=az e2;have g7:=az e5;clear e2 e3 e5
  go_region_law (first
   | (refine yg (.tmp 35) ?_ ?_ y ?_ f ?_ ?_
      ·exact rfl
      ·exact rfl
      ·simp[Act.eval,Act.put]
      ·exact g9.out _ ((aB _ _).drew)
      intro j6 j3 W1 Q h3;obtain⟨b5,c0,rfl⟩:=ak Q.row;have g2:=az Q;clear Q;have B:=dW h3;have f5:=(B.cell (p:=⟨b,5,none⟩) V).trans n)
   | (refine yg (.tmp 37) ?_ ?_ I ?_ g ?_ ?_
      ·exact rfl
      ·exact rfl
      ·simp[Act.eval]
      ·exact h0.out _ B
      intro j7 j4 W2 R c7;obtain⟨b6,c1,rfl⟩:=ak R.row;have g3:=az R;clear R;have l:=B.trans (c7.mono B.size);have h2:=(l.cell (p:=⟨b,5,none⟩) V).trans n;have i4:=fun o=>((af W2 o).cell (p:=⟨b,5,none⟩) (cI V l.size)).trans h2)
   | (refine dz rfl (.tmp 32) (.tmp 40) 82 rfl base 148 (.agg #[.bool false,.slice none 0 0,.int .i64 0,.slice none 0 0,.int .i64 0]) 5 72 Tryz.NM Tryz.OY rfl (by decide) (.slice i a.length au) a.length (cD a h8) (by simp[Act.eval]) (al M.out (Kp.below (l.trans ((af W2 _).mono l.size)))) W2.heap.size 1 [.bool v,.slice b5 f.1.length c0,.int .i64 f.2,.slice b6 g.1.length c1,.int .i64 g.2] (by simp[Act.eval]) rfl (Ir W2 [.bool v,.slice b5 f.1.length c0,.int .i64 f.2,.slice b6 g.1.length c1,.int .i64 g.2] _) (EG _ _ _ _ _ rfl rfl) (by omega) (by omega) (aE h4 (aE L.out.size (aE l.size (af W2 _).size))) ?_
      intro j5 W3 e1 hg i9;obtain⟨h9,i1,rfl⟩:=ak e1;have g4:=az e1;have X:=br z.out.da (Kp.below (l.trans ((af W2 _).mono l.size))) (al M.out (Kp.below (l.trans ((af W2 _).mono l.size)))) hg (by decide);have i5:=(dA X).2.2.2.2.2.1;have j0:=aq X))
  all_goals go_wp2_with fail
  all_goals go_end0
  all_goals
   have Z:=JS rfl z.out L.out M.out g6.out g7.out g2.out B g3.out c7 hg g4.out X;refine⟨rfl,_,Z.1,?_,Z.2.2⟩;rw[g5.out];exact Z.2.1
open Go.Maps
def p8{α:Type}:List α->List (List α)
 | []=>[[]]
 | a::l=>p8 l++(p8 l).map (a::·)
theorem Bh{α:Type}:∀l:List α,(p8 l).length=2^l.length:=by
 intro l
 induction l with
 | nil=>rfl
 | cons a l b=>rw[p8,aF,b5,b,bT,Nat.pow_succ];omega
theorem CI{α:Type}(p:α->Bool):∀l:List α,l.filter p∈p8 l:=by
 intro l
 induction l with
 | nil=>simp[p8]
 | cons a l b =>
  rw[p8,aR]
  by_cases h:p a=true
  ·right;rw[List.filter_cons_of_pos h];exact aN.2 ⟨_,b,rfl⟩
  ·left;rw[List.filter_cons_of_neg h];exact b
def fp(b:Bool)(S:List St):List (Nat×Nat×Nat):=(cC b S 0).filter fun a=>a.2.1 != 0
theorem vA{t k:Nat}(h:t.testBit k=true):t≠0:=by intro e;subst e;simp at h
theorem q6(b:Bool)(S:List St)(F:Nat->Prop)(hF:∀x,F x->x<S.length)(k:Nat):∃sub∈p8 (fp b S),∀x,gr (av b S) F k x↔∃e∈sub,a6 (av b S) e.2.2 x:=by
 classical
 refine⟨(fp b S).filter fun a=>decide (F a.1/\a.2.1.testBit k=true),CI _ _,fun x=>?_⟩;have g:∀a e,a<S.length->(e∈fY (av b S) a↔(a,e)∈cC b S 0):=fun a e h=>Gd _ _ h e _ _ rfl
 constructor
 ·rintro⟨a,t,y,h1,f,d,c⟩;refine⟨(a,t,y),?_,c⟩;rw[eF];refine⟨?_,by simp[h1,d]⟩;unfold fp;rw[eF];exact⟨(g a (t,y) (hF a h1)).1 f,by simpa using vA d⟩
 ·rintro⟨⟨a,t,y⟩,h1,f⟩;rw[eF]at h1;unfold fp at h1;rw[eF]at h1;obtain⟨⟨d,_⟩,c⟩:=h1;simp at c;exact⟨a,t,y,c.1,(g a (t,y) (hF a c.1)).2 d,c.2,f⟩
def xT(g:List (List (Nat×Nat)))(first:Nat)(S:Nat->Prop)(k:Nat)(x:Nat):Prop:=gr g S k x\/a6 g first x
def qN(a:Bool)(S:List St)(first:Nat):List (Nat->Prop):=a6 (av a S) first::(p8 (fp a S)).map fun sub x=>(∃e∈sub,a6 (av a S) e.2.2 x)\/a6 (av a S) first x
theorem Dd(a:Bool)(S:List St)(first:Nat)(h:(fp a S).length<=4):(qN a S first).length<=20:=by
 unfold qN;rw[bT,b5,Bh];have:2^(fp a S).length<=2^4:=nv (by omega) h;omega
theorem J5{g:List (List (Nat×Nat))}(hg:OT g){a x:Nat}(d:a<g.length)(h:a6 g a x):x<g.length:=by
 have hc:gO g (fun x=>x<g.length):=fun x c y b=>by
  unfold Ey at b;rw[kM c]at b;exact(hg.ib _ (bl c) _ b).1
 exact js hc d h
theorem Gx(b:Bool)(S:List St)(hS:AZ S)(first:Nat)(n:first<S.length):∀F∈qN b S first,∀x,F x->x<S.length:=by
 have hg:=wM b S hS;have o:=fA b S;have k:∀a x,a<S.length->a6 (av b S) a x->x<S.length:=fun a x v h=>by have:=J5 hg (by rw[o];exact v) h;rw[o]at this;exact this
 have sl:∀sub∈p8 (fp b S),∀e∈sub,e∈fp b S:=by
  generalize fp b S=l
  induction l with
  | nil=>intro sub h e c;simp[p8]at h;subst h;simp at c
  | cons a l q =>
   intro sub h e c;rw[p8,aR]at h;rcases h with h|h
   ·exact b6 _ (q sub h e c)
   ·obtain⟨y,h1,rfl⟩:=aN.1 h;rw[aT]at c;rcases c with rfl|c
    ·exact aU
    ·exact b6 _ (q y h1 e c)
 intro F hF x p;unfold qN at hF;rw[aT]at hF;rcases hF with rfl|hF
 ·exact k first x n p
 ·obtain⟨sub,h1,rfl⟩:=aN.1 hF;rcases p with⟨e,r,f⟩|f
  ·refine k _ x ?_ f;have g:=sl sub h1 e r;unfold fp at g;rw[eF,rz]at g;obtain⟨⟨j,s,m,i⟩,_⟩:=g;unfold gS at i;rw[aN]at i;obtain⟨u,t,d⟩:=i;have w:=(a1.1 m).1;cases b
   ·simp at d;rw[<- d];simpa using w
   ·simp at d;rw[<- d];exact hS.ib s (bC m) u t
  ·exact k first x n f
theorem IE(a:Bool)(S:List St)(hS:AZ S)(first:Nat)(c:first<S.length):∀F∈qN a S first,∀k,k<8->xT (av a S) first F k∈qN a S first:=by
 intro F hF k _;obtain⟨sub,h1,b⟩:=q6 a S F (Gx a S hS first c F hF) k;unfold qN;rw[aT];right;rw[aN];refine⟨sub,h1,nF fun x=>?_⟩;unfold xT;rw[b x]
theorem EW(g:List (List (Nat×Nat)))(hg:OT g)(v:Value)(first a c base:Nat)(wp i:World)(B:List (Nat->Prop))(t:mx wp v g)(hb:Below wp.heap.size wp i)(I:wp.heap.size<=base)(J:first<g.length)(h1:i.heap[a]?=some (.cells #[v] 229 (0,0))) (m:i.heap[c]?=some (.cells #[.int .i64 first] 3 (0,0))) (y:a<base) (z:c<base):E3 base i 176 (.pointer (some ⟨a,0,none⟩)) (.pointer (some ⟨c,0,none⟩)) g.length (xT g first) B:=by
 intro W b k S d hS _ x;have l:Hid (mx W v g):=t.tE (n9.below (hb.trans (d.mono I)));have G:Hid (be W b g.length S):=hS;have o:W.cell? ⟨a,0,none⟩=some v:=ab (iq y d h1) 0 _ rfl;have q:W.cell? ⟨c,0,none⟩=some (.int .i64 first):=ab (iq z d m) 0 _ rfl;have K:a<W.heap.size:=an (iq y d h1);have L:c<W.heap.size:=an (iq z d m);obtain⟨H,au,rfl,_⟩:=l.out.form;clear t hS hb h1 m;go_enter func176,ntmps176;go_wp2_with fail;refine(yH g hg _ W b k S l.out G.out x).mono ?_;rintro r j ⟨h,rfl,M,u,f⟩;have E:Hid (be j h g.length (gr g S k)):=u;have D:Hid (mx j (.slice H g.length au) g):=l.out.below f;have n:Hid (Below W.heap.size W j):=f;have d1:=(f.cell (p:=⟨a,0,none⟩) K).trans o;have d2:=(f.cell (p:=⟨c,0,none⟩) L).trans q;clear u f o q;go_wp2_with fail;refine(p9 g hg _ j h _ first D.out E.out J (q5 g S k)).mono ?_;rintro r A ⟨rfl,w,s⟩;have F:Hid (be A h g.length (xT g first S k)):=w;have C:Hid (Below W.heap.size W A):=n.out.trans (s.below n.out.size (fun k x e=>by omega));clear w s;go_wp2_with fail;go_ret;exact⟨h,rfl,F.out,C.out⟩
def dY(e:(Nat->Prop)->Nat->Nat->Prop)(c:Nat)(b:List (Nat->Prop))(d:Value->Value)(w:World)(r:Ending)(w':World):Prop :=
 ∃v bP a,r=.returned (d v)/\bz w.heap.size w' v bP/\bP.length=a.length/\b <+: a/\a.length<=20/\iQ e c a bP/\Below w.heap.size w w'
theorem pO(a:Bool)(S:List St)(hS:AZ S)(hc:(fp a S).length<=4)(v:Value)(first f:Nat)(w:World)(n:mx w v (av a S))(q:first<S.length)(K:f<=9000):Calls prog 135 #[v,.int .i64 first,.int .i64 f] w (dY (xT (av a S) first) f [a6 (av a S) first] id w):=by
 have hg:=wM a S hS;have s:=fA a S;have hlen:=hS.len;have u:Hid (mx w v (av a S)):=n;obtain⟨g,au,F,_⟩:=n.form;rw[s]at F;subst F;have m:Hid ((av a S).length=S.length):=s;clear n s;have J:∀(args:Array Value) (w:World),(callFunc 176 args).run prog w=.ok (.enter 176 args) w:=enters_of func176 (by kernel_rfl) rfl;go_enter func135,ntmps135;go_wp2_with fail;have l:Below w.heap.size w ((w.alloc (.cells #[.slice g S.length au] 229)).alloc (.cells #[.int .i64 first] 3)):=(af w _).alloc (by simp) _;refine(CA (av a S) hg _ _ first (u.out.below l) (by rw[m.out];exact q)).mono ?_;rintro r d ⟨b,rfl,P,D,j⟩;have k:((w.alloc (.cells #[.slice g S.length au] 229)).alloc (.cells #[.int .i64 first] 3)).heap.size=w.heap.size+2:=by simp
 have L:=j.size;rw[k]at L;have e:Hid (Below w.heap.size w d):=l.trans (j.mono (by rw[k];omega));have P1:d.heap[w.heap.size]?=some (.cells #[.slice g S.length au] 229 (0,0)):=by
  rw[j.block _ (by rw[k];omega),aW _ _ _ (by simp)];exact aw w _
 have y:d.heap[w.heap.size+1]?=some (.cells #[.int .i64 first] 3 (0,0)):=by
  rw[j.block _ (by rw[k];omega)];exact(show ((w.alloc (.cells #[.slice g S.length au] 229)).heap.size)=w.heap.size+1 by simp)▸aw (w.alloc _) _
 have t:Hid (Below d.heap.size d (d.alloc (.cells #[.map (some b)] 296))):=af d _;have z:Hid (iR (d.alloc (.cells #[.map (some b)] 296)) d.heap.size (.slice (some ⟨d.heap.size,0,none⟩) 1 1) (av a S).length [a6 (av a S) first] [b]):=by
  refine⟨rfl,⟨rfl,ac ⟨d.heap.size,1,_,rfl,ar _,aw d _,by simp,by unfold maxLen;omega,rfl,rfl⟩⟩,?_⟩;intro i c T hc h;cases i with
  | zero=>simp at hc h;subst hc;subst h;exact D.below (af d _)
  | succ i=>simp at hc
 have x:=EW (av a S) hg (.slice g S.length au) first w.heap.size (w.heap.size+1) d.heap.size w (d.alloc (.cells #[.map (some b)] 296)) (qN a S first) u.out (e.out.alloc e.out.size _) e.out.size (by rw[m.out];exact q)
  (by rw[t.out.block _ (by omega)];exact P1) (by rw[t.out.block _ (by omega)];exact y) (by omega) (by omega)
 have A:=yc d.heap.size (d.alloc (.cells #[.map (some b)] 296)) 176 w.heap.size (w.heap.size+1) (av a S).length f (xT (av a S) first) (qN a S first) [a6 (av a S) first] _ [b] J x (IE a S hS first q) (aE (Dd a S first hc) (by omega)) (by rw[m.out];exact hlen) K z.out
  ⟨by simp,fun T h=>by simp at h;subst h;unfold qN;exact aU,kw _⟩ (by simp)
 have G:Hid (Calls prog 179 #[.func (.func 176) #[] #[.pointer (some ⟨w.heap.size,0,none⟩),.pointer (some ⟨w.heap.size+1,0,none⟩)],.int .i64 f,.slice (some ⟨d.heap.size,0,none⟩) 1 1] (d.alloc (.cells #[.map (some b)] 296)) (y3 d.heap.size (xT (av a S) first) f (qN a S first) [a6 (av a S) first] (d.alloc (.cells #[.map (some b)] 296)))):=A;clear A x z P1 y D j l k;go_wp2_with fail;refine G.out.mono ?_;rintro r M ⟨v4,bP,I,rfl,p,E,o,C,B⟩;have H:Hid (dY (xT (av a S) first) f [a6 (av a S) first] id w (.returned v4) M):=⟨v4,bP,I,rfl,bX p e.out.size,E,o.pre,aE o.len (Dd a S first hc),C,(e.out.alloc e.out.size _).trans (B.mono e.out.size)⟩;obtain⟨N,O,rfl⟩:=ak p;clear p E o C B;go_wp2_with fail;go_ret;exact H.out
theorem j5{P:Program}{w:World}{c:Array Oper}{o:Oper}{a:Act}{K:Act->World->Prop}{Q:Exit->Act->World->Prop}{E:Prop}(i:o.guard=none)(f:Nat)(x y z:Operand)(ts:Array TypeId) (k:o.op=.call { callee:=.value (.func f),args:=#[x,y,z],argTypes:=ts }) (b:Go.Proofs.Enters P f) (v0 d v2:Value) (n:a.eval x=v0) (p:a.eval y=d) (q:a.eval z=v2) (R:Ending->World->Prop) (hc:Calls P f #[v0,d,v2] w R) (g:∀e w',R e w'->∃v,e=.returned v/\K (a.put o.dst v) w'):if Region.wanted o (yielded c a.tmps)=true then Oper.wp P o a w K Q else E:=by
 have m:Region.wanted o (yielded c a.tmps)=true:=by simp[Region.wanted,i]
 rw[ag m];unfold Go.Proofs.Enters at b;unfold Oper.wp execOp;have h:a.eval (.func f)=.func (.func f) #[] #[]:=rfl;simp[k,resolve,invoke,n,p,q,h,Deferred.ofValue,b,Oper.upon_enter];refine hc.mono ?_;intro e w' l;obtain⟨v,rfl,j⟩:=g e w' l;exact j
def My(g:List (List (Nat×Nat)))(W:World)(r:Ending)(w':World):Prop:=∃v,r=.returned v/\mx w' v g/\Below W.heap.size W w'
theorem Ci(S:List St)(hS:AZ S)(hc:(fp true S).length<=4)(o:Value)(n:List Value)(first:Nat)(w:World)(j:dH w 0 o S n)(J:first<S.length):Calls prog 81 #[.agg #[o,.int .i64 first]] w (dY (xT (av true S) first) 0 [a6 (av true S) first] (fun v=>.agg #[v]) w):=by
 have E:Hid (dH w 0 o S n):=j;have O:=hS.len;obtain⟨b,au,rfl⟩:=ak j.row;clear j;obtain⟨a,c⟩:∃a,a=(w.alloc (.cells #[.slice b S.length au,.int .i64 first] 146)).alloc (.cells #[.slice none 0 0] 152):=⟨_,rfl⟩;have F:Hid (a=(w.alloc (.cells #[.slice b S.length au,.int .i64 first] 146)).alloc (.cells #[.slice none 0 0] 152)):=c;have b0:Below w.heap.size w a:=by rw[c];exact(af w _).alloc (by simp) _
 have L:a.heap.size=w.heap.size+2:=by rw[c];simp
 have l:a.heap[w.heap.size]?=some (.cells #[.slice b S.length au,.int .i64 first] 146 (0,0)):=by rw[c,aW _ _ _ (by simp)];exact aw w _
 have m:a.heap[w.heap.size+1]?=some (.cells #[.slice none 0 0] 152 (0,0)):=by rw[c];exact(show ((w.alloc (.cells #[.slice b S.length au,.int .i64 first] 146)).heap.size)=w.heap.size+1 by simp)▸aw (w.alloc _) _
 have P1:Hid (a.heap[w.heap.size+1]?=some (.cells #[.slice none 0 0] 152 (0,0))):=m;have A:Hid (Below w.heap.size w a):=b0;have D:Hid (Calls prog 136 #[.agg #[.slice b S.length au,.int .i64 first]] a.drew (My (av true S) a.drew)):=yL S _ n first a.drew (E.out.later b0.drew) hS;have m0:a.cell? ⟨w.heap.size,0,none⟩=some (.slice b S.length au):=ab l 0 _ rfl;have m1:a.cell? ⟨w.heap.size,1,none⟩=some (.int .i64 (first:Nat)):=ab l 1 _ rfl;have R:a.cell? ⟨w.heap.size+1,0,none⟩=some (.slice none 0 0):=ab m 0 _ rfl;clear c b0 l m;go_enter func81,ntmps81;go_wp2_with fail;rw[<- F.out]
 go_region_law (first
  | (refine lm rfl 136 (.tmp 3) _ rfl (enters_of func136 (by kernel_rfl) rfl) (.agg #[.slice b S.length au,.int .i64 first]) (by simp[Act.eval]) _ D.out ?_
     rintro e W1 ⟨z,rfl,i,r⟩;refine⟨z,rfl,?_⟩;have C:Hid (mx W1 z (av true S)):=i;have f:Hid (Below a.heap.size a W1):=dW r;have P:=(f.out.cell (p:=⟨w.heap.size,1,none⟩) (by rw[L];show w.heap.size<_;omega)).trans m1;obtain⟨M,N,rfl,_⟩:=i.form;clear i r)
  | (refine j5 rfl 135 (.tmp 4) (.tmp 6) (.const (.int .i64 0)) _ rfl (enters_of func135 (by kernel_rfl) rfl) _ (.int .i64 (first:Nat)) (.int .i64 0) (by simp[Act.eval]) (by simp[Act.eval]) (by simp[Act.eval]) _ (pO true S hS hc _ first 0 W1 C.out J (by omega)) ?_
     rintro e W2 ⟨v2,bP,d,rfl,k,u,y,x,t,s⟩;refine⟨v2,rfl,?_⟩;have q:Hid (Below a.heap.size a W2):=f.out.trans (s.mono f.out.size);have B:Hid (Below w.heap.size w W2):=A.out.trans (q.out.mono (by omega));have G:Hid (bz w.heap.size W2 v2 bP):=bX k (aE (by omega) f.out.size);have g:Hid (bP.length=d.length/\[a6 (av true S) first] <+: d/\d.length<=20/\iQ (xT (av true S) first) 0 d bP):=⟨u,y,x,t⟩;have h:Hid (W2.heap[w.heap.size+1]?=some (.cells #[.slice none 0 0] 152 (0,0))):=by show _=_;rw[q.out.block _ (by omega)];exact P1.out
     have Q:=ab h.out 0 _ rfl;have f2:=aq h.out;obtain⟨H,I,K⟩:=ak k;subst K;clear k u y x t s))
 all_goals go_wp2_with fail
 all_goals refine bodyPost_ret (kx rfl _ _ (w.heap.size+1) 152 #[.slice H bP.length I] (0,0) _ rfl ((am h.out 0 _).trans rfl) Tryz.underlying152 rfl (by kernel_rfl)) rfl ?_
 all_goals exact⟨_,bP,d,rfl,al G.out ((Kp.refl _ _).setCell h.out (by decide) _),g.out.1,g.out.2.1,g.out.2.2.1,g.out.2.2.2,B.out.setCell (by show w.heap.size<=w.heap.size+1;omega) _⟩
theorem Hh(S:List St)(hS:AZ S)(hc:(fp false S).length<=4)(o:Value)(n:List Value)(first:Nat)(w:World)(j:dH w 0 o S n)(N:first<S.length):Calls prog 82 #[.agg #[o,.int .i64 first]] w (dY (xT (av false S) 0) first [a6 (av false S) 0] (fun v=>.agg #[v]) w):=by
 have E:Hid (dH w 0 o S n):=j;have O:=hS.len;obtain⟨b,au,rfl⟩:=ak j.row;clear j;obtain⟨a,c⟩:∃a,a=(w.alloc (.cells #[.slice b S.length au,.int .i64 first] 146)).alloc (.cells #[.slice none 0 0] 154):=⟨_,rfl⟩;have F:Hid (a=(w.alloc (.cells #[.slice b S.length au,.int .i64 first] 146)).alloc (.cells #[.slice none 0 0] 154)):=c;have b0:Below w.heap.size w a:=by rw[c];exact(af w _).alloc (by simp) _
 have K:a.heap.size=w.heap.size+2:=by rw[c];simp
 have l:a.heap[w.heap.size]?=some (.cells #[.slice b S.length au,.int .i64 first] 146 (0,0)):=by rw[c,aW _ _ _ (by simp)];exact aw w _
 have m:a.heap[w.heap.size+1]?=some (.cells #[.slice none 0 0] 154 (0,0)):=by rw[c];exact(show ((w.alloc (.cells #[.slice b S.length au,.int .i64 first] 146)).heap.size)=w.heap.size+1 by simp)▸aw (w.alloc _) _
 have P1:Hid (a.heap[w.heap.size+1]?=some (.cells #[.slice none 0 0] 154 (0,0))):=m;have A:Hid (Below w.heap.size w a):=b0;have D:Hid (Calls prog 137 #[.agg #[.slice b S.length au,.int .i64 first]] a.drew (My (av false S) a.drew)):=L8 S _ n first a.drew (E.out.later b0.drew) hS;have m0:a.cell? ⟨w.heap.size,0,none⟩=some (.slice b S.length au):=ab l 0 _ rfl;have m1:a.cell? ⟨w.heap.size,1,none⟩=some (.int .i64 (first:Nat)):=ab l 1 _ rfl;have R:a.cell? ⟨w.heap.size+1,0,none⟩=some (.slice none 0 0):=ab m 0 _ rfl;clear c b0 l m;go_enter func82,ntmps82;go_wp2_with fail;rw[<- F.out]
 go_region_law (first
  | (refine lm rfl 137 (.tmp 3) _ rfl (enters_of func137 (by kernel_rfl) rfl) (.agg #[.slice b S.length au,.int .i64 first]) (by simp[Act.eval]) _ D.out ?_
     rintro e W1 ⟨z,rfl,i,r⟩;refine⟨z,rfl,?_⟩;have C:Hid (mx W1 z (av false S)):=i;have f:Hid (Below a.heap.size a W1):=dW r;have P:=(f.out.cell (p:=⟨w.heap.size,1,none⟩) (by rw[K];show w.heap.size<_;omega)).trans m1;obtain⟨L,M,rfl,_⟩:=i.form;clear i r)
  | (refine j5 rfl 135 (.tmp 4) (.const (.int .i64 0)) (.tmp 6) _ rfl (enters_of func135 (by kernel_rfl) rfl) _ (.int .i64 0) (.int .i64 (first:Nat)) (by simp[Act.eval]) (by simp[Act.eval]) (by simp[Act.eval]) _ (pO false S hS hc _ 0 first W1 C.out (by omega) (by omega)) ?_
     rintro e W2 ⟨v2,bP,d,rfl,k,u,y,x,t,s⟩;refine⟨v2,rfl,?_⟩;have q:Hid (Below a.heap.size a W2):=f.out.trans (s.mono f.out.size);have B:Hid (Below w.heap.size w W2):=A.out.trans (q.out.mono (by omega));have G:Hid (bz w.heap.size W2 v2 bP):=bX k (aE (by omega) f.out.size);have g:Hid (bP.length=d.length/\[a6 (av false S) 0] <+: d/\d.length<=20/\iQ (xT (av false S) 0) first d bP):=⟨u,y,x,t⟩;have h:Hid (W2.heap[w.heap.size+1]?=some (.cells #[.slice none 0 0] 154 (0,0))):=by show _=_;rw[q.out.block _ (by omega)];exact P1.out
     have Q:=ab h.out 0 _ rfl;have f2:=aq h.out;obtain⟨H,I,J⟩:=ak k;subst J;clear k u y x t s))
 all_goals go_wp2_with fail
 all_goals refine bodyPost_ret (kx rfl _ _ (w.heap.size+1) 154 #[.slice H bP.length I] (0,0) _ rfl ((am h.out 0 _).trans rfl) Tryz.underlying154 rfl (by kernel_rfl)) rfl ?_
 all_goals exact⟨_,bP,d,rfl,al G.out ((Kp.refl _ _).setCell h.out (by decide) _),g.out.1,g.out.2.1,g.out.2.2.1,g.out.2.2.2,B.out.setCell (by show w.heap.size<=w.heap.size+1;omega) _⟩
theorem o3{P:Program}{w:World}{c:Array Oper}{o:Oper}{a:Act}{K:Act->World->Prop}{Q:Exit->Act->World->Prop}{E:Prop}(i:o.guard=none)(f:Nat)(x y:Operand)(ts:Array TypeId) (k:o.op=.call { callee:=.value (.func f),args:=#[x,y],argTypes:=ts }) (b:Go.Proofs.Enters P f) (v0 d:Value) (n:a.eval x=v0) (p:a.eval y=d) (R:Ending->World->Prop) (hc:Calls P f #[v0,d] w R) (g:∀e w',R e w'->∃v,e=.returned v/\K (a.put o.dst v) w'):if Region.wanted o (yielded c a.tmps)=true then Oper.wp P o a w K Q else E:=by
 have m:Region.wanted o (yielded c a.tmps)=true:=by simp[Region.wanted,i]
 rw[ag m];unfold Go.Proofs.Enters at b;unfold Oper.wp execOp;have h:a.eval (.func f)=.func (.func f) #[] #[]:=rfl;simp[k,resolve,invoke,n,p,h,Deferred.ofValue,b,Oper.upon_enter];refine hc.mono ?_;intro e w' l;obtain⟨v,rfl,j⟩:=g e w' l;exact j
def B1(g:List (List (Nat×Nat)))(a:Nat)(S:Nat->Prop)(k:Nat)(x:Nat):Prop:=(S a/\S x)\/(¬S a/\((gr g S k a/\x=a)\/(¬gr g S k a/\gr g S k x)))
theorem B0{g:List (List (Nat×Nat))}{a:Nat}{S:Nat->Prop}{k:Nat}(h:S a):B1 g a S k=S:=nF fun x=>by unfold B1;simp[h]
theorem FW{g:List (List (Nat×Nat))}{a:Nat}{S:Nat->Prop}{k:Nat}(h:¬S a)(b:gr g S k a):B1 g a S k=fun x=>x=a:=nF fun x=>by unfold B1;simp[h,b]
theorem Kn{g:List (List (Nat×Nat))}{a:Nat}{S:Nat->Prop}{k:Nat}(h:¬S a)(b:¬gr g S k a):B1 g a S k=gr g S k:=nF fun x=>by unfold B1;simp[h,b]
def xo(S:List St)(first a:Nat):List (Nat->Prop):=a6 (av true S) first::(fun _=>False)::(fun x=>x=a)::(p8 (fp true S)).map fun sub x=>∃e∈sub,a6 (av true S) e.2.2 x
theorem Dc(S:List St)(first a:Nat)(h:(fp true S).length<=4):(xo S first a).length<=20:=by
 unfold xo;rw[bT,bT,bT,b5,Bh];have:2^(fp true S).length<=2^4:=nv (by omega) h;omega
theorem Od(S:List St)(hS:AZ S)(first b:Nat)(d:first<S.length)(f:b<S.length):∀F∈xo S first b,∀x,F x->x<S.length:=by
 intro F hF x a;have c:=Gx true S hS first d;unfold xo at hF;rw[aT,aT,aT]at hF;rcases hF with rfl|rfl|rfl|hF
 ·exact c _ (by unfold qN;exact aU) x a
 ·exact a.elim
 ·subst a;exact f
 ·obtain⟨sub,h1,rfl⟩:=aN.1 hF;refine c (fun x=>(∃e∈sub,a6 (av true S) e.2.2 x)\/a6 (av true S) first x) ?_ x (ah a);unfold qN;rw[aT];exact ac (aN.2 ⟨sub,h1,rfl⟩)
theorem ID(S:List St)(hS:AZ S)(first a:Nat)(d:first<S.length)(e:a<S.length):∀F∈xo S first a,∀k,k<8->B1 (av true S) a F k∈xo S first a:=by
 intro F hF k _
 by_cases h:F a
 ·rw[B0 h];exact hF
 ·by_cases b:gr (av true S) F k a
  ·rw[FW h b];unfold xo;simp
  ·rw[Kn h b];obtain⟨sub,h1,c⟩:=q6 true S F (Od S hS first a d e F hF) k;unfold xo;rw[aT,aT,aT,aN];exact ac (ac (ac ⟨sub,h1,nF fun x=>(c x).symm⟩))
theorem Cu(g:List (List (Nat×Nat)))(hg:OT g)(v:Value)(a d h base:Nat)(wp w:World)(U:List (Nat->Prop))(L:mx wp v g)(hb:Below wp.heap.size wp w)(a3:wp.heap.size<=base)(a4:a<g.length)(h1:w.heap[d]?=some (.cells #[.int .i64 a] 3 (0,0))) (B:w.heap[h]?=some (.cells #[v] 229 (0,0))) (Q:d<base) (R:h<base):E3 base w 211 (.pointer (some ⟨d,0,none⟩)) (.pointer (some ⟨h,0,none⟩)) g.length (B1 g a) U:=by
 intro W b k S j hS _ a5;have F:Hid (mx W v g):=L.tE (n9.below (hb.trans (j.mono a3)));have z:Hid (be W b g.length S):=hS;have I:W.cell? ⟨d,0,none⟩=some (.int .i64 a):=ab (iq Q j h1) 0 _ rfl;have J:W.cell? ⟨h,0,none⟩=some v:=ab (iq R j B) 0 _ rfl;have u:d<W.heap.size:=an (iq Q j h1);have a8:h<W.heap.size:=an (iq R j B);have hlen:=hg.len;obtain⟨a1,au,rfl,_⟩:=F.out.form;clear L hS hb h1 B;have b0:=@run_makeMap prog;go_enter func211,ntmps211;go_wp2_with fail;refine(pC W b g.length a S z.out (by omega)).mono ?_;rintro r m ⟨c,rfl,hc,f⟩;have n:Hid (Below W.heap.size W m):=f;cases c
 ·have s:¬S a:=fun e=>by have:=hc.2 e;cases this
  have d1:=(f.cell (p:=⟨d,0,none⟩) u).trans I;have d2:=(f.cell (p:=⟨h,0,none⟩) a8).trans J;have Y:Hid (mx m (.slice a1 g.length au) g):=F.out.below f;have A:Hid (be m b g.length S):=z.out.below f;clear f I J hc;go_wp2_with fail;refine(yH g hg _ m b k S Y.out A.out a5).mono ?_;rintro r E ⟨o,rfl,a9,M,q⟩;have H:Hid (be E o g.length (gr g S k)):=M;have V:Hid (Below W.heap.size W E):=n.out.trans (q.mono n.out.size);have t:=n.out.size;have K:=(q.cell (p:=⟨d,0,none⟩) (cI u t)).trans d1;have D:=q.size;clear M q d1 d2;go_wp2_with fail;refine(pC E o g.length a _ H.out (by omega)).mono ?_;rintro r w3 ⟨a2,rfl,N,l⟩;have i:Hid (Below W.heap.size W w3):=V.out.trans (l.mono (aE t D));have Z:Hid (be w3 o g.length (gr g S k)):=H.out.below l;have f1:=(l.cell (p:=⟨d,0,none⟩) (cI u (aE t D))).trans K;have a7:=l.size;clear l K;cases a2
  ·have C:¬gr g S k a:=fun e=>by have:=N.2 e;cases this
   go_wp2_with fail;go_ret;exact⟨o,rfl,by rw[Kn s C];exact Z.out,i.out⟩
  ·have C:gr g S k a:=N.1 rfl;have a6:=lu a (by omega);have G:Hid (eW (w3.alloc (.map #[] 0)) w3.heap.size g.length (.map []) (fun _=>False)):=mJ w3 g.length;have g1:=((af w3 (.map #[] 0)).cell (p:=⟨d,0,none⟩) (cI u (aE t (aE D a7)))).trans f1;obtain⟨T,b1,P,O⟩:=G.out.own.update gx Tryz.lH (by unfold maxLen;simp[Maps.size]) (val:=.agg #[]) a6 unitElem_mk;have X:Hid (Below W.heap.size W T):=(i.out.alloc i.out.size _).grown O (by have:=i.out.size;simp;omega) (fun k e=>by have:=i.out.size;injection e with e;omega);have a0:Hid (be T w3.heap.size g.length (fun y=>False\/y=a)):=⟨_,G.out.put a4 P⟩;clear P O;go_wp2_with fail;go_ret;exact⟨_,rfl,by rw[FW s C];exact a0.out.congr fun x=>by simp,X.out⟩
 ·have s:S a:=hc.1 rfl;have A:Hid (be m b g.length S):=z.out.below f;clear f;go_wp2_with fail;go_ret;exact⟨b,rfl,by rw[B0 s];exact A.out,n.out⟩
end Go.Proofs.YtodagkkjfipbgaaGreatDoor
