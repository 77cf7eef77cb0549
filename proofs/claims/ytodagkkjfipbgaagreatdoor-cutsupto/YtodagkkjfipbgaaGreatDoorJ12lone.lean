import Derived.Test.YtodagkkjfipbgaaGreatDoorM4toA39
set_option maxRecDepth 100000
set_option maxHeartbeats 8000000
namespace Go.Proofs.YtodagkkjfipbgaaGreatDoor
open Go.RowKit Go.Maps Go.Proofs.Tryz
theorem Hp(lb:Nat)(vL:Value)(a:List bw)(w:World)(c1:qR lb w vL a)(h3:∀L∈a,gY L)(hlen:a.length<=100):Calls prog 43 #[vL] w fun r w'=>∃v X n au,r=.returned (.agg #[v])/\v=.slice X n au/\xN w.heap.size w' v a/\Below w.heap.size w w':=by
 obtain⟨X,au,rfl,c8⟩:=c1.form;have e7:Hid (∀i (hi:i<a.length),∃g t y x z a3 a4,X=some ⟨g,0,none⟩/\g<w.heap.size/\dH w 0 (.slice t a[i].SL.length y) a[i].SL a3/\dH w 0 (.slice x a[i].SR.length z) a[i].SR a4 /\
  w.cell? ⟨g,i*5,none⟩=some (.bool a[i].cut)/\w.cell? ⟨g,i*5+1,none⟩=some (.slice t a[i].SL.length y)/\w.cell? ⟨g,i*5+2,none⟩=some (.int .i64 (a[i].fL:Nat))/\w.cell? ⟨g,i*5+3,none⟩=some (.slice x a[i].SR.length z)/\w.cell? ⟨g,i*5+4,none⟩=some (.int .i64 (a[i].fR:Nat))):=c8
 clear c1 c8;have a8:Hid (((w.alloc (.cells #[.slice none 0 0] 89)).alloc (.cells #[.slice none 0 0] 89)).heap[w.heap.size+1]?=some (.cells #[.slice none 0 0] 89 (0,0))):=by
  show _=_;exact(show ((w.alloc (.cells #[.slice none 0 0] 89)).heap.size)=w.heap.size+1 by simp)▸aw (w.alloc _) _
 have a9:Hid (((w.alloc (.cells #[.slice none 0 0] 89)).alloc (.cells #[.slice none 0 0] 89)).heap[w.heap.size]?=some (.cells #[.slice none 0 0] 89 (0,0))):=by
  show _=_;rw[aW _ _ _ (by simp)];exact aw w _
 have a5:Hid (Below w.heap.size w ((w.alloc (.cells #[.slice none 0 0] 89)).alloc (.cells #[.slice none 0 0] 89))):=(af w _).alloc (by simp) _;go_enter func43,ntmps43;go_wp2_with fail
 go_loopg [8] a.length (fun h0 h6 U=>∃(i:Nat) (d:Option Addr) (n f:Nat),i<=a.length/\h0=a.length-i/\h6=.int .i64 i/\Hid (U.heap[w.heap.size+1]?=some (.cells #[.slice d n f] 89 (0,0)))/\Hid (U.heap[w.heap.size]?=some (.cells #[.slice none 0 0] 89 (0,0)))/\Hid (xN w.heap.size U (.slice d n f) (a.take i))/\Hid (Below w.heap.size w U))
 case atStart=>exact⟨0,none,0,0,aJ _,rfl,rfl,a8,a9,xN.nil _ _,a5⟩
 case round =>
  obtain⟨i,d,n,f,hi,rfl,rfl,R,E,c0,A⟩:=hrel;obtain⟨b,h5⟩:∃b,b=wr:=⟨wr,rfl⟩;subst h5;clear a8 a9 a5;have e0:=A.out.size
  by_cases Z:i<a.length
  ·obtain⟨g,t,y,x,z,a3,a4,rfl,hg,c2,c4,b3,b4,b5,c3,b6⟩:=e7.out i Z;have H:Hid (gY a[i]):=h3 _ (bl Z);have e8:Hid (a.take (i+1)=a.take i++[a[i]]):=by show _=_;rw[lc,ax Z];rfl
   generalize a[i]=L at *;have d0:=(A.out.cell (p:=⟨g,i*5,none⟩) hg).trans b3;have d1:=(A.out.cell (p:=⟨g,i*5+1,none⟩) hg).trans b4;have d2:=(A.out.cell (p:=⟨g,i*5+2,none⟩) hg).trans b5;have d3:=(A.out.cell (p:=⟨g,i*5+3,none⟩) hg).trans c3;have d4:=(A.out.cell (p:=⟨g,i*5+4,none⟩) hg).trans b6;clear b3 b4 b5 c3 b6;obtain⟨c,K⟩:∃c,c=b.alloc (.cells #[.bool L.cut,.slice t L.SL.length y,.int .i64 (L.fL:Nat),.slice x L.SR.length z,.int .i64 (L.fR:Nat)] 148):=⟨_,rfl⟩;have e9:Hid (c=b.alloc (.cells #[.bool L.cut,.slice t L.SL.length y,.int .i64 (L.fL:Nat),.slice x L.SR.length z,.int .i64 (L.fR:Nat)] 148)):=K;have b0:Below b.heap.size b c:=by rw[K];exact af b _
   have i2:c.heap.size=b.heap.size+1:=by rw[K];simp
   have F:c.heap[b.heap.size]?=some (.cells #[.bool L.cut,.slice t L.SL.length y,.int .i64 (L.fL:Nat),.slice x L.SR.length z,.int .i64 (L.fR:Nat)] 148 (0,0)):=by rw[K];exact aw b _
   have c9:w.heap.size+1<b.heap.size:=an R.out;have T:c.heap[w.heap.size+1]?=some (.cells #[.slice d n f] 89 (0,0)):=by rw[b0.block _ c9];exact R.out
   have h9:Hid (c.heap[b.heap.size]?=some (.cells #[.bool L.cut,.slice t L.SL.length y,.int .i64 (L.fL:Nat),.slice x L.SR.length z,.int .i64 (L.fR:Nat)] 148 (0,0))):=F;have h8:Hid (c.heap[w.heap.size+1]?=some (.cells #[.slice d n f] 89 (0,0))):=T;have P:Hid (Below w.heap.size w c):=A.out.trans (b0.mono e0);have e4:Hid (Below b.heap.size b c):=b0;have e5:Hid (∀W,Below c.heap.size c W->Calls prog 81 #[.agg #[.slice t L.SL.length y,.int .i64 (L.fL:Nat)]] W (dY (xT (av true L.SL) L.fL) 0 [a6 (av true L.SL) L.fL] (fun v=>.agg #[v]) W)):=fun W hb=>Ci L.SL H.out.sl H.out.cl _ a3 L.fL W ((c2.later (P.out.trans (hb.mono P.out.size)))) H.out.fl
   have e6:Hid (∀W,Below c.heap.size c W->Calls prog 82 #[.agg #[.slice x L.SR.length z,.int .i64 (L.fR:Nat)]] W (dY (xT (av false L.SR) 0) L.fR [a6 (av false L.SR) 0] (fun v=>.agg #[v]) W)):=fun W hb=>Hh L.SR H.out.sr H.out.cr _ a4 L.fR W ((c4.later (P.out.trans (hb.mono P.out.size)))) H.out.fr
   have m0:c.cell? ⟨b.heap.size,0,none⟩=some (.bool L.cut):=ab F 0 _ rfl;have m1:c.cell? ⟨b.heap.size,1,none⟩=some (.slice t L.SL.length y):=ab F 1 _ rfl;have m2:c.cell? ⟨b.heap.size,2,none⟩=some (.int .i64 (L.fL:Nat)):=ab F 2 _ rfl;have m3:c.cell? ⟨b.heap.size,3,none⟩=some (.slice x L.SR.length z):=ab F 3 _ rfl;have m4:c.cell? ⟨b.heap.size,4,none⟩=some (.int .i64 (L.fR:Nat)):=ab F 4 _ rfl;have mj:c.cell? ⟨w.heap.size+1,0,none⟩=some (.slice d n f):=ab T 0 _ rfl;clear K b0 F T c2 c4;go_wp2_with fail;rw[<- e9.out];obtain⟨I,e3,a2,e1⟩:=c0.out;have g3:Hid (b.ownsRow w.heap.size 157 3 (.slice d n f) (a.take i).length (dV (a.take i) I)):=a2;have g1:Hid (I.length=(a.take i).length):=e3;have a7:Hid (∀(C:Nat) (L:bw) (u:Value×Value),(a.take i)[C]?=some L->I[C]?=some u->nj b u.1 L.SL L.fL/\md b u.2 L.SR L.fR):=e1;have a0:n=(a.take i).length:=by obtain⟨_,_,e⟩:=ak a2;injection e
   have i1:n<=100:=by rw[a0,cz];omega
   have Q:Hid (n=(a.take i).length):=a0;clear a2 e3 e1 a0
   go_region_law (first
    | (refine lm rfl 81 (.tmp 17) _ rfl (enters_of func81 (by kernel_rfl) rfl) (.agg #[.slice t L.SL.length y,.int .i64 (L.fL:Nat)]) (by simp[Act.eval]) _ (e5.out _ ((aB _ _).drew)) ?_
       intro e W1 N;obtain⟨j5,h,l,j,rfl,rfl,c5,b9⟩:=ma.of N;refine⟨_,rfl,?_⟩;have g7:Hid (nj W1 (.slice h l j) L.SL L.fL):=c5;have D:Hid (Below c.heap.size c W1):=dW b9;have i5:=(D.out.cell (p:=⟨b.heap.size,0,none⟩) (by show b.heap.size<_;omega)).trans m0;have i6:=(D.out.cell (p:=⟨b.heap.size,3,none⟩) (by show b.heap.size<_;omega)).trans m3;have i7:=(D.out.cell (p:=⟨b.heap.size,4,none⟩) (by show b.heap.size<_;omega)).trans m4;have i9:=(D.out.cell (p:=⟨w.heap.size+1,0,none⟩) (by show w.heap.size+1<_;omega)).trans mj;clear N c5 b9)
    | (refine lm rfl 82 (.tmp 20) _ rfl (enters_of func82 (by kernel_rfl) rfl) (.agg #[.slice x L.SR.length z,.int .i64 (L.fR:Nat)]) (by simp[Act.eval]) _ (e6.out _ D.out) ?_
       intro e W2 N;obtain⟨v2,m,s,q,rfl,rfl,c7,Y⟩:=ma.of N;refine⟨_,rfl,?_⟩;have g9:Hid (md W2 (.slice m s q) L.SR L.fR):=c7;have g8:Hid (nj W2 (.slice h l j) L.SL L.fL):=g7.out.tE (Kp.below Y);have O:Hid (Below c.heap.size c W2):=D.out.trans (Y.mono D.out.size);have i3:=O.out.size;have G:Hid (Below b.heap.size b (W2.alloc (.cells #[.bool L.cut,.slice h l j,.slice m s q] 157))):=(e4.out.trans (O.out.mono (by omega))).alloc (by omega) _;have J:Hid ((W2.alloc (.cells #[.bool L.cut,.slice h l j,.slice m s q] 157)).ownsRow w.heap.size 157 3 (.slice d n f) n (dV (a.take i) I)):=by rw[Q.out];exact al (Q.out▸g3.out) (Kp.below G.out)
       have g0:Hid (∀(C:Nat) (B:bw) (u:Value×Value),(a.take i)[C]?=some B->I[C]?=some u->nj (W2.alloc (.cells #[.bool L.cut,.slice h l j,.slice m s q] 157)) u.1 B.SL B.fL/\md (W2.alloc (.cells #[.bool L.cut,.slice h l j,.slice m s q] 157)) u.2 B.SR B.fR):=fun C B u h1 b8=>⟨(a7.out C B u h1 b8).1.tE (Kp.below G.out),(a7.out C B u h1 b8).2.tE (Kp.below G.out)⟩
       have b1:Hid (md (W2.alloc (.cells #[.bool L.cut,.slice h l j,.slice m s q] 157)) (.slice m s q) L.SR L.fR/\nj (W2.alloc (.cells #[.bool L.cut,.slice h l j,.slice m s q] 157)) (.slice h l j) L.SL L.fL):=⟨g9.out.tE (Kp.below (af W2 _)),g8.out.tE (Kp.below (af W2 _))⟩;have g4:Hid ((W2.alloc (.cells #[.bool L.cut,.slice h l j,.slice m s q] 157)).heap[w.heap.size+1]?=some (.cells #[.slice d n f] 89 (0,0))):=by show _=_;rw[G.out.block _ c9];exact R.out
       have g5:Hid ((W2.alloc (.cells #[.bool L.cut,.slice h l j,.slice m s q] 157)).heap[w.heap.size]?=some (.cells #[.slice none 0 0] 89 (0,0))):=by show _=_;rw[G.out.block _ (an E.out)];exact E.out
       have j0:=(O.out.cell (p:=⟨b.heap.size,0,none⟩) (by show b.heap.size<_;omega)).trans m0;have h7:=(O.out.cell (p:=⟨w.heap.size+1,0,none⟩) (by show w.heap.size+1<_;omega)).trans mj;have j1:=fun o=>((af W2 o).cell (p:=⟨w.heap.size+1,0,none⟩) (by show w.heap.size+1<_;omega)).trans h7
       clear N c7 Y)
    | (refine dz rfl (.tmp 13) (.tmp 23) 87 rfl w.heap.size 157 (.agg #[.bool false,.slice none 0 0,.slice none 0 0]) 3 56 Tryz.Pz Tryz.Qz rfl (by decide) (.slice d n f) n (dV (a.take i) I) (by simp[Act.eval]) J.out W2.heap.size 1 [.bool L.cut,.slice h l j,.slice m s q] (by simp[Act.eval]) rfl (GU W2 L.cut _ _) (yb _ _ _ rfl rfl) (by omega) (by omega) (by simp;omega) ?_
       intro j4 W3 a1 M h4;obtain⟨b2,b7,rfl⟩:=ak a1;have g2:Hid (xN w.heap.size W3 (.slice b2 (n+1) b7) (a.take (i+1))):=by
        rw[e8.out];exact xN.push (v:=.slice d n f) g1.out g0.out (Q.out▸J.out) M b1.out.2 b1.out.1 (Q.out▸a1)
       have S:=br g4.out (Kp.refl _ _) J.out M (by decide);have V:Hid (W3.heap[w.heap.size+1]?=some (.cells #[.slice d n f] 89 (0,0))):=S;have g6:Hid (W3.heap[w.heap.size]?=some (.cells #[.slice none 0 0] 89 (0,0))):=br g5.out (Kp.refl _ _) J.out M (by decide);have B4:Hid (Below w.heap.size w W3):=(A.out.trans (G.out.mono e0)).grown M (by simp;omega) (fun k h2=>(J.out.lt k h2).1);have i0:=ab S 0 _ rfl;have i4:=aq S;clear a1 M h4 S))
   all_goals go_wp2_with fail
   all_goals go_roundg (a.length-(i+1))
   all_goals first
    | (case measure=>omega)
    | skip
   all_goals
    refine⟨i+1,b2,n+1,b7,by omega,rfl,by go_num,(am V.out 0 _).trans rfl,?_,g2.out.kp ((Kp.refl _ _).setCell V.out (by decide) _) ((Kp.refl _ _).setCell V.out (by decide) _),B4.out.setCell (by show w.heap.size<=w.heap.size+1;omega) _⟩;show _=_;rw[e2 _ _ _ _ (by show w.heap.size≠w.heap.size+1;omega)];exact g6.out
  ·have e:Hid (a.take i=a):=gj (by omega);have T:=ab R.out 0 _ rfl;have j2:=ab E.out 0 _ rfl;have j3:=aq E.out;go_wp2_with fail;refine bodyPost_ret (kx rfl _ _ w.heap.size 89 #[.slice d n f] (0,0) _ rfl ((am E.out 0 _).trans rfl) Tryz.underlying89 rfl (by kernel_rfl)) rfl ?_;refine⟨_,d,n,f,rfl,rfl,?_,A.out.setCell (ar _) _⟩;have:=c0.out;rw[e.out]at this;exact this.kp ((Kp.refl _ _).setCell E.out (by decide) _) ((Kp.refl _ _).setCell E.out (by decide) _)
end Go.Proofs.YtodagkkjfipbgaaGreatDoor
