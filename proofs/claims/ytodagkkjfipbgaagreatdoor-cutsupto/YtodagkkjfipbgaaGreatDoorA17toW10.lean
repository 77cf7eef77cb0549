import Derived.Deep.RegionWith
import Derived.Test.YtodagkkjfipbgaaGreatDoorA9toA16
set_option maxRecDepth 100000
set_option maxHeartbeats 8000000
namespace Go.Proofs.YtodagkkjfipbgaaGreatDoor
open Go.RowKit Go.Proofs.Tryz
def oP(w:World)(v:Value)(L:List Nat):Prop:=∃a au,v=.slice a L.length au/\∀i (hi:i<L.length),∃g o,a=some ⟨g,o,none⟩/\w.cell? ⟨g,o+i,none⟩=some (.int .i64 (L[i]:Nat))
theorem oP.aY{w w':World}{v:Value}{L:List Nat}(h:oP w v L)(hb:Below w.heap.size w w'):oP w' v L:=by
 obtain⟨d,au,j,hc⟩:=h;refine⟨d,au,j,fun i hi=>?_⟩;obtain⟨g,o,e,h1⟩:=hc i hi;exact⟨g,o,e,(hb.cell (p:=⟨g,o+i,none⟩) (jf w ⟨g,o+i,none⟩ h1)).trans h1⟩
def g5(t:Tr):Prop:=∀v:List Nat,v.length<=1048576->(t.cE v).fit
theorem g5.fit{t:Tr}(h:g5 t):t.fit:=h [] (by simp)
theorem CU(t:Tr)(L:List Nat)(j:Nat)(h:j<L.length):t.cE (L.take (j+1))=(t.cE (L.take j)).dt L[j]:=by
 rw[jh h,Tr.m9]
theorem xS(w:World)(d:Nat)(v M:Value)(t:Tr)(L:List Nat)(h:aS d w v t.rx)(a0:oP w M L)(E:g5 t)(H:∀k∈L,k<8)(a9:L.length<=1048576):Calls prog 107 #[v,M] w fun e w'=>∃b:Bool,e=.returned (.bool b)/\(b=true↔∃j,j<=L.length/\(t.cE (L.take j)).hU=true)/\Below w.heap.size w w':=by
 obtain⟨a3,au,rfl,hc⟩:=a0;have R:=az hc;have P:=az h;have x:=az E;have T:=az H;clear hc h E H;go_enter func107,ntmps107;go_wp2_with fail
 go_loopg [0,5] (L.length+1) (fun X a i wr=>∃j:Nat,j<=L.length+1/\X=L.length+1-j/\i=.int .i64 j/\(j<=L.length->∃d',aS d' wr a (t.cE (L.take j)).rx)/\(∀c,c<j->(t.cE (L.take c)).hU=false)/\Below w.heap.size w wr)
 case atStart=>exact⟨0,by omega,rfl,rfl,fun _=>⟨d,P.out⟩,by omega,aB _ _⟩
 case round =>
  obtain⟨N,a1⟩:∃N,N=wr:=⟨wr,rfl⟩;subst a1;obtain⟨j,a7,rfl,rfl,n,J,s⟩:=hrel;have y:=az J;clear J
  by_cases G:j<=L.length
  ·obtain⟨d1,n⟩:=n G;have A:=az n;clear n;have F:=x.out (L.take j) (by rw[cz];omega);have r:=az F;clear F;go_wp2_with fail;refine(mY d1 _ _ _ A.out r.out.1 r.out.2.2).mono ?_;rintro a5 O ⟨rfl,C⟩;have f:=s.trans (C.mono s.size);have V:Hid (aS d1 O u0 (t.cE (L.take j)).rx):=A.out.aY (bf.aL C);cases l:(t.cE (L.take j)).hU
   ·have q:=az l;clear l;have z:Hid (∀c,c<j+1->(t.cE (L.take c)).hU=false):=by
     intro c a8
     by_cases e:c=j
     ·rw[e];exact q.out
     ·exact y.out c (by omega)
    by_cases m:j<L.length
    ·obtain⟨g,o,rfl,D⟩:=R.out j m;have hg:=jf w ⟨g,o+j,none⟩ D;have a4:O.cell? ⟨g,o+j,none⟩=some (.int .i64 (L[j]:Nat)):=(f.cell (p:=⟨g,o+j,none⟩) hg).trans D;have u:=x.out (L.take (j+1)) (by rw[cz];omega);rw[CU t L j m]at u;have S:=az u;clear u;have Z:=T.out L[j] (bl m);generalize I:L[j]=a2 at *;have U:=az I;clear I;go_wp2_with fail;refine(xj a2 Z d1 _ _ _ V.out r.out S.out).mono ?_;rintro a6 w3 ⟨v3,d3,rfl,K,Y⟩;have W:Hid (aS d3 w3 v3 (t.cE (L.take (j+1))).rx):=by rw[CU t L j m,U.out];exact K
     clear K;have Q:=az (f.trans (Y.mono f.size));go_wp2_with fail;go_roundg (L.length+1-(j+1))
     case measure=>omega
     case rel=>exact⟨j+1,by omega,rfl,by go_num,fun _=>⟨d3,W.out⟩,z.out,Q.out⟩
    ·go_wp2_with fail;go_roundg (L.length+1-(j+1))
     case measure=>omega
     case rel=>exact⟨j+1,by omega,rfl,by go_num,fun h=>by omega,z.out,f⟩
   ·have q:=az l;clear l;go_wp2_with fail;go_ret;exact⟨true,rfl,⟨fun _=>⟨j,G,q.out⟩,fun _=>rfl⟩,f⟩
  ·go_wp2_with fail;go_ret;refine⟨false,rfl,⟨fun h=>by simp at h,?_⟩,s⟩;rintro⟨c,h1,B⟩;rw[y.out c (by omega)]at B;exact B
theorem w8(L:List Nat)(f i:Nat)(h1:f<=i)(b:i<L.length):(L.drop f).take (i+1-f)=(L.drop f).take (i-f)++[L[i]]:=by
 have e:i+1-f=(i-f)+1:=by omega
 rw[e,jh (by rw[gg];omega)];have a:f+(i-f)=i:=by omega
 simp only[List.getElem_drop,a]
theorem BM(w:World)(d:Nat)(v Q:Value)(t:Tr)(L:List Nat)(h:aS d w v t.rx)(a4:oP w Q L)(I:g5 t)(M:∀k∈L,k<8)(b4:L.length<=1048576):Calls prog 106 #[v,Q] w fun e w'=>∃b:Bool,e=.returned (.bool b)/\(b=true↔∃j,j<=L.length/\(t.cE (L.drop j)).hU=true)/\Below w.heap.size w w':=by
 obtain⟨a8,au,rfl,hc⟩:=a4;have S:=az hc;have R:=az h;have D:=az I;have V:=az M;clear hc h I M;go_enter func106,ntmps106;go_wp2_with fail
 go_loopg [5] (L.length+1) (fun r i wr=>∃f:Nat,f<=L.length+1/\r=L.length+1-f/\i=.int .i64 f/\(∀a,a<f->(t.cE (L.drop a)).hU=false)/\Below w.heap.size w wr)
 case atStart=>exact⟨0,by omega,rfl,rfl,by omega,aB _ _⟩
 case round =>
  obtain⟨B,a5⟩:∃B,B=wr:=⟨wr,rfl⟩;subst a5;obtain⟨f,b0,rfl,rfl,N,s⟩:=hrel;have E:=az N;clear N
  by_cases K:f<=L.length
  ·have X:Hid (aS d B v t.rx):=R.out.aY (bf.aL s);go_wp2_with fail
   go_loopg [6,7] (L.length-f) (fun r x i wr=>∃j:Nat,f<=j/\j<=L.length/\r=L.length-j/\i=.int .i64 j/\(∃d',aS d' wr x (t.cE ((L.drop f).take (j-f))).rx)/\Below w.heap.size w wr)
   case atStart=>exact⟨f,by omega,K,rfl,rfl,⟨d,by rw[Nat.sub_self];exact X.out⟩,s⟩
   case round =>
    obtain⟨C,a6⟩:∃C,C=wr:=⟨wr,rfl⟩;subst a6;obtain⟨j,a1,b3,rfl,rfl,⟨d1,O⟩,c⟩:=hrel;have q:=az O;clear O;have J:=D.out ((L.drop f).take (j-f)) (by rw[cz,gg];omega);have m:=az J;clear J
    by_cases z:j<L.length
    ·obtain⟨g,o,rfl,H⟩:=S.out j z;have hg:=jf w ⟨g,o+j,none⟩ H;have a9:C.cell? ⟨g,o+j,none⟩=some (.int .i64 (L[j]:Nat)):=(c.cell (p:=⟨g,o+j,none⟩) hg).trans H;have A:t.cE ((L.drop f).take (j+1-f))=(t.cE ((L.drop f).take (j-f))).dt L[j]:=by rw[w8 L f j a1 z,Tr.m9]
     have y:=D.out ((L.drop f).take (j+1-f)) (by rw[cz,gg];omega);rw[A]at y;have Y:=az A;have U:=az y;clear y A;have a2:=V.out L[j] (bl z);generalize a3:L[j]=a7 at *;clear a3;go_wp2_with fail;refine(xj a7 a2 d1 _ _ _ q.out m.out U.out).mono ?_;rintro a0 w3 ⟨v3,d3,rfl,P,u⟩;have Z:Hid (aS d3 w3 v3 (t.cE ((L.drop f).take (j+1-f))).rx):=by rw[Y.out];exact P
     clear P;have l:=az (c.trans (u.mono c.size));go_wp2_with fail;go_roundg (L.length-(j+1))
     case measure=>omega
     case rel=>exact⟨j+1,by omega,by omega,rfl,by go_num,⟨d3,Z.out⟩,l.out⟩
    ·have b2:j=L.length:=by omega
     have G:(L.drop f).take (j-f)=L.drop f:=by rw[gj];rw[gg];omega
     rw[G]at q m;clear G;go_wp2_with fail;refine(mY d1 _ _ _ q.out m.out.1 m.out.2.2).mono ?_;rintro a0 w3 ⟨rfl,u⟩;have l:=az (c.trans (u.mono c.size));cases n:(t.cE (L.drop f)).hU
     ·have W:Hid (∀a,a<f+1->(t.cE (L.drop a)).hU=false):=by
       intro a b1
       by_cases e:a=f
       ·rw[e];exact n
       ·exact E.out a (by omega)
      clear n;go_wp2_with fail;go_roundg (L.length+1-(f+1))
      case measure=>omega
      case rel=>exact⟨f+1,by omega,rfl,by go_num,W.out,l.out⟩
     ·have T:=az n;clear n;go_wp2_with fail;go_ret;exact⟨true,rfl,⟨fun _=>⟨f,K,T.out⟩,fun _=>rfl⟩,l.out⟩
  ·go_wp2_with fail;go_ret;refine⟨false,rfl,⟨fun h=>by simp at h,?_⟩,s⟩;rintro⟨a,h1,F⟩;rw[E.out a (by omega)]at F;exact F
def lF(t:Tr)(row:List Nat)(i:Nat):Prop:=∃j,j<=i/\(t.cE ((row.take i).drop j)).hU=true
def iw(t:Tr)(row:List Nat)(i:Nat):Prop:=∃j,j<=row.length-i/\(t.cE ((row.drop i).take j)).hU=true
def qQ:List (Bool×Tr×Tr)->List Nat->Nat->Bool->Prop
 | [],_,_,b=>b=true
 | x::l,row,i,b=>(lF x.2.1 row i/\iw x.2.2 row i/\b=x.1)\/(¬(lF x.2.1 row i/\iw x.2.2 row i)/\qQ l row i b)
theorem ri{L:List (Bool×Tr×Tr)}{row:List Nat}{i:Nat}{b:Bool}:∀k,(∀(k':Nat) (x:Bool×Tr×Tr),k'<k->L[k']?=some x->¬(lF x.2.1 row i/\iw x.2.2 row i))->qQ (L.drop k) row i b->qQ L row i b:=by
 intro k
 induction k generalizing L with
 | zero=>intro _ h;exact h
 | succ k d =>
  intro a h;cases L with
  | nil=>simpa using h
  | cons x L=>exact ac ⟨a 0 x (by omega) rfl,d (fun k' y e c=>a (k'+1) y (by omega) (by simpa using c)) (by simpa using h)⟩
def Dn(w:World)(b:Nat)(L:List (Bool×Tr×Tr)):Prop:=∃a au,w.cell? ⟨b,6,none⟩=some (.slice a L.length au)/\∀i (hi:i<L.length),∃g c e,a=some ⟨g,0,none⟩/\w.cell? ⟨g,i*3,none⟩=some (.bool L[i].1)/\w.cell? ⟨g,i*3+1,none⟩=some c/\w.cell? ⟨g,i*3+2,none⟩=some e/\(∃d,aS d w c L[i].2.1.rx)/\∃d,aS d w e L[i].2.2.rx
theorem bB{w w':World}(hb:Below w.heap.size w w'){p:Addr}{v:Value}(h:w.cell? p=some v):w'.cell? p=some v:=(hb.cell (jf w p h)).trans h
theorem Dn.aY{w w':World}{b:Nat}{L:List (Bool×Tr×Tr)}(h:Dn w b L)(hb:Below w.heap.size w w'):Dn w' b L:=by
 obtain⟨j,au,h1,n⟩:=h;refine⟨j,au,bB hb h1,fun i hi=>?_⟩;obtain⟨g,v,x,e,o,q,t,⟨d,u⟩,d',k4⟩:=n i hi;exact⟨g,v,x,e,bB hb o,bB hb q,bB hb t,⟨d,u.aY (bf.aL hb)⟩,d',k4.aY (bf.aL hb)⟩
def x5(w:World)(g au:Nat)(row:List Nat):Prop:=row.length<=au/\∀i (hi:i<row.length),w.cell? ⟨g,i,none⟩=some (.int .i64 (row[i]:Nat))
theorem x5.aY{w w':World}{g au:Nat}{row:List Nat}(h:x5 w g au row)(hb:Below w.heap.size w w'):x5 w' g au row:=⟨h.1,fun i hi=>bB hb (h.2 i hi)⟩
theorem x5.left{w:World}{g au:Nat}{row:List Nat}(h:x5 w g au row){i:Nat}(hi:i<=row.length):oP w (.slice (some ⟨g,0,none⟩) i au) (row.take i):=by
 refine⟨some ⟨g,0,none⟩,au,by rw[cz,Nat.min_eq_left hi],fun j d=>⟨g,0,rfl,?_⟩⟩;rw[cz]at d;rw[k9,List.getElem_take];exact h.2 j (by omega)
theorem x5.right{w:World}{g au:Nat}{row:List Nat}(h:x5 w g au row){i:Nat}:oP w (.slice (some ⟨g,i,none⟩) (row.length-i) (au-i)) (row.drop i):=by
 refine⟨some ⟨g,i,none⟩,au-i,by rw[gg],fun j d=>⟨g,i,rfl,?_⟩⟩;rw[gg]at d;rw[List.getElem_drop];exact h.2 (i+j) (by omega)
def rV(L:List (Bool×Tr×Tr))(row:List Nat)(i:Nat)(w:World)(e:Ending)(w':World):Prop:=∃c:Bool,e=.returned (.bool c)/\(if i=row.length then c=true else qQ L row i c)/\Below w.heap.size w w'
theorem BN(w:World)(b g au i:Nat)(L:List (Bool×Tr×Tr))(row:List Nat)(S:Dn w b L)(G:x5 w g au row)(X:∀x∈L,g5 x.2.1/\g5 x.2.2)(F:∀k∈row,k<8)(c4:row.length<=1048576)(hi:i<=row.length)(c3:L.length<=4):Calls prog 56 #[.pointer (some ⟨b,0,none⟩),.slice (some ⟨g,0,none⟩) row.length au,.int .i64 i] w (rV L row i w):=by
 by_cases D:i=row.length
 ·subst D;go_enter func56,ntmps56;go_wp2_with fail;go_ret;exact⟨true,rfl,by rw[ag rfl],aB _ _⟩
 ·have t:Hid (¬i=row.length):=D;clear D;have c5:((i:Int)==(row.length:Int))=false:=by rw[aO];have:=t.out;omega
  have c2:i<row.length:=by have:=t.out;omega
  have a3:Hid (Dn w b L):=S;have a5:Hid (x5 w g au row):=G;have c1:=G.1;have a2:Hid (∀x∈L,g5 x.2.1/\g5 x.2.2):=X;have N:Hid (∀k∈row,k<8):=F;obtain⟨O,r,a7,_⟩:=S;clear G X F;go_enter func56,ntmps56;go_wp2_with fail
  go_loopg [7] L.length (fun b1 b9 wr=>∃k:Nat,k<=L.length/\b1=L.length-k/\b9=.int .i64 k/\(∀(k':Nat) (x:Bool×Tr×Tr),k'<k->L[k']?=some x->¬(lF x.2.1 row i/\iw x.2.2 row i))/\Below w.heap.size w wr)
  case atStart=>exact⟨0,by omega,rfl,rfl,by omega,aB _ _⟩
  case round =>
   obtain⟨f,b4⟩:∃f,f=wr:=⟨wr,rfl⟩;subst b4;obtain⟨k,F,rfl,rfl,Y,l⟩:=hrel;have p:Hid (∀(k':Nat) (x:Bool×Tr×Tr),k'<k->L[k']?=some x->¬(lF x.2.1 row i/\iw x.2.2 row i)):=Y;clear Y;have P:f.cell? ⟨b,6,none⟩=some (.slice O L.length r):=bB l a7
   by_cases s:k<L.length
   ·obtain⟨a6,a8,q,W⟩:=a3.out.aY l;obtain⟨rfl,rfl⟩:O=a6/\r=a8:=by rw[P]at q;simp at q;exact q
    obtain⟨n,Z,H,rfl,b7,c7,b8,⟨a9,Q⟩,b0,R⟩:=W k s;clear W q;have E:=a2.out L[k] (bl s);have v:=a5.out.aY l;have a0:Hid (∀a,Below f.heap.size f a->Calls prog 106 #[Z,.slice (some ⟨g,0,none⟩) i au] a fun e w'=>∃c:Bool,e=.returned (.bool c)/\(c=true↔lF L[k].2.1 row i)/\Below a.heap.size a w'):=by
     intro a hb;refine(BM a a9 Z _ L[k].2.1 (row.take i) (Q.aY (bf.aL hb)) ((v.left hi).aY hb) E.1 (fun x d=>N.out x (ld d)) (by rw[cz];omega)).mono ?_;rintro e w' ⟨c,h1,y,z⟩;refine⟨c,h1,y.trans ?_,z⟩;rw[cz,Nat.min_eq_left hi];exact Iff.rfl
    have a1:Hid (∀a,Below f.heap.size f a->Calls prog 107 #[H,.slice (some ⟨g,i,none⟩) (row.length-i) (au-i)] a fun e w'=>∃c:Bool,e=.returned (.bool c)/\(c=true↔iw L[k].2.2 row i)/\Below a.heap.size a w'):=by
     intro a hb;refine(xS a b0 H _ L[k].2.2 (row.drop i) (R.aY (bf.aL hb)) (v.right.aY hb) E.2 (fun x d=>N.out x (q0 d)) (by rw[gg];omega)).mono ?_;rintro e w' ⟨c,h1,y,z⟩;refine⟨c,h1,y.trans ?_,z⟩;rw[gg];exact Iff.rfl
    clear E v Q R
    go_upto_region 6 with fail
    go_cut [8] from 23 to 34 (fun J I=>∃c:Bool,J=.bool c/\(c=true↔lF L[k].2.1 row i)/\Below f.heap.size f I)
    case first =>
     go_region_with (go_at_call 106;refine(a0.out _ ((aB _ _).drew)).mono ?_;rintro e W1 ⟨c,rfl,m,C⟩)
     all_goals go_wp2_with fail
     all_goals go_meet
     all_goals exact⟨c,rfl,m,((aB _ _).drew).trans C⟩
    case rest =>
     obtain⟨c,rfl,m,o⟩:=hcut;obtain⟨j,b5⟩:∃j,j=wc:=⟨wc,rfl⟩;subst b5;have K:Hid (c=true↔lF L[k].2.1 row i):=m;clear m;have A:=l.trans (o.mono l.size);have T:Hid (L[k]?=some L[k]):=ax s;cases c
     ·have u:Hid (∀(k':Nat) (x:Bool×Tr×Tr),k'<k+1->L[k']?=some x->¬(lF x.2.1 row i/\iw x.2.2 row i)):=by
       intro k' x b3 d
       by_cases e:k'=k
       ·subst e;rw[T.out]at d;cases d;intro h;have:=K.out.2 h.1;cases this
       ·exact p.out k' x (by omega) d
      go_wp2_with fail;go_roundg (L.length-(k+1))
      case measure=>omega
      case rel=>exact⟨k+1,by omega,rfl,by go_num,u.out,A⟩
     ·have f6:j.cell? ⟨b,6,none⟩=some (.slice (some ⟨n,0,none⟩) L.length r):=bB o P;have f2:j.cell? ⟨n,k*3+2,none⟩=some H:=bB o b8;have f0:j.cell? ⟨n,k*3,none⟩=some (.bool L[k].1):=bB o b7;have b2:Hid (¬au=i):=by show ¬au=i;omega
      go_upto_region 8 with fail
      go_cut [9] from 37 to 48 (fun J I=>∃c:Bool,J=.bool c/\(c=true↔iw L[k].2.2 row i)/\Below j.heap.size j I)
      case first =>
       go_region_with (go_at_call 107;rw[ae b2.out];refine(a1.out _ (by exact(o.drew))).mono ?_;rintro e W1 ⟨c,rfl,m,C⟩)
       all_goals go_wp2_with fail
       all_goals go_meet
       all_goals exact⟨c,rfl,m,((aB _ _).drew).trans C⟩
      case rest =>
       obtain⟨c,rfl,V,B⟩:=hcut;obtain⟨w3,b6⟩:∃w3,w3=wc:=⟨wc,rfl⟩;subst b6;have M:Hid (c=true↔iw L[k].2.2 row i):=V;clear V;have U:=A.trans (B.mono A.size);cases c
       ·have u:Hid (∀(k':Nat) (x:Bool×Tr×Tr),k'<k+1->L[k']?=some x->¬(lF x.2.1 row i/\iw x.2.2 row i)):=by
         intro k' x b3 d
         by_cases e:k'=k
         ·subst e;rw[T.out]at d;cases d;intro h;have:=M.out.2 h.2;cases this
         ·exact p.out k' x (by omega) d
        go_wp2_with fail;go_roundg (L.length-(k+1))
        case measure=>omega
        case rel=>exact⟨k+1,by omega,rfl,by go_num,u.out,U⟩
       ·have c0:w3.cell? ⟨b,6,none⟩=some (.slice (some ⟨n,0,none⟩) L.length r):=bB B f6;have g0:w3.cell? ⟨n,k*3,none⟩=some (.bool L[k].1):=bB B f0;have a4:Hid (qQ L row i L[k].1):=by
         refine ri k p.out ?_;rw[lf s];exact ah ⟨K.out.1 rfl,M.out.1 rfl,rfl⟩
        go_wp2_with fail;go_ret;exact⟨_,rfl,by rw[ae t.out];exact a4.out,U⟩
   ·go_wp2_with fail;go_ret;refine⟨true,rfl,?_,l⟩;rw[ae t.out];refine ri k p.out ?_;rw[List.drop_of_length_le (by omega)];rfl
def iE(c:Nat):Nat:=if c<128 then 1 else if 194<=c/\c<224 then 2 else if 224<=c/\c<240 then 3 else if 240<=c/\c<245 then 4 else 0
def zM(c j b:Nat):Prop:=128<=b/\b<192/\(j=1->¬(c=224/\b<160)/\¬(c=237/\160<=b)/\¬(c=240/\b<144)/\¬(c=244/\144<=b))
def aI(s:ai)(j:Nat):Nat:=(s.get! j).toNat
theorem lA(s:ai)(j:Nat)(h:j<s.size):aI s j=s[j].toNat:=by
 unfold aI;rw[show s.get! j=s[j] from by simp[ByteArray.get!,ByteArray.getElem_eq_getElem_data,h]]
structure y6 (s:ai) (k n:Nat):Prop where
 lead:n=iE (aI s 0)
 none_:n=0->k=0
 pos:0<n->1<=k/\k<=n/\k<=s.size
 zL:∀j,1<=j->j<k->zM (aI s 0) j (aI s j)
 stop:0<n->k<n->k<s.size->¬zM (aI s 0) k (aI s k)
theorem fd(c:Nat)(hc:c<256):(c<128/\iE c=1)\/(194<=c/\c<224/\iE c=2)\/(224<=c/\c<240/\iE c=3)\/(240<=c/\c<245/\iE c=4)\/(128<=c/\c<194/\iE c=0)\/(245<=c/\iE c=0):=by
 unfold iE
 (repeat' split)<;>omega
theorem EC(s:ai)(w:World)(h1:1<=s.size)(W:s.size<=2000000):Calls prog 103 #[.string s] w fun e w'=>∃k n:Nat,e=.returned (.tuple #[.int .i64 k,.int .i64 n])/\y6 s k n/\w'=w:=by
 have a:0<s.size:=h1;have b:Hid ((s[0]'a).toNat=aI s 0):=(lA s 0 a).symm;have D:(s[0]'a).toNat<256:=s[0].toNat_lt
 by_cases E:iE (s[0]'a).toNat=0
 ·have N:Hid (iE (s[0]'a).toNat=0):=E;have S:(s[0]'a).toNat<194/\128<=(s[0]'a).toNat\/245<=(s[0]'a).toNat:=by rcases fd _ D with h|h|h|h|h|h<;>omega
  have f:Hid (y6 s 0 0):=⟨by rw[<- b.out,N.out],fun _=>rfl,fun h=>by omega,fun j _ h=>by omega,fun h=>by omega⟩;clear E;rcases S with⟨x,F⟩|x
  all_goals
   go_enter func103,ntmps103;go_wp2_with fail
   go_ret2
   exact⟨0,0,rfl,f.out,rfl⟩
 ·obtain⟨n,y⟩:∃n,n=iE (s[0]'a).toNat:=⟨_,rfl⟩;have o:Hid (n=iE (s[0]'a).toNat):=y;have L:1<=n/\n<=4:=by rw[y];rcases fd _ D with h|h|h|h|h|h<;>omega
  obtain⟨Y,L⟩:=L;have K:((s[0]'a).toNat<128/\n=1)\/(194<=(s[0]'a).toNat/\(s[0]'a).toNat<224/\n=2)\/(224<=(s[0]'a).toNat/\(s[0]'a).toNat<240/\n=3)\/(240<=(s[0]'a).toNat/\(s[0]'a).toNat<245/\n=4):=by rw[y];rcases fd _ D with h|h|h|h|h|h<;>omega
  clear E y;go_enter func103,ntmps103
  go_upto_block 0 with fail
  go_cut [5] from 10 to 33 (fun U V=>U=.int .i64 n/\V=w)
  case first =>
   rcases K with⟨x,rfl⟩|⟨x,F,rfl⟩|⟨x,F,rfl⟩|⟨x,F,rfl⟩
   all_goals
    go_wp2_with fail;go_meet;exact⟨rfl,rfl⟩
  case rest =>
   obtain⟨rfl,rfl⟩:=hcut;clear K;go_wp2_with fail
   go_loopg [6] 3 (fun Q T wr=>∃k:Nat,1<=k/\k<=n/\k<=s.size/\Q=4-k/\T=.int .i64 k/\(∀j,1<=j->j<k->zM (aI s 0) j (aI s j))/\wr=wc)
   case atStart=>exact⟨1,by omega,by omega,by omega,rfl,rfl,fun j _ _=>by omega,rfl⟩
   case round =>
    obtain⟨k,p,q,r,rfl,rfl,M,rfl⟩:=hrel;have g:Hid (∀j,1<=j->j<k->zM (aI s 0) j (aI s j)):=M;clear M
    by_cases R:k<n
    ·by_cases d:k<s.size
     ·have i:Hid ((s[k]'d).toNat=aI s k):=(lA s k d).symm;have X:(s[k]'d).toNat<256:=s[k].toNat_lt
      by_cases Z:128<=(s[k]'d).toNat
      ·have O:decide ((128:Int)<=((s[k]'d).toNat:Int))=true:=by simp;omega
       by_cases a0:(s[k]'d).toNat<192
       ·have P:decide (((s[k]'d).toNat:Int)<192)=true:=by simp;omega
        by_cases u:k=1
        ·subst u
         by_cases G:(s[0]'a).toNat=224
         ·have f0:(((s[0]'a).toNat:Int)==224)=true:=by simp;omega
          have A:(((s[0]'a).toNat:Int)==237)=false:=by rw[aO];omega
          have B:(((s[0]'a).toNat:Int)==240)=false:=by rw[aO];omega
          have C:(((s[0]'a).toNat:Int)==244)=false:=by rw[aO];omega
          by_cases t0:(s[1]'d).toNat<160
          ·have u0:decide (((s[1]'d).toNat:Int)<160)=true:=by simp;omega
           have f:Hid (y6 s 1 n):=⟨by rw[o.out,<- b.out],fun h=>by omega,fun _=>⟨p,q,r⟩,g.out,fun _ _ _ c=>by
            rw[<- i.out,<- b.out]at c;obtain⟨t,z2,z3⟩:=c
            first|omega|(have z4:=z3 (by omega);omega)⟩
           clear G;go_wp2_with fail
           go_ret2
           exact⟨1,n,rfl,f.out,rfl⟩
          ·have u0:decide (((s[1]'d).toNat:Int)<160)=false:=by simp;omega
           have l:Hid (∀j,1<=j->j<1+1->zM (aI s 0) j (aI s j)):=by
            intro j m v
            by_cases e:j=1
            ·rw[e,<- i.out,<- b.out];exact⟨by omega,by omega,fun _=>⟨by omega,by omega,by omega,by omega⟩⟩
            ·exact g.out j m (by omega)
           clear G;go_wp2_with fail;go_roundg (4-(1+1))
           case measure=>omega
           case rel=>exact⟨1+1,by omega,by omega,by omega,rfl,by go_num,l.out,rfl⟩
         ·by_cases H:(s[0]'a).toNat=237
          ·have f1:(((s[0]'a).toNat:Int)==237)=true:=by simp;omega
           have z:(((s[0]'a).toNat:Int)==224)=false:=by rw[aO];omega
           have B:(((s[0]'a).toNat:Int)==240)=false:=by rw[aO];omega
           have C:(((s[0]'a).toNat:Int)==244)=false:=by rw[aO];omega
           by_cases t1:160<=(s[1]'d).toNat
           ·have u1:decide ((160:Int)<=((s[1]'d).toNat:Int))=true:=by simp;omega
            have f:Hid (y6 s 1 n):=⟨by rw[o.out,<- b.out],fun h=>by omega,fun _=>⟨p,q,r⟩,g.out,fun _ _ _ c=>by
             rw[<- i.out,<- b.out]at c;obtain⟨t,z2,z3⟩:=c
             first|omega|(have z4:=z3 (by omega);omega)⟩
            clear H;go_wp2_with fail
            go_ret2
            exact⟨1,n,rfl,f.out,rfl⟩
           ·have u1:decide ((160:Int)<=((s[1]'d).toNat:Int))=false:=by simp;omega
            have l:Hid (∀j,1<=j->j<1+1->zM (aI s 0) j (aI s j)):=by
             intro j m v
             by_cases e:j=1
             ·rw[e,<- i.out,<- b.out];exact⟨by omega,by omega,fun _=>⟨by omega,by omega,by omega,by omega⟩⟩
             ·exact g.out j m (by omega)
            clear H;go_wp2_with fail;go_roundg (4-(1+1))
            case measure=>omega
            case rel=>exact⟨1+1,by omega,by omega,by omega,rfl,by go_num,l.out,rfl⟩
          ·by_cases I:(s[0]'a).toNat=240
           ·have f2:(((s[0]'a).toNat:Int)==240)=true:=by simp;omega
            have z:(((s[0]'a).toNat:Int)==224)=false:=by rw[aO];omega
            have A:(((s[0]'a).toNat:Int)==237)=false:=by rw[aO];omega
            have C:(((s[0]'a).toNat:Int)==244)=false:=by rw[aO];omega
            by_cases t2:(s[1]'d).toNat<144
            ·have u2:decide (((s[1]'d).toNat:Int)<144)=true:=by simp;omega
             have f:Hid (y6 s 1 n):=⟨by rw[o.out,<- b.out],fun h=>by omega,fun _=>⟨p,q,r⟩,g.out,fun _ _ _ c=>by
              rw[<- i.out,<- b.out]at c;obtain⟨t,z2,z3⟩:=c
              first|omega|(have z4:=z3 (by omega);omega)⟩
             clear I;go_wp2_with fail
             go_ret2
             exact⟨1,n,rfl,f.out,rfl⟩
            ·have u2:decide (((s[1]'d).toNat:Int)<144)=false:=by simp;omega
             have l:Hid (∀j,1<=j->j<1+1->zM (aI s 0) j (aI s j)):=by
              intro j m v
              by_cases e:j=1
              ·rw[e,<- i.out,<- b.out];exact⟨by omega,by omega,fun _=>⟨by omega,by omega,by omega,by omega⟩⟩
              ·exact g.out j m (by omega)
             clear I;go_wp2_with fail;go_roundg (4-(1+1))
             case measure=>omega
             case rel=>exact⟨1+1,by omega,by omega,by omega,rfl,by go_num,l.out,rfl⟩
           ·by_cases c3:(s[0]'a).toNat=244
            ·have f3:(((s[0]'a).toNat:Int)==244)=true:=by simp;omega
             have z:(((s[0]'a).toNat:Int)==224)=false:=by rw[aO];omega
             have A:(((s[0]'a).toNat:Int)==237)=false:=by rw[aO];omega
             have B:(((s[0]'a).toNat:Int)==240)=false:=by rw[aO];omega
             by_cases t3:144<=(s[1]'d).toNat
             ·have u3:decide ((144:Int)<=((s[1]'d).toNat:Int))=true:=by simp;omega
              have f:Hid (y6 s 1 n):=⟨by rw[o.out,<- b.out],fun h=>by omega,fun _=>⟨p,q,r⟩,g.out,fun _ _ _ c=>by
               rw[<- i.out,<- b.out]at c;obtain⟨t,z2,z3⟩:=c
               first|omega|(have z4:=z3 (by omega);omega)⟩
              clear c3;go_wp2_with fail
              go_ret2
              exact⟨1,n,rfl,f.out,rfl⟩
             ·have u3:decide ((144:Int)<=((s[1]'d).toNat:Int))=false:=by simp;omega
              have l:Hid (∀j,1<=j->j<1+1->zM (aI s 0) j (aI s j)):=by
               intro j m v
               by_cases e:j=1
               ·rw[e,<- i.out,<- b.out];exact⟨by omega,by omega,fun _=>⟨by omega,by omega,by omega,by omega⟩⟩
               ·exact g.out j m (by omega)
              clear c3;go_wp2_with fail;go_roundg (4-(1+1))
              case measure=>omega
              case rel=>exact⟨1+1,by omega,by omega,by omega,rfl,by go_num,l.out,rfl⟩
            ·have z:(((s[0]'a).toNat:Int)==224)=false:=by rw[aO];omega
             have A:(((s[0]'a).toNat:Int)==237)=false:=by rw[aO];omega
             have B:(((s[0]'a).toNat:Int)==240)=false:=by rw[aO];omega
             have C:(((s[0]'a).toNat:Int)==244)=false:=by rw[aO];omega
             have l:Hid (∀j,1<=j->j<1+1->zM (aI s 0) j (aI s j)):=by
              intro j m v
              by_cases e:j=1
              ·rw[e,<- i.out,<- b.out];exact⟨by omega,by omega,fun _=>⟨by omega,by omega,by omega,by omega⟩⟩
              ·exact g.out j m (by omega)
             go_wp2_with fail;go_roundg (4-(1+1))
             case measure=>omega
             case rel=>exact⟨1+1,by omega,by omega,by omega,rfl,by go_num,l.out,rfl⟩
        ·have J:((k:Int)==1)=false:=by rw[aO];omega
         have l:Hid (∀j,1<=j->j<k+1->zM (aI s 0) j (aI s j)):=by
          intro j m v
          by_cases e:j=k
          ·rw[e,<- i.out,<- b.out];exact⟨by omega,by omega,fun _=>⟨by omega,by omega,by omega,by omega⟩⟩
          ·exact g.out j m (by omega)
         go_wp2_with fail;go_roundg (4-(k+1))
         case measure=>omega
         case rel=>exact⟨k+1,by omega,by omega,by omega,rfl,by go_num,l.out,rfl⟩
       ·have P:decide (((s[k]'d).toNat:Int)<192)=false:=by simp;omega
        by_cases u:k=1
        ·subst u;have f:Hid (y6 s 1 n):=⟨by rw[o.out,<- b.out],fun h=>by omega,fun _=>⟨p,q,r⟩,g.out,fun _ _ _ c=>by
          rw[<- i.out,<- b.out]at c;obtain⟨t,z2,z3⟩:=c
          first|omega|(have z4:=z3 (by omega);omega)⟩
         go_wp2_with fail
         go_ret2
         exact⟨1,n,rfl,f.out,rfl⟩
        ·have J:((k:Int)==1)=false:=by rw[aO];omega
         have f:Hid (y6 s k n):=⟨by rw[o.out,<- b.out],fun h=>by omega,fun _=>⟨p,q,r⟩,g.out,fun _ _ _ c=>by
          rw[<- i.out,<- b.out]at c;obtain⟨t,z2,z3⟩:=c
          first|omega|(have z4:=z3 (by omega);omega)⟩
         go_wp2_with fail
         go_ret2
         exact⟨k,n,rfl,f.out,rfl⟩
      ·have O:decide ((128:Int)<=((s[k]'d).toNat:Int))=false:=by simp;omega
       by_cases u:k=1
       ·subst u;have f:Hid (y6 s 1 n):=⟨by rw[o.out,<- b.out],fun h=>by omega,fun _=>⟨p,q,r⟩,g.out,fun _ _ _ c=>by
         rw[<- i.out,<- b.out]at c;obtain⟨t,z2,z3⟩:=c
         first|omega|(have z4:=z3 (by omega);omega)⟩
        go_wp2_with fail
        go_ret2
        exact⟨1,n,rfl,f.out,rfl⟩
       ·have J:((k:Int)==1)=false:=by rw[aO];omega
        have f:Hid (y6 s k n):=⟨by rw[o.out,<- b.out],fun h=>by omega,fun _=>⟨p,q,r⟩,g.out,fun _ _ _ c=>by
         rw[<- i.out,<- b.out]at c;obtain⟨t,z2,z3⟩:=c
         first|omega|(have z4:=z3 (by omega);omega)⟩
        go_wp2_with fail
        go_ret2
        exact⟨k,n,rfl,f.out,rfl⟩
     ·have f:Hid (y6 s k n):=⟨by rw[o.out,<- b.out],fun h=>by omega,fun _=>⟨p,q,r⟩,g.out,fun _ _ h=>absurd h d⟩;go_wp2_with fail
      go_ret2
      exact⟨k,n,rfl,f.out,rfl⟩
    ·have f:Hid (y6 s k n):=⟨by rw[o.out,<- b.out],fun h=>by omega,fun _=>⟨p,q,r⟩,g.out,fun _ h=>absurd h R⟩;go_wp2_with fail
     go_ret2
     exact⟨k,n,rfl,f.out,rfl⟩
def iG(n:Nat):Int:=if n=2 then 192 else if n=3 then 224 else if n=4 then 240 else 0
def oY(s:ai):Nat->Int
 | 0=>(aI s 0:Int)-iG s.size
 | j+1=>64*oY s j+(aI s (j+1):Int)-128
theorem eU(s:ai)(j:Nat):aI s j<256:=(s.get! j).toNat_lt
theorem Pj(s:ai):∀j,j<=3->-2000000000<=oY s j/\oY s j<=2000000000:=by
 have h0:-300<=oY s 0/\oY s 0<=300:=by
  have:=eU s 0;unfold oY iG;(repeat' split)<;>omega
 have h1:-20000<=oY s 1/\oY s 1<=20000:=by have:=eU s 1;show _<=64*oY s 0+(aI s 1:Int)-128/\64*oY s 0+(aI s 1:Int)-128<=_;omega
 have c:-2000000<=oY s 2/\oY s 2<=2000000:=by have:=eU s 2;show _<=64*oY s 1+(aI s 2:Int)-128/\64*oY s 1+(aI s 2:Int)-128<=_;omega
 have a:-2000000000<=oY s 3/\oY s 3<=2000000000:=by have:=eU s 3;show _<=64*oY s 2+(aI s 3:Int)-128/\64*oY s 2+(aI s 3:Int)-128<=_;omega
 intro j b
 match j,b with
 | 0,_=>omega
 | 1,_=>omega
 | 2,_=>omega
 | 3,_=>exact a
def iU(s:ai):Int:=if s.size=1 then (aI s 0:Int)else oY s (s.size-1)
theorem Ho(s:ai)(w:World)(h1:1<=s.size)(G:s.size<=4):Calls prog 104 #[.string s] w fun e w'=>e=.returned (.int .i64 (iU s))/\Below w.heap.size w w':=by
 have a:0<s.size:=h1;have k:Hid ((s[0]'a).toNat=aI s 0):=(lA s 0 a).symm;have I:(s[0]'a).toNat<256:=s[0].toNat_lt
 by_cases d:s.size=1
 ·have g:Hid (iU s=((s[0]'a).toNat:Int)):=by show iU s=_;unfold iU;rw[ag d,<- k.out]
  have t:((s.size:Int)==1)=true:=by simp;omega
  clear d;go_enter func104,ntmps104;go_wp2_with fail;go_ret;exact⟨by rw[g.out];rfl,aB _ _⟩
 ·have g:Hid (iU s=oY s (s.size-1)):=by show iU s=_;unfold iU;rw[ae d]
  have t:((s.size:Int)==1)=false:=by rw[aO];omega
  have F:2<=s.size:=by omega
  have z:Hid (iG s.size=192\/iG s.size=224\/iG s.size=240):=by
   show _\/_\/_;unfold iG;(repeat' split)<;>omega
  clear d;go_enter func104,ntmps104
  go_upto_region 4 with fail
  go_cut [4] from 13 to 21 (fun h E=>h=.int .i64 (oY s 0)/\Below w.heap.size w E)
  case first =>
   obtain⟨W,b⟩:∃W,W=w.alloc (.cells #[.int .i64 0,.int .i64 0,.int .i64 192,.int .i64 224,.int .i64 240] 3):=⟨_,rfl⟩;have J:W.cell? ⟨w.heap.size,s.size,none⟩=some (.int .i64 (iG s.size)):=by
    have y:W.heap[w.heap.size]?=some (.cells #[.int .i64 0,.int .i64 0,.int .i64 192,.int .i64 224,.int .i64 240] 3 (0,0)):=by rw[b];exact aw _ _
    have:s.size=2\/s.size=3\/s.size=4:=by omega
    rcases this with e|e|e<;>rw[e]<;>exact ab y _ _ rfl
   have n:Hid (Below w.heap.size w W):=by show Below _ _ _;rw[b];exact(aB _ _).alloc (ar _) _
   have o:Hid (oY s 0=((s[0]'a).toNat:Int)-iG s.size):=by show oY s 0=_;rw[k.out];rfl
   have A:iG s.size<=240/\192<=iG s.size:=by rcases z.out with e|e|e<;>rw[e]<;>omega
   obtain⟨K,L⟩:=A;rw[<- b];clear b;generalize iG s.size=hd at *;go_region
   all_goals go_wp2_with fail
   all_goals go_meet
   all_goals exact⟨by rw[o.out],n.out.drew⟩
  case rest =>
   obtain⟨rfl,v⟩:=hcut;obtain⟨m,C⟩:∃m,m=wc:=⟨wc,rfl⟩;subst C;go_wp2_with fail
   go_loopg [4,5] 3 (fun u h D wr=>∃j:Nat,1<=j/\j<=s.size/\u=4-j/\D=.int .i64 j/\h=.int .i64 (oY s (j-1))/\Below w.heap.size w wr)
   case atStart=>exact⟨1,by omega,by omega,rfl,rfl,rfl,v⟩
   case round =>
    obtain⟨j,M,N,rfl,rfl,rfl,l⟩:=hrel
    by_cases c:j<s.size
    ·have x:Hid ((s[j]'c).toNat=aI s j):=(lA s j c).symm;have H:(s[j]'c).toNat<256:=s[j].toNat_lt;have B:=Pj s (j-1) (by omega);have p:Hid (oY s j=64*oY s (j-1)+((s[j]'c).toNat:Int)-128):=by
      show oY s j=_;obtain⟨i,rfl⟩:∃i,j=i+1:=⟨j-1,by omega⟩;rw[x.out];rfl
     obtain⟨q,f⟩:∃q,q=oY s (j-1):=⟨_,rfl⟩;rw[<- f]at B;have r:Hid (q=oY s (j-1)):=f;rw[<- f];clear f;go_wp2_with fail;go_roundg (4-(j+1))
     case measure=>omega
     case rel =>
      refine⟨j+1,by omega,by omega,rfl,by go_num,?_,l⟩;show _=Value.int .i64 (oY s j);rw[p.out,<- r.out]
    ·go_wp2_with fail;go_ret;refine⟨?_,l⟩;have e:j=s.size:=by omega
     rw[g.out,<- e];rfl
def AQ(w:World)(b f:Nat)(S:List (Int×Int×Int)):Prop:=(∃c d,w.cell? ⟨b,4,none⟩=some (.slice c f d))/\∃a e,w.cell? ⟨b,5,none⟩=some (.slice a S.length e)/\∀i (hi:i<S.length),∃g,a=some ⟨g,0,none⟩/\w.cell? ⟨g,i*3,none⟩=some (.int .i64 S[i].1)/\w.cell? ⟨g,i*3+1,none⟩=some (.int .i64 S[i].2.1)/\w.cell? ⟨g,i*3+2,none⟩=some (.int .i64 S[i].2.2)
theorem AQ.aY{w w':World}{b d:Nat}{S:List (Int×Int×Int)}(h:AQ w b d S)(hb:Below w.heap.size w w'):AQ w' b d S:=by
 obtain⟨⟨j,o,h1⟩,n,q,t,u⟩:=h;refine⟨⟨j,o,bB hb h1⟩,n,q,bB hb t,fun i hi=>?_⟩;obtain⟨g,e,v,x,y⟩:=u i hi;exact⟨g,e,bB hb v,bB hb x,bB hb y⟩
def vo(a:Nat)(S:List (Int×Int×Int))(c k:Int):Prop:=(∃o∈S,o.1<=c/\c<=o.2.1/\k=o.2.2)\/((∀o∈S,¬(o.1<=c/\c<=o.2.1))/\k=a)
theorem BL(w:World)(b q:Nat)(S:List (Int×Int×Int))(c:Int)(h:AQ w b q S)(J:S.length<=100000):Calls prog 105 #[.pointer (some ⟨b,0,none⟩),.int .i64 c] w fun e w'=>∃k:Int,e=.returned (.int .i64 k)/\vo q S c k/\w'=w:=by
 obtain⟨⟨E,H,F⟩,s,I,G,hS⟩:=h;have r:Hid (∀i (hi:i<S.length),∃g,s=some ⟨g,0,none⟩/\w.cell? ⟨g,i*3,none⟩=some (.int .i64 S[i].1)/\w.cell? ⟨g,i*3+1,none⟩=some (.int .i64 S[i].2.1)/\w.cell? ⟨g,i*3+2,none⟩=some (.int .i64 S[i].2.2)):=hS;clear hS;go_enter func105,ntmps105;go_wp2_with fail
 go_loopg [5] S.length (fun v y wr=>∃i:Nat,i<=S.length/\v=S.length-i/\y=.int .i64 i/\(∀o∈S.take i,¬(o.1<=c/\c<=o.2.1))/\wr=w)
 case atStart=>exact⟨0,by omega,rfl,rfl,by simp,rfl⟩
 case round =>
  obtain⟨i,hi,rfl,rfl,n,rfl⟩:=hrel;have d:Hid (∀o∈S.take i,¬(o.1<=c/\c<=o.2.1)):=n;clear n
  by_cases l:i<S.length
  ·obtain⟨g,rfl,z,A,B⟩:=r.out i l;have j:Hid (S.take (i+1)=S.take i++[S[i]]):=jh l;have m:Hid (S[i]∈S):=bl l;obtain⟨o,p⟩:∃o,o=S[i]:=⟨_,rfl⟩;rw[<- p]at z A B j m;clear p
   by_cases C:o.1<=c
   ·have t:decide (o.1<=c)=true:=by simp;omega
    by_cases D:c<=o.2.1
    ·have u:decide (c<=o.2.1)=true:=by simp;omega
     go_wp2_with fail;go_ret;exact⟨_,rfl,ah ⟨o,m.out,C,D,rfl⟩,rfl⟩
    ·have u:decide (c<=o.2.1)=false:=by simp;omega
     have f:Hid (∀o∈S.take (i+1),¬(o.1<=c/\c<=o.2.1)):=by
      intro x a;rw[j.out]at a;rcases aR.1 a with k|k
      ·exact d.out x k
      ·simp at k;subst k;omega
     go_wp2_with fail;go_roundg (S.length-(i+1))
     case measure=>omega
     case rel=>exact⟨i+1,by omega,rfl,by go_num,f.out,rfl⟩
   ·have t:decide (o.1<=c)=false:=by simp;omega
    have f:Hid (∀o∈S.take (i+1),¬(o.1<=c/\c<=o.2.1)):=by
     intro x a;rw[j.out]at a;rcases aR.1 a with k|k
     ·exact d.out x k
     ·simp at k;subst k;omega
    go_wp2_with fail;go_roundg (S.length-(i+1))
    case measure=>omega
    case rel=>exact⟨i+1,by omega,rfl,by go_num,f.out,rfl⟩
  ·go_wp2_with fail;go_ret;refine⟨_,rfl,ac ⟨?_,rfl⟩,rfl⟩;have:=d.out;rw[gj (by omega)]at this;exact this
open Go.Maps Go.Lib
inductive cy (nN:Nat) (S:List (Int×Int×Int)) (s:ai):Nat->List (Int×Nat)->Prop where
 | nil:cy nN S s 0 []
 | good {p n:Nat} {cs:List (Int×Nat)} {c:Int} (h:cy nN S s p cs) (hp:p<s.size) (hf:y6 (s.extract p s.size) n n) (hn:0<n) (hk:vo nN S (iU (s.extract p (p+n))) c):cy nN S s (p+n) (cs++[(c,p+n)])
 | bad {p k n:Nat} {cs:List (Int×Nat)} (h:cy nN S s p cs) (hp:p<s.size) (hf:y6 (s.extract p s.size) k n) (hn:¬(k=n/\0<n)):cy nN S s (p+max k 1) (cs++[((nN:Int)+1,p+max k 1)])
def cQ(a:List (Int×Nat)):List Value:=a.flatMap fun x=>[.int .i64 x.1,.int .i64 (x.2:Nat)]
theorem jt(a:List (Int×Nat))(x:Int×Nat):cQ (a++[x])=cQ a++[.int .i64 x.1,.int .i64 (x.2:Nat)]:=by simp[cQ]
theorem y6.le{s:ai}{k n:Nat}(h:y6 s k n)(h1:1<=s.size):k<=s.size/\n<=4/\k<=4:=by
 have d:n<=4:=by rw[h.lead];unfold iE;(repeat' split)<;>omega
 by_cases h0:n=0
 ·have:=h.none_ h0;omega
 ·have:=h.pos (by omega);omega
theorem cy.ok{u:Nat}{S:List (Int×Int×Int)}{s:ai}{p:Nat}{d:List (Int×Nat)}(h:cy u S s p d):p<=s.size/\d.length<=p/\(∀x∈d,x.2<=p):=by
 induction h with
 | nil=>exact⟨aJ _,ar _,by simp⟩
 | @good p n d c h q g o v j =>
  have t:(s.extract p s.size).size=s.size-p:=by rw[ek];omega
  have:=g.le (by omega);refine⟨by omega,by simp;omega,fun x i=>?_⟩;rcases aR.1 i with k|k
  ·have:=j.2.2 x k;omega
  ·simp at k;subst k;exact ar _
 | @bad p k n d h q g o j =>
  have t:(s.extract p s.size).size=s.size-p:=by rw[ek];omega
  have:=g.le (by omega);refine⟨by omega,by simp;omega,fun x i=>?_⟩;rcases aR.1 i with k|k
  ·have:=j.2.2 x k;omega
  ·simp at k;subst k;exact ar _
theorem Tryz.Ae:(prog.info? 115).map (fun i=>(i.zero,i.size,i.bytes))=some (some (.agg #[.int .i64 0,.int .i64 0]),2,16):=by kernel_rfl
theorem Tryz.Fk:prog.underlying 110=some (.slice 115):=by kernel_rfl
theorem zx(w:World)(b d:Nat)(S:List (Int×Int×Int))(s:ai)(h:AQ w b d S)(b4:S.length<=100000)(c8:d<=100)(e4:s.size<=1500000):Calls prog 54 #[.pointer (some ⟨b,0,none⟩),.string s,.bool true] w fun e w'=>∃v a,e=.returned v/\cy d S s s.size a/\w'.ownsRow w.heap.size 115 2 v a.length (cQ a)/\Below w.heap.size w w':=by
 have a0:Hid (AQ w b d S):=h;clear h;go_enter func54,ntmps54;go_wp2_with fail
 go_loopg [7,8] s.size (fun b1 b8 b9 wr=>∃(p:Nat) (a:List (Int×Nat)) (i:Option Addr) (au:Nat),b1=s.size-p/\b9=.int .i64 p/\b8=.slice i a.length au/\Hid (cy d S s p a)/\Hid (wr.ownsRow w.heap.size 115 2 (.slice i a.length au) a.length (cQ a))/\Hid (Below w.heap.size w wr))
 case atStart=>exact⟨0,[],none,0,by omega,rfl,rfl,cy.nil,cq _ _ _ _,aB _ _⟩
 case round =>
  obtain⟨Y,b6⟩:∃Y,Y=wr:=⟨wr,rfl⟩;subst b6;obtain⟨p,a,i,au,rfl,rfl,rfl,J,L,z⟩:=hrel;obtain⟨e2,e3,a7⟩:=J.out.ok;have c0:Hid (∀x∈a,x.2<=p):=a7;clear a7
  by_cases N:p<s.size
  ·have a8:(s.extract p s.size).size=s.size-p:=by rw[ek];omega
   have Q:=EC (s.extract p s.size) Y (by omega) (by omega);have a2:Hid ((s.extract p s.size).size=s.size-p):=a8;obtain⟨t,T⟩:∃t,t=s.extract p s.size:=⟨_,rfl⟩;rw[<- T]at Q;have D:Hid (t=s.extract p s.size):=T;clear T a8;go_wp2_with fail;rw[<- D.out];refine Q.mono ?_;rintro e f ⟨k,n,rfl,hF,rfl⟩;have I:Hid (y6 t k n):=hF;have a5:=hF.le (by rw[D.out,a2.out];omega);rw[D.out,a2.out]at a5;obtain⟨b3,e1,e0⟩:=a5;clear hF Q
   by_cases M:k=n/\0<n
   ·obtain⟨rfl,b2⟩:=M;have b7:(s.extract p (p+k)).size=k:=by rw[ek];omega
    have R:=Ho (s.extract p (p+k)) f (by omega) (by omega);obtain⟨x,U⟩:∃x,x=s.extract p (p+k):=⟨_,rfl⟩;have a1:Hid (x=s.extract p (p+k)):=U;rw[<- U]at R;clear b7 U;go_wp2_with fail;rw[<- a1.out];refine R.mono ?_;rintro e w3 ⟨rfl,P⟩;have O:Hid (Below w.heap.size w w3):=z.out.trans (P.mono z.out.size);have a4:=BL w3 b d S (iU x) (a0.out.aY O.out) b4;have b0:Hid (w3.ownsRow w.heap.size 115 2 (.slice i a.length au) a.length (cQ a)):=al L.out (Kp.below P);clear R P;go_wp2_with fail;refine a4.mono ?_;rintro e A ⟨c,rfl,hc,rfl⟩;have a9:Hid (vo d S (iU x) c):=hc;clear hc a4;have o:Hid ((A.alloc (.cells #[.int .i64 c,.int .i64 ((p:Int)+(k:Int))] 115)).ownsRow w.heap.size 115 2 (.slice i a.length au) a.length (cQ a)):=al b0.out (Kp.below (af A _));have E:Hid (∀(j:Nat) (u:Value),[Value.int .i64 c,.int .i64 ((p:Int)+(k:Int))][j]?=some u->(A.alloc (.cells #[.int .i64 c,.int .i64 ((p:Int)+(k:Int))] 115)).cell? ⟨A.heap.size,j,none⟩=some u):=fun j u hu=>ab (aw A _) j u (by simpa using hu)
    have l:Hid (Below w.heap.size w (A.alloc (.cells #[.int .i64 c,.int .i64 ((p:Int)+(k:Int))] 115))):=O.out.alloc O.out.size _;have m:w.heap.size<=(A.alloc (.cells #[.int .i64 c,.int .i64 ((p:Int)+(k:Int))] 115)).heap.size:=l.out.size;have F:Hid (((p:Int)+(k:Int))=((p+k:Nat):Int)):=by show _=_;omega
    go_wp2_with (at_builtin;refine bs rfl (.tmp 37) (.tmp 45) 110 rfl w.heap.size 115 (.agg #[.int .i64 0,.int .i64 0]) 2 16 Tryz.Ae Tryz.Fk rfl (by decide) (.slice i a.length au) a.length (cQ a) rfl o.out A.heap.size 1 [.int .i64 c,.int .i64 ((p:Int)+(k:Int))] rfl rfl E.out (by intro u hu;simp at hu;rcases hu with rfl|rfl<;>rfl) (by omega) (by omega) m ?_;intro X W3 g y H;obtain⟨q,r,rfl⟩:=ak g;have C:Hid (W3.ownsRow w.heap.size 115 2 (.slice q (a.length+1) r) (a.length+1) (cQ a++[.int .i64 c,.int .i64 ((p:Int)+(k:Int))])):=g;have B:Hid (Below w.heap.size w W3):=l.out.grown y m (fun k G=>(o.out.lt k G).1);clear g y H);go_roundg (s.size-(p+k))
    case measure=>omega
    case rel =>
     refine⟨p+k,a++[(c,p+k)],q,r,rfl,by go_num,by rw[aF];rfl,cy.good J.out N (by rw[<- D.out];exact I.out) b2 (by rw[<- a1.out];exact a9.out),?_,B⟩;show W3.ownsRow _ _ _ _ _ _;rw[aF,jt];have:=C.out;rw[F.out]at this;exact this
   ·have Z:Hid (¬(k=n/\0<n)):=M;obtain⟨⟨c1,c3,c2⟩,_⟩:=a0.out.aY z.out;have V:n=0->k=0:=I.out.none_;have W:0<n->1<=k:=fun h=>(I.out.pos h).1
    by_cases a6:n=0
    ·obtain rfl:k=0:=V a6;subst a6;clear V W M;have a3:(((p:Int))==(s.size:Int))=false:=by rw[aO];omega
     have o:Hid ((f.alloc (.cells #[.int .i64 ((d:Int)+1),.int .i64 ((p:Int)+1)] 115)).ownsRow w.heap.size 115 2 (.slice i a.length au) a.length (cQ a)):=al L.out (Kp.below (af f _));have E:Hid (∀(j:Nat) (u:Value),[Value.int .i64 ((d:Int)+1),.int .i64 ((p:Int)+1)][j]?=some u->(f.alloc (.cells #[.int .i64 ((d:Int)+1),.int .i64 ((p:Int)+1)] 115)).cell? ⟨f.heap.size,j,none⟩=some u):=fun j u hu=>ab (aw f _) j u (by simpa using hu)
     have l:Hid (Below w.heap.size w (f.alloc (.cells #[.int .i64 ((d:Int)+1),.int .i64 ((p:Int)+1)] 115))):=z.out.alloc z.out.size _;have m:w.heap.size<=(f.alloc (.cells #[.int .i64 ((d:Int)+1),.int .i64 ((p:Int)+1)] 115)).heap.size:=l.out.size;have F:Hid (((p:Int)+1)=((p+1:Nat):Int)):=by show _=_;omega
     have K:Hid (max 0 1=1):=by show _=_;omega
     go_wp2_with (at_builtin;refine bs rfl (.tmp 70) (.tmp 79) 110 rfl w.heap.size 115 (.agg #[.int .i64 0,.int .i64 0]) 2 16 Tryz.Ae Tryz.Fk rfl (by decide) (.slice i a.length au) a.length (cQ a) rfl o.out f.heap.size 1 [Value.int .i64 ((d:Int)+1),.int .i64 ((p:Int)+1)] rfl rfl E.out (by intro u hu;simp at hu;rcases hu with rfl|rfl<;>rfl) (by omega) (by omega) m ?_;intro X W3 g y H;obtain⟨q,r,rfl⟩:=ak g;have C:Hid (W3.ownsRow w.heap.size 115 2 (.slice q (a.length+1) r) (a.length+1) (cQ a++[Value.int .i64 ((d:Int)+1),.int .i64 ((p:Int)+1)])):=g;have B:Hid (Below w.heap.size w W3):=l.out.grown y m (fun k G=>(o.out.lt k G).1);clear g y H);go_roundg (s.size-(p+1))
     case measure=>omega
     case rel =>
      refine⟨p+1,a++[((d:Int)+1,p+1)],q,r,rfl,by go_num,by rw[aF];rfl,?_,?_,B⟩
      ·have:=cy.bad J.out N (k:=0) (n:=0) (by rw[<- D.out];exact I.out) (fun h=>by omega);rw[K.out]at this;exact this
      ·show W3.ownsRow _ _ _ _ _ _;rw[aF,jt];have:=C.out;rw[F.out]at this;exact this
    ·have b3:1<=k:=W (by omega);have c5:((k:Int)==(n:Int))=false:=by rw[aO];omega
     have c4:((k:Int)==0)=false:=by rw[aO];omega
     have c7:decide ((0:Int)<(n:Int))=true:=by simp;omega
     clear V W M
     by_cases c9:p+k=s.size
     ·have a3:(((p:Int)+(k:Int))==(s.size:Int))=true:=by simp;omega
      have o:Hid ((f.alloc (.cells #[.int .i64 ((d:Int)+1),.int .i64 ((p:Int)+(k:Int))] 115)).ownsRow w.heap.size 115 2 (.slice i a.length au) a.length (cQ a)):=al L.out (Kp.below (af f _));have E:Hid (∀(j:Nat) (u:Value),[Value.int .i64 ((d:Int)+1),.int .i64 ((p:Int)+(k:Int))][j]?=some u->(f.alloc (.cells #[.int .i64 ((d:Int)+1),.int .i64 ((p:Int)+(k:Int))] 115)).cell? ⟨f.heap.size,j,none⟩=some u):=fun j u hu=>ab (aw f _) j u (by simpa using hu)
      have l:Hid (Below w.heap.size w (f.alloc (.cells #[.int .i64 ((d:Int)+1),.int .i64 ((p:Int)+(k:Int))] 115))):=z.out.alloc z.out.size _;have m:w.heap.size<=(f.alloc (.cells #[.int .i64 ((d:Int)+1),.int .i64 ((p:Int)+(k:Int))] 115)).heap.size:=l.out.size;have F:Hid (((p:Int)+(k:Int))=((p+k:Nat):Int)):=by show _=_;omega
      have K:Hid (max k 1=k):=by show _=_;omega
      go_wp2_with (at_builtin;refine bs rfl (.tmp 70) (.tmp 79) 110 rfl w.heap.size 115 (.agg #[.int .i64 0,.int .i64 0]) 2 16 Tryz.Ae Tryz.Fk rfl (by decide) (.slice i a.length au) a.length (cQ a) rfl o.out f.heap.size 1 [Value.int .i64 ((d:Int)+1),.int .i64 ((p:Int)+(k:Int))] rfl rfl E.out (by intro u hu;simp at hu;rcases hu with rfl|rfl<;>rfl) (by omega) (by omega) m ?_;intro X W3 g y H;obtain⟨q,r,rfl⟩:=ak g;have C:Hid (W3.ownsRow w.heap.size 115 2 (.slice q (a.length+1) r) (a.length+1) (cQ a++[Value.int .i64 ((d:Int)+1),.int .i64 ((p:Int)+(k:Int))])):=g;have B:Hid (Below w.heap.size w W3):=l.out.grown y m (fun k G=>(o.out.lt k G).1);clear g y H);go_roundg (s.size-(p+k))
      case measure=>omega
      case rel =>
       refine⟨p+k,a++[((d:Int)+1,p+k)],q,r,rfl,by go_num,by rw[aF];rfl,?_,?_,B⟩
       ·have:=cy.bad J.out N (k:=k) (n:=n) (by rw[<- D.out];exact I.out) Z.out;rw[K.out]at this;exact this
       ·show W3.ownsRow _ _ _ _ _ _;rw[aF,jt];have:=C.out;rw[F.out]at this;exact this
     ·have a3:(((p:Int)+(k:Int))==(s.size:Int))=false:=by rw[aO];omega
      have o:Hid ((f.alloc (.cells #[.int .i64 ((d:Int)+1),.int .i64 ((p:Int)+(k:Int))] 115)).ownsRow w.heap.size 115 2 (.slice i a.length au) a.length (cQ a)):=al L.out (Kp.below (af f _));have E:Hid (∀(j:Nat) (u:Value),[Value.int .i64 ((d:Int)+1),.int .i64 ((p:Int)+(k:Int))][j]?=some u->(f.alloc (.cells #[.int .i64 ((d:Int)+1),.int .i64 ((p:Int)+(k:Int))] 115)).cell? ⟨f.heap.size,j,none⟩=some u):=fun j u hu=>ab (aw f _) j u (by simpa using hu)
      have l:Hid (Below w.heap.size w (f.alloc (.cells #[.int .i64 ((d:Int)+1),.int .i64 ((p:Int)+(k:Int))] 115))):=z.out.alloc z.out.size _;have m:w.heap.size<=(f.alloc (.cells #[.int .i64 ((d:Int)+1),.int .i64 ((p:Int)+(k:Int))] 115)).heap.size:=l.out.size;have F:Hid (((p:Int)+(k:Int))=((p+k:Nat):Int)):=by show _=_;omega
      have K:Hid (max k 1=k):=by show _=_;omega
      go_wp2_with (at_builtin;refine bs rfl (.tmp 70) (.tmp 79) 110 rfl w.heap.size 115 (.agg #[.int .i64 0,.int .i64 0]) 2 16 Tryz.Ae Tryz.Fk rfl (by decide) (.slice i a.length au) a.length (cQ a) rfl o.out f.heap.size 1 [Value.int .i64 ((d:Int)+1),.int .i64 ((p:Int)+(k:Int))] rfl rfl E.out (by intro u hu;simp at hu;rcases hu with rfl|rfl<;>rfl) (by omega) (by omega) m ?_;intro X W3 g y H;obtain⟨q,r,rfl⟩:=ak g;have C:Hid (W3.ownsRow w.heap.size 115 2 (.slice q (a.length+1) r) (a.length+1) (cQ a++[Value.int .i64 ((d:Int)+1),.int .i64 ((p:Int)+(k:Int))])):=g;have B:Hid (Below w.heap.size w W3):=l.out.grown y m (fun k G=>(o.out.lt k G).1);clear g y H);go_roundg (s.size-(p+k))
      case measure=>omega
      case rel =>
       refine⟨p+k,a++[((d:Int)+1,p+k)],q,r,rfl,by go_num,by rw[aF];rfl,?_,?_,B⟩
       ·have:=cy.bad J.out N (k:=k) (n:=n) (by rw[<- D.out];exact I.out) Z.out;rw[K.out]at this;exact this
       ·show W3.ownsRow _ _ _ _ _ _;rw[aF,jt];have:=C.out;rw[F.out]at this;exact this
  ·have b5:p=s.size:=by omega
   go_wp2_with fail;go_ret;exact⟨_,a,rfl,by rw[<- b5];exact J.out,L.out,z.out⟩
theorem ES(l:List (Int×Nat))(i:Nat)(h:i<l.length):(cQ l)[2*i]?=some (.int .i64 l[i].1)/\(cQ l)[2*i+1]?=some (.int .i64 (l[i].2:Nat)):=by
 induction l generalizing i with
 | nil=>simp at h
 | cons a r d =>
  cases i with
  | zero=>simp[cQ]
  | succ i =>
   have:=d i (by simpa using h);have e:∀k,(cQ (a::r))[2*(i+1)+k]?=(cQ r)[2*i+k]?:=by
    intro k;rw[show 2*(i+1)+k=(2*i+k)+2 from by omega];rfl
   have b:=e 0;have c:=e 1;simp only[k8]at b;rw[b,c];simpa using this
theorem ER{w:World}{base:Nat}{v:Value}{l:List (Int×Nat)}(h:w.ownsRow base 115 2 v l.length (cQ l)):∃b au,v=.slice b l.length au/\∀i (hi:i<l.length),∃g,b=some ⟨g,0,none⟩/\w.cell? ⟨g,i*2,none⟩=some (.int .i64 l[i].1)/\w.cell? ⟨g,i*2+1,none⟩=some (.int .i64 (l[i].2:Nat)):=by
 obtain⟨k,d⟩:=h;rcases d with⟨a,f⟩|⟨g,au,j,a,hg,c,m,n,o,e⟩
 ·exact⟨none,0,by rw[a,f],fun i hi=>by omega⟩
 ·refine⟨some ⟨g,0,none⟩,au,a,fun i hi=>⟨g,rfl,?_⟩⟩;have hc:=ES l i hi;rw[Nat.mul_comm 2 i]at hc;rw[<- e,bJ,bJ,ag (by omega),ag (by omega)]at hc;exact⟨ab c _ _ (by simpa using hc.1),ab c _ _ (by simpa using hc.2)⟩
def E8(w:World)(v:Value)(l:List (Int×Nat)):Prop:=∃a au,v=.slice a l.length au/\∀i (hi:i<l.length),∃g,a=some ⟨g,0,none⟩/\w.cell? ⟨g,i*2,none⟩=some (.int .i64 l[i].1)/\w.cell? ⟨g,i*2+1,none⟩=some (.int .i64 (l[i].2:Nat))
theorem E8.aY{w w':World}{v:Value}{l:List (Int×Nat)}(h:E8 w v l)(hb:Below w.heap.size w w'):E8 w' v l:=by
 obtain⟨d,au,e,h⟩:=h;refine⟨d,au,e,fun i hi=>?_⟩;obtain⟨g,j,n,o⟩:=h i hi;exact⟨g,j,bB hb n,bB hb o⟩
theorem Tryz.NO:(prog.info? 3).map (fun i=>(i.zero,i.size,i.bytes))=some (some (.int .i64 0),1,8):=by kernel_rfl
theorem Tryz.O0:prog.underlying 33=some (.slice 3):=by kernel_rfl
def gK(l:List (Int×Nat)):List Value:=l.map fun x=>.int .i64 x.1
theorem zw(w:World)(v:Value)(l:List (Int×Nat))(h:E8 w v l)(O:l.length<=1500000):Calls prog 55 #[v] w fun e w'=>∃m,e=.returned m/\w'.ownsRow w.heap.size 3 1 m l.length (gK l)/\Below w.heap.size w w':=by
 obtain⟨E,N,rfl,hc⟩:=h;have B:Hid (∀i (hi:i<l.length),∃g,E=some ⟨g,0,none⟩/\w.cell? ⟨g,i*2,none⟩=some (.int .i64 l[i].1)/\w.cell? ⟨g,i*2+1,none⟩=some (.int .i64 (l[i].2:Nat))):=hc;clear hc;go_enter func55,ntmps55;go_wp2_with fail
 go_loopg [3,4] l.length (fun F L J wr=>∃(i:Nat) (b:Option Addr) (au:Nat),i<=l.length/\F=l.length-i/\J=.int .i64 i/\L=.slice b i au/\Hid (wr.ownsRow w.heap.size 3 1 (.slice b i au) i (gK (l.take i)))/\Hid (Below w.heap.size w wr))
 case atStart=>exact⟨0,none,0,by omega,rfl,rfl,rfl,cq _ _ _ _,aB _ _⟩
 case round =>
  obtain⟨a,I⟩:∃a,a=wr:=⟨wr,rfl⟩;subst I;obtain⟨i,b,au,hi,rfl,rfl,rfl,t,d⟩:=hrel
  by_cases y:i<l.length
  ·obtain⟨g,rfl,K,_⟩:=B.out i y;have M:a.cell? ⟨g,i*2,none⟩=some (.int .i64 l[i].1):=bB d.out K;have o:Hid (gK (l.take (i+1))=gK (l.take i)++[.int .i64 l[i].1]):=by
    show _=_;unfold gK;rw[jh y,c9];rfl
   obtain⟨c,hc⟩:∃c,c=l[i].1:=⟨_,rfl⟩;rw[<- hc]at M o;clear hc;have q:Hid ((a.alloc (.cells #[.int .i64 c] 3)).ownsRow w.heap.size 3 1 (.slice b i au) i (gK (l.take i))):=al t.out (Kp.below (af a _));have D:Hid (∀(j:Nat) (u:Value),[Value.int .i64 c][j]?=some u->(a.alloc (.cells #[.int .i64 c] 3)).cell? ⟨a.heap.size,j,none⟩=some u):=fun j u hu=>ab (aw a _) j u (by simpa using hu)
   have n:Hid (Below w.heap.size w (a.alloc (.cells #[.int .i64 c] 3))):=d.out.alloc d.out.size _;have p:w.heap.size<=(a.alloc (.cells #[.int .i64 c] 3)).heap.size:=n.out.size;go_wp2_with (at_builtin;refine bs rfl (.tmp 11) (.tmp 17) 33 rfl w.heap.size 3 (.int .i64 0) 1 8 Tryz.NO Tryz.O0 rfl (by decide) (.slice b i au) i (gK (l.take i)) rfl q.out a.heap.size 1 [.int .i64 c] rfl rfl D.out (by intro u hu;simp at hu;subst hu;rfl) (by omega) (by omega) p ?_;intro m W3 f x H;obtain⟨r,s,rfl⟩:=ak f;have C:Hid (W3.ownsRow w.heap.size 3 1 (.slice r (i+1) s) (i+1) (gK (l.take i)++[.int .i64 c])):=f;have A:Hid (Below w.heap.size w W3):=n.out.grown x p (fun k G=>(q.out.lt k G).1);clear f x H);go_roundg (l.length-(i+1))
   case measure=>omega
   case rel=>exact⟨i+1,r,s,by omega,rfl,by go_num,rfl,by rw[o.out];exact C,A⟩
  ·have z:i=l.length:=by omega
   go_wp2_with fail;go_ret;refine⟨_,rfl,?_,d.out⟩;have:=t.out;rw[z,mi]at this;rw[z];exact this
def rW(L:List (Bool×Tr×Tr))(row:List Nat)(i:Nat)(c:Bool):Prop:=if i=row.length then c=true else qQ L row i c
inductive gZ (s:ai) (cs:List (Int×Nat)) (cut:Nat->Bool->Prop):Nat->Nat->List ai->Prop where
 | nil:gZ s cs cut 0 0 []
 | cut {i a:Nat} {told:List ai} {x:Int×Nat} (h:gZ s cs cut i a told) (hx:cs[i]?=some x) (hc:cut (i+1) true):gZ s cs cut (i+1) x.2 (told++[s.extract a x.2])
 | join {i a:Nat} {told:List ai} {x:Int×Nat} (h:gZ s cs cut i a told) (hx:cs[i]?=some x) (hc:cut (i+1) false):gZ s cs cut (i+1) a told
theorem gZ.ok{s:ai}{d:List (Int×Nat)}{cut:Nat->Bool->Prop}{i a:Nat}{told:List ai}(h:gZ s d cut i a told):told.length<=i/\(a=0\/∃(j:Nat) (x:Int×Nat),j<i/\d[j]?=some x/\a=x.2):=by
 induction h with
 | nil=>exact⟨ar _,ah rfl⟩
 | @cut i a told x h g hc n=>exact⟨by simp;omega,ac ⟨i,x,by omega,g,rfl⟩⟩
 | @join i a told x h g hc n =>
  refine⟨by omega,n.2.imp id ?_⟩;rintro⟨j,y,h1,o,q⟩;exact⟨j,y,by omega,o,q⟩
theorem cy.mono{E:Nat}{S:List (Int×Int×Int)}{s:ai}{p:Nat}{d:List (Int×Nat)}(h:cy E S s p d):∀(i j:Nat) (x y:Int×Nat),i<=j->d[i]?=some x->d[j]?=some y->x.2<=y.2:=by
 have key:∀(d:List (Int×Nat)) (z:Int×Nat),(∀(i j:Nat) (x y:Int×Nat),i<=j->d[i]?=some x->d[j]?=some y->x.2<=y.2)->(∀x∈d,x.2<=z.2)->∀(i j:Nat) (x y:Int×Nat),i<=j->(d++[z])[i]?=some x->(d++[z])[j]?=some y->x.2<=y.2:=by
  intro d z h1 t i j x y v g o
  by_cases w:j<d.length
  ·rw[dD w]at o;rw[dD (by omega)]at g;exact h1 i j x y v g o
  ·have C:y=z:=by
    rw[eH (by omega)]at o;have:j-d.length=0:=by
     have:=(a1.1 o).1;simp at this;omega
    rw[this]at o;simp at o;exact o.symm
   subst C
   by_cases hi:i<d.length
   ·rw[dD hi]at g;exact t x (bC g)
   ·rw[eH (by omega)]at g;have:i-d.length=0:=by
     have:=(a1.1 g).1;simp at this;omega
    rw[this]at g;simp at g;rw[g];exact ar _
 induction h with
 | nil=>intro i j x y _ g;simp at g
 | @good p n d c h B u A F q=>exact key d _ q (fun x g=>by have:=h.ok.2.2 x g;show x.2<=p+n;omega)
 | @bad p k n d h B u A q=>exact key d _ q (fun x g=>by have:=h.ok.2.2 x g;show x.2<=p+max k 1;omega)
theorem Q2{w:World}{base:Nat}{v:Value}{a:List (Int×Nat)}{row:List Nat}(h:w.ownsRow base 3 1 v a.length (gK a))(b:a.map (fun x=>x.1)=row.map (fun k:Nat=>(k:Int)))(n:a≠[]):∃g au,v=.slice (some ⟨g,0,none⟩) row.length au/\x5 w g au row:=by
 have hlen:a.length=row.length:=by have:=ej List.length b;simpa using this
 obtain⟨p,f⟩:=h;rcases f with⟨d,m⟩|⟨g,au,o,d,hg,l,q,r,s,j⟩
 ·exact absurd (hj m) n
 ·refine⟨g,au,by rw[d,hlen],by omega,fun i hi=>?_⟩;refine ab l i _ ?_;have h1:(gK a)[i]?=some (.int .i64 (row[i]:Nat)):=by
   unfold gK;have e:a.map (fun x=>Value.int .i64 x.1)=(a.map (fun x=>x.1)).map (fun c=>Value.int .i64 c):=by rw[List.map_map];rfl
   rw[e,b,List.map_map,cV,ax hi];rfl
  rw[<- j,bJ]at h1;split at h1
  ·simpa using h1
  ·cases h1
def GC(c:Nat)(S:List (Int×Int×Int))(L:List (Bool×Tr×Tr))(s:ai)(told:List ai):Prop :=
 ∃b row a,cy c S s s.size b/\b.map (fun x=>x.1)=row.map (fun k:Nat=>(k:Int))/\gZ s b (rW L row) b.length a told
def pY(a:Nat)(S:List (Int×Int×Int)):Prop:=a<=6/\∀o∈S,0<=o.2.2/\o.2.2<6
theorem cy.row{q:Nat}{S:List (Int×Int×Int)}(i:pY q S){s:ai}{p:Nat}{g:List (Int×Nat)}(h:cy q S s p g):∃row:List Nat,g.map (fun x=>x.1)=row.map (fun k:Nat=>(k:Int))/\∀k∈row,k<8:=by
 induction h with
 | nil=>exact⟨[],rfl,by simp⟩
 | @good p n g c h A v w d j =>
  obtain⟨row,t,u⟩:=j;have hc:0<=c/\c<8:=by
   rcases d with⟨o,y,_,_,rfl⟩|⟨_,rfl⟩
   ·have:=i.2 o y;omega
   ·have:=i.1;omega
  refine⟨row++[c.toNat],by rw[c9,c9,t];simp;omega,fun k d=>?_⟩;rcases aR.1 d with h|h
  ·exact u k h
  ·simp at h;omega
 | @bad p k n g h A v w j =>
  obtain⟨row,t,u⟩:=j;have:=i.1;refine⟨row++[q+1],by rw[c9,c9,t];simp,fun k d=>?_⟩;rcases aR.1 d with h|h
  ·exact u k h
  ·simp at h;omega
theorem D2(w:World)(b m:Nat)(S:List (Int×Int×Int))(L:List (Bool×Tr×Tr))(s:ai)(hS:AQ w b m S)(b3:Dn w b L)(b8:∀x∈L,g5 x.2.1/\g5 x.2.2)(h0:S.length<=100000)(O:pY m S)(h2:L.length<=4)(i4:s.size<=1048576):Calls prog 21 #[.pointer (some ⟨b,0,none⟩),.string s] w fun e w'=>∃v told,e=.returned v/\GC m S L s told/\w'.ownsRow w.heap.size 9 1 v told.length (strCells told)/\Below w.heap.size w w':=by
 have b7:=zx w b m S s hS h0 (by have:=O.1;omega) (by omega);have J:Hid (AQ w b m S/\Dn w b L/\(∀x∈L,g5 x.2.1/\g5 x.2.2)/\pY m S):=⟨hS,b3,b8,O⟩;clear hS b3 b8 O;go_enter func21,ntmps21;go_wp2_with fail;refine b7.mono ?_;rintro e D ⟨Y,d,rfl,A,b2,Q⟩;have G:Hid (cy m S s s.size d):=A;have g6:d.length<=1048576:=by have:=A.ok.2.1;omega
 obtain⟨row,W,c3⟩:=A.row J.out.2.2.2;have t:Hid (d.length=row.length):=by show _=_;have:=ej List.length W;simpa using this
 have I:Hid (d.map (fun x=>x.1)=row.map (fun k:Nat=>(k:Int))/\∀k∈row,k<8):=⟨W,c3⟩;have N:E8 D Y d:=ER b2;have c4:=zw D Y d N (by omega);have e2:Hid (E8 D Y d):=N;obtain⟨e7,g0,rfl,_⟩:=N;clear A b2 W c3 b7;go_wp2_with fail;refine c4.mono ?_;rintro e f ⟨h9,rfl,P,R⟩;have e3:Hid (f.ownsRow D.heap.size 3 1 h9 d.length (gK d)):=P;obtain⟨e8,a7,rfl⟩:=ak P;clear P c4;have E:Hid (Below w.heap.size w f):=Q.trans (R.mono Q.size);have a1:Hid (E8 f (.slice e7 d.length g0) d):=e2.out.aY R;clear Q R;go_wp2_with fail
 go_loopg [7,8,9] d.length (fun g2 h8 e9 h7 wr=>∃(i a:Nat) (told:List ai) (l:Option Addr) (au:Nat),i<=d.length/\g2=d.length-i/\h7=.int .i64 i/\e9=.int .i64 a/\h8=.slice l told.length au/\Hid (gZ s d (rW L row) i a told)/\Hid (wr.ownsRow f.heap.size 9 1 (.slice l told.length au) told.length (strCells told))/\Hid (Below f.heap.size f wr))
 case atStart=>exact⟨0,0,[],none,0,by omega,rfl,rfl,rfl,rfl,gZ.nil,cq _ _ _ _,aB _ _⟩
 case round =>
  obtain⟨w3,h4⟩:∃w3,w3=wr:=⟨wr,rfl⟩;subst h4;obtain⟨i,a,told,l,au,hi,rfl,rfl,rfl,rfl,B,b4,o⟩:=hrel;have r:Hid (Below w.heap.size w w3):=E.out.trans (o.out.mono E.out.size);have b9:=B.out.ok;have i5:told.length<=1048576:=by omega
  by_cases n:i<d.length
  ·obtain⟨x,q⟩:∃x,d[i]?=some x:=⟨d[i],ax n⟩;have K:Hid (d[i]?=some x):=q;have i6:x.2<=s.size:=G.out.ok.2.2 x (bC q);have i3:a<=x.2:=by
    rcases b9.2 with e|⟨j,y,h1,M,g3⟩
    ·omega
    ·rw[g3];exact G.out.mono j i y x (by omega) M q
   have c8:d[i]=x:=by have:=(ax n).symm.trans q;simpa using this
   obtain⟨b1,g1,C,b5⟩:=Q2 e3.out I.out.1 (by intro e;rw[e]at n;simp at n);obtain⟨rfl,rfl⟩:e8=some ⟨b1,0,none⟩/\a7=g1:=by rw[t.out]at C;simp at C;exact C
   have c7:row.length<=1048576:=by rw[<- t.out];exact g6
   have c2:i+1<=row.length:=by rw[<- t.out];omega
   have T:=BN w3 b b1 a7 (i+1) L row (J.out.2.1.aY r.out) (b5.aY o.out) J.out.2.2.1 I.out.2 c7 c2 h2;obtain⟨_,_,b0,b6⟩:=a1.out.aY o.out;obtain⟨z,g7,_,X⟩:=b6 i n;simp at b0;obtain⟨rfl,rfl⟩:=b0;subst g7;rw[c8]at X;have e5:Hid (w3.cell? ⟨z,i*2+1,none⟩=some (.int .i64 (x.2:Nat))):=X;have e1:Hid (∀i (hi:i<d.length) (x:Int×Nat),d[i]?=some x->f.cell? ⟨z,i*2+1,none⟩=some (.int .i64 (x.2:Nat))):=by
    obtain⟨_,_,a9,M⟩:=a1.out;simp at a9;intro h6 c1 j0 h5;obtain⟨i2,U,_,e0⟩:=M h6 c1;rw[<- a9.1]at U;simp at U;subst U;have:=(ax c1).symm.trans h5;simp at this;rw[this]at e0;exact e0
   have g4:Hid (∀e w',rV L row (i+1) w3 e w'->∃c:Bool,e=.returned (.bool c)/\rW L row (i+1) c/\Below w3.heap.size w3 w'):=fun e w' h=>h
   rw[<- t.out]at T;clear b9 q c8 C b5 b6 X c7 c2;go_wp2_with fail;refine T.mono ?_;intro e g c5;obtain⟨c,rfl,hc,p⟩:=g4.out _ _ c5;have a2:Hid (rW L row (i+1) c):=hc;have B4:Hid (Below w.heap.size w g):=r.out.trans (p.mono r.out.size);have F:Hid (Below f.heap.size f g):=o.out.trans (p.mono o.out.size);have a4:Hid (g.ownsRow f.heap.size 9 1 (.slice l told.length au) told.length (strCells told)):=al b4.out (Kp.below p);have k4:g.cell? ⟨z,i*2+1,none⟩=some (.int .i64 (x.2:Nat)):=bB p e5.out;clear c5 hc p T;cases c
   ·have H:Hid (gZ s d (rW L row) (i+1) a told):=gZ.join B.out K.out a2.out;go_wp2_with fail;go_roundg (d.length-(i+1))
    case measure=>omega
    case rel=>exact⟨i+1,a,told,l,au,by omega,rfl,by go_num,rfl,rfl,H,a4,F⟩
   ·have H:Hid (gZ s d (rW L row) (i+1) x.2 (told++[s.extract a x.2])):=gZ.cut B.out K.out a2.out;obtain⟨y,c9⟩:∃y,y=s.extract a x.2:=⟨_,rfl⟩;have i1:Hid (y=s.extract a x.2):=c9;have a5:Hid ((g.alloc (.cells #[.string (s.extract a x.2)] 9)).ownsRow f.heap.size 9 1 (.slice l told.length au) told.length (strCells told)):=al a4.out (Kp.below (af g _));have e6:Hid (∀(j:Nat) (u:Value),[Value.string (s.extract a x.2)][j]?=some u->(g.alloc (.cells #[.string (s.extract a x.2)] 9)).cell? ⟨g.heap.size,j,none⟩=some u):=fun j u hu=>ab (aw g _) j u (by simpa using hu)
    have i0:Hid (Below w.heap.size w (g.alloc (.cells #[.string (s.extract a x.2)] 9))):=B4.out.alloc B4.out.size _;have a0:Hid (Below f.heap.size f (g.alloc (.cells #[.string (s.extract a x.2)] 9))):=F.out.alloc F.out.size _;have a3:f.heap.size<=(g.alloc (.cells #[.string (s.extract a x.2)] 9)).heap.size:=a0.out.size;clear c9;go_wp2_with (at_builtin;refine bs rfl (.tmp 28) (.tmp 37) 30 rfl f.heap.size 9 (.string ⟨#[]⟩) 1 16 Tryz.K1 Tryz.Oq rfl (by decide) (.slice l told.length au) told.length (strCells told) rfl a5.out g.heap.size 1 [.string (s.extract a x.2)] rfl rfl e6.out (tB _) (by omega) (by omega) a3 ?_;intro i9 W3 V c0 h3;obtain⟨a6,a8,rfl⟩:=ak V;have e4:Hid (W3.ownsRow f.heap.size 9 1 (.slice a6 (told.length+1) a8) (told.length+1) (strCells told++[.string (s.extract a x.2)])):=V;have Z:Hid (Below f.heap.size f W3):=a0.out.grown c0 a3 (fun k g9=>(a5.out.lt k g9).1);have i7:W3.cell? ⟨z,i*2+1,none⟩=some (.int .i64 (x.2:Nat)):=bB Z.out (e1.out i n x K.out);clear V c0 h3);go_roundg (d.length-(i+1))
    case measure=>omega
    case rel =>
     refine⟨i+1,x.2,told++[s.extract a x.2],a6,a8,by omega,rfl,by go_num,rfl,by rw[aF];rfl,H,?_,Z⟩;show W3.ownsRow _ _ _ _ _ _;rw[aF,oa];exact e4.out
  ·have g8:i=d.length:=by omega
   go_wp2_with fail;go_ret;exact⟨_,told,rfl,⟨d,row,a,G.out,I.out.1,by rw[<- g8];exact B.out⟩,pv b4.out E.out.size,r.out⟩
theorem ip(s:ai)(p e j:Nat)(a:e<=s.size)(h:p+j<e):aI (s.extract p e) j=aI s (p+j):=by
 rw[lA _ j (by rw[ek];omega),lA s (p+j) (by omega)];simp[ByteArray.getElem_eq_getElem_data]
theorem oo(s:ai)(h:1<=s.size):decodeGo s=decodeN s.size (aI s 0) (aI s 1) (aI s 2) (aI s 3):=by
 unfold decodeGo;rw[ae (by omega),decode_at];rfl
theorem EA(s:ai)(h:1<=s.size):kj s=mp s.size (aI s 0) (aI s 1) (aI s 2):=by
 unfold kj;rw[ae (by omega)];rfl
theorem Ll{s:ai}{n:Nat}(u:1<=s.size)(h:y6 s n n)(m:0<n):¬((decodeGo s).1=65533/\(decodeGo s).2=1)/\n=(decodeGo s).2/\((decodeGo s).1:Int)=iU (s.extract 0 n):=by
 have t:=eU s 0;have y:=eU s 1;have z:=eU s 2;have A:=eU s 3;have e:(s.extract 0 n).size=n:=by rw[ek];have:=(h.pos m).2.2;omega
 have b:=h.pos m;have d:aI (s.extract 0 n) 0=aI s 0:=by have:=ip s 0 n 0 b.2.2 (by omega);simpa using this
 have f:1<n->aI (s.extract 0 n) 1=aI s 1:=fun k=>by have:=ip s 0 n 1 b.2.2 (by omega);simpa using this
 have l:2<n->aI (s.extract 0 n) 2=aI s 2:=fun k=>by have:=ip s 0 n 2 b.2.2 (by omega);simpa using this
 have r:3<n->aI (s.extract 0 n) 3=aI s 3:=fun k=>by have:=ip s 0 n 3 b.2.2 (by omega);simpa using this
 have g:1<n->zM (aI s 0) 1 (aI s 1):=fun k=>h.zL 1 (by omega) k
 have o:2<n->zM (aI s 0) 2 (aI s 2):=fun k=>h.zL 2 (by omega) k
 have v:3<n->zM (aI s 0) 3 (aI s 3):=fun k=>h.zL 3 (by omega) k
 rw[oo s u];have B:=h.lead;have C:=b.2.2;unfold iU;rw[e,d];generalize aI s 0=b0 at *;generalize aI s 1=b1 at *;generalize aI s 2=b2 at *;generalize aI s 3=b3 at *;rcases fd b0 t with⟨a,c⟩|⟨a,c,j⟩|⟨a,c,j⟩|⟨a,c,j⟩|⟨a,c,j⟩|⟨a,c⟩
 ·obtain rfl:n=1:=by omega
  unfold decodeN;rw[ag a,ag rfl];exact⟨by omega,rfl,rfl⟩
 ·obtain rfl:n=2:=by omega
  obtain⟨p,q,_⟩:=g (by omega);have f1:=f (by omega);rw[ae (by omega)];show _/\_/\_=64*((aI (s.extract 0 2) 0:Int)-iG (s.extract 0 2).size)+(aI (s.extract 0 2) 1:Int)-128;rw[d,f1,e];unfold decodeN iG;rw[ae (by omega),ag (by omega),ag (by omega)];simp only[de];exact⟨by omega,trivial,by omega⟩
 ·obtain rfl:n=3:=by omega
  obtain⟨p,q,i⟩:=g (by omega);obtain⟨p4,w,_⟩:=o (by omega);obtain⟨x,z2,z3,z4⟩:=i rfl;have f1:=f (by omega);have f2:=l (by omega);rw[ae (by omega)];show _/\_/\_=64*(64*((aI (s.extract 0 3) 0:Int)-iG (s.extract 0 3).size)+(aI (s.extract 0 3) 1:Int)-128)+(aI (s.extract 0 3) 2:Int)-128;rw[d,f1,f2,e];unfold decodeN iG;rw[ae (by omega),ae (by omega),ag (by omega),ag (by omega)];simp only[de,show ¬(3=2) by omega,fi];exact⟨by omega,trivial,by omega⟩
 ·obtain rfl:n=4:=by omega
  obtain⟨p,q,i⟩:=g (by omega);obtain⟨p4,w,_⟩:=o (by omega);obtain⟨D,E,_⟩:=v (by omega);obtain⟨x,z2,z3,z4⟩:=i rfl;have f1:=f (by omega);have f2:=l (by omega);have f3:=r (by omega);rw[ae (by omega)];show _/\_/\_=64*(64*(64*((aI (s.extract 0 4) 0:Int)-iG (s.extract 0 4).size)+(aI (s.extract 0 4) 1:Int)-128)+(aI (s.extract 0 4) 2:Int)-128)+(aI (s.extract 0 4) 3:Int)-128;rw[d,f1,f2,f3,e];unfold decodeN iG;rw[ae (by omega),ae (by omega),ae (by omega),ag (by omega),ag (by omega)];simp only[de,show ¬(4=2) by omega,show ¬(4=3) by omega,fi];exact⟨by omega,trivial,by omega⟩
 ·omega
 ·omega
theorem H6(b0:Nat):(128<=b0->b0<194->firstT b0=241)/\(194<=b0->b0<224->firstT b0=2)/\(b0=224->firstT b0=19)/\(224<b0->b0<240->b0≠237->firstT b0=3)/\(b0=237->firstT b0=35)/\(b0=240->firstT b0=52)/\(240<b0->b0<244->firstT b0=4)/\(b0=244->firstT b0=68)/\(245<=b0->firstT b0=241):=by
 unfold firstT;refine⟨?_,?_,?_,?_,?_,?_,?_,?_,?_⟩<;>intros<;>(repeat' split)<;>omega
theorem Ln(b0:Nat)(h:b0<256):(iE b0=0->firstT b0%8<=1)/\(2<=iE b0->firstT b0%8=iE b0)/\(3<=iE b0->∀b1,(b1<accLo (firstT b0/16)\/accHi (firstT b0/16)<b1)↔¬zM b0 1 b1):=by
 obtain⟨t1,t2,t3,t4,t5,t6,t7,t8,t9⟩:=H6 b0;have b:∀X d hi,firstT b0=X->accLo (X/16)=d->accHi (X/16)=hi->∀b1,((b1<d\/hi<b1)↔¬zM b0 1 b1)->((b1<accLo (firstT b0/16)\/accHi (firstT b0/16)<b1)↔¬zM b0 1 b1):=by
  intro X d hi h1 e f b1 j;rw[h1,e,f];exact j
 have ob:∀b1,¬zM b0 1 b1↔(b1<128\/192<=b1\/(b0=224/\b1<160)\/(b0=237/\160<=b1)\/(b0=240/\b1<144)\/(b0=244/\144<=b1)):=by
  intro b1;constructor
  ·intro m;refine h6 fun l=>m ⟨by omega,by omega,fun _=>⟨by omega,by omega,by omega,by omega⟩⟩
  ·rintro l ⟨p,r,n⟩;have:=n rfl;omega
 refine⟨?_,?_,?_⟩
 ·intro h0;have:(128<=b0/\b0<194)\/245<=b0:=by rcases fd b0 h with q|q|q|q|q|q<;>omega
  rcases this with k|k
  ·rw[t1 k.1 k.2];decide
  ·rw[t9 k];decide
 ·intro e;rcases fd b0 h with q|q|q|q|q|q
  ·omega
  ·rw[q.2.2,t2 q.1 q.2.1]
  ·rw[q.2.2]
   by_cases c:b0=224
   ·rw[t3 c]
   ·by_cases a:b0=237
    ·rw[t5 a]
    ·rw[t4 (by omega) q.2.1 a]
  ·rw[q.2.2]
   by_cases c:b0=240
   ·rw[t6 c]
   ·by_cases a:b0=244
    ·rw[t8 a]
    ·rw[t7 (by omega) (by omega)]
  ·omega
  ·omega
 ·intro f b1;have o:224<=b0/\b0<245:=by rcases fd b0 h with q|q|q|q|q|q<;>omega
  by_cases c:b0=224
  ·exact b 19 160 191 (t3 c) (by decide) (by decide) b1 (by rw[ob];omega)
  by_cases a:b0=237
  ·exact b 35 128 159 (t5 a) (by decide) (by decide) b1 (by rw[ob];omega)
  by_cases c3:b0=240
  ·exact b 52 144 191 (t6 c3) (by decide) (by decide) b1 (by rw[ob];omega)
  by_cases g:b0=244
  ·exact b 68 128 143 (t8 g) (by decide) (by decide) b1 (by rw[ob];omega)
  by_cases i:b0<240
  ·exact b 3 128 191 (t4 (by omega) i a) (by decide) (by decide) b1 (by rw[ob];omega)
  ·exact b 4 128 191 (t7 (by omega) (by omega)) (by decide) (by decide) b1 (by rw[ob];omega)
theorem qD(s:ai)(j:Nat)(h1:1<=j)(h:j<=s.size):kj (s.extract 0 j)=true↔(firstT (aI s 0)%8<=j\/(1<j/\(aI s 1<accLo (firstT (aI s 0)/16)\/accHi (firstT (aI s 0)/16)<aI s 1))\/(2<j/\(aI s 2<128\/191<aI s 2))):=by
 have g:(s.extract 0 j).size=j:=by rw[ek];omega
 rw[EA _ (by omega),g];have d:aI (s.extract 0 j) 0=aI s 0:=by have:=ip s 0 j 0 h (by omega);simpa using this
 have e:1<j->aI (s.extract 0 j) 1=aI s 1:=fun k=>by have:=ip s 0 j 1 h (by omega);simpa using this
 have f:2<j->aI (s.extract 0 j) 2=aI s 2:=fun k=>by have:=ip s 0 j 2 h (by omega);simpa using this
 rw[d];unfold mp
 by_cases a:firstT (aI s 0)%8<=j
 ·rw[ag a];simp[a]
 ·rw[ae a]
  by_cases i:1<j
  ·rw[e i]
   by_cases b:1<j/\(aI s 1<accLo (firstT (aI s 0)/16)\/accHi (firstT (aI s 0)/16)<aI s 1)
   ·rw[ag b];exact⟨fun _=>ac (ah b),fun _=>rfl⟩
   ·rw[ae b]
    by_cases l:2<j
    ·rw[f l]
     by_cases c:2<j/\(aI s 2<128\/191<aI s 2)
     ·rw[ag c];exact⟨fun _=>ac (ac c),fun _=>rfl⟩
     ·rw[ae c];refine⟨fun h=>(by cases h),?_⟩;rintro(k|k|k)
      ·exact absurd k a
      ·exact absurd k b
      ·exact absurd k c
    ·rw[ae (by omega)];refine⟨fun h=>(by cases h),?_⟩;rintro(k|k|k)
     ·exact absurd k a
     ·exact absurd k b
     ·omega
  ·rw[ae (by omega),ae (by omega)];refine⟨fun h=>(by cases h),?_⟩;rintro(k|k|k)<;>omega
theorem mf.uniq{s:ai}{a b:Nat}(d:mf s a)(hb:mf s b):a=b:=by
 have key:∀{a b:Nat},mf s a->mf s b->¬a<b:=by
  intro a b d hb h;rcases d.shut with e|e
  ·have:=hb.fits;omega
  ·have:=d.pos;rw[hb.open_ (a+1) (by omega) (by omega)]at e;cases e
 have h1:=key d hb;have g:=key hb d;omega
theorem NS{s:ai}{k n:Nat}(m:1<=s.size)(h:y6 s k n)(B:¬(k=n/\0<n)):mf s (max k 1):=by
 have c:=eU s 0;have a:=Ln (aI s 0) c;have A:=h.le m;have z:=h.lead
 by_cases h0:n=0
 ·have f:=h.none_ h0;subst f;refine⟨by omega,by omega,by omega,fun j p r=>by omega,?_⟩
  by_cases v:1=s.size
  ·left;omega
  ·right;rw[qD s _ (by omega) (by omega)];left;have:=a.1 (by omega);omega
 ·have l:=h.pos (by omega);have g:max k 1=k:=by omega
  rw[g];have i:k<n:=by omega
  have w:=a.2.1 (by omega);refine⟨by omega,by omega,l.2.2,fun j p r=>?_,?_⟩
  ·cases o:kj (s.extract 0 j)with
   | false=>rfl
   | true =>
    exfalso;rcases(qD s j (by omega) (by omega)).1 o with q|⟨_,q⟩|⟨C,q⟩
    ·omega
    ·exact((a.2.2 (by omega) _).1 q) (h.zL 1 (by omega) (by omega))
    ·have:=h.zL 2 (by omega) (by omega);obtain⟨D,z2,_⟩:=this;omega
  ·by_cases d:k=s.size
   ·exact ah d
   ·right;rw[qD s _ (by omega) (by omega)];have b:=h.stop (by omega) i (by omega)
    by_cases y:n<=k+1
    ·left;omega
    ·right
     by_cases t:k=1
     ·left;refine⟨by omega,(a.2.2 (by omega) _).2 ?_⟩;rw[t]at b;exact b
     ·right;have u:k=2:=by omega
      rw[u]at b;refine⟨by omega,?_⟩;refine h6 fun x=>b ⟨by omega,by omega,fun e=>by omega⟩
theorem CD{s:ai}{k n:Nat}(f:1<=s.size)(h:y6 s k n)(p:¬(k=n/\0<n)):(decodeGo s).1=65533/\(decodeGo s).2=1:=by
 have d:=eU s 0;have u:=eU s 1;have v:=eU s 2;have w:=eU s 3;rw[oo s f];have a:=h.lead
 by_cases h0:n=0
 ·have hc:(128<=aI s 0/\aI s 0<194)\/245<=aI s 0:=by rcases fd _ d with q|q|q|q|q|q<;>omega
  generalize aI s 0=b0 at *;generalize aI s 1=b1 at *;generalize aI s 2=b2 at *;generalize aI s 3=b3 at *;clear h a;unfold decodeN;rcases hc with⟨i,r⟩|i<;>(repeat' split)<;>first|exact⟨rfl,rfl⟩|(exfalso;omega)
 ·have y:=h.pos (by omega);have o:k<n:=by omega
  have x:=(h.le f).2.1;have g:k=s.size\/¬zM (aI s 0) k (aI s k):=by
   by_cases e:k=s.size
   ·exact ah e
   ·exact ac (h.stop (by omega) o (by omega))
  have no:∀{c j b:Nat},¬zM c j b->(b<128\/192<=b\/(j=1/\((c=224/\b<160)\/(c=237/\160<=b)\/(c=240/\b<144)\/(c=244/\144<=b)))):=by
   intro c j b l;refine h6 fun A=>l ⟨by omega,by omega,fun e=>⟨by omega,by omega,by omega,by omega⟩⟩
  have m:k=1\/k=2\/k=3:=by omega
  have h1:1<k->128<=aI s 1/\aI s 1<192:=fun e=>⟨(h.zL 1 (by omega) e).1,(h.zL 1 (by omega) e).2.1⟩
  have t:2<k->128<=aI s 2/\aI s 2<192:=fun e=>⟨(h.zL 2 (by omega) e).1,(h.zL 2 (by omega) e).2.1⟩
  have hc:=fd _ d;rw[<- a]at hc;have z:s.size=k\/(aI s k<128\/192<=aI s k\/(k=1/\((aI s 0=224/\aI s k<160)\/(aI s 0=237/\160<=aI s k)\/(aI s 0=240/\aI s k<144)\/(aI s 0=244/\144<=aI s k)))):=by
   rcases g with e|e
   ·exact ah e.symm
   ·exact ac (no e)
  clear g no h a p;rcases m with rfl|rfl|rfl
  all_goals
   generalize aI s 0=b0 at *;generalize aI s 1=b1 at *;generalize aI s 2=b2 at *;generalize aI s 3=b3 at *;unfold decodeN
   (repeat' split)<;>first|exact⟨rfl,rfl⟩|(exfalso;omega)
def Mx(a:Nat)(c:Int)(k:Nat):Prop:=(k<a/\c=(k:Int))\/(k=6/\c=(a:Int))\/(k=7/\c=(a:Int)+1)
def Dm(a:Nat)(S:List (Int×Int×Int))(L:List (Int×Int×Nat)):Prop:=(∀o∈L,o.2.2<a/\(o.1,o.2.1,(o.2.2:Int))∈S)/\∀o∈S,∃k:Nat,o.2.2=(k:Int)/\(o.1,o.2.1,k)∈L
theorem HP{b:Nat}{S:List (Int×Int×Int)}{L:List (Int×Int×Nat)}(h:Dm b S L){c x:Int}(i:vo b S x c):∃k,ku L x k/\Mx b c k:=by
 rcases i with⟨o,a,h1,f,rfl⟩|⟨j,rfl⟩
 ·obtain⟨k,e,d⟩:=h.2 o a;exact⟨k,ah ⟨_,d,h1,f,rfl⟩,ah ⟨(h.1 _ d).1,e⟩⟩
 ·exact⟨6,ac ⟨fun o a g=>j _ (h.1 o a).2 g,rfl⟩,ac (ah ⟨rfl,rfl⟩)⟩
def gX:Nat->List Nat->List Nat
 | _,[]=>[]
 | p,n::ns=>(p+n)::gX (p+n) ns
theorem rL(p:Nat)(ns:List Nat)(n:Nat):gX p (ns++[n])=gX p ns++[p+ns.sum+n]:=by
 induction ns generalizing p with
 | nil=>simp[gX]
 | cons m ns a=>simp only[jd,gX,a,dC];congr 3;omega
inductive jR {α β:Type} (R:α->β->Prop):List α->List β->Prop where
 | nil:jR R [] []
 | snoc {l:List α} {m:List β} {a:α} {b:β} (h:jR R l m) (hr:R a b):jR R (l++[a]) (m++[b])
theorem Lu(s:ai)(p n:Nat)(h:p+n<=s.size):(s.extract p s.size).extract 0 n=s.extract p (p+n):=by
 apply ByteArray.ext;simp[ByteArray.data_extract];congr 1<;>omega
theorem EQ{l:Nat}{S:List (Int×Int×Int)}{L:List (Int×Int×Nat)}(hS:Dm l S L)(m:∀o∈L,o.2.2<8){s:ai}{p:Nat}{b:List (Int×Nat)}(h:cy l S s p b):∃a ns,c8 L s p a ns/\jR (Mx l) (b.map (fun x=>x.1)) a/\b.map (fun x=>x.2)=gX 0 ns:=by
 induction h with
 | nil=>exact⟨[],[],c8.nil,jR.nil,rfl⟩
 | @good p n b c h i d e r j =>
  obtain⟨a,ns,h1,f,g⟩:=j;have t:(s.extract p s.size).size=s.size-p:=by rw[ek];omega
  have v:=d.le (by omega);have hg:=Ll (by omega) d e;rw[Lu s p n (by omega)]at hg;obtain⟨k,q,u⟩:=HP hS r;rw[<- hg.2.2]at q;refine⟨a++[k],ns++[n],c8.snoc h1 i (ac ⟨hg.1,hg.2.1,q⟩),?_,?_⟩
  ·rw[c9];exact jR.snoc f u
  ·rw[c9,rL,g,(h1.ok m).sum];simp
 | @bad p k n b h i d e j =>
  obtain⟨a,ns,h1,f,g⟩:=j;have t:(s.extract p s.size).size=s.size-p:=by rw[ek];omega
  have hd:=CD (by omega) d e;refine⟨a++[7],ns++[max k 1],c8.snoc h1 i (ah ⟨hd.1,hd.2,rfl,NS (by omega) d e⟩),?_,?_⟩
  ·rw[c9];exact jR.snoc f (ac (ac ⟨rfl,rfl⟩))
  ·rw[c9,rL,g,(h1.ok m).sum];simp
theorem ku.uniq{L:List (Int×Int×Nat)}(q:hB L){c:Int}{k k':Nat}(h:ku L c k)(w:ku L c k'):k=k':=by
 rcases h with⟨o,t,h1,y,rfl⟩|⟨C,rfl⟩<;>rcases w with⟨g,u,x,A,rfl⟩|⟨E,rfl⟩
 ·obtain⟨i,hi,e⟩:=List.getElem_of_mem t;obtain⟨j,B,v⟩:=List.getElem_of_mem u;have n:L[i]?=some o:=by rw[ax hi,e]
  have d:L[j]?=some g:=by rw[ax B,v]
  rcases Nat.lt_trichotomy i j with k|k|k
  ·have:=q.2 i j o g k n d;omega
  ·subst k;rw[n]at d;cases d;rfl
  ·have:=q.2 j i g o k d n;omega
 ·exact absurd ⟨h1,y⟩ (E o t)
 ·exact absurd ⟨x,A⟩ (C g u)
 ·rfl
theorem k6.uniq{L:List (Int×Int×Nat)}(i:hB L){s:ai}{k n k' n':Nat}(h:k6 L s k n)(g:k6 L s k' n'):k=k'/\n=n':=by
 rcases h with⟨d,a2,rfl,a4⟩|⟨d,rfl,a3⟩<;>rcases g with⟨b1,b2,rfl,b4⟩|⟨b1,rfl,b3⟩
 ·exact⟨rfl,a4.uniq b4⟩
 ·exact absurd ⟨d,a2⟩ b1
 ·exact absurd ⟨b1,b2⟩ d
 ·exact⟨a3.uniq i b3,rfl⟩
theorem pK{L:List (Int×Int×Nat)}(p:hB L)(n:∀o∈L,o.2.2<8){s:ai}:∀(q r k m:Nat) (b ns h j:List Nat),c8 L s r b ns->r<s.size->k6 L (s.extract r s.size) k m->c8 L s q h j->r<q->r+m<=q:=by
 intro q
 induction q using Nat.strongRecOn with
 | _ q g =>
  intro r k m b ns h j f u hc d x;generalize y:q=A at d;cases d with
  | nil=>omega
  | @snoc a i l v w h0 t c =>
   have z:(s.extract a s.size).size=s.size-a:=by rw[ek];omega
   have hb:=c.bounds (by omega) n;rcases Nat.lt_trichotomy r a with e|e|e
   ·have:=g a (by omega) r k m b ns i l f u hc h0 e;omega
   ·subst e;have:=(hc.uniq p c).2;omega
   ·have:=g r (by omega) a v w i l b ns h0 t c f e;omega
theorem x1{L:List (Int×Int×Nat)}(l:hB L)(a:∀o∈L,o.2.2<8){s:ai}:∀(b p p':Nat) (j ns f g:List Nat),p<=b->c8 L s p j ns->c8 L s p' f g->p'=p->j=f/\ns=g:=by
 intro b
 induction b with
 | zero =>
  intro p p' j ns f g hb h d e;have F:=(h.ok a).iL;have v:=(d.ok a).iL;have K:=(h.ok a).len;have C:=(d.ok a).len;rw[hj (show j.length=0 by omega),hj (show ns.length=0 by omega),hj (show f.length=0 by omega),hj (show g.length=0 by omega)];exact⟨rfl,rfl⟩
 | succ b z =>
  intro p p' j ns f g hb h d e;cases h with
  | nil =>
   have v:=(d.ok a).iL;have C:=(d.ok a).len;rw[hj (show f.length=0 by omega),hj (show g.length=0 by omega)];exact⟨rfl,rfl⟩
  | @snoc c q t A D h0 x m =>
   have J:(s.extract c s.size).size=s.size-c:=by rw[ek];omega
   have G:=(m.bounds (by omega) a).1;cases d with
   | nil=>omega
   | @snoc i r u B E h1 y n =>
    have I:(s.extract i s.size).size=s.size-i:=by rw[ek];omega
    have H:=(n.bounds (by omega) a).1;have w:c=i:=by
     rcases Nat.lt_trichotomy c i with k|k|k
     ·have:=pK l a i c A D q t r u h0 x m h1 k;omega
     ·exact k
     ·have:=pK l a c i B E r u q t h1 y n h0 k;omega
    subst w;have hu:=m.uniq l n;have hi:=z c c _ _ _ _ (by omega) h0 h1 rfl;rw[hi.1,hi.2,hu.1,hu.2];exact⟨rfl,rfl⟩
theorem AE{L:List (Int×Int×Nat)}(f:hB L)(e:∀o∈L,o.2.2<8){s:ai}(p:Nat)(a ns b c:List Nat)(h:c8 L s p a ns)(d:c8 L s p b c):a=b/\ns=c:=x1 f e p p p a ns b c (ar _) h d rfl
theorem yR{p:Nat}{ns:List Nat}{i e:Nat}(h:(gX p ns)[i]?=some e):∃n,ns[i]?=some n/\e=p+(ns.take i).sum+n:=by
 induction ns generalizing p i with
 | nil=>simp[gX]at h
 | cons m ns a =>
  cases i with
  | zero=>simp[gX]at h;exact⟨m,rfl,by simp;omega⟩
  | succ i =>
   obtain⟨n,h1,b⟩:=a (p:=p+m) (i:=i) (by simpa[gX]using h);exact⟨n,by simpa using h1,by simp;omega⟩
theorem JJ{s:ai}{d:List (Int×Nat)}{ns:List Nat}{cb:List Bool}{cut:Nat->Bool->Prop}(hc:d.map (fun x=>x.2)=gX 0 ns)(l:∀i c,1<=i->i<=d.length->cut i c->cb[i]?=some c){i a:Nat}{told:List ai}(h:gZ s d cut i a told):ec s ns cb i=(a,(ns.take i).sum,told):=by
 induction h with
 | nil=>rfl
 | @cut i a told x h b f k =>
  have o:=(a1.1 b).1;have j:(gX 0 ns)[i]?=some x.2:=by rw[<- hc,cV,b];rfl
  obtain⟨n,h1,m⟩:=yR j;have g:=gm h1;rw[gU h1 (l (i+1) true (by omega) (by omega) f),k];have e:x.2=(ns.take i).sum+n:=by omega
  rw[e,g];rfl
 | @join i a told x h b f k =>
  have o:=(a1.1 b).1;have j:(gX 0 ns)[i]?=some x.2:=by rw[<- hc,cV,b];rfl
  obtain⟨n,h1,m⟩:=yR j;have g:=gm h1;rw[gU h1 (l (i+1) false (by omega) (by omega) f),k,g];rfl
end Go.Proofs.YtodagkkjfipbgaaGreatDoor
namespace Go.Proofs.YtodagkkjfipbgaaGreatDoor
open Go.RowKit Go.Proofs.Tryz
def jl(w:World):Prop:=w.cell? ⟨1,2,none⟩=some (.int .u64 100)
def RS.Ok(T:ai)(s:RS):Prop :=
 s.at_<=T.size/\s.aa.length<=6/\s.ay.length<=s.at_+1/\s.L.length<=4/\0<=s.atoms/\s.atoms<=5/\0<=s.nest/\s.nest<=4/\(s.err=0->s.ay.length<=s.at_/\s.atoms<=4/\∀x∈s.aa,x.toList≠[])
def cL(l:List (Int×Int×Int)):List Value:=l.flatMap fun o=>[.int .i64 o.1,.int .i64 o.2.1,.int .i64 o.2.2]
def du(l:List (Bool×Value×Value)):List Value:=l.flatMap fun o=>[.bool o.1,o.2.1,o.2.2]
def hY(w:World)(a:List (Bool×Value×Value))(L:List (Bool×Rx×Rx)):Prop :=
 a.length=L.length/\∀(i:Nat) (v:Bool×Value×Value) (x:Bool×Rx×Rx),a[i]?=some v->L[i]?=some x->v.1=x.1/\(∃d,aS d w v.2.1 x.2.1)/\∃d,aS d w v.2.2 x.2.2
def pX(w:World)(base:Nat)(s:RS)(b c vL:Value):Prop :=
 w.ownsRow base 9 1 b s.aa.length (s.aa.map .string)/\w.ownsRow base 197 3 c s.ay.length (cL s.ay) /\
 ∃a,w.ownsRow base 181 3 vL s.L.length (du a)/\hY w a s.L
def fE(w:World)(base b:Nat)(T:ai)(s:RS):Prop :=
 1<base/\base<=b/\T.size<=1000/\s.Ok T/\jl w/\∃a c vL,p1 w b T s a c vL/\pX w base s a c vL
def Kt(t:TypeId)(w w':World):Prop:=∀(k:Nat) (a:Array Value) (m:Nat×Nat),w.heap[k]?=some (.cells a t m)->w'.heap[k]?=some (.cells a t m)
theorem Kt.refl(t:TypeId)(w:World):Kt t w w:=fun _ _ _ h=>h
theorem Kt.trans{t:TypeId}{a b c:World}(h:Kt t a b)(k:Kt t b c):Kt t a c:=fun i d m g=>k i d m (h i d m g)
theorem Kt.below{t:TypeId}{w w':World}(h:Below w.heap.size w w'):Kt t w w':=fun k g m d=>by rw[h.block k (dE.1 d).1];exact d
def KL(w w':World):Prop:=∀(k:Nat) (a:Array Value),w.heap[k]?=some (.cells a 35 (0,0))->∃b:Array Value,w'.heap[k]?=some (.cells b 35 (0,0))/\b[6]?=a[6]?
theorem KL.refl(w:World):KL w w:=fun _ d h=>⟨d,h,rfl⟩
theorem KL.trans{a b c:World}(h:KL a b)(k:KL b c):KL a c:=fun i j t=>by
 obtain⟨d,h1,n⟩:=h i j t;obtain⟨g,q,o⟩:=k i d h1;exact⟨g,q,o.trans n⟩
theorem KL.QU{w w':World}(h:Kt 35 w w'):KL w w':=fun k d g=>⟨d,h k d _ g,rfl⟩
structure e5 (base:Nat) (w w':World):Prop where
 b:Below base w w'
 k:bf w w'
 r:Kt 181 w w'
 l:KL w w'
theorem e5.refl(base:Nat)(w:World):e5 base w w:=⟨aB _ _,bf.refl _,Kt.refl _ _,KL.refl _⟩
theorem e5.trans{base:Nat}{a b c:World}(h:e5 base a b)(k:e5 base b c):e5 base a c:=⟨h.1.trans k.1,h.2.trans k.2,h.3.trans k.3,h.4.trans k.4⟩
theorem e5.aL{base:Nat}{w w':World}(h:Below w.heap.size w w')(hb:base<=w.heap.size):e5 base w w':=⟨h.mono hb,bf.aL h,Kt.below h,KL.QU (Kt.below h)⟩
theorem jl.on{base:Nat}{w w':World}(h:jl w)(hb:Below base w w')(d:1<base):jl w':=(hb.cell (p:=⟨1,2,none⟩) d).trans h
theorem hY.aY{w w':World}{j:List (Bool×Value×Value)}{L:List (Bool×Rx×Rx)}(h:hY w j L)(g:bf w w'):hY w' j L:=by
 refine⟨h.1,fun i v x q t=>?_⟩;obtain⟨h1,⟨d,n⟩,e,o⟩:=h.2 i v x q t;exact⟨h1,⟨d,n.aY g⟩,e,o.aY g⟩
theorem bt{w w':World}{base:Nat}{e:TypeId}{size:Nat}{v:Value}{n:Nat}{us:List Value}(h:w.ownsRow base e size v n us) (f:∀(k:Nat) (b:Array Value) (m:Nat×Nat),w.heap[k]?=some (.cells b e m)->w'.heap[k]?=some (.cells b e m)):w'.ownsRow base e size v n us:=by
 obtain⟨h1,a⟩:=h;refine⟨h1,?_⟩;rcases a with a|⟨g,au,c,i,hg,d,r⟩
 ·exact ah a
 ·exact ac ⟨g,au,c,i,hg,f _ _ _ d,r⟩
theorem gn{w w':World}{b:Nat}{d:Array Value}{t0 t:TypeId}{m0:Nat×Nat}(hb:w.heap[b]?=some (.cells d t0 m0))(hc:bj (fun k=>k=b) w w')(f:t≠t0):∀(k:Nat) (c:Array Value) (m:Nat×Nat),w.heap[k]?=some (.cells c t m)->w'.heap[k]?=some (.cells c t m):=by
 intro k c m a;rw[hc.block k (dE.1 a).1 (fun e=>by subst e;rw[hb]at a;simp at a;exact f a.2.1.symm)];exact a
theorem rG{w w':World}{b:Nat}{T:ai}{s:RS}{e f vL:Value}(h:p1 w b T s e f vL)(hc:bj (fun k=>k=b) w w'):bf w w':=by
 intro k a t m d c;rcases d with rfl|rfl
 ·exact gn h hc (by decide) k a m c
 ·exact gn h hc (by decide) k a m c
theorem Ha{w w':World}{base b:Nat}{T:ai}{s e:RS}{f g vL:Value}(h:p1 w b T s f g vL)(hc:bj (fun k=>k=b) w w')(m:pX w base s f g vL) (h1:e.aa=s.aa) (j:e.ay=s.ay) (l:e.L=s.L):pX w' base e f g vL:=by
 obtain⟨a,i,n,c,d⟩:=m;unfold pX;rw[h1,j,l];exact⟨bt a (gn h hc (by decide)),bt i (gn h hc (by decide)),n,bt c (gn h hc (by decide)),d.aY (rG h hc)⟩
theorem Hm{w w':World}{base b:Nat}{T:ai}{s l:RS}{d f vL:Value}(h:p1 w b T s d f vL)(i:p1 w' b T l d f vL)(hc:bj (fun k=>k=b) w w')(j:base<=b):e5 base w w' :=
 ⟨hc.below (aE j (Nat.le_of_lt (dE.1 h).1)) (fun k m e=>by omega),rG h hc,gn h hc (by decide),fun k g a=>by
  by_cases e:k=b
  ·subst e;refine⟨_,i,?_⟩;have c:=h;unfold p1 at c;rw[c]at a;simp at a;rw[<- a];rfl
  ·exact⟨g,by rw[hc.block k (dE.1 a).1 e];exact a,rfl⟩⟩
theorem fE.step{w w':World}{base b:Nat}{T:ai}{s d:RS}{i j vL:Value}(h:fE w base b T s)(hb:p1 w b T s i j vL)(y:pX w base s i j vL)(n:p1 w' b T d i j vL)(hc:bj (fun k=>k=b) w w') (h1:d.aa=s.aa) (t:d.ay=s.ay) (u:d.L=s.L) (x:d.Ok T):fE w' base b T d/\e5 base w w':=by
 obtain⟨g,o,v,_,A,_⟩:=h;have q:=Hm hb n hc o;exact⟨⟨g,o,v,x,A.on q.1 g,i,j,vL,n,Ha hb hc y h1 t u⟩,q⟩
theorem fE.below{w w':World}{base b:Nat}{T:ai}{s:RS}(h:fE w base b T s)(hb:Below w.heap.size w w'):fE w' base b T s/\e5 base w w':=by
 obtain⟨g,x,v,A,B,E,F,C,o,a,u,G,c,d⟩:=h;have y:b<w.heap.size:=(dE.1 o).1;have n:e5 base w w':=e5.aL hb (by omega);have j:∀(t:TypeId) (k:Nat) (i:Array Value) (m:Nat×Nat),w.heap[k]?=some (.cells i t m)->w'.heap[k]?=some (.cells i t m):=fun t k i m q=>by
  rw[hb.block k (dE.1 q).1];exact q
 exact⟨⟨g,x,v,A,B.on n.1 g,E,F,C,by unfold p1;rw[hb.block b y];exact o,bt a (j _),bt u (j _),G,bt c (j _),d.aY n.2⟩,n⟩
theorem bu(s:RS)(e p:Int):(s.fail e p).aa=s.aa/\(s.fail e p).ay=s.ay/\(s.fail e p).L=s.L/\(s.fail e p).at_=s.at_/\(s.fail e p).atoms=s.atoms/\(s.fail e p).nest=s.nest:=by
 unfold RS.fail;split<;>simp
theorem cO(s:RS)(e p:Int)(a:e≠0):(s.fail e p).err≠0:=by
 unfold RS.fail;split<;>simp_all
theorem RS.Ok.fail{T:ai}{s:RS}(h:s.Ok T)(e p:Int)(g:e≠0):(s.fail e p).Ok T:=by
 obtain⟨f1,f2,f3,f4,f5,f6⟩:=bu s e p;have:=cO s e p g;unfold RS.Ok at *;rw[f1,f2,f3,f4,f5,f6];exact⟨h.1,h.2.1,h.2.2.1,h.2.2.2.1,h.2.2.2.2.1,h.2.2.2.2.2.1,h.2.2.2.2.2.2.1,h.2.2.2.2.2.2.2.1,fun d=>absurd d this⟩
theorem RS.Ok.at_{T:ai}{s:RS}(h:s.Ok T)(n:Nat)(h1:s.at_<=n)(o:n<=T.size):({ s with at_:=n }:RS).Ok T:=by
 unfold RS.Ok at *;obtain⟨a,b,c,d,e,f,g,i,j⟩:=h;refine⟨o,b,by show s.ay.length<=n+1;omega,d,e,f,g,i,fun q=>?_⟩;have:=j q;exact⟨by show s.ay.length<=n;omega,this.2⟩
theorem RS.Ok.take{T:ai}{s:RS}(h:s.Ok T):(s.take T).Ok T:=h.at_ _ (c0 T s h.1).2.1 (c0 T s h.1).1
theorem RS.Ok.aH{T:ai}{s:RS}(h:s.Ok T):(s.aH T).Ok T:=h.at_ _ (gJ T s h.1).2 (gJ T s h.1).1
theorem gl(T:ai)(s:RS)(l:List UInt8):(s.want T l).aa=s.aa/\(s.want T l).ay=s.ay/\(s.want T l).L=s.L/\(s.want T l).at_=(s.take T).at_/\(s.want T l).atoms=s.atoms/\(s.want T l).nest=s.nest:=by
 unfold RS.want;split
 ·simp[RS.take]
 ·exact bu (s.take T) _ _
theorem RS.Ok.want{T:ai}{s:RS}(h:s.Ok T)(l:List UInt8):(s.want T l).Ok T:=by
 unfold RS.want;split
 ·exact h.take
 ·exact h.take.fail _ _ (by omega)
theorem fW(T:ai)(s:RS):(s.hex T).aa=s.aa/\(s.hex T).ay=s.ay/\(s.hex T).L=s.L/\(s.hex T).at_=(s.take T).at_/\(s.hex T).atoms=s.atoms/\(s.hex T).nest=s.nest:=by
 unfold RS.hex;simp only;split
 ·exact bu (s.take T) _ _
 ·split<;>split<;>simp[bu,RS.take]
theorem RS.Ok.hex{T:ai}{s:RS}(h:s.Ok T):(s.hex T).Ok T:=by
 unfold RS.hex;simp only;split
 ·exact h.take.fail _ _ (by omega)
 ·split
  ·split
   ·exact h.take.fail _ _ (by omega)
   ·exact(h.take.fail _ _ (by omega)).fail _ _ (by omega)
  ·split
   ·exact h.take
   ·exact h.take.fail _ _ (by omega)
theorem gN(base b:Nat)(T:ai)(s:RS)(a c:Int)(w:World)(h:fE w base b T s)(i:a≠0):Calls prog 46 #[.pointer (some ⟨b,0,none⟩),.int .i64 a,.int .i64 c] w fun e w'=>e=.returned (.tuple #[])/\fE w' base b T (s.fail a c)/\e5 base w w':=by
 have h0:=h;obtain⟨g,p,o,j,q,m,n,l,d,k⟩:=h;refine(fe b T s m n l a c w d).mono ?_;rintro e w' ⟨rfl,f,hc⟩;have:=bu s a c;exact⟨rfl,h0.step d k f hc this.1 this.2.1 this.2.2.1 (j.fail _ _ i)⟩
theorem nL(base b:Nat)(T:ai)(s:RS)(w:World)(h:fE w base b T s):Calls prog 47 #[.pointer (some ⟨b,0,none⟩)] w fun e w'=>e=.returned (.tuple #[.string (tok T s.at_),.int .i64 (s.pos T:Nat)])/\fE w' base b T (s.aH T)/\e5 base w w':=by
 have h0:=h;obtain⟨g,m,d,c,n,k,l,j,a,i⟩:=h;refine(Nw b T s k l j w a d c.1).mono ?_;rintro e w' ⟨rfl,f,hc⟩;exact⟨rfl,h0.step a i f hc rfl rfl rfl c.aH⟩
theorem hI(base b:Nat)(T:ai)(s:RS)(w:World)(h:fE w base b T s):Calls prog 91 #[.pointer (some ⟨b,0,none⟩)] w fun e w'=>e=.returned (.tuple #[.string (tok T s.at_),.int .i64 (s.pos T:Nat)])/\fE w' base b T (s.take T)/\e5 base w w':=by
 have h0:=h;obtain⟨g,m,d,c,n,k,l,j,a,i⟩:=h;refine(tj b T s k l j w a d c.1).mono ?_;rintro e w' ⟨rfl,f,hc⟩;exact⟨rfl,h0.step a i f hc rfl rfl rfl c.take⟩
theorem y8(base b:Nat)(T:ai)(s:RS)(x:ai)(w:World)(h:fE w base b T s):Calls prog 94 #[.pointer (some ⟨b,0,none⟩),.string x] w fun e w'=>e=.returned (.tuple #[])/\fE w' base b T (s.want T x.toList)/\e5 base w w':=by
 have h0:=h;obtain⟨g,m,d,c,n,k,l,j,a,i⟩:=h;refine(MV b T s k l j x w a d c.1).mono ?_;rintro e w' ⟨rfl,f,hc⟩;have:=gl T s x.toList;exact⟨rfl,h0.step a i f hc this.1 this.2.1 this.2.2.1 (c.want _)⟩
theorem K7(base b:Nat)(T:ai)(s:RS)(w:World)(h:fE w base b T s):Calls prog 147 #[.pointer (some ⟨b,0,none⟩)] w fun e w'=>e=.returned (.tuple #[.int .i64 (RS.fX (s.tk T)),.int .i64 (s.pos T:Nat)])/\fE w' base b T (s.hex T)/\e5 base w w':=by
 have h0:=h;obtain⟨g,m,d,c,n,k,l,j,a,i⟩:=h;refine(PD b T s k l j w a d c.1).mono ?_;rintro e w' ⟨rfl,f,hc⟩;have:=fW T s;exact⟨rfl,h0.step a i f hc this.1 this.2.1 this.2.2.1 c.hex⟩
theorem C2(base b:Nat)(T:ai)(s:RS)(x:ai)(w:World)(h:fE w base b T s):Calls prog 93 #[.pointer (some ⟨b,0,none⟩),.string x] w fun e w'=>e=.returned (.int .i64 (ba s.aa x.toList))/\w'=w:=by
 obtain⟨g,l,k,c,m,i,j,f,a,d⟩:=h;exact Io b base T s.at_ s.err s.place i j f s.atoms s.nest s.aa x w a d.1 (by have:=c.2.1;omega)
theorem fE.cells{w:World}{base b:Nat}{T:ai}{s:RS}(h:fE w base b T s):∃d i vL,p1 w b T s d i vL/\pX w base s d i vL /\w.cell? ⟨b,0,none⟩=some (.string T)/\w.cell? ⟨b,1,none⟩=some (.int .i64 s.at_)/\w.cell? ⟨b,2,none⟩=some (.int .i64 s.err)/\w.cell? ⟨b,3,none⟩=some (.int .i64 s.place) /\w.cell? ⟨b,4,none⟩=some d/\w.cell? ⟨b,5,none⟩=some i/\w.cell? ⟨b,6,none⟩=some vL/\w.cell? ⟨b,7,none⟩=some (.int .i64 s.atoms)/\w.cell? ⟨b,8,none⟩=some (.int .i64 s.nest)/\(∀o,w.frozen? ⟨b,o,none⟩=false):=by
 obtain⟨g,t,q,u,v,d,i,vL,j,n⟩:=h;exact⟨d,i,vL,j,n,lP j⟩
theorem Kt.setCell{t:TypeId}{w:World}{b o:Nat}{g:Array Value}{t0:TypeId}{m0:Nat×Nat}(hb:w.heap[b]?=some (.cells g t0 m0))(h:t≠t0)(u:Value):Kt t w (w.setCell ⟨b,o,none⟩ u):=fun k i m d=>by
 rw[e2 _ _ _ _ (fun e=>by simp at e;subst e;rw[hb]at d;simp at d;exact h d.2.1.symm)];exact d
theorem Kt.grown{t e:TypeId}{base size n:Nat}{w w':World}{v:Value}{us:List Value}(o:w.ownsRow base e size v n us)(hg:w.grownBy w' v.ownBlock)(q:t≠e):Kt t w w':=fun k u m h=>by
 rw[hg.block k (dE.1 h).1 (fun d=>by
  rcases o.2 with⟨i,_⟩|⟨g,au,x,i,_,j,_⟩
  ·rw[i]at d;simp[Value.ownBlock]at d
  ·rw[i]at d;simp[Value.ownBlock]at d;subst d;rw[j]at h;simp at h;exact q h.2.1.symm)];exact h
theorem qw{w w':World}(h1:Kt 204 w w')(c:Kt 178 w w'):bf w w':=fun k a t m d b=>by
 rcases d with rfl|rfl
 ·exact h1 k a m b
 ·exact c k a m b
structure hW (e:TypeId) (o:Nat) (base b:Nat) (v v':Value) (w w1 w2 w3:World):Prop where
 first:Below w.heap.size w w1
 grown:w1.grownBy w2 v.ownBlock
 last:w3.heap=(w2.setCell ⟨b,o,none⟩ v').heap/\w3.os=w2.os/\w3.tape=w2.tape/\w3.output=w2.output
theorem hW.kt{e t:TypeId}{o base b size n:Nat}{v q:Value}{us:List Value}{w w1 u w3:World}{x:Array Value}(h:hW e o base b v q w w1 u w3)(C:w.ownsRow base e size v n us) (hb:w.heap[b]?=some (.cells x 35 (0,0))) (G:t≠e) (F:t≠35) (A:e≠35):Kt t w w3:=by
 have i:∀d,Kt d w w1:=fun d=>Kt.below h.first
 have H:w1.ownsRow base e size v n us:=bt C (i e);have j:∀d,d≠e->Kt d w1 u:=fun d E=>Kt.grown H h.grown E
 have y:=j _ (Ne.symm A) _ _ _ (i _ _ _ _ hb);intro k g m B;rw[h.last.1];exact Kt.setCell y F q k g m (j t G k g m (i t k g m B))
theorem hW.row{e:TypeId}{o base b size n:Nat}{v d:Value}{us q:List Value}{n':Nat}{w w1 t w3:World}{x:Array Value}(h:hW e o base b v d w w1 t w3)(C:w.ownsRow base e size v n us) (hb:w.heap[b]?=some (.cells x 35 (0,0))) (g:e≠35) (B:t.ownsRow base e size d n' q):w3.ownsRow base e size d n' q:=by
 have i:∀j,Kt j w w1:=fun j=>Kt.below h.first
 have E:w1.ownsRow base e size v n us:=bt C (i e);have y:=Kt.grown E h.grown (Ne.symm g) _ _ _ (i _ _ _ _ hb);refine bt B ?_;intro k u m A;rw[h.last.1];exact Kt.setCell y g d k u m A
theorem hW.da{e:TypeId}{o base b size n:Nat}{v d:Value}{us:List Value}{w w1 y w3:World}{g:Array Value}(h:hW e o base b v d w w1 y w3)(u:w.ownsRow base e size v n us) (hb:w.heap[b]?=some (.cells g 35 (0,0))) (t:e≠35):w3.heap[b]?=some (.cells (g.setIfInBounds o d) 35 (0,0)):=by
 have i:∀j,Kt j w w1:=fun j=>Kt.below h.first
 have x:w1.ownsRow base e size v n us:=bt u (i e);have q:=Kt.grown x h.grown (Ne.symm t) _ _ _ (i _ _ _ _ hb);rw[h.last.1];exact am q o d
theorem hW.QN{e:TypeId}{o base b size n:Nat}{v j:Value}{us:List Value}{w w1 q w3:World}{C:Array Value}(h:hW e o base b v j w w1 q w3)(g:w.ownsRow base e size v n us)(E:base<=b) (hb:w.heap[b]?=some (.cells C 35 (0,0))) (d:e≠35) (F:204≠e) (G:178≠e) (H:181≠e) (J:o≠6):e5 base w w3:=by
 have x:∀A,Kt A w w1:=fun A=>Kt.below h.first
 have y:w1.ownsRow base e size v n us:=bt g (x e);have I:b<w.heap.size:=(dE.1 hb).1;have K:=h.first.size;have b1:Below base w q:=(h.first.mono (by omega)).grown h.grown (by omega) (fun k i=>(y.lt k i).1);have b2:Below base w (q.setCell ⟨b,o,none⟩ j):=b1.setCell E j;refine⟨⟨h.last.2.1.trans b1.os,h.last.2.2.1.trans b1.tape,h.last.2.2.2.trans b1.output,by rw[h.last.1];exact b2.size,fun k i=>by rw[h.last.1];exact b2.block k i⟩,
  qw (h.kt g hb F (by decide) d) (h.kt g hb G (by decide) d),h.kt g hb H (by decide) d,fun k B u=>?_⟩
 by_cases t:k=b
 ·subst t;refine⟨_,h.da g u d,?_⟩;rw[Array.getElem?_setIfInBounds_ne (by omega)]
 ·refine⟨B,?_,rfl⟩;rw[h.last.1,e2 _ _ _ _ (by simpa using t)];exact Kt.grown y h.grown (Ne.symm d) _ _ _ (x _ _ _ _ u)
theorem cw{w:World}{base:Nat}{e:TypeId}{size:Nat}{v:Value}{n:Nat}{us:List Value}(h:w.ownsRow base e size v n us):∃b au,v=.slice b n au:=by
 rcases h.2 with⟨a,c⟩|⟨g,au,d,a,_⟩
 ·exact⟨none,0,by rw[a,c]⟩
 ·exact⟨_,au,a⟩
theorem mO{w W w':World}{b base size n:Nat}{e:TypeId}{a:Array Value}{v:Value}{us:List Value}(hg:W.grownBy w' v.ownBlock)(hb:w.heap[b]?=some (.cells a 35 (0,0)))(h1:Below w.heap.size w W)(d:W.ownsRow base e size v n us)(c:35≠e):w'.heap[b]?=some (.cells a 35 (0,0)):=Kt.grown d hg c _ _ _ (Kt.below h1 _ _ _ hb)
theorem yf{P:Program}{w:World}{f:Array Oper}{o:Oper}{a:Act}{K:Act->World->Prop}{Q:Exit->Act->World->Prop}{E:Prop}(y:o.guard=none)(s x:Operand)(t:TypeId) (B:o.op=.call { callee:=.builtin .append,args:=#[s,x],argTypes:=#[t,t] }) (base:Nat) (e:TypeId) (z:Value) (size bytes:Nat) (A:(P.info? e).map (fun i=>(i.zero,i.size,i.bytes))=some (some z,size,bytes)) (G:P.underlying t=some (.slice e)) (N:z.cells.size=size) (F:0<size) (v:Value) (n:Nat) (xs:List Value) (D:a.eval s=v) (C:w.ownsRow base e size v n xs) (g c:Nat) (b:List Value) (I:a.eval x=.slice (some ⟨g,0,none⟩) 1 c) (O:b.length=size) (q:w.heap[g]?=some (.cells b.toArray e (0,0))) (h1:∀u∈b,u.oneCell'=true) (R:n<=9000000000) (r:bytes<=1000) (p:base<=w.heap.size) (l:∀d w',w'.ownsRow base e size d (n+1) (xs++b)->w.grownBy w' v.ownBlock->K (a.put o.dst d) w'):if Region.wanted o (yielded f a.tmps)=true then Oper.wp P o a w K Q else E:=by
 have H:Region.wanted o (yielded f a.tmps)=true:=by simp[Region.wanted,y]
 rw[ag H];obtain⟨i,hi,J,L,M⟩:=info_parts A;refine wp_append_own w s x t B base e i z size bytes G hi J L M N F v n xs D C ⟨g,0,none⟩ 1 c b I (by omega) ?_ h1 (by simp only[maxLen];omega) ?_ p (fun d w' h k _=>l d w' h k)
 ·intro j u hu;have m:(⟨g,0,none⟩:Addr).add j=⟨g,j,none⟩:=by unfold Addr.add;split<;>simp_all
  rw[m];exact ab q j u (by simpa using hu)
 ·calc (n+1)*bytes<=9000000001*1000:=h2 (by omega) r
   _<=_:=by omega
theorem zm(l:List (Int×Int×Int))(i:Nat)(h:i<l.length):(cL l)[3*i]?=some (.int .i64 l[i].1)/\(cL l)[3*i+1]?=some (.int .i64 l[i].2.1)/\(cL l)[3*i+2]?=some (.int .i64 l[i].2.2):=by
 induction l generalizing i with
 | nil=>simp at h
 | cons a r f =>
  cases i with
  | zero=>simp[cL]
  | succ i =>
   have:=f i (by simpa using h);have e:∀k,(cL (a::r))[3*(i+1)+k]?=(cL r)[3*i+k]?:=by
    intro k;rw[show 3*(i+1)+k=(3*i+k)+3 from by omega];rfl
   have b:=e 0;have c:=e 1;have d:=e 2;simp only[k8]at b;rw[b,c,d];simpa using this
theorem o7{w:World}{base:Nat}{v:Value}{l:List (Int×Int×Int)}(h:w.ownsRow base 197 3 v l.length (cL l)):∃c au,v=.slice c l.length au/\∀i (hi:i<l.length),∃g,c=some ⟨g,0,none⟩/\g<w.heap.size/\w.cell? ⟨g,i*3,none⟩=some (.int .i64 l[i].1)/\w.cell? ⟨g,i*3+1,none⟩=some (.int .i64 l[i].2.1)/\w.cell? ⟨g,i*3+2,none⟩=some (.int .i64 l[i].2.2):=by
 obtain⟨k,d⟩:=h;rcases d with⟨b,f⟩|⟨g,au,j,b,hg,a,m,n,o,e⟩
 ·exact⟨none,0,by rw[b,f],fun i hi=>by omega⟩
 ·refine⟨some ⟨g,0,none⟩,au,b,fun i hi=>⟨g,rfl,(dE.1 a).1,?_⟩⟩;have hc:=zm l i hi;rw[Nat.mul_comm 3 i]at hc;rw[<- e,bJ,bJ,bJ,ag (by omega),ag (by omega),ag (by omega)]at hc;exact⟨ab a _ _ (by simpa using hc.1),ab a _ _ (by simpa using hc.2.1),ab a _ _ (by simpa using hc.2.2)⟩
theorem F9(l:List UInt8):0<=RS.fX l/\RS.fX l<16777216:=by
 unfold RS.fX;split
 ·omega
 ·exact nW 6 l (by omega)
theorem fE.J7{w w1 x w3:World}{base b:Nat}{T:ai}{s:RS}{t u vL n:Value}{o:Int×Int×Int}(h:fE w base b T s)(i:p1 w b T s t u vL)(E:pX w base s t u vL) (j:hW 197 5 base b u n w w1 x w3) (B:x.ownsRow base 197 3 n (s.ay.length+1) (cL s.ay++[.int .i64 o.1,.int .i64 o.2.1,.int .i64 o.2.2])) (C:({ s with ay:=s.ay++[o] }:RS).Ok T):fE w3 base b T { s with ay:=s.ay++[o] }/\e5 base w w3:=by
 obtain⟨g,v,A,_,F,_⟩:=h;obtain⟨a,c,G,d,y⟩:=E;have q:=j.QN c v i (by decide) (by decide) (by decide) (by decide) (by decide);refine⟨⟨g,v,A,C,F.on q.1 g,t,n,vL,?_,?_,?_,G,?_,y.aY q.2⟩,q⟩
 ·exact(j.da c i (by decide)).trans rfl
 ·exact bt a (j.kt c i (by decide) (by decide) (by decide))
 ·have:=j.row c i (by decide) B;have e:cL (s.ay++[o])=cL s.ay++[.int .i64 o.1,.int .i64 o.2.1,.int .i64 o.2.2]:=by simp[cL]
  show w3.ownsRow base _ 3 n (s.ay++[o]).length (cL (s.ay++[o]));rw[e,aF];exact this
 ·exact bt d (j.kt c i (by decide) (by decide) (by decide))
theorem O3(T:ai)(s:RS)(h:T.size<=s.pos T):s.tk T=[]:=by
 unfold RS.tk tok;unfold RS.pos at h;rw[bM,ByteArray.data_extract,Array.toList_extract];simp only[List.extract_eq_take_drop];rw[List.drop_eq_nil_of_le (by simpa using h)];simp
theorem mE(T:ai)(s:RS)(a:s.at_<=T.size)(h:s.tk T≠[]):s.at_<(s.take T).at_:=by
 have:=c0 T s a
 by_cases b:s.pos T<T.size
 ·exact this.2.2.1 b
 ·exact absurd (O3 T s (by omega)) h
theorem tF(T:ai)(s:RS)(a:s.at_<=T.size)(h:(s.hex T).err=0):s.at_<(s.hex T).at_:=by
 rw[(fW T s).2.2.2.1];refine mE T s a (fun e=>?_);have:=(Cr e).1;rw[this]at h;exact cO _ _ _ (by omega) h
theorem F8(T:ai)(s:RS)(h:(s.hex T).err=0):s.err=0:=by
 have key:∀(s:RS) (e p:Int),e≠0->(s.fail e p).err=0->False:=fun s e p a h=>cO s e p a h
 unfold RS.hex at h;simp only at h;split at h
 ·exact(key _ _ _ (by omega) h).elim
 ·split at h
  ·exact(key _ _ _ (by omega) h).elim
  ·split at h
   ·exact h
   ·exact(key _ _ _ (by omega) h).elim
def rS(s s2:RS):Prop:=s2.ay=s.ay/\s.at_<=s2.at_/\(s2.err=0->s.at_<s2.at_)
theorem rS.fail{s s2:RS}(h:rS s s2)(e p:Int)(g:e≠0):rS s (s2.fail e p):=by
 obtain⟨a,b,c⟩:=h;have f:=bu s2 e p;exact⟨by rw[f.2.1];exact a,by rw[f.2.2.2.1];exact b,fun d=>absurd d (cO _ _ _ g)⟩
theorem E2{T:ai}{s d:RS}{o:Int×Int×Int}(h:s.Ok T)(g:s.err=0)(f:d.Ok T)(i:rS s d):({ d with ay:=d.ay++[o] }:RS).Ok T:=by
 obtain⟨a,b,c⟩:=i;have r:=(h.2.2.2.2.2.2.2.2 g).1;unfold RS.Ok at *;obtain⟨j,k,t,p4,l,m,n,p,q⟩:=f;refine⟨j,k,?_,p4,l,m,n,p,fun e=>⟨?_,(q e).2⟩⟩
 ·show (d.ay++[o]).length<=d.at_+1;rw[aF,a];simp;omega
 ·show (d.ay++[o]).length<=d.at_;have:=c e;rw[aF,a];simp;omega
theorem Eg(a t:Int)(l:List (Int×Int×Int))(o:Int×Int×Int):RS.meets a t (l++[o])=(RS.meets a t l||(decide (a<=o.2.1)&&decide (o.1<=t))):=by
 unfold RS.meets;simp
def lB(a t:Int):Bool:=decide (t<a)||(decide (a<=57343)&&decide (55296<=t))
theorem Oc(a t:Int)(l:List (Int×Int×Int)):(lB a t||RS.meets a t l)=RS.dy a t l:=rfl
theorem M7(base b:Nat)(T:ai)(s:RS)(w:World)(h:fE w base b T s)(c9:s.err=0):Calls prog 95 #[.pointer (some ⟨b,0,none⟩)] w fun e w'=>e=.returned (.tuple #[])/\fE w' base b T (s.span T)/\e5 base w w':=by
 have e4:=F9 (s.tk T);obtain⟨a,a9⟩:∃a,a=RS.fX (s.tk T):=⟨_,rfl⟩;rw[<- a9]at e4;have a0:Hid (a=RS.fX (s.tk T)):=a9;clear a9;obtain⟨h4,h5⟩:=e4;have g2:Hid (s.err=0):=c9;clear c9;go_enter func95,ntmps95;go_wp2_with fail;refine(K7 base b T s _ h).mono ?_;rintro j k0 ⟨rfl,h1,b3⟩;rw[<- a0.out];go_wp2_with fail;refine(nL base b T (s.hex T) _ h1).mono ?_;rintro z i4 ⟨rfl,K,b4⟩;obtain⟨d,b1⟩:∃d,d=(s.hex T).aH T:=⟨_,rfl⟩;rw[<- b1]at K;have r:Hid (d=(s.hex T).aH T):=b1;clear b1;obtain⟨t1,b2⟩:∃t1,t1=tok T (s.hex T).at_:=⟨_,rfl⟩;rw[<- b2];have b9:Hid (d.tk T=t1.toList):=by
  show d.tk T=t1.toList;rw[r.out,b2];unfold RS.tk RS.aH tok;simp only;rw[qc]
 clear b2;obtain⟨b7,g0,e9,A,x,R,S,U,c3,I,J,V,W,Y,Z⟩:=K.cells
 go_upto_region 3 with fail
 go_cut [29] (fun a7 n=>a7=.bool (decide (d.err=0/\d.tk T=[45]))/\n=i4)
 case first =>
  by_cases v:d.err=0
  ·have h7:(d.err==0)=true:=by simpa using v
   by_cases j:d.tk T=[45]
   ·have h8:(t1.toList==[45])=true:=by rw[<- b9.out];simpa using j
    have hd:Hid (decide (d.err=0/\d.tk T=[45])=true):=by show decide _=true;simp[v,j]
    clear v j;go_wp2;go_meet;exact⟨by rw[hd.out],rfl⟩
   ·have h8:(t1.toList==[45])=false:=by rw[<- b9.out];simpa using j
    have hd:Hid (decide (d.err=0/\d.tk T=[45])=false):=by show decide _=false;simp[j]
    clear v j;go_wp2;go_meet;exact⟨by rw[hd.out],rfl⟩
  ·have h7:(d.err==0)=false:=by simpa using v
   have hd:Hid (decide (d.err=0/\d.tk T=[45])=false):=by show decide _=false;simp[v]
   clear v;go_wp2;go_meet;exact⟨by rw[hd.out],rfl⟩
 case rest =>
  obtain⟨rfl,rfl⟩:=hcut
  go_upto_if 29 with fail
  go_cut [3,4] (fun h9 i3 n=>∃(p t:Int) (c:RS),h9=.int .i64 p/\i3=.int .i64 t/\fE n base b T c/\e5 base w n/\Hid (s.span T=c.bR a t p)/\Hid (rS s c)/\0<=t/\t<16777216)
  case first =>
   by_cases hd:d.err=0/\d.tk T=[45]
   ·have m:decide (d.err=0/\d.tk T=[45])=true:=by simpa using hd
    rw[m];have h6:=F9 ((d.take T).tk T);obtain⟨e6,e7⟩:=h6;have H:Hid (s.span T=((d.take T).hex T).bR a (RS.fX ((d.take T).tk T)) ((d.take T).pos T)):=by
     show s.span T=_;unfold RS.span;simp only;rw[<- r.out,ag hd,<- a0.out]
    have E:Hid (rS s ((d.take T).hex T)):=by
     have P:=fW T (d.take T);have y:=fW T s;have O:s.at_<=T.size:=h.2.2.2.1.1;have a1:=c0 T s O;have j:d.at_=((s.hex T).aH T).at_:=by rw[r.out]
     have a2:=gJ T (s.hex T) (by rw[y.2.2.2.1];exact a1.1);have a3:=c0 T d (by rw[j];exact a2.1);have a4:=c0 T (d.take T) a3.1;have z:=y.2.2.2.1;refine⟨by rw[P.2.1];show d.ay=_;rw[r.out];exact y.2.1,?_,fun e=>?_⟩
     ·rw[P.2.2.2.1];omega
     ·have:=tF T s O (by have:=F8 T _ e;have L:(d.take T).err=(s.hex T).err:=by rw[r.out];rfl
                         rw[<- L];exact this)
      rw[P.2.2.2.1];omega
    clear hd m;go_wp2_with fail;refine(hI base b T d _ K).mono ?_;rintro i7 w3 ⟨rfl,g5,i1⟩;go_wp2_with fail;refine(K7 base b T (d.take T) _ g5).mono ?_;rintro i9 k1 ⟨rfl,L,i2⟩;go_wp2_with fail;go_meet;exact⟨_,_,_,rfl,rfl,L,((b3.trans b4).trans i1).trans i2,H,E,e6,e7⟩
   ·have m:decide (d.err=0/\d.tk T=[45])=false:=by simpa using hd
    rw[m];have H:Hid (s.span T=d.bR a a (s.pos T)):=by
     show s.span T=_;unfold RS.span;simp only;rw[<- r.out,ae hd,<- a0.out]
    have E:Hid (rS s d):=by
     have y:=fW T s;have O:s.at_<=T.size:=h.2.2.2.1.1;have a1:=c0 T s O;have j:d.at_=((s.hex T).aH T).at_:=by rw[r.out]
     have a2:=gJ T (s.hex T) (by rw[y.2.2.2.1];exact a1.1);have z:=y.2.2.2.1;refine⟨by rw[r.out];exact y.2.1,by omega,fun e=>?_⟩
     have:=tF T s O (by have L:d.err=(s.hex T).err:=by rw[r.out];rfl
                        rw[<- L];exact e)
     omega
    clear hd m;go_wp2_with fail;go_meet;exact⟨_,_,_,rfl,rfl,K,b3.trans b4,H,E,h4,h5⟩
  case rest =>
   obtain⟨D,h2⟩:∃D,D=wc:=⟨wc,rfl⟩;subst h2;obtain⟨p,t,c,rfl,rfl,B,e8,H,E,e6,e7⟩:=hcut;have g7:Hid (s.Ok T):=h.2.2.2.1;clear h h1 K A x R S U c3 I J V W Y Z b3 b4;obtain⟨b7,g0,e9,A,x,R,S,U,c3,I,J,V,W,Y,Z⟩:=B.cells;obtain⟨c1,au,rfl,c8⟩:=o7 x.2.1;have g1:Hid (∀i (hi:i<c.ay.length),∃g,c1=some ⟨g,0,none⟩/\g<D.heap.size/\D.cell? ⟨g,i*3,none⟩=some (.int .i64 c.ay[i].1)/\D.cell? ⟨g,i*3+1,none⟩=some (.int .i64 c.ay[i].2.1)/\D.cell? ⟨g,i*3+2,none⟩=some (.int .i64 c.ay[i].2.2)):=c8;clear c8;have j6:c.ay.length<=1001:=by have:=B.2.2.2.1.2.2.1;have:=B.2.2.2.1.1;have:=B.2.2.1;omega
   go_upto_region 6 with fail
   go_cut [7] (fun a7 n=>a7=.bool (lB a t)/\n=D)
   case first =>
    by_cases v:t<a
    ·have C:Hid (lB a t=true):=by show lB a t=true;unfold lB;simp[v]
     go_wp2;go_meet;exact⟨by rw[C.out],rfl⟩
    ·by_cases j:a<=57343
     ·by_cases z:55296<=t
      ·have C:Hid (lB a t=true):=by show lB a t=true;unfold lB;simp[j,z]
       go_wp2;go_meet;exact⟨by rw[C.out],rfl⟩
      ·have C:Hid (lB a t=false):=by show lB a t=false;unfold lB;simp[z];omega
       go_wp2;go_meet;exact⟨by rw[C.out],rfl⟩
     ·have C:Hid (lB a t=false):=by show lB a t=false;unfold lB;simp[j];omega
      go_wp2;go_meet;exact⟨by rw[C.out],rfl⟩
   case rest =>
    obtain⟨rfl,rfl⟩:=hcut;go_wp2
    go_loopg [7,8] c.ay.length (fun g g4 i n=>∃k:Nat,k<=c.ay.length/\g=c.ay.length-k/\i=.int .i64 k/\g4=.bool (lB a t||RS.meets a t (c.ay.take k))/\Below wc.heap.size wc n)
    case atStart=>exact⟨0,by omega,rfl,rfl,by simp[RS.meets],aB _ _⟩
    case round =>
     obtain⟨k,j4,rfl,rfl,rfl,l⟩:=hrel;have b0:b<wc.heap.size:=(dE.1 A).1;have d4:wr.cell? ⟨b,4,none⟩=some b7:=(l.cell (p:=⟨b,4,none⟩) b0).trans I;have d5:wr.cell? ⟨b,5,none⟩=some (.slice c1 c.ay.length au):=(l.cell (p:=⟨b,5,none⟩) b0).trans J
     by_cases e2:k<c.ay.length
     ·obtain⟨g,rfl,hg,i0,P,y⟩:=g1.out k e2;have z0:wr.cell? ⟨g,k*3,none⟩=some (.int .i64 c.ay[k].1):=(l.cell (p:=⟨g,k*3,none⟩) hg).trans i0;have k3:wr.cell? ⟨g,k*3+1,none⟩=some (.int .i64 c.ay[k].2.1):=(l.cell (p:=⟨g,k*3+1,none⟩) hg).trans P;have z2:wr.cell? ⟨g,k*3+2,none⟩=some (.int .i64 c.ay[k].2.2):=(l.cell (p:=⟨g,k*3+2,none⟩) hg).trans y;have Q:Hid (RS.meets a t (c.ay.take (k+1))=(RS.meets a t (c.ay.take k)||(decide (a<=c.ay[k].2.1)&&decide (c.ay[k].1<=t)))):=by
       show RS.meets _ _ _=_;rw[jh e2,Eg]
      cases m:(lB a t||RS.meets a t (c.ay.take k))
      ·have M:∀X:Bool,(lB a t||(RS.meets a t (c.ay.take k)||X))=X:=by
        intro X;rw[<- Bool.or_assoc,m,Bool.false_or]
       have G:Hid (∀X:Bool,(lB a t||(RS.meets a t (c.ay.take k)||X))=X):=M;clear M
       by_cases j:a<=c.ay[k].2.1
       ·by_cases z:c.ay[k].1<=t
        ·have N:Hid ((decide (a<=c.ay[k].2.1)&&decide (c.ay[k].1<=t))=true):=by show _=true;simp[j,z]
         go_wp2;go_roundg (c.ay.length-(k+1))
         case measure=>omega
         case rel=>exact⟨k+1,by omega,rfl,by go_num,by rw[Q.out,G.out,N.out],l.alloc (l.size) _⟩
        ·have N:Hid ((decide (a<=c.ay[k].2.1)&&decide (c.ay[k].1<=t))=false):=by show _=false;simp[z]
         go_wp2;go_roundg (c.ay.length-(k+1))
         case measure=>omega
         case rel=>exact⟨k+1,by omega,rfl,by go_num,by rw[Q.out,G.out,N.out],l.alloc (l.size) _⟩
       ·have N:Hid ((decide (a<=c.ay[k].2.1)&&decide (c.ay[k].1<=t))=false):=by show _=false;simp[j]
        go_wp2;go_roundg (c.ay.length-(k+1))
        case measure=>omega
        case rel=>exact⟨k+1,by omega,rfl,by go_num,by rw[Q.out,G.out,N.out],l.alloc (l.size) _⟩
      ·have M:∀X:Bool,(lB a t||(RS.meets a t (c.ay.take k)||X))=true:=by
        intro X;rw[<- Bool.or_assoc,m,Bool.true_or]
       have G:Hid (∀X:Bool,(lB a t||(RS.meets a t (c.ay.take k)||X))=true):=M;clear M;go_wp2;go_roundg (c.ay.length-(k+1))
       case measure=>omega
       case rel=>exact⟨k+1,by omega,rfl,by go_num,by rw[Q.out,G.out],l.alloc (l.size) _⟩
     ·have e1:k=c.ay.length:=by omega
      have c5:c.ay.take k=c.ay:=by rw[e1,mi]
      rw[c5,Oc];clear c5 e1;have a8:=(B.below l).1;have b5:=e8.trans (B.below l).2
      go_upto_if 77 with fail
      clear A x R S U c3 I J V W Y Z d4 d5
      go_cut [7,8] (fun _ _ n=>∃f:RS,Hid (rS s f)/\Hid (f=if RS.dy a t c.ay=true then c.fail 5 p else c)/\fE n base b T f/\e5 base w n)
      case first =>
       cases m:RS.dy a t c.ay
       ·go_wp2_with fail;go_meet;exact⟨c,E,by show c=ite _ _ _;rw[m];rfl,a8,b5⟩
       ·go_wp2_with fail;refine(gN base b T c 5 p _ a8 (by omega)).mono ?_;rintro j1 k2 ⟨rfl,q,b6⟩;go_wp2_with fail;go_meet;exact⟨c.fail 5 p,E.out.fail _ _ (by omega),by show c.fail 5 p=ite _ _ _;rw[m];rfl,q,b5.trans b6⟩
      case rest =>
       obtain⟨F,h3⟩:∃F,F=wc:=⟨wc,rfl⟩;subst h3;obtain⟨f,g3,g9,q,b6⟩:=hcut;clear B a8 e8 b5 l;obtain⟨b7,g0,e9,A,x,R,S,U,c3,I,J,V,W,Y,Z⟩:=q.cells;obtain⟨i5,i6,rfl⟩:=cw x.1;obtain⟨a5,a6,rfl⟩:=cw x.2.1;have j5:f.aa.length<=6:=q.2.2.2.1.2.1;have j7:f.ay.length<=1001:=by have:=q.2.2.2.1.2.2.1;have:=q.2.2.2.1.1;have:=q.2.2.1;omega
       have b0:b<F.heap.size:=(dE.1 A).1;have j3:base<=b:=q.2.1;have b8:Hid (F.ownsRow base 197 3 (.slice a5 f.ay.length a6) f.ay.length (cL f.ay)):=x.2.1;have j8:IntKind.i64.wrap ((f.aa.length:Int)-1)=(f.aa.length:Int)-1:=IntWalk.i64_in _ ⟨by omega,by omega⟩;go_wp2
       go_region_law (refine yf rfl (.tmp 85) (.tmp 95) 31 rfl base 197 (.agg #[.int .i64 0,.int .i64 0,.int .i64 0]) 3 24 Tryz.K0 Tryz.MW rfl (by decide) (.slice a5 f.ay.length a6) f.ay.length (cL f.ay) rfl (by exact b8.out.alloc _) F.heap.size 1 [.int .i64 a,.int .i64 t,.int .i64 ((f.aa.length:Int)-1)] rfl rfl (by exact aw _ _) (by intro u hu;simp at hu;rcases hu with rfl|rfl|rfl<;>rfl) (by omega) (by omega) (by simp;omega) ?_;intro j9 w' e3 hg;obtain⟨c2,c4,h0⟩:=cw e3;subst h0;have c7:=mO hg A (by exact(((aB _ _).alloc (ar _) _)).drew) (by exact b8.out.alloc _) (by decide);have j0:=ab c7 5 _ rfl;have j2:=aq c7)
       all_goals go_wp2
       all_goals go_end0
       all_goals
        have g8:hW 197 5 base b (.slice a5 f.ay.length a6) (.slice c2 (f.ay.length+1) c4) F _ w' (w'.setCell ⟨b,5,none⟩ (.slice c2 (f.ay.length+1) c4)):=⟨((aB _ _).alloc (ar _) _).drew,hg,rfl,rfl,rfl,rfl⟩;have e0:=q.J7 (o:=(a,t,(f.aa.length:Int)-1)) A x g8 e3 (E2 g7.out g2.out q.2.2.2.1 g3.out);have g6:s.span T={ f with ay:=f.ay++[(a,t,(f.aa.length:Int)-1)] }:=by
         rw[H.out];unfold RS.bR;simp only;rw[<- g9.out]
        exact⟨rfl,by rw[g6];exact e0.1,b6.trans e0.2⟩
end Go.Proofs.YtodagkkjfipbgaaGreatDoor
