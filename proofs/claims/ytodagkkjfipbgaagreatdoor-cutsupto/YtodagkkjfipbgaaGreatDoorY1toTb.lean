import Derived.Test.YtodagkkjfipbgaaGreatDoorRows
import Derived.ProofKit
import Derived.LaidLaws
import Derived.Lay
import Derived.LaidOnce
import Derived.OpenShut
import Derived.ChangeSame
import Derived.SizedLaws
import Derived.Stop.LaidErr
import Derived.Lib.LaidU8
import Derived.SliceStrings
import Derived.Test.YtodagkkjfipbgaaGreatDoorA30toY0
set_option maxRecDepth 100000
set_option maxHeartbeats 8000000
namespace Go.Proofs.YtodagkkjfipbgaaGreatDoor
open Go.RowKit Go.Maps Go.Lib Go.Proofs.Tryz
def R5(g:List (List (Nat×Nat)))(l:List Nat):List Nat:=l.flatMap fun x=>(fY g x).filterMap fun e=>if e.1=0 then some e.2 else none
def QW(n:Nat)(l:List Nat):List Nat:=(List.range n).filter fun x=>l.contains x
def Ik(g:List (List (Nat×Nat))):Nat->List Nat->List Nat
 | 0,l=>l
 | f+1,l=>Ik g f (QW g.length (l++R5 g l))
def JL(g:List (List (Nat×Nat)))(l:List Nat)(k:Nat):List Nat:=l.flatMap fun x=>(fY g x).filterMap fun e=>if e.1.testBit k then some e.2 else none
def Ri(g:List (List (Nat×Nat)))(first:Nat)(l:List Nat)(k:Nat):List Nat:=Ik g g.length (first::JL g l k)
def OM(g:List (List (Nat×Nat)))(a l:List Nat):Bool:=(R5 g l).all (l.contains ·)&&a.all (l.contains ·)
def PI(g:List (List (Nat×Nat)))(first:Nat)(a:List Nat):Nat->List (List Nat)->List (List Nat)
 | 0,F=>F
 | n+1,F=>PI g first a n (F++(F.flatMap fun l=>a.map (Ri g first l)).filter fun l=>!F.contains l)
def ON(g:List (List (Nat×Nat)))(first b:Nat)(a:List Nat)(F:List (List Nat))(p:Nat->Bool):Bool :=
 OM g [first] (Ik g g.length [first])&&F.contains (Ik g g.length [first])&&F.all fun l=>a.all fun k=>OM g (first::JL g l k) (Ri g first l k)&&F.contains (Ri g first l k)&&((Ri g first l k).contains b==p k)
def RB(a:List Nat)(L:bw)(pl pr:Nat->Bool):Bool :=
 ON (av true L.SL) L.fL 0 a (PI (av true L.SL) L.fL a 6 [Ik (av true L.SL) (av true L.SL).length [L.fL]]) pl&&ON (av false L.SR) 0 L.fR a (PI (av false L.SR) 0 a 6 [Ik (av false L.SR) (av false L.SR).length [0]]) pr
def MF(s:ai):Prop:=∀i,i<s.size->mw s i<128
theorem Cy(s:ai)(p:Nat)(h:p<s.size):(s.extract p s.size).get! 0=s.get! p:=by
 rw[Utf8W.get!_of_lt s p h,Utf8W.get!_of_lt (s.extract p s.size) 0 (by rw[ek];omega)];simp[ByteArray.getElem_extract]
theorem decode_ascii{s:ai}(h1:1<=s.size)(h:mw s 0<128):decodeGo s=(mw s 0,1):=by
 unfold decodeGo;rw[ae (by omega),decode_at];have a:(s.get! 0).toNat<128:=h;unfold decodeN;rw[ag a];rfl
def RY(l:List (Int×Int×Nat))(c:Nat):Nat:=match l.find? fun o=>decide (o.1<=(c:Int))&&decide ((c:Int)<=o.2.1)with
 | some o=>o.2.2
 | none=>6
def z8(l:List (Int×Int×Nat))(kf:Nat->Nat):Bool:=(List.range 128).all fun c=>(l.all fun o=>!(decide (o.1<=(c:Int))&&decide ((c:Int)<=o.2.1))||o.2.2==kf c)&&(l.any (fun o=>decide (o.1<=(c:Int))&&decide ((c:Int)<=o.2.1))||kf c==6)
theorem KT{L l:List (Int×Int×Nat)}{kf:Nat->Nat}(i:L.Perm l)(h:z8 l kf=true){c:Nat}(hc:c<128){k:Nat}(m:ku L (c:Int) k):k=kf c:=by
 unfold z8 at h;simp only[List.all_eq_true,ja,gA]at h;obtain⟨h1,d⟩:=h c hc;rcases m with⟨o,g,a,b,e⟩|⟨n,e⟩
 ·have f:=h1 o (i.mem_iff.1 g);rw[cG a,cG b]at f;simp at f;rw[<- e,f]
 ·have j:(l.any fun o=>decide (o.1<=(c:Int))&&decide ((c:Int)<=o.2.1))=false:=by
   rw[List.any_eq_false];intro o g;have:=n o (i.mem_iff.2 g);simp only[gA,e1];exact this
  rw[j]at d;simp at d;rw[e,d]
theorem C4{L l:List (Int×Int×Nat)}{kf:Nat->Nat}(j:L.Perm l)(h:z8 l kf=true){s:ai}(m:MF s){p:Nat}{b ns:List Nat}(hc:c8 L s p b ns):b=(List.range p).map (fun i=>kf (mw s i))/\ns=List.replicate p 1:=by
 induction hc with
 | nil=>exact⟨rfl,rfl⟩
 | @snoc p b ns k n hc d a f =>
  have hb:mw (s.extract p s.size) 0=mw s p:=by unfold mw;rw[Cy s p d]
  have c:=m p d;have hd:decodeGo (s.extract p s.size)=(mw s p,1):=by rw[decode_ascii (by rw[ek];omega) (by rw[hb];exact c),hb]
  unfold k6 at a;rw[hd]at a;rcases a with⟨e,_⟩|⟨_,rfl,g⟩
  ·simp only at e;omega
  ·have e:=KT j h c g;refine⟨?_,?_⟩
   ·show _=(List.range (p+1)).map _;rw[f.1,List.range_succ,c9,e];rfl
   ·show _=List.replicate (p+1) 1;rw[f.2,List.replicate_succ']
def LH(f:Nat->Nat->Bool)(s:ai)(i:Nat):Bool:=if i+1<s.size then f (mw s i) (mw s (i+1))else true
theorem DD{T s:ai}{L:List (Int×Int×Nat)}{told:List ai}{kf:Nat->Nat}(t:L.Perm (bx T).l)(r:z8 (bx T).l kf=true)(o:MF s)(h:n4 T s L told)(f:Nat->Nat->Bool) (p:∀J:List PR,Mw (cv T).2 J->∀(g:List Nat) (i a b:Nat),(∀k∈g,∃c,c<128/\k=kf c)->g[i]?=some a->g[i+1]?=some b->(dM J g)[i+1]?=some (f a b)):told=(pa s (LH (fun x y=>f (kf x) (kf y)) s) s.size).2:=by
 obtain⟨J,g,ns,d,hc,rfl⟩:=h;obtain⟨rfl,rfl⟩:=C4 t r o hc;rw[List.length_replicate,JK s (c:=LH (fun x y=>f (kf x) (kf y)) s) (n:=s.size) ?_ s.size (ar _)];intro i hi;have m:∀j,j<s.size->((List.range s.size).map fun i=>kf (mw s i))[j]?=some (kf (mw s j)):=fun j d=>zc (fun _=>true) d |> fun _=>by rw[cV,je d];rfl
 unfold LH
 by_cases e:i+1<s.size
 ·rw[ag e];refine p J d _ i _ _ (fun k q=>?_) (m i hi) (m (i+1) e);obtain⟨j,d,rfl⟩:=aN.1 q;exact⟨_,o j (ja.1 d),rfl⟩
 ·rw[ae e];have:=oJ J ((List.range s.size).map fun i=>kf (mw s i));rw[b5,List.length_range]at this;rw[show i+1=s.size from by omega];exact this
theorem rD(d bb:Nat)(e f:Value)(l:List ai)(w:World)(b:w.ownsRow d 9 1 e l.length (strCells l))(hb:w.ownsRow bb 9 1 f l.length (strCells l))(B:l.length<=2200000):Calls prog 20 #[e,f] w fun r w'=>r=.returned (.bool true)/\Below w.heap.size w w':=by
 obtain⟨k,n,rfl⟩:=ak b;obtain⟨m,o,rfl⟩:=ak hb;have h:Hid (w.ownsRow d 9 1 (.slice k l.length n) l.length (strCells l)):=b;have j:Hid (w.ownsRow bb 9 1 (.slice m l.length o) l.length (strCells l)):=hb;clear b hb;go_enter func20,ntmps20;go_wp2_with fail
 go_loopg [5] l.length (fun p y z=>∃i:Nat,i<=l.length/\p=l.length-i/\y=.int .i64 i/\Hid (Below w.heap.size w z))
 case atStart=>exact⟨0,aJ _,rfl,rfl,aB _ _⟩
 case round =>
  obtain⟨i,hi,rfl,rfl,a⟩:=hrel;obtain⟨g,v⟩:∃g,g=wr:=⟨wr,rfl⟩;subst v
  by_cases s:i<l.length
  ·obtain⟨x,c⟩:∃x,l[i]?=some x:=⟨l[i],ax s⟩;obtain⟨q,t,_,hc⟩:=cu (al h.out (Kp.below a.out)) (q4 c) (by omega);subst t;obtain⟨C,u,_,A⟩:=cu (al j.out (Kp.below a.out)) (q4 c) (by omega);subst u;clear c;go_wp2_with fail;go_quiet (fail);go_wp2_with fail;go_roundg (l.length-(i+1))
   case measure=>omega
   case rel=>exact⟨i+1,by omega,rfl,by go_num,hy a.out _⟩
  ·obtain rfl:i=l.length:=by omega
   go_wp2_with fail;go_ret;exact⟨rfl,a.out⟩
theorem M0{L:List (Int×Int×Nat)}{told:List ai}(g:L.Perm (bx ⟨#[]⟩).l)(h:n4 ⟨#[]⟩ ⟨#[97,98]⟩ L told):told=[⟨#[97]⟩,⟨#[98]⟩]:=by
 have c:(cv ⟨#[]⟩).2=[]:=by kernel_rfl
 have d:MF ⟨#[97,98]⟩:=fun i hi=>by
  have k:i<2:=hi;rcases i with _|_|i
  ·decide
  ·decide
  ·omega
 rw[DD (kf:=fun _=>6) g (by kernel_rfl) d h (fun _ _=>true) fun J e j i a b _ _ hb=>by
  have f:J=[]:=by
   have:=e.1;rw[c]at this;exact hj this
  rw[f];show (List.replicate (j.length+1) true)[i+1]?=some true;have:=(a1.1 hb).1;rw[fj,ag (by omega)]]
 show (pa _ _ _).2=_
 kernel_rfl
theorem kX{w w':World}{g:Nat}{T:ai}{a c d b e:Value}{L:List (Int×Int×Nat)}(h:mb w g T a c d b e L)(hb:Below w.heap.size w w'):mb w' g T a c d b e L :=
 ⟨(hb.block _ (an h.da)).trans h.da,h.perm,h.row,al h.bP (Kp.below hb),h.OJ.kp (Kp.below hb) (Kp.below hb),h.out.below hb,h.ok,h.iL,h.ay⟩
theorem IF(w:World)(e:hV w):Calls prog 50 #[] w fun r w'=>r=.returned (.bool true)/\Below w.heap.size w w':=by
 have u:Hid (hV w):=e;have t:=Jj w e.oF;clear e;go_enter func50,ntmps50;go_wp2_with fail;refine t.mono ?_;rintro r h ⟨rfl,b1⟩;have n:Hid (hV h):=u.out.below b1;have i:Hid (Below w.heap.size w h):=b1;have hc:=kQ ⟨#[]⟩ h n.out.oF (by decide);clear t b1;go_wp2_with fail;refine hc.mono ?_;rintro r b ⟨b2,v2,rfl,p,-⟩;obtain⟨g,z,B,C,A,D,L,rfl,_,d⟩:=p io.1;have o:Hid (hV b):=n.out.below b2;have j:Hid (Below w.heap.size w b):=i.out.trans (b2.mono i.out.size);have hcut:=Ay b g ⟨#[]⟩ ⟨#[97,98]⟩ z B C A D L d o.out.Ql o.out.low (by decide);have m:Hid (L.Perm (bx ⟨#[]⟩).l):=d.perm;rw[io.1,io.2];clear p hc d b2;go_wp2_with fail;refine hcut.mono ?_;rintro r w3 ⟨⟨v3,told,rfl,q,f⟩,b3⟩;obtain rfl:=M0 m.out q;obtain⟨E,F,rfl⟩:=ak f;have k:Hid (Below w.heap.size w w3):=j.out.trans (b3.mono j.out.size);obtain⟨W4,a⟩:∃W4,W4=w3.alloc (.cells #[.string ⟨#[97]⟩,.string ⟨#[98]⟩] 9):=⟨_,rfl⟩;have v:Hid (W4=w3.alloc (.cells #[.string ⟨#[97]⟩,.string ⟨#[98]⟩] 9)):=a;have c:Below w3.heap.size w3 W4:=by rw[a];exact af w3 _
 have B4:Hid (Below w.heap.size w W4):=k.out.trans (c.mono k.out.size);have s:W4.ownsRow 0 9 1 (.slice (some ⟨w3.heap.size,0,none⟩) 2 2) [(⟨#[97]⟩:ai),⟨#[98]⟩].length (strCells [⟨#[97]⟩,⟨#[98]⟩]):=by
  rw[a];exact⟨rfl,ac ⟨w3.heap.size,2,#[.string ⟨#[97]⟩,.string ⟨#[98]⟩],rfl,aJ _,aw w3 _,ar _,by decide,rfl,rfl⟩⟩
 have y:=rD b.heap.size 0 _ _ [⟨#[97]⟩,⟨#[98]⟩] W4 (al f (Kp.below c)) s (by decide);clear hcut q f b3 a c s m;go_wp2_with fail;rw[<- v.out];refine y.mono ?_;rintro r G ⟨rfl,x⟩;go_wp2_with fail;go_ret;exact⟨rfl,B4.out.trans (x.mono B4.out.size)⟩
theorem Ba{w w':World}(h:jl w)(hb:Below w.heap.size w w'):jl w':=(hb.cell (p:=⟨1,2,none⟩) (gP h)).trans h
def AR(T:ai)(w:World)(b:Nat):Prop:=∃c S a,xA T w b c S a
theorem xR{T:ai}{w w':World}{v:Value}(h:vn T w v)(hb:Below w.heap.size w w'):vn T w' v:=by
 obtain⟨g,a,c,d,b,f,L,e,h⟩:=h;exact⟨g,a,c,d,b,f,L,e,kX h hb⟩
theorem zy{T:ai}{w w':World}{b:Nat}(h:AR T w b)(hb:Below w.heap.size w w'):AR T w' b:=by
 obtain⟨c,S,a,h⟩:=h;exact⟨c,S,a,h.aY hb⟩
theorem AB(T:ai)(w:World)(l:hV w)(t:jl w)(s:T.size<=140737488351232):Calls prog 18 #[.string T] w fun r w'=>(∃v b,r=.returned (.tuple #[v,.pointer (some ⟨b,0,none⟩),.bool true])/\((kJ T).err=0->vn T w' v/\AR T w' b)/\((kJ T).err≠0->v=.pointer none))/\Below w.heap.size w w':=by
 have E:Hid (hV w):=l;have o:Hid (jl w):=t;have u:=IF w l;clear l t;go_enter func18,ntmps18;go_wp2_with fail;refine u.mono ?_;rintro r B ⟨rfl,b1⟩;have m:Hid (Below w.heap.size w B):=b1;have x:=kQ T B (E.out.below b1).oF s;clear u b1;go_wp2_with fail;refine x.mono ?_;rintro r a ⟨b2,N,rfl,h1,k⟩;have c:Hid (Below w.heap.size w a):=m.out.trans (b2.mono m.out.size);have F:1<a.heap.size:=cI (gP o.out) c.out.size;have z:=J3 T a _ rfl (Ba o.out c.out) F s;have f:Hid ((RS.read T).err=(kJ T).err):=(Ph T).1.symm;have i:Hid ((kJ T).err=0->T.size<=1000):=fun h=>(tA h).1
 clear x b2;go_wp2_with fail;refine z.mono ?_;rintro r w3 ⟨rfl,j,-,b3,A⟩;have d:Hid (Below a.heap.size a w3):=b3;have n:Hid (T.size<=1000->fE w3 a.heap.size a.heap.size T (RS.read T)):=A;rw[f.out]at j;clear z b3 A
 by_cases h0:(kJ T).err=0
 ·obtain⟨g,H,J,K,I,M,L,rfl,_,q⟩:=h1 h0;have D:Hid (vn T w3 (.pointer (some ⟨g,0,none⟩))):=⟨g,H,J,K,I,M,L,rfl,kX q d.out⟩;have C:Hid (AR T w3 a.heap.size):=Pf (i.out h0) (f.out.trans h0) (n.out (i.out h0));have e:Hid ((kJ T).err=0):=h0;rw[h0]at j ⊢;clear h1 k q h0;go_wp2_with fail;go_quiet ((go_at_call 17;exact Calls.quiet_of_same (Ko _ _)));go_wp2_with fail
  go_ret3
  exact⟨⟨_,_,rfl,fun _=>⟨xR D.out (hy (aB _ _) _),zy C.out (hy (aB _ _) _)⟩,fun h=>absurd e.out h⟩,c.out.trans ((hy d.out _).mono c.out.size)⟩
 ·obtain rfl:=k h0;have G:((kJ T).err==0)=false:=by rw[aO];exact h0
  have e:Hid ((kJ T).err≠0):=h0;clear h1 k h0;obtain⟨p,y⟩:∃p,p=(kJ T).err:=⟨_,rfl⟩;rw[<- y]at j G ⊢;clear y n i f;go_wp2_with fail;go_quiet ((go_at_call 17;exact Calls.quiet_of_same (Ko _ _)));go_wp2_with fail
  go_ret3
  exact⟨⟨_,_,rfl,fun h=>absurd h e.out,fun _=>rfl⟩,c.out.trans ((hy d.out _).mono c.out.size)⟩
theorem LY{w:World}{a:Addr}{v:Value}(h:w.cell? a=some v):a.block<w.heap.size:=by
 unfold World.cell? at h;cases b:w.heap[a.block]? with
 | none=>rw[b]at h;simp at h
 | some x=>exact(dE.1 b).1
def E9(w:World)(v:Value)(P:List ai):Prop:=(v=.slice none 0 0/\P=[])\/∃a au,v=.slice (some a) P.length au/\∀(i:Nat) (s:ai),P[i]?=some s->w.cell? (a.add i)=some (.string s)
theorem E9.shape{w:World}{v:Value}{P:List ai}(h:E9 w v P):∃d au,v=.slice d P.length au:=by
 rcases h with⟨rfl,rfl⟩|⟨a,au,rfl,_⟩
 ·exact⟨none,0,rfl⟩
 ·exact⟨_,au,rfl⟩
theorem E9.at{w w':World}{d:Option Addr}{n au:Nat}{P:List ai}(h:E9 w (.slice d n au) P)(hb:Below w.heap.size w w'){i:Nat}{s:ai}(g:P[i]?=some s):∃a,d=some a/\w'.cell? (a.add i)=some (.string s):=by
 rcases h with⟨_,rfl⟩|⟨a,c,e,hc⟩
 ·simp at g
 ·injection e with e _ _
  subst e;have h1:=hc i s g;exact⟨a,rfl,(hb.cell (p:=a.add i) (LY h1)).trans h1⟩
theorem L2(w:World):fg (w.alloc (.cells #[.slice none 0 0] 42)) w.heap.size (w.alloc (.cells #[.slice none 0 0] 42)).heap.size w.heap.size 0 :=
 ⟨ar _,.slice none 0 0,[],aw w _,cq _ _ _ _,fun i u h=>by simp at h⟩
theorem Gp(T:ai)(v:Value)(P:List ai)(w:World)(O:hV w)(a7:jl w)(N:E9 w v P)(g2:T.size<=140737488351232)(h6:P.length<=1500000)(b7:∀s∈P,s.size<=1048576):Calls prog 4 #[.string T,v] w fun r w'=>r=.returned (.bool true)/\Below w.heap.size w w':=by
 obtain⟨e8,e9,rfl⟩:=N.shape;have a1:Hid (E9 w (.slice e8 P.length e9) P):=N;have e2:Hid (hV w):=O;have e0:Hid (∀s∈P,s.size<=1048576):=b7;have Q:=AB T w O a7 g2;clear N O a7 b7;go_enter func4,ntmps4;go_wp2_with fail;refine Q.mono ?_;rintro r a ⟨⟨h7,b,rfl,h1,M⟩,b1⟩;have D:Hid (Below w.heap.size w a):=b1
 by_cases p:(kJ T).err=0
 ·obtain⟨⟨g,u,y,z,x,A,L,rfl,a5⟩,V,S,G,a6⟩:=h1 p;have c8:Hid (mb a g T u y z x A L):=a5;have c5:Hid (xA T a b V S G):=a6;obtain⟨W2,q⟩:∃W2,W2=a.alloc (.cells #[.slice none 0 0] 42):=⟨_,rfl⟩;have e3:Hid (W2=a.alloc (.cells #[.slice none 0 0] 42)):=q;have c3:Hid (fg W2 a.heap.size W2.heap.size a.heap.size 0):=by rw[q];exact L2 a
  have c0:Hid (Below a.heap.size a W2):=by rw[q];exact af a _
  obtain⟨c,a8⟩:∃c,c=a.heap.size:=⟨_,rfl⟩;have j:Hid (c=a.heap.size):=a8;clear Q h1 M b1 a5 a6 p q a8;go_wp2_with fail;rw[<- e3.out,<- j.out]
  go_loopg [9] P.length (fun g0 g8 Y=>∃i:Nat,i<=P.length/\g0=P.length-i/\g8=.int .i64 i/\Hid (fg Y c Y.heap.size c i)/\Hid (Below c a Y))
  case atStart=>exact⟨0,aJ _,rfl,rfl,by have:=c3.out;rw[<- j.out]at this;exact this,by have:=c0.out;rw[<- j.out]at this;exact this⟩
  case round =>
   obtain⟨i,hi,rfl,rfl,g1,a4⟩:=hrel;obtain⟨w3,g7⟩:∃w3,w3=wr:=⟨wr,rfl⟩;subst g7;have m:Hid (Below a.heap.size a w3):=by have:=a4.out;rw[j.out]at this;exact this
   have f:Hid (mb w3 g T u y z x A L):=kX c8.out m.out;have h:Hid (Below w.heap.size w w3):=D.out.trans (m.out.mono D.out.size);have n:Hid (hV w3):=e2.out.below h.out
   by_cases g6:i<P.length
   ·obtain⟨s,t⟩:∃s,P[i]?=some s:=⟨P[i],ax g6⟩;have F:Hid (s.size<=1048576):=e0.out s (bC t);obtain⟨h2,g3,hc⟩:=a1.out.at h.out t;have c7:Hid (P[i]?=some s):=t;have hcut:=Ay w3 g T s u y z x A L f.out n.out.Ql n.out.low (by have:=F.out;omega);subst g3;clear t;go_wp2_with fail;refine hcut.mono ?_;rintro r e ⟨⟨v4,told,rfl,k,l⟩,b4⟩;have c4:Hid (n4 T s L told):=k;have e1:Hid (told.length<=s.size):=(vv f.out.ay.2 k).2.2;have c9:Hid (e.ownsRow w3.heap.size 9 1 v4 told.length (strCells told)):=l;have B4:Hid (Below w3.heap.size w3 e):=b4;have b9:Hid (Below w.heap.size w e):=h.out.trans (b4.mono h.out.size);have c1:Hid (Below a.heap.size a e):=m.out.trans (b4.mono m.out.size);have d:Hid (xA T e b V S G):=c5.out.aY c1.out;obtain⟨H,K,rfl⟩:=ak l;obtain⟨h3,g4,g5⟩:=a1.out.at b9.out c7.out;cases g4;have b3:=D2 e b V S G s d.out.ay d.out.rules d.out.fit d.out.iL d.out.low d.out.four F.out;clear hcut k l b4 hc;go_wp2_with fail;refine b3.mono ?_;rintro r W ⟨v5,g9,rfl,b5,R,I⟩;obtain rfl:told=g9:=GQ d.out.low.1 (d.out.same L f.out.perm) f.out.row f.out.ay.2 d.out.trees f.out.ok c4.out b5;have Z:Hid (Below w3.heap.size w3 W):=B4.out.trans (I.mono B4.out.size);have a2:Hid (W.ownsRow w3.heap.size 9 1 (.slice H told.length K) told.length (strCells told)):=al c9.out (Kp.below I);have b8:told.length<=1048576:=aE e1.out F.out;have b6:=rD w3.heap.size e.heap.size _ _ told W a2.out R (by omega);obtain⟨h4,h5,rfl⟩:=ak R;clear b3 b5 R I g5;go_wp2_with fail;refine b6.mono ?_;rintro r B ⟨rfl,J⟩;have E:Hid (Below w3.heap.size w3 B):=Z.out.trans (J.mono Z.out.size);have e7:Hid (B.ownsRow w3.heap.size 9 1 (.slice H told.length K) told.length (strCells told)):=al a2.out (Kp.below J);have e4:Hid (fg B c w3.heap.size c i):=g1.out.below E.out;have a9:c<=w3.heap.size:=by rw[j.out];exact m.out.size
    have b0:=KW B c w3.heap.size c i told.length _ (strCells told) e4.out e7.out E.out.size a9 (by omega) (by omega);clear b6 J;go_wp2_with fail;refine b0.mono ?_;rintro r C ⟨rfl,U,a3⟩;have e5:Hid (fg C c C.heap.size c (i+1)):=U;have a0:Hid (Below c a C):=(a4.out.trans (E.out.mono a9)).trans a3;have b2:=HE C c _ c (i+1) U (by omega);clear b0 U a3;go_wp2_with fail;refine b2.mono ?_;rintro r X ⟨rfl,o⟩;have e6:Hid (fg X c X.heap.size c (i+1)):=(e5.out.below o).up o.size;have c2:Hid (Below c a X):=a0.out.trans (o.mono (by rw[j.out];exact a0.out.size));clear b2 o;go_wp2_with fail;go_roundg (P.length-(i+1))
    case measure=>omega
    case rel=>exact⟨i+1,by omega,rfl,by go_num,e6,c2⟩
   ·obtain rfl:i=P.length:=by omega
    have hcut:=Ay w3 g T ⟨#[]⟩ u y z x A L f.out n.out.Ql n.out.low (by decide);go_wp2_with fail;refine hcut.mono ?_;rintro r e ⟨⟨v4,told,rfl,k,l⟩,b4⟩;have b8:told.length=0:=by
     have:=(vv f.out.ay.2 k).2.2;have h0:(⟨#[]⟩:ai).size=0:=rfl;omega
    obtain⟨H,K,rfl⟩:=ak l;have B4:Hid (Below w.heap.size w e):=h.out.trans (b4.mono h.out.size);rw[b8];clear hcut k l b4;go_wp2_with fail;go_ret;exact⟨rfl,B4.out⟩
 ·obtain rfl:=M p;clear Q h1 M b1 p;go_wp2_with fail;go_ret;exact⟨rfl,D.out⟩
end Go.Proofs.YtodagkkjfipbgaaGreatDoor
namespace Go.Proofs.YtodagkkjfipbgaaGreatDoor
open Go.ChangeShapes Go.WideShapes Go.ChangeAt Go.RowKit Go.Proofs.Tryz
theorem Sa:(prog.globals[0]?).map (·.type)=some 171:=by kernel_rfl
theorem KP{n:String}{r:List (String×DataW Unit)}{W:World}(h:laidMet prog ((n,Rows.laid_cleave_kinds_surrogates)::r) W)(d:prog.globalNamed n=some 0):W.cell? ⟨0,0,none⟩=some (.int .i32 55296)/\W.cell? ⟨0,1,none⟩=some (.int .i32 57343):=by
 obtain⟨ps,⟨g0,t0,p,f0,A,B,t,u,i,s,_,z⟩,_,_⟩:=h;obtain rfl:=g8 (d.symm.trans t);obtain rfl:=g8 (Sa.symm.trans u);have k:prog.cellsOf 21=1:=by kernel_rfl
 obtain⟨C,D,m,q,g,h0,h1⟩:=trod_struct2 Tryz.underlying171 s;have o:prog.cellsOf 171=2:=by kernel_rfl
 rw[o]at g;have c:=(Prod.mk.inj q).1;unfold Rows.laid_cleave_kinds_surrogates at c;injection c with c
 injection c with e c
 injection c with f _
 simp only[k]at h0 h1;obtain⟨a,a0,j,_⟩:=DataW.trod_int Tryz.underlying21 h0;obtain⟨b,b0,b1,_⟩:=DataW.trod_int Tryz.underlying21 h1;rw[j]at e;rw[b1]at f;have v:a=55296:=by simpa using e.symm
 have w:b=57343:=by simpa using f.symm
 subst v;subst w;obtain⟨l⟩:=p
 match l,g with
 | [x,y],_ =>
  simp at a0 b0;subst a0;subst b0;exact⟨by rw[World.var?_cell d i 0];rfl,by rw[World.var?_cell d i 1];rfl⟩
theorem RE:ownKnob prog.godebug=none:=by kernel_rfl
theorem RK : prog.globalNamed "strconv.ErrSyntax" = some 6 := by kernel_rfl
theorem RL : prog.globalNamed "strconv.ErrRange" = some 7 := by kernel_rfl
theorem Rq:(prog.globals[6]?).map (·.type)=some 332:=by kernel_rfl
theorem Rr:(prog.globals[7]?).map (·.type)=some 332:=by kernel_rfl
theorem rE{n o:String}{d:DataW Unit}{r:List (String×DataW Unit)}{W:World}{g:Nat}{b:TypeId}{m:Array (String×TypeId)} (h:laidMet prog ((n,.iface o d)::r) W) (hg:prog.globalNamed n=some g) (i:(prog.globals[g]?).map (·.type)=some b) (hi:prog.underlying b=some (.interface m)):∃u v,W.cell? ⟨g,0,none⟩=some (.iface u v):=by
 obtain⟨ps,⟨g0,t0,c,f0,q,s,f,j,k,e,_,p⟩,_,_⟩:=h;obtain rfl:=g8 (hg.symm.trans f);obtain rfl:=g8 (i.symm.trans j);obtain⟨_,u,v,a,_,_⟩:=iface_of_trod hi e;refine⟨u,v,?_⟩;rw[World.var?_cell hg k 0];obtain⟨l⟩:=c;simp at a;subst a;rfl
theorem R9:U8Extra prog Tryz.laysDec_ren:=⟨by kernel_rfl,by kernel_rfl,by kernel_rfl,by kernel_rfl,by kernel_rfl,by kernel_rfl,by kernel_rfl⟩
theorem NU:Rows.laid_unicode_utf8_first=Lib.firstData:=by kernel_rfl
theorem Mm:Rows.laid_unicode_utf8_acceptRanges=Lib.acceptData:=by kernel_rfl
theorem I9 {l : List (String × DataW Unit)} {W : World} (h : laidMet prog l W) (h1 : ("unicode/utf8.first", Rows.laid_unicode_utf8_first) ∈ l) (b : ("unicode/utf8.acceptRanges", Rows.laid_unicode_utf8_acceptRanges) ∈ l):Lib.Utf8Tabs 2 3 W/\(2<W.heap.size/\3<W.heap.size):=by
 rw[NU]at h1;rw[Mm]at b;have a:=utf8Tabs_of_reads { Tryz.laysDec with } R9 (Lib.laidMet.reads h h1) (Lib.laidMet.reads h b);rw[show Tryz.laysDec_ren.g 3=2 from by kernel_rfl,show Tryz.laysDec_ren.g 4=3 from by kernel_rfl]at a;exact⟨a,gP (a.1 0 (by omega)),gP (a.2 0 (by omega)).1⟩
theorem GN {W : World} {a b c : String × DataW Unit} {l : List (String × DataW Unit)} (h : laidMet prog (a :: b :: c :: ("unicode/utf8.acceptRanges", Rows.laid_unicode_utf8_acceptRanges) :: ("cleave/kinds.surrogates", Rows.laid_cleave_kinds_surrogates) :: ("strconv.ErrRange", Rows.laid_strconv_ErrRange) :: ("strconv.ErrSyntax", Rows.laid_strconv_ErrSyntax) :: ("unicode/utf8.first", Rows.laid_unicode_utf8_first) :: l) W) : hV W := by
 have d:=I9 h (bC (i:=7) rfl) (bC (i:=3) rfl);exact⟨⟨rE h.tail.tail.tail.tail.tail.tail RK Rq Tryz.underlying332,rE h.tail.tail.tail.tail.tail RL Rr Tryz.underlying332,KP h.tail.tail.tail.tail (by kernel_rfl)⟩,d.1,d.2⟩
end Go.Proofs.YtodagkkjfipbgaaGreatDoor
namespace Go.Proofs.YtodagkkjfipbgaaGreatDoor
open Go.ChangeShapes Go.RowKit Go.Proofs.Tryz
theorem Iv{H:Type}:∀l:List ai,Rows.uptoBulkAll (strs (H:=H) l)=(oi l).size+l.length:=by
 intro l;rw[wD]
 induction l with
 | nil=>rfl
 | cons s l b =>
  have e:Rows.uptoBulkAll (strs (H:=H) (s::l))=s.data.toList.length+1+Rows.uptoBulkAll (strs (H:=H) l):=rfl;have a:s.data.toList.length=s.size:=Array.length_toList;rw[e,b,a];simp;omega
theorem Tryz.LX:prog.cellsOf 9=1:=by kernel_rfl
end Go.Proofs.YtodagkkjfipbgaaGreatDoor
