import Derived.Laws.CopyRow
import Derived.Laws.CopyOwn
import Derived.Laws.Externs
import Derived.Lib.Overlaps
import Derived.Lib.AppendZerosOnto
import Derived.Test.YtodagkkjfipbgaaGreatDoorV7toU
import Derived.Test.YtodagkkjfipbgaaGreatDoorShlone
import Derived.Test.YtodagkkjfipbgaaGreatDoorSh4lone
set_option maxRecDepth 100000
set_option maxHeartbeats 8000000
namespace Go.Proofs.YtodagkkjfipbgaaGreatDoor
open Go.RowKit Go.Proofs.Tryz
theorem gP{w:World}{b o:Nat}{v:Value}(h:w.cell? ⟨b,o,none⟩=some v):b<w.heap.size:=by
 rcases cF b w.heap.size with h1|h1
 ·exact h1
 ·exfalso;have:w.heap[b]?=none:=Array.getElem?_eq_none h1;simp[World.cell?,this]at h
def cc(w:World):Prop:=(∃b a,w.cell? ⟨6,0,none⟩=some (.iface b a))/\(∃b a,w.cell? ⟨7,0,none⟩=some (.iface b a))/\w.cell? ⟨0,0,none⟩=some (.int .i32 55296)/\w.cell? ⟨0,1,none⟩=some (.int .i32 57343)
theorem cc.on{w w':World}(h:cc w)(hb:∀b o v,(b=6\/b=7\/b=0)->w.cell? ⟨b,o,none⟩=some v->w'.cell? ⟨b,o,none⟩=some v):cc w':=by
 obtain⟨⟨t,p,h1⟩,⟨n,j,d⟩,g,i⟩:=h;exact⟨⟨t,p,hb _ _ _ (ah rfl) h1⟩,⟨n,j,hb _ _ _ (ac (ah rfl)) d⟩,hb _ _ _ (ac (ac rfl)) g,hb _ _ _ (ac (ac rfl)) i⟩
theorem cc.below{w w':World}(h:cc w)(hb:Below w.heap.size w w'):cc w':=h.on fun b o _ _ hc=>(hb.cell (p:=⟨b,o,none⟩) (gP hc)).trans hc
theorem GS(fn s:ai)(base bits:Int)(w:World)(c:s.size<=1000)(b:cc w):Calls prog 220 #[.string fn,.string s,.int .i64 base,.int .i64 bits,.iface 368 (.int .i64 2)] w fun e w'=>(∃t a,e=.returned (.iface t a))/\Below w.heap.size w w':=by
 obtain⟨⟨f,d,h1⟩,_⟩:=b;refine(AnyPu.strconv_toError_syntax Tryz.laysPu17 fn s base bits _ w (by omega) h1 (ac ⟨_,_,rfl⟩)).mono ?_;rintro e w' ⟨N,rfl,_,_,hb⟩;exact⟨⟨_,_,rfl⟩,hb⟩
theorem A6(fn s:ai)(base bits:Int)(w:World)(c:s.size<=1000)(b:cc w):Calls prog 220 #[.string fn,.string s,.int .i64 base,.int .i64 bits,.iface 368 (.int .i64 1)] w fun e w'=>(∃t a,e=.returned (.iface t a))/\Below w.heap.size w w':=by
 obtain⟨_,⟨f,d,h1⟩,_⟩:=b;refine(AnyPu.strconv_toError_range Tryz.laysPu17 fn s base bits _ w (by omega) h1 (ac ⟨_,_,rfl⟩)).mono ?_;rintro e w' ⟨N,rfl,_,_,hb⟩;exact⟨⟨_,_,rfl⟩,hb⟩
def Sk(s:ai)(e:Ending):Prop :=
 (e=.returned (.tuple #[.int .u64 (RS.cg s.toList),.nilIface])/\RS.cY s.toList=true/\s.toList≠[]/\RS.cg s.toList<=4294967295) \/
 (∃x t a,e=.returned (.tuple #[.int .u64 x,.iface t a])/\(x=0\/x=4294967295)/\(RS.cY s.toList=false\/s.toList=[]\/6<s.toList.length))
theorem BV(s:ai)(w:World)(d:s.size<=1000):Calls prog 219 #[.string s,.int .i64 16,.int .i64 32] w fun e w'=>((e=.returned (.tuple #[.int .u64 (RS.cg s.toList),.nilIface])/\RS.cY s.toList=true/\s.toList≠[]/\RS.cg s.toList<=4294967295) \/(∃x n,e=.returned (.tuple #[.int .u64 x,.iface 368 (.int .i64 n)])/\(n=1\/n=2)/\(x=0\/x=4294967295)/\(RS.cY s.toList=false\/s.toList=[]\/6<s.toList.length)))/\Below w.heap.size w w':=by
 cases a:s.toList with
 | nil =>
  refine(BT s w a).mono ?_;rintro e w' ⟨rfl,rfl⟩;exact⟨ac ⟨0,2,rfl,ac rfl,ah rfl,ac (ah rfl)⟩,aB _ _⟩
 | cons c l =>
  rw[<- a];refine(BU s w (by rw[a];rfl) d).mono ?_;rintro e w' ⟨f,hb⟩;refine⟨?_,hb⟩;rcases f with⟨rfl,h1,b⟩|⟨rfl,h1⟩|⟨rfl,h1⟩
  ·exact ah ⟨rfl,h1,by rw[a];simp,b⟩
  ·exact ac ⟨_,_,rfl,ac rfl,ah rfl,ah h1⟩
  ·exact ac ⟨_,_,rfl,ah rfl,ac rfl,ac (ac h1)⟩
theorem Hu(s:ai)(w:World)(d:s.size<=1000)(i:cc w):Calls prog 203 #[.string s,.int .i64 16,.int .i64 32] w fun e w'=>Sk s e/\Below w.heap.size w w':=by
 have l:Hid (cc w):=i;clear i;go_enter func203,ntmps203;go_wp2_with fail;refine(BV s _ d).mono ?_;rintro u q ⟨p,hb⟩;rcases p with⟨rfl,h1,g,h⟩|⟨x,n,rfl,o,k,j⟩
 ·have b:Hid (RS.cY s.toList=true/\s.toList≠[]/\RS.cg s.toList<=4294967295):=⟨h1,g,h⟩;clear h1 g h;go_wp2_with fail
  go_ret2
  exact⟨ah ⟨rfl,b.out⟩,hb⟩
 ·have b:Hid ((x=0\/x=4294967295)/\(RS.cY s.toList=false\/s.toList=[]\/6<s.toList.length)):=⟨k,j⟩;have f:Hid (cc q):=l.out.below hb;clear k j;rcases o with rfl|rfl
  ·go_wp2_with fail;refine(A6 _ s 16 32 _ d f.out).mono ?_;rintro m r ⟨⟨t,a,rfl⟩,c⟩;go_wp2_with fail
   go_ret2
   exact⟨ac ⟨x,t,a,rfl,b.out⟩,hb.trans (c.mono hb.size)⟩
  ·go_wp2_with fail;refine(GS _ s 16 32 _ d f.out).mono ?_;rintro m r ⟨⟨t,a,rfl⟩,c⟩;go_wp2_with fail
   go_ret2
   exact⟨ac ⟨x,t,a,rfl,b.out⟩,hb.trans (c.mono hb.size)⟩
def fC(l:List UInt8):Int:=if 6<l.length\/RS.cY l=false\/l=[]then 2 else if 1114111<RS.cg l then 5 else 0
def PS.hex(T:ai)(s:PS):PS:=if fC (s.tk T)=0 then s.step T else s.fail T (fC (s.tk T))
theorem step_end(T:ai)(s:PS)(h:s.p=T.size):s.step T=s:=by
 have h1:=cx T s.p (by omega);unfold PS.step;have:hq T s.p=s.p:=by omega
 rw[this]
theorem GR(T:ai)(p:Nat)(h:T.size<=1000):(bF T p).size<=1000:=by
 unfold bF;rw[ek];omega
theorem EH(T:ai)(s:PS)(a b:Int)(c:a≠0):(s.fail T a).fail T b=s.fail T a:=by
 unfold PS.fail PS.eD pf pp
 by_cases h:s.f=0
 ·simp[h,c]
 ·simp[h]
theorem cc.C3{b:Nat}{w w':World}(h:cc w)(hc:bj (fun k=>k=b) w w')(hg:6<b/\7<b):cc w' :=
 h.on fun k o v g d=>by
  have:k≠b:=by rcases g with rfl|rfl|rfl<;>omega
  exact(oV (a:=⟨k,o,none⟩) (w:=w) (hc.block k (gP d) this)).trans d
theorem K8(b:Nat)(T:ai)(d c vL:Value)(s:PS)(w:World)(h:e4 w b T d c vL s)(X:cc w):Calls prog 172 #[.pointer (some ⟨b,0,none⟩)] w fun r w'=>(∃x:Int,r=.returned (.int .i32 x)/\(fC (s.tk T)=0->x=RS.cg (s.tk T)))/\e4 w' b T d c vL (s.hex T)/\bj (fun k=>k=b) w w':=by
 have W:Hid (e4 w b T d c vL s):=h;have a5:Hid (cc w):=X;have b6:=h.short;clear h X;go_enter func172,ntmps172;go_wp2_with fail;refine(zO b T d c vL s w W.out).mono ?_;rintro r R ⟨rfl,n,a3⟩;have b1:Below w.heap.size w R:=by rw[a3];exact hy (aB _ _) n
 clear a3;have S:Hid (e4 R b T d c vL s):=W.out.later b1;go_wp2_with fail;refine(Hu (bF T s.p) R (GR T s.p b6) (a5.out.below b1)).mono ?_;rintro r B ⟨a0,b2⟩;have E:Hid (e4 B b T d c vL s):=S.out.later b2;have I:Hid (bj (fun k=>k=b) w B):=(bj.aL b1).trans (bj.aL b2);clear b1 b2 S;obtain⟨l,G⟩:∃l,l=s.tk T:=⟨_,rfl⟩;have hlen:l.length=(bF T s.p).size:=by rw[G];unfold PS.tk;rw[bM];simp
 have b5:∃(x:Int) (v:Value),r=.returned (.tuple #[.int .u64 x,v])/\0<=x/\x<=4294967295/\((v=.nilIface/\RS.cY l=true/\l≠[]/\x=RS.cg l)\/((∃t a,v=.iface t a)/\(x=0\/x=4294967295)/\(RS.cY l=false\/l=[]\/6<l.length))):=by
  rw[G];rcases a0 with⟨rfl,h1,F,f⟩|⟨x,t,a,rfl,Q,g⟩
  ·exact⟨_,_,rfl,(nW (bF T s.p).toList.length (bF T s.p).toList (ar _)).1,f,ah ⟨rfl,h1,F,rfl⟩⟩
  ·exact⟨x,_,rfl,by omega,by omega,ac ⟨⟨t,a,rfl⟩,Q,g⟩⟩
 clear a0;obtain⟨x,v,rfl,c5,c7,Z⟩:=b5;have U:Hid ((v=.nilIface/\RS.cY l=true/\l≠[]/\x=RS.cg l)\/((∃t a,v=.iface t a)/\(x=0\/x=4294967295)/\(RS.cY l=false\/l=[]\/6<l.length))):=Z;have a6:Hid (l.length=(bF T s.p).size):=hlen;have a7:Hid (l=s.tk T):=G;clear Z hlen G;obtain⟨j,Y⟩:∃j:Bool,j=decide (6<l.length\/RS.cY l=false\/l=[]):=⟨_,rfl⟩;have K:Hid (j=decide (6<l.length\/RS.cY l=false\/l=[])):=Y;clear Y
 go_upto_region 2 with fail
 go_cut [4,18] (fun _ b0 u=>b0=.bool j/\Hid (e4 u b T d c vL s)/\Hid (bj (fun k=>k=b) w u))
 case first =>
  rcases U.out with⟨rfl,h1,F,f⟩|⟨⟨t,a,rfl⟩,Q,g⟩
  ·have O:Hid (j=decide (6<(bF T s.p).size)):=by show _=_;rw[K.out,a6.out];simp[h1,F]
   clear h1 F f;go_wp2_with fail;refine(zO b T d c vL s B E.out).mono ?_;rintro r w3 ⟨rfl,n,H⟩;have b3:Below B.heap.size B w3:=by rw[H];exact hy (aB _ _) n
   clear H;go_wp2_with fail;go_meet;refine⟨?_,E.out.later b3,I.out.trans (bj.aL b3)⟩;rw[O.out];congr 1;rw[kv];simp;omega
  ·have O:Hid (j=true):=by show _=_;rw[K.out];simp;rcases g with h|h|h<;>simp[h]
   clear Q g;go_wp2_with fail;go_meet;exact⟨by rw[O.out],E,I⟩
 case rest =>
  obtain⟨rfl,f,c3⟩:=hcut;obtain⟨w3,H⟩:∃w3,w3=wc:=⟨wc,rfl⟩;subst H;clear E I;obtain⟨i,a1⟩:∃i,i=if j=true then s.fail T 2 else s:=⟨_,rfl⟩
  have L:Hid (i=if j=true then s.fail T 2 else s):=a1;clear a1
  go_upto_if 18 with fail
  go_cut [] (fun u=>Hid (e4 u b T d c vL i)/\Hid (bj (fun k=>k=b) w u))
  case first =>
   cases j
   ·have e:Hid (i=s):=by show _=_;rw[L.out];rfl
    go_wp2_with fail;go_meet;exact⟨by rw[e.out];exact f,c3⟩
   ·have e:Hid (i=s.fail T 2):=by show _=_;rw[L.out];rfl
    go_wp2_with fail;refine(kP b T d c vL s 2 w3 f.out).mono ?_;rintro r C ⟨rfl,o,A⟩;have a4:Hid (e4 C b T d c vL (s.fail T 2)):=o;clear o;go_wp2_with fail;go_meet;exact⟨by rw[e.out];exact a4,c3.out.trans A⟩
  case rest =>
   obtain⟨o,A⟩:=hcut;obtain⟨C,b9⟩:∃C,C=wc:=⟨wc,rfl⟩;subst b9;clear f c3;obtain⟨q,a2⟩:∃q,q=if 1114111<x then i.fail T 5 else i:=⟨_,rfl⟩
   have M:Hid (q=if 1114111<x then i.fail T 5 else i):=a2;clear a2
   go_upto_if 22 with fail
   go_cut [] (fun u=>Hid (e4 u b T d c vL q)/\Hid (bj (fun k=>k=b) w u))
   case first =>
    by_cases m:1114111<x
    ·have e:Hid (q=i.fail T 5):=by show _=_;rw[M.out,ag m]
     go_wp2_with fail;refine(kP b T d c vL i 5 C o.out).mono ?_;rintro r D ⟨rfl,z,N⟩;have J:Hid (e4 D b T d c vL (i.fail T 5)):=z;clear z;go_wp2_with fail;go_meet;exact⟨by rw[e.out];exact J,A.out.trans N⟩
    ·have e:Hid (q=i):=by show _=_;rw[M.out,ae m]
     go_wp2_with fail;go_meet;exact⟨by rw[e.out];exact o,A⟩
   case rest =>
    obtain⟨m,N⟩:=hcut;obtain⟨D,c0⟩:∃D,D=wc:=⟨wc,rfl⟩;subst c0;clear o A;have V:Hid (q.step T=s.hex T/\(fC (s.tk T)=0->x=RS.cg (s.tk T)/\x<=1114111)):=by
     have hb:=K.out;have f:=L.out;have o:=M.out;have P:=U.out;rw[a7.out]at hb P;constructor
     ·unfold PS.hex fC
      by_cases g:6<(s.tk T).length\/RS.cY (s.tk T)=false\/s.tk T=[]
      ·have b8:j=true:=by rw[hb];exact cG g
       rw[b8]at f;simp only[de]at f;have b4:q=s.fail T 2:=by
        rw[o];split
        ·rw[f];exact EH T s 2 5 (by decide)
        ·exact f
       rw[ag g,b4,ae (by decide)];exact step_end T _ rfl
      ·have b7:j=false:=by rw[hb];exact cH g
       rw[b7]at f;simp only[la,fi]at f;have c1:x=RS.cg (s.tk T):=by
        rcases P with⟨_,_,_,h⟩|⟨_,_,h⟩
        ·exact h
        ·exfalso;apply g;rcases h with h|h|h<;>simp[h]
       rw[ae g,<- c1,o,f]
       by_cases m:1114111<x
       ·rw[ag m,ag m,ae (by decide)];exact step_end T _ rfl
       ·rw[ae m,ae m,ag rfl]
     ·intro h0;unfold fC at h0
      by_cases g:6<(s.tk T).length\/RS.cY (s.tk T)=false\/s.tk T=[]
      ·rw[ag g]at h0;omega
      ·rw[ae g]at h0;rcases P with⟨_,_,_,h⟩|⟨_,_,h⟩
       ·refine⟨h,?_⟩
        by_cases m:1114111<RS.cg (s.tk T)
        ·rw[ag m]at h0;omega
        ·omega
       ·exfalso;apply g;rcases h with h|h|h<;>simp[h]
    obtain⟨y,c2⟩:∃y,IntKind.i32.wrap x=y:=⟨_,rfl⟩;have a8:Hid (y=IntKind.i32.wrap x):=c2.symm;go_wp2_with fail;refine(zi b T d c vL q D m.out).mono ?_;rintro r c4 ⟨rfl,z,a9⟩;rw[V.out.1]at z;have J:Hid (e4 c4 b T d c vL (s.hex T)):=z;clear z;go_wp2_with fail;go_ret;refine⟨⟨y,rfl,fun h0=>?_⟩,J.out,N.out.trans a9⟩;have:=V.out.2 h0;rw[a8.out,IntWalk.i32_in _ ⟨by omega,by omega⟩];exact this.1
def M9:List ai:=[ct,eP,cJ,Qt,I7,Qs]
def PS.dO(T:ai)(s:PS):PS:=if (eI T s.p&&!bH M9 (s.tk T))=true then s else s.fail T 2
def PS.ke(T:ai)(aa:List ai)(l:List UInt8)(s:PS):PS:=if 0<=ba aa l then s.fail T 4 else s
def PS.newName(T:ai)(aa:List ai)(s:PS):PS:=((s.dO T).ke T aa (s.tk T)).step T
theorem Nr{w:World}{b:Nat}{T:ai}{a e:Int}{f d vL:Value}{c place:Int}(h:fF w b T a e f d vL c place)(x:Value):fF (w.setCell ⟨b,3,none⟩ x) b T a e x d vL c place:=(am h 3 _).trans rfl
theorem B5(base b:Nat)(T:ai)(aa:List ai)(a c vL:Value)(s:PS)(w:World)(h:e4 w b T a c vL s)(a0:w.ownsRow base 9 1 a aa.length (aa.map .string))(b9:aa.length<=100)(b8:base<=w.heap.size):Calls prog 129 #[.pointer (some ⟨b,0,none⟩)] w fun r w'=>r=.returned (.int .u8 aa.length)/\∃a7,e4 w' b T a7 c vL (s.newName T aa)/\w'.ownsRow base 9 1 a7 (aa.length+1) ((aa++[bF T s.p]).map .string)/\bj (fun k=>k=b\/a.ownBlock=some k) w w':=by
 have y:Hid (e4 w b T a c vL s):=h;have F:Hid (w.ownsRow base 9 1 a aa.length (aa.map .string)):=a0;clear h a0;go_enter func129,ntmps129;go_wp2_with fail;refine(zO b T a c vL s w y.out).mono ?_;rintro r O ⟨rfl,n,a5⟩;have b1:Below w.heap.size w O:=by rw[a5];exact hy (aB _ _) n
 clear a5;have D:Hid (e4 O b T a c vL s):=y.out.later b1;obtain⟨x,N⟩:∃x,x=bF T s.p:=⟨_,rfl⟩;rw[<- N];have W:Hid (x=bF T s.p):=N;clear N;go_wp2_with fail;refine(oj b T a c vL s M9 O D.out (by decide) (by decide)).mono ?_;rintro r P ⟨rfl,b2⟩;have E:Hid (e4 P b T a c vL s):=D.out.later b2;have C:Hid (bj (fun k=>k=b) w P):=(bj.aL b1).trans (bj.aL b2);clear D b1 b2;obtain⟨A,K⟩:∃A,A=(eI T s.p&&!bH M9 (s.tk T)):=⟨_,rfl⟩;rw[<- K];have U:Hid (A=(eI T s.p&&!bH M9 (s.tk T))):=K;clear K
 go_upto_if 11 with fail
 go_cut [] (fun v=>Hid (e4 v b T a c vL (s.dO T))/\Hid (bj (fun k=>k=b) w v))
 case first =>
  cases a2:A
  ·have e:Hid (s.dO T=s.fail T 2):=by show _=_;unfold PS.dO;rw[<- U.out,a2];rfl
   go_wp2_with fail;refine(kP b T a c vL s 2 P E.out).mono ?_;rintro r w3 ⟨rfl,l,c3⟩;have a9:Hid (e4 w3 b T a c vL (s.fail T 2)):=l;clear l;go_wp2_with fail;go_meet;exact⟨by rw[e.out];exact a9,C.out.trans c3⟩
  ·have e:Hid (s.dO T=s):=by show _=_;unfold PS.dO;rw[<- U.out,a2];rfl
   go_wp2_with fail;go_meet;exact⟨by rw[e.out];exact E,C⟩
 case rest =>
  obtain⟨l,c3⟩:=hcut;obtain⟨w3,c1⟩:∃w3,w3=wc:=⟨wc,rfl⟩;subst c1;clear E C;have X:Hid (w3.ownsRow base 9 1 a aa.length (aa.map .string)):=al F.out (Kp.n8 y.out.da c3.out (by decide));go_wp2_with fail;refine(wB b base T (s.dO T).p a c vL (s.dO T).f (s.dO T).pl aa x w3 l.out.da X.out b9).mono ?_;rintro r c5 ⟨rfl,c2⟩;subst c2;obtain⟨B,L⟩:∃B,B=decide (0<=ba aa x.toList):=⟨_,rfl⟩;rw[<- L];obtain⟨a6,a3⟩:∃a6,a6=max (ba aa x.toList) 0:=⟨_,rfl⟩;rw[<- a3];have V:Hid (B=decide (0<=ba aa (s.tk T))):=by show _=_;rw[L,W.out];rfl
  clear L a3;obtain⟨d,a4⟩:∃d,d=(s.dO T).ke T aa (s.tk T):=⟨_,rfl⟩;have G:Hid (d=(s.dO T).ke T aa (s.tk T)):=a4;clear a4
  go_upto_if 20 with fail
  go_cut [4,5] (fun _ _ v=>Hid (e4 v b T a c vL d)/\Hid (bj (fun k=>k=b) w v))
  case first =>
   cases a1:B
   ·have e:Hid (d=s.dO T):=by show _=_;rw[G.out];unfold PS.ke;rw[ae (by have:=V.out;rw[a1]at this;simpa using this.symm)]
    go_wp2_with fail;go_meet;exact⟨by rw[e.out];exact l,c3⟩
   ·have e:Hid (d=(s.dO T).fail T 4):=by show _=_;rw[G.out];unfold PS.ke;rw[ag (by have:=V.out;rw[a1]at this;simpa using this.symm)]
    go_wp2_with fail;refine(kP b T a c vL (s.dO T) 4 c5 l.out).mono ?_;rintro r g ⟨rfl,m,o⟩;have b0:Hid (e4 g b T a c vL ((s.dO T).fail T 4)):=m;clear m;go_wp2_with fail;go_meet;exact⟨by rw[e.out];exact b0,c3.out.trans o⟩
  case rest =>
   obtain⟨m,o⟩:=hcut;obtain⟨g,c4⟩:∃g,g=wc:=⟨wc,rfl⟩;subst c4;have Y:Hid (g.ownsRow base 9 1 a aa.length (aa.map .string)):=al F.out (Kp.n8 y.out.da o.out (by decide));obtain⟨z,au,rfl⟩:=ak F.out;have d3:=(dA m.out.da).2.2.2.1;clear l c3 X
   go_upto_region 8 with(at_builtin;go_loud (refine bs rfl (.tmp 27) (.tmp 29) 30 rfl base 9 (.string ⟨#[]⟩) 1 16 Tryz.Ad Tryz.Jd rfl (by decide) (.slice z aa.length au) aa.length (aa.map .string) rfl (by exact Y.out.alloc _) g.heap.size 1 [.string x] rfl rfl (by exact qL g (.string x) _) (by intro u hu;simp at hu;subst hu;rfl) (by omega) (by omega) (aE b8 (aE o.out.size (af g _).size)) ?_);intro c7 Q M hg c0;obtain⟨i,j,rfl⟩:=ak M;have t:=br m.out.da ((Kp.refl _ g).alloc _) (Y.out.alloc _) hg (by decide);have b6:=(dA t).2.2.2.1;have b7:=aq t)
   have I:e4 (Q.setCell ⟨b,3,none⟩ (.slice i (aa.length+1) j)) b T (.slice i (aa.length+1) j) c vL d:=⟨Nr t _,m.out.le,m.out.short⟩;have Z:Hid ((Q.setCell ⟨b,3,none⟩ (.slice i (aa.length+1) j)).ownsRow base 9 1 (.slice i (aa.length+1) j) (aa.length+1) (aa.map .string++[.string x])):=al M ((Kp.refl _ _).setCell t (by decide) _);have S:Hid (bj (fun k=>k=b\/Value.ownBlock (.slice z aa.length au)=some k) w (Q.setCell ⟨b,3,none⟩ (.slice i (aa.length+1) j))):=by
    have b5:bj (fun k=>k=b\/Value.ownBlock (.slice z aa.length au)=some k) w (g.alloc (.cells #[.string x] 9)):=(o.out.mono fun _ _ e=>ah e).alloc _;exact(b5.grown hg fun k e=>ac (ac e)).setCell (q:=⟨b,3,none⟩) (ac (ah rfl)) _
   clear M hg c0 t b6 b7 d3;go_wp2_with fail;refine(zi b T (.slice i (aa.length+1) j) c vL d _ I).mono ?_;rintro r R ⟨rfl,J,H⟩;have b3:Hid (e4 R b T (.slice i (aa.length+1) j) c vL (d.step T)):=J;have i3:=(dA J.da).2.2.2.1;have b4:Hid (R.ownsRow base 9 1 (.slice i (aa.length+1) j) (aa.length+1) (aa.map .string++[.string x])):=al Z.out (Kp.n8 I.da H (by decide));have a8:Hid (bj (fun k=>k=b\/Value.ownBlock (.slice z aa.length au)=some k) w R):=S.out.trans (H.mono fun _ _ e=>ah e);clear J I H Z S;go_wp2_with fail;go_ret;refine⟨kH (by omega),_,by rw[show s.newName T aa=d.step T from by unfold PS.newName;rw[G.out]];exact b3.out,?_,a8.out⟩;rw[c9,<- W.out];exact b4.out
theorem Kb{w:World}{b:Nat}{T:ai}{a e:Int}{d f vL:Value}{c place:Int}(h:fF w b T a e d f vL c place)(x:Value):fF (w.setCell ⟨b,4,none⟩ x) b T a e d x vL c place:=(am h 4 _).trans rfl
structure oq (base:Nat) (TR:World->Value->List (Int×Int×Nat)->Prop):Prop where
 nil:∀w,TR w (.slice none 0 0) []
 shape:∀w v l,TR w v l->∃ao n au,v=.slice ao n au
 aY:∀w w' v l,TR w v l->Kp 173 w w'->TR w' v l
 type:∀w v l k,TR w v l->v.ownBlock=some k->∃cs,w.heap[k]?=some (.cells cs 173 (0,0))
 low:∀w v l k,TR w v l->v.ownBlock=some k->base<=k
 add:∀(b:Nat) (T:ai) (vN vE vL:Value) (s:PS) (l:List (Int×Int×Nat)) (x y:Int) (k:Nat) (w:World),e4 w b T vN vE vL s->cc w->TR w vE l->l.length<=2000->k<256->base<=w.heap.size ->
  Calls prog 173 #[.pointer (some ⟨b,4,none⟩),.agg #[.int .i32 x,.int .i32 y],.int .u8 k] w fun r w'=>r=.returned (.bool (!RS.dy x y (l.map fun o=>(o.1,o.2.1,(o.2.2:Int))))) /\
   ∃vE',e4 w' b T vN vE' vL s/\TR w' vE' (if RS.dy x y (l.map fun o=>(o.1,o.2.1,(o.2.2:Int)))=true then l else l++[(x,y,k)])/\bj (fun k=>k=b\/vE.ownBlock=some k) w w'
def PS.dash(T:ai)(s:PS):Bool:=bH [aX 45] ((s.hex T).tk T)
def PS.bv(T:ai)(s:PS):PS:=if s.dash T=true then ((s.hex T).step T).hex T else s.hex T
def PS.gT(T:ai)(s:PS):Int:=if s.dash T=true then ((s.hex T).step T).p else s.p
def PS.fo(T:ai)(s:PS):Int:=RS.cg (s.tk T)
def PS.dU(T:ai)(s:PS):Int:=if s.dash T=true then RS.cg (((s.hex T).step T).tk T)else RS.cg (s.tk T)
def ln(l:List (Int×Int×Nat)):List (Int×Int×Int):=l.map fun o=>(o.1,o.2.1,(o.2.2:Int))
def PS.span(T:ai)(l:List (Int×Int×Nat))(s:PS):PS :=
 if (s.bv T).f≠0 then s.bv T else if RS.dy (s.fo T) (s.dU T) (ln l)=true then (s.bv T).eD T 5 (s.gT T)else s.bv T
def Fz(T:ai)(s:PS):Prop:=s.f≠0->s.p=T.size
theorem Fz.fail{T:ai}(s:PS)(no at_:Int):Fz T (s.eD T no at_):=fun _=>rfl
theorem Fz.step{T:ai}{s:PS}(h:Fz T s)(_:s.p<=T.size):Fz T (s.step T):=fun e=>by
 have h1:s.p=T.size:=h e;rw[step_end T s h1];exact h1
theorem Fz.hex{T:ai}{s:PS}(h:Fz T s)(d:s.p<=T.size):Fz T (s.hex T):=by
 unfold PS.hex;split
 ·exact h.step d
 ·exact Fz.fail s _ _
theorem K9{T:ai}{s:PS}(h0:(s.hex T).f=0):s.f=0/\fC (s.tk T)=0:=by
 unfold PS.hex at h0
 by_cases e:fC (s.tk T)=0
 ·rw[ag e]at h0;exact⟨h0,e⟩
 ·rw[ae e]at h0;exfalso;unfold PS.fail PS.eD pf at h0;simp only at h0
  by_cases a:s.f=0
  ·rw[ag a]at h0;exact e h0
  ·rw[ae a]at h0;exact a h0
theorem CM{T:ai}{s:PS}(h:s.f≠0)(a:s.p=T.size)(no at_:Int):s.eD T no at_=s:=by
 unfold PS.eD pf pp;rw[ae h,ae h,<- a]
theorem wH{T:ai}{s:PS}(a:s.p<=T.size):s.p<=(s.hex T).p/\(s.hex T).p<=T.size/\(s.p<T.size->s.p<(s.hex T).p):=by
 unfold PS.hex;split
 ·have:=cx T s.p a;exact⟨this.2.1,this.1,this.2.2⟩
 ·exact⟨a,ar _,fun h=>h⟩
theorem JA(n:World->Value->List (Int×Int×Nat)->Prop)(base:Nat)(W:oq base n)(b:Nat)(T:ai)(d a vL:Value)(s:PS)(l:List (Int×Int×Nat))(k:Nat)(w:World)(h:e4 w b T d a vL s)(b2:cc w)(hg:6<b/\7<b)(b3:n w a l)(e2:l.length<=2000)(e0:k<256)(b6:Fz T s)(c8:base<=w.heap.size):Calls prog 130 #[.pointer (some ⟨b,0,none⟩),.int .u8 k] w fun r w'=>r=.returned (.tuple #[])/\∃g l',e4 w' b T d g vL (s.span T l)/\n w' g l'/\l'.length<=l.length+1/\((s.span T l).f=0->l'=l++[(s.fo T,s.dU T,k)])/\bj (fun k=>k=b\/a.ownBlock=some k) w w':=by
 have C:Hid (e4 w b T d a vL s):=h;have O:Hid (cc w):=b2;have c0:Hid (n w a l):=b3;have a7:Hid (Fz T s):=b6;have c5:=(dA h.da).2.1;clear h b2 b3 b6;go_enter func130,ntmps130;go_wp2_with fail;refine(K8 b T d a vL s w C.out O.out).mono ?_;rintro r I ⟨⟨x,rfl,b4⟩,h1,P⟩;have a2:Hid (e4 I b T d a vL (s.hex T)):=h1;have a6:Hid (fC (s.tk T)=0->x=RS.cg (s.tk T)):=b4;have C1:Hid (bj (fun k=>k=b) w I):=P;have a0:Hid (cc I):=O.out.C3 P ⟨by omega,by omega⟩;clear h1 b4 P c5;go_wp2_with fail;refine(vC b T d a vL (s.hex T) [aX 45] I a2.out (by decide) (by decide)).mono ?_;rintro r J ⟨rfl,V,Q⟩;have L:Hid (bj (fun k=>k=b) w J):=C1.out.trans Q;have a1:Hid (cc J):=a0.out.C3 Q ⟨by omega,by omega⟩;obtain⟨st,H⟩:∃st,st=ce T [aX 45] (s.hex T).p:=⟨_,rfl⟩;rw[<- H];obtain⟨E,c9⟩:∃E,st.toList.isEmpty=E:=⟨_,rfl⟩;obtain⟨c,G⟩:∃c,c=(s.hex T).take T [aX 45]:=⟨_,rfl⟩;rw[<- G]at V;have B:Hid (e4 J b T d a vL c):=V;have a5:Hid ((s.dash T=true/\E=false/\c=(s.hex T).step T)\/(s.dash T=false/\E=true/\c=s.hex T)):=by
  show _\/_;rw[<- c9];cases i:bH [aX 45] ((s.hex T).tk T)
  ·right;refine⟨i,?_,?_⟩
   ·rw[H];unfold ce;rw[show bH _ (bF T (s.hex T).p).toList=false from i,ae (by simp),bM];rfl
   ·rw[G];unfold PS.take;rw[i];rfl
  ·left;refine⟨i,?_,?_⟩
   ·rw[H];unfold ce;rw[show bH _ (bF T (s.hex T).p).toList=true from i];simp only[de];rw[bk]at i;rw[e1]at i;rw[show (bF T (s.hex T).p).toList=[45] from i];rfl
   ·rw[G];unfold PS.take;rw[i];rfl
 clear H G V Q a2 a0 C1
 go_upto_if 17 with fail
 go_cut [4,6] (fun c4 e8 b7=>∃y:Int,c4=.int .i64 (s.gT T)/\e8=.int .i32 y/\Hid (e4 b7 b T d a vL (s.bv T))/\Hid (bj (fun k=>k=b) w b7)/\Hid ((s.bv T).f=0->x=s.fo T/\y=s.dU T))
 case first =>
  rcases a5.out with⟨hd,rfl,j⟩|⟨hd,rfl,j⟩
  ·have v:Hid (s.bv T=c.hex T):=by show _=_;unfold PS.bv;rw[hd,j];rfl
   have R:Hid (s.gT T=c.p):=by show _=_;unfold PS.gT;rw[hd,j];rfl
   have S:Hid (s.dU T=RS.cg (c.tk T)):=by show _=_;unfold PS.dU;rw[hd,j];rfl
   have A:Hid (c=(s.hex T).step T):=j;have d1:=(dA B.out.da).2.1;clear hd j;go_wp2_with fail;refine(K8 b T d a vL c J B.out a1.out).mono ?_;rintro r w3 ⟨⟨y,rfl,b5⟩,F,c3⟩;have b8:Hid (e4 w3 b T d a vL (c.hex T)):=F;have c1:Hid (fC (c.tk T)=0->y=RS.cg (c.tk T)):=b5;clear F b5;go_wp2_with fail;go_meet;refine⟨y,by rw[R.out],rfl,by rw[v.out];exact b8,L.out.trans c3,?_⟩;rw[v.out,S.out];intro h0;have u:=C.out.le;have K:=a7.out.hex u;have z2:Fz T c:=by rw[A.out];exact K.step (wH u).2.1
   have q:=K9 h0;have e6:(s.hex T).f=0:=by have:=q.1;rw[A.out]at this;exact this
   exact⟨a6.out (K9 e6).2,c1.out q.2⟩
  ·have v:Hid (s.bv T=s.hex T):=by show _=_;unfold PS.bv;rw[hd];rfl
   have R:Hid (s.gT T=s.p):=by show _=_;unfold PS.gT;rw[hd];rfl
   have S:Hid (s.dU T=RS.cg (s.tk T)):=by show _=_;unfold PS.dU;rw[hd];rfl
   have A:Hid (c=s.hex T):=j;clear hd j;go_wp2_with fail;go_meet;refine⟨x,by rw[R.out],rfl,by rw[v.out,<- A.out];exact B,L,?_⟩;rw[v.out,S.out];intro h0;have:=a6.out (K9 h0).2;exact⟨this,this⟩
 case rest =>
  obtain⟨y,rfl,rfl,F,c3,Y⟩:=hcut;obtain⟨w3,e5⟩:∃w3,w3=wc:=⟨wc,rfl⟩;subst e5;have c2:Hid (n w3 a l):=W.aY _ _ _ _ c0.out (Kp.n8 C.out.da c3.out (by decide));clear B L a1 a5;obtain⟨t,X⟩:∃t,t=RS.dy x y (ln l):=⟨_,rfl⟩;have a4:Hid (t=RS.dy x y (ln l)):=X;have N:=W.add b T d a vL (s.bv T) l x y k w3 F.out (O.out.C3 c3.out ⟨by omega,by omega⟩) c2.out e2 e0 (aE c8 c3.out.size);rw[show (l.map fun o=>(o.1,o.2.1,(o.2.2:Int)))=ln l from rfl,<- X]at N;have a3:Hid (Calls prog 173 #[.pointer (some ⟨b,4,none⟩),.agg #[.int .i32 x,.int .i32 y],.int .u8 k] w3 fun r w'=>r=.returned (.bool (!t))/\∃g,e4 w' b T d g vL (s.bv T)/\n w' g (if t=true then l else l++[(x,y,k)])/\bj (fun k=>k=b\/a.ownBlock=some k) w3 w'):=N;clear N X;go_wp2_with fail;refine a3.out.mono ?_;rintro r z ⟨rfl,g,b0,t4,a8⟩;have M:Hid (e4 z b T d g vL (s.bv T)):=b0;have D:Hid (n z g (if t=true then l else l++[(x,y,k)])):=t4;have Z:Hid (bj (fun k=>k=b\/a.ownBlock=some k) w z):=(c3.out.mono fun _ _ e=>ah e).trans a8;have e9:Hid (∀c7 m,z.heap[b]?=some (.cells c7 141 m)->True):=fun _ _ _=>trivial
  clear b0 t4 a8 a3;cases hb:t
  ·have e:Hid (s.span T l=s.bv T):=by
    show _=_;unfold PS.span;split
    ·rfl
    ·rename_i h0;have U:(s.bv T).f=0:=by simpa using h0
     have:=Y.out U;rw[ae (by rw[<- this.1,<- this.2,<- a4.out,hb];simp)]
   rw[hb]at D;go_wp2_with fail
   go_end0
   refine⟨rfl,g,_,by rw[e.out];exact M.out,D.out,by simp,fun h0=>?_,Z.out⟩;rw[e.out]at h0;have:=Y.out h0;simp[this.1,this.2]
  ·have e:Hid (s.span T l=(s.bv T).eD T 5 (s.gT T)):=by
    show _=_;unfold PS.span;split
    ·rename_i h0;have u:=C.out.le;have K:=a7.out.hex u;have z2:Fz T (s.bv T):=by
      unfold PS.bv;split
      ·exact(K.step (wH u).2.1).hex (cx T _ (wH u).2.1).1
      ·exact K
     exact(CM h0 (z2 h0) _ _).symm
    ·rename_i h0;have U:(s.bv T).f=0:=by simpa using h0
     have:=Y.out U;rw[ag (by rw[<- this.1,<- this.2,<- a4.out,hb])]
   rw[hb]at D;go_wp2_with fail;refine(H8 b T d g vL (s.bv T) 5 (s.gT T) z M.out).mono ?_;rintro r e7 ⟨rfl,b1,a9⟩;have b9:Hid (e4 e7 b T d g vL ((s.bv T).eD T 5 (s.gT T))):=b1;clear b1;go_wp2_with fail
   go_end0
   refine⟨rfl,g,l,by rw[e.out];exact b9.out,W.aY _ _ _ _ (by simpa using D.out) (Kp.n8 M.out.da a9 (by decide)),by omega,fun h0=>?_,Z.out.trans (a9.mono fun _ _ e=>ah e)⟩;exfalso;rw[e.out]at h0;unfold PS.eD pf at h0;simp only at h0;split at h0
   ·omega
   ·rename_i e3;exact e3 h0
theorem Tryz.F7:(prog.info? 173).map (fun i=>(i.zero,i.size,i.bytes))=some (some (.agg #[.int .i32 0,.int .i32 0,.int .u8 0]),3,12):=by kernel_rfl
theorem Tryz.ou:prog.underlying 79=some (.slice 173):=by kernel_rfl
def aG(l:List (Int×Int×Nat)):List Value:=l.flatMap fun o=>[.int .i32 o.1,.int .i32 o.2.1,.int .u8 o.2.2]
theorem CR(l:List (Int×Int×Nat))(i:Nat)(h:i<l.length):(aG l)[i*3]?=some (.int .i32 l[i].1)/\(aG l)[i*3+1]?=some (.int .i32 l[i].2.1)/\(aG l)[i*3+2]?=some (.int .u8 l[i].2.2):=by
 induction l generalizing i with
 | nil=>simp at h
 | cons a r f =>
  cases i with
  | zero=>simp[aG]
  | succ i =>
   have:=f i (by simpa using h);have e:∀k,(aG (a::r))[(i+1)*3+k]?=(aG r)[i*3+k]?:=by
    intro k;rw[show (i+1)*3+k=(i*3+k)+3 from by omega];rfl
   have b:=e 0;have c:=e 1;have d:=e 2;simp only[k8]at b;rw[b,c,d];simpa using this
def rR(base:Nat)(w:World)(v:Value)(l:List (Int×Int×Nat)):Prop:=w.ownsRow base 173 3 v l.length (aG l)
theorem iN{w:World}{base:Nat}{v:Value}{l:List (Int×Int×Nat)}(h:rR base w v l):∃c au,v=.slice c l.length au/\∀i (hi:i<l.length),∃g,c=some ⟨g,0,none⟩/\g<w.heap.size/\w.cell? ⟨g,i*3,none⟩=some (.int .i32 l[i].1)/\w.cell? ⟨g,i*3+1,none⟩=some (.int .i32 l[i].2.1)/\w.cell? ⟨g,i*3+2,none⟩=some (.int .u8 l[i].2.2):=by
 obtain⟨k,d⟩:=h;rcases d with⟨b,f⟩|⟨g,au,j,b,hg,a,m,n,o,e⟩
 ·exact⟨none,0,by rw[b,f],fun i hi=>by omega⟩
 ·refine⟨some ⟨g,0,none⟩,au,b,fun i hi=>⟨g,rfl,an a,?_⟩⟩;have hc:=CR l i hi;rw[<- e,bJ,bJ,bJ,ag (by omega),ag (by omega),ag (by omega)]at hc;exact⟨ab a _ _ (by simpa using hc.1),ab a _ _ (by simpa using hc.2.1),ab a _ _ (by simpa using hc.2.2)⟩
def ht(a b c d:Int):Bool:=decide (a<=d)&&decide (c<=b)
theorem ys(a b c d:Int)(w:World):Calls prog 204 #[.agg #[.int .i32 a,.int .i32 b],.agg #[.int .i32 c,.int .i32 d]] w fun r w'=>r=.returned (.bool (ht a b c d))/\Below w.heap.size w w':=by
 by_cases h:a<=d
 ·have e:Hid (ht a b c d=decide (c<=b)):=by show _=_;unfold ht;simp[h]
  rw[e.out];go_enter func204,ntmps204;go_wp2;go_ret;exact⟨rfl,(af w _).trans ((af _ _).mono (by simp))⟩
 ·have e:Hid (ht a b c d=false):=by show _=_;unfold ht;simp[h]
  rw[e.out];go_enter func204,ntmps204;go_wp2;go_ret;exact⟨rfl,(af w _).trans ((af _ _).mono (by simp))⟩
def mu(a b:Int):Int:=if a<b then -1 else if b<a then 1 else 0
theorem LP(a b:Int)(w:World):Calls prog 215 #[.int .i32 a,.int .i32 b] w fun r w'=>r=.returned (.int .i64 (mu a b))/\w'=w:=by
 by_cases h1:a<b
 ·have e:Hid (mu a b=-1):=by show _=_;unfold mu;rw[ag h1]
  rw[e.out];go_enter func215,ntmps215;go_wp2;go_ret;exact⟨rfl,rfl⟩
 ·by_cases c:b<a
  ·have e:Hid (mu a b=1):=by show _=_;unfold mu;rw[ae h1,ag c]
   rw[e.out];go_enter func215,ntmps215;go_wp2;go_ret;exact⟨rfl,rfl⟩
  ·have e:Hid (mu a b=0):=by show _=_;unfold mu;rw[ae h1,ae c]
   rw[e.out];go_enter func215,ntmps215;go_wp2;go_ret;exact⟨rfl,rfl⟩
theorem nY(a b:Int)(k:Nat)(c:Int)(w:World):Calls prog 214 #[.agg #[.int .i32 a,.int .i32 b,.int .u8 k],.int .i32 c] w fun r w'=>r=.returned (.int .i64 (mu b c))/\Below w.heap.size w w':=by
 go_enter func214,ntmps214;go_wp2_with fail;refine(LP b c _).mono ?_;rintro r d ⟨rfl,rfl⟩;go_wp2_with fail;go_ret;exact⟨rfl,af w _⟩
theorem lO{P:Program}{fn:Func}{p u:Tmp}(h:fn.results=#[.tmp p,.tmp u])(tmps:Array Value)(w:World):(results fn tmps).run P w=.ok (.tuple #[tmps.getD p undef,tmps.getD u undef]) w:=by
 simp[results,h]
def ea(L:List (Int×Int×Nat))(c:Int)(i j:Nat):Prop:=(∀k o,k<i->L[k]?=some o->o.2.1<c)/\∀k o,j<=k->L[k]?=some o->c<=o.2.1
def oQ(L:List (Int×Int×Nat)):Prop:=∀(i j:Nat) (a b:Int×Int×Nat),i<j->L[i]?=some a->L[j]?=some b->a.2.1<b.2.1
theorem ea.up{L:List (Int×Int×Nat)}{c:Int}{i j h:Nat}(t:ea L c i j)(q:oQ L)(g:h<L.length)(e:L[h].2.1<c):ea L c (h+1) j :=
 ⟨fun k o u d=>by
  by_cases n:k=h
  ·subst n;rw[ax g]at d;cases d;exact e
  ·exact Int.lt_trans (q k h o _ (by omega) d (ax g)) e,t.2⟩
theorem ea.down{L:List (Int×Int×Nat)}{c:Int}{i j h:Nat}(t:ea L c i j)(q:oQ L)(g:h<L.length)(e:¬L[h].2.1<c):ea L c i h :=
 ⟨t.1,fun k o u d=>by
  by_cases n:k=h
  ·subst n;rw[ax g]at d;cases d;omega
  ·have:=q h k _ o (by omega) (ax g) d;omega⟩
theorem P0(base:Nat)(v:Value)(L:List (Int×Int×Nat))(c:Int)(w:World)(h:rR base w v L)(O:L.length<=2000)(y:oQ L):Calls prog 213 #[v,.int .i32 c,.func (.func 214) #[] #[]] w fun r w' =>(∃(i:Nat) (f:Bool),r=.returned (.tuple #[.int .i64 i,.bool f])/\i<=L.length/\ea L c i i)/\Below w.heap.size w w':=by
 obtain⟨C,au,rfl,A⟩:=iN h;have x:Hid (∀i (hi:i<L.length),∃g,C=some ⟨g,0,none⟩/\g<w.heap.size/\w.cell? ⟨g,i*3,none⟩=some (.int .i32 L[i].1)/\w.cell? ⟨g,i*3+1,none⟩=some (.int .i32 L[i].2.1)/\w.cell? ⟨g,i*3+2,none⟩=some (.int .u8 L[i].2.2)):=A;have M:∀(args:Array Value) (w:World),(callFunc 214 args).run prog w=.ok (.enter 214 args) w:=enters_of func214 (by kernel_rfl) rfl;clear A h;go_enter func213,ntmps213;go_wp2_with fail
 go_loopg [9,10] L.length (fun g G H J=>∃i j:Nat,i<=j/\j<=L.length/\g=j-i/\G=.int .i64 i/\H=.int .i64 j/\Hid (ea L c i j)/\Below w.heap.size w J)
 case atStart=>exact⟨0,L.length,aJ _,ar _,rfl,rfl,rfl,⟨fun k o E=>by omega,fun k o E B=>by rw[gB (by omega)]at B;cases B⟩,aB _ _⟩
 case round =>
  obtain⟨i,j,N,t,rfl,rfl,rfl,a,hb⟩:=hrel;obtain⟨q,F⟩:∃q,q=wr:=⟨wr,rfl⟩;subst F
  by_cases P:i<j
  ·have u:(i+j)/2<L.length:=by omega
   obtain⟨g,rfl,hg,d,l,m⟩:=x.out ((i+j)/2) u;have d0:=(hb.cell (p:=⟨g,(i+j)/2*3,none⟩) hg).trans d;have d1:=(hb.cell (p:=⟨g,(i+j)/2*3+1,none⟩) hg).trans l;have d2:=(hb.cell (p:=⟨g,(i+j)/2*3+2,none⟩) hg).trans m;clear d l m;go_wp2_with fail;refine(nY _ _ _ c q).mono ?_;rintro r I ⟨rfl,b2⟩;have n:=hb.trans (b2.mono hb.size)
   by_cases b:L[(i+j)/2].2.1<c
   ·have e:mu L[(i+j)/2].2.1 c=-1:=by unfold mu;rw[ag b]
    rw[e];have s:Hid (ea L c ((i+j)/2+1) j):=a.out.up y u b;clear a b e;go_wp2_with fail;go_roundg (j-((i+j)/2+1))
    case measure=>omega
    case rel=>exact⟨(i+j)/2+1,j,by omega,t,rfl,by go_num,rfl,s,n⟩
   ·have s:Hid (ea L c i ((i+j)/2)):=a.out.down y u b;have e:0<=mu L[(i+j)/2].2.1 c:=by unfold mu;rw[ae b];split<;>decide
    generalize mu L[(i+j)/2].2.1 c=z at e ⊢;have K:¬z<0:=by omega
    clear a b;go_wp2_with fail;go_roundg ((i+j)/2-i)
    case measure=>omega
    case rel=>exact⟨i,(i+j)/2,by omega,by omega,rfl,rfl,by go_num,s,n⟩
  ·obtain rfl:i=j:=by omega
   by_cases D:i<L.length
   ·obtain⟨g,rfl,hg,d,l,m⟩:=x.out i D;have d0:=(hb.cell (p:=⟨g,i*3,none⟩) hg).trans d;have d1:=(hb.cell (p:=⟨g,i*3+1,none⟩) hg).trans l;have d2:=(hb.cell (p:=⟨g,i*3+2,none⟩) hg).trans m;clear d l m;go_wp2_with fail;refine(nY _ _ _ c q).mono ?_;rintro r I ⟨rfl,b2⟩;have n:=hb.trans (b2.mono hb.size);go_wp2_with fail;refine bodyPost_ret (lO rfl _ _) rfl ?_;exact⟨⟨i,_,rfl,t,a.out⟩,n⟩
   ·go_wp2_with fail;refine bodyPost_ret (lO rfl _ _) rfl ?_;exact⟨⟨i,_,rfl,t,a.out⟩,hb⟩
theorem kW{P:Program}(w:World)(l y z e:TypeId)(g o d n:Nat)(a:Addr)(h x:Nat)(c:Array Value)(t:TypeId)(b:List Value)(k:Nat) (hu:P.underlying l=some (.slice e)) (m:(P.info? e).map (·.size)=some k) (hg:w.heap[g]?=some (.cells c t (0,0))) (r:b.length=Nat.min h d*k) (s:∀j v,b[j]?=some v->w.cell? (a.add j)=some v) (p:o+b.length<=c.size) (h1:∀v∈b,v.oneCell'=true):(Builtin.copy_ #[l,y] z #[.slice (some ⟨g,o,none⟩) d n,.slice (some a) h x]).run P w=.ok (goInt (Nat.min h d)) (w.setRow g (c.toList.take o++b++c.toList.drop (o+b.length)).toArray):=by
 have q:=run_loadCells_list (P:=P) w a b s;have u:=run_storeCells_at P g o t b 0 c w hg (by simpa using p) h1;cases f:P.info? e with
 | none=>simp[f]at m
 | some i =>
  have hi:i.size=k:=by simpa[f]using m
  simp[Builtin.copy_,run_underlying hu,Builtin.lenOf,Builtin.firstCells,sizeOf,typeInfo,f,hi,<- r,q,u]
theorem tp:(prog.info? 173).map (·.size)=some 3:=by kernel_rfl
def kg(L:List (Int×Int×Nat))(i:Nat)(e:Int×Int×Nat):List (Int×Int×Nat):=L.take i++[e]++L.drop i
theorem hT(a b:List (Int×Int×Nat)):aG (a++b)=aG a++aG b:=by unfold aG;simp
theorem ci(a:List (Int×Int×Nat)):(aG a).length=a.length*3:=by
 induction a with
 | nil=>rfl
 | cons x r b=>show (_::_::_::aG r).length=_;simp[b];omega
theorem ol(L:List (Int×Int×Nat))(i:Nat):aG (L.take i)=(aG L).take (i*3):=by
 induction L generalizing i with
 | nil=>simp[aG]
 | cons x r a =>
  cases i with
  | zero=>simp[aG]
  | succ i =>
   rw[List.take_succ_cons,show (i+1)*3=i*3+3 by omega];show _::_::_::aG (r.take i)=_;rw[a];rfl
theorem om(L:List (Int×Int×Nat))(i:Nat):aG (L.drop i)=(aG L).drop (i*3):=by
 induction L generalizing i with
 | nil=>simp[aG]
 | cons x r a =>
  cases i with
  | zero=>simp
  | succ i =>
   rw[List.drop_succ_cons,show (i+1)*3=i*3+3 by omega,a];rfl
theorem pH(L:List (Int×Int×Nat)):∀v∈aG L,v.oneCell'=true:=by
 intro v a;unfold aG at a;rw[g9]at a;obtain⟨o,_,b⟩:=a;simp at b;rcases b with rfl|rfl|rfl<;>rfl
theorem lJ(x y:Int)(k:Nat):∀u∈[Value.int .i32 x,.int .i32 y,.int .u8 k],u.oneCell'=true:=by
 intro u hu;simp at hu;rcases hu with rfl|rfl|rfl<;>rfl
theorem zJ(e:Option Addr)(a b c d:Nat):(Value.slice e a b).ownBlock=(Value.slice e c d).ownBlock:=by cases e<;>rfl
def pZ(base:Nat)(L:List (Int×Int×Nat))(i:Nat)(e:Int×Int×Nat)(v:Value)(w:World)(r:Ending)(w':World):Prop :=
 ∃a,r=.returned a/\rR base w' a (kg L i e)/\bj (fun k=>v.ownBlock=some k) w w'
theorem NJ(base:Nat)(v:Value)(L:List (Int×Int×Nat))(x y:Int)(k q:Nat)(w:World)(h:rR base w v L)(E:L.length<=2000)(t:base<=w.heap.size) (f:w.heap[q]?=some (.cells #[.int .i32 x,.int .i32 y,.int .u8 k] 173 (0,0))):Calls prog 205 #[v,.int .i64 L.length,.slice (some ⟨q,0,none⟩) 1 1] w (pZ base L L.length (x,y,k) v w):=by
 have p:Hid (rR base w v L):=h;have o:Hid (w.heap[q]?=some (.cells #[.int .i32 x,.int .i32 y,.int .u8 k] 173 (0,0))):=f;have l:Hid (kg L L.length (x,y,k)=L++[(x,y,k)]):=by show _=_;unfold kg;simp
 obtain⟨d,au,rfl⟩:=ak h;have G:∀a,d=some a->∃g,a=⟨g,0,none⟩:=by
  rcases h.2 with⟨b,_⟩|⟨g,r,s,b,_⟩
  ·intro a e;simp at b;rw[b.1]at e;cases e
  ·intro a e;simp at b;rw[b.1]at e;cases e;exact⟨g,rfl⟩
 have D:L.length<=au:=by
  rcases h.2 with⟨b,F⟩|⟨g,r,s,b,_,_,hc,_⟩
  ·omega
  ·simp at b;omega
 clear h f;unfold pZ;rw[l.out];go_enter func205,ntmps205;go_wp2_with (at_builtin;refine bs rfl (.tmp 23) (.tmp 24) 79 rfl base 173 (.agg #[.int .i32 0,.int .i32 0,.int .u8 0]) 3 12 Tryz.F7 Tryz.ou rfl (by decide) (.slice d L.length au) L.length (aG L) rfl p.out q 1 [.int .i32 x,.int .i32 y,.int .u8 k] rfl rfl (fun j u hu=>ab o.out j u (by simpa using hu)) (lJ x y k) (by omega) (by omega) t ?_;intro A i c hg z;have n:Hid (i.ownsRow base 173 3 A (L.length+1) _):=c;have m:Hid (World.grownBy _ i _):=hg;obtain⟨B,C,rfl⟩:=ak c;clear c hg z)
 all_goals go_ret
 all_goals
  refine⟨_,rfl,?_,?_⟩
  ·show World.ownsRow _ _ _ _ _ _ _;rw[hT,aF];exact n.out
  ·exact(bj.refl _ _).grown m.out (fun k e=>ac ((zJ _ _ _ _ _).trans e))
theorem bj.setRow(w:World)(g:Nat)(d:Array Value):bj (fun k=>k=g) w (w.setRow g d):=⟨rfl,rfl,rfl,by simp,fun k _ h=>setRow_other w g k d h⟩
theorem I0{P:Program}{w:World}{o:Oper}{a:Act}{K:Act->World->Prop}{Q:Exit->Act->World->Prop}(d s:Operand)(t:TypeId) (z:o.op=.call { callee:=.builtin .copy,args:=#[d,s],argTypes:=#[t,t] }) (q:TypeId) (n:Nat) (hu:P.underlying t=some (.slice q)) (D:(P.info? q).map (·.size)=some n) (g c i p:Nat) (m:Addr) (l r:Nat) (hd:a.eval d=.slice (some ⟨g,c,none⟩) i p) (B:a.eval s=.slice (some m) l r) (f:List Value) (e:TypeId) (hg:w.heap[g]?=some (.cells f.toArray e (0,0))) (b:List Value) (y:b.length=Nat.min l i*n) (C:∀j v,b[j]?=some v->w.cell? (m.add j)=some v) (x:c+b.length<=f.length) (h1:∀v∈b,v.oneCell'=true) (h:∀w',w'.heap[g]?=some (.cells (splice f c b).toArray e (0,0))->bj (fun k=>k=g) w w'->K (a.put o.dst (goInt (Nat.min l i))) w'):o.wp P a w K Q:=by
 have A:(Builtin.copy_ #[t,t] o.type #[.slice (some ⟨g,c,none⟩) i p,.slice (some m) l r]).run P w=.ok (goInt (Nat.min l i)) (w.setRow g (splice f c b).toArray):=by
  rw[kW (P:=P) w t t o.type q g c i p m l r f.toArray e b n hu D hg y C (by simpa using x) h1];simp[splice]
 have u:=h _ (setRow_heap w g _ _ e _ hg) (bj.setRow w g (splice f c b).toArray);unfold Oper.wp;simp only[execOp,z,resolve,invoke,builtin,Sem.run_bind,Sem.run_pure,Result.andThen_ok,nt,bS,g7,hd,B,A];exact u
theorem vI{P:Program}{w:World}{q:Array Oper}{o:Oper}{a:Act}{K:Act->World->Prop}{Q:Exit->Act->World->Prop}{E:Prop}(y:o.guard=none)(d s:Operand)(t:TypeId) (A:o.op=.call { callee:=.builtin .copy,args:=#[d,s],argTypes:=#[t,t] }) (m:TypeId) (n:Nat) (hu:P.underlying t=some (.slice m)) (F:(P.info? m).map (·.size)=some n) (g h f p:Nat) (l:Addr) (i r:Nat) (hd:a.eval d=.slice (some ⟨g,h,none⟩) f p) (B:a.eval s=.slice (some l) i r) (c:List Value) (e:TypeId) (hg:w.heap[g]?=some (.cells c.toArray e (0,0))) (b:List Value) (z:b.length=Nat.min i f*n) (C:∀j v,b[j]?=some v->w.cell? (l.add j)=some v) (x:h+b.length<=c.length) (h1:∀v∈b,v.oneCell'=true) (u:∀w',w'.heap[g]?=some (.cells (splice c h b).toArray e (0,0))->bj (fun k=>k=g) w w'->K (a.put o.dst (goInt (Nat.min i f))) w'):if Region.wanted o (yielded q a.tmps)=true then Oper.wp P o a w K Q else E:=by
 have D:Region.wanted o (yielded q a.tmps)=true:=by simp[Region.wanted,y]
 rw[ag D];exact I0 d s t A m n hu F g h f p l i r hd B c e hg b z C x h1 u
theorem Kj(q b g d lb cb h:Nat)(w:World)(j:q≠b)(f a:Array Value)(t i:TypeId)(c:w.heap[q]?=some (.cells f t (0,0)))(hb:w.heap[b]?=some (.cells a i (0,0)))(h0:a.size≠0):(callFunc 221 #[.slice (some ⟨q,0,none⟩) g d,.slice (some ⟨b,h,none⟩) lb cb]).run prog w=.ok (.value (.bool false)) w:=by
 rw[run_callFunc_extern func221 (by kernel_rfl) (by kernel_rfl) (by kernel_rfl) (e:=Extern.SlicesOverlaps.overlaps #[79,79] #[4]) (by kernel_rfl),
  Lib.run_overlaps_apart w 79 4 173 Tryz.ou 3 Tryz.sizeOf173 ⟨q,0,none⟩ ⟨b,h,none⟩ g d lb cb j t i f.size a.size (by simp[World.shape?,c]) (by simp[World.shape?,hb]) h0 (by simp[World.frozen?,c]) (by simp[World.frozen?,c])]
 rfl
theorem M5{L:List (Int×Int×Nat)}{i:Nat}{x y:Int}{k:Nat}{a:List Value}(hi:i<L.length)(hc:a.take (L.length*3)=aG L)(f:(L.length+1)*3<=a.length):(splice (splice a ((i+1)*3) (aG (L.drop i))) (i*3) [.int .i32 x,.int .i32 y,.int .u8 k]).take ((L.length+1)*3)=aG (kg L i (x,y,k)):=by
 have hd:(aG (L.drop i)).length=(L.length-i)*3:=by rw[ci,gg]
 have e:a.take (i*3)=aG (L.take i):=by rw[ol,<- hc,List.take_take];congr 1;omega
 unfold splice kg;rw[hT,hT,<- e];have c:(List.take ((i+1)*3) a++(aG (List.drop i L)++List.drop ((i+1)*3+(aG (List.drop i L)).length) a)).take (i*3)=a.take (i*3):=by
  rw[oX (by rw[cz];omega),List.take_take];congr 1;omega
 have d:(List.take ((i+1)*3) a++(aG (List.drop i L)++List.drop ((i+1)*3+(aG (List.drop i L)).length) a)).drop (i*3+3)=aG (List.drop i L)++List.drop ((i+1)*3+(aG (List.drop i L)).length) a:=by
  rw[AV (by rw[cz];omega),List.drop_eq_nil_of_le (by rw[cz];omega)];rfl
 show List.take _ (List.take (i*3) _++([_,_,_]++List.drop (i*3+3) _))=_;rw[c,d];have b:(a.take (i*3)).length=i*3:=by rw[cz];omega
 rw[<- eG,<- eG,oX (by simp[b,hd];omega),gj (by simp[b,hd];omega)];rfl
theorem HU(base g i au:Nat)(L:List (Int×Int×Nat))(x y:Int)(k q:Nat)(w:World)(h:rR base w (.slice (some ⟨g,0,none⟩) L.length au) L)(a8:L.length<=2000)(hi:i<L.length)(a0:L.length+1<=au)(K:q≠g) (r:w.heap[q]?=some (.cells #[.int .i32 x,.int .i32 y,.int .u8 k] 173 (0,0))):Calls prog 205 #[.slice (some ⟨g,0,none⟩) L.length au,.int .i64 i,.slice (some ⟨q,0,none⟩) 1 1] w (pZ base L i (x,y,k) (.slice (some ⟨g,0,none⟩) L.length au) w):=by
 obtain⟨a,X,hg,J,N,G⟩:∃a:List Value,base<=g/\w.heap[g]?=some (.cells a.toArray 173 (0,0))/\au<=maxLen/\a.length=au*3/\a.take (L.length*3)=aG L:=by
  rcases h.2 with⟨m,_⟩|⟨a2,a1,a,m,h1,T,a3,U,V,W⟩
  ·cases m
  ·simp at m;obtain⟨rfl,rfl⟩:=m;exact⟨a.toList,h1,by simpa using T,U,by simpa using V,W⟩
 have B:Hid (w.heap[g]?=some (.cells a.toArray 173 (0,0))):=hg;have D:Hid (w.heap[q]?=some (.cells #[.int .i32 x,.int .i32 y,.int .u8 k] 173 (0,0))):=r;have A:Hid (a.take (L.length*3)=aG L):=G;have a6:au<=9223372036854775807:=by unfold maxLen at J;omega
 have Y:∀s p t,(callFunc 221 #[.slice (some ⟨q,0,none⟩) 1 1,.slice (some ⟨g,t,none⟩) s p]).run prog w=.ok (.value (.bool false)) w:=fun s p t=>Kj q g 1 1 s p t w K _ _ _ _ r hg (by rw[ky,N];omega)
 have b1:¬((i:Int)=(L.length:Int)):=by omega
 have b2:¬(au=i+1):=by omega
 have b3:¬(au=i):=by omega
 clear h r hg G;go_enter func205,ntmps205;go_wp2_with (simp only[Y]);have Q:Hid ((aG (L.drop i)).length=Nat.min (L.length+1-i) (L.length+1-(i+1))*3):=by
  show _=_;rw[ci,gg];congr 1;simp only[Nat.min_def];split<;>omega
 have S:Hid (∀j v,(aG (L.drop i))[j]?=some v->w.cell? ((⟨g,i*3,none⟩:Addr).add j)=some v):=fun j v l=>by
  rw[om,<- A.out,List.getElem?_drop,bJ]at l;split at l
  ·rw[Addr.add_lit];exact ab B.out _ _ (by simpa using l)
  ·cases l
 have o:Hid ((i+1)*3+(aG (L.drop i)).length<=a.length):=by
  show _<=_;rw[ci,gg];omega
 have b0:IntKind.i64.wrap ((i:Int)+1)=(i:Int)+1:=by rw[IntKind.wrap_i64];omega
 have a4:(0:Int)<=(i:Int)+1:=by omega
 have a7:i<=L.length:=by omega
 have a9:((i:Int)+1).toNat=i+1:=by omega
 have F:(i:Int)<=(L.length:Int)+1:=by omega
 have a5:i<=L.length+1:=by omega
 go_region_law
  (refine vI rfl (.tmp 73) (.tmp 76) 79 rfl 173 3 Tryz.ou tp g ((i+1)*3) (L.length+1-(i+1)) (au-(i+1)) ⟨g,i*3,none⟩ (L.length+1-i) (au-i) (by simp[Act.eval,Act.put]) (by simp[Act.eval,Act.put]) a 173 B.out (aG (L.drop i)) Q.out S.out o.out (pH _) ?_
   intro b E d;have z:Hid (b.heap[g]?=some (.cells (splice a ((i+1)*3) (aG (L.drop i))).toArray 173 (0,0))):=E;have c:Hid (bj (fun k=>k=g) w b):=⟨d.os,d.tape,d.output,d.size,d.block⟩;clear E d)
 have R:Hid (b.heap[q]?=some (.cells #[.int .i32 x,.int .i32 y,.int .u8 k] 173 (0,0))):=by
  show _=_;rw[c.out.block q (an D.out) K];exact D.out
 have C:Hid (i*3+3<=(splice a ((i+1)*3) (aG (L.drop i))).length):=by
  show _<=_;rw[length_splice _ _ _ o.out];omega
 have O:Hid (3=Nat.min 1 (L.length+1-i)*3):=by
  show _=_;rw[show Nat.min 1 (L.length+1-i)=1 by simp only[Nat.min_def];split<;>omega]
 have M:(Builtin.copy_ #[79,79] 3 #[.slice (some ⟨g,i*3,none⟩) (L.length+1-i) (au-i),.slice (some ⟨q,0,none⟩) 1 1]).run prog b=.ok (goInt (Nat.min 1 (L.length+1-i))) (b.setRow g (splice (splice a ((i+1)*3) (aG (L.drop i))) (i*3) [.int .i32 x,.int .i32 y,.int .u8 k]).toArray):=by
  rw[kW (P:=prog) b 79 79 3 173 g (i*3) (L.length+1-i) (au-i) ⟨q,0,none⟩ 1 1 _ 173 [.int .i32 x,.int .i32 y,.int .u8 k] 3 Tryz.ou tp z.out O.out (fun j u hu=>by rw[Addr.add_lit,k9];exact ab R.out j u (by simpa using hu)) (by simpa using C.out) (lJ x y k),eG];rfl
 obtain⟨w3,n⟩:∃w3,w3=b.setRow g (splice (splice a ((i+1)*3) (aG (L.drop i))) (i*3) [.int .i32 x,.int .i32 y,.int .u8 k]).toArray:=⟨_,rfl⟩;rw[<- n]at M;have F:Hid (w3.heap[g]?=some (.cells (splice (splice a ((i+1)*3) (aG (L.drop i))) (i*3) [.int .i32 x,.int .i32 y,.int .u8 k]).toArray 173 (0,0))):=by
  show _=_;rw[n];exact setRow_heap b g _ _ _ _ z.out
 have f:bj (fun k=>k=g) b w3:=by rw[n];exact bj.setRow b g _
 clear n;go_wp2_with (simp only[M]);go_ret;refine⟨_,rfl,⟨by rw[ci],ac ⟨g,au,_,?_,X,F.out,?_,J,?_,?_⟩⟩,?_⟩
 ·show Value.slice _ _ _=Value.slice _ _ _;rw[show (kg L i (x,y,k)).length=L.length+1 by unfold kg;simp;omega]
 ·show (kg L i (x,y,k)).length<=au;rw[show (kg L i (x,y,k)).length=L.length+1 by unfold kg;simp;omega];exact a0
 ·rw[ky,length_splice _ _ _ C.out,length_splice _ _ _ o.out];exact N
 ·rw[show (kg L i (x,y,k)).length=L.length+1 by unfold kg;simp;omega];exact M5 hi A.out (by omega)
 ·exact⟨f.os.trans c.out.os,f.tape.trans c.out.tape,f.output.trans c.out.output,aE c.out.size f.size,fun k H Z=>by
   have I:k≠g:=fun e=>Z (by rw[e];rfl)
   rw[f.block k (cI H c.out.size) I,c.out.block k H I]⟩
theorem IV(n:Nat):(Builtin.zeroCells (Value.agg #[.int .i32 0,.int .i32 0,.int .u8 0]).cells n).size=n*3:=by
 simp[Builtin.zeroCells,Value.cells]
theorem splice3{L:List (Int×Int×Nat)}{i:Nat}{x y:Int}{k:Nat}{row:List Value}(hi:i<L.length)(c:row.take (i*3)=aG (L.take i)):(splice (splice row (i*3) [.int .i32 x,.int .i32 y,.int .u8 k]) ((i+1)*3) (aG (L.drop i))).take ((L.length+1)*3)=aG (kg L i (x,y,k)):=by
 have hd:(aG (L.drop i)).length=(L.length-i)*3:=by rw[ci,gg]
 have a:(aG (L.take i)).length=i*3:=by rw[ci,cz];omega
 unfold splice kg;rw[hT,hT,c];have b:∀r:List Value,(aG (L.take i)++([Value.int .i32 x,.int .i32 y,.int .u8 k]++r)).take ((i+1)*3)=aG (L.take i)++[Value.int .i32 x,.int .i32 y,.int .u8 k]:=fun r=>by
  rw[<- eG,oX (by simp[a];omega),gj (by simp[a];omega)]
 rw[b,<- eG,oX (by simp[a,hd];omega),gj (by simp[a,hd];omega)];rfl
theorem KX(base g i au:Nat)(L:List (Int×Int×Nat))(x y:Int)(k q:Nat)(w:World)(h:rR base w (.slice (some ⟨g,0,none⟩) L.length au) L)(c1:L.length<=2000)(a8:base<=w.heap.size)(hi:i<L.length)(c4:au<L.length+1) (B:w.heap[q]?=some (.cells #[.int .i32 x,.int .i32 y,.int .u8 k] 173 (0,0))):Calls prog 205 #[.slice (some ⟨g,0,none⟩) L.length au,.int .i64 i,.slice (some ⟨q,0,none⟩) 1 1] w (pZ base L i (x,y,k) (.slice (some ⟨g,0,none⟩) L.length au) w):=by
 obtain⟨b,b8,hg,c2,c5,K,b9⟩:∃b:List Value,base<=g/\w.heap[g]?=some (.cells b.toArray 173 (0,0))/\au<=maxLen/\b.length=au*3/\b.take (L.length*3)=aG L/\L.length<=au:=by
  rcases h.2 with⟨s,_⟩|⟨b4,b3,b,s,h1,a2,a3,a4,a5,a6⟩
  ·cases s
  ·simp at s;obtain⟨rfl,rfl⟩:=s;exact⟨b.toList,h1,by simpa using a2,a4,by simpa using a5,a6,a3⟩
 obtain rfl:au=L.length:=by omega
 have F:Hid (w.heap[g]?=some (.cells b.toArray 173 (0,0))):=hg;have a0:Hid (w.heap[q]?=some (.cells #[.int .i32 x,.int .i32 y,.int .u8 k] 173 (0,0))):=B;have E:Hid (b.take (L.length*3)=aG L):=K;obtain⟨i0,N,U,V,C⟩:∃i0,prog.info? 173=some i0/\i0.zero=some (.agg #[.int .i32 0,.int .i32 0,.int .u8 0])/\i0.size=3/\i0.bytes=12:=by
  have:=Tryz.F7;cases M:prog.info? 173 with
  | none=>rw[M]at this;cases this
  | some i0=>rw[M]at this;simp at this;exact⟨i0,rfl,this.1,this.2.1,this.2.2⟩
 have Q:(L.length:Int)+1-(i:Int)=((L.length+1-i:Nat):Int):=by omega
 have A:i+(L.length+1-i)=L.length+1:=by omega
 have R:(Builtin.firstCells i0.size i (.slice (some ⟨g,0,none⟩) i L.length)).run prog w.drew=.ok (aG (L.take i)).toArray w.drew:=by
  rw[V];exact run_firstCells_some w.drew 3 i ⟨g,0,none⟩ i L.length (aG (L.take i)) (by rw[ci,cz];omega) (fun j v a=>by
   rw[Addr.add_lit,k9];rw[ol,<- E.out,bJ]at a;split at a
   ·rw[bJ]at a;split at a
    ·exact ab (w:=w) F.out _ _ (by simpa using a)
    ·cases a
   ·cases a)
 obtain⟨G,m⟩:∃G,G=grownCap w (L.length+1) L.length 173:=⟨_,rfl⟩;have a7:L.length+1<=G:=by rw[m];exact grownCap_ge w _ _ _
 have J:G<=maxLen:=by rw[m];exact grownCap_le_maxLen w _ _ _ (by unfold maxLen;omega)
 obtain⟨row,r⟩:∃row:List Value,row.toArray=(aG (L.take i)).toArray++Builtin.zeroCells (Value.agg #[.int .i32 0,.int .i32 0,.int .u8 0]).cells (L.length+1-i)++Builtin.zeroCells (Value.agg #[.int .i32 0,.int .i32 0,.int .u8 0]).cells (G-(L.length+1)):=⟨_,Array.toArray_toList⟩;have b1:row.length=G*3:=by
  have:=ej Array.size r;simp only[Array.size_append,IV,ky,ci,cz]at this;omega
 have b2:row.take (i*3)=aG (L.take i):=by
  have e:=ej Array.toList r;simp only[Array.toList_append]at e;rw[e,eG,oX (by rw[ci,cz];omega),gj (by rw[ci,cz];omega)]
 have T:∀d,(Builtin.append_ #[79,3] d #[.slice (some ⟨g,0,none⟩) i L.length,.int .i64 ((L.length:Int)+1-(i:Int))]).run prog w =
   .ok (.slice (some ⟨w.heap.size,0,none⟩) (L.length+1) G) (w.drew.alloc (.cells row.toArray 173)):=fun d=>by
  have h:=Lib.run_append_grow_zeros w 79 3 d 173 i0 _ .i64 .i64 Tryz.ou Tryz.underlying3 N U (some ⟨g,0,none⟩) i L.length (aG (L.take i)) R (L.length+1-i) (by omega) (by omega) (by omega) (by omega) (by rw[C];omega) (by rw[C,A];exact growslice_fits (by omega) (by omega));rw[A,<- m,<- r]at h;rw[Q];exact h
 have a9:g<w.heap.size:=an hg;have b0:q<w.heap.size:=an B;obtain⟨W1,n⟩:∃W1,W1=w.drew.alloc (.cells row.toArray 173):=⟨_,rfl⟩;rw[<- n]at T;have I:Hid (W1.heap[w.heap.size]?=some (.cells row.toArray 173 (0,0))):=by show _=_;rw[n];exact aw w.drew _
 have D:Hid (Below w.heap.size w W1):=by show Below _ _ _;rw[n];exact((aB _ _).drew).alloc (ar _) _
 have t:Hid (i*3+3<=row.length):=by show _<=_;omega
 have W:Hid (3=Nat.min 1 (L.length+1-i)*3):=by
  show _=_;rw[show Nat.min 1 (L.length+1-i)=1 by simp only[Nat.min_def];split<;>omega]
 have S:∀d,(Builtin.copy_ #[79,79] d #[.slice (some ⟨w.heap.size,i*3,none⟩) (L.length+1-i) (G-i),.slice (some ⟨q,0,none⟩) 1 1]).run prog W1=.ok (goInt (Nat.min 1 (L.length+1-i))) (W1.setRow w.heap.size (splice row (i*3) [.int .i32 x,.int .i32 y,.int .u8 k]).toArray):=fun d=>by
  rw[kW (P:=prog) W1 79 79 d 173 w.heap.size (i*3) (L.length+1-i) (G-i) ⟨q,0,none⟩ 1 1 _ 173 [.int .i32 x,.int .i32 y,.int .u8 k] 3 Tryz.ou tp I.out W.out (fun j u hu=>by rw[Addr.add_lit,k9];exact(D.out.cell (p:=⟨q,j,none⟩) b0).trans (ab a0.out j u (by simpa using hu))) (by simpa using t.out) (lJ x y k),eG];rfl
 obtain⟨W2,o⟩:∃W2,W2=W1.setRow w.heap.size (splice row (i*3) [.int .i32 x,.int .i32 y,.int .u8 k]).toArray:=⟨_,rfl⟩;rw[<- o]at S;have Y:Hid (W2.heap[w.heap.size]?=some (.cells (splice row (i*3) [.int .i32 x,.int .i32 y,.int .u8 k]).toArray 173 (0,0))):=by
  show _=_;rw[o];exact setRow_heap W1 w.heap.size _ _ _ _ I.out
 have c:Hid (Below w.heap.size w W2):=by show Below _ _ _;rw[o];exact below_setRow D.out (ar _) _
 have X:Hid ((aG (L.drop i)).length=Nat.min (L.length-i) (L.length+1-(i+1))*3):=by
  show _=_;rw[ci,gg];congr 1;simp only[Nat.min_def];split<;>omega
 have a1:Hid (∀j v,(aG (L.drop i))[j]?=some v->W2.cell? ((⟨g,i*3,none⟩:Addr).add j)=some v):=fun j v a=>by
  rw[om,<- E.out,List.getElem?_drop,bJ]at a;split at a
  ·rw[Addr.add_lit];exact(c.out.cell (p:=⟨g,_,none⟩) a9).trans (ab F.out _ _ (by simpa using a))
  ·cases a
 have H:Hid ((i+1)*3+(aG (L.drop i)).length<=(splice row (i*3) [.int .i32 x,.int .i32 y,.int .u8 k]).length):=by
  show _<=_;rw[ci,gg,length_splice _ _ _ t.out];omega
 have c8:IntKind.i64.wrap ((i:Int)+1)=(i:Int)+1:=by rw[IntKind.wrap_i64];omega
 have b6:(0:Int)<=(i:Int)+1:=by omega
 have c0:i<=L.length:=by omega
 have c7:((i:Int)+1).toNat=i+1:=by omega
 have z:(i:Int)<=(L.length:Int):=by omega
 have b7:i<=L.length+1:=by omega
 have c9:¬((i:Int)=(L.length:Int)):=by omega
 have e0:¬(G=i+1):=by omega
 have e1:¬(G=i):=by omega
 have e2:¬(L.length=i):=by omega
 have b5:G<=9223372036854775807:=by unfold maxLen at J;omega
 clear h B hg K R r m n o Q A N U V C;go_enter func205,ntmps205;go_wp2_with (first|(at_builtin;refine Lib.wpList_append_run _ rfl _ _ _ _ rfl _ _ rfl rfl _ _ (T _) ?_)|simp only[S])
 go_region_law
  (refine vI rfl (.tmp 50) (.tmp 53) 79 rfl 173 3 Tryz.ou tp w.heap.size ((i+1)*3) (L.length+1-(i+1)) (G-(i+1)) ⟨g,i*3,none⟩ (L.length-i) (L.length-i) (by simp[Act.eval,Act.put]) (by simp[Act.eval,Act.put]) (splice row (i*3) [.int .i32 x,.int .i32 y,.int .u8 k]) 173 Y.out (aG (L.drop i)) X.out a1.out H.out (pH _) ?_
   intro W3 z f;have Z:Hid (W3.heap[w.heap.size]?=some (.cells (splice (splice row (i*3) [.int .i32 x,.int .i32 y,.int .u8 k]) ((i+1)*3) (aG (L.drop i))).toArray 173 (0,0))):=z;have l:Hid (bj (fun k=>k=w.heap.size) W2 W3):=⟨f.os,f.tape,f.output,f.size,f.block⟩;clear z f)
 go_wp2_with fail;go_ret;have hlen:(kg L i (x,y,k)).length=L.length+1:=by unfold kg;simp;omega
 refine⟨_,rfl,⟨by rw[ci],ac ⟨w.heap.size,G,_,?_,a8,Z.out,?_,J,?_,?_⟩⟩,?_⟩
 ·show Value.slice _ _ _=Value.slice _ _ _;rw[hlen]
 ·rw[hlen];exact a7
 ·rw[ky,length_splice _ _ _ H.out,length_splice _ _ _ t.out];exact b1
 ·rw[hlen];exact splice3 hi b2
 ·exact⟨l.out.os.trans c.out.os,l.out.tape.trans c.out.tape,l.out.output.trans c.out.output,aE c.out.size l.out.size,fun k O c3=>by
   rw[l.out.block k (cI O c.out.size) (fun e=>by have:k=w.heap.size:=e;omega),c.out.block k O]⟩
theorem NK(base i:Nat)(v:Value)(L:List (Int×Int×Nat))(x y:Int)(k q:Nat)(w:World)(h:rR base w v L)(a:L.length<=2000)(c:base<=w.heap.size)(hi:i<=L.length)(j:v.ownBlock≠some q) (b:w.heap[q]?=some (.cells #[.int .i32 x,.int .i32 y,.int .u8 k] 173 (0,0))):Calls prog 205 #[v,.int .i64 i,.slice (some ⟨q,0,none⟩) 1 1] w (pZ base L i (x,y,k) v w):=by
 by_cases f:i=L.length
 ·subst f;exact NJ base v L x y k q w h a c b
 ·have d:i<L.length:=by omega
  rcases h.2 with⟨_,o⟩|⟨g,au,n,m,_⟩
  ·omega
  ·subst m
   by_cases l:L.length+1<=au
   ·exact HU base g i au L x y k q w h a d l (fun e=>j (by rw[e];rfl)) b
   ·exact KX base g i au L x y k q w h a c d (by omega) b
def hB(L:List (Int×Int×Nat)):Prop:=(∀o∈L,o.1<=o.2.1)/\∀(i j:Nat) (a b:Int×Int×Nat),i<j->L[i]?=some a->L[j]?=some b->a.2.1<b.1
theorem hB.ends{L:List (Int×Int×Nat)}(h:hB L):oQ L:=fun i j a b g d hb=>by
 have h1:=h.2 i j a b g d hb;have n:=h.1 b (bC hb);omega
def Qm(base:Nat)(w:World)(v:Value)(l:List (Int×Int×Nat)):Prop:=∃L,L.Perm l/\rR base w v L/\hB L
theorem Eh{x y:Int}{L l:List (Int×Int×Nat)}(h:L.Perm l):RS.meets x y (ln L)=RS.meets x y (ln l):=by
 unfold RS.meets ln;exact(h.map _).any_eq
theorem rA{L:List (Int×Int×Nat)}{x y:Int}{i:Nat}(h:hB L)(k:ea L x i i):RS.meets x y (ln L)=(match L[i]? with|some o=>ht o.1 o.2.1 x y|none=>false):=by
 rw[kv];constructor
 ·intro a;unfold RS.meets ln at a;rw[List.any_eq_true]at a;obtain⟨r,g,a⟩:=a;rw[aN]at g;obtain⟨o,l,rfl⟩:=g;obtain⟨j,c⟩:=e3.1 l;simp at a;have q:i<=j:=by
   by_cases hc:i<=j
   ·exact hc
   ·have:=k.1 j o (by omega) c;omega
  have b:i<L.length:=by
   have:=(a1.1 c).1;omega
  rw[ax b];have p:=k.2 i _ (ar _) (ax b);have n:L[i].1<=y:=by
   by_cases e:i=j
   ·subst e;rw[ax b]at c;cases c;omega
   ·have h1:=h.2 i j _ o (by omega) (ax b) c;have m:=h.1 _ (bl b);omega
  show ht _ _ _ _=true;unfold ht;simp;omega
 ·intro a;cases d:L[i]? with
  | none=>rw[d]at a;cases a
  | some o =>
   rw[d]at a;unfold RS.meets ln;rw[List.any_eq_true];refine⟨_,aN.2 ⟨o,bC d,rfl⟩,?_⟩;have f:ht o.1 o.2.1 x y=true:=a;unfold ht at f;simp at f ⊢;omega
theorem yF(L:List (Int×Int×Nat))(i:Nat)(e:Int×Int×Nat):(kg L i e).Perm (L++[e]):=by
 unfold kg;rw[eG];have h1:([e]++L.drop i).Perm (L.drop i++[e]):=List.perm_append_comm;have a:=h1.append_left (L.take i);rw[<- eG (L.take i) (L.drop i),List.take_append_drop]at a;exact a
theorem F6(L:List (Int×Int×Nat))(i:Nat)(e:Int×Int×Nat)(hi:i<=L.length)(j:Nat)(o:Int×Int×Nat)(h:(kg L i e)[j]?=some o):(j<i/\L[j]?=some o)\/(j=i/\o=e)\/(i<j/\L[j-1]?=some o):=by
 unfold kg at h;rw[eG]at h;have b:(L.take i).length=i:=by rw[cz];omega
 by_cases h1:j<i
 ·rw[dD (by omega),bJ,ag h1]at h;exact ah ⟨h1,h⟩
 ·rw[eH (by omega),b]at h
  by_cases a:j=i
  ·subst a;simp at h;exact ac (ah ⟨rfl,h.symm⟩)
  ·rw[eH (by simp;omega),List.getElem?_drop]at h;exact ac (ac ⟨by omega,by simp at h;rw[show j-1=i+(j-i-1) by omega];exact h⟩)
theorem hB.ins{L:List (Int×Int×Nat)}{x y:Int}{k i:Nat}(h:hB L)(hi:i<=L.length)(u:ea L x i i)(F:x<=y)(E:RS.meets x y (ln L)=false):hB (kg L i (x,y,k)):=by
 have B:∀j o,i<=j->L[j]?=some o->y<o.1:=fun j o H d=>by
  have n:i<L.length:=by
   have:=(a1.1 d).1;omega
  have e:=rA (y:=y) h u;rw[E,ax n]at e;have t:ht L[i].1 L[i].2.1 x y=false:=e.symm;have G:=u.2 i _ (ar _) (ax n);have C:y<L[i].1:=by
   unfold ht at t;simp at t
   by_cases hc:L[i].1<=y
   ·have:=t hc;omega
   ·omega
  by_cases v:i=j
  ·subst v;rw[ax n]at d;cases d;exact C
  ·have h1:=h.2 i j _ o (by omega) (ax n) d;have g:=h.1 _ (bl n);omega
 refine⟨fun o d=>?_,fun a b q ob A w hb=>?_⟩
 ·rw[(yF L i (x,y,k)).mem_iff,aR]at d;rcases d with d|d
  ·exact h.1 o d
  ·simp at d;subst d;exact F
 ·rcases F6 L i _ hi a q w with⟨h1,g⟩|⟨h1,g⟩|⟨h1,g⟩<;>rcases F6 L i _ hi b ob hb with⟨g1,g2⟩|⟨g1,g2⟩|⟨g1,g2⟩
  ·exact h.2 a b q ob A g g2
  ·subst g2;exact u.1 a q h1 g
  ·exact h.2 a (b-1) q ob (by omega) g g2
  ·omega
  ·omega
  ·subst g;exact B (b-1) ob (by omega) g2
  ·omega
  ·omega
  ·exact h.2 (a-1) (b-1) q ob (by omega) g g2
theorem H5(base b:Nat)(T:ai)(l a vL:Value)(s:PS)(L:List (Int×Int×Nat))(c:Int)(w:World)(d:e4 w b T l a vL s)(h:rR base w a L)(j:L.length<=2000)(g:oQ L):Calls prog 190 #[.pointer (some ⟨b,4,none⟩),.int .i32 c] w fun r w'=>(∃i:Nat,r=.returned (.int .i64 i)/\i<=L.length/\ea L c i i)/\Below w.heap.size w w':=by
 have n:=(dA d.da).2.2.2.2.1;have e:Hid (rR base w a L):=h;obtain⟨m,au,rfl⟩:=ak h;clear h d;go_enter func190,ntmps190;go_wp2_with fail;refine(P0 base _ L c w e.out j g).mono ?_;rintro r o ⟨⟨i,f,rfl,hi,k⟩,b1⟩;go_wp2_with fail;go_ret;exact⟨⟨i,rfl,hi,k⟩,b1⟩
open Go.Maps Go.Lib
structure mf (s:ai) (k:Nat):Prop where
 pos:1<=k
 three:k<=3
 fits:k<=s.size
 open_:∀j,2<=j->j<=k->kj (s.extract 0 j)=false
 shut:k=s.size\/kj (s.extract 0 (k+1))=true
theorem firstT_low(b:Nat):firstT b%8<=4:=by rcases firstT_cases b with h|h|h|h|h|h|h|h|h<;>rw[h]<;>decide
theorem H1{s:ai}(h:4<=s.size):kj s=true:=by
 unfold kj;rw[ae (by omega)];unfold mp;rw[ag (aE (firstT_low _) h)]
theorem C7(s:ai)(w:World)(v:Utf8Tabs 2 3 w)(u:2<w.heap.size/\3<w.heap.size)(h1:1<=s.size):Calls prog 150 #[.string s] w fun r w'=>(∃k:Nat,r=.returned (.int .i64 k)/\mf s k)/\Below w.heap.size w w':=by
 have g:Hid (Utf8Tabs 2 3 w):=v;have f:Hid (2<w.heap.size/\3<w.heap.size):=u;clear v u;go_enter func150,ntmps150;go_wp2_with fail
 go_loopg [3] 4 (fun C H J=>∃k:Nat,1<=k/\k<=3/\k<=s.size/\C+k=5/\H=.int .i64 k/\Hid (∀j,2<=j->j<=k->kj (s.extract 0 j)=false)/\Hid (Below w.heap.size w J))
 case atStart=>exact⟨1,ar _,by omega,h1,rfl,rfl,(fun j h1 q=>by omega),aB _ _⟩
 case round =>
  obtain⟨k,y,z,A,L,rfl,l,a⟩:=hrel;obtain⟨b,G⟩:∃b,b=wr:=⟨wr,rfl⟩;subst G;have D:=a.out.size
  by_cases N:k<s.size
  ·have E:(s.extract 0 (k+1)).size=k+1:=by rw[ek];omega
   have o:Utf8Tabs 2 3 b:=⟨fun c hc=>(a.out.cell (p:=⟨_,c,none⟩) f.out.1).trans (g.out.1 c hc),fun i hi=>⟨(a.out.cell (p:=⟨_,2*i,none⟩) f.out.2).trans (g.out.2 i hi).1,(a.out.cell (p:=⟨_,2*i+1,none⟩) f.out.2).trans (g.out.2 i hi).2⟩⟩;have m:=Cz (s.extract 0 (k+1)) b o (by omega);have B:Hid (4<=k+1->kj (s.extract 0 (k+1))=true):=fun h=>H1 (by omega)
   obtain⟨F,hF⟩:∃F,F=kj (s.extract 0 (k+1)):=⟨_,rfl⟩;rw[<- hF]at m;have d:Hid (F=kj (s.extract 0 (k+1))):=hF;have hd:decide ((k:Int)<(s.size:Int))=true:=by simp;omega
   clear o hF E;go_wp2_with fail;refine m.mono ?_;rintro r I ⟨rfl,x⟩;have n:Hid (Below w.heap.size w I):=a.out.trans (x.mono D);clear m x a;cases F with
   | true =>
    go_wp2_with fail;go_ret;exact⟨⟨k,rfl,⟨y,z,A,l.out,ac d.out.symm⟩⟩,n.out⟩
   | false =>
    have M:k<3:=by
     rcases cF k 3 with h|h
     ·exact h
     ·have t:=B.out (by omega);rw[<- d.out]at t;cases t
    go_wp2_with fail;go_roundg (4-k)
    case measure=>omega
    case rel =>
     refine⟨k+1,by omega,by omega,by omega,by omega,by go_num,?_,n⟩;intro j q K
     by_cases e:j=k+1
     ·rw[e];exact d.out.symm
     ·exact l.out j q (by omega)
  ·have hd:decide ((k:Int)<(s.size:Int))=false:=by simp;omega
   go_wp2_with fail;go_ret;exact⟨⟨k,rfl,⟨y,z,A,l.out,ah (by omega)⟩⟩,a.out⟩
theorem Ob(base:Nat)(v:Value)(L:List (Int×Int×Nat))(c:Int)(w:World)(h:rR base w v L)(O:L.length<=100000)(y:oQ L):Calls prog 213 #[v,.int .i32 c,.func (.func 214) #[] #[]] w fun r w' =>(∃(i:Nat) (f:Bool),r=.returned (.tuple #[.int .i64 i,.bool f])/\i<=L.length/\ea L c i i)/\Below w.heap.size w w':=by
 obtain⟨C,au,rfl,A⟩:=iN h;have x:Hid (∀i (hi:i<L.length),∃g,C=some ⟨g,0,none⟩/\g<w.heap.size/\w.cell? ⟨g,i*3,none⟩=some (.int .i32 L[i].1)/\w.cell? ⟨g,i*3+1,none⟩=some (.int .i32 L[i].2.1)/\w.cell? ⟨g,i*3+2,none⟩=some (.int .u8 L[i].2.2)):=A;have M:∀(args:Array Value) (w:World),(callFunc 214 args).run prog w=.ok (.enter 214 args) w:=enters_of func214 (by kernel_rfl) rfl;clear A h;go_enter func213,ntmps213;go_wp2_with fail
 go_loopg [9,10] L.length (fun g G H J=>∃i j:Nat,i<=j/\j<=L.length/\g=j-i/\G=.int .i64 i/\H=.int .i64 j/\Hid (ea L c i j)/\Below w.heap.size w J)
 case atStart=>exact⟨0,L.length,aJ _,ar _,rfl,rfl,rfl,⟨fun k o E=>by omega,fun k o E B=>by rw[gB (by omega)]at B;cases B⟩,aB _ _⟩
 case round =>
  obtain⟨i,j,N,t,rfl,rfl,rfl,a,hb⟩:=hrel;obtain⟨q,F⟩:∃q,q=wr:=⟨wr,rfl⟩;subst F
  by_cases P:i<j
  ·have u:(i+j)/2<L.length:=by omega
   obtain⟨g,rfl,hg,d,l,m⟩:=x.out ((i+j)/2) u;have d0:=(hb.cell (p:=⟨g,(i+j)/2*3,none⟩) hg).trans d;have d1:=(hb.cell (p:=⟨g,(i+j)/2*3+1,none⟩) hg).trans l;have d2:=(hb.cell (p:=⟨g,(i+j)/2*3+2,none⟩) hg).trans m;clear d l m;go_wp2_with fail;refine(nY _ _ _ c q).mono ?_;rintro r I ⟨rfl,b2⟩;have n:=hb.trans (b2.mono hb.size)
   by_cases b:L[(i+j)/2].2.1<c
   ·have e:mu L[(i+j)/2].2.1 c=-1:=by unfold mu;rw[ag b]
    rw[e];have s:Hid (ea L c ((i+j)/2+1) j):=a.out.up y u b;clear a b e;go_wp2_with fail;go_roundg (j-((i+j)/2+1))
    case measure=>omega
    case rel=>exact⟨(i+j)/2+1,j,by omega,t,rfl,by go_num,rfl,s,n⟩
   ·have s:Hid (ea L c i ((i+j)/2)):=a.out.down y u b;have e:0<=mu L[(i+j)/2].2.1 c:=by unfold mu;rw[ae b];split<;>decide
    generalize mu L[(i+j)/2].2.1 c=z at e ⊢;have K:¬z<0:=by omega
    clear a b;go_wp2_with fail;go_roundg ((i+j)/2-i)
    case measure=>omega
    case rel=>exact⟨i,(i+j)/2,by omega,by omega,rfl,rfl,by go_num,s,n⟩
  ·obtain rfl:i=j:=by omega
   by_cases D:i<L.length
   ·obtain⟨g,rfl,hg,d,l,m⟩:=x.out i D;have d0:=(hb.cell (p:=⟨g,i*3,none⟩) hg).trans d;have d1:=(hb.cell (p:=⟨g,i*3+1,none⟩) hg).trans l;have d2:=(hb.cell (p:=⟨g,i*3+2,none⟩) hg).trans m;clear d l m;go_wp2_with fail;refine(nY _ _ _ c q).mono ?_;rintro r I ⟨rfl,b2⟩;have n:=hb.trans (b2.mono hb.size);go_wp2_with fail;refine bodyPost_ret (lO rfl _ _) rfl ?_;exact⟨⟨i,_,rfl,t,a.out⟩,n⟩
   ·go_wp2_with fail;refine bodyPost_ret (lO rfl _ _) rfl ?_;exact⟨⟨i,_,rfl,t,a.out⟩,hb⟩
theorem LA(base b o:Nat)(a:Value)(L:List (Int×Int×Nat))(c:Int)(w:World)(hc:w.cell? ⟨b,o,none⟩=some a)(h:rR base w a L)(g:L.length<=100000)(e:oQ L):Calls prog 190 #[.pointer (some ⟨b,o,none⟩),.int .i32 c] w fun r w'=>(∃i:Nat,r=.returned (.int .i64 i)/\i<=L.length/\ea L c i i)/\Below w.heap.size w w':=by
 have d:Hid (rR base w a L):=h;obtain⟨k,au,rfl⟩:=ak h;clear h;go_enter func190,ntmps190;go_wp2_with fail;refine(Ob base _ L c w d.out g e).mono ?_;rintro r l ⟨⟨i,f,rfl,hi,j⟩,b1⟩;go_wp2_with fail;go_ret;exact⟨⟨i,rfl,hi,j⟩,b1⟩
def ku(L:List (Int×Int×Nat))(c:Int)(k:Nat):Prop:=(∃o∈L,o.1<=c/\c<=o.2.1/\o.2.2=k)\/((∀o∈L,¬(o.1<=c/\c<=o.2.1))/\k=6)
theorem Er{L:List (Int×Int×Nat)}{c:Int}{i:Nat}(h:ea L c i i)(hi:L.length<=i):ku L c 6 :=
 ac ⟨fun o b ⟨_,d⟩=>by
  obtain⟨j,a⟩:=e3.1 b;have e:=(a1.1 a).1;have:=h.1 j o (by omega) a;omega,rfl⟩
theorem HQ{L:List (Int×Int×Nat)}{c:Int}{i:Nat}{o:Int×Int×Nat}(h:ea L c i i)(a:L[i]?=some o)(h1:o.1<=c):ku L c o.2.2 :=
 ah ⟨o,bC a,h1,h.2 i o (ar _) a,rfl⟩
theorem Ep{L:List (Int×Int×Nat)}{c:Int}{i:Nat}{o:Int×Int×Nat}(f:hB L)(h:ea L c i i)(b:L[i]?=some o)(h1:¬o.1<=c):ku L c 6 :=
 ac ⟨fun p g ⟨d,k⟩=>by
  obtain⟨j,a⟩:=e3.1 g;rcases Nat.lt_trichotomy j i with e|e|e
  ·have:=h.1 j p e a;omega
  ·subst e;rw[b]at a;cases a;exact h1 d
  ·have l:=f.2 i j o p e b a;have m:=h.2 i o (ar _) b;omega,rfl⟩
theorem Pl(base b o:Nat)(j:Value)(L:List (Int×Int×Nat))(c:Int)(w:World)(hc:w.cell? ⟨b,o,none⟩=some j)(h:rR base w j L)(C:L.length<=100000)(f:hB L):Calls prog 151 #[.pointer (some ⟨b,o,none⟩),.int .i32 c] w fun r w'=>(∃k:Nat,r=.returned (.int .u8 k)/\ku L c k)/\Below w.heap.size w w':=by
 have q:=LA base b o j L c w hc h C f.ends;have z:=gP hc;obtain⟨y,au,rfl,s⟩:=iN h;have v:Hid (∀i (hi:i<L.length),∃g,y=some ⟨g,0,none⟩/\g<w.heap.size/\w.cell? ⟨g,i*3,none⟩=some (.int .i32 L[i].1)/\w.cell? ⟨g,i*3+1,none⟩=some (.int .i32 L[i].2.1)/\w.cell? ⟨g,i*3+2,none⟩=some (.int .u8 L[i].2.2)):=s;have x:Hid (hB L):=f;clear s h f;go_enter func151,ntmps151;go_wp2_with fail;refine q.mono ?_;rintro r D ⟨⟨i,rfl,hi,u⟩,b1⟩;have d:Hid (ea L c i i):=u;have a:Hid (Below w.heap.size w D):=b1;have E:=(b1.cell (p:=⟨b,o,none⟩) z).trans hc;clear u q
 by_cases t:i<L.length
 ·obtain⟨g,rfl,hg,m,c3,n⟩:=v.out i t;have d2:=(b1.cell (p:=⟨g,i*3,none⟩) hg).trans m;have d3:=(b1.cell (p:=⟨g,i*3+1,none⟩) hg).trans c3;have d4:=(b1.cell (p:=⟨g,i*3+2,none⟩) hg).trans n;have l:Hid (L[i]?=some L[i]):=ax t;generalize L[i]=e at *;have hd:decide ((i:Int)<(L.length:Int))=true:=by simp;omega
  clear m c3 n b1
  by_cases B:e.1<=c
  ·have A:decide (e.1<=c)=true:=by simp;omega
   go_wp2_with fail;go_ret;exact⟨⟨_,rfl,HQ d.out l.out B⟩,a.out⟩
  ·have A:decide (e.1<=c)=false:=by simp;omega
   go_wp2_with fail;go_ret;exact⟨⟨6,rfl,Ep x.out d.out l.out (by omega)⟩,a.out⟩
 ·have hd:decide ((i:Int)<(L.length:Int))=false:=by simp;omega
  clear b1;go_wp2_with fail;go_ret;exact⟨⟨6,rfl,Er d.out (by omega)⟩,a.out⟩
def k6(L:List (Int×Int×Nat))(s:ai)(k n:Nat):Prop :=
 ((decodeGo s).1=65533/\(decodeGo s).2=1/\k=7/\mf s n)\/(¬((decodeGo s).1=65533/\(decodeGo s).2=1)/\n=(decodeGo s).2/\ku L ((decodeGo s).1:Int) k)
theorem Av{s:ai}(h:1<=s.size):1<=(decodeGo s).2:=by
 unfold decodeGo;rw[ae (by omega),decode_at];unfold decodeN
 repeat' split
 all_goals simp
theorem k6.bounds{L:List (Int×Int×Nat)}{s:ai}{k n:Nat}(h:k6 L s k n)(h1:1<=s.size)(d:∀o∈L,o.2.2<8):1<=n/\n<=4/\n<=s.size/\k<8:=by
 rcases h with⟨_,_,rfl,hb⟩|⟨_,rfl,g⟩
 ·exact⟨hb.pos,aE hb.three (by omega),hb.fits,by omega⟩
 ·refine⟨Av h1,decodeGo_le4 s,decodeGo_le_size s,?_⟩;rcases g with⟨o,i,_,_,rfl⟩|⟨_,rfl⟩
  ·exact d o i
  ·omega
theorem ET(base b o:Nat)(C:Value)(L:List (Int×Int×Nat))(s:ai)(w:World)(t:Utf8Tabs 2 3 w)(l:2<w.heap.size/\3<w.heap.size)(hc:w.cell? ⟨b,o,none⟩=some C)(h:rR base w C L)(N:L.length<=100000)(G:hB L)(h1:1<=s.size):Calls prog 98 #[.string s,.pointer (some ⟨b,o,none⟩)] w fun r w'=>(∃k n:Nat,r=.returned (.tuple #[.int .u8 k,.int .i64 n])/\k6 L s k n)/\Below w.heap.size w w':=by
 have A:Calls prog 149 #[.string s] w fun e w'=>e=.returned (.tuple #[.int .i32 (decodeGo s).1,.int .i64 (decodeGo s).2])/\Below w.heap.size w w':=by
  have hd:=Any.utf8_DecodeRuneInString Tryz.laysDec s w (by
   rw[show Tryz.laysDec_ren.g 3=2 from by kernel_rfl,show Tryz.laysDec_ren.g 4=3 from by kernel_rfl];exact t)
  rw[show Tryz.laysDec_ren.f 197=149 from by kernel_rfl]at hd;exact hd
 obtain⟨c,z⟩:∃c,c=(decodeGo s).1:=⟨_,rfl⟩;obtain⟨m,B⟩:∃m,m=(decodeGo s).2:=⟨_,rfl⟩;rw[<- z,<- B]at A;have v:Hid (c=(decodeGo s).1):=z;have x:Hid (m=(decodeGo s).2):=B;have J:=gP hc;have F:Hid (∀a,Below w.heap.size w a->Utf8Tabs 2 3 a):=fun a d=>⟨fun c hc=>(d.cell (p:=⟨_,c,none⟩) l.1).trans (t.1 c hc),fun i hi=>⟨(d.cell (p:=⟨_,2*i,none⟩) l.2).trans (t.2 i hi).1,(d.cell (p:=⟨_,2*i+1,none⟩) l.2).trans (t.2 i hi).2⟩⟩
 have D:Hid (∀a,Below w.heap.size w a->Calls prog 151 #[.pointer (some ⟨b,o,none⟩),.int .i32 c] a fun r w'=>(∃k:Nat,r=.returned (.int .u8 k)/\ku L c k)/\Below a.heap.size a w'):=fun a d=>Pl base b o C L c a ((d.cell (p:=⟨b,o,none⟩) J).trans hc) (al h (Kp.below d)) N G
 have I:Hid (∀a,Below w.heap.size w a->Calls prog 150 #[.string s] a fun r w'=>(∃k:Nat,r=.returned (.int .i64 k)/\mf s k)/\Below a.heap.size a w'):=fun a d=>C7 s a (F.out a d) ⟨cI l.1 d.size,cI l.2 d.size⟩ h1
 clear t l hc h G z B F;go_enter func98,ntmps98;go_wp2_with fail;refine A.mono ?_;rintro r a ⟨rfl,b1⟩;have j:Hid (Below w.heap.size w a):=b1;clear A b1
 by_cases q:c=65533
 ·have K:((c:Int)==65533)=true:=by simp;omega
  by_cases y:m=1
  ·have M:((m:Int)==1)=true:=by simp;omega
   have E:Hid ((decodeGo s).1=65533/\(decodeGo s).2=1):=⟨by rw[<- v.out,q],by rw[<- x.out,y]⟩;clear q y;go_wp2_with fail;refine(I.out a j.out).mono ?_;rintro r H ⟨⟨k,rfl,u⟩,b2⟩;go_wp2_with fail
   go_ret2
   exact⟨⟨7,k,rfl,ah ⟨E.out.1,E.out.2,rfl,u⟩⟩,j.out.trans (b2.mono j.out.size)⟩
  ·have M:((m:Int)==1)=false:=by simp;omega
   have E:Hid (¬((decodeGo s).1=65533/\(decodeGo s).2=1)):=fun h=>y (by rw[x.out,h.2])
   clear q y;go_wp2_with fail;refine(D.out a j.out).mono ?_;rintro r H ⟨⟨k,rfl,u⟩,b2⟩;go_wp2_with fail
   go_ret2
   exact⟨⟨k,m,rfl,ac ⟨E.out,x.out,by rw[<- v.out];exact u⟩⟩,j.out.trans (b2.mono j.out.size)⟩
 ·have K:((c:Int)==65533)=false:=by simp;omega
  have E:Hid (¬((decodeGo s).1=65533/\(decodeGo s).2=1)):=fun h=>q (by rw[v.out,h.1])
  clear q;go_wp2_with fail;refine(D.out a j.out).mono ?_;rintro r H ⟨⟨k,rfl,u⟩,b2⟩;go_wp2_with fail
  go_ret2
  exact⟨⟨k,m,rfl,ac ⟨E.out,x.out,by rw[<- v.out];exact u⟩⟩,j.out.trans (b2.mono j.out.size)⟩
theorem Tryz.K5:(prog.info? 169).map (fun i=>(i.zero,i.size,i.bytes))=some (some (.int .u8 0),1,1):=by kernel_rfl
theorem Tryz.Ov:prog.underlying 91=some (.slice 169):=by kernel_rfl
theorem Tryz.Py:(prog.info? 5).map (fun i=>(i.zero,i.size,i.bytes))=some (some (.int .u8 0),1,1):=by kernel_rfl
theorem Tryz.Qw:prog.underlying 63=some (.slice 5):=by kernel_rfl
inductive c8 (L:List (Int×Int×Nat)) (s:ai):Nat->List Nat->List Nat->Prop where
 | nil:c8 L s 0 [] []
 | snoc {p:Nat} {ks ns:List Nat} {k n:Nat} (h:c8 L s p ks ns) (hp:p<s.size) (hc:k6 L (s.extract p s.size) k n):c8 L s (p+n) (ks++[k]) (ns++[n])
structure GF (s:ai) (p:Nat) (ks ns:List Nat):Prop where
 len:ks.length=ns.length
 sum:ns.sum=p
 fits:p<=s.size
 kinds:∀k∈ks,k<8
 JF:∀n∈ns,1<=n/\n<=4
 iL:ns.length<=p
theorem c8.ok{L:List (Int×Int×Nat)}(i:∀o∈L,o.2.2<8){s:ai}{p:Nat}{g ns:List Nat}(h:c8 L s p g ns):GF s p g ns:=by
 induction h with
 | nil=>exact⟨rfl,rfl,aJ _,by simp,by simp,ar _⟩
 | @snoc p g ns k n h t hc d =>
  have u:(s.extract p s.size).size=s.size-p:=by rw[ek];omega
  have hb:=hc.bounds (by omega) i;refine⟨by simp[d.len],by simp[d.sum],by omega,fun k' j=>?_,fun v q=>?_,by simp;have:=d.iL;omega⟩
  ·rcases aR.1 j with h|h
   ·exact d.kinds _ h
   ·simp at h;rw[h];exact hb.2.2.2
  ·rcases aR.1 q with h|h
   ·exact d.JF _ h
   ·simp at h;rw[h];exact⟨hb.1,hb.2.1⟩
theorem kK(a:List Nat)(k:Nat):bI (a++[k])=bI a++[.int .u8 (k:Nat)]:=by unfold bI;rw[c9];rfl
theorem zK(k:Nat):∀u∈[Value.int .u8 (k:Nat)],u.oneCell'=true:=by intro u hu;simp at hu;subst hu;rfl
structure my (base:Nat) (W:World) (n0:Nat) (vK vN:Value) (ks ns:List Nat):Prop where
 b0:W.heap[n0]?=some (.cells #[.slice none 0 0,.slice none 0 0] 104 (0,0))
 b1:W.heap[n0+1]?=some (.cells #[vK,vN] 104 (0,0))
 rk:W.ownsRow base 169 1 vK ks.length (bI ks)
 rn:W.ownsRow base 5 1 vN ns.length (bI ns)
theorem my.below{base:Nat}{W d:World}{i:Nat}{j n:Value}{g ns:List Nat}(h:my base W i j n g ns)(hb:Below W.heap.size W d):my base d i j n g ns :=
 ⟨(hb.block _ (an h.b0)).trans h.b0,(hb.block _ (an h.b1)).trans h.b1,al h.rk (Kp.below hb),al h.rn (Kp.below hb)⟩
theorem my.QP{base h:Nat}{W W3:World}{i j n:Option Addr}{o q t:Nat}{d ns:List Nat}{k:Nat}(D:my base W h (.slice i d.length o) (.slice j ns.length q) d ns)(v:W3.ownsRow base 169 1 (.slice n (d.length+1) t) (d.length+1) (bI d++[.int .u8 (k:Nat)]))(u:W.grownBy W3 (Value.slice i d.length o).ownBlock):W3.heap[h+1]?=some (.cells #[.slice i d.length o,.slice j ns.length q] 104 (0,0))/\my base (W3.setCell ⟨h+1,0,none⟩ (.slice n (d.length+1) t)) h (.slice n (d.length+1) t) (.slice j ns.length q) (d++[k]) ns:=by
 have g:=br D.b1 (Kp.refl _ _) D.rk u (by decide);have w:=br D.b0 (Kp.refl _ _) D.rk u (by decide);refine⟨g,⟨(aD (by omega)).trans w,(am g 0 _).trans rfl,?_,al (al D.rn ((Kp.refl _ _).grown D.rk u (by decide))) ((Kp.refl _ _).setCell g (by decide) _)⟩⟩;rw[aF,kK];exact al v ((Kp.refl _ _).setCell g (by decide) _)
theorem my.QO{base g:Nat}{W W3:World}{h i j:Option Addr}{o q t m:Nat}{v ns:List Nat}{n:Nat}(D:my base W g (.slice h m o) (.slice i ns.length q) v ns)(w:W3.ownsRow base 5 1 (.slice j (ns.length+1) t) (ns.length+1) (bI ns++[.int .u8 (n:Nat)]))(u:W.grownBy W3 (Value.slice i ns.length q).ownBlock):W3.heap[g+1]?=some (.cells #[.slice h m o,.slice i ns.length q] 104 (0,0))/\my base (W3.setCell ⟨g+1,1,none⟩ (.slice j (ns.length+1) t)) g (.slice h m o) (.slice j (ns.length+1) t) v (ns++[n]):=by
 have d:=br D.b1 (Kp.refl _ _) D.rn u (by decide);have x:=br D.b0 (Kp.refl _ _) D.rn u (by decide);refine⟨d,⟨(aD (by omega)).trans x,(am d 1 _).trans rfl,al (al D.rk ((Kp.refl _ _).grown D.rn u (by decide))) ((Kp.refl _ _).setCell d (by decide) _),?_⟩⟩;rw[aF,kK];exact al w ((Kp.refl _ _).setCell d (by decide) _)
theorem my.Pg{w:World}{d:Nat}{W W3:World}{v q i:Option Addr}{x t o:Nat}{g ns:List Nat}{k:Nat}(n:Nat)(C:w.heap.size=d)(D:my d W d (.slice v g.length x) (.slice q ns.length t) g ns)(y:Below d w W)(K:W3.ownsRow d 169 1 (.slice i (g.length+1) o) (g.length+1) (bI g++[.int .u8 (k:Nat)]))(B:W.grownBy W3 (Value.slice v g.length x).ownBlock):W3.cell? ⟨d+1,0,none⟩=some (.slice v g.length x)/\(∀j,W3.frozen? ⟨d+1,j,none⟩=false)/\(W3.setCell ⟨d+1,0,none⟩ (.slice i (g.length+1) o)).cell? ⟨d+1,1,none⟩=some (.slice q ns.length t)/\((W3.setCell ⟨d+1,0,none⟩ (.slice i (g.length+1) o)).alloc (.cells #[.int .u8 (n:Nat)] 5)).cell? ⟨d+1,1,none⟩=some (.slice q ns.length t)/\Below d w ((W3.setCell ⟨d+1,0,none⟩ (.slice i (g.length+1) o)).alloc (.cells #[.int .u8 (n:Nat)] 5))/\my d ((W3.setCell ⟨d+1,0,none⟩ (.slice i (g.length+1) o)).alloc (.cells #[.int .u8 (n:Nat)] 5)) d (.slice i (g.length+1) o) (.slice q ns.length t) (g++[k]) ns/\(∀(j:Nat) (u:Value),[Value.int .u8 (n:Nat)][j]?=some u->((W3.setCell ⟨d+1,0,none⟩ (.slice i (g.length+1) o)).alloc (.cells #[.int .u8 (n:Nat)] 5)).cell? ⟨W3.heap.size,j,none⟩=some u):=by
 obtain⟨E,d2⟩:=D.QP K B;have H:d<=W.heap.size:=by rw[<- C];exact y.size
 have G:Below d w W3:=y.grown B H (fun k I=>(D.rk.lt k I).1);have J:=an d2.b1;have F:(W3.setCell ⟨d+1,0,none⟩ (.slice i (g.length+1) o)).cell? ⟨d+1,1,none⟩=some (.slice q ns.length t):=ab d2.b1 1 _ rfl;have A:Below d w (W3.setCell ⟨d+1,0,none⟩ (.slice i (g.length+1) o)):=G.setCell (by show d<=d+1;omega) _;refine⟨ab E 0 _ rfl,aq E,F,((af _ _).cell (p:=⟨d+1,1,none⟩) J).trans F,A.alloc (aE (Nat.le_of_eq C.symm) A.size) _,d2.below (af _ _),?_⟩;intro j u hu;have e:(W3.setCell ⟨d+1,0,none⟩ (.slice i (g.length+1) o)).heap.size=W3.heap.size:=by simp
 have h:=ab (aw (W3.setCell ⟨d+1,0,none⟩ (.slice i (g.length+1) o)) (.cells #[.int .u8 (n:Nat)] 5)) j u (by simpa using hu);rw[e]at h;exact h
theorem NW(s:ai)(p n:Nat):(s.extract p s.size).extract n (s.size-p)=s.extract (p+n) s.size:=by
 rw[ByteArray.extract_extract];congr 1;omega
theorem Ie(base b o:Nat)(V:Value)(L:List (Int×Int×Nat))(s:ai)(w:World)(I:Utf8Tabs 2 3 w)(C:2<w.heap.size/\3<w.heap.size)(hc:w.cell? ⟨b,o,none⟩=some V)(h:rR base w V L)(a9:L.length<=100000)(a8:hB L)(a7:∀o∈L,o.2.2<8)(hlen:s.size<=2200000):Calls prog 51 #[.string s,.pointer (some ⟨b,o,none⟩)] w fun r w'=>(∃b4 b5 a ns,r=.returned (.agg #[b4,b5])/\c8 L s s.size a ns/\w'.ownsRow w.heap.size 169 1 b4 a.length (bI a)/\w'.ownsRow w.heap.size 5 1 b5 ns.length (bI ns))/\Below w.heap.size w w':=by
 have c7:=gP hc;have b8:Hid (∀(f:World) (t:ai),Below w.heap.size w f->1<=t.size->Calls prog 98 #[.string t,.pointer (some ⟨b,o,none⟩)] f fun r w'=>(∃k n:Nat,r=.returned (.tuple #[.int .u8 k,.int .i64 n])/\k6 L t k n)/\Below f.heap.size f w'):=fun f t d h1=>ET base b o V L t f ⟨fun c hc=>(d.cell (p:=⟨_,c,none⟩) C.1).trans (I.1 c hc),fun i hi=>⟨(d.cell (p:=⟨_,2*i,none⟩) C.2).trans (I.2 i hi).1,(d.cell (p:=⟨_,2*i+1,none⟩) C.2).trans (I.2 i hi).2⟩⟩ ⟨cI C.1 d.size,cI C.2 d.size⟩ ((d.cell (p:=⟨b,o,none⟩) c7).trans hc) (al h (Kp.below d)) a9 a8 h1
 have a3:Hid (∀o∈L,o.2.2<8):=a7;obtain⟨E,F⟩:∃E,E=(w.alloc (.cells #[.slice none 0 0,.slice none 0 0] 104)).alloc (.cells #[.slice none 0 0,.slice none 0 0] 104):=⟨_,rfl⟩;have a5:Hid (E=(w.alloc (.cells #[.slice none 0 0,.slice none 0 0] 104)).alloc (.cells #[.slice none 0 0,.slice none 0 0] 104)):=F;have W:Hid (Below w.heap.size w E):=by rw[F];exact(af w _).alloc (by simp) _
 have a0:Hid (my w.heap.size E w.heap.size (.slice none 0 0) (.slice none 0 0) [] []):=by
  refine⟨?_,?_,cq _ _ _ _,cq _ _ _ _⟩
  ·rw[F];exact(aW _ _ _ (by simp)).trans (aw w _)
  ·rw[F];exact(show (w.alloc (.cells #[.slice none 0 0,.slice none 0 0] 104)).heap.size=w.heap.size+1 by simp)▸aw (w.alloc _) _
 have a2:Hid (s=s.extract 0 s.size):=by show _=_;simp
 clear I C hc h a8 a7 F a9;go_enter func51,ntmps51;go_wp2_with fail;rw[<- a5.out];clear a5
 go_loopg [0] s.size (fun c4 e5 b6=>∃(p:Nat) (g:Option Addr) (q:Nat) (l:Option Addr) (v:Nat) (a ns:List Nat),p<=s.size/\c4=s.size-p/\e5=.string (s.extract p s.size)/\Hid (c8 L s p a ns)/\Hid (my w.heap.size b6 w.heap.size (.slice g a.length q) (.slice l ns.length v) a ns)/\Hid (Below w.heap.size w b6))
 case atStart=>exact⟨0,none,0,none,0,[],[],aJ _,rfl,by rw[<- a2.out],c8.nil,a0,W⟩
 case round =>
  obtain⟨p,g,q,l,v,a,ns,g4,rfl,rfl,H,B,d⟩:=hrel;obtain⟨f,e3⟩:∃f,f=wr:=⟨wr,rfl⟩;subst e3;have e1:=d.out.size;have K:=H.out.ok a3.out;have e9:a.length<=2200000:=by have:=K.len;have:=K.iL;omega
  have g3:ns.length<=2200000:=by have:=K.iL;omega
  have e4:(s.extract p s.size).size=s.size-p:=by rw[ek];omega
  clear K a0 W a2
  by_cases e0:p<s.size
  ·have Q:=b8.out f (s.extract p s.size) d.out (by omega);obtain⟨t,T⟩:∃t,t=s.extract p s.size:=⟨_,rfl⟩;rw[<- T]at e4 Q ⊢;have a4:Hid (t=s.extract p s.size):=T;clear T;go_wp2_with fail;refine Q.mono ?_;rintro r e ⟨⟨k,n,rfl,R⟩,b2⟩;have J:=R.bounds (by omega) a3.out;have g0:=J.1;have g1:=J.2.1;have g2:=J.2.2.1;have g5:IntKind.u8.wrap (n:Int)=(n:Int):=by rw[IntKind.wrap_u8];omega
   have c0:Hid (c8 L s (p+n) (a++[k]) (ns++[n])):=c8.snoc H.out e0 (by rw[<- a4.out];exact R);have X:Hid (Below w.heap.size w e):=d.out.trans (b2.mono e1);have G:Hid (my w.heap.size e w.heap.size (.slice g a.length q) (.slice l ns.length v) a ns):=B.out.below b2;have e2:=X.out.size;have c5:=an G.out.b1;have z0:=ab G.out.b1 0 _ rfl;have h0:(e.alloc (.cells #[.int .u8 (k:Nat)] 169)).cell? ⟨w.heap.size+1,0,none⟩=some (.slice g a.length q):=((af e _).cell (p:=⟨w.heap.size+1,0,none⟩) c5).trans z0;have a1:Hid (my w.heap.size (e.alloc (.cells #[.int .u8 (k:Nat)] 169)) w.heap.size (.slice g a.length q) (.slice l ns.length v) a ns):=G.out.below (af e _);have Z:Hid (Below w.heap.size w (e.alloc (.cells #[.int .u8 (k:Nat)] 169))):=X.out.alloc e2 _;have c1:w.heap.size<=(e.alloc (.cells #[.int .u8 (k:Nat)] 169)).heap.size:=Z.out.size;have c3:Hid (∀(j:Nat) (u:Value),[Value.int .u8 (k:Nat)][j]?=some u->(e.alloc (.cells #[.int .u8 (k:Nat)] 169)).cell? ⟨e.heap.size,j,none⟩=some u):=fun j u hu=>ab (aw e _) j u (by simpa using hu)
   clear Q R J b2 B d H G;go_wp2_with (first
    | (at_builtin;refine bs rfl (.tmp 18) (.tmp 20) 91 rfl w.heap.size 169 (.int .u8 0) 1 1 Tryz.K5 Tryz.Ov rfl (by decide) (.slice g a.length q) a.length (bI a) rfl a1.out.rk e.heap.size 1 [.int .u8 (k:Nat)] rfl rfl c3.out (zK k) (by omega) (by omega) c1 ?_;intro g6 W3 A D S;obtain⟨m,x,rfl⟩:=ak A;obtain⟨e6,e8,e7,g9,O,d2,b3⟩:=a1.out.Pg n rfl Z.out A D;have b7:Hid (Below w.heap.size w ((W3.setCell ⟨w.heap.size+1,0,none⟩ (.slice m (a.length+1) x)).alloc (.cells #[.int .u8 (n:Nat)] 5))):=O;have a6:w.heap.size<=((W3.setCell ⟨w.heap.size+1,0,none⟩ (.slice m (a.length+1) x)).alloc (.cells #[.int .u8 (n:Nat)] 5)).heap.size:=O.size;have M:Hid (my w.heap.size ((W3.setCell ⟨w.heap.size+1,0,none⟩ (.slice m (a.length+1) x)).alloc (.cells #[.int .u8 (n:Nat)] 5)) w.heap.size (.slice m (a.length+1) x) (.slice l ns.length v) (a++[k]) ns):=d2;have c2:Hid (∀(j:Nat) (u:Value),[Value.int .u8 (n:Nat)][j]?=some u->((W3.setCell ⟨w.heap.size+1,0,none⟩ (.slice m (a.length+1) x)).alloc (.cells #[.int .u8 (n:Nat)] 5)).cell? ⟨W3.heap.size,j,none⟩=some u):=b3;clear A D S d2 O b3)
    | (at_builtin;refine bs rfl (.tmp 24) (.tmp 27) 63 rfl w.heap.size 5 (.int .u8 0) 1 1 Tryz.Py Tryz.Qw rfl (by decide) (.slice l ns.length v) ns.length (bI ns) rfl M.out.rn W3.heap.size 1 [.int .u8 (n:Nat)] rfl rfl c2.out (zK n) (by omega) (by omega) a6 ?_;intro v2 W4 A D S;obtain⟨N,P,rfl⟩:=ak A;obtain⟨U,d3⟩:=M.out.QO A D;have B4:Hid (Below w.heap.size w W4):=b7.out.grown D a6 (fun k c9=>(M.out.rn.lt k c9).1);have b9:Hid (my w.heap.size (W4.setCell ⟨w.heap.size+1,1,none⟩ (.slice N (ns.length+1) P)) w.heap.size (.slice m (a.length+1) x) (.slice N (ns.length+1) P) (a++[k]) (ns++[n])):=d3;have g7:=ab U 1 _ rfl;have g8:=aq U;clear A D S U d3))
   go_roundg (s.size-(p+n))
   case measure=>omega
   case rel =>
    refine⟨p+n,m,x,N,P,a++[k],ns++[n],by omega,rfl,?_,c0,?_,B4.out.setCell (by show w.heap.size<=w.heap.size+1;omega) _⟩
    ·rw[a4.out,NW]
    ·rw[aF,aF];exact b9
  ·obtain rfl:p=s.size:=by omega
   have z:=B.out.b1;have z0:=ab z 0 _ rfl;have h2:=ab z 1 _ rfl;have y:=B.out.b0;have e6:=ab y 0 _ rfl;have e7:=ab y 1 _ rfl;have e8:=aq y;have Y:Hid (f.heap[w.heap.size]?=some (.cells #[.slice none 0 0,.slice none 0 0] 104 (0,0))):=y;clear z y;go_wp2_with fail;refine bodyPost_ret (kx rfl _ _ w.heap.size 104 #[.slice g a.length q,.slice l ns.length v] (0,0) _ rfl ((am (am Y.out 0 _) 1 _).trans rfl) Tryz.underlying104 rfl (by kernel_rfl)) rfl ?_;refine⟨⟨_,_,a,ns,rfl,H.out,?_,?_⟩,(d.out.setCell (p:=⟨w.heap.size,0,none⟩) (ar _) _).setCell (p:=⟨w.heap.size,1,none⟩) (ar _) _⟩
   ·exact al (al B.out.rk ((Kp.refl _ _).setCell Y.out (by decide) _)) ((Kp.refl _ _).setCell (am Y.out 0 _) (by decide) _)
   ·exact al (al B.out.rn ((Kp.refl _ _).setCell Y.out (by decide) _)) ((Kp.refl _ _).setCell (am Y.out 0 _) (by decide) _)
theorem Tryz.K1:(prog.info? 9).map (fun i=>(i.zero,i.size,i.bytes))=some (some (.string ⟨#[]⟩),1,16):=by kernel_rfl
theorem Tryz.Oq:prog.underlying 30=some (.slice 9):=by kernel_rfl
theorem Ij(s:ai)(w:World)(h:s.size<=2200000):Calls prog 99 #[.string s] w fun e w'=>e=.returned (.string s)/\Below w.heap.size w w':=by
 have hc:Calls prog 152 #[.string s] w fun e w'=>e=.returned (.string s)/\Below w.heap.size w w':=by
  have h1:=AnyPu.stringslite_Clone Tryz.laysClone s w (by omega);rw[show Tryz.laysClone_ren.f 25=152 from by kernel_rfl]at h1;exact h1
 go_enter func99,ntmps99;go_wp2_with fail;refine hc.mono ?_;rintro r a ⟨rfl,b1⟩;go_wp2_with fail;go_ret;exact⟨rfl,b1⟩
abbrev Dl:Type:=Nat×Nat×List ai
def nG(s:ai)(st:Dl)(x:Nat×Bool):Dl:=if x.2 then (st.2.1+x.1,st.2.1+x.1,st.2.2++[s.extract st.1 (st.2.1+x.1)])else (st.1,st.2.1+x.1,st.2.2)
def ec(s:ai)(ns:List Nat)(a:List Bool)(i:Nat):Dl:=((ns.zip (a.drop 1)).take i).foldl (nG s) (0,0,[])
theorem gU{s:ai}{ns:List Nat}{a:List Bool}{i n:Nat}{c:Bool}(b:ns[i]?=some n)(hc:a[i+1]?=some c):ec s ns a (i+1)=nG s (ec s ns a i) (n,c):=by
 unfold ec;have h:(ns.zip (a.drop 1))[i]?=some (n,c):=by
  rw[List.getElem?_zip_eq_some];exact⟨b,by rw[List.getElem?_drop,Nat.add_comm];exact hc⟩
 rw[lc,h,e0];rfl
structure OS (s:ai) (ns:List Nat) (i:Nat) (st:Dl):Prop where
 end_:st.2.1=(ns.take i).sum
 order:st.1<=st.2.1
 iL:st.2.2.length<=i
theorem vD(ns:List Nat)(i:Nat):(ns.take i).sum<=ns.sum:=by
 have h:=ej List.sum (List.take_append_drop i ns);rw[List.sum_append]at h;omega
theorem gm{ns:List Nat}{i n:Nat}(h:ns[i]?=some n):(ns.take (i+1)).sum=(ns.take i).sum+n:=by rw[lc,h,List.sum_append];simp
theorem FD(s:ai){ns:List Nat}{a:List Bool}(h:a.length=ns.length+1):∀i,i<=ns.length->OS s ns i (ec s ns a i):=by
 intro i
 induction i with
 | zero=>intro _;exact⟨by unfold ec;simp,by unfold ec;simp,by unfold ec;simp⟩
 | succ i d =>
  intro hi;have h1:=d (by omega);have b:ns[i]?=some ns[i]:=ax (by omega);have hc:a[i+1]?=some (a[i+1]'(by omega)):=ax (by omega);rw[gU b hc];generalize ec s ns a i=st at h1;generalize (a[i+1]'(by omega))=c;have e:=gm b;have f:=h1.end_;have g:=h1.order;have j:=h1.iL;unfold nG;cases c with
  | true=>exact⟨by simp;omega,by simp,by simp;omega⟩
  | false=>exact⟨by simp;omega,by simp;omega,by simp;omega⟩
def strCells(l:List ai):List Value:=l.map Value.string
theorem oa(l:List ai)(s:ai):strCells (l++[s])=strCells l++[.string s]:=by unfold strCells;rw[c9];rfl
theorem q4{l:List ai}{i:Nat}{s:ai}(h:l[i]?=some s):(strCells l)[i]?=some (.string s):=by unfold strCells;rw[cV,h];rfl
theorem tB(s:ai):∀u∈[Value.string s],u.oneCell'=true:=by intro u hu;simp at hu;subst hu;rfl
theorem zp(s:ai)(P:Value)(ns:List Nat)(g:Nat)(a:List Bool)(w:World)(t:w.ownsRow 0 5 1 P ns.length (bI ns))(L:w.heap[g]?=some (.cells (aC a) 4 (0,0)))(f:a.length=ns.length+1)(N:ns.sum=s.size)(K:∀n∈ns,n<=4)(hlen:s.size<=2200000)(c0:ns.length<=2200000):Calls prog 52 #[.string s,P,.slice (some ⟨g,0,none⟩) (ns.length+1) (ns.length+1)] w fun r w'=>(∃v,r=.returned v/\w'.ownsRow w.heap.size 9 1 v (ec s ns a ns.length).2.2.length (strCells (ec s ns a ns.length).2.2))/\Below w.heap.size w w':=by
 obtain⟨Z,a1,rfl⟩:=ak t;have U:Hid (w.ownsRow 0 5 1 (.slice Z ns.length a1) ns.length (bI ns)):=t;have E:Hid (w.heap[g]?=some (.cells (aC a) 4 (0,0))):=L;have V:Hid (∀i,i<=ns.length->OS s ns i (ec s ns a i)):=FD s f;have T:Hid (a.length=ns.length+1):=f;have X:Hid (ns.sum=s.size):=N;have S:Hid (∀n∈ns,n<=4):=K;clear t L f N K;go_enter func52,ntmps52;go_wp2_with fail
 go_loopg [7,8,9,14] ns.length (fun a3 b6 a0 a2 b5 Q=>∃(i b e:Nat) (told:List ai) (h:Option Addr) (au:Nat),i<=ns.length/\a3=ns.length-i/\b6=.slice h told.length au/\a0=.int .i64 b/\a2=.int .i64 e/\b5=.int .i64 i/\Hid (ec s ns a i=(b,e,told))/\Hid (Q.ownsRow w.heap.size 9 1 (.slice h told.length au) told.length (strCells told))/\Hid (Below w.heap.size w Q))
 case atStart=>exact⟨0,0,0,[],none,0,aJ _,rfl,rfl,rfl,rfl,rfl,rfl,cq _ _ _ _,aB _ _⟩
 case round =>
  obtain⟨i,b,e,told,h,au,hi,rfl,rfl,rfl,rfl,rfl,y,z,l⟩:=hrel;obtain⟨q,b4⟩:∃q,q=wr:=⟨wr,rfl⟩;subst b4;have b1:=l.out.size;have o:=V.out i hi;rw[y.out]at o;have b7:b<=e:=o.order;have a7:e=(ns.take i).sum:=o.end_;have c1:told.length<=2200000:=by have:told.length<=i:=o.iL;omega
  clear o
  by_cases a9:i<ns.length
  ·obtain⟨n,m⟩:∃n,ns[i]?=some n:=⟨ns[i],ax a9⟩;obtain⟨c,hc⟩:∃c,a[i+1]?=some c:=⟨a[i+1]'(by rw[T.out];omega),ax _⟩;have b9:=S.out n (bC m);have b8:e+n<=s.size:=by
    have h1:=gm m;have a4:=vD ns (i+1);rw[X.out]at a4;omega
   have p:ec s ns a (i+1)=nG s (b,e,told) (n,c):=by rw[gU m hc,y.out]
   obtain⟨c2,b0,_,a6⟩:=cu (al U.out (Kp.below l.out)) (jY m) (by omega);subst b0;have a5:q.cell? ⟨g,i+1,none⟩=some (.bool c):=ab ((l.out.block _ (an E.out)).trans E.out) (i+1) _ (cB hc);clear a7 m hc;cases c with
   | false =>
    have ST:Hid (ec s ns a (i+1)=(b,e+n,told)):=p;clear p;go_wp2_with fail;go_roundg (ns.length-(i+1))
    case measure=>omega
    case rel=>exact⟨i+1,b,e+n,told,h,au,by omega,rfl,rfl,rfl,by go_num,by go_num,ST,z,l⟩
   | true =>
    have ST:Hid (ec s ns a (i+1)=(e+n,e+n,told++[s.extract b (e+n)])):=p;have O:(s.extract b (e+n)).size<=2200000:=by rw[ek];omega
    have f:=Ij (s.extract b (e+n)) q O;clear p O;obtain⟨x,B⟩:∃x,x=s.extract b (e+n):=⟨_,rfl⟩;have F:Hid (x=s.extract b (e+n)):=B;rw[<- B]at f;go_wp2_with fail;rw[<- F.out];clear B;refine f.mono ?_;rintro r d ⟨rfl,b2⟩;have C:Hid (Below w.heap.size w d):=l.out.trans (b2.mono b1);have H:Hid ((d.alloc (.cells #[.string x] 9)).ownsRow w.heap.size 9 1 (.slice h told.length au) told.length (strCells told)):=al (al z.out (Kp.below b2)) (Kp.below (af d _));have Y:Hid (∀(j:Nat) (u:Value),[Value.string x][j]?=some u->(d.alloc (.cells #[.string x] 9)).cell? ⟨d.heap.size,j,none⟩=some u):=fun j u hu=>ab (aw d _) j u (by simpa using hu)
    have D:Hid (Below w.heap.size w (d.alloc (.cells #[.string x] 9))):=C.out.alloc C.out.size _;have G:w.heap.size<=(d.alloc (.cells #[.string x] 9)).heap.size:=D.out.size;clear f b2 a5 a6;go_wp2_with (at_builtin;refine bs rfl (.tmp 28) (.tmp 34) 30 rfl w.heap.size 9 (.string ⟨#[]⟩) 1 16 Tryz.K1 Tryz.Oq rfl (by decide) (.slice h told.length au) told.length (strCells told) rfl H.out d.heap.size 1 [.string x] rfl rfl Y.out (tB x) (by omega) (by omega) G ?_;intro c3 W3 A M b3;obtain⟨I,J,rfl⟩:=ak A;have W:Hid (W3.ownsRow w.heap.size 9 1 (.slice I (told.length+1) J) (told.length+1) (strCells told++[.string x])):=A;have R:Hid (Below w.heap.size w W3):=D.out.grown M G (fun k a8=>(H.out.lt k a8).1);clear A M b3);go_roundg (ns.length-(i+1))
    case measure=>omega
    case rel =>
     refine⟨i+1,e+n,e+n,told++[x],I,J,by omega,rfl,by rw[aF];rfl,by go_num,by go_num,by go_num,by rw[F.out];exact ST,?_,R⟩;rw[aF,oa];exact W
  ·obtain rfl:i=ns.length:=by omega
   have ST:Hid (ec s ns a ns.length=(b,e,told)):=y;go_wp2_with fail;go_ret;refine⟨⟨_,rfl,?_⟩,l.out⟩;rw[ST.out];exact z.out
end Go.Proofs.YtodagkkjfipbgaaGreatDoor
namespace Go.Proofs.YtodagkkjfipbgaaGreatDoor
open Go.RowKit Go.Maps Go.Proofs.Tryz
def ho(n:Nat)(f:Nat->Bool)(V:List Vw):List Vw:=V.mapIdx fun j v=>if j<n then (v.1,f j,v.2.2)else v
theorem yi(n:Nat)(f:Nat->Bool)(V:List Vw):(ho n f V).length=V.length:=by unfold ho;simp
theorem mK(n:Nat)(f:Nat->Bool)(V:List Vw)(i:Nat):(ho n f V)[i]?=(V[i]?).map fun v=>if i<n then (v.1,f i,v.2.2)else v:=by unfold ho;rw[mn]
theorem DS(f:Nat->Bool)(V:List Vw):ho 0 f V=V:=by
 apply gh;intro i;rw[mK];cases V[i]?<;>simp
theorem DT{n:Nat}{f:Nat->Bool}{V:List Vw}{v:Vw}(h:V[n]?=some v):ho (n+1) f V=(ho n f V).set n (v.1,f n,v.2.2):=by
 apply gh;intro i;rw[mK,ml,yi,mK];have a:=(a1.1 h).1
 by_cases e:n=i
 ·subst e;rw[ag rfl,ag a,h];simp
 ·rw[ae e];cases V[i]? with
  | none=>rfl
  | some y =>
   simp only[cU,h3]
   by_cases h1:i<n
   ·rw[ag (by omega),ag h1]
   ·rw[ae (by omega),ae h1]
theorem DU{n:Nat}(f:Nat->Bool){V:List Vw}{i:Nat}(h:n<=i):(ho n f V)[i]?=V[i]?:=by
 rw[mK];cases V[i]? with
 | none=>rfl
 | some y=>simp only[cU];rw[ae (by omega)]
theorem BB{n:Nat}{f:Nat->Bool}{V:List Vw}(h:∀v∈V,v.2.2.length=8):∀v∈ho n f V,v.2.2.length=8:=fun v b=>by
 obtain⟨i,hi⟩:=e3.1 b;rw[mK]at hi;cases a:V[i]? with
 | none=>rw[a]at hi;simp at hi
 | some y =>
  rw[a]at hi;simp only[cU,h3]at hi;have:=h y (bC a);rw[<- hi];split<;>exact this
theorem xO:∀(V:List Vw) (i:Nat) (v:Vw) (b:Bool),(∀y∈V,y.2.2.length=8)->V[i]?=some v->a7 (V.set i (v.1,b,v.2.2))=(a7 V).set (i*10+1) (.bool b):=by
 intro V
 induction V with
 | nil=>intro i v b _ h;simp at h
 | cons a V g =>
  intro i v b c h;have d:(aZ a).length=10:=by unfold aZ;simp[c a aU]
  have e:∀(x:Vw) (Y:List Vw),a7 (x::Y)=aZ x++a7 Y:=fun _ _=>rfl
  cases i with
  | zero =>
   simp at h;subst h;rw[List.set_cons_zero,e,e,List.set_append,ag (by omega)];rfl
  | succ i =>
   have:=g i v b (fun y f=>c y (b6 _ f)) (by simpa using h);rw[oT,e,e,this,List.set_append,ae (by omega),d,show (i+1)*10+1-10=i*10+1 from by omega]
def o9(a b:List Bool)(i:Nat):Bool:=!((a[i]?).getD false)||!((b[i]?).getD false)
theorem DR(base o:Nat)(g:List Nat)(c5 s:Value)(V:List Vw)(j:Option Addr)(c:Nat)(w:World)(c3:∀k∈g,k<8)(g3:g.length<=8)(S:w.ownsRow 0 169 1 c5 g.length (bI g))(c0:w.ownsRow base 254 10 (.slice j V.length c) V.length (a7 V))(b9:xw g V)(U:V.length<=320000) (R:w.heap[o]?=some (.cells #[c5,s,.slice j V.length c] 95 (0,0))):Calls prog 86 #[.pointer (some ⟨o,0,none⟩)] w fun r w'=>r=.returned (.tuple #[])/\(∃a d:List Bool,w'.ownsRow base 254 10 (.slice j V.length c) V.length (a7 (ho V.length (o9 a d) V))/\a.length=V.length/\d.length=V.length/\(∀i,a[i]?=some true↔mV g (bq V) true i)/\(∀i,d[i]?=some true↔mV g (bq V) false i))/\bj (fun k=>(Value.slice j V.length c).ownBlock=some k) w w':=by
 obtain⟨x,y,rfl⟩:=ak S;have e5:Hid (w.ownsRow 0 169 1 (.slice x g.length y) g.length (bI g)):=S;have a4:Hid (w.ownsRow base 254 10 (.slice j V.length c) V.length (a7 V)):=c0;have F:Hid (xw g V):=b9;have e2:Hid (∀k∈g,k<8):=c3;have a3:Hid (w.heap[o]?=some (.cells #[.slice x g.length y,s,.slice j V.length c] 95 (0,0))):=R;have g5:=an R;clear S c0 b9 c3 R;go_enter func86,ntmps86;go_wp2_with fail;refine(By base o g _ s V j c w e2.out g3 e5.out a4.out F.out U a3.out).mono ?_;rintro r t ⟨h0,src,H,rfl,T,b7,b8,C⟩;have P:Hid (xL t w.heap.size h0 src H):=T;have a8:Hid (Dj g (bq V) src):=b7;have SL:Hid (∀l∈src,l.length<=2560000):=b8;have c7:Hid (Below w.heap.size w t):=C;have W1:Hid (t.ownsRow base 254 10 (.slice j V.length c) V.length (a7 V)):=al a4.out (Kp.below C);have M:Hid (t.heap[o]?=some (.cells #[.slice x g.length y,s,.slice j V.length c] 95 (0,0))):=(C.block o g5).trans a3.out;have g6:=C.size;obtain⟨e8,e9,rfl⟩:=ak T.row;clear T b7 b8 C;go_wp2_with fail;refine(wl base w.heap.size o g _ s _ V j c src H true t W1.out F.out U M.out P.out a8.out SL.out).mono ?_;rintro r u ⟨a,rfl,b0,A,b2,z⟩;have I:Hid (u.heap[t.heap.size]?=some (.cells (aC a) 4 (0,0))):=b0;have J:Hid (a.length=V.length/\∀i,a[i]?=some true↔mV g (bq V) true i):=⟨A,b2⟩;have c8:Hid (Below w.heap.size w u):=c7.out.trans (z.mono g6);have a6:Hid (xL u w.heap.size (.slice e8 src.length e9) src H):=P.out.tE (n9.below z);have W2:Hid (u.ownsRow base 254 10 (.slice j V.length c) V.length (a7 V)):=al W1.out (Kp.below z);have N:Hid (u.heap[o]?=some (.cells #[.slice x g.length y,s,.slice j V.length c] 95 (0,0))):=(z.block o (an M.out)).trans M.out;have h7:=z.size;clear b0 b2 z A;go_wp2_with fail;refine(wl base w.heap.size o g _ s _ V j c src H false u W2.out F.out U N.out a6.out a8.out SL.out).mono ?_;rintro r w3 ⟨d,rfl,b3,B,b5,D⟩;have a5:Hid (w3.heap[u.heap.size]?=some (.cells (aC d) 4 (0,0))):=b3;have a1:Hid (w3.heap[t.heap.size]?=some (.cells (aC a) 4 (0,0))):=(D.block _ (an I.out)).trans I.out;have L:Hid (d.length=V.length/\∀i,d[i]?=some true↔mV g (bq V) false i):=⟨B,b5⟩;have c9:Hid (Below w.heap.size w w3):=c8.out.trans (D.mono (by omega));have W3:Hid (w3.ownsRow base 254 10 (.slice j V.length c) V.length (a7 (ho 0 (o9 a d) V))):=by rw[DS];exact al W2.out (Kp.below D)
 have O:Hid (w3.heap[o]?=some (.cells #[.slice x g.length y,s,.slice j V.length c] 95 (0,0))):=(D.block o (an N.out)).trans N.out;have g9:w3.cell? ⟨o,2,none⟩=some (.slice j V.length c):=ab O.out 2 _ rfl;have a9:Hid (bj (fun k=>(Value.slice j V.length c).ownBlock=some k) w w3):=bj.aL c9.out;clear b3 b5 D I P a6 B;go_wp2_with fail
 go_loopg [19] V.length (fun g1 g8 E=>∃i:Nat,i<=V.length/\g1=V.length-i/\g8=.int .i64 i/\Hid (E.ownsRow base 254 10 (.slice j V.length c) V.length (a7 (ho i (o9 a d) V)))/\Hid (E.heap[o]?=some (.cells #[.slice x g.length y,s,.slice j V.length c] 95 (0,0)))/\Hid (E.heap[t.heap.size]?=some (.cells (aC a) 4 (0,0)))/\Hid (E.heap[u.heap.size]?=some (.cells (aC d) 4 (0,0)))/\Hid (bj (fun k=>(Value.slice j V.length c).ownBlock=some k) w E))
 case atStart=>exact⟨0,aJ _,rfl,rfl,W3,O,a1,a5,a9⟩
 case round =>
  obtain⟨i,hi,rfl,rfl,G,b6,b1,b4,c2⟩:=hrel;obtain⟨p,g7⟩:∃p,p=wr:=⟨wr,rfl⟩;subst g7;clear W3 O a1 a5 a9 g9
  by_cases g4:i<V.length
  ·have A:=J.out.1;have B:=L.out.1;obtain⟨mc,X⟩:∃b,a[i]?=some b:=⟨a[i]'(by omega),ax _⟩;obtain⟨mj,Y⟩:∃b,d[i]?=some b:=⟨d[i]'(by omega),ax _⟩;obtain⟨v,Z⟩:∃v,V[i]?=some v:=⟨V[i],ax g4⟩;have Q:=BB (n:=i) (f:=o9 a d) (fun v h=>(F.out v h).1);have a0:=(DU (o9 a d) (ar i)).trans Z;have e7:Hid (a7 (ho (i+1) (o9 a d) V)=(a7 (ho i (o9 a d) V)).set (i*10+1) (.bool (!mc||!mj))):=by
    show _=_;rw[DT Z,xO _ i v _ Q a0];unfold o9;rw[X,Y];rfl
   have c1:p.ownsRow base 254 10 (.slice j (ho i (o9 a d) V).length c) (ho i (o9 a d) V).length (a7 (ho i (o9 a d) V)):=by rw[yi];exact G.out
   obtain⟨m,g2,h6,c4⟩:=ot c1 Q a0;subst g2;have d1:=c4 1 _ rfl;obtain⟨g0,W⟩:=bh G.out m rfl;have K:Hid (p.heap[m]?=some (.cells g0 254 (0,0))):=W;have df:=aq W;have a2:p.cell? ⟨o,2,none⟩=some (.slice (some ⟨m,0,none⟩) V.length c):=ab b6.out 2 _ rfl;have h2:p.cell? ⟨t.heap.size,i,none⟩=some (.bool mc):=ab b1.out i _ (cB X);have h3:p.cell? ⟨u.heap.size,i,none⟩=some (.bool mj):=ab b4.out i _ (cB Y);have h4:(i:Int)<(a.length:Int):=by omega
   have h5:(i:Int)<(d.length:Int):=by omega
   have h1:Hid (a.length=V.length/\d.length=V.length):=⟨A,B⟩;clear c4 c1 a0 W Q A B X Y Z;have e3:Hid (bj (fun k=>(Value.slice (some ⟨m,0,none⟩) V.length c).ownBlock=some k) w (p.setCell ⟨m,i*10+1,none⟩ (.bool (!mc||!mj)))):=c2.out.setCell (q:=⟨m,i*10+1,none⟩) (ac rfl) _;have e6:Hid ((p.setCell ⟨m,i*10+1,none⟩ (.bool (!mc||!mj))).ownsRow base 254 10 (.slice (some ⟨m,0,none⟩) V.length c) V.length (a7 (ho (i+1) (o9 a d) V))):=by rw[e7.out];exact tx G.out _ _
   have e4:Hid ((p.setCell ⟨m,i*10+1,none⟩ (.bool (!mc||!mj))).heap[o]?=some (.cells #[.slice x g.length y,s,.slice (some ⟨m,0,none⟩) V.length c] 95 (0,0))):=(Kp.refl _ _).setCell K.out (by decide) _ _ _ _ b6.out;have e0:Hid ((p.setCell ⟨m,i*10+1,none⟩ (.bool (!mc||!mj))).heap[t.heap.size]?=some (.cells (aC a) 4 (0,0))):=(Kp.refl _ _).setCell K.out (by decide) _ _ _ _ b1.out;have e1:Hid ((p.setCell ⟨m,i*10+1,none⟩ (.bool (!mc||!mj))).heap[u.heap.size]?=some (.cells (aC d) 4 (0,0))):=(Kp.refl _ _).setCell K.out (by decide) _ _ _ _ b4.out;cases mc<;>cases mj
   all_goals go_wp2_with fail
   all_goals go_region
   all_goals go_wp2_with fail
   all_goals go_roundg (V.length-(i+1))
   all_goals first
    | (case measure=>omega)
    | exact⟨i+1,by omega,rfl,by go_num,e6,e4,e0,e1,e3.out.drew⟩
  ·have e:i=V.length:=by omega
   subst e;go_wp2_with fail
   go_end0
   exact⟨rfl,⟨a,d,G.out,J.out.1,L.out.1,J.out.2,L.out.2⟩,c2.out⟩
structure RP (Ls:List bw) (ks:List Nat) (J:AJ) (X K:List bY) (H:List Hd) (V:List Vw) (MC MJ:List Bool):Prop where
 rules:Qh Ls J
 good:∀r∈J,fh r
 R1:iz J ks X K H
 hlen:H.length=X.length
 first:X[0]?=some (false,[0,0,0,0])
 RW:∀x∈X,jm J ks x
 RJ:∀x∈K,fG J ks x
 RV:gQ J ks K V
 R8:V.length=K.length
 mc:MC.length=V.length/\∀i,MC[i]?=some true↔mV ks (bq V) true i
 mj:MJ.length=V.length/\∀i,MJ[i]?=some true↔mV ks (bq V) false i
 iL:H.length<=320000/\V.length<=320000
def xD(w:World)(f e g:Value)(d:List bw)(a:List Nat):Prop :=
 ∃J X K H V b c,RP d a J X K H V b c/\w.ownsRow 0 169 1 f a.length (bI a)/\w.ownsRow 0 246 9 e H.length (gp H)/\w.ownsRow 0 254 10 g V.length (a7 (ho V.length (o9 b c) V))
theorem gQ.good{J:AJ}{d:List Nat}{K:List bY}{V:List Vw}(h:gQ J d K V)(t:V.length=K.length):xw d V:=fun v u=>by
 obtain⟨i,hi⟩:=e3.1 u;obtain⟨x,_,h1,_,g⟩:=h i v hi;refine⟨h1,fun k q=>?_⟩;obtain⟨n,j,o⟩:=g k q;exact⟨n,j,by rw[t];exact(a1.1 o).1⟩
theorem Rt{w:World}{q:Nat}{a b c d e f:Value}{t:TypeId}(h:w.heap[q]?=some (.cells #[a,b,c] t (0,0))):(((w.setCell ⟨q,0,none⟩ d).setCell ⟨q,1,none⟩ e).setCell ⟨q,2,none⟩ f).heap[q]?=some (.cells #[d,e,f] t (0,0)) :=
 (am ((am ((am h 0 _).trans rfl) 1 _).trans rfl) 2 _).trans rfl
theorem IB(lb:Nat)(vL S:Value)(l:List bw)(d:List Nat)(w:World)(a2:qR lb w vL l)(g4:∀L∈l,gY L)(hlen:l.length<=4)(g3:∀k∈d,k<8)(a9:d.length<=8)(a3:w.ownsRow 0 169 1 S d.length (bI d)):Calls prog 44 #[vL,S] w fun r w'=>∃b6 b7,r=.returned (.agg #[S,b6,b7])/\(∃a b c,b6=.slice a b c)/\(∃a b c,b7=.slice a b c)/\xD w' S b6 b7 l d/\Below w.heap.size w w':=by
 obtain⟨i1,i3,rfl,_⟩:=a2.form;obtain⟨g,h,rfl⟩:=ak a3;have g8:Hid (qR lb w (.slice i1 l.length i3) l):=a2;have h0:Hid (w.ownsRow 0 169 1 (.slice g d.length h) d.length (bI d)):=a3;have U:Hid (∀k∈d,k<8):=g3;have g9:Hid (∀L∈l,gY L):=g4;clear a2 a3 g3 g4;have b0:=af w (.cells #[.slice none 0 0,.slice none 0 0,.slice none 0 0] 95);have c7:Hid ((w.alloc (.cells #[.slice none 0 0,.slice none 0 0,.slice none 0 0] 95)).heap[w.heap.size]?=some (.cells #[.slice none 0 0,.slice none 0 0,.slice none 0 0] 95 (0,0))):=aw w _;have c0:Hid (Below w.heap.size w (w.alloc (.cells #[.slice none 0 0,.slice none 0 0,.slice none 0 0] 95))):=b0;clear b0;go_enter func44,ntmps44;go_wp2_with fail;refine(xU lb _ l _ (g8.out.below c0.out) g9.out (by omega)).mono ?_;rintro r f ⟨k7,J,C,rfl,A,a1,a5⟩;obtain⟨O,P,rfl,_⟩:=A.form;have b8:Hid (mA 0 f (.slice O J.length P) J C):=⟨A.len,bX A.row (aJ _),A.bP,A.ok⟩;have h2:Hid (Qh l J):=a1;have e1:J.length<=4:=by rw[a1.1];exact hlen
 have c1:Hid (Below w.heap.size w f):=c0.out.trans (a5.mono (by simp));have Y:Hid (f.heap[w.heap.size]?=some (.cells #[.slice none 0 0,.slice none 0 0,.slice none 0 0] 95 (0,0))):=(a5.block _ (by simp)).trans c7.out;have j1:=c1.out.size;have j0:=an Y.out;clear A a1 a5;obtain⟨W1,B⟩:∃W1,W1=(f.alloc (.cells #[.slice g d.length h,.slice none 0 0,.slice none 0 0] 95)).alloc (.cells #[.slice none 0 0,.map none] 164):=⟨_,rfl⟩;have h1:Hid (W1=(f.alloc (.cells #[.slice g d.length h,.slice none 0 0,.slice none 0 0] 95)).alloc (.cells #[.slice none 0 0,.map none] 164)):=B;have b2:Below f.heap.size f W1:=by rw[B];exact(af f _).alloc (by simp) _
 have k1:W1.heap.size=f.heap.size+2:=by rw[B];simp
 have h5:Hid (W1.heap[f.heap.size]?=some (.cells #[.slice g d.length h,.slice none 0 0,.slice none 0 0] 95 (0,0))):=by rw[B,aW _ _ _ (by simp)];exact aw f _
 have h3:Hid (hX w.heap.size W1 (f.heap.size+1) [] none 0 none):=by
  refine⟨?_,cq _ _ _ _,ah ⟨rfl,rfl⟩,List.nodup_nil,fun x b4=>by simp at b4⟩;rw[B];exact(show (f.alloc (.cells #[.slice g d.length h,.slice none 0 0,.slice none 0 0] 95)).heap.size=f.heap.size+1 by simp)▸aw (f.alloc _) _
 have b9:Hid (mA 0 W1 (.slice O J.length P) J C):=b8.out.below b2;have c2:Hid (Below w.heap.size w W1):=c1.out.trans (b2.mono j1);have h6:Hid (W1.ownsRow 0 169 1 (.slice g d.length h) d.length (bI d)):=al h0.out (Kp.below c2.out);have h8:Hid (W1.heap[w.heap.size]?=some (.cells #[.slice none 0 0,.slice none 0 0,.slice none 0 0] 95 (0,0))):=(b2.block _ j0).trans Y.out;clear B b2 b8 c7 Y;go_wp2_with fail;rw[<- h1.out];refine(zY (w.heap.size+1) (f.heap.size+1) f.heap.size J C _ d _ W1 e1 U.out a9 b9.out h6.out ⟨h3.out.da,cq _ _ _ _,ah ⟨rfl,rfl⟩,List.nodup_nil,fun x b4=>by simp at b4⟩ h5.out (by omega) (by omega) (by omega)).mono ?_;rintro r w3 ⟨rfl,p,X,j3,j7,k2,K,c8,c9,g5,H,E,G,o,e0,a0,e2,g1,g0,a6⟩;have h4:Hid (xG (w.heap.size+1) w3 (f.heap.size+1) f.heap.size J C (.slice O J.length P) d (.slice g d.length h) K c8 c9 g5 H (.slice E H.length G) [] none 0):=⟨o.fk,o.aj,o.ps,o.hd,cq _ _ _ _,o.ob⟩;have D:Hid (iz J d X K H/\H.length=X.length/\(∀x∈K,fG J d x)/\(∀x∈X,jm J d x)/\X[0]?=some (false,[0,0,0,0])):=⟨e0,a0,e2,g1,g0⟩;have c3:Hid (Below (w.heap.size+1) W1 w3):=a6;have j9:=a6.size;have i5:H.length<=320000:=by rw[a0];exact wX o.fx.nodup o.fx.ok
 clear o e0 a0 e2 g1 g0 a6;go_wp2_with fail;refine(El (w.heap.size+1) (f.heap.size+1) f.heap.size J C _ d _ K c8 c9 g5 H _ w3 e1 U.out a9 h4.out D.out.2.2.1 (by omega) (by omega) (by omega)).mono ?_;rintro r T ⟨rfl,y,i0,i2,j2,V,F,I,Q,e8,a4,e4,e3,i9,a8⟩;have n:Hid (xG (w.heap.size+1) T (f.heap.size+1) f.heap.size J C (.slice O J.length P) d (.slice g d.length h) y i0 i2 j2 H (.slice E H.length G) V F I):=Q;have s:Hid (gQ J d y V/\V.length=y.length/\K <+: y/\∀x∈y,fG J d x):=⟨e8,a4,e4,e3⟩;have B4:Hid (Below (w.heap.size+1) W1 T):=c3.out.trans a8;have k0:=a8.size;have e9:V.length<=320000:=by rw[a4];exact wX Q.fk.nodup Q.fk.ok
 clear Q e8 a4 e4 e3 i9 a8 c3;go_wp2_with fail;refine(DR (w.heap.size+1) f.heap.size d _ _ V F I T U.out a9 n.out.ps n.out.vw (s.out.1.good s.out.2.1) e9 n.out.ob).mono ?_;rintro r j ⟨rfl,⟨M,N,e7,i6,i7,e5,e6⟩,Z⟩;have h9:Hid (j.ownsRow (w.heap.size+1) 254 10 (.slice F V.length I) V.length (a7 (ho V.length (o9 M N) V))):=e7;have c5:Hid ((M.length=V.length/\∀i,M[i]?=some true↔mV d (bq V) true i)/\(N.length=V.length/\∀i,N[i]?=some true↔mV d (bq V) false i)):=⟨⟨i6,e5⟩,i7,e6⟩;have R:∀t:TypeId,t≠254->Kp t T j:=fun t b3 k i4 m q=>by
  rw[Z.block k (an q) (fun e=>by obtain⟨j8,g2⟩:=bh n.out.vw k e;rw[g2]at q;cases q;exact b3 rfl)];exact q
 have W:Hid (j.heap[f.heap.size]?=some (.cells #[.slice g d.length h,.slice E H.length G,.slice F V.length I] 95 (0,0))):=R _ (by decide) _ _ _ n.out.ob;have h7:Hid (j.ownsRow 0 169 1 (.slice g d.length h) d.length (bI d)):=al n.out.ps (R _ (by decide));have g7:Hid (j.ownsRow (w.heap.size+1) 246 9 (.slice E H.length G) H.length (gp H)):=al n.out.hd (R _ (by decide));have c4:Hid (Below (w.heap.size+1) W1 j):=B4.out.trans (Z.below (by omega) fun k g2 e=>by have:=(n.out.vw.lt k e).1;omega);have z:Hid (j.heap[w.heap.size]?=some (.cells #[.slice none 0 0,.slice none 0 0,.slice none 0 0] 95 (0,0))):=(c4.out.block _ (by omega)).trans h8.out;have g6:Hid (Below w.heap.size w j):=c2.out.trans (c4.out.mono (by omega));have j4:=ab W.out 0 _ rfl;have j5:=ab W.out 1 _ rfl;have j6:=ab W.out 2 _ rfl;have k3:=ab z.out 0 _ rfl;have k4:=ab z.out 1 _ rfl;have k5:=ab z.out 2 _ rfl;have k6:=aq z.out;clear e7 e5 e6 Z R;go_wp2_with fail;refine bodyPost_ret (kx rfl _ _ w.heap.size 95 #[.slice g d.length h,.slice E H.length G,.slice F V.length I] (0,0) _ rfl (Rt z.out) Tryz.underlying95 rfl (by kernel_rfl)) rfl ?_;have b5:∀(t:TypeId) (u v x:Value),t≠95->Kp t j (((j.setCell ⟨w.heap.size,0,none⟩ u).setCell ⟨w.heap.size,1,none⟩ v).setCell ⟨w.heap.size,2,none⟩ x):=fun t u v x b3 k i4 m q=>by
  have b1:k≠w.heap.size:=fun e=>by subst e;rw[z.out]at q;cases q;exact b3 rfl
  rw[aD b1,aD b1,aD b1];exact q
 refine⟨_,_,rfl,⟨_,_,_,rfl⟩,⟨_,_,_,rfl⟩,⟨J,X,y,H,V,M,N,⟨h2.out,b9.out.ok,D.out.1.more (kw _) s.out.2.2.1,D.out.2.1,D.out.2.2.2.2,D.out.2.2.2.1,s.out.2.2.2,s.out.1,s.out.2.1,c5.out.1,c5.out.2,⟨i5,e9⟩⟩,al h7.out (b5 _ _ _ _ (by decide)),bX (al g7.out (b5 _ _ _ _ (by decide))) (aJ _),bX (al h9.out (b5 _ _ _ _ (by decide))) (aJ _)⟩,((g6.out.setCell (ar _) _).setCell (ar _) _).setCell (ar _) _⟩
end Go.Proofs.YtodagkkjfipbgaaGreatDoor
