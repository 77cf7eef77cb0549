import Derived.Laws.CopyOwn
import Derived.Test.YtodagkkjfipbgaaGreatDoorN12toV3
import Derived.Test.YtodagkkjfipbgaaGreatDoorSh3lone
set_option maxRecDepth 100000
set_option maxHeartbeats 8000000
namespace Go.Proofs.YtodagkkjfipbgaaGreatDoor
open Go.RowKit Go.Maps Go.Proofs.Tryz
theorem NQ{A B C:World}{r:Option Nat}(h:A.grownBy B r)(k:B.grownBy C r):A.grownBy C r :=
 ⟨k.os.trans h.os,k.tape.trans h.tape,k.output.trans h.output,aE h.size k.size,fun i hi a=>(k.block i (cI hi h.size) a).trans (h.block i hi a)⟩
theorem wL{A B:World}(h:Below A.heap.size A B)(r:Option Nat):A.grownBy B r:=⟨h.os,h.tape,h.output,h.size,fun k a _=>h.block k a⟩
theorem HW(A:World)(N i:Nat)(u:Value):A.grownBy (A.setCell ⟨N,i,none⟩ u) (some N):=by
 have h:=(aB N A).setCell (p:=⟨N,i,none⟩) (ar N) u;exact⟨h.os,h.tape,h.output,h.size,fun k _ a=>aD (fun e=>a (by rw[e]))⟩
def bK(c:Bool)(fl fr:Nat->Bool)(m:Nat)(a:List Bool):List Bool:=a.mapIdx fun i b=>if 1<=i/\i<m/\fl i=true/\fr i=true then c else b
theorem lZ(c:Bool)(fl fr:Nat->Bool)(m:Nat)(a:List Bool):(bK c fl fr m a).length=a.length:=by unfold bK;simp
theorem lY(c:Bool)(fl fr:Nat->Bool){m:Nat}(d:m<=1)(a:List Bool):bK c fl fr m a=a:=by
 apply gh;intro i;unfold bK;rw[mn];cases h:a[i]? with
 | none=>rfl
 | some b=>rw[cU,ae (by omega)]
theorem Ac(c:Bool)(fl fr:Nat->Bool)(a:List Bool):bK c fl fr 1 a=a:=lY c fl fr (ar _) a
theorem Ab(c:Bool)(fl fr:Nat->Bool){m:Nat}{a:List Bool}(g:1<=m)(d:m<a.length)(h1:fl m=true)(f:fr m=true):bK c fl fr (m+1) a=(bK c fl fr m a).set m c:=by
 apply gh;intro i;rw[ml,lZ];unfold bK;rw[mn,mn]
 by_cases e:m=i
 ·subst e;rw[ag rfl,ag d,ax d,cU,ag ⟨g,by omega,h1,f⟩]
 ·rw[ae e];cases h:a[i]? with
  | none=>rfl
  | some b =>
   rw[cU,cU]
   by_cases hc:1<=i/\i<m/\fl i=true/\fr i=true
   ·rw[ag hc,ag ⟨hc.1,by omega,hc.2.2⟩]
   ·rw[ae hc,ae (fun h=>hc ⟨h.1,by omega,h.2.2⟩)]
theorem rH(c:Bool)(fl fr:Nat->Bool){m:Nat}(a:List Bool)(h:fl m=false\/fr m=false):bK c fl fr (m+1) a=bK c fl fr m a:=by
 apply gh;intro i;unfold bK;rw[mn,mn];cases hi:a[i]? with
 | none=>rfl
 | some b =>
  rw[cU,cU]
  by_cases hc:1<=i/\i<m/\fl i=true/\fr i=true
  ·rw[ag hc,ag ⟨hc.1,by omega,hc.2.2⟩]
  ·rw[ae hc,ae];rintro⟨h1,g,d,f⟩
   by_cases e:i=m
   ·subst e;rcases h with h|h
    ·rw[h]at d;cases d
    ·rw[h]at f;cases f
   ·exact hc ⟨h1,by omega,d,f⟩
theorem zc(f:Nat->Bool){n i:Nat}(h:i<n):((List.range n).map f)[i]?=some (f i):=by rw[cV,je h];rfl
theorem HR(w:World)(c:Bool)(vL b1 a9:Value)(tl tr:l9)(row:List Nat)(N:Nat)(b:List Bool)(G:bz 0 w vL tl)(a3:dh tl)(H:bz 0 w b1 tr)(a4:dh tr)(u:xH w a9 row)(l:w.heap[N]?=some (.cells (aC b) 4 (0,0)))(hlen:b.length=row.length+1):Calls prog 102 #[.agg #[.bool c,vL,b1],a9,.slice (some ⟨N,0,none⟩) (row.length+1) (row.length+1)] w fun r w'=>(∃v,r=.returned v)/\w'.heap[N]?=some (.cells (aC (bK c (fun i=>bG tl (eC tl row i)) (fun i=>bG tr (er tr row i)) row.length b)) 4 (0,0))/\w.grownBy w' (some N):=by
 obtain⟨d,j,rfl⟩:=ak G;obtain⟨f,k,rfl⟩:=ak H;obtain⟨a1,a2,rfl⟩:=ak u.own;obtain⟨fl,I⟩:∃fl:Nat->Bool,fl=fun i=>bG tl (eC tl row i):=⟨_,rfl⟩
 obtain⟨fr,J⟩:∃fr:Nat->Bool,fr=fun i=>bG tr (er tr row i):=⟨_,rfl⟩
 rw[<- I,<- J];have c1:=u.iL;have b4:=an l;obtain⟨a,x⟩:∃a,a=w.alloc (.cells #[.bool c,.slice d tl.length j,.slice f tr.length k] 157):=⟨_,rfl⟩;have T:Hid (a=w.alloc (.cells #[.bool c,.slice d tl.length j,.slice f tr.length k] 157)):=x;have b0:Below w.heap.size w a:=by rw[x];exact af w _
 have b6:a.heap.size=w.heap.size+1:=by rw[x];simp
 have y:a.heap[w.heap.size]?=some (.cells #[.bool c,.slice d tl.length j,.slice f tr.length k] 157 (0,0)):=by rw[x];exact aw w _
 have C:Hid (Below w.heap.size w a):=b0;have Z:Hid (a.heap[w.heap.size]?=some (.cells #[.bool c,.slice d tl.length j,.slice f tr.length k] 157 (0,0))):=y;have K:Hid (a.heap[N]?=some (.cells (aC b) 4 (0,0))):=(b0.block _ b4).trans l;have M:Hid (∀W,Below a.heap.size a W->Calls prog 155 #[.agg #[.slice d tl.length j],.slice a1 row.length a2] W fun r w'=>∃g,r=.returned (.slice (some ⟨g,0,none⟩) (row.length+1) (row.length+1))/\W.heap.size<=g/\w'.heap[g]?=some (.cells (aC ((List.range (row.length+1)).map fl)) 4 (0,0))/\Below W.heap.size W w'):=fun W hb=>by
  rw[I];exact zZ W _ _ tl row (al G (Kp.below (b0.trans (hb.mono b0.size)))) a3 (u.below (b0.trans (hb.mono b0.size)))
 have O:Hid (∀W,Below a.heap.size a W->Calls prog 156 #[.agg #[.slice f tr.length k],.slice a1 row.length a2] W fun r w'=>∃g,r=.returned (.slice (some ⟨g,0,none⟩) (row.length+1) (row.length+1))/\W.heap.size<=g/\w'.heap[g]?=some (.cells (aC ((List.range (row.length+1)).map fr)) 4 (0,0))/\Below W.heap.size W w'):=fun W hb=>by
  rw[J];exact zu W _ _ tr row (al H (Kp.below (b0.trans (hb.mono b0.size)))) a4 (u.below (b0.trans (hb.mono b0.size)))
 have m0:a.cell? ⟨w.heap.size,0,none⟩=some (.bool c):=ab y 0 _ rfl;have m1:a.cell? ⟨w.heap.size,1,none⟩=some (.slice d tl.length j):=ab y 1 _ rfl;have m2:a.cell? ⟨w.heap.size,2,none⟩=some (.slice f tr.length k):=ab y 2 _ rfl;clear x b0 y G H u l I J a3 a4;go_enter func102,ntmps102;go_wp2_with fail;rw[<- T.out]
 go_region_held3 (fun w'=>w'.cell? ⟨w.heap.size,0,none⟩=some (.bool c)/\w'.cell? ⟨w.heap.size,1,none⟩=some (.slice d tl.length j)/\w'.cell? ⟨w.heap.size,2,none⟩=some (.slice f tr.length k))
  (first|exact S.out|exact U.out|go_keep)
  (first
   | (go_at_call 155
      refine(M.out _ ((aB _ _).drew)).mono ?_;rintro e W1 ⟨g1,rfl,a7,q,a5⟩;have m:Hid (Below a.heap.size a W1):=dW a5;have D:Hid (W1.heap[g1]?=some (.cells (aC ((List.range (row.length+1)).map fl)) 4 (0,0))):=q;have V:Hid (a.heap.size<=g1):=a7;have S:Hid (W1.cell? ⟨w.heap.size,0,none⟩=some (.bool c)/\W1.cell? ⟨w.heap.size,1,none⟩=some (.slice d tl.length j)/\W1.cell? ⟨w.heap.size,2,none⟩=some (.slice f tr.length k)) :=
       ⟨(m.out.cell (p:=⟨w.heap.size,0,none⟩) (by show w.heap.size<_;omega)).trans m0,(m.out.cell (p:=⟨w.heap.size,1,none⟩) (by show w.heap.size<_;omega)).trans m1,(m.out.cell (p:=⟨w.heap.size,2,none⟩) (by show w.heap.size<_;omega)).trans m2⟩
      clear q a5 a7)
   | (go_at_call 156
      refine(O.out _ m.out).mono ?_;rintro e W2 ⟨g2,rfl,a8,s,F⟩;have n:Hid (Below a.heap.size a W2):=m.out.trans (F.mono m.out.size);have Q:Hid (W2.heap[g2]?=some (.cells (aC ((List.range (row.length+1)).map fr)) 4 (0,0))):=s;have P:Hid (W2.heap[g1]?=some (.cells (aC ((List.range (row.length+1)).map fl)) 4 (0,0))):=(F.block _ (an D.out)).trans D.out;have X:Hid (a.heap.size<=g2):=aE m.out.size a8;have U:Hid (W2.cell? ⟨w.heap.size,0,none⟩=some (.bool c)/\W2.cell? ⟨w.heap.size,1,none⟩=some (.slice d tl.length j)/\W2.cell? ⟨w.heap.size,2,none⟩=some (.slice f tr.length k)) :=
       ⟨(n.out.cell (p:=⟨w.heap.size,0,none⟩) (by show w.heap.size<_;omega)).trans m0,(n.out.cell (p:=⟨w.heap.size,1,none⟩) (by show w.heap.size<_;omega)).trans m1,(n.out.cell (p:=⟨w.heap.size,2,none⟩) (by show w.heap.size<_;omega)).trans m2⟩
      clear s F a8))
 have R:Hid (w.grownBy W2 (some N)):=wL (C.out.trans (n.out.mono C.out.size)) _;have L:Hid (W2.heap[N]?=some (.cells (aC (bK c fl fr 1 b)) 4 (0,0))):=by
  show _=_;rw[Ac];exact(n.out.block _ (by omega)).trans K.out
 have a0:Hid (W2.heap[w.heap.size]?=some (.cells #[.bool c,.slice d tl.length j,.slice f tr.length k] 157 (0,0))):=(n.out.block _ (by omega)).trans Z.out;have Y:Hid (g1≠N/\g2≠N):=⟨by have:=V.out;omega,by have:=X.out;omega⟩;clear T C Z K M O m0 m1 m2 m n D S U V X b6;go_wp2_with fail
 go_loopg [8] (row.length-1) (fun b2 b7 z=>∃i:Nat,1<=i/\b2=row.length-i/\b7=.int .i64 i/\Hid (i<=row.length\/i=1)/\Hid (z.heap[N]?=some (.cells (aC (bK c fl fr i b)) 4 (0,0)))/\Hid (z.heap[w.heap.size]?=some (.cells #[.bool c,.slice d tl.length j,.slice f tr.length k] 157 (0,0)))/\Hid (z.heap[g1]?=some (.cells (aC ((List.range (row.length+1)).map fl)) 4 (0,0)))/\Hid (z.heap[g2]?=some (.cells (aC ((List.range (row.length+1)).map fr)) 4 (0,0)))/\Hid (w.grownBy z (some N)))
 case atStart=>exact⟨1,ar _,rfl,rfl,ac rfl,L,a0,P,Q,R⟩
 case round =>
  obtain⟨i,hi,rfl,rfl,b3,l,A,q,s,B⟩:=hrel;obtain⟨w3,b5⟩:∃w3,w3=wr:=⟨wr,rfl⟩;subst b5;clear L a0 P Q R
  by_cases c2:i<row.length
  ·obtain⟨b0,a6⟩:∃b0,(bK c fl fr i b)[i]?=some b0:=⟨_,ax (by rw[lZ];omega)⟩;have b8:=ab A.out 0 _ rfl;have b9:=ab l.out i _ (cB a6);have c0:=aq l.out i;have d1:=ab q.out i _ (cB (zc fl (show i<row.length+1 by omega)));have d2:=ab s.out i _ (cB (zc fr (show i<row.length+1 by omega)));clear a6;cases o:fl i with
   | false =>
    rw[o]at d1;have E:Hid (bK c fl fr (i+1) b=bK c fl fr i b):=rH c fl fr b (ah o);clear o;go_wp2_with fail;go_roundg (row.length-(i+1))
    case rel=>exact⟨i+1,by omega,rfl,by go_num,ah (by omega),by rw[E.out];exact l,A,q,s,B⟩
    case measure=>omega
   | true =>
    rw[o]at d1;cases t:fr i with
    | false =>
     rw[t]at d2;have E:Hid (bK c fl fr (i+1) b=bK c fl fr i b):=rH c fl fr b (ac t);clear o t;go_wp2_with fail;go_roundg (row.length-(i+1))
     case rel=>exact⟨i+1,by omega,rfl,by go_num,ah (by omega),by rw[E.out];exact l,A,q,s,B⟩
     case measure=>omega
    | true =>
     rw[t]at d2;have E:Hid (bK c fl fr (i+1) b=(bK c fl fr i b).set i c):=Ab c fl fr hi (by omega) o t;clear o t;go_wp2_with fail;go_roundg (row.length-(i+1))
     case rel =>
      refine⟨i+1,by omega,rfl,by go_num,ah (by omega),?_,(aD (by omega)).trans A.out,(aD Y.out.1).trans q.out,(aD Y.out.2).trans s.out,NQ B.out (HW _ N i _)⟩;rw[E.out];exact(am l.out i _).trans (by rw[gE])
     case measure=>omega
  ·have E:Hid (bK c fl fr row.length b=bK c fl fr i b):=by
    show _=_;rcases b3.out with h|h
    ·rw[show i=row.length from by omega]
    ·rw[lY c fl fr (by omega),lY c fl fr (by omega)]
   go_wp2_with fail
   go_end0
   exact⟨⟨_,rfl⟩,by rw[E.out];exact l.out,B.out⟩
theorem Hy(m:Nat)(a:m<=2300000)(w:World):Calls prog 192 #[.int .u64 1,.int .u64 m] w fun e w'=>e=.returned (.tuple #[.int .u64 0,.int .u64 m])/\w'=w:=by
 have h:=Any.bits_Mul64 Tryz.laysMul 1 m (by omega) (by omega) w;rw[show Tryz.laysMul_ren.f 264=192 from by kernel_rfl]at h;rw[show 1*m/18446744073709551616=0 from by omega,show 1*m%18446744073709551616=m from by omega]at h;exact h
theorem B7(m:Nat)(a:m<=2300000)(w:World):Calls prog 153 #[.int .u64 1,.int .u64 m] w fun e w'=>e=.returned (.tuple #[.int .u64 0,.int .u64 m])/\w'=w:=by
 have h:=Hy m a w;go_enter func153,ntmps153;go_wp2_with fail;refine h.mono ?_;rintro r w' ⟨rfl,rfl⟩;go_wp2_with fail
 go_ret2
 exact⟨rfl,rfl⟩
theorem zl{m n:Nat}(h:n<m):splice ((cn (fun _=>true) n m).map Value.bool) n (((cn (fun _=>true) n m).map Value.bool).take (min n (m-n)))=(cn (fun _=>true) (n+min n (m-n)) m).map Value.bool:=by
 have c:((cn (fun _=>true) n m).map Value.bool).length=m:=by rw[b5,ia]
 have b:(((cn (fun _=>true) n m).map Value.bool).take (min n (m-n))).length=min n (m-n):=by rw[cz,c];omega
 have g:(splice ((cn (fun _=>true) n m).map Value.bool) n (((cn (fun _=>true) n m).map Value.bool).take (min n (m-n)))).length=m:=by rw[length_splice _ _ _ (by rw[b,c];omega),c]
 have at_:∀k j,j<m->((cn (fun _=>true) k m).map Value.bool)[j]?=some (.bool (decide (j<k))):=fun k j a=>by
  unfold cn;rw[cV,cV,je a]
  by_cases f:j<k<;>simp[f]
 apply gh;intro j
 by_cases a:j<m
 ·rw[at_ _ j a];unfold splice;rw[b]
  by_cases h1:j<n
  ·rw[dD (by rw[cz,c];omega),bJ,ag h1,at_ _ j a];simp;omega
  ·have e:(((cn (fun _=>true) n m).map Value.bool).take n).length=n:=by rw[cz,c];omega
   rw[eH (by rw[e];omega),e]
   by_cases d:j-n<min n (m-n)
   ·rw[dD (by rw[b];exact d),bJ,ag d,at_ _ _ (by omega)];simp;omega
   ·rw[eH (by rw[b];omega),b,List.getElem?_drop,show n+min n (m-n)+(j-n-min n (m-n))=j from by omega,at_ _ j a];simp;omega
 ·rw[gB (by rw[g];omega),gB (by rw[b5,ia];omega)]
theorem D1(w:World)(q m:Nat)(R:w.heap[q]?=some (.cells #[.bool true] 4 (0,0)))(h1:1<=m)(a7:m<=2200001):Calls prog 100 #[.slice (some ⟨q,0,none⟩) 1 1,.int .i64 m] w fun r w'=>r=.returned (.slice (some ⟨w.heap.size,0,none⟩) m m)/\w'.heap[w.heap.size]?=some (.cells (aC (List.replicate m true)) 4 (0,0))/\Below w.heap.size w w':=by
 have Q:=B7 m (by omega) w;have a0:∀W:World,(Instr.makeSlice 108 (.int .i64 m) (.int .i64 m)).run prog W=.ok (.slice (some ⟨W.heap.size,0,none⟩) m m) (W.alloc (.cells (aC (List.replicate m false)) 4)):=fun W=>oC W m (by omega)
 have A:Hid (w.heap[q]?=some (.cells #[.bool true] 4 (0,0))):=R;clear R;go_enter func100,ntmps100;obtain⟨f,t⟩:∃f,f=w.alloc (.cells (aC (List.replicate m false)) 4):=⟨_,rfl⟩;have b0:Below w.heap.size w f:=by rw[t];exact af w _
 have y:f.heap[w.heap.size]?=some (.cells ((cn (fun _=>true) 0 m).map Value.bool).toArray 4 (0,0)):=by rw[t,mC];exact aw w _
 have E:=run_copy_row prog f 108 108 3 4 w.heap.size 0 m m ⟨q,0,none⟩ 1 1 _ 4 [.bool true] Tryz.th (by kernel_rfl) y (Nat.min_eq_left h1).symm (fun j v g=>by
  have Y:j=0:=by have:=(a1.1 g).1;simpa using this
  subst Y;have x:v=.bool true:=by simpa using g.symm
  rw[x];exact(b0.cell (p:=⟨q,0,none⟩) (an A.out)).trans (ab A.out 0 _ rfl)) (by simp[ia];omega) (by simp[Value.oneCell'])
 obtain⟨W1,u⟩:∃W1,W1=f.setRow w.heap.size (((((cn (fun _=>true) 0 m).map Value.bool).toArray).toList.take 0++[Value.bool true]++((((cn (fun _=>true) 0 m).map Value.bool).toArray).toList.drop (0+[Value.bool true].length))).toArray):=⟨_,rfl⟩;rw[<- u,show goInt [Value.bool true].length=.int .i64 1 from rfl]at E;have G:Hid (W1.heap[w.heap.size]?=some (.cells ((cn (fun _=>true) 1 m).map Value.bool).toArray 4 (0,0))):=by
  show _=_;rw[u];refine(setRow_heap f _ _ _ _ _ y).trans ?_;congr 2;apply Array.toList_inj.1;simp only[List.take_zero,np,List.length_singleton,k9];rw[mD _ (by omega)];obtain⟨a,l,X⟩:∃a l,cn (fun _=>true) 0 m=a::l:=by
   cases h:cn (fun _=>true) 0 m with
   | nil=>have:=ej List.length h;rw[ia]at this;simp at this;omega
   | cons a l=>exact⟨a,l,rfl⟩
  rw[X];simp
 have F:Hid (Below w.heap.size w W1):=by rw[u];exact below_setRow b0 (ar _) _
 rw[t]at E;clear u y b0 t;go_wp2_with fail;refine Q.mono ?_;rintro r c ⟨rfl,rfl⟩;go_wp2_with fail;clear E a0 Q A
 go_loopg [8] (m-1) (fun V a3 T=>∃n:Nat,1<=n/\n<=m/\V=m-n/\a3=.int .i64 n/\Hid (T.heap[c.heap.size]?=some (.cells ((cn (fun _=>true) n m).map Value.bool).toArray 4 (0,0)))/\Hid (Below c.heap.size c T))
 case atStart=>exact⟨1,ar _,h1,rfl,rfl,G,F⟩
 case round =>
  obtain⟨n,a8,b1,rfl,rfl,N,B⟩:=hrel;obtain⟨w3,a2⟩:∃w3,w3=wr:=⟨wr,rfl⟩;subst a2;clear G F;have b2:=B.out.size
  by_cases Z:n<m
  ·have a9:¬m=n:=by omega
   obtain⟨k,C⟩:∃k,k=min n (m-n):=⟨_,rfl⟩;have a4:1<=k:=by omega
   have a5:k<=n:=by omega
   have a6:n+k<=m:=by omega
   have b3:IntKind.i64.wrap ((n:Int)+k)=(n:Int)+k:=by rw[IntKind.wrap_i64];omega
   obtain⟨e,s⟩:∃e,e=(cn (fun _=>true) n m).map Value.bool:=⟨_,rfl⟩;obtain⟨d,o⟩:∃d,d=e.take k:=⟨_,rfl⟩;have D:e.length=m:=by rw[s,b5,ia]
   have P:d.length=k:=by rw[o,cz,D];omega
   have L:Hid (splice e n d=(cn (fun _=>true) (n+k) m).map Value.bool):=by show _=_;rw[o,s,C];exact zl Z
   have J:Hid (d.length=Nat.min n (m-n)):=by show _=_;rw[P,C]
   have I:Hid (n+d.length<=e.length):=by show _<=_;rw[P,D];omega
   have H:Hid (∀v∈d,v.oneCell'=true):=fun v x=>by
    rw[o,s]at x;obtain⟨b,_,rfl⟩:=aN.1 (ld x);rfl
   have z:Hid (w3.drew.heap[c.heap.size]?=some (.cells e.toArray 4 (0,0))):=by rw[s];exact N.out
   have K:Hid (∀j v,d[j]?=some v->w3.drew.cell? ((⟨c.heap.size,0,none⟩:Addr).add j)=some v):=fun j v g=>by
    rw[o,bJ]at g;split at g
    ·rw[show (⟨c.heap.size,0,none⟩:Addr).add j=⟨c.heap.size,j,none⟩ from by simp[Addr.add];omega];exact ab z.out j v (by simpa using g)
    ·cases g
   clear C o D s;go_wp2_with fail
   go_region_law
    (refine step_copy_splice rfl (.tmp 41) (.tmp 44) 108 108 rfl 4 Tryz.th (by kernel_rfl) (some ⟨c.heap.size,n,none⟩) (some ⟨c.heap.size,0,none⟩) (m-n) (m-n) n m (by simp[Act.eval,Act.put]) (by simp[Act.eval,Act.put]) c.heap.size n e 4 z.out d J.out (fun _=>⟨rfl,_,rfl,K.out⟩) I.out H.out c.heap.size c (B.out.drew) (ar _) ?_
     intro S O M)
   all_goals (have U:Hid (S.heap[c.heap.size]?=some (.cells ((cn (fun _=>true) (n+k) m).map Value.bool).toArray 4 (0,0))):=by rw[<- L.out];exact O.out)
   all_goals (have B4:Hid (Below c.heap.size c S):=M)
   all_goals clear O M K z H I J L
   all_goals go_wp2_with fail
   all_goals go_roundg (m-(n+k))
   all_goals first
    | (case measure=>omega)
    | exact⟨n+k,by omega,by omega,rfl,by go_num,U,B4⟩
  ·obtain rfl:n=m:=by omega
   go_wp2_with fail;go_ret;refine⟨rfl,?_,B.out⟩;have h:=N.out;rw[vx]at h;refine h.trans ?_;congr 2;unfold aC;congr 2;apply gh;intro i;rw[cV,fj]
   by_cases hi:i<n
   ·rw[je hi,ag hi];rfl
   ·rw[gB (by simp;omega),ae hi];rfl
end Go.Proofs.YtodagkkjfipbgaaGreatDoor
namespace Go.Proofs.YtodagkkjfipbgaaGreatDoor
open Go.RowKit Go.Maps Go.Shelf Go.Proofs.Tryz
attribute [local go_sem] Oper.semAt_some
abbrev PR:Type:=Bool×l9×l9
def lR(J:List PR)(a:List (Value×Value)):List Value:=(J.zip a).flatMap fun o=>[.bool o.1.1,o.2.1,o.2.2]
structure xC (w:World) (v:Value) (J:List PR) (vs:List (Value×Value)):Prop where
 len:vs.length=J.length
 row:w.ownsRow 0 157 3 v J.length (lR J vs)
 bP:∀(i:Nat) (r:PR) (u:Value×Value),J[i]?=some r->vs[i]?=some u->bz 0 w u.1 r.2.1/\bz 0 w u.2 r.2.2
 ok:∀r∈J,dh r.2.1/\dh r.2.2
 iL:J.length<=100
theorem xC.below{w w':World}{v:Value}{J:List PR}{g:List (Value×Value)}(h:xC w v J g)(hb:Below w.heap.size w w'):xC w' v J g :=
 ⟨h.len,al h.row (Kp.below hb),fun i r u d hu=>⟨al (h.bP i r u d hu).1 (Kp.below hb),al (h.bP i r u d hu).2 (Kp.below hb)⟩,h.ok,h.iL⟩
theorem Hw:∀(J:List PR) (b:List (Value×Value)) (i:Nat) (r:PR) (v:Value×Value),J[i]?=some r->b[i]?=some v->(lR J b)[i*3]?=some (.bool r.1)/\(lR J b)[i*3+1]?=some v.1/\(lR J b)[i*3+2]?=some v.2:=by
 intro J
 induction J with
 | nil=>intro b i r v h;simp at h
 | cons a J f =>
  intro b i r v h1 c;cases b with
  | nil=>simp at c
  | cons u b =>
   cases i with
   | zero=>simp at h1 c;subst h1;subst c;simp[lR]
   | succ i =>
    simp at h1 c;have:=f b i r v h1 c;have e:∀k,(lR (a::J) (u::b))[(i+1)*3+k]?=(lR J b)[i*3+k]?:=by
     intro k;rw[show (i+1)*3+k=(i*3+k)+3 from by omega];rfl
    have d:=e 0;simp only[k8]at d;rw[d,e 1,e 2];exact this
def iA(row:List Nat)(r:PR)(a:List Bool):List Bool:=bK r.1 (fun i=>bG r.2.1 (eC r.2.1 row i)) (fun i=>bG r.2.2 (er r.2.2 row i)) row.length a
def dM(J:List PR)(row:List Nat):List Bool:=J.foldr (iA row) (List.replicate (row.length+1) true)
def o4(J:List PR)(row:List Nat)(a:List Bool)(i:Nat):List Bool:=match J[i]? with
 | some r=>iA row r a
 | none=>a
theorem pc(row:List Nat)(r:PR)(a:List Bool):(iA row r a).length=a.length:=lZ _ _ _ _ _
theorem G1(J:List PR)(row:List Nat)(a:List Bool)(i:Nat):(o4 J row a i).length=a.length:=by
 unfold o4;split
 ·exact pc _ _ _
 ·rfl
theorem EO(J:List PR)(row:List Nat)(init:List Bool):∀(d j:Nat),d+j=J.length->(iO J.length j).foldl (o4 J row) init=(J.drop j).foldr (iA row) init:=by
 intro d
 induction d with
 | zero =>
  intro j b;obtain rfl:j=J.length:=by omega
  rw[l6,List.drop_length];rfl
 | succ d c =>
  intro j b;have a:j<J.length:=by omega
  rw[l5 a,e0,c (j+1) (by omega),lf a,List.foldr_cons];show o4 J row _ j=_;unfold o4;rw[ax a]
theorem Ax(J:List PR)(row:List Nat):(iO J.length 0).foldl (o4 J row) (List.replicate (row.length+1) true)=dM J row:=EO J row _ J.length 0 rfl
theorem oI(J:List PR)(row:List Nat):(dM J row).length=row.length+1:=by
 unfold dM
 induction J with
 | nil=>simp
 | cons a J b=>rw[List.foldr_cons,pc];exact b
def og(J:List PR)(a:List (Value×Value)):List (Bool×Value×Value):=(J.zip a).map fun o=>(o.1.1,o.2.1,o.2.2)
theorem Hv{J:List PR}{a:List (Value×Value)}(h:a.length=J.length):(og J a).length=J.length:=by unfold og;rw[b5,List.length_zip,h];omega
theorem BW{J:List PR}{a:List (Value×Value)}{i:Nat}{x:Bool×Value×Value}(h:(og J a)[i]?=some x):∃r u,J[i]?=some r/\a[i]?=some u/\x=(r.1,u.1,u.2):=by
 unfold og at h;rw[cV,Option.map_eq_some_iff]at h;obtain⟨⟨r,u⟩,h1,b⟩:=h;rw[List.getElem?_zip_eq_some]at h1;exact⟨r,u,h1.1,h1.2,b.symm⟩
structure p0 (n0 N nB:Nat) (W:World) (vJ vK:Value) (m:Nat) (cs:List Bool):Prop where
 b0:W.heap[n0]?=some (.cells #[vJ] 89 (0,0))
 b1:W.heap[n0+1]?=some (.cells #[vK] 91 (0,0))
 b2:W.heap[N]?=some (.cells (aC cs) 4 (0,0))
 b3:W.heap[nB]?=some (.cells #[.slice (some ⟨N,0,none⟩) m m] 108 (0,0))
theorem p0.blocks{j N n:Nat}{W i:World}{o q:Value}{m:Nat}{d:List Bool}(h:p0 j N n W o q m d)(g:∀(k:Nat) (d:Array Value) (t:TypeId),W.heap[k]?=some (.cells d t (0,0))->i.heap[k]?=some (.cells d t (0,0))):p0 j N n i o q m d :=
 ⟨g _ _ _ h.b0,g _ _ _ h.b1,g _ _ _ h.b2,g _ _ _ h.b3⟩
theorem p0.below{j N n:Nat}{W d:World}{o q:Value}{m:Nat}{g:List Bool}(h:p0 j N n W o q m g)(hb:Below W.heap.size W d):p0 j N n d o q m g:=h.blocks fun k _ _ i=>(hb.block k (an i)).trans i
theorem p0.said{g N i:Nat}{W d:World}{n o:Value}{m:Nat}{q j:List Bool}(h:p0 g N i W n o m q)(h1:g+1<N)(u:N<i)(hg:W.grownBy d (some N))(t:d.heap[N]?=some (.cells (aC j) 4 (0,0))):p0 g N i d n o m j :=
 ⟨(hg.block _ (an h.b0) (fun e=>by cases e;omega)).trans h.b0,(hg.block _ (an h.b1) (fun e=>by cases e;omega)).trans h.b1,t,(hg.block _ (an h.b3) (fun e=>by cases e;omega)).trans h.b3⟩
theorem xC.part{w:World}{v:Value}{J:List PR}{o:List (Value×Value)}(h:xC w v J o){i:Nat}{x:Bool×Value×Value}(t:(og J o)[i]?=some x):∃(r:PR) (d g:Option Addr) (cl cr:Nat),J[i]?=some r/\x=(r.1,.slice d r.2.1.length cl,.slice g r.2.2.length cr)/\bz 0 w (.slice d r.2.1.length cl) r.2.1/\bz 0 w (.slice g r.2.2.length cr) r.2.2/\dh r.2.1/\dh r.2.2:=by
 obtain⟨r,u,h1,q,rfl⟩:=BW t;obtain⟨t1,t2⟩:=h.bP i r u h1 q;obtain⟨g1,g2⟩:=h.ok r (bC h1);obtain⟨d,cl,j⟩:=ak t1;obtain⟨g,cr,n⟩:=ak t2;rw[j]at t1;rw[n]at t2;exact⟨r,d,g,cl,cr,h1,by rw[j,n],t1,t2,g1,g2⟩
theorem xC.cells{w:World}{g:Option Addr}{au:Nat}{J:List PR}{d:List (Value×Value)}(h:xC w (.slice g J.length au) J d){i:Nat}{x:Bool×Value×Value}(B:(og J d)[i]?=some x):∃q,g=some ⟨q,0,none⟩/\q<w.heap.size/\w.cell? ⟨q,i*3,none⟩=some (.bool x.1)/\w.cell? ⟨q,i*3+1,none⟩=some x.2.1/\w.cell? ⟨q,i*3+2,none⟩=some x.2.2:=by
 obtain⟨r,u,h1,v,rfl⟩:=BW B;have hi:=(a1.1 h1).1;have hc:=Hw J d i r u h1 v;obtain⟨q,n,_,j⟩:=cu h.row hc.1 (by omega);obtain⟨C,o,_,y⟩:=cu h.row hc.2.1 (by omega);obtain⟨E,t,_,A⟩:=cu h.row hc.2.2 (by omega);rw[n]at o t;cases o;cases t;exact⟨q,n,C5 j,j,y,A⟩
def hL(J:List PR)(row:List Nat)(l:List Nat):List Bool:=l.foldl (o4 J row) (List.replicate (row.length+1) true)
theorem DZ(J:List PR)(row:List Nat):∀l,(hL J row l).length=row.length+1:=by
 apply mI
 ·unfold hL;simp
 ·intro l a b;unfold hL at *;rw[e0];exact(G1 _ _ _ _).trans b
theorem BG(J:List PR)(row:List Nat)(l:List Nat){i:Nat}{r:PR}(h:J[i]?=some r):hL J row (l++[i])=iA row r (hL J row l):=by
 unfold hL;rw[e0];show o4 J row _ i=_;unfold o4;rw[h]
theorem Hs(w:World)(e3 e4:Value)(J:List PR)(N:List (Value×Value))(row:List Nat)(R:xC w e3 J N)(z:xH w e4 row):Calls prog 53 #[.agg #[e3],e4] w fun r w'=>∃g,r=.returned (.slice (some ⟨g,0,none⟩) (row.length+1) (row.length+1))/\w.heap.size<=g/\w'.heap[g]?=some (.cells (aC (dM J row)) 4 (0,0))/\Below w.heap.size w w':=by
 obtain⟨a,b,rfl⟩:=ak R.row;obtain⟨f,m,rfl⟩:=ak z.own;have a2:Hid (xC w (.slice a J.length b) J N):=R;have e6:Hid (xH w (.slice f row.length m) row):=z;have h4:=z.iL;have h3:=R.iL;have a1:Hid ((og J N).length=J.length):=Hv R.len;obtain⟨d,F⟩:∃d,d=((w.alloc (.cells #[.slice a J.length b] 89)).alloc (.cells #[.slice f row.length m] 91)).alloc (.cells #[.bool true] 4):=⟨_,rfl⟩;have b7:Hid (d=((w.alloc (.cells #[.slice a J.length b] 89)).alloc (.cells #[.slice f row.length m] 91)).alloc (.cells #[.bool true] 4)):=F;have c8:d.heap.size=w.heap.size+3:=by rw[F];simp
 have b4:Hid (Below w.heap.size w d):=by rw[F];exact((af w _).alloc (by simp) _).alloc (by simp;omega) _
 have e0:d.heap[w.heap.size]?=some (.cells #[.slice a J.length b] 89 (0,0)):=by rw[F];exact(aW _ _ _ (by simp;omega)).trans ((aW _ _ _ (by simp)).trans (aw w _))
 have b0:d.heap[w.heap.size+1]?=some (.cells #[.slice f row.length m] 91 (0,0)):=by rw[F];exact(aW _ _ _ (by simp)).trans ((show (w.alloc (.cells #[.slice a J.length b] 89)).heap.size=w.heap.size+1 by simp)▸aw (w.alloc _) _)
 have e1:d.heap[w.heap.size+2]?=some (.cells #[.bool true] 4 (0,0)):=by rw[F];exact(show ((w.alloc (.cells #[.slice a J.length b] 89)).alloc (.cells #[.slice f row.length m] 91)).heap.size=w.heap.size+2 by simp)▸aw ((w.alloc _).alloc _) _
 have b8:Hid (d.heap[w.heap.size]?=some (.cells #[.slice a J.length b] 89 (0,0))):=e0;have P1:Hid (d.heap[w.heap.size+1]?=some (.cells #[.slice f row.length m] 91 (0,0))):=b0;have a5:=ab b0 0 _ rfl;have a8:Calls prog 100 #[.slice (some ⟨w.heap.size+2,0,none⟩) 1 1,.int .i64 ((row.length:Int)+1)] d fun r w'=>r=.returned (.slice (some ⟨d.heap.size,0,none⟩) (row.length+1) (row.length+1))/\w'.heap[d.heap.size]?=some (.cells (aC (List.replicate (row.length+1) true)) 4 (0,0))/\Below d.heap.size d w':=D1 d (w.heap.size+2) (row.length+1) e1 (by omega) (by omega)
 rw[c8]at a8;have c4:=a5;rw[F]at c4;have b6:Hid (Calls prog 100 #[.slice (some ⟨w.heap.size+2,0,none⟩) 1 1,.int .i64 ((row.length:Int)+1)] d fun r w'=>r=.returned (.slice (some ⟨w.heap.size+3,0,none⟩) (row.length+1) (row.length+1))/\w'.heap[w.heap.size+3]?=some (.cells (aC (List.replicate (row.length+1) true)) 4 (0,0))/\Below (w.heap.size+3) d w'):=a8;clear R z F e0 b0 e1 a8 a5;refine(callsIn_wide (n:=3)).1 ?_;refine callsIn_of_wp_marks func53 rfl trivial ?_ rfl;simp only[ntmps53,ky,bT,gd,Nat.reduceAdd,Nat.reduceSub,qW,qX,List.push_toArray,qV,np,jd]
 gi_wp2
 refine⟨trivial,?_⟩;rw[<- b7.out];refine(callsIn_wide.2 b6.out).mono ?_;rintro r W1 ⟨rfl,C,u⟩;have h6:w.heap.size+4<=W1.heap.size:=an C;have b5:Hid (Below w.heap.size w W1):=b4.out.trans (u.mono (by omega));have a0:W1.heap[w.heap.size]?=some (.cells #[.slice a J.length b] 89 (0,0)):=(u.block _ (by omega)).trans b8.out;have e2:W1.heap[w.heap.size+1]?=some (.cells #[.slice f row.length m] 91 (0,0)):=(u.block _ (by omega)).trans P1.out;have b9:Hid (W1.heap[w.heap.size]?=some (.cells #[.slice a J.length b] 89 (0,0))):=a0;have c0:Hid (W1.heap[w.heap.size+1]?=some (.cells #[.slice f row.length m] 91 (0,0))):=e2;have c1:Hid (W1.heap[w.heap.size+3]?=some (.cells (aC (List.replicate (row.length+1) true)) 4 (0,0))):=C;have e7:=fun o=>((af W1 o).cell (p:=⟨w.heap.size,0,none⟩) (an a0)).trans (ab a0 0 _ rfl)
 clear b7 b4 b8 P1 u C a0 e2 b6 c4 c8;obtain⟨a9,g4⟩:∃a9,a9=W1.heap.size:=⟨_,rfl⟩
 gi_wp2_with (refine⟨trivial,?_⟩;gi_at_call 101;refine(PY Fence.wide _ trivial rfl _ _ _ _).mono ?_;rintro e w' ⟨rfl,rfl⟩)
 clear g4 a9;obtain⟨W2,M⟩:∃W2,W2=(W1.alloc (.cells #[.slice (some ⟨w.heap.size+3,0,none⟩) (row.length+1) (row.length+1)] 108)).alloc (.cells #[.slice a J.length b] 87):=⟨_,rfl⟩;rw[<- M];have Q:Below W1.heap.size W1 W2:=by rw[M];exact(af W1 _).alloc (by simp) _
 have h7:W2.heap.size=W1.heap.size+2:=by rw[M];simp
 have c5:W2.heap[W1.heap.size+1]?=some (.cells #[.slice a J.length b] 87 (0,0)):=by rw[M];exact(show (W1.alloc (.cells #[.slice (some ⟨w.heap.size+3,0,none⟩) (row.length+1) (row.length+1)] 108)).heap.size=W1.heap.size+1 by simp)▸aw (W1.alloc _) _
 have S:p0 w.heap.size (w.heap.size+3) W1.heap.size W2 (.slice a J.length b) (.slice f row.length m) (row.length+1) (hL J row (dS ([]:List (At (og J N))))):=by
  refine⟨(Q.block _ (by omega)).trans b9.out,(Q.block _ (by omega)).trans c0.out,(Q.block _ (by omega)).trans c1.out,?_⟩;rw[M];exact(aW _ _ _ (by simp)).trans (aw W1 _)
 have G:Below w.heap.size w W2:=b5.out.trans (Q.mono (by omega));have c7:∀j k,(og J N)[j]?=some k->∃q,a=some ⟨q,0,none⟩/\q<w.heap.size/\W2.cell? ⟨q,j*3,none⟩=some (.bool k.1)/\W2.cell? ⟨q,j*3+1,none⟩=some k.2.1/\W2.cell? ⟨q,j*3+2,none⟩=some k.2.2:=by
  intro j k a7;obtain⟨q,h1,L,a6,e8,e9⟩:=a2.out.cells a7;exact⟨q,h1,L,(G.cell (p:=⟨q,j*3,none⟩) L).trans a6,(G.cell (p:=⟨q,j*3+1,none⟩) L).trans e8,(G.cell (p:=⟨q,j*3+2,none⟩) L).trans e9⟩
 have V:=It Fence.wide 2 trivial rfl (by omega) (W1.heap.size+1) w.heap.size b a (og J N) (by rw[a1.out];omega) W2 87 (by omega) (by rw[a1.out];exact c5) c7;clear M b9 c0 c1 b5 Q e7 c7 c5;refine wpIn_rangeFunc_ownH rfl (by omega) (gf:=154) (lb:=#[.pointer (some ⟨W1.heap.size+1,0,none⟩)]) rfl trivial (enters_of func154 (by kernel_rfl) rfl)
  V nU (yE (by omega) (by omega)) (aB _ _) (fun _=>rfl)
  (fun pre W=>p0 w.heap.size (w.heap.size+3) W1.heap.size W (.slice a J.length b) (.slice f row.length m) (row.length+1) (hL J row (dS pre))/\(Below w.heap.size w W/\W2.heap.size<=W.heap.size))
  (fun _ _ _=>False)
  (OwnFrom.and (Own.from (fun s A B row I hg U=>I.blocks fun k h0 t a7=>oM hg U a7) _) (OwnFrom.and (ownFrom_below (ar _) (by omega)) (fun s A B row I hg U=>aE I hg.size)))
  (fun _ _ _ _ _ I _ _=>I)
  ⟨S,G,ar _⟩
  (fun x a' W=>∃O,W.heap[O]?=some (.cells #[.bool x.1.2.1,x.1.2.2.1,x.1.2.2.2] 157 (0,0))/\a'={ tmps:=#[.agg #[.slice a J.length b],.slice f row.length m,.pointer (some ⟨w.heap.size,0,none⟩),.pointer (some ⟨w.heap.size+1,0,none⟩),.slice none 0 0,.pointer (some ⟨W1.heap.size,0,none⟩),undef,.pointer (some ⟨O,0,none⟩),.slice (some ⟨w.heap.size+1+1,0,none⟩) 1 1,.slice f row.length m,.int .i64 row.length,.int .i64 (row.length+1),.slice (some ⟨w.heap.size+3,0,none⟩) (row.length+1) (row.length+1),.pointer (some ⟨w.heap.size,0,none⟩),.slice a J.length b,.func (.func 154) #[] #[.pointer (some ⟨W1.heap.size+1,0,none⟩)],.int .i64 (x.1.1:Nat),.agg #[.bool x.1.2.1,x.1.2.2.1,x.1.2.2.2],undef,undef,undef,undef,undef],defers:=[] })
  (fun x a' _ X Y row I hg U=>by obtain⟨O,L,a6⟩:=I;exact⟨O,oM hg (fun r e=>(U r e).2) L,a6⟩)
  ?assign ?body ?done ?stop
 case assign =>
  rintro l pre ⟨⟨i,x⟩,Z⟩ W K ⟨y,u,hS⟩ z;obtain⟨r,a3,a4,cl,cr,h1,rfl,t1,t2,g1,g2⟩:=a2.out.part Z;have P:Hid (p0 w.heap.size (w.heap.size+3) W1.heap.size W (.slice a J.length b) (.slice f row.length m) (row.length+1) (hL J row (dS pre))):=y;have H:Hid (Below w.heap.size w W):=u;clear y u t1 t2 g1 g2 S G V
  gi_wp2
  exact z _ _ ((KeepsOthers.alloc _ _).from _) ⟨(aB _ W).alloc H.out.size _,aW _ _ _ (by omega)⟩ ⟨P.out.below (af W _),H.out.alloc H.out.size _,by simp;omega⟩ ⟨W.heap.size,aw W _,rfl⟩
 case body =>
  rintro l pre ⟨⟨i,x⟩,Z⟩ a' W h5 _ ⟨y,u,hS⟩ ⟨O,T,rfl⟩ _;obtain⟨r,a3,a4,cl,cr,h1,rfl,t1,t2,g1,g2⟩:=a2.out.part Z;have P:Hid (p0 w.heap.size (w.heap.size+3) W1.heap.size W (.slice a J.length b) (.slice f row.length m) (row.length+1) (hL J row (dS pre))):=y;have H:Hid (Below w.heap.size w W):=u;have E:Hid (hL J row (dS (pre++[⟨(i,(r.1,.slice a3 r.2.1.length cl,.slice a4 r.2.2.length cr)),Z⟩]))=iA row r (hL J row (dS pre))):=by
   show _=_;unfold dS;rw[c9];exact BG J row _ h1
  have g5:=ab T 0 _ rfl;have g6:=ab T 1 _ rfl;have g7:=ab T 2 _ rfl;have a5:=ab y.b1 0 _ rfl;have c3:=ab y.b3 0 _ rfl;have g3:=(callsIn_wide (n:=0)).2 (HR W r.1 (.slice a3 r.2.1.length cl) (.slice a4 r.2.2.length cr) (.slice f row.length m) r.2.1 r.2.2 row (w.heap.size+3) _ (al t1 (Kp.below u)) g1 (al t2 (Kp.below u)) g2 (e6.out.below u) y.b2 (DZ J row _));clear y u t1 t2 g1 g2 S G V T h1
  dsimp only at g5 g6 g7
  have hd:1<=3-1-1:=by omega
  gi_wp2_with (refine⟨trivial,?_⟩;gi_at_call 102;refine(CallsIn.inRound l g3).mono ?_;rintro e W3 ⟨⟨v,rfl⟩,g0,C⟩)
  have c2:Below w.heap.size W W3:=(aB _ W).grown C (by omega) (fun k e=>by cases e;omega);refine⟨KeepsFrom.of_grownBy C (fun j e=>by cases e;omega),⟨c2,C.block _ (by omega) (fun e=>by have:=g8 e;omega)⟩,?_,H.out.trans c2,by have:=C.size;omega⟩;rw[E.out];exact P.out.said (by omega) (by omega) C g0
 case done =>
  rintro D e5 W h2 hS ⟨y,u,_⟩ z;have g9:=ab y.b3 0 _ rfl;have P:Hid (p0 w.heap.size (w.heap.size+3) W1.heap.size W (.slice a J.length b) (.slice f row.length m) (row.length+1) (hL J row (dS e5))):=y;have H:Hid (Below w.heap.size w W):=u;clear y u S G V
  gi_wp2
  refine⟨by simp,.inl ⟨_,_,rfl,run_takeDeferred z,?_⟩⟩;refine⟨_,results_tmp rfl _ _ _,w.heap.size+3,rfl,by omega,?_,H.out.trans (belowK_b (w:=w) (ar _) W D _ _ (by omega) z rfl rfl)⟩;have e:hL J row (dS e5)=dM J row:=by rw[hS,a1.out];exact Ax J row
  rw[<- e];exact yV z rfl _ P.out.b2
 case stop =>
  rintro D c pre W _ _ h _;exact h.elim
end Go.Proofs.YtodagkkjfipbgaaGreatDoor
