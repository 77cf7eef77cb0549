import Derived.Deep.RegionHeld3
import Derived.DeepKeys4
import Derived.Test.YtodagkkjfipbgaaGreatDoorM4toA39
set_option maxRecDepth 100000
set_option maxHeartbeats 8000000
namespace Go.Proofs.YtodagkkjfipbgaaGreatDoor
open Go.RowKit Go.Maps Go.Proofs.Tryz
theorem CF{J:AJ}{l:List Nat}{i:Nat}(hi:i<J.length):km J l (J.length-i) i=if bG (n5 J i) ((l[i]?).getD 0)=true then i else km J l (J.length-(i+1)) (i+1):=by
 rw[show J.length-i=(J.length-(i+1))+1 from by omega,km]
def kB(x:bY):Value:=.agg (aA x).toArray
theorem qa{x:bY}{j v:Nat}(h:x.2[j]?=some v):(aA x)[1+j]?=some (.int .i64 (v:Nat)):=by
 unfold aA;rw[Nat.add_comm,xJ,cV,h];rfl
theorem wU(w:World)(v:Value)(J:AJ)(R:List (Value×Value))(x:bY)(y:mA 0 w v J R)(a7:J.length<=4)(C:dl J x):Calls prog 185 #[v,kB x] w fun r w'=>r=.returned (.int .i64 (hQ J x.2:Nat))/\Below w.heap.size w w':=by
 obtain⟨b,l⟩:=x;obtain⟨p,q,r,s,e⟩:=four C.len;simp only at e;subst e;obtain⟨H,au,rfl,Q⟩:=y.form;have V:Hid (∀i (hi:i<J.length),∃g k t n c f d,H=some ⟨g,0,none⟩/\g<w.heap.size/\bz 0 w (.slice k t n) J[i].tl/\bz 0 w (.slice c f d) J[i].tr /\
  w.cell? ⟨g,i*3,none⟩=some (.bool J[i].cut)/\w.cell? ⟨g,i*3+1,none⟩=some (.slice k t n)/\w.cell? ⟨g,i*3+2,none⟩=some (.slice c f d)):=Q
 have U:Hid (mA 0 w (.slice H J.length au) J R):=y;have Y:Hid (dl J (b,[p,q,r,s])):=C;clear y Q C;have D:Hid (Below w.heap.size w (w.alloc (.cells (aA (b,[p,q,r,s])).toArray 249))):=af w _;have G:Hid ((w.alloc (.cells (aA (b,[p,q,r,s])).toArray 249)).heap[w.heap.size]?=some (.cells (aA (b,[p,q,r,s])).toArray 249 (0,0))):=aw w _;show Calls _ _ #[_,.agg #[.bool b,.int .i64 p,.int .i64 q,.int .i64 r,.int .i64 s]] _ _;go_enter func185,ntmps185;go_wp2_with fail
 go_loopg [9] J.length (fun a1 a6 S=>∃i:Nat,i<=J.length/\a1=J.length-i/\a6=.int .i64 i/\Hid (S.heap[w.heap.size]?=some (.cells (aA (b,[p,q,r,s])).toArray 249 (0,0)))/\Hid (km J [p,q,r,s] (J.length-i) i=hQ J [p,q,r,s])/\Hid (Below w.heap.size w S))
 case atStart=>exact⟨0,aJ _,rfl,rfl,G,rfl,D⟩
 case round =>
  obtain⟨i,hi,rfl,rfl,z,O,h⟩:=hrel;obtain⟨a,a5⟩:∃a,a=wr:=⟨wr,rfl⟩;subst a5;clear D G
  by_cases o:i<J.length
  ·obtain⟨g,k,t,n,c,f,d,rfl,hg,a2,P,I,K,M⟩:=V.out i o;have d0:=(h.out.cell (p:=⟨g,i*3,none⟩) hg).trans I;have d1:=(h.out.cell (p:=⟨g,i*3+1,none⟩) hg).trans K;have d2:=(h.out.cell (p:=⟨g,i*3+2,none⟩) hg).trans M;obtain⟨u,hu,_,a4⟩:=Y.out.at_ (j:=i) (by omega);have B:=a4 o;unfold xX at B;rw[hG o]at B;have N:=ab z.out (1+i) _ ((h4 ..).trans (qa (x:=(b,[p,q,r,s])) hu));have a0:Hid (bz 0 a (.slice c f d) J[i].tr):=al P (Kp.below h.out);have T:Hid (dh J[i].tr):=(U.out.ok _ (bl o)).r;obtain⟨m,A⟩:∃m,m=bG J[i].tr u:=⟨_,rfl⟩;have F:Hid (hQ J [p,q,r,s]=if m=true then i else km J [p,q,r,s] (J.length-(i+1)) (i+1)):=by
    show _=_;rw[<- O.out,CF o,hG o,hu,A];rfl
   clear a2 P I K M;generalize J[i]=L at *;have a8:(i:Int)<4:=by omega
   have f0:((a.alloc (.cells #[.bool L.cut,.slice k t n,.slice c f d] 234)).cell? ⟨w.heap.size,1+i,none⟩=some (.int .i64 (u:Nat))):=((af a _).cell (p:=⟨w.heap.size,1+i,none⟩) (k3 N)).trans N;have X:Hid (∀W,Below a.heap.size a W->Calls prog 182 #[.slice c f d,.int .i64 (u:Nat)] W fun r w'=>r=.returned (.bool m)/\w'=W):=fun W a3=>by rw[A];exact jW W _ L.tr u (al a0.out (Kp.below a3)) T.out B
   have E:Hid (Below w.heap.size w (a.alloc (.cells #[.bool L.cut,.slice k t n,.slice c f d] 234))):=h.out.alloc h.out.size _;have Z:Hid ((a.alloc (.cells #[.bool L.cut,.slice k t n,.slice c f d] 234)).heap[w.heap.size]?=some (.cells (aA (b,[p,q,r,s])).toArray 249 (0,0))):=by show _=_;rw[aW _ _ _ (an z.out)];exact z.out
   clear A;go_wp2_with fail
   go_region_law (first
    | (refine o3 rfl 182 (.tmp 16) (.tmp 20) _ rfl (enters_of func182 (by kernel_rfl) rfl) (.slice c f d) (.int .i64 (u:Nat)) (by simp[Act.eval]) (by simp[Act.eval]) _ (X.out _ ((af a _).drew)) ?_
       rintro e W1 ⟨rfl,rfl⟩;refine⟨_,rfl,?_⟩))
   all_goals cases m
   all_goals go_wp2_with fail
   all_goals first
    | (go_roundg (J.length-(i+1))
       case measure=>omega
       case rel=>exact⟨i+1,by omega,rfl,by go_num,Z,by show _=_;rw[F.out,ae (by decide)],E.out.drew⟩)
    | (go_ret
       exact⟨by show Ending.returned (.int .i64 (i:Nat))=_;rw[F.out];simp,E.out.drew⟩)
  ·have e:Hid (hQ J [p,q,r,s]=J.length):=by
    show _=_;rw[<- O.out,show J.length-i=0 from by omega,km];omega
   go_wp2_with fail;go_ret;exact⟨by show Ending.returned (.int .i64 (J.length:Nat))=_;rw[e.out],h.out⟩
theorem Nc{w:World}{q:Nat}{a b c c3 d d0 d1 d2 d3 d4:Value}{t:TypeId}(h:w.heap[q]?=some (.cells #[a,b,c,c3,d] t (0,0))):(((((w.setCell ⟨q,0,none⟩ d0).setCell ⟨q,1,none⟩ d1).setCell ⟨q,2,none⟩ d2).setCell ⟨q,3,none⟩ d3).setCell ⟨q,4,none⟩ d4).heap[q]?=some (.cells #[d0,d1,d2,d3,d4] t (0,0)) :=
 (am ((am ((am ((am ((am h 0 _).trans rfl) 1 _).trans rfl) 2 _).trans rfl) 3 _).trans rfl) 4 _).trans rfl
theorem l7{base:Nat}{w w':World}{q:Nat}{d0 d1 d2 d3 d4:Value}(h:Below base w w')(a:base<=q):Below base w (((((w'.setCell ⟨q,0,none⟩ d0).setCell ⟨q,1,none⟩ d1).setCell ⟨q,2,none⟩ d2).setCell ⟨q,3,none⟩ d3).setCell ⟨q,4,none⟩ d4) :=
 ((((h.setCell a _).setCell a _).setCell a _).setCell a _).setCell a _
theorem nD{w:World}{g:Nat}{b:Bool}{l:List Nat}{t:TypeId}(h:w.heap[g]?=some (.cells (aA (b,l)).toArray t (0,0)))(a:l.length=4):∃p q r s,l=[p,q,r,s]/\w.cell? ⟨g,0,none⟩=some (.bool b)/\w.cell? ⟨g,1,none⟩=some (.int .i64 (p:Nat))/\w.cell? ⟨g,2,none⟩=some (.int .i64 (q:Nat))/\w.cell? ⟨g,3,none⟩=some (.int .i64 (r:Nat))/\w.cell? ⟨g,4,none⟩=some (.int .i64 (s:Nat)):=by
 obtain⟨p,q,r,s,rfl⟩:=four a;exact⟨p,q,r,s,rfl,ab h 0 _ rfl,ab h 1 _ rfl,ab h 2 _ rfl,ab h 3 _ rfl,ab h 4 _ rfl⟩
theorem A5(f:Nat)(l:List Nat):h7 f (f+1) l=l:=by
 apply gh;intro i;unfold h7;rw[eS];cases l[i]? with
 | none=>rfl
 | some x =>
  simp only[cU,h3];split
  ·rw[ae (by omega)]
  ·rfl
theorem DB{f i:Nat}{l:List Nat}(hi:i<l.length)(h:f<i):h7 f (i+1) l=(h7 f i l).set i 1:=by
 unfold h7;rw[lW (ax hi),ag h]
theorem GO(f i:Nat)(l:List Nat):(h7 f i l).length=l.length:=fy _ _ _
theorem GP{f i n:Nat}(l:List Nat)(h:n<=i)(a:i=n\/i=f+1):h7 f i l=h7 f n l:=by
 apply gh;intro j;unfold h7;rw[eS,eS];cases l[j]? with
 | none=>rfl
 | some x =>
  simp only[cU,h3]
  by_cases h1:j<n
  ·rw[ag h1,ag (by omega)]
  ·rw[ae h1];split
   ·rw[ae (by omega)]
   ·rfl
theorem aD{w:World}{g o:Nat}{u:Value}{q:Nat}(a:q≠g):(w.setCell ⟨g,o,none⟩ u).heap[q]?=w.heap[q]?:=e2 _ _ _ _ a
theorem A4(w:World)(v:Value)(J:AJ)(y:List (Value×Value))(x:bY)(o:mA 0 w v J y)(X:J.length<=4)(t:dl J x):Calls prog 183 #[v,kB x] w fun r w'=>r=.returned (kB (mB J x))/\Below w.heap.size w w':=by
 obtain⟨b,l⟩:=x;obtain⟨p,q,r,s,e⟩:=four t.len;simp only at e;subst e;obtain⟨V,au,rfl,_⟩:=o.form;have O:Hid (mA 0 w (.slice V J.length au) J y):=o;have T:Hid (dl J (b,[p,q,r,s])):=t;clear o t;obtain⟨f,k⟩:∃f,f=hQ J [p,q,r,s]:=⟨_,rfl⟩;have Q:Hid (f=hQ J [p,q,r,s]):=k;have a5:f<=J.length:=by rw[k];exact yN J _
 obtain⟨a,g⟩:∃a,a=(w.alloc (.cells #[.bool b,.int .i64 (p:Nat),.int .i64 (q:Nat),.int .i64 (r:Nat),.int .i64 (s:Nat)] 249)).alloc (.cells #[.bool false,.int .i64 0,.int .i64 0,.int .i64 0,.int .i64 0] 249):=⟨_,rfl⟩;have S:Hid (a=(w.alloc (.cells #[.bool b,.int .i64 (p:Nat),.int .i64 (q:Nat),.int .i64 (r:Nat),.int .i64 (s:Nat)] 249)).alloc (.cells #[.bool false,.int .i64 0,.int .i64 0,.int .i64 0,.int .i64 0] 249)):=g;have b0:Below w.heap.size w a:=by rw[g];exact(af w _).alloc (by simp) _
 have a9:a.heap.size=w.heap.size+2:=by rw[g];simp
 have d:a.heap[w.heap.size]?=some (.cells (aA (b,[p,q,r,s])).toArray 249 (0,0)):=by rw[g,aW _ _ _ (by simp)];exact aw w _
 have I:a.heap[w.heap.size+1]?=some (.cells #[.bool false,.int .i64 0,.int .i64 0,.int .i64 0,.int .i64 0] 249 (0,0)):=by rw[g];exact(show ((w.alloc (.cells #[.bool b,.int .i64 (p:Nat),.int .i64 (q:Nat),.int .i64 (r:Nat),.int .i64 (s:Nat)] 249)).heap.size)=w.heap.size+1 by simp)▸aw (w.alloc _) _
 have m:Hid (Below w.heap.size w a):=b0;have U:Hid (a.heap[w.heap.size]?=some (.cells (aA (b,[p,q,r,s])).toArray 249 (0,0))):=d;have P1:Hid (a.heap[w.heap.size+1]?=some (.cells #[.bool false,.int .i64 0,.int .i64 0,.int .i64 0,.int .i64 0] 249 (0,0))):=I;have m0:=ab d 0 _ rfl;have m1:=ab d 1 _ rfl;have m2:=ab d 2 _ rfl;have m3:=ab d 3 _ rfl;have m4:=ab d 4 _ rfl;clear g d I b0;show Calls _ _ #[_,.agg #[.bool b,.int .i64 (p:Nat),.int .i64 (q:Nat),.int .i64 (r:Nat),.int .i64 (s:Nat)]] _ _;go_enter func183,ntmps183;go_wp2_with fail;rw[<- S.out];go_wp2_with fail;refine(wU a _ J y (b,[p,q,r,s]) (O.out.below m.out) X T.out).mono ?_;rw[show hQ J (b,[p,q,r,s]).2=f from k.symm];rintro rr z ⟨rfl,j⟩;have B:Hid (Below w.heap.size w z):=m.out.trans (j.mono m.out.size);have C:Hid (z.heap[w.heap.size]?=some (.cells (aA (b,[p,q,r,s])).toArray 249 (0,0))):=by show _=_;rw[j.block _ (by omega)];exact U.out
 have D:Hid (z.heap[w.heap.size+1]?=some (.cells #[.bool false,.int .i64 0,.int .i64 0,.int .i64 0,.int .i64 0] 249 (0,0))):=by show _=_;rw[j.block _ (by omega)];exact P1.out
 clear j m0 m1 m2 m3 m4 k;go_wp2_with fail
 go_loopg [5] (5-(f+1)) (fun W Z A=>∃i:Nat,f+1<=i/\(i<=J.length\/i=f+1)/\W=5-i/\Z=.int .i64 i/\Hid (A.heap[w.heap.size]?=some (.cells (aA (b,h7 f i [p,q,r,s])).toArray 249 (0,0)))/\Hid (A.heap[w.heap.size+1]?=some (.cells #[.bool false,.int .i64 0,.int .i64 0,.int .i64 0,.int .i64 0] 249 (0,0)))/\Hid (Below w.heap.size w A))
 case atStart=>exact⟨f+1,ar _,ac rfl,rfl,by go_num,by rw[A5];exact C,D,B⟩
 case round =>
  obtain⟨i,a6,hi,rfl,rfl,h,c,E⟩:=hrel;obtain⟨N,Y⟩:∃N,N=wr:=⟨wr,rfl⟩;subst Y;clear C D B;have G:(h7 f i [p,q,r,s]).length=4:=GO _ _ _
  by_cases a8:i<J.length
  ·have a7:(i:Int)<4:=by omega
   obtain⟨u,hu⟩:∃u,(h7 f i [p,q,r,s])[i]?=some u:=⟨(h7 f i [p,q,r,s])[i]'(by omega),ax _⟩;have a4:=ab h.out (1+i) _ ((h4 ..).trans (qa (x:=(b,h7 f i [p,q,r,s])) hu));have f1:=aq h.out (1+i);go_wp2_with fail;go_roundg (5-(i+1))
   case measure=>omega
   case rel =>
    refine⟨i+1,by omega,ah (by omega),rfl,by go_num,?_,?_,E.out.setCell (ar _) _⟩
    ·show _=_;rw[am h.out,show (1:Int)=((1:Nat):Int) from rfl,hJ,DB (by simp;omega) (by omega)]
    ·show _=_;rw[aD (by omega)];exact c.out
  ·have F:=GP (f:=f) (i:=i) (n:=J.length) [p,q,r,s] (by omega) (by omega);have P:Hid ((mB J (b,[p,q,r,s]))=(b,h7 f i [p,q,r,s])):=by show _=_;unfold mB;rw[F];simp only;rw[Q.out]
   obtain⟨H,K,L,M,el,a0,a1,a2,c3,a3⟩:=nD h.out G;have R:Hid (h7 f i [p,q,r,s]=[H,K,L,M]):=el;have d0:=ab c.out 0 _ rfl;have d1:=ab c.out 1 _ rfl;have d2:=ab c.out 2 _ rfl;have d3:=ab c.out 3 _ rfl;have d4:=ab c.out 4 _ rfl;have df:=aq c.out;clear el F G;go_wp2_with fail;refine bodyPost_ret (kx rfl _ _ (w.heap.size+1) 249 #[.bool b,.int .i64 (H:Nat),.int .i64 (K:Nat),.int .i64 (L:Nat),.int .i64 (M:Nat)] (0,0) _ rfl (Nc c.out) Tryz.underlying249 rfl (by kernel_rfl)) rfl ?_;refine⟨?_,l7 E.out (by omega)⟩;rw[P.out,R.out];rfl
theorem Ks{J:AJ}(g:∀r∈J,fh r){x:bY}(h:dl J x)(k:Nat)(b:Bool):dl J (b,ey J.length (fun j v=>cm (n5 J j) v k) x.2):=by
 refine⟨(fy _ _ _).trans h.len,fun j v a=>?_⟩;simp only at a;rw[eS]at a;cases f:x.2[j]? with
 | none=>rw[f]at a;simp at a
 | some u =>
  rw[f]at a;have h1:=h.lt j u f;simp only[cU,h3]at a
  by_cases c:j<J.length
  ·rw[ag c]at a;have hg:=(g _ (bl c)).r;have d:=h1.2 c;unfold xX at d;rw[hG c]at d a;have:=li hg (k:=k) d;unfold xX;rw[hG c];have:=hg.iL;exact⟨by omega,fun _=>by omega⟩
  ·rw[ae c]at a;subst a;exact⟨h1.1,fun e=>absurd e c⟩
theorem HG(w:World)(v:Value)(J:AJ)(a2:List (Value×Value))(x:bY)(k:Nat)(G:mA 0 w v J a2)(c4:J.length<=4)(I:nh J x)(b8:k<8):Calls prog 142 #[v,kB x,.int .u8 k] w fun r w'=>r=.returned (kB (k0 J x k))/\Below w.heap.size w w':=by
 obtain⟨b,l⟩:=x;obtain⟨p,q,r,s,e⟩:=four I.len;simp only at e;subst e;obtain⟨P,au,rfl,S⟩:=G.form;have a7:Hid (∀i (hi:i<J.length),∃g d h f o z t,P=some ⟨g,0,none⟩/\g<w.heap.size/\bz 0 w (.slice d h f) J[i].tl/\bz 0 w (.slice o z t) J[i].tr /\
  w.cell? ⟨g,i*3,none⟩=some (.bool J[i].cut)/\w.cell? ⟨g,i*3+1,none⟩=some (.slice d h f)/\w.cell? ⟨g,i*3+2,none⟩=some (.slice o z t)):=S
 have a5:Hid (mA 0 w (.slice P J.length au) J a2):=G;have b3:Hid (nh J (b,[p,q,r,s])):=I;clear G I S;obtain⟨c,A⟩:∃c,c=(w.alloc (.cells #[.bool true,.int .i64 (p:Nat),.int .i64 (q:Nat),.int .i64 (r:Nat),.int .i64 (s:Nat)] 243)).alloc (.cells #[.bool false,.int .i64 0,.int .i64 0,.int .i64 0,.int .i64 0] 243):=⟨_,rfl⟩;have b2:Hid (c=(w.alloc (.cells #[.bool true,.int .i64 (p:Nat),.int .i64 (q:Nat),.int .i64 (r:Nat),.int .i64 (s:Nat)] 243)).alloc (.cells #[.bool false,.int .i64 0,.int .i64 0,.int .i64 0,.int .i64 0] 243)):=A;have b0:Below w.heap.size w c:=by rw[A];exact(af w _).alloc (by simp) _
 have c7:c.heap.size=w.heap.size+2:=by rw[A];simp
 have X:c.heap[w.heap.size]?=some (.cells (aA (true,[p,q,r,s])).toArray 243 (0,0)):=by
  rw[A];exact(aW _ _ _ (by simp)).trans (aw w _)
 have Y:c.heap[w.heap.size+1]?=some (.cells #[.bool false,.int .i64 0,.int .i64 0,.int .i64 0,.int .i64 0] 243 (0,0)):=by
  rw[A];exact(show ((w.alloc (.cells #[.bool true,.int .i64 (p:Nat),.int .i64 (q:Nat),.int .i64 (r:Nat),.int .i64 (s:Nat)] 243)).heap.size)=w.heap.size+1 by simp)▸aw (w.alloc _) _
 have M:Hid (Below w.heap.size w c):=b0;have N:Hid (c.heap[w.heap.size]?=some (.cells (aA (true,[p,q,r,s])).toArray 243 (0,0))):=X;have P1:Hid (c.heap[w.heap.size+1]?=some (.cells #[.bool false,.int .i64 0,.int .i64 0,.int .i64 0,.int .i64 0] 243 (0,0))):=Y;clear A X Y b0;show Calls _ _ #[_,.agg #[.bool b,.int .i64 (p:Nat),.int .i64 (q:Nat),.int .i64 (r:Nat),.int .i64 (s:Nat)],_] _ _;go_enter func142,ntmps142;go_wp2_with fail;rw[<- b2.out]
 go_loopg [12] J.length (fun b5 c1 K=>∃i:Nat,i<=J.length/\b5=J.length-i/\c1=.int .i64 i/\Hid (K.heap[w.heap.size]?=some (.cells (aA (true,ey i (fun j v=>cm (ov J j) v k) [p,q,r,s])).toArray 243 (0,0)))/\Hid (K.heap[w.heap.size+1]?=some (.cells #[.bool false,.int .i64 0,.int .i64 0,.int .i64 0,.int .i64 0] 243 (0,0)))/\Hid (Below w.heap.size w K))
 case atStart=>exact⟨0,aJ _,rfl,rfl,by rw[oA];exact N,P1,M⟩
 case round =>
  obtain⟨i,hi,rfl,rfl,C,m,y⟩:=hrel;obtain⟨a,c0⟩:∃a,a=wr:=⟨wr,rfl⟩;subst c0;clear N P1 M;have T:(ey i (fun j v=>cm (ov J j) v k) [p,q,r,s]).length=4:=fy _ _ _
  by_cases B:i<J.length
  ·obtain⟨g,d,h,f,o,z,t,rfl,hg,R,b6,D,E,F⟩:=a7.out i B;have d0:=(y.out.cell (p:=⟨g,i*3,none⟩) hg).trans D;have d1:=(y.out.cell (p:=⟨g,i*3+1,none⟩) hg).trans E;have d2:=(y.out.cell (p:=⟨g,i*3+2,none⟩) hg).trans F;obtain⟨u,hu,_,b9⟩:=b3.out.at_ (j:=i) (by omega);have H:=b9 B;unfold HF at H;rw[lI B]at H;have b1:Hid (ey (i+1) (fun j v=>cm (ov J j) v k) [p,q,r,s]=(ey i (fun j v=>cm (ov J j) v k) [p,q,r,s]).set i (cm J[i].tl u k)):=by show _=_;rw[lW hu,lI B]
   have U:=(oB (n:=i) (fun j v=>cm (ov J j) v k) (l:=[p,q,r,s]) (ar i)).trans hu;have Q:=ab C.out (1+i) _ ((h4 ..).trans (qa (x:=(true,ey i (fun j v=>cm (ov J j) v k) [p,q,r,s])) U));have b4:Hid (bz 0 a (.slice d h f) J[i].tl):=al R (Kp.below y.out);have a4:Hid (dh J[i].tl):=(a5.out.ok _ (bl B)).l;clear R b6 D E F hu U;generalize J[i]=L at *;have c5:(i:Int)<4:=by omega
   have f0:((a.alloc (.cells #[.bool L.cut,.slice d h f,.slice o z t] 234)).cell? ⟨w.heap.size,1+i,none⟩=some (.int .i64 (u:Nat))):=((af a _).cell (p:=⟨w.heap.size,1+i,none⟩) (k3 Q)).trans Q;have a9:Hid (∀W,Below a.heap.size a W->Calls prog 184 #[.slice d h f,.int .i64 (u:Nat),.int .u8 k] W fun r w'=>r=.returned (.int .i64 (cm L.tl u k:Nat))/\w'=W):=fun W b7=>nA W _ L.tl u k (al b4.out (Kp.below b7)) a4.out H b8
   have a3:Hid (Below w.heap.size w (a.alloc (.cells #[.bool L.cut,.slice d h f,.slice o z t] 234))):=y.out.alloc y.out.size _;have O:Hid ((a.alloc (.cells #[.bool L.cut,.slice d h f,.slice o z t] 234)).heap[w.heap.size]?=some (.cells (aA (true,ey i (fun j v=>cm (ov J j) v k) [p,q,r,s])).toArray 243 (0,0))):=by show _=_;rw[aW _ _ _ (an C.out)];exact C.out
   have RR:Hid ((a.alloc (.cells #[.bool L.cut,.slice d h f,.slice o z t] 234)).heap[w.heap.size+1]?=some (.cells #[.bool false,.int .i64 0,.int .i64 0,.int .i64 0,.int .i64 0] 243 (0,0))):=by show _=_;rw[aW _ _ _ (an m.out)];exact m.out
   have fr:=aq O.out (1+i);go_wp2_with fail
   go_region_law (first
    | (refine j5 rfl 184 (.tmp 20) (.tmp 24) (.tmp 25) _ rfl (enters_of func184 (by kernel_rfl) rfl) (.slice d h f) (.int .i64 (u:Nat)) (.int .u8 (k:Nat)) (by simp[Act.eval]) (by simp[Act.eval]) (by simp[Act.eval]) _ (a9.out _ ((af a _).drew)) ?_
       rintro e W1 ⟨rfl,rfl⟩;refine⟨_,rfl,?_⟩))
   all_goals go_wp2_with fail
   all_goals go_roundg (J.length-(i+1))
   all_goals first
    | (case measure=>omega)
    | skip
   all_goals refine⟨i+1,by omega,rfl,by go_num,?_,?_,a3.out.drew.setCell (ar _) _⟩
   all_goals show _=_
   all_goals first
    | (rw[b1.out,<- hJ];exact am O.out _ _)
    | exact(aD (by omega)).trans RR.out
  ·have a6:Hid (k0 J (b,[p,q,r,s]) k=(true,ey i (fun j v=>cm (ov J j) v k) [p,q,r,s])):=by show _=_;rw[show i=J.length from by omega];rfl
   obtain⟨V,Z,a0,a1,el,D,E,F,c3,c2⟩:=nD C.out T;have a8:Hid (ey i (fun j v=>cm (ov J j) v k) [p,q,r,s]=[V,Z,a0,a1]):=el;have d0:=ab m.out 0 _ rfl;have d1:=ab m.out 1 _ rfl;have d2:=ab m.out 2 _ rfl;have d3:=ab m.out 3 _ rfl;have d4:=ab m.out 4 _ rfl;have df:=aq m.out;clear el T;go_wp2_with fail;refine bodyPost_ret (kx rfl _ _ (w.heap.size+1) 243 #[.bool true,.int .i64 (V:Nat),.int .i64 (Z:Nat),.int .i64 (a0:Nat),.int .i64 (a1:Nat)] (0,0) _ rfl (Nc m.out) Tryz.underlying243 rfl (by kernel_rfl)) rfl ?_;refine⟨?_,l7 y.out (by omega)⟩;rw[a6.out,a8.out];rfl
theorem Kr(w:World)(v:Value)(J:AJ)(V:List (Value×Value))(x:bY)(k:Nat)(R:mA 0 w v J V)(e3:J.length<=4)(U:dl J x)(e6:k<8):Calls prog 144 #[v,kB x,.int .u8 k] w fun r w'=>r=.returned (kB (mQ J x k))/\Below w.heap.size w w':=by
 obtain⟨b,l⟩:=x;obtain⟨p,q,r,s,e⟩:=four U.len;simp only at e;subst e;obtain⟨a3,au,rfl,a7⟩:=R.form;have c5:Hid (∀i (hi:i<J.length),∃g t A z d h f,a3=some ⟨g,0,none⟩/\g<w.heap.size/\bz 0 w (.slice t A z) J[i].tl/\bz 0 w (.slice d h f) J[i].tr /\
  w.cell? ⟨g,i*3,none⟩=some (.bool J[i].cut)/\w.cell? ⟨g,i*3+1,none⟩=some (.slice t A z)/\w.cell? ⟨g,i*3+2,none⟩=some (.slice d h f)):=a7
 have D:Hid (mA 0 w (.slice a3 J.length au) J V):=R;have a0:Hid (dl J (b,[p,q,r,s])):=U;clear R U a7;obtain⟨c,B⟩:∃c,c=(w.alloc (.cells #[.bool true,.int .i64 (p:Nat),.int .i64 (q:Nat),.int .i64 (r:Nat),.int .i64 (s:Nat)] 249)).alloc (.cells #[.bool false,.int .i64 0,.int .i64 0,.int .i64 0,.int .i64 0] 249):=⟨_,rfl⟩;have c9:Hid (c=(w.alloc (.cells #[.bool true,.int .i64 (p:Nat),.int .i64 (q:Nat),.int .i64 (r:Nat),.int .i64 (s:Nat)] 249)).alloc (.cells #[.bool false,.int .i64 0,.int .i64 0,.int .i64 0,.int .i64 0] 249)):=B;have b0:Below w.heap.size w c:=by rw[B];exact(af w _).alloc (by simp) _
 have g2:c.heap.size=w.heap.size+2:=by rw[B];simp
 have b4:c.heap[w.heap.size]?=some (.cells (aA (true,[p,q,r,s])).toArray 249 (0,0)):=by
  rw[B];exact(aW _ _ _ (by simp)).trans (aw w _)
 have b5:c.heap[w.heap.size+1]?=some (.cells #[.bool false,.int .i64 0,.int .i64 0,.int .i64 0,.int .i64 0] 249 (0,0)):=by
  rw[B];exact(show ((w.alloc (.cells #[.bool true,.int .i64 (p:Nat),.int .i64 (q:Nat),.int .i64 (r:Nat),.int .i64 (s:Nat)] 249)).heap.size)=w.heap.size+1 by simp)▸aw (w.alloc _) _
 have Y:Hid (Below w.heap.size w c):=b0;have a1:Hid (c.heap[w.heap.size]?=some (.cells (aA (true,[p,q,r,s])).toArray 249 (0,0))):=b4;have P1:Hid (c.heap[w.heap.size+1]?=some (.cells #[.bool false,.int .i64 0,.int .i64 0,.int .i64 0,.int .i64 0] 249 (0,0))):=b5;clear B b4 b5 b0;show Calls _ _ #[_,.agg #[.bool b,.int .i64 (p:Nat),.int .i64 (q:Nat),.int .i64 (r:Nat),.int .i64 (s:Nat)],_] _ _;go_enter func144,ntmps144;go_wp2_with fail;rw[<- c9.out]
 go_loopg [12] J.length (fun e2 e9 X=>∃i:Nat,i<=J.length/\e2=J.length-i/\e9=.int .i64 i/\Hid (X.heap[w.heap.size]?=some (.cells (aA (true,ey i (fun j v=>cm (n5 J j) v k) [p,q,r,s])).toArray 249 (0,0)))/\Hid (X.heap[w.heap.size+1]?=some (.cells #[.bool false,.int .i64 0,.int .i64 0,.int .i64 0,.int .i64 0] 249 (0,0)))/\Hid (Below w.heap.size w X))
 case atStart=>exact⟨0,aJ _,rfl,rfl,by rw[oA];exact a1,P1,Y⟩
 case round =>
  obtain⟨i,hi,rfl,rfl,E,F,m⟩:=hrel;obtain⟨a,e8⟩:∃a,a=wr:=⟨wr,rfl⟩;subst e8;clear a1 P1 Y;have a9:(ey i (fun j v=>cm (n5 J j) v k) [p,q,r,s]).length=4:=fy _ _ _
  by_cases C:i<J.length
  ·obtain⟨g,t,A,z,d,h,f,rfl,hg,e4,a6,O,P,Q⟩:=c5.out i C;have d0:=(m.out.cell (p:=⟨g,i*3,none⟩) hg).trans O;have d1:=(m.out.cell (p:=⟨g,i*3+1,none⟩) hg).trans P;have d2:=(m.out.cell (p:=⟨g,i*3+2,none⟩) hg).trans Q;obtain⟨u,hu,_,e7⟩:=a0.out.at_ (j:=i) (by omega);have T:=e7 C;unfold xX at T;rw[hG C]at T;have c8:Hid (ey (i+1) (fun j v=>cm (n5 J j) v k) [p,q,r,s]=(ey i (fun j v=>cm (n5 J j) v k) [p,q,r,s]).set i (cm J[i].tr u k)):=by show _=_;rw[lW hu,hG C]
   have b1:=(oB (n:=i) (fun j v=>cm (n5 J j) v k) (l:=[p,q,r,s]) (ar i)).trans hu;have a4:=ab E.out (1+i) _ ((h4 ..).trans (qa (x:=(true,ey i (fun j v=>cm (n5 J j) v k) [p,q,r,s])) b1));have e0:Hid (bz 0 a (.slice d h f) J[i].tr):=al a6 (Kp.below m.out);have c2:Hid (dh J[i].tr):=(D.out.ok _ (bl C)).r;clear e4 a6 O P Q hu b1;generalize J[i]=L at *;have g1:(i:Int)<4:=by omega
   have f0:((a.alloc (.cells #[.bool L.cut,.slice t A z,.slice d h f] 234)).cell? ⟨w.heap.size,1+i,none⟩=some (.int .i64 (u:Nat))):=((af a _).cell (p:=⟨w.heap.size,1+i,none⟩) (k3 a4)).trans a4;have c7:Hid (∀W,Below a.heap.size a W->Calls prog 184 #[.slice d h f,.int .i64 (u:Nat),.int .u8 k] W fun r w'=>r=.returned (.int .i64 (cm L.tr u k:Nat))/\w'=W):=fun W e5=>nA W _ L.tr u k (al e0.out (Kp.below e5)) c2.out T e6
   have c1:Hid (Below w.heap.size w (a.alloc (.cells #[.bool L.cut,.slice t A z,.slice d h f] 234))):=m.out.alloc m.out.size _;have a2:Hid ((a.alloc (.cells #[.bool L.cut,.slice t A z,.slice d h f] 234)).heap[w.heap.size]?=some (.cells (aA (true,ey i (fun j v=>cm (n5 J j) v k) [p,q,r,s])).toArray 249 (0,0))):=by show _=_;rw[aW _ _ _ (an E.out)];exact E.out
   have RR:Hid ((a.alloc (.cells #[.bool L.cut,.slice t A z,.slice d h f] 234)).heap[w.heap.size+1]?=some (.cells #[.bool false,.int .i64 0,.int .i64 0,.int .i64 0,.int .i64 0] 249 (0,0))):=by show _=_;rw[aW _ _ _ (an F.out)];exact F.out
   have fr:=aq a2.out (1+i);go_wp2_with fail
   go_region_law (first
    | (refine j5 rfl 184 (.tmp 20) (.tmp 24) (.tmp 25) _ rfl (enters_of func184 (by kernel_rfl) rfl) (.slice d h f) (.int .i64 (u:Nat)) (.int .u8 (k:Nat)) (by simp[Act.eval]) (by simp[Act.eval]) (by simp[Act.eval]) _ (c7.out _ ((af a _).drew)) ?_
       rintro e W1 ⟨rfl,rfl⟩;refine⟨_,rfl,?_⟩))
   all_goals go_wp2_with fail
   all_goals go_roundg (J.length-(i+1))
   all_goals first
    | (case measure=>omega)
    | skip
   all_goals refine⟨i+1,by omega,rfl,by go_num,?_,?_,c1.out.drew.setCell (ar _) _⟩
   all_goals show _=_
   all_goals first
    | (rw[c8.out,<- hJ];exact am a2.out _ _)
    | exact(aD (by omega)).trans RR.out
  ·have Z:Hid (mQ J (b,[p,q,r,s]) k=mB J (true,ey i (fun j v=>cm (n5 J j) v k) [p,q,r,s])):=by show _=_;rw[show i=J.length from by omega];rfl
   have N:Hid (dl J (true,ey i (fun j v=>cm (n5 J j) v k) [p,q,r,s])):=by rw[show i=J.length from by omega];exact Ks D.out.ok a0.out k _
   obtain⟨b3,b6,b7,b8,el,O,P,Q,c3,g0⟩:=nD E.out a9;rw[el]at Z N;clear el a9;go_wp2_with fail;refine(A4 a _ J V (true,[b3,b6,b7,b8]) (D.out.below m.out) e3 N.out).mono ?_;rintro rr b9 ⟨rfl,S⟩;obtain⟨y,G⟩:∃y,y=mB J (true,[b3,b6,b7,b8]):=⟨_,rfl⟩;have a8:y.2.length=4:=by rw[G];exact(ti D.out.ok N.out).len
   rw[<- G];obtain⟨b2,g3⟩:=y;obtain⟨H,I,K,M,a5⟩:=four a8;simp only at a5;subst a5;have c4:Hid (mQ J (b,[p,q,r,s]) k=(b2,[H,I,K,M])):=Z.out.trans G.symm;have o:Hid (b9.heap[w.heap.size+1]?=some (.cells #[.bool false,.int .i64 0,.int .i64 0,.int .i64 0,.int .i64 0] 249 (0,0))):=by show _=_;rw[S.block _ (an F.out)];exact F.out
   have c0:Hid (Below w.heap.size w b9):=m.out.trans (S.mono m.out.size);have d0:=ab o.out 0 _ rfl;have d1:=ab o.out 1 _ rfl;have d2:=ab o.out 2 _ rfl;have d3:=ab o.out 3 _ rfl;have d4:=ab o.out 4 _ rfl;have df:=aq o.out;have e1:kB (b2,[H,I,K,M])=.agg #[.bool b2,.int .i64 (H:Nat),.int .i64 (I:Nat),.int .i64 (K:Nat),.int .i64 (M:Nat)]:=rfl;rw[e1];clear G S a8;go_wp2_with fail;refine bodyPost_ret (kx rfl _ _ (w.heap.size+1) 249 #[.bool b2,.int .i64 (H:Nat),.int .i64 (I:Nat),.int .i64 (K:Nat),.int .i64 (M:Nat)] (0,0) _ rfl (Nc o.out) Tryz.underlying249 rfl (by kernel_rfl)) rfl ?_;exact⟨by rw[c4.out];rfl,l7 c0.out (by omega)⟩
theorem Fa{i:Nat}(h:i<4):([0,0,0,0]:List Nat)[i]?=some 0:=by
 match i,h with
 | 0,_=>rfl
 | 1,_=>rfl
 | 2,_=>rfl
 | 3,_=>rfl
theorem Bo{J:AJ}{i:Nat}{l:List Nat}(hi:i<4):dT J (i+1) l=(dT J i l).set i (if bG (ov J i) ((l[i]?).getD 0)=true then 0 else 1):=by
 unfold dT;rw[lW (Fa hi)]
theorem Bp{J:AJ}{i:Nat}{l:List Nat}(hi:i<4):(dT J i l)[i]?=some 0:=by
 unfold dT;rw[oB _ (ar i),Fa hi]
theorem JH{l:List Nat}{i x:Nat}(h:l[i]?=some x):l.set i x=l:=by
 apply gh;intro j;rw[ml];split
 ·rename_i e;subst e;rw[ag (a1.1 h).1,h]
 ·rfl
theorem vQ(J:AJ)(i:Nat)(l:List Nat):(dT J i l).length=4:=fy _ _ _
theorem G3{J:AJ}(e:∀r∈J,fh r)(l:List Nat)(b:Bool):dl J (b,dT J J.length l):=by
 refine⟨vQ _ _ _,fun j v a=>?_⟩;simp only at a;unfold dT at a;rw[eS]at a;cases c:([0,0,0,0]:List Nat)[j]? with
 | none=>rw[c]at a;simp at a
 | some u =>
  rw[c]at a;simp only[cU,h3]at a;have hu:u=0:=by have:=bC c;simp at this;exact this
  have f:v<=1:=by
   split at a
   ·split at a<;>omega
   ·omega
  refine⟨by omega,fun d=>?_⟩;unfold xX;rw[hG d];have:=(e _ (bl d)).two;omega
theorem G2(w:World)(v:Value)(J:AJ)(a3:List (Value×Value))(x:bY)(U:mA 0 w v J a3)(e9:J.length<=4)(a1:nh J x):Calls prog 141 #[v,kB x] w fun r w'=>r=.returned (kB (kU J x))/\Below w.heap.size w w':=by
 obtain⟨b,l⟩:=x;obtain⟨p,q,r,s,e⟩:=four a1.len;simp only at e;subst e;obtain⟨b1,au,rfl,b5⟩:=U.form;have e0:Hid (∀i (hi:i<J.length),∃g d h f k t n,b1=some ⟨g,0,none⟩/\g<w.heap.size/\bz 0 w (.slice d h f) J[i].tl/\bz 0 w (.slice k t n) J[i].tr /\
  w.cell? ⟨g,i*3,none⟩=some (.bool J[i].cut)/\w.cell? ⟨g,i*3+1,none⟩=some (.slice d h f)/\w.cell? ⟨g,i*3+2,none⟩=some (.slice k t n)):=b5
 have E:Hid (mA 0 w (.slice b1 J.length au) J a3):=U;have e5:Hid (nh J (b,[p,q,r,s])):=a1;clear U a1 b5;obtain⟨c,A⟩:∃c,c=((w.alloc (.cells #[.bool b,.int .i64 (p:Nat),.int .i64 (q:Nat),.int .i64 (r:Nat),.int .i64 (s:Nat)] 243)).alloc (.cells #[.bool false,.int .i64 0,.int .i64 0,.int .i64 0,.int .i64 0] 249)).alloc (.cells #[.bool false,.int .i64 0,.int .i64 0,.int .i64 0,.int .i64 0] 249):=⟨_,rfl⟩;have e4:Hid (c=((w.alloc (.cells #[.bool b,.int .i64 (p:Nat),.int .i64 (q:Nat),.int .i64 (r:Nat),.int .i64 (s:Nat)] 243)).alloc (.cells #[.bool false,.int .i64 0,.int .i64 0,.int .i64 0,.int .i64 0] 249)).alloc (.cells #[.bool false,.int .i64 0,.int .i64 0,.int .i64 0,.int .i64 0] 249)):=A;have b0:Below w.heap.size w c:=by rw[A];exact((af w _).alloc (by simp) _).alloc (by simp;omega) _
 have g7:c.heap.size=w.heap.size+3:=by rw[A];simp
 have b9:c.heap[w.heap.size]?=some (.cells (aA (b,[p,q,r,s])).toArray 243 (0,0)):=by
  rw[A];exact(aW _ _ _ (by simp;omega)).trans ((aW _ _ _ (by simp)).trans (aw w _))
 have c0:c.heap[w.heap.size+1]?=some (.cells #[.bool false,.int .i64 0,.int .i64 0,.int .i64 0,.int .i64 0] 249 (0,0)):=by
  rw[A];exact(aW _ _ _ (by simp)).trans ((show ((w.alloc (.cells #[.bool b,.int .i64 (p:Nat),.int .i64 (q:Nat),.int .i64 (r:Nat),.int .i64 (s:Nat)] 243)).heap.size)=w.heap.size+1 by simp)▸aw (w.alloc _) _)
 have B:c.heap[w.heap.size+2]?=some (.cells (aA (false,[0,0,0,0])).toArray 249 (0,0)):=by
  rw[A];exact(show (((w.alloc (.cells #[.bool b,.int .i64 (p:Nat),.int .i64 (q:Nat),.int .i64 (r:Nat),.int .i64 (s:Nat)] 243)).alloc (.cells #[.bool false,.int .i64 0,.int .i64 0,.int .i64 0,.int .i64 0] 249)).heap.size)=w.heap.size+2 by simp)▸aw ((w.alloc _).alloc _) _
 have a4:Hid (Below w.heap.size w c):=b0;have a7:Hid (c.heap[w.heap.size]?=some (.cells (aA (b,[p,q,r,s])).toArray 243 (0,0))):=b9;have P1:Hid (c.heap[w.heap.size+1]?=some (.cells #[.bool false,.int .i64 0,.int .i64 0,.int .i64 0,.int .i64 0] 249 (0,0))):=c0;have a8:Hid (c.heap[w.heap.size+2]?=some (.cells (aA (false,[0,0,0,0])).toArray 249 (0,0))):=B;clear A b9 c0 B b0;show Calls _ _ #[_,.agg #[.bool b,.int .i64 (p:Nat),.int .i64 (q:Nat),.int .i64 (r:Nat),.int .i64 (s:Nat)]] _ _;go_enter func141,ntmps141;go_wp2_with fail;rw[<- e4.out]
 go_loopg [10] J.length (fun e8 g4 N=>∃i:Nat,i<=J.length/\e8=J.length-i/\g4=.int .i64 i/\Hid (N.heap[w.heap.size]?=some (.cells (aA (b,[p,q,r,s])).toArray 243 (0,0)))/\Hid (N.heap[w.heap.size+1]?=some (.cells #[.bool false,.int .i64 0,.int .i64 0,.int .i64 0,.int .i64 0] 249 (0,0)))/\Hid (N.heap[w.heap.size+2]?=some (.cells (aA (false,dT J i [p,q,r,s])).toArray 249 (0,0)))/\Hid (Below w.heap.size w N))
 case atStart=>exact⟨0,aJ _,rfl,rfl,a7,P1,by unfold dT;rw[oA];exact a8,a4⟩
 case round =>
  obtain⟨i,hi,rfl,rfl,V,G,F,o⟩:=hrel;obtain⟨a,g3⟩:∃a,a=wr:=⟨wr,rfl⟩;subst g3;clear a7 P1 a8 a4;have b7:(dT J i [p,q,r,s]).length=4:=vQ _ _ _
  by_cases D:i<J.length
  ·obtain⟨g,d,h,f,k,t,n,rfl,hg,b4,g0,R,S,T⟩:=e0.out i D;have d0:=(o.out.cell (p:=⟨g,i*3,none⟩) hg).trans R;have d1:=(o.out.cell (p:=⟨g,i*3+1,none⟩) hg).trans S;have d2:=(o.out.cell (p:=⟨g,i*3+2,none⟩) hg).trans T;obtain⟨u,hu,_,g2⟩:=e5.out.at_ (j:=i) (by omega);have a0:=g2 D;unfold HF at a0;rw[lI D]at a0;obtain⟨m,Y⟩:∃m,m=bG J[i].tl u:=⟨_,rfl⟩;have P:Hid (dT J (i+1) [p,q,r,s]=(dT J i [p,q,r,s]).set i (if m=true then 0 else 1)):=by show _=_;rw[Bo (by omega),lI D,hu,Y];rfl
   have a2:=Bp (J:=J) (i:=i) (l:=[p,q,r,s]) (by omega);have e2:Hid (m=true->dT J (i+1) [p,q,r,s]=dT J i [p,q,r,s]):=fun e=>by rw[P.out,ag e,JH a2]
   have e3:Hid (m=false->dT J (i+1) [p,q,r,s]=(dT J i [p,q,r,s]).set i 1):=fun e=>by rw[P.out,ae (by rw[e];decide)]
   clear P;have b3:=ab V.out (1+i) _ ((h4 ..).trans (qa (x:=(b,[p,q,r,s])) hu));have C:=ab F.out (1+i) _ ((h4 ..).trans (qa (x:=(false,dT J i [p,q,r,s])) a2));have e6:Hid (bz 0 a (.slice d h f) J[i].tl):=al b4 (Kp.below o.out);have c8:Hid (dh J[i].tl):=(E.out.ok _ (bl D)).l;clear b4 g0 R S T hu a2;generalize J[i]=L at *;have g6:(i:Int)<4:=by omega
   have f0:((a.alloc (.cells #[.bool L.cut,.slice d h f,.slice k t n] 234)).cell? ⟨w.heap.size,1+i,none⟩=some (.int .i64 (u:Nat))):=((af a _).cell (p:=⟨w.heap.size,1+i,none⟩) (k3 b3)).trans b3;have f2:((a.alloc (.cells #[.bool L.cut,.slice d h f,.slice k t n] 234)).cell? ⟨w.heap.size+2,1+i,none⟩=some (.int .i64 ((0:Nat):Int))):=((af a _).cell (p:=⟨w.heap.size+2,1+i,none⟩) (k3 C)).trans C;have e1:Hid (∀W,Below a.heap.size a W->Calls prog 182 #[.slice d h f,.int .i64 (u:Nat)] W fun r w'=>r=.returned (.bool m)/\w'=W):=fun W g1=>by rw[Y];exact jW W _ L.tl u (al e6.out (Kp.below g1)) c8.out a0
   have a5:Hid (Below w.heap.size w (a.alloc (.cells #[.bool L.cut,.slice d h f,.slice k t n] 234))):=o.out.alloc o.out.size _;have a9:Hid ((a.alloc (.cells #[.bool L.cut,.slice d h f,.slice k t n] 234)).heap[w.heap.size]?=some (.cells (aA (b,[p,q,r,s])).toArray 243 (0,0))):=by show _=_;rw[aW _ _ _ (an V.out)];exact V.out
   have Q:Hid ((a.alloc (.cells #[.bool L.cut,.slice d h f,.slice k t n] 234)).heap[w.heap.size+2]?=some (.cells (aA (false,dT J i [p,q,r,s])).toArray 249 (0,0))):=by show _=_;rw[aW _ _ _ (an F.out)];exact F.out
   have RR:Hid ((a.alloc (.cells #[.bool L.cut,.slice d h f,.slice k t n] 234)).heap[w.heap.size+1]?=some (.cells #[.bool false,.int .i64 0,.int .i64 0,.int .i64 0,.int .i64 0] 249 (0,0))):=by show _=_;rw[aW _ _ _ (an G.out)];exact G.out
   have fr:=aq Q.out (1+i);clear Y;go_wp2_with fail
   go_region_law (first
    | (refine o3 rfl 182 (.tmp 17) (.tmp 21) _ rfl (enters_of func182 (by kernel_rfl) rfl) (.slice d h f) (.int .i64 (u:Nat)) (by simp[Act.eval]) (by simp[Act.eval]) _ (e1.out _ ((af a _).drew)) ?_
       rintro e W1 ⟨rfl,rfl⟩;refine⟨_,rfl,?_⟩))
   all_goals cases m
   all_goals go_wp2_with fail
   all_goals go_roundg (J.length-(i+1))
   all_goals first
    | (case measure=>omega)
    | (refine⟨i+1,by omega,rfl,by go_num,a9,RR,?_,a5.out.drew⟩
       show _=_;have Z:=e2.out (by simp);rw[Z];exact Q.out)
    | (refine⟨i+1,by omega,rfl,by go_num,?_,?_,?_,a5.out.drew.setCell (by show w.heap.size<=w.heap.size+2;omega) _⟩
       ·exact(aD (by omega)).trans a9.out
       ·exact(aD (by omega)).trans RR.out
       ·show _=_;have Z:=e3.out (by simp);exact(am Q.out (1+i) (.int .i64 ((1:Nat):Int))).trans (by rw[Z,<- hJ]))
  ·have a6:Hid (kU J (b,[p,q,r,s])=mB J (false,dT J i [p,q,r,s])):=by show _=_;rw[show i=J.length from by omega];rfl
   have O:Hid (dl J (false,dT J i [p,q,r,s])):=by rw[show i=J.length from by omega];exact G3 E.out.ok _ _
   obtain⟨b8,c1,c2,c4,el,R,S,T,c3,g5⟩:=nD F.out b7;rw[el]at a6 O;clear el b7;go_wp2_with fail;refine(A4 a _ J a3 (false,[b8,c1,c2,c4]) (E.out.below o.out) e9 O.out).mono ?_;rintro rr c5 ⟨rfl,X⟩;obtain⟨y,H⟩:∃y,y=mB J (false,[b8,c1,c2,c4]):=⟨_,rfl⟩;have b6:y.2.length=4:=by rw[H];exact(ti E.out.ok O.out).len
   rw[<- H];obtain⟨b2,g8⟩:=y;obtain⟨B,I,K,M,C⟩:=four b6;simp only at C;subst C;have c9:Hid (kU J (b,[p,q,r,s])=(b2,[B,I,K,M])):=a6.out.trans H.symm;have z:Hid (c5.heap[w.heap.size+1]?=some (.cells #[.bool false,.int .i64 0,.int .i64 0,.int .i64 0,.int .i64 0] 249 (0,0))):=by show _=_;rw[X.block _ (an G.out)];exact G.out
   have c7:Hid (Below w.heap.size w c5):=o.out.trans (X.mono o.out.size);have d0:=ab z.out 0 _ rfl;have d1:=ab z.out 1 _ rfl;have d2:=ab z.out 2 _ rfl;have d3:=ab z.out 3 _ rfl;have d4:=ab z.out 4 _ rfl;have df:=aq z.out;have e7:kB (b2,[B,I,K,M])=.agg #[.bool b2,.int .i64 (B:Nat),.int .i64 (I:Nat),.int .i64 (K:Nat),.int .i64 (M:Nat)]:=rfl;rw[e7];clear H X b6;go_wp2_with fail;refine bodyPost_ret (kx rfl _ _ (w.heap.size+1) 249 #[.bool b2,.int .i64 (B:Nat),.int .i64 (I:Nat),.int .i64 (K:Nat),.int .i64 (M:Nat)] (0,0) _ rfl (Nc z.out) Tryz.underlying249 rfl (by kernel_rfl)) rfl ?_;exact⟨by rw[c9.out];rfl,l7 c7.out (by omega)⟩
theorem LF(w:World)(v:Value)(J:AJ)(B:List (Value×Value))(x:bY)(t:mA 0 w v J B)(P:J.length<=4)(y:dl J x):Calls prog 143 #[v,kB x] w fun r w'=>r=.returned (.bool (xa J x))/\Below w.heap.size w w':=by
 obtain⟨b,l⟩:=x;obtain⟨p,q,r,s,e⟩:=four y.len;simp only at e;subst e;obtain⟨D,au,rfl,F⟩:=t.form;have K:Hid (∀i (hi:i<J.length),∃g k z n m A o,D=some ⟨g,0,none⟩/\g<w.heap.size/\bz 0 w (.slice k z n) J[i].tl/\bz 0 w (.slice m A o) J[i].tr /\
  w.cell? ⟨g,i*3,none⟩=some (.bool J[i].cut)/\w.cell? ⟨g,i*3+1,none⟩=some (.slice k z n)/\w.cell? ⟨g,i*3+2,none⟩=some (.slice m A o)):=F
 have I:Hid (mA 0 w (.slice D J.length au) J B):=t;have M:Hid (dl J (b,[p,q,r,s])):=y;clear t y F;have d:Hid (Below w.heap.size w (w.alloc (.cells (aA (b,[p,q,r,s])).toArray 249))):=af w _;have C:Hid ((w.alloc (.cells (aA (b,[p,q,r,s])).toArray 249)).heap[w.heap.size]?=some (.cells (aA (b,[p,q,r,s])).toArray 249 (0,0))):=aw w _;obtain⟨f,c⟩:∃f,f=hQ J [p,q,r,s]:=⟨_,rfl⟩;have U:f<=J.length:=by rw[c];exact yN J _
 have h:Hid (xa J (b,[p,q,r,s])=(!b||(f==J.length)||Gq J f)):=by show _=_;rw[c];rfl
 show Calls _ _ #[_,.agg #[.bool b,.int .i64 (p:Nat),.int .i64 (q:Nat),.int .i64 (r:Nat),.int .i64 (s:Nat)]] _ _;go_enter func143,ntmps143;go_wp2_with fail;refine(wU _ _ J B (b,[p,q,r,s]) (I.out.below d.out) P M.out).mono ?_;rw[show hQ J (b,[p,q,r,s]).2=f from c.symm];rintro rr H ⟨rfl,u⟩;have a:Hid (Below w.heap.size w H):=d.out.trans (u.mono d.out.size);have W:H.cell? ⟨w.heap.size,0,none⟩=some (.bool b):=ab ((u.block _ (an C.out)).trans C.out) 0 _ rfl;clear u c;cases b
 ·go_wp2_with fail;go_ret;exact⟨by rw[h.out];rfl,a.out⟩
 ·by_cases G:f<J.length
  ·obtain⟨g,k,z,n,m,A,o,rfl,hg,Q,R,E,N,O⟩:=K.out f G;have d0:=(a.out.cell (p:=⟨g,f*3,none⟩) hg).trans E;have V:¬(f:Int)=(J.length:Int):=by omega
   have j:Hid (xa J (true,[p,q,r,s])=J[f].cut):=by
    show _=_;rw[h.out,LI G];have:(f==J.length)=false:=by simp;omega
    rw[this];rfl
   clear Q R E N O;generalize J[f]=L at *;have T:((f:Int)==(J.length:Int))=false:=by simp;omega
   go_wp2_with fail;go_ret;exact⟨by rw[j.out];rfl,a.out⟩
  ·have S:f=J.length:=by omega
   subst S;have j:Hid (xa J (true,[p,q,r,s])=true):=by show _=_;rw[h.out];simp
   go_wp2_with fail;go_ret;exact⟨by rw[j.out];rfl,a.out⟩
theorem Tryz.laidOutB:laidOutB prog=true:=by kernel_rfl
def qb(b:Bool)(p q r s:Nat):Value:=.agg #[.bool b,.int .i64 p,.int .i64 q,.int .i64 r,.int .i64 s]
theorem Ox:∃m,prog.types.size+1=m+4:=by
 have h:prog.types.size=(prog.types.size-3)+3:=by kernel_rfl
 exact⟨prog.types.size-3,by omega⟩
theorem z1{a:Nat}(h:a<1000):(Lit.int .i64 (a:Int)).wf=true:=by
 have e:IntKind.i64.min=-9223372036854775808:=by decide
 simp[Lit.wf,e];omega
theorem wy{m p q r s:Nat}(c:p<1000)(d:q<1000)(f:r<1000)(g:s<1000):prog.keyLits (m+2) 241 [.int .i64 p,.int .i64 q,.int .i64 r,.int .i64 s]=some [.int .i64 p,.int .i64 q,.int .i64 r,.int .i64 s]:=by
 have a:prog.cellsOf 241=4:=by kernel_rfl
 have b:prog.cellsOf 3=1:=by kernel_rfl
 have e:List.range 4=[0,1,2,3]:=by decide
 simp[Program.keyLits,Tryz.underlying241,Tryz.underlying3,a,b,e,z1 c,z1 d,z1 f,z1 g]
theorem Es{b:Bool}{p q r s:Nat}(h:p<1000)(i:q<1000)(j:r<1000)(k:s<1000):∃l,keyOf prog 243 (qb b p q r s)=some l:=by
 have a:prog.cellsOf 243=5:=by kernel_rfl
 have c:prog.cellsOf 241=4:=by kernel_rfl
 have c3:prog.cellsOf 4=1:=by kernel_rfl
 have e:prog.keyType 243=true:=by kernel_rfl
 obtain⟨m,g⟩:=Ox;have f:prog.keyLits (m+4) 243 [.bool b,.int .i64 p,.int .i64 q,.int .i64 r,.int .i64 s]=some [.bool b,.int .i64 p,.int .i64 q,.int .i64 r,.int .i64 s]:=by
  have h1:prog.keyLits (m+3) 241 [.int .i64 p,.int .i64 q,.int .i64 r,.int .i64 s]=some [.int .i64 p,.int .i64 q,.int .i64 r,.int .i64 s]:=wy (m:=m+1) h i j k;have h0:prog.keyLits (m+3) 4 [.bool b]=some [.bool b]:=by simp[Program.keyLits,Tryz.underlying4]
  unfold Program.keyLits;simp[Tryz.underlying243,a,c,c3,h1,h0]
 unfold keyOf;rw[Tryz.underlying243,g];have d:(qb b p q r s).formed prog 243=true:=by simp[qb,Value.formed,Tryz.underlying243,a]
 simp only[e,d,Bool.and_self,de];have hc:(qb b p q r s).cells.toList=[.bool b,.int .i64 p,.int .i64 q,.int .i64 r,.int .i64 s]:=by simp[qb,Value.cells]
 rw[hc,f];exact⟨_,rfl⟩
theorem Cp{b:Bool}{p q r s:Nat}(h:p<1000)(i:q<1000)(j:r<1000)(k:s<1000):∃l,keyOf prog 249 (qb b p q r s)=some l:=by
 have a:prog.cellsOf 249=5:=by kernel_rfl
 have c:prog.cellsOf 241=4:=by kernel_rfl
 have c3:prog.cellsOf 4=1:=by kernel_rfl
 have e:prog.keyType 249=true:=by kernel_rfl
 obtain⟨m,g⟩:=Ox;have f:prog.keyLits (m+4) 249 [.bool b,.int .i64 p,.int .i64 q,.int .i64 r,.int .i64 s]=some [.bool b,.int .i64 p,.int .i64 q,.int .i64 r,.int .i64 s]:=by
  have h1:prog.keyLits (m+3) 241 [.int .i64 p,.int .i64 q,.int .i64 r,.int .i64 s]=some [.int .i64 p,.int .i64 q,.int .i64 r,.int .i64 s]:=wy (m:=m+1) h i j k;have h0:prog.keyLits (m+3) 4 [.bool b]=some [.bool b]:=by simp[Program.keyLits,Tryz.underlying4]
  unfold Program.keyLits;simp[Tryz.underlying249,a,c,c3,h1,h0]
 unfold keyOf;rw[Tryz.underlying249,g];have d:(qb b p q r s).formed prog 249=true:=by simp[qb,Value.formed,Tryz.underlying249,a]
 simp only[e,d,Bool.and_self,de];have hc:(qb b p q r s).cells.toList=[.bool b,.int .i64 p,.int .i64 q,.int .i64 r,.int .i64 s]:=by simp[qb,Value.cells]
 rw[hc,f];exact⟨_,rfl⟩
theorem pu:Keyed prog 243:=Keyed.of_law (deep_law_laid Tryz.laidOutB (m:=3) (by omega) (of_decide_eq_true (by kernel_rfl)) (by kernel_rfl) (by rw[Tryz.underlying243]))
theorem mX:Keyed prog 249:=Keyed.of_law (deep_law_laid Tryz.laidOutB (m:=3) (by omega) (of_decide_eq_true (by kernel_rfl)) (by kernel_rfl) (by rw[Tryz.underlying249]))
theorem Jx{b a:Bool}{p q r s p' c d e:Nat}(h:qb b p q r s=qb a p' c d e):b=a/\p=p'/\q=c/\r=d/\s=e:=by
 unfold qb at h;simp at h;obtain⟨h1,f,g,i,j⟩:=h;exact⟨h1,by omega,by omega,by omega,by omega⟩
def cK(X:List bY):List Value:=X.flatMap aA
theorem oc(X:List bY)(x:bY):cK (X++[x])=cK X++aA x:=by unfold cK;simp
theorem q8:∀(X:List bY) (i:Nat) (x:bY),(∀y∈X,y.2.length=4)->X[i]?=some x->∀o u,(aA x)[o]?=some u->(cK X)[i*5+o]?=some u:=by
 intro X
 induction X with
 | nil=>intro i x _ h;simp at h
 | cons a X d =>
  intro i x b h o u hu;have c:(aA a).length=5:=by unfold aA;simp[b a aU]
  have e:cK (a::X)=aA a++cK X:=rfl;have f:=(a1.1 hu).1;cases i with
  | zero =>
   simp at h;subst h;rw[e,dD (by omega),show 0*5+o=o from by omega];exact hu
  | succ i =>
   have:=d i x (fun r h=>b r (b6 _ h)) (by simpa using h) o u hu;rw[e,eH (by omega),c,show (i+1)*5+o-5=i*5+o from by omega];exact this
def nl(X:List bY)(x:bY)(a:List bY)(i:Nat):Prop:=(a=X/\X[i]?=some x)\/(x ∉ X/\a=X++[x]/\i=X.length)
structure nk (x:bY):Prop where
 len:x.2.length=4
 lt:∀j v:Nat,x.2[j]?=some v->v<20
theorem x3.four{eK:Nat->Nat}{n:Nat}{x:bY}(h:x3 eK n x):nk x:=⟨h.len,fun j v d=>(h.lt j v d).1⟩
theorem Br{x y:bY}(d:nk x)(e:nk y)(h:kB x=kB y):x=y:=by
 obtain⟨b,l⟩:=x;obtain⟨f,g⟩:=y;obtain⟨p,q,r,s,a⟩:=Go.Proofs.YtodagkkjfipbgaaGreatDoor.four d.len;obtain⟨i,j,k,m,c⟩:=Go.Proofs.YtodagkkjfipbgaaGreatDoor.four e.len;simp only at a c;subst a;subst c;obtain⟨rfl,rfl,rfl,rfl,rfl⟩:=Jx h;rfl
theorem Tryz.Oo(w:World):(zeroValue 3).run prog w=.ok (.int .i64 0) w:=by kernel_rfl
theorem Bt(x:bY):∀u∈aA x,u.oneCell'=true:=o6 x.1 x.2
theorem wX{X:List bY}(c:X.Nodup)(h:∀x∈X,nk x):X.length<=320000:=RM (eK:=fun _=>20) (n:=4) c fun x a=>⟨(h x a).len,fun j v b=>⟨(h x a).lt j v b,fun _=>(h x a).lt j v b⟩⟩
theorem F2{a:Nat}(h:a<=1000000):(Lit.int .i64 (a:Int)).wf=true:=by
 have e:IntKind.i64.min=-9223372036854775808:=by decide
 simp[Lit.wf,e];omega
theorem Co{x:bY}(h:nk x):∃l,keyOf prog 243 (kB x)=some l:=by
 obtain⟨b,l⟩:=x;obtain⟨p,q,r,s,a⟩:=Go.Proofs.YtodagkkjfipbgaaGreatDoor.four h.len;simp only at a;subst a;have h0:=h.lt 0 p rfl;have h1:=h.lt 1 q rfl;have c:=h.lt 2 r rfl;have d:=h.lt 3 s rfl;exact Es (b:=b) (by omega) (by omega) (by omega) (by omega)
theorem Tryz.Q3:(prog.info? 243).map (fun i=>(i.zero,i.size,i.bytes))=some (some (.agg #[.bool false,.int .i64 0,.int .i64 0,.int .i64 0,.int .i64 0]),5,40):=by kernel_rfl
theorem Tryz.Qx:prog.underlying 235=some (.slice 243):=by kernel_rfl
theorem Tryz.Ot:prog.underlying 236=some (.map 243 3):=by kernel_rfl
structure kS (w:World) (b:Nat) (X:List bY) (D:DataW Unit):Prop where
 own:w.ownsMap prog 243 (plainElem prog 3) b (Maps.size D) D
 iL:Maps.size D<=X.length
 mem:∀x l,nk x->keyOf prog 243 (kB x)=some l->(Maps.has D l=true↔x∈X)/\∀i:Nat,X[i]?=some x->D.atKey l (.lit (.int .i64 0))=.lit (.int .i64 i)
structure jP (base:Nat) (w:World) (p:Nat) (X:List bY) (ao:Option Addr) (au:Nat) (mo:Option Nat):Prop where
 da:w.heap[p]?=some (.cells #[.slice ao X.length au,.map mo] 238 (0,0))
 row:w.ownsRow base 243 5 (.slice ao X.length au) X.length (cK X)
 map:(mo=none/\X=[])\/∃b D,mo=some b/\base<=b/\kS w b X D
 nodup:X.Nodup
 ok:∀x∈X,nk x
theorem kS.kept{w w':World}{b:Nat}{X:List bY}{D:DataW Unit}(h:kS w b X D)(hb:w'.heap[b]?=w.heap[b]?):kS w' b X D:=by
 refine⟨?_,h.iL,h.mem⟩;obtain⟨g,d,h1,r⟩:=h.own;exact⟨g,d,hb.trans h1,r⟩
theorem kS.snoc{w w':World}{b n:Nat}{X:List bY}{D:DataW Unit}{x:bY}{lx:Lit}(h:kS w b X D)(u:nk x)(t:x ∉ X)(d:keyOf prog 243 (kB x)=some lx) (B:w'.ownsMap prog 243 (plainElem prog 3) b n (D.put lx (.lit (.int .i64 (X.length:Nat))))):kS w' b (X++[x]) (D.put lx (.lit (.int .i64 (X.length:Nat)))):=by
 have o:=pu.key d;refine⟨jV B,?_,fun y l v g=>?_⟩
 ·have j:Maps.has D lx≠true:=fun e=>t (((h.mem x lx u d).1).1 e)
  rw[size_put (h.own.tidy pu),ae j,aF];have:=h.iL;simp;omega
 ·by_cases e:y=x
  ·subst e;rw[d]at g;cases g;refine⟨⟨fun _=>by simp,fun _=>has_put_same h.own.isMap o _⟩,fun i hi=>?_⟩;rw[atKey_put_same h.own.isMap o];rcases bD hi with⟨h1,_⟩|⟨h1,_⟩
   ·exact absurd (bC h1) t
   ·rw[h1]
  ·have j:l≠lx:=fun A=>e (Br v u (pu.inj g (A▸d)))
   have q:=h.mem y l v g;refine⟨?_,fun i hi=>?_⟩
   ·rw[has_put_other j,q.1];simp[e]
   ·rw[atKey_put_other j];rcases bD hi with⟨h1,_⟩|⟨_,h1⟩
    ·exact q.2 i h1
    ·exact absurd h1 e
theorem ED(w:World):kS (w.alloc (.map #[] 0)) w.heap.size [] (.map []) :=
 ⟨jV (World.ownsMap_made w _ _ _),by simp[Maps.size],fun x l _ _=>⟨by simp[Maps.has],fun i hi=>by simp at hi⟩⟩
theorem jP.lt{base p au:Nat}{w:World}{X:List bY}{n:Option Addr}{j:Option Nat}(h:jP base w p X n au j){b:Nat}(e:j=some b):b<w.heap.size/\base<=b/\∀d t m,w.heap[b]?≠some (.cells d t m):=by
 rcases h.map with⟨h1,_⟩|⟨u,D,h1,o,g⟩
 ·rw[h1]at e;cases e
 ·rw[h1]at e;cases e;refine⟨g.own.lt,o,fun d t m i=>?_⟩;obtain⟨v,cl,q,_⟩:=g.own;rw[q]at i;cases i
def MP(p:Nat)(n:Nat)(a:Option Addr)(au:Nat)(b:Option Nat)(k:Nat):Prop:=k=p\/(Value.slice a n au).ownBlock=some k\/b=some k
theorem jP.kp{base p au:Nat}{w w':World}{X:List bY}{g:Option Addr}{i:Option Nat}{t:TypeId}(h:jP base w p X g au i)(hc:bj (MP p X.length g au i) w w')(h1:t≠238)(j:t≠243):Kp t w w':=fun k o m d=>by
 rw[hc.block k (an d) ?_];exact d;rintro(e|e|e)
 ·subst e;rw[h.da]at d;cases d;exact h1 rfl
 ·obtain⟨q,n⟩:=bh h.row k e;rw[n]at d;cases d;exact j rfl
 ·exact(h.lt e).2.2 _ _ _ d
theorem jP.C3{base p au:Nat}{w w':World}{X:List bY}{i:Option Addr}{j:Option Nat}(h:jP base w p X i au j)(hc:∀k,k<w.heap.size->MP p X.length i au j k->w'.heap[k]?=w.heap[k]?):jP base w' p X i au j:=by
 refine⟨(hc p (an h.da) (ah rfl)).trans h.da,?_,?_,h.nodup,h.ok⟩
 ·obtain⟨h1,d⟩:=h.row;refine⟨h1,?_⟩;rcases d with d|⟨g,c,t,q,hg,o,r⟩
  ·exact ah d
  ·exact ac ⟨g,c,t,q,hg,(hc g (an o) (ac (ah (by rw[q];rfl)))).trans o,r⟩
 ·rcases h.map with h1|⟨b,D,h1,d,n⟩
  ·exact ah h1
  ·exact ac ⟨b,D,h1,d,n.kept (hc b n.own.lt (ac (ac h1)))⟩
theorem jP.below{base p au:Nat}{w w':World}{X:List bY}{d:Option Addr}{g:Option Nat}(h:jP base w p X d au g)(hb:Below w.heap.size w w'):jP base w' p X d au g:=h.C3 fun k i _=>hb.block k i
def IL(base p:Nat)(X:List bY)(d:Option Addr)(au:Nat)(g:Option Nat)(x:bY)(w:World)(r:Ending)(w':World):Prop :=
 ∃(i:Nat) (a:List bY) (e:Option Addr) (f:Nat) (c:Option Nat),r=.returned (.int .i64 i)/\jP base w' p a e f c/\nl X x a i/\(c=g\/∃b,c=some b/\w.heap.size<=b)/\(∀k,(Value.slice e a.length f).ownBlock=some k->(Value.slice d X.length au).ownBlock=some k\/w.heap.size<=k)/\bj (MP p X.length d au g) w w'
theorem Aa{x:bY}(h:nk x):∃l,keyOf prog 249 (kB x)=some l:=by
 obtain⟨b,l⟩:=x;obtain⟨p,q,r,s,a⟩:=Go.Proofs.YtodagkkjfipbgaaGreatDoor.four h.len;simp only at a;subst a;have h0:=h.lt 0 p rfl;have h1:=h.lt 1 q rfl;have c:=h.lt 2 r rfl;have d:=h.lt 3 s rfl;exact Cp (b:=b) (by omega) (by omega) (by omega) (by omega)
theorem Tryz.Q4:(prog.info? 249).map (fun i=>(i.zero,i.size,i.bytes))=some (some (.agg #[.bool false,.int .i64 0,.int .i64 0,.int .i64 0,.int .i64 0]),5,40):=by kernel_rfl
theorem Tryz.Qy:prog.underlying 161=some (.slice 249):=by kernel_rfl
theorem Tryz.Ou:prog.underlying 162=some (.map 249 3):=by kernel_rfl
structure kT (w:World) (b:Nat) (X:List bY) (D:DataW Unit):Prop where
 own:w.ownsMap prog 249 (plainElem prog 3) b (Maps.size D) D
 iL:Maps.size D<=X.length
 mem:∀x l,nk x->keyOf prog 249 (kB x)=some l->(Maps.has D l=true↔x∈X)/\∀i:Nat,X[i]?=some x->D.atKey l (.lit (.int .i64 0))=.lit (.int .i64 i)
structure hX (base:Nat) (w:World) (p:Nat) (X:List bY) (ao:Option Addr) (au:Nat) (mo:Option Nat):Prop where
 da:w.heap[p]?=some (.cells #[.slice ao X.length au,.map mo] 164 (0,0))
 row:w.ownsRow base 249 5 (.slice ao X.length au) X.length (cK X)
 map:(mo=none/\X=[])\/∃b D,mo=some b/\base<=b/\kT w b X D
 nodup:X.Nodup
 ok:∀x∈X,nk x
theorem kT.kept{w w':World}{b:Nat}{X:List bY}{D:DataW Unit}(h:kT w b X D)(hb:w'.heap[b]?=w.heap[b]?):kT w' b X D:=by
 refine⟨?_,h.iL,h.mem⟩;obtain⟨g,d,h1,r⟩:=h.own;exact⟨g,d,hb.trans h1,r⟩
theorem kT.snoc{w w':World}{b n:Nat}{X:List bY}{D:DataW Unit}{x:bY}{lx:Lit}(h:kT w b X D)(u:nk x)(t:x ∉ X)(d:keyOf prog 249 (kB x)=some lx) (B:w'.ownsMap prog 249 (plainElem prog 3) b n (D.put lx (.lit (.int .i64 (X.length:Nat))))):kT w' b (X++[x]) (D.put lx (.lit (.int .i64 (X.length:Nat)))):=by
 have o:=mX.key d;refine⟨jV B,?_,fun y l v g=>?_⟩
 ·have j:Maps.has D lx≠true:=fun e=>t (((h.mem x lx u d).1).1 e)
  rw[size_put (h.own.tidy mX),ae j,aF];have:=h.iL;simp;omega
 ·by_cases e:y=x
  ·subst e;rw[d]at g;cases g;refine⟨⟨fun _=>by simp,fun _=>has_put_same h.own.isMap o _⟩,fun i hi=>?_⟩;rw[atKey_put_same h.own.isMap o];rcases bD hi with⟨h1,_⟩|⟨h1,_⟩
   ·exact absurd (bC h1) t
   ·rw[h1]
  ·have j:l≠lx:=fun A=>e (Br v u (mX.inj g (A▸d)))
   have q:=h.mem y l v g;refine⟨?_,fun i hi=>?_⟩
   ·rw[has_put_other j,q.1];simp[e]
   ·rw[atKey_put_other j];rcases bD hi with⟨h1,_⟩|⟨_,h1⟩
    ·exact q.2 i h1
    ·exact absurd h1 e
theorem EE(w:World):kT (w.alloc (.map #[] 0)) w.heap.size [] (.map []) :=
 ⟨jV (World.ownsMap_made w _ _ _),by simp[Maps.size],fun x l _ _=>⟨by simp[Maps.has],fun i hi=>by simp at hi⟩⟩
theorem hX.lt{base p au:Nat}{w:World}{X:List bY}{n:Option Addr}{j:Option Nat}(h:hX base w p X n au j){b:Nat}(e:j=some b):b<w.heap.size/\base<=b/\∀d t m,w.heap[b]?≠some (.cells d t m):=by
 rcases h.map with⟨h1,_⟩|⟨u,D,h1,o,g⟩
 ·rw[h1]at e;cases e
 ·rw[h1]at e;cases e;refine⟨g.own.lt,o,fun d t m i=>?_⟩;obtain⟨v,cl,q,_⟩:=g.own;rw[q]at i;cases i
def ME(p:Nat)(n:Nat)(a:Option Addr)(au:Nat)(b:Option Nat)(k:Nat):Prop:=k=p\/(Value.slice a n au).ownBlock=some k\/b=some k
theorem hX.kp{base p au:Nat}{w w':World}{X:List bY}{g:Option Addr}{i:Option Nat}{t:TypeId}(h:hX base w p X g au i)(hc:bj (ME p X.length g au i) w w')(h1:t≠164)(j:t≠249):Kp t w w':=fun k o m d=>by
 rw[hc.block k (an d) ?_];exact d;rintro(e|e|e)
 ·subst e;rw[h.da]at d;cases d;exact h1 rfl
 ·obtain⟨q,n⟩:=bh h.row k e;rw[n]at d;cases d;exact j rfl
 ·exact(h.lt e).2.2 _ _ _ d
theorem hX.C3{base p au:Nat}{w w':World}{X:List bY}{i:Option Addr}{j:Option Nat}(h:hX base w p X i au j)(hc:∀k,k<w.heap.size->ME p X.length i au j k->w'.heap[k]?=w.heap[k]?):hX base w' p X i au j:=by
 refine⟨(hc p (an h.da) (ah rfl)).trans h.da,?_,?_,h.nodup,h.ok⟩
 ·obtain⟨h1,d⟩:=h.row;refine⟨h1,?_⟩;rcases d with d|⟨g,c,t,q,hg,o,r⟩
  ·exact ah d
  ·exact ac ⟨g,c,t,q,hg,(hc g (an o) (ac (ah (by rw[q];rfl)))).trans o,r⟩
 ·rcases h.map with h1|⟨b,D,h1,d,n⟩
  ·exact ah h1
  ·exact ac ⟨b,D,h1,d,n.kept (hc b n.own.lt (ac (ac h1)))⟩
theorem hX.below{base p au:Nat}{w w':World}{X:List bY}{d:Option Addr}{g:Option Nat}(h:hX base w p X d au g)(hb:Below w.heap.size w w'):hX base w' p X d au g:=h.C3 fun k i _=>hb.block k i
def IM(base p:Nat)(X:List bY)(d:Option Addr)(au:Nat)(g:Option Nat)(x:bY)(w:World)(r:Ending)(w':World):Prop :=
 ∃(i:Nat) (a:List bY) (e:Option Addr) (f:Nat) (c:Option Nat),r=.returned (.int .i64 i)/\hX base w' p a e f c/\nl X x a i/\(c=g\/∃b,c=some b/\w.heap.size<=b)/\(∀k,(Value.slice e a.length f).ownBlock=some k->(Value.slice d X.length au).ownBlock=some k\/w.heap.size<=k)/\bj (ME p X.length d au g) w w'
theorem wh{X:List bY}{x:bY}(h:X.Nodup)(d:x ∉ X):(X++[x]).Nodup:=by
 rw[List.nodup_append];exact⟨h,by simp,fun a b c hc e=>by simp at hc;subst hc;subst e;exact d b⟩
theorem xn{X:List bY}{x:bY}{P:bY->Prop}(h:∀y∈X,P y)(b:P x):∀y∈X++[x],P y:=fun y a=>by
 rw[aR]at a;rcases a with a|a
 ·exact h y a
 ·simp at a;subst a;exact b
theorem BF{w:World}{v b:Value}{N:Nat}(h:eX w v b)(c:N<=w.heap.size):∀k,b.ownBlock=some k->v.ownBlock=some k\/N<=k:=fun k a=>by
 rcases h with e|e
 ·left;rw[<- e];exact a
 ·right;rw[e]at a;injection a with a;omega
theorem Jv(w:World)(b:Bool)(p q r s:Nat)(j:Nat)(u:Value)(hu:(aA (b,[p,q,r,s]))[j]?=some u):(w.alloc (.cells #[.bool b,.int .i64 (p:Nat),.int .i64 (q:Nat),.int .i64 (r:Nat),.int .i64 (s:Nat)] 243)).drew.cell? ⟨w.heap.size,j,none⟩=some u:=ab (w:=(w.alloc _).drew) (aw w _) j u ((h4 ..).trans hu)
theorem H3{w:World}{b base n au:Nat}{X:List bY}{D:DataW Unit}{a:Option Addr}{us:List Value}(h:kS w b X D)(f:w.ownsRow base 243 5 (.slice a n au) n us)(e:some b=(Value.slice a n au).ownBlock):False:=by
 obtain⟨g,c⟩:=bh f b e.symm;obtain⟨i,cl,d,_⟩:=h.own;rw[d]at c;cases c
theorem N2(a:Option Nat)(W:World):(binOp BinOp.eql 236 (.map a) (.map none)).run prog W=.ok (.bool a.isNone) W:=by
 cases a with
 | none=>kernel_rfl
 | some b=>kernel_rfl
theorem yO(base p:Nat)(X:List bY)(n:Option Addr)(au:Nat)(s:Option Nat)(x:bY)(w:World)(h:jP base w p X n au s)(U:nk x)(i3:base<=p)(i1:base<=w.heap.size):Calls prog 139 #[.pointer (some ⟨p,0,none⟩),kB x] w (IL base p X n au s x w):=by
 obtain⟨lx,c2⟩:=Co U;obtain⟨a,l⟩:=x;obtain⟨d,f,g,j,e⟩:=Go.Proofs.YtodagkkjfipbgaaGreatDoor.four U.len;simp only at e;subst e;have h9:=wX h.nodup h.ok;have a2:Hid (nk (a,[d,f,g,j])):=U;have N:Hid (keyOf prog 243 (.agg #[.bool a,.int .i64 (d:Nat),.int .i64 (f:Nat),.int .i64 (g:Nat),.int .i64 (j:Nat)])=some lx):=c2;have M:Hid (jP base w p X n au s):=h;have i4:=an h.da;obtain⟨u,G⟩:∃u,u=w.alloc (.cells #[.bool a,.int .i64 (d:Nat),.int .i64 (f:Nat),.int .i64 (g:Nat),.int .i64 (j:Nat)] 243):=⟨_,rfl⟩;have b8:Hid (u=w.alloc (.cells #[.bool a,.int .i64 (d:Nat),.int .i64 (f:Nat),.int .i64 (g:Nat),.int .i64 (j:Nat)] 243)):=G;have b0:Below w.heap.size w u:=by rw[G];exact af w _
 have h4:u.heap.size=w.heap.size+1:=by rw[G];simp
 have e1:u.heap[w.heap.size]?=some (.cells #[.bool a,.int .i64 (d:Nat),.int .i64 (f:Nat),.int .i64 (g:Nat),.int .i64 (j:Nat)] 243 (0,0)):=by rw[G];exact aw w _
 have y:Hid (jP base u p X n au s):=h.below b0;have Y:Hid (Below w.heap.size w u):=b0;have a3:Hid (u.heap[w.heap.size]?=some (.cells #[.bool a,.int .i64 (d:Nat),.int .i64 (f:Nat),.int .i64 (g:Nat),.int .i64 (j:Nat)] 243 (0,0))):=e1;have i2:=@run_makeMap prog;clear G h c2 e1 b0 U;show Calls _ _ #[_,.agg #[.bool a,.int .i64 (d:Nat),.int .i64 (f:Nat),.int .i64 (g:Nat),.int .i64 (j:Nat)]] _ _;go_enter func139,ntmps139;have c9:u.cell? ⟨p,1,none⟩=some (.map s):=ab y.out.da 1 _ rfl;have f1:=aq y.out.da 1;have g9:∀W:World,(binOp BinOp.eql 236 (.map s) (.map none)).run prog W=.ok (.bool s.isNone) W:=fun W=>N2 s W
 have e0:=c9;rw[b8.out]at e0
 go_upto_if 11 with fail
 rw[<- b8.out]
 go_cut [] (fun K=>∃(b:Nat) (D:DataW Unit),Hid (K.heap[p]?=some (.cells #[.slice n X.length au,.map (some b)] 238 (0,0)))/\Hid (kS K b X D/\base<=b/\(s=some b\/w.heap.size<=b))/\Hid (K.ownsRow base 243 5 (.slice n X.length au) X.length (cK X))/\Hid (K.heap[w.heap.size]?=some (.cells #[.bool a,.int .i64 (d:Nat),.int .i64 (f:Nat),.int .i64 (g:Nat),.int .i64 (j:Nat)] 243 (0,0)))/\Hid (bj (MP p X.length n au s) w K))
 case first =>
  rcases y.out.map with⟨a7,g8⟩|⟨b,D,a7,hb,r⟩
  ·subst a7;obtain⟨V,A⟩:∃V,V=u.setCell ⟨p,1,none⟩ (.map (some (w.heap.size+1))):=⟨_,rfl⟩;have c0:V.heap.size=w.heap.size+1:=by rw[A];simp[h4]
   have e2:V.heap[p]?=some (.cells #[.slice n X.length au,.map (some (w.heap.size+1))] 238 (0,0)):=by rw[A];exact(am y.out.da 1 _).trans rfl
   have e5:V.heap[w.heap.size]?=some (.cells #[.bool a,.int .i64 (d:Nat),.int .i64 (f:Nat),.int .i64 (g:Nat),.int .i64 (j:Nat)] 243 (0,0)):=by rw[A];exact(aD (by omega)).trans a3.out
   have e6:V.ownsRow base 243 5 (.slice n X.length au) X.length (cK X):=by rw[A];exact al y.out.row ((Kp.refl _ _).setCell y.out.da (by decide) _)
   have e4:bj (MP p X.length n au none) w V:=by rw[A];exact(bj.aL Y.out).setCell (q:=⟨p,1,none⟩) (ac (ah rfl)) _
   have b3:Hid ((V.alloc (.map #[] 0)).heap[p]?=some (.cells #[.slice n X.length au,.map (some (w.heap.size+1))] 238 (0,0))):=(aW _ _ _ (by omega)).trans e2;have b4:Hid (kS (V.alloc (.map #[] 0)) (w.heap.size+1) X (.map [])):=by rw[g8,<- c0];exact ED V
   have b5:Hid ((V.alloc (.map #[] 0)).ownsRow base 243 5 (.slice n X.length au) X.length (cK X)):=al e6 (Kp.below (af V _));have b6:Hid ((V.alloc (.map #[] 0)).heap[w.heap.size]?=some (.cells #[.bool a,.int .i64 (d:Nat),.int .i64 (f:Nat),.int .i64 (g:Nat),.int .i64 (j:Nat)] 243 (0,0))):=(aW _ _ _ (by omega)).trans e5;have b7:Hid (bj (MP p X.length n au none) w (V.alloc (.map #[] 0))):=e4.alloc _;rw[A]at b3 b4 b5 b6 b7;clear A e2 e5 e6 e4 c0;go_wp2_with fail;go_meet;exact⟨w.heap.size+1,.map [],b3,⟨b4.out,by omega,ac (by omega)⟩,b5,b6,b7⟩
  ·subst a7;go_wp2_with fail;go_meet;exact⟨b,D,y.out.da,⟨r,hb,ah rfl⟩,y.out.row,a3,bj.aL Y.out⟩
 case rest =>
  obtain⟨b,D,R,r,b9,E,a5⟩:=hcut;obtain⟨C,h3⟩:∃C,C=wc:=⟨wc,rfl⟩;subst h3;clear c9 e0 f1 g9 y a3 Y;have i6:=a5.out.size;have h5:C.cell? ⟨p,0,none⟩=some (.slice n X.length au):=ab R.out 0 _ rfl;have h6:C.cell? ⟨p,1,none⟩=some (.map (some b)):=ab R.out 1 _ rfl;have j1:=ab E.out 0 _ rfl;have j2:=ab E.out 1 _ rfl;have j3:=ab E.out 2 _ rfl;have j4:=ab E.out 3 _ rfl;have j5:=ab E.out 4 _ rfl;obtain⟨v,ps,c4,b1⟩:=r.out.1.own.drew.look_ok pu Tryz.Ot (Tryz.Oo C.drew) (plainElem_int Tryz.rY (by decide)) N.out;obtain⟨c,h2,hc,_⟩:=plainElem_int_inv Tryz.rY b1;subst h2;have T:=ej Prod.fst hc;simp only at T;have I:=r.out.1.mem _ lx a2.out N.out;cases z:Maps.has D lx
  ·have a8:Hid ((a,[d,f,g,j]) ∉ X):=fun e=>by have:=I.1.2 e;rw[z]at this;cases this
   rw[z]at c4;clear hc T b1 I;have h1:=N.out;have c8:C.drew.drew.ownsMap prog 243 (plainElem prog 3) b (Maps.size D) D:=r.out.1.own.drew.drew;have h8:=r.out.1.iL;obtain⟨o,i5,c3,c7⟩:=c8.store (val:=.int .i64 (X.length:Nat)) pu Tryz.Ot (by unfold maxLen;omega) h1 (plainElem_int Tryz.rY (F2 (by omega)));have a0:Hid (kS o b (X++[(a,[d,f,g,j])]) (D.put lx (.lit (.int .i64 (X.length:Nat))))):=r.out.1.snoc a2.out a8.out N.out c3;have a6:=c7.grown;have S:n9 C o:=fun k h7 t m z=>by
    rw[a6.block k (an z) (fun e=>?_)]
    ·exact z
    ·injection e with e
     subst e;obtain⟨g7,cl,a4,_⟩:=r.out.1.own;rw[a4]at z;cases z
   have L:Hid (o.heap[p]?=some (.cells #[.slice n X.length au,.map (some b)] 238 (0,0))):=S _ _ _ _ R.out;have F:Hid (o.heap[w.heap.size]?=some (.cells #[.bool a,.int .i64 (d:Nat),.int .i64 (f:Nat),.int .i64 (g:Nat),.int .i64 (j:Nat)] 243 (0,0))):=S _ _ _ _ E.out;have b2:Hid (bj (MP p X.length n au s) w o):=by
    refine(a5.out.drew.drew).grown a6 fun k e=>?_
    injection e with e
    subst e;exact r.out.2.2.elim (fun e=>ac (ac (ac e))) ah
   have i7:=b2.out.size;have j6:=ab L.out 0 _ rfl;have z0:=ab F.out 0 _ rfl;have j7:=ab F.out 1 _ rfl;have z2:=ab F.out 2 _ rfl;have z3:=ab F.out 3 _ rfl;have z4:=ab F.out 4 _ rfl;have g5:Hid (b≠p):=fun e=>by
    subst e;obtain⟨g7,cl,a4,_⟩:=a0.out.own;have:=L.out;rw[a4]at this;cases this
   obtain⟨V,A⟩:∃V,V=o.alloc (.cells #[.bool a,.int .i64 (d:Nat),.int .i64 (f:Nat),.int .i64 (g:Nat),.int .i64 (j:Nat)] 243):=⟨_,rfl⟩;have O:Hid ((o.alloc (.cells #[.bool a,.int .i64 (d:Nat),.int .i64 (f:Nat),.int .i64 (g:Nat),.int .i64 (j:Nat)] 243)).drew.ownsRow base 243 5 (.slice n X.length au) X.length (cK X)):=al (al b9.out (S.kp _)) (Kp.below (af o _).drew);have a1:Hid (kS (o.alloc (.cells #[.bool a,.int .i64 (d:Nat),.int .i64 (f:Nat),.int .i64 (g:Nat),.int .i64 (j:Nat)] 243)).drew b (X++[(a,[d,f,g,j])]) (D.put lx (.lit (.int .i64 (X.length:Nat))))):=a0.out.kept (aW _ _ _ a0.out.own.lt);have Z:Hid ((o.alloc (.cells #[.bool a,.int .i64 (d:Nat),.int .i64 (f:Nat),.int .i64 (g:Nat),.int .i64 (j:Nat)] 243)).drew.heap[p]?=some (.cells #[.slice n X.length au,.map (some b)] 238 (0,0))):=(aW _ _ _ (an L.out)).trans L.out;have u0:(o.alloc (.cells #[.bool a,.int .i64 (d:Nat),.int .i64 (f:Nat),.int .i64 (g:Nat),.int .i64 (j:Nat)] 243)).cell? ⟨p,0,none⟩=some (.slice n X.length au):=ab (w:=(o.alloc _)) Z.out 0 _ rfl;clear c3 c7 a6 S c8;go_wp2_with fail;go_region
   all_goals go_wp2_with fail
   all_goals go_region
   all_goals go_wp2_with fail
   all_goals go_region_law (first
    | (refine dz rfl (.tmp 42) (.tmp 44) 235 rfl base 243 (.agg #[.bool false,.int .i64 0,.int .i64 0,.int .i64 0,.int .i64 0]) 5 40 Tryz.Q3 Tryz.Qx rfl (by decide) (.slice n X.length au) X.length (cK X) (by simp[Act.eval]) O.out o.heap.size 1 (aA (a,[d,f,g,j])) (by simp[Act.eval]) rfl (Jv o a d f g j) (Bt _) (by omega) (by omega) (by simp;omega) ?_
       intro j0 W3 a9 B c5;obtain⟨P,Q,rfl⟩:=ak a9;have g1:Hid (W3.ownsRow base 243 5 (.slice P (X.length+1) Q) (X.length+1) (cK X++aA (a,[d,f,g,j]))):=a9;have e9:Hid ((o.alloc (.cells #[.bool a,.int .i64 (d:Nat),.int .i64 (f:Nat),.int .i64 (g:Nat),.int .i64 (j:Nat)] 243)).drew.grownBy W3 (Value.slice n X.length au).ownBlock):=B;have g2:Hid (eX (o.alloc (.cells #[.bool a,.int .i64 (d:Nat),.int .i64 (f:Nat),.int .i64 (g:Nat),.int .i64 (j:Nat)] 243)).drew (.slice n X.length au) (.slice P (X.length+1) Q)):=c5;have J:=br Z.out (Kp.refl _ _) O.out B (by decide);have i0:=ab J 0 _ rfl;have i9:=aq J;clear a9 B c5 J))
   all_goals go_wp2_with fail
   all_goals go_ret
   all_goals have B:=e9.out
   all_goals have J:=br Z.out (Kp.refl _ _) O.out B (by decide)
   all_goals have B4:Hid (W3.heap[p]?=some (.cells #[.slice n X.length au,.map (some b)] 238 (0,0))):=J
   all_goals have g3:=g1
   all_goals have e8:Hid (kS W3 b (X++[(a,[d,f,g,j])]) (D.put lx (.lit (.int .i64 (X.length:Nat))))):=a1.out.kept (B.block b a1.out.own.lt (fun e=>H3 a1.out O.out e))
   all_goals have e7:Hid (bj (MP p X.length n au s) w W3):=(b2.out.alloc _).drew.grown B (fun k e=>ac (ac (ah e)))
   all_goals have g4:Hid (∀k,(Value.slice P (X.length+1) Q).ownBlock=some k->(Value.slice n X.length au).ownBlock=some k\/w.heap.size<=k):=BF g2.out (by show w.heap.size<=_;simp;omega)
   all_goals exact⟨X.length,X++[(a,[d,f,g,j])],P,Q,some b,rfl,⟨by rw[aF];exact(am B4.out 0 _).trans rfl,by rw[aF,oc];exact al g3.out ((Kp.refl _ _).setCell B4.out (by decide) _),
    ac ⟨b,_,rfl,r.out.2.1,e8.out.kept (aD g5.out)⟩,wh M.out.nodup a8.out,xn M.out.ok a2.out⟩,ac ⟨a8.out,rfl,rfl⟩,
    r.out.2.2.elim (fun e=>ah e.symm) (fun e=>ac ⟨b,rfl,e⟩),by rw[aF];exact g4.out,e7.out.setCell (q:=⟨p,0,none⟩) (ac (ah rfl)) _⟩
  ·have c1:=I.1.1 z;obtain⟨i,hi⟩:=e3.1 c1;have H:=I.2 i hi;rw[T]at H;have g6:c=(i:Int):=by injection H with H;injection H
   subst g6;have g0:Hid (X[i]?=some (a,[d,f,g,j])):=hi;rw[z]at c4;clear hc T b1 I c1 hi H;go_wp2_with fail;go_region
   all_goals go_wp2_with fail
   all_goals go_ret
   all_goals refine⟨i,X,n,au,some b,rfl,⟨R.out,b9.out,ac ⟨b,D,rfl,r.out.2.1,r.out.1.kept rfl⟩,M.out.nodup,M.out.ok⟩,ah ⟨rfl,g0.out⟩,?_,fun k h0=>ah h0,a5.out.drew⟩
   all_goals exact r.out.2.2.elim (fun e=>ah e.symm) fun e=>ac ⟨b,rfl,e⟩
theorem Jw(w:World)(b:Bool)(p q r s:Nat)(j:Nat)(u:Value)(hu:(aA (b,[p,q,r,s]))[j]?=some u):(w.alloc (.cells #[.bool b,.int .i64 (p:Nat),.int .i64 (q:Nat),.int .i64 (r:Nat),.int .i64 (s:Nat)] 249)).drew.cell? ⟨w.heap.size,j,none⟩=some u:=ab (w:=(w.alloc _).drew) (aw w _) j u ((h4 ..).trans hu)
theorem H4{w:World}{b base n au:Nat}{X:List bY}{D:DataW Unit}{a:Option Addr}{us:List Value}(h:kT w b X D)(f:w.ownsRow base 249 5 (.slice a n au) n us)(e:some b=(Value.slice a n au).ownBlock):False:=by
 obtain⟨g,c⟩:=bh f b e.symm;obtain⟨i,cl,d,_⟩:=h.own;rw[d]at c;cases c
theorem N3(a:Option Nat)(W:World):(binOp BinOp.eql 162 (.map a) (.map none)).run prog W=.ok (.bool a.isNone) W:=by
 cases a with
 | none=>kernel_rfl
 | some b=>kernel_rfl
theorem yP(base p:Nat)(X:List bY)(n:Option Addr)(au:Nat)(s:Option Nat)(x:bY)(w:World)(h:hX base w p X n au s)(U:nk x)(i3:base<=p)(i1:base<=w.heap.size):Calls prog 140 #[.pointer (some ⟨p,0,none⟩),kB x] w (IM base p X n au s x w):=by
 obtain⟨lx,c2⟩:=Aa U;obtain⟨a,l⟩:=x;obtain⟨d,f,g,j,e⟩:=Go.Proofs.YtodagkkjfipbgaaGreatDoor.four U.len;simp only at e;subst e;have h9:=wX h.nodup h.ok;have a2:Hid (nk (a,[d,f,g,j])):=U;have N:Hid (keyOf prog 249 (.agg #[.bool a,.int .i64 (d:Nat),.int .i64 (f:Nat),.int .i64 (g:Nat),.int .i64 (j:Nat)])=some lx):=c2;have M:Hid (hX base w p X n au s):=h;have i4:=an h.da;obtain⟨u,G⟩:∃u,u=w.alloc (.cells #[.bool a,.int .i64 (d:Nat),.int .i64 (f:Nat),.int .i64 (g:Nat),.int .i64 (j:Nat)] 249):=⟨_,rfl⟩;have b8:Hid (u=w.alloc (.cells #[.bool a,.int .i64 (d:Nat),.int .i64 (f:Nat),.int .i64 (g:Nat),.int .i64 (j:Nat)] 249)):=G;have b0:Below w.heap.size w u:=by rw[G];exact af w _
 have h4:u.heap.size=w.heap.size+1:=by rw[G];simp
 have e1:u.heap[w.heap.size]?=some (.cells #[.bool a,.int .i64 (d:Nat),.int .i64 (f:Nat),.int .i64 (g:Nat),.int .i64 (j:Nat)] 249 (0,0)):=by rw[G];exact aw w _
 have y:Hid (hX base u p X n au s):=h.below b0;have Y:Hid (Below w.heap.size w u):=b0;have a3:Hid (u.heap[w.heap.size]?=some (.cells #[.bool a,.int .i64 (d:Nat),.int .i64 (f:Nat),.int .i64 (g:Nat),.int .i64 (j:Nat)] 249 (0,0))):=e1;have i2:=@run_makeMap prog;clear G h c2 e1 b0 U;show Calls _ _ #[_,.agg #[.bool a,.int .i64 (d:Nat),.int .i64 (f:Nat),.int .i64 (g:Nat),.int .i64 (j:Nat)]] _ _;go_enter func140,ntmps140;have c9:u.cell? ⟨p,1,none⟩=some (.map s):=ab y.out.da 1 _ rfl;have f1:=aq y.out.da 1;have g9:∀W:World,(binOp BinOp.eql 162 (.map s) (.map none)).run prog W=.ok (.bool s.isNone) W:=fun W=>N3 s W
 have e0:=c9;rw[b8.out]at e0
 go_upto_if 11 with fail
 rw[<- b8.out]
 go_cut [] (fun K=>∃(b:Nat) (D:DataW Unit),Hid (K.heap[p]?=some (.cells #[.slice n X.length au,.map (some b)] 164 (0,0)))/\Hid (kT K b X D/\base<=b/\(s=some b\/w.heap.size<=b))/\Hid (K.ownsRow base 249 5 (.slice n X.length au) X.length (cK X))/\Hid (K.heap[w.heap.size]?=some (.cells #[.bool a,.int .i64 (d:Nat),.int .i64 (f:Nat),.int .i64 (g:Nat),.int .i64 (j:Nat)] 249 (0,0)))/\Hid (bj (ME p X.length n au s) w K))
 case first =>
  rcases y.out.map with⟨a7,g8⟩|⟨b,D,a7,hb,r⟩
  ·subst a7;obtain⟨V,A⟩:∃V,V=u.setCell ⟨p,1,none⟩ (.map (some (w.heap.size+1))):=⟨_,rfl⟩;have c0:V.heap.size=w.heap.size+1:=by rw[A];simp[h4]
   have e2:V.heap[p]?=some (.cells #[.slice n X.length au,.map (some (w.heap.size+1))] 164 (0,0)):=by rw[A];exact(am y.out.da 1 _).trans rfl
   have e5:V.heap[w.heap.size]?=some (.cells #[.bool a,.int .i64 (d:Nat),.int .i64 (f:Nat),.int .i64 (g:Nat),.int .i64 (j:Nat)] 249 (0,0)):=by rw[A];exact(aD (by omega)).trans a3.out
   have e6:V.ownsRow base 249 5 (.slice n X.length au) X.length (cK X):=by rw[A];exact al y.out.row ((Kp.refl _ _).setCell y.out.da (by decide) _)
   have e4:bj (ME p X.length n au none) w V:=by rw[A];exact(bj.aL Y.out).setCell (q:=⟨p,1,none⟩) (ac (ah rfl)) _
   have b3:Hid ((V.alloc (.map #[] 0)).heap[p]?=some (.cells #[.slice n X.length au,.map (some (w.heap.size+1))] 164 (0,0))):=(aW _ _ _ (by omega)).trans e2;have b4:Hid (kT (V.alloc (.map #[] 0)) (w.heap.size+1) X (.map [])):=by rw[g8,<- c0];exact EE V
   have b5:Hid ((V.alloc (.map #[] 0)).ownsRow base 249 5 (.slice n X.length au) X.length (cK X)):=al e6 (Kp.below (af V _));have b6:Hid ((V.alloc (.map #[] 0)).heap[w.heap.size]?=some (.cells #[.bool a,.int .i64 (d:Nat),.int .i64 (f:Nat),.int .i64 (g:Nat),.int .i64 (j:Nat)] 249 (0,0))):=(aW _ _ _ (by omega)).trans e5;have b7:Hid (bj (ME p X.length n au none) w (V.alloc (.map #[] 0))):=e4.alloc _;rw[A]at b3 b4 b5 b6 b7;clear A e2 e5 e6 e4 c0;go_wp2_with fail;go_meet;exact⟨w.heap.size+1,.map [],b3,⟨b4.out,by omega,ac (by omega)⟩,b5,b6,b7⟩
  ·subst a7;go_wp2_with fail;go_meet;exact⟨b,D,y.out.da,⟨r,hb,ah rfl⟩,y.out.row,a3,bj.aL Y.out⟩
 case rest =>
  obtain⟨b,D,R,r,b9,E,a5⟩:=hcut;obtain⟨C,h3⟩:∃C,C=wc:=⟨wc,rfl⟩;subst h3;clear c9 e0 f1 g9 y a3 Y;have i6:=a5.out.size;have h5:C.cell? ⟨p,0,none⟩=some (.slice n X.length au):=ab R.out 0 _ rfl;have h6:C.cell? ⟨p,1,none⟩=some (.map (some b)):=ab R.out 1 _ rfl;have j1:=ab E.out 0 _ rfl;have j2:=ab E.out 1 _ rfl;have j3:=ab E.out 2 _ rfl;have j4:=ab E.out 3 _ rfl;have j5:=ab E.out 4 _ rfl;obtain⟨v,ps,c4,b1⟩:=r.out.1.own.drew.look_ok mX Tryz.Ou (Tryz.Oo C.drew) (plainElem_int Tryz.rY (by decide)) N.out;obtain⟨c,h2,hc,_⟩:=plainElem_int_inv Tryz.rY b1;subst h2;have T:=ej Prod.fst hc;simp only at T;have I:=r.out.1.mem _ lx a2.out N.out;cases z:Maps.has D lx
  ·have a8:Hid ((a,[d,f,g,j]) ∉ X):=fun e=>by have:=I.1.2 e;rw[z]at this;cases this
   rw[z]at c4;clear hc T b1 I;have h1:=N.out;have c8:C.drew.drew.ownsMap prog 249 (plainElem prog 3) b (Maps.size D) D:=r.out.1.own.drew.drew;have h8:=r.out.1.iL;obtain⟨o,i5,c3,c7⟩:=c8.store (val:=.int .i64 (X.length:Nat)) mX Tryz.Ou (by unfold maxLen;omega) h1 (plainElem_int Tryz.rY (F2 (by omega)));have a0:Hid (kT o b (X++[(a,[d,f,g,j])]) (D.put lx (.lit (.int .i64 (X.length:Nat))))):=r.out.1.snoc a2.out a8.out N.out c3;have a6:=c7.grown;have S:n9 C o:=fun k h7 t m z=>by
    rw[a6.block k (an z) (fun e=>?_)]
    ·exact z
    ·injection e with e
     subst e;obtain⟨g7,cl,a4,_⟩:=r.out.1.own;rw[a4]at z;cases z
   have L:Hid (o.heap[p]?=some (.cells #[.slice n X.length au,.map (some b)] 164 (0,0))):=S _ _ _ _ R.out;have F:Hid (o.heap[w.heap.size]?=some (.cells #[.bool a,.int .i64 (d:Nat),.int .i64 (f:Nat),.int .i64 (g:Nat),.int .i64 (j:Nat)] 249 (0,0))):=S _ _ _ _ E.out;have b2:Hid (bj (ME p X.length n au s) w o):=by
    refine(a5.out.drew.drew).grown a6 fun k e=>?_
    injection e with e
    subst e;exact r.out.2.2.elim (fun e=>ac (ac (ac e))) ah
   have i7:=b2.out.size;have j6:=ab L.out 0 _ rfl;have z0:=ab F.out 0 _ rfl;have j7:=ab F.out 1 _ rfl;have z2:=ab F.out 2 _ rfl;have z3:=ab F.out 3 _ rfl;have z4:=ab F.out 4 _ rfl;have g5:Hid (b≠p):=fun e=>by
    subst e;obtain⟨g7,cl,a4,_⟩:=a0.out.own;have:=L.out;rw[a4]at this;cases this
   obtain⟨V,A⟩:∃V,V=o.alloc (.cells #[.bool a,.int .i64 (d:Nat),.int .i64 (f:Nat),.int .i64 (g:Nat),.int .i64 (j:Nat)] 249):=⟨_,rfl⟩;have O:Hid ((o.alloc (.cells #[.bool a,.int .i64 (d:Nat),.int .i64 (f:Nat),.int .i64 (g:Nat),.int .i64 (j:Nat)] 249)).drew.ownsRow base 249 5 (.slice n X.length au) X.length (cK X)):=al (al b9.out (S.kp _)) (Kp.below (af o _).drew);have a1:Hid (kT (o.alloc (.cells #[.bool a,.int .i64 (d:Nat),.int .i64 (f:Nat),.int .i64 (g:Nat),.int .i64 (j:Nat)] 249)).drew b (X++[(a,[d,f,g,j])]) (D.put lx (.lit (.int .i64 (X.length:Nat))))):=a0.out.kept (aW _ _ _ a0.out.own.lt);have Z:Hid ((o.alloc (.cells #[.bool a,.int .i64 (d:Nat),.int .i64 (f:Nat),.int .i64 (g:Nat),.int .i64 (j:Nat)] 249)).drew.heap[p]?=some (.cells #[.slice n X.length au,.map (some b)] 164 (0,0))):=(aW _ _ _ (an L.out)).trans L.out;have u0:(o.alloc (.cells #[.bool a,.int .i64 (d:Nat),.int .i64 (f:Nat),.int .i64 (g:Nat),.int .i64 (j:Nat)] 249)).cell? ⟨p,0,none⟩=some (.slice n X.length au):=ab (w:=(o.alloc _)) Z.out 0 _ rfl;clear c3 c7 a6 S c8;go_wp2_with fail;go_region
   all_goals go_wp2_with fail
   all_goals go_region
   all_goals go_wp2_with fail
   all_goals go_region_law (first
    | (refine dz rfl (.tmp 42) (.tmp 44) 161 rfl base 249 (.agg #[.bool false,.int .i64 0,.int .i64 0,.int .i64 0,.int .i64 0]) 5 40 Tryz.Q4 Tryz.Qy rfl (by decide) (.slice n X.length au) X.length (cK X) (by simp[Act.eval]) O.out o.heap.size 1 (aA (a,[d,f,g,j])) (by simp[Act.eval]) rfl (Jw o a d f g j) (Bt _) (by omega) (by omega) (by simp;omega) ?_
       intro j0 W3 a9 B c5;obtain⟨P,Q,rfl⟩:=ak a9;have g1:Hid (W3.ownsRow base 249 5 (.slice P (X.length+1) Q) (X.length+1) (cK X++aA (a,[d,f,g,j]))):=a9;have e9:Hid ((o.alloc (.cells #[.bool a,.int .i64 (d:Nat),.int .i64 (f:Nat),.int .i64 (g:Nat),.int .i64 (j:Nat)] 249)).drew.grownBy W3 (Value.slice n X.length au).ownBlock):=B;have g2:Hid (eX (o.alloc (.cells #[.bool a,.int .i64 (d:Nat),.int .i64 (f:Nat),.int .i64 (g:Nat),.int .i64 (j:Nat)] 249)).drew (.slice n X.length au) (.slice P (X.length+1) Q)):=c5;have J:=br Z.out (Kp.refl _ _) O.out B (by decide);have i0:=ab J 0 _ rfl;have i9:=aq J;clear a9 B c5 J))
   all_goals go_wp2_with fail
   all_goals go_ret
   all_goals have B:=e9.out
   all_goals have J:=br Z.out (Kp.refl _ _) O.out B (by decide)
   all_goals have B4:Hid (W3.heap[p]?=some (.cells #[.slice n X.length au,.map (some b)] 164 (0,0))):=J
   all_goals have g3:=g1
   all_goals have e8:Hid (kT W3 b (X++[(a,[d,f,g,j])]) (D.put lx (.lit (.int .i64 (X.length:Nat))))):=a1.out.kept (B.block b a1.out.own.lt (fun e=>H4 a1.out O.out e))
   all_goals have e7:Hid (bj (ME p X.length n au s) w W3):=(b2.out.alloc _).drew.grown B (fun k e=>ac (ac (ah e)))
   all_goals have g4:Hid (∀k,(Value.slice P (X.length+1) Q).ownBlock=some k->(Value.slice n X.length au).ownBlock=some k\/w.heap.size<=k):=BF g2.out (by show w.heap.size<=_;simp;omega)
   all_goals exact⟨X.length,X++[(a,[d,f,g,j])],P,Q,some b,rfl,⟨by rw[aF];exact(am B4.out 0 _).trans rfl,by rw[aF,oc];exact al g3.out ((Kp.refl _ _).setCell B4.out (by decide) _),
    ac ⟨b,_,rfl,r.out.2.1,e8.out.kept (aD g5.out)⟩,wh M.out.nodup a8.out,xn M.out.ok a2.out⟩,ac ⟨a8.out,rfl,rfl⟩,
    r.out.2.2.elim (fun e=>ah e.symm) (fun e=>ac ⟨b,rfl,e⟩),by rw[aF];exact g4.out,e7.out.setCell (q:=⟨p,0,none⟩) (ac (ah rfl)) _⟩
  ·have c1:=I.1.1 z;obtain⟨i,hi⟩:=e3.1 c1;have H:=I.2 i hi;rw[T]at H;have g6:c=(i:Int):=by injection H with H;injection H
   subst g6;have g0:Hid (X[i]?=some (a,[d,f,g,j])):=hi;rw[z]at c4;clear hc T b1 I c1 hi H;go_wp2_with fail;go_region
   all_goals go_wp2_with fail
   all_goals go_ret
   all_goals refine⟨i,X,n,au,some b,rfl,⟨R.out,b9.out,ac ⟨b,D,rfl,r.out.2.1,r.out.1.kept rfl⟩,M.out.nodup,M.out.ok⟩,ah ⟨rfl,g0.out⟩,?_,fun k h0=>ah h0,a5.out.drew⟩
   all_goals exact r.out.2.2.elim (fun e=>ah e.symm) fun e=>ac ⟨b,rfl,e⟩
theorem Tryz.PC:(prog.info? 234).map (fun i=>(i.zero,i.size,i.bytes))=some (some (.agg #[.bool false,.slice none 0 0,.slice none 0 0]),3,56):=by kernel_rfl
theorem Tryz.QC:prog.underlying 159=some (.slice 234):=by kernel_rfl
def pW(d:(Nat->Prop)->Nat->Nat->Prop)(c:Nat)(b:List (Nat->Prop))(bP:l9):Prop:=∃a,bP.length=a.length/\b <+: a/\a.length<=20/\iQ d c a bP
theorem pW.good{A:(Nat->Prop)->Nat->Nat->Prop}{o:Nat}{d:List (Nat->Prop)}{bP:l9}(h:pW A o d bP)(h0:1<=d.length):dh bP/\d.length<=bP.length:=by
 obtain⟨B,h1,q,C,t⟩:=h;have E:=q.length_le;refine⟨⟨by omega,by omega,fun r y=>?_⟩,by omega⟩;obtain⟨i,hi⟩:=e3.1 y;obtain⟨u,S,_,_,v⟩:=t i r.1 r.2 hi;refine⟨u,fun n x=>?_⟩;obtain⟨k,j⟩:=e3.1 x;have F:=(a1.1 j).1;obtain⟨G,g,w⟩:=v k (by omega);rw[j]at g;cases g;rw[h1];exact(a1.1 w).1
def xF(S:List St)(first:Nat)(bP:l9):Prop:=pW (xT (av true S) first) 0 [a6 (av true S) first] bP
def AS(S:List St)(first:Nat)(bP:l9):Prop:=pW (B1 (av true S) 0) 0 [a6 (av true S) first,fun _=>False] bP
def Qh(a:List bw)(J:AJ):Prop:=J.length=a.length/\∀(i:Nat) (L:bw) (r:nn),a[i]?=some L->J[i]?=some r->r.cut=L.cut/\xF L.SL L.fL r.tl/\AS L.SR L.fR r.tr
theorem pW.of{w w':World}{r:Ending}{q:(Nat->Prop)->Nat->Nat->Prop}{i:Nat}{g:List (Nat->Prop)}{o:Value->Value}(h:dY q i g o w r w'):∃v d n au bP,r=.returned (o v)/\v=.slice d n au/\bz 0 w' v bP/\pW q i g bP/\Below w.heap.size w w':=by
 obtain⟨v,bP,t,h1,j,u,x,y,A,B⟩:=h;obtain⟨d,au,e⟩:=ak j;exact⟨v,d,_,au,bP,h1,e,bX j (aJ _),⟨t,u,x,y,A⟩,B⟩
theorem Di(J:AJ)(a:List (Value×Value))(r:nn)(v:Value×Value)(h:a.length=J.length):iV (J++[r]) (a++[v])=iV J a++[.bool r.cut,v.1,v.2]:=by
 unfold iV;rw[List.zip_append h.symm];simp
theorem mA.nil(base:Nat)(w:World):mA base w (.slice none 0 0) [] []:=⟨rfl,cq _ _ _ _,fun i r u h=>by simp at h,fun r h=>by simp at h⟩
theorem mA.push{base:Nat}{w w':World}{v t j n:Value}{J:AJ}{o:List (Value×Value)}{r:nn}(h:mA base w v J o)(hg:w.grownBy w' v.ownBlock)(y:bz 0 w j r.tl)(C:bz 0 w n r.tr)(B:fh r) (A:w'.ownsRow base 234 3 t (J.length+1) (iV J o++[.bool r.cut,j,n])):mA base w' t (J++[r]) (o++[(j,n)]):=by
 have k:Kp 341 w w':=(Kp.refl _ w).grown h.row hg (by decide);refine⟨by simp[h.len],by rw[Di _ _ _ _ h.len,aF];exact A,?_,fun x d=>?_⟩
 ·intro i q u E hu;rcases bD E with⟨g,_⟩|⟨g,rfl⟩
  ·rcases bD hu with⟨b1,_⟩|⟨b1,rfl⟩
   ·exact⟨al (h.bP i q u g b1).1 k,al (h.bP i q u g b1).2 k⟩
   ·have:=(a1.1 g).1;have:=h.len;omega
  ·rcases bD hu with⟨b1,b2⟩|⟨b1,rfl⟩
   ·have:=(a1.1 b1).1;have:=h.len;omega
   ·exact⟨al y k,al C k⟩
 ·rw[aR]at d;rcases d with d|d
  ·exact h.ok x d
  ·simp at d;subst d;exact B
theorem Qh.snoc{g:List bw}{J:AJ}{L:bw}{r:nn}(h:Qh g J)(h1:r.cut=L.cut)(o:xF L.SL L.fL r.tl)(q:AS L.SR L.fR r.tr):Qh (g++[L]) (J++[r]):=by
 refine⟨by simp[h.1],fun i n u t j=>?_⟩;rcases bD t with⟨d,_⟩|⟨d,rfl⟩
 ·rcases bD j with⟨b1,_⟩|⟨b1,rfl⟩
  ·exact h.2 i n u d b1
  ·have:=(a1.1 d).1;have:=h.1;omega
 ·rcases bD j with⟨b1,_⟩|⟨b1,rfl⟩
  ·have:=(a1.1 b1).1;have:=h.1;omega
  ·exact⟨h1,o,q⟩
theorem P5(w:World)(c:Bool)(a b:Value):∀(j:Nat) (u:Value),[Value.bool c,a,b][j]?=some u->(w.alloc (.cells #[.bool c,a,b] 234)).cell? ⟨w.heap.size,j,none⟩=some u:=fun j u hu=>ab (aw w _) j u (by simpa using hu)
theorem xU(lb:Nat)(vL:Value)(b:List bw)(w:World)(a7:qR lb w vL b)(g0:∀L∈b,gY L)(hlen:b.length<=100):Calls prog 83 #[vL] w fun r w'=>∃v J x,r=.returned v/\mA w.heap.size w' v J x/\Qh b J/\Below w.heap.size w w':=by
 obtain⟨e7,au,rfl,b6⟩:=a7.form;have c5:Hid (∀i (hi:i<b.length),∃g d j f l Q R,e7=some ⟨g,0,none⟩/\g<w.heap.size/\dH w 0 (.slice d b[i].SL.length j) b[i].SL Q/\dH w 0 (.slice f b[i].SR.length l) b[i].SR R /\
  w.cell? ⟨g,i*5,none⟩=some (.bool b[i].cut)/\w.cell? ⟨g,i*5+1,none⟩=some (.slice d b[i].SL.length j)/\w.cell? ⟨g,i*5+2,none⟩=some (.int .i64 (b[i].fL:Nat))/\w.cell? ⟨g,i*5+3,none⟩=some (.slice f b[i].SR.length l)/\w.cell? ⟨g,i*5+4,none⟩=some (.int .i64 (b[i].fR:Nat))):=b6
 clear a7 b6;go_enter func83,ntmps83;go_wp2_with fail
 go_loopg [3,8] b.length (fun e8 g4 g3 b9=>∃(i:Nat) (D:Option Addr) (E:Nat) (J:AJ) (x:List (Value×Value)),i<=b.length/\e8=b.length-i/\g3=.int .i64 i/\g4=.slice D J.length E/\Hid (J.length=i)/\Hid (mA w.heap.size b9 (.slice D J.length E) J x)/\Hid (Qh (b.take i) J)/\Hid (Below w.heap.size w b9))
 case atStart=>exact⟨0,none,0,[],[],aJ _,rfl,rfl,rfl,(rfl:([]:AJ).length=0),mA.nil _ _,⟨by simp,fun i L r h=>by simp at h⟩,aB _ _⟩
 case round =>
  obtain⟨i,D,E,J,x,hi,rfl,rfl,rfl,a5,a4,b1,u⟩:=hrel;obtain⟨a,g2⟩:∃a,a=wr:=⟨wr,rfl⟩;subst g2;have b8:=u.out.size;have g5:J.length<=100:=by have:=a5.out;omega
  by_cases O:i<b.length
  ·obtain⟨g,d,j,f,l,Q,R,rfl,hg,a8,a9,Y,Z,a0,c3,a1⟩:=c5.out i O;have B:Hid (gY b[i]):=g0 _ (bl O);have c9:Hid (b.take (i+1)=b.take i++[b[i]]):=by show _=_;rw[lc,ax O];rfl
   generalize b[i]=L at *;have d0:=(u.out.cell (p:=⟨g,i*5,none⟩) hg).trans Y;have d1:=(u.out.cell (p:=⟨g,i*5+1,none⟩) hg).trans Z;have d2:=(u.out.cell (p:=⟨g,i*5+2,none⟩) hg).trans a0;have d3:=(u.out.cell (p:=⟨g,i*5+3,none⟩) hg).trans c3;have d4:=(u.out.cell (p:=⟨g,i*5+4,none⟩) hg).trans a1;clear Y Z a0 c3 a1;obtain⟨c,F⟩:∃c,c=a.alloc (.cells #[.bool L.cut,.slice d L.SL.length j,.int .i64 (L.fL:Nat),.slice f L.SR.length l,.int .i64 (L.fR:Nat)] 148):=⟨_,rfl⟩;have e0:Hid (c=a.alloc (.cells #[.bool L.cut,.slice d L.SL.length j,.int .i64 (L.fL:Nat),.slice f L.SR.length l,.int .i64 (L.fR:Nat)] 148)):=F;have b0:Below a.heap.size a c:=by rw[F];exact af a _
   have g6:c.heap.size=a.heap.size+1:=by rw[F];simp
   have A:c.heap[a.heap.size]?=some (.cells #[.bool L.cut,.slice d L.SL.length j,.int .i64 (L.fL:Nat),.slice f L.SR.length l,.int .i64 (L.fR:Nat)] 148 (0,0)):=by rw[F];exact aw a _
   have I:Hid (Below w.heap.size w c):=u.out.trans (b0.mono b8);have c1:Hid (Below a.heap.size a c):=b0;have c2:Hid (∀W,Below c.heap.size c W->Calls prog 81 #[.agg #[.slice d L.SL.length j,.int .i64 (L.fL:Nat)]] W (dY (xT (av true L.SL) L.fL) 0 [a6 (av true L.SL) L.fL] (fun v=>.agg #[v]) W)):=fun W hb=>Ci L.SL B.out.sl B.out.cl _ Q L.fL W ((a8.later (I.out.trans (hb.mono I.out.size)))) B.out.fl
   have c4:Hid (∀W,Below c.heap.size c W->Calls prog 138 #[.agg #[.slice f L.SR.length l,.int .i64 (L.fR:Nat)]] W (dY (B1 (av true L.SR) 0) 0 [a6 (av true L.SR) L.fR,fun _=>False] (fun v=>.agg #[v]) W)):=fun W hb=>D9 L.SR B.out.sr B.out.cf _ R L.fR W ((a9.later (I.out.trans (hb.mono I.out.size)))) B.out.fr
   have m0:c.cell? ⟨a.heap.size,0,none⟩=some (.bool L.cut):=ab A 0 _ rfl;have m1:c.cell? ⟨a.heap.size,1,none⟩=some (.slice d L.SL.length j):=ab A 1 _ rfl;have m2:c.cell? ⟨a.heap.size,2,none⟩=some (.int .i64 (L.fL:Nat)):=ab A 2 _ rfl;have m3:c.cell? ⟨a.heap.size,3,none⟩=some (.slice f L.SR.length l):=ab A 3 _ rfl;have m4:c.cell? ⟨a.heap.size,4,none⟩=some (.int .i64 (L.fR:Nat)):=ab A 4 _ rfl;have e2:Hid (c.heap[a.heap.size]?=some (.cells #[.bool L.cut,.slice d L.SL.length j,.int .i64 (L.fL:Nat),.slice f L.SR.length l,.int .i64 (L.fR:Nat)] 148 (0,0))):=A;clear F b0 A a8 a9;go_wp2_with fail;rw[<- e0.out]
   go_region_held3 (fun w'=>w'.cell? ⟨a.heap.size,0,none⟩=some (.bool L.cut)/\w'.cell? ⟨a.heap.size,1,none⟩=some (.slice d L.SL.length j)/\w'.cell? ⟨a.heap.size,2,none⟩=some (.int .i64 (L.fL:Nat))/\w'.cell? ⟨a.heap.size,3,none⟩=some (.slice f L.SR.length l)/\w'.cell? ⟨a.heap.size,4,none⟩=some (.int .i64 (L.fR:Nat)))
    (first|exact c7.out|exact e1.out|exact c8.out|go_keep)
    (first
     | (go_at_call 81
        refine(c2.out _ ((aB _ _).drew)).mono ?_;intro e W1 G;obtain⟨g9,m,o,n,t1,rfl,rfl,b4,b2,a3⟩:=pW.of G;have e4:Hid (bz 0 W1 (.slice m o n) t1):=b4;have T:Hid (xF L.SL L.fL t1):=b2;have y:Hid (Below c.heap.size c W1):=dW a3;have c7:Hid (W1.cell? ⟨a.heap.size,0,none⟩=some (.bool L.cut)/\W1.cell? ⟨a.heap.size,1,none⟩=some (.slice d L.SL.length j)/\W1.cell? ⟨a.heap.size,2,none⟩=some (.int .i64 (L.fL:Nat))/\W1.cell? ⟨a.heap.size,3,none⟩=some (.slice f L.SR.length l)/\W1.cell? ⟨a.heap.size,4,none⟩=some (.int .i64 (L.fR:Nat))) :=
         ⟨(y.out.cell (p:=⟨a.heap.size,0,none⟩) (by show a.heap.size<_;omega)).trans m0,(y.out.cell (p:=⟨a.heap.size,1,none⟩) (by show a.heap.size<_;omega)).trans m1,(y.out.cell (p:=⟨a.heap.size,2,none⟩) (by show a.heap.size<_;omega)).trans m2,(y.out.cell (p:=⟨a.heap.size,3,none⟩) (by show a.heap.size<_;omega)).trans m3,(y.out.cell (p:=⟨a.heap.size,4,none⟩) (by show a.heap.size<_;omega)).trans m4⟩
        clear G b4 b2 a3)
     | (go_at_call 138
        refine(c4.out _ y.out).mono ?_;intro e W2 G;obtain⟨v2,q,t,s,t2,rfl,rfl,b5,b3,M⟩:=pW.of G;have e6:Hid (bz 0 W2 (.slice q t s) t2):=b5;have e5:Hid (bz 0 W2 (.slice m o n) t1):=al e4.out (Kp.below M);have U:Hid (AS L.SR L.fR t2):=b3;have z:Hid (Below c.heap.size c W2):=y.out.trans (M.mono y.out.size);have e1:Hid (W2.cell? ⟨a.heap.size,0,none⟩=some (.bool L.cut)/\W2.cell? ⟨a.heap.size,1,none⟩=some (.slice d L.SL.length j)/\W2.cell? ⟨a.heap.size,2,none⟩=some (.int .i64 (L.fL:Nat))/\W2.cell? ⟨a.heap.size,3,none⟩=some (.slice f L.SR.length l)/\W2.cell? ⟨a.heap.size,4,none⟩=some (.int .i64 (L.fR:Nat))) :=
         ⟨(z.out.cell (p:=⟨a.heap.size,0,none⟩) (by show a.heap.size<_;omega)).trans m0,(z.out.cell (p:=⟨a.heap.size,1,none⟩) (by show a.heap.size<_;omega)).trans m1,(z.out.cell (p:=⟨a.heap.size,2,none⟩) (by show a.heap.size<_;omega)).trans m2,(z.out.cell (p:=⟨a.heap.size,3,none⟩) (by show a.heap.size<_;omega)).trans m3,(z.out.cell (p:=⟨a.heap.size,4,none⟩) (by show a.heap.size<_;omega)).trans m4⟩
        have g7:=z.out.size;have S:Hid (Below a.heap.size a (W2.alloc (.cells #[.bool L.cut,.slice m o n,.slice q t s] 234))):=(c1.out.trans (z.out.mono (by omega))).alloc (by omega) _;have H:Hid (mA w.heap.size (W2.alloc (.cells #[.bool L.cut,.slice m o n,.slice q t s] 234)) (.slice D J.length E) J x):=a4.out.below S.out;have V:Hid (bz 0 (W2.alloc (.cells #[.bool L.cut,.slice m o n,.slice q t s] 234)) (.slice m o n) t1/\bz 0 (W2.alloc (.cells #[.bool L.cut,.slice m o n,.slice q t s] 234)) (.slice q t s) t2):=⟨al e5.out (Kp.below (af W2 _)),al e6.out (Kp.below (af W2 _))⟩;have e3:Hid ((W2.alloc (.cells #[.bool L.cut,.slice m o n,.slice q t s] 234)).heap[a.heap.size]?=some (.cells #[.bool L.cut,.slice d L.SL.length j,.int .i64 (L.fL:Nat),.slice f L.SR.length l,.int .i64 (L.fR:Nat)] 148 (0,0))):=(aW _ _ _ (by omega)).trans ((z.out.block _ (by omega)).trans e2.out);clear G b5 b3 M)
     | (refine dz rfl (.tmp 12) (.tmp 22) 159 rfl w.heap.size 234 (.agg #[.bool false,.slice none 0 0,.slice none 0 0]) 3 56 Tryz.PC Tryz.QC rfl (by decide) (.slice D J.length E) J.length (iV J x) (by simp[Act.eval]) H.out.row W2.heap.size 1 [.bool L.cut,.slice m o n,.slice q t s] (by simp[Act.eval]) rfl (P5 W2 L.cut (.slice m o n) (.slice q t s)) (yb L.cut (.slice m o n) (.slice q t s) rfl rfl) (by omega) (by omega) (by simp;omega) ?_
        intro g8 W3 P K g1;obtain⟨X,a2,rfl⟩:=ak P;have b7:=T.out.good (by simp);have N:=U.out.good (by simp);have c0:Hid (mA w.heap.size W3 (.slice X (J.length+1) a2) (J++[⟨L.cut,t1,t2⟩]) (x++[(.slice m o n,.slice q t s)])):=mA.push H.out K V.out.1 V.out.2 ⟨N.2,b7.1,N.1⟩ P;have B4:Hid (Below w.heap.size w W3):=(u.out.trans (S.out.mono b8)).grown K (by simp;omega) (fun k e9=>(H.out.row.lt k e9).1);have C:=br e3.out (Kp.refl _ _) H.out.row K (by decide);have c8:Hid (W3.cell? ⟨a.heap.size,0,none⟩=some (.bool L.cut)/\W3.cell? ⟨a.heap.size,1,none⟩=some (.slice d L.SL.length j)/\W3.cell? ⟨a.heap.size,2,none⟩=some (.int .i64 (L.fL:Nat))/\W3.cell? ⟨a.heap.size,3,none⟩=some (.slice f L.SR.length l)/\W3.cell? ⟨a.heap.size,4,none⟩=some (.int .i64 (L.fR:Nat))):=⟨ab C 0 _ rfl,ab C 1 _ rfl,ab C 2 _ rfl,ab C 3 _ rfl,ab C 4 _ rfl⟩;clear P K g1 b7 N C))
   all_goals go_wp2_with fail
   all_goals go_roundg (b.length-(i+1))
   all_goals first
    | (case measure=>omega)
    | exact⟨i+1,X,a2,J++[⟨L.cut,t1,t2⟩],x++[(.slice m o n,.slice q t s)],by omega,rfl,by go_num,by rw[aF];rfl,by show _=_;rw[aF,a5.out];rfl,by rw[aF];exact c0,by rw[c9.out];exact b1.out.snoc rfl T.out U.out,B4⟩
  ·have e:Hid (b.take i=b):=gj (by omega);go_wp2_with fail;go_ret;exact⟨_,J,x,rfl,a4.out,by have:=b1.out;rw[e.out]at this;exact this,u.out⟩
theorem nl.pre{X d:List bY}{x:bY}{i:Nat}(h:nl X x d i):X <+: d/\d[i]?=some x:=by
 rcases h with⟨rfl,g⟩|⟨_,rfl,rfl⟩
 ·exact⟨kw _,g⟩
 ·exact⟨List.prefix_append _ _,by simp⟩
theorem nl.all{X d:List bY}{x:bY}{i:Nat}{P:bY->Prop}(h:nl X x d i)(g:∀y∈X,P y)(j:P x):∀y∈d,P y:=by
 rcases h with⟨rfl,_⟩|⟨_,rfl,_⟩
 ·exact g
 ·exact xn g j
theorem jP.Na{base p au lb o:Nat}{w:World}{X:List bY}{i:Option Addr}{j:Option Nat}{n:Array Value}{t:TypeId}{m:Nat×Nat}(h:jP base w p X i au j)(d:w.heap[lb]?=some (.cells n t m))(h1:t≠238)(q:t≠243)(u:Value):jP base (w.setCell ⟨lb,o,none⟩ u) p X i au j :=
 h.C3 fun k _ g=>aD fun e=>by
  subst e;rcases g with e|e|e
  ·subst e;rw[h.da]at d;cases d;exact h1 rfl
  ·obtain⟨v,g⟩:=bh h.row k e;rw[g]at d;cases d;exact q rfl
  ·exact(h.lt e).2.2 _ _ _ d
theorem hX.Na{base p au lb o:Nat}{w:World}{X:List bY}{i:Option Addr}{j:Option Nat}{n:Array Value}{t:TypeId}{m:Nat×Nat}(h:hX base w p X i au j)(d:w.heap[lb]?=some (.cells n t m))(h1:t≠164)(q:t≠249)(u:Value):hX base (w.setCell ⟨lb,o,none⟩ u) p X i au j :=
 h.C3 fun k _ g=>aD fun e=>by
  subst e;rcases g with e|e|e
  ·subst e;rw[h.da]at d;cases d;exact h1 rfl
  ·obtain⟨v,g⟩:=bh h.row k e;rw[g]at d;cases d;exact q rfl
  ·exact(h.lt e).2.2 _ _ _ d
theorem hX.Gf{base p q au y:Nat}{w w':World}{X K:List bY}{v x:Option Addr}{o u:Option Nat}(h:hX base w q K v au o)(i:jP base w p X x y u)(C:∀b,u=some b->o≠some b)(hc:bj (MP p X.length x y u) w w'):hX base w' q K v au o :=
 h.C3 fun k j hu=>hc.block k j fun e=>by
  have kt:∀A t m,w.heap[k]?=some (.cells A t m)->t=164\/t=249:=fun A t m g=>by
   rcases hu with d|d|d
   ·subst d;rw[h.da]at g;cases g;exact ah rfl
   ·obtain⟨B,j⟩:=bh h.row k d;rw[j]at g;cases g;exact ac rfl
   ·exact((h.lt d).2.2 _ _ _ g).elim
  rcases e with e|e|e
  ·subst e;rcases kt _ _ _ i.da with h1|h1<;>exact absurd h1 (by decide)
  ·obtain⟨B,n⟩:=bh i.row k e;rcases kt _ _ _ n with h1|h1<;>exact absurd h1 (by decide)
  ·rcases hu with d|d|d
   ·subst d;exact(i.lt e).2.2 _ _ _ h.da
   ·obtain⟨B,n⟩:=bh h.row k d;exact(i.lt e).2.2 _ _ _ n
   ·exact C k e d
theorem jP.CG{base p q au y:Nat}{w w':World}{X K:List bY}{v x:Option Addr}{o u:Option Nat}(h:jP base w q K v au o)(i:hX base w p X x y u)(C:∀b,u=some b->o≠some b)(hc:bj (ME p X.length x y u) w w'):jP base w' q K v au o :=
 h.C3 fun k j hu=>hc.block k j fun e=>by
  have kt:∀A t m,w.heap[k]?=some (.cells A t m)->t=238\/t=243:=fun A t m g=>by
   rcases hu with d|d|d
   ·subst d;rw[h.da]at g;cases g;exact ah rfl
   ·obtain⟨B,j⟩:=bh h.row k d;rw[j]at g;cases g;exact ac rfl
   ·exact((h.lt d).2.2 _ _ _ g).elim
  rcases e with e|e|e
  ·subst e;rcases kt _ _ _ i.da with h1|h1<;>exact absurd h1 (by decide)
  ·obtain⟨B,n⟩:=bh i.row k e;rcases kt _ _ _ n with h1|h1<;>exact absurd h1 (by decide)
  ·rcases hu with d|d|d
   ·subst d;exact(i.lt e).2.2 _ _ _ h.da
   ·obtain⟨B,n⟩:=bh h.row k d;exact(i.lt e).2.2 _ _ _ n
   ·exact C k e d
abbrev Hd:=Nat×List Nat
def cN(h:Hd):List Value:=.int .i64 (h.1:Nat)::h.2.map fun (n:Nat)=>Value.int .i64 (n:Int)
def gp(H:List Hd):List Value:=H.flatMap cN
theorem wK(H:List Hd)(h:Hd):gp (H++[h])=gp H++cN h:=by unfold gp;simp
theorem Ah(h:Hd):∀u∈cN h,u.oneCell'=true:=by
 intro u hu;unfold cN at hu;simp only[aT,aN]at hu;rcases hu with rfl|⟨n,_,rfl⟩<;>rfl
theorem Ag(s:Nat)(l:List Nat)(k n:Nat):(cN (s,l)).toArray.setIfInBounds (1+k) (.int .i64 n)=(cN (s,l.set k n)).toArray:=by
 unfold cN;rw[List.setIfInBounds_toArray,Nat.add_comm 1 k,oT,List.map_set]
theorem Cv{h:Hd}{j v:Nat}(a:h.2[j]?=some v):(cN h)[1+j]?=some (.int .i64 (v:Nat)):=by
 unfold cN;rw[Nat.add_comm,xJ,cV,a];rfl
def qT(J:AJ)(a:List Nat)(X K:List bY)(x:bY)(h:Hd):Prop:=h.2.length=8/\(∀k∈a,∃n,h.2[k]?=some n/\X[n]?=some (k0 J x k))/\(x.1=true->K[h.1]?=some (kU J x))
theorem qT.more{J:AJ}{j:List Nat}{X i K g:List bY}{x:bY}{h:Hd}(d:qT J j X K x h)(t:X <+: i)(q:K <+: g):qT J j i g x h :=
 ⟨d.1,fun k u=>by obtain⟨n,h1,o⟩:=d.2.1 k u;exact⟨n,h1,at_prefix t o⟩,fun e=>at_prefix q (d.2.2 e)⟩
def iz(J:AJ)(a:List Nat)(X K:List bY)(H:List Hd):Prop:=∀(i:Nat) (h:Hd),H[i]?=some h->∃x,X[i]?=some x/\qT J a X K x h
theorem iz.more{J:AJ}{n:List Nat}{X g K d:List bY}{H:List Hd}(t:iz J n X K H)(j:X <+: g)(q:K <+: d):iz J n g d H:=fun i h hi=>by
 obtain⟨x,h1,o⟩:=t i h hi;exact⟨x,at_prefix j h1,o.more j q⟩
theorem iz.snoc{J:AJ}{j:List Nat}{X K:List bY}{H:List Hd}{x:bY}{h:Hd}(n:iz J j X K H)(o:X[H.length]?=some x)(h1:qT J j X K x h):iz J j X K (H++[h]):=fun i g hi=>by
 rcases bD hi with⟨d,_⟩|⟨d,rfl⟩
 ·exact n i g d
 ·exact⟨x,by rw[d];exact o,h1⟩
def bI(a:List Nat):List Value:=a.map fun (k:Nat)=>Value.int .u8 (k:Int)
structure x6 (base:Nat) (w:World) (p q o:Nat) (J:AJ) (vs:List (Value×Value)) (vJ:Value) (ks:List Nat) (vP:Value) (X:List bY) (aoX:Option Addr) (capX:Nat) (moX:Option Nat) (K:List bY) (aoK:Option Addr) (capK:Nat) (moK:Option Nat) (H:List Hd) (aoH:Option Addr) (capH:Nat):Prop where
 fx:jP base w p X aoX capX moX
 fk:hX base w q K aoK capK moK
 ap:∀b,moX=some b->moK≠some b
 aj:mA 0 w vJ J vs
 ps:w.ownsRow 0 169 1 vP ks.length (bI ks)
 hd:w.ownsRow base 246 9 (.slice aoH H.length capH) H.length (gp H)
 ob:w.heap[o]?=some (.cells #[vP,.slice aoH H.length capH,.slice none 0 0] 95 (0,0))
theorem x6.below{base p q o:Nat}{w w':World}{J:AJ}{B:List (Value×Value)}{y:Value}{u:List Nat}{A:Value}{X:List bY}{i:Option Addr}{t:Nat}{x:Option Nat}{K:List bY}{g:Option Addr}{n:Nat}{v:Option Nat}{H:List Hd}{d:Option Addr}{j:Nat}(h:x6 base w p q o J B y u A X i t x K g n v H d j)(hb:Below w.heap.size w w'):x6 base w' p q o J B y u A X i t x K g n v H d j :=
 ⟨h.fx.below hb,h.fk.below hb,h.ap,h.aj.below hb,al h.ps (Kp.below hb),al h.hd (Kp.below hb),(hb.block o (an h.ob)).trans h.ob⟩
theorem x6.Gf{base p q o:Nat}{w w':World}{J:AJ}{O:List (Value×Value)}{M:Value}{G:List Nat}{N:Value}{X:List bY}{y:Option Addr}{E:Nat}{n:Option Nat}{K:List bY}{v:Option Addr}{C:Nat}{I:Option Nat}{H:List Hd}{u:Option Addr}{B:Nat}{x:bY}{i:Nat}{g:List bY}{t:Option Addr}{A:Nat}{d:Option Nat}(h:x6 base w p q o J O M G N X y E n K v C I H u B)(P:jP base w' p g t A d)(Q:d=n\/∃b,d=some b/\w.heap.size<=b)(hc:bj (MP p X.length y E n) w w')(_:nl X x g i):x6 base w' p q o J O M G N g t A d K v C I H u B:=by
 refine⟨P,h.fk.Gf h.fx h.ap hc,fun b e F=>?_,h.aj.kp (h.fx.kp hc (by decide) (by decide)) (h.fx.kp hc (by decide) (by decide)),al h.ps (h.fx.kp hc (by decide) (by decide)),al h.hd (h.fx.kp hc (by decide) (by decide)),h.fx.kp hc (by decide) (by decide) _ _ _ h.ob⟩;rcases Q with j|⟨R,j,S⟩
 ·rw[j]at e;exact h.ap b e F
 ·rw[j]at e;cases e;have:=(h.fk.lt F).1;omega
theorem x6.CG{base p q o:Nat}{w w':World}{J:AJ}{O:List (Value×Value)}{M:Value}{G:List Nat}{N:Value}{X:List bY}{A:Option Addr}{F:Nat}{I:Option Nat}{K:List bY}{y:Option Addr}{E:Nat}{t:Option Nat}{H:List Hd}{v:Option Addr}{C:Nat}{x:bY}{i:Nat}{j:List bY}{u:Option Addr}{B:Nat}{g:Option Nat}(h:x6 base w p q o J O M G N X A F I K y E t H v C)(P:hX base w' q j u B g)(Q:g=t\/∃b,g=some b/\w.heap.size<=b)(hc:bj (ME q K.length y E t) w w')(_:nl K x j i):x6 base w' p q o J O M G N X A F I j u B g H v C:=by
 refine⟨h.fx.CG h.fk (fun b e d=>h.ap b d e) hc,P,fun b e d=>?_,h.aj.kp (h.fk.kp hc (by decide) (by decide)) (h.fk.kp hc (by decide) (by decide)),al h.ps (h.fk.kp hc (by decide) (by decide)),al h.hd (h.fk.kp hc (by decide) (by decide)),h.fk.kp hc (by decide) (by decide) _ _ _ h.ob⟩;rcases Q with n|⟨R,n,S⟩
 ·rw[n]at d;exact h.ap b e d
 ·rw[n]at d;cases d;have:=(h.fx.lt e).1;omega
theorem BI{base size n lb o:Nat}{w:World}{e:TypeId}{v:Value}{us:List Value}(h:w.ownsRow base e size v n us)(i:∀k,v.ownBlock=some k->k≠lb)(u:Value):(w.setCell ⟨lb,o,none⟩ u).ownsRow base e size v n us:=by
 obtain⟨h1,a⟩:=h;refine⟨h1,?_⟩;rcases a with a|⟨g,c,d,b,hg,f,r⟩
 ·exact ah a
 ·exact ac ⟨g,c,d,b,hg,(aD (i g (by rw[b];rfl))).trans f,r⟩
theorem x6.FC{base p q o:Nat}{w:World}{J:AJ}{E:List (Value×Value)}{B:Value}{x:List Nat}{C:Value}{X:List bY}{n:Option Addr}{v:Nat}{A:Option Nat}{K:List bY}{j:Option Addr}{t:Nat}{y:Option Nat}{H:List Hd}{g:Option Addr}{i:Nat}{lb f:Nat}{F:Array Value}(h:x6 base w p q o J E B x C X n v A K j t y H g i)(d:w.heap[lb]?=some (.cells F 246 (0,0)))(G:∀k,(Value.slice g H.length i).ownBlock=some k->k≠lb)(u:Value):x6 base (w.setCell ⟨lb,f,none⟩ u) p q o J E B x C X n v A K j t y H g i :=
 ⟨h.fx.Na d (by decide) (by decide) u,h.fk.Na d (by decide) (by decide) u,h.ap,h.aj.kp ((Kp.refl _ _).setCell d (by decide) u) ((Kp.refl _ _).setCell d (by decide) u),al h.ps ((Kp.refl _ _).setCell d (by decide) u),BI h.hd G u,(Kp.refl _ _).setCell d (by decide) u _ _ _ h.ob⟩
theorem x6.push{base p q o:Nat}{w:World}{J:AJ}{Q:List (Value×Value)}{O:Value}{G:List Nat}{P:Value}{X:List bY}{A:Option Addr}{E:Nat}{M:Option Nat}{K:List bY}{y:Option Addr}{C:Nat}{I:Option Nat}{H:List Hd}{x:Option Addr}{B:Nat}{w':World}{i:Option Addr}{j:Nat}{h0:Hd}(h:x6 base w p q o J Q O G P X A E M K y C I H x B)(hg:w.grownBy w' (Value.slice x H.length B).ownBlock)(T:w'.ownsRow base 246 9 (.slice i (H.length+1) j) (H.length+1) (gp H++cN h0)):x6 base (w'.setCell ⟨o,1,none⟩ (.slice i (H.length+1) j)) p q o J Q O G P X A E M K y C I (H++[h0]) i j:=by
 have N:=br h.ob (Kp.refl _ _) h.hd hg (by decide);have v:∀k,(∀n t m,w.heap[k]?=some (.cells n t m)->t≠246/\t≠95)->k<w.heap.size->(w'.setCell ⟨o,1,none⟩ (.slice i (H.length+1) j)).heap[k]?=w.heap[k]?:=fun k g S=>by
  rw[aD (fun e=>by subst e;exact(g _ _ _ h.ob).2 rfl),hg.block k S (fun e=>by obtain⟨u,d⟩:=bh h.hd k e.symm;exact(g _ _ _ d).1 rfl)]
 have kp:∀t:TypeId,t≠246->t≠95->Kp t w (w'.setCell ⟨o,1,none⟩ (.slice i (H.length+1) j)):=fun t h1 R k n m d=>by
  rw[v k (fun u V U F=>by rw[d]at F;cases F;exact⟨h1,R⟩) (an d)];exact d
 refine⟨h.fx.C3 fun k g hu=>v k (fun n t m d=>?_) g,h.fk.C3 fun k g hu=>v k (fun n t m d=>?_) g,h.ap,h.aj.kp (kp _ (by decide) (by decide)) (kp _ (by decide) (by decide)),al h.ps (kp _ (by decide) (by decide)),?_,?_⟩
 ·rcases hu with e|e|e
  ·subst e;rw[h.fx.da]at d;cases d;decide
  ·obtain⟨u,g⟩:=bh h.fx.row k e;rw[g]at d;cases d;decide
  ·exact((h.fx.lt e).2.2 _ _ _ d).elim
 ·rcases hu with e|e|e
  ·subst e;rw[h.fk.da]at d;cases d;decide
  ·obtain⟨u,g⟩:=bh h.fk.row k e;rw[g]at d;cases d;decide
  ·exact((h.fk.lt e).2.2 _ _ _ d).elim
 ·rw[aF,wK];exact al T ((Kp.refl _ _).setCell N (by decide) _)
 ·rw[aF];exact(am N 1 _).trans rfl
def BR(J:AJ)(row:List Nat):bY:=row.foldl (k0 J) (false,[0,0,0,0])
theorem D7(J:AJ)(row:List Nat)(k:Nat):BR J (row++[k])=k0 J (BR J row) k:=by unfold BR;rw[e0];rfl
def BE(J:AJ)(row:List Nat)(i:Nat):bY:=(row.drop i).foldl (mQ J) (kU J (BR J (row.take i)))
theorem DW(J:AJ){row:List Nat}{i:Nat}(hi:i<=row.length)(k:Nat):BE J (row++[k]) i=mQ J (BE J row i) k:=by
 unfold BE;rw[AV hi,oX hi,e0];rfl
def jm(J:AJ)(a:List Nat)(x:bY):Prop:=nh J x/\∃row:List Nat,(∀k∈row,k∈a)/\x=BR J row
def fG(J:AJ)(a:List Nat)(x:bY):Prop:=dl J x/\∃(row:List Nat) (i:Nat),(∀k∈row,k∈a)/\1<=i/\i<=row.length/\x=BE J row i
theorem jm.zero{J:AJ}(d:∀r∈J,fh r)(h:List Nat):jm J h (false,[0,0,0,0]):=⟨Ht J d false,[],fun k g=>by simp at g,rfl⟩
theorem Fx{row a:List Nat}{k:Nat}(h:∀c∈row,c∈a)(b:k∈a):∀c∈row++[k],c∈a:=fun c hc=>by
 rcases aR.1 hc with h1|h1
 ·exact h c h1
 ·simp at h1;rw[h1];exact b
theorem jm.later{J:AJ}(i:∀r∈J,fh r){d:List Nat}{x:bY}(h:jm J d x){k:Nat}(j:k∈d):jm J d (k0 J x k):=by
 obtain⟨h1,row,g,rfl⟩:=h;exact⟨Cl i h1 k,row++[k],Fx g j,(D7 J row k).symm⟩
theorem jm.start{J:AJ}(i:∀r∈J,fh r){d:List Nat}{x:bY}(h:jm J d x)(n:x.1=true):fG J d (kU J x):=by
 obtain⟨h1,row,g,rfl⟩:=h;have j:1<=row.length:=by
  cases row with
  | nil=>cases n
  | cons a r=>simp
 refine⟨Bn i _,row,row.length,g,j,ar _,?_⟩;unfold BE;rw[List.drop_length,mi];rfl
theorem fG.next{J:AJ}(o:∀r∈J,fh r){d:List Nat}{x:bY}(h:fG J d x){k:Nat}(q:k∈d):fG J d (mQ J x k):=by
 obtain⟨h1,row,i,g,j,n,rfl⟩:=h;exact⟨FZ o h1 k,row++[k],i,Fx g q,j,by rw[aF];omega,(DW J n k).symm⟩
end Go.Proofs.YtodagkkjfipbgaaGreatDoor
