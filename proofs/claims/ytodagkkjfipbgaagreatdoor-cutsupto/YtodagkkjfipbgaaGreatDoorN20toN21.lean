import Derived.Test.YtodagkkjfipbgaaGreatDoorH1toN19
set_option maxRecDepth 100000
set_option maxHeartbeats 8000000
namespace Go.Proofs.YtodagkkjfipbgaaGreatDoor
open Go.RowKit Go.Maps Go.Proofs.Tryz
def rb(x y:Int):Int:=wrap64 (wrap64 (wrap32 (y-x))+1)
theorem yh(w:World)(x y:Int):Calls prog 88 #[.agg #[.int .i32 x,.int .i32 y]] w fun r w'=>r=.returned (.int .i64 (rb x y))/\Below w.heap.size w w':=by
 go_enter func88,ntmps88;go_wp2_with fail;go_ret;exact⟨rfl,af w _⟩
theorem C6:((List.range 256).all fun t=>(List.range 8).all fun k=>(bits BinOp.or IntKind.u8 (t:Nat) ((2^k:Nat):Int)==((t ||| 2^k:Nat):Int))&&decide (t ||| 2^k<256))=true:=by kernel_rfl
theorem Gt(t k:Nat)(b:t<256)(a:k<8):bits BinOp.or IntKind.u8 (t:Nat) ((2^k:Nat):Int)=((t ||| 2^k:Nat):Int)/\t ||| 2^k<256:=by
 have h:=List.all_eq_true.1 (List.all_eq_true.1 C6 t (ja.2 b)) k (ja.2 a);rw[gA]at h;exact⟨by simpa using h.1,of_decide_eq_true h.2⟩
def wm(L:List (Int×Int×Nat))(m:Nat):Nat:=L.foldl (fun m o=>m ||| 2^o.2.2) m
def yx(L:List (Int×Int×Nat))(z:Int):Int:=L.foldl (fun z o=>wrap64 (z-rb o.1 o.2.1)) z
theorem Ei(L:List (Int×Int×Nat))(o:Int×Int×Nat)(m:Nat):wm (L++[o]) m=wm L m ||| 2^o.2.2:=by unfold wm;simp
theorem Em(L:List (Int×Int×Nat))(o:Int×Int×Nat)(z:Int):yx (L++[o]) z=wrap64 (yx L z-rb o.1 o.2.1):=by unfold yx;simp
def lr(L:List (Int×Int×Nat)):Nat:=if 0<yx L 1112064 then wm L 128 ||| 2^6 else wm L 128
def fb(L:List (Int×Int×Nat)):List Nat:=(List.range 8).filter fun k=>(lr L).testBit k
theorem Hn(L:List (Int×Int×Nat)):∀k∈fb L,k<8:=fun k a=>by unfold fb at a;rw[eF,ja]at a;exact a.1
theorem D4(L:List (Int×Int×Nat)):(fb L).length<=8:=by unfold fb;exact aE (nw _ _) (by simp)
theorem zA(m j:Nat):(List.range (j+1)).filter (fun k=>m.testBit k)=(List.range j).filter (fun k=>m.testBit k)++if m.testBit j=true then [j]else []:=by
 rw[List.range_succ,List.filter_append];congr 1;cases h:m.testBit j<;>simp[h]
theorem zD(w:World)(p base:Nat)(e1:Value)(L:List (Int×Int×Nat))(T:cc w)(c2:rR base w e1 L)(D:∀o∈L,o.2.2<8)(j7:L.length<=100000)(hc:w.cell? ⟨p,0,none⟩=some e1):Calls prog 45 #[.pointer (some ⟨p,0,none⟩)] w fun r w'=>∃v,r=.returned v/\w'.ownsRow w.heap.size 169 1 v (fb L).length (bI (fb L))/\Below w.heap.size w w':=by
 obtain⟨y,au,rfl,c4⟩:=iN c2;have e6:Hid (∀i (hi:i<L.length),∃g,y=some ⟨g,0,none⟩/\g<w.heap.size/\w.cell? ⟨g,i*3,none⟩=some (.int .i32 L[i].1)/\w.cell? ⟨g,i*3+1,none⟩=some (.int .i32 L[i].2.1)/\w.cell? ⟨g,i*3+2,none⟩=some (.int .u8 L[i].2.2)):=c4;have e7:Hid (∀o∈L,o.2.2<8):=D;have h7:=k3 hc;have g0:=T.2.2.1;have g1:=T.2.2.2;have c5:=k3 g0;have i1:Hid (wrap64 (1114112-rb 55296 57343)=1112064):=by show _=_;kernel_rfl
 obtain⟨e,C⟩:∃e,e=w.alloc (.cells #[.int .u8 7] 169):=⟨_,rfl⟩;have g2:Hid (e=w.alloc (.cells #[.int .u8 7] 169)):=C;have b0:Below w.heap.size w e:=by rw[C];exact af w _
 have a9:Hid (Below w.heap.size w e):=b0;have e0:e.cell? ⟨w.heap.size,0,none⟩=some (.int .u8 (7:Nat)):=by rw[C];exact ab (aw w _) 0 _ rfl
 have g7:=(b0.cell (p:=⟨0,0,none⟩) c5).trans g0;have g8:=(b0.cell (p:=⟨0,1,none⟩) c5).trans g1;clear T c2 c4 D C b0 g0 g1;go_enter func45,ntmps45;go_wp2_with fail;rw[<- g2.out];refine(kc w.heap.size 7 e (by omega) e0).mono ?_;rintro r e2 ⟨rfl,rfl⟩;go_wp2_with fail;refine(yh _ 55296 57343).mono ?_;obtain⟨I,a6⟩:∃I,I=rb 55296 57343:=⟨_,rfl⟩;rw[<- a6];have g4:Hid (I=rb 55296 57343):=a6;rintro r e2 ⟨rfl,c3⟩;have J:Hid (Below w.heap.size w e2):=a9.out.trans (c3.mono a9.out.size);have g6:=(J.out.cell (p:=⟨p,0,none⟩) h7).trans hc;clear c3 g7 g8 e0 a6;go_wp2_with fail
 go_loopg [3,4,19] L.length (fun R mv j2 i6 q=>∃(i m:Nat) (z:Int),i<=L.length/\R=L.length-i/\mv=.int .u8 m/\j2=.int .i64 z/\i6=.int .i64 i/\m<256/\Hid (m=wm (L.take i) 128)/\Hid (z=yx (L.take i) 1112064)/\Hid (Below w.heap.size w q))
 case atStart=>exact⟨0,128,wrap64 (1114112-I),aJ _,rfl,rfl,rfl,rfl,by omega,(rfl:(128:Nat)=128),(by show _=_;rw[g4.out];exact i1.out),J⟩
 case round =>
  obtain⟨i,m,z,hi,rfl,rfl,rfl,rfl,E,U,V,d⟩:=hrel;obtain⟨a,i2⟩:∃a,a=wr:=⟨wr,rfl⟩;subst i2;clear J g6;have c8:=d.out.size
  by_cases a1:i<L.length
  ·obtain⟨g,rfl,hg,a0,x,a2⟩:=e6.out i a1;have Z:=e7.out L[i] (bl a1);have P:Hid (L.take (i+1)=L.take i++[L[i]]):=by show _=_;rw[lc,ax a1];rfl
   generalize L[i]=h0 at a0 x a2 Z P;obtain⟨h,l,c⟩:=h0;simp only at a0 x a2 Z;have d0:=(d.out.cell (p:=⟨g,i*3,none⟩) hg).trans a0;have d1:=(d.out.cell (p:=⟨g,i*3+1,none⟩) hg).trans x;have d2:=(d.out.cell (p:=⟨g,i*3+2,none⟩) hg).trans a2;have n:=Gt m c E Z;obtain⟨W2,t⟩:∃W2,W2=a.alloc (.cells #[.int .i32 h,.int .i32 l,.int .u8 (c:Nat)] 173):=⟨_,rfl⟩;have b3:Hid (W2=a.alloc (.cells #[.int .i32 h,.int .i32 l,.int .u8 (c:Nat)] 173)):=t;have b2:Below a.heap.size a W2:=by rw[t];exact af a _
   have i5:W2.heap.size=a.heap.size+1:=by rw[t];simp
   have b5:Hid (W2.heap[a.heap.size]?=some (.cells #[.int .i32 h,.int .i32 l,.int .u8 (c:Nat)] 173 (0,0))):=by rw[t];exact aw a _
   have e3:Hid (Below w.heap.size w W2):=d.out.trans (b2.mono c8);have G:(W2.alloc (.cells #[.int .u8 (c:Nat)] 169)).cell? ⟨a.heap.size+1,0,none⟩=some (.int .u8 (c:Nat)):=by rw[<- i5];exact ab (aw W2 _) 0 _ rfl
   have j0:=((af W2 (.cells #[.int .u8 (c:Nat)] 169)).cell (p:=⟨a.heap.size,0,none⟩) (by show a.heap.size<_;omega)).trans (ab b5.out 0 _ rfl);have j1:=((af W2 (.cells #[.int .u8 (c:Nat)] 169)).cell (p:=⟨a.heap.size,1,none⟩) (by show a.heap.size<_;omega)).trans (ab b5.out 1 _ rfl);rw[b3.out]at G j0 j1;clear t b2 a0 x a2;go_wp2_with fail;refine(kc (a.heap.size+1) c _ (by omega) G).mono ?_;rintro r w3 ⟨rfl,rfl⟩;have e8:Hid (bits BinOp.or IntKind.u8 (m:Nat) ((2^c:Nat):Int)=((m ||| 2^c:Nat):Int)):=n.1;have h6:=n.2;clear n;go_wp2_with fail;refine(yh _ h l).mono ?_;obtain⟨H,a5⟩:∃H,H=rb h l:=⟨_,rfl⟩;rw[<- a5];have g3:Hid (H=rb h l):=a5;rintro r w3 ⟨rfl,W⟩;have e4:Hid (Below w.heap.size w w3):=by
    rw[<- b3.out]at W;exact(e3.out.alloc (by omega) _).trans (W.mono (by simp;omega))
   clear W a5;go_wp2_with fail;go_roundg (L.length-(i+1))
   case measure=>omega
   case rel=>exact⟨i+1,m ||| 2^c,wrap64 (z-H),by omega,rfl,ej (Value.int IntKind.u8) (by simpa using e8.out),rfl,by go_num,h6,(by show _=_;rw[P.out,Ei,<- U.out]),(by show _=_;rw[P.out,Em,<- V.out,g3.out]),e4⟩
  ·have Y:L.take i=L:=gj (by omega);have M:Hid (m=wm L 128):=by have:=U.out;rw[Y]at this;exact this
   have Q:Hid (z=yx L 1112064):=by have:=V.out;rw[Y]at this;exact this
   clear Y
   go_upto_if 36 with fail
   go_cut [3] (fun mv q=>∃b:Nat,mv=.int .u8 b/\b<256/\Hid (b=lr L)/\Hid (Below w.heap.size w q))
   case first =>
    by_cases c9:0<z
    ·have N:Hid (m ||| 2^6=lr L):=by show _=_;unfold lr;rw[<- M.out,<- Q.out,ag c9]
     have n:=Gt m 6 E (by omega);have h5:bits BinOp.or IntKind.u8 (m:Nat) 64=((m ||| 2^6:Nat):Int):=n.1;have G:(a.alloc (.cells #[.int .u8 6] 169)).cell? ⟨a.heap.size,0,none⟩=some (.int .u8 ((6:Nat):Int)):=ab (aw a _) 0 _ rfl;go_wp2_with fail;refine(kc a.heap.size 6 _ (by omega) G).mono ?_;rintro r w3 ⟨rfl,rfl⟩;go_wp2_with fail;go_meet;exact⟨m ||| 2^6,by rw[<- h5],n.2,N,d.out.alloc c8 _⟩
    ·have N:Hid (m=lr L):=by show _=_;unfold lr;rw[<- M.out,<- Q.out,ae c9]
     go_wp2_with fail;go_meet;exact⟨m,rfl,E,N,d⟩
   case rest =>
    obtain⟨b,rfl,h4,h2,h1⟩:=hcut;obtain⟨w3,i3⟩:∃w3,w3=wc:=⟨wc,rfl⟩;subst i3;clear E U V M Q d;go_wp2_with fail
    go_loopg [7,41] 8 (fun R i9 i7 q=>∃(j:Nat) (y:Option Addr) (au:Nat),j<=8/\R+j=8/\i7=.int .u8 j/\i9=.slice y ((List.range j).filter fun k=>b.testBit k).length au/\Hid (q.ownsRow w.heap.size 169 1 (.slice y ((List.range j).filter fun k=>b.testBit k).length au) ((List.range j).filter fun k=>b.testBit k).length (bI ((List.range j).filter fun k=>b.testBit k)))/\Hid (Below w.heap.size w q))
    case atStart=>exact⟨0,none,0,aJ _,rfl,rfl,rfl,cq _ _ _ _,h1⟩
    case round =>
     obtain⟨j,A,B,j5,j4,rfl,rfl,c1,S⟩:=hrel;obtain⟨a8,i4⟩:∃a8,a8=wr:=⟨wr,rfl⟩;subst i4;have h8:=S.out.size;have b1:=zA b j;have j3:((List.range j).filter fun k=>b.testBit k).length<=8:=aE (nw _ _) (by simp;omega);have O:Hid ((List.range (j+1)).filter (fun k=>b.testBit k)=(List.range j).filter (fun k=>b.testBit k)++if b.testBit j=true then [j]else []):=b1;clear b1
     by_cases h3:j<8
     ·have j6:(j:Int)<8:=by omega
      generalize hF:(List.range j).filter (fun k=>b.testBit k)=F at *;go_wp2_with fail;refine(Cw a8 b j h4 h3).mono ?_;rintro r f ⟨rfl,X⟩;have K:Hid (Below w.heap.size w f):=S.out.trans (X.mono h8);have b6:Hid (f.ownsRow w.heap.size 169 1 (.slice A F.length B) F.length (bI F)):=al c1.out (Kp.below X);have h9:=K.out.size;clear X;obtain⟨a7,a4⟩:∃a7,a7=b.testBit j:=⟨_,rfl⟩;rw[<- a4]at O;rw[<- a4];clear a4;cases a7
      ·have s:Hid ((List.range (j+1)).filter (fun k=>b.testBit k)=F):=by show _=_;have:=O.out;simpa using this
       go_wp2_with fail;go_roundg (8-(j+1))
       case measure=>omega
       case rel=>exact⟨j+1,A,B,by omega,by omega,by go_num,by rw[s.out],by rw[s.out];exact b6,K⟩
      ·have s:Hid ((List.range (j+1)).filter (fun k=>b.testBit k)=F++[j]):=by show _=_;have:=O.out;simpa using this
       have b7:Hid ((f.alloc (.cells #[.int .u8 (j:Nat)] 169)).ownsRow w.heap.size 169 1 (.slice A F.length B) F.length (bI F)):=al b6.out (Kp.below (af f _));have b4:w.heap.size<=(f.alloc (.cells #[.int .u8 (j:Nat)] 169)).heap.size:=by simp;omega
       go_wp2_with (at_builtin;refine bs rfl (.tmp 47) (.tmp 49) 91 rfl w.heap.size 169 (.int .u8 0) 1 1 Tryz.K5 Tryz.Ov rfl (by decide) (.slice A F.length B) F.length (bI F) rfl b7.out f.heap.size 1 [.int .u8 (j:Nat)] rfl rfl (fun i u hu=>ab (aw f _) i u (by simpa using hu)) (zK j) (by omega) (by omega) b4 ?_;intro j8 b8 a3 c7 i0;obtain⟨b9,c0,rfl⟩:=ak a3;have g5:Hid (b8.ownsRow w.heap.size 169 1 (.slice b9 (F.length+1) c0) (F.length+1) (bI F++[.int .u8 (j:Nat)])):=a3;have e5:Hid (Below w.heap.size w b8):=(K.out.alloc h9 _).grown c7 b4 (fun k D=>(b7.out.lt k D).1);clear a3 c7 i0);go_roundg (8-(j+1))
       case measure=>omega
       case rel=>exact⟨j+1,b9,c0,by omega,by omega,by go_num,by rw[s.out,aF];rfl,by rw[s.out,aF,kK];exact g5,e5⟩
     ·have g9:j=8:=by omega
      subst g9;have e9:Hid ((List.range 8).filter (fun k=>b.testBit k)=fb L):=by show _=_;unfold fb;rw[h2.out]
      go_wp2_with fail;go_ret;exact⟨_,rfl,by rw[<- e9.out];exact c1.out,S.out⟩
end Go.Proofs.YtodagkkjfipbgaaGreatDoor
namespace Go.Proofs.YtodagkkjfipbgaaGreatDoor
open Go.RowKit Go.Proofs.Tryz
def oK(S:List St):Nat:=(S.map fun s=>if s.1=0 then 0 else s.2.length).sum
theorem LN(S R:List St):oK (S++R)=oK S+oK R:=by unfold oK;simp
theorem zk(b:Bool)(i:Nat)(s:St):((gS b i s).filter fun a=>a.2.1 != 0).length=if s.1=0 then 0 else s.2.length:=by
 unfold gS
 by_cases h:s.1=0
 ·rw[ag h,List.length_eq_zero_iff,List.filter_eq_nil_iff];intro a c;obtain⟨u,_,rfl⟩:=aN.1 c;cases b<;>simp[h]
 ·rw[ae h,List.filter_eq_self.2,b5];intro a c;obtain⟨u,_,rfl⟩:=aN.1 c;cases b<;>simpa using h
theorem Iq(b:Bool)(S:List St):(fp b S).length=oK S:=by
 unfold fp;have key:∀(S:List St) (i:Nat),((cC b S i).filter fun a=>a.2.1 != 0).length=oK S:=by
  intro S
  induction S with
  | nil=>intro i;rfl
  | cons s S c =>
   intro i;rw[cC,List.filter_append,aF,c,zk];simp[oK]
 exact key S 0
def nc:Nat->Px->Nat
 | 0,_=>0
 | d+1,x=>if x.what=0 then 1 else (x.l.map (nc d)).sum
def rF:Nat->Px->Prop
 | 0,_=>True
 | d+1,x=>(x.what=0->x.k<256)/\∀y∈x.l,rF d y
structure Mk (n:Nat) (S R:List St) (f:Nat):Prop where
 len:S.length<=R.length
 AX:∀i,i<S.length->(R[i]?).map Prod.fst=(S[i]?).map Prod.fst
 num:oK R<=oK S+n
 kind:(∀s∈S,s.1<256)->∀s∈R,s.1<256
 ib:(∀s∈S,∀t∈s.2,t<S.length)->∀s∈R,∀t∈s.2,t<R.length
 first:f<R.length
theorem yB{S:List St}{f t:Nat}{s:St}(h:s∈b9 S f t):s∈S\/∃b∈S,s=(b.1,b.2++[t]):=by
 unfold b9 at h;obtain⟨i,hi⟩:=e3.1 h;rw[qY]at hi;cases hS:S[i]? with
 | none=>rw[hS]at hi;simp at hi
 | some x =>
  rw[hS]at hi;have a:(if f=i then (x.1,x.2++[t])else x)=s:=by simpa using hi
  split at a
  ·exact ac ⟨x,bC hS,a.symm⟩
  ·exact ah (a▸bC hS)
theorem yC(S:List St)(f t i:Nat):((b9 S f t)[i]?).map Prod.fst=(S[i]?).map Prod.fst:=by
 unfold b9;rw[qY];cases S[i]? with
 | none=>rfl
 | some x =>
  show some (if f=i then (x.1,x.2++[t])else x).1=some x.1;split<;>rfl
theorem En:∀(S:List St) (f t:Nat),(S[f]?).map Prod.fst=some 0->oK (b9 S f t)=oK S:=by
 intro S
 induction S with
 | nil=>intro f t h;simp at h
 | cons a S b =>
  intro f t h;cases f with
  | zero=>simp at h;simp[b9,oK,h]
  | succ f =>
   have:=b f t (by simpa using h);unfold b9 oK at *;simp at *;omega
theorem Mk.lead{n:Nat}{S R:List St}{f g t:Nat}(h:Mk n S R f)(hg:(R[g]?).map Prod.fst=some 0)(v:t<R.length){f':Nat}(q:f'<R.length):Mk n S (b9 R g t) f':=by
 refine⟨by rw[dv];exact h.len,fun i hi=>(yC R g t i).trans (h.AX i hi),by rw[En R g t hg];exact h.num,fun d s j=>?_,fun d s j u hu=>?_,by rw[dv];exact q⟩
 ·rcases yB j with h1|⟨o,h1,rfl⟩
  ·exact h.kind d s h1
  ·exact h.kind d o h1
 ·rw[dv];rcases yB j with h1|⟨o,h1,rfl⟩
  ·exact h.ib d s h1 u hu
  ·simp at hu;rcases hu with hu|rfl
   ·exact h.ib d o h1 u hu
   ·exact v
theorem Mk.trans{n m k:Nat}{S R Q:List St}{f g:Nat}(h:Mk n S R f)(d:Mk m R Q g)(j:n+m<=k):Mk k S Q g :=
 ⟨aE h.len d.len,fun i hi=>(d.AX i (cI hi h.len)).trans (h.AX i hi),by have:=h.num;have:=d.num;omega,fun a=>d.kind (h.kind a),fun a=>d.ib (h.ib a),d.first⟩
theorem Mk.Ro{n k:Nat}{S R:List St}{f:Nat}(h:Mk n S R f)(d:n<=k):Mk k S R f:=⟨h.len,h.AX,by have:=h.num;omega,h.kind,h.ib,h.first⟩
theorem Ee(S:List St)(k:Nat)(l:List Nat)(c:k<256)(d:∀t∈l,t<=S.length)(n:Nat)(e:(if k=0 then 0 else l.length)<=n):Mk n S (S++[(k,l)]) S.length:=by
 refine⟨by simp,fun i hi=>by rw[dD hi],by rw[LN];simp[oK];exact e,fun h s a=>?_,fun h s a t b=>?_,by simp⟩
 ·rw[aR]at a;rcases a with a|a
  ·exact h s a
  ·simp at a;subst a;exact c
 ·rw[aR]at a;rw[aF];rcases a with a|a
  ·have:=h s a t b;omega
  ·simp at a;subst a;have:=d t b;simp;omega
theorem Mk.refl(S:List St)(b:Nat)(hb:b<S.length):Mk 0 S S b:=⟨ar _,fun _ _=>rfl,ar _,fun h=>h,fun h=>h,hb⟩
theorem QX(d:Nat):∀(x:Px) (S:List St) (b:Nat),rF d x->b<S.length->Mk (nc d x) S (mk d x S b).1 (mk d x S b).2:=by
 induction d with
 | zero=>intro x S b _ hb;exact Mk.refl S b hb
 | succ d i =>
  intro x S b g hb;rw[mk,nc];split
  ·rename_i h0;exact Ee S x.k [b] (g.1 h0) (fun t e=>by simp at e;omega) 1 (by split<;>simp)
  ·split
   ·have key:∀(l:List Px),(∀y∈l,rF d y)->Mk (l.map (nc d)).sum S (l.foldr (fun y r=>mk d y r.1 r.2) (S,b)).1 (l.foldr (fun y r=>mk d y r.1 r.2) (S,b)).2:=by
     intro l c
     induction l with
     | nil=>exact Mk.refl S b hb
     | cons y l j =>
      rw[List.foldr_cons,bS,dC];have h1:=j fun z a=>c z (b6 _ a)
      exact h1.trans (i y _ _ (c y aU) h1.first) (by omega)
    exact key x.l g.2
   ·split
    ·have key:∀(l:List Px) (Z:List St),(∀y∈l,rF d y)->S.length<Z.length->(Z[S.length]?).map Prod.fst=some 0->Mk (l.map (nc d)).sum Z (l.foldl (fun Z y=>b9 (mk d y Z b).1 S.length (mk d y Z b).2) Z) S.length:=by
      intro l
      induction l with
      | nil=>intro Z _ a _;exact Mk.refl Z _ a
      | cons y l j =>
       intro Z c a h0;rw[jb,bS,dC];have h1:=i y Z b (c y aU) (by omega);have h:=(h1.AX _ a).trans h0;have f:=h1.lead h h1.first (f':=S.length) (cI a h1.len);have n:=j _ (fun z a=>c z (b6 _ a)) f.first ((yC _ _ _ _).trans h);exact f.trans n (by omega)
     have h0:=Ee S 0 [] (by omega) (fun t e=>by simp at e) 0 (by simp);exact h0.trans (key x.l (S++[(0,[])]) g.2 (by simp) (by simp)) (by omega)
    ·split
     ·rename_i y m;have h0:=Ee S 0 [b] (by omega) (fun t e=>by simp at e;omega) 0 (by simp);have h1:=i y (S++[(0,[b])]) S.length (g.2 y (by rw[m];exact aU)) (by simp);have h:((mk d y (S++[(0,[b])]) S.length).1[S.length]?).map Prod.fst=some 0:=(h1.AX _ (by simp)).trans (by simp);have o:(if x.what=3 then S.length else (mk d y (S++[(0,[b])]) S.length).2)<(mk d y (S++[(0,[b])]) S.length).1.length:=by
       split
       ·have:=h1.len;simp at this;omega
       ·exact h1.first
      have f:=h1.lead h h1.first o;simp only[m,bS,g7,dC,List.sum_nil];exact h0.trans f (by omega)
     ·exact(Mk.refl S b hb).Ro (aJ _)
theorem Cg(x:Px)(c:rF 24 x)(i:fB 24 x<=8000)(g:nc 24 x<=4):AZ (mk 24 x bA 0).1/\(∀a,(fp a (mk 24 x bA 0).1).length<=4)/\(mk 24 x bA 0).2<(mk 24 x bA 0).1.length:=by
 have h:=QX 24 x bA 0 c (by decide);have b:=nQ 24 x bA 0;have d:bA.length=1:=rfl;have e:lg bA=0:=rfl;have f:oK bA=0:=rfl;unfold i7 at b;refine⟨⟨by omega,by omega,h.kind (by decide),h.ib (by decide)⟩,fun a=>?_,h.first⟩;rw[Iq];have:=h.num;omega
theorem Js{P:Program}{w:World}{c:Array Oper}{o:Oper}{a:Act}{K:Act->World->Prop}{Q:Exit->Act->World->Prop}{E:Prop}(i:o.guard=none)(f:Nat)(x y z:Operand)(ts:Array TypeId) (k:o.op=.call { callee:=.value (.func f),args:=#[x,y,z],argTypes:=ts }) (b:Go.Proofs.Enters P f) (v0 d v2:Value) (n:a.eval x=v0) (p:a.eval y=d) (q:a.eval z=v2) (R:Ending->World->Prop) (hc:Calls P f #[v0,d,v2] w R) (g:∀e w',R e w'->∃v,e=.returned v/\K (a.put o.dst v) w'):if Region.wanted o (yielded c a.tmps)=true then Oper.wp P o a w K Q else E:=by
 have m:Region.wanted o (yielded c a.tmps)=true:=by simp[Region.wanted,i]
 rw[ag m];unfold Go.Proofs.Enters at b;unfold Oper.wp execOp;have h:a.eval (.func f)=.func (.func f) #[] #[]:=rfl;simp[k,resolve,invoke,n,p,q,h,Deferred.ofValue,b,Oper.upon_enter];refine hc.mono ?_;intro e w' l;obtain⟨v,rfl,j⟩:=g e w' l;exact j
theorem G0{P:Program}{w:World}{c:Array Oper}{o:Oper}{a:Act}{K:Act->World->Prop}{Q:Exit->Act->World->Prop}{E:Prop}(l:Region.wanted o (yielded c a.tmps)=true)(f:Nat)(x y:Operand)(ts:Array TypeId) (j:o.op=.call { callee:=.value (.func f),args:=#[x,y],argTypes:=ts }) (b:Go.Proofs.Enters P f) (v0 d:Value) (m:a.eval x=v0) (n:a.eval y=d) (R:Ending->World->Prop) (hc:Calls P f #[v0,d] w R) (g:∀e w',R e w'->∃v,e=.returned v/\K (a.put o.dst v) w'):if Region.wanted o (yielded c a.tmps)=true then Oper.wp P o a w K Q else E:=by
 rw[ag l];unfold Go.Proofs.Enters at b;unfold Oper.wp execOp;have h:a.eval (.func f)=.func (.func f) #[] #[]:=rfl;simp[j,resolve,invoke,m,n,h,Deferred.ofValue,b,Oper.upon_enter];refine hc.mono ?_;intro e w' k;obtain⟨v,rfl,i⟩:=g e w' k;exact i
theorem Q1{w W w':World}{m base size n:Nat}{t e:TypeId}{b:Array Value}{v:Value}{us:List Value}(a:w.heap[m]?=some (.cells b t (0,0)))(h1:Below w.heap.size w W)(f:w.ownsRow base e size v n us)(hc:bj (fun k=>v.ownBlock=some k) W w')(g:t≠e):w'.heap[m]?=some (.cells b t (0,0)):=by
 rw[hc.block m (cI (an a) h1.size) (fun c=>by obtain⟨h,d⟩:=bh f m c;exact dI a d g rfl),h1.block m (an a)];exact a
theorem Ar:Go.Proofs.Enters prog 205:=enters_of func205 (by kernel_rfl) rfl
theorem CQ:Go.Proofs.Enters prog 204:=enters_of func204 (by kernel_rfl) rfl
theorem Rg(base b:Nat)(T:ai)(f E vL:Value)(s:PS)(l:List (Int×Int×Nat))(x y:Int)(k:Nat)(w:World)(Y:e4 w b T f E vL s)(b6:cc w)(h:Qm base w E l)(g3:l.length<=2000)(e8:base<=w.heap.size):Calls prog 173 #[.pointer (some ⟨b,4,none⟩),.agg #[.int .i32 x,.int .i32 y],.int .u8 k] w fun r w'=>r=.returned (.bool (!RS.dy x y (ln l))) /\∃c3,e4 w' b T f c3 vL s/\Qm base w' c3 (if RS.dy x y (ln l)=true then l else l++[(x,y,k)])/\bj (fun k=>k=b\/E.ownBlock=some k) w w':=by
 obtain⟨L,u,M,t⟩:=h;have b7:L.length<=2000:=by rw[u.length_eq];exact g3
 have b4:Hid (e4 w b T f E vL s):=Y;have b5:Hid (rR base w E L):=M;obtain⟨a,au,rfl⟩:=ak M;have e9:=Y.lt;have g9:Hid (Qm base w (.slice a L.length au) l):=⟨L,u,M,t⟩;clear M Y;obtain⟨W,C⟩:∃W,W=w.alloc (.cells #[.int .i32 x,.int .i32 y] 171):=⟨_,rfl⟩;have c7:Hid (W=w.alloc (.cells #[.int .i32 x,.int .i32 y] 171)):=C;have Q:Below w.heap.size w W:=by rw[C];exact(aB _ _).alloc (ar _) _
 have b8:W.heap[w.heap.size]?=some (.cells #[.int .i32 x,.int .i32 y] 171 (0,0)):=by rw[C];exact aw w _
 have g6:W.heap.size=w.heap.size+1:=by rw[C];simp
 have N:Hid (W.heap[w.heap.size]?=some (.cells #[.int .i32 x,.int .i32 y] 171 (0,0))):=b8;have a6:Hid (Below w.heap.size w W):=Q;have b0:Hid (cc W):=b6.below Q;clear C b8 Q b6;obtain⟨c,U⟩:∃c,c=RS.dy x y (ln l):=⟨_,rfl⟩;rw[<- U];have a8:Hid (c=RS.dy x y (ln l)):=U;clear U;go_enter func173,ntmps173
 go_upto_region 1 with fail
 go_cut [17] (fun S a4=>S=.bool (decide (y<x)||ht x y 55296 57343)/\Hid (Below W.heap.size W a4))
 case first =>
  rw[<- c7.out];have h7:=ab N.out 0 _ rfl;have h8:=ab N.out 1 _ rfl;have f0:=b0.out.2.2.1;have f1:=b0.out.2.2.2
  by_cases h1:y<x
  ·go_wp2_with fail;go_meet;exact⟨by simp[h1],aB _ _⟩
  ·have e:Hid ((decide (y<x)||ht x y 55296 57343)=ht x y 55296 57343):=by show _=_;rw[cH h1];rfl
   go_wp2_with fail;refine(ys x y 55296 57343 W).mono ?_;rintro r j ⟨rfl,b2⟩;go_wp2_with fail;go_meet;exact⟨by rw[e.out],b2⟩
 case rest =>
  obtain⟨rfl,f1⟩:=hcut;obtain⟨d,g7⟩:∃d,d=wc:=⟨wc,rfl⟩;subst g7;have B:Below w.heap.size w d:=a6.out.trans (f1.out.mono a6.out.size);have a7:Hid (Below w.heap.size w d):=B;have g4:=B.size;have O:Hid (e4 d b T f (.slice a L.length au) vL s):=b4.out.later B;have P:Hid (rR base d (.slice a L.length au) L):=al b5.out (Kp.below B);have G:Hid (d.heap[w.heap.size]?=some (.cells #[.int .i32 x,.int .i32 y] 171 (0,0))):=by
   show _=_;rw[f1.out.block _ (by rw[g6];omega)];exact N.out
  have g0:=ab G.out 0 _ rfl;have g1:=ab G.out 1 _ rfl;clear B;cases n:(decide (y<x)||ht x y 55296 57343)
  ·have A:Hid (x<=y/\c=RS.meets x y (ln L)):=by
    show _/\_;rw[Bool.or_eq_false_iff]at n;have h1:=of_decide_eq_false n.1;refine⟨by omega,?_⟩;rw[a8.out,Eh u];have c1:=n.2;unfold RS.dy;unfold ht at c1;rw[c1,cH h1];simp
   go_wp2_with fail;refine(H5 base b T f _ vL s L x d O.out P.out b7 t.ends).mono ?_;rintro r j ⟨⟨i,rfl,hi,D⟩,b2⟩;have b1:Hid (ea L x i i):=D;clear D;have a9:Hid (c=(match L[i]? with|some o=>ht o.1 o.2.1 x y|none=>false)):=by
    show _=_;rw[A.out.2];exact rA t b1.out
   have a5:Hid (Below w.heap.size w j):=a7.out.trans (b2.mono g4);have g5:=a5.out.size;have e1:Hid (e4 j b T f (.slice a L.length au) vL s):=O.out.later b2;have e2:Hid (rR base j (.slice a L.length au) L):=al P.out (Kp.below b2);have H:Hid (j.heap[w.heap.size]?=some (.cells #[.int .i32 x,.int .i32 y] 171 (0,0))):=by
    show _=_;rw[b2.block _ (an G.out)];exact G.out
   have R:=(dA e1.out.da).2.2.2.2.1;have a1:=ab H.out 0 _ rfl;have a2:=ab H.out 1 _ rfl;clear g0 g1 b2
   go_upto_region 4 with fail
   go_cut [40] (fun S a4=>S=.bool c/\Hid (Below j.heap.size j a4))
   case first =>
    by_cases X:i<L.length
    ·obtain⟨h0,h4,e,b9⟩:=iN e2.out;obtain⟨g,e7,i0,d0,d1,d2⟩:=b9 i X;simp at e;obtain⟨rfl,rfl⟩:=e;subst e7;have c5:Hid (ht L[i].1 L[i].2.1 x y=c):=by
      show _=_;rw[a9.out,ax X]
     have hd:decide ((i:Int)<(L.length:Int))=true:=by simpa using X
     have h9:(i:Int)<(L.length:Int):=by omega
     clear b9 d2
     go_region_law
      (refine G0 ?_ 204 (.tmp 37) (.tmp 38) _ rfl CQ (.agg #[.int .i32 L[i].1,.int .i32 L[i].2.1]) (.agg #[.int .i32 x,.int .i32 y]) ?_ ?_ _ (ys L[i].1 L[i].2.1 x y _) ?_
       ·simp[Region.wanted,yielded]
       ·simp[Act.eval]
       ·simp[Act.eval]
       rintro _ w3 ⟨rfl,b3⟩;refine⟨_,rfl,?_⟩;rw[c5.out])
     all_goals go_wp2_with fail
     all_goals go_meet
     all_goals exact⟨rfl,⟨b3.os,b3.tape,b3.output,b3.size,b3.block⟩⟩
    ·have c4:Hid (c=false):=by
      show _=_;rw[a9.out,gB (by omega)]
     have hd:decide ((i:Int)<(L.length:Int))=false:=by simp;omega
     go_quiet (fail);go_wp2_with fail;go_meet;exact⟨by rw[c4.out],hy (aB _ _) _⟩
   case rest =>
    obtain⟨rfl,f3⟩:=hcut;obtain⟨w3,g8⟩:∃w3,w3=wc:=⟨wc,rfl⟩;subst g8;have v:Hid (Below w.heap.size w w3):=a5.out.trans (f3.out.mono g5);have Z:=v.out.size;have m:Hid (e4 w3 b T f (.slice a L.length au) vL s):=b4.out.later v.out;have J:Hid (rR base w3 (.slice a L.length au) L):=al b5.out (Kp.below v.out);clear R a1 a2;cases hb:c
    ·have I:Hid (w3.heap[w.heap.size]?=some (.cells #[.int .i32 x,.int .i32 y] 171 (0,0))):=by
      show _=_;rw[f3.out.block _ (an H.out)];exact H.out
     have R:=(dA m.out.da).2.2.2.2.1;have cf:=aq m.out.da;have a1:=ab I.out 0 _ rfl;have a2:=ab I.out 1 _ rfl;have h3:=fun o=>((af w3 o).cell (p:=⟨b,4,none⟩) (cI e9 Z)).trans R
     have i3:=fun o=>((af w3 o).cell (p:=⟨w.heap.size,0,none⟩) (an I.out)).trans a1
     have i5:=fun o=>((af w3 o).cell (p:=⟨w.heap.size,1,none⟩) (an I.out)).trans a2
     have F:Hid (Below w3.heap.size w3 (w3.alloc (.cells #[.int .i32 x,.int .i32 y,.int .u8 k] 173)).drew):=(af w3 _).drew;have e5:Hid (rR base (w3.alloc (.cells #[.int .i32 x,.int .i32 y,.int .u8 k] 173)).drew (.slice a L.length au) L):=al J.out (Kp.below F.out);have c8:Hid (base<=(w3.alloc (.cells #[.int .i32 x,.int .i32 y,.int .u8 k] 173)).drew.heap.size):=aE e8 (aE Z F.out.size);have e0:Hid ((w3.alloc (.cells #[.int .i32 x,.int .i32 y,.int .u8 k] 173)).drew.heap[w3.heap.size]?=some (.cells #[.int .i32 x,.int .i32 y,.int .u8 k] 173 (0,0))):=aw w3 _;have c9:Hid ((Value.slice a L.length au).ownBlock≠some w3.heap.size):=fun e=>by
      obtain⟨h6,g2⟩:=bh J.out _ e;have:=an g2;omega
     have i1:((i:Int):Int)=(i:Int):=rfl;go_wp2_with fail
     go_region_law
      (refine Js rfl 205 (.tmp 45) (.tmp 46) (.tmp 50) _ rfl Ar (.slice a L.length au) (.int .i64 i) (.slice (some ⟨w3.heap.size,0,none⟩) 1 1) ?_ ?_ ?_ _ (NK base i _ L x y k w3.heap.size _ e5.out b7 c8.out hi c9.out e0.out) ?_
       ·simp[Act.eval]
       ·simp[Act.eval]
       ·simp[Act.eval]
       rintro _ a3 ⟨c2,rfl,a0,V⟩;refine⟨c2,rfl,?_⟩;have e3:Hid (rR base a3 c2 (kg L i (x,y,k))):=a0;have z:Hid (bj (fun k=>(Value.slice a L.length au).ownBlock=some k) (w3.alloc (.cells #[.int .i32 x,.int .i32 y,.int .u8 k] 173)).drew a3):=V;obtain⟨h2,h5,rfl⟩:=ak a0;have K:=Q1 m.out.da F.out J.out V (by decide);have i4:=(dA K).2.2.2.2.1;have i2:=aq K;clear a0 V)
     all_goals go_wp2_with fail
     all_goals go_ret
     all_goals
      refine⟨rfl,_,⟨Kb K _,m.out.le,m.out.short⟩,⟨kg L i (x,y,k),(yF L i _).trans (u.append_right _),al e3.out ((Kp.refl _ _).setCell K (by decide) _),t.ins hi b1.out A.out.1 (A.out.2.symm.trans hb)⟩,?_⟩;have h1:bj (fun k=>k=b\/(Value.slice a L.length au).ownBlock=some k) w _:=bj.aL (v.out.trans (F.out.mono Z));have e6:bj (fun k=>k=b\/(Value.slice a L.length au).ownBlock=some k) w a3:=⟨z.out.os.trans h1.os,z.out.tape.trans h1.tape,z.out.output.trans h1.output,aE h1.size z.out.size,fun k c0 D=>by
       rw[z.out.block k (cI c0 h1.size) (fun e=>D (ac e))];exact h1.block k c0 D⟩
      exact e6.setCell (q:=⟨b,4,none⟩) (ac (ah rfl)) _
    ·obtain rfl:c=true:=hb;go_wp2_with fail;go_ret;exact⟨rfl,_,m.out,⟨L,u,J.out,t⟩,bj.aL v.out⟩
  ·have A:Hid (c=true):=by
    show _=_;rw[a8.out];unfold RS.dy;unfold ht at n;rw[Bool.or_eq_true]at n;rcases n with h1|h1
    ·rw[h1];simp
    ·rw[h1];simp
   obtain rfl:c=true:=A.out;go_wp2_with fail;go_ret;exact⟨rfl,_,O.out,⟨L,u,P.out,t⟩,bj.aL a7.out⟩
theorem Oi(base:Nat):oq base (Qm base) :=
 ⟨fun w=>⟨[],List.Perm.refl _,(by show World.ownsRow _ _ _ _ _ _ _;exact cq _ _ _ _),(fun o q=>by simp at q),fun i j a b _ n=>by simp at n⟩,
  fun w v l h=>(by obtain⟨L,_,h,_⟩:=h;obtain⟨d,au,e⟩:=ak h;exact⟨d,_,au,e⟩),
  fun w w' v l h c=>(by obtain⟨L,h1,f,g⟩:=h;exact⟨L,h1,al f c,g⟩),
  fun w v l k h c=>(by obtain⟨L,_,h,_⟩:=h;exact bh h k c),
  fun w v l k h c=>(by obtain⟨L,_,h,_⟩:=h;exact(h.lt k c).1),
  fun b T u t vL s l x y k w r m h p _ hb=>Rg base b T u t vL s l x y k w r m h p hb⟩
def PS.aM(T:ai)(k:Nat):Nat->PS->List (Int×Int×Nat)->PS×List (Int×Int×Nat)
 | 0,s,l=>(s,l)
 | g+1,s,l=>if s.tk T=[44]then PS.aM T k g ((s.step T).span T l) (l++[((s.step T).fo T,(s.step T).dU T,k)])else (s,l)
def PS.eE(T:ai)(n:Nat)(s:PS):PS:=if n=6 then s.fail T 6 else s
def PS.c5(T:ai)(aa:List ai)(s:PS):PS:=(((s.eE T aa.length).aK T [ct]).newName T aa).aK T [aX 61]
def PS.fD(T:ai)(aa:List ai)(l:List (Int×Int×Nat))(s:PS):PS×List (Int×Int×Nat) :=
 PS.aM T aa.length (T.size+1) ((s.c5 T aa).span T l) (l++[((s.c5 T aa).fo T,(s.c5 T aa).dU T,aa.length)])
def PS.dG(T:ai)(aa:List ai)(l:List (Int×Int×Nat))(s:PS):PS:=(s.fD T aa l).1.aK T [aX 59]
def eM(T:ai)(aa:List ai)(s:PS):ai:=bF T ((s.eE T aa.length).aK T [ct]).p
theorem Fz.aK{T:ai}{s:PS}(h:Fz T s)(d:s.p<=T.size)(L:List ai):Fz T (s.aK T L):=by
 unfold PS.aK;split
 ·exact h.step d
 ·exact Fz.fail s _ _
theorem Fz.bv{T:ai}{s:PS}(h:Fz T s)(d:s.p<=T.size):Fz T (s.bv T):=by
 have g:=h.hex d;unfold PS.bv;split
 ·exact(g.step (wH d).2.1).hex (cx T _ (wH d).2.1).1
 ·exact g
theorem Fz.span{T:ai}{s:PS}(h:Fz T s)(d:s.p<=T.size)(l:List (Int×Int×Nat)):Fz T (s.span T l):=by
 unfold PS.span;split
 ·exact h.bv d
 ·split
  ·exact Fz.fail _ _ _
  ·exact h.bv d
theorem JC{T:ai}{s:PS}(c:s.p<=T.size):s.p<=(s.bv T).p/\(s.bv T).p<=T.size/\(s.p<T.size->s.p<(s.bv T).p):=by
 have h1:=wH c;unfold PS.bv;split
 ·have a:=cx T (s.hex T).p h1.2.1;have e:((s.hex T).step T).p=hq T (s.hex T).p:=rfl;have b:=wH (s:=(s.hex T).step T) a.1;exact⟨by omega,b.2.1,fun h=>by have:=h1.2.2 h;omega⟩
 ·exact h1
theorem lL{T:ai}{s:PS}(a:s.p<=T.size)(l:List (Int×Int×Nat)):s.p<=(s.span T l).p/\(s.span T l).p<=T.size/\(s.p<T.size->s.p<(s.span T l).p):=by
 have h1:=JC a;unfold PS.span;split
 ·exact h1
 ·split
  ·exact⟨a,ar _,fun h=>h⟩
  ·exact h1
theorem Fz.CN{T:ai}(s:PS)(no:Int):Fz T (s.fail T no):=fun _=>rfl
theorem Fz.MI{T:ai}{s:PS}(h:Fz T s){c:Prop}[Decidable c](no:Int):Fz T (if c then s.fail T no else s):=by
 split
 ·exact Fz.CN s no
 ·exact h
theorem Fz.Q5{T:ai}{s:PS}(h:Fz T s){c:Prop}[Decidable c](no:Int):Fz T (if c then s else s.fail T no):=by
 split
 ·exact h
 ·exact Fz.CN s no
theorem D8{T:ai}{s:PS}(h:s.p<=T.size){c:Prop}[Decidable c](no:Int):(if c then s.fail T no else s).p<=T.size/\s.p<=(if c then s.fail T no else s).p:=by
 split
 ·exact⟨ar _,h⟩
 ·exact⟨h,ar _⟩
theorem Ki{T:ai}{s:PS}(h:s.p<=T.size){c:Prop}[Decidable c](no:Int):(if c then s else s.fail T no).p<=T.size/\s.p<=(if c then s else s.fail T no).p:=by
 split
 ·exact⟨h,ar _⟩
 ·exact⟨ar _,h⟩
theorem kd{T:ai}{s:PS}(h:s.p<=T.size)(L:List ai):(s.aK T L).p<=T.size/\s.p<=(s.aK T L).p/\(s.p<T.size->s.p<(s.aK T L).p):=by
 have:=cx T s.p h;unfold PS.aK;split
 ·exact⟨this.1,this.2.1,this.2.2⟩
 ·exact⟨ar _,h,fun h=>h⟩
theorem Hx{T:ai}{s:PS}(h:s.p<=T.size)(aa:List ai):(s.newName T aa).p<=T.size/\s.p<=(s.newName T aa).p:=by
 have h1:(s.dO T).p<=T.size/\s.p<=(s.dO T).p:=Ki h 2;have a:((s.dO T).ke T aa (s.tk T)).p<=T.size/\(s.dO T).p<=((s.dO T).ke T aa (s.tk T)).p:=D8 h1.1 4;have b:=cx T ((s.dO T).ke T aa (s.tk T)).p a.1;have e:(s.newName T aa).p=hq T ((s.dO T).ke T aa (s.tk T)).p:=rfl;omega
theorem Fz.newName{T:ai}{s:PS}(h:Fz T s)(i:s.p<=T.size)(aa:List ai):Fz T (s.newName T aa):=by
 have h1:Fz T (s.dO T):=h.Q5 2;have d:Fz T ((s.dO T).ke T aa (s.tk T)):=h1.MI 4;have g:((s.dO T).ke T aa (s.tk T)).p<=T.size:=(D8 (Ki i 2).1 4).1;exact d.step g
theorem n1{T:ai}{s:PS}(h:Fz T s)(d:s.p<=T.size)(aa:List ai):Fz T (s.c5 T aa)/\(s.c5 T aa).p<=T.size/\s.p<=(s.c5 T aa).p/\(s.p<T.size->s.p<(s.c5 T aa).p):=by
 have b:Fz T (s.eE T aa.length):=h.MI 6;have a2:(s.eE T aa.length).p<=T.size/\s.p<=(s.eE T aa.length).p:=D8 d 6;have b1:=b.aK a2.1 [ct];have b2:=kd a2.1 [ct];have c:=b1.newName b2.1 aa;have a:=Hx b2.1 aa;have d1:=c.aK a.1 [aX 61];have d2:=kd a.1 [aX 61];have e:(s.c5 T aa).p=((((s.eE T aa.length).aK T [ct]).newName T aa).aK T [aX 61]).p:=rfl;refine⟨d1,d2.1,by omega,fun h=>?_⟩;rcases cF (s.eE T aa.length).p T.size with h1|h1
 ·have:=b2.2.2 h1;omega
 ·omega
def Fr(base:Nat)(w w':World):Prop:=Below base w w'/\∀t,t≠141->t≠9->t≠173->Kp t w w'
theorem Fr.trans{base:Nat}{a b c:World}(h:Fr base a b)(k:Fr base b c):Fr base a c:=⟨h.1.trans k.1,fun t h1 d g=>(h.2 t h1 d g).trans (k.2 t h1 d g)⟩
theorem Fr.zN{base:Nat}{p:Nat->Prop}{w w':World}(h:bj p w w')(hb:base<=w.heap.size)(o:∀k,p k->base<=k/\∃n t m,w.heap[k]?=some (.cells n t m)/\(t=141\/t=9\/t=173)):Fr base w w':=by
 refine⟨h.below hb fun k x j=>by have:=(o k j).1;omega,fun t h1 q u k n m i=>?_⟩;rw[h.block k (an i) (fun j=>?_)]
 ·exact i
 ·obtain⟨_,v,A,y,g,d⟩:=o k j;rw[i]at g;simp at g;rcases d with d|d|d
  ·exact h1 (g.2.1.trans d)
  ·exact q (g.2.1.trans d)
  ·exact u (g.2.1.trans d)
theorem Fr.one{base b:Nat}{T:ai}{i g vL:Value}{s:PS}{w w':World}(h:e4 w b T i g vL s)(hc:bj (fun k=>k=b) w w')(hb:base<=w.heap.size)(d:base<=b):Fr base w w' :=
 Fr.zN hc hb fun k e=>by subst e;exact⟨d,_,_,_,h.da,ah rfl⟩
theorem Fr.oF{base:Nat}{w w':World}(h:Fr base w w')(d:cc w)(hg:6<base/\7<base):cc w' :=
 d.on fun b o v g i=>(h.1.cell (p:=⟨b,o,none⟩) (by simp only;rcases g with rfl|rfl|rfl<;>omega)).trans i
structure qU (TR:World->Value->List (Int×Int×Nat)->Prop) (base b:Nat) (T:ai) (aa:List ai) (vN vE vL:Value) (s:PS) (l:List (Int×Int×Nat)) (w:World):Prop where
 rd:e4 w b T vN vE vL s
 row:w.ownsRow base 9 1 vN aa.length (aa.map .string)
 tr:TR w vE l
 oF:cc w
 fz:Fz T s
 hb:base<=b
 hg:6<base/\7<base
theorem qU.sz{d:World->Value->List (Int×Int×Nat)->Prop}{base b:Nat}{T:ai}{aa:List ai}{i g vL:Value}{s:PS}{l:List (Int×Int×Nat)}{w:World}(h:qU d base b T aa i g vL s l w):base<=w.heap.size:=by
 have:=h.rd.lt;have:=h.hb;omega
theorem qU.on{d:World->Value->List (Int×Int×Nat)->Prop}{base b:Nat}{T:ai}{aa:List ai}{j i vL:Value}{s g:PS}{l:List (Int×Int×Nat)}{w w':World}(o:oq base d)(h:qU d base b T aa j i vL s l w)(q:e4 w' b T j i vL g)(hc:bj (fun k=>k=b) w w')(t:Fz T g):qU d base b T aa j i vL g l w'/\Fr base w w':=by
 have n:=Fr.one h.rd hc h.sz h.hb;exact⟨⟨q,al h.row (Kp.n8 h.rd.da hc (by decide)),o.aY _ _ _ _ h.tr (Kp.n8 h.rd.da hc (by decide)),n.oF h.oF h.hg,t,h.hb,h.hg⟩,n⟩
theorem Eb{a:World->Value->List (Int×Int×Nat)->Prop}{base:Nat}(g:oq base a)(b:Nat)(T:ai)(aa:List ai)(d c vL:Value)(s:PS)(l:List (Int×Int×Nat))(L:List ai)(w:World)(h:qU a base b T aa d c vL s l w)(f:L.length<=100)(h1:1<=L.length)(i:∀x∈L,x.toList≠[]):Calls prog 128 #[.pointer (some ⟨b,0,none⟩),.slice (some ⟨w.heap.size,0,none⟩) L.length L.length] (w.alloc (.cells (L.map .string).toArray 9)) fun r w'=>(∃x,r=.returned (.string x))/\qU a base b T aa d c vL (s.aK T L) l w'/\Fr base w w':=by
 refine(mR b T d c vL s L w h.rd f h1 i).mono ?_;rintro r w' ⟨rfl,h1,e⟩;exact⟨⟨_,rfl⟩,h.on g h1 e (h.fz.aK h.rd.le L)⟩
theorem Pm{c:World->Value->List (Int×Int×Nat)->Prop}{base:Nat}(t:oq base c)(b:Nat)(T:ai)(aa:List ai)(n f vL:Value)(s:PS)(l:List (Int×Int×Nat))(w:World)(h:qU c base b T aa n f vL s l w)(u:aa.length<=100):Calls prog 129 #[.pointer (some ⟨b,0,none⟩)] w fun r w'=>r=.returned (.int .u8 aa.length)/\∃g,qU c base b T (aa++[bF T s.p]) g f vL (s.newName T aa) l w'/\Fr base w w':=by
 refine(B5 base b T aa n f vL s w h.rd h.row u h.sz).mono ?_;rintro r w' ⟨rfl,g,h1,q,i⟩;have j:Fr base w w':=Fr.zN i h.sz fun k e=>by
  rcases e with rfl|e
  ·exact⟨h.hb,_,_,_,h.rd.da,ah rfl⟩
  ·obtain⟨o,d⟩:=bh h.row k e;exact⟨(h.row.lt k e).1,_,_,_,d,ac (ah rfl)⟩
 refine⟨rfl,g,⟨h1,by rw[aF];exact q,t.aY _ _ _ _ h.tr ?_,j.oF h.oF h.hg,h.fz.newName h.rd.le aa,h.hb,h.hg⟩,j⟩;intro k o m a;rw[i.block k (an a) (fun e=>?_)]
 ·exact a
 ·rcases e with rfl|e
  ·exact dI a h.rd.da (by decide) rfl
  ·obtain⟨v,d⟩:=bh h.row k e;exact dI a d (by decide) rfl
theorem Jz{a:World->Value->List (Int×Int×Nat)->Prop}{base:Nat}(c:oq base a)(b:Nat)(T:ai)(aa:List ai)(j p vL:Value)(s:PS)(l:List (Int×Int×Nat))(k:Nat)(w:World)(h:qU a base b T aa j p vL s l w)(z:l.length<=2000)(y:k<256):Calls prog 130 #[.pointer (some ⟨b,0,none⟩),.int .u8 k] w fun r w'=>r=.returned (.tuple #[])/\∃i l',qU a base b T aa j i vL (s.span T l) l' w'/\l'.length<=l.length+1/\((s.span T l).f=0->l'=l++[(s.fo T,s.dU T,k)])/\Fr base w w':=by
 have x:6<b/\7<b:=by have:=h.hg;have:=h.hb;omega
 refine(JA a base c b T j p vL s l k w h.rd h.oF x h.tr z y h.fz h.sz).mono ?_;rintro r w' ⟨rfl,i,l',h1,t,u,v,n⟩;have o:Fr base w w':=Fr.zN n h.sz fun k e=>by
  rcases e with rfl|e
  ·exact⟨h.hb,_,_,_,h.rd.da,ah rfl⟩
  ·obtain⟨q,g⟩:=c.type _ _ _ k h.tr e;exact⟨c.low _ _ _ k h.tr e,_,_,_,g,ac (ac rfl)⟩
 refine⟨rfl,i,l',⟨h1,al h.row ?_,t,o.oF h.oF h.hg,h.fz.span h.rd.le l,h.hb,h.hg⟩,u,v,o⟩;intro k q m d;rw[n.block k (an d) (fun e=>?_)]
 ·exact d
 ·rcases e with rfl|e
  ·exact dI d h.rd.da (by decide) rfl
  ·obtain⟨A,g⟩:=c.type _ _ _ k h.tr e;exact dI d g (by decide) rfl
theorem AC:∀x∈[ct],x.toList≠[]:=by
 intro x a;simp at a;subst a;unfold ct;rw[bM];simp
theorem D6{v:World->Value->List (Int×Int×Nat)->Prop}{base:Nat}(d:oq base v)(b:Nat)(T:ai)(aa:List ai)(e0 o vL:Value)(s:PS)(l:List (Int×Int×Nat))(w:World)(h:qU v base b T aa e0 o vL s l w)(b8:aa.length<=100)(e8:l.length<=s.p)(b9:s.p<T.size):Calls prog 77 #[.pointer (some ⟨b,0,none⟩)] w fun r w'=>r=.returned (.tuple #[])/\∃e1 k l',qU v base b T (aa++[eM T aa s]) e1 k vL (s.dG T aa l) l' w'/\l'.length<=(s.dG T aa l).p/\((s.dG T aa l).f=0->l'=(s.fD T aa l).2)/\Fr base w w':=by
 have M:=az h;have e6:=h.rd.short;have b6:=h.rd.le;have a6:=n1 h.fz b6 aa;obtain⟨C,au,rfl⟩:=ak h.row;have c3:=(dA h.rd.da).2.2.2.1;clear h;go_enter func77,ntmps77
 go_upto_if 8 with fail
 go_cut [] (fun B=>Hid (qU v base b T aa (.slice C aa.length au) o vL (s.eE T aa.length) l B)/\Hid (Fr base w B))
 case first =>
  by_cases F:aa.length=6
  ·have c2:((aa.length:Int)==6)=true:=by rw[bL];omega
   have e:Hid (s.eE T aa.length=s.fail T 6):=by show _=_;unfold PS.eE;rw[ag F]
   clear F;go_wp2_with fail;refine(kP b T (.slice C aa.length au) o vL s 6 w M.out.rd).mono ?_;rintro r H ⟨rfl,h1,b4⟩;have V:=M.out.on d h1 b4 (Fz.CN s 6);have W:=az V;clear h1 V;go_wp2_with fail;go_meet;exact⟨by rw[e.out];exact W.out.1,W.out.2⟩
  ·have c2:((aa.length:Int)==6)=false:=by rw[aO];omega
   have e:Hid (s.eE T aa.length=s):=by show _=_;unfold PS.eE;rw[ae F]
   clear F;go_wp2_with fail;go_meet;exact⟨by rw[e.out];exact M,⟨aB _ _,fun t _ _ _=>Kp.refl _ _⟩⟩
 case rest =>
  obtain⟨h1,f1⟩:=hcut;obtain⟨H,c0⟩:∃H,H=wc:=⟨wc,rfl⟩;subst c0;clear c3;go_wp2_with fail;refine(Eb d b T aa (.slice C aa.length au) o vL _ l [ct] H h1.out (by decide) (by decide) AC).mono ?_;rintro r e2 ⟨⟨x,rfl⟩,a2,f2⟩;have X:=az a2;have Q:=az (f1.out.trans f2);clear a2 f2 h1 f1;go_wp2_with fail;refine(Pm d b T aa (.slice C aa.length au) o vL _ l e2 X.out b8).mono ?_;rintro r w3 ⟨rfl,q,a3,f3⟩;have Y:=az a3;have R:=az (Q.out.trans f3);clear a3 f3 X Q;go_wp2_with fail;refine(Eb d b T _ q o vL _ l [aX 61] w3 Y.out (by decide) (by decide) (qf _)).mono ?_;rintro r e3 ⟨⟨x,rfl⟩,a4,f4⟩;have Z:=az a4;have S:=az (R.out.trans f4);clear a4 f4 Y R;go_wp2_with fail;refine(Jz d b T _ q o vL (s.c5 T aa) l aa.length e3 Z.out (by omega) (by omega)).mono ?_;rintro r g7 ⟨rfl,c8,c4,a5,g5,a9,f5⟩;have a0:=az a5;have U:=az (S.out.trans f5);have a1:=az a9;have g1:=lL a6.2.1 l;have e5:=a6.2.2.2 b9;clear a5 f5 a9 Z S;go_wp2_with fail
  go_loopg [] (T.size+1) (fun g B=>∃(a:PS) (l' i:List (Int×Int×Nat)) (k:Value),Hid (qU v base b T (aa++[eM T aa s]) q k vL a i B)/\Hid (Fr base w B)/\Hid (a.f=0->i=l')/\Hid (PS.aM T aa.length g a l'=s.fD T aa l)/\T.size<a.p+g/\i.length<=a.p)
  case atStart=>exact⟨_,_,c4,c8,a0,U,a1,rfl,by omega,by omega⟩
  case round =>
   obtain⟨a,l',i,k,c,hF,O,hS,hg,e9⟩:=hrel;obtain⟨P,c1⟩:∃P,P=wr:=⟨wr,rfl⟩;subst c1;have G:=c.out.rd.le;obtain⟨E,b5⟩:∃E,gk=E+1:=⟨gk-1,by omega⟩;subst b5;clear a0 U a1;go_wp2_with fail;refine(vC b T q k vL a [aX 44] P c.out.rd (by decide) (by decide)).mono ?_;rintro r b1 ⟨rfl,u,D⟩
   by_cases j:a.tk T=[44]
   ·have n:bH [aX 44] (a.tk T)=true:=by rw[bk];simp[j]
    have y:ce T [aX 44] a.p=bF T a.p:=by unfold ce;rw[show bH _ (bF T a.p).toList=true from n];rfl
    have z:a.take T [aX 44]=a.step T:=by unfold PS.take;rw[n];rfl
    rw[z]at u;rw[y];have b7:=o0 G j;have a8:=cx T a.p G;have h0:a.f=0:=by
     rcases Classical.em (a.f=0)with h|h
     ·exact h
     ·have:=c.out.fz h;omega
    have a7:=O.out h0;have m:=c.out.on d u D (c.out.fz.step G);have I:=az m.1;have J:=az (hF.out.trans m.2);have e:Hid (PS.aM T aa.length E ((a.step T).span T l') (l'++[((a.step T).fo T,(a.step T).dU T,aa.length)])=s.fD T aa l):=by show _=_;rw[<- hS.out,PS.aM,ag j]
    have b2:=az a7;have g4:(bF T a.p).toList.isEmpty=false:=by rw[show (bF T a.p).toList=[44] from j];rfl
    have g2:=lL (s:=a.step T) a8.1 i;have g3:(a.step T).p=hq T a.p:=rfl;have e7:=a8.2.2 b7;clear j n y z u m h0 a7 c hF O hS D;go_wp2_with fail;refine(Jz d b T _ q k vL (a.step T) i aa.length b1 I.out (by omega) (by omega)).mono ?_;rintro r e4 ⟨rfl,c9,c7,A,g6,b0,f8⟩;have L:=az A;have K:=az (J.out.trans f8);have b3:=az b0;clear A f8 b0;go_wp2_with fail;go_roundg E
    case measure=>omega
    case rel =>
     refine⟨_,i++[((a.step T).fo T,(a.step T).dU T,aa.length)],c7,c9,L,K,b3,?_,by omega,by omega⟩;rw[b2.out];exact e
   ·have n:bH [aX 44] (a.tk T)=false:=by rw[bk];simp[j]
    have y:ce T [aX 44] a.p=⟨#[]⟩:=by unfold ce;rw[show bH _ (bF T a.p).toList=false from n];rfl
    have z:a.take T [aX 44]=a:=by unfold PS.take;rw[n];rfl
    rw[z]at u;rw[y];have m:=c.out.on d u D c.out.fz;have I:=az m.1;have J:=az (hF.out.trans m.2);have e:Hid (s.fD T aa l=(a,l')):=by show _=_;rw[<- hS.out,PS.aM,ae j]
    clear j n y z u m c hF hS D;go_wp2_with fail;refine(Eb d b T _ q k vL a i [aX 59] b1 I.out (by decide) (by decide) (qf _)).mono ?_;rintro r e4 ⟨⟨x,rfl⟩,A,f8⟩;have L:=az A;have K:=az (J.out.trans f8);clear A f8;go_wp2_with fail
    go_end0
    have g0:=kd G [aX 59];have N:s.dG T aa l=a.aK T [aX 59]:=by unfold PS.dG;rw[e.out]
    refine⟨rfl,q,k,i,by rw[N];exact L.out,by rw[N];omega,fun h0=>?_,K.out⟩;rw[e.out];refine O.out ?_;rw[N]at h0;unfold PS.aK at h0;split at h0
    ·exact h0
    ·unfold PS.fail PS.eD pf at h0;simp only at h0;split at h0
     ·omega
     ·exact h0
def eV(s a:PS):Prop:=s.f≠0->a.f=s.f/\a.pl=s.pl
theorem eV.refl(s:PS):eV s s:=fun _=>⟨rfl,rfl⟩
theorem eV.trans{a b c:PS}(h:eV a b)(k:eV b c):eV a c:=fun e=>by
 have h1:=h e;have d:=k (by rw[h1.1];exact e);exact⟨d.1.trans h1.1,d.2.trans h1.2⟩
theorem vG(T:ai)(s:PS)(no at_:Int):eV s (s.eD T no at_):=fun e=>by
 unfold PS.eD pf pp;simp[e]
theorem o2(T:ai)(s:PS)(no:Int):eV s (s.fail T no):=vG T s no _
theorem eo(T:ai)(s:PS):eV s (s.step T):=fun _=>⟨rfl,rfl⟩
theorem mG(T:ai)(s:PS){c:Prop}[Decidable c](no:Int):eV s (if c then s.fail T no else s):=by
 split
 ·exact o2 T s no
 ·exact eV.refl s
theorem tn(T:ai)(s:PS){c:Prop}[Decidable c](no:Int):eV s (if c then s else s.fail T no):=by
 split
 ·exact eV.refl s
 ·exact o2 T s no
theorem bm(T:ai)(L:List ai)(s:PS):eV s (s.aK T L):=by
 unfold PS.aK;split
 ·exact eo T s
 ·exact o2 T s 2
theorem mF(T:ai)(aa:List ai)(s:PS):eV s (s.newName T aa):=by
 have h1:eV s (s.dO T):=tn T s 2;have a:eV (s.dO T) ((s.dO T).ke T aa (s.tk T)):=mG T _ 4;exact(h1.trans a).trans (eo T _)
theorem zh(T:ai)(s:PS):eV s (s.hex T):=by
 unfold PS.hex;split
 ·exact eo T s
 ·exact o2 T s _
theorem ow(T:ai)(s:PS):eV s (s.bv T):=by
 unfold PS.bv;split
 ·exact((zh T s).trans (eo T _)).trans (zh T _)
 ·exact zh T s
theorem ll(T:ai)(l:List (Int×Int×Nat))(s:PS):eV s (s.span T l):=by
 unfold PS.span;split
 ·exact ow T s
 ·split
  ·exact(ow T s).trans (vG T _ _ _)
  ·exact ow T s
theorem j4(T:ai)(k:Nat):∀(g:Nat) (s:PS) (l:List (Int×Int×Nat)),eV s (PS.aM T k g s l).1:=by
 intro g
 induction g with
 | zero=>intro s l;exact eV.refl s
 | succ g a =>
  intro s l;rw[PS.aM];split
  ·exact((eo T s).trans (ll T l _)).trans (a _ _)
  ·exact eV.refl s
theorem DH(T:ai)(aa:List ai)(s:PS):eV s (s.c5 T aa) :=
 (((show eV s (s.eE T aa.length) from mG T s 6).trans (bm T _ _)).trans (mF T aa _)).trans (bm T _ _)
theorem GZ(T:ai)(aa:List ai)(l:List (Int×Int×Nat))(s:PS):eV s (s.dG T aa l) :=
 (((DH T aa s).trans (ll T l _)).trans (j4 T aa.length (T.size+1) _ _)).trans (bm T _ _)
theorem qK(T:ai)(aa:List ai)(l:List (Int×Int×Nat))(s:PS)(h:(s.dG T aa l).f=0):aa.length≠6:=by
 intro e;have h1:(s.eE T aa.length).f≠0:=by
  unfold PS.eE;rw[ag e];unfold PS.fail PS.eD pf;simp only;split
  ·decide
  ·assumption
 have a:eV (s.eE T aa.length) (s.dG T aa l) :=
  ((((bm T _ _).trans (mF T aa _)).trans (bm T _ _)).trans (ll T l _)).trans ((j4 T aa.length (T.size+1) _ _).trans (bm T _ _))
 have:=(a h1).1;rw[h]at this;exact h1 this.symm
theorem pJ(T:ai)(aa:List ai)(l:List (Int×Int×Nat))(s:PS)(h:Fz T s)(f:s.p<=T.size):(s.dG T aa l).p<=T.size/\s.p<=(s.dG T aa l).p/\(s.p<T.size->s.p<(s.dG T aa l).p):=by
 have c:=n1 h f aa;have h1:=lL c.2.1 l;have key:∀(g:Nat) (s:PS) (l:List (Int×Int×Nat)),s.p<=T.size->s.p<=(PS.aM T aa.length g s l).1.p/\(PS.aM T aa.length g s l).1.p<=T.size:=by
  intro g
  induction g with
  | zero=>intro s l h;exact⟨ar _,h⟩
  | succ g i =>
   intro s l h;rw[PS.aM];split
   ·have a:=cx T s.p h;have b:=lL (s:=s.step T) a.1 l;have e:(s.step T).p=hq T s.p:=rfl;have d:=i ((s.step T).span T l) (l++[((s.step T).fo T,(s.step T).dU T,aa.length)]) b.2.1;exact⟨by omega,d.2⟩
   ·exact⟨ar _,h⟩
 have a:=key (T.size+1) ((s.c5 T aa).span T l) (l++[((s.c5 T aa).fo T,(s.c5 T aa).dU T,aa.length)]) h1.2.1;have b:=kd a.2 [aX 59];have e:s.dG T aa l=(PS.aM T aa.length (T.size+1) ((s.c5 T aa).span T l) (l++[((s.c5 T aa).fo T,(s.c5 T aa).dU T,aa.length)])).1.aK T [aX 59]:=rfl;rw[e];exact⟨b.1,by omega,fun h=>by have:=c.2.2.2 h;omega⟩
theorem Fz.one{T:ai}{aa:List ai}{s:PS}(h:Fz T s)(i:s.p<=T.size):Fz T (s.one T aa).1:=by
 have h1:Fz T (s.known T aa):=h.Q5 3;have j:(s.known T aa).p<=T.size:=(Ki i 3).1;have d:Fz T ((s.known T aa).many T):=h1.MI 6;have n:((s.known T aa).many T).p<=T.size:=(D8 j 6).1;have g:Fz T ((s.known T aa).many T).more:=d;exact g.step n
def dQ(T:ai)(P:PS->PS×Px):Prop:=∀s:PS,s.p<=T.size->Fz T s->Fz T (P s).1/\eV s (P s).1
theorem tm(T:ai)(aa:List ai)(s:PS):eV s (s.one T aa).1:=by
 have h1:eV s (s.known T aa):=tn T s 3;have a:eV (s.known T aa) ((s.known T aa).many T):=mG T _ 6;have b:eV ((s.known T aa).many T) ((s.known T aa).many T).more:=fun _=>⟨rfl,rfl⟩
 exact((h1.trans a).trans b).trans (eo T _)
theorem wW(T:ai)(sub:PS->PS×Px)(e:bN T sub)(d:dQ T sub)(s:PS)(h:s.p<=T.size)(f:Fz T s):Fz T (s.bracket T sub).1/\eV s (s.bracket T sub).1:=by
 have h1:Goes T s (s.nest T):=jr 6 h;have k:Fz T (s.nest T):=f.MI 6;have g:eV s (s.nest T):=mG T s 6;have a:=gb T [aX 40] (s.nest T) h1.2.2;have z2:Fz T (((s.nest T).aK T [aX 40]).hE):=k.aK h1.2.2 _;have i:eV (s.nest T) (((s.nest T).aK T [aX 40]).hE):=bm T _ _;have c:=e (((s.nest T).aK T [aX 40]).hE) a.1.2.2;have b:=d (((s.nest T).aK T [aX 40]).hE) a.1.2.2 z2;have z5:Fz T ((sub (((s.nest T).aK T [aX 40]).hE)).1.gC):=b.1;have j:eV (((s.nest T).aK T [aX 40]).hE) ((sub (((s.nest T).aK T [aX 40]).hE)).1.gC):=b.2;exact⟨z5.aK c.2.2.1 _,((g.trans i).trans j).trans (bm T _ _)⟩
theorem Gg(T:ai)(aa:List ai)(sub:PS->PS×Px)(d:bN T sub)(c:dQ T sub)(s:PS)(h:s.p<=T.size)(e:Fz T s):Fz T (s.atom T aa sub).1/\eV s (s.atom T aa sub).1:=by
 have h1:Goes T s (s.aQ T):=iJ 2 h;have b:Fz T (s.aQ T):=e.Q5 2;have a:eV s (s.aQ T):=tn T s 2;unfold PS.atom;split
 ·have:=wW T sub d c _ h1.2.2 b;exact⟨this.1,a.trans this.2⟩
 ·exact⟨b.one h1.2.2,a.trans (tm T aa _)⟩
theorem CL(T:ai)(aa:List ai)(s:PS)(h:s.p<=T.size)(e:Fz T s):Fz T (s.atom T aa (fun s=>(s,eA []))).1/\eV s (s.atom T aa (fun s=>(s,eA []))).1:=by
 have h1:Goes T s (s.aQ T):=iJ 2 h;have c:Fz T (s.aQ T):=e.Q5 2;have b:eV s (s.aQ T):=tn T s 2;unfold PS.atom;split
 ·have a:Goes T (s.aQ T) ((s.aQ T).nest T):=jr 6 h1.2.2;have z2:Fz T ((s.aQ T).nest T):=c.MI 6;have f:eV (s.aQ T) ((s.aQ T).nest T):=mG T _ 6;have d:=gb T [aX 40] ((s.aQ T).nest T) a.2.2;have z3:Fz T (((((s.aQ T).nest T).aK T [aX 40]).hE).gC):=z2.aK a.2.2 _;have g:eV ((s.aQ T).nest T) (((((s.aQ T).nest T).aK T [aX 40]).hE).gC):=bm T _ _;exact⟨z3.aK d.1.2.2 _,((b.trans f).trans g).trans (bm T _ _)⟩
 ·exact⟨c.one h1.2.2,b.trans (tm T aa _)⟩
theorem m7(T:ai)(s:PS)(q:PS×Px)(a:q.1.p<=T.size)(h:Fz T q.1/\eV s q.1):Fz T (PS.gu T q).1/\eV s (PS.gu T q).1:=by
 unfold PS.gu;split
 ·exact⟨h.1.step a,h.2.trans (eo T _)⟩
 ·split
  ·exact⟨h.1.step a,h.2.trans (eo T _)⟩
  ·split
   ·exact⟨h.1.step a,h.2.trans (eo T _)⟩
   ·exact h
theorem Am(T:ai)(P:PS->PS×Px)(c:bN T P)(d:dQ T P):∀(g:Nat) (s:PS) (l:List Px),s.p<=T.size->Fz T s->Fz T (PS.cS T P g s l).1/\eV s (PS.cS T P g s l).1:=by
 intro g
 induction g with
 | zero=>intro s l _ h;exact⟨h,eV.refl s⟩
 | succ g e =>
  intro s l b h;rw[PS.cS];split
  ·have h1:=d s b h;have a:=e (P s).1 (l++[(P s).2]) (c s b).2.2.1 h1.1;exact⟨a.1,h1.2.trans a.2⟩
  ·exact⟨h,eV.refl s⟩
theorem Ao(T:ai)(P:PS->PS×Px)(b:bN T P)(c:dQ T P):dQ T (PS.iT T P):=fun s d h=>by
 have h1:=c s d h;have a:=Am T P b c (T.size+1) (P s).1 [(P s).2] (b s d).2.2.1 h1.1;exact⟨a.1,h1.2.trans a.2⟩
theorem wV(T:ai)(R:PS->PS×Px)(c:bN T R)(d:dQ T R):∀(g:Nat) (s:PS) (l:List Px),s.p<=T.size->Fz T s->Fz T (PS.bo T R g s l).1/\eV s (PS.bo T R g s l).1:=by
 intro g
 induction g with
 | zero=>intro s l _ h;exact⟨h,eV.refl s⟩
 | succ g e =>
  intro s l b h;rw[PS.bo];split
  ·have h0:=(ga T s b).1.2.2;have h1:=d (s.step T) h0 (h.step b);have a:=e (R (s.step T)).1 (l++[(R (s.step T)).2]) (c (s.step T) h0).2.2.1 h1.1;exact⟨a.1,((eo T s).trans h1.2).trans a.2⟩
  ·exact⟨h,eV.refl s⟩
theorem CJ(T:ai)(R:PS->PS×Px)(b:bN T R)(c:dQ T R):dQ T (PS.rK T R):=fun s d h=>by
 have h1:=c s d h;have a:=wV T R b c (T.size+1) (R s).1 [(R s).2] (b s d).2.2.1 h1.1;exact⟨a.1,h1.2.trans a.2⟩
theorem kO(T:ai)(aa:List ai):∀n,dQ T (PS.expr T aa n):=by
 intro n
 induction n with
 | zero =>
  have g0:bN T (PS.di T aa (fun s=>(s,eA []))):=c4.2 fun s h=>iu T s _ (gq T aa s h)
  have f0:dQ T (PS.di T aa (fun s=>(s,eA []))):=fun s a h=>m7 T s _ (gq T aa s a).1.2.2 (CL T aa s a h)
  exact CJ T _ (good_row T _ g0) (Ao T _ g0 f0)
 | succ n b =>
  have g0:bN T (PS.di T aa (PS.expr T aa n)):=dw T aa _ (ch T aa n);have f0:dQ T (PS.di T aa (PS.expr T aa n)):=fun s a h=>m7 T s _ (pS T aa _ (ch T aa n) s a).1.2.2 (Gg T aa _ (ch T aa n) b s a h)
  exact CJ T _ (good_row T _ g0) (Ao T _ g0 f0)
theorem l2(T:ai)(aa:List ai)(x:ai)(s:PS)(a:s.p<=T.size)(h:Fz T s):Fz T (s.side T aa x).1/\eV s (s.side T aa x).1:=by
 unfold PS.side;split
 ·exact⟨h,eV.refl s⟩
 ·exact kO T aa 5 s.zero a h
theorem ie(T:ai)(aa:List ai)(n:Nat)(s:PS)(f:s.p<=T.size)(h:Fz T s):Fz T (s.ep T aa n)/\eV s (s.ep T aa n)/\(s.ep T aa n).p<=T.size/\s.p<=(s.ep T aa n).p/\(s.p<T.size->s.p<(s.ep T aa n).p):=by
 have j:Fz T (s.dm T n):=h.MI 6;have g:eV s (s.dm T n):=mG T s 6;have b:(s.dm T n).p<=T.size/\s.p<=(s.dm T n).p:=D8 f 6;have z2:=j.aK b.1 [eP,cJ];have a:=kd b.1 [eP,cJ];have f3:=l2 T aa (aX 124) _ a.1 z2;have c:=nE T aa (aX 124) _ a.1;have z4:=f3.1.aK c.2 [aX 124];have p4:=kd c.2 [aX 124];have f5:=l2 T aa (aX 59) _ p4.1 z4;have d:=nE T aa (aX 59) _ p4.1;have k:=f5.1.aK d.2 [aX 59];have i:=kd d.2 [aX 59];have e:s.ep T aa n=((((((s.dm T n).aK T [eP,cJ]).side T aa (aX 124)).1.aK T [aX 124]).side T aa (aX 59)).1).aK T [aX 59]:=rfl;rw[e];refine⟨k,((((g.trans (bm T _ _)).trans f3.2).trans (bm T _ _)).trans f5.2).trans (bm T _ _),i.1,by omega,fun l=>?_⟩;rcases cF (s.dm T n).p T.size with h1|h1
 ·have:=a.2.2 h1;omega
 ·omega
structure RD where
 s:PS
 aa:List ai
 l:List (Int×Int×Nat)
def db(T:ai):Nat->RD->RD
 | 0,r=>r
 | g+1,r=>if bH [ct] (r.s.tk T)=true then db T g ⟨r.s.dG T r.aa r.l,r.aa++[eM T r.aa r.s],(r.s.fD T r.aa r.l).2⟩else r
def gs(T:ai)(aa:List ai):Nat->PS->List bw->PS×List bw
 | 0,s,L=>(s,L)
 | g+1,s,L=>if bH [eP,cJ] (s.tk T)=true then gs T aa g (s.ep T aa L.length) (L++[kY T aa L.length s])else (s,L)
def dk(T:ai)(s:PS):PS:=if s.p=T.size then s else s.fail T 2
def ji(T:ai):RD:=⟨⟨skip T 0,0,0,0,0⟩,[],[]⟩
def bx(T:ai):RD:=db T (T.size+1) (ji T)
def cv(T:ai):PS×List bw:=gs T (bx T).aa (T.size+1) (bx T).s []
def ed(T:ai):PS:=dk T (cv T).1
theorem qr{T:ai}{s:PS}{L:List ai}(d:s.p<=T.size)(a:∀x∈L,x.toList≠[])(h:bH L (s.tk T)=true):s.p<T.size:=by
 rcases cF s.p T.size with h1|h1
 ·exact h1
 ·exfalso;have e:s.p=T.size:=by omega
  unfold PS.tk at h;rw[e,hH,fU]at h;obtain⟨x,b,c⟩:=h;exact a x b c
theorem Fr.below{base:Nat}{w w':World}(h:Below w.heap.size w w')(hb:base<=w.heap.size):Fr base w w':=⟨h.mono hb,fun _ _ _ _=>Kp.below h⟩
theorem qU.later{d:World->Value->List (Int×Int×Nat)->Prop}{base b:Nat}{T:ai}{aa:List ai}{i g vL:Value}{s:PS}{l:List (Int×Int×Nat)}{w w':World}(j:oq base d)(h:qU d base b T aa i g vL s l w)(hb:Below w.heap.size w w'):qU d base b T aa i g vL s l w' :=
 ⟨h.rd.later hb,al h.row (Kp.below hb),j.aY _ _ _ _ h.tr (Kp.below hb),h.oF.below hb,h.fz,h.hb,h.hg⟩
theorem Pb{f:World->Value->List (Int×Int×Nat)->Prop}{base:Nat}(C:oq base f)(b:Nat)(T:ai)(aa:List ai)(i g vL:Value)(s:PS)(l:List (Int×Int×Nat))(a:List bw)(w:World)(h:qU f base b T aa i g vL s l w)(E:aa.length<=7)(q:qR base w vL a)(F:a.length<=1000):Calls prog 78 #[.pointer (some ⟨b,0,none⟩)] w fun r w'=>r=.returned (.tuple #[])/\∃d,qU f base b T aa i g d (s.ep T aa a.length) l w'/\qR base w' d (a++[kY T aa a.length s])/\Below base w w':=by
 refine(JT base b T aa i g vL a s w h.rd (bX h.row (aJ _)) E q F h.sz).mono ?_;rintro r w' ⟨rfl,d,h1,A,n⟩;have own:∀k,vL.ownBlock=some k->base<=k/\∃j,w.heap[k]?=some (.cells j 148 (0,0)):=by
  intro k e;obtain⟨_,_,g2,_⟩:=q;exact⟨(g2.lt k e).1,bh g2 k e⟩
 have u:Below base w w':=n.below h.sz fun k x e=>by
  rcases e with rfl|e
  ·have:=h.hb;omega
  ·have:=(own k e).1;omega
 have y:∀t,t≠141->t≠148->Kp t w w':=fun t z a2 k j m c=>by
  rw[n.block k (an c) (fun e=>?_)]
  ·exact c
  ·rcases e with rfl|e
   ·exact dI c h.rd.da z rfl
   ·obtain⟨_,H,D⟩:=own k e;exact dI c D a2 rfl
 have B:cc w':=h.oF.on fun k o v x G=>(u.cell (p:=⟨k,o,none⟩) (by simp only;have hg:=h.hg;rcases x with rfl|rfl|rfl<;>omega)).trans G
 exact⟨rfl,d,⟨h1,al h.row (y _ (by decide) (by decide)),C.aY _ _ _ _ h.tr (y _ (by decide) (by decide)),B,(ie T aa a.length s h.rd.le h.fz).1,h.hb,h.hg⟩,A,u⟩
def Mr(b:World->Value->List (Int×Int×Nat)->Prop)(base:Nat)(T:ai)(w:World)(r:Ending)(w':World):Prop :=
 Below w.heap.size w w'/\∃a vL,r=.returned (.tuple #[.agg #[a,vL],.int .i64 (ed T).f,.int .i64 (if (ed T).f=0 then 0 else (ed T).pl)])/\((ed T).f=0->b w' a (bx T).l/\qR base w' vL (cv T).2)/\((ed T).f≠0->a=.slice none 0 0/\vL=.slice none 0 0)
theorem mM{P:Program}{fn:Func}{p u v:Tmp}{b:TypeId}(h:fn.results=#[.cell p b,.tmp u,.tmp v])(tmps:Array Value)(w:World)(g:Nat)(t:TypeId)(a:Array Value)(fr:Nat×Nat)(d:TypeDesc) (c:tmps.getD p undef=.pointer (some ⟨g,0,none⟩)) (hg:w.heap[g]?=some (.cells a t fr)) (hu:P.underlying b=some d) (hd:(match d with|.struct _|.array _ _=>true|_=>false)=true) (hi:(P.info? b).map (·.size)=some a.size):(results fn tmps).run P w=.ok (.tuple #[.agg a,tmps.getD u undef,tmps.getD v undef]) w:=by
 have e:tmps[p]?.getD undef=.pointer (some ⟨g,0,none⟩):=by simpa using c
 simp[results,h,e,asAddr,run_loadVar_row w g t b a fr d hg hu hd hi]
theorem nK(T:ai)(aa:List ai):∀(g:Nat) (s:PS) (L:List bw),s.p<=T.size->Fz T s->eV s (gs T aa g s L).1:=by
 intro g
 induction g with
 | zero=>intro s L _ _;exact eV.refl s
 | succ g c =>
  intro s L a b;rw[gs];split
  ·have h:=ie T aa L.length s a b;exact h.2.1.trans (c _ _ h.2.2.1 h.1)
  ·exact eV.refl s
theorem ql{T:ai}{s:PS}(h:(dk T s).f=0):s.f=0:=by
 unfold dk at h;split at h
 ·exact h
 ·unfold PS.fail PS.eD pf at h;simp only at h;split at h
  ·assumption
  ·exact h
theorem QH{w:World}{q:Nat}{a b x y:Value}{t:TypeId}(h:w.heap[q]?=some (.cells #[a,b] t (0,0))):((w.setCell ⟨q,0,none⟩ x).setCell ⟨q,1,none⟩ y).heap[q]?=some (.cells #[x,y] t (0,0)):=vY (mL h)
theorem Nq(E:World->Value->List (Int×Int×Nat)->Prop)(T:ai)(w:World)(C:oq (w.heap.size+1) E)(b8:cc w)(g4:T.size<=1000):Calls prog 42 #[.string T] w (Mr E (w.heap.size+1) T w):=by
 have i1:=az b8;have l3:6<w.heap.size/\7<w.heap.size:=by
  obtain⟨⟨_,_,h1⟩,⟨_,_,M⟩,_⟩:=b8;exact⟨gP h1,gP M⟩
 obtain⟨W,N⟩:∃W,W=(w.alloc (.cells #[.slice none 0 0,.slice none 0 0] 84)).alloc (.cells #[.string T,.int .i64 0,.int .i64 0,.slice none 0 0,.slice none 0 0,.slice none 0 0,.int .i64 0,.int .i64 0] 141):=⟨_,rfl⟩;have i9:=az N;have g5:W.heap[w.heap.size+1]?=some (.cells (Ke T 0 0 (.slice none 0 0) (.slice none 0 0) (.slice none 0 0) 0 0) 141 (0,0)):=by
  rw[N];exact(show ((w.alloc _).heap.size)=w.heap.size+1 by simp)▸aw (w.alloc _) _
 have g9:W.heap[w.heap.size]?=some (.cells #[.slice none 0 0,.slice none 0 0] 84 (0,0)):=by
  rw[N,aW _ _ _ (by simp)];exact aw w _
 have g6:Below w.heap.size w W:=by rw[N];exact((aB _ _).alloc (ar _) _).alloc (by simp) _
 have l2:W.heap.size=w.heap.size+2:=by rw[N];simp
 have i0:=az g5;have i6:=az g9;have b0:=az g6;clear b8 N g5 g9 g6;go_enter func42,ntmps42;go_wp2_with fail;rw[<- i9.out];refine(vM (w.heap.size+1) T 0 0 (.slice none 0 0) (.slice none 0 0) (.slice none 0 0) 0 0 W i0.out (aJ _) g4).mono ?_;rintro r c8 ⟨rfl,h1,S⟩;have j9:=(gH T 0).2 (aJ _);have a3:Hid (qU E (w.heap.size+1) (w.heap.size+1) T [] (.slice none 0 0) (.slice none 0 0) (.slice none 0 0) (ji T).s [] c8):=by
  refine⟨⟨h1,j9,g4⟩,cq _ _ _ _,C.nil c8,?_,fun e=>(e rfl).elim,ar _,by omega⟩;refine(i1.out.below b0.out).on fun k o v g8 h4=>?_
  have:k≠w.heap.size+1:=by rcases g8 with rfl|rfl|rfl<;>omega
  exact(oV (a:=⟨k,o,none⟩) (w:=W) (S.block k (gP h4) this)).trans h4
 have a2:Hid (Below (w.heap.size+1) W c8):=S.below (by omega) fun k g8 e=>by omega
 clear h1 S;obtain⟨B,b7⟩:∃B,B=w.heap.size+1:=⟨_,rfl⟩;have Q:=az b7;rw[<- b7]at C a3 a2 ⊢;clear b7
 go_upto_block 0 with fail
 go_cut [] (fun d=>Hid (∃q j b,qU E B B T (bx T).aa q j (.slice none 0 0) (bx T).s b d/\((bx T).s.f=0->b=(bx T).l)/\(bx T).aa.length<=7)/\Hid (Below B W d))
 case first =>
  go_wp2_with fail
  go_loopg [] (T.size+1) (fun g d=>∃(r:RD) (q j:Value) (b:List (Int×Int×Nat)),Hid (qU E B B T r.aa q j (.slice none 0 0) r.s b d)/\Hid (Below B W d)/\Hid (r.s.f=0->b=r.l)/\Hid (db T g r=bx T)/\T.size<r.s.p+g/\b.length<=r.s.p/\Hid (r.s.f=0->r.aa.length<=6)/\r.aa.length<=7)
  case atStart=>exact⟨ji T,_,_,[],a3,a2,fun _=>rfl,rfl,by omega,aJ _,fun _=>by show 0<=6;omega,by show 0<=7;omega⟩
  case round =>
   obtain⟨r,q,j,b,y,hF,V,hS,hg,j8,g3,b9⟩:=hrel;obtain⟨P,c5⟩:∃P,P=wr:=⟨wr,rfl⟩;subst c5;have X:=y.out.rd.le;obtain⟨A,c1⟩:∃A,gk=A+1:=⟨gk-1,by omega⟩;subst c1;clear a3 a2;go_wp2_with fail;refine(qx B T q j (.slice none 0 0) r.s [ct] P y.out.rd (by decide) (by decide)).mono ?_;rintro e w3 ⟨rfl,b3⟩;have a4:=az (y.out.later C b3);have c9:=az (hF.out.trans (b3.mono y.out.sz));clear y hF b3;cases J:bH [ct] (r.s.tk T)
   ·have e:Hid (bx T=r):=by show _=_;rw[<- hS.out,db,J];rfl
    go_wp2_with fail;go_meet;exact⟨⟨q,j,b,by rw[e.out];exact a4.out,by rw[e.out];exact V.out,by rw[e.out];exact b9⟩,c9⟩
   ·have a8:=qr X AC J;have h0:r.s.f=0:=by
     rcases Classical.em (r.s.f=0)with h|h
     ·exact h
     ·have:=a4.out.fz h;omega
    have c2:=V.out h0;have l4:=g3.out h0;have e:Hid (db T A ⟨r.s.dG T r.aa r.l,r.aa++[eM T r.aa r.s],(r.s.fD T r.aa r.l).2⟩=bx T):=by show _=_;rw[<- hS.out,db,J];rfl
    have j5:=pJ T r.aa b r.s a4.out.fz X;have j4:=j5.2.2 a8;have i4:=az c2;clear h0 c2 V hS g3;go_wp2_with fail;refine(D6 C B T r.aa q j (.slice none 0 0) r.s b w3 a4.out (by omega) j8 a8).mono ?_;rintro l0 a1 ⟨rfl,k6,k4,k2,e8,k3,h6,f4⟩;have x:=az e8;have H:=az h6;have F:=az (c9.out.trans f4.1);clear e8 h6 f4;go_wp2_with fail;go_roundg A
    case measure=>omega
    case rel =>
     refine⟨⟨r.s.dG T r.aa b,r.aa++[eM T r.aa r.s],(r.s.fD T r.aa b).2⟩,k6,k4,k2,x,F,H,?_,by show T.size<(r.s.dG T r.aa b).p+A;omega,k3,fun j6=>?_,?_⟩
     ·show _=_;rw[i4.out];exact e.out
     ·have:=qK T r.aa b r.s j6;show (r.aa++[eM T r.aa r.s]).length<=6;rw[aF];simp;omega
     ·show (r.aa++[eM T r.aa r.s]).length<=7;rw[aF];simp;omega
 case rest =>
  obtain⟨M,f2⟩:=hcut;obtain⟨P,c5⟩:∃P,P=wc:=⟨wc,rfl⟩;subst c5;clear a3 a2;obtain⟨q,j,b,a7,g0,b9⟩:=M.out;have b2:=az a7;have i3:=az g0;have j7:=a7.rd.le;have j0:=az a7.fz;clear M a7 g0
  go_upto_block 2 with fail
  go_cut [] (fun d=>Hid (∃m,qU E B B T (bx T).aa q j m (cv T).1 b d/\qR B d m (cv T).2)/\Hid (Below B W d))
  case first =>
   go_wp2_with fail
   go_loopg [] (T.size+1) (fun g d=>∃(u:PS) (m:Value) (z:List bw),Hid (qU E B B T (bx T).aa q j m u b d)/\Hid (qR B d m z)/\Hid (Below B W d)/\Hid (gs T (bx T).aa g u z=cv T)/\T.size<u.p+g/\z.length<=u.p)
   case atStart=>exact⟨_,_,[],b2,⟨[],rfl,cq _ _ _ _,fun i L v V=>by simp at V⟩,f2,rfl,by omega,aJ _⟩
   case round =>
    obtain⟨u,m,z,y,g2,hF,hS,hg,c2⟩:=hrel;obtain⟨w3,c7⟩:∃w3,w3=wr:=⟨wr,rfl⟩;subst c7;have X:=y.out.rd.le;obtain⟨A,c1⟩:∃A,gk=A+1:=⟨gk-1,by omega⟩;subst c1;clear b2 f2;go_wp2_with fail;refine(qx B T q j m u [eP,cJ] w3 y.out.rd (by decide) (by decide)).mono ?_;rintro e a1 ⟨rfl,b4⟩;have x:=az (y.out.later C b4);have H:=az (g2.out.below b4);have F:=az (hF.out.trans (b4.mono y.out.sz));clear y hF b4 g2;cases J:bH [eP,cJ] (u.tk T)
    ·have e:Hid (cv T=(u,z)):=by show _=_;rw[<- hS.out,gs,J];rfl
     go_wp2_with fail;go_meet;exact⟨⟨m,by rw[e.out];exact x.out,by rw[e.out];exact H.out⟩,F⟩
    ·have a8:=qr X Gs J;have h2:=ie T (bx T).aa z.length u X x.out.fz;have j4:=h2.2.2.2.2 a8;have e:Hid (gs T (bx T).aa A (u.ep T (bx T).aa z.length) (z++[kY T (bx T).aa z.length u])=cv T):=by show _=_;rw[<- hS.out,gs,J];rfl
     clear hS h2;go_wp2_with fail;refine(Pb C B T (bx T).aa q j m u b z a1 x.out b9 H.out (by omega)).mono ?_;rintro l1 D ⟨rfl,k5,I,Z,e4⟩;have G:=az I;have b6:=az Z;have h9:=az (F.out.trans e4);clear I Z e4;go_wp2_with fail;go_roundg A
     case measure=>omega
     case rel=>exact⟨_,k5,_,G,b6,h9,e,by omega,by rw[aF];simp;omega⟩
  case rest =>
   obtain⟨e7,f3⟩:=hcut;obtain⟨w3,c7⟩:∃w3,w3=wc:=⟨wc,rfl⟩;subst c7;clear b2 f2;obtain⟨m,e9,g1⟩:=e7.out;have R:=az e9;have e0:=az g1;clear e7 e9 g1;obtain⟨c,a9⟩:∃c,c=(cv T).1:=⟨_,rfl⟩;rw[<- a9]at R;have e1:Hid (ed T=dk T c):=by show _=_;unfold ed;rw[a9]
   have i7:Hid (eV (bx T).s c):=by rw[a9];exact nK T _ _ _ _ j7 j0.out
   clear a9;go_wp2_with fail;refine(nZ B T c.p (bO T c.p) q j m c.f c.pl w3 R.out.rd.da).mono ?_;rintro r a1 ⟨rfl,n,h5⟩;have b4:Below w3.heap.size w3 a1:=by rw[h5];exact hy (aB _ _) n
   clear h5;have x:=az (R.out.later C b4);have H:=az (e0.out.below b4);have F:=az (f3.out.trans (b4.mono R.out.sz));clear R e0 f3 b4
   go_upto_if 20 with fail
   go_cut [] (fun d=>Hid (qU E B B T (bx T).aa q j m (dk T c) b d)/\Hid (qR B d m (cv T).2)/\Hid (Below B W d))
   case first =>
    by_cases O:c.p=T.size
    ·have Y:decide (c.p=T.size)=true:=by simpa using O
     have e:Hid (dk T c=c):=by show _=_;unfold dk;rw[ag O]
     rw[Y];clear O Y;go_wp2_with fail;go_meet;exact⟨by rw[e.out];exact x,H,F⟩
    ·have Y:decide (c.p=T.size)=false:=by simpa using O
     have e:Hid (dk T c=c.fail T 2):=by show _=_;unfold dk;rw[ae O]
     rw[Y];clear O Y;go_wp2_with fail;refine(kP B T q j m c 2 a1 x.out.rd).mono ?_;rintro r D ⟨rfl,I,a6⟩;have G:=az (x.out.on C I a6 (Fz.CN c 2));have b6:=az (H.out.n8 x.out.rd.da a6);clear I a6;go_wp2_with fail;go_meet;exact⟨by rw[e.out];exact G.out.1,b6,F.out.trans G.out.2.1⟩
   case rest =>
    obtain⟨I,Z,f5⟩:=hcut;obtain⟨D,k0⟩:∃D,D=wc:=⟨wc,rfl⟩;subst k0;clear x H F;have G:Hid (qU E B B T (bx T).aa q j m (ed T) b D):=by rw[e1.out];exact I
    have i2:Hid ((ed T).f=0->(bx T).s.f=0):=by
     intro h0;rw[e1.out]at h0;have h1:=ql h0;rcases Classical.em ((bx T).s.f=0)with h|h
     ·exact h
     ·have:=(i7.out h).1;rw[h1]at this;exact absurd this.symm h
    have a0:D.heap[w.heap.size]?=some (.cells #[.slice none 0 0,.slice none 0 0] 84 (0,0)):=by
     rw[f5.out.block _ (by have:=Q.out;omega)];exact i6.out
    have a5:=az a0;have l5:w.heap.size≠B:=by have:=Q.out;omega
    obtain⟨U,c0⟩:∃U,U=(ed T).f:=⟨_,rfl⟩;obtain⟨h8,c4⟩:∃h8,h8=(ed T).pl:=⟨_,rfl⟩;have g7:=dA G.out.rd.da;rw[<- c0,<- c4]at g7;obtain⟨j2,S,j3,c3,k7,a6,k8,k9,cf⟩:=g7;have d0:=ab a0 0 _ rfl;have d1:=ab a0 1 _ rfl;have df:=aq a0;have b5:=az c0;have i5:=az c4;clear I c0 c4 a0 j2 S j3 c3;obtain⟨e2,h7,e5,rfl⟩:=C.shape _ _ _ G.out.tr;obtain⟨e3,e6,rfl⟩:∃j1 au,m=.slice j1 (cv T).2.length au:=by obtain⟨_,_,M,_⟩:=Z.out;exact ak M
    by_cases h0:U=0
    ·have k1:(U==0)=true:=by rw[bL];exact h0
     have K:Hid ((ed T).f=0):=by rw[<- b5.out];exact h0
     clear h0;go_wp2_with fail;refine bodyPost_ret (mM rfl _ _ w.heap.size 84 _ (0,0) _ rfl (QH a5.out) Tryz.underlying84 rfl (by kernel_rfl)) rfl ?_;have kp:∀t,t≠84->Kp t D ((D.setCell ⟨w.heap.size,0,none⟩ (.slice e2 h7 e5)).setCell ⟨w.heap.size,1,none⟩ (.slice e3 (cv T).2.length e6)):=fun t h3=>((Kp.refl _ _).setCell a5.out h3 _).setCell (mL a5.out) h3 _
     refine⟨?_,.slice e2 h7 e5,.slice e3 (cv T).2.length e6,by rw[K.out];rfl,fun _=>⟨?_,?_⟩,fun h=>absurd K.out h⟩
     ·have b1:Below w.heap.size w D:=b0.out.trans (f5.out.mono (by have:=Q.out;omega));exact(b1.setCell (ar _) _).setCell (ar _) _
     ·have e:=i3.out (i2.out K.out);rw[<- e];exact C.aY _ _ _ _ G.out.tr (kp _ (by decide))
     ·rw[<- Q.out];exact Z.out.kp (kp _ (by decide)) (kp _ (by decide)) (kp _ (by decide))
    ·have k1:(U==0)=false:=by rw[aO];exact h0
     have K:Hid ((ed T).f≠0):=by rw[<- b5.out];exact h0
     clear h0;go_wp2_with fail;go_region
     all_goals (try go_wp2_with fail)
     all_goals
      refine bodyPost_ret (mM rfl _ _ w.heap.size 84 #[.slice none 0 0,.slice none 0 0] (0,0) _ rfl (QH a5.out) Tryz.underlying84 rfl (by kernel_rfl)) rfl ?_;refine⟨?_,.slice none 0 0,.slice none 0 0,?_,fun h=>absurd h K.out,fun _=>⟨rfl,rfl⟩⟩
      ·have b1:Below w.heap.size w D:=b0.out.trans (f5.out.mono (by have:=Q.out;omega));exact((b1.setCell (ar _) _).setCell (ar _) _).drew
      ·rw[ae K.out,<- b5.out,<- i5.out];rfl
structure Sj where
 err:Int
 place:Int
def kJ(T:ai):Sj:=if 1000<T.size then ⟨1,0⟩else ⟨(ed T).f,if (ed T).f=0 then 0 else (ed T).pl⟩
theorem zz{T:ai}(h:1000<T.size):kJ T=⟨1,0⟩:=by unfold kJ;rw[ag h]
theorem FL{T:ai}(h:T.size<=1000):kJ T=⟨(ed T).f,if (ed T).f=0 then 0 else (ed T).pl⟩:=by unfold kJ;rw[ae (by omega)]
theorem tA{T:ai}(h:(kJ T).err=0):T.size<=1000/\(ed T).f=0/\(kJ T).place=0:=by
 rcases cF 1000 T.size with h1|h1
 ·rw[zz h1]at h;exact absurd h (by decide)
 ·rw[FL h1]at h ⊢;have a:(ed T).f=0:=h;exact⟨h1,a,by show (if (ed T).f=0 then 0 else (ed T).pl)=0;rw[ag a]⟩
theorem J2(T:ai)(w:World)(f:1000<T.size)(g:T.size<=140737488351232):Calls prog 42 #[.string T] w fun r w'=>Below w.heap.size w w'/\∃e vL,r=.returned (.tuple #[.agg #[e,vL],.int .i64 (kJ T).err,.int .i64 (kJ T).place])/\(∃a b c,e=.slice a b c)/\∃a b c,vL=.slice a b c:=by
 have d:Hid ((kJ T).err=1/\(kJ T).place=0):=by
  show _/\_;rw[zz f];exact⟨rfl,rfl⟩
 rw[d.out.1,d.out.2];go_enter func42,ntmps42;go_wp2_with fail;refine bodyPost_ret (mM rfl _ _ w.heap.size 84 #[.slice none 0 0,.slice none 0 0] (0,0) _ rfl (aw _ _) Tryz.underlying84 rfl (by kernel_rfl)) rfl ?_;exact⟨(aB _ _).alloc (ar _) _,.slice none 0 0,.slice none 0 0,rfl,⟨_,_,_,rfl⟩,_,_,_,rfl⟩
theorem Hi(T:ai)(h:(kJ T).err=0):(kJ T).place=0:=(tA h).2.2
theorem J4(T:ai)(w:World)(m:cc w)(n:T.size<=140737488351232):Calls prog 42 #[.string T] w fun r w'=>Below w.heap.size w w'/\∃d vL,r=.returned (.tuple #[.agg #[d,vL],.int .i64 (kJ T).err,.int .i64 (kJ T).place])/\(∃a b c,d=.slice a b c)/\(∃a b c,vL=.slice a b c)/\((kJ T).err=0->Qm (w.heap.size+1) w' d (bx T).l/\qR (w.heap.size+1) w' vL (cv T).2):=by
 by_cases h:T.size<=1000
 ·refine(Nq _ T w (Oi _) m h).mono ?_;rintro r w' ⟨hb,d,vL,rfl,i,j⟩;rw[FL h];refine⟨hb,d,vL,rfl,?_⟩
  by_cases h0:(ed T).f=0
  ·obtain⟨_,_,h1,_⟩:=(i h0).1;obtain⟨o,au,e⟩:=ak h1;obtain⟨_,_,g,_⟩:=(i h0).2;obtain⟨p,q,k⟩:=ak g;exact⟨⟨_,_,_,e⟩,⟨_,_,_,k⟩,fun _=>i h0⟩
  ·exact⟨⟨_,_,_,(j h0).1⟩,⟨_,_,_,(j h0).2⟩,fun e=>absurd e h0⟩
 ·refine(J2 T w (by omega) n).mono ?_;rintro r w' ⟨hb,d,vL,rfl,h1,g⟩;refine⟨hb,d,vL,rfl,h1,g,fun e=>absurd e ?_⟩;rw[zz (by omega)];decide
theorem eV.back{s d:PS}(h:eV s d)(e:d.f=0):s.f=0:=by
 by_cases h0:s.f=0
 ·exact h0
 ·have:=(h h0).1;rw[e]at this;exact this.symm
theorem Lr(T:ai)(s:PS)(no:Int)(a:no≠0):(s.fail T no).f≠0:=by
 unfold PS.fail PS.eD pf;simp only;split
 ·exact a
 ·assumption
theorem P7(T:ai)(s:PS){c:Prop}[Decidable c](no:Int):(if c then s.fail T no else s).a=s.a:=by split<;>rfl
theorem Mn(T:ai)(s:PS){c:Prop}[Decidable c](no:Int):(if c then s else s.fail T no).a=s.a:=by split<;>rfl
theorem AK(T:ai)(L:List ai)(s:PS):(s.aK T L).a=s.a:=by unfold PS.aK;split<;>rfl
def AG(s:PS)(q:PS×Px):Prop:=q.1.f=0->0<=s.a->s.a<=4->q.1.a<=4/\∀d,(nc d q.2:Int)+s.a<=q.1.a/\rF d q.2
def nx(T:ai)(P:PS->PS×Px):Prop:=∀s:PS,s.p<=T.size->Fz T s->AG s (P s)
theorem AG.pre{s d:PS}{q:PS×Px}(h:AG d q)(e:d.a=s.a):AG s q:=fun g h0 i=>by
 have:=h g (by omega) (by omega);rw[e]at this;exact this
theorem xl(d:Nat):nc d (eA [])=0:=by cases d<;>simp[nc,eA]
theorem wA(d:Nat):rF d (eA []):=by cases d<;>simp[rF,eA]
theorem Mg(T:ai)(aa:List ai)(i:aa.length<=7)(s:PS):AG s (s.one T aa):=by
 intro g h0 j;have b:(s.known T aa).a=s.a:=Mn T s 3;have k:s.a≠4:=by
  intro e;have h1:((s.known T aa).many T).f≠0:=by unfold PS.many;rw[ag (by rw[b];exact e)];exact Lr T _ 6 (by decide)
  exact h1 g
 have em:((s.known T aa).many T).a=s.a:=(P7 T _ 6).trans b;have c:(s.one T aa).1.a=s.a+1:=by
  show IntKind.i64.wrap (((s.known T aa).many T).a+1)=_;rw[em];exact IntWalk.i64_in _ ⟨by omega,by omega⟩
 refine⟨by omega,fun d=>?_⟩;rw[c];show (nc d (r0 (bn aa (s.tk T)).1):Int)+s.a<=s.a+1/\rF d (r0 (bn aa (s.tk T)).1);have h:=rB aa (s.tk T) i;cases d with
 | zero=>simp[nc,rF];omega
 | succ d=>simp[nc,rF,r0,h];omega
theorem E1(T:ai)(sub:PS->PS×Px)(_hs:bN T sub)(_hf:dQ T sub)(m:nx T sub)(s:PS)(h:s.p<=T.size)(n:Fz T s):AG s (s.bracket T sub):=by
 have h1:Goes T s (s.nest T):=jr 6 h;have o:Fz T (s.nest T):=n.MI 6;have g:=gb T [aX 40] (s.nest T) h1.2.2;have z2:Fz T (((s.nest T).aK T [aX 40]).hE):=o.aK h1.2.2 _;have i:=m (((s.nest T).aK T [aX 40]).hE) g.1.2.2 z2;have c:(((s.nest T).aK T [aX 40]).hE).a=s.a:=(AK T _ _).trans (P7 T s 6);intro e h0 j;have k:=bm T [aX 41] ((sub (((s.nest T).aK T [aX 40]).hE)).1.gC);have b:(sub (((s.nest T).aK T [aX 40]).hE)).1.f=0:=k.back e;have l:=(i.pre c) b h0 j;have d:(s.bracket T sub).1.a=(sub (((s.nest T).aK T [aX 40]).hE)).1.a:=AK T _ _;rw[d];exact l
theorem Og(T:ai)(aa:List ai)(e:aa.length<=7)(sub:PS->PS×Px)(f:bN T sub)(d:dQ T sub)(c:nx T sub)(s:PS)(h:s.p<=T.size)(g:Fz T s):AG s (s.atom T aa sub):=by
 have h1:Goes T s (s.aQ T):=iJ 2 h;have i:Fz T (s.aQ T):=g.Q5 2;have b:(s.aQ T).a=s.a:=Mn T s 2;unfold PS.atom;split
 ·exact(E1 T sub f d c _ h1.2.2 i).pre b
 ·exact(Mg T aa e _).pre b
theorem Mi(T:ai)(aa:List ai)(f:aa.length<=7)(s:PS)(_h:s.p<=T.size)(_hz:Fz T s):AG s (s.atom T aa (fun s=>(s,eA []))):=by
 have b:(s.aQ T).a=s.a:=Mn T s 2;unfold PS.atom;split
 ·intro e h0 g;have c:((s.aQ T).bracket T (fun s=>(s,eA []))).1.a=s.a:=by
   show ((((((s.aQ T).nest T).aK T [aX 40]).hE).gC).aK T [aX 41]).a=s.a;rw[AK];show (((s.aQ T).nest T).aK T [aX 40]).a=s.a;rw[AK];exact(P7 T _ 6).trans b
  refine⟨by omega,fun d=>?_⟩;rw[c];show (nc d (eA []):Int)+s.a<=s.a/\rF d (eA []);exact⟨by rw[xl];omega,wA d⟩
 ·exact(Mg T aa f _).pre b
theorem De(T:ai)(s:PS)(q:PS×Px)(h:AG s q):AG s (PS.gu T q):=by
 have b:∀(x:Px),(∀d,nc d x<=nc (d-1) q.2/\(rF (d-1) q.2->rF d x))->AG s (q.1.step T,x):=fun x i g h0 f=>by
  have h1:=h g h0 f;refine⟨h1.1,fun d=>?_⟩;have e:=i d;have c:=h1.2 (d-1);refine⟨?_,e.2 c.2⟩;show (nc d x:Int)+s.a<=q.1.a;have:=c.1;omega
 unfold PS.gu;split
 ·exact b _ fun d=>by
   cases d with
   | zero=>exact⟨aJ _,fun _=>trivial⟩
   | succ d=>simp[nc,rF,q7]
 ·split
  ·exact b _ fun d=>by
    cases d with
    | zero=>exact⟨aJ _,fun _=>trivial⟩
    | succ d=>simp[nc,rF,rq]
  ·split
   ·exact b _ fun d=>by
     cases d with
     | zero=>exact⟨aJ _,fun _=>trivial⟩
     | succ d=>simp[nc,rF,mU,xl,wA]
   ·exact h
def LG(s:PS)(l:List Px)(q:PS×List Px):Prop:=q.1.f=0->0<=s.a->s.a<=4->q.1.a<=4/\∀d,((q.2.map (nc d)).sum:Int)+s.a<=q.1.a+((l.map (nc d)).sum:Int)/\((∀y∈l,rF d y)->∀y∈q.2,rF d y)
theorem LG.refl(s:PS)(l:List Px):LG s l (s,l):=fun _ _ g=>⟨g,fun d=>⟨by show ((l.map (nc d)).sum:Int)+s.a<=s.a+((l.map (nc d)).sum:Int);omega,fun h=>h⟩⟩
theorem LG.step{s h:PS}{x:Px}{l:List Px}{q:PS×List Px}(h1:AG s (h,x))(t:LG h (l++[x]) q)(hb:q.1.f=0->h.f=0):LG s l q:=fun j h0 u=>by
 have i:=h1 (hb j) h0 u
 have n:0<=h.a:=by have w:=(i.2 0).1;have A:(0:Int)<=(nc 0 (h,x).2:Int):=by omega
                   show 0<=(h,x).1.a;omega
 have a2:=t j n i.1;refine⟨a2.1,fun d=>?_⟩;have b1:=i.2 d;have b2:=a2.2 d;have o:((l++[x]).map (nc d)).sum=(l.map (nc d)).sum+nc d x:=by simp
 have b3:(nc d x:Int)+s.a<=h.a:=b1.1;rw[o]at b2;refine⟨by have:=b2.1;omega,fun v=>b2.2 fun y g=>?_⟩;rw[aR]at g;rcases g with g|g
 ·exact v y g
 ·simp at g;subst g;exact b1.2
theorem Oe(T:ai)(P:PS->PS×Px)(b:bN T P)(c:dQ T P)(e:nx T P):∀(g:Nat) (s:PS) (l:List Px),s.p<=T.size->Fz T s->LG s l (PS.cS T P g s l):=by
 intro g
 induction g with
 | zero=>intro s l _ _;exact LG.refl s l
 | succ g f =>
  intro s l a h;rw[PS.cS];split
  ·have h1:=c s a h;have d:=f (P s).1 (l++[(P s).2]) (b s a).2.2.1 h1.1;exact LG.step (e s a h) d (Am T P b c g (P s).1 (l++[(P s).2]) (b s a).2.2.1 h1.1).2.back
  ·exact LG.refl s l
theorem Mh(T:ai)(P:PS->PS×Px)(a:bN T P)(c:dQ T P)(e:nx T P):∀(g:Nat) (s:PS) (l:List Px),s.p<=T.size->Fz T s->LG s l (PS.bo T P g s l):=by
 intro g
 induction g with
 | zero=>intro s l _ _;exact LG.refl s l
 | succ g f =>
  intro s l b h;rw[PS.bo];split
  ·have h0:=(ga T s b).1.2.2;have h1:=c (s.step T) h0 (h.step b);have d:=f (P (s.step T)).1 (l++[(P (s.step T)).2]) (a (s.step T) h0).2.2.1 h1.1;exact LG.step ((e (s.step T) h0 (h.step b)).pre rfl) d (wV T P a c g _ (l++[(P (s.step T)).2]) (a (s.step T) h0).2.2.1 h1.1).2.back
  ·exact LG.refl s l
theorem LG.all{s d:PS}{x:Px}{q:PS×List Px}(h1:AG s (d,x))(g:LG d [x] q)(hb:q.1.f=0->d.f=0):LG s [] q:=LG.step (l:=[]) h1 g hb
theorem AG.FV{s:PS}{q:PS×List Px}{y:Px}(h:LG s [] q)(t:∀d,nc d y<=(q.2.map (nc (d-1))).sum\/q.2=[y])(o:∀d,(∀z∈q.2,rF (d-1) z/\rF d z)->rF d y):AG s (q.1,y):=fun n h0 j=>by
 have h1:=h n h0 j;refine⟨h1.1,fun d=>?_⟩;have b1:=h1.2 (d-1);have b2:=h1.2 d;refine⟨?_,o d fun z i=>⟨b1.2 (fun _ h=>by simp at h) z i,b2.2 (fun _ h=>by simp at h) z i⟩⟩;show (nc d y:Int)+s.a<=q.1.a;rcases t d with g|g
 ·have:=b1.1;simp at this;omega
 ·have:=b2.1;rw[g]at this;simp at this;omega
theorem Mf(T:ai)(P:PS->PS×Px)(a:bN T P)(c:dQ T P)(f:nx T P):nx T (PS.iT T P):=fun s b h=>by
 have h1:=c s b h;have g:=Oe T P a c f (T.size+1) (P s).1 [(P s).2] (a s b).2.2.1 h1.1;have i:=LG.all (f s b h) g (Am T P a c (T.size+1) (P s).1 [(P s).2] (a s b).2.2.1 h1.1).2.back;refine AG.FV i (fun d=>?_) (fun d k=>?_)
 ·left;cases d with
  | zero=>exact aJ _
  | succ d=>simp[nc,eA]
 ·cases d with
  | zero=>trivial
  | succ d=>simp only[rF,eA];exact⟨fun e=>by simp at e,fun y j=>(k y j).1⟩
theorem Df(T:ai)(P:PS->PS×Px)(a:bN T P)(c:dQ T P)(g:nx T P):nx T (PS.rK T P):=fun s b h=>by
 have h1:=c s b h;have j:=Mh T P a c g (T.size+1) (P s).1 [(P s).2] (a s b).2.2.1 h1.1;have f:=LG.all (g s b h) j (wV T P a c (T.size+1) (P s).1 [(P s).2] (a s b).2.2.1 h1.1).2.back;unfold PS.rK;generalize PS.bo T P (T.size+1) (P s).1 [(P s).2]=q at f;obtain⟨m,l⟩:=q;refine AG.FV f (fun d=>?_) (fun d i=>?_)
 ·match l with
  | [x]=>exact ac rfl
  | []=>left;cases d<;>simp[nc,ff]
  | x::y::l=>left;cases d<;>simp[nc,ff]
 ·match l with
  | [x]=>exact(i x aU).2
  | []=>cases d<;>simp[rF,ff]
  | x::y::l =>
   cases d with
   | zero=>trivial
   | succ d=>simp only[rF,ff];exact⟨fun e=>by simp at e,fun z k=>(i z k).1⟩
theorem Of(T:ai)(aa:List ai)(b:aa.length<=7):∀n,nx T (PS.expr T aa n):=by
 intro n
 induction n with
 | zero =>
  have g0:bN T (PS.di T aa (fun s=>(s,eA []))):=c4.2 fun s h=>iu T s _ (gq T aa s h)
  have f0:dQ T (PS.di T aa (fun s=>(s,eA []))):=fun s a h=>m7 T s _ (gq T aa s a).1.2.2 (CL T aa s a h)
  have a0:nx T (PS.di T aa (fun s=>(s,eA []))):=fun s a h=>De T s _ (Mi T aa b s a h)
  exact Df T _ (good_row T _ g0) (Ao T _ g0 f0) (Mf T _ g0 f0 a0)
 | succ n c =>
  have g0:bN T (PS.di T aa (PS.expr T aa n)):=dw T aa _ (ch T aa n);have f0:dQ T (PS.di T aa (PS.expr T aa n)):=fun s a h=>m7 T s _ (pS T aa _ (ch T aa n) s a).1.2.2 (Gg T aa _ (ch T aa n) (kO T aa n) s a h)
  have a0:nx T (PS.di T aa (PS.expr T aa n)):=fun s a h=>De T s _ (Og T aa b _ (ch T aa n) (kO T aa n) c s a h)
  exact Df T _ (good_row T _ g0) (Ao T _ g0 f0) (Mf T _ g0 f0 a0)
theorem Bz(T:ai)(aa:List ai)(i:aa.length<=7)(x:ai)(s:PS)(j:s.p<=T.size)(h:Fz T s)(b:(s.side T aa x).1.f=0)(d:Nat):nc d (s.side T aa x).2<=4/\rF d (s.side T aa x).2:=by
 unfold PS.side at b ⊢;split at b
 ·rename_i c;rw[ag c];exact⟨by rw[xl];omega,wA d⟩
 ·rename_i c;rw[ae c];have h1:=Of T aa i 5 s.zero j h b (Int.le_refl _) (by show (0:Int)<=4;decide);have g:=h1.2 d;have e:s.zero.a=0:=rfl;exact⟨by have:=g.1;have:=h1.1;omega,g.2⟩
theorem JR(T:ai)(aa:List ai)(l:aa.length<=7)(k:T.size<=1000)(n:Nat)(s:PS)(v:s.p<=T.size)(h:Fz T s)(u:(s.ep T aa n).f=0):n≠4/\gY (kY T aa n s):=by
 have y:Fz T (s.dm T n):=h.MI 6;have m:(s.dm T n).p<=T.size/\s.p<=(s.dm T n).p:=D8 v 6;have z2:=y.aK m.1 [eP,cJ];have b:=kd m.1 [eP,cJ];have f3:=l2 T aa (aX 124) _ b.1 z2;have o:=nE T aa (aX 124) _ b.1;have z4:=f3.1.aK o.2 [aX 124];have p4:=kd o.2 [aX 124];have f5:=l2 T aa (aX 59) _ p4.1 z4;have g:(s.lo T aa n).1.f=0:=(bm T [aX 59] _).back u;have t:((s.iB T aa n).1.aK T [aX 124]).f=0:=f5.2.back g;have d:(s.iB T aa n).1.f=0:=(bm T [aX 124] _).back t;have r:((s.dm T n).aK T [eP,cJ]).f=0:=f3.2.back d;have q:(s.dm T n).f=0:=(bm T [eP,cJ] _).back r;have i:=Bz T aa l (aX 124) _ b.1 z2 d 24;have j:=Bz T aa l (aX 59) _ p4.1 z4 g 24;have w:=tq T aa (aX 124) _ b.1 k 24;have x:=tq T aa (aX 59) _ p4.1 k 24;have c:=Cg _ i.2 (aE w (by omega)) i.1;have a:=Cg _ j.2 (aE x (by omega)) j.1;refine⟨fun e=>?_,c.1,a.1,c.2.1 true,a.2.1 false,a.2.1 true,c.2.2,a.2.2⟩;have:(s.dm T n).f≠0:=by unfold PS.dm;rw[ag e];exact Lr T s 6 (by decide)
 exact this q
theorem Hj(T:ai)(aa:List ai)(l:aa.length<=7)(k:T.size<=1000):∀(g:Nat) (s:PS) (L:List bw),s.p<=T.size->Fz T s->(gs T aa g s L).1.f=0->L.length<=4->(∀x∈L,gY x)->(gs T aa g s L).2.length<=4/\∀x∈(gs T aa g s L).2,gY x:=by
 intro g
 induction g with
 | zero=>intro s L _ _ _ h1 b;exact⟨h1,b⟩
 | succ g m =>
  intro s L h j c h1 b;rw[gs]at c ⊢;split at c
  ·rename_i d;rw[ag d];have hg:=ie T aa L.length s h j;have e:=(nK T aa g _ (L++[kY T aa L.length s]) hg.2.2.1 hg.1).back c;have i:=JR T aa l k L.length s h j e;refine m _ _ hg.2.2.1 hg.1 c (by rw[aF];have:=i.1;simp;omega) fun x a=>?_
   rw[aR]at a;rcases a with a|a
   ·exact b x a
   ·simp at a;subst a;exact i.2
  ·rename_i d;rw[ae d];exact⟨h1,b⟩
theorem H0(T:ai)(k:Nat):∀(g:Nat) (s:PS) (l:List (Int×Int×Nat)),s.p<=T.size->Fz T s->Fz T (PS.aM T k g s l).1/\(PS.aM T k g s l).1.p<=T.size:=by
 intro g
 induction g with
 | zero=>intro s l a h;exact⟨h,a⟩
 | succ g b =>
  intro s l a h;rw[PS.aM];split
  ·have h0:=(ga T s a).1.2.2;exact b _ _ (lL (s:=s.step T) h0 l).2.1 ((h.step a).span h0 l)
  ·exact⟨h,a⟩
theorem Cm(T:ai)(aa:List ai)(l:List (Int×Int×Nat))(s:PS)(h:Fz T s)(c:s.p<=T.size):Fz T (s.dG T aa l):=by
 have a:=n1 h c aa;have h1:=lL a.2.1 l;have b:=H0 T aa.length (T.size+1) ((s.c5 T aa).span T l) (l++[((s.c5 T aa).fo T,(s.c5 T aa).dU T,aa.length)]) h1.2.1 (a.1.span a.2.1 l);exact b.1.aK b.2 [aX 59]
theorem qm(T:ai):∀(g:Nat) (r:RD),r.s.p<=T.size->Fz T r.s->Fz T (db T g r).s/\(db T g r).s.p<=T.size/\eV r.s (db T g r).s/\((db T g r).s.f=0->r.aa.length<=6->(db T g r).aa.length<=6):=by
 intro g
 induction g with
 | zero=>intro r a b;exact⟨b,a,eV.refl _,fun _ h=>h⟩
 | succ g d =>
  intro r a b;rw[db];split
  ·have h1:=d ⟨r.s.dG T r.aa r.l,r.aa++[eM T r.aa r.s],(r.s.fD T r.aa r.l).2⟩ (pJ T r.aa r.l r.s b a).1 (Cm T r.aa r.l r.s b a);refine⟨h1.1,h1.2.1,(GZ T r.aa r.l r.s).trans h1.2.2.1,fun c e=>h1.2.2.2 c ?_⟩;have:=qK T r.aa r.l r.s (h1.2.2.1.back c);simp;omega
  ·exact⟨b,a,eV.refl _,fun _ h=>h⟩
theorem J1(T:ai)(h0:(kJ T).err=0):(cv T).2.length<=4/\∀x∈(cv T).2,gY x:=by
 obtain⟨b,c,_⟩:=tA h0;have a:(cv T).1.f=0:=ql c;have g:(ji T).s.p<=T.size:=(gH T 0).2 (aJ _);have h1:=qm T (T.size+1) (ji T) g (fun e=>absurd rfl e);have h:=nK T (bx T).aa (T.size+1) (bx T).s [] h1.2.1 h1.1;have d:=h1.2.2.2 (h.back a) (by show (0:Nat)<=6;omega);exact Hj T (bx T).aa (aE d (by omega)) b (T.size+1) (bx T).s [] h1.2.1 h1.1 a (by simp) (by simp)
theorem vW(T:ai)(k:Nat):∀(g:Nat) (s:PS) (l:List (Int×Int×Nat)),(PS.aM T k g s l).2.length<=l.length+g/\∀o∈(PS.aM T k g s l).2,o∈l\/o.2.2=k:=by
 intro g
 induction g with
 | zero=>intro s l;exact⟨ar _,fun o a=>ah a⟩
 | succ g b =>
  intro s l;rw[PS.aM];split
  ·have h:=b ((s.step T).span T l) (l++[((s.step T).fo T,(s.step T).dU T,k)]);refine⟨by have:=h.1;simp at this;omega,fun o a=>?_⟩;rcases h.2 o a with h1|h1
   ·rw[aR]at h1;rcases h1 with h1|h1
    ·exact ah h1
    ·simp at h1;right;rw[h1]
   ·exact ac h1
  ·exact⟨by show l.length<=_;omega,fun o a=>ah a⟩
theorem BP(T:ai):∀(g:Nat) (r:RD),r.s.p<=T.size->Fz T r.s->(db T g r).s.f=0->r.aa.length<=6->r.l.length<=r.aa.length*(T.size+2)->(∀o∈r.l,o.2.2<8)->(db T g r).l.length<=(db T g r).aa.length*(T.size+2)/\∀o∈(db T g r).l,o.2.2<8:=by
 intro g
 induction g with
 | zero=>intro r _ _ _ _ h1 a;exact⟨h1,a⟩
 | succ g n =>
  intro r d j b t h1 a;rw[db]at b ⊢;split at b
  ·rename_i c;rw[ag c];have e:=(pJ T r.aa r.l r.s j d).1;have k:=Cm T r.aa r.l r.s j d;have hc:=qm T g ⟨r.s.dG T r.aa r.l,r.aa++[eM T r.aa r.s],(r.s.fD T r.aa r.l).2⟩ e k;have q:=qK T r.aa r.l r.s (hc.2.2.1.back b);have i:=vW T r.aa.length (T.size+1) ((r.s.c5 T r.aa).span T r.l) (r.l++[((r.s.c5 T r.aa).fo T,(r.s.c5 T r.aa).dU T,r.aa.length)]);refine n _ e k b (by simp;omega) ?_ fun o m=>?_
   ·have:=i.1;show ((r.s.fD T r.aa r.l).2).length<=(r.aa++[eM T r.aa r.s]).length*(T.size+2);unfold PS.fD;rw[aF,List.length_singleton]at this;rw[aF,List.length_singleton,Nat.add_mul];omega
   ·rcases i.2 o m with h|h
    ·rw[aR]at h;rcases h with h|h
     ·exact a o h
     ·simp at h;rw[h];show r.aa.length<8;omega
    ·omega
  ·rename_i c;rw[ae c];exact⟨h1,a⟩
theorem v6(T:ai)(h0:(kJ T).err=0):(bx T).l.length<=100000/\∀o∈(bx T).l,o.2.2<8:=by
 obtain⟨m,h,_⟩:=tA h0;have g:(cv T).1.f=0:=ql h;have c:(ji T).s.p<=T.size:=(gH T 0).2 (aJ _);have d:Fz T (ji T).s:=fun e=>absurd rfl e
 have h1:=qm T (T.size+1) (ji T) c d;have k:=nK T (bx T).aa (T.size+1) (bx T).s [] h1.2.1 h1.1;have b:=k.back g;have i:(bx T).aa.length<=6:=h1.2.2.2 b (by show (0:Nat)<=6;omega);have a:=BP T (T.size+1) (ji T) c d b (by show (0:Nat)<=6;omega) (by show (0:Nat)<=_;omega) (fun o j=>by have:o∈([]:List (Int×Int×Nat)):=j;simp at this);refine⟨aE a.1 ?_,a.2⟩;have:(bx T).aa.length*(T.size+2)<=6*1002:=h2 i (by omega);exact aE this (by omega)
end Go.Proofs.YtodagkkjfipbgaaGreatDoor
