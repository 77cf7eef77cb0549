import Derived.Test.YtodagkkjfipbgaaGreatDoorJ6toM3
set_option maxRecDepth 100000
set_option maxHeartbeats 8000000
namespace Go.Proofs.YtodagkkjfipbgaaGreatDoor
open Go.RowKit Go.Maps Go.Proofs.Tryz
def Mz(g:List (List (Nat×Nat)))(a:Nat)(W:World)(r:Ending)(w':World):Prop:=∃b,r=.returned (.map (some b))/\W.heap.size<=b/\be w' b g.length (a6 g a)/\Below W.heap.size W w'
theorem Al(S:List St)(hS:AZ S)(hc:(fp true S).length<=4)(v:Value)(first d:Nat)(w:World)(t:mx w v (av true S))(J:first<S.length)(K:d<S.length):Calls prog 181 #[v,.int .i64 first,.int .i64 d] w (dY (B1 (av true S) d) d [a6 (av true S) first,fun _=>False] id w):=by
 have hg:=wM true S hS;have x:=fA true S;have hlen:=hS.len;have F:Hid (mx w v (av true S)):=t;obtain⟨g,au,N,_⟩:=t.form;rw[x]at N;subst N;have q:Hid ((av true S).length=S.length):=x;clear t x;have a4:∀(args:Array Value) (w:World),(callFunc 211 args).run prog w=.ok (.enter 211 args) w:=enters_of func211 (by kernel_rfl) rfl;have b2:=@run_makeMap prog;go_enter func181,ntmps181;obtain⟨a,k⟩:∃a,a=(w.alloc (.cells #[.slice g S.length au] 229)).alloc (.cells #[.int .i64 d] 3):=⟨_,rfl⟩;have P:Hid (a=(w.alloc (.cells #[.slice g S.length au] 229)).alloc (.cells #[.int .i64 d] 3)):=k;have b0:Below w.heap.size w a:=by rw[k];exact(af w _).alloc (by simp) _
 have a9:a.heap.size=w.heap.size+2:=by rw[k];simp
 have z:a.heap[w.heap.size]?=some (.cells #[.slice g S.length au] 229 (0,0)):=by rw[k,aW _ _ _ (by simp)];exact aw w _
 have A:a.heap[w.heap.size+1]?=some (.cells #[.int .i64 d] 3 (0,0)):=by rw[k];exact(show ((w.alloc (.cells #[.slice g S.length au] 229)).heap.size)=w.heap.size+1 by simp)▸aw (w.alloc _) _
 have E:Hid (∀W,Below a.heap.size a W->Calls prog 180 #[.slice g S.length au,.int .i64 first] W (Mz (av true S) first W)):=fun W hb=>CA (av true S) hg _ W first (F.out.below (b0.trans (hb.mono b0.size))) (by rw[q.out];exact J)
 have G:Hid (∀(X:World) (b e:Nat),Below a.heap.size a X->be X b (av true S).length (a6 (av true S) first)->be X e (av true S).length (fun _=>False) ->
   Calls prog 179 #[.func (.func 211) #[] #[.pointer (some ⟨w.heap.size+1,0,none⟩),.pointer (some ⟨w.heap.size,0,none⟩)],.int .i64 d,.slice (some ⟨X.heap.size,0,none⟩) 2 2] (X.alloc (.cells #[.map (some b),.map (some e)] 296))
    (dY (B1 (av true S) d) d [a6 (av true S) first,fun _=>False] id w)):=by
  intro X b e u hb a3;have a8:=u.size;have B:Below w.heap.size w (X.alloc (.cells #[.map (some b),.map (some e)] 296)):=(b0.trans (u.mono b0.size)).alloc (by omega) _;have C:Below a.heap.size a (X.alloc (.cells #[.map (some b),.map (some e)] 296)):=u.alloc a8 _;have R:iR (X.alloc (.cells #[.map (some b),.map (some e)] 296)) X.heap.size (.slice (some ⟨X.heap.size,0,none⟩) 2 2) (av true S).length [a6 (av true S) first,fun _=>False] [b,e]:=by
   refine⟨rfl,⟨rfl,ac ⟨X.heap.size,2,_,rfl,ar _,aw X _,by simp,by unfold maxLen;omega,rfl,rfl⟩⟩,?_⟩;intro i c T hc h
   match i with
   | 0=>simp at hc h;subst hc;subst h;exact hb.below (af X _)
   | 1=>simp at hc h;subst hc;subst h;exact a3.below (af X _)
   | i+2=>simp at hc
  have Q:=Cu (av true S) hg (.slice g S.length au) d (w.heap.size+1) w.heap.size X.heap.size w _ (xo S first d) F.out B (by omega) (by rw[q.out];exact K)
   (by rw[C.block _ (by omega)];exact A) (by rw[C.block _ (by omega)];exact z) (by omega) (by omega)
  have V:=yc X.heap.size _ 211 (w.heap.size+1) w.heap.size (av true S).length d (B1 (av true S) d) (xo S first d) [a6 (av true S) first,fun _=>False] _ [b,e] a4 Q (ID S hS first d J K) (aE (Dc S first d hc) (by omega)) (by rw[q.out];exact hlen) (by omega) R
   ⟨by
    rw[mh];refine⟨fun L=>?_,by simp⟩;simp at L;have M:a6 (av true S) first first:=c2 _ _;have:=congrFun L first;rw[this]at M;exact M,fun T h=>by
    unfold xo;simp at h;rcases h with rfl|rfl
    ·exact aU
    ·exact b6 _ aU,kw _⟩ (by simp)
  refine V.mono ?_;rintro r b7 ⟨v4,bP,l,rfl,a2,a7,I,a1,a0⟩;exact⟨v4,bP,l,rfl,bX a2 (by omega),a7,I.pre,aE I.len (Dc S first d hc),a1,B.trans (a0.mono (by omega))⟩
 have m1:a.cell? ⟨w.heap.size,0,none⟩=some (.slice g S.length au):=ab z 0 _ rfl;have m2:a.cell? ⟨w.heap.size+1,0,none⟩=some (.int .i64 (d:Nat)):=ab A 0 _ rfl;have b4:=fun o=>((af a o).cell (p:=⟨w.heap.size,0,none⟩) (by show w.heap.size<_;omega)).trans m1
 have b5:=fun o=>((af a o).cell (p:=⟨w.heap.size+1,0,none⟩) (by show w.heap.size+1<_;omega)).trans m2
 clear k z A;go_wp2_with fail;rw[<- P.out]
 go_region_law (first
  | (refine o3 rfl 180 (.tmp 11) (.tmp 12) _ rfl (enters_of func180 (by kernel_rfl) rfl) (.slice g S.length au) (.int .i64 first) (by simp[Act.eval]) (by simp[Act.eval]) _ (E.out _ ((aB _ _).drew)) ?_
     rintro e W1 ⟨b,rfl,a5,n,m⟩;refine⟨_,rfl,?_⟩;have s:Hid (be W1 b (av true S).length (a6 (av true S) first)):=n;have f:Hid (Below a.heap.size a W1):=dW m;have y:=(f.out.cell (p:=⟨w.heap.size+1,0,none⟩) (by show w.heap.size+1<_;omega)).trans m2;have O:=fun o=>((af W1 o).cell (p:=⟨w.heap.size+1,0,none⟩) (by show w.heap.size+1<_;have:=f.out.size;omega)).trans y
     have b3:=fun o b1=>((af (W1.alloc o) b1).cell (p:=⟨w.heap.size+1,0,none⟩) (by show w.heap.size+1<_;have:=f.out.size;simp;omega)).trans (O o)
     clear n m)
  | (refine o3 rfl 180 (.tmp 11) (.tmp 12) _ rfl (enters_of func180 (by kernel_rfl) rfl) (.slice g S.length au) (.int .i64 first) (by simp[Act.eval]) (by simp[Act.eval]) _ (E.out _ ((af a (.map #[] 0)).drew)) ?_
     rintro e W1 ⟨b,rfl,a5,n,m⟩;refine⟨_,rfl,?_⟩;have s:Hid (be W1 b (av true S).length (a6 (av true S) first)):=n;have D:Hid (Below (a.alloc (.map #[] 0)).heap.size (a.alloc (.map #[] 0)) W1):=dW m;have f:Hid (Below a.heap.size a W1):=(af a _).trans (D.out.mono (by simp));have U:Hid (be W1 (w.heap.size+2) (av true S).length (fun _=>False)):=by rw[<- a9];exact be.below ⟨_,mJ a _⟩ D.out
     have y:=(f.out.cell (p:=⟨w.heap.size+1,0,none⟩) (by show w.heap.size+1<_;omega)).trans m2;have O:=fun o=>((af W1 o).cell (p:=⟨w.heap.size+1,0,none⟩) (by show w.heap.size+1<_;have:=f.out.size;omega)).trans y
     clear n m)
  | (refine j5 rfl 179 (.tmp 9) (.tmp 10) (.tmp 15) _ rfl (enters_of func179 (by kernel_rfl) rfl) _ (.int .i64 (d:Nat)) _ (by simp[Act.eval]) (by simp[Act.eval]) (by simp[Act.eval]) _ (G.out (W1.alloc (.map #[] 0)) b W1.heap.size (f.out.alloc f.out.size _) (s.out.below (af W1 _)) ⟨_,mJ W1 _⟩) ?_
     rintro e W2 ⟨v4,bP,l,rfl,j⟩;refine⟨v4,rfl,?_⟩;have H:Hid (dY (B1 (av true S) d) d [a6 (av true S) first,fun _=>False] id w (.returned v4) W2):=⟨v4,bP,l,rfl,j⟩;obtain⟨Y,Z,rfl⟩:=ak j.1;clear j)
  | (refine j5 rfl 179 (.tmp 9) (.tmp 10) (.tmp 15) _ rfl (enters_of func179 (by kernel_rfl) rfl) _ (.int .i64 (d:Nat)) _ (by simp[Act.eval]) (by simp[Act.eval]) (by simp[Act.eval]) _ (G.out W1 b (w.heap.size+2) f.out s.out U.out) ?_
     rintro e W2 ⟨v4,bP,l,rfl,j⟩;refine⟨v4,rfl,?_⟩;have H:Hid (dY (B1 (av true S) d) d [a6 (av true S) first,fun _=>False] id w (.returned v4) W2):=⟨v4,bP,l,rfl,j⟩;obtain⟨Y,Z,rfl⟩:=ak j.1;clear j))
 all_goals go_wp2_with fail
 all_goals go_ret
 all_goals exact H.out
theorem D9(S:List St)(hS:AZ S)(hc:(fp true S).length<=4)(o:Value)(n:List Value)(first:Nat)(w:World)(j:dH w 0 o S n)(J:first<S.length):Calls prog 138 #[.agg #[o,.int .i64 first]] w (dY (B1 (av true S) 0) 0 [a6 (av true S) first,fun _=>False] (fun v=>.agg #[v]) w):=by
 have E:Hid (dH w 0 o S n):=j;have O:=hS.len;obtain⟨b,au,rfl⟩:=ak j.row;clear j;obtain⟨a,c⟩:∃a,a=(w.alloc (.cells #[.slice b S.length au,.int .i64 first] 146)).alloc (.cells #[.slice none 0 0] 231):=⟨_,rfl⟩;have F:Hid (a=(w.alloc (.cells #[.slice b S.length au,.int .i64 first] 146)).alloc (.cells #[.slice none 0 0] 231)):=c;have b0:Below w.heap.size w a:=by rw[c];exact(af w _).alloc (by simp) _
 have L:a.heap.size=w.heap.size+2:=by rw[c];simp
 have l:a.heap[w.heap.size]?=some (.cells #[.slice b S.length au,.int .i64 first] 146 (0,0)):=by rw[c,aW _ _ _ (by simp)];exact aw w _
 have m:a.heap[w.heap.size+1]?=some (.cells #[.slice none 0 0] 231 (0,0)):=by rw[c];exact(show ((w.alloc (.cells #[.slice b S.length au,.int .i64 first] 146)).heap.size)=w.heap.size+1 by simp)▸aw (w.alloc _) _
 have P1:Hid (a.heap[w.heap.size+1]?=some (.cells #[.slice none 0 0] 231 (0,0))):=m;have A:Hid (Below w.heap.size w a):=b0;have D:Hid (Calls prog 136 #[.agg #[.slice b S.length au,.int .i64 first]] a.drew (My (av true S) a.drew)):=yL S _ n first a.drew (E.out.later b0.drew) hS;have m0:a.cell? ⟨w.heap.size,0,none⟩=some (.slice b S.length au):=ab l 0 _ rfl;have m1:a.cell? ⟨w.heap.size,1,none⟩=some (.int .i64 (first:Nat)):=ab l 1 _ rfl;have R:a.cell? ⟨w.heap.size+1,0,none⟩=some (.slice none 0 0):=ab m 0 _ rfl;clear c b0 l m;go_enter func138,ntmps138;go_wp2_with fail;rw[<- F.out]
 go_region_law (first
  | (refine lm rfl 136 (.tmp 3) _ rfl (enters_of func136 (by kernel_rfl) rfl) (.agg #[.slice b S.length au,.int .i64 first]) (by simp[Act.eval]) _ D.out ?_
     rintro e W1 ⟨z,rfl,i,r⟩;refine⟨z,rfl,?_⟩;have C:Hid (mx W1 z (av true S)):=i;have f:Hid (Below a.heap.size a W1):=dW r;have P:=(f.out.cell (p:=⟨w.heap.size,1,none⟩) (by rw[L];show w.heap.size<_;omega)).trans m1;obtain⟨M,N,rfl,_⟩:=i.form;clear i r)
  | (refine j5 rfl 181 (.tmp 4) (.tmp 6) (.const (.int .i64 0)) _ rfl (enters_of func181 (by kernel_rfl) rfl) _ (.int .i64 (first:Nat)) (.int .i64 0) (by simp[Act.eval]) (by simp[Act.eval]) (by simp[Act.eval]) _ (Al S hS hc _ first 0 W1 C.out J (by omega)) ?_
     rintro e W2 ⟨v2,bP,d,rfl,k,u,y,x,t,s⟩;refine⟨v2,rfl,?_⟩;have q:Hid (Below a.heap.size a W2):=f.out.trans (s.mono f.out.size);have B:Hid (Below w.heap.size w W2):=A.out.trans (q.out.mono (by omega));have G:Hid (bz w.heap.size W2 v2 bP):=bX k (aE (by omega) f.out.size);have g:Hid (bP.length=d.length/\[a6 (av true S) first,fun _=>False] <+: d/\d.length<=20/\iQ (B1 (av true S) 0) 0 d bP):=⟨u,y,x,t⟩;have h:Hid (W2.heap[w.heap.size+1]?=some (.cells #[.slice none 0 0] 231 (0,0))):=by show _=_;rw[q.out.block _ (by omega)];exact P1.out
     have Q:=ab h.out 0 _ rfl;have f2:=aq h.out;obtain⟨H,I,K⟩:=ak k;subst K;clear k u y x t s))
 all_goals go_wp2_with fail
 all_goals refine bodyPost_ret (kx rfl _ _ (w.heap.size+1) 231 #[.slice H bP.length I] (0,0) _ rfl ((am h.out 0 _).trans rfl) Tryz.underlying231 rfl (by kernel_rfl)) rfl ?_
 all_goals exact⟨_,bP,d,rfl,al G.out ((Kp.refl _ _).setCell h.out (by decide) _),g.out.1,g.out.2.1,g.out.2.2.1,g.out.2.2.2,B.out.setCell (by show w.heap.size<=w.heap.size+1;omega) _⟩
theorem Tryz.Pz:(prog.info? 157).map (fun i=>(i.zero,i.size,i.bytes))=some (some (.agg #[.bool false,.slice none 0 0,.slice none 0 0]),3,56):=by kernel_rfl
theorem Tryz.Qz:prog.underlying 87=some (.slice 157):=by kernel_rfl
def ma(w:World)(v:Value)(d:(Nat->Prop)->Nat->Nat->Prop)(c:Nat)(b:List (Nat->Prop)):Prop :=
 ∃bP a,bz 0 w v bP/\bP.length=a.length/\b <+: a/\a.length<=20/\iQ d c a bP
def nj(w:World)(v:Value)(S:List St)(first:Nat):Prop:=ma w v (xT (av true S) first) 0 [a6 (av true S) first]
def md(w:World)(v:Value)(S:List St)(first:Nat):Prop:=ma w v (xT (av false S) 0) first [a6 (av false S) 0]
theorem ma.tE{w w':World}{v:Value}{i:(Nat->Prop)->Nat->Nat->Prop}{g:Nat}{d:List (Nat->Prop)}(h:ma w v i g d)(o:Kp 341 w w'):ma w' v i g d:=by
 obtain⟨bP,j,h1,n⟩:=h;exact⟨bP,j,al h1 o,n⟩
theorem ma.of{w w':World}{r:Ending}{q:(Nat->Prop)->Nat->Nat->Prop}{i:Nat}{g:List (Nat->Prop)}{o:Value->Value}(h:dY q i g o w r w'):∃v d n au,r=.returned (o v)/\v=.slice d n au/\ma w' v q i g/\Below w.heap.size w w':=by
 obtain⟨v,bP,t,h1,j,u,x,y,A,B⟩:=h;obtain⟨d,au,e⟩:=ak j;exact⟨v,d,_,au,h1,e,⟨bP,t,bX j (aJ _),u,x,y,A⟩,B⟩
structure gY (L:bw):Prop where
 sl:AZ L.SL
 sr:AZ L.SR
 cl:(fp true L.SL).length<=4
 cr:(fp false L.SR).length<=4
 cf:(fp true L.SR).length<=4
 fl:L.fL<L.SL.length
 fr:L.fR<L.SR.length
def dV(a:List bw)(b:List (Value×Value)):List Value:=(a.zip b).flatMap fun o=>[.bool o.1.cut,o.2.1,o.2.2]
def xN(base:Nat)(w:World)(v:Value)(a:List bw):Prop :=
 ∃b:List (Value×Value),b.length=a.length/\w.ownsRow base 157 3 v a.length (dV a b)/\∀(i:Nat) (L:bw) (u:Value×Value),a[i]?=some L->b[i]?=some u->nj w u.1 L.SL L.fL/\md w u.2 L.SR L.fR
theorem r4(a:List bw)(b:List (Value×Value))(L:bw)(v:Value×Value)(h:b.length=a.length):dV (a++[L]) (b++[v])=dV a b++[.bool L.cut,v.1,v.2]:=by
 unfold dV;rw[List.zip_append h.symm];simp
theorem xN.kp{base:Nat}{w w':World}{v:Value}{d:List bw}(h:xN base w v d)(q:Kp 157 w w')(n:Kp 341 w w'):xN base w' v d:=by
 obtain⟨t,h1,o,g⟩:=h;exact⟨t,h1,al o q,fun i L u j hu=>⟨(g i L u j hu).1.tE n,(g i L u j hu).2.tE n⟩⟩
theorem xN.nil(base:Nat)(w:World):xN base w (.slice none 0 0) []:=⟨[],rfl,cq _ _ _ _,fun i L u d=>by simp at d⟩
theorem zr:∀(c:List bw) (b:List (Value×Value)) (i:Nat) (L:bw) (v:Value×Value),c[i]?=some L->b[i]?=some v ->(cD c b)[i*5]?=some (.bool L.cut)/\(cD c b)[i*5+1]?=some v.1/\(cD c b)[i*5+2]?=some (.int .i64 (L.fL:Nat))/\(cD c b)[i*5+3]?=some v.2/\(cD c b)[i*5+4]?=some (.int .i64 (L.fR:Nat)):=by
 intro c
 induction c with
 | nil=>intro b i L v h;simp at h
 | cons a c g =>
  intro b i L v h1 d;cases b with
  | nil=>simp at d
  | cons u b =>
   cases i with
   | zero=>simp at h1 d;subst h1;subst d;simp[cD]
   | succ i =>
    simp at h1 d;have:=g b i L v h1 d;have e:∀k,(cD (a::c) (u::b))[(i+1)*5+k]?=(cD c b)[i*5+k]?:=by
     intro k;rw[show (i+1)*5+k=(i*5+k)+5 from by omega];rfl
    have f:=e 0;simp only[k8]at f;rw[f,e 1,e 2,e 3,e 4];exact this
theorem qR.form{base:Nat}{w:World}{vL:Value}{d:List bw}(h:qR base w vL d):∃E au,vL=.slice E d.length au/\∀i (hi:i<d.length),∃g n q o t A B,E=some ⟨g,0,none⟩/\g<w.heap.size/\dH w 0 (.slice n d[i].SL.length q) d[i].SL A/\dH w 0 (.slice o d[i].SR.length t) d[i].SR B /\w.cell? ⟨g,i*5,none⟩=some (.bool d[i].cut)/\w.cell? ⟨g,i*5+1,none⟩=some (.slice n d[i].SL.length q)/\w.cell? ⟨g,i*5+2,none⟩=some (.int .i64 (d[i].fL:Nat))/\w.cell? ⟨g,i*5+3,none⟩=some (.slice o d[i].SR.length t)/\w.cell? ⟨g,i*5+4,none⟩=some (.int .i64 (d[i].fR:Nat)):=by
 obtain⟨C,P,⟨N,H⟩,I⟩:=h;rcases H with⟨y,K⟩|⟨g,au,M,y,hg,j,O,Q,R,J⟩
 ·exact⟨none,0,by rw[y,K],fun i hi=>by omega⟩
 ·refine⟨some ⟨g,0,none⟩,au,y,fun i hi=>?_⟩;obtain⟨u,hu⟩:∃u,C[i]?=some u:=⟨C[i]'(by omega),ax (by omega)⟩;obtain⟨⟨A,v⟩,B,x⟩:=I i _ u (ax hi) hu;obtain⟨n,q,F⟩:=ak v.row;obtain⟨o,t,G⟩:=ak x.row;rw[F]at v;rw[G]at x;have hc:=zr d C i _ u (ax hi) hu;rw[<- J,bJ,bJ,bJ,bJ,bJ,ag (by omega),ag (by omega),ag (by omega),ag (by omega),ag (by omega),F,G]at hc;exact⟨g,n,q,o,t,A,B,rfl,an j,v,x,ab j _ _ (by simpa using hc.1),ab j _ _ (by simpa using hc.2.1),ab j _ _ (by simpa using hc.2.2.1),ab j _ _ (by simpa using hc.2.2.2.1),ab j _ _ (by simpa using hc.2.2.2.2)⟩
theorem GU(w:World)(c:Bool)(a b:Value):∀(j:Nat) (u:Value),[Value.bool c,a,b][j]?=some u->(w.alloc (.cells #[.bool c,a,b] 157)).cell? ⟨w.heap.size,j,none⟩=some u:=fun j u hu=>ab (aw w _) j u (by simpa using hu)
theorem yb(c:Bool)(a b:Value)(d:a.oneCell'=true)(hb:b.oneCell'=true):∀u∈[Value.bool c,a,b],u.oneCell'=true:=by
 intro u hu;simp at hu;rcases hu with rfl|rfl|rfl
 ·rfl
 ·exact d
 ·exact hb
theorem xN.push{base:Nat}{w w':World}{v t j n:Value}{d:List bw}{g:List (Value×Value)}{L:bw}(h1:g.length=d.length)(q:∀(i:Nat) (L:bw) (u:Value×Value),d[i]?=some L->g[i]?=some u->nj w u.1 L.SL L.fL/\md w u.2 L.SR L.fR) (C:w.ownsRow base 157 3 v d.length (dV d g)) (hg:w.grownBy w' v.ownBlock) (y:nj w j L.SL L.fL) (B:md w n L.SR L.fR) (A:w'.ownsRow base 157 3 t (d.length+1) (dV d g++[.bool L.cut,j,n])):xN base w' t (d++[L]):=by
 have k:Kp 341 w w':=(Kp.refl _ w).grown C hg (by decide);refine⟨g++[(j,n)],by simp[h1],by rw[r4 _ _ _ _ h1,aF];exact A,?_⟩;intro i o u x hu;rcases bD x with⟨h,a2⟩|⟨h,rfl⟩
 ·rcases bD hu with⟨b1,b2⟩|⟨b1,rfl⟩
  ·exact⟨(q i o u h b1).1.tE k,(q i o u h b1).2.tE k⟩
  ·omega
 ·rcases bD hu with⟨b1,b2⟩|⟨b1,rfl⟩
  ·omega
  ·exact⟨y.tE k,B.tE k⟩
end Go.Proofs.YtodagkkjfipbgaaGreatDoor
namespace Go.Proofs.YtodagkkjfipbgaaGreatDoor
open Go.RowKit Go.Proofs.Tryz
abbrev l9:=List (Bool×List Nat)
abbrev bY:=Bool×List Nat
def bG(t:l9)(i:Nat):Bool:=((t[i]?).map Prod.fst).getD false
def cm(t:l9)(i k:Nat):Nat:=((t[i]?).bind fun r=>r.2[k]?).getD 0
structure dh (t:l9):Prop where
 iL:t.length<=20
 pos:1<=t.length
 row:∀r∈t,r.2.length=8/\∀n∈r.2,n<t.length
structure nn where
 cut:Bool
 tl:l9
 tr:l9
structure fh (r:nn):Prop where
 two:2<=r.tr.length
 l:dh r.tl
 r:dh r.tr
abbrev AJ:=List nn
def ov(J:AJ)(j:Nat):l9:=((J[j]?).map nn.tl).getD []
def n5(J:AJ)(j:Nat):l9:=((J[j]?).map nn.tr).getD []
def Gq(J:AJ)(j:Nat):Bool:=((J[j]?).map nn.cut).getD true
theorem lI{J:AJ}{j:Nat}(h:j<J.length):ov J j=J[j].tl:=by unfold ov;rw[ax h];rfl
theorem hG{J:AJ}{j:Nat}(h:j<J.length):n5 J j=J[j].tr:=by unfold n5;rw[ax h];rfl
theorem LI{J:AJ}{j:Nat}(h:j<J.length):Gq J j=J[j].cut:=by unfold Gq;rw[ax h];rfl
def ey(n:Nat)(f:Nat->Nat->Nat)(l:List Nat):List Nat:=l.mapIdx fun j x=>if j<n then f j x else x
theorem fy(n:Nat)(f:Nat->Nat->Nat)(l:List Nat):(ey n f l).length=l.length:=by unfold ey;simp
theorem eS(n:Nat)(f:Nat->Nat->Nat)(l:List Nat)(i:Nat):(ey n f l)[i]?=(l[i]?).map fun x=>if i<n then f i x else x:=by unfold ey;rw[mn]
theorem oA(f:Nat->Nat->Nat)(l:List Nat):ey 0 f l=l:=by
 apply gh;intro i;rw[eS];cases l[i]?<;>simp
theorem lW{n:Nat}{f:Nat->Nat->Nat}{l:List Nat}{x:Nat}(h:l[n]?=some x):ey (n+1) f l=(ey n f l).set n (f n x):=by
 apply gh;intro i;rw[eS,ml,fy,eS];have a:=(a1.1 h).1
 by_cases e:n=i
 ·subst e;rw[ag rfl,ag a,h];simp
 ·rw[ae e];cases l[i]? with
  | none=>rfl
  | some y =>
   simp only[cU,h3]
   by_cases h1:i<n
   ·rw[ag (by omega),ag h1]
   ·rw[ae (by omega),ae h1]
theorem oB{n:Nat}(f:Nat->Nat->Nat){l:List Nat}{i:Nat}(h:n<=i):(ey n f l)[i]?=l[i]?:=by
 rw[eS];cases l[i]? with
 | none=>rfl
 | some y=>simp only[cU];rw[ae (by omega)]
def km(J:AJ)(l:List Nat):Nat->Nat->Nat
 | 0,i=>i
 | n+1,i=>if bG (n5 J i) ((l[i]?).getD 0)=true then i else km J l n (i+1)
def hQ(J:AJ)(l:List Nat):Nat:=km J l J.length 0
theorem H7(J:AJ)(l:List Nat):∀n i,i<=km J l n i/\km J l n i<=i+n:=by
 intro n
 induction n with
 | zero=>intro i;exact⟨ar _,ar _⟩
 | succ n a =>
  intro i;rw[km];split
  ·omega
  ·have:=a (i+1);omega
theorem yN(J:AJ)(l:List Nat):hQ J l<=J.length:=by have:=H7 J l J.length 0;unfold hQ;omega
def h7(f n:Nat)(l:List Nat):List Nat:=ey n (fun j x=>if f<j then 1 else x) l
def mB(J:AJ)(x:bY):bY:=(x.1,h7 (hQ J x.2) J.length x.2)
def k0(J:AJ)(x:bY)(k:Nat):bY:=(true,ey J.length (fun j v=>cm (ov J j) v k) x.2)
def dT(J:AJ)(n:Nat)(l:List Nat):List Nat:=ey n (fun j _=>if bG (ov J j) ((l[j]?).getD 0)=true then 0 else 1) [0,0,0,0]
def kU(J:AJ)(x:bY):bY:=mB J (false,dT J J.length x.2)
def OI(J:AJ)(k n:Nat)(l:List Nat):List Nat:=ey n (fun j v=>cm (n5 J j) v k) l
def mQ(J:AJ)(x:bY)(k:Nat):bY:=mB J (true,OI J k J.length x.2)
def xa(J:AJ)(x:bY):Bool:=!x.1||(hQ J x.2==J.length)||Gq J (hQ J x.2)
structure x3 (eK:Nat->Nat) (n:Nat) (x:bY):Prop where
 len:x.2.length=4
 lt:∀j v,x.2[j]?=some v->v<20/\(j<n->v<eK j)
def HF(J:AJ)(j:Nat):Nat:=(ov J j).length
def xX(J:AJ)(j:Nat):Nat:=(n5 J j).length
abbrev nh(J:AJ)(x:bY):Prop:=x3 (HF J) J.length x
abbrev dl(J:AJ)(x:bY):Prop:=x3 (xX J) J.length x
theorem x3.at_{eK:Nat->Nat}{n:Nat}{x:bY}(h:x3 eK n x){j:Nat}(g:j<4):∃v,x.2[j]?=some v/\v<20/\(j<n->v<eK j):=by
 obtain⟨v,d⟩:∃v,x.2[j]?=some v:=⟨x.2[j]'(by rw[h.len];exact g),ax _⟩;exact⟨v,d,h.lt j v d⟩
theorem li{t:l9}(a:dh t){i k:Nat}(hi:i<t.length):cm t i k<t.length:=by
 unfold cm;rw[ax hi];simp only[Option.bind_some];cases b:(t[i].2)[k]? with
 | none=>simp;have:=a.pos;omega
 | some n=>simp;exact(a.row _ (bl hi)).2 n (bC b)
theorem Ht(J:AJ)(c:∀r∈J,fh r)(b:Bool):nh J (b,[0,0,0,0]):=by
 refine⟨rfl,fun j v d=>?_⟩;have e:v=0:=by
  have:=bC d;simp at this;exact this
 subst e;refine⟨by omega,fun a=>?_⟩;unfold HF;rw[lI a];have:=(c _ (bl a)).l.pos;omega
theorem Cl{J:AJ}(f:∀r∈J,fh r){x:bY}(h:nh J x)(k:Nat):nh J (k0 J x k):=by
 refine⟨(fy _ _ _).trans h.len,fun j v a=>?_⟩;unfold k0 at a;rw[eS]at a;cases d:x.2[j]? with
 | none=>rw[d]at a;simp at a
 | some u =>
  rw[d]at a;have h1:=h.lt j u d;simp only[cU,h3]at a
  by_cases b:j<J.length
  ·rw[ag b]at a;have hg:=(f _ (bl b)).l;have c:=h1.2 b;unfold HF at c;rw[lI b]at c a;have:=li hg (k:=k) c;unfold HF;rw[lI b];have:=hg.iL;exact⟨by omega,fun _=>by omega⟩
  ·rw[ae b]at a;subst a;exact⟨h1.1,fun e=>absurd e b⟩
theorem ti{J:AJ}(d:∀r∈J,fh r){x:bY}(h:dl J x):dl J (mB J x):=by
 refine⟨(fy _ _ _).trans h.len,fun j v a=>?_⟩;unfold mB h7 at a;rw[eS]at a;cases c:x.2[j]? with
 | none=>rw[c]at a;simp at a
 | some u =>
  rw[c]at a;have h1:=h.lt j u c;simp only[cU,h3]at a
  by_cases b:j<J.length
  ·rw[ag b]at a;split at a
   ·subst a;refine⟨by omega,fun _=>?_⟩;unfold xX;rw[hG b];have:=(d _ (bl b)).two;omega
   ·subst a;exact h1
  ·rw[ae b]at a;subst a;exact h1
theorem Bn{J:AJ}(c:∀r∈J,fh r)(x:bY):dl J (kU J x):=by
 refine ti c ⟨fy _ _ _,fun j v a=>?_⟩;unfold dT at a;rw[eS]at a;cases b:([0,0,0,0]:List Nat)[j]? with
 | none=>rw[b]at a;simp at a
 | some u =>
  rw[b]at a;simp only[cU,h3]at a;have hu:u=0:=by have:=bC b;simp at this;exact this
  have e:v<=1:=by
   split at a
   ·split at a<;>omega
   ·omega
  refine⟨by omega,fun d=>?_⟩;unfold xX;rw[hG d];have:=(c _ (bl d)).two;omega
theorem FZ{J:AJ}(f:∀r∈J,fh r){x:bY}(h:dl J x)(k:Nat):dl J (mQ J x k):=by
 refine ti f ⟨(fy _ _ _).trans h.len,fun j v a=>?_⟩;unfold OI at a;rw[eS]at a;cases d:x.2[j]? with
 | none=>rw[d]at a;simp at a
 | some u =>
  rw[d]at a;have h1:=h.lt j u d;simp only[cU,h3]at a
  by_cases b:j<J.length
  ·rw[ag b]at a;have hg:=(f _ (bl b)).r;have c:=h1.2 b;unfold xX at c;rw[hG b]at c a;have:=li hg (k:=k) c;unfold xX;rw[hG b];have:=hg.iL;exact⟨by omega,fun _=>by omega⟩
  ·rw[ae b]at a;subst a;exact⟨h1.1,fun e=>absurd e b⟩
def yT(x:bY):Nat:=(if x.1 then 1 else 0)+2*((x.2[0]?).getD 0+20*((x.2[1]?).getD 0+20*((x.2[2]?).getD 0+20*(x.2[3]?).getD 0)))
theorem four{l:List Nat}(h:l.length=4):∃a b c d,l=[a,b,c,d]:=by
 match l,h with
 | [a,b,c,d],_=>exact⟨a,b,c,d,rfl⟩
theorem LM{eK:Nat->Nat}{n:Nat}{x:bY}(h:x3 eK n x):yT x<320000:=by
 obtain⟨b,l⟩:=x;obtain⟨p,q,r,s,e⟩:=four h.len;simp only at e;subst e;have h0:=(h.lt 0 p rfl).1;have h1:=(h.lt 1 q rfl).1;have a:=(h.lt 2 r rfl).1;have c:=(h.lt 3 s rfl).1;unfold yT;simp;split<;>omega
theorem Ig{eK:Nat->Nat}{n:Nat}{x y:bY}(h:x3 eK n x)(k:x3 eK n y)(e:yT x=yT y):x=y:=by
 obtain⟨b,l⟩:=x;obtain⟨a,z⟩:=y;obtain⟨p,q,r,s,c⟩:=four h.len;obtain⟨f,g,i,j,d⟩:=four k.len;simp only at c d;subst c;subst d;have h0:=(h.lt 0 p rfl).1;have h1:=(h.lt 1 q rfl).1;have m:=(h.lt 2 r rfl).1;have o:=(h.lt 3 s rfl).1;have t:=(k.lt 0 f rfl).1;have u:=(k.lt 1 g rfl).1;have v:=(k.lt 2 i rfl).1;have w:=(k.lt 3 j rfl).1;unfold yT at e;simp at e;have:b=a/\p=f/\q=g/\r=i/\s=j:=by
  cases b<;>cases a<;>simp at e<;>refine⟨?_,?_,?_,?_,?_⟩<;>first|rfl|omega
 obtain⟨rfl,rfl,rfl,rfl,rfl⟩:=this;rfl
theorem RM{eK:Nat->Nat}{n:Nat}{X:List bY}(d:X.Nodup)(h:∀x∈X,x3 eK n x):X.length<=320000:=by
 have h1:(X.map yT).Nodup:=by
  rw[List.nodup_iff_pairwise_ne,List.pairwise_map];refine List.Pairwise.imp_of_mem ?_ d;intro x y a g f e;exact f (Ig (h x a) (h y g) e)
 have b:=q1 (l₂:=List.range 320000) h1 (fun c hc=>by
  obtain⟨x,a,rfl⟩:=aN.1 hc;exact ja.2 (LM (h x a)))
 rw[b5,List.length_range]at b;exact b
def Pq(a:List Nat)(V:List (Bool×List Nat))(c:Bool):Nat->Nat->Prop
 | 0,i=>(V[i]?).map Prod.fst=some c
 | n+1,i=>(V[i]?).map Prod.fst=some c\/∃k∈a,∃y,((V[i]?).bind fun r=>r.2[k]?)=some y/\Pq a V c n y
def mV(a:List Nat)(V:List (Bool×List Nat))(c:Bool)(i:Nat):Prop:=∃n,Pq a V c n i
def mW(a:List Nat)(V:List (Bool×List Nat))(x y:Nat):Prop:=∃k∈a,((V[x]?).bind fun r=>r.2[k]?)=some y
theorem Ky{a:List Nat}{V:List (Bool×List Nat)}{c:Bool}{i:Nat}(h:(V[i]?).map Prod.fst=some c):mV a V c i:=⟨0,h⟩
theorem Kz{a:List Nat}{V:List (Bool×List Nat)}{c:Bool}{x y:Nat}(h:mW a V x y)(k:mV a V c y):mV a V c x:=by
 obtain⟨n,b⟩:=k;obtain⟨q,d,e⟩:=h;exact⟨n+1,ac ⟨q,d,y,e,b⟩⟩
theorem HA{a:List Nat}{V:List (Bool×List Nat)}{c:Bool}{M:Nat->Prop}(h0:∀i:Nat,(V[i]?).map Prod.fst=some c->M i)(h1:∀x y,mW a V x y->M y->M x):∀n i,Pq a V c n i->M i:=by
 intro n
 induction n with
 | zero=>intro i h;exact h0 i h
 | succ n d =>
  intro i h;rcases h with h|⟨k,b,y,e,h⟩
  ·exact h0 i h
  ·exact h1 i y ⟨k,b,e⟩ (d y h)
structure R6 (ks:List Nat) (V:List (Bool×List Nat)) (c:Bool) (M:List Bool) (W:List Nat):Prop where
 len:M.length=V.length
 sound:∀i,M[i]?=some true->mV ks V c i
 work:∀i∈W,M[i]?=some true
 done:∀y,M[y]?=some true->y∈W\/∀x,mW ks V x y->M[x]?=some true
def j3(M:List Bool)(W:List Nat):Nat:=2*M.count false+W.length
theorem If{M:List Bool}{i:Nat}(h:M[i]?=some false):(M.set i true).count false+1=M.count false:=by
 induction M generalizing i with
 | nil=>simp at h
 | cons a M b =>
  cases i with
  | zero=>simp at h;subst h;simp
  | succ i =>
   have:=b (i:=i) (by simpa using h);simp only[oT,List.count_cons];omega
def dc(M:List Bool)(W:List Nat)(i:Nat):List Bool×List Nat:=if M[i]?=some false then (M.set i true,W++[i])else (M,W)
theorem HD(M:List Bool)(W:List Nat)(i:Nat):(dc M W i).1.length=M.length:=by unfold dc;split<;>simp
theorem wn(M:List Bool)(W:List Nat)(i:Nat):j3 (dc M W i).1 (dc M W i).2<=j3 M W:=by
 unfold dc;split
 ·rename_i h;have:=If h;unfold j3;simp;omega
 ·exact ar _
theorem ii{M:List Bool}{W:List Nat}{i j:Nat}(h:M[j]?=some true):(dc M W i).1[j]?=some true:=by
 unfold dc;split
 ·rw[ml];split
  ·rename_i e;subst e;rw[ag (a1.1 h).1]
  ·exact h
 ·exact h
theorem oz{M:List Bool}{W:List Nat}{i:Nat}(h:i<M.length):(dc M W i).1[i]?=some true:=by
 unfold dc;split
 ·rw[oW h]
 ·rename_i a;cases hb:M[i]? with
  | none=>rw[List.getElem?_eq_none_iff]at hb;omega
  | some b=>cases b with
   | false=>exact absurd hb a
   | true=>rfl
theorem yu{M:List Bool}{W:List Nat}{i j:Nat}(h:(dc M W i).1[j]?=some true):M[j]?=some true\/(j=i/\j∈(dc M W i).2):=by
 unfold dc at *;split at h
 ·rename_i hc;rw[ag hc];rw[ml]at h;split at h
  ·rename_i e;subst e;right;exact⟨rfl,by simp⟩
  ·left;exact h
 ·left;exact h
theorem Ej{M:List Bool}{W:List Nat}{i j:Nat}(h:j∈W):j∈(dc M W i).2:=by
 unfold dc;split
 ·simp[h]
 ·exact h
theorem HC{M:List Bool}{W:List Nat}{i j:Nat}(h:j∈(dc M W i).2):j∈W\/j=i:=by
 unfold dc at h;split at h
 ·simpa using h
 ·exact ah h
structure eh (ks:List Nat) (V:List (Bool×List Nat)) (c:Bool) (D:Nat->Prop) (M:List Bool) (W:List Nat):Prop where
 len:M.length=V.length
 sound:∀i,M[i]?=some true->mV ks V c i
 work:∀i∈W,M[i]?=some true
 done:∀y,M[y]?=some true->y∈W\/D y\/∀x,mW ks V x y->M[x]?=some true
theorem eh.mark{n:List Nat}{V:List (Bool×List Nat)}{c:Bool}{D:Nat->Prop}{M:List Bool}{W:List Nat}(h:eh n V c D M W){i:Nat}(hi:i<V.length)(o:mV n V c i):eh n V c D (dc M W i).1 (dc M W i).2:=by
 refine⟨(HD _ _ _).trans h.len,fun j g=>?_,fun j g=>?_,fun y t=>?_⟩
 ·rcases yu g with h1|⟨rfl,_⟩
  ·exact h.sound j h1
  ·exact o
 ·rcases HC g with h1|rfl
  ·exact ii (h.work j h1)
  ·exact oz (by rw[h.len];exact hi)
 ·rcases yu t with h1|⟨_,h1⟩
  ·rcases h.done y h1 with d|d|d
   ·exact ah (Ej d)
   ·exact ac (ah d)
   ·exact ac (ac fun x q=>ii (d x q))
  ·exact ah h1
theorem eh.all{d:List Nat}{V:List (Bool×List Nat)}{c:Bool}{M:List Bool}(h:eh d V c (fun _=>False) M [])(h0:∀i:Nat,(V[i]?).map Prod.fst=some c->M[i]?=some true)(i:Nat):M[i]?=some true↔mV d V c i:=by
 refine⟨h.sound i,fun ⟨n,g⟩=>HA (M:=fun i=>M[i]?=some true) h0 (fun x y j o=>?_) n i g⟩;rcases h.done y o with h1|h1|h1
 ·simp at h1
 ·exact h1.elim
 ·exact h1 x j
def Dj(a:List Nat)(V:List (Bool×List Nat))(src:List (List Nat)):Prop:=src.length=V.length/\∀y l,src[y]?=some l->∀x,x∈l↔mW a V x y
open Go.Maps
theorem k3{w:World}{b o:Nat}{v:Value}(h:w.cell? ⟨b,o,none⟩=some v):b<w.heap.size:=by
 rcases cF b w.heap.size with h1|h1
 ·exact h1
 ·exfalso;have:w.heap[b]?=none:=Array.getElem?_eq_none h1;simp[World.cell?,this]at h
theorem cu{w:World}{base n size:Nat}{e:TypeId}{b:Option Addr}{au:Nat}{us:List Value}(h:w.ownsRow base e size (.slice b n au) n us){o:Nat}{u:Value}(hu:us[o]?=some u)(k:o<n*size):∃q,b=some ⟨q,0,none⟩/\base<=q/\w.cell? ⟨q,o,none⟩=some u:=by
 obtain⟨_,f⟩:=h;rcases f with⟨a,j⟩|⟨q,l,d,a,hg,i,_,_,_,g⟩
 ·subst j;omega
 ·injection a with a _ _
  refine⟨q,a,hg,ab i o u ?_⟩;have c:(d.toList.take (n*size))[o]?=some u:=by rw[g];exact hu
  rw[bJ,ag k]at c;simpa using c
theorem o5:∀(bP:l9) (i:Nat) (m:Bool) (l:List Nat),(∀r∈bP,r.2.length=8)->bP[i]?=some (m,l)->(fv bP)[i*9]?=some (.bool m)/\∀k n,l[k]?=some n->(fv bP)[i*9+1+k]?=some (.int .i64 (n:Nat)):=by
 intro bP
 induction bP with
 | nil=>intro i m l _ h;simp at h
 | cons a bP g =>
  intro i m l c h;have d:(aA a).length=9:=by unfold aA;simp[c a aU]
  have e:fv (a::bP)=aA a++fv bP:=rfl;cases i with
  | zero =>
   simp at h;subst h;rw[e];refine⟨by rw[dD (by omega)];rfl,fun k n b=>?_⟩;have j:=(a1.1 b).1;have f:=c (m,l) aU;simp only at f;rw[dD (by omega),show 0*9+1+k=k+1 from by omega];unfold aA;rw[xJ,cV,b];rfl
  | succ i =>
   have:=g i m l (fun r h=>c r (b6 _ h)) (by simpa using h);rw[e];refine⟨?_,fun k n b=>?_⟩
   ·rw[eH (by omega),d,show (i+1)*9-9=i*9 from by omega];exact this.1
   ·rw[eH (by omega),d,show (i+1)*9+1+k-9=i*9+1+k from by omega];exact this.2 k n b
theorem jW(w:World)(v:Value)(t:l9)(i:Nat)(a:bz 0 w v t)(b:dh t)(hi:i<t.length):Calls prog 182 #[v,.int .i64 i] w fun r w'=>r=.returned (.bool (bG t i))/\w'=w:=by
 obtain⟨f,au,rfl⟩:=ak a;have hc:=o5 t i t[i].1 t[i].2 (fun r h=>(b.row r h).1) (ax hi);obtain⟨q,d,_,c⟩:=cu a hc.1 (by omega);subst d;have hlen:=b.iL;have e:bG t i=t[i].1:=by unfold bG;rw[ax hi];rfl
 rw[e];generalize t[i].1=m at c;clear a hc;go_enter func182,ntmps182;go_wp2_with fail;go_ret;exact⟨rfl,rfl⟩
theorem nA(w:World)(v:Value)(t:l9)(i k:Nat)(a:bz 0 w v t)(b:dh t)(hi:i<t.length)(g:k<8):Calls prog 184 #[v,.int .i64 i,.int .u8 k] w fun r w'=>r=.returned (.int .i64 (cm t i k:Nat))/\w'=w:=by
 obtain⟨f,au,rfl⟩:=ak a;have j:=(b.row t[i] (bl hi)).1;have hc:=o5 t i t[i].1 t[i].2 (fun r h=>(b.row r h).1) (ax hi);obtain⟨q,d,_,c⟩:=cu a (hc.2 k (t[i].2[k]'(by omega)) (ax (by omega))) (by omega);subst d;have hlen:=b.iL;have e:cm t i k=t[i].2[k]'(by omega):=by unfold cm;rw[ax hi];simp only[Option.bind_some];rw[ax (by omega)];rfl
 rw[e];generalize t[i].2[k]'(by omega)=m at c;clear a hc;go_enter func184,ntmps184;go_wp2_with fail;go_ret;exact⟨rfl,rfl⟩
def iV(J:AJ)(a:List (Value×Value)):List Value:=(J.zip a).flatMap fun o=>[.bool o.1.cut,o.2.1,o.2.2]
structure mA (base:Nat) (w:World) (v:Value) (J:AJ) (vs:List (Value×Value)):Prop where
 len:vs.length=J.length
 row:w.ownsRow base 234 3 v J.length (iV J vs)
 bP:∀(i:Nat) (r:nn) (u:Value×Value),J[i]?=some r->vs[i]?=some u->bz 0 w u.1 r.tl/\bz 0 w u.2 r.tr
 ok:∀r∈J,fh r
theorem mA.kp{base:Nat}{w w':World}{v:Value}{J:AJ}{j:List (Value×Value)}(h:mA base w v J j)(n:Kp 234 w w')(g:Kp 341 w w'):mA base w' v J j :=
 ⟨h.len,al h.row n,fun i r u d hu=>⟨al (h.bP i r u d hu).1 g,al (h.bP i r u d hu).2 g⟩,h.ok⟩
theorem mA.below{base:Nat}{w w':World}{v:Value}{J:AJ}{d:List (Value×Value)}(h:mA base w v J d)(hb:Below w.heap.size w w'):mA base w' v J d:=h.kp (Kp.below hb) (Kp.below hb)
theorem IG:∀(J:AJ) (b:List (Value×Value)) (i:Nat) (r:nn) (v:Value×Value),J[i]?=some r->b[i]?=some v->(iV J b)[i*3]?=some (.bool r.cut)/\(iV J b)[i*3+1]?=some v.1/\(iV J b)[i*3+2]?=some v.2:=by
 intro J
 induction J with
 | nil=>intro b i r v h;simp at h
 | cons a J f =>
  intro b i r v h1 c;cases b with
  | nil=>simp at c
  | cons u b =>
   cases i with
   | zero=>simp at h1 c;subst h1;subst c;simp[iV]
   | succ i =>
    simp at h1 c;have:=f b i r v h1 c;have e:∀k,(iV (a::J) (u::b))[(i+1)*3+k]?=(iV J b)[i*3+k]?:=by
     intro k;rw[show (i+1)*3+k=(i*3+k)+3 from by omega];rfl
    have d:=e 0;simp only[k8]at d;rw[d,e 1,e 2];exact this
theorem mA.form{base:Nat}{w:World}{v:Value}{J:AJ}{x:List (Value×Value)}(h:mA base w v J x):∃o au,v=.slice o J.length au/\∀i (hi:i<J.length),∃g j E q n F t,o=some ⟨g,0,none⟩/\g<w.heap.size/\bz 0 w (.slice j E q) J[i].tl/\bz 0 w (.slice n F t) J[i].tr /\w.cell? ⟨g,i*3,none⟩=some (.bool J[i].cut)/\w.cell? ⟨g,i*3+1,none⟩=some (.slice j E q)/\w.cell? ⟨g,i*3+2,none⟩=some (.slice n F t):=by
 obtain⟨o,au,rfl⟩:=ak h.row;refine⟨o,au,rfl,fun i hi=>?_⟩;obtain⟨u,hu⟩:∃u,x[i]?=some u:=⟨x[i]'(by rw[h.len];exact hi),ax _⟩;have hc:=IG J x i _ u (ax hi) hu;have d:=h.bP i _ u (ax hi) hu;obtain⟨j,q,B⟩:=ak d.1;obtain⟨n,t,C⟩:=ak d.2;rw[B]at d;rw[C]at d;rw[B,C]at hc;obtain⟨g,hg,_,h0⟩:=cu h.row hc.1 (by omega);obtain⟨g1,y,_,h1⟩:=cu h.row hc.2.1 (by omega);obtain⟨g2,A,_,G⟩:=cu h.row hc.2.2 (by omega);rw[hg]at y A;simp at y A;subst y;subst A;exact⟨g,j,_,q,n,_,t,hg,k3 h0,d.1,d.2,h0,h1,G⟩
end Go.Proofs.YtodagkkjfipbgaaGreatDoor
namespace Go.Proofs.YtodagkkjfipbgaaGreatDoor
open Go.RowKit Go.Proofs.Tryz
def bW(n:Nat)(m:ai):List Value:=List.replicate n (.string m)
theorem fw(n:Nat)(m:ai):(bW n m).length=n:=by unfold bW;simp
theorem KA{n i:Nat}(m:ai)(h:i<n):(bW n m)[i]?=some (.string m):=by unfold bW;rw[fj,ag h]
theorem yt(n j:Nat)(m:ai):bW n m++bW j m=bW (n+j) m:=by unfold bW;rw[List.replicate_append_replicate]
theorem GW{α:Type}(a:List α)(n j k:Nat)(x:α)(h:a.take k=List.replicate k x)(f:n+j<=a.length):(a.take n++List.replicate j x++a.drop (n+j)).take k=List.replicate k x:=by
 have d:k<=a.length:=by have:=ej List.length h;simp at this;omega
 have b:∀i,i<k->a[i]?=some x:=by
  intro i hi;have:=ej (fun l=>l[i]?) h;simp only[bJ,ag hi,fj]at this;exact this
 apply gh;intro i
 by_cases hi:i<k
 ·rw[bJ,ag hi,fj,ag hi]
  by_cases h1:i<n
  ·rw[eG,dD (by simp;omega),bJ,ag h1];exact b i hi
  ·by_cases c:i<n+j
   ·rw[dD (by simp;omega),eH (by simp;omega),fj,ag (by simp;omega)]
   ·rw[eH (by simp;omega),List.getElem?_drop];have e:n+j+(i-(a.take n++List.replicate j x).length)=i:=by simp;omega
    rw[e];exact b i hi
 ·rw[bJ,ae hi,fj,ae hi]
def hA(m:ai)(w w':World):Prop:=∀(b:Nat) (u:Value) (k:Nat),w.ownsRow b 9 1 u k (bW k m)->w'.ownsRow b 9 1 u k (bW k m)
theorem hA.trans{m:ai}{a b c:World}(h:hA m a b)(d:hA m b c):hA m a c:=fun b u k g=>d b u k (h b u k g)
theorem hA.below{m:ai}{w w':World}(h:Below w.heap.size w w'):hA m w w':=fun _ _ _ d=>al d (Kp.below h)
theorem hA.alloc{m:ai}(w:World)(o:Obj):hA m w (w.alloc o):=fun _ _ _ h=>h.alloc o
theorem hA.room{m:ai}{w:World}{g n j:Nat}{d:Array Value}(hg:w.heap[g]?=some (.cells d 9 (0,0)))(x:n+j<=d.size):hA m w (w.setRow g (d.toList.take n++bW j m++d.toList.drop (n+j)).toArray):=by
 intro b u k h;refine⟨h.1,?_⟩;rcases h.2 with y|⟨i,au,v,rfl,hb,o,t,hc,A,q⟩
 ·exact ah y
 ·refine ac ?_
  by_cases e:i=g
  ·subst e;rw[hg]at o;cases o;refine⟨i,au,_,rfl,hb,setRow_heap w i d _ 9 _ hg,t,hc,?_,?_⟩
   ·simp only[ky,aF,cz,gg,Array.length_toList,fw];omega
   ·rw[Nat.mul_one]at q ⊢;exact GW d.toList n j k (.string m) q (by rw[Array.length_toList];exact x)
  ·exact⟨i,au,v,rfl,hb,(setRow_other w g i _ e).trans o,t,hc,A,q⟩
theorem G8(w:World)(o:TypeId)(base:Nat)(m:ai)(v:Value)(n:Nat)(r:w.ownsRow base 9 1 v n (bW n m))(a:Addr)(j c:Nat)(I:0<j)(J:j<=6)(q:∀i u,(bW j m)[i]?=some u->w.cell? (a.add i)=some u)(K:n<=9000000000)(C:base<=w.heap.size):∃s w',(Builtin.append_ #[30,30] o #[v,.slice (some a) j c]).run prog w=.ok s w'/\w'.ownsRow base 9 1 s (n+j) (bW (n+j) m)/\w.grownBy w' v.ownBlock/\hA m w w':=by
 obtain⟨i,hi,t,e,x⟩:=info_parts Tryz.Ad;have hb:(n+j)*16<=140737488355328:=by omega
 have p:(bW j m).length=j*1:=by rw[fw];omega
 have A:∀u∈bW j m,u.oneCell'=true:=fun u hu=>by unfold bW at hu;rw[List.eq_of_mem_replicate hu];rfl
 obtain⟨s,w',d,B,hg,_⟩:=run_append_own (P:=prog) w base 30 o 9 i (.string ⟨#[]⟩) 1 16 Tryz.underlying30 hi t e x rfl (by decide) v n (bW n m) r a j c (bW j m) p q A (by simp only[maxLen];omega) hb C;rw[yt]at B;refine⟨s,w',d,B,hg,?_⟩;rcases r.2 with⟨rfl,rfl⟩|⟨g,au,y,rfl,F,z,L,G,H,M⟩
 ·have l:=run_append_nil (P:=prog) w 30 o 9 i (.string ⟨#[]⟩) Tryz.underlying30 hi t a j c (bW j m) (by rw[e];exact p) q (by omega) (by omega) (by rw[x];omega);rw[l]at d;injection d with h1 f
  rw[<- f];exact fun b u k h=>World.ownsRow.alloc (w:=w.drew) h _
 ·by_cases E:n+j<=au
  ·have D:n*i.size+(bW j m).length<=y.size:=by rw[e,fw];omega
   have l:=run_append_room (P:=prog) w 30 o 9 i Tryz.underlying30 hi g n au y z a j c (bW j m) (by rw[e];exact p) q A E D;rw[l]at d;injection d with h1 f
   rw[<- f,e,fw,Nat.mul_one];exact hA.room z (by omega)
  ·have l:=run_append_grow (P:=prog) w 30 o 9 i (.string ⟨#[]⟩) Tryz.underlying30 hi t ⟨g,0,none⟩ n au (bW n m) (by rw[e];exact r.1) (r.cells (g:=g) rfl) a j c (bW j m) (by rw[e];exact p) q (by omega) (by omega) (growslice_fits (by omega) (by rw[x];exact hb));rw[l]at d;injection d with h1 f
   rw[<- f];exact fun b u k h=>World.ownsRow.alloc (w:=w.drew) h _
def yz(L:Array Bool):Nat:=L.toList.count false
theorem LO:∀(l:List Bool) (i:Nat),l[i]?=some false->(l.set i true).count false+1=l.count false:=by
 intro l
 induction l with
 | nil=>intro i h;simp at h
 | cons a l b =>
  intro i h;cases i with
  | zero=>simp at h;subst h;simp
  | succ i =>
   have:=b i (by simpa using h);rw[oT,List.count_cons,List.count_cons];omega
theorem yy{L:Array Bool}{i:Nat}(h:L.getD i true=false):yz (L.setIfInBounds i true)+1=yz L:=by
 unfold yz;have hi:L.toList[i]?=some false:=by
  rw[Array.getD_eq_getD_getElem?]at h;rw[Array.getElem?_toList];cases a:L[i]? with
  | none=>rw[a]at h;simp at h
  | some b=>rw[a]at h;simp at h;rw[h]
 rw[Array.toList_setIfInBounds];exact LO _ _ hi
theorem rj{a:Region.Mode}{b:Array Oper}{L:Array Bool}{i:Nat}(h:i∈Region.ready a b L):L.getD i true=false:=by
 unfold Region.ready at h;have:=(eF.1 h).2;simp only[gA,Bool.not_eq_true']at this;exact this.1
theorem Dx{P:Program}{e:Region.Mode}{d:Array Oper}{Q:Exit->Act->World->Prop}(I:Array Bool->Act->World->Prop)(stop:Array Bool->Prop) (g:∀L a w,I L a w->¬stop L->Region.ready e d L≠[]/\∀i∈Region.ready e d L,wpOp P d Q i (fun a' w'=>I (L.setIfInBounds i true) a' w') a w) (h:∀L a w,I L a w->stop L->wpAny P e d Q (yz L) L a w):∀n L a w,yz L=n->I L a w->wpAny P e d Q n L a w:=by
 intro n
 induction n with
 | zero =>
  intro L a w f b
  by_cases c:stop L
  ·rw[<- f];exact h L a w b c
  ·exfalso;obtain⟨h1,_⟩:=g L a w b c;obtain⟨i,hi⟩:=List.exists_mem_of_ne_nil _ h1;have:=yy (rj hi);omega
 | succ n l =>
  intro L a w f b
  by_cases c:stop L
  ·rw[<- f];exact h L a w b c
  ·obtain⟨h1,k⟩:=g L a w b c;refine⟨fun h0=>absurd h0 h1,fun i hi=>?_⟩;refine wpOp_mono (fun a' w' j=>?_) (k i hi);have:=yy (rj hi);exact l _ a' w' (by omega) j
def mN:Code->Nat->Option (Array Oper)
 | .region i o _,n=>if i=n then some o else none
 | .seq a b,n=>(mN a n).orElse fun _=>mN b n
 | .cond _ a b,n=>(mN a n).orElse fun _=>mN b n
 | .block _ a,n=>mN a n
 | .loop a,n=>mN a n
 | .scope a,n=>mN a n
 | _,_=>none
def Kk(f:Func):Array Oper:=(f.body.bind fun c=>mN c 5).getD #[]
def wj(b4 g h a b c d e f:Bool):Array Bool:=#[true,true,true,true,b4,true,true,true,g,h,true,true,true,a,b,true,true,true,true,true,true,true,c,d,e,f,false,false,false,false]
def r1(h d e a f b c g:Bool):Bool:=(!d||h)&&(!a||(e&&d))&&(!b||(f&&a))&&(!c||b)&&(!g||c)
def Ja(i:Nat)(b4 h d e c f g a b:Bool):Bool :=
 (i==4&&!b4)||(i==8&&!h&&!a&&!b)||(i==9&&h&&!d&&!a&&!b)||(i==13&&!e&&!a&&!b)||(i==14&&d&&e&&!c&&!a&&!b)||(i==22&&!f&&!a&&!b)||(i==23&&c&&f&&!g&&!a&&!b)||(i==24&&d&&c&&g&&!a&&!b)||(i==25&&a&&!b)
def Fh(j:Array Oper):Bool:=[true,false].all fun b4=>[true,false].all fun g=>[true,false].all fun h=>[true,false].all fun b=>[true,false].all fun c=>[true,false].all fun d=>[true,false].all fun e=>[true,false].all fun f=>[true,false].all fun a=>!r1 g h b c d e f a||(b4&&a)||(!(Region.ready .any j (wj b4 g h b c d e f a)).isEmpty&&(Region.ready .any j (wj b4 g h b c d e f a)).all fun i=>Ja i b4 g h b c d e f a)
theorem Jb:Fh (Kk Tryz.f22)=true:=by kernel_rfl
theorem ju{p:Bool->Bool}(h:([true,false].all p)=true)(b:Bool):p b=true:=by
 simp at h;cases b
 ·exact h.2
 ·exact h.1
theorem Qu{l:Array Oper}(h:Fh l=true)(b4 j k b c d f g a:Bool)(m:r1 j k b c d f g a=true)(n:(b4&&a)=false):Region.ready .any l (wj b4 j k b c d f g a)≠[]/\∀i∈Region.ready .any l (wj b4 j k b c d f g a),Ja i b4 j k b c d f g a=true:=by
 unfold Fh at h;have h:=ju (ju (ju (ju (ju (ju (ju (ju (ju h b4) j) k) b) c) d) f) g) a;rw[m,n]at h;simp only[Bool.not_true,Bool.false_or,gA,Bool.not_eq_true',List.all_eq_true]at h;exact⟨fun e=>by rw[e]at h;exact absurd h.1 (by decide),h.2⟩
theorem iM{a:Act}{d k:Nat}{v:Value}(hd:d<a.tmps.size):(a.put (some d) v).eval (.tmp k)=if k=d then v else a.eval (.tmp k):=by
 show (a.tmps.setIfInBounds d v).getD k undef=if k=d then v else a.tmps.getD k undef
 rw[Array.getD_eq_getD_getElem?,Array.getD_eq_getD_getElem?,Array.getElem?_setIfInBounds]
 by_cases e:d=k
 ·rw[ag e,ag e.symm,ag (by omega)];rfl
 ·rw[ae e,ae (Ne.symm e)]
theorem gG{P:Program}{c:Array Oper}{Q:Exit->Act->World->Prop}{i:Nat}{K:Act->World->Prop}{a:Act}{w:World}{d:Option Tmp}{p:Op}(b:c[i]?.map (fun o=>(o.dst,o.op,o.guard))=some (d,p,none))(h:∀o:Oper,o.dst=d->o.op=p->o.wp P a w K Q):wpOp P c Q i K a w:=by
 unfold wpOp;cases e:c[i]? with
 | none=>rw[e]at b;cases b
 | some o =>
  rw[e]at b;simp only[cU,h3,hZ]at b;have f:Region.wanted o (yielded c a.tmps)=true:=by simp[Region.wanted,b.2.2]
  show (if Region.wanted o (yielded c a.tmps)=true then _ else _);rw[ag f];exact ah (h o b.1 b.2.1)
theorem GM{o:Oper}{a:Act}{w:World}{K:Act->World->Prop}{Q:Exit->Act->World->Prop}{m:ai}{x:Operand}(c:o.op=.buildSlice 30 1 #[(0,x)])(d:a.eval x=.string m)(b:K (a.put o.dst (.slice (some ⟨w.heap.size,0,none⟩) 1 1)) (w.alloc (.cells #[.string m] 9))):o.wp prog a w K Q:=by
 unfold Oper.wp execOp;simp only[c,nt,bS,g7,d]
 go_simp
 exact b
theorem GL{o:Oper}{a:Act}{w:World}{K:Act->World->Prop}{Q:Exit->Act->World->Prop}{m:ai}{x y:Operand}(c:o.op=.buildSlice 30 2 #[(0,x),(1,y)])(d:a.eval x=.string m)(e:a.eval y=.string m)(b:K (a.put o.dst (.slice (some ⟨w.heap.size,0,none⟩) 2 2)) (w.alloc (.cells #[.string m,.string m] 9))):o.wp prog a w K Q:=by
 unfold Oper.wp execOp;simp only[c,nt,bS,g7,d,e]
 go_simp
 exact b
theorem GJ{o:Oper}{a:Act}{w:World}{K:Act->World->Prop}{Q:Exit->Act->World->Prop}{m:ai}{b c d e f g:Operand}(p:o.op=.buildSlice 30 6 #[(0,b),(1,c),(2,d),(3,e),(4,f),(5,g)])(h1:a.eval b=.string m)(h:a.eval c=.string m)(i:a.eval d=.string m)(j:a.eval e=.string m)(k:a.eval f=.string m)(l:a.eval g=.string m)(n:K (a.put o.dst (.slice (some ⟨w.heap.size,0,none⟩) 6 6)) (w.alloc (.cells #[.string m,.string m,.string m,.string m,.string m,.string m] 9))):o.wp prog a w K Q:=by
 unfold Oper.wp execOp;simp only[p,nt,bS,g7,h1,h,i,j,k,l]
 go_simp
 exact n
theorem GK{o:Oper}{a:Act}{w:World}{K:Act->World->Prop}{Q:Exit->Act->World->Prop}{m n p q:Operand}{i j k l:Option Addr}{e f g h b c c3 d:Nat}(v:o.op=.buildSlice 116 4 #[(0,m),(1,n),(2,p),(3,q)])(h1:a.eval m=.slice i e b)(r:a.eval n=.slice j f c)(s:a.eval p=.slice k g c3)(t:a.eval q=.slice l h d)(u:K (a.put o.dst (.slice (some ⟨w.heap.size,0,none⟩) 4 4)) (w.alloc (.cells #[.slice i e b,.slice j f c,.slice k g c3,.slice l h d] 30))):o.wp prog a w K Q:=by
 unfold Oper.wp execOp;simp only[v,nt,bS,g7,h1,r,s,t]
 go_simp
 exact u
theorem Dw{o:Oper}{a:Act}{w:World}{K:Act->World->Prop}{Q:Exit->Act->World->Prop}{e:Operand}{d:Option Addr}{c b:Nat}(g:o.op=.buildSlice 40 1 #[(0,e)])(h1:a.eval e=.slice d c b)(f:K (a.put o.dst (.slice (some ⟨w.heap.size,0,none⟩) 1 1)) (w.alloc (.cells #[.slice d c b] 116))):o.wp prog a w K Q:=by
 unfold Oper.wp execOp;simp only[g,nt,bS,g7,h1]
 go_simp
 exact f
theorem GH{o:Oper}{a:Act}{w:World}{K:Act->World->Prop}{Q:Exit->Act->World->Prop}{x:Operand}{bb:Nat}{v:Value}(c:o.op=.load 40 x)(d:a.eval x=.pointer (some ⟨bb,0,none⟩))(hc:w.cell? ⟨bb,0,none⟩=some v)(b:K (a.put o.dst v) w):o.wp prog a w K Q:=by
 unfold Oper.wp execOp;simp only[c,d]
 go_simp
 exact b
theorem vr{o:Oper}{a:Act}{w:World}{K:Act->World->Prop}{Q:Exit->Act->World->Prop}{m:ai}{n:Nat}{s x:Operand}(r:o.op=.call { callee:=.builtin .append,args:=#[s,x],argTypes:=#[30,30] }){v:Value}(z:a.eval s=v)(t:w.ownsRow 0 9 1 v n (bW n m)){d:Addr}{j c:Nat}(A:a.eval x=.slice (some d) j c)(k:0<j)(l:j<=6)(q:∀i u,(bW j m)[i]?=some u->w.cell? (d.add i)=some u)(p:n<=9000000000) (h:∀b w',w'.ownsRow 0 9 1 b (n+j) (bW (n+j) m)->w.grownBy w' v.ownBlock->hA m w w'->K (a.put o.dst b) w'):o.wp prog a w K Q:=by
 obtain⟨b,w',y,e,f,g⟩:=G8 w o.type 0 m v n t d j c k l q p (aJ _);unfold Oper.wp execOp;simp only[r,resolve,invoke,builtin,Sem.run_bind,Sem.run_pure,Result.andThen_ok,nt,bS,g7,z,A,y];exact h b w' e f g
def fV(n:Nat):List (Nat×Nat×Nat):=[(8,30,1),(9,31,n+1),(13,35,2),(14,36,n+2),(22,44,6),(23,45,n+6)]
def im:List (Nat×Nat):=[(4,26),(8,30),(9,31),(13,35),(14,36),(22,44),(23,45),(24,46),(25,47)]
structure KI (w0:World) (bb:Nat) (l:Value) (n:Nat) (m:ai) (vB:Value) (f:Nat->Bool) (a:Act) (w:World):Prop where
 ts:a.tmps.size=51
 df:a.defers=[]
 ptr:∀k∈[22,25],a.eval (.tmp k)=.pointer (some ⟨bb,0,none⟩)
 QZ:∀k∈[27,28,32,37],a.eval (.tmp k)=l
 MH:∀k∈[29,33,34,38,39,40,41,42,43],a.eval (.tmp k)=.string m
 grown:w0.grownBy w l.ownBlock
 aY:hA m w0 w
 p4:f 4=true->a.eval (.tmp 26)=vB
 rows:∀r∈fV n,f r.1=true->w.ownsRow 0 9 1 (a.eval (.tmp r.2.1)) r.2.2 (bW r.2.2 m)
 RC:f 24=true->∃q,w0.heap.size<=q/\a.eval (.tmp 46)=.slice (some ⟨q,0,none⟩) 4 4/\w.heap[q]?=some (.cells #[l,a.eval (.tmp 31),a.eval (.tmp 36),a.eval (.tmp 45)] 30 (0,0))
 RX:f 25=true->∃q,w0.heap.size<=q/\a.eval (.tmp 47)=.slice (some ⟨q,0,none⟩) 1 1/\w.heap[q]?=some (.cells #[a.eval (.tmp 46)] 116 (0,0))
def kA(f:Nat->Bool)(i:Nat)(k:Nat):Bool:=if k=i then true else f k
theorem iH{a b c:World}{r:Option Nat}(h:a.grownBy b r)(k:b.grownBy c r):a.grownBy c r :=
 ⟨k.os.trans h.os,k.tape.trans h.tape,k.output.trans h.output,aE h.size k.size,fun i hi d=>(k.block i (cI hi h.size) d).trans (h.block i hi d)⟩
theorem oE(w:World)(r:Option Nat):w.grownBy w r:=⟨rfl,rfl,rfl,ar _,fun _ _ _=>rfl⟩
theorem KI.step{E:World}{bb:Nat}{l:Value}{n:Nat}{m:ai}{vB:Value}{f:Nat->Bool}{a:Act}{w:World}(h:KI E bb l n m vB f a w){i d:Nat}{v:Value}{w':World}(hd:(i,d)∈im)(hg:w.grownBy w' l.ownBlock)(o:hA m w w')(S:i=4->v=vB)(rr:∀k,(i,d,k)∈fV n->w'.ownsRow 0 9 1 v k (bW k m)) (Q:i=24->∃q,E.heap.size<=q/\v=.slice (some ⟨q,0,none⟩) 4 4/\w'.heap[q]?=some (.cells #[l,a.eval (.tmp 31),a.eval (.tmp 36),a.eval (.tmp 45)] 30 (0,0))) (R:i=25->∃q,E.heap.size<=q/\v=.slice (some ⟨q,0,none⟩) 1 1/\w'.heap[q]?=some (.cells #[a.eval (.tmp 46)] 116 (0,0))) (O:f 24=true->(i=4\/i=25)/\Below w.heap.size w w') (P:f 25=true->i=4/\Below w.heap.size w w'):KI E bb l n m vB (kA f i) (a.put (some d) v) w':=by
 have N:d<a.tmps.size:=by rw[h.ts];exact(show ∀x∈im,x.2<51 by decide) _ hd
 have F:∀k,(a.put (some d) v).eval (.tmp k)=if k=d then v else a.eval (.tmp k):=fun k=>iM N
 have ne:∀k∈[22,25,27,28,32,37,29,33,34,38,39,40,41,42,43],(a.put (some d) v).eval (.tmp k)=a.eval (.tmp k):=fun k o=>by
  rw[F,ae ((show ∀x∈im,∀k∈[22,25,27,28,32,37,29,33,34,38,39,40,41,42,43],k≠x.2 by decide) _ hd k o)]
 have sl:∀j e,(j,e)∈im->j≠i->(a.put (some d) v).eval (.tmp e)=a.eval (.tmp e):=fun j e K M=>by
  rw[F,ae ((show ∀x∈im,∀y∈im,y.1≠x.1->y.2≠x.2 by decide) _ hd _ K M)]
 have here:∀e,(i,e)∈im->(a.put (some d) v).eval (.tmp e)=v:=fun e J=>by
  rw[F,ag ((show ∀x∈im,∀y∈im,y.1=x.1->y.2=x.2 by decide) _ hd _ J rfl)]
 have H:∀r∈fV n,(r.1,r.2.1)∈im:=by
  intro r u;simp only[fV,aT,hh,g6]at u;rcases u with rfl|rfl|rfl|rfl|rfl|rfl<;>simp[im]
 refine⟨?_,h.df,fun k o=>(ne k (by revert o;revert k;decide)).trans (h.ptr k o),fun k o=>(ne k (by revert o;revert k;decide)).trans (h.QZ k o),fun k o=>(ne k (by revert o;revert k;decide)).trans (h.MH k o),iH h.grown hg,h.aY.trans o,fun g=>?_,fun r u g=>?_,fun g=>?_,fun g=>?_⟩
 ·show (a.tmps.setIfInBounds d v).size=51;rw[Array.size_setIfInBounds];exact h.ts
 ·by_cases e:i=4
  ·rw[here 26 (by rw[e];decide),S e]
  ·rw[sl 4 26 (by decide) (Ne.symm e)];exact h.p4 (by unfold kA at g;rw[ae (Ne.symm e)]at g;exact g)
 ·by_cases e:r.1=i
  ·have G:=H r u;rw[e]at G;have I:r.2.1=d:=(show ∀x∈im,∀y∈im,y.1=x.1->y.2=x.2 by decide) _ hd _ G rfl;rw[here _ G];refine rr _ ?_;rw[<- e,<- I];exact u
  ·rw[sl _ _ (H r u) e];exact o 0 _ _ (h.rows r u (by unfold kA at g;rw[ae e]at g;exact g))
 ·by_cases e:i=24
  ·obtain⟨q,A,B,t⟩:=Q e;refine⟨q,A,(here 46 (by rw[e];decide)).trans B,?_⟩;rw[sl 9 31 (by decide) (by omega),sl 14 36 (by decide) (by omega),sl 23 45 (by decide) (by omega)];exact t
  ·have C:f 24=true:=by unfold kA at g;rw[ae (Ne.symm e)]at g;exact g
   obtain⟨q,A,B,t⟩:=h.RC C;obtain⟨hi,hb⟩:=O C;refine⟨q,A,(sl 24 46 (by decide) (by omega)).trans B,?_⟩;rw[sl 9 31 (by decide) (by omega),sl 14 36 (by decide) (by omega),sl 23 45 (by decide) (by omega),hb.block q (an t)];exact t
 ·by_cases e:i=25
  ·obtain⟨q,A,B,t⟩:=R e;refine⟨q,A,(here 47 (by rw[e];decide)).trans B,?_⟩;rw[sl 24 46 (by decide) (by omega)];exact t
  ·have C:f 25=true:=by unfold kA at g;rw[ae (Ne.symm e)]at g;exact g
   obtain⟨hi,hb⟩:=P C;obtain⟨q,A,B,t⟩:=h.RX C;refine⟨q,A,(sl 25 47 (by decide) (by omega)).trans B,?_⟩;rw[sl 24 46 (by decide) (by omega),hb.block q (an t)];exact t
theorem KI.row{o:World}{bb:Nat}{l:Value}{n:Nat}{m:ai}{vB:Value}{f:Nat->Bool}{a:Act}{w:World}(h:KI o bb l n m vB f a w){i d k:Nat}(j:(i,d,k)∈fV n)(g:f i=true):w.ownsRow 0 9 1 (a.eval (.tmp d)) k (bW k m):=h.rows _ j g
theorem qh{w:World}{m:ai}{v:Value}{k:Nat}(h:w.ownsRow 0 9 1 v k (bW k m))(b:0<k):∃g c,v=.slice (some ⟨g,0,none⟩) k c/\∀i u,(bW k m)[i]?=some u->w.cell? ((⟨g,0,none⟩:Addr).add i)=some u:=by
 rcases h.2 with⟨_,h0⟩|⟨g,au,a,rfl,_⟩
 ·omega
 ·exact⟨g,au,rfl,fun i u hu=>h.cells rfl i u hu⟩
theorem nd{w:World}{m:ai}(k:Nat)(a:Array Value)(hc:a.toList=bW k m)(b:k<=6):(w.alloc (.cells a 9)).ownsRow 0 9 1 (.slice (some ⟨w.heap.size,0,none⟩) k k) k (bW k m):=by
 have c:a.size=k:=by rw[<- Array.length_toList,hc,fw]
 exact⟨by rw[fw];omega,ac ⟨w.heap.size,k,a,rfl,aJ _,aw w _,ar _,by simp only[maxLen];omega,by omega,by rw[hc,Nat.mul_one];exact gj (by rw[fw];exact ar _)⟩⟩
theorem iI{w:World}(r:Option Nat)(o:Obj):w.grownBy (w.alloc o) r:=World.grownBy_alloc w o r
theorem nH{w:World}{m:ai}{v:Value}{k:Nat}(h:w.ownsRow 0 9 1 v k (bW k m)):∃o c,v=.slice o k c:=ak h
theorem KU{A:World}{bb:Nat}{l:Value}{n:Nat}{m:ai}{vB:Value}{Q:Exit->Act->World->Prop}{y:Array Oper}(z:y=Kk Tryz.f22)(T:A.heap[bb]?=some (.cells #[vB] 42 (0,0)))(Y:A.ownsRow 0 9 1 l n (bW n m))(e7:n<=9000000){a0:Act}(h0:KI A bb l n m vB (fun _=>false) a0 A) (b5:∀f a w,f 4=true->f 9=true->f 14=true->f 23=true->f 24=true->f 25=true->KI A bb l n m vB f a w->wpAny prog .any y Q 4 (wj true true true true true true true true true) a w):wpAny prog .any y Q 13 (wj false false false false false false false false false) a0 A:=by
 have b7:some bb≠l.ownBlock:=by
  intro e;rcases Y.2 with⟨rfl,_⟩|⟨g,au,e3,rfl,_,X,_⟩
  ·cases e
  ·cases e;rw[T]at X;simp at X
 have c0:Fh y=true:=by rw[z];exact Jb
 have c9:y[4]?.map (fun o=>(o.dst,o.op,o.guard))=some (some 26,.load 40 (.tmp 25),none):=by rw[z];kernel_rfl
 have e0:y[8]?.map (fun o=>(o.dst,o.op,o.guard))=some (some 30,.buildSlice 30 1 #[(0,.tmp 29)],none):=by rw[z];kernel_rfl
 have e1:y[9]?.map (fun o=>(o.dst,o.op,o.guard))=some (some 31,.call { callee:=.builtin .append,args:=#[.tmp 28,.tmp 30],argTypes:=#[30,30] },none):=by rw[z];kernel_rfl
 have c1:y[13]?.map (fun o=>(o.dst,o.op,o.guard))=some (some 35,.buildSlice 30 2 #[(0,.tmp 33),(1,.tmp 34)],none):=by rw[z];kernel_rfl
 have c2:y[14]?.map (fun o=>(o.dst,o.op,o.guard))=some (some 36,.call { callee:=.builtin .append,args:=#[.tmp 32,.tmp 35],argTypes:=#[30,30] },none):=by rw[z];kernel_rfl
 have c4:y[22]?.map (fun o=>(o.dst,o.op,o.guard))=some (some 44,.buildSlice 30 6 #[(0,.tmp 38),(1,.tmp 39),(2,.tmp 40),(3,.tmp 41),(4,.tmp 42),(5,.tmp 43)],none):=by rw[z];kernel_rfl
 have c5:y[23]?.map (fun o=>(o.dst,o.op,o.guard))=some (some 45,.call { callee:=.builtin .append,args:=#[.tmp 37,.tmp 44],argTypes:=#[30,30] },none):=by rw[z];kernel_rfl
 have c7:y[24]?.map (fun o=>(o.dst,o.op,o.guard))=some (some 46,.buildSlice 116 4 #[(0,.tmp 27),(1,.tmp 31),(2,.tmp 36),(3,.tmp 45)],none):=by rw[z];kernel_rfl
 have c8:y[25]?.map (fun o=>(o.dst,o.op,o.guard))=some (some 47,.buildSlice 40 1 #[(0,.tmp 46)],none):=by rw[z];kernel_rfl
 clear z;refine Dx (I:=fun L a w=>∃f:Nat->Bool,L=wj (f 4) (f 8) (f 9) (f 13) (f 14) (f 22) (f 23) (f 24) (f 25)/\r1 (f 8) (f 9) (f 13) (f 14) (f 22) (f 23) (f 24) (f 25)=true/\KI A bb l n m vB f a w) (stop:=fun L=>L=wj true true true true true true true true true) ?_ ?_ 13 _ a0 A (by decide) ⟨fun _=>false,rfl,rfl,h0⟩
 ·rintro L a w ⟨f,rfl,u,b⟩ b8;have b9:(f 4&&f 25)=false:=by
   cases b4:f 4
   ·rfl
   ·cases j:f 25
    ·rfl
    ·exfalso;apply b8;unfold r1 at u;rw[j]at u;simp only[Bool.not_true,Bool.false_or,gA]at u;obtain⟨⟨⟨⟨J,B⟩,c3⟩,K⟩,U⟩:=u;rw[U]at K;simp only[Bool.not_true,Bool.false_or]at K;rw[K]at c3;simp only[Bool.not_true,Bool.false_or,gA]at c3;rw[c3.2]at B;simp only[Bool.not_true,Bool.false_or,gA]at B;rw[B.2]at J;simp only[Bool.not_true,Bool.false_or]at J;rw[J,B.1,B.2,c3.1,c3.2,K,U,b4,j]
  obtain⟨Z,a1⟩:=Qu c0 (f 4) (f 8) (f 9) (f 13) (f 14) (f 22) (f 23) (f 24) (f 25) u b9;refine⟨Z,fun i hi=>?_⟩;have hu:=a1 i hi;clear a1 hi Z;simp only[Ja,Bool.or_eq_true,gA,bL,Bool.not_eq_true']at hu;have S:w.ownsRow 0 9 1 l n (bW n m):=b.aY 0 l n Y;have b6:w.heap[bb]?=some (.cells #[vB] 42 (0,0)):=by rw[b.grown.block bb (an T) b7];exact T
  have v:∀{x:Bool} {P:Prop},x=false->x=true->P:=fun h1 V=>by rw[h1]at V;cases V
  rcases hu with(((((((hu|hu)|hu)|hu)|hu)|hu)|hu)|hu)|hu
  ·obtain⟨rfl,hu⟩:=hu;refine gG c9 fun o s t=>GH t (b.ptr 25 (by decide)) (ab b6 0 _ rfl) ⟨kA f 4,rfl,u,?_⟩
   rw[s];exact b.step (by decide) (oE _ _) (fun _ _ _ h=>h) (fun _=>rfl) (fun k p=>by simp[fV]at p) (fun e=>by cases e) (fun e=>by cases e) (fun _=>⟨ah rfl,aB _ _⟩) (fun _=>⟨rfl,aB _ _⟩)
  ·obtain⟨⟨⟨rfl,R⟩,r⟩,j⟩:=hu;refine gG e0 fun o s t=>GM t (b.MH 29 (by decide)) ⟨kA f 8,rfl,?_,?_⟩
   ·revert u;simp only[r1,kA];cases f 9<;>cases f 13<;>cases f 14<;>cases f 22<;>cases f 23<;>cases f 24<;>cases f 25<;>simp[R]
   ·rw[s];exact b.step (by decide) (iI _ _) (hA.alloc _ _) (fun e=>by cases e) (fun k p=>by simp[fV]at p;subst p;exact nd 1 _ rfl (by decide)) (fun e=>by cases e) (fun e=>by cases e) (fun h=>v r h) (fun h=>v j h)
  ·obtain⟨⟨⟨⟨rfl,R⟩,D⟩,r⟩,j⟩:=hu;obtain⟨g,c,E,hc⟩:=qh (b.row (i:=8) (d:=30) (k:=1) (by simp[fV]) R) (by decide);refine gG e1 fun o s t=>vr t (b.QZ 28 (by decide)) S E (by decide) (by decide) hc (by omega) fun a3 w' F G H=>⟨kA f 9,rfl,?_,?_⟩
   ·revert u;simp only[r1,kA];cases f 13<;>cases f 14<;>cases f 22<;>cases f 23<;>cases f 24<;>cases f 25<;>simp[R,D]
   ·rw[s];exact b.step (by decide) G H (fun e=>by cases e) (fun k p=>by simp[fV]at p;subst p;exact F) (fun e=>by cases e) (fun e=>by cases e) (fun h=>v r h) (fun h=>v j h)
  ·obtain⟨⟨⟨rfl,M⟩,r⟩,j⟩:=hu;refine gG c1 fun o s t=>GL t (b.MH 33 (by decide)) (b.MH 34 (by decide)) ⟨kA f 13,rfl,?_,?_⟩
   ·revert u;simp only[r1,kA];cases f 8<;>cases f 9<;>cases f 14<;>cases f 22<;>cases f 23<;>simp[M,r,j]
   ·rw[s];exact b.step (by decide) (iI _ _) (hA.alloc _ _) (fun e=>by cases e) (fun k p=>by simp[fV]at p;subst p;exact nd 2 _ rfl (by decide)) (fun e=>by cases e) (fun e=>by cases e) (fun h=>v r h) (fun h=>v j h)
  ·obtain⟨⟨⟨⟨⟨rfl,D⟩,M⟩,C⟩,r⟩,j⟩:=hu;obtain⟨g,c,E,hc⟩:=qh (b.row (i:=13) (d:=35) (k:=2) (by simp[fV]) M) (by decide);refine gG c2 fun o s t=>vr t (b.QZ 32 (by decide)) S E (by decide) (by decide) hc (by omega) fun a3 w' F G H=>⟨kA f 14,rfl,?_,?_⟩
   ·revert u;simp only[r1,kA];cases f 8<;>cases f 22<;>cases f 23<;>simp[D,M,C,r,j]
   ·rw[s];exact b.step (by decide) G H (fun e=>by cases e) (fun k p=>by simp[fV]at p;subst p;exact F) (fun e=>by cases e) (fun e=>by cases e) (fun h=>v r h) (fun h=>v j h)
  ·obtain⟨⟨⟨rfl,N⟩,r⟩,j⟩:=hu;refine gG c4 fun o s t=>GJ t (b.MH 38 (by decide)) (b.MH 39 (by decide)) (b.MH 40 (by decide)) (b.MH 41 (by decide)) (b.MH 42 (by decide)) (b.MH 43 (by decide)) ⟨kA f 22,rfl,?_,?_⟩
   ·revert u;simp only[r1,kA];cases f 8<;>cases f 9<;>cases f 13<;>cases f 14<;>cases f 23<;>simp[N,r,j]
   ·rw[s];exact b.step (by decide) (iI _ _) (hA.alloc _ _) (fun e=>by cases e) (fun k p=>by simp[fV]at p;subst p;exact nd 6 _ rfl (by decide)) (fun e=>by cases e) (fun e=>by cases e) (fun h=>v r h) (fun h=>v j h)
  ·obtain⟨⟨⟨⟨⟨rfl,C⟩,N⟩,O⟩,r⟩,j⟩:=hu;obtain⟨g,c,E,hc⟩:=qh (b.row (i:=22) (d:=44) (k:=6) (by simp[fV]) N) (by decide);refine gG c5 fun o s t=>vr t (b.QZ 37 (by decide)) S E (by decide) (by decide) hc (by omega) fun a3 w' F G H=>⟨kA f 23,rfl,?_,?_⟩
   ·revert u;simp only[r1,kA];cases f 8<;>cases f 9<;>cases f 13<;>simp[C,N,O,r,j]
   ·rw[s];exact b.step (by decide) G H (fun e=>by cases e) (fun k p=>by simp[fV]at p;subst p;exact F) (fun e=>by cases e) (fun e=>by cases e) (fun h=>v r h) (fun h=>v j h)
  ·obtain⟨⟨⟨⟨⟨rfl,D⟩,C⟩,O⟩,r⟩,j⟩:=hu;obtain⟨g0,e2,a4⟩:=nH S;obtain⟨g1,J,a5⟩:=nH (b.row (i:=9) (d:=31) (k:=n+1) (by simp[fV]) D);obtain⟨g2,B,a6⟩:=nH (b.row (i:=14) (d:=36) (k:=n+2) (by simp[fV]) C);obtain⟨g3,c3,a7⟩:=nH (b.row (i:=23) (d:=45) (k:=n+6) (by simp[fV]) O);refine gG c7 fun o s t=>GK t ((b.QZ 27 (by decide)).trans a4) a5 a6 a7 ⟨kA f 24,rfl,?_,?_⟩
   ·revert u;simp only[r1,kA];cases f 8<;>cases f 13<;>cases f 22<;>simp[D,C,O,r,j]
   ·rw[s];refine b.step (by decide) (iI _ _) (hA.alloc _ _) (fun e=>by cases e) (fun k p=>by simp[fV]at p) (fun _=>⟨w.heap.size,b.grown.size,rfl,?_⟩) (fun e=>by cases e) (fun h=>v r h) (fun h=>v j h);rw[a5,a6,a7,a4];exact aw w _
  ·obtain⟨⟨rfl,r⟩,j⟩:=hu;obtain⟨q,e8,a2,e9⟩:=b.RC r;refine gG c8 fun o s t=>Dw t a2 ⟨kA f 25,rfl,?_,?_⟩
   ·revert u;simp only[r1,kA];cases f 8<;>cases f 9<;>cases f 13<;>cases f 14<;>cases f 22<;>cases f 23<;>simp[r,j]
   ·rw[s];refine b.step (by decide) (iI _ _) (hA.alloc _ _) (fun e=>by cases e) (fun k p=>by simp[fV]at p) (fun e=>by cases e) (fun _=>⟨w.heap.size,b.grown.size,rfl,?_⟩) (fun _=>⟨ac rfl,af w _⟩) (fun h=>v j h);rw[a2];exact aw w _
 ·rintro L a w ⟨f,W,u,b⟩ rfl;have:yz (wj true true true true true true true true true)=4:=by decide
  rw[this];simp only[wj,Array.mk.injEq,List.cons.injEq,true_and,and_true]at W;obtain⟨b2,e6,b3,e4,a8,e5,a9,b0,b1⟩:=W;exact b5 f a w b2.symm b3.symm a8.symm a9.symm b0.symm b1.symm b
def Sl(a:Act)(S:List (Nat×Value)):Prop:=a.tmps.size=51/\a.defers=[]/\∀x∈S,a.eval (.tmp x.1)=x.2
theorem run_move{o:Oper}{a:Act}{w:World}{x:Operand}{v:Value}(b:o.op=.move x)(c:a.eval x=v):(execOp a.eval o).run prog w=.ok (.value v) w:=by
 unfold execOp;simp only[b,c];rfl
theorem Nh{o:Oper}{a:Act}{w:World}{x:Operand}{p:Addr}(b:o.op=.nilCheck x)(c:a.eval x=.pointer (some p)):(execOp a.eval o).run prog w=.ok (.value (.pointer (some p))) w:=by
 unfold execOp;simp only[b,c]
 go_simp
theorem D0{o:Oper}{a:Act}{w:World}{x:Operand}{b:Nat}(c:o.op=.fieldAddr 42 x 0)(d:a.eval x=.pointer (some ⟨b,0,none⟩)):(execOp a.eval o).run prog w=.ok (.value (.pointer (some ⟨b,0,none⟩))) w:=by
 unfold execOp;simp only[c,d]
 go_simp
theorem DG{Q:Exit->Act->World->Prop}{e:Array Oper}{L:Array Bool}{j:Nat}{a:Act}{w:World}{S:List (Nat×Value)}(i d:Nat){v:Value}(p:Op)(b:e[i]?.map (fun o=>(o.dst,o.op,o.guard))=some (some d,p,none))(hc:(Region.noSelect e&&Region.free .any e L i&&(Region.ready .any e L).contains i&&decide (d<51))=true)(q:∀c a a' w,a'.defers=a.defers->Q (.panic c) a' w->Q (.panic c) a w)(h:Sl a S)(s:∀o:Oper,o.op=p->∀w,(execOp a.eval o).run prog w=.ok (.value v) w)(r:∀x∈S,x.1≠d) (k:∀a',Sl a' ((d,v)::S)->wpAny prog .any e Q j (L.setIfInBounds i true) a' w):wpAny prog .any e Q (j+1) L a w:=by
 simp only[gA,e1]at hc;obtain⟨⟨⟨l,m⟩,c3⟩,n⟩:=hc;cases g:e[i]? with
 | none=>rw[g]at b;cases b
 | some o =>
  rw[g]at b;simp only[cU,h3,hZ]at b;refine wpAny_take (v:=v) g l m c3 (fun c a w=>q c a _ w (by rw[b.1];rfl)) (ah ⟨by simp[Region.wanted,b.2.2],s o b.2.1⟩) ?_;rw[b.1];refine k _ ⟨by show (a.tmps.setIfInBounds d v).size=51;rw[Array.size_setIfInBounds];exact h.1,h.2.1,fun x f=>?_⟩;rw[iM (by rw[h.1];exact n)];rcases aT.1 f with rfl|f
  ·rw[ag rfl]
  ·rw[ae (r x f)];exact h.2.2 x f
theorem e9{Q:Exit->Act->World->Prop}{b:Array Oper}{L:Array Bool}{f:Nat}{a:Act}{w:World}{S:List (Nat×Value)}(i d s:Nat){v:Value}(l:b[i]?.map (fun o=>(o.dst,o.op,o.guard))=some (some d,.move (.tmp s),none))(hc:(Region.noSelect b&&Region.free .any b L i&&(Region.ready .any b L).contains i&&decide (d<51))=true)(g:∀c a a' w,a'.defers=a.defers->Q (.panic c) a' w->Q (.panic c) a w)(h:Sl a S)(m:(s,v)∈S)(j:∀x∈S,x.1≠d) (k:∀a',Sl a' ((d,v)::S)->wpAny prog .any b Q f (L.setIfInBounds i true) a' w):wpAny prog .any b Q (f+1) L a w :=
 DG i d _ l hc g h (fun _ e _=>run_move e (h.2.2 _ m)) j k
theorem Et{w:World}{bb:Nat}{l vB:Value}{n:Nat}{m:ai}{Q:Exit->Act->World->Prop}{g:Array Oper}(b:g=Kk Tryz.f22)(d:∀c a a' w,a'.defers=a.defers->Q (.panic c) a' w->Q (.panic c) a w){a:Act}(h:Sl a [(0,.pointer (some ⟨bb,0,none⟩)),(1,l),(4,.string m)]) (k:∀a,KI w bb l n m vB (fun _=>false) a w->wpAny prog .any g Q 13 (wj false false false false false false false false false) a w):wpAny prog .any g Q 30 (Array.replicate 30 false) a w:=by
 refine e9 (v:=.pointer (some ⟨bb,0,none⟩)) 0 22 0 (by rw[b];kernel_rfl) (by rw[b];kernel_rfl) d h (by simp) (by simp) fun a h=>?_
 refine e9 (v:=.pointer (some ⟨bb,0,none⟩)) 1 23 0 (by rw[b];kernel_rfl) (by rw[b];kernel_rfl) d h (by simp) (by simp) fun a h=>?_
 refine DG 2 24 (.nilCheck (.tmp 23)) (by rw[b];kernel_rfl) (by rw[b];kernel_rfl) d h (fun _ e _=>Nh e (h.2.2 (23,.pointer (some ⟨bb,0,none⟩)) (by simp))) (by simp) fun a h=>?_
 refine DG 3 25 (.fieldAddr 42 (.tmp 24) 0) (by rw[b];kernel_rfl) (by rw[b];kernel_rfl) d h (fun _ e _=>D0 e (h.2.2 (24,.pointer (some ⟨bb,0,none⟩)) (by simp))) (by simp) fun a h=>?_
 refine e9 (v:=l) 5 27 1 (by rw[b];kernel_rfl) (by rw[b];kernel_rfl) d h (by simp) (by simp) fun a h=>?_
 refine e9 (v:=l) 6 28 1 (by rw[b];kernel_rfl) (by rw[b];kernel_rfl) d h (by simp) (by simp) fun a h=>?_
 refine e9 (v:=.string m) 7 29 4 (by rw[b];kernel_rfl) (by rw[b];kernel_rfl) d h (by simp) (by simp) fun a h=>?_
 refine e9 (v:=l) 10 32 1 (by rw[b];kernel_rfl) (by rw[b];kernel_rfl) d h (by simp) (by simp) fun a h=>?_
 refine e9 (v:=.string m) 11 33 4 (by rw[b];kernel_rfl) (by rw[b];kernel_rfl) d h (by simp) (by simp) fun a h=>?_
 refine e9 (v:=.string m) 12 34 4 (by rw[b];kernel_rfl) (by rw[b];kernel_rfl) d h (by simp) (by simp) fun a h=>?_
 refine e9 (v:=l) 15 37 1 (by rw[b];kernel_rfl) (by rw[b];kernel_rfl) d h (by simp) (by simp) fun a h=>?_
 refine e9 (v:=.string m) 16 38 4 (by rw[b];kernel_rfl) (by rw[b];kernel_rfl) d h (by simp) (by simp) fun a h=>?_
 refine e9 (v:=.string m) 17 39 4 (by rw[b];kernel_rfl) (by rw[b];kernel_rfl) d h (by simp) (by simp) fun a h=>?_
 refine e9 (v:=.string m) 18 40 4 (by rw[b];kernel_rfl) (by rw[b];kernel_rfl) d h (by simp) (by simp) fun a h=>?_
 refine e9 (v:=.string m) 19 41 4 (by rw[b];kernel_rfl) (by rw[b];kernel_rfl) d h (by simp) (by simp) fun a h=>?_
 refine e9 (v:=.string m) 20 42 4 (by rw[b];kernel_rfl) (by rw[b];kernel_rfl) d h (by simp) (by simp) fun a h=>?_
 refine e9 (v:=.string m) 21 43 4 (by rw[b];kernel_rfl) (by rw[b];kernel_rfl) d h (by simp) (by simp) fun a h=>?_
 refine k a ⟨h.1,h.2.1,fun k f=>?_,fun k f=>?_,fun k f=>?_,oE _ _,fun _ _ _ h=>h,(fun h=>by cases h),(fun r i h=>by cases h),(fun h=>by cases h),(fun h=>by cases h)⟩
 ·exact h.2.2 (k,.pointer (some ⟨bb,0,none⟩)) (by simp only[aT,hh,g6]at f;rcases f with rfl|rfl<;>simp)
 ·exact h.2.2 (k,l) (by simp only[aT,hh,g6]at f;rcases f with rfl|rfl|rfl|rfl<;>simp)
 ·exact h.2.2 (k,.string m) (by simp only[aT,hh,g6]at f;rcases f with rfl|rfl|rfl|rfl|rfl|rfl|rfl|rfl|rfl<;>simp)
def oh(i:Nat):ai:=⟨#[126,UInt8.ofNat i,UInt8.ofNat (i/256),UInt8.ofNat (i/65536)]⟩
theorem yv(i:Nat)(hi:i<=9000000)(w:World):Calls prog 57 #[.int .i64 i] w fun r w'=>r=.returned (.string (oh i))/\Below w.heap.size w w':=by
 have b:=run_convert_bytes_back (P:=prog) (w.alloc (.cells #[.int .u8 ((i:Int)%256),.int .u8 ((i:Int)/256%256),.int .u8 ((i:Int)/65536)] 5)) 63 9 5 ⟨w.heap.size,0,none⟩ 3 [UInt8.ofNat i,UInt8.ofNat (i/256),UInt8.ofNat (i/65536)] Tryz.underlying63 Tryz.underlying5 Tryz.underlying9 fun j a=>by
  have hb:=aw w (.cells #[.int .u8 ((i:Int)%256),.int .u8 ((i:Int)/256%256),.int .u8 ((i:Int)/65536)] 5);rw[Dh];have c:j<3:=a;have hc:∀(u:Value),(#[Value.int .u8 ((i:Int)%256),.int .u8 ((i:Int)/256%256),.int .u8 ((i:Int)/65536)]:Array Value)[j]?=some u->(w.alloc (.cells #[.int .u8 ((i:Int)%256),.int .u8 ((i:Int)/256%256),.int .u8 ((i:Int)/65536)] 5)).cell? ⟨w.heap.size,j,none⟩=some u:=fun u hu=>ab hb j u hu
  rcases j with _|_|_|j
  ·rw[hc _ rfl];simp
  ·rw[hc _ rfl];simp
  ·rw[hc _ rfl];simp;omega
  ·omega
 rw[show [UInt8.ofNat i,UInt8.ofNat (i/256),UInt8.ofNat (i/65536)].length=3 from rfl]at b;go_enter func57,ntmps57;go_wp2_with fail;go_ret;exact⟨rfl,af w _⟩
theorem JW{w:World}{base k au g i:Nat}{e:TypeId}{us:List Value}(h:w.ownsRow base e 1 (.slice (some ⟨g,0,none⟩) k au) k us)(u:Value):(w.setCell ⟨g,i,none⟩ u).ownsRow base e 1 (.slice (some ⟨g,0,none⟩) k au) k (us.set i u):=by
 refine⟨by rw[jc];exact h.1,?_⟩;rcases h.2 with⟨a,_⟩|⟨m,j,l,a,hg,f,h1,b,c,d⟩
 ·cases a
 ·cases a;refine ac ⟨g,au,_,rfl,hg,am f i u,h1,b,by simpa using c,?_⟩;rw[Array.toList_setIfInBounds,List.take_set,d]
theorem qC{w:World}{g i:Nat}(u:Value):w.grownBy (w.setCell ⟨g,i,none⟩ u) (some g):=⟨rfl,rfl,rfl,by rw[lM];exact ar _,fun k _ a=>e2 _ _ _ _ (fun e=>a (by rw[e]))⟩
theorem HB{i:Nat}(m:ai){a:List Value}(hi:i<a.length):(bW i m++a.drop i).set i (.string m)=bW (i+1) m++a.drop (i+1):=by
 rw[List.set_append_right _ _ (by rw[fw];exact ar _),fw,Nat.sub_self,lf hi,List.set_cons_zero,<- yt i 1];rw[eG];rfl
def cR(eK:Nat)(w w':World):Prop:=∀(k:Nat) (a:Array Value) (t:TypeId) (m:Nat×Nat),k<eK->(t=9\/t=30)->w.heap[k]?=some (.cells a t m)->w'.heap[k]?=some (.cells a t m)
theorem cR.trans{eK:Nat}{a b c:World}(h:cR eK a b)(k:cR eK b c):cR eK a c:=fun i d t m hi g j=>k i d t m hi g (h i d t m hi g j)
theorem cR.below{eK:Nat}{w w':World}(h:Below w.heap.size w w'):cR eK w w':=fun k g t m _ _ d=>by rw[h.block k (an d)];exact d
theorem cR.grown{eK:Nat}{w w':World}{r:Option Nat}(h:w.grownBy w' r)(g:∀k,r=some k->eK<=k):cR eK w w':=fun k i t m j _ d=>by
 rw[h.block k (an d) (fun e=>by have:=g k e.symm;omega)];exact d
theorem cR.other{eK g:Nat}{w w':World}{i:Array Value}{t0:TypeId}{m0:Nat×Nat}(h:w.grownBy w' (some g))(hg:w.heap[g]?=some (.cells i t0 m0))(j:¬(t0=9\/t0=30)):cR eK w w':=fun k o t m _ n d=>by
 rw[h.block k (an d) (fun e=>by
  cases e;rw[hg]at d;cases d;exact j n)];exact d
def ms(w:World)(eK:Nat)(m:ai)(v:Value):Prop:=∃k,k<=3000000/\w.ownsRow 0 9 1 v k (bW k m)/\∀b,v.ownBlock=some b->b<eK
def lG(w:World)(eK:Nat)(m:ai)(u:Value):Prop:=∃q v0 a v2 v3,u=.slice (some ⟨q,0,none⟩) 4 4/\q<eK/\w.heap[q]?=some (.cells #[v0,a,v2,v3] 30 (0,0))/\ms w eK m v0/\ms w eK m a/\ms w eK m v2/\ms w eK m v3
theorem ms.aY{w w':World}{eK:Nat}{m:ai}{v:Value}(h:ms w eK m v)(t:cR eK w w'):ms w' eK m v:=by
 obtain⟨k,o,d,hb⟩:=h;refine⟨k,o,⟨d.1,?_⟩,hb⟩;rcases d.2 with q|⟨g,au,i,rfl,h1,j,n⟩
 ·exact ah q
 ·exact ac ⟨g,au,i,rfl,h1,t g _ _ _ (hb g rfl) (ah rfl) j,n⟩
theorem lG.aY{w w':World}{eK:Nat}{m:ai}{u:Value}(h:lG w eK m u)(d:cR eK w w'):lG w' eK m u:=by
 obtain⟨q,v0,v,v2,v3,h1,g,i,j,n,o,t⟩:=h;exact⟨q,v0,v,v2,v3,h1,g,d q _ _ _ g (ac rfl) i,j.aY d,n.aY d,o.aY d,t.aY d⟩
theorem ms.up{w:World}{eK d:Nat}{m:ai}{v:Value}(h:ms w eK m v)(i:eK<=d):ms w d m v:=by
 obtain⟨k,g,j,hb⟩:=h;exact⟨k,g,j,fun b e=>cI (hb b e) i⟩
theorem lG.up{w:World}{eK g:Nat}{m:ai}{u:Value}(h:lG w eK m u)(d:eK<=g):lG w g m u:=by
 obtain⟨q,v0,v,v2,v3,h1,x,i,j,n,o,t⟩:=h;exact⟨q,v0,v,v2,v3,h1,by omega,i,j.up d,n.up d,o.up d,t.up d⟩
def fg(w:World)(base eK bb n:Nat):Prop:=base<=bb/\∃vB us,w.heap[bb]?=some (.cells #[vB] 42 (0,0))/\w.ownsRow base 116 1 vB n us/\∀(i:Nat) (u:Value),us[i]?=some u->lG w eK (oh i) u
theorem fg.below{w w':World}{base eK bb n:Nat}(h:fg w base eK bb n)(hb:Below w.heap.size w w'):fg w' base eK bb n:=by
 obtain⟨h0,o,j,h1,d,g⟩:=h;exact⟨h0,o,j,by rw[hb.block bb (an h1)];exact h1,al d (Kp.below hb),fun i u hu=>(g i u hu).aY (cR.below hb)⟩
theorem fg.up{w:World}{base eK d bb n:Nat}(h:fg w base eK bb n)(o:eK<=d):fg w base d bb n:=by
 obtain⟨h0,t,q,h1,g,j⟩:=h;exact⟨h0,t,q,h1,g,fun i u hu=>(j i u hu).up o⟩
theorem cR.row{eK base n:Nat}{w w':World}{v:Value}{us:List Value}(h:w.ownsRow base 116 1 v n us)(hg:w.grownBy w' v.ownBlock):cR eK w w':=by
 rcases h.2 with⟨rfl,_⟩|⟨g,au,i,rfl,_,d,_⟩
 ·exact cR.grown hg (fun k e=>by cases e)
 ·exact cR.other hg d (by decide)
theorem we{w:World}{base n size bb:Nat}{v:Value}{us:List Value}{e t:TypeId}{b:Array Value}{m:Nat×Nat}(h:w.ownsRow base e size v n us)(hb:w.heap[bb]?=some (.cells b t m))(c:e≠t):some bb≠v.ownBlock:=by
 intro k;rcases h.2 with⟨rfl,_⟩|⟨g,au,d,rfl,_,a,_⟩
 ·cases k
 ·cases k;rw[hb]at a;cases a;exact c rfl
theorem wg{w w':World}{base b n n' size size':Nat}{v l:Value}{us xs:List Value}{e a:TypeId}(h:w.ownsRow base e size v n us)(d:w.ownsRow b a size' l n' xs)(hg:w.grownBy w' l.ownBlock)(f:a≠e):w'.ownsRow base e size v n us:=by
 refine h.kept hg ?_;rcases h.2 with⟨rfl,_⟩|⟨g,au,i,rfl,_,c,_⟩
 ·exact ah rfl
 ·exact ac (we d c f)
theorem KV{w w1 G w3 a:World}{base N bb n k q:Nat}{l vB c s t v:Value}{H us:List Value}{m:ai}(Y:N<=w.heap.size)(a0:base<=N)(a1:k<=2200000)(D:w.ownsRow N 9 1 l k H)(y:w.heap[bb]?=some (.cells #[vB] 42 (0,0)))(r:w.ownsRow base 116 1 vB n us)(J:∀(i:Nat) (u:Value),us[i]?=some u->lG w N (oh i) u)(I:base<=bb)(b1:Below w.heap.size w w1)(hg:w1.grownBy G l.ownBlock)(K:G.grownBy w3 l.ownBlock)(M:m=oh n) (L:w3.ownsRow 0 9 1 l k (bW k m)) (R:w3.ownsRow 0 9 1 s (k+1) (bW (k+1) m)) (S:w3.ownsRow 0 9 1 t (k+2) (bW (k+2) m)) (T:w3.ownsRow 0 9 1 v (k+6) (bW (k+6) m)) (B:w3.heap[q]?=some (.cells #[l,s,t,v] 30 (0,0))) (f:w3.grownBy a vB.ownBlock) (Q:a.ownsRow base 116 1 c (n+1) (us++[.slice (some ⟨q,0,none⟩) 4 4])):fg (a.setCell ⟨bb,0,none⟩ c) base (a.setCell ⟨bb,0,none⟩ c).heap.size bb (n+1)/\Below base w (a.setCell ⟨bb,0,none⟩ c):=by
 have E:=al D (Kp.below b1);have P:=al r (Kp.below b1);have g:w1.heap[bb]?=some (.cells #[vB] 42 (0,0)):=by rw[b1.block bb (an y)];exact y
 have d:=iH hg K;have C:=wg P E d (by decide);have o:w3.heap[bb]?=some (.cells #[vB] 42 (0,0)):=by rw[d.block bb (an g) (we E g (by decide))];exact g
 have p:a.heap[bb]?=some (.cells #[vB] 42 (0,0)):=by rw[f.block bb (an o) (we C o (by decide))];exact o
 have A:∀j,l.ownBlock=some j->N<=j:=fun j e=>(D.lt j e).1
 have sz:w3.heap.size<=(a.setCell ⟨bb,0,none⟩ c).heap.size:=by rw[lM];exact f.size
 have V:∀eK,cR eK a (a.setCell ⟨bb,0,none⟩ c):=fun eK=>cR.other (qC c) p (by decide)
 have F:∀eK,cR eK w3 (a.setCell ⟨bb,0,none⟩ c):=fun eK=>(cR.row C f).trans (V eK)
 have U:cR N w (a.setCell ⟨bb,0,none⟩ c):=((cR.below b1).trans (cR.grown d A)).trans (F N);have mr:∀{x:Value} {j:Nat},j<=3000000->w3.ownsRow 0 9 1 x j (bW j m)->ms w3 w3.heap.size m x:=fun z h=>⟨_,z,h,fun b e=>(h.lt b e).2⟩
 have O:lG (a.setCell ⟨bb,0,none⟩ c) (a.setCell ⟨bb,0,none⟩ c).heap.size (oh n) (.slice (some ⟨q,0,none⟩) 4 4):=by
  rw[<- M];exact(lG.aY ⟨q,l,s,t,v,rfl,an B,B,mr (by omega) L,mr (by omega) R,mr (by omega) S,mr (by omega) T⟩ (F _)).up sz
 have X:w1.heap.size<=w3.heap.size:=d.size;have Z:=b1.size;have W:us.length=n:=by have:=r.1;omega
 refine⟨⟨I,c,us++[.slice (some ⟨q,0,none⟩) 4 4],(am p 0 _).trans rfl,wg Q (l:=.slice (some ⟨bb,0,none⟩) 1 1) (b:=0) (n':=1) (size':=1) (xs:=[vB]) ⟨rfl,ac ⟨bb,1,#[vB],rfl,aJ _,p,ar _,by decide,rfl,rfl⟩⟩ (qC c) (by decide),fun i u hu=>?_⟩,?_⟩
 ·rcases bD hu with⟨h1,_⟩|⟨h1,rfl⟩
  ·exact((J i u h1).aY U).up (by omega)
  ·rw[h1,W];exact O
 ·refine⟨?_,?_,?_,by omega,fun j z=>?_⟩
  ·show a.os=_;rw[f.os,d.os,b1.os]
  ·show a.tape=_;rw[f.tape,d.tape,b1.tape]
  ·show a.output=_;rw[f.output,d.output,b1.output]
  ·rw[show (a.setCell ⟨bb,0,none⟩ c).heap[j]?=a.heap[j]? from e2 _ _ _ _ (show j≠bb by omega),f.block j (by omega) (fun e=>by have:=(r.lt j e.symm).1;omega),d.block j (by omega) (fun e=>by have:=A j e.symm;omega),b1.block j (by omega)]
theorem OW{o:Oper}{a:Act}{w:World}{K:Act->World->Prop}{Q:Exit->Act->World->Prop}{x:Operand}{p:Addr}(c:o.op=.nilCheck x)(d:a.eval x=.pointer (some p))(b:K (a.put o.dst (.pointer (some p))) w):o.wp prog a w K Q:=by
 unfold Oper.wp execOp;simp only[c,d]
 go_simp
 exact b
theorem GI{o:Oper}{a:Act}{w:World}{K:Act->World->Prop}{Q:Exit->Act->World->Prop}{x:Operand}{b:Nat}(d:o.op=.fieldAddr 42 x 0)(e:a.eval x=.pointer (some ⟨b,0,none⟩))(c:K (a.put o.dst (.pointer (some ⟨b,0,none⟩))) w):o.wp prog a w K Q:=by
 unfold Oper.wp execOp;simp only[d,e]
 go_simp
 exact c
theorem Dv{o:Oper}{a:Act}{w:World}{K:Act->World->Prop}{Q:Exit->Act->World->Prop}{x y:Operand}{b n c:Nat}{d:Option Addr}{u:Value}(f:o.op=.store 40 x y)(hd:o.dst=none)(g:a.eval x=.pointer (some ⟨b,0,none⟩))(h:a.eval y=.slice d n c)(hc:w.cell? ⟨b,0,none⟩=some u)(i:w.frozen? ⟨b,0,none⟩=false)(e:K a (w.setCell ⟨b,0,none⟩ (.slice d n c))):o.wp prog a w K Q:=by
 unfold Oper.wp execOp;simp only[f,g,h]
 go_simp
 exact e
theorem Tryz.PB:(prog.info? 116).map (fun i=>(i.zero,i.size,i.bytes))=some (some (.slice none 0 0),1,24):=by kernel_rfl
theorem Tryz.QB:prog.underlying 40=some (.slice 116):=by kernel_rfl
theorem KW(w:World)(base N bb n k:Nat)(v:Value)(C:List Value)(c9:fg w base N bb n)(a4:w.ownsRow N 9 1 v k C)(e0:N<=w.heap.size)(e1:base<=N)(e6:k<=2200000)(h3:n<=2000000):Calls prog 22 #[.pointer (some ⟨bb,0,none⟩),v] w fun r w'=>r=.returned (.tuple #[])/\fg w' base w'.heap.size bb (n+1)/\Below base w w':=by
 obtain⟨B,au,rfl⟩:=ak a4;obtain⟨a8,vB,T,X,a2,a9⟩:=c9;obtain⟨s,y,rfl⟩:=ak a2;have e2:=ab X 0 _ rfl;have F:Hid (w.ownsRow N 9 1 (.slice B k au) k C):=a4;have O:Hid (w.heap[bb]?=some (.cells #[.slice s n y] 42 (0,0))):=X;have P:Hid (w.ownsRow base 116 1 (.slice s n y) n T/\(∀(i:Nat) (u:Value),T[i]?=some u->lG w N (oh i) u)/\base<=bb):=⟨a2,a9,a8⟩;clear a4 X a2 a9 a8;have Z:=yv n (by omega) w;obtain⟨m,Y⟩:∃m,m=oh n:=⟨_,rfl⟩;rw[<- Y]at Z;have b9:Hid (m=oh n):=Y;clear Y;go_enter func22,ntmps22;go_wp2_with fail;refine Z.mono ?_;rintro r U ⟨rfl,b1⟩;have E:Hid (Below w.heap.size w U):=b1;clear b1 Z e2;go_wp2_with fail
 go_loopg [5] k (fun c8 g1 b8=>∃i:Nat,i<=k/\c8=k-i/\g1=.int .i64 i/\Hid (b8.ownsRow N 9 1 (.slice B k au) k (bW i m++C.drop i))/\Hid (U.grownBy b8 (Value.slice B k au).ownBlock))
 case atStart=>exact⟨0,aJ _,rfl,rfl,al F.out (Kp.below E.out),oE _ _⟩
 case round =>
  obtain⟨i,hi,rfl,rfl,H,G⟩:=hrel;obtain⟨z,g0⟩:∃z,z=wr:=⟨wr,rfl⟩;subst g0
  by_cases e7:i<k
  ·have D:Hid (C.length=k):=by have:=F.out.1;show _=_;omega
   obtain⟨u,hu⟩:∃u,(bW i m++C.drop i)[i]?=some u:=⟨_,ax (by rw[aF,fw,gg,D.out];omega)⟩;obtain⟨q,e8,_,hc⟩:=cu H.out hu (by omega);subst e8;have h2:z.frozen? ⟨q,i,none⟩=false:=by
    rcases H.out.2 with⟨e,_⟩|⟨h1,g8,g9,e,_,e5,_⟩
    ·cases e
    ·cases e;exact aq e5 i
   have c2:Hid ((z.setCell ⟨q,i,none⟩ (.string m)).ownsRow N 9 1 (.slice (some ⟨q,0,none⟩) k au) k (bW (i+1) m++C.drop (i+1))):=by
    have:=JW (i:=i) H.out (.string m);rw[HB m (by rw[D.out];exact e7)]at this;exact this
   have c1:Hid (U.grownBy (z.setCell ⟨q,i,none⟩ (.string m)) (some q)):=iH G.out (qC _);clear hu H G D;go_wp2_with fail;go_roundg (k-(i+1))
   case measure=>omega
   case rel=>exact⟨i+1,by omega,rfl,by go_num,c2,c1⟩
  ·obtain rfl:i=k:=by omega
   have D:C.length=i:=by have:=F.out.1;omega
   have a7:Hid (z.ownsRow N 9 1 (.slice B i au) i (bW i m)):=by
    have:=H.out;rw[<- D,List.drop_length,mg,D]at this;exact this
   clear H D;go_wp2_with fail;refine wp_region_any (by kernel_rfl) ?_;change wpAny _ _ _ _ _ _ _ (World.drew _);have b0:some bb≠(Value.slice B i au).ownBlock:=we F.out O.out (by decide);have V:U.heap[bb]?=some (.cells #[.slice s n y] 42 (0,0)):=by rw[E.out.block bb (an O.out)];exact O.out
   have Q:z.drew.heap[bb]?=some (.cells #[.slice s n y] 42 (0,0)):=by
    show z.heap[bb]?=_;rw[G.out.block bb (an V) b0];exact V
   refine Et (bb:=bb) (l:=.slice B i au) (vB:=.slice s n y) (n:=i) (m:=m) (by kernel_rfl) ?_ ⟨rfl,rfl,fun x b5=>?_⟩ fun a0 h0=>KU (by kernel_rfl) Q (bX a7.out (aJ _)) (by omega) h0 ?_
   ·intro c a a' w e h;exact⟨e▸h.1,h.2⟩
   ·simp only[aT,hh,g6]at b5;rcases b5 with rfl|rfl|rfl<;>rfl
   ·intro f a w3 f4 f9 f14 f23 f24 f25 b;obtain⟨q,h4,g2,g3⟩:=b.RC f24;obtain⟨r,h5,g5,b6⟩:=b.RX f25;have S:z.grownBy w3 (Value.slice B i au).ownBlock:=⟨b.grown.os,b.grown.tape,b.grown.output,b.grown.size,b.grown.block⟩;have b4:=al F.out (Kp.below E.out);have a1:w3.ownsRow base 116 1 (.slice s n y) n T:=wg (al P.out.1 (Kp.below E.out)) b4 (iH G.out S) (by decide);have e9:base<=w3.heap.size:=by
     have:=E.out.size;have:=(iH G.out S).size;omega
    refine wpAny_ready (rs:=[26]) (by kernel_rfl) (by simp) ?_;refine AllReady.cons rfl (fun K a6=>?_) AllReady.nil;refine dz rfl (.tmp 26) (.tmp 47) 40 rfl base 116 (.slice none 0 0) 1 24 Tryz.PB Tryz.QB rfl (by decide) (.slice s n y) n T (b.p4 f4) a1 r 1 [.slice (some ⟨q,0,none⟩) 4 4] g5 rfl ?_ ?_ (by omega) (by decide) e9 ?_
    ·intro j u hu;rw[g2]at b6;rcases j with _|j
     ·simp at hu;subst hu;exact ab b6 0 _ rfl
     ·simp at hu
    ·intro u hu;simp at hu;subst hu;rfl
    ·intro h6 b7 a5 g4 _;refine a6 _ _ ?_;clear a6 K;obtain⟨g,t,rfl⟩:=ak a5;have R:w3.heap[bb]?=some (.cells #[.slice s n y] 42 (0,0)):=by rw[b.grown.block bb (an Q) b0];exact Q
     have W:b7.heap[bb]?=some (.cells #[.slice s n y] 42 (0,0)):=by rw[g4.block bb (an R) (we a1 R (by decide))];exact R
     have b3:48<a.tmps.size:=by rw[b.ts];decide
     have c3:(a.put (some 48) (.slice g (n+1) t)).eval (.tmp 22)=.pointer (some ⟨bb,0,none⟩):=by rw[iM b3,ae (by decide)];exact b.ptr 22 (by decide)
     have c4:(a.put (some 48) (.slice g (n+1) t)).eval (.tmp 48)=.slice g (n+1) t:=by rw[iM b3,ag rfl]
     have a3:(a.put (some 48) (.slice g (n+1) t)).tmps.size=51:=by show (a.tmps.setIfInBounds 48 _).size=51;rw[Array.size_setIfInBounds];exact b.ts
     have d4:(a.put (some 48) (.slice g (n+1) t)).defers=[]:=b.df;have c0:=KV e0 e1 e6 F.out O.out P.out.1 P.out.2.1 P.out.2.2 E.out G.out S b9.out (b.aY 0 _ _ (bX a7.out (aJ _))) (b.row (i:=9) (d:=31) (k:=i+1) (by simp[fV]) f9) (b.row (i:=14) (d:=36) (k:=i+2) (by simp[fV]) f14) (b.row (i:=23) (d:=45) (k:=i+6) (by simp[fV]) f23) g3 g4 a5;have e3:=ab W 0 _ rfl;have e4:=aq W 0;clear V Q R W g4 a5 a1 b4 S b;show wpAny _ _ _ _ 3 _ (a.put (some 48) (.slice g (n+1) t)) b7;generalize a.put (some 48) (.slice g (n+1) t)=A at *;refine wpAny_ready (rs:=[27]) (by kernel_rfl) (by simp) (fun j L=>?_);obtain rfl:j=27:=by simpa using L
     refine gG (d:=some 49) (p:=.nilCheck (.tmp 22)) (by kernel_rfl) fun o I J=>OW J c3 ?_
     rw[I];have f48:(A.put (some 49) (.pointer (some ⟨bb,0,none⟩))).eval (.tmp 48)=.slice g (n+1) t:=by rw[iM (by rw[a3];decide),ae (by decide)];exact c4
     have f49:(A.put (some 49) (.pointer (some ⟨bb,0,none⟩))).eval (.tmp 49)=.pointer (some ⟨bb,0,none⟩):=by rw[iM (by rw[a3];decide),ag rfl]
     have b2:(A.put (some 49) (.pointer (some ⟨bb,0,none⟩))).tmps.size=51:=by show (A.tmps.setIfInBounds 49 _).size=51;rw[Array.size_setIfInBounds];exact a3
     have d5:(A.put (some 49) (.pointer (some ⟨bb,0,none⟩))).defers=[]:=d4;generalize A.put (some 49) (.pointer (some ⟨bb,0,none⟩))=M at *;refine wpAny_ready (rs:=[28]) (by kernel_rfl) (by simp) (fun j L=>?_);obtain rfl:j=28:=by simpa using L
     refine gG (d:=some 50) (p:=.fieldAddr 42 (.tmp 49) 0) (by kernel_rfl) fun o I J=>GI J f49 ?_
     rw[I];have c5:(M.put (some 50) (.pointer (some ⟨bb,0,none⟩))).eval (.tmp 48)=.slice g (n+1) t:=by rw[iM (by rw[b2];decide),ae (by decide)];exact f48
     have c7:(M.put (some 50) (.pointer (some ⟨bb,0,none⟩))).eval (.tmp 50)=.pointer (some ⟨bb,0,none⟩):=by rw[iM (by rw[b2];decide),ag rfl]
     have d6:(M.put (some 50) (.pointer (some ⟨bb,0,none⟩))).defers=[]:=d5;generalize M.put (some 50) (.pointer (some ⟨bb,0,none⟩))=g7 at *;refine wpAny_ready (rs:=[29]) (by kernel_rfl) (by simp) (fun j L=>?_);obtain rfl:j=29:=by simpa using L
     refine gG (d:=none) (p:=.store 40 (.tmp 50) (.tmp 48)) (by kernel_rfl) fun o I J=>Dv J I c7 c5 e3 e4 ?_
     refine wpAny_done (by kernel_rfl) ?_ _;exact⟨d6,_,results_none rfl _ _ _,rfl,c0⟩
end Go.Proofs.YtodagkkjfipbgaaGreatDoor
