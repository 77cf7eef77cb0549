import Derived.Test.YtodagkkjfipbgaaGreatDoorM3toN1
namespace Go.Proofs.YtodagkkjfipbgaaGreatDoor
open Go.RowKit
def mayN (ks:List Nat) (V:List (Bool × List Nat)) (c:Bool):Nat→Nat→Prop
 | 0,i=>(V[i]?).map Prod.fst=some c
 | n+1,i=>(V[i]?).map Prod.fst=some c∨∃ k ∈ ks,∃ y,((V[i]?).bind fun r=>r.2[k]?)=some y∧mayN ks V c n y
def mayV (ks:List Nat) (V:List (Bool × List Nat)) (c:Bool) (i:Nat):Prop:=∃ n,mayN ks V c n i
def leadsV (ks:List Nat) (V:List (Bool × List Nat)) (x y:Nat):Prop:=∃ k ∈ ks,((V[x]?).bind fun r=>r.2[k]?)=some y
theorem may_here {ks:List Nat} {V:List (Bool × List Nat)} {c:Bool} {i:Nat} (h:(V[i]?).map Prod.fst=some c):mayV ks V c i:=⟨0,h⟩
theorem may_back {ks:List Nat} {V:List (Bool × List Nat)} {c:Bool} {x y:Nat} (h:leadsV ks V x y) (k:mayV ks V c y):mayV ks V c x:=by
 obtain ⟨n,hn⟩:=k
 obtain ⟨q,hq,e⟩:=h
 exact ⟨n+1,Or.inr ⟨q,hq,y,e,hn⟩⟩
theorem may_least {ks:List Nat} {V:List (Bool × List Nat)} {c:Bool} {M:Nat→Prop} (h0:∀ i:Nat,(V[i]?).map Prod.fst=some c→M i) (h1:∀ x y,leadsV ks V x y→M y→M x):∀ n i,mayN ks V c n i→M i:=by
 intro n
 induction n with
 | zero=>intro i h;exact h0 i h
 | succ n ih =>
  intro i h
  rcases h with h | ⟨k,hk,y,e,h⟩
  ·exact h0 i h
  ·exact h1 i y ⟨k,hk,e⟩ (ih y h)
structure Marks (ks:List Nat) (V:List (Bool × List Nat)) (c:Bool) (M:List Bool) (W:List Nat):Prop where
 len:M.length=V.length
 sound:∀ i,M[i]?=some true→mayV ks V c i
 work:∀ i ∈ W,M[i]?=some true
 done:∀ y,M[y]?=some true→y ∈ W∨∀ x,leadsV ks V x y→M[x]?=some true
def toDo (M:List Bool) (W:List Nat):Nat:=2 * M.count false+W.length
theorem count_set {M:List Bool} {i:Nat} (h:M[i]?=some false):(M.set i true).count false+1=M.count false:=by
 induction M generalizing i with
 | nil=>simp at h
 | cons a M ih =>
  cases i with
  | zero=>simp at h;subst h;simp
  | succ i =>
   have:=ih (i:=i) (by simpa using h)
   simp only [List.set_cons_succ,List.count_cons]
   omega
def markM (M:List Bool) (W:List Nat) (i:Nat):List Bool × List Nat:=if M[i]?=some false then (M.set i true,W++[i]) else (M,W)
theorem markM_len (M:List Bool) (W:List Nat) (i:Nat):(markM M W i).1.length=M.length:=by unfold markM;split <;> simp
theorem markM_toDo (M:List Bool) (W:List Nat) (i:Nat):toDo (markM M W i).1 (markM M W i).2≤toDo M W:=by
 unfold markM
 split
 ·rename_i h
  have:=count_set h
  unfold toDo
  simp
  omega
 ·exact Nat.le_refl _
theorem markM_keep {M:List Bool} {W:List Nat} {i j:Nat} (h:M[j]?=some true):(markM M W i).1[j]?=some true:=by
 unfold markM
 split
 ·rw [List.getElem?_set]
  split
  ·rename_i e;subst e;rw [if_pos (List.getElem?_eq_some_iff.1 h).1]
  ·exact h
 ·exact h
theorem markM_here {M:List Bool} {W:List Nat} {i:Nat} (h:i<M.length):(markM M W i).1[i]?=some true:=by
 unfold markM
 split
 ·rw [List.getElem?_set_self h]
 ·rename_i hn
  cases hb:M[i]? with
  | none=>rw [List.getElem?_eq_none_iff] at hb;omega
  | some b=>cases b with
   | false=>exact absurd hb hn
   | true=>rfl
theorem markM_new {M:List Bool} {W:List Nat} {i j:Nat} (h:(markM M W i).1[j]?=some true):M[j]?=some true∨(j=i∧j ∈ (markM M W i).2):=by
 unfold markM at *
 split at h
 ·rename_i hc
  rw [if_pos hc]
  rw [List.getElem?_set] at h
  split at h
  ·rename_i e;subst e;right;exact ⟨rfl,by simp⟩
  ·left;exact h
 ·left;exact h
theorem markM_work {M:List Bool} {W:List Nat} {i j:Nat} (h:j ∈ W):j ∈ (markM M W i).2:=by
 unfold markM
 split
 ·simp [h]
 ·exact h
theorem markM_sub {M:List Bool} {W:List Nat} {i j:Nat} (h:j ∈ (markM M W i).2):j ∈ W∨j=i:=by
 unfold markM at h
 split at h
 ·simpa using h
 ·exact Or.inl h
structure Marks0 (ks:List Nat) (V:List (Bool × List Nat)) (c:Bool) (D:Nat→Prop) (M:List Bool) (W:List Nat):Prop where
 len:M.length=V.length
 sound:∀ i,M[i]?=some true→mayV ks V c i
 work:∀ i ∈ W,M[i]?=some true
 done:∀ y,M[y]?=some true→y ∈ W∨D y∨∀ x,leadsV ks V x y→M[x]?=some true
theorem Marks0.mark {ks:List Nat} {V:List (Bool × List Nat)} {c:Bool} {D:Nat→Prop} {M:List Bool} {W:List Nat} (h:Marks0 ks V c D M W) {i:Nat} (hi:i<V.length) (hm:mayV ks V c i):Marks0 ks V c D (markM M W i).1 (markM M W i).2:=by
 refine ⟨(markM_len _ _ _).trans h.len,fun j hj=>?_,fun j hj=>?_,fun y hy=>?_⟩
 ·rcases markM_new hj with h1 | ⟨rfl,_⟩
  ·exact h.sound j h1
  ·exact hm
 ·rcases markM_sub hj with h1 | rfl
  ·exact markM_keep (h.work j h1)
  ·exact markM_here (by rw [h.len];exact hi)
 ·rcases markM_new hy with h1 | ⟨_,h1⟩
  ·rcases h.done y h1 with h2 | h2 | h2
   ·exact Or.inl (markM_work h2)
   ·exact Or.inr (Or.inl h2)
   ·exact Or.inr (Or.inr fun x hx=>markM_keep (h2 x hx))
  ·exact Or.inl h1
theorem Marks0.all {ks:List Nat} {V:List (Bool × List Nat)} {c:Bool} {M:List Bool} (h:Marks0 ks V c (fun _=>False) M []) (h0:∀ i:Nat,(V[i]?).map Prod.fst=some c→M[i]?=some true) (i:Nat):M[i]?=some true↔mayV ks V c i:=by
 refine ⟨h.sound i,fun ⟨n,hn⟩=>may_least (M:=fun i=>M[i]?=some true) h0 (fun x y hxy hy=>?_) n i hn⟩
 rcases h.done y hy with h1 | h1 | h1
 ·simp at h1
 ·exact h1.elim
 ·exact h1 x hxy
def SrcOk (ks:List Nat) (V:List (Bool × List Nat)) (src:List (List Nat)):Prop:=src.length=V.length∧∀ y l,src[y]?=some l→∀ x,x ∈ l↔leadsV ks V x y
open Go.Maps
theorem cellLt {w:World} {b o:Nat} {v:Value} (h:w.cell? ⟨b,o,none⟩=some v):b<w.heap.size:=by
 rcases Nat.lt_or_ge b w.heap.size with h1 | h1
 ·exact h1
 ·exfalso
  have:w.heap[b]?=none:=Array.getElem?_eq_none h1
  simp [World.cell?,this] at h
theorem row_at {w:World} {base n size:Nat} {e:TypeId} {ao:Option Addr} {cap:Nat} {us:List Value} (h:w.ownsRow base e size (.slice ao n cap) n us) {o:Nat} {u:Value} (hu:us[o]?=some u) (ho:o<n * size):∃ q,ao=some ⟨q,0,none⟩∧base≤q∧w.cell? ⟨q,o,none⟩=some u:=by
 obtain ⟨_,h3⟩:=h
 rcases h3 with ⟨hv,hn⟩ | ⟨q,cap',cur,hv,hg,hh,_,_,_,hcur⟩
 ·subst hn;omega
 ·injection hv with hv _ _
  refine ⟨q,hv,hg,cell_of_block hh o u ?_⟩
  have e1:(cur.toList.take (n * size))[o]?=some u:=by rw [hcur];exact hu
  rw [List.getElem?_take,if_pos ho] at e1
  simpa using e1
theorem spotCells_at:∀ (tab:Tab) (i:Nat) (m:Bool) (l:List Nat),(∀ r ∈ tab,r.2.length=8)→tab[i]?=some (m,l)→(spotCells tab)[i * 9]?=some (.bool m)∧∀ k n,l[k]?=some n→(spotCells tab)[i * 9+1+k]?=some (.int .i64 (n:Nat)):=by
 intro tab
 induction tab with
 | nil=>intro i m l _ h;simp at h
 | cons a tab ih =>
  intro i m l hr h
  have hla:(spotCell a).length=9:=by unfold spotCell;simp [hr a List.mem_cons_self]
  have e:spotCells (a :: tab)=spotCell a++spotCells tab:=rfl
  cases i with
  | zero =>
   simp at h
   subst h
   rw [e]
   refine ⟨by rw [List.getElem?_append_left (by omega)];rfl,fun k n hk=>?_⟩
   have hlt:=(List.getElem?_eq_some_iff.1 hk).1
   have hl:=hr (m,l) List.mem_cons_self
   simp only at hl
   rw [List.getElem?_append_left (by omega),show 0 * 9+1+k=k+1 from by omega]
   unfold spotCell
   rw [List.getElem?_cons_succ,List.getElem?_map,hk]
   rfl
  | succ i =>
   have:=ih i m l (fun r h=>hr r (List.mem_cons_of_mem _ h)) (by simpa using h)
   rw [e]
   refine ⟨?_,fun k n hk=>?_⟩
   ·rw [List.getElem?_append_right (by omega),hla,show (i+1) * 9 - 9=i * 9 from by omega];exact this.1
   ·rw [List.getElem?_append_right (by omega),hla,show (i+1) * 9+1+k - 9=i * 9+1+k from by omega];exact this.2 k n hk
set_option maxRecDepth 100000 in
set_option maxHeartbeats 1000000 in
theorem match_any (w:World) (v:Value) (t:Tab) (i:Nat) (hT:TabIn 0 w v t) (ht:TabGood t) (hi:i<t.length) :
  Calls Tryz.prog 182 #[v,.int .i64 i] w fun r w'=>r=.returned (.bool (tmatch t i))∧w'=w:=by
 obtain ⟨ao,cap,rfl⟩:=row_shape hT
 have hc:=spotCells_at t i t[i].1 t[i].2 (fun r h=>(ht.row r h).1) (List.getElem?_eq_getElem hi)
 obtain ⟨q,hq,_,hc0⟩:=row_at hT hc.1 (by omega)
 subst hq
 have hlen:=ht.few
 have e:tmatch t i=t[i].1:=by unfold tmatch;rw [List.getElem?_eq_getElem hi];rfl
 rw [e]
 generalize t[i].1=m at hc0
 clear hT hc
 go_enter Tryz.func182,Tryz.ntmps182
 go_wp2_with fail
 go_ret
 exact ⟨rfl,rfl⟩
set_option maxRecDepth 100000 in
set_option maxHeartbeats 1000000 in
theorem tnext_any (w:World) (v:Value) (t:Tab) (i k:Nat) (hT:TabIn 0 w v t) (ht:TabGood t) (hi:i<t.length) (hk:k<8) :
  Calls Tryz.prog 184 #[v,.int .i64 i,.int .u8 k] w fun r w'=>r=.returned (.int .i64 (tnext t i k:Nat))∧w'=w:=by
 obtain ⟨ao,cap,rfl⟩:=row_shape hT
 have hl:=(ht.row t[i] (List.getElem_mem hi)).1
 have hc:=spotCells_at t i t[i].1 t[i].2 (fun r h=>(ht.row r h).1) (List.getElem?_eq_getElem hi)
 obtain ⟨q,hq,_,hc0⟩:=row_at hT (hc.2 k (t[i].2[k]'(by omega)) (List.getElem?_eq_getElem (by omega))) (by omega)
 subst hq
 have hlen:=ht.few
 have e:tnext t i k=t[i].2[k]'(by omega):=by unfold tnext;rw [List.getElem?_eq_getElem hi];simp only [Option.bind_some];rw [List.getElem?_eq_getElem (by omega)];rfl
 rw [e]
 generalize t[i].2[k]'(by omega)=m at hc0
 clear hT hc
 go_enter Tryz.func184,Tryz.ntmps184
 go_wp2_with fail
 go_ret
 exact ⟨rfl,rfl⟩
def aCells (J:AJ) (vs:List (Value × Value)):List Value:=(J.zip vs).flatMap fun o=>[.bool o.1.cut,o.2.1,o.2.2]
structure AIn (base:Nat) (w:World) (v:Value) (J:AJ) (vs:List (Value × Value)):Prop where
 len:vs.length=J.length
 row:w.ownsRow base 234 3 v J.length (aCells J vs)
 tab:∀ (i:Nat) (r:ARule) (u:Value × Value),J[i]?=some r→vs[i]?=some u→TabIn 0 w u.1 r.tl∧TabIn 0 w u.2 r.tr
 ok:∀ r ∈ J,ARuleOk r
theorem AIn.kp {base:Nat} {w w':World} {v:Value} {J:AJ} {vs:List (Value × Value)} (h:AIn base w v J vs) (k0:Kp 234 w w') (k1:Kp 341 w w'):AIn base w' v J vs :=
 ⟨h.len,row_kp h.row k0,fun i r u hr hu=>⟨row_kp (h.tab i r u hr hu).1 k1,row_kp (h.tab i r u hr hu).2 k1⟩,h.ok⟩
theorem AIn.below {base:Nat} {w w':World} {v:Value} {J:AJ} {vs:List (Value × Value)} (h:AIn base w v J vs) (hb:Below w.heap.size w w'):AIn base w' v J vs:=h.kp (Kp.below hb) (Kp.below hb)
theorem aCells_at:∀ (J:AJ) (vs:List (Value × Value)) (i:Nat) (r:ARule) (v:Value × Value),J[i]?=some r→vs[i]?=some v→(aCells J vs)[i * 3]?=some (.bool r.cut)∧(aCells J vs)[i * 3+1]?=some v.1∧(aCells J vs)[i * 3+2]?=some v.2:=by
 intro J
 induction J with
 | nil=>intro vs i r v h;simp at h
 | cons a J ih =>
  intro vs i r v h1 h2
  cases vs with
  | nil=>simp at h2
  | cons u vs =>
   cases i with
   | zero=>simp at h1 h2;subst h1;subst h2;simp [aCells]
   | succ i =>
    simp at h1 h2
    have:=ih vs i r v h1 h2
    have e:∀ k,(aCells (a :: J) (u :: vs))[(i+1) * 3+k]?=(aCells J vs)[i * 3+k]?:=by
     intro k;rw [show (i+1) * 3+k=(i * 3+k)+3 from by omega];rfl
    have e0:=e 0
    simp only [Nat.add_zero] at e0
    rw [e0,e 1,e 2];exact this
theorem AIn.form {base:Nat} {w:World} {v:Value} {J:AJ} {vs:List (Value × Value)} (h:AIn base w v J vs):∃ ao cap,v=.slice ao J.length cap∧∀ i (hi:i<J.length),∃ g aL nL cL aR nR cR,ao=some ⟨g,0,none⟩∧g<w.heap.size∧TabIn 0 w (.slice aL nL cL) J[i].tl∧TabIn 0 w (.slice aR nR cR) J[i].tr ∧
  w.cell? ⟨g,i * 3,none⟩=some (.bool J[i].cut)∧w.cell? ⟨g,i * 3+1,none⟩=some (.slice aL nL cL)∧w.cell? ⟨g,i * 3+2,none⟩=some (.slice aR nR cR):=by
 obtain ⟨ao,cap,rfl⟩:=row_shape h.row
 refine ⟨ao,cap,rfl,fun i hi=>?_⟩
 obtain ⟨u,hu⟩:∃ u,vs[i]?=some u:=⟨vs[i]'(by rw [h.len];exact hi),List.getElem?_eq_getElem _⟩
 have hc:=aCells_at J vs i _ u (List.getElem?_eq_getElem hi) hu
 have ht:=h.tab i _ u (List.getElem?_eq_getElem hi) hu
 obtain ⟨aL,cL,eL⟩:=row_shape ht.1
 obtain ⟨aR,cR,eR⟩:=row_shape ht.2
 rw [eL] at ht
 rw [eR] at ht
 rw [eL,eR] at hc
 obtain ⟨g,hg,_,h0⟩:=row_at h.row hc.1 (by omega)
 obtain ⟨g1,hg1,_,h1⟩:=row_at h.row hc.2.1 (by omega)
 obtain ⟨g2,hg2,_,h2⟩:=row_at h.row hc.2.2 (by omega)
 rw [hg] at hg1 hg2
 simp at hg1 hg2
 subst hg1;subst hg2
 exact ⟨g,aL,_,cL,aR,_,cR,hg,cellLt h0,ht.1,ht.2,h0,h1,h2⟩
end Go.Proofs.YtodagkkjfipbgaaGreatDoor
namespace Go.Proofs.YtodagkkjfipbgaaGreatDoor
open Go.RowKit
def marks (n:Nat) (m:ByteArray):List Value:=List.replicate n (.string m)
theorem marks_len (n:Nat) (m:ByteArray):(marks n m).length=n:=by unfold marks;simp
theorem marks_at {n i:Nat} (m:ByteArray) (h:i<n):(marks n m)[i]?=some (.string m):=by unfold marks;rw [List.getElem?_replicate,if_pos h]
theorem marks_app (n j:Nat) (m:ByteArray):marks n m++marks j m=marks (n+j) m:=by unfold marks;rw [List.replicate_append_replicate]
theorem take_over {α:Type} (cur:List α) (n j k:Nat) (x:α) (h:cur.take k=List.replicate k x) (hn:n+j≤cur.length):(cur.take n++List.replicate j x++cur.drop (n+j)).take k=List.replicate k x:=by
 have hk:k≤cur.length:=by have:=congrArg List.length h;simp at this;omega
 have hat:∀ i,i<k→cur[i]?=some x:=by
  intro i hi
  have:=congrArg (fun l=>l[i]?) h
  simp only [List.getElem?_take,if_pos hi,List.getElem?_replicate] at this
  exact this
 apply List.ext_getElem?
 intro i
 by_cases hi:i<k
 ·rw [List.getElem?_take,if_pos hi,List.getElem?_replicate,if_pos hi]
  by_cases h1:i<n
  ·rw [List.append_assoc,List.getElem?_append_left (by simp;omega),List.getElem?_take,if_pos h1];exact hat i hi
  ·by_cases h2:i<n+j
   ·rw [List.getElem?_append_left (by simp;omega),List.getElem?_append_right (by simp;omega),List.getElem?_replicate,if_pos (by simp;omega)]
   ·rw [List.getElem?_append_right (by simp;omega),List.getElem?_drop]
    have e:n+j+(i - (cur.take n++List.replicate j x).length)=i:=by simp;omega
    rw [e];exact hat i hi
 ·rw [List.getElem?_take,if_neg hi,List.getElem?_replicate,if_neg hi]
def KeepM (m:ByteArray) (w w':World):Prop:=∀ (b:Nat) (u:Value) (k:Nat),w.ownsRow b 9 1 u k (marks k m)→w'.ownsRow b 9 1 u k (marks k m)
theorem KeepM.trans {m:ByteArray} {a b c:World} (h:KeepM m a b) (h':KeepM m b c):KeepM m a c:=fun b u k hh=>h' b u k (h b u k hh)
theorem KeepM.below {m:ByteArray} {w w':World} (h:Below w.heap.size w w'):KeepM m w w':=fun _ _ _ hh=>row_kp hh (Kp.below h)
theorem KeepM.alloc {m:ByteArray} (w:World) (o:Obj):KeepM m w (w.alloc o):=fun _ _ _ h=>h.alloc o
theorem KeepM.room {m:ByteArray} {w:World} {g n j:Nat} {cur:Array Value} (hg:w.heap[g]?=some (.cells cur 9 (0,0))) (hfit:n+j≤cur.size):KeepM m w (w.setRow g (cur.toList.take n++marks j m++cur.toList.drop (n+j)).toArray):=by
 intro b u k h
 refine ⟨h.1,?_⟩
 rcases h.2 with hn | ⟨g',cap,cur',rfl,hb,hgg,hk,hc,hs,ht⟩
 ·exact Or.inl hn
 ·refine Or.inr ?_
  by_cases e:g'=g
  ·subst e
   rw [hg] at hgg
   cases hgg
   refine ⟨g',cap,_,rfl,hb,setRow_heap w g' cur _ 9 _ hg,hk,hc,?_,?_⟩
   ·simp only [List.size_toArray,List.length_append,List.length_take,List.length_drop,Array.length_toList,marks_len]
    omega
   ·rw [Nat.mul_one] at ht ⊢
    exact take_over cur.toList n j k (.string m) ht (by rw [Array.length_toList];exact hfit)
  ·exact ⟨g',cap,cur',rfl,hb,(setRow_other w g g' _ e).trans hgg,hk,hc,hs,ht⟩
theorem run_marks (w:World) (ty:TypeId) (base:Nat) (m:ByteArray) (v:Value) (n:Nat) (hown:w.ownsRow base 9 1 v n (marks n m)) (a:Addr) (j c:Nat) (hj:0<j) (hj6:j≤6) (hnews:∀ i u,(marks j m)[i]?=some u→w.cell? (a.add i)=some u) (hn:n≤9000000000) (hbase:base≤w.heap.size) :
  ∃ v' w',(Builtin.append_ #[30,30] ty #[v,.slice (some a) j c]).run Tryz.prog w=.ok v' w'∧w'.ownsRow base 9 1 v' (n+j) (marks (n+j) m)∧w.grownBy w' v.ownBlock∧KeepM m w w':=by
 obtain ⟨i,hi,hz0,hz1,hz2⟩:=info_parts Tryz.infoStr
 have hb:(n+j) * 16≤140737488355328:=by omega
 have hl:(marks j m).length=j * 1:=by rw [marks_len];omega
 have ho:∀ u ∈ marks j m,u.oneCell'=true:=fun u hu=>by unfold marks at hu;rw [List.eq_of_mem_replicate hu];rfl
 obtain ⟨v',w',hr,hw,hg,_⟩:=run_append_own (P:=Tryz.prog) w base 30 ty 9 i (.string ⟨#[]⟩) 1 16 Tryz.underlying30 hi hz0 hz1 hz2 rfl (by decide) v n (marks n m) hown a j c (marks j m) hl hnews ho (by simp only [maxLen];omega) hb hbase
 rw [marks_app] at hw
 refine ⟨v',w',hr,hw,hg,?_⟩
 rcases hown.2 with ⟨rfl,rfl⟩ | ⟨g,cap,cur,rfl,hbg,hgg,hnc,hcm,hcs,htake⟩
 ·have hr2:=run_append_nil (P:=Tryz.prog) w 30 ty 9 i (.string ⟨#[]⟩) Tryz.underlying30 hi hz0 a j c (marks j m) (by rw [hz1];exact hl) hnews (by omega) (by omega) (by rw [hz2];omega)
  rw [hr2] at hr
  injection hr with h1 h2
  rw [← h2]
  exact fun b u k h=>World.ownsRow.alloc (w:=w.drew) h _
 ·by_cases hroom:n+j≤cap
  ·have hfit:n * i.size+(marks j m).length≤cur.size:=by rw [hz1,marks_len];omega
   have hr2:=run_append_room (P:=Tryz.prog) w 30 ty 9 i Tryz.underlying30 hi g n cap cur hgg a j c (marks j m) (by rw [hz1];exact hl) hnews ho hroom hfit
   rw [hr2] at hr
   injection hr with h1 h2
   rw [← h2,hz1,marks_len,Nat.mul_one]
   exact KeepM.room hgg (by omega)
  ·have hr2:=run_append_grow (P:=Tryz.prog) w 30 ty 9 i (.string ⟨#[]⟩) Tryz.underlying30 hi hz0 ⟨g,0,none⟩ n cap (marks n m) (by rw [hz1];exact hown.1) (hown.cells (g:=g) rfl) a j c (marks j m) (by rw [hz1];exact hl) hnews (by omega) (by omega) (growslice_fits (by omega) (by rw [hz2];exact hb))
   rw [hr2] at hr
   injection hr with h1 h2
   rw [← h2]
   exact fun b u k h=>World.ownsRow.alloc (w:=w.drew) h _
end Go.Proofs.YtodagkkjfipbgaaGreatDoor
namespace Go.Proofs.YtodagkkjfipbgaaGreatDoor
open Go.RowKit
def leftB (L:Array Bool):Nat:=L.toList.count false
theorem cnt_setB:∀ (l:List Bool) (i:Nat),l[i]?=some false→(l.set i true).count false+1=l.count false:=by
 intro l
 induction l with
 | nil=>intro i h;simp at h
 | cons a l ih =>
  intro i h
  cases i with
  | zero=>simp at h;subst h;simp
  | succ i =>
   have:=ih i (by simpa using h)
   rw [List.set_cons_succ,List.count_cons,List.count_cons]
   omega
theorem leftB_set {L:Array Bool} {i:Nat} (h:L.getD i true=false):leftB (L.setIfInBounds i true)+1=leftB L:=by
 unfold leftB
 have hi:L.toList[i]?=some false:=by
  rw [Array.getD_eq_getD_getElem?] at h
  rw [Array.getElem?_toList]
  cases hh:L[i]? with
  | none=>rw [hh] at h;simp at h
  | some b=>rw [hh] at h;simp at h;rw [h]
 rw [Array.toList_setIfInBounds]
 exact cnt_setB _ _ hi
theorem ready_false {md:Region.Mode} {ops:Array Oper} {L:Array Bool} {i:Nat} (h:i ∈ Region.ready md ops L):L.getD i true=false:=by
 unfold Region.ready at h
 have:=(List.mem_filter.1 h).2
 simp only [Bool.and_eq_true,Bool.not_eq_true'] at this
 exact this.1
theorem wpAny_upto {P:Program} {md:Region.Mode} {ops:Array Oper} {Q:Exit→Act→World→Prop} (I:Array Bool→Act→World→Prop) (stop:Array Bool→Prop)
  (hstep:∀ L a w,I L a w→¬ stop L→Region.ready md ops L ≠ []∧∀ i ∈ Region.ready md ops L,wpOp P ops Q i (fun a' w'=>I (L.setIfInBounds i true) a' w') a w)
  (hstop:∀ L a w,I L a w→stop L→wpAny P md ops Q (leftB L) L a w):∀ n L a w,leftB L=n→I L a w→wpAny P md ops Q n L a w:=by
 intro n
 induction n with
 | zero =>
  intro L a w hn hI
  by_cases hs:stop L
  ·rw [← hn];exact hstop L a w hI hs
  ·exfalso
   obtain ⟨h1,_⟩:=hstep L a w hI hs
   obtain ⟨i,hi⟩:=List.exists_mem_of_ne_nil _ h1
   have:=leftB_set (ready_false hi)
   omega
 | succ n ih =>
  intro L a w hn hI
  by_cases hs:stop L
  ·rw [← hn];exact hstop L a w hI hs
  ·obtain ⟨h1,h2⟩:=hstep L a w hI hs
   refine ⟨fun h0=>absurd h0 h1,fun i hi=>?_⟩
   refine wpOp_mono (fun a' w' h'=>?_) (h2 i hi)
   have:=leftB_set (ready_false hi)
   exact ih _ a' w' (by omega) h'
def regOps:Code→Nat→Option (Array Oper)
 | .region i o _,n=>if i=n then some o else none
 | .seq a b,n=>(regOps a n).orElse fun _=>regOps b n
 | .cond _ a b,n=>(regOps a n).orElse fun _=>regOps b n
 | .block _ a,n=>regOps a n
 | .loop a,n=>regOps a n
 | .scope a,n=>regOps a n
 | _,_=>none
def opsOf (f:Func):Array Oper:=(f.body.bind fun c=>regOps c 5).getD #[]
def mkLK (b4 b8 b9 b13 b14 b22 b23 b24 b25:Bool):Array Bool:=#[true,true,true,true,b4,true,true,true,b8,b9,true,true,true,b13,b14,true,true,true,true,true,true,true,b22,b23,b24,b25,false,false,false,false]
def okBK (b8 b9 b13 b14 b22 b23 b24 b25:Bool):Bool:=(!b9 || b8) && (!b14 || (b13 && b9)) && (!b23 || (b22 && b14)) && (!b24 || b23) && (!b25 || b24)
def upOne (i:Nat) (b4 b8 b9 b13 b14 b22 b23 b24 b25:Bool):Bool :=
 (i == 4 && !b4) || (i == 8 && !b8 && !b24 && !b25) || (i == 9 && b8 && !b9 && !b24 && !b25) || (i == 13 && !b13 && !b24 && !b25) || (i == 14 && b9 && b13 && !b14 && !b24 && !b25) || (i == 22 && !b22 && !b24 && !b25) || (i == 23 && b14 && b22 && !b23 && !b24 && !b25) || (i == 24 && b9 && b14 && b23 && !b24 && !b25) || (i == 25 && b24 && !b25)
def upAll (ops:Array Oper):Bool:=[true,false].all fun b4=>[true,false].all fun b8=>[true,false].all fun b9=>[true,false].all fun b13=>[true,false].all fun b14=>[true,false].all fun b22=>[true,false].all fun b23=>[true,false].all fun b24=>[true,false].all fun b25=>!okBK b8 b9 b13 b14 b22 b23 b24 b25 || (b4 && b25) || (!(Region.ready .any ops (mkLK b4 b8 b9 b13 b14 b22 b23 b24 b25)).isEmpty && (Region.ready .any ops (mkLK b4 b8 b9 b13 b14 b22 b23 b24 b25)).all fun i=>upOne i b4 b8 b9 b13 b14 b22 b23 b24 b25)
theorem upAll_ok:upAll (opsOf Tryz.f22)=true:=by kernel_rfl
theorem all_two {p:Bool→Bool} (h:([true,false].all p)=true) (b:Bool):p b=true:=by
 simp at h
 cases b
 ·exact h.2
 ·exact h.1
theorem up_of {ops:Array Oper} (h:upAll ops=true) (b4 b8 b9 b13 b14 b22 b23 b24 b25:Bool) (hok:okBK b8 b9 b13 b14 b22 b23 b24 b25=true) (hs:(b4 && b25)=false):Region.ready .any ops (mkLK b4 b8 b9 b13 b14 b22 b23 b24 b25) ≠ []∧∀ i ∈ Region.ready .any ops (mkLK b4 b8 b9 b13 b14 b22 b23 b24 b25),upOne i b4 b8 b9 b13 b14 b22 b23 b24 b25=true:=by
 unfold upAll at h
 have h:=all_two (all_two (all_two (all_two (all_two (all_two (all_two (all_two (all_two h b4) b8) b9) b13) b14) b22) b23) b24) b25
 rw [hok,hs] at h
 simp only [Bool.not_true,Bool.false_or,Bool.and_eq_true,Bool.not_eq_true',List.all_eq_true] at h
 exact ⟨fun e=>by rw [e] at h;exact absurd h.1 (by decide),h.2⟩
theorem eval_put {a:Act} {d k:Nat} {v:Value} (hd:d<a.tmps.size):(a.put (some d) v).eval (.tmp k)=if k=d then v else a.eval (.tmp k):=by
 show (a.tmps.setIfInBounds d v).getD k undef=if k=d then v else a.tmps.getD k undef
 rw [Array.getD_eq_getD_getElem?,Array.getD_eq_getD_getElem?,Array.getElem?_setIfInBounds]
 by_cases e:d=k
 ·rw [if_pos e,if_pos e.symm,if_pos (by omega)];rfl
 ·rw [if_neg e,if_neg (Ne.symm e)]
theorem wpOp_of {P:Program} {ops:Array Oper} {Q:Exit→Act→World→Prop} {i:Nat} {K:Act→World→Prop} {a:Act} {w:World} {d:Option Tmp} {p:Op} (ho:ops[i]?.map (fun o=>(o.dst,o.op,o.guard))=some (d,p,none)) (h:∀ o:Oper,o.dst=d→o.op=p→o.wp P a w K Q):wpOp P ops Q i K a w:=by
 unfold wpOp
 cases hh:ops[i]? with
 | none=>rw [hh] at ho;cases ho
 | some o =>
  rw [hh] at ho
  simp only [Option.map_some,Option.some.injEq,Prod.mk.injEq] at ho
  have hw:Region.wanted o (yielded ops a.tmps)=true:=by simp [Region.wanted,ho.2.2]
  show (if Region.wanted o (yielded ops a.tmps)=true then _ else _)
  rw [if_pos hw]
  exact Or.inl (h o ho.1 ho.2.1)
section
variable {o:Oper} {a:Act} {w:World} {K:Act→World→Prop} {Q:Exit→Act→World→Prop}
theorem wp_build1 {m:ByteArray} {x:Operand} (hop:o.op=.buildSlice 30 1 #[(0,x)]) (hx:a.eval x=.string m) (hK:K (a.put o.dst (.slice (some ⟨w.heap.size,0,none⟩) 1 1)) (w.alloc (.cells #[.string m] 9))):o.wp Tryz.prog a w K Q:=by
 unfold Oper.wp execOp
 simp only [hop,List.map_toArray,List.map_cons,List.map_nil,hx]
 go_simp
 exact hK
theorem wp_build2 {m:ByteArray} {x y:Operand} (hop:o.op=.buildSlice 30 2 #[(0,x),(1,y)]) (hx:a.eval x=.string m) (hy:a.eval y=.string m) (hK:K (a.put o.dst (.slice (some ⟨w.heap.size,0,none⟩) 2 2)) (w.alloc (.cells #[.string m,.string m] 9))):o.wp Tryz.prog a w K Q:=by
 unfold Oper.wp execOp
 simp only [hop,List.map_toArray,List.map_cons,List.map_nil,hx,hy]
 go_simp
 exact hK
theorem wp_build6 {m:ByteArray} {x1 x2 x3 x4 x5 x6:Operand} (hop:o.op=.buildSlice 30 6 #[(0,x1),(1,x2),(2,x3),(3,x4),(4,x5),(5,x6)]) (h1:a.eval x1=.string m) (h2:a.eval x2=.string m) (h3:a.eval x3=.string m) (h4:a.eval x4=.string m) (h5:a.eval x5=.string m) (h6:a.eval x6=.string m) (hK:K (a.put o.dst (.slice (some ⟨w.heap.size,0,none⟩) 6 6)) (w.alloc (.cells #[.string m,.string m,.string m,.string m,.string m,.string m] 9))):o.wp Tryz.prog a w K Q:=by
 unfold Oper.wp execOp
 simp only [hop,List.map_toArray,List.map_cons,List.map_nil,h1,h2,h3,h4,h5,h6]
 go_simp
 exact hK
theorem wp_build4 {x1 x2 x3 x4:Operand} {o1 o2 o3 o4:Option Addr} {n1 n2 n3 n4 c1 c2 c3 c4:Nat} (hop:o.op=.buildSlice 116 4 #[(0,x1),(1,x2),(2,x3),(3,x4)]) (h1:a.eval x1=.slice o1 n1 c1) (h2:a.eval x2=.slice o2 n2 c2) (h3:a.eval x3=.slice o3 n3 c3) (h4:a.eval x4=.slice o4 n4 c4) (hK:K (a.put o.dst (.slice (some ⟨w.heap.size,0,none⟩) 4 4)) (w.alloc (.cells #[.slice o1 n1 c1,.slice o2 n2 c2,.slice o3 n3 c3,.slice o4 n4 c4] 30))):o.wp Tryz.prog a w K Q:=by
 unfold Oper.wp execOp
 simp only [hop,List.map_toArray,List.map_cons,List.map_nil,h1,h2,h3,h4]
 go_simp
 exact hK
theorem wp_build11 {x1:Operand} {o1:Option Addr} {n1 c1:Nat} (hop:o.op=.buildSlice 40 1 #[(0,x1)]) (h1:a.eval x1=.slice o1 n1 c1) (hK:K (a.put o.dst (.slice (some ⟨w.heap.size,0,none⟩) 1 1)) (w.alloc (.cells #[.slice o1 n1 c1] 116))):o.wp Tryz.prog a w K Q:=by
 unfold Oper.wp execOp
 simp only [hop,List.map_toArray,List.map_cons,List.map_nil,h1]
 go_simp
 exact hK
theorem wp_load40 {x:Operand} {bb:Nat} {v:Value} (hop:o.op=.load 40 x) (hx:a.eval x=.pointer (some ⟨bb,0,none⟩)) (hc:w.cell? ⟨bb,0,none⟩=some v) (hK:K (a.put o.dst v) w):o.wp Tryz.prog a w K Q:=by
 unfold Oper.wp execOp
 simp only [hop,hx]
 go_simp
 exact hK
theorem wp_marks {m:ByteArray} {n:Nat} {s x:Operand} (hop:o.op=.call { callee:=.builtin .append,args:=#[s,x],argTypes:=#[30,30] }) {v:Value} (hs:a.eval s=v) (hown:w.ownsRow 0 9 1 v n (marks n m)) {ad:Addr} {j c:Nat} (hx:a.eval x=.slice (some ad) j c) (hj:0<j) (hj6:j≤6) (hnews:∀ i u,(marks j m)[i]?=some u→w.cell? (ad.add i)=some u) (hn:n≤9000000000)
  (hK:∀ v' w',w'.ownsRow 0 9 1 v' (n+j) (marks (n+j) m)→w.grownBy w' v.ownBlock→KeepM m w w'→K (a.put o.dst v') w'):o.wp Tryz.prog a w K Q:=by
 obtain ⟨v',w',hr,h2,h3,h4⟩:=run_marks w o.type 0 m v n hown ad j c hj hj6 hnews hn (Nat.zero_le _)
 unfold Oper.wp execOp
 simp only [hop,resolve,invoke,builtin,Sem.run_bind,Sem.run_pure,Result.andThen_ok,List.map_toArray,List.map_cons,List.map_nil,hs,hx,hr]
 exact hK v' w' h2 h3 h4
end
end Go.Proofs.YtodagkkjfipbgaaGreatDoor
