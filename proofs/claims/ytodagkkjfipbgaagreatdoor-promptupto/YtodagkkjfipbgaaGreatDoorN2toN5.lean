import Derived.Deep.RegionHeld3
import Derived.Test.YtodagkkjfipbgaaGreatDoorM3toN1
namespace Go.Proofs.YtodagkkjfipbgaaGreatDoor
open Go.RowKit
def mayN (ks:List Nat) (V:List (Bool × List Nat)) (c:Bool):Nat->Nat->Prop
 | 0,i=>(V[i]?).map Prod.fst=some c
 | n+1,i=>(V[i]?).map Prod.fst=some c\/∃ k ∈ ks,∃ y,((V[i]?).bind fun r=>r.2[k]?)=some y/\mayN ks V c n y
def mayV (ks:List Nat) (V:List (Bool × List Nat)) (c:Bool) (i:Nat):Prop:=∃ n,mayN ks V c n i
def leadsV (ks:List Nat) (V:List (Bool × List Nat)) (x y:Nat):Prop:=∃ k ∈ ks,((V[x]?).bind fun r=>r.2[k]?)=some y
theorem may_here {ks:List Nat} {V:List (Bool × List Nat)} {c:Bool} {i:Nat} (h:(V[i]?).map Prod.fst=some c):mayV ks V c i:=⟨0,h⟩
theorem may_back {ks:List Nat} {V:List (Bool × List Nat)} {c:Bool} {x y:Nat} (h:leadsV ks V x y) (k:mayV ks V c y):mayV ks V c x:=by
 obtain ⟨n,hn⟩:=k
 obtain ⟨q,hq,e⟩:=h
 exact ⟨n+1,Or.inr ⟨q,hq,y,e,hn⟩⟩
theorem may_least {ks:List Nat} {V:List (Bool × List Nat)} {c:Bool} {M:Nat->Prop} (h0:∀ i:Nat,(V[i]?).map Prod.fst=some c->M i) (h1:∀ x y,leadsV ks V x y->M y->M x):∀ n i,mayN ks V c n i->M i:=by
 intro n
 induction n with
 | zero=>intro i h;exact h0 i h
 | succ n ih =>
  intro i h
  rcases h with h | ⟨k,hk,y,e,h⟩
  ·exact h0 i h
  ·exact h1 i y ⟨k,hk,e⟩ (ih y h)
structure Marks (ks:List Nat) (V:List (Bool × List Nat)) (c:Bool) (M:List Bool) (W:List Nat):Prop where
 len:M.length=V.length
 sound:∀ i,M[i]?=some true->mayV ks V c i
 work:∀ i ∈ W,M[i]?=some true
 done:∀ y,M[y]?=some true->y ∈ W\/∀ x,leadsV ks V x y->M[x]?=some true
def toDo (M:List Bool) (W:List Nat):Nat:=2 * M.count false+W.length
theorem count_set {M:List Bool} {i:Nat} (h:M[i]?=some false):(M.set i true).count false+1=M.count false:=by
 induction M generalizing i with
 | nil=>simp at h
 | cons a M ih =>
  cases i with
  | zero=>simp at h;subst h;simp
  | succ i =>
   have:=ih (i:=i) (by simpa using h)
   simp only [List.set_cons_succ,List.count_cons]
   omega
def markM (M:List Bool) (W:List Nat) (i:Nat):List Bool × List Nat:=if M[i]?=some false then (M.set i true,W++[i]) else (M,W)
theorem markM_len (M:List Bool) (W:List Nat) (i:Nat):(markM M W i).1.length=M.length:=by unfold markM;split <;> simp
theorem markM_toDo (M:List Bool) (W:List Nat) (i:Nat):toDo (markM M W i).1 (markM M W i).2<=toDo M W:=by
 unfold markM
 split
 ·rename_i h
  have:=count_set h
  unfold toDo
  simp
  omega
 ·exact Nat.le_refl _
theorem markM_keep {M:List Bool} {W:List Nat} {i j:Nat} (h:M[j]?=some true):(markM M W i).1[j]?=some true:=by
 unfold markM
 split
 ·rw [List.getElem?_set]
  split
  ·rename_i e;subst e;rw [if_pos (List.getElem?_eq_some_iff.1 h).1]
  ·exact h
 ·exact h
theorem markM_here {M:List Bool} {W:List Nat} {i:Nat} (h:i<M.length):(markM M W i).1[i]?=some true:=by
 unfold markM
 split
 ·rw [List.getElem?_set_self h]
 ·rename_i hn
  cases hb:M[i]? with
  | none=>rw [List.getElem?_eq_none_iff] at hb;omega
  | some b=>cases b with
   | false=>exact absurd hb hn
   | true=>rfl
theorem markM_new {M:List Bool} {W:List Nat} {i j:Nat} (h:(markM M W i).1[j]?=some true):M[j]?=some true\/(j=i/\j ∈ (markM M W i).2):=by
 unfold markM at *
 split at h
 ·rename_i hc
  rw [if_pos hc]
  rw [List.getElem?_set] at h
  split at h
  ·rename_i e;subst e;right;exact ⟨rfl,by simp⟩
  ·left;exact h
 ·left;exact h
theorem markM_work {M:List Bool} {W:List Nat} {i j:Nat} (h:j ∈ W):j ∈ (markM M W i).2:=by
 unfold markM
 split
 ·simp [h]
 ·exact h
theorem markM_sub {M:List Bool} {W:List Nat} {i j:Nat} (h:j ∈ (markM M W i).2):j ∈ W\/j=i:=by
 unfold markM at h
 split at h
 ·simpa using h
 ·exact Or.inl h
structure Marks0 (ks:List Nat) (V:List (Bool × List Nat)) (c:Bool) (D:Nat->Prop) (M:List Bool) (W:List Nat):Prop where
 len:M.length=V.length
 sound:∀ i,M[i]?=some true->mayV ks V c i
 work:∀ i ∈ W,M[i]?=some true
 done:∀ y,M[y]?=some true->y ∈ W\/D y\/∀ x,leadsV ks V x y->M[x]?=some true
theorem Marks0.mark {ks:List Nat} {V:List (Bool × List Nat)} {c:Bool} {D:Nat->Prop} {M:List Bool} {W:List Nat} (h:Marks0 ks V c D M W) {i:Nat} (hi:i<V.length) (hm:mayV ks V c i):Marks0 ks V c D (markM M W i).1 (markM M W i).2:=by
 refine ⟨(markM_len _ _ _).trans h.len,fun j hj=>?_,fun j hj=>?_,fun y hy=>?_⟩
 ·rcases markM_new hj with h1 | ⟨rfl,_⟩
  ·exact h.sound j h1
  ·exact hm
 ·rcases markM_sub hj with h1 | rfl
  ·exact markM_keep (h.work j h1)
  ·exact markM_here (by rw [h.len];exact hi)
 ·rcases markM_new hy with h1 | ⟨_,h1⟩
  ·rcases h.done y h1 with h2 | h2 | h2
   ·exact Or.inl (markM_work h2)
   ·exact Or.inr (Or.inl h2)
   ·exact Or.inr (Or.inr fun x hx=>markM_keep (h2 x hx))
  ·exact Or.inl h1
theorem Marks0.all {ks:List Nat} {V:List (Bool × List Nat)} {c:Bool} {M:List Bool} (h:Marks0 ks V c (fun _=>False) M []) (h0:∀ i:Nat,(V[i]?).map Prod.fst=some c->M[i]?=some true) (i:Nat):M[i]?=some true↔mayV ks V c i:=by
 refine ⟨h.sound i,fun ⟨n,hn⟩=>may_least (M:=fun i=>M[i]?=some true) h0 (fun x y hxy hy=>?_) n i hn⟩
 rcases h.done y hy with h1 | h1 | h1
 ·simp at h1
 ·exact h1.elim
 ·exact h1 x hxy
def SrcOk (ks:List Nat) (V:List (Bool × List Nat)) (src:List (List Nat)):Prop:=src.length=V.length/\∀ y l,src[y]?=some l->∀ x,x ∈ l↔leadsV ks V x y
open Go.Maps
theorem cellLt {w:World} {b o:Nat} {v:Value} (h:w.cell? ⟨b,o,none⟩=some v):b<w.heap.size:=by
 rcases Nat.lt_or_ge b w.heap.size with h1 | h1
 ·exact h1
 ·exfalso
  have:w.heap[b]?=none:=Array.getElem?_eq_none h1
  simp [World.cell?,this] at h
theorem row_at {w:World} {base n size:Nat} {e:TypeId} {ao:Option Addr} {cap:Nat} {us:List Value} (h:w.ownsRow base e size (.slice ao n cap) n us) {o:Nat} {u:Value} (hu:us[o]?=some u) (ho:o<n * size):∃ q,ao=some ⟨q,0,none⟩/\base<=q/\w.cell? ⟨q,o,none⟩=some u:=by
 obtain ⟨_,h3⟩:=h
 rcases h3 with ⟨hv,hn⟩ | ⟨q,cap',cur,hv,hg,hh,_,_,_,hcur⟩
 ·subst hn;omega
 ·injection hv with hv _ _
  refine ⟨q,hv,hg,cell_of_block hh o u ?_⟩
  have e1:(cur.toList.take (n * size))[o]?=some u:=by rw [hcur];exact hu
  rw [List.getElem?_take,if_pos ho] at e1
  simpa using e1
theorem spotCells_at:∀ (tab:Tab) (i:Nat) (m:Bool) (l:List Nat),(∀ r ∈ tab,r.2.length=8)->tab[i]?=some (m,l)->(spotCells tab)[i * 9]?=some (.bool m)/\∀ k n,l[k]?=some n->(spotCells tab)[i * 9+1+k]?=some (.int .i64 (n:Nat)):=by
 intro tab
 induction tab with
 | nil=>intro i m l _ h;simp at h
 | cons a tab ih =>
  intro i m l hr h
  have hla:(spotCell a).length=9:=by unfold spotCell;simp [hr a List.mem_cons_self]
  have e:spotCells (a :: tab)=spotCell a++spotCells tab:=rfl
  cases i with
  | zero =>
   simp at h
   subst h
   rw [e]
   refine ⟨by rw [List.getElem?_append_left (by omega)];rfl,fun k n hk=>?_⟩
   have hlt:=(List.getElem?_eq_some_iff.1 hk).1
   have hl:=hr (m,l) List.mem_cons_self
   simp only at hl
   rw [List.getElem?_append_left (by omega),show 0 * 9+1+k=k+1 from by omega]
   unfold spotCell
   rw [List.getElem?_cons_succ,List.getElem?_map,hk]
   rfl
  | succ i =>
   have:=ih i m l (fun r h=>hr r (List.mem_cons_of_mem _ h)) (by simpa using h)
   rw [e]
   refine ⟨?_,fun k n hk=>?_⟩
   ·rw [List.getElem?_append_right (by omega),hla,show (i+1) * 9 - 9=i * 9 from by omega];exact this.1
   ·rw [List.getElem?_append_right (by omega),hla,show (i+1) * 9+1+k - 9=i * 9+1+k from by omega];exact this.2 k n hk
set_option maxRecDepth 100000 in
set_option maxHeartbeats 1000000 in
theorem match_any (w:World) (v:Value) (t:Tab) (i:Nat) (hT:TabIn 0 w v t) (ht:TabGood t) (hi:i<t.length) :
  Calls Tryz.prog 182 #[v,.int .i64 i] w fun r w'=>r=.returned (.bool (tmatch t i))/\w'=w:=by
 obtain ⟨ao,cap,rfl⟩:=row_shape hT
 have hc:=spotCells_at t i t[i].1 t[i].2 (fun r h=>(ht.row r h).1) (List.getElem?_eq_getElem hi)
 obtain ⟨q,hq,_,hc0⟩:=row_at hT hc.1 (by omega)
 subst hq
 have hlen:=ht.few
 have e:tmatch t i=t[i].1:=by unfold tmatch;rw [List.getElem?_eq_getElem hi];rfl
 rw [e]
 generalize t[i].1=m at hc0
 clear hT hc
 go_enter Tryz.func182,Tryz.ntmps182
 go_wp2_with fail
 go_ret
 exact ⟨rfl,rfl⟩
set_option maxRecDepth 100000 in
set_option maxHeartbeats 1000000 in
theorem tnext_any (w:World) (v:Value) (t:Tab) (i k:Nat) (hT:TabIn 0 w v t) (ht:TabGood t) (hi:i<t.length) (hk:k<8) :
  Calls Tryz.prog 184 #[v,.int .i64 i,.int .u8 k] w fun r w'=>r=.returned (.int .i64 (tnext t i k:Nat))/\w'=w:=by
 obtain ⟨ao,cap,rfl⟩:=row_shape hT
 have hl:=(ht.row t[i] (List.getElem_mem hi)).1
 have hc:=spotCells_at t i t[i].1 t[i].2 (fun r h=>(ht.row r h).1) (List.getElem?_eq_getElem hi)
 obtain ⟨q,hq,_,hc0⟩:=row_at hT (hc.2 k (t[i].2[k]'(by omega)) (List.getElem?_eq_getElem (by omega))) (by omega)
 subst hq
 have hlen:=ht.few
 have e:tnext t i k=t[i].2[k]'(by omega):=by unfold tnext;rw [List.getElem?_eq_getElem hi];simp only [Option.bind_some];rw [List.getElem?_eq_getElem (by omega)];rfl
 rw [e]
 generalize t[i].2[k]'(by omega)=m at hc0
 clear hT hc
 go_enter Tryz.func184,Tryz.ntmps184
 go_wp2_with fail
 go_ret
 exact ⟨rfl,rfl⟩
def aCells (J:AJ) (vs:List (Value × Value)):List Value:=(J.zip vs).flatMap fun o=>[.bool o.1.cut,o.2.1,o.2.2]
structure AIn (base:Nat) (w:World) (v:Value) (J:AJ) (vs:List (Value × Value)):Prop where
 len:vs.length=J.length
 row:w.ownsRow base 234 3 v J.length (aCells J vs)
 tab:∀ (i:Nat) (r:ARule) (u:Value × Value),J[i]?=some r->vs[i]?=some u->TabIn 0 w u.1 r.tl/\TabIn 0 w u.2 r.tr
 ok:∀ r ∈ J,ARuleOk r
theorem AIn.kp {base:Nat} {w w':World} {v:Value} {J:AJ} {vs:List (Value × Value)} (h:AIn base w v J vs) (k0:Kp 234 w w') (k1:Kp 341 w w'):AIn base w' v J vs :=
 ⟨h.len,row_kp h.row k0,fun i r u hr hu=>⟨row_kp (h.tab i r u hr hu).1 k1,row_kp (h.tab i r u hr hu).2 k1⟩,h.ok⟩
theorem AIn.below {base:Nat} {w w':World} {v:Value} {J:AJ} {vs:List (Value × Value)} (h:AIn base w v J vs) (hb:Below w.heap.size w w'):AIn base w' v J vs:=h.kp (Kp.below hb) (Kp.below hb)
theorem aCells_at:∀ (J:AJ) (vs:List (Value × Value)) (i:Nat) (r:ARule) (v:Value × Value),J[i]?=some r->vs[i]?=some v->(aCells J vs)[i * 3]?=some (.bool r.cut)/\(aCells J vs)[i * 3+1]?=some v.1/\(aCells J vs)[i * 3+2]?=some v.2:=by
 intro J
 induction J with
 | nil=>intro vs i r v h;simp at h
 | cons a J ih =>
  intro vs i r v h1 h2
  cases vs with
  | nil=>simp at h2
  | cons u vs =>
   cases i with
   | zero=>simp at h1 h2;subst h1;subst h2;simp [aCells]
   | succ i =>
    simp at h1 h2
    have:=ih vs i r v h1 h2
    have e:∀ k,(aCells (a :: J) (u :: vs))[(i+1) * 3+k]?=(aCells J vs)[i * 3+k]?:=by
     intro k;rw [show (i+1) * 3+k=(i * 3+k)+3 from by omega];rfl
    have e0:=e 0
    simp only [Nat.add_zero] at e0
    rw [e0,e 1,e 2];exact this
theorem AIn.form {base:Nat} {w:World} {v:Value} {J:AJ} {vs:List (Value × Value)} (h:AIn base w v J vs):∃ ao cap,v=.slice ao J.length cap/\∀ i (hi:i<J.length),∃ g aL nL cL aR nR cR,ao=some ⟨g,0,none⟩/\g<w.heap.size/\TabIn 0 w (.slice aL nL cL) J[i].tl/\TabIn 0 w (.slice aR nR cR) J[i].tr /\
  w.cell? ⟨g,i * 3,none⟩=some (.bool J[i].cut)/\w.cell? ⟨g,i * 3+1,none⟩=some (.slice aL nL cL)/\w.cell? ⟨g,i * 3+2,none⟩=some (.slice aR nR cR):=by
 obtain ⟨ao,cap,rfl⟩:=row_shape h.row
 refine ⟨ao,cap,rfl,fun i hi=>?_⟩
 obtain ⟨u,hu⟩:∃ u,vs[i]?=some u:=⟨vs[i]'(by rw [h.len];exact hi),List.getElem?_eq_getElem _⟩
 have hc:=aCells_at J vs i _ u (List.getElem?_eq_getElem hi) hu
 have ht:=h.tab i _ u (List.getElem?_eq_getElem hi) hu
 obtain ⟨aL,cL,eL⟩:=row_shape ht.1
 obtain ⟨aR,cR,eR⟩:=row_shape ht.2
 rw [eL] at ht
 rw [eR] at ht
 rw [eL,eR] at hc
 obtain ⟨g,hg,_,h0⟩:=row_at h.row hc.1 (by omega)
 obtain ⟨g1,hg1,_,h1⟩:=row_at h.row hc.2.1 (by omega)
 obtain ⟨g2,hg2,_,h2⟩:=row_at h.row hc.2.2 (by omega)
 rw [hg] at hg1 hg2
 simp at hg1 hg2
 subst hg1;subst hg2
 exact ⟨g,aL,_,cL,aR,_,cR,hg,cellLt h0,ht.1,ht.2,h0,h1,h2⟩
theorem firstF_step {J:AJ} {l:List Nat} {i:Nat} (hi:i<J.length):firstF J l (J.length - i) i=if tmatch (trAt J i) ((l[i]?).getD 0)=true then i else firstF J l (J.length - (i+1)) (i+1):=by
 rw [show J.length - i=(J.length - (i+1))+1 from by omega,firstF]
def sptV (x:Spt):Value:=.agg (spotCell x).toArray
theorem spt_at {x:Spt} {j v:Nat} (h:x.2[j]?=some v):(spotCell x)[1+j]?=some (.int .i64 (v:Nat)):=by
 unfold spotCell
 rw [Nat.add_comm,List.getElem?_cons_succ,List.getElem?_map,h]
 rfl
set_option maxRecDepth 100000 in
set_option maxHeartbeats 2000000 in
theorem first_any' (w:World) (v:Value) (J:AJ) (vs:List (Value × Value)) (x:Spt) (hA:AIn 0 w v J vs) (hJ:J.length<=4) (hx:KnownOk J x) :
  Calls Tryz.prog 185 #[v,sptV x] w fun r w'=>r=.returned (.int .i64 (firstA J x.2:Nat))/\Below w.heap.size w w':=by
 obtain ⟨b,l⟩:=x
 obtain ⟨p,q,r,s,e⟩:=four hx.len
 simp only at e
 subst e
 obtain ⟨ao,cap,rfl,hf⟩:=hA.form
 have HF:Hid (∀ i (hi:i<J.length),∃ g aL nL cL aR nR cR,ao=some ⟨g,0,none⟩/\g<w.heap.size/\TabIn 0 w (.slice aL nL cL) J[i].tl/\TabIn 0 w (.slice aR nR cR) J[i].tr /\
  w.cell? ⟨g,i * 3,none⟩=some (.bool J[i].cut)/\w.cell? ⟨g,i * 3+1,none⟩=some (.slice aL nL cL)/\w.cell? ⟨g,i * 3+2,none⟩=some (.slice aR nR cR)):=hf
 have HA:Hid (AIn 0 w (.slice ao J.length cap) J vs):=hA
 have HX:Hid (KnownOk J (b,[p,q,r,s])):=hx
 clear hA hf hx
 have B0:Hid (Below w.heap.size w (w.alloc (.cells (spotCell (b,[p,q,r,s])).toArray 249))):=below_alloc w _
 have Q0:Hid ((w.alloc (.cells (spotCell (b,[p,q,r,s])).toArray 249)).heap[w.heap.size]?=some (.cells (spotCell (b,[p,q,r,s])).toArray 249 (0,0))):=heap_alloc_new w _
 show Calls _ _ #[_,.agg #[.bool b,.int .i64 p,.int .i64 q,.int .i64 r,.int .i64 s]] _ _
 go_enter Tryz.func185,Tryz.ntmps185
 go_wp2_with fail
 go_loopg [9] J.length (fun gh iv wx=>∃ i:Nat,i<=J.length/\gh=J.length - i/\iv=.int .i64 i/\Hid (wx.heap[w.heap.size]?=some (.cells (spotCell (b,[p,q,r,s])).toArray 249 (0,0)))/\Hid (firstF J [p,q,r,s] (J.length - i) i=firstA J [p,q,r,s])/\Hid (Below w.heap.size w wx))
 case atStart=>exact ⟨0,Nat.zero_le _,rfl,rfl,Q0,rfl,B0⟩
 case round =>
  obtain ⟨i,hi,rfl,rfl,hQ,hFi,hB⟩:=hrel
  obtain ⟨w1,hw1⟩:∃ w1,w1=wr:=⟨wr,rfl⟩
  subst hw1
  clear B0 Q0
  by_cases hlt:i<J.length
  ·obtain ⟨g,aL,nL,cL,aR,nR,cR,rfl,hg,hTL,hTR,c0,c1,c2⟩:=HF.out i hlt
   have d0:=(hB.out.cell (p:=⟨g,i * 3,none⟩) hg).trans c0
   have d1:=(hB.out.cell (p:=⟨g,i * 3+1,none⟩) hg).trans c1
   have d2:=(hB.out.cell (p:=⟨g,i * 3+2,none⟩) hg).trans c2
   obtain ⟨u,hu,_,hul⟩:=HX.out.at_ (j:=i) (by omega)
   have hul':=hul hlt
   unfold limR at hul'
   rw [trAt_eq hlt] at hul'
   have e1:=cell_of_block hQ.out (1+i) _ ((List.getElem?_toArray ..).trans (spt_at (x:=(b,[p,q,r,s])) hu))
   have T1:Hid (TabIn 0 w1 (.slice aR nR cR) J[i].tr):=row_kp hTR (Kp.below hB.out)
   have G1:Hid (TabGood J[i].tr):=(HA.out.ok _ (List.getElem_mem hlt)).r
   obtain ⟨m,hm⟩:∃ m,m=tmatch J[i].tr u:=⟨_,rfl⟩
   have E1:Hid (firstA J [p,q,r,s]=if m=true then i else firstF J [p,q,r,s] (J.length - (i+1)) (i+1)):=by
    show _=_
    rw [<- hFi.out,firstF_step hlt,trAt_eq hlt,hu,hm]
    rfl
   clear hTL hTR c0 c1 c2
   generalize J[i]=L at *
   have hi4:(i:Int)<4:=by omega
   have f0:((w1.alloc (.cells #[.bool L.cut,.slice aL nL cL,.slice aR nR cR] 234)).cell? ⟨w.heap.size,1+i,none⟩=some (.int .i64 (u:Nat))):=((below_alloc w1 _).cell (p:=⟨w.heap.size,1+i,none⟩) (cellLt e1)).trans e1
   have HM:Hid (∀ W,Below w1.heap.size w1 W->Calls Tryz.prog 182 #[.slice aR nR cR,.int .i64 (u:Nat)] W fun r w'=>r=.returned (.bool m)/\w'=W):=fun W hW=>by rw [hm];exact match_any W _ L.tr u (row_kp T1.out (Kp.below hW)) G1.out hul'
   have BB:Hid (Below w.heap.size w (w1.alloc (.cells #[.bool L.cut,.slice aL nL cL,.slice aR nR cR] 234))):=hB.out.alloc hB.out.size _
   have QQ:Hid ((w1.alloc (.cells #[.bool L.cut,.slice aL nL cL,.slice aR nR cR] 234)).heap[w.heap.size]?=some (.cells (spotCell (b,[p,q,r,s])).toArray 249 (0,0))):=by show _=_;rw [Below.heap_alloc _ _ _ (heap_lt hQ.out)];exact hQ.out
   clear hm
   go_wp2_with fail
   go_region_law (first
    | (refine step_fn2 rfl 182 (.tmp 16) (.tmp 20) _ rfl (enters_of Tryz.func182 (by kernel_rfl) rfl) (.slice aR nR cR) (.int .i64 (u:Nat)) (by simp [Act.eval]) (by simp [Act.eval]) _ (HM.out _ ((below_alloc w1 _).drew)) ?_
       rintro e W1 ⟨rfl,rfl⟩
       refine ⟨_,rfl,?_⟩))
   all_goals cases m
   all_goals go_wp2_with fail
   all_goals first
    | (go_roundg (J.length - (i+1))
       case measure=>omega
       case rel=>exact ⟨i+1,by omega,rfl,by go_num,QQ,by show _=_;rw [E1.out,if_neg (by decide)],BB.out.drew⟩)
    | (go_ret
       exact ⟨by show Ending.returned (.int .i64 (i:Nat))=_;rw [E1.out];simp,BB.out.drew⟩)
  ·have e:Hid (firstA J [p,q,r,s]=J.length):=by
    show _=_
    rw [<- hFi.out,show J.length - i=0 from by omega,firstF]
    omega
   go_wp2_with fail
   go_ret
   exact ⟨by show Ending.returned (.int .i64 (J.length:Nat))=_;rw [e.out],hB.out⟩
theorem set5 {w:World} {q:Nat} {c0 c1 c2 c3 c4 d0 d1 d2 d3 d4:Value} {t:TypeId} (h:w.heap[q]?=some (.cells #[c0,c1,c2,c3,c4] t (0,0))) :
  (((((w.setCell ⟨q,0,none⟩ d0).setCell ⟨q,1,none⟩ d1).setCell ⟨q,2,none⟩ d2).setCell ⟨q,3,none⟩ d3).setCell ⟨q,4,none⟩ d4).heap[q]?=some (.cells #[d0,d1,d2,d3,d4] t (0,0)) :=
 (block_setCell ((block_setCell ((block_setCell ((block_setCell ((block_setCell h 0 _).trans rfl) 1 _).trans rfl) 2 _).trans rfl) 3 _).trans rfl) 4 _).trans rfl
theorem below_set5 {base:Nat} {w w':World} {q:Nat} {d0 d1 d2 d3 d4:Value} (h:Below base w w') (hq:base<=q) :
  Below base w (((((w'.setCell ⟨q,0,none⟩ d0).setCell ⟨q,1,none⟩ d1).setCell ⟨q,2,none⟩ d2).setCell ⟨q,3,none⟩ d3).setCell ⟨q,4,none⟩ d4) :=
 ((((h.setCell hq _).setCell hq _).setCell hq _).setCell hq _).setCell hq _
theorem spt_cells {w:World} {g:Nat} {b:Bool} {l:List Nat} {t:TypeId} (h:w.heap[g]?=some (.cells (spotCell (b,l)).toArray t (0,0))) (hl:l.length=4):∃ p q r s,l=[p,q,r,s]/\w.cell? ⟨g,0,none⟩=some (.bool b)/\w.cell? ⟨g,1,none⟩=some (.int .i64 (p:Nat))/\w.cell? ⟨g,2,none⟩=some (.int .i64 (q:Nat))/\w.cell? ⟨g,3,none⟩=some (.int .i64 (r:Nat))/\w.cell? ⟨g,4,none⟩=some (.int .i64 (s:Nat)):=by
 obtain ⟨p,q,r,s,rfl⟩:=four hl
 exact ⟨p,q,r,s,rfl,cell_of_block h 0 _ rfl,cell_of_block h 1 _ rfl,cell_of_block h 2 _ rfl,cell_of_block h 3 _ rfl,cell_of_block h 4 _ rfl⟩
theorem trimL_start (f:Nat) (l:List Nat):trimL f (f+1) l=l:=by
 apply List.ext_getElem?
 intro i
 unfold trimL
 rw [mapTo_at]
 cases l[i]? with
 | none=>rfl
 | some x =>
  simp only [Option.map_some,Option.some.injEq]
  split
  ·rw [if_neg (by omega)]
  ·rfl
theorem trimL_step {f i:Nat} {l:List Nat} (hi:i<l.length) (h:f<i):trimL f (i+1) l=(trimL f i l).set i 1:=by
 unfold trimL
 rw [mapTo_succ (List.getElem?_eq_getElem hi),if_pos h]
theorem trimL_len (f i:Nat) (l:List Nat):(trimL f i l).length=l.length:=mapTo_len _ _ _
theorem trimL_end {f i n:Nat} (l:List Nat) (h:n<=i) (h2:i=n\/i=f+1):trimL f i l=trimL f n l:=by
 apply List.ext_getElem?
 intro j
 unfold trimL
 rw [mapTo_at,mapTo_at]
 cases l[j]? with
 | none=>rfl
 | some x =>
  simp only [Option.map_some,Option.some.injEq]
  by_cases h1:j<n
  ·rw [if_pos h1,if_pos (by omega)]
  ·rw [if_neg h1]
   split
   ·rw [if_neg (by omega)]
   ·rfl
theorem setCell_type {w:World} {g o:Nat} {u:Value} {q:Nat} (hne:q ≠ g):(w.setCell ⟨g,o,none⟩ u).heap[q]?=w.heap[q]?:=Below.heap_setCell _ _ _ _ hne
set_option maxRecDepth 100000 in
set_option maxHeartbeats 2000000 in
theorem trim_any (w:World) (v:Value) (J:AJ) (vs:List (Value × Value)) (x:Spt) (hA:AIn 0 w v J vs) (hJ:J.length<=4) (hx:KnownOk J x) :
  Calls Tryz.prog 183 #[v,sptV x] w fun r w'=>r=.returned (sptV (trimA J x))/\Below w.heap.size w w':=by
 obtain ⟨b,l⟩:=x
 obtain ⟨p,q,r,s,e⟩:=four hx.len
 simp only at e
 subst e
 obtain ⟨ao,cap,rfl,_⟩:=hA.form
 have HA:Hid (AIn 0 w (.slice ao J.length cap) J vs):=hA
 have HX:Hid (KnownOk J (b,[p,q,r,s])):=hx
 clear hA hx
 obtain ⟨f,hf⟩:∃ f,f=firstA J [p,q,r,s]:=⟨_,rfl⟩
 have HFF:Hid (f=firstA J [p,q,r,s]):=hf
 have hfl:f<=J.length:=by rw [hf];exact firstA_le J _
 obtain ⟨W0,hW0⟩:∃ W0,W0=(w.alloc (.cells #[.bool b,.int .i64 (p:Nat),.int .i64 (q:Nat),.int .i64 (r:Nat),.int .i64 (s:Nat)] 249)).alloc (.cells #[.bool false,.int .i64 0,.int .i64 0,.int .i64 0,.int .i64 0] 249):=⟨_,rfl⟩
 have HW0:Hid (W0=(w.alloc (.cells #[.bool b,.int .i64 (p:Nat),.int .i64 (q:Nat),.int .i64 (r:Nat),.int .i64 (s:Nat)] 249)).alloc (.cells #[.bool false,.int .i64 0,.int .i64 0,.int .i64 0,.int .i64 0] 249)):=hW0
 have b0:Below w.heap.size w W0:=by rw [hW0];exact (below_alloc w _).alloc (by simp) _
 have hz:W0.heap.size=w.heap.size+2:=by rw [hW0];simp
 have p0:W0.heap[w.heap.size]?=some (.cells (spotCell (b,[p,q,r,s])).toArray 249 (0,0)):=by rw [hW0,Below.heap_alloc _ _ _ (by simp)];exact heap_alloc_new w _
 have p1:W0.heap[w.heap.size+1]?=some (.cells #[.bool false,.int .i64 0,.int .i64 0,.int .i64 0,.int .i64 0] 249 (0,0)):=by rw [hW0];exact (show ((w.alloc (.cells #[.bool b,.int .i64 (p:Nat),.int .i64 (q:Nat),.int .i64 (r:Nat),.int .i64 (s:Nat)] 249)).heap.size)=w.heap.size+1 by simp) ▸ heap_alloc_new (w.alloc _) _
 have B0:Hid (Below w.heap.size w W0):=b0
 have P0:Hid (W0.heap[w.heap.size]?=some (.cells (spotCell (b,[p,q,r,s])).toArray 249 (0,0))):=p0
 have P1:Hid (W0.heap[w.heap.size+1]?=some (.cells #[.bool false,.int .i64 0,.int .i64 0,.int .i64 0,.int .i64 0] 249 (0,0))):=p1
 have m0:=cell_of_block p0 0 _ rfl
 have m1:=cell_of_block p0 1 _ rfl
 have m2:=cell_of_block p0 2 _ rfl
 have m3:=cell_of_block p0 3 _ rfl
 have m4:=cell_of_block p0 4 _ rfl
 clear hW0 p0 p1 b0
 show Calls _ _ #[_,.agg #[.bool b,.int .i64 (p:Nat),.int .i64 (q:Nat),.int .i64 (r:Nat),.int .i64 (s:Nat)]] _ _
 go_enter Tryz.func183,Tryz.ntmps183
 go_wp2_with fail
 rw [<- HW0.out]
 go_wp2_with fail
 refine (first_any' W0 _ J vs (b,[p,q,r,s]) (HA.out.below B0.out) hJ HX.out).mono ?_
 rw [show firstA J (b,[p,q,r,s]).2=f from hf.symm]
 rintro rr w1 ⟨rfl,hb1⟩
 have B1:Hid (Below w.heap.size w w1):=B0.out.trans (hb1.mono B0.out.size)
 have Q0:Hid (w1.heap[w.heap.size]?=some (.cells (spotCell (b,[p,q,r,s])).toArray 249 (0,0))):=by show _=_;rw [hb1.block _ (by omega)];exact P0.out
 have Q1:Hid (w1.heap[w.heap.size+1]?=some (.cells #[.bool false,.int .i64 0,.int .i64 0,.int .i64 0,.int .i64 0] 249 (0,0))):=by show _=_;rw [hb1.block _ (by omega)];exact P1.out
 clear hb1 m0 m1 m2 m3 m4 hf
 go_wp2_with fail
 go_loopg [5] (5 - (f+1)) (fun gh iv wx=>∃ i:Nat,f+1<=i/\(i<=J.length\/i=f+1)/\gh=5 - i/\iv=.int .i64 i/\Hid (wx.heap[w.heap.size]?=some (.cells (spotCell (b,trimL f i [p,q,r,s])).toArray 249 (0,0)))/\Hid (wx.heap[w.heap.size+1]?=some (.cells #[.bool false,.int .i64 0,.int .i64 0,.int .i64 0,.int .i64 0] 249 (0,0)))/\Hid (Below w.heap.size w wx))
 case atStart=>exact ⟨f+1,Nat.le_refl _,Or.inr rfl,rfl,by go_num,by rw [trimL_start];exact Q0,Q1,B1⟩
 case round =>
  obtain ⟨i,hi0,hi,rfl,rfl,hQ,hR,hB⟩:=hrel
  obtain ⟨w2,hw2⟩:∃ w2,w2=wr:=⟨wr,rfl⟩
  subst hw2
  clear Q0 Q1 B1
  have hll:(trimL f i [p,q,r,s]).length=4:=trimL_len _ _ _
  by_cases hlt:i<J.length
  ·have hi4:(i:Int)<4:=by omega
   obtain ⟨u,hu⟩:∃ u,(trimL f i [p,q,r,s])[i]?=some u:=⟨(trimL f i [p,q,r,s])[i]'(by omega),List.getElem?_eq_getElem _⟩
   have e1:=cell_of_block hQ.out (1+i) _ ((List.getElem?_toArray ..).trans (spt_at (x:=(b,trimL f i [p,q,r,s])) hu))
   have f1:=free_of_block hQ.out (1+i)
   go_wp2_with fail
   go_roundg (5 - (i+1))
   case measure=>omega
   case rel =>
    refine ⟨i+1,by omega,Or.inl (by omega),rfl,by go_num,?_,?_,hB.out.setCell (Nat.le_refl _) _⟩
    ·show _=_
     rw [block_setCell hQ.out,show (1:Int)=((1:Nat):Int) from rfl,spotCell_set,trimL_step (by simp;omega) (by omega)]
    ·show _=_
     rw [setCell_type (by omega)];exact hR.out
  ·have he:=trimL_end (f:=f) (i:=i) (n:=J.length) [p,q,r,s] (by omega) (by omega)
   have HE:Hid ((trimA J (b,[p,q,r,s]))=(b,trimL f i [p,q,r,s])):=by show _=_;unfold trimA;rw [he];simp only;rw [HFF.out]
   obtain ⟨p',q',r',s',el,c0,c1,c2,c3,c4⟩:=spt_cells hQ.out hll
   have HL:Hid (trimL f i [p,q,r,s]=[p',q',r',s']):=el
   have d0:=cell_of_block hR.out 0 _ rfl
   have d1:=cell_of_block hR.out 1 _ rfl
   have d2:=cell_of_block hR.out 2 _ rfl
   have d3:=cell_of_block hR.out 3 _ rfl
   have d4:=cell_of_block hR.out 4 _ rfl
   have df:=free_of_block hR.out
   clear el he hll
   go_wp2_with fail
   refine bodyPost_ret (results_cell_row rfl _ _ (w.heap.size+1) 249 #[.bool b,.int .i64 (p':Nat),.int .i64 (q':Nat),.int .i64 (r':Nat),.int .i64 (s':Nat)] (0,0) _ rfl (set5 hR.out) Tryz.underlying249 rfl (by kernel_rfl)) rfl ?_
   refine ⟨?_,below_set5 hB.out (by omega)⟩
   rw [HE.out,HL.out]
   rfl
end Go.Proofs.YtodagkkjfipbgaaGreatDoor
