import Derived.Test.YtodagkkjfipbgaaGreatDoorT23toT47
namespace Go.Proofs.YtodagkkjfipbgaaGreatDoor
open Go.RowKit Go.Maps Go.Lib
theorem WOk.at_ {w w':World} {b gO oO:Nat} {H:List Hd} {V:List Vw} {hd:Nat} {ns:List Nd} {g:Nat->List Nat} {bg m1 m2:Nat} (h:WOk w b gO oO H V hd ns g bg m1 m2) (hl:Look w' gO oO H V) (hk:∀ k,(k=b\/k=m1\/k=m2\/∃ x ∈ ns,x.p=k)->w'.heap[k]?=w.heap[k]?):WOk w' b gO oO H V hd ns g bg m1 m2:=by
 obtain ⟨⟨la,h1,h2⟩,h3,h4,⟨D,h5⟩,⟨D2,h6⟩,h7,h8,h9⟩:=h
 exact ⟨⟨la,(hk b (Or.inl rfl)).trans h1,h2⟩,fun i x hx=>(hk x.p (Or.inr (Or.inr (Or.inr ⟨x,List.mem_of_getElem? hx,rfl⟩)))).trans (h3 i x hx),h4,⟨D,h5.keep (hk m1 (Or.inr (Or.inl rfl)))⟩,⟨D2,h6.keep (hk m2 (Or.inr (Or.inr (Or.inl rfl))))⟩,h7,hl,h9⟩
theorem row_same {w w':World} {base:Nat} {e:TypeId} {size:Nat} {v:Value} {n:Nat} {us:List Value} (h:w.ownsRow base e size v n us) (hk:∀ k,v.ownBlock=some k->w'.heap[k]?=w.heap[k]?):w'.ownsRow base e size v n us:=by
 obtain ⟨h1,h2⟩:=h
 refine ⟨h1,?_⟩
 rcases h2 with h2 | ⟨q,cap,cur,hv,hg,hh,r⟩
 ·exact Or.inl h2
 ·exact Or.inr ⟨q,cap,cur,hv,hg,(hk q (by rw [hv];rfl)).trans hh,r⟩
theorem FRest.apart {w0 w w':World} {S S' p:Nat->Prop} {f gR:Nat} {H:List Hd} {V:List Vw} {L:List (Int × Int × Nat)} {ks:List Nat} {s:FS} (hE:FEnv w0 gR H V L ks) (h:FRest w0 S w f gR H V s) (hc:Chg p w w') (hp:∀ k,k<w.heap.size->p k->S k) (hp0:∀ k,p k->w0.heap.size<=k) (hS:∀ k,S' k->S k\/w.heap.size<=k) (hK:Kept S' w0 w'):FRest w0 S' w' f gR H V s:=by
 obtain ⟨⟨b,m1,m2,vT,hP,hrow,hown⟩,hs1,hs2⟩:=h
 have kb:∀ k,k<w.heap.size->¬ S k->w'.heap[k]?=w.heap[k]?:=fun k hk hn=>hc.block k hk fun h9=>hn (hp k hk h9)
 have kn:∀ k,k<w.heap.size->¬ S k->¬ S' k:=fun k hk hn h9=>by
  rcases hS k h9 with h | h
  ·exact hn h
  ·omega
 have bel:Below w0.heap.size w0 w':=hP.bel.trans (hc.low hP.bel.size hp0)
 have lk:Look w' gR 2 H V:=hE.lk.keepS (KeepS.below bel)
 obtain ⟨l1,l2,l3,l4⟩:=hP.lo
 have hf:=heap_lt hP.hf
 obtain ⟨ns,g,hW,hA,hns⟩:=hP.hw
 obtain ⟨la,hb1,_⟩:=hW.blk
 obtain ⟨D,hD⟩:=hW.gd
 obtain ⟨D2,hD2⟩:=hW.sp
 obtain ⟨_,_,hm1⟩:=hD.blk
 obtain ⟨_,_,hm2⟩:=hD2.blk
 have hbl:=heap_lt hb1
 have hm1l:=heap_lt hm1
 have hm2l:=heap_lt hm2
 have hnl:∀ x ∈ ns,x.p<w.heap.size:=fun x hx=>by
  obtain ⟨i,hi⟩:=List.mem_iff_getElem?.1 hx
  exact heap_lt (hW.seq i x hi)
 refine ⟨⟨b,m1,m2,vT,⟨(kb f hf l1).trans hP.hf,?_,⟨ns,g,hW.at_ lk ?_,hA,fun x hx=>kn _ (hnl x hx) (hns x hx)⟩,⟨kn f hf l1,kn b hbl l2,kn m1 hm1l l3,kn m2 hm2l l4⟩,bel,hP.hdl,hP.fits,hK⟩,row_same hrow fun k e=>kb k (hrow.lt k e).2 (hown k e),fun k e=>kn k (hrow.lt k e).2 (hown k e)⟩,hs1,hs2⟩
 ·rcases hP.ht with h9 | ⟨q,o,cap,h1,h2,h3,h4,cs,m,h5⟩
  ·exact Or.inl h9
  ·have hq:=heap_lt h5
   have e:=kb q hq h2
   refine Or.inr ⟨q,o,cap,h1,kn q hq h2,fun j hj=>?_,h4,cs,m,e.trans h5⟩
   have h6:=h3 j hj
   unfold World.cell? at h6 ⊢
   rw [e]
   exact h6
 ·rintro k (rfl | rfl | rfl | ⟨x,hx,rfl⟩)
  ·exact kb _ hbl l2
  ·exact kb _ hm1l l3
  ·exact kb _ hm2l l4
  ·exact kb _ (hnl x hx) (hns x hx)
theorem FRest.base {w00 w0 w:World} {S:Nat->Prop} {f gR:Nat} {H:List Hd} {V:List Vw} {s:FS} (h:FRest w0 S w f gR H V s) (hb:Below w00.heap.size w00 w0):FRest w00 S w f gR H V s:=by
 obtain ⟨⟨b,m1,m2,vT,hP,hrow⟩,hs⟩:=h
 exact ⟨⟨b,m1,m2,vT,⟨hP.hf,hP.ht,hP.hw,hP.lo,hb.trans (hP.bel.mono hb.size),hP.hdl,hP.fits,⟨fun k hk=>hP.kept.lo k (Nat.lt_of_lt_of_le hk hb.size),hP.kept.hi⟩⟩,hrow⟩,hs⟩
theorem FRest.told {w0 w:World} {S:Nat->Prop} {f gR:Nat} {H:List Hd} {V:List Vw} {s:FS} (h:FRest w0 S w f gR H V s):FRest w0 S w f gR H V { s with told:=[] }:=h
theorem FEnv.below {w w':World} {gR:Nat} {H:List Hd} {V:List Vw} {L:List (Int × Int × Nat)} {ks:List Nat} (h:FEnv w gR H V L ks) (hb:Below w.heap.size w w'):FEnv w' gR H V L ks:=by
 obtain ⟨vE,t1,t2⟩:=h.tab
 exact ⟨h.vars.below hb,h.lk.keepS (KeepS.below hb),⟨vE,(hb.cell (p:=⟨gR,0,none⟩) (cell_ltT t1)).trans t1,row_kp t2 (Kp.below hb)⟩,h.few,h.row,h.kinds,h.pos,h.lt8,h.bad,h.h0,h.nxt,h.hds⟩
theorem FRest.size {w0 w:World} {S:Nat->Prop} {f gR:Nat} {H:List Hd} {V:List Vw} {s:FS} (h:FRest w0 S w f gR H V s):w0.heap.size<=w.heap.size/\Kept S w0 w/\Below w0.heap.size w0 w/\s.txt.size<=1500000:=by
 obtain ⟨⟨b,m1,m2,vT,hP,_⟩,_⟩:=h
 exact ⟨hP.bel.size,hP.kept,hP.bel,hP.fits.2⟩
def toCells (t:List Int):List Value:=t.map fun x=>Value.int .i64 x
theorem toCells_at {t:List Int} {i:Nat} {x:Int} (h:t[i]?=some x):(toCells t).toArray[i]?=some (.int .i64 x):=by
 rw [List.getElem?_toArray]
 unfold toCells
 rw [List.getElem?_map,h]
 rfl
theorem toCells_set (t:List Int) (i:Nat) (x:Int):(toCells t).toArray.setIfInBounds i (.int .i64 x)=(toCells (t.set i x)).toArray:=by
 unfold toCells
 apply Array.ext'
 simp [List.map_set]
structure DIn (w:World) (gR qt:Nat) (V:List Vw) (ks:List Nat) (t:List Int):Prop where
 lk:LookV w gR 2 V
 ps:∃ vP,w.cell? ⟨gR,2,none⟩=some vP/\w.ownsRow 0 169 1 vP ks.length (kCells ks)
 tl:w.heap[qt]?=some (.cells (toCells t).toArray 3 (0,0))
 gb:∃ cs,w.heap[gR]?=some (.cells cs 99 (0,0))
theorem DIn.turn {w w':World} {gR qt:Nat} {V:List Vw} {ks:List Nat} {t t':List Int} (h:DIn w gR qt V ks t) (hc:Chg (fun k=>k=qt) w w') (ht:w'.heap[qt]?=some (.cells (toCells t').toArray 3 (0,0))):DIn w' gR qt V ks t':=by
 obtain ⟨⟨⟨vV,h1,h2⟩,h3,h4⟩,⟨vP,p1,p2⟩,h5,cs,h6⟩:=h
 have ne:∀ (k:Nat) (cs:Array Value) (ty:TypeId) (m:Nat × Nat),ty ≠ 3->w.heap[k]?=some (.cells cs ty m)->w'.heap[k]?=w.heap[k]?:=fun k cs ty m hty hh=>hc.block k (heap_lt hh) fun e=>by
  subst e
  rw [h5] at hh
  injection hh with hh
  injection hh with _ hh _
  exact hty hh.symm
 have eg:=ne gR cs _ _ (by decide) h6
 have hcell:∀ o,w'.cell? ⟨gR,o,none⟩=w.cell? ⟨gR,o,none⟩:=fun o=>by unfold World.cell?;rw [eg]
 refine ⟨⟨⟨vV,(hcell _).trans h1,row_same h2 fun k e=>?_⟩,h3,h4⟩,⟨vP,(hcell _).trans p1,row_same p2 fun k e=>?_⟩,ht,cs,eg.trans h6⟩
 ·obtain ⟨c,hk⟩:=row_type h2 k e
  exact ne k c _ _ (by decide) hk
 ·obtain ⟨c,hk⟩:=row_type p2 k e
  exact ne k c _ _ (by decide) hk
def WfPost (gR qt:Nat) (V:List Vw) (ks:List Nat) (t:List Int) (v:Nat) (w:World) (r:Ending) (w':World):Prop :=
 ∃ t',DIn w' gR qt V ks t'/\t'.length=V.length/\Chg (fun k=>k=qt) w w'/\((∃ n:Nat,r=.returned (.int .i64 n)/\n<V.length/\waitIs V ks v n/\ToldT V ks t'/\MoreT t t')\/(r=.returned (.int .i64 (-1))/\endlessV V ks v))
def WfIs (gR qt:Nat) (V:List Vw) (ks:List Nat) (t:List Int) (v:Nat) (w:World) (z:Int) (w':World) (t':List Int):Prop :=
 DIn w' gR qt V ks t'/\t'.length=V.length/\Chg (fun k=>k=qt) w w'/\((∃ n:Nat,z=n/\n<V.length/\waitIs V ks v n/\ToldT V ks t'/\MoreT t t')\/(z=-1/\endlessV V ks v))
theorem more_end {t t2 t3:List Int} {v:Nat} {x:Int} (h2:t2=t.set v (-1)) (hx:t[v]?=some 0) (hm:MoreT t2 t3) (hx1:x ≠ 0) (hx2:x ≠ -1):MoreT t (t3.set v x)/\t3[v]?=some (-1):=by
 have hv:v<t.length:=(List.getElem?_eq_some_iff.1 hx).1
 have h20:t2[v]?=some (-1):=by rw [h2,List.getElem?_set,if_pos rfl,if_pos hv]
 have h3:t3[v]?=some (-1):=(hm.2.2 v).2 h20
 refine ⟨⟨by rw [List.length_set,hm.1,h2,List.length_set],?_,fun a=>?_⟩,h3⟩
 ·rw [zeros_set2 h3 (by decide) hx1]
  have:=zeros_set hx (x:=-1) (by decide)
  have:=hm.2.1
  rw [h2] at this
  omega
 ·constructor
  ·intro h
   rcases set_at h with ⟨_,h4⟩ | ⟨hne,h4⟩
   ·exact absurd h4.symm hx2
   ·have h5:=(hm.2.2 a).1 h4
    rw [h2] at h5
    rcases set_at h5 with ⟨e,_⟩ | ⟨_,h6⟩
    ·exact absurd e hne
    ·exact h6
  ·intro h
   have hne:v ≠ a:=fun e=>by rw [<- e,hx] at h;cases h
   rw [List.getElem?_set,if_neg hne]
   refine (hm.2.2 a).2 ?_
   rw [h2,List.getElem?_set,if_neg hne]
   exact h
set_option maxRecDepth 100000 in
set_option maxHeartbeats 8000000 in
theorem wfrom_any (gR qt:Nat) (V:List Vw) (ks:List Nat) (hk8:∀ k ∈ ks,k<8) (hne:ks ≠ []) (hkl:ks.length<=8) (hnx:∀ k ∈ ks,∀ v,v<V.length->nxV V k v<V.length) (hVl:V.length<=320000):∀ (N:Nat) (w:World) (t:List Int) (v:Nat),zerosT t<=N->DIn w gR qt V ks t->ToldT V ks t->AskT V ks t v->v<V.length ->
  Calls Tryz.prog 108 #[.agg #[.pointer (some ⟨gR,2,none⟩),.slice (some ⟨qt,0,none⟩) V.length V.length],.int .i64 v] w fun r w'=>WfPost gR qt V ks t v w r w':=by
 intro N
 induction N using Nat.strongRecOn with
 | _ N ih =>
  intro w t v hz hD hTo hAs hv
  have IH:Hid (∀ (M:Nat),M<N->∀ (w:World) (t:List Int) (v:Nat),zerosT t<=M->DIn w gR qt V ks t->ToldT V ks t->AskT V ks t v->v<V.length ->
    Calls Tryz.prog 108 #[.agg #[.pointer (some ⟨gR,2,none⟩),.slice (some ⟨qt,0,none⟩) V.length V.length],.int .i64 v] w fun r w'=>WfPost gR qt V ks t v w r w'):=ih
  have htl:=hTo.len
  obtain ⟨x,hx⟩:∃ x,t[v]?=some x:=⟨t[v]'(by omega),List.getElem?_eq_getElem _⟩
  obtain ⟨vw,hvw⟩:∃ vw,V[v]?=some vw:=⟨V[v]'hv,List.getElem?_eq_getElem _⟩
  have hst:stlV V v=vw.2.1:=by unfold stlV;rw [hvw];rfl
  have b1:=below_alloc w (.cells #[.pointer (some ⟨gR,2,none⟩),.slice (some ⟨qt,0,none⟩) V.length V.length] 195)
  have hD1:=hD.turn (Chg.of_below b1) ((b1.block _ (heap_lt hD.tl)).trans hD.tl)
  have hbx:=heap_alloc_new w (.cells #[.pointer (some ⟨gR,2,none⟩),.slice (some ⟨qt,0,none⟩) V.length V.length] 195)
  have hqw:qt<w.heap.size:=heap_lt hD.tl
  have x0:=cell_of_block hbx 0 _ rfl
  have x1:=cell_of_block hbx 1 _ rfl
  obtain ⟨q,cap,c1,c2,c3,c4⟩:=hD1.lk.at hvw
  have ct:=cell_of_block hD1.tl v _ (toCells_at hx)
  have hok:=hTo.ok v x hx
  have D1:Hid (DIn (w.alloc (.cells #[.pointer (some ⟨gR,2,none⟩),.slice (some ⟨qt,0,none⟩) V.length V.length] 195)) gR qt V ks t):=hD1
  have BX:Hid ((w.alloc (.cells #[.pointer (some ⟨gR,2,none⟩),.slice (some ⟨qt,0,none⟩) V.length V.length] 195)).heap[w.heap.size]?=some (.cells #[.pointer (some ⟨gR,2,none⟩),.slice (some ⟨qt,0,none⟩) V.length V.length] 195 (0,0))):=hbx
  have CH:Hid (Chg (fun k=>k=qt) w (w.alloc (.cells #[.pointer (some ⟨gR,2,none⟩),.slice (some ⟨qt,0,none⟩) V.length V.length] 195))):=Chg.of_below b1
  have D0:Hid (DIn w gR qt V ks t):=hD
  have TT:Hid (ToldT V ks t):=hTo
  have AA:Hid (AskT V ks t v):=hAs
  have HST:Hid (stlV V v=vw.2.1):=hst
  have HNE:Hid (ks ≠ []):=hne
  have HNX:Hid (∀ k ∈ ks,∀ v,v<V.length->nxV V k v<V.length):=hnx
  have HK8:Hid (∀ k ∈ ks,k<8):=hk8
  have HX:Hid (t[v]?=some x):=hx
  have HTL:Hid (t.length=V.length):=htl
  clear ih hD hTo hAs hD1 hbx b1 hne hnx hk8 hx htl hst
  by_cases hs:vw.2.1=true
  ·have hx0:x=0:=by
    rcases hok with h9 | ⟨h9,_⟩
    ·exact h9
    ·rw [HST.out,hs] at h9;cases h9
   subst hx0
   rw [hs] at c3
   clear hok hz
   go_enter Tryz.func108,Tryz.ntmps108
   go_wp2_with fail
   go_ret
   exact ⟨t,D1.out,HTL.out,CH.out,Or.inl ⟨0,rfl,by omega,waitIs_settled ks (by rw [HST.out];exact hs),TT.out,MoreT.refl t⟩⟩
  ·have hsf:vw.2.1=false:=by cases h9:vw.2.1 with | true=>exact absurd h9 hs | false=>rfl
   have HU:Hid (stlV V v=false):=by show _=_;rw [HST.out,hsf]
   rw [hsf] at c3
   by_cases hx0:x=0
   ·subst hx0
    obtain ⟨t2,ht2⟩:∃ t2,t2=t.set v (-1):=⟨_,rfl⟩
    have hz2:zerosT t2+1=zerosT t:=by rw [ht2];exact zeros_set HX.out (by decide)
    have T2:Hid (ToldT V ks t2):=by rw [ht2];exact TT.out.ask HU.out
    have A2:Hid (∀ k ∈ ks,AskT V ks t2 (nxV V k v)):=fun k hk=>by rw [ht2];exact AA.out.ask HU.out hk
    have E2:Hid (t2=t.set v (-1)):=ht2
    have ctf:=free_of_block D1.out.tl
    obtain ⟨W2,hW2⟩:∃ W2,W2=(w.setCell ⟨qt,v,none⟩ (.int .i64 (-1))).alloc (.cells #[.pointer (some ⟨gR,2,none⟩),.slice (some ⟨qt,0,none⟩) V.length V.length] 195):=⟨_,rfl⟩
    have HW2:Hid (W2=(w.setCell ⟨qt,v,none⟩ (.int .i64 (-1))).alloc (.cells #[.pointer (some ⟨gR,2,none⟩),.slice (some ⟨qt,0,none⟩) V.length V.length] 195)):=hW2
    have hzs:(w.setCell ⟨qt,v,none⟩ (.int .i64 (-1))).heap.size=w.heap.size:=by simp
    have hc2:Chg (fun k=>k=qt) w W2:=by rw [hW2];exact ((Chg.refl _ _).set1 _).alloc _
    have D2:Hid (DIn W2 gR qt V ks t2):=D0.out.turn hc2 (by
     rw [hW2,Below.heap_alloc _ _ _ (by rw [hzs];exact hqw),ht2,<- toCells_set]
     exact block_setCell D0.out.tl v _)
    have BX2:Hid (W2.heap[w.heap.size]?=some (.cells #[.pointer (some ⟨gR,2,none⟩),.slice (some ⟨qt,0,none⟩) V.length V.length] 195 (0,0))):=by
     show _=_
     rw [hW2,<- hzs]
     exact heap_alloc_new _ _
    have CH2:Hid (Chg (fun k=>k=qt) w W2):=hc2
    obtain ⟨vP,hp1,hp2⟩:=D2.out.ps
    have hkp:0<ks.length:=List.length_pos_iff.2 HNE.out
    obtain ⟨k0,hk0⟩:∃ k0,ks[0]?=some k0:=⟨ks[0],List.getElem?_eq_getElem hkp⟩
    obtain ⟨aoP,capP,rfl⟩:=row_shape hp2
    obtain ⟨qp,rfl,_,_⟩:=row_at hp2 (show (kCells ks)[0]?=some (.int .u8 (k0:Nat)) from by unfold kCells;rw [List.getElem?_map,hk0];rfl) (by omega)
    have KR:Hid (∀ w',Chg (fun k=>k=qt) W2 w'->w'.ownsRow 0 169 1 (.slice (some ⟨qp,0,none⟩) ks.length capP) ks.length (kCells ks)):=fun w' hc9=>row_same hp2 fun k e=>by
     obtain ⟨c,hk9⟩:=row_type hp2 k e
     refine hc9.block k (heap_lt hk9) fun e9=>?_
     rw [e9,D2.out.tl] at hk9
     injection hk9 with hk9
     injection hk9 with _ hk9 _
     exact absurd hk9 (by decide)
    have y0:=cell_of_block BX2.out 0 _ rfl
    clear ht2 hW2 hc2 hp2 hk0 hzs
    go_enter Tryz.func108,Tryz.ntmps108
    go_upto_region 5 with fail
    rw [<- HW2.out]
    clear HW2 c1 c2 c3 c4 ct ctf x0 x1
    go_wp2_with fail
    go_loopg [5,41] ks.length (fun gh mv jv wx=>∃ (j most:Nat) (t':List Int),j<=ks.length/\gh=ks.length - j/\mv=.int .i64 most/\jv=.int .i64 j/\most<=320000/\Hid (DIn wx gR qt V ks t')/\Hid (ToldT V ks t'/\MoreT t2 t')/\Hid (MostT V ks v j most)/\Hid (Chg (fun k=>k=qt) W2 wx))
    case atStart=>exact ⟨0,0,t2,Nat.zero_le _,rfl,rfl,rfl,by omega,D2,⟨T2.out,MoreT.refl t2⟩,MostT.zero V ks v,Chg.refl _ _⟩
    case round =>
     obtain ⟨j,most,t3,hj,rfl,rfl,rfl,hmo,hD3,hT3,hM3,hC3⟩:=hrel
     obtain ⟨w3,hw3⟩:∃ w3,w3=wr:=⟨wr,rfl⟩
     subst hw3
     have hbx3:w3.heap[w.heap.size]?=some (.cells #[.pointer (some ⟨gR,2,none⟩),.slice (some ⟨qt,0,none⟩) V.length V.length] 195 (0,0)):=(hC3.out.block _ (heap_lt BX2.out) (by omega)).trans BX2.out
     have z0:=cell_of_block hbx3 0 _ rfl
     have z1:=cell_of_block hbx3 1 _ rfl
     clear y0
     by_cases hlt:j<ks.length
     ·obtain ⟨k,hk⟩:∃ k,ks[j]?=some k:=⟨ks[j],List.getElem?_eq_getElem hlt⟩
      have hkm:=List.mem_of_getElem? hk
      have hk8:=HK8.out k hkm
      have hnv:=HNX.out k hkm v hv
      obtain ⟨q3,cap3,d1,d2,d3,d4⟩:=hD3.out.lk.at hvw
      have hnk:vw.2.2[k]?=some (nxV V k v):=by
       have h8:=hD3.out.lk.wide vw (List.mem_of_getElem? hvw)
       unfold nxV
       rw [hvw,Option.bind_some,List.getElem?_eq_getElem (by omega)]
       rfl
      have d5:=d4 k _ hnk
      obtain ⟨qx,hqx,_,dk⟩:=row_at (KR.out w3 hC3.out) (show (kCells ks)[j]?=some (.int .u8 (k:Nat)) from by unfold kCells;rw [List.getElem?_map,hk];rfl) (by omega)
      injection hqx with hqx
      injection hqx with hqx _ _
      subst hqx
      obtain ⟨u,hu⟩:∃ u,u=nxV V k v:=⟨_,rfl⟩
      rw [<- hu] at d5 hnv
      have HK:Hid (ks[j]?=some k):=hk
      have HUU:Hid (u=nxV V k v):=hu
      have IC:Hid (∀ W',Below w3.heap.size w3 W'->Calls Tryz.prog 108 #[.agg #[.pointer (some ⟨gR,2,none⟩),.slice (some ⟨qt,0,none⟩) V.length V.length],.int .i64 u] W' fun r w'=>∃ (z:Int) (t4:List Int),r=.returned (.int .i64 z)/\WfIs gR qt V ks t3 u w3 z w' t4):=fun W' hb=>by
       have hzz:=hT3.out.2.2.1
       refine (IH.out (zerosT t3) (by omega) W' t3 u (Nat.le_refl _) (hD3.out.turn (Chg.of_below hb) ((hb.block _ (heap_lt hD3.out.tl)).trans hD3.out.tl)) hT3.out.1 (by rw [hu];exact (A2.out k hkm).more hT3.out.2) hnv).mono ?_
       rintro r w' ⟨t4,g1,g2,g3,g4⟩
       have g5:Chg (fun k=>k=qt) w3 w':=(Chg.of_below hb).trans g3
       rcases g4 with ⟨n,rfl,g6,g7⟩ | ⟨rfl,g6⟩
       ·exact ⟨n,t4,rfl,g1,g2,g5,Or.inl ⟨n,rfl,g6,g7⟩⟩
       ·exact ⟨-1,t4,rfl,g1,g2,g5,Or.inr ⟨rfl,g6⟩⟩
      clear hk d4 hnk hu hD3
      go_upto_region 8 with fail
      go_cut [8] from 42 to 64 (fun nv wx=>∃ (z:Int) (t4:List Int),nv=.int .i64 z/\Hid (WfIs gR qt V ks t3 u w3 z wx t4))
      case first =>
       go_region_with (go_at_call 108;refine (IC.out _ ((Below.refl _ _).drew)).mono ?_;rintro e W5 ⟨z5,t5,rfl,h5⟩;have P5:Hid (WfIs gR qt V ks t3 u w3 z5 W5 t5):=h5;clear h5)
       all_goals go_wp2_with fail
       all_goals go_meet
       all_goals exact ⟨_,_,rfl,P5⟩
      case rest =>
       obtain ⟨z,t4,rfl,hF⟩:=hcut
       obtain ⟨w4,hw4⟩:∃ w4,w4=wc:=⟨wc,rfl⟩
       subst hw4
       obtain ⟨g1,g2,g3,g4⟩:=hF.out
       have G1:Hid (DIn w4 gR qt V ks t4/\t4.length=V.length/\Chg (fun k=>k=qt) W2 w4):=⟨g1,g2,hC3.out.trans g3⟩
       clear hF g1 g2 g3 IC
       rcases g4 with ⟨n,rfl,hn,hw,hT4,hM4⟩ | ⟨rfl,hen⟩
       ·have G2:Hid (ToldT V ks t4/\MoreT t2 t4):=⟨hT4,hT3.out.2.trans hM4⟩
        have G3:Hid (MostT V ks v (j+1) (max most (n+1))):=hM3.out.step HK.out (by rw [<- HUU.out];exact hw)
        have hd9:((n:Int) == -1)=false:=by rw [beq_eq_false_iff_ne];omega
        have hd8:¬ (n:Int)=-1:=by omega
        clear hw hT4 hM4 hT3 hM3
        go_wp2_with fail
        go_roundg (ks.length - (j+1))
        case measure=>omega
        case rel=>exact ⟨j+1,max most (n+1),t4,by omega,rfl,congrArg (Value.int .i64) (by omega),by go_num,by omega,G1.out.1,G2,G3,G1.out.2.2⟩
       ·have EL:Hid (endlessV V ks v):=endless_back HU.out hkm (by rw [<- HUU.out];exact hen)
        clear hen
        go_wp2_with fail
        go_ret
        exact ⟨t4,G1.out.1,G1.out.2.1,CH2.out.trans G1.out.2.2,Or.inr ⟨rfl,EL.out⟩⟩
     ·obtain rfl:j=ks.length:=by omega
      have hall:=hM3.out.all HU.out HNE.out
      have hmlt:=wait_few HNE.out HNX.out hv hall.2
      obtain ⟨hmore,ht3v⟩:=more_end (x:=(most:Int)) E2.out HX.out hT3.out.2 (by omega) (by omega)
      have c9:=cell_of_block hD3.out.tl v _ (toCells_at ht3v)
      have c9f:=free_of_block hD3.out.tl
      have hc6:Chg (fun k=>k=qt) w3 (w3.setCell ⟨qt,v,none⟩ (.int .i64 most)):=(Chg.refl _ _).set1 _
      have FF:Hid (WfPost gR qt V ks t v w (.returned (.int .i64 most)) (w3.setCell ⟨qt,v,none⟩ (.int .i64 most))):=⟨t3.set v most,hD3.out.turn hc6 (by rw [<- toCells_set];exact block_setCell hD3.out.tl v _),by rw [List.length_set];exact hT3.out.1.len,(CH2.out.trans hC3.out).trans hc6,Or.inl ⟨most,rfl,hmlt,hall.2,hT3.out.1.tell HU.out hall.1 hall.2,hmore⟩⟩
      clear hall hmore ht3v hc6 hD3 hT3 hM3 hC3
      go_wp2_with fail
      go_ret
      exact FF.out
   ·rcases hok with h9 | ⟨_,h9 | ⟨n,h9,hn,hw⟩⟩
    ·exact absurd h9 hx0
    ·subst h9
     have EL:Hid (endlessV V ks v):=(AA.out v HX.out).round
     clear hx0 hz
     go_enter Tryz.func108,Tryz.ntmps108
     go_wp2_with fail
     go_ret
     exact ⟨t,D1.out,HTL.out,CH.out,Or.inr ⟨rfl,EL.out⟩⟩
    ·subst h9
     have WI:Hid (waitIs V ks v n):=hw
     have hlt:=wait_few HNE.out HNX.out hv hw
     have hn0:¬ n=0:=by omega
     clear hx0 hz hw
     go_enter Tryz.func108,Tryz.ntmps108
     go_wp2_with fail
     go_ret
     exact ⟨t,D1.out,HTL.out,CH.out,Or.inl ⟨n,rfl,hlt,WI.out,TT.out,MoreT.refl t⟩⟩
theorem make_ints (W:World) (n:Nat) (hn:n<=2000000):(Instr.makeSlice 33 (.int .i64 n) (.int .i64 n)).run Tryz.prog W=.ok (.slice (some ⟨W.heap.size,0,none⟩) n n) (W.alloc (.cells (toCells (List.replicate n 0)).toArray 3)):=by
 obtain ⟨i,hi,hz0,hz1,hz2⟩:=info_parts Tryz.infoInt
 have h:=run_make (P:=Tryz.prog) W 33 3 i (.int .i64 0) Tryz.undInt hi hz0 .i64 .i64 n n (by omega) (by omega) (by rw [hz2];omega) (by omega)
 rw [hz1] at h
 have e:(toCells (List.replicate n 0)).toArray=madeCells #[.int .i64 0] n:=by
  apply Array.toList_inj.1
  rw [made_one]
  unfold toCells
  simp
 rw [e]
 simpa [Value.cells] using h
def delayIs (V:List Vw) (ks:List Nat) (z:Int):Prop:=(z=-1/\∃ v,v<V.length/\endlessV V ks v)\/∃ n:Nat,z=n/\(∀ v,v<V.length->within V ks n v)/\(n=0\/∃ v,v<V.length/\waitIs V ks v n)
def LongT (V:List Vw) (ks:List Nat) (i most:Nat):Prop:=(∀ v,v<i->within V ks most v)/\(most=0\/∃ v,v<i/\waitIs V ks v most)
theorem LongT.step {V:List Vw} {ks:List Nat} {i most n:Nat} (h:LongT V ks i most) (hn:waitIs V ks i n):LongT V ks (i+1) (max most n):=by
 refine ⟨fun v hv=>?_,?_⟩
 ·rcases Nat.lt_or_ge v i with h1 | h1
  ·exact within_le (h.1 v h1) (by omega)
  ·rw [show v=i from by omega];exact within_le hn.1 (by omega)
 ·rcases Nat.lt_or_ge n most with h1 | h1
  ·rw [show max most n=most from by omega]
   rcases h.2 with h2 | ⟨v,h2,h3⟩
   ·exact Or.inl h2
   ·exact Or.inr ⟨v,by omega,h3⟩
  ·rw [show max most n=n from by omega]
   exact Or.inr ⟨i,by omega,hn⟩
theorem zeros_told (V:List Vw) (ks:List Nat):ToldT V ks (List.replicate V.length 0):=⟨by simp,fun v x hx=>by
 rw [List.getElem?_replicate] at hx
 split at hx
 ·injection hx with hx;exact Or.inl hx.symm
 ·cases hx⟩
theorem zeros_none (n a:Nat):¬ (List.replicate n (0:Int))[a]?=some (-1):=fun h=>by
 rw [List.getElem?_replicate] at h
 split at h
 ·injection h with h;exact absurd h (by decide)
 ·cases h
set_option maxRecDepth 100000 in
set_option maxHeartbeats 8000000 in
theorem odelay_any (gR:Nat) (V:List Vw) (ks:List Nat) (w:World) (hlk:LookV w gR 2 V) (hps:∃ vP,w.cell? ⟨gR,2,none⟩=some vP/\w.ownsRow 0 169 1 vP ks.length (kCells ks)) (hgb:∃ cs,w.heap[gR]?=some (.cells cs 99 (0,0))) (hk8:∀ k ∈ ks,k<8) (hne:ks ≠ []) (hkl:ks.length<=8) (hnx:∀ k ∈ ks,∀ v,v<V.length->nxV V k v<V.length) (hVl:V.length<=320000) :
  Calls Tryz.prog 58 #[.pointer (some ⟨gR,2,none⟩)] w fun r w'=>(∃ z:Int,r=.returned (.int .i64 z)/\delayIs V ks z)/\Below w.heap.size w w':=by
 obtain ⟨vV,hv1,hv2⟩:=hlk.ex
 obtain ⟨aoV,capV,rfl⟩:=row_shape hv2
 have c4:w.cell? ⟨gR,4,none⟩=some (.slice aoV V.length capV):=hv1
 have hmk:∀ W:World,(Instr.makeSlice 33 (.int .i64 V.length) (.int .i64 V.length)).run Tryz.prog W=.ok (.slice (some ⟨W.heap.size,0,none⟩) V.length V.length) (W.alloc (.cells (toCells (List.replicate V.length 0)).toArray 3)):=fun W=>make_ints W V.length (by omega)
 obtain ⟨W2,hW2⟩:∃ W2,W2=(w.alloc (.cells (toCells (List.replicate V.length 0)).toArray 3)).alloc (.cells #[.pointer (some ⟨gR,2,none⟩),.slice (some ⟨w.heap.size,0,none⟩) V.length V.length] 195):=⟨_,rfl⟩
 have HW2:Hid (W2=(w.alloc (.cells (toCells (List.replicate V.length 0)).toArray 3)).alloc (.cells #[.pointer (some ⟨gR,2,none⟩),.slice (some ⟨w.heap.size,0,none⟩) V.length V.length] 195)):=hW2
 have hz1:(w.alloc (.cells (toCells (List.replicate V.length 0)).toArray 3)).heap.size=w.heap.size+1:=by simp
 have b2:Below w.heap.size w W2:=by rw [hW2];exact (below_alloc w _).alloc (by rw [hz1];omega) _
 have htl:W2.heap[w.heap.size]?=some (.cells (toCells (List.replicate V.length 0)).toArray 3 (0,0)):=by rw [hW2,Below.heap_alloc _ _ _ (by rw [hz1];omega)];exact heap_alloc_new w _
 have BX:Hid (W2.heap[w.heap.size+1]?=some (.cells #[.pointer (some ⟨gR,2,none⟩),.slice (some ⟨w.heap.size,0,none⟩) V.length V.length] 195 (0,0))):=by show _=_;rw [hW2,<- hz1];exact heap_alloc_new _ _
 have c4':W2.cell? ⟨gR,4,none⟩=some (.slice aoV V.length capV):=(b2.cell (p:=⟨gR,4,none⟩) (cell_ltT c4)).trans c4
 have D2:Hid (DIn W2 gR w.heap.size V ks (List.replicate V.length 0)):=by
  obtain ⟨vP,p1,p2⟩:=hps
  obtain ⟨cs,g1⟩:=hgb
  exact ⟨⟨⟨_,c4',row_kp hv2 (Kp.below b2)⟩,hlk.few,hlk.wide⟩,⟨vP,(b2.cell (p:=⟨gR,2,none⟩) (cell_ltT p1)).trans p1,row_kp p2 (Kp.below b2)⟩,htl,cs,(b2.block _ (heap_lt g1)).trans g1⟩
 have B2:Hid (Below w.heap.size w W2):=b2
 have WF:=wfrom_any gR w.heap.size V ks hk8 hne hkl hnx hVl
 have HWF:Hid (∀ (N:Nat) (w':World) (t:List Int) (v:Nat),zerosT t<=N->DIn w' gR w.heap.size V ks t->ToldT V ks t->AskT V ks t v->v<V.length->Calls Tryz.prog 108 #[.agg #[.pointer (some ⟨gR,2,none⟩),.slice (some ⟨w.heap.size,0,none⟩) V.length V.length],.int .i64 v] w' fun r w''=>WfPost gR w.heap.size V ks t v w' r w''):=WF
 have C2:Hid (W2.cell? ⟨gR,4,none⟩=some (.slice aoV V.length capV)):=c4'
 clear WF hlk hps hgb hv1 hv2 b2 htl hW2 hz1 hk8 hne hnx
 go_enter Tryz.func58,Tryz.ntmps58
 go_upto_region 2 with (simp only [hmk])
 rw [<- HW2.out]
 clear HW2 c4
 go_wp2_with fail
 go_loopg [4,20] V.length (fun gh mv iv wx=>∃ (i most:Nat) (t:List Int),i<=V.length/\gh=V.length - i/\mv=.int .i64 most/\iv=.int .i64 i/\most<=320000/\Hid (DIn wx gR w.heap.size V ks t)/\Hid (ToldT V ks t/\MoreT (List.replicate V.length 0) t)/\Hid (LongT V ks i most)/\Hid (Chg (fun k=>k=w.heap.size) W2 wx))
 case atStart=>exact ⟨0,0,_,Nat.zero_le _,rfl,rfl,rfl,by omega,D2,⟨zeros_told V ks,MoreT.refl _⟩,⟨fun v hv=>by omega,Or.inl rfl⟩,Chg.refl _ _⟩
 case round =>
  obtain ⟨i,most,t,hi,rfl,rfl,rfl,hmo,hD,hT,hL,hC⟩:=hrel
  obtain ⟨w3,hw3⟩:∃ w3,w3=wr:=⟨wr,rfl⟩
  subst hw3
  have BF:Hid (∀ w',Chg (fun k=>k=w.heap.size) W2 w'->Below w.heap.size w w'):=fun w' h9=>B2.out.trans (h9.low B2.out.size fun k e=>by rw [e];exact Nat.le_refl _)
  by_cases hlt:i<V.length
  ·have hd1:decide ((i:Int)<(V.length:Int))=true:=decide_eq_true (by omega)
   have hbx:w3.heap[w.heap.size+1]?=some (.cells #[.pointer (some ⟨gR,2,none⟩),.slice (some ⟨w.heap.size,0,none⟩) V.length V.length] 195 (0,0)):=(hC.out.block _ (heap_lt BX.out) (by omega)).trans BX.out
   have z0:=cell_of_block hbx 0 _ rfl
   have z1:=cell_of_block hbx 1 _ rfl
   have hfr:=HWF.out (zerosT t) w3 t i (Nat.le_refl _) hD.out hT.out.1 (fun a ha=>absurd ((hT.out.2.2.2 a).1 ha) (zeros_none _ _)) hlt
   clear hbx
   go_wp2_with fail
   refine hfr.mono ?_
   rintro r w4 ⟨t4,g1,g2,g3,g4⟩
   have G1:Hid (DIn w4 gR w.heap.size V ks t4/\Chg (fun k=>k=w.heap.size) W2 w4):=⟨g1,hC.out.trans g3⟩
   clear hfr g1 g3
   rcases g4 with ⟨n,rfl,hn,hw,hT4,hM4⟩ | ⟨rfl,hen⟩
   ·have G2:Hid (ToldT V ks t4/\MoreT (List.replicate V.length 0) t4):=⟨hT4,hT.out.2.trans hM4⟩
    have G3:Hid (LongT V ks (i+1) (max most n)):=hL.out.step hw
    have hd9:((n:Int) == -1)=false:=by rw [beq_eq_false_iff_ne];omega
    have hd8:¬ (n:Int)=-1:=by omega
    clear hw hT4 hM4 hT hL hC hD
    go_wp2_with fail
    go_roundg (V.length - (i+1))
    case measure=>omega
    case rel=>exact ⟨i+1,max most n,t4,by omega,rfl,congrArg (Value.int .i64) (by omega),by go_num,by omega,G1.out.1,G2,G3,G1.out.2⟩
   ·have EL:Hid (delayIs V ks (-1)):=Or.inl ⟨rfl,i,hlt,hen⟩
    clear hen
    go_wp2_with fail
    go_ret
    exact ⟨⟨-1,rfl,EL.out⟩,BF.out _ G1.out.2⟩
  ·obtain rfl:i=V.length:=by omega
   have hd1:decide ((V.length:Int)<(V.length:Int))=false:=decide_eq_false (by omega)
   have EL:Hid (delayIs V ks most):=Or.inr ⟨most,rfl,hL.out.1,hL.out.2⟩
   go_wp2_with fail
   go_ret
   exact ⟨⟨most,rfl,EL.out⟩,BF.out _ hC.out⟩
set_option maxRecDepth 100000 in
theorem delay_any (gR:Nat) (V:List Vw) (ks:List Nat) (w:World) (hlk:LookV w gR 2 V) (hps:∃ vP,w.cell? ⟨gR,2,none⟩=some vP/\w.ownsRow 0 169 1 vP ks.length (kCells ks)) (hgb:∃ cs,w.heap[gR]?=some (.cells cs 99 (0,0))) (hk8:∀ k ∈ ks,k<8) (hne:ks ≠ []) (hkl:ks.length<=8) (hnx:∀ k ∈ ks,∀ v,v<V.length->nxV V k v<V.length) (hVl:V.length<=320000) :
  Calls Tryz.prog 31 #[.pointer (some ⟨gR,0,none⟩)] w fun r w'=>(∃ z:Int,r=.returned (.int .i64 z)/\delayIs V ks z)/\Below w.heap.size w w':=by
 have h:=odelay_any gR V ks w hlk hps hgb hk8 hne hkl hnx hVl
 clear hlk hps hgb hk8 hne hkl hnx hVl
 go_enter Tryz.func31,Tryz.ntmps31
 go_wp2_with fail
 refine h.mono ?_
 rintro r w1 ⟨⟨z,rfl,hz⟩,b1⟩
 go_wp2_with fail
 go_ret
 exact ⟨⟨z,rfl,hz⟩,b1⟩
end Go.Proofs.YtodagkkjfipbgaaGreatDoor
namespace Go.Proofs.YtodagkkjfipbgaaGreatDoor
open Go.RowKit Go.Maps
def runG (g:List (List (Nat × Nat))):List Nat->Nat->Nat->Prop
 | [],x,y=>reach g x y
 | k :: r,x,y=>∃ a t z,reach g x a/\(t,z) ∈ grow g a/\t.testBit k=true/\runG g r z y
theorem runG_reach {g:List (List (Nat × Nat))} {x z:Nat} (h:reach g x z):∀ {r:List Nat} {y:Nat},runG g r z y->runG g r x y:=by
 intro r y k
 cases r with
 | nil=>exact reach_trans h k
 | cons c r =>
  obtain ⟨a,t,u,h1,h2⟩:=k
  exact ⟨a,t,u,reach_trans h h1,h2⟩
theorem runG_snoc {g:List (List (Nat × Nat))} {k a t u y:Nat} (h2:(t,u) ∈ grow g a) (h3:t.testBit k=true) (h4:reach g u y):∀ (r:List Nat) (x:Nat),runG g r x a->runG g (r++[k]) x y:=by
 intro r
 induction r with
 | nil=>intro x h;exact ⟨a,t,u,h,h2,h3,h4⟩
 | cons c r ih =>
  intro x h
  obtain ⟨b,s,v,h5,h6,h7,h8⟩:=h
  exact ⟨b,s,v,h5,h6,h7,ih v h8⟩
theorem fold_run (g:List (List (Nat × Nat))):∀ (row:List Nat) (F:Nat->Prop),closedS g F->∀ y,(row.foldl (stepS g) F) y↔∃ x,F x/\runG g row x y:=by
 intro row
 induction row with
 | nil=>intro F hF y;exact ⟨fun h=>⟨y,h,reach_refl g y⟩,fun ⟨x,h1,h2⟩=>closed_reach hF h1 h2⟩
 | cons k row ih =>
  intro F hF y
  rw [List.foldl_cons,ih _ (step_closed g F k) y]
  constructor
  ·rintro ⟨x,⟨a,t,z,h1,h2,h3,h4⟩,h5⟩
   exact ⟨a,h1,a,t,z,reach_refl g a,h2,h3,runG_reach h4 h5⟩
  ·rintro ⟨x,h1,a,t,z,h2,h3,h4,h5⟩
   exact ⟨z,⟨a,t,z,closed_reach hF h1 h2,h3,h4,reach_refl g z⟩,h5⟩
theorem fold_from (g:List (List (Nat × Nat))) (first:Nat) (row:List Nat) (y:Nat):(row.foldl (stepS g) (reach g first)) y↔runG g row first y:=by
 rw [fold_run g row _ (reach_closed g first) y]
 exact ⟨fun ⟨x,h1,h2⟩=>runG_reach h1 h2,fun h=>⟨first,reach_refl g first,h⟩⟩
theorem rev_reach {g g':List (List (Nat × Nat))} (h:∀ t x y,(t,y) ∈ grow g x->(t,x) ∈ grow g' y) {x y:Nat} (k:reach g x y):reach g' y x:=by
 obtain ⟨n,hn⟩:=k
 induction n generalizing x with
 | zero=>cases hn;exact reach_refl g' _
 | succ n ih =>
  obtain ⟨z,h1,h2⟩:=hn
  exact reach_trans (ih h2) (reach_eps (h 0 x z h1) (reach_refl g' x))
theorem rev_run {g g':List (List (Nat × Nat))} (h:∀ t x y,(t,y) ∈ grow g x->(t,x) ∈ grow g' y):∀ (row:List Nat) (x y:Nat),runG g row x y->runG g' row.reverse y x:=by
 intro row
 induction row with
 | nil=>intro x y k;exact rev_reach h k
 | cons c row ih =>
  intro x y k
  obtain ⟨a,t,z,h1,h2,h3,h4⟩:=k
  rw [List.reverse_cons]
  exact runG_snoc (h t a z h2) h3 (rev_reach h h1) _ _ (ih z y h4)
theorem graph_rev (fw:Bool) {S:List St} (hS:SOk S) (t x y:Nat) (h:(t,y) ∈ grow (graphOf fw S) x):(t,x) ∈ grow (graphOf (!fw) S) y:=by
 have hx:x<S.length:=by
  rcases Nat.lt_or_ge x S.length with h1 | h1
  ·exact h1
  ·unfold grow at h
   rw [List.getElem?_eq_none (by rw [graph_len];exact h1)] at h
   simp at h
 obtain ⟨j,s,h1,h2,h3⟩:=(graph_mem fw S x (t,y) hx).1 h
 have hj:=(List.getElem?_eq_some_iff.1 h1).1
 cases fw with
 | true =>
  simp at h3
  have hy:=hS.to_ s (List.mem_of_getElem? h1) y h3.2
  exact (graph_mem false S y (t,x) hy).2 ⟨j,s,h1,h2,by simp;exact h3⟩
 | false =>
  simp at h3
  exact (graph_mem true S y (t,x) (by omega)).2 ⟨j,s,h1,h2,by simp;exact h3⟩
theorem run_back {S:List St} (hS:SOk S) (row:List Nat) (x y:Nat):runG (graphOf false S) row.reverse y x↔runG (graphOf true S) row x y:=by
 constructor
 ·intro h
  have:=rev_run (graph_rev false hS) row.reverse y x h
  rwa [List.reverse_reverse] at this
 ·intro h
  exact rev_run (graph_rev true hS) row x y h
theorem fold_any (g:List (List (Nat × Nat))) (first:Nat):∀ (row:List Nat) (y:Nat),(row.foldl (nxA g first) (reach g first)) y↔∃ i,i<=row.length/\runG g (row.drop i) first y:=by
 apply snoc_ind
 ·intro y
  constructor
  ·intro h;exact ⟨0,Nat.le_refl _,h⟩
  ·rintro ⟨i,_,h⟩
   rw [List.drop_nil] at h
   exact h
 ·intro row k ih y
  rw [List.foldl_append]
  show stepS g (row.foldl (nxA g first) (reach g first)) k y\/reach g first y↔_
  have step:∀ (r:List Nat) (y:Nat),runG g (r++[k]) first y↔∃ a t z,runG g r first a/\(t,z) ∈ grow g a/\t.testBit k=true/\reach g z y:=fun r y=>by
   rw [<- fold_from,List.foldl_append]
   show stepS g (r.foldl (stepS g) (reach g first)) k y↔_
   constructor
   ·rintro ⟨a,t,z,h1,h2⟩;exact ⟨a,t,z,(fold_from g first r a).1 h1,h2⟩
   ·rintro ⟨a,t,z,h1,h2⟩;exact ⟨a,t,z,(fold_from g first r a).2 h1,h2⟩
  constructor
  ·rintro (⟨a,t,z,h1,h2,h3,h4⟩ | h)
   ·obtain ⟨i,hi,h5⟩:=(ih a).1 h1
    refine ⟨i,by simp;omega,?_⟩
    rw [List.drop_append_of_le_length hi]
    exact (step _ y).2 ⟨a,t,z,h5,h2,h3,h4⟩
   ·exact ⟨(row++[k]).length,Nat.le_refl _,by rw [List.drop_length];exact h⟩
  ·rintro ⟨i,hi,h⟩
   rcases Nat.lt_or_ge row.length i with h1 | h1
   ·simp at hi
    rw [List.drop_eq_nil_of_le (by simp;omega)] at h
    exact Or.inr h
   ·rw [List.drop_append_of_le_length h1] at h
    obtain ⟨a,t,z,h5,h2,h3,h4⟩:=(step _ y).1 h
    exact Or.inl ⟨a,t,z,(ih a).2 ⟨i,h1,h5⟩,h2,h3,h4⟩
def hitG (g:List (List (Nat × Nat))) (first goal:Nat) (row:List Nat):Prop:=∃ m,m<=row.length/\runG g (row.take m) first goal
theorem hit_more {g:List (List (Nat × Nat))} {first goal:Nat} {row:List Nat} (h:hitG g first goal row) (k:Nat):hitG g first goal (row++[k]):=by
 obtain ⟨m,h1,h2⟩:=h
 exact ⟨m,by simp;omega,by rw [List.take_append_of_le_length h1];exact h2⟩
theorem hit_snoc {g:List (List (Nat × Nat))} {first goal:Nat} {row:List Nat} {k:Nat} (h:hitG g first goal (row++[k])):hitG g first goal row\/runG g (row++[k]) first goal:=by
 obtain ⟨m,h1,h2⟩:=h
 rcases Nat.lt_or_ge row.length m with h3 | h3
 ·right
  rw [List.take_of_length_le (by simp;omega)] at h2
  exact h2
 ·left
  rw [List.take_append_of_le_length h3] at h2
  exact ⟨m,h3,h2⟩
theorem fold_hit (g:List (List (Nat × Nat))) (first goal:Nat):∀ row:List Nat,(hitG g first goal row->(row.foldl (nxH g goal) (reach g first)) goal)/\(¬ hitG g first goal row->row.foldl (nxH g goal) (reach g first)=row.foldl (stepS g) (reach g first)):=by
 apply snoc_ind
 ·refine ⟨?_,fun _=>rfl⟩
  rintro ⟨m,_,h⟩
  rw [List.take_nil] at h
  exact h
 ·intro row k ih
  obtain ⟨ih1,ih2⟩:=ih
  rw [List.foldl_append,List.foldl_append]
  show (_->nxH g goal (row.foldl (nxH g goal) (reach g first)) k goal)/\(_->nxH g goal (row.foldl (nxH g goal) (reach g first)) k=stepS g (row.foldl (stepS g) (reach g first)) k)
  by_cases h0:hitG g first goal row
  ·refine ⟨fun _=>?_,fun h=>absurd (hit_more h0 k) h⟩
   rw [nxH_stay (ih1 h0)]
   exact ih1 h0
  ·have e:=ih2 h0
   have hn:¬ (row.foldl (stepS g) (reach g first)) goal:=fun h=>h0 ⟨row.length,Nat.le_refl _,by rw [List.take_length];exact (fold_from g first row goal).1 h⟩
   rw [e]
   have hs:stepS g (row.foldl (stepS g) (reach g first)) k goal↔runG g (row++[k]) first goal:=by
    rw [<- fold_from,List.foldl_append]
    rfl
   refine ⟨fun h=>?_,fun h=>?_⟩
   ·rcases hit_snoc h with h1 | h1
    ·exact absurd h1 h0
    ·rw [nxH_hit hn (hs.2 h1)]
   ·rw [nxH_go hn fun h1=>h ⟨(row++[k]).length,Nat.le_refl _,by rw [List.take_length];exact hs.1 h1⟩]
theorem fold_hits (g:List (List (Nat × Nat))) (first goal:Nat) (row:List Nat):(row.foldl (nxH g goal) (reach g first)) goal↔hitG g first goal row:=by
 constructor
 ·intro h
  by_cases h0:hitG g first goal row
  ·exact h0
  ·rw [(fold_hit g first goal row).2 h0] at h
   exact ⟨row.length,Nat.le_refl _,by rw [List.take_length];exact (fold_from g first row goal).1 h⟩
 ·exact (fold_hit g first goal row).1
theorem fold_dead (g:List (List (Nat × Nat))) (goal k:Nat):nxH g goal (fun _=>False) k=fun _=>False:=by
 rw [nxH_go (fun h=>h) (fun h=>by obtain ⟨a,t,y,h1,_⟩:=h;exact h1)]
 exact set_ext fun x=>⟨fun h=>by obtain ⟨a,t,y,h1,_⟩:=h;exact h1,fun h=>h.elim⟩
theorem fold_back {S:List St} (hS:SOk S) (first:Nat) (row:List Nat):(row.reverse.foldl (nxA (graphOf false S) 0) (reach (graphOf false S) 0)) first↔hitG (graphOf true S) first 0 row:=by
 rw [fold_any]
 constructor
 ·rintro ⟨i,hi,h⟩
  rw [List.length_reverse] at hi
  rw [List.drop_reverse,run_back hS] at h
  exact ⟨row.length - i,by omega,h⟩
 ·rintro ⟨m,hm,h⟩
  refine ⟨row.length - m,by rw [List.length_reverse];omega,?_⟩
  rw [List.drop_reverse,run_back hS,show row.length - (row.length - m)=m from by omega]
  exact h
end Go.Proofs.YtodagkkjfipbgaaGreatDoor
