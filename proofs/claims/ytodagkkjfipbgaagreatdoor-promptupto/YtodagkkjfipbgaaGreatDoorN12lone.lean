import Derived.Test.YtodagkkjfipbgaaGreatDoorN10toN11
namespace Go.Proofs.YtodagkkjfipbgaaGreatDoor
open Go.RowKit Go.Maps
theorem Tryz.infoHd:(Tryz.prog.info? 246).map (fun i=>(i.zero,i.size,i.bytes))=some (some (.agg #[.int .i64 0,.int .i64 0,.int .i64 0,.int .i64 0,.int .i64 0,.int .i64 0,.int .i64 0,.int .i64 0,.int .i64 0]),9,72):=by kernel_rfl
theorem Tryz.undHd:Tryz.prog.underlying 92=some (.slice 246):=by kernel_rfl
theorem kCells_at {ks:List Nat} {j k:Nat} (h:ks[j]?=some k):(kCells ks)[j]?=some (.int .u8 (k:Nat)):=by unfold kCells;rw [List.getElem?_map,h];rfl
theorem four_zero:Four (false,[0,0,0,0]):=⟨rfl,fun j v hv=>by have:=List.mem_of_getElem? hv;simp at this;omega⟩
def BackPost (base q o:Nat) (J:AJ) (vs:List (Value × Value)) (vJ:Value) (ks:List Nat) (vP:Value) (w:World) (r:Ending) (w':World):Prop :=
 r=.returned (.tuple #[])/\∃ (p:Nat) (X:List Spt) (aoX:Option Addr) (capX:Nat) (moX:Option Nat) (K:List Spt) (aoK:Option Addr) (capK:Nat) (moK:Option Nat) (H:List Hd) (aoH:Option Addr) (capH:Nat),LBk base w' p q o J vs vJ ks vP X aoX capX moX K aoK capK moK H aoH capH/\HeadsOk J ks X K H/\H.length=X.length/\(∀ x ∈ K,KnownOk J x)/\(∀ x ∈ X,PastOk J x)/\X[0]?=some (false,[0,0,0,0])/\Below base w w'
theorem head_new (w:World) (s:Nat) (l:List Nat) (j:Nat) (u:Value) (hu:(headCell (s,l))[j]?=some u):(w.alloc (.cells (headCell (s,l)).toArray 246)).drew.cell? ⟨w.heap.size,j,none⟩=some u:=cell_of_block (w:=(w.alloc _).drew) (heap_alloc_new w _) j u ((List.getElem?_toArray ..).trans hu)
def zero8:List Nat:=[0,0,0,0,0,0,0,0]
set_option maxRecDepth 100000 in
set_option maxHeartbeats 4000000 in
theorem lookBack_any (base q o:Nat) (J:AJ) (vs:List (Value × Value)) (vJ:Value) (ks:List Nat) (vP:Value) (w:World) (hJ:J.length<=4) (hks:∀ k ∈ ks,k<8) (hkl:ks.length<=8) (hA:AIn 0 w vJ J vs) (hP:w.ownsRow 0 169 1 vP ks.length (kCells ks)) (hK:FInK base w q [] none 0 none)
  (hO:w.heap[o]?=some (.cells #[vP,.slice none 0 0,.slice none 0 0] 95 (0,0))) (hbase:base<=w.heap.size) (hqb:base<=q) (hob:base<=o) :
  Calls Tryz.prog 84 #[.pointer (some ⟨o,0,none⟩),vJ,.pointer (some ⟨q,0,none⟩)] w (BackPost base q o J vs vJ ks vP w):=by
 obtain ⟨aoJ,capJ,rfl,_⟩:=hA.form
 obtain ⟨aoP,capP,rfl⟩:=row_shape hP
 have hol:=heap_lt hO
 have hql:=heap_lt hK.blk
 obtain ⟨W0,hW0⟩:∃ W0,W0=w.alloc (.cells #[.slice none 0 0,.map none] 238):=⟨_,rfl⟩
 have HW0:Hid (W0=w.alloc (.cells #[.slice none 0 0,.map none] 238)):=hW0
 have b0:Below w.heap.size w W0:=by rw [hW0];exact below_alloc w _
 have hz0:W0.heap.size=w.heap.size+1:=by rw [hW0];simp
 have F0:FInP base W0 w.heap.size [] none 0 none:=⟨by rw [hW0];exact heap_alloc_new w _,World.ownsRow_nil _ _ _ _,Or.inl ⟨rfl,rfl⟩,List.nodup_nil,fun x hx=>by simp at hx⟩
 have L0:Hid (LBk base W0 w.heap.size q o J vs (.slice aoJ J.length capJ) ks (.slice aoP ks.length capP) [] none 0 none [] none 0 none [] none 0) :=
  ⟨F0,hK.below b0,fun b e=>(by cases e),hA.below b0,row_kp hP (Kp.below b0),World.ownsRow_nil _ _ _ _,(b0.block o hol).trans hO⟩
 have B0:Hid (Below base w W0):=b0.mono hbase
 have HJ:Hid (∀ r ∈ J,ARuleOk r):=hA.ok
 have HKS:Hid (∀ k ∈ ks,k<8):=hks
 clear hA hP hK hO F0 b0 hW0 hks
 go_enter Tryz.func84,Tryz.ntmps84
 go_wp2_with fail
 rw [<- HW0.out]
 refine (findP_any base w.heap.size [] none 0 none (false,[0,0,0,0]) W0 L0.out.fx four_zero hbase (by omega)).mono ?_
 rintro r w1 ⟨i0,X1,ao1,cap1,mo1,rfl,hF1,hfd1,hm1,_,hC1⟩
 have L1:Hid (LBk base w1 w.heap.size q o J vs (.slice aoJ J.length capJ) ks (.slice aoP ks.length capP) X1 ao1 cap1 mo1 [] none 0 none [] none 0):=L0.out.findP hF1 hm1 hC1 hfd1
 have B1:Hid (Below base w w1):=B0.out.trans (hC1.below (by omega) fun k hk e=>by
  rcases e with e | e | e
  ·omega
  ·simp [Value.ownBlock] at e
  ·cases e)
 have hX1:X1=[(false,[0,0,0,0])]:=by
  rcases hfd1 with ⟨_,h⟩ | ⟨_,h,_⟩
  ·simp at h
  ·exact h
 have A1:Hid (∀ x ∈ X1,PastOk J x):=fun x hx=>by rw [hX1] at hx;simp at hx;subst hx;exact past_zero J HJ.out false
 have Z1:Hid (X1[0]?=some (false,[0,0,0,0])):=by rw [hX1];rfl
 clear hF1 hfd1 hm1 hC1 hX1 L0 B0
 go_wp2_with fail
 go_loopg [7] 320001 (fun gh iv wx=>∃ (i:Nat) (X:List Spt) (aoX:Option Addr) (capX:Nat) (moX:Option Nat) (K:List Spt) (aoK:Option Addr) (capK:Nat) (moK:Option Nat) (H:List Hd) (aoH:Option Addr) (capH:Nat),gh+i=320001/\i<=X.length/\iv=.int .i64 i/\Hid (H.length=i)/\Hid (LBk base wx w.heap.size q o J vs (.slice aoJ J.length capJ) ks (.slice aoP ks.length capP) X aoX capX moX K aoK capK moK H aoH capH)/\Hid (HeadsOk J ks X K H)/\Hid (∀ x ∈ K,KnownOk J x)/\Hid (∀ x ∈ X,PastOk J x)/\Hid (X[0]?=some (false,[0,0,0,0]))/\Hid (Below base w wx))
 case atStart=>exact ⟨0,X1,ao1,cap1,mo1,[],none,0,none,[],none,0,rfl,Nat.zero_le _,rfl,(rfl:([]:List Hd).length=0),L1,(fun i h hi=>by simp at hi),(fun x hx=>by simp at hx),A1,Z1,B1⟩
 case round =>
  obtain ⟨i,X,aoX,capX,moX,K,aoK,capK,moK,H,aoH,capH,hgh,hi,rfl,hHl,hL,hHO,hKO,hXO,hX0,hB⟩:=hrel
  obtain ⟨w2,hw2⟩:∃ w2,w2=wr:=⟨wr,rfl⟩
  subst hw2
  clear L1 A1 Z1 B1
  have hXl:=few4' hL.out.fx.nodup hL.out.fx.ok
  have hs2:=hB.out.size
  have c0:w2.cell? ⟨w.heap.size,0,none⟩=some (.slice aoX X.length capX):=cell_of_block hL.out.fx.blk 0 _ rfl
  have hpl:=heap_lt hL.out.fx.blk
  by_cases hlt:i<X.length
  ·obtain ⟨x,hx⟩:∃ x,X[i]?=some x:=⟨X[i],List.getElem?_eq_getElem hlt⟩
   have HPx:Hid (PastOk J x):=hXO.out x (List.mem_of_getElem? hx)
   have HX:Hid (X[i]?=some x):=hx
   have hat:=sptCells_at X i x (fun y hy=>(hXO.out y hy).len) hx
   obtain ⟨xb,xl⟩:=x
   obtain ⟨xp,xq,xr,xs,e⟩:=Go.Proofs.YtodagkkjfipbgaaGreatDoor.four HPx.out.len
   simp only at e
   subst e
   obtain ⟨g,hg,_,e0⟩:=row_at hL.out.fx.row (hat 0 _ rfl) (by omega)
   obtain ⟨g1,hg1,_,e1⟩:=row_at hL.out.fx.row (hat 1 _ rfl) (by omega)
   obtain ⟨g2,hg2,_,e2⟩:=row_at hL.out.fx.row (hat 2 _ rfl) (by omega)
   obtain ⟨g3,hg3,_,e3⟩:=row_at hL.out.fx.row (hat 3 _ rfl) (by omega)
   obtain ⟨g4,hg4,_,e4⟩:=row_at hL.out.fx.row (hat 4 _ rfl) (by omega)
   rw [hg] at hg1 hg2 hg3 hg4
   simp at hg1 hg2 hg3 hg4
   subst hg1;subst hg2;subst hg3;subst hg4
   subst hg
   simp only [Nat.add_zero] at e0
   obtain ⟨W2,hW2⟩:∃ W2,W2=(w2.alloc (.cells #[.bool xb,.int .i64 (xp:Nat),.int .i64 (xq:Nat),.int .i64 (xr:Nat),.int .i64 (xs:Nat)] 243)).alloc (.cells #[.int .i64 0,.int .i64 0,.int .i64 0,.int .i64 0,.int .i64 0,.int .i64 0,.int .i64 0,.int .i64 0,.int .i64 0] 246):=⟨_,rfl⟩
   have HW2:Hid (W2=(w2.alloc (.cells #[.bool xb,.int .i64 (xp:Nat),.int .i64 (xq:Nat),.int .i64 (xr:Nat),.int .i64 (xs:Nat)] 243)).alloc (.cells #[.int .i64 0,.int .i64 0,.int .i64 0,.int .i64 0,.int .i64 0,.int .i64 0,.int .i64 0,.int .i64 0,.int .i64 0] 246)):=hW2
   have b2:Below w2.heap.size w2 W2:=by rw [hW2];exact (below_alloc w2 _).alloc (by simp) _
   have hz2:W2.heap.size=w2.heap.size+2:=by rw [hW2];simp
   have n2:W2.heap[w2.heap.size]?=some (.cells #[.bool xb,.int .i64 (xp:Nat),.int .i64 (xq:Nat),.int .i64 (xr:Nat),.int .i64 (xs:Nat)] 243 (0,0)):=by rw [hW2,Below.heap_alloc _ _ _ (by simp)];exact heap_alloc_new w2 _
   have h2:W2.heap[w2.heap.size+1]?=some (.cells (headCell (0,zero8)).toArray 246 (0,0)):=by rw [hW2];exact (show ((w2.alloc (.cells #[.bool xb,.int .i64 (xp:Nat),.int .i64 (xq:Nat),.int .i64 (xr:Nat),.int .i64 (xs:Nat)] 243)).heap.size)=w2.heap.size+1 by simp) ▸ heap_alloc_new (w2.alloc _) _
   have L2:Hid (LBk base W2 w.heap.size q o J vs (.slice aoJ J.length capJ) ks (.slice aoP ks.length capP) X (some ⟨g,0,none⟩) capX moX K aoK capK moK H aoH capH):=hL.out.below b2
   have N2:Hid (W2.heap[w2.heap.size]?=some (.cells #[.bool xb,.int .i64 (xp:Nat),.int .i64 (xq:Nat),.int .i64 (xr:Nat),.int .i64 (xs:Nat)] 243 (0,0))):=n2
   have H2:Hid (W2.heap[w2.heap.size+1]?=some (.cells (headCell (0,zero8)).toArray 246 (0,0))):=h2
   have B2:Hid (Below base w W2):=hB.out.trans (b2.mono (by omega))
   have HNE:Hid (∀ k,(Value.slice aoH H.length capH).ownBlock=some k->k ≠ w2.heap.size+1):=fun k e=>by have:=(hL.out.hd.lt k e).2;omega
   have PNE:Hid (∀ k,(Value.slice (some ⟨g,0,none⟩) X.length capX).ownBlock=some k->k ≠ w2.heap.size):=fun k e=>by have:=(hL.out.fx.row.lt k e).2;omega
   have s0:=cell_of_block n2 0 _ rfl
   have s1:=cell_of_block n2 1 _ rfl
   have s2:=cell_of_block n2 2 _ rfl
   have s3:=cell_of_block n2 3 _ rfl
   have s4:=cell_of_block n2 4 _ rfl
   clear hW2 n2 h2 b2 hat hx
   go_upto_if 27 with fail
   rw [<- HW2.out]
   go_cut [] (fun wx=>∃ (K':List Spt) (aoK':Option Addr) (capK':Nat) (moK':Option Nat) (s:Nat),Hid (LBk base wx w.heap.size q o J vs (.slice aoJ J.length capJ) ks (.slice aoP ks.length capP) X (some ⟨g,0,none⟩) capX moX K' aoK' capK' moK' H aoH capH)/\Hid (wx.heap[w2.heap.size]?=some (.cells #[.bool xb,.int .i64 (xp:Nat),.int .i64 (xq:Nat),.int .i64 (xr:Nat),.int .i64 (xs:Nat)] 243 (0,0)))/\Hid (wx.heap[w2.heap.size+1]?=some (.cells (headCell (s,zero8)).toArray 246 (0,0)))/\Hid (K <+: K'/\(xb=true->K'[s]?=some (startA J (xb,[xp,xq,xr,xs])))/\∀ y ∈ K',KnownOk J y)/\Hid (Below base w wx))
   case first =>
    cases hxb:xb
    ·go_wp2_with fail
     go_meet
     exact ⟨K,aoK,capK,moK,0,L2,N2,H2,⟨List.prefix_refl _,fun e=>(by rw [hxb] at e;cases e),hKO.out⟩,B2⟩
    ·subst hxb
     go_wp2_with fail
     refine (start_any W2 _ J vs (true,[xp,xq,xr,xs]) L2.out.aj hJ HPx.out).mono ?_
     rintro r w3 ⟨rfl,hb3⟩
     have SO:Hid (KnownOk J (startA J (true,[xp,xq,xr,xs]))):=start_ok HJ.out _
     have L3:Hid (LBk base w3 w.heap.size q o J vs (.slice aoJ J.length capJ) ks (.slice aoP ks.length capP) X (some ⟨g,0,none⟩) capX moX K aoK capK moK H aoH capH):=L2.out.below hb3
     have N3:Hid (w3.heap[w2.heap.size]?=some (.cells #[.bool true,.int .i64 (xp:Nat),.int .i64 (xq:Nat),.int .i64 (xr:Nat),.int .i64 (xs:Nat)] 243 (0,0))):=(hb3.block _ (by omega)).trans N2.out
     have H3:Hid (w3.heap[w2.heap.size+1]?=some (.cells (headCell (0,zero8)).toArray 246 (0,0))):=(hb3.block _ (by omega)).trans H2.out
     have B3:Hid (Below base w w3):=B2.out.trans (hb3.mono (by omega))
     have hs3:=hb3.size
     clear hb3
     go_wp2_with fail
     refine (findK_any base q K aoK capK moK _ w3 L3.out.fk SO.out.four hqb (by omega)).mono ?_
     rintro r w4 ⟨s,K',aoK',capK',moK',rfl,hF4,hfd4,hm4,_,hC4⟩
     have L4:Hid (LBk base w4 w.heap.size q o J vs (.slice aoJ J.length capJ) ks (.slice aoP ks.length capP) X (some ⟨g,0,none⟩) capX moX K' aoK' capK' moK' H aoH capH):=L3.out.findK hF4 hm4 hC4 hfd4
     have k4:=L3.out.fk.kp hC4 (t:=246) (by decide) (by decide)
     have k5:=L3.out.fk.kp hC4 (t:=243) (by decide) (by decide)
     have N4:Hid (w4.heap[w2.heap.size]?=some (.cells #[.bool true,.int .i64 (xp:Nat),.int .i64 (xq:Nat),.int .i64 (xr:Nat),.int .i64 (xs:Nat)] 243 (0,0))):=k5 _ _ _ N3.out
     have h4:=k4 _ _ _ H3.out
     have H4:Hid (w4.heap[w2.heap.size+1]?=some (.cells (headCell (0,zero8)).toArray 246 (0,0))):=h4
     have B4:Hid (Below base w w4):=B3.out.trans (hC4.below (by omega) fun k hk e=>by
      rcases e with e | e | e
      ·omega
      ·have:=(L3.out.fk.row.lt k e).1;omega
      ·have:=(L3.out.fk.lt e).2.1;omega)
     have FD:Hid (K <+: K'/\K'[s]?=some (startA J (true,[xp,xq,xr,xs]))/\∀ y ∈ K',KnownOk J y):=⟨hfd4.pre.1,hfd4.pre.2,hfd4.all hKO.out SO.out⟩
     have t0:=cell_of_block h4 0 _ rfl
     have tf:=free_of_block h4 0
     clear hF4 hfd4 hm4 hC4 k4 k5 h4
     go_wp2_with fail
     go_meet
     refine ⟨K',aoK',capK',moK',s,L4.out.setHead H4.out HNE.out _,?_,?_,⟨FD.out.1,fun _=>FD.out.2.1,FD.out.2.2⟩,B4.out.setCell (by show base<=w2.heap.size+1;omega) _⟩
     ·exact (setCell_type (by omega)).trans N4.out
     ·exact (block_setCell H4.out 0 _).trans rfl
   case rest =>
    obtain ⟨K',aoK',capK',moK',s,hL',hN',hH',hK',hB'⟩:=hcut
    obtain ⟨w3,hw3⟩:∃ w3,w3=wc:=⟨wc,rfl⟩
    subst hw3
    clear L2 N2 H2 B2 s0 s1 s2 s3 s4
    have hs3:=hB'.out.size
    have o0:w3.cell? ⟨o,0,none⟩=some (.slice aoP ks.length capP):=cell_of_block hL'.out.ob 0 _ rfl
    have hnl:=heap_lt hN'.out
    have hhl:=heap_lt hH'.out
    go_wp2_with fail
    go_loopg [39] ks.length (fun gh jv wx=>∃ (j:Nat) (X':List Spt) (aoX':Option Addr) (capX':Nat) (moX':Option Nat) (nl:List Nat),j<=ks.length/\gh=ks.length - j/\jv=.int .i64 j/\Hid (LBk base wx w.heap.size q o J vs (.slice aoJ J.length capJ) ks (.slice aoP ks.length capP) X' aoX' capX' moX' K' aoK' capK' moK' H aoH capH)/\Hid (wx.heap[w2.heap.size]?=some (.cells #[.bool xb,.int .i64 (xp:Nat),.int .i64 (xq:Nat),.int .i64 (xr:Nat),.int .i64 (xs:Nat)] 243 (0,0)))/\Hid (wx.heap[w2.heap.size+1]?=some (.cells (headCell (s,nl)).toArray 246 (0,0)))/\Hid (nl.length=8/\X <+: X'/\(∀ y ∈ X',PastOk J y)/\∀ t k,t<j->ks[t]?=some k->∃ n,nl[k]?=some n/\X'[n]?=some (laterA J (xb,[xp,xq,xr,xs]) k))/\Hid (∀ k,(Value.slice aoX' X'.length capX').ownBlock=some k->k ≠ w2.heap.size)/\Hid (w3.heap.size<=wx.heap.size)/\Hid (Below base w wx))
    case atStart=>exact ⟨0,X,some ⟨g,0,none⟩,capX,moX,zero8,Nat.zero_le _,rfl,rfl,hL',hN',hH',⟨rfl,List.prefix_refl _,hXO.out,fun t k ht=>absurd ht (Nat.not_lt_zero _)⟩,PNE,Nat.le_refl _,hB'⟩
    case round =>
     obtain ⟨j,X',aoX',capX',moX',nl,hj,rfl,rfl,hL4,hN4,hH4,hI4,hPN4,hsz4,hB4⟩:=hrel
     obtain ⟨w4,hw4⟩:∃ w4,w4=wr:=⟨wr,rfl⟩
     subst hw4
     have hs4:=hsz4.out
     have hsb4:=hB4.out.size
     by_cases hjl:j<ks.length
     ·obtain ⟨k,hk⟩:∃ k,ks[j]?=some k:=⟨ks[j],List.getElem?_eq_getElem hjl⟩
      have hk8:k<8:=HKS.out k (List.mem_of_getElem? hk)
      have hk8':(k:Int)<8:=by omega
      obtain ⟨gP,hgP,_,kc⟩:=row_at hL4.out.ps (kCells_at hk) (by omega)
      subst hgP
      have HKJ:Hid (ks[j]?=some k):=hk
      have s0:=cell_of_block hN4.out 0 _ rfl
      have s1:=cell_of_block hN4.out 1 _ rfl
      have s2:=cell_of_block hN4.out 2 _ rfl
      have s3:=cell_of_block hN4.out 3 _ rfl
      have s4:=cell_of_block hN4.out 4 _ rfl
      clear hk
      go_wp2_with fail
      refine (later_any w4 _ J vs (xb,[xp,xq,xr,xs]) k hL4.out.aj hJ HPx.out hk8).mono ?_
      rintro r w5 ⟨rfl,hb5⟩
      have SO:Hid (PastOk J (laterA J (xb,[xp,xq,xr,xs]) k)):=later_ok HJ.out HPx.out k
      have L5:Hid (LBk base w5 w.heap.size q o J vs (.slice aoJ J.length capJ) ks (.slice (some ⟨gP,0,none⟩) ks.length capP) X' aoX' capX' moX' K' aoK' capK' moK' H aoH capH):=hL4.out.below hb5
      have N5:Hid (w5.heap[w2.heap.size]?=some (.cells #[.bool xb,.int .i64 (xp:Nat),.int .i64 (xq:Nat),.int .i64 (xr:Nat),.int .i64 (xs:Nat)] 243 (0,0))):=(hb5.block _ (heap_lt hN4.out)).trans hN4.out
      have H5:Hid (w5.heap[w2.heap.size+1]?=some (.cells (headCell (s,nl)).toArray 246 (0,0))):=(hb5.block _ (heap_lt hH4.out)).trans hH4.out
      have B5:Hid (Below base w w5):=hB4.out.trans (hb5.mono (by omega))
      have hs5:=hb5.size
      clear hb5 s0 s1 s2 s3 s4
      go_wp2_with fail
      refine (findP_any base w.heap.size X' aoX' capX' moX' _ w5 L5.out.fx SO.out.four hbase (by omega)).mono ?_
      rintro r w6 ⟨n,X6,ao6,cap6,mo6,rfl,hF6,hfd6,hm6,hw6,hC6⟩
      have L6:Hid (LBk base w6 w.heap.size q o J vs (.slice aoJ J.length capJ) ks (.slice (some ⟨gP,0,none⟩) ks.length capP) X6 ao6 cap6 mo6 K' aoK' capK' moK' H aoH capH):=L5.out.findP hF6 hm6 hC6 hfd6
      have h6:=L5.out.fx.kp hC6 (t:=246) (by decide) (by decide) _ _ _ H5.out
      have H6:Hid (w6.heap[w2.heap.size+1]?=some (.cells (headCell (s,nl)).toArray 246 (0,0))):=h6
      have N6:Hid (w6.heap[w2.heap.size]?=some (.cells #[.bool xb,.int .i64 (xp:Nat),.int .i64 (xq:Nat),.int .i64 (xr:Nat),.int .i64 (xs:Nat)] 243 (0,0))):=by
       refine (hC6.block _ (heap_lt N5.out) fun e=>?_).trans N5.out
       rcases e with e | e | e
       ·have:=L5.out.fx.blk;rw [<- e,N5.out] at this;cases this
       ·exact hPN4.out _ e rfl
       ·exact (L5.out.fx.lt e).2.2 _ _ _ N5.out
      have B6:Hid (Below base w w6):=B5.out.trans (hC6.below (by omega) fun k hk e=>by
       rcases e with e | e | e
       ·omega
       ·have:=(L5.out.fx.row.lt k e).1;omega
       ·have:=(L5.out.fx.lt e).2.1;omega)
      have P6:Hid (∀ k,(Value.slice ao6 X6.length cap6).ownBlock=some k->k ≠ w2.heap.size):=fun k e=>by
       rcases hw6 k e with e1 | e1
       ·exact hPN4.out k e1
       ·omega
      have hs6:=hC6.size
      have I6:Hid ((nl.set k n).length=8/\X <+: X6/\(∀ y ∈ X6,PastOk J y)/\∀ t k',t<j+1->ks[t]?=some k'->∃ n',(nl.set k n)[k']?=some n'/\X6[n']?=some (laterA J (xb,[xp,xq,xr,xs]) k')):=by
       refine ⟨by rw [List.length_set];exact hI4.out.1,hI4.out.2.1.trans hfd6.pre.1,hfd6.all hI4.out.2.2.1 SO.out,fun t k' ht hk'=>?_⟩
       by_cases ek:k'=k
       ·subst ek
        exact ⟨n,List.getElem?_set_self (by rw [hI4.out.1];exact hk8),hfd6.pre.2⟩
       ·have htj:t<j:=by
         rcases Nat.lt_or_ge t j with h | h
         ·exact h
         ·have e:t=j:=by omega
          subst e;rw [HKJ.out] at hk';cases hk';exact absurd rfl ek
        obtain ⟨n',h1,h2⟩:=hI4.out.2.2.2 t k' htj hk'
        exact ⟨n',by rw [List.getElem?_set_ne (fun e=>ek e.symm)];exact h1,at_prefix hfd6.pre.1 h2⟩
      obtain ⟨u,hu⟩:∃ u,nl[k]?=some u:=⟨nl[k]'(by have:=hI4.out.1;omega),List.getElem?_eq_getElem _⟩
      have t0:=cell_of_block h6 (1+k) _ ((List.getElem?_toArray ..).trans (headCell_at (h:=(s,nl)) hu))
      have tf:=free_of_block h6 (1+k)
      clear hF6 hfd6 hm6 hw6 hC6 h6 hu
      go_wp2_with fail
      go_roundg (ks.length - (j+1))
      case measure=>omega
      case rel =>
       refine ⟨j+1,X6,ao6,cap6,mo6,nl.set k n,by omega,rfl,by go_num,L6.out.setHead H6.out HNE.out _,?_,?_,I6,P6,?_,B6.out.setCell (by show base<=w2.heap.size+1;omega) _⟩
       ·exact (setCell_type (by omega)).trans N6.out
       ·show _=_
        rw [<- headCell_set];exact block_setCell H6.out _ _
       ·show _<=_
        simp;omega
     ·have hj8:j=ks.length:=by omega
      obtain ⟨n0,n1,n2,n3,n4,n5,n6,n7,en⟩:=eight hI4.out.1
      subst en
      have HO:Hid (HeadOk J ks X' K' (xb,[xp,xq,xr,xs]) (s,[n0,n1,n2,n3,n4,n5,n6,n7])):=⟨rfl,fun k hk=>by obtain ⟨t,ht⟩:=List.mem_iff_getElem?.1 hk;exact hI4.out.2.2.2 t k (by rw [hj8];exact (List.getElem?_eq_some_iff.1 ht).1) ht,hK'.out.2.1⟩
      have q0:=cell_of_block hH4.out 0 _ rfl
      have q1:=cell_of_block hH4.out 1 _ rfl
      have q2:=cell_of_block hH4.out 2 _ rfl
      have q3:=cell_of_block hH4.out 3 _ rfl
      have q4:=cell_of_block hH4.out 4 _ rfl
      have q5:=cell_of_block hH4.out 5 _ rfl
      have q6:=cell_of_block hH4.out 6 _ rfl
      have q7:=cell_of_block hH4.out 7 _ rfl
      have q8:=cell_of_block hH4.out 8 _ rfl
      have o1:w4.cell? ⟨o,1,none⟩=some (.slice aoH H.length capH):=cell_of_block hL4.out.ob 1 _ rfl
      have hHn:=hHl.out
      have hHn2:H.length<=320000:=by omega
      have HHN:Hid (H.length=i):=hHn
      clear hHn
      have o1':=fun ob=>((below_alloc w4 ob).cell (p:=⟨o,1,none⟩) (heap_lt hL4.out.ob)).trans o1
      have L5:Hid (LBk base (w4.alloc (.cells (headCell (s,[n0,n1,n2,n3,n4,n5,n6,n7])).toArray 246)).drew w.heap.size q o J vs (.slice aoJ J.length capJ) ks (.slice aoP ks.length capP) X' aoX' capX' moX' K' aoK' capK' moK' H aoH capH):=hL4.out.below (below_alloc w4 _).drew
      have B5:Hid (Below base w (w4.alloc (.cells (headCell (s,[n0,n1,n2,n3,n4,n5,n6,n7])).toArray 246)).drew):=(hB4.out.alloc (by omega) _).drew
      go_wp2_with fail
      go_region_law (first
       | (refine step_push2 rfl (.tmp 56) (.tmp 58) 92 rfl base 246 (.agg #[.int .i64 0,.int .i64 0,.int .i64 0,.int .i64 0,.int .i64 0,.int .i64 0,.int .i64 0,.int .i64 0,.int .i64 0]) 9 72 Tryz.infoHd Tryz.undHd rfl (by decide) (.slice aoH H.length capH) H.length (headCells H) (by simp [Act.eval]) L5.out.hd w4.heap.size 1 (headCell (s,[n0,n1,n2,n3,n4,n5,n6,n7])) (by simp [Act.eval]) rfl (head_new w4 s [n0,n1,n2,n3,n4,n5,n6,n7]) (headCell_one _) (by omega) (by omega) (by simp;omega) ?_
          intro v' W6 hown hgr hsn
          obtain ⟨ao',cap',rfl⟩:=row_shape hown
          have HR:Hid (W6.ownsRow base 246 9 (.slice ao' (H.length+1) cap') (H.length+1) (headCells H++headCell (s,[n0,n1,n2,n3,n4,n5,n6,n7]))):=hown
          have HG:Hid ((w4.alloc (.cells (headCell (s,[n0,n1,n2,n3,n4,n5,n6,n7])).toArray 246)).drew.grownBy W6 (Value.slice aoH H.length capH).ownBlock):=hgr
          have hq3:=kept_grown L5.out.ob (Kp.refl _ _) L5.out.hd hgr (by decide)
          have i0:=cell_of_block hq3 1 _ rfl
          have if0:=free_of_block hq3
          clear hown hgr hsn hq3))
      all_goals go_wp2_with fail
      all_goals go_roundg (320001 - (i+1))
      all_goals first
       | (case measure=>omega)
       | exact ⟨i+1,X',aoX',capX',moX',K',aoK',capK',moK',H++[(s,[n0,n1,n2,n3,n4,n5,n6,n7])],ao',cap',by omega,Nat.lt_of_lt_of_le hlt hI4.out.2.1.length_le,by go_num,by show _=_;rw [List.length_append,HHN.out];rfl,L5.out.push HG.out HR.out,(hHO.out.more hI4.out.2.1 hK'.out.1).snoc (by rw [HHN.out];exact at_prefix hI4.out.2.1 HX.out) HO.out,hK'.out.2.2,hI4.out.2.2.1,at_prefix hI4.out.2.1 hX0.out,(B5.out.grown HG.out (by simp;omega) (fun k hk=>(L5.out.hd.lt k hk).1)).setCell (by show base<=o;omega) _⟩
  ·go_wp2_with fail
   go_end0
   exact ⟨rfl,w.heap.size,X,aoX,capX,moX,K,aoK,capK,moK,H,aoH,capH,hL.out,hHO.out,by rw [hHl.out];omega,hKO.out,hXO.out,hX0.out,hB.out⟩
end Go.Proofs.YtodagkkjfipbgaaGreatDoor
