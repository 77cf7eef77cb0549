import Derived.Test.YtodagkkjfipbgaaGreatDoorN13toN14
namespace Go.Proofs.YtodagkkjfipbgaaGreatDoor
open Go.RowKit Go.Maps
theorem one_new (w:World) (x:Nat):∀ (j:Nat) (u:Value),[Value.int .i64 (x:Nat)][j]?=some u->(w.alloc (.cells #[.int .i64 (x:Nat)] 3)).drew.cell? ⟨w.heap.size,j,none⟩=some u:=fun j u hu=>cell_of_block (w:=(w.alloc _).drew) (heap_alloc_new w _) j u (by simpa using hu)
theorem one_i64 (x:Nat):∀ u ∈ [Value.int .i64 (x:Nat)],u.oneCell'=true:=by
 intro u hu;simp at hu;subst hu;rfl
theorem view_cells {w:World} {base i cap:Nat} {ao:Option Addr} {V:List Vw} (h:w.ownsRow base 254 10 (.slice ao V.length cap) V.length (viewCells V)) (hV:∀ v ∈ V,v.2.2.length=8) {v:Vw} (hx:V[i]?=some v):∃ g,ao=some ⟨g,0,none⟩/\g<w.heap.size/\∀ o u,(viewCell v)[o]?=some u->w.cell? ⟨g,i * 10+o,none⟩=some u:=by
 have hlt:=(List.getElem?_eq_some_iff.1 hx).1
 have hl8:=hV v (List.mem_of_getElem? hx)
 have hat:=viewCells_at V i _ hV hx
 have hlen:(viewCell v).length=10:=by unfold viewCell;simp [hl8]
 obtain ⟨g,hg,_,e0⟩:=row_at h (hat 0 _ rfl) (by omega)
 refine ⟨g,hg,cellLt e0,fun o u hu=>?_⟩
 have ho:=(List.getElem?_eq_some_iff.1 hu).1
 obtain ⟨g1,hg1,_,e1⟩:=row_at h (hat o u hu) (by omega)
 rw [hg] at hg1
 simp at hg1
 subst hg1
 exact e1
set_option maxRecDepth 100000 in
set_option maxHeartbeats 4000000 in
theorem sources_any (base o:Nat) (ks:List Nat) (vP vH:Value) (V:List Vw) (aoV:Option Addr) (capV:Nat) (w:World) (hks:∀ k ∈ ks,k<8) (hkl:ks.length<=8) (hP:w.ownsRow 0 169 1 vP ks.length (kCells ks)) (hW:w.ownsRow base 254 10 (.slice aoV V.length capV) V.length (viewCells V)) (hV:VGood ks V) (hVl:V.length<=320000)
  (hO:w.heap[o]?=some (.cells #[vP,vH,.slice aoV V.length capV] 95 (0,0))) :
  Calls Tryz.prog 145 #[.pointer (some ⟨o,0,none⟩)] w fun r w'=>∃ v src rv,r=.returned v/\SRw w' w.heap.size v src rv/\SrcOk ks (plainV V) src/\(∀ l ∈ src,l.length<=2560000)/\Below w.heap.size w w':=by
 obtain ⟨aoP,capP,rfl⟩:=row_shape hP
 have HP:Hid (w.ownsRow 0 169 1 (.slice aoP ks.length capP) ks.length (kCells ks)):=hP
 have HWV:Hid (w.ownsRow base 254 10 (.slice aoV V.length capV) V.length (viewCells V)):=hW
 have HV:Hid (VGood ks V):=hV
 have HKS:Hid (∀ k ∈ ks,k<8):=hks
 have HO:Hid (w.heap[o]?=some (.cells #[.slice aoP ks.length capP,vH,.slice aoV V.length capV] 95 (0,0))):=hO
 have hol:=heap_lt hO
 have c0:w.cell? ⟨o,0,none⟩=some (.slice aoP ks.length capP):=cell_of_block hO 0 _ rfl
 have c2:w.cell? ⟨o,2,none⟩=some (.slice aoV V.length capV):=cell_of_block hO 2 _ rfl
 have hmk:=fun W=>make_src W V.length hVl
 have G0:Hid (SRw (w.alloc (.cells (madeCells #[.slice none 0 0] V.length) 33)) w.heap.size (.slice (some ⟨w.heap.size,0,none⟩) V.length V.length) (List.replicate V.length []) (List.replicate V.length (.slice none 0 0))):=src_made w V.length hVl
 have B0:Hid (Below w.heap.size w (w.alloc (.cells (madeCells #[.slice none 0 0] V.length) 33))):=below_alloc w _
 have c2':=fun ob=>((below_alloc w ob).cell (p:=⟨o,2,none⟩) hol).trans c2
 have hpl:(plainV V).length=V.length:=by unfold plainV;simp
 have S0:Hid (SrcAt ks (plainV V) 0 0 (List.replicate V.length [])):=by have:=SrcAt.start ks (plainV V);rw [hpl] at this;exact this
 have HPL:Hid ((plainV V).length=V.length):=hpl
 clear hP hW hV hks hO hpl
 go_enter Tryz.func145,Tryz.ntmps145
 go_wp2_with fail
 go_loopg [19] V.length (fun gh iv wx=>∃ (i:Nat) (src:List (List Nat)) (rv:List Value),i<=V.length/\gh=V.length - i/\iv=.int .i64 i/\Hid (SRw wx w.heap.size (.slice (some ⟨w.heap.size,0,none⟩) V.length V.length) src rv)/\Hid (SrcAt ks (plainV V) i 0 src)/\Hid (Below w.heap.size w wx))
 case atStart=>exact ⟨0,_,_,Nat.zero_le _,rfl,rfl,G0,S0,B0⟩
 case round =>
  obtain ⟨i,src,rv,hi,rfl,rfl,hG,hS,hB⟩:=hrel
  obtain ⟨w1,hw1⟩:∃ w1,w1=wr:=⟨wr,rfl⟩
  subst hw1
  clear G0 B0 S0 c2'
  have hs1:=hB.out.size
  by_cases hlt:i<V.length
  ·obtain ⟨v,hv⟩:∃ v,V[i]?=some v:=⟨V[i],List.getElem?_eq_getElem hlt⟩
   have hvm:=HV.out v (List.mem_of_getElem? hv)
   obtain ⟨gV,hgV,hgl,hvc⟩:=view_cells HWV.out (fun v h=>(HV.out v h).1) hv
   subst hgV
   have HPV:Hid ((plainV V)[i]?=some (v.1,v.2.2)):=by show _=_;unfold plainV;rw [List.getElem?_map,hv];rfl
   have HVM:Hid (∀ k ∈ ks,∃ n,v.2.2[k]?=some n/\n<V.length):=hvm.2
   obtain ⟨vc,vt,vl⟩:=v
   obtain ⟨n0,n1,n2,n3,n4,n5,n6,n7,en⟩:=eight hvm.1
   simp only at en
   subst en
   have d0:=(hB.out.cell (p:=⟨gV,i * 10,none⟩) hgl).trans (hvc 0 _ rfl)
   have d1:=(hB.out.cell (p:=⟨gV,i * 10+1,none⟩) hgl).trans (hvc 1 _ rfl)
   have d2:=(hB.out.cell (p:=⟨gV,i * 10+2,none⟩) hgl).trans (hvc 2 _ rfl)
   have d3:=(hB.out.cell (p:=⟨gV,i * 10+3,none⟩) hgl).trans (hvc 3 _ rfl)
   have d4:=(hB.out.cell (p:=⟨gV,i * 10+4,none⟩) hgl).trans (hvc 4 _ rfl)
   have d5:=(hB.out.cell (p:=⟨gV,i * 10+5,none⟩) hgl).trans (hvc 5 _ rfl)
   have d6:=(hB.out.cell (p:=⟨gV,i * 10+6,none⟩) hgl).trans (hvc 6 _ rfl)
   have d7:=(hB.out.cell (p:=⟨gV,i * 10+7,none⟩) hgl).trans (hvc 7 _ rfl)
   have d8:=(hB.out.cell (p:=⟨gV,i * 10+8,none⟩) hgl).trans (hvc 8 _ rfl)
   have d9:=(hB.out.cell (p:=⟨gV,i * 10+9,none⟩) hgl).trans (hvc 9 _ rfl)
   have a0:=(hB.out.cell (p:=⟨o,0,none⟩) hol).trans c0
   have a0':=fun ob=>((below_alloc w1 ob).cell (p:=⟨o,0,none⟩) (by show o<_;omega)).trans a0
   have G1:Hid (SRw (w1.alloc (.cells (viewCell (vc,vt,[n0,n1,n2,n3,n4,n5,n6,n7])).toArray 254)) w.heap.size (.slice (some ⟨w.heap.size,0,none⟩) V.length V.length) src rv):=hG.out.kpa (KpA.below (below_alloc _ _))
   have Q1:Hid ((w1.alloc (.cells (viewCell (vc,vt,[n0,n1,n2,n3,n4,n5,n6,n7])).toArray 254)).heap[w1.heap.size]?=some (.cells (viewCell (vc,vt,[n0,n1,n2,n3,n4,n5,n6,n7])).toArray 254 (0,0))):=heap_alloc_new w1 _
   have B1:Hid (Below w.heap.size w (w1.alloc (.cells (viewCell (vc,vt,[n0,n1,n2,n3,n4,n5,n6,n7])).toArray 254))):=hB.out.alloc hs1 _
   clear hvc hvm hv
   go_wp2_with fail
   go_loopg [29] ks.length (fun gh jv wx=>∃ (j:Nat) (src:List (List Nat)) (rv:List Value),j<=ks.length/\gh=ks.length - j/\jv=.int .i64 j/\Hid (SRw wx w.heap.size (.slice (some ⟨w.heap.size,0,none⟩) V.length V.length) src rv)/\Hid (SrcAt ks (plainV V) i j src)/\Hid (wx.heap[w1.heap.size]?=some (.cells (viewCell (vc,vt,[n0,n1,n2,n3,n4,n5,n6,n7])).toArray 254 (0,0)))/\Hid (Below w.heap.size w wx))
   case atStart=>exact ⟨0,src,rv,Nat.zero_le _,rfl,rfl,G1,hS,Q1,B1⟩
   case round =>
    obtain ⟨j,src2,rv2,hj,rfl,rfl,hG2,hS2,hQ2,hB2⟩:=hrel
    obtain ⟨w2,hw2⟩:∃ w2,w2=wr:=⟨wr,rfl⟩
    subst hw2
    clear G1 Q1 B1 d0 d1 d2 d3 d4 d5 d6 d7 d8 d9 a0 a0'
    have hs2:=hB2.out.size
    by_cases hjl:j<ks.length
    ·obtain ⟨k,hk⟩:∃ k,ks[j]?=some k:=⟨ks[j],List.getElem?_eq_getElem hjl⟩
     have hkm:=List.mem_of_getElem? hk
     have hk8:k<8:=HKS.out k hkm
     have hk8':(k:Int)<8:=by omega
     obtain ⟨gP,hgP,_,kc⟩:=row_at HP.out (kCells_at hk) (by omega)
     subst hgP
     have kc':=(hB2.out.cell (p:=⟨gP,j,none⟩) (cellLt kc)).trans kc
     obtain ⟨n,hn,hnV⟩:=HVM.out k hkm
     have HST:Hid (SrcAt ks (plainV V) i (j+1) (addI src2 n i)):=hS2.out.step hk (by rw [HPV.out];exact hn)
     have q0:=cell_of_block hQ2.out (2+k) _ ((List.getElem?_toArray ..).trans (viewCell_at (v:=(vc,vt,[n0,n1,n2,n3,n4,n5,n6,n7])) hn))
     have hsl:src2.length=V.length:=hS2.out.1.trans HPL.out
     have hnV':(n:Int)<(V.length:Int):=by omega
     obtain ⟨aor,cr,hrv,hcr,hrow,cur,hcur⟩:=hG2.out.cell (i:=n) hsl hnV
     have hll:src2[n]?=some (src2[n]'(by omega)):=List.getElem?_eq_getElem _
     have hle:(src2[n]'(by omega)).length<=2560009:=by have:=hS2.out.2.1 _ (List.getElem_mem (by omega:n<src2.length));omega
     generalize src2[n]'(by omega)=l at hrv hcr hrow hll hle
     have HRV:Hid (rv2[n]?=some (.slice aor l.length cr)):=hrv
     have HRW:Hid (w2.ownsRow w.heap.size 3 1 (.slice aor l.length cr) l.length (intCells l)):=hrow
     have HLL:Hid (src2[n]?=some l):=hll
     have HCU:Hid (w2.heap[w.heap.size]?=some (.cells cur 33 (0,0))):=hcur
     clear hrv hrow hll hcur kc hn hk hkm
     have RA:Hid ((w2.alloc (.cells #[.int .i64 (i:Nat)] 3)).drew.ownsRow w.heap.size 3 1 (.slice aor l.length cr) l.length (intCells l)):=row_kp HRW.out (Kp.alloc (Kp.refl _ w2) _)
     have LA:w.heap.size<=(w2.alloc (.cells #[.int .i64 (i:Nat)] 3)).drew.heap.size:=by show _<=(w2.alloc _).heap.size;simp;omega
     have hcr':=fun o=>((below_alloc w2 o).cell (p:=⟨w.heap.size,n,none⟩) (heap_lt HCU.out)).trans hcr
     have q0':=fun o=>((below_alloc w2 o).cell (p:=⟨w1.heap.size,2+k,none⟩) (heap_lt hQ2.out)).trans q0
     go_wp2_with fail
     go_region_law
      (first
       | (refine step_push2 rfl (.tmp 44) (.tmp 46) 33 rfl w.heap.size 3 (.int .i64 0) 1 8 Tryz.infoI Tryz.undRowI rfl (by decide) (.slice aor l.length cr) l.length (intCells l) (by simp [Act.eval]) RA.out w2.heap.size 1 [.int .i64 (i:Nat)] (by simp [Act.eval]) rfl (one_new w2 i) (one_i64 i) (by omega) (by omega) LA ?_
          intro v' w3 hown hgr hsn
          obtain ⟨ao3,c3,rfl⟩:=row_shape hown
          have HG3:Hid (w3.heap[w.heap.size]?=some (.cells cur 33 (0,0))):=((Kp.alloc (Kp.refl _ w2) _).grown (w:=(w2.alloc _).drew) RA.out hgr (by decide)) _ _ _ HCU.out
          have HF:Hid (SRw (w3.setCell ⟨w.heap.size,n,none⟩ (.slice ao3 (l.length+1) c3)) w.heap.size (.slice (some ⟨w.heap.size,0,none⟩) V.length V.length) (addI src2 n i) (rv2.set n (.slice ao3 (l.length+1) c3))):=addI_fin hG2.out hsl hnV HLL.out HRV.out HRW.out hgr hown hsn HG3.out
          have HQ3:Hid (w3.heap[w1.heap.size]?=some (.cells (viewCell (vc,vt,[n0,n1,n2,n3,n4,n5,n6,n7])).toArray 254 (0,0))):=((Kp.alloc (Kp.refl _ w2) _).grown (w:=(w2.alloc _).drew) RA.out hgr (by decide)) _ _ _ hQ2.out
          have HB3:Hid (Below w.heap.size w w3):=Below.grown (w:=(w2.alloc _).drew) ((hB2.out.alloc hs2 _).drew) hgr LA (fun k hk=>(RA.out.lt k hk).1)
          have g3:=(World.cell?_of_block (a:=⟨w.heap.size,n,none⟩) (w:=w2) (HG3.out.trans HCU.out.symm)).trans hcr
          have p3:=(World.cell?_of_block (a:=⟨w1.heap.size,2+k,none⟩) (w:=w2) (HQ3.out.trans hQ2.out.symm)).trans q0
          have f3:=free_of_block HG3.out
          clear hown hgr hsn))
     all_goals go_wp2_with fail
     all_goals go_roundg (ks.length - (j+1))
     all_goals first
      | (case measure=>omega)
      | exact ⟨j+1,addI src2 n i,rv2.set n (.slice ao3 (l.length+1) c3),by omega,rfl,by go_num,HF,HST,(Below.heap_setCell _ _ _ _ (type_ne HQ3.out HG3.out (by decide))).trans HQ3.out,HB3.out.setCell (Nat.le_refl _) _⟩
    ·obtain rfl:j=ks.length:=by omega
     go_wp2_with fail
     go_roundg (V.length - (i+1))
     case measure=>omega
     case rel=>exact ⟨i+1,src2,rv2,by omega,rfl,by go_num,hG2,hS2.out.next hkl,hB2⟩
  ·go_wp2_with fail
   go_ret
   exact ⟨_,src,rv,rfl,hG.out,hS.out.done (by rw [HPL.out];omega),fun l hl=>by have:=hS.out.2.1 l hl;omega,hB.out⟩
theorem Tryz.infoB:(Tryz.prog.info? 4).map (fun i=>(i.zero,i.size,i.bytes))=some (some (.bool false),1,1):=by kernel_rfl
theorem Tryz.undRowB:Tryz.prog.underlying 108=some (.slice 4):=by kernel_rfl
def boolCells (M:List Bool):Array Value:=(M.map Value.bool).toArray
theorem boolCells_at {M:List Bool} {i:Nat} {b:Bool} (h:M[i]?=some b):(boolCells M)[i]?=some (.bool b):=by
 unfold boolCells
 rw [List.getElem?_toArray,List.getElem?_map,h]
 rfl
theorem boolCells_set (M:List Bool) (i:Nat) (b:Bool):(boolCells M).setIfInBounds i (.bool b)=boolCells (M.set i b):=by
 unfold boolCells
 rw [List.setIfInBounds_toArray,List.map_set]
theorem intCells_snoc (l:List Nat) (x:Nat):intCells (l++[x])=intCells l++[.int .i64 (x:Nat)]:=by unfold intCells;simp
structure MSt (N:Nat) (w:World) (M:List Bool) (W:List Nat) (aoW:Option Addr) (capW:Nat):Prop where
 mr:w.heap[N]?=some (.cells (boolCells M) 4 (0,0))
 mv:w.heap[N+1]?=some (.cells #[.slice (some ⟨N,0,none⟩) M.length M.length] 108 (0,0))
 wv:w.heap[N+2]?=some (.cells #[.slice aoW W.length capW] 33 (0,0))
 wr:w.ownsRow (N+3) 3 1 (.slice aoW W.length capW) W.length (intCells W)
theorem MSt.below {N capW:Nat} {w w':World} {M:List Bool} {W:List Nat} {aoW:Option Addr} (h:MSt N w M W aoW capW) (hb:Below w.heap.size w w'):MSt N w' M W aoW capW :=
 ⟨(hb.block _ (heap_lt h.mr)).trans h.mr,(hb.block _ (heap_lt h.mv)).trans h.mv,(hb.block _ (heap_lt h.wv)).trans h.wv,row_kp h.wr (Kp.below hb)⟩
set_option maxRecDepth 100000 in
set_option maxHeartbeats 2000000 in
theorem mark_any (N:Nat) (w:World) (M:List Bool) (W:List Nat) (aoW:Option Addr) (capW i:Nat) (h:MSt N w M W aoW capW) (hi:i<M.length) (hW:W.length<=1000000) :
  Calls Tryz.prog 186 #[.int .i64 i,.pointer (some ⟨N+1,0,none⟩),.pointer (some ⟨N+2,0,none⟩)] w fun r w'=>r=.returned (.tuple #[])/\(∃ ao cap,MSt N w' (markM M W i).1 (markM M W i).2 ao cap)/\Below N w w':=by
 obtain ⟨b,hb⟩:∃ b,M[i]?=some b:=⟨M[i],List.getElem?_eq_getElem hi⟩
 have HS:Hid (MSt N w M W aoW capW):=h
 have m0:w.cell? ⟨N+1,0,none⟩=some (.slice (some ⟨N,0,none⟩) M.length M.length):=cell_of_block h.mv 0 _ rfl
 have m1:w.cell? ⟨N,i,none⟩=some (.bool b):=cell_of_block h.mr i _ (boolCells_at hb)
 have mf:=free_of_block h.mr
 have hz:=heap_lt h.wv
 cases b
 ·have HM:Hid (markM M W i=(M.set i true,W++[i])):=by show _=_;unfold markM;rw [if_pos hb]
  have w0:w.cell? ⟨N+2,0,none⟩=some (.slice aoW W.length capW):=cell_of_block h.wv 0 _ rfl
  obtain ⟨V,hV⟩:∃ V,V=w.setCell ⟨N,i,none⟩ (.bool true):=⟨_,rfl⟩
  have HV:Hid (V=w.setCell ⟨N,i,none⟩ (.bool true)):=hV
  have V1:Hid (MSt N V (M.set i true) W aoW capW):=by
   rw [hV]
   refine ⟨(block_setCell h.mr i _).trans (by rw [boolCells_set]),?_,?_,row_kp h.wr ((Kp.refl _ _).setCell h.mr (by decide) _)⟩
   ·rw [List.length_set];exact (setCell_type (by omega)).trans h.mv
   ·exact (setCell_type (by omega)).trans h.wv
  have BV:Hid (Below N w V):=by rw [hV];exact (Below.refl N w).setCell (Nat.le_refl N) _
  have hVz:V.heap.size=w.heap.size:=by rw [hV];simp
  have v0:V.cell? ⟨N+2,0,none⟩=some (.slice aoW W.length capW):=cell_of_block V1.out.wv 0 _ rfl
  have v0':=fun ob=>((below_alloc V ob).cell (p:=⟨N+2,0,none⟩) (by show N+2<_;omega)).trans v0
  have R1:Hid ((V.alloc (.cells #[.int .i64 (i:Nat)] 3)).ownsRow (N+3) 3 1 (.slice aoW W.length capW) W.length (intCells W)):=row_kp V1.out.wr (Kp.below (below_alloc V _))
  have NW:Hid (∀ (j:Nat) (u:Value),[Value.int .i64 (i:Nat)][j]?=some u->(V.alloc (.cells #[.int .i64 (i:Nat)] 3)).cell? ⟨w.heap.size,j,none⟩=some u):=fun j u hu=>by rw [<- hVz];exact cell_of_block (heap_alloc_new V _) j u (by simpa using hu)
  have WV:Hid ((V.alloc (.cells #[.int .i64 (i:Nat)] 3)).heap[N+2]?=some (.cells #[.slice aoW W.length capW] 33 (0,0))):=(Below.heap_alloc _ _ _ (by omega)).trans V1.out.wv
  have LA:N+3<=(V.alloc (.cells #[.int .i64 (i:Nat)] 3)).heap.size:=by simp;omega
  have MR:Hid ((V.alloc (.cells #[.int .i64 (i:Nat)] 3)).heap[N]?=some (.cells (boolCells (M.set i true)) 4 (0,0))/\(V.alloc (.cells #[.int .i64 (i:Nat)] 3)).heap[N+1]?=some (.cells #[.slice (some ⟨N,0,none⟩) M.length M.length] 108 (0,0))):=⟨(Below.heap_alloc _ _ _ (by omega)).trans V1.out.mr,(Below.heap_alloc _ _ _ (by omega)).trans (by have:=V1.out.mv;rw [List.length_set] at this;exact this)⟩
  have BA:Hid (Below N w (V.alloc (.cells #[.int .i64 (i:Nat)] 3))):=BV.out.alloc (by omega) _
  rw [HV.out] at R1 NW WV LA MR BA v0 v0'
  clear h hV hb
  go_enter Tryz.func186,Tryz.ntmps186
  go_wp2_with (at_builtin;refine wpList_push2 rfl (.tmp 12) (.tmp 14) 33 rfl (N+3) 3 (.int .i64 0) 1 8 Tryz.infoI Tryz.undRowI rfl (by decide) (.slice aoW W.length capW) W.length (intCells W) rfl R1.out w.heap.size 1 [.int .i64 (i:Nat)] rfl rfl NW.out (one_i64 i) (by omega) (by omega) LA ?_;intro v' W3 hown hgr hsn;obtain ⟨ao',cap',rfl⟩:=row_shape hown;have HR:Hid (W3.ownsRow (N+3) 3 1 (.slice ao' (W.length+1) cap') (W.length+1) (intCells W++[.int .i64 (i:Nat)])):=hown;have k1:=kept_grown WV.out (Kp.refl _ _) R1.out hgr (by decide);have K1:Hid (W3.heap[N+2]?=some (.cells #[.slice aoW W.length capW] 33 (0,0))):=k1;have K2:Hid (W3.heap[N]?=some (.cells (boolCells (M.set i true)) 4 (0,0))):=kept_grown MR.out.1 (Kp.refl _ _) R1.out hgr (by decide);have K3:Hid (W3.heap[N+1]?=some (.cells #[.slice (some ⟨N,0,none⟩) M.length M.length] 108 (0,0))):=kept_grown MR.out.2 (Kp.refl _ _) R1.out hgr (by decide);have BW:Hid (Below N w W3):=BA.out.grown hgr (by omega) (fun k hk=>by have:=(R1.out.lt k hk).1;omega);have y0:=cell_of_block k1 0 _ rfl;have yf:=free_of_block k1;clear hown hgr hsn k1)
  go_end0
  refine ⟨rfl,⟨ao',cap',?_⟩,BW.out.setCell (by show N<=N+2;omega) _⟩
  rw [HM.out]
  refine ⟨(setCell_type (by omega)).trans K2.out,?_,?_,?_⟩
  ·rw [List.length_set];exact (setCell_type (by omega)).trans K3.out
  ·rw [List.length_append];exact (block_setCell K1.out 0 _).trans rfl
  ·rw [List.length_append,intCells_snoc];exact row_kp HR.out ((Kp.refl _ _).setCell K1.out (by decide) _)
 ·have HM:Hid (markM M W i=(M,W)):=by show _=_;unfold markM;rw [if_neg (by rw [hb];decide)]
  clear h hb
  go_enter Tryz.func186,Tryz.ntmps186
  go_wp2_with fail
  go_end0
  exact ⟨rfl,⟨aoW,capW,by rw [HM.out];exact HS.out⟩,Below.refl _ _⟩
theorem SRw.form {w:World} {base:Nat} {v:Value} {g:List (List Nat)} {rv:List Value} (h:SRw w base v g rv):∃ ao cap,v=.slice ao g.length cap/\∀ i (hi:i<g.length),∃ gB ao2 c2,ao=some ⟨gB,0,none⟩/\gB<w.heap.size/\w.cell? ⟨gB,i,none⟩=some (.slice ao2 g[i].length c2)/\∀ t (ht:t<g[i].length),∃ q,ao2=some ⟨q,0,none⟩/\q<w.heap.size/\w.cell? ⟨q,t,none⟩=some (.int .i64 (g[i][t]:Nat)):=by
 obtain ⟨ao,cap,e,hf⟩:=row1_form h.row
 refine ⟨ao,cap,e,fun i hi=>?_⟩
 obtain ⟨u,hu⟩:∃ u,rv[i]?=some u:=⟨rv[i]'(by have:=h.len;omega),List.getElem?_eq_getElem _⟩
 obtain ⟨gB,h1,h2,h3⟩:=hf i u hu hi
 obtain ⟨ao2,c2,e2,hf2⟩:=row1_form (h.to_ i u _ hu (List.getElem?_eq_getElem hi))
 subst e2
 exact ⟨gB,ao2,c2,h1,h2,h3,fun t ht=>hf2 t _ (intCells_at _ t ht) ht⟩
theorem Marks0.pop {ks:List Nat} {V:List (Bool × List Nat)} {c:Bool} {M:List Bool} {W:List Nat} {a:Nat} (h:Marks0 ks V c (fun _=>False) M (W++[a])):Marks0 ks V c (fun y=>y=a) M W:=by
 refine ⟨h.len,h.sound,fun i hi=>h.work i (List.mem_append_left _ hi),fun y hy=>?_⟩
 rcases h.done y hy with h1 | h1 | h1
 ·rw [List.mem_append] at h1
  rcases h1 with h1 | h1
  ·exact Or.inl h1
  ·simp at h1;exact Or.inr (Or.inl h1)
 ·exact h1.elim
 ·exact Or.inr (Or.inr h1)
theorem Marks0.fin {ks:List Nat} {V:List (Bool × List Nat)} {c:Bool} {M:List Bool} {W:List Nat} {a:Nat} (h:Marks0 ks V c (fun y=>y=a) M W) (ha:∀ x,leadsV ks V x a->M[x]?=some true):Marks0 ks V c (fun _=>False) M W:=by
 refine ⟨h.len,h.sound,h.work,fun y hy=>?_⟩
 rcases h.done y hy with h1 | h1 | h1
 ·exact Or.inl h1
 ·subst h1;exact Or.inr (Or.inr ha)
 ·exact Or.inr (Or.inr h1)
theorem Marks0.begin (ks:List Nat) (V:List (Bool × List Nat)) (c:Bool):Marks0 ks V c (fun _=>False) (List.replicate V.length false) []:=by
 have hn:∀ i,(List.replicate V.length false)[i]? ≠ some true:=fun i h=>by
  rw [List.getElem?_replicate] at h
  split at h <;> cases h
 exact ⟨by simp,fun i h=>(hn i h).elim,fun i h=>by simp at h,fun y h=>(hn y h).elim⟩
theorem nil_or_snoc (l:List Nat):l=[]\/∃ l' a,l=l'++[a]:=by
 rcases List.eq_nil_or_concat l with h | ⟨l',a,h⟩
 ·exact Or.inl h
 ·exact Or.inr ⟨l',a,by rw [h,List.concat_eq_append]⟩
theorem toDo_begin (n:Nat):toDo (List.replicate n false) []=2 * n:=by unfold toDo;simp
theorem make_may (W:World) (n:Nat) (hn:n<=320000):(Instr.makeSlice 108 (.int .i64 n) (.int .i64 n)).run Tryz.prog W=.ok (.slice (some ⟨W.heap.size,0,none⟩) n n) (W.alloc (.cells (madeCells #[.bool false] n) 4)):=by
 obtain ⟨i,hi,hz0,hz1,hz2⟩:=info_parts Tryz.infoB
 have h:=run_make (P:=Tryz.prog) W 108 4 i (.bool false) Tryz.undRowB hi hz0 .i64 .i64 n n (by omega) (by omega) (by rw [hz2];omega) (by omega)
 rw [hz1] at h
 simpa [Value.cells] using h
theorem made_bool (n:Nat):madeCells #[.bool false] n=boolCells (List.replicate n false):=by
 apply Array.toList_inj.1
 rw [made_one]
 unfold boolCells
 simp
theorem row_pop {w:World} {base n cap:Nat} {ao:Option Addr} {l:List Nat} {a:Nat} (h:w.ownsRow base 3 1 (.slice ao (l++[a]).length cap) (l++[a]).length (intCells (l++[a]))) (hn:n=l.length):∃ q,ao=some ⟨q,0,none⟩/\base<=q/\w.cell? ⟨q,n,none⟩=some (.int .i64 (a:Nat))/\(l++[a]).length<=cap/\w.ownsRow base 3 1 (.slice (some ⟨q,0,none⟩) n cap) n (intCells l):=by
 subst hn
 have hc:(intCells (l++[a]))[l.length]?=some (.int .i64 (a:Nat)):=by rw [intCells_snoc,List.getElem?_append_right (by simp [intCells])];simp [intCells]
 obtain ⟨q,hq,hb,hcell⟩:=row_at h hc (by simp)
 subst hq
 obtain ⟨h1,h2⟩:=h
 rcases h2 with ⟨hv,hn⟩ | ⟨g,cp,cur,hv,hg,hh,hcap,hmx,hsz,hcur⟩
 ·simp at hn
 ·injection hv with hv1 hv2 hv3
  simp at hv1
  subst hv1
  subst hv3
  refine ⟨q,rfl,hb,hcell,hcap,⟨by simp [intCells],Or.inr ⟨q,cap,cur,rfl,hg,hh,by simp at hcap;omega,hmx,hsz,?_⟩⟩⟩
  have e:(cur.toList.take ((l++[a]).length * 1)).take (l.length * 1)=(intCells (l++[a])).take (l.length * 1):=by rw [hcur]
  rw [List.take_take] at e
  rw [show min (l.length * 1) ((l++[a]).length * 1)=l.length * 1 from by simp] at e
  rw [e,intCells_snoc,List.take_append_of_le_length (by simp [intCells])]
  exact List.take_of_length_le (by simp [intCells])
set_option maxRecDepth 100000 in
set_option maxHeartbeats 4000000 in
theorem mayEnd_any (base sb o:Nat) (ks:List Nat) (vP vH vS:Value) (V:List Vw) (aoV:Option Addr) (capV:Nat) (src:List (List Nat)) (rv:List Value) (c:Bool) (w:World) (hW:w.ownsRow base 254 10 (.slice aoV V.length capV) V.length (viewCells V)) (hV:VGood ks V) (hVl:V.length<=320000)
  (hO:w.heap[o]?=some (.cells #[vP,vH,.slice aoV V.length capV] 95 (0,0))) (hS:SRw w sb vS src rv) (hSO:SrcOk ks (plainV V) src) (hSl:∀ l ∈ src,l.length<=2560000) :
  Calls Tryz.prog 146 #[.pointer (some ⟨o,0,none⟩),.bool c,vS] w fun r w'=>∃ M:List Bool,r=.returned (.slice (some ⟨w.heap.size,0,none⟩) M.length M.length)/\w'.heap[w.heap.size]?=some (.cells (boolCells M) 4 (0,0))/\M.length=V.length/\(∀ i,M[i]?=some true↔mayV ks (plainV V) c i)/\Below w.heap.size w w':=by
 obtain ⟨aoS,capS,rfl,hSf⟩:=hS.form
 have HSF:Hid (∀ i (hi:i<src.length),∃ gB ao2 c2,aoS=some ⟨gB,0,none⟩/\gB<w.heap.size/\w.cell? ⟨gB,i,none⟩=some (.slice ao2 src[i].length c2)/\∀ t (ht:t<src[i].length),∃ q,ao2=some ⟨q,0,none⟩/\q<w.heap.size/\w.cell? ⟨q,t,none⟩=some (.int .i64 (src[i][t]:Nat))):=hSf
 have HWV:Hid (w.ownsRow base 254 10 (.slice aoV V.length capV) V.length (viewCells V)):=hW
 have HV:Hid (VGood ks V):=hV
 have HSO:Hid (SrcOk ks (plainV V) src):=hSO
 have HSL:Hid (∀ l ∈ src,l.length<=2560000):=hSl
 have hpl:(plainV V).length=V.length:=by unfold plainV;simp
 have HPL:Hid ((plainV V).length=V.length):=hpl
 have HSLN:Hid (src.length=V.length):=hSO.1.trans hpl
 have hol:=heap_lt hO
 have c2:w.cell? ⟨o,2,none⟩=some (.slice aoV V.length capV):=cell_of_block hO 2 _ rfl
 have hmk:=fun W=>make_may W V.length hVl
 have hen:∀ (args:Array Value) (w:World),(callFunc 186 args).run Tryz.prog w=.ok (.enter 186 args) w:=enters_of Tryz.func186 (by kernel_rfl) rfl
 obtain ⟨W0,hW0⟩:∃ W0,W0=((w.alloc (.cells (madeCells #[.bool false] V.length) 4)).alloc (.cells #[.slice (some ⟨w.heap.size,0,none⟩) V.length V.length] 108)).alloc (.cells #[.slice none 0 0] 33):=⟨_,rfl⟩
 have HW0:Hid (W0=((w.alloc (.cells (madeCells #[.bool false] V.length) 4)).alloc (.cells #[.slice (some ⟨w.heap.size,0,none⟩) V.length V.length] 108)).alloc (.cells #[.slice none 0 0] 33)):=hW0
 have b0:Below w.heap.size w W0:=by rw [hW0];exact ((below_alloc w _).alloc (by simp) _).alloc (by simp;omega) _
 have M0:Hid (MSt w.heap.size W0 (List.replicate V.length false) [] none 0):=by
  refine ⟨?_,?_,?_,World.ownsRow_nil _ _ _ _⟩
  ·rw [hW0,<- made_bool]
   exact (Below.heap_alloc _ _ _ (by simp;omega)).trans ((Below.heap_alloc _ _ _ (by simp)).trans (heap_alloc_new w _))
  ·rw [hW0,List.length_replicate]
   exact (Below.heap_alloc _ _ _ (by simp)).trans ((show (w.alloc (.cells (madeCells #[.bool false] V.length) 4)).heap.size=w.heap.size+1 by simp) ▸ heap_alloc_new (w.alloc _) _)
  ·rw [hW0]
   exact (show ((w.alloc (.cells (madeCells #[.bool false] V.length) 4)).alloc (.cells #[.slice (some ⟨w.heap.size,0,none⟩) V.length V.length] 108)).heap.size=w.heap.size+2 by simp) ▸ heap_alloc_new ((w.alloc _).alloc _) _
 have B0:Hid (Below w.heap.size w W0):=b0
 have K0:Hid (Marks0 ks (plainV V) c (fun _=>False) (List.replicate V.length false) []):=by have:=Marks0.begin ks (plainV V) c;rw [hpl] at this;exact this
 have c2':=(b0.cell (p:=⟨o,2,none⟩) hol).trans c2
 rw [hW0] at c2'
 clear hW hV hO hS hSO hSf hSl hpl hW0 b0
 go_enter Tryz.func146,Tryz.ntmps146
 go_wp2_with fail
 rw [<- HW0.out]
 go_loopg [27] V.length (fun gh iv wx=>∃ (i:Nat) (M:List Bool) (W:List Nat) (aoW:Option Addr) (capW:Nat),i<=V.length/\gh=V.length - i/\iv=.int .i64 i/\Hid (MSt w.heap.size wx M W aoW capW)/\Hid (Marks0 ks (plainV V) c (fun _=>False) M W)/\Hid (∀ t:Nat,t<i->((plainV V)[t]?).map Prod.fst=some c->M[t]?=some true)/\Hid (toDo M W<=2 * V.length)/\Hid (Below w.heap.size w wx))
 case atStart=>exact ⟨0,_,[],none,0,Nat.zero_le _,rfl,rfl,M0,K0,(fun t ht=>absurd ht (Nat.not_lt_zero _)),(by show _<=_;rw [toDo_begin];exact Nat.le_refl _),B0⟩
 case round =>
  obtain ⟨i,M,W,aoW,capW,hi,rfl,rfl,hM,hK,hC,hD,hB⟩:=hrel
  obtain ⟨w1,hw1⟩:∃ w1,w1=wr:=⟨wr,rfl⟩
  subst hw1
  clear M0 K0 B0 c2'
  have hs1:=hB.out.size
  have hMl:M.length=V.length:=hK.out.len.trans HPL.out
  have hWl:W.length<=640000:=by have:=hD.out;unfold toDo at this;omega
  by_cases hlt:i<V.length
  ·obtain ⟨v,hv⟩:∃ v,V[i]?=some v:=⟨V[i],List.getElem?_eq_getElem hlt⟩
   have hvm:=HV.out v (List.mem_of_getElem? hv)
   obtain ⟨gV,hgV,hgl,hvc⟩:=view_cells HWV.out (fun v h=>(HV.out v h).1) hv
   subst hgV
   have HPV:Hid ((plainV V)[i]?=some (v.1,v.2.2)):=by show _=_;unfold plainV;rw [List.getElem?_map,hv];rfl
   obtain ⟨vc,vt,vl⟩:=v
   obtain ⟨n0,n1,n2,n3,n4,n5,n6,n7,en⟩:=eight hvm.1
   simp only at en
   subst en
   have d0:=(hB.out.cell (p:=⟨gV,i * 10,none⟩) hgl).trans (hvc 0 _ rfl)
   have d1:=(hB.out.cell (p:=⟨gV,i * 10+1,none⟩) hgl).trans (hvc 1 _ rfl)
   have d2:=(hB.out.cell (p:=⟨gV,i * 10+2,none⟩) hgl).trans (hvc 2 _ rfl)
   have d3:=(hB.out.cell (p:=⟨gV,i * 10+3,none⟩) hgl).trans (hvc 3 _ rfl)
   have d4:=(hB.out.cell (p:=⟨gV,i * 10+4,none⟩) hgl).trans (hvc 4 _ rfl)
   have d5:=(hB.out.cell (p:=⟨gV,i * 10+5,none⟩) hgl).trans (hvc 5 _ rfl)
   have d6:=(hB.out.cell (p:=⟨gV,i * 10+6,none⟩) hgl).trans (hvc 6 _ rfl)
   have d7:=(hB.out.cell (p:=⟨gV,i * 10+7,none⟩) hgl).trans (hvc 7 _ rfl)
   have d8:=(hB.out.cell (p:=⟨gV,i * 10+8,none⟩) hgl).trans (hvc 8 _ rfl)
   have d9:=(hB.out.cell (p:=⟨gV,i * 10+9,none⟩) hgl).trans (hvc 9 _ rfl)
   obtain ⟨W1,hW1⟩:∃ W1,W1=w1.alloc (.cells #[.bool vc,.bool vt,.int .i64 (n0:Nat),.int .i64 (n1:Nat),.int .i64 (n2:Nat),.int .i64 (n3:Nat),.int .i64 (n4:Nat),.int .i64 (n5:Nat),.int .i64 (n6:Nat),.int .i64 (n7:Nat)] 254):=⟨_,rfl⟩
   have HW1:Hid (W1=w1.alloc (.cells #[.bool vc,.bool vt,.int .i64 (n0:Nat),.int .i64 (n1:Nat),.int .i64 (n2:Nat),.int .i64 (n3:Nat),.int .i64 (n4:Nat),.int .i64 (n5:Nat),.int .i64 (n6:Nat),.int .i64 (n7:Nat)] 254)):=hW1
   have b1:Below w1.heap.size w1 W1:=by rw [hW1];exact below_alloc w1 _
   have M1:Hid (MSt w.heap.size W1 M W aoW capW):=hM.out.below b1
   have B1:Hid (Below w.heap.size w W1):=hB.out.trans (b1.mono hs1)
   have hs2:=b1.size
   clear hvc hvm hv hW1 b1
   by_cases hcc:vc=c
   ·subst hcc
    go_wp2_with fail
    rw [<- HW1.out]
    refine (mark_any w.heap.size W1 M W aoW capW i M1.out (by omega) (by omega)).mono ?_
    rintro r w2 ⟨rfl,⟨ao2,cap2,hM2⟩,hb2⟩
    have M2:Hid (MSt w.heap.size w2 (markM M W i).1 (markM M W i).2 ao2 cap2):=hM2
    have B2:Hid (Below w.heap.size w w2):=B1.out.trans hb2
    have K2:Hid (Marks0 ks (plainV V) vc (fun _=>False) (markM M W i).1 (markM M W i).2):=hK.out.mark (by rw [HPL.out];exact hlt) (may_here (by rw [HPV.out];rfl))
    have C2:Hid (∀ t:Nat,t<i+1->((plainV V)[t]?).map Prod.fst=some vc->(markM M W i).1[t]?=some true):=fun t ht hc=>by
     rcases Nat.lt_or_ge t i with h | h
     ·exact markM_keep (hC.out t h hc)
     ·have e:t=i:=by omega
      subst e;exact markM_here (by omega)
    have D2:Hid (toDo (markM M W i).1 (markM M W i).2<=2 * V.length):=Nat.le_trans (markM_toDo M W i) hD.out
    clear hM2 hb2
    go_wp2_with fail
    go_roundg (V.length - (i+1))
    case measure=>omega
    case rel=>exact ⟨i+1,_,_,ao2,cap2,by omega,rfl,by go_num,M2,K2,C2,D2,B2⟩
   ·have hce:(vc == c)=false:=by simpa using hcc
    have C2:Hid (∀ t:Nat,t<i+1->((plainV V)[t]?).map Prod.fst=some c->M[t]?=some true):=fun t ht hc=>by
     rcases Nat.lt_or_ge t i with h | h
     ·exact hC.out t h hc
     ·have e:t=i:=by omega
      subst e;rw [HPV.out] at hc;simp at hc;exact absurd hc hcc
    go_wp2_with fail
    go_roundg (V.length - (i+1))
    case measure=>omega
    case rel=>exact ⟨i+1,M,W,aoW,capW,by omega,rfl,by go_num,by rw [<- HW1.out];exact M1,hK,C2,hD,by rw [<- HW1.out];exact B1⟩
  ·have HCA:Hid (∀ t:Nat,((plainV V)[t]?).map Prod.fst=some c->M[t]?=some true):=fun t hc=>by
    refine hC.out t ?_ hc
    rcases Nat.lt_or_ge t (plainV V).length with h | h
    ·have:=HPL.out;omega
    ·rw [List.getElem?_eq_none h] at hc;cases hc
   go_wp2_with fail
   go_loopg [] (toDo M W) (fun gh wx=>∃ (M:List Bool) (W:List Nat) (aoW:Option Addr) (capW:Nat),gh=toDo M W/\Hid (MSt w.heap.size wx M W aoW capW)/\Hid (Marks0 ks (plainV V) c (fun _=>False) M W)/\Hid (∀ t:Nat,((plainV V)[t]?).map Prod.fst=some c->M[t]?=some true)/\Hid (toDo M W<=2 * V.length)/\Hid (Below w.heap.size w wx))
   case atStart=>exact ⟨M,W,aoW,capW,rfl,hM,hK,HCA,hD,hB⟩
   case round =>
    obtain ⟨M2,W2,aoW2,capW2,rfl,hM2,hK2,hC2,hD2,hB2⟩:=hrel
    obtain ⟨w2,hw2⟩:∃ w2,w2=wr:=⟨wr,rfl⟩
    subst hw2
    have hs2:=hB2.out.size
    have hMl2:M2.length=V.length:=hK2.out.len.trans HPL.out
    have hWl2:W2.length<=640000:=by have:=hD2.out;unfold toDo at this;omega
    have wc:w2.cell? ⟨w.heap.size+2,0,none⟩=some (.slice aoW2 W2.length capW2):=cell_of_block hM2.out.wv 0 _ rfl
    rcases nil_or_snoc W2 with hW2 | ⟨W3,a,hW2⟩
    ·subst hW2
     have mc:w2.cell? ⟨w.heap.size+1,0,none⟩=some (.slice (some ⟨w.heap.size,0,none⟩) M2.length M2.length):=cell_of_block hM2.out.mv 0 _ rfl
     go_wp2_with fail
     go_ret
     exact ⟨M2,by rw [hMl2];rfl,hM2.out.mr,hMl2,hK2.out.all hC2.out,hB2.out⟩
    ·subst hW2
     have hlw:(W3++[a]).length=W3.length+1:=by simp
     obtain ⟨qw,hqw,hqb,wa,wcap,hrow3⟩:=row_pop hM2.out.wr rfl
     subst hqw
     rw [hlw] at wc wcap hWl2
     have ham:=hK2.out.work a (by simp)
     have hal:a<V.length:=by have:=(List.getElem?_eq_some_iff.1 ham).1;omega
     have hal':(a:Int)<(src.length:Int):=by have:=HSLN.out;omega
     have HAM:Hid (M2[a]?=some true):=ham
     have HLW:Hid ((W3++[a]).length=W3.length+1):=hlw
     have HR3:Hid (w2.ownsRow (w.heap.size+3) 3 1 (.slice (some ⟨qw,0,none⟩) W3.length capW2) W3.length (intCells W3)):=hrow3
     have wf:=free_of_block hM2.out.wv
     have hix:IntKind.i64.wrap (((W3.length+1:Nat):Int) - 1)=(W3.length:Int):=by rw [IntWalk.i64_in _ ⟨by omega,by omega⟩];omega
     obtain ⟨gB,ao2,c2',hgB,hgl,hsc,hst⟩:=HSF.out a (by have:=HSLN.out;omega)
     subst hgB
     have hSel:Hid (src[a]?=some (src[a]'(by have:=HSLN.out;omega))):=List.getElem?_eq_getElem _
     have hll:=HSL.out _ (List.getElem_mem (by have:=HSLN.out;omega:a<src.length))
     generalize src[a]'(by have:=HSLN.out;omega)=l at hsc hst hSel hll
     have HST:Hid (∀ t (ht:t<l.length),∃ q,ao2=some ⟨q,0,none⟩/\q<w.heap.size/\w.cell? ⟨q,t,none⟩=some (.int .i64 (l[t]:Nat))):=hst
     have HLM:Hid (∀ x,x ∈ l↔leadsV ks (plainV V) x a):=HSO.out.2 a l hSel.out
     obtain ⟨X3,hX3⟩:∃ X3,X3=w2.setCell ⟨w.heap.size+2,0,none⟩ (.slice (some ⟨qw,0,none⟩) W3.length capW2):=⟨_,rfl⟩
     have HX3:Hid (X3=w2.setCell ⟨w.heap.size+2,0,none⟩ (.slice (some ⟨qw,0,none⟩) W3.length capW2)):=hX3
     have M3:Hid (MSt w.heap.size X3 M2 W3 (some ⟨qw,0,none⟩) capW2):=by
      rw [hX3]
      exact ⟨(setCell_type (by omega)).trans hM2.out.mr,(setCell_type (by omega)).trans hM2.out.mv,(block_setCell hM2.out.wv 0 _).trans rfl,row_kp HR3.out ((Kp.refl _ _).setCell hM2.out.wv (by decide) _)⟩
     have B3:Hid (Below w.heap.size w X3):=by rw [hX3];exact hB2.out.setCell (by show w.heap.size<=w.heap.size+2;omega) _
     have K3:Hid (Marks0 ks (plainV V) c (fun y=>y=a) M2 W3):=hK2.out.pop
     have hsc3:=(B3.out.cell (p:=⟨gB,a,none⟩) hgl).trans hsc
     have hsc3':=hsc3
     rw [hX3] at hsc3'
     have hto:toDo M2 (W3++[a])=toDo M2 W3+1:=by unfold toDo;rw [hlw];omega
     have HTO:Hid (toDo M2 (W3++[a])=toDo M2 W3+1):=hto
     clear hlw hrow3 hst hX3 ham hto
     go_wp2_with fail
     rw [<- HX3.out]
     go_loopg [59] l.length (fun gh tv wx=>∃ (t:Nat) (M:List Bool) (W:List Nat) (aoW:Option Addr) (capW:Nat),t<=l.length/\gh=l.length - t/\tv=.int .i64 t/\Hid (MSt w.heap.size wx M W aoW capW)/\Hid (Marks0 ks (plainV V) c (fun y=>y=a) M W)/\Hid (∀ i:Nat,((plainV V)[i]?).map Prod.fst=some c->M[i]?=some true)/\Hid (toDo M W<=toDo M2 W3)/\Hid (∀ t' x,t'<t->l[t']?=some x->M[x]?=some true)/\Hid (M[a]?=some true)/\Hid (Below w.heap.size w wx))
     case atStart=>exact ⟨0,M2,W3,_,_,Nat.zero_le _,rfl,rfl,M3,K3,hC2,Nat.le_refl _,(fun t' x ht=>absurd ht (Nat.not_lt_zero _)),HAM,B3⟩
     case round =>
      obtain ⟨t,M4,W4,aoW4,capW4,ht,rfl,rfl,hM4,hK4,hC4,hD4,hT4,hA4,hB4⟩:=hrel
      obtain ⟨w4,hw4⟩:∃ w4,w4=wr:=⟨wr,rfl⟩
      subst hw4
      have hMl4:M4.length=V.length:=hK4.out.len.trans HPL.out
      have hWl4:W4.length<=640000:=by
       have h1:=hD4.out;have h2:=hD2.out;have h3:=HTO.out
       unfold toDo at *;omega
      by_cases htl:t<l.length
      ·obtain ⟨q,hq,hql,hqc⟩:=HST.out t htl
       subst hq
       have qc:=(hB4.out.cell (p:=⟨q,t,none⟩) hql).trans hqc
       have HLT:Hid (l[t]?=some (l[t]'htl)):=List.getElem?_eq_getElem htl
       have hxm:=(HLM.out (l[t]'htl)).1 (List.getElem_mem htl)
       generalize l[t]'htl=x at qc HLT hxm
       have hxl:x<V.length:=by
        obtain ⟨k,_,h4⟩:=hxm
        rcases Nat.lt_or_ge x (plainV V).length with h | h
        ·rw [HPL.out] at h;exact h
        ·rw [List.getElem?_eq_none h] at h4;cases h4
       have HXM:Hid (mayV ks (plainV V) c x):=may_back hxm (hK4.out.sound a hA4.out)
       clear hqc hxm
       go_wp2_with fail
       refine (mark_any w.heap.size w4 M4 W4 aoW4 capW4 x hM4.out (by omega) (by omega)).mono ?_
       rintro r w5 ⟨rfl,⟨ao5,cap5,hM5⟩,hb5⟩
       have M5:Hid (MSt w.heap.size w5 (markM M4 W4 x).1 (markM M4 W4 x).2 ao5 cap5):=hM5
       have B5:Hid (Below w.heap.size w w5):=hB4.out.trans hb5
       have K5:Hid (Marks0 ks (plainV V) c (fun y=>y=a) (markM M4 W4 x).1 (markM M4 W4 x).2):=hK4.out.mark (by rw [HPL.out];exact hxl) HXM.out
       have T5:Hid (∀ t' y,t'<t+1->l[t']?=some y->(markM M4 W4 x).1[y]?=some true):=fun t' y ht' hy=>by
        rcases Nat.lt_or_ge t' t with h | h
        ·exact markM_keep (hT4.out t' y h hy)
        ·have e:t'=t:=by omega
         subst e;rw [HLT.out] at hy;cases hy;exact markM_here (by omega)
       have D5:Hid (toDo (markM M4 W4 x).1 (markM M4 W4 x).2<=toDo M2 W3):=Nat.le_trans (markM_toDo M4 W4 x) hD4.out
       clear hM5 hb5
       go_wp2_with fail
       go_roundg (l.length - (t+1))
       case measure=>omega
       case rel=>exact ⟨t+1,_,_,ao5,cap5,by omega,rfl,by go_num,M5,K5,(fun i hc=>markM_keep (hC4.out i hc)),D5,T5,markM_keep hA4.out,B5⟩
      ·have HF:Hid (Marks0 ks (plainV V) c (fun _=>False) M4 W4):=hK4.out.fin fun x hx=>by
        obtain ⟨t',ht'⟩:=List.mem_iff_getElem?.1 ((HLM.out x).2 hx)
        exact hT4.out t' x (by have:=(List.getElem?_eq_some_iff.1 ht').1;omega) ht'
       go_wp2_with fail
       go_roundg (toDo M4 W4)
       case measure=>have h1:=hD4.out;have h3:=HTO.out;omega
       case rel=>exact ⟨M4,W4,aoW4,capW4,rfl,hM4,HF,hC4,(by have h1:=hD4.out;have h2:=hD2.out;have h3:=HTO.out;show _<=_;omega),hB4⟩
end Go.Proofs.YtodagkkjfipbgaaGreatDoor
