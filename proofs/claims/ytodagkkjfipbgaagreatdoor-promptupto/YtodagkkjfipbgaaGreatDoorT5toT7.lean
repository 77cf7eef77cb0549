import Derived.Test.YtodagkkjfipbgaaGreatDoorT3toT4
namespace Go.Proofs.YtodagkkjfipbgaaGreatDoor
open Go.RowKit Go.Maps
structure LookV (w:World) (gO oO:Nat) (V:List Vw):Prop where
 ex:∃ vV,w.cell? ⟨gO,oO+2,none⟩=some vV/\w.ownsRow 0 254 10 vV V.length (viewCells V)
 few:V.length<=1000000
 wide:∀ v ∈ V,v.2.2.length=8
def WatC (gO oO:Nat) (hd:Value) (m1 m2:Nat) (fi la bg:Value):Array Value:=#[.pointer (some ⟨gO,oO,none⟩),hd,.map (some m1),.map (some m2),fi,la,bg]
theorem LookV.at {w:World} {gO oO:Nat} {V:List Vw} (h:LookV w gO oO V) {i:Nat} {x:Vw} (hx:V[i]?=some x) :
  ∃ q cap,w.cell? ⟨gO,oO+2,none⟩=some (.slice (some ⟨q,0,none⟩) V.length cap)/\w.cell? ⟨q,i * 10,none⟩=some (.bool x.1)/\w.cell? ⟨q,i * 10+1,none⟩=some (.bool x.2.1)/\∀ k n,x.2.2[k]?=some n->w.cell? ⟨q,i * 10+2+k,none⟩=some (.int .i64 (n:Nat)):=by
 obtain ⟨⟨vV,h1,h2⟩,_,h3⟩:=h
 have hi:=(List.getElem?_eq_some_iff.1 hx).1
 obtain ⟨ao,cap,rfl⟩:=row_shape h2
 have hv:=viewCells_at V i x h3 hx
 have c1:(viewCells V)[i * 10]?=some (.bool x.1):=hv 0 _ rfl
 have c2:(viewCells V)[i * 10+1]?=some (.bool x.2.1):=hv 1 _ rfl
 have c3:∀ k n,x.2.2[k]?=some n->(viewCells V)[i * 10+2+k]?=some (.int .i64 (n:Nat)):=fun k n hk=>by
  rw [Nat.add_assoc]
  refine hv (2+k) _ ?_
  unfold viewCell
  rw [show 2+k=k+1+1 from by omega,List.getElem?_cons_succ,List.getElem?_cons_succ,List.getElem?_map,hk]
  rfl
 obtain ⟨q,hq,_,d1⟩:=row_at h2 c1 (by omega)
 subst hq
 obtain ⟨q2,hq2,_,d2⟩:=row_at h2 c2 (by omega)
 injection hq2 with hq2
 injection hq2 with hq2 _ _
 subst hq2
 refine ⟨q,cap,h1,d1,d2,fun k n hk=>?_⟩
 have hl:=h3 x (List.mem_of_getElem? hx)
 have hk8:=(List.getElem?_eq_some_iff.1 hk).1
 obtain ⟨q3,hq3,_,d3⟩:=row_at h2 (c3 k n hk) (by omega)
 injection hq3 with hq3
 injection hq3 with hq3 _ _
 subst hq3
 exact d3
theorem LookV.keep {w w':World} {gO oO:Nat} {V:List Vw} (h:LookV w gO oO V) (hk:∀ (k:Nat) (cs:Array Value) (t:TypeId),t ≠ 330->t ≠ 271->w.heap[k]?=some (.cells cs t (0,0))->w'.heap[k]?=some (.cells cs t (0,0))) (hc:w'.cell? ⟨gO,oO+2,none⟩=w.cell? ⟨gO,oO+2,none⟩):LookV w' gO oO V:=by
 obtain ⟨⟨vV,h1,h2⟩,h3,h4⟩:=h
 refine ⟨⟨vV,hc.trans h1,?_⟩,h3,h4⟩
 obtain ⟨h5,h6⟩:=h2
 refine ⟨h5,?_⟩
 rcases h6 with h6 | ⟨g,cap,cur,hv,hg,hh,r⟩
 ·exact Or.inl h6
 ·exact Or.inr ⟨g,cap,cur,hv,hg,hk _ _ _ (by decide) (by decide) hh,r⟩
theorem PlChg.of_drew {ns:List Nd} {w w':World} (h:PlChg ns w.drew w'):PlChg ns w w':=((Chg.refl _ w).drew).trans h
theorem not_place {w:World} {ns:List Nd} (hS:SeqIn w ns) {b:Nat} {cs:Array Value} {t:TypeId} {m:Nat × Nat} (hb:w.heap[b]?=some (.cells cs t m)) (ht:t ≠ 330):¬ ∃ x ∈ ns,x.p=b:=by
 rintro ⟨x,hx,rfl⟩
 obtain ⟨i,hi⟩:=List.mem_iff_getElem?.1 hx
 have:=hS i x hi
 rw [hb] at this
 injection this with this
 injection this with _ h2
 exact ht h2
theorem not_place_map {w:World} {ns:List Nd} (hS:SeqIn w ns) {b:Nat} {es:Array MapEntry} {c:Nat} (hb:w.heap[b]?=some (.map es c)):¬ ∃ x ∈ ns,x.p=b:=by
 rintro ⟨x,hx,rfl⟩
 obtain ⟨i,hi⟩:=List.mem_iff_getElem?.1 hx
 have:=hS i x hi
 rw [hb] at this
 cases this
theorem turned_chg {w w':World} {m:Nat} (h:w.mapTurned w' m):Chg (fun k=>k=m) w w':=by
 have hg:=h.grown
 exact ⟨hg.os,hg.tape,hg.output,hg.size,fun k hk hne=>hg.block k hk fun e=>hne (Option.some.inj e)⟩
set_option maxRecDepth 100000 in
set_option maxHeartbeats 4000000 in
theorem wstand_any (w:World) (b gO oO at_:Nat) (V:List Vw) (vw:Vw) (hd fi la bg:Value) (m1 m2:Nat) (ns:List Nd) (c:List Nat) (D:DataW Unit) (g:Nat->List Nat)
  (hb:w.heap[b]?=some (.cells (WatC gO oO hd m1 m2 fi la bg) 271 (0,0))) (hV:LookV w gO oO V) (hvw:V[at_]?=some vw)
  (hG:GD w m1 V.length D g) (hA:Apart ns) (hS:SeqIn w ns) (hc0:c ≠ []) (hN:c.Nodup) (hC:ChainOk ns c) :
  Calls Tryz.prog 201 #[.pointer (some ⟨b,0,none⟩),.agg #[ptrP c.head?,ptrP c.getLast?],.int .i64 at_] w fun r w'=>r=.returned (.tuple #[])/\Chg (fun k=>(∃ x ∈ ns,x.p=k)\/k=m1) w w' /\
   ((vw.2.1=true/\SeqIn w' (ns.map (settleX c vw.1))/\GD w' m1 V.length D g)\/(vw.2.1=false/\SeqIn w' (ns.map (linkX c.getLast? (g at_).head?))/\∃ D',GD w' m1 V.length D' (updG g at_ (c++g at_)))):=by
 obtain ⟨f,hf⟩:∃ f,c.head?=some f:=by cases c with
  | nil=>exact absurd rfl hc0
  | cons a c=>exact ⟨a,rfl⟩
 obtain ⟨l,hl⟩:∃ l,c.getLast?=some l:=by rw [List.getLast?_eq_some_getLast hc0];exact ⟨_,rfl⟩
 obtain ⟨q,cap,v0,v1,v2,_⟩:=hV.at hvw
 have hatl:=(List.getElem?_eq_some_iff.1 hvw).1
 have hfew:=hV.few
 have k0:w.cell? ⟨b,0,none⟩=some (.pointer (some ⟨gO,oO,none⟩)):=cell_of_block hb 0 _ rfl
 have k2:w.cell? ⟨b,2,none⟩=some (.map (some m1)):=cell_of_block hb 2 _ rfl
 obtain ⟨W,hW⟩:∃ W,W=w.alloc (.cells #[ptrP (some f),ptrP (some l)] 280):=⟨_,rfl⟩
 have HW:Hid (W=w.alloc (.cells #[ptrP (some f),ptrP (some l)] 280)):=hW
 have bW:Below w.heap.size w W:=by rw [hW];exact below_alloc w _
 have j0:W.cell? ⟨b,0,none⟩=some (.pointer (some ⟨gO,oO,none⟩)):=(bW.cell (p:=⟨b,0,none⟩) (cellLt k0)).trans k0
 have j2:W.cell? ⟨b,2,none⟩=some (.map (some m1)):=(bW.cell (p:=⟨b,2,none⟩) (cellLt k0)).trans k2
 have jv:W.cell? ⟨gO,oO+2,none⟩=some (.slice (some ⟨q,0,none⟩) V.length cap):=(bW.cell (p:=⟨gO,oO+2,none⟩) (cellLt v0)).trans v0
 have jc:W.cell? ⟨q,at_ * 10,none⟩=some (.bool vw.1):=(bW.cell (p:=⟨q,at_ * 10,none⟩) (cellLt v1)).trans v1
 have js:W.cell? ⟨q,at_ * 10+1,none⟩=some (.bool vw.2.1):=(bW.cell (p:=⟨q,at_ * 10+1,none⟩) (cellLt v2)).trans v2
 have hg0:W.cell? ⟨w.heap.size,0,none⟩=some (ptrP (some f)):=by rw [hW];exact cell_of_block (heap_alloc_new w _) 0 _ rfl
 have hg1:W.cell? ⟨w.heap.size,1,none⟩=some (ptrP (some l)):=by rw [hW];exact cell_of_block (heap_alloc_new w _) 1 _ rfl
 have SW:Hid (SeqIn W ns):=hS.below bW
 have HB:Hid (w.heap[b]?=some (.cells (WatC gO oO hd m1 m2 fi la bg) 271 (0,0))):=hb
 have HG:Hid (GD w m1 V.length D g):=hG
 have HA:Hid (Apart ns):=hA
 have HN:Hid c.Nodup:=hN
 have HC:Hid (ChainOk ns c):=hC
 have CW:Hid (Chg (fun k=>(∃ x ∈ ns,x.p=k)\/k=m1) w W):=by rw [hW];exact (Chg.refl _ w).alloc _
 rw [hf,hl]
 have KM:Hid (∀ W',PlChg ns W W'->W'.heap[m1]?=w.heap[m1]?):=fun W' h=>by
  obtain ⟨es,ck,hm⟩:=hG.blk
  have e1:=bW.block m1 (heap_lt hm)
  rw [h.block m1 (heap_lt (e1.trans hm)) (not_place_map SW.out (e1.trans hm)),e1]
 clear hb hV hvw hG hA hS hN hC v0 v1 v2 k0 k2 hW bW
 cases hst:vw.2.1 with
 | true =>
  have CS:Hid (∀ W',Below W.heap.size W W'->Calls Tryz.prog 168 #[.agg #[ptrP (some f),ptrP (some l)],.bool vw.1] W' fun r w'=>r=.returned (.tuple #[])/\SeqIn w' (ns.map (settleX c vw.1))/\PlChg ns W' w'):=fun W' hb=>by
   have:=gsettle_any W' ns c vw.1 (some l) HA.out HN.out HC.out (SW.out.below hb)
   rw [hf] at this
   exact this
  rw [hst] at js
  unfold ptrP at *
  simp only [Option.map_some] at *
  go_enter Tryz.func201,Tryz.ntmps201
  go_upto_region 1 with fail
  rw [<- HW.out]
  go_wp2_with fail
  go_region_with (go_at_call 168;refine (CS.out _ ((Below.refl _ _).drew)).mono ?_;rintro e W3 ⟨rfl,hS3,hP3⟩;have S3:Hid (SeqIn W3 (ns.map (settleX c vw.1))):=hS3;have P3:Hid (PlChg ns W W3):=hP3.of_drew;clear hS3 hP3)
  all_goals go_wp2_with fail
  all_goals refine bodyPost_ret (results_none rfl _ _ _) rfl ?_
  all_goals exact ⟨rfl,CW.out.trans (P3.out.mono fun k _ h=>Or.inl h),Or.inl ⟨by simp,S3.out,HG.out.keep (KM.out _ P3.out)⟩⟩
 | false =>
  rw [hst] at js
  have hsz:=HG.out.size_le
  have GW:Hid (GD W m1 V.length D g):=HG.out.keep (KM.out _ (Chg.refl _ _))
  cases hga:g at_ with
  | nil =>
   have hh:Maps.has D (.int .i64 (at_:Nat))=false:=by
    cases hx:Maps.has D (.int .i64 (at_:Nat)) with
    | false=>rfl
    | true=>exact absurd hga ((HG.out.mem at_).1 hx)
   have NS:Hid (ns.map (linkX (some l) ([]:List Nat).head?)=ns):=by rw [<- hl];exact link_same HA.out HC.out
   unfold ptrP at *
   simp only [Option.map_some] at *
   go_enter Tryz.func201,Tryz.ntmps201
   go_upto_region 1 with fail
   rw [<- HW.out]
   go_upto_region 5 with (at_lookup;refine wpList_lookup_own_ok _ rfl _ _ 268 rfl 3 280 intKey Tryz.undGr grpElem (zeroGr _) _ _ (grpElem_mk none none) m1 (Maps.size D) D rfl GW.out.own _ _ rfl (keyOf_nat at_ (by omega)) ?_;intro v ps hv;obtain ⟨ga,gb,rfl,_⟩:=grpElem_inv hv;clear hv;rw [hh];unfold ptrP)
   obtain ⟨W2,hW2⟩:∃ W2,W2=W.alloc (.cells #[.pointer (ga.map fun p=>⟨p,0,none⟩),.pointer (gb.map fun p=>⟨p,0,none⟩)] 280):=⟨_,rfl⟩
   rw [<- hW2]
   have b2:Below W.heap.size W W2:=by rw [hW2];exact below_alloc W _
   have i2:W2.cell? ⟨b,2,none⟩=some (.map (some m1)):=(b2.cell (p:=⟨b,2,none⟩) (cellLt j2)).trans j2
   have i0:W2.cell? ⟨w.heap.size,0,none⟩=some (.pointer (some ⟨f,0,none⟩)):=(b2.cell (p:=⟨w.heap.size,0,none⟩) (cellLt hg0)).trans hg0
   have i1:W2.cell? ⟨w.heap.size,1,none⟩=some (.pointer (some ⟨l,0,none⟩)):=(b2.cell (p:=⟨w.heap.size,1,none⟩) (cellLt hg1)).trans hg1
   have G2:Hid (GD W2 m1 V.length D g):=HG.out.keep (KM.out _ (Chg.of_below b2))
   have S2:Hid (SeqIn W2 ns):=SW.out.below b2
   have C2:Hid (Chg (fun k=>(∃ x ∈ ns,x.p=k)\/k=m1) w W2):=CW.out.trans (Chg.of_below b2)
   have VL:grpElem (.agg #[.pointer (some ⟨f,0,none⟩),.pointer (some ⟨l,0,none⟩)])=some (grpD c.head? c.getLast?,[]):=by rw [hf,hl];exact grpElem_mk (some f) (some l)
   clear hW2 b2 j0 j2 jv jc js hg0 hg1 SW CW GW
   go_upto_region 8 with fail
   obtain ⟨W3,hrun,hown,hturn⟩:=(show W2.drew.ownsMap Tryz.prog 3 grpElem m1 (Maps.size D) D from G2.out.own).store intKey Tryz.undGr (by unfold maxLen;omega) (keyOf_nat at_ (by omega)) VL
   have O3:Hid (W3.ownsMap Tryz.prog 3 grpElem m1 (Maps.size D+1) (D.put (.int .i64 (at_:Nat)) (grpD c.head? c.getLast?))):=hown
   have T3:Hid (Chg (fun k=>k=m1) W2 W3):=((Chg.refl _ W2).drew).trans (turned_chg hturn)
   clear hown hturn VL
   go_region
   all_goals go_wp2_with fail
   all_goals go_end0
   all_goals
    refine ⟨rfl,C2.out.trans (T3.out.mono fun k _ h=>Or.inr h),Or.inr ⟨by simp,?_,D.put (.int .i64 (at_:Nat)) (grpD c.head? c.getLast?),?_⟩⟩
   ·rw [NS.out]
    intro i x hx
    have h1:=S2.out i x hx
    rw [T3.out.block _ (heap_lt h1) (fun e=>by obtain ⟨es,ck,hm⟩:=G2.out.blk;rw [e,hm] at h1;cases h1)]
    exact h1
   ·have:=G2.out.put (v:=at_) hatl hc0 O3.out
    rw [List.append_nil]
    exact this
  | cons h0 t0 =>
   obtain ⟨l2,hl2⟩:∃ l2,(h0 :: t0).getLast?=some l2:=by rw [List.getLast?_eq_some_getLast (by simp)];exact ⟨_,rfl⟩
   have hne:g at_ ≠ []:=by rw [hga];simp
   have hh:Maps.has D (.int .i64 (at_:Nat))=true:=(HG.out.mem at_).2 hne
   have HV:Hid (∀ zd,D.atKey (.int .i64 (at_:Nat)) zd=grpD (some h0) (some l2)):=fun zd=>by rw [HG.out.val at_ hne zd,hga,hl2];rfl
   have VL:grpElem (.agg #[.pointer (some ⟨f,0,none⟩),.pointer (some ⟨l2,0,none⟩)])=some (grpD (c++h0 :: t0).head? (c++h0 :: t0).getLast?,[]):=by
    have e1:(c++h0 :: t0).head?=some f:=by cases c with
     | nil=>exact absurd rfl hc0
     | cons a c=>exact hf
    have e2:(c++h0 :: t0).getLast?=some l2:=by rw [List.getLast?_append,hl2];rfl
    rw [e1,e2]
    exact grpElem_mk (some f) (some l2)
   have LK:Hid (∀ W',Below W.heap.size W W'->∃ (sz:Nat) (bh:Option Nat),W'.heap[l]?=some (.cells #[.int .i64 sz,.bool false,.bool false,ptrP bh,ptrP none] 330 (0,0)) /\
     ∀ w',w'.heap[l]?=some (.cells #[.int .i64 sz,.bool false,.bool false,ptrP bh,ptrP (some h0)] 330 (0,0))->(∀ x ∈ ns,x.p ≠ l->w'.heap[x.p]?=W'.heap[x.p]?)->SeqIn w' (ns.map (linkX c.getLast? (some h0)))):=fun W' hb=>link_one HA.out HC.out hl (SW.out.below hb) (some h0)
   unfold ptrP at *
   simp only [Option.map_some] at *
   go_enter Tryz.func201,Tryz.ntmps201
   go_upto_region 1 with fail
   rw [<- HW.out]
   go_upto_region 5 with (at_lookup;refine wpList_lookup_own_ok _ rfl _ _ 268 rfl 3 280 intKey Tryz.undGr grpElem (zeroGr _) _ _ (grpElem_mk none none) m1 (Maps.size D) D rfl GW.out.own _ _ rfl (keyOf_nat at_ (by omega)) ?_;intro v ps hv;obtain ⟨ga,gb,rfl,hz⟩:=grpElem_inv hv;obtain ⟨rfl,rfl⟩:=grpD_inj ((HV.out _).symm.trans (congrArg Prod.fst hz));clear hv hz;rw [hh];unfold ptrP;simp only [Option.map_some])
   obtain ⟨W2,hW2⟩:∃ W2,W2=W.alloc (.cells #[.pointer (some ⟨h0,0,none⟩),.pointer (some ⟨l2,0,none⟩)] 280):=⟨_,rfl⟩
   rw [<- hW2]
   have b2:Below W.heap.size W W2:=by rw [hW2];exact below_alloc W _
   have i2:W2.cell? ⟨b,2,none⟩=some (.map (some m1)):=(b2.cell (p:=⟨b,2,none⟩) (cellLt j2)).trans j2
   have i0:W2.cell? ⟨w.heap.size,0,none⟩=some (.pointer (some ⟨f,0,none⟩)):=(b2.cell (p:=⟨w.heap.size,0,none⟩) (cellLt hg0)).trans hg0
   have i1:W2.cell? ⟨w.heap.size,1,none⟩=some (.pointer (some ⟨l,0,none⟩)):=(b2.cell (p:=⟨w.heap.size,1,none⟩) (cellLt hg1)).trans hg1
   have z0:W2.cell? ⟨W.heap.size,0,none⟩=some (.pointer (some ⟨h0,0,none⟩)):=by rw [hW2];exact cell_of_block (heap_alloc_new W _) 0 _ rfl
   have z1:W2.cell? ⟨W.heap.size,1,none⟩=some (.pointer (some ⟨l2,0,none⟩)):=by rw [hW2];exact cell_of_block (heap_alloc_new W _) 1 _ rfl
   obtain ⟨sz,bh,hlb,hlk⟩:=LK.out W2 b2
   have hl4:=cell_of_block hlb 4 _ rfl
   have hlf:=free_of_block hlb
   have G2:Hid (GD W2 m1 V.length D g):=HG.out.keep (KM.out _ (Chg.of_below b2))
   have S2:Hid (SeqIn W2 ns):=SW.out.below b2
   have C2:Hid (Chg (fun k=>(∃ x ∈ ns,x.p=k)\/k=m1) w W2):=CW.out.trans (Chg.of_below b2)
   have TG:Hid (∃ cs,W2.heap[w.heap.size]?=some (.cells cs 280 (0,0))):=by
    refine ⟨#[.pointer (some ⟨f,0,none⟩),.pointer (some ⟨l,0,none⟩)],?_⟩
    rw [b2.block _ (cellLt hg0),HW.out]
    exact heap_alloc_new w _
   have hneq:l ≠ w.heap.size:=by
    intro e
    obtain ⟨cs,hcs⟩:=TG.out
    rw [<- e,hlb] at hcs
    injection hcs with hcs
    injection hcs with _ h2
    cases h2
   have gfr:∀ o,W2.frozen? ⟨w.heap.size,o,none⟩=false:=by
    obtain ⟨cs,hcs⟩:=TG.out
    exact free_of_block hcs
   have hbl:b ≠ l:=by
    intro e
    have h1:=b2.block b (cellLt j2)
    rw [e,hlb,<- e,HW.out,(below_alloc w _).block b (heap_lt HB.out),HB.out] at h1
    injection h1 with h1
    injection h1 with _ h2
    cases h2
   have hbg:b ≠ w.heap.size:=Nat.ne_of_lt (heap_lt HB.out)
   obtain ⟨W4,hW4⟩:∃ W4,W4=(W2.setCell ⟨l,4,none⟩ (.pointer (some ⟨h0,0,none⟩))).setCell ⟨w.heap.size,1,none⟩ (.pointer (some ⟨l2,0,none⟩)):=⟨_,rfl⟩
   have HW4:Hid (W4=(W2.setCell ⟨l,4,none⟩ (.pointer (some ⟨h0,0,none⟩))).setCell ⟨w.heap.size,1,none⟩ (.pointer (some ⟨l2,0,none⟩))):=hW4
   have oth:∀ k,k ≠ l->k ≠ w.heap.size->W4.heap[k]?=W2.heap[k]?:=fun k h1 h2=>by rw [hW4,Below.heap_setCell _ _ _ _ h2,Below.heap_setCell _ _ _ _ h1]
   have lblk:W4.heap[l]?=some (.cells #[.int .i64 sz,.bool false,.bool false,.pointer (bh.map fun p=>⟨p,0,none⟩),.pointer (some ⟨h0,0,none⟩)] 330 (0,0)):=by
    rw [hW4,Below.heap_setCell _ _ _ _ hneq]
    exact (block_setCell hlb 4 _).trans rfl
   have S4:Hid (SeqIn W4 (ns.map (linkX c.getLast? (some h0)))):=hlk W4 lblk fun x hx hk=>oth x.p hk fun e=>by
    obtain ⟨cs,hcs⟩:=TG.out
    exact not_place S2.out hcs (by decide) ⟨x,hx,e⟩
   have hml:∃ es ck,W2.heap[m1]?=some (.map es ck):=G2.out.blk
   have M4:Hid (W4.heap[m1]?=W2.heap[m1]?):=oth m1 (fun e=>by obtain ⟨es,ck,hm⟩:=hml;rw [e,hlb] at hm;cases hm) (fun e=>by obtain ⟨es,ck,hm⟩:=hml;obtain ⟨cs,hcs⟩:=TG.out;rw [e,hcs] at hm;cases hm)
   have G4:Hid (GD W4 m1 V.length D g):=G2.out.keep M4.out
   have C4:Hid (Chg (fun k=>(∃ x ∈ ns,x.p=k)\/k=m1) w W4):=by
    obtain ⟨x,hxm,hxp,_⟩:=HC.out (c.length - 1) l (by rw [<- hl,List.getLast?_eq_getElem?])
    rw [hW4]
    exact (C2.out.setCell (q:=⟨l,4,none⟩) (Or.inr (Or.inl ⟨x,hxm,hxp⟩)) _).setCell (q:=⟨w.heap.size,1,none⟩) (Or.inl (Nat.le_refl _)) _
   have o2:W4.cell? ⟨b,2,none⟩=some (.map (some m1)):=by
    have e:=oth b hbl hbg
    unfold World.cell? at i2 ⊢
    rw [e]
    exact i2
   have o0:W4.cell? ⟨w.heap.size,0,none⟩=some (.pointer (some ⟨f,0,none⟩)):=by
    obtain ⟨cs,hcs⟩:=TG.out
    have e:(W2.setCell ⟨l,4,none⟩ (.pointer (some ⟨h0,0,none⟩))).heap[w.heap.size]?=some (.cells cs 280 (0,0)):=by rw [Below.heap_setCell _ _ _ _ (Ne.symm hneq)];exact hcs
    rw [hW4]
    refine cell_of_block (block_setCell e 1 _) 0 _ ?_
    have:W2.cell? ⟨w.heap.size,0,none⟩=cs[0]?:=by unfold World.cell?;rw [hcs];rfl
    rw [i0] at this
    rw [Array.getElem?_setIfInBounds,if_neg (by decide)]
    exact this.symm
   have o1:W4.cell? ⟨w.heap.size,1,none⟩=some (.pointer (some ⟨l2,0,none⟩)):=by
    obtain ⟨cs,hcs⟩:=TG.out
    have e:(W2.setCell ⟨l,4,none⟩ (.pointer (some ⟨h0,0,none⟩))).heap[w.heap.size]?=some (.cells cs 280 (0,0)):=by rw [Below.heap_setCell _ _ _ _ (Ne.symm hneq)];exact hcs
    have h1:W2.cell? ⟨w.heap.size,1,none⟩=cs[1]?:=by unfold World.cell?;rw [hcs];rfl
    rw [i1] at h1
    have hs:1<cs.size:=(Array.getElem?_eq_some_iff.1 h1.symm).1
    rw [hW4]
    refine cell_of_block (block_setCell e 1 _) 1 _ ?_
    rw [Array.getElem?_setIfInBounds,if_pos rfl,if_pos hs]
   clear hW2 b2 j0 j2 jv jc js hg0 hg1 SW CW GW LK hlb hlk hW4 oth lblk hml
   go_upto_region 8 with fail
   rw [<- HW4.out]
   clear i0 i1 i2 z0 z1 hl4 hlf gfr
   obtain ⟨W5,hrun,hown,hturn⟩:=(show W4.drew.ownsMap Tryz.prog 3 grpElem m1 (Maps.size D) D from G4.out.own).store intKey Tryz.undGr (by unfold maxLen;omega) (keyOf_nat at_ (by omega)) VL
   have O5:Hid (W5.ownsMap Tryz.prog 3 grpElem m1 (Maps.size D+1) (D.put (.int .i64 (at_:Nat)) (grpD (c++h0 :: t0).head? (c++h0 :: t0).getLast?))):=hown
   have T5:Hid (Chg (fun k=>k=m1) W4 W5):=((Chg.refl _ W4).drew).trans (turned_chg hturn)
   clear hown hturn VL
   go_region
   all_goals go_wp2_with fail
   all_goals go_end0
   all_goals
    refine ⟨rfl,C4.out.trans (T5.out.mono fun k _ h=>Or.inr h),Or.inr ⟨by simp,?_,D.put (.int .i64 (at_:Nat)) (grpD (c++h0 :: t0).head? (c++h0 :: t0).getLast?),G4.out.put (v:=at_) hatl (by simp) O5.out⟩⟩
   ·intro i x hx
    rw [hl] at S4
    have h1:=S4.out i x hx
    rw [T5.out.block _ (heap_lt h1) (fun e=>by obtain ⟨es,ck,hm⟩:=G4.out.blk;rw [e,hm] at h1;cases h1)]
    exact h1
def firstP (ns:List Nd):Option Nat:=ns.head?.map Nd.p
def lastP (ns:List Nd):Option Nat:=ns.getLast?.map Nd.p
theorem nextP_snoc_lt (ns:List Nd) (y:Nd) {i:Nat} (h:i+1<ns.length):nextP (ns++[y]) i=nextP ns i:=by
 unfold nextP
 rw [List.getElem?_append_left h]
theorem nextP_snoc_last (ns:List Nd) (y:Nd) {i:Nat} (h:i+1=ns.length):nextP (ns++[y]) i=some y.p:=by
 unfold nextP
 rw [List.getElem?_append_right (by omega),h,Nat.sub_self]
 rfl
theorem nextP_snoc_end (ns:List Nd) (y:Nd):nextP (ns++[y]) ns.length=none:=by
 unfold nextP
 rw [List.getElem?_eq_none (by simp)]
 rfl
theorem seq_snoc {w w':World} {ns:List Nd} {y:Nd} (hS:SeqIn w ns) (hA:Apart ns) (hy:w'.heap[y.p]?=some (.cells (plC y none) 330 (0,0)))
  (hl:∀ l,ns.getLast?=some l->w'.heap[l.p]?=some (.cells (plC l (some y.p)) 330 (0,0))) (ho:∀ x ∈ ns,some x.p ≠ lastP ns->w'.heap[x.p]?=w.heap[x.p]?):SeqIn w' (ns++[y]):=by
 intro i x hx
 rcases snoc_at hx with ⟨h1,h2⟩ | ⟨h1,rfl⟩
 ·have hi:=(List.getElem?_eq_some_iff.1 h1).1
  by_cases e:i+1=ns.length
  ·have hg:ns.getLast?=some x:=by rw [List.getLast?_eq_getElem?,show ns.length - 1=i from by omega];exact h1
   rw [nextP_snoc_last ns y e]
   exact hl x hg
  ·rw [nextP_snoc_lt ns y (by omega),ho x (List.mem_of_getElem? h1) ?_]
   ·exact hS i x h1
   ·intro h
    unfold lastP at h
    cases hg:ns.getLast? with
    | none=>rw [hg] at h;cases h
    | some l =>
     rw [hg] at h
     have hp:x.p=l.p:=Option.some.inj h
     rw [List.getLast?_eq_getElem?] at hg
     have:=hA i (ns.length - 1) x l h1 hg hp
     omega
 ·rw [h1,nextP_snoc_end]
  exact hy
set_option maxRecDepth 100000 in
set_option maxHeartbeats 2000000 in
theorem wadd_any (w:World) (b gO oO size:Nat) (hd bg:Value) (m1 m2:Nat) (la:Option Nat) (ns:List Nd)
  (hb:w.heap[b]?=some (.cells (WatC gO oO hd m1 m2 (ptrP (firstP ns)) (ptrP la) bg) 271 (0,0))) (hla:ns ≠ []->la=lastP ns) (hA:Apart ns) (hS:SeqIn w ns) :
  Calls Tryz.prog 202 #[.pointer (some ⟨b,0,none⟩),.int .i64 size] w fun r w'=>r=.returned (ptrP (some w.heap.size))/\SeqIn w' (ns++[⟨w.heap.size,size,none,none⟩])/\w'.heap[b]?=some (.cells (WatC gO oO hd m1 m2 (ptrP (firstP (ns++[⟨w.heap.size,size,none,none⟩]))) (ptrP (some w.heap.size)) bg) 271 (0,0))/\Chg (fun k=>(∃ x ∈ ns,x.p=k)\/k=b) w w':=by
 obtain ⟨W,hW⟩:∃ W,W=w.alloc (.cells #[.int .i64 size,.bool false,.bool false,.pointer none,.pointer none] 330):=⟨_,rfl⟩
 have HW:Hid (W=w.alloc (.cells #[.int .i64 size,.bool false,.bool false,.pointer none,.pointer none] 330)):=hW
 have bW:Below w.heap.size w W:=by rw [hW];exact below_alloc w _
 have hbW:=(bW.block b (heap_lt hb)).trans hb
 have hnew:W.heap[w.heap.size]?=some (.cells #[.int .i64 size,.bool false,.bool false,.pointer none,.pointer none] 330 (0,0)):=by rw [hW];exact heap_alloc_new w _
 have SW:Hid (SeqIn W ns):=hS.below bW
 have hbn:b ≠ w.heap.size:=Nat.ne_of_lt (heap_lt hb)
 have CW:Hid (Chg (fun k=>(∃ x ∈ ns,x.p=k)\/k=b) w W):=by rw [hW];exact (Chg.refl _ w).alloc _
 have c4:W.cell? ⟨b,4,none⟩=some (ptrP (firstP ns)):=cell_of_block hbW 4 _ rfl
 have c5:W.cell? ⟨b,5,none⟩=some (ptrP la):=cell_of_block hbW 5 _ rfl
 have fr:=free_of_block hbW
 have HBW:Hid (W.heap[b]?=some (.cells (WatC gO oO hd m1 m2 (ptrP (firstP ns)) (ptrP la) bg) 271 (0,0))):=hbW
 have HNEW:Hid (W.heap[w.heap.size]?=some (.cells #[.int .i64 size,.bool false,.bool false,.pointer none,.pointer none] 330 (0,0))):=hnew
 have HA:Hid (Apart ns):=hA
 have LO:Hid (∀ x ∈ ns,x.p<w.heap.size):=fun x hx=>by obtain ⟨i,hi⟩:=List.mem_iff_getElem?.1 hx;exact heap_lt (hS i x hi)
 clear hb hS hA hW bW hbW hnew
 cases hn:ns with
 | nil =>
  subst hn
  have e4:ptrP (firstP ([]:List Nd))=.pointer none:=rfl
  rw [e4] at c4
  obtain ⟨W2,hW2⟩:∃ W2,W2=(W.setCell ⟨b,4,none⟩ (.pointer (some ⟨w.heap.size,0,none⟩))).setCell ⟨b,5,none⟩ (.pointer (some ⟨w.heap.size,0,none⟩)):=⟨_,rfl⟩
  have HW2:Hid (W2=(W.setCell ⟨b,4,none⟩ (.pointer (some ⟨w.heap.size,0,none⟩))).setCell ⟨b,5,none⟩ (.pointer (some ⟨w.heap.size,0,none⟩))):=hW2
  have B2:Hid (W2.heap[b]?=some (.cells (WatC gO oO hd m1 m2 (ptrP (some w.heap.size)) (ptrP (some w.heap.size)) bg) 271 (0,0))):=by
   show _=_
   rw [hW2]
   exact (block_setCell ((block_setCell HBW.out 4 _).trans rfl) 5 _).trans rfl
  have N2:Hid (W2.heap[w.heap.size]?=some (.cells #[.int .i64 size,.bool false,.bool false,.pointer none,.pointer none] 330 (0,0))):=by
   show _=_
   rw [hW2,Below.heap_setCell _ _ _ _ (Ne.symm hbn),Below.heap_setCell _ _ _ _ (Ne.symm hbn)]
   exact HNEW.out
  have C2:Hid (Chg (fun k=>(∃ x ∈ ([]:List Nd),x.p=k)\/k=b) w W2):=by
   rw [hW2]
   exact (CW.out.setCell (q:=⟨b,4,none⟩) (Or.inr (Or.inr rfl)) _).setCell (q:=⟨b,5,none⟩) (Or.inr (Or.inr rfl)) _
  clear hW2
  unfold ptrP at c5
  go_enter Tryz.func202,Tryz.ntmps202
  go_upto_region 2 with fail
  rw [<- HW.out]
  go_wp2_with fail
  rw [<- HW2.out]
  go_ret
  refine ⟨rfl,?_,B2.out,C2.out⟩
  intro i x hx
  rcases i with _ | i
  ·simp at hx
   subst hx
   exact N2.out
  ·simp at hx
 | cons x0 ns0 =>
  obtain ⟨l,hl⟩:∃ l,ns.getLast?=some l:=by rw [List.getLast?_eq_some_getLast (by rw [hn];simp)];exact ⟨_,rfl⟩
  have hlaq:la=some l.p:=by rw [hla (by rw [hn];simp)];unfold lastP;rw [hl];rfl
  have e4:ptrP (firstP ns)=.pointer (some ⟨x0.p,0,none⟩):=by rw [hn];rfl
  have e4':ptrP (firstP (ns++[⟨w.heap.size,size,none,none⟩]))=.pointer (some ⟨x0.p,0,none⟩):=by rw [hn];rfl
  rw [<- hn,e4']
  rw [e4] at c4 HBW
  rw [hlaq] at c5 HBW
  have hlm:l ∈ ns:=List.mem_of_getLast? hl
  have hlb:W.heap[l.p]?=some (.cells (plC l none) 330 (0,0)):=by
   have h1:ns[ns.length - 1]?=some l:=by rw [<- hl,List.getLast?_eq_getElem?]
   have:=SW.out _ l h1
   rw [show nextP ns (ns.length - 1)=none from by unfold nextP;rw [List.getElem?_eq_none (by have:=(List.getElem?_eq_some_iff.1 h1).1;omega)];rfl] at this
   exact this
  have l3:W.cell? ⟨l.p,3,none⟩=some (ptrP none):=cell_of_block hlb 3 _ rfl
  have lf:=free_of_block hlb
  have hlneb:l.p ≠ b:=fun e=>not_place SW.out HBW.out (by decide) ⟨l,hlm,e⟩
  have hlnew:l.p ≠ w.heap.size:=by
   intro e
   have h1:l.p<w.heap.size:=LO.out l hlm
   omega
  obtain ⟨W2,hW2⟩:∃ W2,W2=(W.setCell ⟨l.p,3,none⟩ (.pointer (some ⟨w.heap.size,0,none⟩))).setCell ⟨b,5,none⟩ (.pointer (some ⟨w.heap.size,0,none⟩)):=⟨_,rfl⟩
  have HW2:Hid (W2=(W.setCell ⟨l.p,3,none⟩ (.pointer (some ⟨w.heap.size,0,none⟩))).setCell ⟨b,5,none⟩ (.pointer (some ⟨w.heap.size,0,none⟩))):=hW2
  have B2:Hid (W2.heap[b]?=some (.cells (WatC gO oO hd m1 m2 (.pointer (some ⟨x0.p,0,none⟩)) (ptrP (some w.heap.size)) bg) 271 (0,0))):=by
   show _=_
   rw [hW2]
   refine (block_setCell (cs:=WatC gO oO hd m1 m2 (.pointer (some ⟨x0.p,0,none⟩)) (ptrP (some l.p)) bg) ?_ 5 _).trans rfl
   rw [Below.heap_setCell _ _ _ _ (Ne.symm hlneb)]
   exact HBW.out
  have S2:Hid (SeqIn W2 (ns++[⟨w.heap.size,size,none,none⟩])):=by
   refine seq_snoc SW.out HA.out ?_ ?_ ?_
   ·show W2.heap[w.heap.size]?=_
    rw [hW2,Below.heap_setCell _ _ _ _ (Ne.symm hbn),Below.heap_setCell _ _ _ _ (Ne.symm hlnew)]
    exact HNEW.out
   ·intro l' hl'
    rw [hl] at hl'
    cases hl'
    rw [hW2,Below.heap_setCell _ _ _ _ hlneb]
    exact (block_setCell hlb 3 _).trans rfl
   ·intro x hx hne
    have h1:x.p ≠ l.p:=fun e=>hne (by unfold lastP;rw [hl,e];rfl)
    have h2:x.p ≠ b:=fun e=>not_place SW.out HBW.out (by decide) ⟨x,hx,e⟩
    rw [hW2,Below.heap_setCell _ _ _ _ h2,Below.heap_setCell _ _ _ _ h1]
  have C2:Hid (Chg (fun k=>(∃ x ∈ ns,x.p=k)\/k=b) w W2):=by
   rw [hW2]
   exact (CW.out.setCell (q:=⟨l.p,3,none⟩) (Or.inr (Or.inl ⟨l,hlm,rfl⟩)) _).setCell (q:=⟨b,5,none⟩) (Or.inr (Or.inr rfl)) _
  have hc5:(W.setCell ⟨l.p,3,none⟩ (.pointer (some ⟨w.heap.size,0,none⟩))).cell? ⟨b,5,none⟩=some (.pointer (some ⟨l.p,0,none⟩)):=by
   have e:=Below.heap_setCell W ⟨l.p,3,none⟩ (.pointer (some ⟨w.heap.size,0,none⟩)) b (Ne.symm hlneb)
   unfold World.cell? at c5 ⊢
   rw [e]
   exact c5
  clear hW2 hlb hn e4 e4'
  unfold ptrP at c5 l3
  simp only [Option.map_some,Option.map_none] at c5 l3
  go_enter Tryz.func202,Tryz.ntmps202
  go_upto_region 2 with fail
  rw [<- HW.out]
  go_wp2_with fail
  rw [<- HW2.out]
  go_ret
  exact ⟨rfl,S2.out,B2.out,C2.out⟩
structure Grps (ns:List Nd) (g:Nat->List Nat):Prop where
 ap:Apart ns
 ch:∀ v,ChainOk ns (g v)
 nd:∀ v,(g v).Nodup
 dis:∀ v v' p,p ∈ g v->p ∈ g v'->v=v'
 all:∀ x ∈ ns,x.st=none->∃ v,x.p ∈ g v
theorem ChainOk.mem {ns:List Nd} {c:List Nat} (h:ChainOk ns c) {p:Nat} (hp:p ∈ c):∃ x ∈ ns,x.p=p/\x.st=none:=by
 obtain ⟨i,hi⟩:=List.mem_iff_getElem?.1 hp
 obtain ⟨x,hx,h1,h2,_⟩:=h i p hi
 exact ⟨x,hx,h1,h2⟩
theorem Grps.open {ns:List Nd} {g:Nat->List Nat} (h:Grps ns g) {x:Nd} (hx:x ∈ ns) {v:Nat} (hp:x.p ∈ g v):x.st=none:=by
 obtain ⟨y,hy,e1,e2⟩:=(h.ch v).mem hp
 rw [h.ap.eq hx hy e1.symm]
 exact e2
theorem ChainOk.map {ns:List Nd} {c:List Nat} (h:ChainOk ns c) {f:Nd->Nd} (hs:∀ x ∈ ns,x.p ∈ c->f x=x):ChainOk (ns.map f) c:=by
 intro i p hp
 obtain ⟨x,hx,h1,h2,h3⟩:=h i p hp
 have e:=hs x hx (by rw [h1];exact List.mem_of_getElem? hp)
 exact ⟨x,List.mem_map.2 ⟨x,hx,e⟩,h1,h2,h3⟩
structure Moving (ns:List Nd) (g:Nat->List Nat) (nx:Nat->Nat) (cut stl:Nat->Bool) (lf:Nat->Bool) (f:Nd->Nd) (g2:Nat->List Nat):Prop where
 fp:∀ x,(f x).p=x.p
 fs:∀ x,(f x).size=x.size
 done:∀ x ∈ ns,∀ c,x.st=some c->(f x).st=some c
 left:∀ x ∈ ns,∀ v,x.p ∈ g v->lf v=true->f x=x
 gone:∀ x ∈ ns,∀ v,x.p ∈ g v->lf v=false->(f x).st=if stl (nx v) then some (cut (nx v)) else none
 ch:∀ v,ChainOk (ns.map f) (g2 v)
 nd:∀ v,(g2 v).Nodup
 mem:∀ v' p,p ∈ g2 v'↔∃ v,lf v=false/\p ∈ g v/\nx v=v'/\stl v'=false
theorem Moving.start {ns:List Nd} {g:Nat->List Nat} (nx:Nat->Nat) (cut stl:Nat->Bool) {lf:Nat->Bool} (hl:∀ v,lf v=true↔g v ≠ []):Moving ns g nx cut stl lf id (fun _=>[]):=by
 have hno:∀ v p,p ∈ g v->lf v=false->False:=fun v p hp h=>by
  have:lf v=true:=(hl v).2 (fun e=>by rw [e] at hp;simp at hp)
  rw [h] at this;cases this
 refine ⟨fun _=>rfl,fun _=>rfl,fun _ _ _ h=>h,fun _ _ _ _ _=>rfl,fun x hx v hp h=>(hno v _ hp h).elim,fun v i p hp=>by simp at hp,fun v=>by simp,fun v' p=>⟨fun h=>by simp at h,?_⟩⟩
 rintro ⟨v,h1,h2,_⟩
 exact (hno v p h2 h1).elim
theorem Moving.chain {ns:List Nd} {g:Nat->List Nat} {nx:Nat->Nat} {cut stl lf:Nat->Bool} {f:Nd->Nd} {g2:Nat->List Nat} (h:Moving ns g nx cut stl lf f g2) (hG:Grps ns g) {v:Nat} (hv:lf v=true):ChainOk (ns.map f) (g v) :=
 (hG.ch v).map fun x hx hp=>h.left x hx v hp hv
theorem Moving.apart2 {ns:List Nd} {g:Nat->List Nat} {nx:Nat->Nat} {cut stl lf:Nat->Bool} {f:Nd->Nd} {g2:Nat->List Nat} (h:Moving ns g nx cut stl lf f g2) (hG:Grps ns g) {v:Nat} (hv:lf v=true) {v' p:Nat} (hp:p ∈ g2 v'):¬ p ∈ g v:=by
 obtain ⟨v1,h1,h2,_⟩:=(h.mem v' p).1 hp
 intro h3
 have:=hG.dis v v1 p h3 h2
 rw [<- this,hv] at h1
 cases h1
theorem Moving.settled {ns:List Nd} {g:Nat->List Nat} {nx:Nat->Nat} {cut stl lf lf':Nat->Bool} {f:Nd->Nd} {g2:Nat->List Nat} (h:Moving ns g nx cut stl lf f g2) (hG:Grps ns g) {v:Nat} (hv:lf v=true) (hlf:∀ x,lf' x=(lf x && !decide (x=v))) (hst:stl (nx v)=true) :
  Moving ns g nx cut stl lf' (fun x=>settleX (g v) (cut (nx v)) (f x)) g2:=by
 have out:∀ x,¬ x.p ∈ g v->settleX (g v) (cut (nx v)) (f x)=f x:=fun x hx=>by unfold settleX;rw [if_neg (by rw [h.fp];exact hx)]
 have out2:∀ x,¬ x.p ∈ g v->settleX (g v) (cut (nx v)) x=x:=fun x hx=>by unfold settleX;rw [if_neg hx]
 refine ⟨fun x=>by rw [settleX_p];exact h.fp x,fun x=>by unfold settleX;split <;> exact h.fs x,fun x hx c hc=>?_,fun x hx v1 hp h1=>?_,fun x hx v1 hp h1=>?_,fun v1=>?_,h.nd,fun v' p=>?_⟩
 ·rw [out x (fun hp=>by rw [hG.open hx hp] at hc;cases hc)]
  exact h.done x hx c hc
 ·rw [hlf] at h1
  simp at h1
  have hne:¬ x.p ∈ g v:=fun h3=>h1.2 (hG.dis v1 v x.p hp h3)
  rw [out x hne]
  exact h.left x hx v1 hp h1.1
 ·by_cases e:v1=v
  ·subst e
   unfold settleX
   rw [if_pos (by rw [h.fp];exact hp),hst]
   rfl
  ·have hne:¬ x.p ∈ g v:=fun h3=>e (hG.dis v1 v x.p hp h3)
   rw [out x hne]
   refine h.gone x hx v1 hp ?_
   rw [hlf,show decide (v1=v)=false from by simpa using e] at h1
   simpa using h1
 ·have:=(h.ch v1).map (f:=settleX (g v) (cut (nx v))) fun x hx hp=>out2 x (h.apart2 hG hv hp)
  rw [List.map_map] at this
  exact this
 ·rw [h.mem v' p]
  constructor
  ·rintro ⟨v1,h1,h2⟩
   exact ⟨v1,by rw [hlf,h1];rfl,h2⟩
  ·rintro ⟨v1,h1,h2,h3,h4⟩
   refine ⟨v1,?_,h2,h3,h4⟩
   by_cases e:v1=v
   ·subst e
    rw [h3,h4] at hst
    cases hst
   ·rw [hlf,show decide (v1=v)=false from by simpa using e] at h1
    simpa using h1
theorem Moving.linked {ns:List Nd} {g:Nat->List Nat} {nx:Nat->Nat} {cut stl lf lf':Nat->Bool} {f:Nd->Nd} {g2:Nat->List Nat} (h:Moving ns g nx cut stl lf f g2) (hG:Grps ns g) {v:Nat} (hv:lf v=true) (hlf:∀ x,lf' x=(lf x && !decide (x=v))) (hst:stl (nx v)=false) :
  Moving ns g nx cut stl lf' (fun x=>linkX (g v).getLast? (g2 (nx v)).head? (f x)) (updG g2 (nx v) (g v++g2 (nx v))):=by
 have hlast:∀ p,some p=(g v).getLast?->p ∈ g v:=fun p hp=>List.mem_of_getLast? hp.symm
 have out:∀ x,¬ x.p ∈ g v->linkX (g v).getLast? (g2 (nx v)).head? (f x)=f x:=fun x hx=>by unfold linkX;rw [if_neg (fun e=>hx (by have:=hlast _ e;rw [h.fp] at this;exact this))]
 have out2:∀ x:Nd,¬ x.p ∈ g v->linkX (g v).getLast? (g2 (nx v)).head? x=x:=fun x hx=>by unfold linkX;rw [if_neg (fun e=>hx (hlast _ e))]
 have st2:∀ x:Nd,(linkX (g v).getLast? (g2 (nx v)).head? x).st=x.st:=fun x=>by unfold linkX;split <;> rfl
 have dj:∀ p,p ∈ g v->¬ p ∈ g2 (nx v):=fun p hp h2=>h.apart2 hG hv h2 hp
 refine ⟨fun x=>by rw [linkX_p];exact h.fp x,fun x=>by unfold linkX;split <;> exact h.fs x,fun x hx c hc=>by rw [st2];exact h.done x hx c hc,fun x hx v1 hp h1=>?_,fun x hx v1 hp h1=>?_,fun v1=>?_,fun v1=>?_,fun v' p=>?_⟩
 ·rw [hlf] at h1
  simp at h1
  have hne:¬ x.p ∈ g v:=fun h3=>h1.2 (hG.dis v1 v x.p hp h3)
  rw [out x hne]
  exact h.left x hx v1 hp h1.1
 ·rw [st2]
  by_cases e:v1=v
  ·subst e
   rw [hst,h.left x hx v1 hp hv]
   exact hG.open hx hp
  ·refine h.gone x hx v1 hp ?_
   rw [hlf,show decide (v1=v)=false from by simpa using e] at h1
   simpa using h1
 ·show ChainOk (ns.map ((linkX (g v).getLast? (g2 (nx v)).head?) ∘ f)) _
  rw [<- List.map_map]
  unfold updG
  by_cases e:v1=nx v
  ·rw [if_pos e]
   intro i p hp
   rcases Nat.lt_or_ge i (g v).length with hi | hi
   ·rw [List.getElem?_append_left hi] at hp
    obtain ⟨x,hx,e1,e2,e3⟩:=h.chain hG hv i p hp
    refine ⟨linkX (g v).getLast? (g2 (nx v)).head? x,List.mem_map.2 ⟨x,hx,rfl⟩,by rw [linkX_p];exact e1,by rw [st2];exact e2,?_⟩
    by_cases hl:i+1=(g v).length
    ·have hpl:some x.p=(g v).getLast?:=by rw [e1,<- hp,List.getLast?_eq_getElem?,show (g v).length - 1=i from by omega]
     unfold linkX
     rw [if_pos hpl,List.getElem?_append_right (by omega),hl,Nat.sub_self]
     cases g2 (nx v) <;> rfl
    ·have hpl:¬ some x.p=(g v).getLast?:=by
      rw [e1,<- hp,List.getLast?_eq_getElem?]
      intro he
      have h1:=List.getElem?_eq_getElem hi
      have h2:(g v)[(g v).length - 1]?=some ((g v)[(g v).length - 1]'(by omega)):=List.getElem?_eq_getElem (by omega)
      rw [h1,h2] at he
      exact (List.pairwise_iff_getElem.1 (hG.nd v)) i ((g v).length - 1) hi (by omega) (by omega) (Option.some.inj he)
     unfold linkX
     rw [if_neg hpl,List.getElem?_append_left (by omega)]
     exact e3
   ·rw [List.getElem?_append_right hi] at hp
    obtain ⟨x,hx,e1,e2,e3⟩:=h.ch (nx v) _ p hp
    have hnx:¬ x.p ∈ g v:=fun h3=>dj x.p h3 (by rw [e1];exact List.mem_of_getElem? hp)
    refine ⟨x,List.mem_map.2 ⟨x,hx,out2 x hnx⟩,e1,e2,?_⟩
    rw [List.getElem?_append_right (by omega),e3,show i+1 - (g v).length=i - (g v).length+1 from by omega]
  ·rw [if_neg e]
   exact (h.ch v1).map fun x hx hp=>out2 x (h.apart2 hG hv hp)
 ·unfold updG
  by_cases e:v1=nx v
  ·rw [if_pos e,List.nodup_append]
   exact ⟨hG.nd v,h.nd _,fun a ha b hb e'=>dj a ha (by rw [e'];exact hb)⟩
  ·rw [if_neg e]
   exact h.nd v1
 ·have key:(∃ v1,lf' v1=false/\p ∈ g v1/\nx v1=v'/\stl v'=false)↔(p ∈ g v/\nx v=v')\/p ∈ g2 v':=by
   rw [h.mem v' p]
   constructor
   ·rintro ⟨v1,h1,h2,h3,h4⟩
    by_cases e:v1=v
    ·subst e;exact Or.inl ⟨h2,h3⟩
    ·rw [hlf,show decide (v1=v)=false from by simpa using e] at h1
     exact Or.inr ⟨v1,by simpa using h1,h2,h3,h4⟩
   ·rintro (⟨h1,h2⟩ | ⟨v1,h1,h2⟩)
    ·exact ⟨v,by rw [hlf];simp,h1,h2,by rw [<- h2];exact hst⟩
    ·exact ⟨v1,by rw [hlf,h1];rfl,h2⟩
  rw [key]
  unfold updG
  by_cases e:v'=nx v
  ·rw [if_pos e,List.mem_append,<- e]
   constructor
   ·rintro (h1 | h1)
    ·exact Or.inl ⟨h1,rfl⟩
    ·exact Or.inr h1
   ·rintro (⟨h1,_⟩ | h1)
    ·exact Or.inl h1
    ·exact Or.inr h1
  ·rw [if_neg e]
   exact ⟨Or.inr,fun h=>h.elim (fun h1=>(e h1.2.symm).elim) id⟩
end Go.Proofs.YtodagkkjfipbgaaGreatDoor
