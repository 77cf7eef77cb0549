import Derived.Test.YtodagkkjfipbgaaGreatDoorT8toT9
namespace Go.Proofs.YtodagkkjfipbgaaGreatDoor
open Go.RowKit Go.Maps
theorem firstP_map {f:Nd->Nd} (hf:∀ x,(f x).p=x.p) (ns:List Nd):firstP (ns.map f)=firstP ns:=by
 cases ns with
 | nil=>rfl
 | cons a ns=>show some (f a).p=some a.p;rw [hf]
theorem lastP_map {f:Nd->Nd} (hf:∀ x,(f x).p=x.p) (ns:List Nd):lastP (ns.map f)=lastP ns:=by
 unfold lastP
 rw [List.getLast?_map,Option.map_map]
 congr 1
 funext x
 exact hf x
theorem gd_empty {w:World} {m N ck:Nat} (hm:w.heap[m]?=some (.map #[] ck)):GD w m N (.map []) (fun _=>[]):=by
 refine ⟨⟨#[],ck,hm,?_,by simp [Maps.size],rfl⟩,fun v=>by simp [Maps.has],fun kl h=>by simp [Maps.has] at h,fun v h=>absurd rfl h⟩
 exact ⟨by simp,⟨by simp,by simp,by simp⟩,by simp⟩
theorem WOk.keepS {w w':World} {b gO oO:Nat} {H:List Hd} {V:List Vw} {hd:Nat} {ns:List Nd} {g:Nat->List Nat} {bg m1 m2:Nat} (h:WOk w b gO oO H V hd ns g bg m1 m2) (hk:KeepS w w'):WOk w' b gO oO H V hd ns g bg m1 m2:=by
 obtain ⟨⟨la,h1,h2⟩,h3,h4,⟨D,h5⟩,⟨D2,h6⟩,h7,h8,h9⟩:=h
 obtain ⟨e1,e2,e3⟩:=h5.blk
 obtain ⟨f1,f2,f3⟩:=h6.blk
 exact ⟨⟨la,hk _ _ h1 (Or.inl ⟨_,_,_,rfl⟩),h2⟩,fun i x hx=>hk _ _ (h3 i x hx) (Or.inl ⟨_,_,_,rfl⟩),h4,⟨D,h5.keep ((hk _ _ e3 (Or.inr ⟨_,_,rfl⟩)).trans e3.symm)⟩,⟨D2,h6.keep ((hk _ _ f3 (Or.inr ⟨_,_,rfl⟩)).trans f3.symm)⟩,h7,h8.keepS hk,h9⟩
theorem WOk.setHead {w:World} {b gO oO:Nat} {H:List Hd} {V:List Vw} {hd:Nat} {ns:List Nd} {g:Nat->List Nat} {bg m1 m2:Nat} (h:WOk w b gO oO H V hd ns g bg m1 m2) (hd':Nat):WOk (w.setCell ⟨b,1,none⟩ (.int .i64 hd')) b gO oO H V hd' ns g bg m1 m2:=by
 obtain ⟨⟨la,h1,h2⟩,h3,h4,⟨D,h5⟩,⟨D2,h6⟩,h7,h8,h9⟩:=h
 obtain ⟨e1,e2,e3⟩:=h5.blk
 obtain ⟨f1,f2,f3⟩:=h6.blk
 have o:∀ j,j ≠ b->(w.setCell ⟨b,1,none⟩ (.int .i64 hd')).heap[j]?=w.heap[j]?:=fun j hj=>Below.heap_setCell _ _ _ _ hj
 refine ⟨⟨la,(block_setCell h1 1 _).trans rfl,h2⟩,fun i x hx=>?_,h4,⟨D,h5.keep (o _ (fun e=>by rw [e,h1] at e3;cases e3))⟩,⟨D2,h6.keep (o _ (fun e=>by rw [e,h1] at f3;cases f3))⟩,h7,h8.keep fun j cs t _ ht hh=>?_,h9⟩
 ·rw [o x.p (fun e=>not_place h3 h1 (by decide) ⟨x,List.mem_of_getElem? hx,e⟩)]
  exact h3 i x hx
 ·rw [o j (fun e=>by rw [e,h1] at hh;injection hh with hh;injection hh with _ h2;exact ht h2.symm)]
  exact hh
theorem LookH.kept {W w5:World} {gO oO:Nat} {H:List Hd} (hL:LookH W gO oO H) (hg:∃ cs,W.heap[gO]?=some (.cells cs 99 (0,0))) (hk:∀ (k:Nat) (cs:Array Value) (t:TypeId),t ≠ 330->t ≠ 271->W.heap[k]?=some (.cells cs t (0,0))->w5.heap[k]?=some (.cells cs t (0,0)))
  {q cap n o:Nat} {u:Value} (hq:W.cell? ⟨gO,oO+1,none⟩=some (.slice (some ⟨q,0,none⟩) n cap)) (hu:W.cell? ⟨q,o,none⟩=some u):w5.cell? ⟨gO,oO+1,none⟩=some (.slice (some ⟨q,0,none⟩) n cap)/\w5.cell? ⟨q,o,none⟩=some u:=by
 obtain ⟨⟨vH,h1,_,h2⟩,_,_⟩:=hL
 obtain ⟨cs,hcs⟩:=hg
 have hg5:=hk gO cs _ (by decide) (by decide) hcs
 refine ⟨?_,?_⟩
 ·unfold World.cell? at hq ⊢
  rw [hg5]
  rw [hcs] at hq
  exact hq
 ·rw [hq] at h1
  cases h1
  rcases h2 with ⟨hv,_⟩ | ⟨g,cap',cur,hv,_,hh,_⟩
  ·simp at hv
  ·simp at hv
   obtain ⟨⟨rfl,_⟩,_⟩:=hv
   have hq5:=hk q _ _ (by decide) (by decide) hh
   unfold World.cell? at hu ⊢
   rw [hq5]
   rw [hh] at hu
   exact hu
theorem WOk.stood {W w5:World} {b gO oO:Nat} {H:List Hd} {V:List Vw} {hd:Nat} {ns:List Nd} {f5:Nd->Nd} {g5:Nat->List Nat} {bg m1 m2:Nat} {la:Option Nat} {Dw D5:DataW Unit} {es:Array MapEntry} {ck:Nat} (hb:W.heap[b]?=some (.cells (WatC gO oO (.int .i64 hd) m1 m2 (ptrP (firstP ns)) (ptrP la) (.int .i64 bg)) 271 (0,0))) (hla:ns ≠ []->la=lastP ns) (hS:SeqIn W ns) (hF:GD W m2 V.length Dw (fun _=>[])) (hne:m1 ≠ m2) (hm:W.heap[m1]?=some (.map es ck)) (hL:Look W gO oO H V)
  (hc:Chg (fun k=>(∃ x ∈ ns,x.p=k)\/k=m1) W w5) (hfp:∀ x,(f5 x).p=x.p) (hs5:SeqIn w5 (ns.map f5)) (hg5:GD w5 m1 V.length D5 g5) (hGr:Grps (ns.map f5) g5) (hop:∀ v,g5 v ≠ []->stlV V v=false):WOk w5 b gO oO H V hd (ns.map f5) g5 bg m1 m2:=by
 have hk:∀ (k:Nat) (cs:Array Value) (t:TypeId),t ≠ 330->W.heap[k]?=some (.cells cs t (0,0))->w5.heap[k]?=some (.cells cs t (0,0)):=fun k cs t ht hh=>by
  rw [hc.block k (heap_lt hh) ?_]
  ·exact hh
  ·rintro (h1 | rfl)
   ·exact not_place hS hh ht h1
   ·rw [hm] at hh;cases hh
 refine ⟨⟨la,by rw [firstP_map hfp];exact hk _ _ _ (by decide) hb,fun h=>by rw [lastP_map hfp];exact hla (fun e=>h (by rw [e];rfl))⟩,hs5,hGr,⟨D5,hg5⟩,⟨Dw,hF.keep ?_⟩,hne,hL.keep fun k cs t h1 _ hh=>hk k cs t h1 hh,hop⟩
 obtain ⟨e1,e2,e3⟩:=hF.blk
 exact stood_other hS hc (Ne.symm hne) (heap_lt e3) (fun cs t m e=>by rw [e3] at e;cases e)
set_option maxRecDepth 100000 in
set_option maxHeartbeats 8000000 in
theorem wtake_any (w:World) (b gO oO:Nat) (H:List Hd) (V:List Vw) (hd:Nat) (ns:List Nd) (g:Nat->List Nat) (bg m1 m2 k size hd':Nat) (h1 h2:Hd) (hW:WOk w b gO oO H V hd ns g bg m1 m2) (hk:k<8) (hnx:∀ v,v<V.length->nxV V k v<V.length) (hh1:H[hd]?=some h1) (hn1:h1.2[k]?=some hd') (hh2:H[hd']?=some h2) (hs2:h2.1<V.length) :
  Calls Tryz.prog 166 #[.pointer (some ⟨b,0,none⟩),.int .u8 k,.int .i64 size] w fun r w'=>r=.returned (.tuple #[])/\∃ ns' g',WOk w' b gO oO H V hd' ns' g' bg m2 m1/\(∀ A,Abs ns g A->Abs ns' g' (A.map (mvA V k)++[stA V size h2.1]))/\(∀ S:Nat->Prop,(∀ k,S k->k<w.heap.size)->(∀ x ∈ ns,¬ S x.p)->∀ x ∈ ns',¬ S x.p)/\Chg (fun j=>(∃ x ∈ ns,x.p=j)\/j=m1\/j=m2\/j=b) w w':=by
 obtain ⟨⟨la,hb,hla⟩,hS,hGr,⟨D,hD⟩,⟨D2,hD2⟩,hne,hlk⟩:=hW
 obtain ⟨es1,ck1,hm1⟩:=hD.blk
 obtain ⟨es2,ck2,hm2⟩:=hD2.blk
 have hbm1:b ≠ m1:=fun e=>by rw [e,hm1] at hb;cases hb
 have hbm2:b ≠ m2:=fun e=>by rw [e,hm2] at hb;cases hb
 obtain ⟨W1,hW1⟩:∃ W1,W1=w.setCell ⟨b,2,none⟩ (.map (some m2)):=⟨_,rfl⟩
 have HW1:Hid (W1=w.setCell ⟨b,2,none⟩ (.map (some m2))):=hW1
 have o1:∀ j,j ≠ b->W1.heap[j]?=w.heap[j]?:=fun j hj=>by rw [hW1,Below.heap_setCell _ _ _ _ hj]
 have T1:Hid (TSt w W1 b gO oO H V hd (ptrP (firstP ns)) (ptrP la) (.int .i64 bg) m1 m2 ns id (fun _=>[])):=by
  refine ⟨?_,?_,⟨D2,hD2.keep (o1 m2 (Ne.symm hbm2))⟩,hlk.keep fun j cs t _ ht hh=>?_,?_⟩
  ·rw [hW1];exact (block_setCell hb 2 _).trans rfl
  ·rw [List.map_id]
   intro i x hx
   rw [o1 x.p (fun e=>not_place hS hb (by decide) ⟨x,List.mem_of_getElem? hx,e⟩)]
   exact hS i x hx
  ·rw [o1 j (fun e=>by rw [e,hb] at hh;injection hh with hh;injection hh with _ h2;exact ht h2.symm)]
   exact hh
  ·rw [hW1];exact (Chg.refl _ w).setCell (q:=⟨b,2,none⟩) (Or.inr (Or.inr (Or.inr (Or.inr rfl)))) _
 have D1:Hid (GD W1 m1 V.length D g):=hD.keep (o1 m1 (Ne.symm hbm1))
 have M0:Hid (Moving ns g (nxV V k) (cutV V) (stlV V) (fun v=>Maps.has D (.int .i64 (v:Nat))) id (fun _=>[])):=Moving.start _ _ _ fun v=>hD.mem v
 have HGr:Hid (Grps ns g):=hGr
 have c2:w.cell? ⟨b,2,none⟩=some (.map (some m1)):=cell_of_block hb 2 _ rfl
 have c3:w.cell? ⟨b,3,none⟩=some (.map (some m2)):=cell_of_block hb 3 _ rfl
 have fr:=free_of_block hb
 have HLA:Hid (ns ≠ []->la=lastP ns):=hla
 have hDs:=hD.size_le
 have hVf:=hlk.v.few
 have HV8:Hid (∀ v ∈ V,v.2.2.length=8):=hlk.v.wide
 have HNX:Hid (∀ v,v<V.length->nxV V k v<V.length):=hnx
 have HH:Hid (H[hd]?=some h1/\h1.2[k]?=some hd'/\H[hd']?=some h2/\h2.1<V.length):=⟨hh1,hn1,hh2,hs2⟩
 clear hb hla hS hGr hD hD2 hlk hm1 hm2 hW1 o1 hnx hh1 hn1 hh2 hs2
 go_enter Tryz.func166,Tryz.ntmps166
 go_upto_region 2 with fail
 rw [<- HW1.out]
 go_wp2_with (at_range;refine wpList_range_own _ rfl _ 268 rfl 3 280 intKey Tryz.undGr grpElem m1 (Maps.size D) D rfl D1.out.own ?_;intro w0 hrg0 hg0 hs0)
 go_frame
 obtain ⟨r0,hr0⟩:∃ r0,r0=W1.heap.size:=⟨_,rfl⟩
 rw [<- hr0] at hrg0 ⊢
 have b0:Below W1.heap.size W1 w0:=⟨hg0.os,hg0.tape,hg0.output,hg0.size,fun j hj=>hg0.block j hj (by simp)⟩
 have T0:Hid (TSt w w0 b gO oO H V hd (ptrP (firstP ns)) (ptrP la) (.int .i64 bg) m1 m2 ns id (fun _=>[])):=T1.out.below b0
 have R0:Hid (w0.ranges Tryz.prog 3 grpElem m1 r0 (Maps.size D) D (Maps.has D) (Maps.size D)):=hrg0
 have hr0w:w.heap.size<=r0:=by rw [hr0];exact T1.out.chg.size
 clear hrg0 hg0 hs0 b0 T1 c2 c3 fr hr0
 go_loopg [7] (Maps.size D) (fun gh _ wx=>∃ left f g2,Hid (wx.ranges Tryz.prog 3 grpElem m1 r0 (Maps.size D) D left gh)/\Hid (Moving ns g (nxV V k) (cutV V) (stlV V) (fun v=>left (.int .i64 (v:Nat))) f g2)/\Hid (TSt w wx b gO oO H V hd (ptrP (firstP ns)) (ptrP la) (.int .i64 bg) m1 m2 ns f g2))
 case atStart=>exact ⟨_,_,_,R0,M0,T0⟩
 case round =>
  obtain ⟨left,f,g2,hR,hM,hT⟩:=hrel
  obtain ⟨w1,hw1⟩:∃ w1,w1=wr:=⟨wr,rfl⟩
  subst hw1
  clear R0 M0 T0
  go_wp2_with (at_next;refine wpList_next_ranges _ rfl _ rfl 3 intKey grpElem (fun x:Int=>Value.int .i64 x) (fun c:Option Nat × Option Nat=>Value.agg #[ptrP c.1,ptrP c.2]) (fun key kl h=>by obtain ⟨x,e,_⟩:=Maps.keyOf_int_inv Tryz.undI h;exact ⟨x,e⟩) (fun v y h=>by obtain ⟨a,b,e,_⟩:=grpElem_inv h;exact ⟨(a,b),e⟩) m1 r0 (Maps.size D) D left gk rfl hR.out ?_ ?_)
  ·intro _ hl0
   have hall:∀ v:Nat,left (.int .i64 (v:Nat))=false:=fun v=>hl0 _
   have G2:Hid (Grps (ns.map f) g2):=hM.out.grps HGr.out hall
   have A2:Hid (∀ A,Abs ns g A->Abs (ns.map f) g2 (A.map (mvA V k))):=fun A hA=>hM.out.abs hall hA
   obtain ⟨_,es3,ck3,hm3⟩:=ranges_iter hR.out
   obtain ⟨W4,hrun4,hm4,hc4⟩:=clear_map hm3
   have hfp:∀ x,(f x).p=x.p:=hM.out.fp
   have hb1:=hT.out.blk
   have oth4:∀ (j:Nat) (o:Obj),w1.heap[j]?=some o->j ≠ m1->W4.heap[j]?=some o:=fun j o ho hj=>by rw [hc4.block j (heap_lt ho) hj];exact ho
   have hb4:=oth4 b _ hb1 hbm1
   have c4:W4.cell? ⟨b,3,none⟩=some (.map (some m2)):=cell_of_block hb4 3 _ rfl
   have fr4:=free_of_block hb4
   obtain ⟨W5,hW5⟩:∃ W5,W5=W4.setCell ⟨b,3,none⟩ (.map (some m1)):=⟨_,rfl⟩
   have HW5:Hid (W5=W4.setCell ⟨b,3,none⟩ (.map (some m1))):=hW5
   have oth5:∀ j,j ≠ b->W5.heap[j]?=W4.heap[j]?:=fun j hj=>by rw [hW5,Below.heap_setCell _ _ _ _ hj]
   have hb5:W5.heap[b]?=some (.cells (WatC gO oO (.int .i64 hd) m2 m1 (ptrP (firstP ns)) (ptrP la) (.int .i64 bg)) 271 (0,0)):=by rw [hW5];exact (block_setCell hb4 3 _).trans rfl
   obtain ⟨Dy,hDy⟩:=hT.out.gd
   have K5:Hid (WOk W5 b gO oO H V hd (ns.map f) g2 bg m2 m1):=by
    refine ⟨⟨la,by rw [firstP_map hfp];exact hb5,fun h=>by rw [lastP_map hfp];exact HLA.out (fun e=>h (by rw [e];rfl))⟩,fun i x hx=>?_,G2.out,⟨Dy,hDy.keep ?_⟩,⟨_,gd_empty (ck:=ck3) ?_⟩,Ne.symm hne,hT.out.lk.keep fun j cs t _ ht hh=>?_,fun v hv=>hM.out.open v hv⟩
    ·have h3:=hT.out.seq i x hx
     rw [oth5 x.p (fun e=>not_place hT.out.seq hb1 (by decide) ⟨x,List.mem_of_getElem? hx,e⟩)]
     exact oth4 _ _ h3 (fun e=>by rw [e,hm3] at h3;cases h3)
    ·obtain ⟨e1,e2,e3⟩:=hDy.blk
     rw [oth5 m2 (Ne.symm hbm2),e3]
     exact oth4 _ _ e3 (Ne.symm hne)
    ·rw [oth5 m1 (Ne.symm hbm1)]
     exact hm4
    ·rw [oth5 j (fun e=>by rw [e,hb1] at hh;injection hh with hh;injection hh with _ h2;exact ht h2.symm)]
     exact oth4 _ _ hh (fun e=>by rw [e,hm3] at hh;cases hh)
   have C5:Hid (Chg (fun j=>(∃ x ∈ ns,x.p=j)\/j=m1\/j=m2\/j=b) w W5):=by
    rw [hW5]
    exact (hT.out.chg.trans (hc4.mono fun j _ e=>Or.inr (Or.inl e))).setCell (q:=⟨b,3,none⟩) (Or.inr (Or.inr (Or.inr (Or.inr rfl)))) _
   clear hm4 hc4 hb1 oth4 hb4 hW5 oth5 hb5 hDy hR hM hT hm3 hl0 hall
   go_upto_region 8 with fail
   rw [<- HW5.out]
   clear c4 fr4 hrun4
   have c0:W5.cell? ⟨b,0,none⟩=some (.pointer (some ⟨gO,oO,none⟩)):=by obtain ⟨la',h,_⟩:=K5.out.blk;exact cell_of_block h 0 _ rfl
   have c1:W5.cell? ⟨b,1,none⟩=some (.int .i64 hd):=by obtain ⟨la',h,_⟩:=K5.out.blk;exact cell_of_block h 1 _ rfl
   have fr5:∀ o,W5.frozen? ⟨b,o,none⟩=false:=by obtain ⟨la',h,_⟩:=K5.out.blk;exact free_of_block h
   obtain ⟨qh,ch,y0,_,y2⟩:=K5.out.lk.h.at HH.out.1
   have y3:=y2 k hd' HH.out.2.1
   have hHl:=(List.getElem?_eq_some_iff.1 HH.out.1).1
   have hHf:=K5.out.lk.h.few
   obtain ⟨W6,hW6⟩:∃ W6,W6=(W5.setCell ⟨b,1,none⟩ (.int .i64 hd')).drew:=⟨_,rfl⟩
   have HW6:Hid (W6=(W5.setCell ⟨b,1,none⟩ (.int .i64 hd')).drew):=hW6
   have K6:Hid (WOk W6 b gO oO H V hd' (ns.map f) g2 bg m2 m1):=by rw [hW6];exact (K5.out.setHead hd').keepS (KeepS.below ((Below.refl _ _).drew))
   have C6:Hid (Chg (fun j=>(∃ x ∈ ns,x.p=j)\/j=m1\/j=m2\/j=b) w W6):=by rw [hW6];exact (C5.out.setCell (q:=⟨b,1,none⟩) (Or.inr (Or.inr (Or.inr (Or.inr rfl)))) _).drew
   clear y2 hW6
   go_region
   rw [<- HW6.out]
   obtain ⟨la6,hb6,hla6⟩:=K6.out.blk
   have S6:=K6.out.seq
   have hadd:=wadd_any W6 b gO oO size (.int .i64 hd') (.int .i64 bg) m2 m1 la6 (ns.map f) hb6 hla6 K6.out.gr.ap S6
   have HB6:Hid (W6.heap[b]?=some (.cells (WatC gO oO (.int .i64 hd') m2 m1 (ptrP (firstP (ns.map f))) (ptrP la6) (.int .i64 bg)) 271 (0,0))):=hb6
   clear c0 c1 fr5 y0 y3 hb6 hla6 S6 K5 C5
   go_wp2_with fail
   refine hadd.mono ?_
   rintro r W7 ⟨rfl,hS7,hb7,hc7⟩
   obtain ⟨p0,hp0⟩:∃ p0,p0=W6.heap.size:=⟨_,rfl⟩
   rw [<- hp0] at hS7 hb7 ⊢
   obtain ⟨Dz,hDz⟩:=K6.out.gd
   obtain ⟨Dw,hDw⟩:=K6.out.sp
   have oth7:∀ (j:Nat) (o:Obj),W6.heap[j]?=some o->j ≠ b->(∀ cs m,o ≠ .cells cs 330 m)->W7.heap[j]?=some o:=fun j o ho hj hno=>by
    rw [hc7.block j (heap_lt ho) ?_]
    ·exact ho
    ·rintro (⟨x,hx,e⟩ | e)
     ·obtain ⟨i,hi⟩:=List.mem_iff_getElem?.1 hx
      have h3:=K6.out.seq i x hi
      rw [e,ho] at h3
      exact hno _ _ (Option.some.inj h3)
     ·exact hj e
   have hG7:GD W7 m2 V.length Dz g2:=hDz.keep (by obtain ⟨e1,e2,e3⟩:=hDz.blk;rw [e3];exact oth7 _ _ e3 (Ne.symm hbm2) (fun _ _ e=>by cases e))
   have hF7:GD W7 m1 V.length Dw (fun _=>[]):=hDw.keep (by obtain ⟨e1,e2,e3⟩:=hDw.blk;rw [e3];exact oth7 _ _ e3 (Ne.symm hbm1) (fun _ _ e=>by cases e))
   have hL7:Look W7 gO oO H V:=K6.out.lk.keep fun j cs t ht1 ht hh=>oth7 j _ hh (fun e=>by rw [e,HB6.out] at hh;injection hh with hh;injection hh with _ h2;exact ht h2.symm) (fun _ _ e=>by injection e with _ e2;exact ht1 e2)
   have hlow:∀ x ∈ ns.map f,x.p<p0:=fun x hx=>by obtain ⟨i,hi⟩:=List.mem_iff_getElem?.1 hx;rw [hp0];exact heap_lt (K6.out.seq i x hi)
   have hNN:g2 V.length=[]:=hDz.none (Nat.le_refl _)
   obtain ⟨hGn,hMn⟩:=moving_new (size:=size) (at_:=h2.1) (cut:=cutV V) (stl:=stlV V) K6.out.gr hlow hNN K6.out.op
   obtain ⟨vw2,hvw2⟩:∃ vw2,V[h2.1]?=some vw2:=⟨V[h2.1]'HH.out.2.2.2,List.getElem?_eq_getElem _⟩
   have hcut2:cutV V h2.1=vw2.1:=by unfold cutV;rw [hvw2];rfl
   have hstl2:stlV V h2.1=vw2.2.1:=by unfold stlV;rw [hvw2];rfl
   have C7:Hid (Chg (fun j=>(∃ x ∈ ns,x.p=j)\/j=m1\/j=m2\/j=b) w W7):=C6.out.trans (hc7.mono fun j _ e=>e.elim (fun h=>Or.inl ((map_p hfp).1 h)) (fun h=>Or.inr (Or.inr (Or.inr h))))
   have hupd:updG g2 V.length [p0] V.length=[p0]:=by unfold updG;rw [if_pos rfl]
   have hpw:w.heap.size<=p0:=by rw [hp0];exact C6.out.size
   have lastN:(ns.map f++[(⟨p0,size,none,none⟩:Nd)]) ≠ []->some p0=lastP (ns.map f++[⟨p0,size,none,none⟩]):=fun _=>by unfold lastP;rw [List.getLast?_append];rfl
   have d0:W7.cell? ⟨b,0,none⟩=some (.pointer (some ⟨gO,oO,none⟩)):=cell_of_block hb7 0 _ rfl
   have d1:W7.cell? ⟨b,1,none⟩=some (.int .i64 hd'):=cell_of_block hb7 1 _ rfl
   obtain ⟨qh2,ch2,x0,x1,_⟩:=hL7.h.at HH.out.2.2.1
   have hHl2:=(List.getElem?_eq_some_iff.1 HH.out.2.2.1).1
   have CS:Hid (∀ W',Below W7.heap.size W7 W'->Calls Tryz.prog 201 #[.pointer (some ⟨b,0,none⟩),.agg #[.pointer (some ⟨p0,0,none⟩),.pointer (some ⟨p0,0,none⟩)],.int .i64 (h2.1:Nat)] W' fun r w'=>r=.returned (.tuple #[])/\∃ ns' g',WOk w' b gO oO H V hd' ns' g' bg m2 m1/\(∀ A,Abs ns g A->Abs ns' g' (A.map (mvA V k)++[stA V size h2.1]))/\(∀ S:Nat->Prop,(∀ k,S k->k<w.heap.size)->(∀ x ∈ ns,¬ S x.p)->∀ x ∈ ns',¬ S x.p)/\Chg (fun j=>(∃ x ∈ ns,x.p=j)\/j=m1\/j=m2\/j=b) w w'/\(w'.cell? ⟨b,0,none⟩=some (.pointer (some ⟨gO,oO,none⟩))/\w'.cell? ⟨b,1,none⟩=some (.int .i64 hd')/\w'.cell? ⟨gO,oO+1,none⟩=some (.slice (some ⟨qh2,0,none⟩) H.length ch2)/\w'.cell? ⟨qh2,hd' * 9,none⟩=some (.int .i64 (h2.1:Nat)))):=fun W' hb=>by
    have hGW:=hG7.keep (w':=W') (by obtain ⟨e1,e2,e3⟩:=hG7.blk;exact hb.block _ (heap_lt e3))
    have hFW:=hF7.keep (w':=W') (by obtain ⟨e1,e2,e3⟩:=hF7.blk;exact hb.block _ (heap_lt e3))
    have hLW:=hL7.keepS (KeepS.below hb)
    have hSW:=hS7.below hb
    have hbW:=(hb.block b (heap_lt hb7)).trans hb7
    obtain ⟨f1,f2,hmW⟩:=hGW.blk
    have hch:ChainOk (ns.map f++[⟨p0,size,none,none⟩]) [p0]:=by have:=hGn.ch V.length;rw [hupd] at this;exact this
    refine (wstand_any W' b gO oO h2.1 V vw2 (.int .i64 hd') _ _ _ m2 m1 (ns.map f++[⟨p0,size,none,none⟩]) [p0] Dz g2 hbW hLW.v hvw2 hGW hGn.ap hSW (by simp) (by simp) hch).mono ?_
    rintro r w5 ⟨rfl,hc5,h5⟩
    have CC:Chg (fun j=>(∃ x ∈ ns,x.p=j)\/j=m1\/j=m2\/j=b) w w5:=by
     refine ⟨hc5.os.trans (hb.os.trans C7.out.os),hc5.tape.trans (hb.tape.trans C7.out.tape),hc5.output.trans (hb.output.trans C7.out.output),Nat.le_trans C7.out.size (Nat.le_trans hb.size hc5.size),fun j hj hno=>?_⟩
     have hj7:j<W7.heap.size:=Nat.lt_of_lt_of_le hj C7.out.size
     rw [hc5.block j (Nat.lt_of_lt_of_le hj7 hb.size) ?_,hb.block j hj7]
     ·exact C7.out.block j hj hno
     ·rintro (⟨x,hx,e⟩ | e)
      ·rcases List.mem_append.1 hx with h | h
       ·exact hno (Or.inl ((map_p hfp).1 ⟨x,h,e⟩))
       ·simp at h
        subst h
        simp only at e
        omega
      ·exact hno (Or.inr (Or.inr (Or.inl e)))
    have hkk:∀ (k:Nat) (cs:Array Value) (t:TypeId),t ≠ 330->W7.heap[k]?=some (.cells cs t (0,0))->w5.heap[k]?=some (.cells cs t (0,0)):=fun j cs t ht hh=>by
     have hW:=(hb.block j (heap_lt hh)).trans hh
     rw [hc5.block j (heap_lt hW) ?_]
     ·exact hW
     ·rintro (h1 | rfl)
      ·exact not_place hSW hW ht h1
      ·rw [hmW] at hW;cases hW
    have hb9:=hkk b _ _ (by decide) hb7
    have XX:=hL7.h.kept hL7.blk (w5:=w5) (fun j cs t h1 _ hh=>hkk j cs t h1 hh) x0 x1
    have XY:w5.cell? ⟨b,0,none⟩=some (.pointer (some ⟨gO,oO,none⟩))/\w5.cell? ⟨b,1,none⟩=some (.int .i64 hd')/\w5.cell? ⟨gO,oO+1,none⟩=some (.slice (some ⟨qh2,0,none⟩) H.length ch2)/\w5.cell? ⟨qh2,hd' * 9,none⟩=some (.int .i64 (h2.1:Nat)):=⟨cell_of_block hb9 0 _ rfl,cell_of_block hb9 1 _ rfl,XX.1,XX.2⟩
    have hlf:∀ x:Nat,(fun _:Nat=>false) x=(decide (x=V.length) && !decide (x=V.length)):=fun x=>by cases decide (x=V.length) <;> rfl
    have hAB:∀ A1,Abs (ns.map f) g2 A1->(A1++[(size,(.inl V.length:Nat ⊕ Bool))]).map (mvG (fun v=>if v=V.length then h2.1 else v) (cutV V) (stlV V))=A1++[stA V size h2.1]:=fun A1 h=>by
     rw [List.map_append,mv_same hNN K6.out.op h]
     congr 1
     unfold stA mvG
     simp
    have LOW:∀ f5:Nd->Nd,(∀ x,(f5 x).p=x.p)->∀ S:Nat->Prop,(∀ k,S k->k<w.heap.size)->(∀ x ∈ ns,¬ S x.p)->∀ x ∈ (ns.map f++[(⟨p0,size,none,none⟩:Nd)]).map f5,¬ S x.p:=fun f5 h5p S hB hx x hxm=>by
     obtain ⟨y,hy,rfl⟩:=List.mem_map.1 hxm
     rw [h5p]
     rcases List.mem_append.1 hy with h | h
     ·obtain ⟨z,hz,rfl⟩:=List.mem_map.1 h
      rw [hfp]
      exact hx z hz
     ·simp at h
      subst h
      exact fun hs9=>absurd (hB _ hs9) (Nat.not_lt.2 hpw)
    rcases h5 with ⟨hs,hseq,hgd⟩ | ⟨hs,hseq,D5,hgd⟩
    ·have hM5:=hMn.settled hGn (v:=V.length) (lf':=fun _=>false) (by simp) hlf (by rw [if_pos rfl,hstl2];exact hs)
     have e1:(fun x=>settleX (updG g2 V.length [p0] V.length) (cutV V ((fun v=>if v=V.length then h2.1 else v) V.length)) (id x))=settleX [p0] vw2.1:=by funext x;rw [hupd];simp [hcut2]
     rw [e1] at hM5
     refine ⟨rfl,_,_,WOk.stood hbW lastN hSW hFW (Ne.symm hne) hmW hLW hc5 (settleX_p _ _) hseq hgd (hM5.grps hGn fun _=>rfl) hM5.open,fun A hA=>?_,LOW _ hM5.fp,CC,XY⟩
     have h9:=hM5.abs (fun _=>rfl) (abs_new (size:=size) (p:=p0) hNN (A2.out A hA))
     rw [hAB _ (A2.out A hA)] at h9
     exact h9
    ·have hM5:=hMn.linked hGn (v:=V.length) (lf':=fun _=>false) (by simp) hlf (by rw [if_pos rfl,hstl2];exact hs)
     have e1:(fun x=>linkX (updG g2 V.length [p0] V.length).getLast? (g2 ((fun v=>if v=V.length then h2.1 else v) V.length)).head? (id x))=linkX [p0].getLast? (g2 h2.1).head?:=by funext x;rw [hupd];simp
     have e2:updG g2 ((fun v=>if v=V.length then h2.1 else v) V.length) (updG g2 V.length [p0] V.length++g2 ((fun v=>if v=V.length then h2.1 else v) V.length))=updG g2 h2.1 ([p0]++g2 h2.1):=by rw [hupd];simp
     rw [e1,e2] at hM5
     refine ⟨rfl,_,_,WOk.stood hbW lastN hSW hFW (Ne.symm hne) hmW hLW hc5 (linkX_p _ _) hseq hgd (hM5.grps hGn fun _=>rfl) hM5.open,fun A hA=>?_,LOW _ hM5.fp,CC,XY⟩
     have h9:=hM5.abs (fun _=>rfl) (abs_new (size:=size) (p:=p0) hNN (A2.out A hA))
     rw [hAB _ (A2.out A hA)] at h9
     exact h9
   clear hadd hS7 hb7 hc7 hDz hDw oth7 hG7 hF7 hL7 hlow hNN hGn hMn hupd K6 C6 HB6 hp0
   unfold ptrP
   simp only [Option.map_some]
   go_wp2_with fail
   have HD7:Hid ((W7.drew.cell? ⟨b,0,none⟩=some (.pointer (some ⟨gO,oO,none⟩))/\W7.drew.cell? ⟨b,1,none⟩=some (.int .i64 hd')/\W7.drew.cell? ⟨gO,oO+1,none⟩=some (.slice (some ⟨qh2,0,none⟩) H.length ch2)/\W7.drew.cell? ⟨qh2,hd' * 9,none⟩=some (.int .i64 (h2.1:Nat)))):=⟨d0,d1,x0,x1⟩
   clear HV8 HNX A2 HGr HLA D1 HW1 HW5 HW6 C7 hcut2 hstl2 hpw lastN hvw2 G2
   go_region_held3 (fun w'=>(w'.cell? ⟨b,0,none⟩=some (.pointer (some ⟨gO,oO,none⟩))/\w'.cell? ⟨b,1,none⟩=some (.int .i64 hd')/\w'.cell? ⟨gO,oO+1,none⟩=some (.slice (some ⟨qh2,0,none⟩) H.length ch2)/\w'.cell? ⟨qh2,hd' * 9,none⟩=some (.int .i64 (h2.1:Nat))))
    (first | exact HH8.out | exact HD7.out)
    (first
     | (go_at_call 201
        refine (CS.out _ ((Below.refl _ _).drew)).mono ?_
        rintro e W8 ⟨rfl,ns8,g8,hk8,ha8,hlo8,hc8,hx8⟩
        have K8:Hid (WOk W8 b gO oO H V hd' ns8 g8 bg m2 m1):=hk8
        have A8:Hid (∀ A,Abs ns g A->Abs ns8 g8 (A.map (mvA V k)++[stA V size h2.1])):=ha8
        have L8:Hid (∀ S:Nat->Prop,(∀ k,S k->k<w.heap.size)->(∀ x ∈ ns,¬ S x.p)->∀ x ∈ ns8,¬ S x.p):=hlo8
        have C8:Hid (Chg (fun j=>(∃ x ∈ ns,x.p=j)\/j=m1\/j=m2\/j=b) w W8):=hc8
        have HH8:Hid ((W8.cell? ⟨b,0,none⟩=some (.pointer (some ⟨gO,oO,none⟩))/\W8.cell? ⟨b,1,none⟩=some (.int .i64 hd')/\W8.cell? ⟨gO,oO+1,none⟩=some (.slice (some ⟨qh2,0,none⟩) H.length ch2)/\W8.cell? ⟨qh2,hd' * 9,none⟩=some (.int .i64 (h2.1:Nat)))):=hx8
        clear hk8 ha8 hlo8 hc8 hx8))
   all_goals go_wp2_with fail
   all_goals go_end0
   all_goals exact ⟨rfl,ns8,g8,K8.out,A8.out,L8.out,C8.out⟩
  ·intro x ca cb kl y1 y2 w2 cnt2 hkey hlx hv hat hrg2 hlt hg2 hs2 hen
   obtain ⟨x',ex,hkl,hwx⟩:=Maps.keyOf_int_inv Tryz.undI hkey
   subst hkl
   have hhas:=Maps.has_true_of_atKey hat
   obtain ⟨v,hvN,ev⟩:=D1.out.key _ hhas
   injection ev with _ ev
   subst ev
   injection ex with _ ex
   subst ex
   have hgne:=(D1.out.mem v).1 hhas
   rw [grpElem_mk] at hv
   obtain ⟨e1,e2⟩:=grpD_inj ((D1.out.val v hgne (.agg [])).symm.trans ((hat (.agg [])).trans (congrArg Prod.fst (Option.some.inj hv)).symm))
   subst e1
   subst e2
   obtain ⟨vx,hvx⟩:∃ vx,V[v]?=some vx:=⟨V[v],List.getElem?_eq_getElem hvN⟩
   have hl8:=HV8.out vx (List.mem_of_getElem? hvx)
   obtain ⟨n,hn⟩:∃ n,vx.2.2[k]?=some n:=⟨vx.2.2[k]'(by omega),List.getElem?_eq_getElem _⟩
   have hnn:nxV V k v=n:=by unfold nxV;rw [hvx];simp [hn]
   have hnl:n<V.length:=by rw [<- hnn];exact HNX.out v hvN
   obtain ⟨vw,hvw⟩:∃ vw,V[n]?=some vw:=⟨V[n],List.getElem?_eq_getElem hnl⟩
   have hcut:cutV V n=vw.1:=by unfold cutV;rw [hvw];rfl
   have hstl:stlV V n=vw.2.1:=by unfold stlV;rw [hvw];rfl
   have hit:=ranges_iter hR.out
   have k12:KeepS w1 w2:=fun j o ho hso=>by
    by_cases e:j=r0
    ·obtain ⟨⟨a1,a2,a3,a4,hi⟩,_⟩:=hit
     rw [e,hi] at ho
     cases ho
     rcases hso with ⟨_,_,_,e⟩ | ⟨_,_,e⟩ <;> cases e
    ·rw [hg2.block j (heap_lt ho) (fun e'=>e (Option.some.inj e'))]
     exact ho
   have T2:Hid (TSt w w2 b gO oO H V hd (ptrP (firstP ns)) (ptrP la) (.int .i64 bg) m1 m2 ns f g2):=hT.out.keep k12 (hT.out.chg.grown hg2 (fun j e=>Or.inl (by rw [<- Option.some.inj e];exact hr0w)))
   have R2:Hid (w2.ranges Tryz.prog 3 grpElem m1 r0 (Maps.size D) D (fun z=>left z && !z.sameKey (.int .i64 (v:Int))) cnt2):=hrg2
   obtain ⟨W3,hW3⟩:∃ W3,W3=w2.alloc (.cells #[ptrP (g v).head?,ptrP (g v).getLast?] 280):=⟨_,rfl⟩
   have HW3:Hid (W3=w2.alloc (.cells #[ptrP (g v).head?,ptrP (g v).getLast?] 280)):=hW3
   have b3:Below w2.heap.size w2 W3:=by rw [hW3];exact below_alloc w2 _
   have T3:Hid (TSt w W3 b gO oO H V hd (ptrP (firstP ns)) (ptrP la) (.int .i64 bg) m1 m2 ns f g2):=T2.out.below b3
   have R3:Hid (W3.ranges Tryz.prog 3 grpElem m1 r0 (Maps.size D) D (fun z=>left z && !z.sameKey (.int .i64 (v:Int))) cnt2):=by rw [hW3];exact R2.out.alloc _
   have q0:W3.cell? ⟨w2.heap.size,0,none⟩=some (ptrP (g v).head?):=by rw [hW3];exact cell_of_block (heap_alloc_new w2 _) 0 _ rfl
   have q1:W3.cell? ⟨w2.heap.size,1,none⟩=some (ptrP (g v).getLast?):=by rw [hW3];exact cell_of_block (heap_alloc_new w2 _) 1 _ rfl
   have q2:W3.cell? ⟨b,0,none⟩=some (.pointer (some ⟨gO,oO,none⟩)):=cell_of_block T3.out.blk 0 _ rfl
   obtain ⟨qv,cv,z0,_,_,z3⟩:=T3.out.lk.v.at hvx
   have z4:=z3 k n hn
   obtain ⟨Dx,hDx⟩:=T3.out.gd
   have CS:Hid (∀ W',Below W3.heap.size W3 W'->Calls Tryz.prog 201 #[.pointer (some ⟨b,0,none⟩),.agg #[ptrP (g v).head?,ptrP (g v).getLast?],.int .i64 n] W' fun r w'=>r=.returned (.tuple #[])/\∃ f' g2',Moving ns g (nxV V k) (cutV V) (stlV V) (fun x=>left (.int .i64 (x:Nat)) && !(Lit.int .i64 (x:Int)).sameKey (.int .i64 (v:Int))) f' g2'/\TSt w w' b gO oO H V hd (ptrP (firstP ns)) (ptrP la) (.int .i64 bg) m1 m2 ns f' g2'/\w'.ranges Tryz.prog 3 grpElem m1 r0 (Maps.size D) D (fun z=>left z && !z.sameKey (.int .i64 (v:Int))) cnt2):=fun W' hb=>by
    have TT:=T3.out.below hb
    have hch:=hM.out.chain HGr.out hlx
    have hap:Apart (ns.map f):=HGr.out.ap.map hM.out.fp
    have RR:W'.ranges Tryz.prog 3 grpElem m1 r0 (Maps.size D) D (fun z=>left z && !z.sameKey (.int .i64 (v:Int))) cnt2:=by
     obtain ⟨⟨a1,a2,a3,a4,hi⟩,e1,e2,hi2⟩:=ranges_iter R3.out
     exact ranges_keep R3.out (hb.block _ (heap_lt hi2)) (hb.block _ (heap_lt hi))
    have hDW:GD W' m2 V.length Dx g2:=hDx.keep (by obtain ⟨e1,e2,hm⟩:=hDx.blk;exact hb.block _ (heap_lt hm))
    refine (wstand_any W' b gO oO n V vw (.int .i64 hd) _ _ _ m2 m2 (ns.map f) (g v) Dx g2 TT.blk TT.lk.v hvw hDW hap TT.seq hgne (HGr.out.nd v) hch).mono ?_
    rintro r w5 ⟨rfl,hc5,h5⟩
    have RE:w5.ranges Tryz.prog 3 grpElem m1 r0 (Maps.size D) D (fun z=>left z && !z.sameKey (.int .i64 (v:Int))) cnt2:=by
     obtain ⟨⟨a1,a2,a3,a4,hi⟩,e1,e2,hi2⟩:=ranges_iter RR
     refine ranges_keep RR (stood_other TT.seq hc5 hne (heap_lt hi2) (fun cs t m e=>by rw [hi2] at e;cases e)) (stood_other TT.seq hc5 (fun e=>?_) (heap_lt hi) (fun cs t m e=>by rw [hi] at e;cases e))
     obtain ⟨f1,f2,hm⟩:=hDW.blk
     rw [e,hm] at hi
     cases hi
    have hlf:∀ x:Nat,(left (.int .i64 (x:Nat)) && !(Lit.int .i64 (x:Int)).sameKey (.int .i64 (v:Int)))=(left (.int .i64 (x:Nat)) && !decide (x=v)):=fun x=>by rw [sameKey_nat]
    rcases h5 with ⟨hs,hseq,hgd⟩ | ⟨hs,hseq,D5,hgd⟩
    ·have hM5:=hM.out.settled HGr.out (v:=v) hlx hlf (by rw [hnn,hstl];exact hs)
     rw [hnn,hcut] at hM5
     rw [List.map_map] at hseq
     exact ⟨rfl,_,_,hM5,TT.stood hM.out.fp hc5 hseq hgd,RE⟩
    ·have hM5:=hM.out.linked HGr.out (v:=v) hlx hlf (by rw [hnn,hstl];exact hs)
     rw [hnn] at hM5
     rw [List.map_map] at hseq
     exact ⟨rfl,_,_,hM5,TT.stood hM.out.fp hc5 hseq hgd,RE⟩
   have hgl:(g v).head?=(g v).head?:=rfl
   obtain ⟨f0,hf0⟩:∃ f0,(g v).head?=some f0:=by cases hg:g v with
    | nil=>exact absurd hg hgne
    | cons a l=>exact ⟨a,rfl⟩
   obtain ⟨l0,hl0⟩:∃ l0,(g v).getLast?=some l0:=by rw [List.getLast?_eq_some_getLast hgne];exact ⟨_,rfl⟩
   rw [hf0] at q0
   rw [hl0] at q1
   rw [hf0,hl0] at hen CS HW3 ⊢
   unfold ptrP at hen q0 q1 CS HW3 ⊢
   simp only [Option.map_some] at hen q0 q1 CS HW3 ⊢
   clear hgl hkey hv hat hrg2 hg2 hwx k12 hit T2 R2 hW3 b3 z3 hDx hR hM hT T3 R3 hs2 hhas hgne
   go_upto_region 5 with fail
   rw [<- HW3.out]
   go_region_with (go_at_call 201;refine (CS.out _ ((Below.refl _ _).drew)).mono ?_;rintro e W5 ⟨rfl,f5,g5,hM5,hT5,hR5⟩;have M5:Hid (Moving ns g (nxV V k) (cutV V) (stlV V) (fun x=>left (.int .i64 (x:Nat)) && !(Lit.int .i64 (x:Int)).sameKey (.int .i64 (v:Int))) f5 g5):=hM5;have T5:Hid (TSt w W5 b gO oO H V hd (ptrP (firstP ns)) (ptrP la) (.int .i64 bg) m1 m2 ns f5 g5):=hT5;have R5:Hid (W5.ranges Tryz.prog 3 grpElem m1 r0 (Maps.size D) D (fun z=>left z && !z.sameKey (.int .i64 (v:Int))) cnt2):=hR5;clear hM5 hT5 hR5)
   all_goals go_wp2_with fail
   all_goals go_roundg cnt2
   all_goals first | exact hlt | exact ⟨_,f5,g5,R5,M5,T5⟩
abbrev AP:=Nat × (Nat ⊕ Bool)
def nextT:List AP->Nat->List AP × Nat × Nat
 | [],bg=>([],bg,0)
 | (sz,.inr true) :: A,bg=>(A,0,bg+sz)
 | (sz,.inr false) :: A,bg=>nextT A (bg+sz)
 | (sz,.inl v) :: A,bg=>((sz,.inl v) :: A,bg,0)
def sumA (A:List AP):Nat:=(A.map fun a=>a.1).sum
theorem WOk.turn {w w':World} {b gO oO:Nat} {H:List Hd} {V:List Vw} {hd:Nat} {ns ns':List Nd} {g:Nat->List Nat} {bg bg' m1 m2:Nat} {la:Option Nat} (h:WOk w b gO oO H V hd ns g bg m1 m2)
  (hb:w'.heap[b]?=some (.cells (WatC gO oO (.int .i64 hd) m1 m2 (ptrP (firstP ns')) (ptrP la) (.int .i64 bg')) 271 (0,0))) (hla:ns' ≠ []->la=lastP ns') (oth:∀ j,j ≠ b->w'.heap[j]?=w.heap[j]?) (hS:SeqIn w ns') (hG:Grps ns' g):WOk w' b gO oO H V hd ns' g bg' m1 m2:=by
 obtain ⟨⟨la0,h1,h2⟩,h3,h4,⟨D,h5⟩,⟨D2,h6⟩,h7,h8,h9⟩:=h
 obtain ⟨e1,e2,e3⟩:=h5.blk
 obtain ⟨f1,f2,f3⟩:=h6.blk
 refine ⟨⟨la,hb,hla⟩,fun i x hx=>?_,hG,⟨D,h5.keep (oth _ (fun e=>by rw [e,h1] at e3;cases e3))⟩,⟨D2,h6.keep (oth _ (fun e=>by rw [e,h1] at f3;cases f3))⟩,h7,h8.keep fun j cs t _ ht hh=>?_,h9⟩
 ·rw [oth x.p (fun e=>not_place hS h1 (by decide) ⟨x,List.mem_of_getElem? hx,e⟩)]
  exact hS i x hx
 ·rw [oth j (fun e=>by rw [e,h1] at hh;injection hh with hh;injection hh with _ h2;exact ht h2.symm)]
  exact hh
theorem SeqIn.tail {w:World} {x:Nd} {ns:List Nd} (h:SeqIn w (x :: ns)):SeqIn w ns:=fun i y hy=>h (i+1) y hy
theorem Grps.tail {x:Nd} {ns:List Nd} {g:Nat->List Nat} {c:Bool} (h:Grps (x :: ns) g) (hx:x.st=some c):Grps ns g:=by
 refine ⟨fun i j y z hy hz e=>?_,fun v i p hp=>?_,h.nd,h.dis,fun y hy=>h.all y (List.mem_cons_of_mem _ hy)⟩
 ·have:=h.ap (i+1) (j+1) y z hy hz e
  omega
 ·obtain ⟨y,hy,h1,h2,h3⟩:=h.ch v i p hp
  rcases List.mem_cons.1 hy with rfl | hy
  ·rw [hx] at h2;cases h2
  ·exact ⟨y,hy,h1,h2,h3⟩
theorem Abs.tail {x:Nd} {ns:List Nd} {g:Nat->List Nat} {a:AP} {A:List AP} (h:Abs (x :: ns) g (a :: A)):Abs ns g A:=⟨by have:=h.1;simpa using this,fun i y c hy hc=>h.2 (i+1) y c hy hc⟩
theorem Abs.cons {x:Nd} {ns:List Nd} {g:Nat->List Nat} {A:List AP} (h:Abs (x :: ns) g A):∃ a A',A=a :: A':=by
 cases A with
 | nil=>have:=h.1;simp at this
 | cons a A=>exact ⟨a,A,rfl⟩
set_option maxRecDepth 100000 in
set_option maxHeartbeats 4000000 in
theorem wnext_any (w:World) (b gO oO:Nat) (H:List Hd) (V:List Vw) (hd:Nat) (ns:List Nd) (g:Nat->List Nat) (bg m1 m2:Nat) (A:List AP) (hW:WOk w b gO oO H V hd ns g bg m1 m2) (hA:Abs ns g A) (hsum:sumA A+bg<=4000000) :
  Calls Tryz.prog 167 #[.pointer (some ⟨b,0,none⟩)] w fun r w'=>r=.returned (.int .i64 (nextT A bg).2.2)/\(∃ ns',WOk w' b gO oO H V hd ns' g (nextT A bg).2.1 m1 m2/\Abs ns' g (nextT A bg).1/\∀ x ∈ ns',x ∈ ns)/\Chg (fun k=>k=b) w w':=by
 have H0:Hid (WOk w b gO oO H V hd ns g bg m1 m2):=hW
 have A0:Hid (Abs ns g A):=hA
 clear hW hA
 go_enter Tryz.func167,Tryz.ntmps167
 go_wp2_with fail
 go_loopg [3] ns.length (fun gh _ wx=>∃ (ns1:List Nd) (A1:List AP) (bg1:Nat),gh=ns1.length/\Hid (WOk wx b gO oO H V hd ns1 g bg1 m1 m2)/\Hid (Abs ns1 g A1)/\Hid (nextT A1 bg1=nextT A bg)/\sumA A1+bg1<=4000000/\Hid (∀ x ∈ ns1,x ∈ ns)/\Hid (Chg (fun k=>k=b) w wx))
 case atStart=>exact ⟨ns,A,bg,rfl,H0,A0,rfl,hsum,fun x hx=>hx,Chg.refl _ _⟩
 case round =>
  obtain ⟨ns1,A1,bg1,rfl,hK,hAb,hE,hsm,hSub,hC⟩:=hrel
  obtain ⟨w1,hw1⟩:∃ w1,w1=wr:=⟨wr,rfl⟩
  subst hw1
  obtain ⟨la,hb,hla⟩:=hK.out.blk
  have c4:w1.cell? ⟨b,4,none⟩=some (ptrP (firstP ns1)):=cell_of_block hb 4 _ rfl
  have c6:w1.cell? ⟨b,6,none⟩=some (.int .i64 bg1):=cell_of_block hb 6 _ rfl
  have fr:=free_of_block hb
  have HB:Hid (w1.heap[b]?=some (.cells (WatC gO oO (.int .i64 hd) m1 m2 (ptrP (firstP ns1)) (ptrP la) (.int .i64 bg1)) 271 (0,0))):=hb
  have HLA:Hid (ns1 ≠ []->la=lastP ns1):=hla
  clear hb hla H0 A0
  cases ns1 with
  | nil =>
   have e1:A1=[]:=List.eq_nil_of_length_eq_zero hAb.out.1
   subst e1
   have e2:Hid (nextT A bg=([],bg1,0)):=hE.out.symm
   have e4:ptrP (firstP ([]:List Nd))=.pointer none:=rfl
   rw [e4] at c4
   go_wp2_with fail
   go_ret
   rw [e2.out]
   exact ⟨rfl,⟨[],hK.out,hAb.out,hSub.out⟩,hC.out⟩
  | cons x ns2 =>
   obtain ⟨a,A2,rfl⟩:=hAb.out.cons
   have hx0:=hAb.out.2 0 x a rfl rfl
   have hseq:=hK.out.seq 0 x rfl
   have hnx:nextP (x :: ns2) 0=firstP ns2:=by unfold nextP firstP;cases ns2 <;> rfl
   rw [hnx] at hseq
   have e4:ptrP (firstP (x :: ns2))=.pointer (some ⟨x.p,0,none⟩):=rfl
   rw [e4] at c4
   have x1:w1.cell? ⟨x.p,1,none⟩=some (.bool x.st.isSome):=cell_of_block hseq 1 _ rfl
   obtain ⟨sz,s⟩:=a
   cases s with
   | inl v =>
    simp only at hx0
    rw [hx0.2.1] at x1
    have e2:Hid (nextT A bg=((sz,.inl v) :: A2,bg1,0)):=hE.out.symm
    have x1':w1.cell? ⟨x.p,1,none⟩=some (.bool false):=x1
    clear x1 hx0 hseq
    go_wp2_with fail
    go_ret
    rw [e2.out]
    exact ⟨rfl,⟨_,hK.out,hAb.out,hSub.out⟩,hC.out⟩
   | inr c =>
    simp only at hx0
    have hst:=hx0.2
    rw [hst] at x1
    have x1':w1.cell? ⟨x.p,1,none⟩=some (.bool true):=x1
    have hxb:x.p ≠ b:=fun e=>not_place hK.out.seq HB.out (by decide) ⟨x,List.mem_cons_self,e⟩
    have hS2:SeqIn w1 ns2:=hK.out.seq.tail
    have hG2:Grps ns2 g:=hK.out.gr.tail hst
    have hl2:ns2 ≠ []->la=lastP ns2:=fun h=>by
     rw [HLA.out (by simp)]
     unfold lastP
     cases ns2 with
     | nil=>exact absurd rfl h
     | cons y l=>rw [List.getLast?_cons_cons]
    have hsz:sz=x.size:=hx0.1
    have hsm2:sumA A2+(bg1+sz)<=4000000:=by unfold sumA at hsm ⊢;simp at hsm;omega
    obtain ⟨W1,hW1⟩:∃ W1,W1=w1.setCell ⟨b,4,none⟩ (ptrP (firstP ns2)):=⟨_,rfl⟩
    have HW1:Hid (W1=w1.setCell ⟨b,4,none⟩ (ptrP (firstP ns2))):=hW1
    have hb1:W1.heap[b]?=some (.cells (WatC gO oO (.int .i64 hd) m1 m2 (ptrP (firstP ns2)) (ptrP la) (.int .i64 bg1)) 271 (0,0)):=by rw [hW1];exact (block_setCell HB.out 4 _).trans rfl
    have o1:∀ j,j ≠ b->W1.heap[j]?=w1.heap[j]?:=fun j hj=>by rw [hW1,Below.heap_setCell _ _ _ _ hj]
    have hseq1:=(o1 x.p hxb).trans hseq
    have d6:W1.cell? ⟨b,6,none⟩=some (.int .i64 bg1):=cell_of_block hb1 6 _ rfl
    have d0:W1.cell? ⟨x.p,0,none⟩=some (.int .i64 sz):=by rw [hsz];exact cell_of_block hseq1 0 _ rfl
    have fr1:=free_of_block hb1
    obtain ⟨W2,hW2⟩:∃ W2,W2=(W1.setCell ⟨b,6,none⟩ (.int .i64 (bg1+sz:Nat))).drew:=⟨_,rfl⟩
    have HW2:Hid (W2=(W1.setCell ⟨b,6,none⟩ (.int .i64 ((bg1:Int)+(sz:Int)))).drew):=by show _=_;rw [hW2,show ((bg1+sz:Nat):Int)=(bg1:Int)+(sz:Int) from by omega]
    have hb2:W2.heap[b]?=some (.cells (WatC gO oO (.int .i64 hd) m1 m2 (ptrP (firstP ns2)) (ptrP la) (.int .i64 (bg1+sz:Nat))) 271 (0,0)):=by rw [hW2];exact (block_setCell hb1 6 _).trans rfl
    have o2:∀ j,j ≠ b->W2.heap[j]?=w1.heap[j]?:=fun j hj=>by rw [hW2];exact (Below.heap_setCell _ _ _ _ hj).trans (o1 j hj)
    have hseq2:=(o2 x.p hxb).trans hseq
    have f2:W2.cell? ⟨x.p,2,none⟩=some (.bool c):=by
     have h3:W2.cell? ⟨x.p,2,none⟩=some (.bool (x.st.getD false)):=cell_of_block hseq2 2 _ rfl
     rw [hst] at h3
     exact h3
    have f6:W2.cell? ⟨b,6,none⟩=some (.int .i64 (bg1+sz:Nat)):=cell_of_block hb2 6 _ rfl
    have fr2:=free_of_block hb2
    have C2:Hid (Chg (fun k=>k=b) w W2):=by rw [hW2,hW1];exact ((hC.out.setCell (q:=⟨b,4,none⟩) (Or.inr rfl) _).setCell (q:=⟨b,6,none⟩) (Or.inr rfl) _).drew
    have x3:w1.cell? ⟨x.p,3,none⟩=some (ptrP (firstP ns2)):=cell_of_block hseq 3 _ rfl
    have K2:Hid (WOk W2 b gO oO H V hd ns2 g (bg1+sz) m1 m2):=hK.out.turn hb2 hl2 o2 hS2 hG2
    have A2':Hid (Abs ns2 g A2):=hAb.out.tail
    have K3:Hid (WOk (W2.setCell ⟨b,6,none⟩ (.int .i64 0)) b gO oO H V hd ns2 g 0 m1 m2):=hK.out.turn (bg':=0) ((block_setCell hb2 6 _).trans rfl) hl2 (fun j hj=>(Below.heap_setCell _ _ _ _ hj).trans (o2 j hj)) hS2 hG2
    have C3:Hid (Chg (fun k=>k=b) w (W2.setCell ⟨b,6,none⟩ (.int .i64 0))):=C2.out.setCell (q:=⟨b,6,none⟩) (Or.inr rfl) _
    obtain ⟨nx,hnxv⟩:∃ nx:Option Addr,Value.pointer nx=ptrP (firstP ns2):=⟨_,rfl⟩
    rw [<- hnxv] at hW1 x3
    have HW1':Hid (W1=w1.setCell ⟨b,4,none⟩ (.pointer nx)):=hW1
    clear hx0 hst hsz x1 hseq hS2 hG2 hl2 hW1 HW1 hb1 o1 hseq1 hW2 hb2 o2 hseq2 hnxv hnx e4
    go_upto_region 4 with fail
    rw [<- HW1'.out]
    go_region
    rw [<- HW2.out]
    cases c with
    | true =>
     have e2:Hid (nextT A bg=(A2,0,bg1+sz)):=hE.out.symm
     go_wp2_with fail
     go_ret
     rw [e2.out]
     exact ⟨rfl,⟨ns2,K3.out,A2'.out,fun x hx=>hSub.out x (List.mem_cons_of_mem _ hx)⟩,C3.out⟩
    | false =>
     have e2:Hid (nextT A2 (bg1+sz)=nextT A bg):=hE.out
     go_wp2_with fail
     go_roundg ns2.length
     case measure=>simp
     case rel=>exact ⟨ns2,A2,bg1+sz,rfl,K2,A2',e2,hsm2,fun x hx=>hSub.out x (List.mem_cons_of_mem _ hx),C2⟩
end Go.Proofs.YtodagkkjfipbgaaGreatDoor
