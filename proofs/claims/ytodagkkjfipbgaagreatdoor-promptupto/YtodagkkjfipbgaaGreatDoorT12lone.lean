import Derived.Test.YtodagkkjfipbgaaGreatDoorT10toT11
namespace Go.Proofs.YtodagkkjfipbgaaGreatDoor
open Go.RowKit Go.Maps
def endA (V:List Vw) (a:AP):AP:=mvG id (cutV V) (fun _=>true) a
theorem WOk.places {w wx:World} {b gO oO:Nat} {H:List Hd} {V:List Vw} {hd:Nat} {ns:List Nd} {g:Nat->List Nat} {bg m1 m2:Nat} (h:WOk w b gO oO H V hd ns g bg m1 m2) (hc:PlChg ns w wx):(∀ (k:Nat) (cs:Array Value) (t:TypeId),t ≠ 330->w.heap[k]?=some (.cells cs t (0,0))->wx.heap[k]?=some (.cells cs t (0,0)))/\(∀ (k:Nat) (es:Array MapEntry) (c:Nat),w.heap[k]?=some (.map es c)->wx.heap[k]?=some (.map es c))/\Look wx gO oO H V:=by
 have h1:∀ (k:Nat) (cs:Array Value) (t:TypeId),t ≠ 330->w.heap[k]?=some (.cells cs t (0,0))->wx.heap[k]?=some (.cells cs t (0,0)):=fun k cs t ht hh=>by rw [hc.block k (heap_lt hh) (not_place h.seq hh ht)];exact hh
 exact ⟨h1,fun k es c hh=>by rw [hc.block k (heap_lt hh) (not_place_map h.seq hh)];exact hh,h.lk.keep fun k cs t ht _ hh=>h1 k cs t ht hh⟩
set_option maxRecDepth 100000 in
set_option maxHeartbeats 8000000 in
theorem wend_any (w:World) (b gO oO:Nat) (H:List Hd) (V:List Vw) (hd:Nat) (ns:List Nd) (g:Nat->List Nat) (bg m1 m2:Nat) (hW:WOk w b gO oO H V hd ns g bg m1 m2) :
  Calls Tryz.prog 123 #[.pointer (some ⟨b,0,none⟩)] w fun r w'=>r=.returned (.tuple #[])/\(∃ ns',WOk w' b gO oO H V hd ns' (fun _=>[]) bg m1 m2/\(∀ A,Abs ns g A->Abs ns' (fun _=>[]) (A.map (endA V)))/\∀ x ∈ ns',∃ y ∈ ns,y.p=x.p)/\Chg (fun j=>(∃ x ∈ ns,x.p=j)\/j=m1) w w':=by
 obtain ⟨D,hD⟩:=hW.gd
 obtain ⟨la,hb,hla⟩:=hW.blk
 have c2:w.cell? ⟨b,2,none⟩=some (.map (some m1)):=cell_of_block hb 2 _ rfl
 have K0:Hid (WOk w b gO oO H V hd ns g bg m1 m2):=hW
 have HB:Hid (w.heap[b]?=some (.cells (WatC gO oO (.int .i64 hd) m1 m2 (ptrP (firstP ns)) (ptrP la) (.int .i64 bg)) 271 (0,0))):=hb
 have HLA:Hid (ns ≠ []->la=lastP ns):=hla
 have D0:Hid (GD w m1 V.length D g):=hD
 have hDs:=hD.size_le
 have hVf:=hW.lk.v.few
 have M0:Hid (Moving ns g id (cutV V) (fun _=>true) (fun v=>Maps.has D (.int .i64 (v:Nat))) id (fun _=>[])):=Moving.start _ _ _ fun v=>hD.mem v
 clear hW hb hla hD
 go_enter Tryz.func123,Tryz.ntmps123
 go_wp2_with (at_range;refine wpList_range_own _ rfl _ 268 rfl 3 280 intKey Tryz.undGr grpElem m1 (Maps.size D) D rfl D0.out.own ?_;intro w0 hrg0 hg0 hs0)
 go_frame
 obtain ⟨r0,hr0⟩:∃ r0,r0=w.heap.size:=⟨_,rfl⟩
 rw [<- hr0] at hrg0 ⊢
 have b0:Below w.heap.size w w0:=⟨hg0.os,hg0.tape,hg0.output,hg0.size,fun j hj=>hg0.block j hj (by simp)⟩
 have S0:Hid (SeqIn w0 (ns.map id)):=by rw [List.map_id];exact K0.out.seq.below b0
 have C0:Hid (PlChg ns w w0):=Chg.of_below b0
 have R0:Hid (w0.ranges Tryz.prog 3 grpElem m1 r0 (Maps.size D) D (Maps.has D) (Maps.size D)):=hrg0
 have hr0w:w.heap.size<=r0:=Nat.le_of_eq hr0.symm
 clear hrg0 hg0 hs0 b0 c2 hr0
 go_loopg [2] (Maps.size D) (fun gh _ wx=>∃ left f,Hid (wx.ranges Tryz.prog 3 grpElem m1 r0 (Maps.size D) D left gh)/\Hid (Moving ns g id (cutV V) (fun _=>true) (fun v=>left (.int .i64 (v:Nat))) f (fun _=>[]))/\Hid (SeqIn wx (ns.map f))/\Hid (PlChg ns w wx))
 case atStart=>exact ⟨_,_,R0,M0,S0,C0⟩
 case round =>
  obtain ⟨left,f,hR,hM,hS,hC⟩:=hrel
  obtain ⟨w1,hw1⟩:∃ w1,w1=wr:=⟨wr,rfl⟩
  subst hw1
  clear R0 M0 S0 C0
  have hPl:=K0.out.places hC.out
  go_wp2_with (at_next;refine wpList_next_ranges _ rfl _ rfl 3 intKey grpElem (fun x:Int=>Value.int .i64 x) (fun c:Option Nat × Option Nat=>Value.agg #[ptrP c.1,ptrP c.2]) (fun key kl h=>by obtain ⟨x,e,_⟩:=Maps.keyOf_int_inv Tryz.undI h;exact ⟨x,e⟩) (fun v y h=>by obtain ⟨a,b,e,_⟩:=grpElem_inv h;exact ⟨(a,b),e⟩) m1 r0 (Maps.size D) D left gk rfl hR.out ?_ ?_)
  ·intro _ hl0
   have hall:∀ v:Nat,left (.int .i64 (v:Nat))=false:=fun v=>hl0 _
   have G2:Hid (Grps (ns.map f) (fun _=>[])):=hM.out.grps K0.out.gr hall
   have A2:Hid (∀ A,Abs ns g A->Abs (ns.map f) (fun _=>[]) (A.map (endA V))):=fun A hA=>hM.out.abs hall hA
   obtain ⟨_,es3,ck3,hm3⟩:=ranges_iter hR.out
   obtain ⟨W4,hrun4,hm4,hc4⟩:=clear_map hm3
   have hb1:=hPl.1 b _ _ (by decide) HB.out
   have c2:w1.cell? ⟨b,2,none⟩=some (.map (some m1)):=cell_of_block hb1 2 _ rfl
   have K4:Hid (WOk W4 b gO oO H V hd (ns.map f) (fun _=>[]) bg m1 m2):=by
    have hk:∀ (j:Nat) (o:Obj),w1.heap[j]?=some o->j ≠ m1->W4.heap[j]?=some o:=fun j o ho hj=>by rw [hc4.block j (heap_lt ho) hj];exact ho
    have hkc:∀ (j:Nat) (cs:Array Value) (t:TypeId) (m:Nat × Nat),w1.heap[j]?=some (.cells cs t m)->W4.heap[j]?=some (.cells cs t m):=fun j cs t m hh=>hk j _ hh (fun e=>by rw [e,hm3] at hh;cases hh)
    obtain ⟨D2,hD2⟩:=K0.out.sp
    obtain ⟨e1,e2,e3⟩:=hD2.blk
    refine ⟨⟨la,by rw [firstP_map hM.out.fp];exact hkc _ _ _ _ hb1,fun h=>by rw [lastP_map hM.out.fp];exact HLA.out (fun e=>h (by rw [e];rfl))⟩,fun i x hx=>hkc _ _ _ _ (hS.out i x hx),G2.out,⟨_,gd_empty hm4⟩,⟨D2,hD2.keep ?_⟩,K0.out.ne,hPl.2.2.keep fun j cs t _ _ hh=>hkc j cs t _ hh,fun v hv=>absurd rfl hv⟩
    rw [e3]
    exact hk m2 _ (hPl.2.1 m2 _ _ e3) (Ne.symm K0.out.ne)
   have LL:Hid (∀ x ∈ ns.map f,∃ y ∈ ns,y.p=x.p):=fun x hx=>by obtain ⟨y,hy,rfl⟩:=List.mem_map.1 hx;exact ⟨y,hy,(hM.out.fp y).symm⟩
   have C4:Hid (Chg (fun j=>(∃ x ∈ ns,x.p=j)\/j=m1) w W4):=(hC.out.mono fun j _ h=>Or.inl h).trans (hc4.mono fun j _ e=>Or.inr e)
   clear hm4 hc4 hb1 hPl hR hM hS hC hm3 hl0 hall
   go_wp2_with fail
   go_end0
   exact ⟨rfl,⟨_,K4.out,A2.out,LL.out⟩,C4.out⟩
  ·intro x ca cb kl y1 y2 w2 cnt2 hkey hlx hv hat hrg2 hlt hg2 hs2 hen
   obtain ⟨x',ex,hkl,hwx⟩:=Maps.keyOf_int_inv Tryz.undI hkey
   subst hkl
   have hhas:=Maps.has_true_of_atKey hat
   obtain ⟨v,hvN,ev⟩:=D0.out.key _ hhas
   injection ev with _ ev
   subst ev
   injection ex with _ ex
   subst ex
   have hgne:=(D0.out.mem v).1 hhas
   rw [grpElem_mk] at hv
   obtain ⟨e1,e2⟩:=grpD_inj ((D0.out.val v hgne (.agg [])).symm.trans ((hat (.agg [])).trans (congrArg Prod.fst (Option.some.inj hv)).symm))
   subst e1
   subst e2
   obtain ⟨vx,hvx⟩:∃ vx,V[v]?=some vx:=⟨V[v],List.getElem?_eq_getElem hvN⟩
   have hcut:cutV V v=vx.1:=by unfold cutV;rw [hvx];rfl
   have hit:=ranges_iter hR.out
   have c12:PlChg ns w w2:=hC.out.grown hg2 (fun j e=>Or.inl (by rw [<- Option.some.inj e];exact hr0w))
   have s12:SeqIn w2 (ns.map f):=fun i y hy=>by
    have h1:=hS.out i y hy
    rw [hg2.block _ (heap_lt h1) (fun e=>by
     obtain ⟨⟨a1,a2,a3,a4,hi⟩,_⟩:=hit
     have h2:=Option.some.inj e
     rw [h2,hi] at h1
     cases h1)]
    exact h1
   obtain ⟨W3,hW3⟩:∃ W3,W3=w2.alloc (.cells #[ptrP (g v).head?,ptrP (g v).getLast?] 280):=⟨_,rfl⟩
   have HW3:Hid (W3=w2.alloc (.cells #[ptrP (g v).head?,ptrP (g v).getLast?] 280)):=hW3
   have b3:Below w2.heap.size w2 W3:=by rw [hW3];exact below_alloc w2 _
   have C3:Hid (PlChg ns w W3):=c12.trans (Chg.of_below b3)
   have S3:Hid (SeqIn W3 (ns.map f)):=s12.below b3
   have R3:Hid (W3.ranges Tryz.prog 3 grpElem m1 r0 (Maps.size D) D (fun z=>left z && !z.sameKey (.int .i64 (v:Int))) cnt2):=by rw [hW3];exact hrg2.alloc _
   have hP3:=K0.out.places C3.out
   have q0:W3.cell? ⟨w2.heap.size,0,none⟩=some (ptrP (g v).head?):=by rw [hW3];exact cell_of_block (heap_alloc_new w2 _) 0 _ rfl
   have q1:W3.cell? ⟨w2.heap.size,1,none⟩=some (ptrP (g v).getLast?):=by rw [hW3];exact cell_of_block (heap_alloc_new w2 _) 1 _ rfl
   have q2:W3.cell? ⟨b,0,none⟩=some (.pointer (some ⟨gO,oO,none⟩)):=cell_of_block (hP3.1 b _ _ (by decide) HB.out) 0 _ rfl
   obtain ⟨qv,cv,z0,z1,_,_⟩:=hP3.2.2.v.at hvx
   have CS:Hid (∀ W',Below W3.heap.size W3 W'->Calls Tryz.prog 168 #[.agg #[ptrP (g v).head?,ptrP (g v).getLast?],.bool vx.1] W' fun r w'=>r=.returned (.tuple #[])/\∃ f',Moving ns g id (cutV V) (fun _=>true) (fun x=>left (.int .i64 (x:Nat)) && !(Lit.int .i64 (x:Int)).sameKey (.int .i64 (v:Int))) f' (fun _=>[])/\SeqIn w' (ns.map f')/\PlChg ns w w'/\w'.ranges Tryz.prog 3 grpElem m1 r0 (Maps.size D) D (fun z=>left z && !z.sameKey (.int .i64 (v:Int))) cnt2):=fun W' hb=>by
    have hSW:=S3.out.below hb
    have hch:=hM.out.chain K0.out.gr hlx
    have hap:Apart (ns.map f):=K0.out.gr.ap.map hM.out.fp
    refine (gsettle_any W' (ns.map f) (g v) vx.1 (g v).getLast? hap (K0.out.gr.nd v) hch hSW).mono ?_
    rintro r w5 ⟨rfl,hs5,hc5⟩
    have hlf:∀ x:Nat,(left (.int .i64 (x:Nat)) && !(Lit.int .i64 (x:Int)).sameKey (.int .i64 (v:Int)))=(left (.int .i64 (x:Nat)) && !decide (x=v)):=fun x=>by rw [sameKey_nat]
    have hM5:=hM.out.settled K0.out.gr (v:=v) hlx hlf rfl
    rw [show cutV V (id v)=vx.1 from hcut] at hM5
    rw [List.map_map] at hs5
    have RR:W'.ranges Tryz.prog 3 grpElem m1 r0 (Maps.size D) D (fun z=>left z && !z.sameKey (.int .i64 (v:Int))) cnt2:=by
     obtain ⟨⟨a1,a2,a3,a4,hi⟩,e1,e2,hi2⟩:=ranges_iter R3.out
     exact ranges_keep R3.out (hb.block _ (heap_lt hi2)) (hb.block _ (heap_lt hi))
    refine ⟨rfl,_,hM5,hs5,(C3.out.trans (Chg.of_below hb)).trans (hc5.mono fun j _ h=>(map_p hM.out.fp).1 h),?_⟩
    obtain ⟨⟨a1,a2,a3,a4,hi⟩,e1,e2,hi2⟩:=ranges_iter RR
    refine ranges_keep RR (hc5.block _ (heap_lt hi2) (not_place_map hSW hi2)) (hc5.block _ (heap_lt hi) ?_)
    rintro ⟨y,hy,e⟩
    obtain ⟨i,hi'⟩:=List.mem_iff_getElem?.1 hy
    have h3:=hSW i y hi'
    rw [e,hi] at h3
    cases h3
   obtain ⟨f0,hf0⟩:∃ f0,(g v).head?=some f0:=by cases hg:g v with
    | nil=>exact absurd hg hgne
    | cons a l=>exact ⟨a,rfl⟩
   obtain ⟨l0,hl0⟩:∃ l0,(g v).getLast?=some l0:=by rw [List.getLast?_eq_some_getLast hgne];exact ⟨_,rfl⟩
   rw [hf0] at q0
   rw [hl0] at q1
   rw [hf0,hl0] at hen CS HW3 ⊢
   unfold ptrP at hen q0 q1 CS HW3 ⊢
   simp only [Option.map_some] at hen q0 q1 CS HW3 ⊢
   clear hkey hv hat hrg2 hg2 hwx hit hW3 b3 hR hM hS hC S3 R3 C3 hs2 hhas hgne c12 s12 hP3 hPl
   go_upto_region 3 with fail
   rw [<- HW3.out]
   go_region_with (go_at_call 168;refine (CS.out _ ((Below.refl _ _).drew)).mono ?_;rintro e W5 ⟨rfl,f5,hM5,hS5,hC5,hR5⟩;have M5:Hid (Moving ns g id (cutV V) (fun _=>true) (fun x=>left (.int .i64 (x:Nat)) && !(Lit.int .i64 (x:Int)).sameKey (.int .i64 (v:Int))) f5 (fun _=>[])):=hM5;have S5:Hid (SeqIn W5 (ns.map f5)):=hS5;have C5:Hid (PlChg ns w W5):=hC5;have R5:Hid (W5.ranges Tryz.prog 3 grpElem m1 r0 (Maps.size D) D (fun z=>left z && !z.sameKey (.int .i64 (v:Int))) cnt2):=hR5;clear hM5 hS5 hC5 hR5)
   all_goals go_wp2_with fail
   all_goals go_roundg cnt2
   all_goals first | exact hlt | exact ⟨_,f5,R5,M5,S5,C5⟩
set_option maxRecDepth 100000 in
set_option maxHeartbeats 1000000 in
theorem watch_any (w:World) (gO oO:Nat) (H:List Hd) (V:List Vw) (hL:Look w gO oO H V) :
  Calls Tryz.prog 117 #[.pointer (some ⟨gO,oO,none⟩)] w fun r w'=>∃ b m1 m2,r=.returned (.pointer (some ⟨b,0,none⟩))/\w.heap.size<=b/\w.heap.size<=m1/\w.heap.size<=m2/\WOk w' b gO oO H V 0 [] (fun _=>[]) 0 m1 m2/\Below w.heap.size w w':=by
 have hmm:=@run_makeMap Tryz.prog
 have HL:Hid (Look w gO oO H V):=hL
 clear hL
 go_enter Tryz.func117,Tryz.ntmps117
 go_wp2_with fail
 go_ret
 have s1:(w.alloc (.map #[] 0)).heap.size=w.heap.size+1:=by simp
 have s2:((w.alloc (.map #[] 0)).alloc (.map #[] 0)).heap.size=w.heap.size+1+1:=by simp
 have b1:=below_alloc w (.map #[] 0)
 have b2:=below_alloc (w.alloc (.map #[] 0)) (.map #[] 0)
 have b3:=below_alloc ((w.alloc (.map #[] 0)).alloc (.map #[] 0)) (.cells #[.pointer (some ⟨gO,oO,none⟩),.int .i64 0,.map (some w.heap.size),.map (some (w.heap.size+1)),.pointer none,.pointer none,.int .i64 0] 271)
 have n1:(w.alloc (.map #[] 0)).heap[w.heap.size]?=some (.map #[] 0):=heap_alloc_new w _
 have n2:((w.alloc (.map #[] 0)).alloc (.map #[] 0)).heap[w.heap.size+1]?=some (.map #[] 0):=by have:=heap_alloc_new (w.alloc (.map #[] 0)) (.map #[] 0);rw [s1] at this;exact this
 have n3:=heap_alloc_new ((w.alloc (.map #[] 0)).alloc (.map #[] 0)) (.cells #[.pointer (some ⟨gO,oO,none⟩),.int .i64 0,.map (some w.heap.size),.map (some (w.heap.size+1)),.pointer none,.pointer none,.int .i64 0] 271)
 rw [s2] at n3
 have bb:Below w.heap.size w ((w.alloc (.map #[] 0)).alloc (.map #[] 0)):=b1.trans (b2.mono (by rw [s1];omega))
 have ball:=bb.trans (b3.mono (by rw [s2];omega))
 refine ⟨w.heap.size+1+1,w.heap.size,w.heap.size+1,rfl,by omega,Nat.le_refl _,by omega,⟨⟨none,n3,fun h=>absurd rfl h⟩,fun i x hx=>by simp at hx,⟨fun i j x y hx=>by simp at hx,fun v i p hp=>by simp at hp,fun v=>by simp,fun v v' p hp=>by simp at hp,fun x hx=>by simp at hx⟩,⟨_,gd_empty (ck:=0) ?_⟩,⟨_,gd_empty (ck:=0) ?_⟩,by omega,HL.out.keepS (KeepS.below ball),fun v hv=>absurd rfl hv⟩,ball⟩
 ·rw [b3.block _ (by rw [s2];omega),b2.block _ (by rw [s1];omega)]
  exact n1
 ·rw [b3.block _ (by rw [s2];omega)]
  exact n2
end Go.Proofs.YtodagkkjfipbgaaGreatDoor
