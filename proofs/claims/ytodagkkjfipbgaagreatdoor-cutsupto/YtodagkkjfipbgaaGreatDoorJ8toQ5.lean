import Derived.Shelf.Abstract
import Derived.Test.YtodagkkjfipbgaaGreatDoorQ3toJ7
namespace Go.Proofs.YtodagkkjfipbgaaGreatDoor
open Go.RowKit Go.Maps
theorem row1_form {w:World} {base:Nat} {e:TypeId} {v:Value} {n:Nat} {us:List Value} (h:w.ownsRow base e 1 v n us):∃ ao cap,v=.slice ao n cap∧∀ i (u:Value),us[i]?=some u→i<n→∃ g,ao=some ⟨g,0,none⟩∧g<w.heap.size∧w.cell? ⟨g,i,none⟩=some u:=by
 obtain ⟨h2,h3⟩:=h
 rcases h3 with ⟨hv,hn⟩ | ⟨g,cap,cur,hv,hg,hh,hcap,hmx,hsz,hcur⟩
 ·exact ⟨none,0,by rw [hv,hn],fun i u hu hi=>by omega⟩
 ·refine ⟨some ⟨g,0,none⟩,cap,hv,fun i u hu hi=>⟨g,rfl,heap_lt hh,cell_of_block hh i _ ?_⟩⟩
  have e1:(cur.toList.take (n * 1))[i]?=some u:=by rw [hcur];exact hu
  rw [List.getElem?_take,if_pos (by omega)] at e1
  simpa using e1
theorem row_base0 {w:World} {base:Nat} {e:TypeId} {size:Nat} {v:Value} {n:Nat} {us:List Value} (h:w.ownsRow base e size v n us) (_hb:0≤base):w.ownsRow 0 e size v n us:=by
 refine ⟨h.1,?_⟩
 rcases h.2 with h2 | ⟨g,cap,cur,hv,_,r⟩
 ·exact Or.inl h2
 ·exact Or.inr ⟨g,cap,cur,hv,Nat.zero_le _,r⟩
theorem intCells_at (l:List Nat) (j:Nat) (h:j<l.length):(intCells l)[j]?=some (.int .i64 (l[j]:Nat)):=by unfold intCells;rw [List.getElem?_map,List.getElem?_eq_getElem h];rfl
theorem GRow.cell {w:World} {base gB cap n i:Nat} {g:List (List (Nat × Nat))} {rv:List Value} (h:GRow w base (.slice (some ⟨gB,0,none⟩) n cap) g rv) (hn:g.length=n) (hi:i<n) :
  ∃ ao c,rv[i]?=some (.slice ao (g[i]'(by omega)).length c)∧w.cell? ⟨gB,i,none⟩=some (.slice ao (g[i]'(by omega)).length c)∧w.ownsRow base 303 2 (.slice ao (g[i]'(by omega)).length c) (g[i]'(by omega)).length (edCells (g[i]'(by omega)))∧∃ cur,w.heap[gB]?=some (.cells cur 301 (0,0)):=by
 have hl:=h.len
 obtain ⟨u,hu⟩:∃ u,rv[i]?=some u:=⟨rv[i]'(by omega),List.getElem?_eq_getElem (by omega)⟩
 have h0:=h.to_ i u _ hu (List.getElem?_eq_getElem (by omega))
 obtain ⟨ao,c,rfl⟩:=row_shape h0
 obtain ⟨ao',cap',e,hf⟩:=row1_form h.row
 injection e with e1 e2 e3
 obtain ⟨g',e4,_,hc⟩:=hf i _ hu (by omega)
 rw [e4] at e1
 cases e1
 obtain ⟨cur,hcur⟩:=row_type h.row gB rfl
 exact ⟨ao,c,hu,hc,h0,cur,hcur⟩
theorem add_fin {w w':World} {base gB n i t y:Nat} {l:List (Nat × Nat)} {ao ao':Option Addr} {c c':Nat} {g:List (List (Nat × Nat))} {rv:List Value} {o:Obj} (hg:GRow w base (.slice (some ⟨gB,0,none⟩) n n) g rv) (hn:g.length=n) (hi:i<n) (hl:g[i]?=some l) (hu:rv[i]?=some (.slice ao l.length c))
  (hrow:w.ownsRow base 303 2 (.slice ao l.length c) l.length (edCells l)) (hgr:(w.alloc o).drew.grownBy w' (Value.ownBlock (.slice ao l.length c)))
  (hown:w'.ownsRow base 303 2 (.slice ao' (l.length+1) c') (l.length+1) (edCells l++[.int .u8 t,.int .i64 y])) (hsn:SameOrNew (w.alloc o).drew (.slice ao l.length c) (.slice ao' (l.length+1) c')) {cur:Array Value} (hgB:w'.heap[gB]?=some (.cells cur 301 (0,0))) :
  GRow (w'.setCell ⟨gB,i,none⟩ (.slice ao' (l.length+1) c')) base (.slice (some ⟨gB,0,none⟩) n n) (addE g (i,t,y)) (rv.set i (.slice ao' (l.length+1) c')):=by
 subst hn
 have hgi:g[i]'hi=l:=by rw [List.getElem?_eq_getElem hi] at hl;simpa using hl
 have hrA:(w.alloc o).drew.ownsRow base 303 2 (.slice ao l.length c) l.length (edCells l):=row_kp hrow (Kp.alloc (Kp.refl _ w) o)
 refine hg.add hi hu ?_ ?_ ?_ ?_
 ·have hk:Kp 301 w w':=(Kp.alloc (Kp.refl _ w) o).grown (w:=(w.alloc o).drew) hrA hgr (by decide)
  exact row_set (row_kp hg.row hk) _ _
 ·rintro k hk ⟨cs,hcs⟩
  have h1:w'.heap[k]?=w.heap[k]?:=(hgr.block k (by have:=heap_lt hcs;show k<(w.alloc o).heap.size;simp;omega) hk).trans (Below.heap_alloc _ _ _ (heap_lt hcs))
  rw [Below.heap_setCell _ _ _ _ (type_ne (h1.trans hcs) hgB (by decide))];exact h1
 ·rw [hgi]
  exact row_kp hown ((Kp.refl _ _).setCell hgB (by decide) _)
 ·rcases hsn with h | h
  ·exact Or.inl h
  ·exact Or.inr ⟨_,h,by show w.heap.size≤(w.alloc o).heap.size;simp⟩
set_option maxRecDepth 100000 in
set_option maxHeartbeats 4000000 in
theorem forth_any (S:List St) (vS:Value) (tv:List Value) (first:Int) (w:World) (hM:MRow w 0 vS S tv) (hS:SOk S) :
  Calls Tryz.prog 136 #[.agg #[vS,.int .i64 first]] w fun r w'=>∃ v,r=.returned v∧GIn w' v (graphOf true S)∧Below w.heap.size w w':=by
 have HM:Hid (MRow w 0 vS S tv):=hM
 obtain ⟨ao,cap,rfl⟩:=row_shape hM.row
 have hlen:=hS.len
 have htot:=hS.tot_
 clear hM
 have hmk:=fun W=>make_graph W S.length hlen
 have G0:=grow_made (w.alloc (.cells #[.slice ao S.length cap,.int .i64 first] 146)) S.length hlen
 have e1:(w.alloc (.cells #[.slice ao S.length cap,.int .i64 first] 146)).heap.size=w.heap.size+1:=by simp
 rw [e1] at G0
 have HG0:Hid (GRow ((w.alloc (.cells #[.slice ao S.length cap,.int .i64 first] 146)).alloc (.cells (madeCells #[.slice none 0 0] S.length) 301)) (w.heap.size+1) (.slice (some ⟨w.heap.size+1,0,none⟩) S.length S.length) (grF S.length (allAdds true (S.take 0) 0)) (List.replicate S.length (.slice none 0 0))):=G0
 have B0:Hid (Below w.heap.size w ((w.alloc (.cells #[.slice ao S.length cap,.int .i64 first] 146)).alloc (.cells (madeCells #[.slice none 0 0] S.length) 301))):=(below_alloc w _).alloc (by simp) _
 clear G0
 go_enter Tryz.func136,Tryz.ntmps136
 go_wp2_with fail
 go_loopg [15] S.length (fun gh iv wx=>∃ i:Nat,i≤S.length∧gh=S.length - i∧iv=.int .i64 i∧∃ rv,Hid (GRow wx (w.heap.size+1) (.slice (some ⟨w.heap.size+1,0,none⟩) S.length S.length) (grF S.length (allAdds true (S.take i) 0)) rv)∧Hid (Below w.heap.size w wx))
 case atStart=>exact ⟨0,Nat.zero_le _,rfl,rfl,_,HG0,B0⟩
 case round =>
  obtain ⟨i,hi,rfl,rfl,rv,hG,hB⟩:=hrel
  obtain ⟨w1,hw1⟩:∃ w1,w1=wr:=⟨wr,rfl⟩
  subst hw1
  by_cases hlt:i<S.length
  ·obtain ⟨gS,capS,curS,eS,hhS,_,u,hu,c0,c1⟩:=HM.out.cells i hlt
   injection eS with eS1 eS2 eS3
   subst eS1
   subst eS3
   have hto:=HM.out.to_ i u _ hu (List.getElem?_eq_getElem hlt)
   obtain ⟨aou,capu,rfl,hfu⟩:=row1_form hto
   have HFU:Hid (∀ j (x:Value),(intCells S[i].2)[j]?=some x→j<S[i].2.length→∃ g,aou=some ⟨g,0,none⟩∧g<w.heap.size∧w.cell? ⟨g,j,none⟩=some x):=hfu
   have d0:=(hB.out.cell (p:=⟨gS,i * 2,none⟩) (heap_lt hhS)).trans c0
   have d1:=(hB.out.cell (p:=⟨gS,i * 2+1,none⟩) (heap_lt hhS)).trans c1
   have hs1:=hB.out.size
   have hti:=tot_at S i hlt
   have HG1:Hid (GRow (w1.alloc (.cells #[.int .u8 (S[i].1:Nat),.slice aou S[i].2.length capu] 293)) (w.heap.size+1) (.slice (some ⟨w.heap.size+1,0,none⟩) S.length S.length) (grF S.length (preAdds true S i 0)) rv):=by rw [preAdds_start true S i hlt];exact hG.out.kpa (KpA.below (below_alloc _ _))
   have HQ:Hid ((w1.alloc (.cells #[.int .u8 (S[i].1:Nat),.slice aou S[i].2.length capu] 293)).heap[w1.heap.size]?=some (.cells #[.int .u8 (S[i].1:Nat),.slice aou S[i].2.length capu] 293 (0,0))):=heap_alloc_new w1 _
   have HB1:Hid (Below w.heap.size w (w1.alloc (.cells #[.int .u8 (S[i].1:Nat),.slice aou S[i].2.length capu] 293))):=hB.out.alloc hs1 _
   clear c0 c1 hto hfu
   go_wp2_with fail
   go_loopg [23] S[i].2.length (fun gh jv wx=>∃ j:Nat,j≤S[i].2.length∧gh=S[i].2.length - j∧jv=.int .i64 j∧∃ rv,Hid (GRow wx (w.heap.size+1) (.slice (some ⟨w.heap.size+1,0,none⟩) S.length S.length) (grF S.length (preAdds true S i j)) rv)∧Hid (wx.heap[w1.heap.size]?=some (.cells #[.int .u8 (S[i].1:Nat),.slice aou S[i].2.length capu] 293 (0,0)))∧Hid (Below w.heap.size w wx))
   case atStart=>exact ⟨0,Nat.zero_le _,rfl,rfl,rv,HG1,HQ,HB1⟩
   case round =>
    obtain ⟨j,hj,rfl,rfl,rv2,hG2,hQ2,hB2⟩:=hrel
    obtain ⟨w2,hw2⟩:∃ w2,w2=wr:=⟨wr,rfl⟩
    subst hw2
    clear HG1 HQ HB1 d0 d1
    have hs2:=hB2.out.size
    by_cases hlt2:j<S[i].2.length
    ·obtain ⟨gu,rfl,hgu,cu⟩:=HFU.out j _ (intCells_at _ j hlt2) hlt2
     have du:=(hB2.out.cell (p:=⟨gu,j,none⟩) hgu).trans cu
     have q0:=cell_of_block hQ2.out 0 _ rfl
     have q1:=cell_of_block hQ2.out 1 _ rfl
     have hyl:S[i].2[j]<S.length:=hS.to_ S[i] (List.getElem_mem hlt) _ (List.getElem_mem hlt2)
     have HP:Hid (preAdds true S i (j+1)=preAdds true S i j++[(i,S[i].1,S[i].2[j])]):=by show _=_;have:=preAdds_next true S i j hlt hlt2;simpa using this
     obtain ⟨aor,cr,hrv,hcr,hrow,cur,hcur⟩:=hG2.out.cell (i:=i) (grF_len _ _) hlt
     have hll:(grF S.length (preAdds true S i j))[i]?=some ((grF S.length (preAdds true S i j))[i]'(by rw [grF_len];exact hlt)):=List.getElem?_eq_getElem _
     have hle:((grF S.length (preAdds true S i j))[i]'(by rw [grF_len];exact hlt)).length≤9000:=by
      have h1:=grF_row S.length _ (preAdds true S i j) rfl _ (List.getElem_mem (by rw [grF_len];exact hlt))
      have h2:=preAdds_len true S i j hlt
      omega
     generalize (grF S.length (preAdds true S i j))[i]'(by rw [grF_len];exact hlt)=l at hrv hcr hrow hll hle
     generalize hyv:S[i].2[j]=y at *
     generalize htv:S[i].1=tk at *
     have HRV:Hid (rv2[i]?=some (.slice aor l.length cr)):=hrv
     have HRW:Hid (w2.ownsRow (w.heap.size+1) 303 2 (.slice aor l.length cr) l.length (edCells l)):=hrow
     have HLL:Hid ((grF S.length (preAdds true S i j))[i]?=some l):=hll
     have HCU:Hid (w2.heap[w.heap.size+1]?=some (.cells cur 301 (0,0))):=hcur
     clear hrv hrow hll hcur cu
     have RA:Hid ((w2.alloc (.cells #[.int .u8 (tk:Nat),.int .i64 (y:Nat)] 303)).drew.ownsRow (w.heap.size+1) 303 2 (.slice aor l.length cr) l.length (edCells l)):=row_kp HRW.out (Kp.alloc (Kp.refl _ w2) _)
     have LA:w.heap.size+1≤(w2.alloc (.cells #[.int .u8 (tk:Nat),.int .i64 (y:Nat)] 303)).drew.heap.size:=by show _≤(w2.alloc _).heap.size;simp;omega
     have hcr':=fun o=>((below_alloc w2 o).cell (p:=⟨w.heap.size+1,i,none⟩) (heap_lt HCU.out)).trans hcr
     have q0':=fun o=>((below_alloc w2 o).cell (p:=⟨w1.heap.size,0,none⟩) (heap_lt hQ2.out)).trans q0
     go_wp2_with fail
     go_region_law
      (refine step_push2 rfl (.tmp 32) (.tmp 37) 301 rfl (w.heap.size+1) 303 (.agg #[.int .u8 0,.int .i64 0]) 2 16 Tryz.infoEd Tryz.undEd rfl (by decide) (.slice aor l.length cr) l.length (edCells l) (by simp [Act.eval]) RA.out w2.heap.size 1 [.int .u8 (tk:Nat),.int .i64 (y:Nat)] (by simp [Act.eval]) rfl (two_new w2 tk y) (two_cells _ _ rfl rfl) (by omega) (by omega) LA ?_
       intro v' w3 hown hgr hsn
       obtain ⟨ao3,c3,rfl⟩:=row_shape hown
       have HG3:Hid (w3.heap[w.heap.size+1]?=some (.cells cur 301 (0,0))):=((Kp.alloc (Kp.refl _ w2) _).grown (w:=(w2.alloc _).drew) RA.out hgr (by decide)) _ _ _ HCU.out
       have HF:Hid (GRow (w3.setCell ⟨w.heap.size+1,i,none⟩ (.slice ao3 (l.length+1) c3)) (w.heap.size+1) (.slice (some ⟨w.heap.size+1,0,none⟩) S.length S.length) (addE (grF S.length (preAdds true S i j)) (i,tk,y)) (rv2.set i (.slice ao3 (l.length+1) c3))):=add_fin hG2.out (grF_len _ _) hlt HLL.out HRV.out HRW.out hgr hown hsn HG3.out
       have HQ3:Hid (w3.heap[w1.heap.size]?=some (.cells #[.int .u8 (tk:Nat),.slice (some ⟨gu,0,none⟩) S[i].2.length capu] 293 (0,0))):=((Kp.alloc (Kp.refl _ w2) _).grown (w:=(w2.alloc _).drew) RA.out hgr (by decide)) _ _ _ hQ2.out
       have HB3:Hid (Below w.heap.size w w3):=Below.grown (w:=(w2.alloc _).drew) ((hB2.out.alloc hs2 _).drew) hgr (Nat.le_trans (Nat.le_succ _) LA) (fun k hk=>by have:=(RA.out.lt k hk).1;omega)
       have g3:=(World.cell?_of_block (a:=⟨w.heap.size+1,i,none⟩) (w:=w2) (HG3.out.trans HCU.out.symm)).trans hcr
       have f3:=free_of_block HG3.out
       clear hown hgr hsn)
     all_goals go_wp2_with fail
     all_goals go_roundg (S[i].2.length - (j+1))
     all_goals first
      | (case measure=>omega)
      | skip
     all_goals
      refine ⟨j+1,by omega,rfl,by go_num,rv2.set i (.slice ao3 (l.length+1) c3),?_,?_,?_⟩
      ·rw [HP.out,grF_snoc];exact HF
      ·show _=_;rw [Below.heap_setCell _ _ _ _ (type_ne HQ3.out HG3.out (by decide))];exact HQ3.out
      ·exact HB3.out.setCell (by show w.heap.size≤w.heap.size+1;omega) _
    ·obtain rfl:j=S[i].2.length:=by omega
     go_wp2_with fail
     go_roundg (S.length - (i+1))
     case measure=>omega
     case rel=>exact ⟨i+1,by omega,rfl,by go_num,rv2,by rw [← preAdds_end true S i hlt];exact hG2,hB2⟩
  ·go_wp2_with fail
   go_ret
   refine ⟨_,rfl,⟨rv,?_⟩,hB.out⟩
   have e:S.take i=S:=List.take_of_length_le (by omega)
   have h:=hG.out
   rw [e] at h
   have e2:(graphOf true S).length=S.length:=graph_len true S
   exact ⟨h.len,row_base0 h.row (Nat.zero_le _),fun i u l hu hl=>row_base0 (h.to_ i u l hu hl) (Nat.zero_le _),h.apart⟩
set_option maxRecDepth 100000 in
set_option maxHeartbeats 4000000 in
theorem back_any (S:List St) (vS:Value) (tv:List Value) (first:Int) (w:World) (hM:MRow w 0 vS S tv) (hS:SOk S) :
  Calls Tryz.prog 137 #[.agg #[vS,.int .i64 first]] w fun r w'=>∃ v,r=.returned v∧GIn w' v (graphOf false S)∧Below w.heap.size w w':=by
 have HM:Hid (MRow w 0 vS S tv):=hM
 obtain ⟨ao,cap,rfl⟩:=row_shape hM.row
 have hlen:=hS.len
 have htot:=hS.tot_
 clear hM
 have hmk:=fun W=>make_graph W S.length hlen
 have G0:=grow_made (w.alloc (.cells #[.slice ao S.length cap,.int .i64 first] 146)) S.length hlen
 have e1:(w.alloc (.cells #[.slice ao S.length cap,.int .i64 first] 146)).heap.size=w.heap.size+1:=by simp
 rw [e1] at G0
 have HG0:Hid (GRow ((w.alloc (.cells #[.slice ao S.length cap,.int .i64 first] 146)).alloc (.cells (madeCells #[.slice none 0 0] S.length) 301)) (w.heap.size+1) (.slice (some ⟨w.heap.size+1,0,none⟩) S.length S.length) (grF S.length (allAdds false (S.take 0) 0)) (List.replicate S.length (.slice none 0 0))):=G0
 have B0:Hid (Below w.heap.size w ((w.alloc (.cells #[.slice ao S.length cap,.int .i64 first] 146)).alloc (.cells (madeCells #[.slice none 0 0] S.length) 301))):=(below_alloc w _).alloc (by simp) _
 clear G0
 go_enter Tryz.func137,Tryz.ntmps137
 go_wp2_with fail
 go_loopg [15] S.length (fun gh iv wx=>∃ i:Nat,i≤S.length∧gh=S.length - i∧iv=.int .i64 i∧∃ rv,Hid (GRow wx (w.heap.size+1) (.slice (some ⟨w.heap.size+1,0,none⟩) S.length S.length) (grF S.length (allAdds false (S.take i) 0)) rv)∧Hid (Below w.heap.size w wx))
 case atStart=>exact ⟨0,Nat.zero_le _,rfl,rfl,_,HG0,B0⟩
 case round =>
  obtain ⟨i,hi,rfl,rfl,rv,hG,hB⟩:=hrel
  obtain ⟨w1,hw1⟩:∃ w1,w1=wr:=⟨wr,rfl⟩
  subst hw1
  by_cases hlt:i<S.length
  ·obtain ⟨gS,capS,curS,eS,hhS,_,u,hu,c0,c1⟩:=HM.out.cells i hlt
   injection eS with eS1 eS2 eS3
   subst eS1
   subst eS3
   have hto:=HM.out.to_ i u _ hu (List.getElem?_eq_getElem hlt)
   obtain ⟨aou,capu,rfl,hfu⟩:=row1_form hto
   have HFU:Hid (∀ j (x:Value),(intCells S[i].2)[j]?=some x→j<S[i].2.length→∃ g,aou=some ⟨g,0,none⟩∧g<w.heap.size∧w.cell? ⟨g,j,none⟩=some x):=hfu
   have d0:=(hB.out.cell (p:=⟨gS,i * 2,none⟩) (heap_lt hhS)).trans c0
   have d1:=(hB.out.cell (p:=⟨gS,i * 2+1,none⟩) (heap_lt hhS)).trans c1
   have hs1:=hB.out.size
   have hti:=tot_at S i hlt
   have HG1:Hid (GRow (w1.alloc (.cells #[.int .u8 (S[i].1:Nat),.slice aou S[i].2.length capu] 293)) (w.heap.size+1) (.slice (some ⟨w.heap.size+1,0,none⟩) S.length S.length) (grF S.length (preAdds false S i 0)) rv):=by rw [preAdds_start false S i hlt];exact hG.out.kpa (KpA.below (below_alloc _ _))
   have HQ:Hid ((w1.alloc (.cells #[.int .u8 (S[i].1:Nat),.slice aou S[i].2.length capu] 293)).heap[w1.heap.size]?=some (.cells #[.int .u8 (S[i].1:Nat),.slice aou S[i].2.length capu] 293 (0,0))):=heap_alloc_new w1 _
   have HB1:Hid (Below w.heap.size w (w1.alloc (.cells #[.int .u8 (S[i].1:Nat),.slice aou S[i].2.length capu] 293))):=hB.out.alloc hs1 _
   clear c0 c1 hto hfu
   go_wp2_with fail
   go_loopg [23] S[i].2.length (fun gh jv wx=>∃ j:Nat,j≤S[i].2.length∧gh=S[i].2.length - j∧jv=.int .i64 j∧∃ rv,Hid (GRow wx (w.heap.size+1) (.slice (some ⟨w.heap.size+1,0,none⟩) S.length S.length) (grF S.length (preAdds false S i j)) rv)∧Hid (wx.heap[w1.heap.size]?=some (.cells #[.int .u8 (S[i].1:Nat),.slice aou S[i].2.length capu] 293 (0,0)))∧Hid (Below w.heap.size w wx))
   case atStart=>exact ⟨0,Nat.zero_le _,rfl,rfl,rv,HG1,HQ,HB1⟩
   case round =>
    obtain ⟨j,hj,rfl,rfl,rv2,hG2,hQ2,hB2⟩:=hrel
    obtain ⟨w2,hw2⟩:∃ w2,w2=wr:=⟨wr,rfl⟩
    subst hw2
    clear HG1 HQ HB1 d0 d1
    have hs2:=hB2.out.size
    by_cases hlt2:j<S[i].2.length
    ·obtain ⟨gu,rfl,hgu,cu⟩:=HFU.out j _ (intCells_at _ j hlt2) hlt2
     have du:=(hB2.out.cell (p:=⟨gu,j,none⟩) hgu).trans cu
     have q0:=cell_of_block hQ2.out 0 _ rfl
     have q1:=cell_of_block hQ2.out 1 _ rfl
     have hyl:S[i].2[j]<S.length:=hS.to_ S[i] (List.getElem_mem hlt) _ (List.getElem_mem hlt2)
     have HP:Hid (preAdds false S i (j+1)=preAdds false S i j++[(S[i].2[j],S[i].1,i)]):=by show _=_;have:=preAdds_next false S i j hlt hlt2;simpa using this
     obtain ⟨aor,cr,hrv,hcr,hrow,cur,hcur⟩:=hG2.out.cell (i:=S[i].2[j]) (grF_len _ _) hyl
     have hll:(grF S.length (preAdds false S i j))[S[i].2[j]]?=some ((grF S.length (preAdds false S i j))[S[i].2[j]]'(by rw [grF_len];exact hyl)):=List.getElem?_eq_getElem _
     have hle:((grF S.length (preAdds false S i j))[S[i].2[j]]'(by rw [grF_len];exact hyl)).length≤9000:=by
      have h1:=grF_row S.length _ (preAdds false S i j) rfl _ (List.getElem_mem (by rw [grF_len];exact hyl))
      have h2:=preAdds_len false S i j hlt
      omega
     generalize (grF S.length (preAdds false S i j))[S[i].2[j]]'(by rw [grF_len];exact hyl)=l at hrv hcr hrow hll hle
     generalize hyv:S[i].2[j]=y at *
     generalize htv:S[i].1=tk at *
     have HRV:Hid (rv2[y]?=some (.slice aor l.length cr)):=hrv
     have HRW:Hid (w2.ownsRow (w.heap.size+1) 303 2 (.slice aor l.length cr) l.length (edCells l)):=hrow
     have HLL:Hid ((grF S.length (preAdds false S i j))[y]?=some l):=hll
     have HCU:Hid (w2.heap[w.heap.size+1]?=some (.cells cur 301 (0,0))):=hcur
     clear hrv hrow hll hcur cu
     have RA:Hid ((w2.alloc (.cells #[.int .u8 (tk:Nat),.int .i64 (i:Nat)] 303)).drew.ownsRow (w.heap.size+1) 303 2 (.slice aor l.length cr) l.length (edCells l)):=row_kp HRW.out (Kp.alloc (Kp.refl _ w2) _)
     have LA:w.heap.size+1≤(w2.alloc (.cells #[.int .u8 (tk:Nat),.int .i64 (i:Nat)] 303)).drew.heap.size:=by show _≤(w2.alloc _).heap.size;simp;omega
     have hcr':=fun o=>((below_alloc w2 o).cell (p:=⟨w.heap.size+1,y,none⟩) (heap_lt HCU.out)).trans hcr
     have q0':=fun o=>((below_alloc w2 o).cell (p:=⟨w1.heap.size,0,none⟩) (heap_lt hQ2.out)).trans q0
     go_wp2_with fail
     go_region_law
      (refine step_push2 rfl (.tmp 32) (.tmp 37) 301 rfl (w.heap.size+1) 303 (.agg #[.int .u8 0,.int .i64 0]) 2 16 Tryz.infoEd Tryz.undEd rfl (by decide) (.slice aor l.length cr) l.length (edCells l) (by simp [Act.eval]) RA.out w2.heap.size 1 [.int .u8 (tk:Nat),.int .i64 (i:Nat)] (by simp [Act.eval]) rfl (two_new w2 tk i) (two_cells _ _ rfl rfl) (by omega) (by omega) LA ?_
       intro v' w3 hown hgr hsn
       obtain ⟨ao3,c3,rfl⟩:=row_shape hown
       have HG3:Hid (w3.heap[w.heap.size+1]?=some (.cells cur 301 (0,0))):=((Kp.alloc (Kp.refl _ w2) _).grown (w:=(w2.alloc _).drew) RA.out hgr (by decide)) _ _ _ HCU.out
       have HF:Hid (GRow (w3.setCell ⟨w.heap.size+1,y,none⟩ (.slice ao3 (l.length+1) c3)) (w.heap.size+1) (.slice (some ⟨w.heap.size+1,0,none⟩) S.length S.length) (addE (grF S.length (preAdds false S i j)) (y,tk,i)) (rv2.set y (.slice ao3 (l.length+1) c3))):=add_fin hG2.out (grF_len _ _) hyl HLL.out HRV.out HRW.out hgr hown hsn HG3.out
       have HQ3:Hid (w3.heap[w1.heap.size]?=some (.cells #[.int .u8 (tk:Nat),.slice (some ⟨gu,0,none⟩) S[i].2.length capu] 293 (0,0))):=((Kp.alloc (Kp.refl _ w2) _).grown (w:=(w2.alloc _).drew) RA.out hgr (by decide)) _ _ _ hQ2.out
       have HB3:Hid (Below w.heap.size w w3):=Below.grown (w:=(w2.alloc _).drew) ((hB2.out.alloc hs2 _).drew) hgr (Nat.le_trans (Nat.le_succ _) LA) (fun k hk=>by have:=(RA.out.lt k hk).1;omega)
       have g3:=(World.cell?_of_block (a:=⟨w.heap.size+1,y,none⟩) (w:=w2) (HG3.out.trans HCU.out.symm)).trans hcr
       have f3:=free_of_block HG3.out
       clear hown hgr hsn)
     all_goals go_wp2_with fail
     all_goals go_roundg (S[i].2.length - (j+1))
     all_goals first
      | (case measure=>omega)
      | skip
     all_goals
      refine ⟨j+1,by omega,rfl,by go_num,rv2.set y (.slice ao3 (l.length+1) c3),?_,?_,?_⟩
      ·rw [HP.out,grF_snoc];exact HF
      ·show _=_;rw [Below.heap_setCell _ _ _ _ (type_ne HQ3.out HG3.out (by decide))];exact HQ3.out
      ·exact HB3.out.setCell (by show w.heap.size≤w.heap.size+1;omega) _
    ·obtain rfl:j=S[i].2.length:=by omega
     go_wp2_with fail
     go_roundg (S.length - (i+1))
     case measure=>omega
     case rel=>exact ⟨i+1,by omega,rfl,by go_num,rv2,by rw [← preAdds_end false S i hlt];exact hG2,hB2⟩
  ·go_wp2_with fail
   go_ret
   refine ⟨_,rfl,⟨rv,?_⟩,hB.out⟩
   have e:S.take i=S:=List.take_of_length_le (by omega)
   have h:=hG.out
   rw [e] at h
   have e2:(graphOf false S).length=S.length:=graph_len false S
   exact ⟨h.len,row_base0 h.row (Nat.zero_le _),fun i u l hu hl=>row_base0 (h.to_ i u l hu hl) (Nat.zero_le _),h.apart⟩
end Go.Proofs.YtodagkkjfipbgaaGreatDoor
namespace Go.Proofs.YtodagkkjfipbgaaGreatDoor
open Go.RowKit
def Makes (d:Nat) (x:Px) (base:Nat) (w:World) (f q:Nat):Prop :=
 ∀ (W:World) (m:Nat) (S:List St) (first:Int) (b:Nat),Below base w W→MIn W base m S first→S.length+wtx d x≤9000→tot S+wtx d x≤9000 →
  Calls Tryz.prog f #[.pointer (some ⟨m,0,none⟩),.int .i64 b,.pointer (some ⟨q,0,none⟩)] W fun e w'=>e=.returned (.int .i64 (mk d x S b).2)∧MIn w' base m (mk d x S b).1 first∧Below base W w'
def Enters (f:Nat):Prop:=∀ (args:Array Value) (w:World),(callFunc f args).run Tryz.prog w=.ok (.enter f args) w
def PartOk (d:Nat):Prop:=∀ (x:Px) (v:Value) (base:Nat) (w:World),PIn d (fun k=>k<base) w v x→base≤w.heap.size→∃ f q,v=fnv f q∧Enters f∧Makes d x base w f q
theorem box_on {base q:Nat} {w W:World} {cs:Array Value} {t:TypeId} (hq:q<base) (hb:Below base w W) (h:w.heap[q]?=some (.cells cs t (0,0))):W.heap[q]?=some (.cells cs t (0,0)):=by rw [hb.block q hq];exact h
set_option maxHeartbeats 1000000 in
theorem one_call (d:Nat) (x:Px) (base:Nat) (w:World) (q:Nat) (hx:x.what=0) (hq:q<base) (h:w.heap[q]?=some (.cells #[.int .u8 x.k] 167 (0,0))):Makes (d+1) x base w 255 q:=by
 intro W m S first b hW hM h1 h2
 have e:mk (d+1) x S b=(S++[(x.k,[b])],S.length):=by rw [mk,if_pos hx]
 have e2:wtx (d+1) x=1:=by rw [wtx,if_pos hx]
 rw [e2] at h1
 rw [e]
 have c0:=cell_of_block (box_on hq hW h) 0 _ rfl
 have HM:Hid (MIn W base m S first):=hM
 clear hM e e2 h h2
 go_enter Tryz.func255,Tryz.ntmps255
 go_wp2_with fail
 refine (add_new base m S first x.k b W HM.out (by omega)).mono ?_
 rintro e1 w1 ⟨rfl,h3,h4⟩
 have H3:Hid (MIn w1 base m (S++[(x.k,[b])]) first):=h3
 clear h3
 go_wp2_with fail
 go_ret
 exact ⟨rfl,H3.out,h4⟩
def rowF (d:Nat) (l:List Px) (k:Nat) (S:List St) (b:Nat):List St × Nat:=(l.drop k).foldr (fun y r=>mk d y r.1 r.2) (S,b)
theorem rowF_step (d:Nat) (l:List Px) (k:Nat) (h:k<l.length) (S:List St) (b:Nat):rowF d l k S b=mk d l[k] (rowF d l (k+1) S b).1 (rowF d l (k+1) S b).2:=by
 unfold rowF;rw [List.drop_eq_getElem_cons h];rfl
theorem rowF_adds (d:Nat) (l:List Px) (S:List St) (b:Nat):∀ k,Adds ((l.drop k).map (wtx d)).sum S (rowF d l k S b).1:=by
 intro k
 unfold rowF
 induction l.drop k with
 | nil=>simp [Adds]
 | cons y l ih=>rw [List.foldr_cons,List.map_cons,List.sum_cons];exact ih.trans (mk_adds d y _ _) (by omega)
theorem sum_drop {f:Px→Nat} (l:List Px) (k:Nat) (h:k<l.length):((l.drop k).map f).sum=f l[k]+((l.drop (k+1)).map f).sum:=by
 rw [List.drop_eq_getElem_cons h,List.map_cons,List.sum_cons]
theorem sum_drop_le {f:Px→Nat} (l:List Px):∀ k,((l.drop k).map f).sum≤(l.map f).sum:=by
 induction l with
 | nil=>simp
 | cons a l ih=>intro k;cases k with
  | zero=>simp
  | succ k=>have:=ih k;rw [List.drop_succ_cons,List.map_cons,List.sum_cons];omega
theorem PtRow.form {R:Value→Px→Prop} {A:Nat→Prop} {w:World} {v:Value} {l:List Px} (h:PtRow R A w v l) :
  ∃ ao cap,v=.slice ao l.length cap∧∀ i (hi:i<l.length),∃ g u,ao=some ⟨g,0,none⟩∧A g∧w.cell? ⟨g,i,none⟩=some u∧R u l[i]:=by
 obtain ⟨us,h1,_,⟨h2,h3⟩,h4,h5⟩:=h
 rcases h3 with ⟨hv,hn⟩ | ⟨g,cap,cur,hv,hg,hh,hcap,hmx,hsz,hcur⟩
 ·exact ⟨none,0,by rw [hv,hn],fun i hi=>by omega⟩
 ·refine ⟨some ⟨g,0,none⟩,cap,hv,fun i hi=>?_⟩
  obtain ⟨u,hu⟩:∃ u,us[i]?=some u:=⟨us[i]'(by omega),List.getElem?_eq_getElem (by omega)⟩
  refine ⟨g,u,rfl,h4 g (by rw [hv];rfl),?_,h5 i _ _ hu (List.getElem?_eq_getElem hi)⟩
  refine cell_of_block hh i _ ?_
  have e1:(cur.toList.take (l.length * 1))[i]?=some u:=by rw [hcur];exact hu
  rw [List.getElem?_take,if_pos (by omega)] at e1
  simpa using e1
set_option maxRecDepth 100000 in
set_option maxHeartbeats 4000000 in
theorem row_call (d:Nat) (hd:PartOk d) (x:Px) (base:Nat) (w:World) (q:Nat) (vR:Value) (hx:x.what=1) (hq:q<base) (hbw:base≤w.heap.size) (h:w.heap[q]?=some (.cells #[vR] 337 (0,0)))
  (hr:PtRow (PIn d (fun k=>k<base) w) (fun k=>k<base) w vR x.l):Makes (d+1) x base w 206 q:=by
 intro W m S first b hW hM h1 h2
 have e:mk (d+1) x S b=rowF d x.l 0 S b:=by rw [mk,if_neg (by omega),if_pos hx];rfl
 have e2:wtx (d+1) x=(x.l.map (wtx d)).sum:=by rw [wtx,if_neg (by omega),if_pos hx]
 rw [e2] at h1 h2
 rw [e]
 obtain ⟨l,hl⟩:∃ l,l=x.l:=⟨_,rfl⟩
 rw [← hl] at hr h1 h2 ⊢
 have hlen:=hr.len
 obtain ⟨ao,cap,rfl,hcs⟩:=hr.form
 have c0:=cell_of_block (box_on hq hW h) 0 _ rfl
 have HM:Hid (MIn W base m S first):=hM
 have HC:Hid (∀ i (hi:i<l.length),∃ g u,ao=some ⟨g,0,none⟩∧g<base∧w.cell? ⟨g,i,none⟩=some u∧PIn d (fun k=>k<base) w u l[i]):=hcs
 have HS:Hid (S.length+(l.map (wtx d)).sum≤9000∧tot S+(l.map (wtx d)).sum≤9000):=⟨h1,h2⟩
 clear hM hr hcs hl e e2 hx h h1 h2
 go_enter Tryz.func206,Tryz.ntmps206
 go_wp2_with fail
 go_loopg [1,6] l.length (fun g bv iv wx=>∃ k:Nat,k≤l.length∧g=k∧iv=.int .i64 ((k:Int) - 1)∧bv=.int .i64 (rowF d l k S b).2∧Hid (MIn wx base m (rowF d l k S b).1 first)∧Below base W wx)
 case atStart=>exact ⟨l.length,Nat.le_refl _,rfl,rfl,by unfold rowF;simp,by unfold rowF;simpa using HM,Below.refl _ _⟩
 case round =>
  obtain ⟨k,hk,hgk,rfl,rfl,hM1,hb1⟩:=hrel
  have hgk':k=gk:=hgk.symm
  subst hgk'
  clear hgk
  obtain ⟨w1,hw1⟩:∃ w1,w1=wr:=⟨wr,rfl⟩
  subst hw1
  have c1:=(hb1.cell (p:=⟨q,0,none⟩) hq).trans c0
  cases k with
  | zero =>
   go_wp2_with fail
   go_ret
   exact ⟨rfl,hM1.out,hb1⟩
  | succ k =>
   obtain ⟨g,u,rfl,hg,hu,hp⟩:=HC.out k (by omega)
   obtain ⟨f,q',rfl,hen,hmk⟩:=hd _ _ _ _ hp hbw
   have hu1:w1.cell? ⟨g,k,none⟩=some (fnv f q'):=(hb1.cell (p:=⟨g,k,none⟩) hg).trans ((hW.cell (p:=⟨g,k,none⟩) hg).trans hu)
   have hst:=rowF_step d l k (by omega) S b
   have had:=rowF_adds d l S b (k+1)
   have hsd:=sum_drop (f:=wtx d) l k (by omega)
   have hsl:=sum_drop_le (f:=wtx d) l k
   have hcall:=hmk w1 m (rowF d l (k+1) S b).1 first (rowF d l (k+1) S b).2 (hW.trans hb1) hM1.out (by have:=HS.out;have:=had.2.1;omega) (by have:=HS.out;have:=had.2.2;omega)
   rw [← hst] at hcall
   have HK:Hid (Calls Tryz.prog f #[.pointer (some ⟨m,0,none⟩),.int .i64 (rowF d l (k+1) S b).2,.pointer (some ⟨q',0,none⟩)] w1 fun e w'=>e=.returned (.int .i64 (rowF d l k S b).2)∧MIn w' base m (rowF d l k S b).1 first∧Below base w1 w'):=hcall
   clear hcall hmk hst had hsd hsl hp hu
   unfold Enters at hen
   unfold fnv at hu1
   go_wp2_with fail
   refine HK.out.mono ?_
   rintro e1 w2 ⟨rfl,h3,h4⟩
   have H3:Hid (MIn w2 base m (rowF d l k S b).1 first):=h3
   clear h3
   go_wp2_with fail
   go_roundg k
   case measure=>omega
   case rel=>exact ⟨k,by omega,rfl,by go_num,rfl,H3,hb1.trans h4⟩
def eithF (d:Nat) (l:List Px) (k:Nat) (Z:List St) (f b:Nat):List St:=(l.take k).foldl (fun Z y=>leadS (mk d y Z b).1 f (mk d y Z b).2) Z
theorem eithF_step (d:Nat) (l:List Px) (k:Nat) (h:k<l.length) (Z:List St) (f b:Nat):eithF d l (k+1) Z f b=leadS (mk d l[k] (eithF d l k Z f b) b).1 f (mk d l[k] (eithF d l k Z f b) b).2:=by
 unfold eithF;rw [List.take_succ_eq_append_getElem h,List.foldl_append];rfl
theorem eithF_adds (d:Nat) (l:List Px) (f b:Nat):∀ (k:Nat) (Z:List St),Adds ((l.take k).map fun y=>1+wtx d y).sum Z (eithF d l k Z f b):=by
 intro k
 unfold eithF
 induction l.take k with
 | nil=>intro Z;simp [Adds]
 | cons y l ih =>
  intro Z
  rw [List.foldl_cons,List.map_cons,List.sum_cons]
  have h2:Adds 1 (mk d y Z b).1 (leadS (mk d y Z b).1 f (mk d y Z b).2):=⟨by rw [leadS_len];omega,by rw [leadS_len];omega,leadS_tot _ _ _⟩
  exact ((mk_adds d y Z b).trans h2 (Nat.le_refl _)).trans (ih _) (by omega)
theorem sum_take {f:Px→Nat} (l:List Px) (k:Nat) (h:k<l.length):((l.take (k+1)).map f).sum=((l.take k).map f).sum+f l[k]:=by
 rw [List.take_succ_eq_append_getElem h,List.map_append,List.sum_append];simp
theorem sum_take_le {f:Px→Nat} (l:List Px):∀ k,((l.take k).map f).sum≤(l.map f).sum:=by
 induction l with
 | nil=>simp
 | cons a l ih=>intro k;cases k with
  | zero=>simp
  | succ k=>have:=ih k;rw [List.take_succ_cons,List.map_cons,List.sum_cons,List.map_cons,List.sum_cons];omega
set_option maxRecDepth 100000 in
set_option maxHeartbeats 4000000 in
theorem either_call (d:Nat) (hd:PartOk d) (x:Px) (base:Nat) (w:World) (q:Nat) (vR:Value) (hx:x.what=2) (hq:q<base) (hbw:base≤w.heap.size) (h:w.heap[q]?=some (.cells #[vR] 337 (0,0)))
  (hr:PtRow (PIn d (fun k=>k<base) w) (fun k=>k<base) w vR x.l):Makes (d+1) x base w 225 q:=by
 intro W m S first b hW hM h1 h2
 have e:mk (d+1) x S b=(eithF d x.l x.l.length (S++[(0,[])]) S.length b,S.length):=by rw [mk,if_neg (by omega),if_neg (by omega),if_pos hx];unfold eithF;rw [List.take_length]
 have e2:wtx (d+1) x=1+(x.l.map fun y=>1+wtx d y).sum:=by rw [wtx,if_neg (by omega),if_neg (by omega),if_pos hx]
 rw [e2] at h1 h2
 rw [e]
 obtain ⟨l,hl⟩:∃ l,l=x.l:=⟨_,rfl⟩
 rw [← hl] at hr h1 h2 ⊢
 obtain ⟨ao,cap,rfl,hcs⟩:=hr.form
 have hlen:l.length≤9000:=by
  have:∀ l:List Px,l.length≤(l.map fun y=>1+wtx d y).sum:=by
   intro l;induction l with
   | nil=>simp
   | cons a l ih=>rw [List.map_cons,List.sum_cons,List.length_cons];omega
  have:=this l;omega
 have c0:=cell_of_block (box_on hq hW h) 0 _ rfl
 have HM:Hid (MIn W base m S first):=hM
 have HC:Hid (∀ i (hi:i<l.length),∃ g u,ao=some ⟨g,0,none⟩∧g<base∧w.cell? ⟨g,i,none⟩=some u∧PIn d (fun k=>k<base) w u l[i]):=hcs
 have HS:Hid (S.length+(1+(l.map fun y=>1+wtx d y).sum)≤9000∧tot S+(1+(l.map fun y=>1+wtx d y).sum)≤9000):=⟨h1,h2⟩
 have hSl:S.length≤9000:=by omega
 have hz:(S++[((0:Nat),([]:List Nat))]).length=S.length+1∧tot (S++[(0,[])])=tot S:=by constructor <;> simp [tot]
 obtain ⟨Z,hZ⟩:∃ Z,Z=S++[((0:Nat),([]:List Nat))]:=⟨_,rfl⟩
 rw [← hZ] at hz ⊢
 have HZ:Hid (Z.length=S.length+1∧tot Z=tot S):=hz
 have HE:Hid (Z=S++[((0:Nat),([]:List Nat))]):=hZ
 clear hM hr hcs hl e e2 hx h h1 h2 hz hZ
 go_enter Tryz.func225,Tryz.ntmps225
 go_wp2_with fail
 refine (add_nil base m S first 0 W HM.out hSl).mono ?_
 rintro e1 w0 ⟨rfl,h3,h4⟩
 rw [← HE.out] at h3
 have H3:Hid (MIn w0 base m Z first):=h3
 clear h3
 have c1:=(h4.cell (p:=⟨q,0,none⟩) hq).trans c0
 go_wp2_with fail
 go_loopg [13] l.length (fun g iv wx=>∃ k:Nat,k≤l.length∧g=l.length - k∧iv=.int .i64 k∧Hid (MIn wx base m (eithF d l k Z S.length b) first)∧Below base W wx)
 case atStart=>exact ⟨0,Nat.zero_le _,rfl,rfl,by unfold eithF;simpa using H3,h4⟩
 case round =>
  obtain ⟨k,hk,rfl,rfl,hM1,hb1⟩:=hrel
  obtain ⟨w1,hw1⟩:∃ w1,w1=wr:=⟨wr,rfl⟩
  subst hw1
  by_cases hlt:k<l.length
  ·obtain ⟨g,u,rfl,hg,hu,hp⟩:=HC.out k hlt
   obtain ⟨f,q',rfl,hen,hmk⟩:=hd _ _ _ _ hp hbw
   have hu1:w1.cell? ⟨g,k,none⟩=some (fnv f q'):=(hb1.cell (p:=⟨g,k,none⟩) hg).trans ((hW.cell (p:=⟨g,k,none⟩) hg).trans hu)
   have hst:=eithF_step d l k hlt Z S.length b
   have had:=eithF_adds d l S.length b k Z
   have hsd:=sum_take (f:=fun y=>1+wtx d y) l k hlt
   have hsl:=sum_take_le (f:=fun y=>1+wtx d y) l (k+1)
   have hmk1:=mk_adds d l[k] (eithF d l k Z S.length b) b
   have hcall:=hmk w1 m (eithF d l k Z S.length b) first b (hW.trans hb1) hM1.out (by have:=HS.out;have:=HZ.out;have:=had.2.1;omega) (by have:=HS.out;have:=HZ.out;have:=had.2.2;omega)
   have HB:Hid (S.length<(mk d l[k] (eithF d l k Z S.length b) b).1.length∧(mk d l[k] (eithF d l k Z S.length b) b).1.length≤9000∧tot (mk d l[k] (eithF d l k Z S.length b) b).1≤9000):=by
    have:=HS.out;have:=HZ.out;have:=had.1;have:=had.2.1;have:=had.2.2;have:=hmk1.1;have:=hmk1.2.1;have:=hmk1.2.2
    refine ⟨by omega,by omega,by omega⟩
   have HST:Hid (eithF d l (k+1) Z S.length b=leadS (mk d l[k] (eithF d l k Z S.length b) b).1 S.length (mk d l[k] (eithF d l k Z S.length b) b).2):=hst
   obtain ⟨R,hR⟩:∃ R,R=mk d l[k] (eithF d l k Z S.length b) b:=⟨_,rfl⟩
   rw [← hR] at hcall HB HST
   have HK:Hid (Calls Tryz.prog f #[.pointer (some ⟨m,0,none⟩),.int .i64 b,.pointer (some ⟨q',0,none⟩)] w1 fun e w'=>e=.returned (.int .i64 R.2)∧MIn w' base m R.1 first∧Below base w1 w'):=hcall
   clear hcall hmk hst had hsd hsl hp hu hmk1 hR
   unfold Enters at hen
   unfold fnv at hu1
   go_wp2_with fail
   refine HK.out.mono ?_
   rintro e1 w2 ⟨rfl,h5,h6⟩
   have H5:Hid (MIn w2 base m R.1 first):=h5
   clear h5
   go_wp2_with fail
   refine (lead_new base m R.1 first S.length R.2 w2 H5.out HB.out.1 HB.out.2.1 HB.out.2.2).mono ?_
   rintro e2 w3 ⟨rfl,h7,h8⟩
   rw [← HST.out] at h7
   have H7:Hid (MIn w3 base m (eithF d l (k+1) Z S.length b) first):=h7
   clear h7
   go_wp2_with fail
   go_roundg (l.length - (k+1))
   case measure=>omega
   case rel=>exact ⟨k+1,by omega,rfl,by go_num,H7,(hb1.trans h6).trans h8⟩
  ·have hkk:Hid (k=l.length):=by show k=l.length;omega
   go_wp2_with fail
   go_ret
   exact ⟨rfl,by rw [← hkk.out];exact hM1.out,hb1⟩
set_option maxRecDepth 100000 in
set_option maxHeartbeats 2000000 in
theorem loop_any (d:Nat) (y:Px) (base:Nat) (w:World) (f q:Nat) (hen:Enters f) (hmk:Makes d y base w f q) (W:World) (m:Nat) (S:List St) (first:Int) (b:Nat) (hW:Below base w W) (hM:MIn W base m S first) (h1:S.length+(2+wtx d y)≤9000) (h2:tot S+(2+wtx d y)≤9000) :
  Calls Tryz.prog 251 #[.pointer (some ⟨m,0,none⟩),fnv f q,.int .i64 b] W fun e w'=>e=.returned (.tuple #[.int .i64 S.length,.int .i64 (mk d y (S++[(0,[b])]) S.length).2]) ∧
   MIn w' base m (leadS (mk d y (S++[(0,[b])]) S.length).1 S.length (mk d y (S++[(0,[b])]) S.length).2) first∧Below base W w':=by
 have HM:Hid (MIn W base m S first):=hM
 have hSl:S.length≤9000:=by omega
 have hz:(S++[((0:Nat),[b])]).length=S.length+1∧tot (S++[(0,[b])])=tot S+1:=by constructor <;> simp [tot]
 obtain ⟨Z,hZ⟩:∃ Z,Z=S++[((0:Nat),[b])]:=⟨_,rfl⟩
 rw [← hZ] at hz ⊢
 have HE:Hid (Z=S++[((0:Nat),[b])]):=hZ
 have hadd:=mk_adds d y Z S.length
 have hcall:=fun W1 (hb:Below base W W1) (hm:MIn W1 base m Z first)=>hmk W1 m Z first S.length (hW.trans hb) hm (by omega) (by omega)
 obtain ⟨R,hR⟩:∃ R,R=mk d y Z S.length:=⟨_,rfl⟩
 rw [← hR] at hadd ⊢
 have HB:Hid (S.length<R.1.length∧R.1.length≤9000∧tot R.1≤9000):=by
  obtain ⟨a1,a2,a3⟩:=hadd
  exact ⟨by omega,by omega,by omega⟩
 have HK:Hid (∀ W1,Below base W W1→MIn W1 base m Z first→Calls Tryz.prog f #[.pointer (some ⟨m,0,none⟩),.int .i64 S.length,.pointer (some ⟨q,0,none⟩)] W1 fun e w'=>e=.returned (.int .i64 R.2)∧MIn w' base m R.1 first∧Below base W1 w'):=by
  intro W1 hb hm
  have:=hcall W1 hb hm
  rw [← hR] at this
  exact this
 clear hM h1 h2 hz hZ hcall hadd hR hmk
 unfold Enters at hen
 unfold fnv
 go_enter Tryz.func251,Tryz.ntmps251
 go_wp2_with fail
 refine (add_new base m S first 0 b W HM.out hSl).mono ?_
 rintro e1 w1 ⟨rfl,h3,h4⟩
 rw [← HE.out] at h3
 have H3:Hid (MIn w1 base m Z first):=h3
 clear h3
 go_wp2_with fail
 refine (HK.out w1 h4 H3.out).mono ?_
 rintro e2 w2 ⟨rfl,h5,h6⟩
 have H5:Hid (MIn w2 base m R.1 first):=h5
 clear h5
 go_wp2_with fail
 refine (lead_new base m R.1 first S.length R.2 w2 H5.out HB.out.1 HB.out.2.1 HB.out.2.2).mono ?_
 rintro e3 w3 ⟨rfl,h7,h8⟩
 have H7:Hid (MIn w3 base m (leadS R.1 S.length R.2) first):=h7
 clear h7
 go_wp2_with fail
 go_ret2
 exact ⟨rfl,H7.out,(h4.trans h6).trans h8⟩
set_option maxHeartbeats 1000000 in
theorem star_call (d:Nat) (hd:PartOk d) (x y:Px) (base:Nat) (w:World) (q:Nat) (u:Value) (hx:x.what=3) (hl:x.l=[y]) (hq:q<base) (hbw:base≤w.heap.size) (h:w.heap[q]?=some (.cells #[u] 224 (0,0)))
  (hp:PIn d (fun k=>k<base) w u y):Makes (d+1) x base w 250 q:=by
 intro W m S first b hW hM h1 h2
 obtain ⟨f,q',rfl,hen,hmk⟩:=hd _ _ _ _ hp hbw
 have e:mk (d+1) x S b=(leadS (mk d y (S++[(0,[b])]) S.length).1 S.length (mk d y (S++[(0,[b])]) S.length).2,S.length):=by
  rw [mk,if_neg (by omega),if_neg (by omega),if_neg (by omega),hl];simp [hx]
 have e2:wtx (d+1) x=2+wtx d y:=by rw [wtx,if_neg (by omega),if_neg (by omega),if_neg (by omega),hl];simp
 rw [e2] at h1 h2
 rw [e]
 have hcall:=loop_any d y base w f q' hen hmk W m S first b hW hM h1 h2
 obtain ⟨R,hR⟩:∃ R,R=mk d y (S++[(0,[b])]) S.length:=⟨_,rfl⟩
 rw [← hR] at hcall ⊢
 have HK:Hid (Calls Tryz.prog 251 #[.pointer (some ⟨m,0,none⟩),fnv f q',.int .i64 b] W fun e w'=>e=.returned (.tuple #[.int .i64 S.length,.int .i64 R.2])∧MIn w' base m (leadS R.1 S.length R.2) first∧Below base W w'):=hcall
 have c0:=cell_of_block (box_on hq hW h) 0 _ rfl
 clear hcall hmk hM h1 h2 e e2 hp h hR hx hl
 obtain ⟨v,hv⟩:∃ v,v=fnv f q':=⟨_,rfl⟩
 rw [← hv] at HK c0
 clear hv
 go_enter Tryz.func250,Tryz.ntmps250
 go_wp2_with fail
 refine HK.out.mono ?_
 rintro e1 w1 ⟨rfl,h3,h4⟩
 have H3:Hid (MIn w1 base m (leadS R.1 S.length R.2) first):=h3
 clear h3
 go_wp2_with fail
 go_ret
 exact ⟨rfl,H3.out,h4⟩
set_option maxHeartbeats 1000000 in
theorem plus_call (d:Nat) (hd:PartOk d) (x y:Px) (base:Nat) (w:World) (q:Nat) (u:Value) (hx:x.what=4) (hl:x.l=[y]) (hq:q<base) (hbw:base≤w.heap.size) (h:w.heap[q]?=some (.cells #[u] 224 (0,0)))
  (hp:PIn d (fun k=>k<base) w u y):Makes (d+1) x base w 252 q:=by
 intro W m S first b hW hM h1 h2
 obtain ⟨f,q',rfl,hen,hmk⟩:=hd _ _ _ _ hp hbw
 have e:mk (d+1) x S b=(leadS (mk d y (S++[(0,[b])]) S.length).1 S.length (mk d y (S++[(0,[b])]) S.length).2,(mk d y (S++[(0,[b])]) S.length).2):=by
  rw [mk,if_neg (by omega),if_neg (by omega),if_neg (by omega),hl];simp [hx]
 have e2:wtx (d+1) x=2+wtx d y:=by rw [wtx,if_neg (by omega),if_neg (by omega),if_neg (by omega),hl];simp
 rw [e2] at h1 h2
 rw [e]
 have hcall:=loop_any d y base w f q' hen hmk W m S first b hW hM h1 h2
 obtain ⟨R,hR⟩:∃ R,R=mk d y (S++[(0,[b])]) S.length:=⟨_,rfl⟩
 rw [← hR] at hcall ⊢
 have HK:Hid (Calls Tryz.prog 251 #[.pointer (some ⟨m,0,none⟩),fnv f q',.int .i64 b] W fun e w'=>e=.returned (.tuple #[.int .i64 S.length,.int .i64 R.2])∧MIn w' base m (leadS R.1 S.length R.2) first∧Below base W w'):=hcall
 have c0:=cell_of_block (box_on hq hW h) 0 _ rfl
 clear hcall hmk hM h1 h2 e e2 hp h hR hx hl
 obtain ⟨v,hv⟩:∃ v,v=fnv f q':=⟨_,rfl⟩
 rw [← hv] at HK c0
 clear hv
 go_enter Tryz.func252,Tryz.ntmps252
 go_wp2_with fail
 refine HK.out.mono ?_
 rintro e1 w1 ⟨rfl,h3,h4⟩
 have H3:Hid (MIn w1 base m (leadS R.1 S.length R.2) first):=h3
 clear h3
 go_wp2_with fail
 go_ret
 exact ⟨rfl,H3.out,h4⟩
theorem part_ok:∀ d,PartOk d:=by
 intro d
 induction d with
 | zero=>intro x v base w h;exact h.elim
 | succ d ih =>
  intro x v base w h hb
  obtain ⟨q,hq,h⟩:=h
  rcases h with ⟨h1,h2,h3,_⟩ | ⟨h1,h2,vR,h3,h4⟩ | ⟨h1,h2,vR,h3,h4⟩ | ⟨h1,h2,u,y,h3,h4,h5⟩ | ⟨h1,h2,u,y,h3,h4,h5⟩
  ·exact ⟨_,q,h2,enters_of Tryz.func255 (by kernel_rfl) rfl,one_call d x base w q h1 hq h3⟩
  ·exact ⟨_,q,h2,enters_of Tryz.func206 (by kernel_rfl) rfl,row_call d ih x base w q vR h1 hq hb h3 h4⟩
  ·exact ⟨_,q,h2,enters_of Tryz.func225 (by kernel_rfl) rfl,either_call d ih x base w q vR h1 hq hb h3 h4⟩
  ·exact ⟨_,q,h2,enters_of Tryz.func250 (by kernel_rfl) rfl,star_call d ih x y base w q u h1 h3 hq hb h4 h5⟩
  ·exact ⟨_,q,h2,enters_of Tryz.func252 (by kernel_rfl) rfl,plus_call d ih x y base w q u h1 h3 hq hb h4 h5⟩
end Go.Proofs.YtodagkkjfipbgaaGreatDoor
