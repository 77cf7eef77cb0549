import Derived.Deep.DeepCutAuto
import Derived.Deep.CutBlock
import Derived.Deep.RegionLaw
import Derived.Test.YtodagkkjfipbgaaGreatDoorBtoW3
namespace Go.Proofs.YtodagkkjfipbgaaGreatDoor
open Go.RowKit
set_option maxHeartbeats 400000 in
theorem isBlank_any (c:UInt8) (w:World) :
  Calls Tryz.prog 124 #[.int .u8 c.toNat] w fun e w'=>e=.returned (.bool (blankN c.toNat))∧w'=w:=by
 go_enter Tryz.func124,Tryz.ntmps124
 go_wp2
 all_goals (go_ret;refine ⟨ret_bool ?_,rfl⟩;rw [Bool.eq_iff_iff];simp [blankN];omega)
set_option maxHeartbeats 1000000 in
theorem isWordByte_any (c:UInt8) (w:World) :
  Calls Tryz.prog 125 #[.int .u8 c.toNat] w fun e w'=>e=.returned (.bool (letterN c.toNat))∧w'=w:=by
 have hc:c.toNat<256:=c.toNat_lt
 have hr:c.toNat<48∨(48≤c.toNat∧c.toNat≤57)∨(58≤c.toNat∧c.toNat≤64)∨(65≤c.toNat∧c.toNat≤90)∨(91≤c.toNat∧c.toNat≤96)∨(97≤c.toNat∧c.toNat≤122)∨123≤c.toNat:=by omega
 rcases hr with hr | ⟨hr,hr'⟩ | ⟨hr,hr'⟩ | ⟨hr,hr'⟩ | ⟨hr,hr'⟩ | ⟨hr,hr'⟩ | hr
 all_goals
  go_enter Tryz.func125,Tryz.ntmps125
  go_wp2
  go_ret
  refine ⟨ret_bool ?_,rfl⟩
  rw [Bool.eq_iff_iff];simp [letterN];omega
def pf (fault no:Int):Int:=if fault=0 then no else fault
def pp (fault at_ place:Int):Int:=if fault=0 then at_ else place
def pcell (T:ByteArray) (at_ en:Int) (vN vE vL:Value) (fault place:Int):Array Value :=
 #[.string T,.int .i64 at_,.int .i64 en,vN,vE,vL,.int .i64 fault,.int .i64 place]
def PBlk (w:World) (b:Nat) (T:ByteArray) (at_ en:Int) (vN vE vL:Value) (fault place:Int):Prop :=
 w.heap[b]?=some (.cells (pcell T at_ en vN vE vL fault place) 141 (0,0))
theorem pcells {w:World} {b:Nat} {T:ByteArray} {at_ en:Int} {vN vE vL:Value} {fault place:Int} (h:PBlk w b T at_ en vN vE vL fault place) :
  w.cell? ⟨b,0,none⟩=some (.string T)∧w.cell? ⟨b,1,none⟩=some (.int .i64 at_)∧w.cell? ⟨b,2,none⟩=some (.int .i64 en)∧w.cell? ⟨b,3,none⟩=some vN∧w.cell? ⟨b,4,none⟩=some vE∧w.cell? ⟨b,5,none⟩=some vL ∧
  w.cell? ⟨b,6,none⟩=some (.int .i64 fault)∧w.cell? ⟨b,7,none⟩=some (.int .i64 place)∧(∀ o,w.frozen? ⟨b,o,none⟩=false) :=
 ⟨cell_of_block h _ _ rfl,cell_of_block h _ _ rfl,cell_of_block h _ _ rfl,cell_of_block h _ _ rfl,cell_of_block h _ _ rfl,cell_of_block h _ _ rfl,cell_of_block h _ _ rfl,cell_of_block h _ _ rfl,free_of_block h⟩
set_option maxHeartbeats 1000000 in
theorem now_any (b:Nat) (T:ByteArray) (a e:Nat) (vN vE vL:Value) (fault place:Int) (w:World) (h:PBlk w b T a e vN vE vL fault place) (h1:a≤e) (h2:e≤T.size) :
  Calls Tryz.prog 127 #[.pointer (some ⟨b,0,none⟩)] w fun r w'=>r=.returned (.string (T.extract a e))∧∃ n,w'=w.drewN n:=by
 obtain ⟨c0,c1,c2,c3,c4,c5,c6,c7,hf⟩:=pcells h
 go_enter Tryz.func127,Tryz.ntmps127
 go_wp2
 go_quiet (fail)
 go_wp2
 go_ret
 exact ⟨rfl,_,rfl⟩
set_option maxHeartbeats 1000000 in
theorem ended_any (b:Nat) (T:ByteArray) (a e:Nat) (vN vE vL:Value) (fault place:Int) (w:World) (h:PBlk w b T a e vN vE vL fault place) :
  Calls Tryz.prog 79 #[.pointer (some ⟨b,0,none⟩)] w fun r w'=>r=.returned (.bool (decide (a=T.size)))∧∃ n,w'=w.drewN n:=by
 obtain ⟨c0,c1,c2,c3,c4,c5,c6,c7,hf⟩:=pcells h
 go_enter Tryz.func79,Tryz.ntmps79
 go_wp2
 go_quiet (fail)
 go_wp2
 go_ret
 refine ⟨ret_bool ?_,_,rfl⟩
 rw [Bool.eq_iff_iff];simp;omega
theorem pset4 {w:World} {b:Nat} {T:ByteArray} {a e:Int} {vN vE vL:Value} {fault place:Int} (h:PBlk w b T a e vN vE vL fault place) (no at_:Int) (x:Int) :
  PBlk ((((w.setCell ⟨b,6,none⟩ (.int .i64 no)).setCell ⟨b,7,none⟩ (.int .i64 at_)).setCell ⟨b,1,none⟩ (.int .i64 x)).setCell ⟨b,2,none⟩ (.int .i64 x)) b T x x vN vE vL no at_ ∧
  Chg (fun k=>k=b) w ((((w.setCell ⟨b,6,none⟩ (.int .i64 no)).setCell ⟨b,7,none⟩ (.int .i64 at_)).setCell ⟨b,1,none⟩ (.int .i64 x)).setCell ⟨b,2,none⟩ (.int .i64 x)) :=
 ⟨(block_setCell (block_setCell (block_setCell (block_setCell h 6 _) 7 _) 1 _) 2 _).trans rfl,((((Chg.refl _ _).set1 _).set1 _).set1 _).set1 _⟩
theorem pset2 {w:World} {b:Nat} {T:ByteArray} {a e:Int} {vN vE vL:Value} {fault place:Int} (h:PBlk w b T a e vN vE vL fault place) (x:Int) :
  PBlk ((w.setCell ⟨b,1,none⟩ (.int .i64 x)).setCell ⟨b,2,none⟩ (.int .i64 x)) b T x x vN vE vL fault place∧Chg (fun k=>k=b) w ((w.setCell ⟨b,1,none⟩ (.int .i64 x)).setCell ⟨b,2,none⟩ (.int .i64 x)) :=
 ⟨(block_setCell (block_setCell h 1 _) 2 _).trans rfl,((Chg.refl _ _).set1 _).set1 _⟩
set_option maxHeartbeats 1000000 in
theorem failAt_any (b:Nat) (T:ByteArray) (a e:Nat) (vN vE vL:Value) (fault place:Int) (no at_:Int) (w:World) (h:PBlk w b T a e vN vE vL fault place) :
  Calls Tryz.prog 134 #[.pointer (some ⟨b,0,none⟩),.int .i64 no,.int .i64 at_] w fun r w'=>r=.returned (.tuple #[])∧PBlk w' b T T.size T.size vN vE vL (pf fault no) (pp fault at_ place)∧Chg (fun k=>k=b) w w':=by
 obtain ⟨c0,c1,c2,c3,c4,c5,c6,c7,hf⟩:=pcells h
 have HH:Hid (PBlk w b T a e vN vE vL fault place):=h
 clear h
 by_cases h0:fault=0
 ·have k0:(fault == 0)=true:=by rw [beq_iff_eq];exact h0
  have e1:pf fault no=no:=by unfold pf;rw [if_pos h0]
  have e2:pp fault at_ place=at_:=by unfold pp;rw [if_pos h0]
  rw [e1,e2]
  clear h0 e1 e2
  go_enter Tryz.func134,Tryz.ntmps134
  go_wp2
  go_region
  all_goals (try go_wp2)
  all_goals go_end0
  all_goals exact ⟨rfl,(pset4 HH.out no at_ _).1,(pset4 HH.out no at_ _).2.drew⟩
 ·have k0:(fault == 0)=false:=by rw [beq_eq_false_iff_ne];exact h0
  have e1:pf fault no=fault:=by unfold pf;rw [if_neg h0]
  have e2:pp fault at_ place=place:=by unfold pp;rw [if_neg h0]
  rw [e1,e2]
  clear h0 e1 e2
  go_enter Tryz.func134,Tryz.ntmps134
  go_wp2
  go_region
  all_goals (try go_wp2)
  all_goals go_end0
  all_goals exact ⟨rfl,(pset2 HH.out _).1,(pset2 HH.out _).2.drew⟩
set_option maxHeartbeats 1000000 in
theorem fail_pr (b:Nat) (T:ByteArray) (a e:Nat) (vN vE vL:Value) (fault place:Int) (no:Int) (w:World) (h:PBlk w b T a e vN vE vL fault place) :
  Calls Tryz.prog 80 #[.pointer (some ⟨b,0,none⟩),.int .i64 no] w fun r w'=>r=.returned (.tuple #[])∧PBlk w' b T T.size T.size vN vE vL (pf fault no) (pp fault (a:Int) place)∧Chg (fun k=>k=b) w w':=by
 obtain ⟨c0,c1,c2,c3,c4,c5,c6,c7,hf⟩:=pcells h
 go_enter Tryz.func80,Tryz.ntmps80
 go_wp2_with fail
 refine (failAt_any b T a e vN vE vL fault place no a _ h).mono ?_
 rintro r w1 ⟨rfl,h1,c1'⟩
 have H1:Hid (PBlk w1 b T T.size T.size vN vE vL (pf fault no) (pp fault (a:Int) place)):=h1
 clear h1
 go_wp2_with fail
 go_end0
 exact ⟨rfl,H1.out,c1'⟩
set_option maxHeartbeats 1000000 in
theorem index_any (v:Value) (base:Nat) (names:List ByteArray) (s:ByteArray) (w:World) (hN:w.ownsRow base 9 1 v names.length (names.map .string)) (hl:names.length≤100) :
  Calls Tryz.prog 169 #[v,.string s] w fun e w'=>e=.returned (.int .i64 (clsIx names s.toList))∧w'=w:=by
 have hform:∃ ao cap,v=.slice ao names.length cap∧∀ i (hi:i<names.length),∃ g,ao=some ⟨g,0,none⟩∧w.cell? ⟨g,i,none⟩=some (.string names[i]):=by
  obtain ⟨h1,h2⟩:=hN
  rcases h2 with ⟨hv,hn⟩ | ⟨g,cap,cur,hv,hg,hh,hcap,hmx,hsz,hcur⟩
  ·exact ⟨none,0,by rw [hv,hn],fun i hi=>by omega⟩
  ·refine ⟨some ⟨g,0,none⟩,cap,hv,fun i hi=>⟨g,rfl,?_⟩⟩
   refine cell_of_block hh i _ ?_
   have e1:(cur.toList.take (names.length * 1))[i]?=some (.string names[i]):=by rw [hcur];simp [hi]
   rw [List.getElem?_take] at e1
   rw [if_pos (by omega)] at e1
   simpa using e1
 obtain ⟨ao,cap,hv,hcells⟩:=hform
 subst hv
 have HC:Hid (∀ i (hi:i<names.length),∃ g,ao=some ⟨g,0,none⟩∧w.cell? ⟨g,i,none⟩=some (.string names[i])):=hcells
 clear hcells hN
 go_enter Tryz.func169,Tryz.ntmps169
 go_wp2
 go_loop [8] (fun v=>∃ i:Nat,i≤names.length∧v=.int .i64 i∧Hid (∀ j (_:j<i) (hj:j<names.length),(s.toList == names[j].toList)=false)) (fun v=>names.length - (intOf v).toNat)
 case atStart=>exact ⟨0,Nat.zero_le _,rfl,fun j hj=>by omega⟩
 case round =>
  obtain ⟨i,hi,rfl,hnot⟩:=hrel
  by_cases hlt:i<names.length
  ·obtain ⟨g,rfl,hcell⟩:=HC.out i hlt
   cases he:(s.toList == names[i].toList)
   ·go_wp2
    go_round
    case rel=>exact ⟨i+1,by omega,by go_num,fun j hj hj2=>if e:j=i then by subst e;exact he else hnot.out j (by omega) hj2⟩
    case measure=>simp [intOf];omega
   ·go_wp2
    go_ret
    exact ⟨ret_int (clsIx_some hlt (by rw [BEq.comm];exact he) (fun j hj hj2=>by rw [BEq.comm];exact hnot.out j hj hj2)).symm,rfl⟩
  ·go_wp2
   go_ret
   exact ⟨ret_int (clsIx_none (fun j hj=>by rw [BEq.comm];exact hnot.out j (by omega) hj)).symm,rfl⟩
theorem pset_at {w:World} {b:Nat} {T:ByteArray} {a e:Int} {vN vE vL:Value} {fault place:Int} (h:PBlk w b T a e vN vE vL fault place) (x:Int):PBlk (w.setCell ⟨b,1,none⟩ (.int .i64 x)) b T x e vN vE vL fault place:=(block_setCell h 1 _).trans rfl
theorem pset_en {w:World} {b:Nat} {T:ByteArray} {a e:Int} {vN vE vL:Value} {fault place:Int} (h:PBlk w b T a e vN vE vL fault place) (x:Int):PBlk (w.setCell ⟨b,2,none⟩ (.int .i64 x)) b T a x vN vE vL fault place:=(block_setCell h 2 _).trans rfl
set_option maxRecDepth 100000 in
set_option maxHeartbeats 4000000 in
theorem step_any (b:Nat) (T:ByteArray) (a e:Nat) (vN vE vL:Value) (fault place:Int) (w:World) (h:PBlk w b T a e vN vE vL fault place) (he:e≤T.size) (hT:T.size≤1000) :
  Calls Tryz.prog 75 #[.pointer (some ⟨b,0,none⟩)] w fun r w'=>r=.returned (.tuple #[])∧PBlk w' b T (skip T e:Nat) (tokEnd T (skip T e):Nat) vN vE vL fault place∧Chg (fun k=>k=b) w w':=by
 obtain ⟨c0,c1,c2,c3,c4,c5,c6,c7,hf⟩:=pcells h
 have HH:Hid (PBlk w b T a e vN vE vL fault place):=h
 clear h
 go_enter Tryz.func75,Tryz.ntmps75
 go_upto_block 0 with fail
 go_cut [] (fun wx=>Chg (fun k=>k=b) w wx∧Hid (PBlk wx b T (skip T e:Nat) e vN vE vL fault place))
 case first =>
  go_wp2_with fail
  go_loopg [] (T.size - e) (fun g wx=>∃ k:Nat,e≤k∧k≤T.size∧g=T.size - k∧Hid (skip T k=skip T e)∧Chg (fun k=>k=b) w wx∧Hid (PBlk wx b T k e vN vE vL fault place))
  case atStart=>exact ⟨e,Nat.le_refl _,he,rfl,rfl,(Chg.refl _ _).set1 _,pset_at HH.out _⟩
  case round =>
   obtain ⟨k,hk1,hk2,rfl,hs,hc,hb⟩:=hrel
   obtain ⟨w1,hw1⟩:∃ w1,w1=wr:=⟨wr,rfl⟩
   subst hw1
   clear c0 c1 c2 c3 c4 c5 c6 c7 hf
   obtain ⟨c0,c1,c2,c3,c4,c5,c6,c7,hf⟩:=pcells hb.out
   by_cases hlt:k<T.size
   ·cases hbl:blankN (T[k].toNat)
    ·have hstop:Hid (skip T e=k):=by show _=_;rw [← hs.out];exact skip_stop (Or.inr (by rw [at0_eq hlt];exact hbl))
     go_wp2_with fail
     go_quiet ((go_at_call 124;exact Calls.quiet_of_same (isBlank_any _ _)))
     go_wp2_with fail
     go_meet
     exact ⟨hc.drewN _,by rw [hstop.out];exact hb.out⟩
    ·have hgo:Hid (skip T (k+1)=skip T e):=by show _=_;rw [← hs.out];exact (skip_go hlt (by rw [at0_eq hlt];exact hbl)).symm
     go_wp2_with fail
     go_quiet ((go_at_call 124;exact Calls.quiet_of_same (isBlank_any _ _)))
     go_wp2_with fail
     go_roundg (T.size - (k+1))
     case measure=>omega
     case rel=>exact ⟨k+1,by omega,by omega,rfl,hgo,(hc.drewN _).set1 _,by show PBlk _ _ _ _ _ _ _ _ _ _;exact pset_at hb.out _⟩
   ·have hd:decide ((k:Int)<(T.size:Int))=false:=by simp;omega
    have hstop:Hid (skip T e=k):=by show _=_;rw [← hs.out];exact skip_stop (Or.inl (by omega))
    go_wp2_with fail
    go_quiet ((go_at_call 124;exact Calls.quiet_of_same (isBlank_any _ _)))
    go_wp2_with fail
    go_meet
    exact ⟨hc.drewN _,by rw [hstop.out];exact hb.out⟩
 case rest =>
  obtain ⟨hc1,hb1⟩:=hcut
  obtain ⟨w1,hw1⟩:∃ w1,w1=wc:=⟨wc,rfl⟩
  subst hw1
  clear c0 c1 c2 c3 c4 c5 c6 c7 hf
  obtain ⟨c0,c1,c2,c3,c4,c5,c6,c7,hf⟩:=pcells hb1.out
  have hsk:=(skip_le T e).2 he
  obtain ⟨p,hp⟩:∃ p,p=skip T e:=⟨_,rfl⟩
  rw [← hp] at hb1 c1 hsk
  have HP:Hid (p=skip T e):=hp
  clear hp
  go_upto_block 2 with fail
  go_cut [] (fun wx=>Chg (fun k=>k=b) w wx∧Hid (PBlk wx b T p (wordEnd T p:Nat) vN vE vL fault place))
  case first =>
   go_wp2_with fail
   go_loopg [] (T.size - p) (fun g wx=>∃ k:Nat,p≤k∧k≤T.size∧g=T.size - k∧Hid (wordEnd T k=wordEnd T p)∧Chg (fun k=>k=b) w wx∧Hid (PBlk wx b T p k vN vE vL fault place))
   case atStart=>exact ⟨p,Nat.le_refl _,hsk,rfl,rfl,hc1.set1 _,pset_en hb1.out _⟩
   case round =>
    obtain ⟨k,hk1,hk2,rfl,hs,hc,hb⟩:=hrel
    obtain ⟨w2,hw2⟩:∃ w2,w2=wr:=⟨wr,rfl⟩
    subst hw2
    clear c0 c1 c2 c3 c4 c5 c6 c7 hf
    obtain ⟨c0,c1,c2,c3,c4,c5,c6,c7,hf⟩:=pcells hb.out
    by_cases hlt:k<T.size
    ·cases hbl:letterN (T[k].toNat)
     ·have hstop:Hid (wordEnd T p=k):=by show _=_;rw [← hs.out];exact word_stop (Or.inr (by rw [at0_eq hlt];exact hbl))
      go_wp2_with fail
      go_quiet ((go_at_call 125;exact Calls.quiet_of_same (isWordByte_any _ _)))
      go_wp2_with fail
      go_meet
      exact ⟨hc.drewN _,by rw [hstop.out];exact hb.out⟩
     ·have hgo:Hid (wordEnd T (k+1)=wordEnd T p):=by show _=_;rw [← hs.out];exact (word_go hlt (by rw [at0_eq hlt];exact hbl)).symm
      go_wp2_with fail
      go_quiet ((go_at_call 125;exact Calls.quiet_of_same (isWordByte_any _ _)))
      go_wp2_with fail
      go_roundg (T.size - (k+1))
      case measure=>omega
      case rel=>exact ⟨k+1,by omega,by omega,rfl,hgo,(hc.drewN _).set1 _,by show PBlk _ _ _ _ _ _ _ _ _ _;exact pset_en hb.out _⟩
    ·have hd:decide ((k:Int)<(T.size:Int))=false:=by simp;omega
     have hstop:Hid (wordEnd T p=k):=by show _=_;rw [← hs.out];exact word_stop (Or.inl (by omega))
     go_wp2_with fail
     go_quiet ((go_at_call 125;exact Calls.quiet_of_same (isWordByte_any _ _)))
     go_wp2_with fail
     go_meet
     exact ⟨hc.drewN _,by rw [hstop.out];exact hb.out⟩
  case rest =>
   obtain ⟨hc2,hb2⟩:=hcut
   obtain ⟨w2,hw2⟩:∃ w2,w2=wc:=⟨wc,rfl⟩
   subst hw2
   clear c0 c1 c2 c3 c4 c5 c6 c7 hf hc1 hb1
   obtain ⟨c0,c1,c2,c3,c4,c5,c6,c7,hf⟩:=pcells hb2.out
   have hwl:=word_le T p
   have hw2':=hwl.2 hsk
   have hw1':=hwl.1
   obtain ⟨q,hq⟩:∃ q,q=wordEnd T p:=⟨_,rfl⟩
   rw [← hq] at hb2 c2 hw1' hw2'
   have HQ:Hid (q=wordEnd T p):=hq
   clear hq hwl
   by_cases e1:q=p
   ·have k1:((q:Int) == (p:Int))=true:=by rw [beq_iff_eq];omega
    by_cases e2:q<T.size
    ·have hend:Hid (tokEnd T p=q+1):=by show _=_;unfold tokEnd;rw [if_pos ⟨by rw [← HQ.out];exact e1,by omega⟩];omega
     clear e1
     go_wp2_with fail
     go_quiet (fail)
     go_wp2_with fail
     go_end0
     exact ⟨rfl,by rw [← HP.out,hend.out];exact pset_en hb2.out _,(hc2.drewN _).set1 _⟩
    ·have hd:decide ((q:Int)<(T.size:Int))=false:=by simp;omega
     have hend:Hid (tokEnd T p=q):=by show _=_;unfold tokEnd;rw [if_neg (by omega)];exact HQ.out.symm
     clear e1
     go_wp2_with fail
     go_quiet (fail)
     go_wp2_with fail
     go_end0
     exact ⟨rfl,by rw [← HP.out,hend.out];exact hb2.out,hc2.drewN _⟩
   ·have k1:((q:Int) == (p:Int))=false:=by rw [beq_eq_false_iff_ne];omega
    have hend:Hid (tokEnd T p=q):=by show _=_;unfold tokEnd;rw [if_neg (by rw [← HQ.out];omega)];exact HQ.out.symm
    clear e1
    go_wp2_with fail
    go_quiet (fail)
    go_wp2_with fail
    go_end0
    exact ⟨rfl,by rw [← HP.out,hend.out];exact hb2.out,hc2.drewN _⟩
def tokp (T:ByteArray) (p:Nat):ByteArray:=T.extract p (tokEnd T p)
def nextp (T:ByteArray) (p:Nat):Nat:=skip T (tokEnd T p)
def memL (L:List ByteArray) (l:List UInt8):Bool:=decide (0≤clsIx L l)
def PAt (w:World) (b:Nat) (T:ByteArray) (p:Nat) (vN vE vL:Value) (fault place:Int):Prop:=PBlk w b T p (tokEnd T p:Nat) vN vE vL fault place
def These (w:World) (v:Value) (L:List ByteArray):Prop:=w.ownsRow 0 9 1 v L.length (L.map .string)∧L.length≤100
set_option maxHeartbeats 1000000 in
theorem contains_any (v:Value) (L:List ByteArray) (s:ByteArray) (w:World) (hN:These w v L) :
  Calls Tryz.prog 126 #[v,.string s] w fun e w'=>e=.returned (.bool (memL L s.toList))∧w'=w:=by
 have HN:Hid (These w v L):=hN
 clear hN
 go_enter Tryz.func126,Tryz.ntmps126
 go_wp2_with fail
 refine (index_any v 0 L s _ HN.out.1 HN.out.2).mono ?_
 rintro e1 w1 ⟨rfl,rfl⟩
 go_wp2_with fail
 go_ret
 exact ⟨rfl,rfl⟩
theorem these_drewN {w:World} {v:Value} {L:List ByteArray} (h:These w v L) (n:Nat):These (w.drewN n) v L:=h
theorem pat_drewN {w:World} {b:Nat} {T:ByteArray} {p:Nat} {vN vE vL:Value} {fault place:Int} (h:PAt w b T p vN vE vL fault place) (n:Nat):PAt (w.drewN n) b T p vN vE vL fault place:=h
set_option maxHeartbeats 1000000 in
theorem is_any (b:Nat) (T:ByteArray) (p:Nat) (vN vE vL:Value) (fault place:Int) (v:Value) (L:List ByteArray) (w:World) (h:PAt w b T p vN vE vL fault place) (hp:p≤T.size) (hN:These w v L) :
  Calls Tryz.prog 76 #[.pointer (some ⟨b,0,none⟩),v] w fun r w'=>r=.returned (.bool (memL L (tokp T p).toList))∧∃ n,w'=w.drewN n:=by
 have HN:Hid (These w v L):=hN
 have HH:Hid (PAt w b T p vN vE vL fault place):=h
 have ht:=tokEnd_le T p
 obtain ⟨ht1,ht2,ht3⟩:=ht
 have ht2':=ht2 hp
 clear hN h ht2 ht3
 go_enter Tryz.func76,Tryz.ntmps76
 go_wp2_with fail
 refine (now_any b T p (tokEnd T p) vN vE vL fault place _ HH.out ht1 ht2').mono ?_
 rintro e1 w1 ⟨rfl,n,rfl⟩
 go_wp2_with fail
 refine (contains_any v L (T.extract p (tokEnd T p)) _ (these_drewN HN.out n)).mono ?_
 rintro e2 w2 ⟨rfl,rfl⟩
 go_wp2_with fail
 go_ret
 exact ⟨rfl,n,rfl⟩
set_option maxHeartbeats 1000000 in
theorem take_no (b:Nat) (T:ByteArray) (p:Nat) (vN vE vL:Value) (fault place:Int) (v:Value) (L:List ByteArray) (w:World) (h:PAt w b T p vN vE vL fault place) (hp:p≤T.size) (hN:These w v L) (hm:memL L (tokp T p).toList=false) :
  Calls Tryz.prog 131 #[.pointer (some ⟨b,0,none⟩),v] w fun r w'=>r=.returned (.string ⟨#[]⟩)∧∃ n,w'=w.drewN n:=by
 have HN:Hid (These w v L):=hN
 have HH:Hid (PAt w b T p vN vE vL fault place):=h
 clear hN h
 go_enter Tryz.func131,Tryz.ntmps131
 go_wp2_with fail
 refine (is_any b T p vN vE vL fault place v L _ HH.out hp HN.out).mono ?_
 rintro e1 w1 ⟨rfl,n,rfl⟩
 go_wp2_with fail
 go_ret
 exact ⟨rfl,n,rfl⟩
set_option maxHeartbeats 1000000 in
theorem take_yes (b:Nat) (T:ByteArray) (p:Nat) (vN vE vL:Value) (fault place:Int) (v:Value) (L:List ByteArray) (w:World) (h:PAt w b T p vN vE vL fault place) (hp:p≤T.size) (hT:T.size≤1000) (hN:These w v L) (hm:memL L (tokp T p).toList=true) :
  Calls Tryz.prog 131 #[.pointer (some ⟨b,0,none⟩),v] w fun r w'=>r=.returned (.string (tokp T p))∧PAt w' b T (nextp T p) vN vE vL fault place∧Chg (fun k=>k=b) w w':=by
 have HN:Hid (These w v L):=hN
 have HH:Hid (PAt w b T p vN vE vL fault place):=h
 have ht:=tokEnd_le T p
 obtain ⟨ht1,ht2,ht3⟩:=ht
 have ht2':=ht2 hp
 clear hN h ht2 ht3
 go_enter Tryz.func131,Tryz.ntmps131
 go_wp2_with fail
 refine (is_any b T p vN vE vL fault place v L _ HH.out hp HN.out).mono ?_
 rintro e1 w1 ⟨rfl,n,rfl⟩
 go_wp2_with fail
 refine (now_any b T p (tokEnd T p) vN vE vL fault place _ (pat_drewN HH.out n) ht1 ht2').mono ?_
 rintro e2 w2 ⟨rfl,n2,hw2⟩
 have H2:Hid (PAt w2 b T p vN vE vL fault place):=by rw [hw2];exact HH.out
 have C2:Hid (Chg (fun k=>k=b) w w2):=by rw [hw2];exact ((Chg.refl _ _).drewN n).drewN n2
 clear hw2
 go_wp2_with fail
 refine (step_any b T p (tokEnd T p) vN vE vL fault place _ H2.out ht2' hT).mono ?_
 rintro e3 w3 ⟨rfl,h3,c3⟩
 have H3:Hid (PAt w3 b T (nextp T p) vN vE vL fault place):=h3
 clear h3
 go_wp2_with fail
 go_ret
 exact ⟨rfl,H3.out,C2.out.trans c3⟩
theorem tokp_ne {T:ByteArray} {p:Nat} {L:List ByteArray} (hm:memL L (tokp T p).toList=true) (hL:∀ x ∈ L,x.toList ≠ []):(tokp T p).toList.isEmpty=false:=by
 unfold memL at hm
 simp at hm
 unfold clsIx at hm
 cases hf:L.findIdx? (fun x=>x.toList == (tokp T p).toList) with
 | none=>rw [hf] at hm;simp at hm
 | some i =>
  obtain ⟨hi,he,_⟩:=List.findIdx?_eq_some_iff_getElem.1 hf
  simp at he
  have:=hL L[i] (List.getElem_mem hi)
  rw [he] at this
  simpa using this
set_option maxHeartbeats 1000000 in
theorem need_yes (b:Nat) (T:ByteArray) (p:Nat) (vN vE vL:Value) (fault place:Int) (v:Value) (L:List ByteArray) (w:World) (h:PAt w b T p vN vE vL fault place) (hp:p≤T.size) (hT:T.size≤1000) (hN:These w v L) (hm:memL L (tokp T p).toList=true) (hL:∀ x ∈ L,x.toList ≠ []) :
  Calls Tryz.prog 128 #[.pointer (some ⟨b,0,none⟩),v] w fun r w'=>r=.returned (.string (tokp T p))∧PAt w' b T (nextp T p) vN vE vL fault place∧Chg (fun k=>k=b) w w':=by
 have HN:Hid (These w v L):=hN
 have HH:Hid (PAt w b T p vN vE vL fault place):=h
 have hne:=tokp_ne hm hL
 have HM:Hid (memL L (tokp T p).toList=true):=hm
 clear hN h hm hL
 go_enter Tryz.func128,Tryz.ntmps128
 go_wp2_with fail
 refine (take_yes b T p vN vE vL fault place v L _ HH.out hp hT HN.out HM.out).mono ?_
 rintro e1 w1 ⟨rfl,h1,c1⟩
 have H1:Hid (PAt w1 b T (nextp T p) vN vE vL fault place):=h1
 clear h1
 go_wp2_with fail
 go_ret
 exact ⟨rfl,H1.out,c1⟩
theorem tokEnd_size (T:ByteArray):tokEnd T T.size=T.size:=by
 unfold tokEnd;rw [if_neg (by omega)];exact word_stop (Or.inl (Nat.le_refl _))
set_option maxHeartbeats 1000000 in
theorem need_no (b:Nat) (T:ByteArray) (p:Nat) (vN vE vL:Value) (fault place:Int) (v:Value) (L:List ByteArray) (w:World) (h:PAt w b T p vN vE vL fault place) (hp:p≤T.size) (hN:These w v L) (hm:memL L (tokp T p).toList=false) :
  Calls Tryz.prog 128 #[.pointer (some ⟨b,0,none⟩),v] w fun r w'=>r=.returned (.string ⟨#[]⟩)∧PAt w' b T T.size vN vE vL (pf fault 2) (pp fault p place)∧Chg (fun k=>k=b) w w':=by
 have HN:Hid (These w v L):=hN
 have HH:Hid (PAt w b T p vN vE vL fault place):=h
 have HM:Hid (memL L (tokp T p).toList=false):=hm
 clear hN h hm
 go_enter Tryz.func128,Tryz.ntmps128
 go_wp2_with fail
 refine (take_no b T p vN vE vL fault place v L _ HH.out hp HN.out HM.out).mono ?_
 rintro e1 w1 ⟨rfl,n,rfl⟩
 go_wp2_with fail
 refine (fail_pr b T p (tokEnd T p) vN vE vL fault place 2 _ (pat_drewN HH.out n)).mono ?_
 rintro e2 w2 ⟨rfl,h2,c2⟩
 have H2:Hid (PBlk w2 b T T.size T.size vN vE vL (pf fault 2) (pp fault (p:Int) place)):=h2
 clear h2
 go_wp2_with fail
 go_ret
 refine ⟨rfl,?_,((Chg.refl _ _).drewN n).trans c2⟩
 show PBlk _ _ _ _ _ _ _ _ _ _
 rw [tokEnd_size];exact H2.out
def wordp (T:ByteArray) (p:Nat):Bool:=decide (p ≠ T.size) && letterN (at0 T p)
set_option maxRecDepth 100000 in
set_option maxHeartbeats 2000000 in
theorem isWordBut_any (b:Nat) (T:ByteArray) (p:Nat) (vN vE vL:Value) (fault place:Int) (v:Value) (L:List ByteArray) (w:World) (h:PAt w b T p vN vE vL fault place) (hp:p≤T.size) (hN:These w v L) :
  Calls Tryz.prog 170 #[.pointer (some ⟨b,0,none⟩),v] w fun r w'=>r=.returned (.bool (wordp T p && !memL L (tokp T p).toList))∧∃ n,w'=w.drewN n:=by
 have HN:Hid (These w v L):=hN
 have HH:Hid (PAt w b T p vN vE vL fault place):=h
 obtain ⟨c0,c1,c2,c3,c4,c5,c6,c7,hf⟩:=pcells h
 clear hN h
 by_cases he:p=T.size
 ·have hd:decide (p=T.size)=true:=by simpa using he
  have hw:Hid ((wordp T p && !memL L (tokp T p).toList)=false):=by show _=false;unfold wordp;simp [he]
  rw [hw.out]
  go_enter Tryz.func170,Tryz.ntmps170
  go_wp2_with fail
  go_quiet ((first | (go_at_call 79;exact Calls.quiet_of (ended_any b T p (tokEnd T p) vN vE vL fault place _ (by exact HH.out))) | (go_at_call 125;exact Calls.quiet_of_same (isWordByte_any _ _)) | (go_at_call 76;exact Calls.quiet_of (is_any b T p vN vE vL fault place v L _ (by exact HH.out) hp (by exact HN.out)))))
  go_wp2_with fail
  go_ret
  exact ⟨rfl,_,rfl⟩
 ·have hd:decide (p=T.size)=false:=by simpa using he
  have hlt:p<T.size:=by omega
  cases hl:letterN (T[p].toNat)
  ·have hw:Hid ((wordp T p && !memL L (tokp T p).toList)=false):=by show _=false;unfold wordp;rw [at0_eq hlt,hl];simp
   rw [hw.out]
   clear he
   go_enter Tryz.func170,Tryz.ntmps170
   go_wp2_with fail
   go_quiet ((first | (go_at_call 79;exact Calls.quiet_of (ended_any b T p (tokEnd T p) vN vE vL fault place _ (by exact HH.out))) | (go_at_call 125;exact Calls.quiet_of_same (isWordByte_any _ _)) | (go_at_call 76;exact Calls.quiet_of (is_any b T p vN vE vL fault place v L _ (by exact HH.out) hp (by exact HN.out)))))
   go_wp2_with fail
   go_ret
   exact ⟨rfl,_,rfl⟩
  ·have hw:Hid ((wordp T p && !memL L (tokp T p).toList)=!memL L (tokp T p).toList):=by show _=_;unfold wordp;rw [at0_eq hlt,hl];simp [he]
   rw [hw.out]
   clear he
   go_enter Tryz.func170,Tryz.ntmps170
   go_wp2_with fail
   go_quiet ((first | (go_at_call 79;exact Calls.quiet_of (ended_any b T p (tokEnd T p) vN vE vL fault place _ (by exact HH.out))) | (go_at_call 125;exact Calls.quiet_of_same (isWordByte_any _ _)) | (go_at_call 76;exact Calls.quiet_of (is_any b T p vN vE vL fault place v L _ (by exact HH.out) hp (by exact HN.out)))))
   go_wp2_with fail
   go_ret
   exact ⟨rfl,_,rfl⟩
set_option maxHeartbeats 2000000 in
theorem kindOf_any (b base:Nat) (T:ByteArray) (p:Nat) (vN vE vL:Value) (fault place:Int) (names:List ByteArray) (x:ByteArray) (w:World) (h:PAt w b T p vN vE vL fault place) (hN:w.ownsRow base 9 1 vN names.length (names.map .string)) (hl:names.length≤100) :
  Calls Tryz.prog 171 #[.pointer (some ⟨b,0,none⟩),.string x] w fun r w'=>r=.returned (.tuple #[.int .u8 (max (clsIx names x.toList) 0),.bool (decide (0≤clsIx names x.toList))])∧w'=w:=by
 obtain ⟨c0,c1,c2,c3,c4,c5,c6,c7,hf⟩:=pcells h
 have HN:Hid (w.ownsRow base 9 1 vN names.length (names.map .string)):=hN
 have hbd:-1≤clsIx names x.toList∧clsIx names x.toList<100:=by
  unfold clsIx
  cases hfi:names.findIdx? (fun y=>y.toList == x.toList) with
  | none=>simp
  | some i=>have:=(List.findIdx?_eq_some_iff_getElem.1 hfi).1;simp;omega
 obtain ⟨hb1,hb2⟩:=hbd
 obtain ⟨k,hk⟩:∃ k,k=clsIx names x.toList:=⟨_,rfl⟩
 have HK:Hid (k=clsIx names x.toList):=hk
 rw [← hk] at hb1 hb2
 clear hN h hk
 rw [← HK.out]
 have hcase:(0≤k∧max k 0=k∧decide (0≤k)=true)∨(k<0∧max k 0=0∧decide (0≤k)=false):=by
  by_cases h0:0≤k
  ·left;exact ⟨h0,by omega,by simpa using h0⟩
  ·right;exact ⟨by omega,by omega,by simp;omega⟩
 rcases hcase with ⟨h0,e1,e2⟩ | ⟨h0,e1,e2⟩
 all_goals
  rw [e1,e2]
  clear e1
  go_enter Tryz.func171,Tryz.ntmps171
  go_wp2_with fail
  refine (index_any vN base names x _ HN.out hl).mono ?_
  rintro e1 w1 ⟨rfl,rfl⟩
  rw [← HK.out]
  go_wp2_with fail
  go_ret2
  exact ⟨rfl,rfl⟩
def SameOrNew (w:World) (v v':Value):Prop:=v'.ownBlock=v.ownBlock∨v'.ownBlock=some w.heap.size
theorem run_push {P:Program} (w:World) (t ty e:TypeId) (base:Nat) (z:Value) (size bytes:Nat) (hinfo:(P.info? e).map (fun i=>(i.zero,i.size,i.bytes))=some (some z,size,bytes)) (ht:P.underlying t=some (.slice e))
  (hzs:z.cells.size=size) (hsz:0<size) (v:Value) (n:Nat) (xs:List Value) (hown:w.ownsRow base e size v n xs)
  (a:Addr) (c:Nat) (news:List Value) (hl:news.length=size) (hnews:∀ j u,news[j]?=some u→w.cell? (a.add j)=some u) (h1:∀ u ∈ news,u.oneCell'=true)
  (hn:n≤9000000000) (hby:bytes≤1000) (hbase:base≤w.heap.size) :
  ∃ v' w',(Builtin.append_ #[t,t] ty #[v,.slice (some a) 1 c]).run P w=.ok v' w'∧w'.ownsRow base e size v' (n+1) (xs++news)∧w.grownBy w' v.ownBlock∧SameOrNew w v v':=by
 obtain ⟨i,hi,hz0,hz1,hz2⟩:=info_parts hinfo
 have hb:(n+1) * bytes≤140737488355328:=by
  calc (n+1) * bytes≤9000000001 * 1000:=Nat.mul_le_mul (by omega) hby
   _≤_:=by omega
 have hl':news.length=1 * size:=by omega
 obtain ⟨v',w',hr,ho,hg,_⟩:=run_append_own (P:=P) w base t ty e i z size bytes ht hi hz0 hz1 hz2 hzs hsz v n xs hown a 1 c news hl' hnews h1 (by simp only [maxLen];omega) hb hbase
 refine ⟨v',w',hr,ho,hg,?_⟩
 subst hz1
 subst hz2
 rcases hown.2 with ⟨rfl,rfl⟩ | ⟨g,cap,cur,rfl,hbg,hgg,hnc,hcm,hcs,htake⟩
 ·have hr2:=run_append_nil (P:=P) w t ty e i z ht hi hz0 a 1 c news hl' hnews (by omega) (by omega) (by omega)
  rw [hr2] at hr
  injection hr with h1 h2
  rw [← h1]
  exact Or.inr rfl
 ·by_cases hroom:n+1≤cap
  ·have hfit:n * i.size+news.length≤cur.size:=by rw [hl',hcs,← Nat.add_mul];exact Nat.mul_le_mul_right _ hroom
   have hr2:=run_append_room (P:=P) w t ty e i ht hi g n cap cur hgg a 1 c news hl' hnews h1 hroom hfit
   rw [hr2] at hr
   injection hr with h1 h2
   rw [← h1]
   exact Or.inl rfl
  ·have hr2:=run_append_grow (P:=P) w t ty e i z ht hi hz0 ⟨g,0,none⟩ n cap xs hown.1 (hown.cells (g:=g) rfl) a 1 c news hl' hnews (by omega) (by omega) (growslice_fits (by omega) hb)
   rw [hr2] at hr
   injection hr with h1 h2
   rw [← h1]
   exact Or.inr rfl
theorem add_none (g j:Nat):(⟨g,0,none⟩:Addr).add j=⟨g,j,none⟩:=by unfold Addr.add;split <;> simp_all
theorem wp_push {P:Program} {w:World} {o:Oper} {a:Act} {K:Act→World→Prop} {Q:Exit→Act→World→Prop} (s x:Operand) (t:TypeId)
  (ho:o.op=.call { callee:=.builtin .append,args:=#[s,x],argTypes:=#[t,t] })
  (base:Nat) (e:TypeId) (z:Value) (size bytes:Nat) (hinfo:(P.info? e).map (fun i=>(i.zero,i.size,i.bytes))=some (some z,size,bytes)) (ht:P.underlying t=some (.slice e))
  (hzs:z.cells.size=size) (hsz:0<size) (v:Value) (n:Nat) (xs:List Value) (hs:a.eval s=v) (hown:w.ownsRow base e size v n xs)
  (g c:Nat) (news:List Value) (hx:a.eval x=.slice (some ⟨g,0,none⟩) 1 c) (hl:news.length=size) (hnews:∀ j u,news[j]?=some u→w.cell? ⟨g,j,none⟩=some u) (h1:∀ u ∈ news,u.oneCell'=true)
  (hn:n≤9000000000) (hby:bytes≤1000) (hbase:base≤w.heap.size)
  (hK:∀ v' w',w'.ownsRow base e size v' (n+1) (xs++news)→w.grownBy w' v.ownBlock→SameOrNew w v v'→K (a.put o.dst v') w'):o.wp P a w K Q:=by
 obtain ⟨v',w',hr,h2,h3,h4⟩:=run_push (P:=P) w t o.type e base z size bytes hinfo ht hzs hsz v n xs hown ⟨g,0,none⟩ c news hl (fun j u hu=>by rw [add_none];exact hnews j u hu) h1 hn hby hbase
 unfold Oper.wp execOp
 simp only [ho,resolve,invoke,builtin,Sem.run_bind,Sem.run_pure,Result.andThen_ok,List.map_toArray,List.map_cons,List.map_nil,hs,hx,hr]
 exact hK v' w' h2 h3 h4
theorem wpList_push2 {P:Program} {w:World} {ops:Array Oper} {rest:List Oper} {o:Oper} {a:Act} {Q:Exit→Act→World→Prop} (hgd:o.guard=none) (s x:Operand) (t:TypeId)
  (ho:o.op=.call { callee:=.builtin .append,args:=#[s,x],argTypes:=#[t,t] })
  (base:Nat) (e:TypeId) (z:Value) (size bytes:Nat) (hinfo:(P.info? e).map (fun i=>(i.zero,i.size,i.bytes))=some (some z,size,bytes)) (ht:P.underlying t=some (.slice e))
  (hzs:z.cells.size=size) (hsz:0<size) (v:Value) (n:Nat) (xs:List Value) (hs:a.eval s=v) (hown:w.ownsRow base e size v n xs)
  (g c:Nat) (news:List Value) (hx:a.eval x=.slice (some ⟨g,0,none⟩) 1 c) (hl:news.length=size) (hnews:∀ j u,news[j]?=some u→w.cell? ⟨g,j,none⟩=some u) (h1:∀ u ∈ news,u.oneCell'=true)
  (hn:n≤9000000000) (hby:bytes≤1000) (hbase:base≤w.heap.size)
  (h:∀ v' w',w'.ownsRow base e size v' (n+1) (xs++news)→w.grownBy w' v.ownBlock→SameOrNew w v v'→wpList P ops Q rest (a.put o.dst v') w'):wpList P ops Q (o :: rest) a w :=
 wpList_plain hgd fun _ hK=>wp_push s x t ho base e z size bytes hinfo ht hzs hsz v n xs hs hown g c news hx hl hnews h1 hn hby hbase fun v' w' h2 h3 h4=>hK _ _ (h v' w' h2 h3 h4)
theorem step_push2 {P:Program} {w:World} {ops:Array Oper} {o:Oper} {a:Act} {K:Act→World→Prop} {Q:Exit→Act→World→Prop} {E:Prop} (hgd:o.guard=none) (s x:Operand) (t:TypeId)
  (ho:o.op=.call { callee:=.builtin .append,args:=#[s,x],argTypes:=#[t,t] })
  (base:Nat) (e:TypeId) (z:Value) (size bytes:Nat) (hinfo:(P.info? e).map (fun i=>(i.zero,i.size,i.bytes))=some (some z,size,bytes)) (ht:P.underlying t=some (.slice e))
  (hzs:z.cells.size=size) (hsz:0<size) (v:Value) (n:Nat) (xs:List Value) (hs:a.eval s=v) (hown:w.ownsRow base e size v n xs)
  (g c:Nat) (news:List Value) (hx:a.eval x=.slice (some ⟨g,0,none⟩) 1 c) (hl:news.length=size) (hnews:∀ j u,news[j]?=some u→w.cell? ⟨g,j,none⟩=some u) (h1:∀ u ∈ news,u.oneCell'=true)
  (hn:n≤9000000000) (hby:bytes≤1000) (hbase:base≤w.heap.size)
  (hK:∀ v' w',w'.ownsRow base e size v' (n+1) (xs++news)→w.grownBy w' v.ownBlock→SameOrNew w v v'→K (a.put o.dst v') w') :
  if Region.wanted o (yielded ops a.tmps)=true then Oper.wp P o a w K Q else E:=by
 have hw:Region.wanted o (yielded ops a.tmps)=true:=by simp [Region.wanted,hgd]
 rw [if_pos hw]
 exact wp_push s x t ho base e z size bytes hinfo ht hzs hsz v n xs hs hown g c news hx hl hnews h1 hn hby hbase hK
end Go.Proofs.YtodagkkjfipbgaaGreatDoor
