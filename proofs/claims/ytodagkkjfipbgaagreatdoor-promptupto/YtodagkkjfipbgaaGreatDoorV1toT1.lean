import Derived.Shelf.Unicode.DecodeLastEight
import Derived.Test.YtodagkkjfipbgaaGreatDoorN15toN17
import Derived.Test.YtodagkkjfipbgaaGreatDoorSh2lone
namespace Go.Proofs.YtodagkkjfipbgaaGreatDoor
open Go.RowKit Go.Maps
theorem make_bools (W:World) (n:Nat) (hn:n<=2300000):(Instr.makeSlice 108 (.int .i64 n) (.int .i64 n)).run Tryz.prog W=.ok (.slice (some ⟨W.heap.size,0,none⟩) n n) (W.alloc (.cells (boolCells (List.replicate n false)) 4)):=by
 obtain ⟨i,hi,hz0,hz1,hz2⟩:=info_parts Tryz.infoB
 have h:=run_make (P:=Tryz.prog) W 108 4 i (.bool false) Tryz.undRowB hi hz0 .i64 .i64 n n (by omega) (by omega) (by rw [hz2];omega) (by omega)
 rw [hz1] at h
 rw [<- made_bool]
 simpa [Value.cells] using h
def leftAt (t:Tab) (row:List Nat) (i:Nat):Nat:=(row.take i).foldl (fun a k=>tnext t a k) 0
theorem leftAt_succ {t:Tab} {row:List Nat} {i k:Nat} (h:row[i]?=some k):leftAt t row (i+1)=tnext t (leftAt t row i) k:=by
 unfold leftAt
 rw [List.take_add_one,h,List.foldl_append]
 rfl
theorem leftAt_lt {t:Tab} (ht:TabGood t) (row:List Nat):∀ i,leftAt t row i<t.length:=by
 intro i
 induction i with
 | zero=>exact ht.pos
 | succ i ih =>
  cases h:row[i]? with
  | none =>
   have e:leftAt t row (i+1)=leftAt t row i:=by unfold leftAt;rw [List.take_add_one,h];simp
   rw [e];exact ih
  | some k=>rw [leftAt_succ h];exact tnext_lt ht ih
def toldTo (f:Nat->Bool) (n m:Nat):List Bool:=(List.range m).map fun j=>if j<n then f j else false
theorem toldTo_len (f:Nat->Bool) (n m:Nat):(toldTo f n m).length=m:=by unfold toldTo;simp
theorem toldTo_zero (f:Nat->Bool) (m:Nat):toldTo f 0 m=List.replicate m false:=by
 apply List.ext_getElem?
 intro i
 unfold toldTo
 rw [List.getElem?_map,List.getElem?_replicate]
 by_cases h:i<m
 ·rw [List.getElem?_range h,if_pos h];simp
 ·rw [List.getElem?_eq_none (by simp;omega),if_neg h];rfl
theorem toldTo_succ (f:Nat->Bool) {n m:Nat} (h:n<m):toldTo f (n+1) m=(toldTo f n m).set n (f n):=by
 apply List.ext_getElem?
 intro i
 rw [List.getElem?_set,toldTo_len]
 unfold toldTo
 rw [List.getElem?_map,List.getElem?_map]
 by_cases e:n=i
 ·subst e;rw [if_pos rfl,if_pos h,List.getElem?_range h];simp
 ·rw [if_neg e]
  by_cases hi:i<m
  ·rw [List.getElem?_range hi]
   simp only [Option.map_some,Option.some.injEq]
   by_cases h1:i<n
   ·rw [if_pos (by omega),if_pos h1]
   ·rw [if_neg (by omega),if_neg h1]
  ·rw [List.getElem?_eq_none (by simp;omega)];rfl
theorem toldTo_all (f:Nat->Bool) (m:Nat):toldTo f m m=(List.range m).map f:=by
 unfold toldTo
 apply List.map_congr_left
 intro j hj
 rw [if_pos (List.mem_range.1 hj)]
structure KRow (w:World) (v:Value) (row:List Nat):Prop where
 own:w.ownsRow 0 169 1 v row.length (kCells row)
 lt:∀ k ∈ row,k<8
 few:row.length<=2200000
theorem KRow.below {w w':World} {v:Value} {row:List Nat} (h:KRow w v row) (hb:Below w.heap.size w w'):KRow w' v row:=⟨row_kp h.own (Kp.below hb),h.lt,h.few⟩
set_option maxRecDepth 100000 in
set_option maxHeartbeats 2000000 in
theorem lmatches_any (w:World) (vT vR:Value) (t:Tab) (row:List Nat) (hT:TabIn 0 w vT t) (ht:TabGood t) (hR:KRow w vR row) :
  Calls Tryz.prog 155 #[.agg #[vT],vR] w fun r w'=>∃ g,r=.returned (.slice (some ⟨g,0,none⟩) (row.length+1) (row.length+1))/\w.heap.size<=g/\w'.heap[g]?=some (.cells (boolCells ((List.range (row.length+1)).map fun i=>tmatch t (leftAt t row i))) 4 (0,0))/\Below w.heap.size w w':=by
 obtain ⟨aoT,capT,rfl⟩:=row_shape hT
 obtain ⟨aoR,capR,rfl⟩:=row_shape hR.own
 have HT:Hid (TabIn 0 w (.slice aoT t.length capT) t):=hT
 have HR:Hid (KRow w (.slice aoR row.length capR) row):=hR
 have HG:Hid (TabGood t):=ht
 have hfew:=hR.few
 have htl:=ht.few
 have hmk:∀ W:World,(Instr.makeSlice 108 (.int .i64 ((row.length:Int)+1)) (.int .i64 ((row.length:Int)+1))).run Tryz.prog W=.ok (.slice (some ⟨W.heap.size,0,none⟩) (row.length+1) (row.length+1)) (W.alloc (.cells (boolCells (List.replicate (row.length+1) false)) 4)):=fun W=>make_bools W (row.length+1) (by omega)
 obtain ⟨f,hf⟩:∃ f:Nat->Bool,f=fun i=>tmatch t (leftAt t row i):=⟨_,rfl⟩
 have HF:Hid (f=fun i=>tmatch t (leftAt t row i)):=hf
 rw [<- hf]
 have W0e:∃ W0,W0=(w.alloc (.cells #[.slice aoT t.length capT] 152)).alloc (.cells (boolCells (List.replicate (row.length+1) false)) 4):=⟨_,rfl⟩
 obtain ⟨W0,hW0⟩:=W0e
 have HW0:Hid (W0=(w.alloc (.cells #[.slice aoT t.length capT] 152)).alloc (.cells (boolCells (List.replicate (row.length+1) false)) 4)):=hW0
 have b0:Below w.heap.size w W0:=by rw [hW0];exact (below_alloc w _).alloc (by simp) _
 have hz:W0.heap.size=w.heap.size+2:=by rw [hW0];simp
 have P0:Hid (W0.heap[w.heap.size]?=some (.cells #[.slice aoT t.length capT] 152 (0,0))):=by rw [hW0,Below.heap_alloc _ _ _ (by simp)];exact heap_alloc_new w _
 have Q0:Hid (W0.heap[w.heap.size+1]?=some (.cells (boolCells (toldTo f 0 (row.length+1))) 4 (0,0))):=by rw [hW0,toldTo_zero];exact (show ((w.alloc (.cells #[.slice aoT t.length capT] 152)).heap.size)=w.heap.size+1 by simp) ▸ heap_alloc_new (w.alloc _) _
 have B0:Hid (Below w.heap.size w W0):=b0
 have p0:=cell_of_block P0.out 0 _ rfl
 have p0':=p0
 rw [hW0] at p0'
 clear hT hR ht hf hW0 b0
 go_enter Tryz.func155,Tryz.ntmps155
 go_wp2_with (simp only [hmk])
 rw [<- HW0.out]
 have q0:W0.cell? ⟨w.heap.size+1,0,none⟩=some (.bool false):=cell_of_block Q0.out 0 _ (boolCells_at (by rw [toldTo_zero,List.getElem?_replicate,if_pos (by omega)]))
 have q0f:=free_of_block Q0.out
 have HFa:∀ i,f i=tmatch t (leftAt t row i):=fun i=>by rw [HF.out]
 refine (match_any W0 _ t 0 (row_kp HT.out (Kp.below B0.out)) HG.out HG.out.pos).mono ?_
 rintro r w1 ⟨rfl,rfl⟩
 obtain ⟨f0,hf0⟩:∃ f0,f0=tmatch t 0:=⟨_,rfl⟩
 rw [<- hf0]
 obtain ⟨W1,hW1⟩:∃ W1,W1=w1.setCell ⟨w.heap.size+1,0,none⟩ (.bool f0):=⟨_,rfl⟩
 have HW1:Hid (W1=w1.setCell ⟨w.heap.size+1,0,none⟩ (.bool f0)):=hW1
 have P1:Hid (W1.heap[w.heap.size]?=some (.cells #[.slice aoT t.length capT] 152 (0,0))):=by rw [hW1];exact (setCell_type (by omega)).trans P0.out
 have Q1:Hid (W1.heap[w.heap.size+1]?=some (.cells (boolCells (toldTo f 1 (row.length+1))) 4 (0,0))):=by
  rw [hW1,toldTo_succ f (by omega),<- boolCells_set,show f 0=f0 from by rw [hf0];exact HFa 0]
  exact block_setCell Q0.out 0 _
 have B1:Hid (Below w.heap.size w W1):=by rw [hW1];exact B0.out.setCell (by show w.heap.size<=w.heap.size+1;omega) _
 clear P0 Q0 B0 hW1 p0' hz p0 HW0 hmk
 have HF0:Hid (f0=tmatch t 0):=hf0
 clear hf0
 go_wp2_with fail
 rw [<- HW1.out]
 clear q0 q0f HW1
 go_loopg [6,21] row.length (fun gh av iv wx=>∃ i:Nat,i<=row.length/\gh=row.length - i/\av=.int .i64 (leftAt t row i:Nat)/\iv=.int .i64 i/\Hid (wx.heap[w.heap.size]?=some (.cells #[.slice aoT t.length capT] 152 (0,0)))/\Hid (wx.heap[w.heap.size+1]?=some (.cells (boolCells (toldTo f (i+1) (row.length+1))) 4 (0,0)))/\Hid (Below w.heap.size w wx))
 case atStart=>exact ⟨0,Nat.zero_le _,rfl,rfl,rfl,P1,Q1,B1⟩
 case round =>
  obtain ⟨i,hi,rfl,rfl,rfl,hP,hQ,hB⟩:=hrel
  obtain ⟨w2,hw2⟩:∃ w2,w2=wr:=⟨wr,rfl⟩
  subst hw2
  clear P1 Q1 B1
  have hs1:=hB.out.size
  have hp:=cell_of_block hP.out 0 _ rfl
  by_cases hlt:i<row.length
  ·obtain ⟨k,hk⟩:∃ k,row[i]?=some k:=⟨row[i],List.getElem?_eq_getElem hlt⟩
   have hk8:=HR.out.lt k (List.mem_of_getElem? hk)
   obtain ⟨qR,hqR,hqb,hrc⟩:=row_at (HR.out.below hB.out).own (kCells_at hk) (by omega)
   subst hqR
   obtain ⟨a,ha⟩:∃ a,a=leftAt t row i:=⟨_,rfl⟩
   obtain ⟨a',ha'⟩:∃ a',a'=tnext t a k:=⟨_,rfl⟩
   have HA:Hid (a'=leftAt t row (i+1)):=by show _=_;rw [leftAt_succ hk,ha',ha]
   have hal:a<t.length:=by rw [ha];exact leftAt_lt HG.out row i
   have hal':a'<t.length:=by rw [HA.out];exact leftAt_lt HG.out row (i+1)
   rw [<- ha]
   clear ha
   have hq:w2.cell? ⟨w.heap.size+1,i+1,none⟩=some (.bool false):=cell_of_block hQ.out (i+1) _ (boolCells_at (by unfold toldTo;rw [List.getElem?_map,List.getElem?_range (by omega)];simp))
   have hqf:=free_of_block hQ.out
   go_wp2_with fail
   refine (tnext_any _ _ t a k (row_kp HT.out (Kp.below hB.out)) HG.out hal hk8).mono ?_
   rintro r w3 ⟨rfl,rfl⟩
   rw [<- ha']
   clear ha'
   go_wp2_with fail
   refine (match_any _ _ t a' (row_kp HT.out (Kp.below hB.out)) HG.out hal').mono ?_
   rintro r w3 ⟨rfl,rfl⟩
   obtain ⟨f1,hf1⟩:∃ f1,f1=tmatch t a':=⟨_,rfl⟩
   rw [<- hf1]
   have HF1:Hid (f1=tmatch t a'):=hf1
   clear hf1
   go_wp2_with fail
   go_roundg (row.length - (i+1))
   case rel =>
    refine ⟨i+1,by omega,rfl,?_,by go_num,?_,?_,hB.out.setCell (by show w.heap.size<=w.heap.size+1;omega) _⟩
    ·rw [HA.out]
    ·exact (setCell_type (by omega)).trans hP.out
    ·show _=_
     rw [toldTo_succ f (by omega),<- boolCells_set,show f (i+1)=f1 from by rw [HF1.out,HA.out];exact HFa (i+1)]
     exact block_setCell hQ.out (i+1) _
   case measure=>omega
  ·obtain rfl:i=row.length:=by omega
   go_wp2_with fail
   go_ret
   refine ⟨w.heap.size+1,rfl,by omega,?_,hB.out⟩
   rw [<- toldTo_all]
   exact hQ.out
open Go.Lib
def fullN (n b0 b1 b2:Nat):Bool :=
 if firstT b0 % 8<=n then true
 else if 1<n/\(b1<accLo (firstT b0 / 16)\/accHi (firstT b0 / 16)<b1) then true
 else if 2<n/\(b2<128\/191<b2) then true
 else false
def fullS (s:ByteArray):Bool:=if s.size=0 then false else fullN s.size (s.get! 0).toNat (s.get! 1).toNat (s.get! 2).toNat
theorem fullN_t {n b0 b1 b2 X lo hi:Nat} (hX:firstT b0=X) (hlo:accLo (X / 16)=lo) (hhi:accHi (X / 16)=hi) (h:X % 8<=n\/(1<n/\(b1<lo\/hi<b1))\/(2<n/\(b2<128\/191<b2))):fullN n b0 b1 b2=true:=by
 unfold fullN
 rw [hX,hlo,hhi]
 repeat' split
 all_goals first | rfl | (exfalso;omega)
theorem fullN_f {n b0 b1 b2 X lo hi:Nat} (hX:firstT b0=X) (hlo:accLo (X / 16)=lo) (hhi:accHi (X / 16)=hi) (h:¬ (X % 8<=n\/(1<n/\(b1<lo\/hi<b1))\/(2<n/\(b2<128\/191<b2)))):fullN n b0 b1 b2=false:=by
 unfold fullN
 rw [hX,hlo,hhi]
 repeat' split
 all_goals first | rfl | (exfalso;omega)
set_option maxHeartbeats 4000000 in
set_option maxRecDepth 1000000 in
theorem full_any (s:ByteArray) (w:World) (hT:Utf8Tabs 2 3 w) (hlen:s.size<=4) :
  Calls Tryz.prog 189 #[.string s] w fun r w'=>r=.returned (.bool (fullS s))/\Below w.heap.size w w':=by
 by_cases h0:s.size=0
 ·unfold fullS
  rw [if_pos h0]
  clear hT
  go_enter Tryz.func189,Tryz.ntmps189
  go_wp2_with fail
  go_ret
  exact ⟨rfl,Below.refl _ _⟩
 ·unfold fullS
  rw [if_neg h0]
  have hz0:(0:Int)<(s.size:Int):=by omega
  obtain ⟨x0,hx0⟩:∃ x0,s.get! 0=x0:=⟨_,rfl⟩
  obtain ⟨x1,hx1⟩:∃ x1,s.get! 1=x1:=⟨_,rfl⟩
  obtain ⟨x2,hx2⟩:∃ x2,s.get! 2=x2:=⟨_,rfl⟩
  have hs0:s[0]'(by omega)=x0:=by rw [<- hx0];exact (Utf8W.get!_of_lt s 0 (by omega)).symm
  have hs1:∀ h:1<s.size,s[1]'h=x1:=fun h=>by rw [<- hx1];exact (Utf8W.get!_of_lt s 1 h).symm
  have hs2:∀ h:2<s.size,s[2]'h=x2:=fun h=>by rw [<- hx2];exact (Utf8W.get!_of_lt s 2 h).symm
  rw [hx0,hx1,hx2]
  have l0:=x0.toNat_lt
  have l1:=x1.toNat_lt
  have l2:=x2.toNat_lt
  have hc0:=hT.1 x0.toNat (by omega)
  rcases firstT_cases x0.toNat with hX | hX | hX | hX | hX | hX | hX | hX | hX
  ·rw [show fullN s.size x0.toNat x1.toNat x2.toNat=true from by unfold fullN;rw [hX,if_pos (by omega)]]
   rw [hX] at hc0
   clear hT hX hs1 hs2
   go_enter Tryz.func189,Tryz.ntmps189
   go_wp2_with fail
   go_ret
   exact ⟨rfl,Below.refl _ _⟩
  ·rw [show fullN s.size x0.toNat x1.toNat x2.toNat=true from by unfold fullN;rw [hX,if_pos (by omega)]]
   rw [hX] at hc0
   clear hT hX hs1 hs2
   go_enter Tryz.func189,Tryz.ntmps189
   go_wp2_with fail
   go_ret
   exact ⟨rfl,Below.refl _ _⟩
  ·rw [hX] at hc0
   have ha0:w.cell? ⟨3,0,none⟩=some (.int .u8 128):=(hT.2 0 (by omega)).1
   have ha1:w.cell? ⟨3,1,none⟩=some (.int .u8 191):=(hT.2 0 (by omega)).2
   have ft:=@fullN_t s.size x0.toNat x1.toNat x2.toNat 2 128 191 hX rfl rfl
   have ff:=@fullN_f s.size x0.toNat x1.toNat x2.toNat 2 128 191 hX rfl rfl
   by_cases hn:2<=s.size
   ·rw [ft (by omega)]
    clear ft ff hX hT hs1 hs2
    go_enter Tryz.func189,Tryz.ntmps189
    go_wp2_with fail
    go_ret
    exact ⟨rfl,Below.refl _ _⟩
   ·have hc:s.size=1:=by omega
    clear hn
    skip <;> (
     try have q1:=hs1 (by omega)
     try have q2:=hs2 (by omega)
     try have g1:decide ((x1.toNat:Int)<128)=true:=decide_eq_true (by omega)
     try have g1:decide ((x1.toNat:Int)<128)=false:=decide_eq_false (by omega)
     try have g2:decide ((191:Int)<(x1.toNat:Int))=true:=decide_eq_true (by omega)
     try have g2:decide ((191:Int)<(x1.toNat:Int))=false:=decide_eq_false (by omega)
     try have g3:decide ((x2.toNat:Int)<128)=true:=decide_eq_true (by omega)
     try have g3:decide ((x2.toNat:Int)<128)=false:=decide_eq_false (by omega)
     try have g4:decide ((191:Int)<(x2.toNat:Int))=true:=decide_eq_true (by omega)
     try have g4:decide ((191:Int)<(x2.toNat:Int))=false:=decide_eq_false (by omega)
     first | rw [ft (by omega)] | rw [ff (by omega)]
     first | have hn1:s.size=1:=(by omega) | have hn1:s.size=2:=(by omega) | have hn1:s.size=3:=by omega
     clear ft ff hX hT hs1 hs2
     go_enter Tryz.func189,Tryz.ntmps189
     go_wp2_with fail
     go_quiet (fail)
     go_wp2_with fail
     go_ret
     exact ⟨rfl,bdrew (below_alloc w _) _⟩)
  ·rw [hX] at hc0
   have ha0:w.cell? ⟨3,2,none⟩=some (.int .u8 160):=(hT.2 1 (by omega)).1
   have ha1:w.cell? ⟨3,3,none⟩=some (.int .u8 191):=(hT.2 1 (by omega)).2
   have ft:=@fullN_t s.size x0.toNat x1.toNat x2.toNat 19 160 191 hX rfl rfl
   have ff:=@fullN_f s.size x0.toNat x1.toNat x2.toNat 19 160 191 hX rfl rfl
   by_cases hn:3<=s.size
   ·rw [ft (by omega)]
    clear ft ff hX hT hs1 hs2
    go_enter Tryz.func189,Tryz.ntmps189
    go_wp2_with fail
    go_ret
    exact ⟨rfl,Below.refl _ _⟩
   ·have hc:s.size=1\/(s.size=2/\x1.toNat<160)\/(s.size=2/\¬ x1.toNat<160/\191<x1.toNat)\/(s.size=2/\¬ x1.toNat<160/\¬ 191<x1.toNat):=by omega
    clear hn
    rcases hc with hc | hc | hc | hc <;> (
     try have q1:=hs1 (by omega)
     try have q2:=hs2 (by omega)
     try have g1:decide ((x1.toNat:Int)<160)=true:=decide_eq_true (by omega)
     try have g1:decide ((x1.toNat:Int)<160)=false:=decide_eq_false (by omega)
     try have g2:decide ((191:Int)<(x1.toNat:Int))=true:=decide_eq_true (by omega)
     try have g2:decide ((191:Int)<(x1.toNat:Int))=false:=decide_eq_false (by omega)
     try have g3:decide ((x2.toNat:Int)<128)=true:=decide_eq_true (by omega)
     try have g3:decide ((x2.toNat:Int)<128)=false:=decide_eq_false (by omega)
     try have g4:decide ((191:Int)<(x2.toNat:Int))=true:=decide_eq_true (by omega)
     try have g4:decide ((191:Int)<(x2.toNat:Int))=false:=decide_eq_false (by omega)
     first | rw [ft (by omega)] | rw [ff (by omega)]
     first | have hn1:s.size=1:=(by omega) | have hn1:s.size=2:=(by omega) | have hn1:s.size=3:=by omega
     clear ft ff hX hT hs1 hs2
     go_enter Tryz.func189,Tryz.ntmps189
     go_wp2_with fail
     go_quiet (fail)
     go_wp2_with fail
     go_ret
     exact ⟨rfl,bdrew (below_alloc w _) _⟩)
  ·rw [hX] at hc0
   have ha0:w.cell? ⟨3,0,none⟩=some (.int .u8 128):=(hT.2 0 (by omega)).1
   have ha1:w.cell? ⟨3,1,none⟩=some (.int .u8 191):=(hT.2 0 (by omega)).2
   have ft:=@fullN_t s.size x0.toNat x1.toNat x2.toNat 3 128 191 hX rfl rfl
   have ff:=@fullN_f s.size x0.toNat x1.toNat x2.toNat 3 128 191 hX rfl rfl
   by_cases hn:3<=s.size
   ·rw [ft (by omega)]
    clear ft ff hX hT hs1 hs2
    go_enter Tryz.func189,Tryz.ntmps189
    go_wp2_with fail
    go_ret
    exact ⟨rfl,Below.refl _ _⟩
   ·have hc:s.size=1\/(s.size=2/\x1.toNat<128)\/(s.size=2/\¬ x1.toNat<128/\191<x1.toNat)\/(s.size=2/\¬ x1.toNat<128/\¬ 191<x1.toNat):=by omega
    clear hn
    rcases hc with hc | hc | hc | hc <;> (
     try have q1:=hs1 (by omega)
     try have q2:=hs2 (by omega)
     try have g1:decide ((x1.toNat:Int)<128)=true:=decide_eq_true (by omega)
     try have g1:decide ((x1.toNat:Int)<128)=false:=decide_eq_false (by omega)
     try have g2:decide ((191:Int)<(x1.toNat:Int))=true:=decide_eq_true (by omega)
     try have g2:decide ((191:Int)<(x1.toNat:Int))=false:=decide_eq_false (by omega)
     try have g3:decide ((x2.toNat:Int)<128)=true:=decide_eq_true (by omega)
     try have g3:decide ((x2.toNat:Int)<128)=false:=decide_eq_false (by omega)
     try have g4:decide ((191:Int)<(x2.toNat:Int))=true:=decide_eq_true (by omega)
     try have g4:decide ((191:Int)<(x2.toNat:Int))=false:=decide_eq_false (by omega)
     first | rw [ft (by omega)] | rw [ff (by omega)]
     first | have hn1:s.size=1:=(by omega) | have hn1:s.size=2:=(by omega) | have hn1:s.size=3:=by omega
     clear ft ff hX hT hs1 hs2
     go_enter Tryz.func189,Tryz.ntmps189
     go_wp2_with fail
     go_quiet (fail)
     go_wp2_with fail
     go_ret
     exact ⟨rfl,bdrew (below_alloc w _) _⟩)
  ·rw [hX] at hc0
   have ha0:w.cell? ⟨3,4,none⟩=some (.int .u8 128):=(hT.2 2 (by omega)).1
   have ha1:w.cell? ⟨3,5,none⟩=some (.int .u8 159):=(hT.2 2 (by omega)).2
   have ft:=@fullN_t s.size x0.toNat x1.toNat x2.toNat 35 128 159 hX rfl rfl
   have ff:=@fullN_f s.size x0.toNat x1.toNat x2.toNat 35 128 159 hX rfl rfl
   by_cases hn:3<=s.size
   ·rw [ft (by omega)]
    clear ft ff hX hT hs1 hs2
    go_enter Tryz.func189,Tryz.ntmps189
    go_wp2_with fail
    go_ret
    exact ⟨rfl,Below.refl _ _⟩
   ·have hc:s.size=1\/(s.size=2/\x1.toNat<128)\/(s.size=2/\¬ x1.toNat<128/\159<x1.toNat)\/(s.size=2/\¬ x1.toNat<128/\¬ 159<x1.toNat):=by omega
    clear hn
    rcases hc with hc | hc | hc | hc <;> (
     try have q1:=hs1 (by omega)
     try have q2:=hs2 (by omega)
     try have g1:decide ((x1.toNat:Int)<128)=true:=decide_eq_true (by omega)
     try have g1:decide ((x1.toNat:Int)<128)=false:=decide_eq_false (by omega)
     try have g2:decide ((159:Int)<(x1.toNat:Int))=true:=decide_eq_true (by omega)
     try have g2:decide ((159:Int)<(x1.toNat:Int))=false:=decide_eq_false (by omega)
     try have g3:decide ((x2.toNat:Int)<128)=true:=decide_eq_true (by omega)
     try have g3:decide ((x2.toNat:Int)<128)=false:=decide_eq_false (by omega)
     try have g4:decide ((191:Int)<(x2.toNat:Int))=true:=decide_eq_true (by omega)
     try have g4:decide ((191:Int)<(x2.toNat:Int))=false:=decide_eq_false (by omega)
     first | rw [ft (by omega)] | rw [ff (by omega)]
     first | have hn1:s.size=1:=(by omega) | have hn1:s.size=2:=(by omega) | have hn1:s.size=3:=by omega
     clear ft ff hX hT hs1 hs2
     go_enter Tryz.func189,Tryz.ntmps189
     go_wp2_with fail
     go_quiet (fail)
     go_wp2_with fail
     go_ret
     exact ⟨rfl,bdrew (below_alloc w _) _⟩)
  ·rw [hX] at hc0
   have ha0:w.cell? ⟨3,6,none⟩=some (.int .u8 144):=(hT.2 3 (by omega)).1
   have ha1:w.cell? ⟨3,7,none⟩=some (.int .u8 191):=(hT.2 3 (by omega)).2
   have ft:=@fullN_t s.size x0.toNat x1.toNat x2.toNat 52 144 191 hX rfl rfl
   have ff:=@fullN_f s.size x0.toNat x1.toNat x2.toNat 52 144 191 hX rfl rfl
   by_cases hn:4<=s.size
   ·rw [ft (by omega)]
    clear ft ff hX hT hs1 hs2
    go_enter Tryz.func189,Tryz.ntmps189
    go_wp2_with fail
    go_ret
    exact ⟨rfl,Below.refl _ _⟩
   ·have hc:s.size=1\/(s.size=2/\x1.toNat<144)\/(s.size=2/\¬ x1.toNat<144/\191<x1.toNat)\/(s.size=2/\¬ x1.toNat<144/\¬ 191<x1.toNat)\/(s.size=3/\x1.toNat<144)\/(s.size=3/\¬ x1.toNat<144/\191<x1.toNat)\/(s.size=3/\¬ x1.toNat<144/\¬ 191<x1.toNat/\x2.toNat<128)\/(s.size=3/\¬ x1.toNat<144/\¬ 191<x1.toNat/\¬ x2.toNat<128/\191<x2.toNat)\/(s.size=3/\¬ x1.toNat<144/\¬ 191<x1.toNat/\¬ x2.toNat<128/\¬ 191<x2.toNat):=by omega
    clear hn
    rcases hc with hc | hc | hc | hc | hc | hc | hc | hc | hc <;> (
     try have q1:=hs1 (by omega)
     try have q2:=hs2 (by omega)
     try have g1:decide ((x1.toNat:Int)<144)=true:=decide_eq_true (by omega)
     try have g1:decide ((x1.toNat:Int)<144)=false:=decide_eq_false (by omega)
     try have g2:decide ((191:Int)<(x1.toNat:Int))=true:=decide_eq_true (by omega)
     try have g2:decide ((191:Int)<(x1.toNat:Int))=false:=decide_eq_false (by omega)
     try have g3:decide ((x2.toNat:Int)<128)=true:=decide_eq_true (by omega)
     try have g3:decide ((x2.toNat:Int)<128)=false:=decide_eq_false (by omega)
     try have g4:decide ((191:Int)<(x2.toNat:Int))=true:=decide_eq_true (by omega)
     try have g4:decide ((191:Int)<(x2.toNat:Int))=false:=decide_eq_false (by omega)
     first | rw [ft (by omega)] | rw [ff (by omega)]
     first | have hn1:s.size=1:=(by omega) | have hn1:s.size=2:=(by omega) | have hn1:s.size=3:=by omega
     clear ft ff hX hT hs1 hs2
     go_enter Tryz.func189,Tryz.ntmps189
     go_wp2_with fail
     go_quiet (fail)
     go_wp2_with fail
     go_ret
     exact ⟨rfl,bdrew (below_alloc w _) _⟩)
  ·rw [hX] at hc0
   have ha0:w.cell? ⟨3,0,none⟩=some (.int .u8 128):=(hT.2 0 (by omega)).1
   have ha1:w.cell? ⟨3,1,none⟩=some (.int .u8 191):=(hT.2 0 (by omega)).2
   have ft:=@fullN_t s.size x0.toNat x1.toNat x2.toNat 4 128 191 hX rfl rfl
   have ff:=@fullN_f s.size x0.toNat x1.toNat x2.toNat 4 128 191 hX rfl rfl
   by_cases hn:4<=s.size
   ·rw [ft (by omega)]
    clear ft ff hX hT hs1 hs2
    go_enter Tryz.func189,Tryz.ntmps189
    go_wp2_with fail
    go_ret
    exact ⟨rfl,Below.refl _ _⟩
   ·have hc:s.size=1\/(s.size=2/\x1.toNat<128)\/(s.size=2/\¬ x1.toNat<128/\191<x1.toNat)\/(s.size=2/\¬ x1.toNat<128/\¬ 191<x1.toNat)\/(s.size=3/\x1.toNat<128)\/(s.size=3/\¬ x1.toNat<128/\191<x1.toNat)\/(s.size=3/\¬ x1.toNat<128/\¬ 191<x1.toNat/\x2.toNat<128)\/(s.size=3/\¬ x1.toNat<128/\¬ 191<x1.toNat/\¬ x2.toNat<128/\191<x2.toNat)\/(s.size=3/\¬ x1.toNat<128/\¬ 191<x1.toNat/\¬ x2.toNat<128/\¬ 191<x2.toNat):=by omega
    clear hn
    rcases hc with hc | hc | hc | hc | hc | hc | hc | hc | hc <;> (
     try have q1:=hs1 (by omega)
     try have q2:=hs2 (by omega)
     try have g1:decide ((x1.toNat:Int)<128)=true:=decide_eq_true (by omega)
     try have g1:decide ((x1.toNat:Int)<128)=false:=decide_eq_false (by omega)
     try have g2:decide ((191:Int)<(x1.toNat:Int))=true:=decide_eq_true (by omega)
     try have g2:decide ((191:Int)<(x1.toNat:Int))=false:=decide_eq_false (by omega)
     try have g3:decide ((x2.toNat:Int)<128)=true:=decide_eq_true (by omega)
     try have g3:decide ((x2.toNat:Int)<128)=false:=decide_eq_false (by omega)
     try have g4:decide ((191:Int)<(x2.toNat:Int))=true:=decide_eq_true (by omega)
     try have g4:decide ((191:Int)<(x2.toNat:Int))=false:=decide_eq_false (by omega)
     first | rw [ft (by omega)] | rw [ff (by omega)]
     first | have hn1:s.size=1:=(by omega) | have hn1:s.size=2:=(by omega) | have hn1:s.size=3:=by omega
     clear ft ff hX hT hs1 hs2
     go_enter Tryz.func189,Tryz.ntmps189
     go_wp2_with fail
     go_quiet (fail)
     go_wp2_with fail
     go_ret
     exact ⟨rfl,bdrew (below_alloc w _) _⟩)
  ·rw [hX] at hc0
   have ha0:w.cell? ⟨3,8,none⟩=some (.int .u8 128):=(hT.2 4 (by omega)).1
   have ha1:w.cell? ⟨3,9,none⟩=some (.int .u8 143):=(hT.2 4 (by omega)).2
   have ft:=@fullN_t s.size x0.toNat x1.toNat x2.toNat 68 128 143 hX rfl rfl
   have ff:=@fullN_f s.size x0.toNat x1.toNat x2.toNat 68 128 143 hX rfl rfl
   by_cases hn:4<=s.size
   ·rw [ft (by omega)]
    clear ft ff hX hT hs1 hs2
    go_enter Tryz.func189,Tryz.ntmps189
    go_wp2_with fail
    go_ret
    exact ⟨rfl,Below.refl _ _⟩
   ·have hc:s.size=1\/(s.size=2/\x1.toNat<128)\/(s.size=2/\¬ x1.toNat<128/\143<x1.toNat)\/(s.size=2/\¬ x1.toNat<128/\¬ 143<x1.toNat)\/(s.size=3/\x1.toNat<128)\/(s.size=3/\¬ x1.toNat<128/\143<x1.toNat)\/(s.size=3/\¬ x1.toNat<128/\¬ 143<x1.toNat/\x2.toNat<128)\/(s.size=3/\¬ x1.toNat<128/\¬ 143<x1.toNat/\¬ x2.toNat<128/\191<x2.toNat)\/(s.size=3/\¬ x1.toNat<128/\¬ 143<x1.toNat/\¬ x2.toNat<128/\¬ 191<x2.toNat):=by omega
    clear hn
    rcases hc with hc | hc | hc | hc | hc | hc | hc | hc | hc <;> (
     try have q1:=hs1 (by omega)
     try have q2:=hs2 (by omega)
     try have g1:decide ((x1.toNat:Int)<128)=true:=decide_eq_true (by omega)
     try have g1:decide ((x1.toNat:Int)<128)=false:=decide_eq_false (by omega)
     try have g2:decide ((143:Int)<(x1.toNat:Int))=true:=decide_eq_true (by omega)
     try have g2:decide ((143:Int)<(x1.toNat:Int))=false:=decide_eq_false (by omega)
     try have g3:decide ((x2.toNat:Int)<128)=true:=decide_eq_true (by omega)
     try have g3:decide ((x2.toNat:Int)<128)=false:=decide_eq_false (by omega)
     try have g4:decide ((191:Int)<(x2.toNat:Int))=true:=decide_eq_true (by omega)
     try have g4:decide ((191:Int)<(x2.toNat:Int))=false:=decide_eq_false (by omega)
     first | rw [ft (by omega)] | rw [ff (by omega)]
     first | have hn1:s.size=1:=(by omega) | have hn1:s.size=2:=(by omega) | have hn1:s.size=3:=by omega
     clear ft ff hX hT hs1 hs2
     go_enter Tryz.func189,Tryz.ntmps189
     go_wp2_with fail
     go_quiet (fail)
     go_wp2_with fail
     go_ret
     exact ⟨rfl,bdrew (below_alloc w _) _⟩)
-- END full_any
def ByAt (w:World) (b o:Nat) (s:ByteArray):Prop:=∀ j,j<s.size->w.cell? ⟨b,o+j,none⟩=some (.int .u8 ((s.get! j).toNat:Nat))
theorem cell_ltT {w:World} {b o:Nat} {v:Value} (h:w.cell? ⟨b,o,none⟩=some v):b<w.heap.size:=by
 unfold World.cell? at h
 cases hh:w.heap[b]? with
 | none=>rw [hh] at h;simp at h
 | some x=>exact (Array.getElem?_eq_some_iff.1 hh).1
theorem ByAt.below {w w':World} {b o:Nat} {s:ByteArray} (h:ByAt w b o s) (hb:Below w.heap.size w w'):ByAt w' b o s:=fun j hj=>(hb.cell (p:=⟨b,o+j,none⟩) (cell_ltT (h j hj))).trans (h j hj)
theorem len_zero_any (w:World) (ao:Option Addr) (cap:Nat):Calls Tryz.prog 200 #[.slice ao 0 cap] w fun r w'=>r=.returned (.bool false)/\Below w.heap.size w w':=by
 go_enter Tryz.func200,Tryz.ntmps200
 go_wp2_with fail
 go_ret
 exact ⟨rfl,Below.refl _ _⟩
set_option maxHeartbeats 4000000 in
set_option maxRecDepth 1000000 in
theorem fullB_any (s:ByteArray) (w:World) (b o cap:Nat) (hT:Utf8Tabs 2 3 w) (hB:ByAt w b o s) (hn0:1<=s.size) (hlen:s.size<=1500000) :
  Calls Tryz.prog 200 #[.slice (some ⟨b,o,none⟩) s.size cap] w fun r w'=>r=.returned (.bool (fullS s))/\Below w.heap.size w w':=by
 have h0:¬ s.size=0:=by omega
 unfold fullS
 rw [if_neg h0]
 have hz0:(0:Int)<(s.size:Int):=by omega
 have hbl:b<w.heap.size:=cell_ltT (hB 0 hn0)
 obtain ⟨x0,hx0⟩:∃ x0,s.get! 0=x0:=⟨_,rfl⟩
 obtain ⟨x1,hx1⟩:∃ x1,s.get! 1=x1:=⟨_,rfl⟩
 obtain ⟨x2,hx2⟩:∃ x2,s.get! 2=x2:=⟨_,rfl⟩
 have hs0:w.cell? ⟨b,o,none⟩=some (.int .u8 (x0.toNat:Nat)):=by rw [<- hx0];exact hB 0 hn0
 have hs1:∀ h:1<s.size,∀ ob,(w.alloc ob).cell? ⟨b,o+1,none⟩=some (.int .u8 (x1.toNat:Nat)):=fun h ob=>by rw [<- hx1];exact ((below_alloc w ob).cell (p:=⟨b,o+1,none⟩) hbl).trans (hB 1 h)
 have hs2:∀ h:2<s.size,∀ ob,(w.alloc ob).cell? ⟨b,o+2,none⟩=some (.int .u8 (x2.toNat:Nat)):=fun h ob=>by rw [<- hx2];exact ((below_alloc w ob).cell (p:=⟨b,o+2,none⟩) hbl).trans (hB 2 h)
 rw [hx0,hx1,hx2]
 have l0:=x0.toNat_lt
 have l1:=x1.toNat_lt
 have l2:=x2.toNat_lt
 have hc0:=hT.1 x0.toNat (by omega)
 generalize hsz:s.size=n at *
 clear hB hx0 hx1 hx2 hsz hbl
 rcases firstT_cases x0.toNat with hX | hX | hX | hX | hX | hX | hX | hX | hX
 ·rw [show fullN n x0.toNat x1.toNat x2.toNat=true from by unfold fullN;rw [hX,if_pos (by omega)]]
  rw [hX] at hc0
  clear hT hX hs1 hs2
  go_enter Tryz.func200,Tryz.ntmps200
  go_wp2_with fail
  go_ret
  exact ⟨rfl,Below.refl _ _⟩
 ·rw [show fullN n x0.toNat x1.toNat x2.toNat=true from by unfold fullN;rw [hX,if_pos (by omega)]]
  rw [hX] at hc0
  clear hT hX hs1 hs2
  go_enter Tryz.func200,Tryz.ntmps200
  go_wp2_with fail
  go_ret
  exact ⟨rfl,Below.refl _ _⟩
 ·rw [hX] at hc0
  have ha0:w.cell? ⟨3,0,none⟩=some (.int .u8 128):=(hT.2 0 (by omega)).1
  have ha1:w.cell? ⟨3,1,none⟩=some (.int .u8 191):=(hT.2 0 (by omega)).2
  have ft:=@fullN_t n x0.toNat x1.toNat x2.toNat 2 128 191 hX rfl rfl
  have ff:=@fullN_f n x0.toNat x1.toNat x2.toNat 2 128 191 hX rfl rfl
  by_cases hn:2<=n
  ·rw [ft (by omega)]
   clear ft ff hX hT hs1 hs2
   go_enter Tryz.func200,Tryz.ntmps200
   go_wp2_with fail
   go_ret
   exact ⟨rfl,Below.refl _ _⟩
  ·have hc:n=1:=by omega
   clear hn
   skip <;> (
    try have q1:=hs1 (by omega)
    try have q2:=hs2 (by omega)
    try have g1:decide ((x1.toNat:Int)<128)=true:=decide_eq_true (by omega)
    try have g1:decide ((x1.toNat:Int)<128)=false:=decide_eq_false (by omega)
    try have g2:decide ((191:Int)<(x1.toNat:Int))=true:=decide_eq_true (by omega)
    try have g2:decide ((191:Int)<(x1.toNat:Int))=false:=decide_eq_false (by omega)
    try have g3:decide ((x2.toNat:Int)<128)=true:=decide_eq_true (by omega)
    try have g3:decide ((x2.toNat:Int)<128)=false:=decide_eq_false (by omega)
    try have g4:decide ((191:Int)<(x2.toNat:Int))=true:=decide_eq_true (by omega)
    try have g4:decide ((191:Int)<(x2.toNat:Int))=false:=decide_eq_false (by omega)
    first | rw [ft (by omega)] | rw [ff (by omega)]
    first | have hn1:n=1:=(by omega) | have hn1:n=2:=(by omega) | have hn1:n=3:=by omega
    clear ft ff hX hT hs1 hs2
    go_enter Tryz.func200,Tryz.ntmps200
    go_wp2_with fail
    go_quiet (fail)
    go_wp2_with fail
    go_ret
    exact ⟨rfl,bdrew (below_alloc w _) _⟩)
 ·rw [hX] at hc0
  have ha0:w.cell? ⟨3,2,none⟩=some (.int .u8 160):=(hT.2 1 (by omega)).1
  have ha1:w.cell? ⟨3,3,none⟩=some (.int .u8 191):=(hT.2 1 (by omega)).2
  have ft:=@fullN_t n x0.toNat x1.toNat x2.toNat 19 160 191 hX rfl rfl
  have ff:=@fullN_f n x0.toNat x1.toNat x2.toNat 19 160 191 hX rfl rfl
  by_cases hn:3<=n
  ·rw [ft (by omega)]
   clear ft ff hX hT hs1 hs2
   go_enter Tryz.func200,Tryz.ntmps200
   go_wp2_with fail
   go_ret
   exact ⟨rfl,Below.refl _ _⟩
  ·have hc:n=1\/(n=2/\x1.toNat<160)\/(n=2/\¬ x1.toNat<160/\191<x1.toNat)\/(n=2/\¬ x1.toNat<160/\¬ 191<x1.toNat):=by omega
   clear hn
   rcases hc with hc | hc | hc | hc <;> (
    try have q1:=hs1 (by omega)
    try have q2:=hs2 (by omega)
    try have g1:decide ((x1.toNat:Int)<160)=true:=decide_eq_true (by omega)
    try have g1:decide ((x1.toNat:Int)<160)=false:=decide_eq_false (by omega)
    try have g2:decide ((191:Int)<(x1.toNat:Int))=true:=decide_eq_true (by omega)
    try have g2:decide ((191:Int)<(x1.toNat:Int))=false:=decide_eq_false (by omega)
    try have g3:decide ((x2.toNat:Int)<128)=true:=decide_eq_true (by omega)
    try have g3:decide ((x2.toNat:Int)<128)=false:=decide_eq_false (by omega)
    try have g4:decide ((191:Int)<(x2.toNat:Int))=true:=decide_eq_true (by omega)
    try have g4:decide ((191:Int)<(x2.toNat:Int))=false:=decide_eq_false (by omega)
    first | rw [ft (by omega)] | rw [ff (by omega)]
    first | have hn1:n=1:=(by omega) | have hn1:n=2:=(by omega) | have hn1:n=3:=by omega
    clear ft ff hX hT hs1 hs2
    go_enter Tryz.func200,Tryz.ntmps200
    go_wp2_with fail
    go_quiet (fail)
    go_wp2_with fail
    go_ret
    exact ⟨rfl,bdrew (below_alloc w _) _⟩)
 ·rw [hX] at hc0
  have ha0:w.cell? ⟨3,0,none⟩=some (.int .u8 128):=(hT.2 0 (by omega)).1
  have ha1:w.cell? ⟨3,1,none⟩=some (.int .u8 191):=(hT.2 0 (by omega)).2
  have ft:=@fullN_t n x0.toNat x1.toNat x2.toNat 3 128 191 hX rfl rfl
  have ff:=@fullN_f n x0.toNat x1.toNat x2.toNat 3 128 191 hX rfl rfl
  by_cases hn:3<=n
  ·rw [ft (by omega)]
   clear ft ff hX hT hs1 hs2
   go_enter Tryz.func200,Tryz.ntmps200
   go_wp2_with fail
   go_ret
   exact ⟨rfl,Below.refl _ _⟩
  ·have hc:n=1\/(n=2/\x1.toNat<128)\/(n=2/\¬ x1.toNat<128/\191<x1.toNat)\/(n=2/\¬ x1.toNat<128/\¬ 191<x1.toNat):=by omega
   clear hn
   rcases hc with hc | hc | hc | hc <;> (
    try have q1:=hs1 (by omega)
    try have q2:=hs2 (by omega)
    try have g1:decide ((x1.toNat:Int)<128)=true:=decide_eq_true (by omega)
    try have g1:decide ((x1.toNat:Int)<128)=false:=decide_eq_false (by omega)
    try have g2:decide ((191:Int)<(x1.toNat:Int))=true:=decide_eq_true (by omega)
    try have g2:decide ((191:Int)<(x1.toNat:Int))=false:=decide_eq_false (by omega)
    try have g3:decide ((x2.toNat:Int)<128)=true:=decide_eq_true (by omega)
    try have g3:decide ((x2.toNat:Int)<128)=false:=decide_eq_false (by omega)
    try have g4:decide ((191:Int)<(x2.toNat:Int))=true:=decide_eq_true (by omega)
    try have g4:decide ((191:Int)<(x2.toNat:Int))=false:=decide_eq_false (by omega)
    first | rw [ft (by omega)] | rw [ff (by omega)]
    first | have hn1:n=1:=(by omega) | have hn1:n=2:=(by omega) | have hn1:n=3:=by omega
    clear ft ff hX hT hs1 hs2
    go_enter Tryz.func200,Tryz.ntmps200
    go_wp2_with fail
    go_quiet (fail)
    go_wp2_with fail
    go_ret
    exact ⟨rfl,bdrew (below_alloc w _) _⟩)
 ·rw [hX] at hc0
  have ha0:w.cell? ⟨3,4,none⟩=some (.int .u8 128):=(hT.2 2 (by omega)).1
  have ha1:w.cell? ⟨3,5,none⟩=some (.int .u8 159):=(hT.2 2 (by omega)).2
  have ft:=@fullN_t n x0.toNat x1.toNat x2.toNat 35 128 159 hX rfl rfl
  have ff:=@fullN_f n x0.toNat x1.toNat x2.toNat 35 128 159 hX rfl rfl
  by_cases hn:3<=n
  ·rw [ft (by omega)]
   clear ft ff hX hT hs1 hs2
   go_enter Tryz.func200,Tryz.ntmps200
   go_wp2_with fail
   go_ret
   exact ⟨rfl,Below.refl _ _⟩
  ·have hc:n=1\/(n=2/\x1.toNat<128)\/(n=2/\¬ x1.toNat<128/\159<x1.toNat)\/(n=2/\¬ x1.toNat<128/\¬ 159<x1.toNat):=by omega
   clear hn
   rcases hc with hc | hc | hc | hc <;> (
    try have q1:=hs1 (by omega)
    try have q2:=hs2 (by omega)
    try have g1:decide ((x1.toNat:Int)<128)=true:=decide_eq_true (by omega)
    try have g1:decide ((x1.toNat:Int)<128)=false:=decide_eq_false (by omega)
    try have g2:decide ((159:Int)<(x1.toNat:Int))=true:=decide_eq_true (by omega)
    try have g2:decide ((159:Int)<(x1.toNat:Int))=false:=decide_eq_false (by omega)
    try have g3:decide ((x2.toNat:Int)<128)=true:=decide_eq_true (by omega)
    try have g3:decide ((x2.toNat:Int)<128)=false:=decide_eq_false (by omega)
    try have g4:decide ((191:Int)<(x2.toNat:Int))=true:=decide_eq_true (by omega)
    try have g4:decide ((191:Int)<(x2.toNat:Int))=false:=decide_eq_false (by omega)
    first | rw [ft (by omega)] | rw [ff (by omega)]
    first | have hn1:n=1:=(by omega) | have hn1:n=2:=(by omega) | have hn1:n=3:=by omega
    clear ft ff hX hT hs1 hs2
    go_enter Tryz.func200,Tryz.ntmps200
    go_wp2_with fail
    go_quiet (fail)
    go_wp2_with fail
    go_ret
    exact ⟨rfl,bdrew (below_alloc w _) _⟩)
 ·rw [hX] at hc0
  have ha0:w.cell? ⟨3,6,none⟩=some (.int .u8 144):=(hT.2 3 (by omega)).1
  have ha1:w.cell? ⟨3,7,none⟩=some (.int .u8 191):=(hT.2 3 (by omega)).2
  have ft:=@fullN_t n x0.toNat x1.toNat x2.toNat 52 144 191 hX rfl rfl
  have ff:=@fullN_f n x0.toNat x1.toNat x2.toNat 52 144 191 hX rfl rfl
  by_cases hn:4<=n
  ·rw [ft (by omega)]
   clear ft ff hX hT hs1 hs2
   go_enter Tryz.func200,Tryz.ntmps200
   go_wp2_with fail
   go_ret
   exact ⟨rfl,Below.refl _ _⟩
  ·have hc:n=1\/(n=2/\x1.toNat<144)\/(n=2/\¬ x1.toNat<144/\191<x1.toNat)\/(n=2/\¬ x1.toNat<144/\¬ 191<x1.toNat)\/(n=3/\x1.toNat<144)\/(n=3/\¬ x1.toNat<144/\191<x1.toNat)\/(n=3/\¬ x1.toNat<144/\¬ 191<x1.toNat/\x2.toNat<128)\/(n=3/\¬ x1.toNat<144/\¬ 191<x1.toNat/\¬ x2.toNat<128/\191<x2.toNat)\/(n=3/\¬ x1.toNat<144/\¬ 191<x1.toNat/\¬ x2.toNat<128/\¬ 191<x2.toNat):=by omega
   clear hn
   rcases hc with hc | hc | hc | hc | hc | hc | hc | hc | hc <;> (
    try have q1:=hs1 (by omega)
    try have q2:=hs2 (by omega)
    try have g1:decide ((x1.toNat:Int)<144)=true:=decide_eq_true (by omega)
    try have g1:decide ((x1.toNat:Int)<144)=false:=decide_eq_false (by omega)
    try have g2:decide ((191:Int)<(x1.toNat:Int))=true:=decide_eq_true (by omega)
    try have g2:decide ((191:Int)<(x1.toNat:Int))=false:=decide_eq_false (by omega)
    try have g3:decide ((x2.toNat:Int)<128)=true:=decide_eq_true (by omega)
    try have g3:decide ((x2.toNat:Int)<128)=false:=decide_eq_false (by omega)
    try have g4:decide ((191:Int)<(x2.toNat:Int))=true:=decide_eq_true (by omega)
    try have g4:decide ((191:Int)<(x2.toNat:Int))=false:=decide_eq_false (by omega)
    first | rw [ft (by omega)] | rw [ff (by omega)]
    first | have hn1:n=1:=(by omega) | have hn1:n=2:=(by omega) | have hn1:n=3:=by omega
    clear ft ff hX hT hs1 hs2
    go_enter Tryz.func200,Tryz.ntmps200
    go_wp2_with fail
    go_quiet (fail)
    go_wp2_with fail
    go_ret
    exact ⟨rfl,bdrew (below_alloc w _) _⟩)
 ·rw [hX] at hc0
  have ha0:w.cell? ⟨3,0,none⟩=some (.int .u8 128):=(hT.2 0 (by omega)).1
  have ha1:w.cell? ⟨3,1,none⟩=some (.int .u8 191):=(hT.2 0 (by omega)).2
  have ft:=@fullN_t n x0.toNat x1.toNat x2.toNat 4 128 191 hX rfl rfl
  have ff:=@fullN_f n x0.toNat x1.toNat x2.toNat 4 128 191 hX rfl rfl
  by_cases hn:4<=n
  ·rw [ft (by omega)]
   clear ft ff hX hT hs1 hs2
   go_enter Tryz.func200,Tryz.ntmps200
   go_wp2_with fail
   go_ret
   exact ⟨rfl,Below.refl _ _⟩
  ·have hc:n=1\/(n=2/\x1.toNat<128)\/(n=2/\¬ x1.toNat<128/\191<x1.toNat)\/(n=2/\¬ x1.toNat<128/\¬ 191<x1.toNat)\/(n=3/\x1.toNat<128)\/(n=3/\¬ x1.toNat<128/\191<x1.toNat)\/(n=3/\¬ x1.toNat<128/\¬ 191<x1.toNat/\x2.toNat<128)\/(n=3/\¬ x1.toNat<128/\¬ 191<x1.toNat/\¬ x2.toNat<128/\191<x2.toNat)\/(n=3/\¬ x1.toNat<128/\¬ 191<x1.toNat/\¬ x2.toNat<128/\¬ 191<x2.toNat):=by omega
   clear hn
   rcases hc with hc | hc | hc | hc | hc | hc | hc | hc | hc <;> (
    try have q1:=hs1 (by omega)
    try have q2:=hs2 (by omega)
    try have g1:decide ((x1.toNat:Int)<128)=true:=decide_eq_true (by omega)
    try have g1:decide ((x1.toNat:Int)<128)=false:=decide_eq_false (by omega)
    try have g2:decide ((191:Int)<(x1.toNat:Int))=true:=decide_eq_true (by omega)
    try have g2:decide ((191:Int)<(x1.toNat:Int))=false:=decide_eq_false (by omega)
    try have g3:decide ((x2.toNat:Int)<128)=true:=decide_eq_true (by omega)
    try have g3:decide ((x2.toNat:Int)<128)=false:=decide_eq_false (by omega)
    try have g4:decide ((191:Int)<(x2.toNat:Int))=true:=decide_eq_true (by omega)
    try have g4:decide ((191:Int)<(x2.toNat:Int))=false:=decide_eq_false (by omega)
    first | rw [ft (by omega)] | rw [ff (by omega)]
    first | have hn1:n=1:=(by omega) | have hn1:n=2:=(by omega) | have hn1:n=3:=by omega
    clear ft ff hX hT hs1 hs2
    go_enter Tryz.func200,Tryz.ntmps200
    go_wp2_with fail
    go_quiet (fail)
    go_wp2_with fail
    go_ret
    exact ⟨rfl,bdrew (below_alloc w _) _⟩)
 ·rw [hX] at hc0
  have ha0:w.cell? ⟨3,8,none⟩=some (.int .u8 128):=(hT.2 4 (by omega)).1
  have ha1:w.cell? ⟨3,9,none⟩=some (.int .u8 143):=(hT.2 4 (by omega)).2
  have ft:=@fullN_t n x0.toNat x1.toNat x2.toNat 68 128 143 hX rfl rfl
  have ff:=@fullN_f n x0.toNat x1.toNat x2.toNat 68 128 143 hX rfl rfl
  by_cases hn:4<=n
  ·rw [ft (by omega)]
   clear ft ff hX hT hs1 hs2
   go_enter Tryz.func200,Tryz.ntmps200
   go_wp2_with fail
   go_ret
   exact ⟨rfl,Below.refl _ _⟩
  ·have hc:n=1\/(n=2/\x1.toNat<128)\/(n=2/\¬ x1.toNat<128/\143<x1.toNat)\/(n=2/\¬ x1.toNat<128/\¬ 143<x1.toNat)\/(n=3/\x1.toNat<128)\/(n=3/\¬ x1.toNat<128/\143<x1.toNat)\/(n=3/\¬ x1.toNat<128/\¬ 143<x1.toNat/\x2.toNat<128)\/(n=3/\¬ x1.toNat<128/\¬ 143<x1.toNat/\¬ x2.toNat<128/\191<x2.toNat)\/(n=3/\¬ x1.toNat<128/\¬ 143<x1.toNat/\¬ x2.toNat<128/\¬ 191<x2.toNat):=by omega
   clear hn
   rcases hc with hc | hc | hc | hc | hc | hc | hc | hc | hc <;> (
    try have q1:=hs1 (by omega)
    try have q2:=hs2 (by omega)
    try have g1:decide ((x1.toNat:Int)<128)=true:=decide_eq_true (by omega)
    try have g1:decide ((x1.toNat:Int)<128)=false:=decide_eq_false (by omega)
    try have g2:decide ((143:Int)<(x1.toNat:Int))=true:=decide_eq_true (by omega)
    try have g2:decide ((143:Int)<(x1.toNat:Int))=false:=decide_eq_false (by omega)
    try have g3:decide ((x2.toNat:Int)<128)=true:=decide_eq_true (by omega)
    try have g3:decide ((x2.toNat:Int)<128)=false:=decide_eq_false (by omega)
    try have g4:decide ((191:Int)<(x2.toNat:Int))=true:=decide_eq_true (by omega)
    try have g4:decide ((191:Int)<(x2.toNat:Int))=false:=decide_eq_false (by omega)
    first | rw [ft (by omega)] | rw [ff (by omega)]
    first | have hn1:n=1:=(by omega) | have hn1:n=2:=(by omega) | have hn1:n=3:=by omega
    clear ft ff hX hT hs1 hs2
    go_enter Tryz.func200,Tryz.ntmps200
    go_wp2_with fail
    go_quiet (fail)
    go_wp2_with fail
    go_ret
    exact ⟨rfl,bdrew (below_alloc w _) _⟩)
end Go.Proofs.YtodagkkjfipbgaaGreatDoor
