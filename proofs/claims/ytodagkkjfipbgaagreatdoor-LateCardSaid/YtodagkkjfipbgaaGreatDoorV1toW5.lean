import Derived.Shelf.Unicode.DecodeLastEight
import Derived.Test.YtodagkkjfipbgaaGreatDoorN15toN17
import Derived.Test.YtodagkkjfipbgaaGreatDoorSh2lone
namespace Go.Proofs.YtodagkkjfipbgaaGreatDoor
open Go.RowKit Go.Maps
def leftAt (t:Tab) (row:List Nat) (i:Nat):Nat:=(row.take i).foldl (fun a k=>tnext t a k) 0
def toldTo (f:Nat→Bool) (n m:Nat):List Bool:=(List.range m).map fun j=>if j<n then f j else false
structure KRow (w:World) (v:Value) (row:List Nat):Prop where
 own:w.ownsRow 0 169 1 v row.length (kCells row)
 lt:∀ k ∈ row,k<8
 few:row.length≤2200000
theorem KRow.below {w w':World} {v:Value} {row:List Nat} (h:KRow w v row) (hb:Below w.heap.size w w'):KRow w' v row:=⟨row_kp h.own (Kp.below hb),h.lt,h.few⟩
open Go.Lib
def fullN (n b0 b1 b2:Nat):Bool :=
 if firstT b0 % 8≤n then true
 else if 1<n∧(b1<accLo (firstT b0 / 16)∨accHi (firstT b0 / 16)<b1) then true
 else if 2<n∧(b2<128∨191<b2) then true
 else false
def fullS (s:ByteArray):Bool:=if s.size=0 then false else fullN s.size (s.get! 0).toNat (s.get! 1).toNat (s.get! 2).toNat
theorem fullN_t {n b0 b1 b2 X lo hi:Nat} (hX:firstT b0=X) (hlo:accLo (X / 16)=lo) (hhi:accHi (X / 16)=hi) (h:X % 8≤n∨(1<n∧(b1<lo∨hi<b1))∨(2<n∧(b2<128∨191<b2))):fullN n b0 b1 b2=true:=by
 unfold fullN
 rw [hX,hlo,hhi]
 repeat' split
 all_goals first | rfl | (exfalso;omega)
theorem fullN_f {n b0 b1 b2 X lo hi:Nat} (hX:firstT b0=X) (hlo:accLo (X / 16)=lo) (hhi:accHi (X / 16)=hi) (h:¬ (X % 8≤n∨(1<n∧(b1<lo∨hi<b1))∨(2<n∧(b2<128∨191<b2)))):fullN n b0 b1 b2=false:=by
 unfold fullN
 rw [hX,hlo,hhi]
 repeat' split
 all_goals first | rfl | (exfalso;omega)
set_option maxHeartbeats 4000000 in
set_option maxRecDepth 1000000 in
theorem full_any (s:ByteArray) (w:World) (hT:Utf8Tabs 2 3 w) (hlen:s.size≤4) :
  Calls Tryz.prog 189 #[.string s] w fun r w'=>r=.returned (.bool (fullS s))∧Below w.heap.size w w':=by
 by_cases h0:s.size=0
 ·unfold fullS
  rw [if_pos h0]
  clear hT
  go_enter Tryz.func189,Tryz.ntmps189
  go_wp2_with fail
  go_ret
  exact ⟨rfl,Below.refl _ _⟩
 ·unfold fullS
  rw [if_neg h0]
  have hz0:(0:Int)<(s.size:Int):=by omega
  obtain ⟨x0,hx0⟩:∃ x0,s.get! 0=x0:=⟨_,rfl⟩
  obtain ⟨x1,hx1⟩:∃ x1,s.get! 1=x1:=⟨_,rfl⟩
  obtain ⟨x2,hx2⟩:∃ x2,s.get! 2=x2:=⟨_,rfl⟩
  have hs0:s[0]'(by omega)=x0:=by rw [← hx0];exact (Utf8W.get!_of_lt s 0 (by omega)).symm
  have hs1:∀ h:1<s.size,s[1]'h=x1:=fun h=>by rw [← hx1];exact (Utf8W.get!_of_lt s 1 h).symm
  have hs2:∀ h:2<s.size,s[2]'h=x2:=fun h=>by rw [← hx2];exact (Utf8W.get!_of_lt s 2 h).symm
  rw [hx0,hx1,hx2]
  have l0:=x0.toNat_lt
  have l1:=x1.toNat_lt
  have l2:=x2.toNat_lt
  have hc0:=hT.1 x0.toNat (by omega)
  rcases firstT_cases x0.toNat with hX | hX | hX | hX | hX | hX | hX | hX | hX
  ·rw [show fullN s.size x0.toNat x1.toNat x2.toNat=true from by unfold fullN;rw [hX,if_pos (by omega)]]
   rw [hX] at hc0
   clear hT hX hs1 hs2
   go_enter Tryz.func189,Tryz.ntmps189
   go_wp2_with fail
   go_ret
   exact ⟨rfl,Below.refl _ _⟩
  ·rw [show fullN s.size x0.toNat x1.toNat x2.toNat=true from by unfold fullN;rw [hX,if_pos (by omega)]]
   rw [hX] at hc0
   clear hT hX hs1 hs2
   go_enter Tryz.func189,Tryz.ntmps189
   go_wp2_with fail
   go_ret
   exact ⟨rfl,Below.refl _ _⟩
  ·rw [hX] at hc0
   have ha0:w.cell? ⟨3,0,none⟩=some (.int .u8 128):=(hT.2 0 (by omega)).1
   have ha1:w.cell? ⟨3,1,none⟩=some (.int .u8 191):=(hT.2 0 (by omega)).2
   have ft:=@fullN_t s.size x0.toNat x1.toNat x2.toNat 2 128 191 hX rfl rfl
   have ff:=@fullN_f s.size x0.toNat x1.toNat x2.toNat 2 128 191 hX rfl rfl
   by_cases hn:2≤s.size
   ·rw [ft (by omega)]
    clear ft ff hX hT hs1 hs2
    go_enter Tryz.func189,Tryz.ntmps189
    go_wp2_with fail
    go_ret
    exact ⟨rfl,Below.refl _ _⟩
   ·have hc:s.size=1:=by omega
    clear hn
    skip <;> (
     try have q1:=hs1 (by omega)
     try have q2:=hs2 (by omega)
     try have g1:decide ((x1.toNat:Int)<128)=true:=decide_eq_true (by omega)
     try have g1:decide ((x1.toNat:Int)<128)=false:=decide_eq_false (by omega)
     try have g2:decide ((191:Int)<(x1.toNat:Int))=true:=decide_eq_true (by omega)
     try have g2:decide ((191:Int)<(x1.toNat:Int))=false:=decide_eq_false (by omega)
     try have g3:decide ((x2.toNat:Int)<128)=true:=decide_eq_true (by omega)
     try have g3:decide ((x2.toNat:Int)<128)=false:=decide_eq_false (by omega)
     try have g4:decide ((191:Int)<(x2.toNat:Int))=true:=decide_eq_true (by omega)
     try have g4:decide ((191:Int)<(x2.toNat:Int))=false:=decide_eq_false (by omega)
     first | rw [ft (by omega)] | rw [ff (by omega)]
     first | have hn1:s.size=1:=(by omega) | have hn1:s.size=2:=(by omega) | have hn1:s.size=3:=by omega
     clear ft ff hX hT hs1 hs2
     go_enter Tryz.func189,Tryz.ntmps189
     go_wp2_with fail
     go_quiet (fail)
     go_wp2_with fail
     go_ret
     exact ⟨rfl,bdrew (below_alloc w _) _⟩)
  ·rw [hX] at hc0
   have ha0:w.cell? ⟨3,2,none⟩=some (.int .u8 160):=(hT.2 1 (by omega)).1
   have ha1:w.cell? ⟨3,3,none⟩=some (.int .u8 191):=(hT.2 1 (by omega)).2
   have ft:=@fullN_t s.size x0.toNat x1.toNat x2.toNat 19 160 191 hX rfl rfl
   have ff:=@fullN_f s.size x0.toNat x1.toNat x2.toNat 19 160 191 hX rfl rfl
   by_cases hn:3≤s.size
   ·rw [ft (by omega)]
    clear ft ff hX hT hs1 hs2
    go_enter Tryz.func189,Tryz.ntmps189
    go_wp2_with fail
    go_ret
    exact ⟨rfl,Below.refl _ _⟩
   ·have hc:s.size=1∨(s.size=2∧x1.toNat<160)∨(s.size=2∧¬ x1.toNat<160∧191<x1.toNat)∨(s.size=2∧¬ x1.toNat<160∧¬ 191<x1.toNat):=by omega
    clear hn
    rcases hc with hc | hc | hc | hc <;> (
     try have q1:=hs1 (by omega)
     try have q2:=hs2 (by omega)
     try have g1:decide ((x1.toNat:Int)<160)=true:=decide_eq_true (by omega)
     try have g1:decide ((x1.toNat:Int)<160)=false:=decide_eq_false (by omega)
     try have g2:decide ((191:Int)<(x1.toNat:Int))=true:=decide_eq_true (by omega)
     try have g2:decide ((191:Int)<(x1.toNat:Int))=false:=decide_eq_false (by omega)
     try have g3:decide ((x2.toNat:Int)<128)=true:=decide_eq_true (by omega)
     try have g3:decide ((x2.toNat:Int)<128)=false:=decide_eq_false (by omega)
     try have g4:decide ((191:Int)<(x2.toNat:Int))=true:=decide_eq_true (by omega)
     try have g4:decide ((191:Int)<(x2.toNat:Int))=false:=decide_eq_false (by omega)
     first | rw [ft (by omega)] | rw [ff (by omega)]
     first | have hn1:s.size=1:=(by omega) | have hn1:s.size=2:=(by omega) | have hn1:s.size=3:=by omega
     clear ft ff hX hT hs1 hs2
     go_enter Tryz.func189,Tryz.ntmps189
     go_wp2_with fail
     go_quiet (fail)
     go_wp2_with fail
     go_ret
     exact ⟨rfl,bdrew (below_alloc w _) _⟩)
  ·rw [hX] at hc0
   have ha0:w.cell? ⟨3,0,none⟩=some (.int .u8 128):=(hT.2 0 (by omega)).1
   have ha1:w.cell? ⟨3,1,none⟩=some (.int .u8 191):=(hT.2 0 (by omega)).2
   have ft:=@fullN_t s.size x0.toNat x1.toNat x2.toNat 3 128 191 hX rfl rfl
   have ff:=@fullN_f s.size x0.toNat x1.toNat x2.toNat 3 128 191 hX rfl rfl
   by_cases hn:3≤s.size
   ·rw [ft (by omega)]
    clear ft ff hX hT hs1 hs2
    go_enter Tryz.func189,Tryz.ntmps189
    go_wp2_with fail
    go_ret
    exact ⟨rfl,Below.refl _ _⟩
   ·have hc:s.size=1∨(s.size=2∧x1.toNat<128)∨(s.size=2∧¬ x1.toNat<128∧191<x1.toNat)∨(s.size=2∧¬ x1.toNat<128∧¬ 191<x1.toNat):=by omega
    clear hn
    rcases hc with hc | hc | hc | hc <;> (
     try have q1:=hs1 (by omega)
     try have q2:=hs2 (by omega)
     try have g1:decide ((x1.toNat:Int)<128)=true:=decide_eq_true (by omega)
     try have g1:decide ((x1.toNat:Int)<128)=false:=decide_eq_false (by omega)
     try have g2:decide ((191:Int)<(x1.toNat:Int))=true:=decide_eq_true (by omega)
     try have g2:decide ((191:Int)<(x1.toNat:Int))=false:=decide_eq_false (by omega)
     try have g3:decide ((x2.toNat:Int)<128)=true:=decide_eq_true (by omega)
     try have g3:decide ((x2.toNat:Int)<128)=false:=decide_eq_false (by omega)
     try have g4:decide ((191:Int)<(x2.toNat:Int))=true:=decide_eq_true (by omega)
     try have g4:decide ((191:Int)<(x2.toNat:Int))=false:=decide_eq_false (by omega)
     first | rw [ft (by omega)] | rw [ff (by omega)]
     first | have hn1:s.size=1:=(by omega) | have hn1:s.size=2:=(by omega) | have hn1:s.size=3:=by omega
     clear ft ff hX hT hs1 hs2
     go_enter Tryz.func189,Tryz.ntmps189
     go_wp2_with fail
     go_quiet (fail)
     go_wp2_with fail
     go_ret
     exact ⟨rfl,bdrew (below_alloc w _) _⟩)
  ·rw [hX] at hc0
   have ha0:w.cell? ⟨3,4,none⟩=some (.int .u8 128):=(hT.2 2 (by omega)).1
   have ha1:w.cell? ⟨3,5,none⟩=some (.int .u8 159):=(hT.2 2 (by omega)).2
   have ft:=@fullN_t s.size x0.toNat x1.toNat x2.toNat 35 128 159 hX rfl rfl
   have ff:=@fullN_f s.size x0.toNat x1.toNat x2.toNat 35 128 159 hX rfl rfl
   by_cases hn:3≤s.size
   ·rw [ft (by omega)]
    clear ft ff hX hT hs1 hs2
    go_enter Tryz.func189,Tryz.ntmps189
    go_wp2_with fail
    go_ret
    exact ⟨rfl,Below.refl _ _⟩
   ·have hc:s.size=1∨(s.size=2∧x1.toNat<128)∨(s.size=2∧¬ x1.toNat<128∧159<x1.toNat)∨(s.size=2∧¬ x1.toNat<128∧¬ 159<x1.toNat):=by omega
    clear hn
    rcases hc with hc | hc | hc | hc <;> (
     try have q1:=hs1 (by omega)
     try have q2:=hs2 (by omega)
     try have g1:decide ((x1.toNat:Int)<128)=true:=decide_eq_true (by omega)
     try have g1:decide ((x1.toNat:Int)<128)=false:=decide_eq_false (by omega)
     try have g2:decide ((159:Int)<(x1.toNat:Int))=true:=decide_eq_true (by omega)
     try have g2:decide ((159:Int)<(x1.toNat:Int))=false:=decide_eq_false (by omega)
     try have g3:decide ((x2.toNat:Int)<128)=true:=decide_eq_true (by omega)
     try have g3:decide ((x2.toNat:Int)<128)=false:=decide_eq_false (by omega)
     try have g4:decide ((191:Int)<(x2.toNat:Int))=true:=decide_eq_true (by omega)
     try have g4:decide ((191:Int)<(x2.toNat:Int))=false:=decide_eq_false (by omega)
     first | rw [ft (by omega)] | rw [ff (by omega)]
     first | have hn1:s.size=1:=(by omega) | have hn1:s.size=2:=(by omega) | have hn1:s.size=3:=by omega
     clear ft ff hX hT hs1 hs2
     go_enter Tryz.func189,Tryz.ntmps189
     go_wp2_with fail
     go_quiet (fail)
     go_wp2_with fail
     go_ret
     exact ⟨rfl,bdrew (below_alloc w _) _⟩)
  ·rw [hX] at hc0
   have ha0:w.cell? ⟨3,6,none⟩=some (.int .u8 144):=(hT.2 3 (by omega)).1
   have ha1:w.cell? ⟨3,7,none⟩=some (.int .u8 191):=(hT.2 3 (by omega)).2
   have ft:=@fullN_t s.size x0.toNat x1.toNat x2.toNat 52 144 191 hX rfl rfl
   have ff:=@fullN_f s.size x0.toNat x1.toNat x2.toNat 52 144 191 hX rfl rfl
   by_cases hn:4≤s.size
   ·rw [ft (by omega)]
    clear ft ff hX hT hs1 hs2
    go_enter Tryz.func189,Tryz.ntmps189
    go_wp2_with fail
    go_ret
    exact ⟨rfl,Below.refl _ _⟩
   ·have hc:s.size=1∨(s.size=2∧x1.toNat<144)∨(s.size=2∧¬ x1.toNat<144∧191<x1.toNat)∨(s.size=2∧¬ x1.toNat<144∧¬ 191<x1.toNat)∨(s.size=3∧x1.toNat<144)∨(s.size=3∧¬ x1.toNat<144∧191<x1.toNat)∨(s.size=3∧¬ x1.toNat<144∧¬ 191<x1.toNat∧x2.toNat<128)∨(s.size=3∧¬ x1.toNat<144∧¬ 191<x1.toNat∧¬ x2.toNat<128∧191<x2.toNat)∨(s.size=3∧¬ x1.toNat<144∧¬ 191<x1.toNat∧¬ x2.toNat<128∧¬ 191<x2.toNat):=by omega
    clear hn
    rcases hc with hc | hc | hc | hc | hc | hc | hc | hc | hc <;> (
     try have q1:=hs1 (by omega)
     try have q2:=hs2 (by omega)
     try have g1:decide ((x1.toNat:Int)<144)=true:=decide_eq_true (by omega)
     try have g1:decide ((x1.toNat:Int)<144)=false:=decide_eq_false (by omega)
     try have g2:decide ((191:Int)<(x1.toNat:Int))=true:=decide_eq_true (by omega)
     try have g2:decide ((191:Int)<(x1.toNat:Int))=false:=decide_eq_false (by omega)
     try have g3:decide ((x2.toNat:Int)<128)=true:=decide_eq_true (by omega)
     try have g3:decide ((x2.toNat:Int)<128)=false:=decide_eq_false (by omega)
     try have g4:decide ((191:Int)<(x2.toNat:Int))=true:=decide_eq_true (by omega)
     try have g4:decide ((191:Int)<(x2.toNat:Int))=false:=decide_eq_false (by omega)
     first | rw [ft (by omega)] | rw [ff (by omega)]
     first | have hn1:s.size=1:=(by omega) | have hn1:s.size=2:=(by omega) | have hn1:s.size=3:=by omega
     clear ft ff hX hT hs1 hs2
     go_enter Tryz.func189,Tryz.ntmps189
     go_wp2_with fail
     go_quiet (fail)
     go_wp2_with fail
     go_ret
     exact ⟨rfl,bdrew (below_alloc w _) _⟩)
  ·rw [hX] at hc0
   have ha0:w.cell? ⟨3,0,none⟩=some (.int .u8 128):=(hT.2 0 (by omega)).1
   have ha1:w.cell? ⟨3,1,none⟩=some (.int .u8 191):=(hT.2 0 (by omega)).2
   have ft:=@fullN_t s.size x0.toNat x1.toNat x2.toNat 4 128 191 hX rfl rfl
   have ff:=@fullN_f s.size x0.toNat x1.toNat x2.toNat 4 128 191 hX rfl rfl
   by_cases hn:4≤s.size
   ·rw [ft (by omega)]
    clear ft ff hX hT hs1 hs2
    go_enter Tryz.func189,Tryz.ntmps189
    go_wp2_with fail
    go_ret
    exact ⟨rfl,Below.refl _ _⟩
   ·have hc:s.size=1∨(s.size=2∧x1.toNat<128)∨(s.size=2∧¬ x1.toNat<128∧191<x1.toNat)∨(s.size=2∧¬ x1.toNat<128∧¬ 191<x1.toNat)∨(s.size=3∧x1.toNat<128)∨(s.size=3∧¬ x1.toNat<128∧191<x1.toNat)∨(s.size=3∧¬ x1.toNat<128∧¬ 191<x1.toNat∧x2.toNat<128)∨(s.size=3∧¬ x1.toNat<128∧¬ 191<x1.toNat∧¬ x2.toNat<128∧191<x2.toNat)∨(s.size=3∧¬ x1.toNat<128∧¬ 191<x1.toNat∧¬ x2.toNat<128∧¬ 191<x2.toNat):=by omega
    clear hn
    rcases hc with hc | hc | hc | hc | hc | hc | hc | hc | hc <;> (
     try have q1:=hs1 (by omega)
     try have q2:=hs2 (by omega)
     try have g1:decide ((x1.toNat:Int)<128)=true:=decide_eq_true (by omega)
     try have g1:decide ((x1.toNat:Int)<128)=false:=decide_eq_false (by omega)
     try have g2:decide ((191:Int)<(x1.toNat:Int))=true:=decide_eq_true (by omega)
     try have g2:decide ((191:Int)<(x1.toNat:Int))=false:=decide_eq_false (by omega)
     try have g3:decide ((x2.toNat:Int)<128)=true:=decide_eq_true (by omega)
     try have g3:decide ((x2.toNat:Int)<128)=false:=decide_eq_false (by omega)
     try have g4:decide ((191:Int)<(x2.toNat:Int))=true:=decide_eq_true (by omega)
     try have g4:decide ((191:Int)<(x2.toNat:Int))=false:=decide_eq_false (by omega)
     first | rw [ft (by omega)] | rw [ff (by omega)]
     first | have hn1:s.size=1:=(by omega) | have hn1:s.size=2:=(by omega) | have hn1:s.size=3:=by omega
     clear ft ff hX hT hs1 hs2
     go_enter Tryz.func189,Tryz.ntmps189
     go_wp2_with fail
     go_quiet (fail)
     go_wp2_with fail
     go_ret
     exact ⟨rfl,bdrew (below_alloc w _) _⟩)
  ·rw [hX] at hc0
   have ha0:w.cell? ⟨3,8,none⟩=some (.int .u8 128):=(hT.2 4 (by omega)).1
   have ha1:w.cell? ⟨3,9,none⟩=some (.int .u8 143):=(hT.2 4 (by omega)).2
   have ft:=@fullN_t s.size x0.toNat x1.toNat x2.toNat 68 128 143 hX rfl rfl
   have ff:=@fullN_f s.size x0.toNat x1.toNat x2.toNat 68 128 143 hX rfl rfl
   by_cases hn:4≤s.size
   ·rw [ft (by omega)]
    clear ft ff hX hT hs1 hs2
    go_enter Tryz.func189,Tryz.ntmps189
    go_wp2_with fail
    go_ret
    exact ⟨rfl,Below.refl _ _⟩
   ·have hc:s.size=1∨(s.size=2∧x1.toNat<128)∨(s.size=2∧¬ x1.toNat<128∧143<x1.toNat)∨(s.size=2∧¬ x1.toNat<128∧¬ 143<x1.toNat)∨(s.size=3∧x1.toNat<128)∨(s.size=3∧¬ x1.toNat<128∧143<x1.toNat)∨(s.size=3∧¬ x1.toNat<128∧¬ 143<x1.toNat∧x2.toNat<128)∨(s.size=3∧¬ x1.toNat<128∧¬ 143<x1.toNat∧¬ x2.toNat<128∧191<x2.toNat)∨(s.size=3∧¬ x1.toNat<128∧¬ 143<x1.toNat∧¬ x2.toNat<128∧¬ 191<x2.toNat):=by omega
    clear hn
    rcases hc with hc | hc | hc | hc | hc | hc | hc | hc | hc <;> (
     try have q1:=hs1 (by omega)
     try have q2:=hs2 (by omega)
     try have g1:decide ((x1.toNat:Int)<128)=true:=decide_eq_true (by omega)
     try have g1:decide ((x1.toNat:Int)<128)=false:=decide_eq_false (by omega)
     try have g2:decide ((143:Int)<(x1.toNat:Int))=true:=decide_eq_true (by omega)
     try have g2:decide ((143:Int)<(x1.toNat:Int))=false:=decide_eq_false (by omega)
     try have g3:decide ((x2.toNat:Int)<128)=true:=decide_eq_true (by omega)
     try have g3:decide ((x2.toNat:Int)<128)=false:=decide_eq_false (by omega)
     try have g4:decide ((191:Int)<(x2.toNat:Int))=true:=decide_eq_true (by omega)
     try have g4:decide ((191:Int)<(x2.toNat:Int))=false:=decide_eq_false (by omega)
     first | rw [ft (by omega)] | rw [ff (by omega)]
     first | have hn1:s.size=1:=(by omega) | have hn1:s.size=2:=(by omega) | have hn1:s.size=3:=by omega
     clear ft ff hX hT hs1 hs2
     go_enter Tryz.func189,Tryz.ntmps189
     go_wp2_with fail
     go_quiet (fail)
     go_wp2_with fail
     go_ret
     exact ⟨rfl,bdrew (below_alloc w _) _⟩)
-- END full_any
def ByAt (w:World) (b o:Nat) (s:ByteArray):Prop:=∀ j,j<s.size→w.cell? ⟨b,o+j,none⟩=some (.int .u8 ((s.get! j).toNat:Nat))
theorem cell_ltT {w:World} {b o:Nat} {v:Value} (h:w.cell? ⟨b,o,none⟩=some v):b<w.heap.size:=by
 unfold World.cell? at h
 cases hh:w.heap[b]? with
 | none=>rw [hh] at h;simp at h
 | some x=>exact (Array.getElem?_eq_some_iff.1 hh).1
theorem ByAt.below {w w':World} {b o:Nat} {s:ByteArray} (h:ByAt w b o s) (hb:Below w.heap.size w w'):ByAt w' b o s:=fun j hj=>(hb.cell (p:=⟨b,o+j,none⟩) (cell_ltT (h j hj))).trans (h j hj)
theorem len_zero_any (w:World) (ao:Option Addr) (cap:Nat):Calls Tryz.prog 200 #[.slice ao 0 cap] w fun r w'=>r=.returned (.bool false)∧Below w.heap.size w w':=by
 go_enter Tryz.func200,Tryz.ntmps200
 go_wp2_with fail
 go_ret
 exact ⟨rfl,Below.refl _ _⟩
set_option maxHeartbeats 4000000 in
set_option maxRecDepth 1000000 in
theorem fullB_any (s:ByteArray) (w:World) (b o cap:Nat) (hT:Utf8Tabs 2 3 w) (hB:ByAt w b o s) (hn0:1≤s.size) (hlen:s.size≤1500000) :
  Calls Tryz.prog 200 #[.slice (some ⟨b,o,none⟩) s.size cap] w fun r w'=>r=.returned (.bool (fullS s))∧Below w.heap.size w w':=by
 have h0:¬ s.size=0:=by omega
 unfold fullS
 rw [if_neg h0]
 have hz0:(0:Int)<(s.size:Int):=by omega
 have hbl:b<w.heap.size:=cell_ltT (hB 0 hn0)
 obtain ⟨x0,hx0⟩:∃ x0,s.get! 0=x0:=⟨_,rfl⟩
 obtain ⟨x1,hx1⟩:∃ x1,s.get! 1=x1:=⟨_,rfl⟩
 obtain ⟨x2,hx2⟩:∃ x2,s.get! 2=x2:=⟨_,rfl⟩
 have hs0:w.cell? ⟨b,o,none⟩=some (.int .u8 (x0.toNat:Nat)):=by rw [← hx0];exact hB 0 hn0
 have hs1:∀ h:1<s.size,∀ ob,(w.alloc ob).cell? ⟨b,o+1,none⟩=some (.int .u8 (x1.toNat:Nat)):=fun h ob=>by rw [← hx1];exact ((below_alloc w ob).cell (p:=⟨b,o+1,none⟩) hbl).trans (hB 1 h)
 have hs2:∀ h:2<s.size,∀ ob,(w.alloc ob).cell? ⟨b,o+2,none⟩=some (.int .u8 (x2.toNat:Nat)):=fun h ob=>by rw [← hx2];exact ((below_alloc w ob).cell (p:=⟨b,o+2,none⟩) hbl).trans (hB 2 h)
 rw [hx0,hx1,hx2]
 have l0:=x0.toNat_lt
 have l1:=x1.toNat_lt
 have l2:=x2.toNat_lt
 have hc0:=hT.1 x0.toNat (by omega)
 generalize hsz:s.size=n at *
 clear hB hx0 hx1 hx2 hsz hbl
 rcases firstT_cases x0.toNat with hX | hX | hX | hX | hX | hX | hX | hX | hX
 ·rw [show fullN n x0.toNat x1.toNat x2.toNat=true from by unfold fullN;rw [hX,if_pos (by omega)]]
  rw [hX] at hc0
  clear hT hX hs1 hs2
  go_enter Tryz.func200,Tryz.ntmps200
  go_wp2_with fail
  go_ret
  exact ⟨rfl,Below.refl _ _⟩
 ·rw [show fullN n x0.toNat x1.toNat x2.toNat=true from by unfold fullN;rw [hX,if_pos (by omega)]]
  rw [hX] at hc0
  clear hT hX hs1 hs2
  go_enter Tryz.func200,Tryz.ntmps200
  go_wp2_with fail
  go_ret
  exact ⟨rfl,Below.refl _ _⟩
 ·rw [hX] at hc0
  have ha0:w.cell? ⟨3,0,none⟩=some (.int .u8 128):=(hT.2 0 (by omega)).1
  have ha1:w.cell? ⟨3,1,none⟩=some (.int .u8 191):=(hT.2 0 (by omega)).2
  have ft:=@fullN_t n x0.toNat x1.toNat x2.toNat 2 128 191 hX rfl rfl
  have ff:=@fullN_f n x0.toNat x1.toNat x2.toNat 2 128 191 hX rfl rfl
  by_cases hn:2≤n
  ·rw [ft (by omega)]
   clear ft ff hX hT hs1 hs2
   go_enter Tryz.func200,Tryz.ntmps200
   go_wp2_with fail
   go_ret
   exact ⟨rfl,Below.refl _ _⟩
  ·have hc:n=1:=by omega
   clear hn
   skip <;> (
    try have q1:=hs1 (by omega)
    try have q2:=hs2 (by omega)
    try have g1:decide ((x1.toNat:Int)<128)=true:=decide_eq_true (by omega)
    try have g1:decide ((x1.toNat:Int)<128)=false:=decide_eq_false (by omega)
    try have g2:decide ((191:Int)<(x1.toNat:Int))=true:=decide_eq_true (by omega)
    try have g2:decide ((191:Int)<(x1.toNat:Int))=false:=decide_eq_false (by omega)
    try have g3:decide ((x2.toNat:Int)<128)=true:=decide_eq_true (by omega)
    try have g3:decide ((x2.toNat:Int)<128)=false:=decide_eq_false (by omega)
    try have g4:decide ((191:Int)<(x2.toNat:Int))=true:=decide_eq_true (by omega)
    try have g4:decide ((191:Int)<(x2.toNat:Int))=false:=decide_eq_false (by omega)
    first | rw [ft (by omega)] | rw [ff (by omega)]
    first | have hn1:n=1:=(by omega) | have hn1:n=2:=(by omega) | have hn1:n=3:=by omega
    clear ft ff hX hT hs1 hs2
    go_enter Tryz.func200,Tryz.ntmps200
    go_wp2_with fail
    go_quiet (fail)
    go_wp2_with fail
    go_ret
    exact ⟨rfl,bdrew (below_alloc w _) _⟩)
 ·rw [hX] at hc0
  have ha0:w.cell? ⟨3,2,none⟩=some (.int .u8 160):=(hT.2 1 (by omega)).1
  have ha1:w.cell? ⟨3,3,none⟩=some (.int .u8 191):=(hT.2 1 (by omega)).2
  have ft:=@fullN_t n x0.toNat x1.toNat x2.toNat 19 160 191 hX rfl rfl
  have ff:=@fullN_f n x0.toNat x1.toNat x2.toNat 19 160 191 hX rfl rfl
  by_cases hn:3≤n
  ·rw [ft (by omega)]
   clear ft ff hX hT hs1 hs2
   go_enter Tryz.func200,Tryz.ntmps200
   go_wp2_with fail
   go_ret
   exact ⟨rfl,Below.refl _ _⟩
  ·have hc:n=1∨(n=2∧x1.toNat<160)∨(n=2∧¬ x1.toNat<160∧191<x1.toNat)∨(n=2∧¬ x1.toNat<160∧¬ 191<x1.toNat):=by omega
   clear hn
   rcases hc with hc | hc | hc | hc <;> (
    try have q1:=hs1 (by omega)
    try have q2:=hs2 (by omega)
    try have g1:decide ((x1.toNat:Int)<160)=true:=decide_eq_true (by omega)
    try have g1:decide ((x1.toNat:Int)<160)=false:=decide_eq_false (by omega)
    try have g2:decide ((191:Int)<(x1.toNat:Int))=true:=decide_eq_true (by omega)
    try have g2:decide ((191:Int)<(x1.toNat:Int))=false:=decide_eq_false (by omega)
    try have g3:decide ((x2.toNat:Int)<128)=true:=decide_eq_true (by omega)
    try have g3:decide ((x2.toNat:Int)<128)=false:=decide_eq_false (by omega)
    try have g4:decide ((191:Int)<(x2.toNat:Int))=true:=decide_eq_true (by omega)
    try have g4:decide ((191:Int)<(x2.toNat:Int))=false:=decide_eq_false (by omega)
    first | rw [ft (by omega)] | rw [ff (by omega)]
    first | have hn1:n=1:=(by omega) | have hn1:n=2:=(by omega) | have hn1:n=3:=by omega
    clear ft ff hX hT hs1 hs2
    go_enter Tryz.func200,Tryz.ntmps200
    go_wp2_with fail
    go_quiet (fail)
    go_wp2_with fail
    go_ret
    exact ⟨rfl,bdrew (below_alloc w _) _⟩)
 ·rw [hX] at hc0
  have ha0:w.cell? ⟨3,0,none⟩=some (.int .u8 128):=(hT.2 0 (by omega)).1
  have ha1:w.cell? ⟨3,1,none⟩=some (.int .u8 191):=(hT.2 0 (by omega)).2
  have ft:=@fullN_t n x0.toNat x1.toNat x2.toNat 3 128 191 hX rfl rfl
  have ff:=@fullN_f n x0.toNat x1.toNat x2.toNat 3 128 191 hX rfl rfl
  by_cases hn:3≤n
  ·rw [ft (by omega)]
   clear ft ff hX hT hs1 hs2
   go_enter Tryz.func200,Tryz.ntmps200
   go_wp2_with fail
   go_ret
   exact ⟨rfl,Below.refl _ _⟩
  ·have hc:n=1∨(n=2∧x1.toNat<128)∨(n=2∧¬ x1.toNat<128∧191<x1.toNat)∨(n=2∧¬ x1.toNat<128∧¬ 191<x1.toNat):=by omega
   clear hn
   rcases hc with hc | hc | hc | hc <;> (
    try have q1:=hs1 (by omega)
    try have q2:=hs2 (by omega)
    try have g1:decide ((x1.toNat:Int)<128)=true:=decide_eq_true (by omega)
    try have g1:decide ((x1.toNat:Int)<128)=false:=decide_eq_false (by omega)
    try have g2:decide ((191:Int)<(x1.toNat:Int))=true:=decide_eq_true (by omega)
    try have g2:decide ((191:Int)<(x1.toNat:Int))=false:=decide_eq_false (by omega)
    try have g3:decide ((x2.toNat:Int)<128)=true:=decide_eq_true (by omega)
    try have g3:decide ((x2.toNat:Int)<128)=false:=decide_eq_false (by omega)
    try have g4:decide ((191:Int)<(x2.toNat:Int))=true:=decide_eq_true (by omega)
    try have g4:decide ((191:Int)<(x2.toNat:Int))=false:=decide_eq_false (by omega)
    first | rw [ft (by omega)] | rw [ff (by omega)]
    first | have hn1:n=1:=(by omega) | have hn1:n=2:=(by omega) | have hn1:n=3:=by omega
    clear ft ff hX hT hs1 hs2
    go_enter Tryz.func200,Tryz.ntmps200
    go_wp2_with fail
    go_quiet (fail)
    go_wp2_with fail
    go_ret
    exact ⟨rfl,bdrew (below_alloc w _) _⟩)
 ·rw [hX] at hc0
  have ha0:w.cell? ⟨3,4,none⟩=some (.int .u8 128):=(hT.2 2 (by omega)).1
  have ha1:w.cell? ⟨3,5,none⟩=some (.int .u8 159):=(hT.2 2 (by omega)).2
  have ft:=@fullN_t n x0.toNat x1.toNat x2.toNat 35 128 159 hX rfl rfl
  have ff:=@fullN_f n x0.toNat x1.toNat x2.toNat 35 128 159 hX rfl rfl
  by_cases hn:3≤n
  ·rw [ft (by omega)]
   clear ft ff hX hT hs1 hs2
   go_enter Tryz.func200,Tryz.ntmps200
   go_wp2_with fail
   go_ret
   exact ⟨rfl,Below.refl _ _⟩
  ·have hc:n=1∨(n=2∧x1.toNat<128)∨(n=2∧¬ x1.toNat<128∧159<x1.toNat)∨(n=2∧¬ x1.toNat<128∧¬ 159<x1.toNat):=by omega
   clear hn
   rcases hc with hc | hc | hc | hc <;> (
    try have q1:=hs1 (by omega)
    try have q2:=hs2 (by omega)
    try have g1:decide ((x1.toNat:Int)<128)=true:=decide_eq_true (by omega)
    try have g1:decide ((x1.toNat:Int)<128)=false:=decide_eq_false (by omega)
    try have g2:decide ((159:Int)<(x1.toNat:Int))=true:=decide_eq_true (by omega)
    try have g2:decide ((159:Int)<(x1.toNat:Int))=false:=decide_eq_false (by omega)
    try have g3:decide ((x2.toNat:Int)<128)=true:=decide_eq_true (by omega)
    try have g3:decide ((x2.toNat:Int)<128)=false:=decide_eq_false (by omega)
    try have g4:decide ((191:Int)<(x2.toNat:Int))=true:=decide_eq_true (by omega)
    try have g4:decide ((191:Int)<(x2.toNat:Int))=false:=decide_eq_false (by omega)
    first | rw [ft (by omega)] | rw [ff (by omega)]
    first | have hn1:n=1:=(by omega) | have hn1:n=2:=(by omega) | have hn1:n=3:=by omega
    clear ft ff hX hT hs1 hs2
    go_enter Tryz.func200,Tryz.ntmps200
    go_wp2_with fail
    go_quiet (fail)
    go_wp2_with fail
    go_ret
    exact ⟨rfl,bdrew (below_alloc w _) _⟩)
 ·rw [hX] at hc0
  have ha0:w.cell? ⟨3,6,none⟩=some (.int .u8 144):=(hT.2 3 (by omega)).1
  have ha1:w.cell? ⟨3,7,none⟩=some (.int .u8 191):=(hT.2 3 (by omega)).2
  have ft:=@fullN_t n x0.toNat x1.toNat x2.toNat 52 144 191 hX rfl rfl
  have ff:=@fullN_f n x0.toNat x1.toNat x2.toNat 52 144 191 hX rfl rfl
  by_cases hn:4≤n
  ·rw [ft (by omega)]
   clear ft ff hX hT hs1 hs2
   go_enter Tryz.func200,Tryz.ntmps200
   go_wp2_with fail
   go_ret
   exact ⟨rfl,Below.refl _ _⟩
  ·have hc:n=1∨(n=2∧x1.toNat<144)∨(n=2∧¬ x1.toNat<144∧191<x1.toNat)∨(n=2∧¬ x1.toNat<144∧¬ 191<x1.toNat)∨(n=3∧x1.toNat<144)∨(n=3∧¬ x1.toNat<144∧191<x1.toNat)∨(n=3∧¬ x1.toNat<144∧¬ 191<x1.toNat∧x2.toNat<128)∨(n=3∧¬ x1.toNat<144∧¬ 191<x1.toNat∧¬ x2.toNat<128∧191<x2.toNat)∨(n=3∧¬ x1.toNat<144∧¬ 191<x1.toNat∧¬ x2.toNat<128∧¬ 191<x2.toNat):=by omega
   clear hn
   rcases hc with hc | hc | hc | hc | hc | hc | hc | hc | hc <;> (
    try have q1:=hs1 (by omega)
    try have q2:=hs2 (by omega)
    try have g1:decide ((x1.toNat:Int)<144)=true:=decide_eq_true (by omega)
    try have g1:decide ((x1.toNat:Int)<144)=false:=decide_eq_false (by omega)
    try have g2:decide ((191:Int)<(x1.toNat:Int))=true:=decide_eq_true (by omega)
    try have g2:decide ((191:Int)<(x1.toNat:Int))=false:=decide_eq_false (by omega)
    try have g3:decide ((x2.toNat:Int)<128)=true:=decide_eq_true (by omega)
    try have g3:decide ((x2.toNat:Int)<128)=false:=decide_eq_false (by omega)
    try have g4:decide ((191:Int)<(x2.toNat:Int))=true:=decide_eq_true (by omega)
    try have g4:decide ((191:Int)<(x2.toNat:Int))=false:=decide_eq_false (by omega)
    first | rw [ft (by omega)] | rw [ff (by omega)]
    first | have hn1:n=1:=(by omega) | have hn1:n=2:=(by omega) | have hn1:n=3:=by omega
    clear ft ff hX hT hs1 hs2
    go_enter Tryz.func200,Tryz.ntmps200
    go_wp2_with fail
    go_quiet (fail)
    go_wp2_with fail
    go_ret
    exact ⟨rfl,bdrew (below_alloc w _) _⟩)
 ·rw [hX] at hc0
  have ha0:w.cell? ⟨3,0,none⟩=some (.int .u8 128):=(hT.2 0 (by omega)).1
  have ha1:w.cell? ⟨3,1,none⟩=some (.int .u8 191):=(hT.2 0 (by omega)).2
  have ft:=@fullN_t n x0.toNat x1.toNat x2.toNat 4 128 191 hX rfl rfl
  have ff:=@fullN_f n x0.toNat x1.toNat x2.toNat 4 128 191 hX rfl rfl
  by_cases hn:4≤n
  ·rw [ft (by omega)]
   clear ft ff hX hT hs1 hs2
   go_enter Tryz.func200,Tryz.ntmps200
   go_wp2_with fail
   go_ret
   exact ⟨rfl,Below.refl _ _⟩
  ·have hc:n=1∨(n=2∧x1.toNat<128)∨(n=2∧¬ x1.toNat<128∧191<x1.toNat)∨(n=2∧¬ x1.toNat<128∧¬ 191<x1.toNat)∨(n=3∧x1.toNat<128)∨(n=3∧¬ x1.toNat<128∧191<x1.toNat)∨(n=3∧¬ x1.toNat<128∧¬ 191<x1.toNat∧x2.toNat<128)∨(n=3∧¬ x1.toNat<128∧¬ 191<x1.toNat∧¬ x2.toNat<128∧191<x2.toNat)∨(n=3∧¬ x1.toNat<128∧¬ 191<x1.toNat∧¬ x2.toNat<128∧¬ 191<x2.toNat):=by omega
   clear hn
   rcases hc with hc | hc | hc | hc | hc | hc | hc | hc | hc <;> (
    try have q1:=hs1 (by omega)
    try have q2:=hs2 (by omega)
    try have g1:decide ((x1.toNat:Int)<128)=true:=decide_eq_true (by omega)
    try have g1:decide ((x1.toNat:Int)<128)=false:=decide_eq_false (by omega)
    try have g2:decide ((191:Int)<(x1.toNat:Int))=true:=decide_eq_true (by omega)
    try have g2:decide ((191:Int)<(x1.toNat:Int))=false:=decide_eq_false (by omega)
    try have g3:decide ((x2.toNat:Int)<128)=true:=decide_eq_true (by omega)
    try have g3:decide ((x2.toNat:Int)<128)=false:=decide_eq_false (by omega)
    try have g4:decide ((191:Int)<(x2.toNat:Int))=true:=decide_eq_true (by omega)
    try have g4:decide ((191:Int)<(x2.toNat:Int))=false:=decide_eq_false (by omega)
    first | rw [ft (by omega)] | rw [ff (by omega)]
    first | have hn1:n=1:=(by omega) | have hn1:n=2:=(by omega) | have hn1:n=3:=by omega
    clear ft ff hX hT hs1 hs2
    go_enter Tryz.func200,Tryz.ntmps200
    go_wp2_with fail
    go_quiet (fail)
    go_wp2_with fail
    go_ret
    exact ⟨rfl,bdrew (below_alloc w _) _⟩)
 ·rw [hX] at hc0
  have ha0:w.cell? ⟨3,8,none⟩=some (.int .u8 128):=(hT.2 4 (by omega)).1
  have ha1:w.cell? ⟨3,9,none⟩=some (.int .u8 143):=(hT.2 4 (by omega)).2
  have ft:=@fullN_t n x0.toNat x1.toNat x2.toNat 68 128 143 hX rfl rfl
  have ff:=@fullN_f n x0.toNat x1.toNat x2.toNat 68 128 143 hX rfl rfl
  by_cases hn:4≤n
  ·rw [ft (by omega)]
   clear ft ff hX hT hs1 hs2
   go_enter Tryz.func200,Tryz.ntmps200
   go_wp2_with fail
   go_ret
   exact ⟨rfl,Below.refl _ _⟩
  ·have hc:n=1∨(n=2∧x1.toNat<128)∨(n=2∧¬ x1.toNat<128∧143<x1.toNat)∨(n=2∧¬ x1.toNat<128∧¬ 143<x1.toNat)∨(n=3∧x1.toNat<128)∨(n=3∧¬ x1.toNat<128∧143<x1.toNat)∨(n=3∧¬ x1.toNat<128∧¬ 143<x1.toNat∧x2.toNat<128)∨(n=3∧¬ x1.toNat<128∧¬ 143<x1.toNat∧¬ x2.toNat<128∧191<x2.toNat)∨(n=3∧¬ x1.toNat<128∧¬ 143<x1.toNat∧¬ x2.toNat<128∧¬ 191<x2.toNat):=by omega
   clear hn
   rcases hc with hc | hc | hc | hc | hc | hc | hc | hc | hc <;> (
    try have q1:=hs1 (by omega)
    try have q2:=hs2 (by omega)
    try have g1:decide ((x1.toNat:Int)<128)=true:=decide_eq_true (by omega)
    try have g1:decide ((x1.toNat:Int)<128)=false:=decide_eq_false (by omega)
    try have g2:decide ((143:Int)<(x1.toNat:Int))=true:=decide_eq_true (by omega)
    try have g2:decide ((143:Int)<(x1.toNat:Int))=false:=decide_eq_false (by omega)
    try have g3:decide ((x2.toNat:Int)<128)=true:=decide_eq_true (by omega)
    try have g3:decide ((x2.toNat:Int)<128)=false:=decide_eq_false (by omega)
    try have g4:decide ((191:Int)<(x2.toNat:Int))=true:=decide_eq_true (by omega)
    try have g4:decide ((191:Int)<(x2.toNat:Int))=false:=decide_eq_false (by omega)
    first | rw [ft (by omega)] | rw [ff (by omega)]
    first | have hn1:n=1:=(by omega) | have hn1:n=2:=(by omega) | have hn1:n=3:=by omega
    clear ft ff hX hT hs1 hs2
    go_enter Tryz.func200,Tryz.ntmps200
    go_wp2_with fail
    go_quiet (fail)
    go_wp2_with fail
    go_ret
    exact ⟨rfl,bdrew (below_alloc w _) _⟩)
end Go.Proofs.YtodagkkjfipbgaaGreatDoor
namespace Go.Proofs.YtodagkkjfipbgaaGreatDoor
open Go.RowKit
def Blk (w:World) (b:Nat) (T:ByteArray) (s:RS) (vN vS vL:Value):Prop :=
 w.heap[b]?=some (.cells (rcell T s.at_ s.err s.place vN vS vL s.atoms s.nest) 35 (0,0))
theorem take_snoc (s:ByteArray) (k:Nat) (h:k<s.size):s.toList.take (k+1)=s.toList.take k++[s[k]]:=by
 rw [ByteArray.toList_eq,List.take_succ_eq_append_getElem (by simpa using h)];rfl
theorem toList_length (s:ByteArray):s.toList.length=s.size:=by rw [ByteArray.toList_eq];rfl
theorem dig_bd (c:Nat) (d:Int) (h:RS.dig c=some d):0≤d∧d≤15:=by
 unfold RS.dig at h
 split at h
 ·simp at h;omega
 ·split at h
  ·simp at h;omega
  ·split at h
   ·simp at h;omega
   ·simp at h
theorem hexN_snoc (l:List UInt8) (c:UInt8):RS.hexN (l++[c])=match RS.dig c.toNat with | some d=>16 * RS.hexN l+d | none=>RS.hexN l:=by
 unfold RS.hexN;rw [List.foldl_append];rfl
theorem hexN_bd (k:Nat):∀ l:List UInt8,l.length≤k→0≤RS.hexN l∧RS.hexN l<16 ^ k:=by
 induction k with
 | zero=>intro l h
         have e:l=[]:=List.eq_nil_of_length_eq_zero (by omega)
         subst e;simp [RS.hexN]
 | succ k ih =>
  intro l h
  by_cases hl:l=[]
  ·subst hl;simp [RS.hexN];exact Int.pow_pos (by omega)
  ·obtain ⟨m,c,rfl⟩:∃ m c,l=m++[c]:=⟨l.dropLast,l.getLast hl,(List.dropLast_concat_getLast hl).symm⟩
   have:=ih m (by simp at h;omega)
   rw [hexN_snoc]
   cases hd:RS.dig c.toNat with
   | none=>simp only;rw [Int.pow_succ];omega
   | some d=>have:=dig_bd _ _ hd;simp only;rw [Int.pow_succ];omega
theorem hexOk_snoc (l:List UInt8) (c:UInt8):RS.hexOk (l++[c])=(RS.hexOk l && (RS.dig c.toNat).isSome):=by
 unfold RS.hexOk;simp
def hexAt (s:RS) (p:Int) (l:List UInt8):RS:=if RS.hexOk l=true then s else s.fail 2 p
end Go.Proofs.YtodagkkjfipbgaaGreatDoor
