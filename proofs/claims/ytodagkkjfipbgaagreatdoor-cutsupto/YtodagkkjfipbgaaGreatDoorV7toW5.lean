import Derived.Shelf.Unicode.DecodeLastEight
import Derived.Test.YtodagkkjfipbgaaGreatDoorSh2lone
import Derived.Test.YtodagkkjfipbgaaGreatDoorV1toV2
namespace Go.Proofs.YtodagkkjfipbgaaGreatDoor
open Go.RowKit Go.Maps Go.Lib
def fullN (n b0 b1 b2:Nat):Bool :=
 if firstT b0 % 8≤n then true
 else if 1<n∧(b1<accLo (firstT b0 / 16)∨accHi (firstT b0 / 16)<b1) then true
 else if 2<n∧(b2<128∨191<b2) then true
 else false
def fullS (s:ByteArray):Bool:=if s.size=0 then false else fullN s.size (s.get! 0).toNat (s.get! 1).toNat (s.get! 2).toNat
theorem fullN_t {n b0 b1 b2 X lo hi:Nat} (hX:firstT b0=X) (hlo:accLo (X / 16)=lo) (hhi:accHi (X / 16)=hi) (h:X % 8≤n∨(1<n∧(b1<lo∨hi<b1))∨(2<n∧(b2<128∨191<b2))):fullN n b0 b1 b2=true:=by
 unfold fullN
 rw [hX,hlo,hhi]
 repeat' split
 all_goals first | rfl | (exfalso;omega)
theorem fullN_f {n b0 b1 b2 X lo hi:Nat} (hX:firstT b0=X) (hlo:accLo (X / 16)=lo) (hhi:accHi (X / 16)=hi) (h:¬ (X % 8≤n∨(1<n∧(b1<lo∨hi<b1))∨(2<n∧(b2<128∨191<b2)))):fullN n b0 b1 b2=false:=by
 unfold fullN
 rw [hX,hlo,hhi]
 repeat' split
 all_goals first | rfl | (exfalso;omega)
set_option maxHeartbeats 4000000 in
set_option maxRecDepth 1000000 in
theorem full_any (s:ByteArray) (w:World) (hT:Utf8Tabs 2 3 w) (hlen:s.size≤4) :
  Calls Tryz.prog 189 #[.string s] w fun r w'=>r=.returned (.bool (fullS s))∧Below w.heap.size w w':=by
 by_cases h0:s.size=0
 ·unfold fullS
  rw [if_pos h0]
  clear hT
  go_enter Tryz.func189,Tryz.ntmps189
  go_wp2_with fail
  go_ret
  exact ⟨rfl,Below.refl _ _⟩
 ·unfold fullS
  rw [if_neg h0]
  have hz0:(0:Int)<(s.size:Int):=by omega
  obtain ⟨x0,hx0⟩:∃ x0,s.get! 0=x0:=⟨_,rfl⟩
  obtain ⟨x1,hx1⟩:∃ x1,s.get! 1=x1:=⟨_,rfl⟩
  obtain ⟨x2,hx2⟩:∃ x2,s.get! 2=x2:=⟨_,rfl⟩
  have hs0:s[0]'(by omega)=x0:=by rw [← hx0];exact (Utf8W.get!_of_lt s 0 (by omega)).symm
  have hs1:∀ h:1<s.size,s[1]'h=x1:=fun h=>by rw [← hx1];exact (Utf8W.get!_of_lt s 1 h).symm
  have hs2:∀ h:2<s.size,s[2]'h=x2:=fun h=>by rw [← hx2];exact (Utf8W.get!_of_lt s 2 h).symm
  rw [hx0,hx1,hx2]
  have l0:=x0.toNat_lt
  have l1:=x1.toNat_lt
  have l2:=x2.toNat_lt
  have hc0:=hT.1 x0.toNat (by omega)
  rcases firstT_cases x0.toNat with hX | hX | hX | hX | hX | hX | hX | hX | hX
  ·rw [show fullN s.size x0.toNat x1.toNat x2.toNat=true from by unfold fullN;rw [hX,if_pos (by omega)]]
   rw [hX] at hc0
   clear hT hX hs1 hs2
   go_enter Tryz.func189,Tryz.ntmps189
   go_wp2_with fail
   go_ret
   exact ⟨rfl,Below.refl _ _⟩
  ·rw [show fullN s.size x0.toNat x1.toNat x2.toNat=true from by unfold fullN;rw [hX,if_pos (by omega)]]
   rw [hX] at hc0
   clear hT hX hs1 hs2
   go_enter Tryz.func189,Tryz.ntmps189
   go_wp2_with fail
   go_ret
   exact ⟨rfl,Below.refl _ _⟩
  ·rw [hX] at hc0
   have ha0:w.cell? ⟨3,0,none⟩=some (.int .u8 128):=(hT.2 0 (by omega)).1
   have ha1:w.cell? ⟨3,1,none⟩=some (.int .u8 191):=(hT.2 0 (by omega)).2
   have ft:=@fullN_t s.size x0.toNat x1.toNat x2.toNat 2 128 191 hX rfl rfl
   have ff:=@fullN_f s.size x0.toNat x1.toNat x2.toNat 2 128 191 hX rfl rfl
   by_cases hn:2≤s.size
   ·rw [ft (by omega)]
    clear ft ff hX hT hs1 hs2
    go_enter Tryz.func189,Tryz.ntmps189
    go_wp2_with fail
    go_ret
    exact ⟨rfl,Below.refl _ _⟩
   ·have hc:s.size=1:=by omega
    clear hn
    skip <;> (
     try have q1:=hs1 (by omega)
     try have q2:=hs2 (by omega)
     try have g1:decide ((x1.toNat:Int)<128)=true:=decide_eq_true (by omega)
     try have g1:decide ((x1.toNat:Int)<128)=false:=decide_eq_false (by omega)
     try have g2:decide ((191:Int)<(x1.toNat:Int))=true:=decide_eq_true (by omega)
     try have g2:decide ((191:Int)<(x1.toNat:Int))=false:=decide_eq_false (by omega)
     try have g3:decide ((x2.toNat:Int)<128)=true:=decide_eq_true (by omega)
     try have g3:decide ((x2.toNat:Int)<128)=false:=decide_eq_false (by omega)
     try have g4:decide ((191:Int)<(x2.toNat:Int))=true:=decide_eq_true (by omega)
     try have g4:decide ((191:Int)<(x2.toNat:Int))=false:=decide_eq_false (by omega)
     first | rw [ft (by omega)] | rw [ff (by omega)]
     first | have hn1:s.size=1:=(by omega) | have hn1:s.size=2:=(by omega) | have hn1:s.size=3:=by omega
     clear ft ff hX hT hs1 hs2
     go_enter Tryz.func189,Tryz.ntmps189
     go_wp2_with fail
     go_quiet (fail)
     go_wp2_with fail
     go_ret
     exact ⟨rfl,bdrew (below_alloc w _) _⟩)
  ·rw [hX] at hc0
   have ha0:w.cell? ⟨3,2,none⟩=some (.int .u8 160):=(hT.2 1 (by omega)).1
   have ha1:w.cell? ⟨3,3,none⟩=some (.int .u8 191):=(hT.2 1 (by omega)).2
   have ft:=@fullN_t s.size x0.toNat x1.toNat x2.toNat 19 160 191 hX rfl rfl
   have ff:=@fullN_f s.size x0.toNat x1.toNat x2.toNat 19 160 191 hX rfl rfl
   by_cases hn:3≤s.size
   ·rw [ft (by omega)]
    clear ft ff hX hT hs1 hs2
    go_enter Tryz.func189,Tryz.ntmps189
    go_wp2_with fail
    go_ret
    exact ⟨rfl,Below.refl _ _⟩
   ·have hc:s.size=1∨(s.size=2∧x1.toNat<160)∨(s.size=2∧¬ x1.toNat<160∧191<x1.toNat)∨(s.size=2∧¬ x1.toNat<160∧¬ 191<x1.toNat):=by omega
    clear hn
    rcases hc with hc | hc | hc | hc <;> (
     try have q1:=hs1 (by omega)
     try have q2:=hs2 (by omega)
     try have g1:decide ((x1.toNat:Int)<160)=true:=decide_eq_true (by omega)
     try have g1:decide ((x1.toNat:Int)<160)=false:=decide_eq_false (by omega)
     try have g2:decide ((191:Int)<(x1.toNat:Int))=true:=decide_eq_true (by omega)
     try have g2:decide ((191:Int)<(x1.toNat:Int))=false:=decide_eq_false (by omega)
     try have g3:decide ((x2.toNat:Int)<128)=true:=decide_eq_true (by omega)
     try have g3:decide ((x2.toNat:Int)<128)=false:=decide_eq_false (by omega)
     try have g4:decide ((191:Int)<(x2.toNat:Int))=true:=decide_eq_true (by omega)
     try have g4:decide ((191:Int)<(x2.toNat:Int))=false:=decide_eq_false (by omega)
     first | rw [ft (by omega)] | rw [ff (by omega)]
     first | have hn1:s.size=1:=(by omega) | have hn1:s.size=2:=(by omega) | have hn1:s.size=3:=by omega
     clear ft ff hX hT hs1 hs2
     go_enter Tryz.func189,Tryz.ntmps189
     go_wp2_with fail
     go_quiet (fail)
     go_wp2_with fail
     go_ret
     exact ⟨rfl,bdrew (below_alloc w _) _⟩)
  ·rw [hX] at hc0
   have ha0:w.cell? ⟨3,0,none⟩=some (.int .u8 128):=(hT.2 0 (by omega)).1
   have ha1:w.cell? ⟨3,1,none⟩=some (.int .u8 191):=(hT.2 0 (by omega)).2
   have ft:=@fullN_t s.size x0.toNat x1.toNat x2.toNat 3 128 191 hX rfl rfl
   have ff:=@fullN_f s.size x0.toNat x1.toNat x2.toNat 3 128 191 hX rfl rfl
   by_cases hn:3≤s.size
   ·rw [ft (by omega)]
    clear ft ff hX hT hs1 hs2
    go_enter Tryz.func189,Tryz.ntmps189
    go_wp2_with fail
    go_ret
    exact ⟨rfl,Below.refl _ _⟩
   ·have hc:s.size=1∨(s.size=2∧x1.toNat<128)∨(s.size=2∧¬ x1.toNat<128∧191<x1.toNat)∨(s.size=2∧¬ x1.toNat<128∧¬ 191<x1.toNat):=by omega
    clear hn
    rcases hc with hc | hc | hc | hc <;> (
     try have q1:=hs1 (by omega)
     try have q2:=hs2 (by omega)
     try have g1:decide ((x1.toNat:Int)<128)=true:=decide_eq_true (by omega)
     try have g1:decide ((x1.toNat:Int)<128)=false:=decide_eq_false (by omega)
     try have g2:decide ((191:Int)<(x1.toNat:Int))=true:=decide_eq_true (by omega)
     try have g2:decide ((191:Int)<(x1.toNat:Int))=false:=decide_eq_false (by omega)
     try have g3:decide ((x2.toNat:Int)<128)=true:=decide_eq_true (by omega)
     try have g3:decide ((x2.toNat:Int)<128)=false:=decide_eq_false (by omega)
     try have g4:decide ((191:Int)<(x2.toNat:Int))=true:=decide_eq_true (by omega)
     try have g4:decide ((191:Int)<(x2.toNat:Int))=false:=decide_eq_false (by omega)
     first | rw [ft (by omega)] | rw [ff (by omega)]
     first | have hn1:s.size=1:=(by omega) | have hn1:s.size=2:=(by omega) | have hn1:s.size=3:=by omega
     clear ft ff hX hT hs1 hs2
     go_enter Tryz.func189,Tryz.ntmps189
     go_wp2_with fail
     go_quiet (fail)
     go_wp2_with fail
     go_ret
     exact ⟨rfl,bdrew (below_alloc w _) _⟩)
  ·rw [hX] at hc0
   have ha0:w.cell? ⟨3,4,none⟩=some (.int .u8 128):=(hT.2 2 (by omega)).1
   have ha1:w.cell? ⟨3,5,none⟩=some (.int .u8 159):=(hT.2 2 (by omega)).2
   have ft:=@fullN_t s.size x0.toNat x1.toNat x2.toNat 35 128 159 hX rfl rfl
   have ff:=@fullN_f s.size x0.toNat x1.toNat x2.toNat 35 128 159 hX rfl rfl
   by_cases hn:3≤s.size
   ·rw [ft (by omega)]
    clear ft ff hX hT hs1 hs2
    go_enter Tryz.func189,Tryz.ntmps189
    go_wp2_with fail
    go_ret
    exact ⟨rfl,Below.refl _ _⟩
   ·have hc:s.size=1∨(s.size=2∧x1.toNat<128)∨(s.size=2∧¬ x1.toNat<128∧159<x1.toNat)∨(s.size=2∧¬ x1.toNat<128∧¬ 159<x1.toNat):=by omega
    clear hn
    rcases hc with hc | hc | hc | hc <;> (
     try have q1:=hs1 (by omega)
     try have q2:=hs2 (by omega)
     try have g1:decide ((x1.toNat:Int)<128)=true:=decide_eq_true (by omega)
     try have g1:decide ((x1.toNat:Int)<128)=false:=decide_eq_false (by omega)
     try have g2:decide ((159:Int)<(x1.toNat:Int))=true:=decide_eq_true (by omega)
     try have g2:decide ((159:Int)<(x1.toNat:Int))=false:=decide_eq_false (by omega)
     try have g3:decide ((x2.toNat:Int)<128)=true:=decide_eq_true (by omega)
     try have g3:decide ((x2.toNat:Int)<128)=false:=decide_eq_false (by omega)
     try have g4:decide ((191:Int)<(x2.toNat:Int))=true:=decide_eq_true (by omega)
     try have g4:decide ((191:Int)<(x2.toNat:Int))=false:=decide_eq_false (by omega)
     first | rw [ft (by omega)] | rw [ff (by omega)]
     first | have hn1:s.size=1:=(by omega) | have hn1:s.size=2:=(by omega) | have hn1:s.size=3:=by omega
     clear ft ff hX hT hs1 hs2
     go_enter Tryz.func189,Tryz.ntmps189
     go_wp2_with fail
     go_quiet (fail)
     go_wp2_with fail
     go_ret
     exact ⟨rfl,bdrew (below_alloc w _) _⟩)
  ·rw [hX] at hc0
   have ha0:w.cell? ⟨3,6,none⟩=some (.int .u8 144):=(hT.2 3 (by omega)).1
   have ha1:w.cell? ⟨3,7,none⟩=some (.int .u8 191):=(hT.2 3 (by omega)).2
   have ft:=@fullN_t s.size x0.toNat x1.toNat x2.toNat 52 144 191 hX rfl rfl
   have ff:=@fullN_f s.size x0.toNat x1.toNat x2.toNat 52 144 191 hX rfl rfl
   by_cases hn:4≤s.size
   ·rw [ft (by omega)]
    clear ft ff hX hT hs1 hs2
    go_enter Tryz.func189,Tryz.ntmps189
    go_wp2_with fail
    go_ret
    exact ⟨rfl,Below.refl _ _⟩
   ·have hc:s.size=1∨(s.size=2∧x1.toNat<144)∨(s.size=2∧¬ x1.toNat<144∧191<x1.toNat)∨(s.size=2∧¬ x1.toNat<144∧¬ 191<x1.toNat)∨(s.size=3∧x1.toNat<144)∨(s.size=3∧¬ x1.toNat<144∧191<x1.toNat)∨(s.size=3∧¬ x1.toNat<144∧¬ 191<x1.toNat∧x2.toNat<128)∨(s.size=3∧¬ x1.toNat<144∧¬ 191<x1.toNat∧¬ x2.toNat<128∧191<x2.toNat)∨(s.size=3∧¬ x1.toNat<144∧¬ 191<x1.toNat∧¬ x2.toNat<128∧¬ 191<x2.toNat):=by omega
    clear hn
    rcases hc with hc | hc | hc | hc | hc | hc | hc | hc | hc <;> (
     try have q1:=hs1 (by omega)
     try have q2:=hs2 (by omega)
     try have g1:decide ((x1.toNat:Int)<144)=true:=decide_eq_true (by omega)
     try have g1:decide ((x1.toNat:Int)<144)=false:=decide_eq_false (by omega)
     try have g2:decide ((191:Int)<(x1.toNat:Int))=true:=decide_eq_true (by omega)
     try have g2:decide ((191:Int)<(x1.toNat:Int))=false:=decide_eq_false (by omega)
     try have g3:decide ((x2.toNat:Int)<128)=true:=decide_eq_true (by omega)
     try have g3:decide ((x2.toNat:Int)<128)=false:=decide_eq_false (by omega)
     try have g4:decide ((191:Int)<(x2.toNat:Int))=true:=decide_eq_true (by omega)
     try have g4:decide ((191:Int)<(x2.toNat:Int))=false:=decide_eq_false (by omega)
     first | rw [ft (by omega)] | rw [ff (by omega)]
     first | have hn1:s.size=1:=(by omega) | have hn1:s.size=2:=(by omega) | have hn1:s.size=3:=by omega
     clear ft ff hX hT hs1 hs2
     go_enter Tryz.func189,Tryz.ntmps189
     go_wp2_with fail
     go_quiet (fail)
     go_wp2_with fail
     go_ret
     exact ⟨rfl,bdrew (below_alloc w _) _⟩)
  ·rw [hX] at hc0
   have ha0:w.cell? ⟨3,0,none⟩=some (.int .u8 128):=(hT.2 0 (by omega)).1
   have ha1:w.cell? ⟨3,1,none⟩=some (.int .u8 191):=(hT.2 0 (by omega)).2
   have ft:=@fullN_t s.size x0.toNat x1.toNat x2.toNat 4 128 191 hX rfl rfl
   have ff:=@fullN_f s.size x0.toNat x1.toNat x2.toNat 4 128 191 hX rfl rfl
   by_cases hn:4≤s.size
   ·rw [ft (by omega)]
    clear ft ff hX hT hs1 hs2
    go_enter Tryz.func189,Tryz.ntmps189
    go_wp2_with fail
    go_ret
    exact ⟨rfl,Below.refl _ _⟩
   ·have hc:s.size=1∨(s.size=2∧x1.toNat<128)∨(s.size=2∧¬ x1.toNat<128∧191<x1.toNat)∨(s.size=2∧¬ x1.toNat<128∧¬ 191<x1.toNat)∨(s.size=3∧x1.toNat<128)∨(s.size=3∧¬ x1.toNat<128∧191<x1.toNat)∨(s.size=3∧¬ x1.toNat<128∧¬ 191<x1.toNat∧x2.toNat<128)∨(s.size=3∧¬ x1.toNat<128∧¬ 191<x1.toNat∧¬ x2.toNat<128∧191<x2.toNat)∨(s.size=3∧¬ x1.toNat<128∧¬ 191<x1.toNat∧¬ x2.toNat<128∧¬ 191<x2.toNat):=by omega
    clear hn
    rcases hc with hc | hc | hc | hc | hc | hc | hc | hc | hc <;> (
     try have q1:=hs1 (by omega)
     try have q2:=hs2 (by omega)
     try have g1:decide ((x1.toNat:Int)<128)=true:=decide_eq_true (by omega)
     try have g1:decide ((x1.toNat:Int)<128)=false:=decide_eq_false (by omega)
     try have g2:decide ((191:Int)<(x1.toNat:Int))=true:=decide_eq_true (by omega)
     try have g2:decide ((191:Int)<(x1.toNat:Int))=false:=decide_eq_false (by omega)
     try have g3:decide ((x2.toNat:Int)<128)=true:=decide_eq_true (by omega)
     try have g3:decide ((x2.toNat:Int)<128)=false:=decide_eq_false (by omega)
     try have g4:decide ((191:Int)<(x2.toNat:Int))=true:=decide_eq_true (by omega)
     try have g4:decide ((191:Int)<(x2.toNat:Int))=false:=decide_eq_false (by omega)
     first | rw [ft (by omega)] | rw [ff (by omega)]
     first | have hn1:s.size=1:=(by omega) | have hn1:s.size=2:=(by omega) | have hn1:s.size=3:=by omega
     clear ft ff hX hT hs1 hs2
     go_enter Tryz.func189,Tryz.ntmps189
     go_wp2_with fail
     go_quiet (fail)
     go_wp2_with fail
     go_ret
     exact ⟨rfl,bdrew (below_alloc w _) _⟩)
  ·rw [hX] at hc0
   have ha0:w.cell? ⟨3,8,none⟩=some (.int .u8 128):=(hT.2 4 (by omega)).1
   have ha1:w.cell? ⟨3,9,none⟩=some (.int .u8 143):=(hT.2 4 (by omega)).2
   have ft:=@fullN_t s.size x0.toNat x1.toNat x2.toNat 68 128 143 hX rfl rfl
   have ff:=@fullN_f s.size x0.toNat x1.toNat x2.toNat 68 128 143 hX rfl rfl
   by_cases hn:4≤s.size
   ·rw [ft (by omega)]
    clear ft ff hX hT hs1 hs2
    go_enter Tryz.func189,Tryz.ntmps189
    go_wp2_with fail
    go_ret
    exact ⟨rfl,Below.refl _ _⟩
   ·have hc:s.size=1∨(s.size=2∧x1.toNat<128)∨(s.size=2∧¬ x1.toNat<128∧143<x1.toNat)∨(s.size=2∧¬ x1.toNat<128∧¬ 143<x1.toNat)∨(s.size=3∧x1.toNat<128)∨(s.size=3∧¬ x1.toNat<128∧143<x1.toNat)∨(s.size=3∧¬ x1.toNat<128∧¬ 143<x1.toNat∧x2.toNat<128)∨(s.size=3∧¬ x1.toNat<128∧¬ 143<x1.toNat∧¬ x2.toNat<128∧191<x2.toNat)∨(s.size=3∧¬ x1.toNat<128∧¬ 143<x1.toNat∧¬ x2.toNat<128∧¬ 191<x2.toNat):=by omega
    clear hn
    rcases hc with hc | hc | hc | hc | hc | hc | hc | hc | hc <;> (
     try have q1:=hs1 (by omega)
     try have q2:=hs2 (by omega)
     try have g1:decide ((x1.toNat:Int)<128)=true:=decide_eq_true (by omega)
     try have g1:decide ((x1.toNat:Int)<128)=false:=decide_eq_false (by omega)
     try have g2:decide ((143:Int)<(x1.toNat:Int))=true:=decide_eq_true (by omega)
     try have g2:decide ((143:Int)<(x1.toNat:Int))=false:=decide_eq_false (by omega)
     try have g3:decide ((x2.toNat:Int)<128)=true:=decide_eq_true (by omega)
     try have g3:decide ((x2.toNat:Int)<128)=false:=decide_eq_false (by omega)
     try have g4:decide ((191:Int)<(x2.toNat:Int))=true:=decide_eq_true (by omega)
     try have g4:decide ((191:Int)<(x2.toNat:Int))=false:=decide_eq_false (by omega)
     first | rw [ft (by omega)] | rw [ff (by omega)]
     first | have hn1:s.size=1:=(by omega) | have hn1:s.size=2:=(by omega) | have hn1:s.size=3:=by omega
     clear ft ff hX hT hs1 hs2
     go_enter Tryz.func189,Tryz.ntmps189
     go_wp2_with fail
     go_quiet (fail)
     go_wp2_with fail
     go_ret
     exact ⟨rfl,bdrew (below_alloc w _) _⟩)
-- END full_any
end Go.Proofs.YtodagkkjfipbgaaGreatDoor
namespace Go.Proofs.YtodagkkjfipbgaaGreatDoor
open Go.RowKit
def Blk (w:World) (b:Nat) (T:ByteArray) (s:RS) (vN vS vL:Value):Prop :=
 w.heap[b]?=some (.cells (rcell T s.at_ s.err s.place vN vS vL s.atoms s.nest) 35 (0,0))
theorem fail_st (b:Nat) (T:ByteArray) (s:RS) (vN vS vL:Value) (e0 p0:Int) (w:World) (h:Blk w b T s vN vS vL) :
  Calls Tryz.prog 46 #[.pointer (some ⟨b,0,none⟩),.int .i64 e0,.int .i64 p0] w fun e w'=>e=.returned (.tuple #[])∧Blk w' b T (s.fail e0 p0) vN vS vL∧Chg (fun k=>k=b) w w':=by
 by_cases h0:s.err=0
 ·have hb:w.heap[b]?=some (.cells (rcell T s.at_ 0 s.place vN vS vL s.atoms s.nest) 35 (0,0)):=by rw [← h0];exact h
  refine (fail_yes b T _ _ vN vS vL _ _ e0 p0 w hb).mono ?_
  rintro e w' ⟨rfl,hb',hc⟩
  refine ⟨rfl,?_,hc⟩
  unfold RS.fail;rw [if_pos h0];exact hb'
 ·refine (fail_no b T _ _ _ vN vS vL _ _ e0 p0 w h (by simpa using h0)).mono ?_
  rintro e w' ⟨rfl,rfl⟩
  refine ⟨rfl,?_,Chg.refl _ _⟩
  unfold RS.fail;rw [if_neg h0];exact h
theorem peek_st (b:Nat) (T:ByteArray) (s:RS) (vN vS vL:Value) (w:World) (h:Blk w b T s vN vS vL) (hT:T.size≤1000) (hat:s.at_≤T.size) :
  Calls Tryz.prog 47 #[.pointer (some ⟨b,0,none⟩)] w fun e w'=>e=.returned (.tuple #[.string (tok T s.at_),.int .i64 (s.pos T:Nat)])∧Blk w' b T (s.peek T) vN vS vL∧Chg (fun k=>k=b) w w' :=
 peek_any b T s.at_ s.err s.place vN vS vL s.atoms s.nest w h hT hat
theorem take_st (b:Nat) (T:ByteArray) (s:RS) (vN vS vL:Value) (w:World) (h:Blk w b T s vN vS vL) (hT:T.size≤1000) (hat:s.at_≤T.size) :
  Calls Tryz.prog 91 #[.pointer (some ⟨b,0,none⟩)] w fun e w'=>e=.returned (.tuple #[.string (tok T s.at_),.int .i64 (s.pos T:Nat)])∧Blk w' b T (s.take T) vN vS vL∧Chg (fun k=>k=b) w w' :=
 take_any b T s.at_ s.err s.place vN vS vL s.atoms s.nest w h hT hat
theorem take_at (T:ByteArray) (s:RS) (hat:s.at_≤T.size):(s.take T).at_≤T.size∧s.at_≤(s.take T).at_∧(s.pos T<T.size→s.at_<(s.take T).at_)∧s.pos T≤T.size:=by
 have h1:=skip_le T s.at_
 have h2:=tokEnd_le T (skip T s.at_)
 simp only [RS.take,RS.pos];omega
theorem peek_at (T:ByteArray) (s:RS) (hat:s.at_≤T.size):(s.peek T).at_≤T.size∧s.at_≤(s.peek T).at_:=by
 have h1:=skip_le T s.at_
 simp only [RS.peek];omega
set_option maxHeartbeats 1000000 in
theorem want_st (b:Nat) (T:ByteArray) (s:RS) (vN vS vL:Value) (x:ByteArray) (w:World) (h:Blk w b T s vN vS vL) (hT:T.size≤1000) (hat:s.at_≤T.size) :
  Calls Tryz.prog 94 #[.pointer (some ⟨b,0,none⟩),.string x] w fun e w'=>e=.returned (.tuple #[])∧Blk w' b T (s.want T x.toList) vN vS vL∧Chg (fun k=>k=b) w w':=by
 by_cases he:s.tk T=x.toList
 ·have he':((tok T s.at_).toList == x.toList)=true:=by simpa [RS.tk] using he
  go_enter Tryz.func94,Tryz.ntmps94
  go_wp2_with (go_at_call 91;refine (take_st b T s vN vS vL _ h hT hat).mono ?_;rintro e w1 ⟨rfl,hb1,hc1⟩)
  go_end0
  exact ⟨rfl,by unfold RS.want;rw [if_pos he];exact hb1,hc1⟩
 ·have he':((tok T s.at_).toList == x.toList)=false:=by simpa [RS.tk] using he
  go_enter Tryz.func94,Tryz.ntmps94
  go_wp2_with (first | (go_at_call 91;refine (take_st b T s vN vS vL _ h hT hat).mono ?_;rintro e w1 ⟨rfl,hb1,hc1⟩) | (go_at_call 46;refine (fail_st b T (s.take T) vN vS vL _ _ _ hb1).mono ?_;rintro e w2 ⟨rfl,hb2,hc2⟩))
  go_end0
  exact ⟨rfl,by unfold RS.want;rw [if_neg he];exact hb2,hc1.trans hc2⟩
theorem take_snoc (s:ByteArray) (k:Nat) (h:k<s.size):s.toList.take (k+1)=s.toList.take k++[s[k]]:=by
 rw [ByteArray.toList_eq,List.take_succ_eq_append_getElem (by simpa using h)];rfl
theorem toList_length (s:ByteArray):s.toList.length=s.size:=by rw [ByteArray.toList_eq];rfl
theorem dig_bd (c:Nat) (d:Int) (h:RS.dig c=some d):0≤d∧d≤15:=by
 unfold RS.dig at h
 split at h
 ·simp at h;omega
 ·split at h
  ·simp at h;omega
  ·split at h
   ·simp at h;omega
   ·simp at h
theorem hexN_snoc (l:List UInt8) (c:UInt8):RS.hexN (l++[c])=match RS.dig c.toNat with | some d=>16 * RS.hexN l+d | none=>RS.hexN l:=by
 unfold RS.hexN;rw [List.foldl_append];rfl
theorem hexN_bd (k:Nat):∀ l:List UInt8,l.length≤k→0≤RS.hexN l∧RS.hexN l<16 ^ k:=by
 induction k with
 | zero=>intro l h
         have e:l=[]:=List.eq_nil_of_length_eq_zero (by omega)
         subst e;simp [RS.hexN]
 | succ k ih =>
  intro l h
  by_cases hl:l=[]
  ·subst hl;simp [RS.hexN];exact Int.pow_pos (by omega)
  ·obtain ⟨m,c,rfl⟩:∃ m c,l=m++[c]:=⟨l.dropLast,l.getLast hl,(List.dropLast_concat_getLast hl).symm⟩
   have:=ih m (by simp at h;omega)
   rw [hexN_snoc]
   cases hd:RS.dig c.toNat with
   | none=>simp only;rw [Int.pow_succ];omega
   | some d=>have:=dig_bd _ _ hd;simp only;rw [Int.pow_succ];omega
theorem hexOk_snoc (l:List UInt8) (c:UInt8):RS.hexOk (l++[c])=(RS.hexOk l && (RS.dig c.toNat).isSome):=by
 unfold RS.hexOk;simp
theorem fail_fail (s:RS) (e p:Int) (he:e ≠ 0):(s.fail e p).fail e p=s.fail e p:=by
 unfold RS.fail;by_cases h:s.err=0 <;> simp [h,he]
def hexAt (s:RS) (p:Int) (l:List UInt8):RS:=if RS.hexOk l=true then s else s.fail 2 p
theorem hexAt_ok {s:RS} {p:Int} {l:List UInt8} {c:UInt8} {d:Int} (h:RS.dig c.toNat=some d):hexAt s p (l++[c])=hexAt s p l∧RS.hexN (l++[c])=16 * RS.hexN l+d:=by
 unfold hexAt;rw [hexOk_snoc,hexN_snoc,h];simp
theorem hexAt_no {s:RS} {p:Int} {l:List UInt8} {c:UInt8} (h:RS.dig c.toNat=none):hexAt s p (l++[c])=(hexAt s p l).fail 2 p∧RS.hexN (l++[c])=RS.hexN l:=by
 unfold hexAt;rw [hexOk_snoc,hexN_snoc,h]
 refine ⟨?_,by simp⟩
 cases RS.hexOk l <;> simp [fail_fail]
theorem hexAt_fail (s:RS) (p:Int) (l:List UInt8):(hexAt s p l).fail 2 p=s.fail 2 p:=by
 unfold hexAt;split
 ·rfl
 ·exact fail_fail _ _ _ (by omega)
theorem hex_long {T:ByteArray} {s:RS} (h:6<(s.tk T).length):s.hex T=(s.take T).fail 2 (s.pos T)∧RS.hexV (s.tk T)=0:=by
 unfold RS.hex RS.hexV;simp [h]
theorem hex_short {T:ByteArray} {s:RS} (h:¬ 6<(s.tk T).length) (hn:s.tk T ≠ []) (hv:¬ 1114111<RS.hexN (s.tk T)):s.hex T=hexAt (s.take T) (s.pos T) (s.tk T)∧RS.hexV (s.tk T)=RS.hexN (s.tk T):=by
 unfold RS.hex RS.hexV hexAt;simp [h,hn,hv]
theorem hex_big {T:ByteArray} {s:RS} (h:¬ 6<(s.tk T).length) (hn:s.tk T ≠ []) (hv:1114111<RS.hexN (s.tk T)):s.hex T=(hexAt (s.take T) (s.pos T) (s.tk T)).fail 5 (s.pos T)∧RS.hexV (s.tk T)=RS.hexN (s.tk T):=by
 unfold RS.hex RS.hexV hexAt;simp [h,hn,hv]
theorem hex_none {T:ByteArray} {s:RS} (hn:s.tk T=[]):s.hex T=(s.take T).fail 2 (s.pos T)∧RS.hexV (s.tk T)=0∧RS.hexN (s.tk T)=0:=by
 unfold RS.hex RS.hexV;simp [hn,RS.hexN]
theorem dig_cases (c:Nat):(48≤c∧c≤57∧RS.dig c=some ((c:Int) - 48))∨(97≤c∧c≤102∧RS.dig c=some ((c:Int) - 97+10))∨(65≤c∧c≤70∧RS.dig c=some ((c:Int) - 65+10)) ∨
  (¬ (48≤c∧c≤57)∧¬ (97≤c∧c≤102)∧¬ (65≤c∧c≤70)∧RS.dig c=none):=by
 unfold RS.dig
 by_cases h1:48≤c∧c≤57
 ·left;simp [h1]
 ·by_cases h2:97≤c∧c≤102
  ·right;left;rw [if_neg h1,if_pos h2];simp [h2]
  ·by_cases h3:65≤c∧c≤70
   ·right;right;left;rw [if_neg h1,if_neg h2,if_pos h3];simp [h3]
   ·right;right;right;rw [if_neg h1,if_neg h2,if_neg h3];exact ⟨h1,h2,h3,rfl⟩
set_option maxHeartbeats 4000000 in
theorem hex_st (b:Nat) (T:ByteArray) (s:RS) (vN vS vL:Value) (w:World) (h:Blk w b T s vN vS vL) (hT:T.size≤1000) (hat:s.at_≤T.size) :
  Calls Tryz.prog 147 #[.pointer (some ⟨b,0,none⟩)] w fun e w'=>e=.returned (.tuple #[.int .i64 (RS.hexV (s.tk T)),.int .i64 (s.pos T:Nat)])∧Blk w' b T (s.hex T) vN vS vL∧Chg (fun k=>k=b) w w':=by
 obtain ⟨t,ht⟩:∃ t,t=tok T s.at_:=⟨_,rfl⟩
 have hts:t.size≤1000:=by rw [ht];have:=(tok_size T s.at_ hat).2;omega
 have hl:s.tk T=t.toList:=by rw [ht];rfl
 have HT:Hid (t=tok T s.at_):=ht
 have HL:Hid (s.tk T=t.toList):=hl
 clear ht hl
 go_enter Tryz.func147,Tryz.ntmps147
 go_wp2_with (go_at_call 91;refine (take_st b T s vN vS vL _ h hT hat).mono ?_;rintro e w1 ⟨rfl,hb1,hc1⟩;rw [← HT.out])
 go_loopg [6,7] 7 (fun g n i wr=>∃ k:Nat,g=7 - k∧k≤6∧k≤t.size∧i=.int .i64 k∧n=.int .i64 (RS.hexN (t.toList.take k))∧Blk wr b T (hexAt (s.take T) (s.pos T) (t.toList.take k)) vN vS vL∧Chg (fun k=>k=b) w wr)
 case atStart=>exact ⟨0,rfl,by omega,by omega,rfl,rfl,hb1,hc1⟩
 case round =>
  obtain ⟨k,rfl,hk6,hkt,rfl,rfl,hbr,hcr⟩:=hrel
  have hbd:=hexN_bd 6 (t.toList.take k) (by rw [List.length_take];omega)
  have hbd1:=hbd.1
  have hbd2:RS.hexN (t.toList.take k)<16777216:=hbd.2
  clear hbd
  by_cases hlt:k<t.size
  ·have hsn:Hid (t.toList.take (k+1)=t.toList.take k++[t[k]]):=take_snoc t k hlt
   have hc256:t[k].toNat<256:=t[k].toNat_lt
   rcases dig_cases t[k].toNat with ⟨h1,h2,hd⟩ | ⟨h1,h2,hd⟩ | ⟨h1,h2,hd⟩ | ⟨h1,h2,h3,hd⟩
   ·have HD:Hid (RS.dig t[k].toNat=some ((t[k].toNat:Int) - 48)):=hd
    clear hd
    by_cases hk5:5<k
    ·go_wp2_with (go_at_call 46;refine (fail_st b T _ vN vS vL _ _ _ hbr).mono ?_;rintro e w2 ⟨rfl,hb2,hc2⟩)
     go_ret2
     have hx:=hex_long (T:=T) (s:=s) (by rw [HL.out,toList_length];omega)
     exact ⟨ret_ii hx.2.symm,by rw [hx.1,← hexAt_fail _ _ (t.toList.take k)];exact hb2,hcr.trans hc2⟩
    ·go_wp2_with (go_at_call 46;refine (fail_st b T _ vN vS vL _ _ _ hbr).mono ?_;rintro e w2 ⟨rfl,hb2,hc2⟩)
     go_roundg (7 - (k+1))
     case measure=>omega
     case rel =>
      have hh:=hexAt_ok (s:=s.take T) (p:=s.pos T) (l:=t.toList.take k) HD.out
      refine ⟨k+1,rfl,by omega,by omega,by go_num,?_,by rw [hsn.out,hh.1];exact hbr,hcr⟩
      rw [hsn.out,hh.2];congr 1;omega
   ·have HD:Hid (RS.dig t[k].toNat=some ((t[k].toNat:Int) - 97+10)):=hd
    clear hd
    by_cases hk5:5<k
    ·go_wp2_with (go_at_call 46;refine (fail_st b T _ vN vS vL _ _ _ hbr).mono ?_;rintro e w2 ⟨rfl,hb2,hc2⟩)
     go_ret2
     have hx:=hex_long (T:=T) (s:=s) (by rw [HL.out,toList_length];omega)
     exact ⟨ret_ii hx.2.symm,by rw [hx.1,← hexAt_fail _ _ (t.toList.take k)];exact hb2,hcr.trans hc2⟩
    ·go_wp2_with (go_at_call 46;refine (fail_st b T _ vN vS vL _ _ _ hbr).mono ?_;rintro e w2 ⟨rfl,hb2,hc2⟩)
     go_roundg (7 - (k+1))
     case measure=>omega
     case rel =>
      have hh:=hexAt_ok (s:=s.take T) (p:=s.pos T) (l:=t.toList.take k) HD.out
      refine ⟨k+1,rfl,by omega,by omega,by go_num,?_,by rw [hsn.out,hh.1];exact hbr,hcr⟩
      rw [hsn.out,hh.2];congr 1;omega
   ·have HD:Hid (RS.dig t[k].toNat=some ((t[k].toNat:Int) - 65+10)):=hd
    clear hd
    by_cases hk5:5<k
    ·go_wp2_with (go_at_call 46;refine (fail_st b T _ vN vS vL _ _ _ hbr).mono ?_;rintro e w2 ⟨rfl,hb2,hc2⟩)
     go_ret2
     have hx:=hex_long (T:=T) (s:=s) (by rw [HL.out,toList_length];omega)
     exact ⟨ret_ii hx.2.symm,by rw [hx.1,← hexAt_fail _ _ (t.toList.take k)];exact hb2,hcr.trans hc2⟩
    ·go_wp2_with (go_at_call 46;refine (fail_st b T _ vN vS vL _ _ _ hbr).mono ?_;rintro e w2 ⟨rfl,hb2,hc2⟩)
     go_roundg (7 - (k+1))
     case measure=>omega
     case rel =>
      have hh:=hexAt_ok (s:=s.take T) (p:=s.pos T) (l:=t.toList.take k) HD.out
      refine ⟨k+1,rfl,by omega,by omega,by go_num,?_,by rw [hsn.out,hh.1];exact hbr,hcr⟩
      rw [hsn.out,hh.2];congr 1;omega
   ·have HD:Hid (RS.dig t[k].toNat=none):=hd
    clear hd
    have hr:t[k].toNat<48∨(58≤t[k].toNat∧t[k].toNat≤64)∨(71≤t[k].toNat∧t[k].toNat≤96)∨103≤t[k].toNat:=by omega
    clear h1 h2 h3
    rcases hr with hr | ⟨hr,hr'⟩ | ⟨hr,hr'⟩ | hr
    all_goals
     by_cases hk5:5<k
     ·go_wp2_with (first | (go_at_call 46;refine (fail_st b T _ vN vS vL _ _ _ hb2).mono ?_;rintro e w3 ⟨rfl,hb3,hc3⟩) | (go_at_call 46;refine (fail_st b T _ vN vS vL _ _ _ hbr).mono ?_;rintro e w2 ⟨rfl,hb2,hc2⟩))
      go_ret2
      have hx:=hex_long (T:=T) (s:=s) (by rw [HL.out,toList_length];omega)
      exact ⟨ret_ii hx.2.symm,by rw [hx.1,← hexAt_fail _ _ (t.toList.take k),← fail_fail _ _ _ (by omega)];exact hb3,(hcr.trans hc2).trans hc3⟩
     ·go_wp2_with (go_at_call 46;refine (fail_st b T _ vN vS vL _ _ _ hbr).mono ?_;rintro e w2 ⟨rfl,hb2,hc2⟩)
      go_roundg (7 - (k+1))
      case measure=>omega
      case rel =>
       have hh:=hexAt_no (s:=s.take T) (p:=s.pos T) (l:=t.toList.take k) HD.out
       exact ⟨k+1,rfl,by omega,by omega,by go_num,by rw [hsn.out,hh.2],by rw [hsn.out,hh.1];exact hb2,hcr.trans hc2⟩
  ·have hkt':k=t.size:=by omega
   have hall:t.toList.take k=s.tk T:=by rw [HL.out,List.take_of_length_le (by rw [toList_length];omega)]
   rw [hall] at hbr hbd1 hbd2 ⊢
   clear hall
   have hlen:Hid (¬ 6<(s.tk T).length):=by show ¬ _;rw [HL.out,toList_length];omega
   by_cases hnil:t.toList=[]
   ·have hx:=hex_none (T:=T) (s:=s) (by rw [HL.out];exact hnil)
    have HX:=And.intro hx.1 (And.intro hx.2.1 hx.2.2)
    have hz:RS.hexN (s.tk T)≤0:=by rw [hx.2.2];omega
    have HX':Hid (s.hex T=(s.take T).fail 2 (s.pos T)∧RS.hexV (s.tk T)=0∧RS.hexN (s.tk T)=0):=HX
    clear hx HX
    go_wp2_with (go_at_call 46;refine (fail_st b T _ vN vS vL _ _ _ hbr).mono ?_;rintro e w2 ⟨rfl,hb2,hc2⟩)
    go_ret2
    exact ⟨ret_ii (HX'.out.2.2.trans HX'.out.2.1.symm),by rw [HX'.out.1,← hexAt_fail _ _ (s.tk T)];exact hb2,hcr.trans hc2⟩
   ·have hne:s.tk T ≠ []:=by rw [HL.out];exact hnil
    have HNE:Hid (s.tk T ≠ []):=hne
    have hE:t.toList.isEmpty=false:=by simpa using hnil
    clear hne
    by_cases hv:1114111<RS.hexN (s.tk T)
    ·go_wp2_with (go_at_call 46;refine (fail_st b T _ vN vS vL _ _ _ hbr).mono ?_;rintro e w2 ⟨rfl,hb2,hc2⟩)
     go_ret2
     have hx:=hex_big hlen.out HNE.out (by assumption)
     exact ⟨ret_ii hx.2.symm,by rw [hx.1];exact hb2,hcr.trans hc2⟩
    ·go_wp2_with (go_at_call 46;refine (fail_st b T _ vN vS vL _ _ _ hbr).mono ?_;rintro e w2 ⟨rfl,hb2,hc2⟩)
     go_ret2
     have hx:=hex_short hlen.out HNE.out (by omega)
     exact ⟨ret_ii hx.2.symm,by rw [hx.1];exact hbr,hcr⟩
end Go.Proofs.YtodagkkjfipbgaaGreatDoor
