import Derived.Shelf.Unicode.DecodeLastEight
import Derived.Test.YtodagkkjfipbgaaGreatDoorSh2lone
import Derived.Test.YtodagkkjfipbgaaGreatDoorV1toV2
namespace Go.Proofs.YtodagkkjfipbgaaGreatDoor
open Go.RowKit Go.Maps Go.Lib
def fullN (n b0 b1 b2:Nat):Bool :=
 if firstT b0 % 8≤n then true
 else if 1<n∧(b1<accLo (firstT b0 / 16)∨accHi (firstT b0 / 16)<b1) then true
 else if 2<n∧(b2<128∨191<b2) then true
 else false
def fullS (s:ByteArray):Bool:=if s.size=0 then false else fullN s.size (s.get! 0).toNat (s.get! 1).toNat (s.get! 2).toNat
set_option maxHeartbeats 4000000 in
set_option maxRecDepth 1000000 in
theorem full_any (s:ByteArray) (w:World) (hT:Utf8Tabs 2 3 w) (hlen:s.size≤4) :
  Calls Tryz.prog 189 #[.string s] w fun r w'=>r=.returned (.bool (fullS s))∧Below w.heap.size w w':=by
 by_cases h0:s.size=0
 ·unfold fullS
  rw [if_pos h0]
  clear hT
  go_enter Tryz.func189,Tryz.ntmps189
  go_wp2_with fail
  go_ret
  exact ⟨rfl,Below.refl _ _⟩
 ·unfold fullS
  rw [if_neg h0]
  have hz0:(0:Int)<(s.size:Int):=by omega
  obtain ⟨x0,hx0⟩:∃ x0,s.get! 0=x0:=⟨_,rfl⟩
  obtain ⟨x1,hx1⟩:∃ x1,s.get! 1=x1:=⟨_,rfl⟩
  obtain ⟨x2,hx2⟩:∃ x2,s.get! 2=x2:=⟨_,rfl⟩
  have hs0:s[0]'(by omega)=x0:=by rw [← hx0];exact (Utf8W.get!_of_lt s 0 (by omega)).symm
  have hs1:∀ h:1<s.size,s[1]'h=x1:=fun h=>by rw [← hx1];exact (Utf8W.get!_of_lt s 1 h).symm
  have hs2:∀ h:2<s.size,s[2]'h=x2:=fun h=>by rw [← hx2];exact (Utf8W.get!_of_lt s 2 h).symm
  rw [hx0,hx1,hx2]
  have l0:=x0.toNat_lt
  have l1:=x1.toNat_lt
  have l2:=x2.toNat_lt
  have hc0:=hT.1 x0.toNat (by omega)
  rcases firstT_cases x0.toNat with hX | hX | hX | hX | hX | hX | hX | hX | hX
  ·rw [show fullN s.size x0.toNat x1.toNat x2.toNat=true from by unfold fullN;rw [hX,if_pos (by omega)]]
   rw [hX] at hc0
   clear hT hX hs1 hs2
   go_enter Tryz.func189,Tryz.ntmps189
   go_wp2_with fail
   go_ret
   exact ⟨rfl,Below.refl _ _⟩
  ·rw [show fullN s.size x0.toNat x1.toNat x2.toNat=true from by unfold fullN;rw [hX,if_pos (by omega)]]
   rw [hX] at hc0
   clear hT hX hs1 hs2
   go_enter Tryz.func189,Tryz.ntmps189
   go_wp2_with fail
   go_ret
   exact ⟨rfl,Below.refl _ _⟩
  ·rw [hX] at hc0
   have ha0:w.cell? ⟨3,0,none⟩=some (.int .u8 128):=(hT.2 0 (by omega)).1
   have ha1:w.cell? ⟨3,1,none⟩=some (.int .u8 191):=(hT.2 0 (by omega)).2
   by_cases hn:2≤s.size
   ·clear hs1 hs2
    have hr:fullN s.size x0.toNat x1.toNat x2.toNat=true:=by
     unfold fullN
     rw [hX,show accLo (2 / 16)=128 from rfl,show accHi (2 / 16)=191 from rfl]
     repeat' split
     all_goals first | rfl | (exfalso;omega)
    rw [hr]
    clear hr hX hT
    go_enter Tryz.func189,Tryz.ntmps189
    go_wp2_with fail
    go_ret
    exact ⟨rfl,Below.refl _ _⟩
   ·have hn1:s.size=1:=by omega
    clear hs1 hs2
    have hr:fullN s.size x0.toNat x1.toNat x2.toNat=false:=by
     unfold fullN
     rw [hX,show accLo (2 / 16)=128 from rfl,show accHi (2 / 16)=191 from rfl]
     repeat' split
     all_goals first | rfl | (exfalso;omega)
    rw [hr]
    clear hr hX hT
    go_enter Tryz.func189,Tryz.ntmps189
    go_wp2_with fail
    go_quiet (fail)
    go_wp2_with fail
    go_ret
    exact ⟨rfl,bdrew (below_alloc w _) _⟩
  ·rw [hX] at hc0
   have ha0:w.cell? ⟨3,2,none⟩=some (.int .u8 160):=(hT.2 1 (by omega)).1
   have ha1:w.cell? ⟨3,3,none⟩=some (.int .u8 191):=(hT.2 1 (by omega)).2
   by_cases hn:3≤s.size
   ·clear hs1 hs2
    have hr:fullN s.size x0.toNat x1.toNat x2.toNat=true:=by
     unfold fullN
     rw [hX,show accLo (19 / 16)=160 from rfl,show accHi (19 / 16)=191 from rfl]
     repeat' split
     all_goals first | rfl | (exfalso;omega)
    rw [hr]
    clear hr hX hT
    go_enter Tryz.func189,Tryz.ntmps189
    go_wp2_with fail
    go_ret
    exact ⟨rfl,Below.refl _ _⟩
   ·by_cases hm1:s.size=1
    ·have hn1:s.size=1:=by omega
     clear hs1 hs2
     have hr:fullN s.size x0.toNat x1.toNat x2.toNat=false:=by
      unfold fullN
      rw [hX,show accLo (19 / 16)=160 from rfl,show accHi (19 / 16)=191 from rfl]
      repeat' split
      all_goals first | rfl | (exfalso;omega)
     rw [hr]
     clear hr hX hT
     go_enter Tryz.func189,Tryz.ntmps189
     go_wp2_with fail
     go_quiet (fail)
     go_wp2_with fail
     go_ret
     exact ⟨rfl,bdrew (below_alloc w _) _⟩
    ·have hn1:s.size=2:=by omega
     have q1:=hs1 (by omega)
     clear hs1 hs2
     by_cases h1:x1.toNat<160
     ·have g1:decide ((x1.toNat:Int)<160)=true:=by simp;omega
      have hr:fullN s.size x0.toNat x1.toNat x2.toNat=true:=by
       unfold fullN
       rw [hX,show accLo (19 / 16)=160 from rfl,show accHi (19 / 16)=191 from rfl]
       repeat' split
       all_goals first | rfl | (exfalso;omega)
      rw [hr]
      clear hr hX hT
      go_enter Tryz.func189,Tryz.ntmps189
      go_wp2_with fail
      go_quiet (fail)
      go_wp2_with fail
      go_ret
      exact ⟨rfl,bdrew (below_alloc w _) _⟩
     ·have g1:decide ((x1.toNat:Int)<160)=false:=by simp;omega
      by_cases h2:191<x1.toNat
      ·have g2:decide ((191:Int)<(x1.toNat:Int))=true:=by simp;omega
       have hr:fullN s.size x0.toNat x1.toNat x2.toNat=true:=by
        unfold fullN
        rw [hX,show accLo (19 / 16)=160 from rfl,show accHi (19 / 16)=191 from rfl]
        repeat' split
        all_goals first | rfl | (exfalso;omega)
       rw [hr]
       clear hr hX hT
       go_enter Tryz.func189,Tryz.ntmps189
       go_wp2_with fail
       go_quiet (fail)
       go_wp2_with fail
       go_ret
       exact ⟨rfl,bdrew (below_alloc w _) _⟩
      ·have g2:decide ((191:Int)<(x1.toNat:Int))=false:=by simp;omega
       have hr:fullN s.size x0.toNat x1.toNat x2.toNat=false:=by
        unfold fullN
        rw [hX,show accLo (19 / 16)=160 from rfl,show accHi (19 / 16)=191 from rfl]
        repeat' split
        all_goals first | rfl | (exfalso;omega)
       rw [hr]
       clear hr hX hT
       go_enter Tryz.func189,Tryz.ntmps189
       go_wp2_with fail
       go_quiet (fail)
       go_wp2_with fail
       go_ret
       exact ⟨rfl,bdrew (below_alloc w _) _⟩
  ·rw [hX] at hc0
   have ha0:w.cell? ⟨3,0,none⟩=some (.int .u8 128):=(hT.2 0 (by omega)).1
   have ha1:w.cell? ⟨3,1,none⟩=some (.int .u8 191):=(hT.2 0 (by omega)).2
   by_cases hn:3≤s.size
   ·clear hs1 hs2
    have hr:fullN s.size x0.toNat x1.toNat x2.toNat=true:=by
     unfold fullN
     rw [hX,show accLo (3 / 16)=128 from rfl,show accHi (3 / 16)=191 from rfl]
     repeat' split
     all_goals first | rfl | (exfalso;omega)
    rw [hr]
    clear hr hX hT
    go_enter Tryz.func189,Tryz.ntmps189
    go_wp2_with fail
    go_ret
    exact ⟨rfl,Below.refl _ _⟩
   ·by_cases hm1:s.size=1
    ·have hn1:s.size=1:=by omega
     clear hs1 hs2
     have hr:fullN s.size x0.toNat x1.toNat x2.toNat=false:=by
      unfold fullN
      rw [hX,show accLo (3 / 16)=128 from rfl,show accHi (3 / 16)=191 from rfl]
      repeat' split
      all_goals first | rfl | (exfalso;omega)
     rw [hr]
     clear hr hX hT
     go_enter Tryz.func189,Tryz.ntmps189
     go_wp2_with fail
     go_quiet (fail)
     go_wp2_with fail
     go_ret
     exact ⟨rfl,bdrew (below_alloc w _) _⟩
    ·have hn1:s.size=2:=by omega
     have q1:=hs1 (by omega)
     clear hs1 hs2
     by_cases h1:x1.toNat<128
     ·have g1:decide ((x1.toNat:Int)<128)=true:=by simp;omega
      have hr:fullN s.size x0.toNat x1.toNat x2.toNat=true:=by
       unfold fullN
       rw [hX,show accLo (3 / 16)=128 from rfl,show accHi (3 / 16)=191 from rfl]
       repeat' split
       all_goals first | rfl | (exfalso;omega)
      rw [hr]
      clear hr hX hT
      go_enter Tryz.func189,Tryz.ntmps189
      go_wp2_with fail
      go_quiet (fail)
      go_wp2_with fail
      go_ret
      exact ⟨rfl,bdrew (below_alloc w _) _⟩
     ·have g1:decide ((x1.toNat:Int)<128)=false:=by simp;omega
      by_cases h2:191<x1.toNat
      ·have g2:decide ((191:Int)<(x1.toNat:Int))=true:=by simp;omega
       have hr:fullN s.size x0.toNat x1.toNat x2.toNat=true:=by
        unfold fullN
        rw [hX,show accLo (3 / 16)=128 from rfl,show accHi (3 / 16)=191 from rfl]
        repeat' split
        all_goals first | rfl | (exfalso;omega)
       rw [hr]
       clear hr hX hT
       go_enter Tryz.func189,Tryz.ntmps189
       go_wp2_with fail
       go_quiet (fail)
       go_wp2_with fail
       go_ret
       exact ⟨rfl,bdrew (below_alloc w _) _⟩
      ·have g2:decide ((191:Int)<(x1.toNat:Int))=false:=by simp;omega
       have hr:fullN s.size x0.toNat x1.toNat x2.toNat=false:=by
        unfold fullN
        rw [hX,show accLo (3 / 16)=128 from rfl,show accHi (3 / 16)=191 from rfl]
        repeat' split
        all_goals first | rfl | (exfalso;omega)
       rw [hr]
       clear hr hX hT
       go_enter Tryz.func189,Tryz.ntmps189
       go_wp2_with fail
       go_quiet (fail)
       go_wp2_with fail
       go_ret
       exact ⟨rfl,bdrew (below_alloc w _) _⟩
  ·rw [hX] at hc0
   have ha0:w.cell? ⟨3,4,none⟩=some (.int .u8 128):=(hT.2 2 (by omega)).1
   have ha1:w.cell? ⟨3,5,none⟩=some (.int .u8 159):=(hT.2 2 (by omega)).2
   by_cases hn:3≤s.size
   ·clear hs1 hs2
    have hr:fullN s.size x0.toNat x1.toNat x2.toNat=true:=by
     unfold fullN
     rw [hX,show accLo (35 / 16)=128 from rfl,show accHi (35 / 16)=159 from rfl]
     repeat' split
     all_goals first | rfl | (exfalso;omega)
    rw [hr]
    clear hr hX hT
    go_enter Tryz.func189,Tryz.ntmps189
    go_wp2_with fail
    go_ret
    exact ⟨rfl,Below.refl _ _⟩
   ·by_cases hm1:s.size=1
    ·have hn1:s.size=1:=by omega
     clear hs1 hs2
     have hr:fullN s.size x0.toNat x1.toNat x2.toNat=false:=by
      unfold fullN
      rw [hX,show accLo (35 / 16)=128 from rfl,show accHi (35 / 16)=159 from rfl]
      repeat' split
      all_goals first | rfl | (exfalso;omega)
     rw [hr]
     clear hr hX hT
     go_enter Tryz.func189,Tryz.ntmps189
     go_wp2_with fail
     go_quiet (fail)
     go_wp2_with fail
     go_ret
     exact ⟨rfl,bdrew (below_alloc w _) _⟩
    ·have hn1:s.size=2:=by omega
     have q1:=hs1 (by omega)
     clear hs1 hs2
     by_cases h1:x1.toNat<128
     ·have g1:decide ((x1.toNat:Int)<128)=true:=by simp;omega
      have hr:fullN s.size x0.toNat x1.toNat x2.toNat=true:=by
       unfold fullN
       rw [hX,show accLo (35 / 16)=128 from rfl,show accHi (35 / 16)=159 from rfl]
       repeat' split
       all_goals first | rfl | (exfalso;omega)
      rw [hr]
      clear hr hX hT
      go_enter Tryz.func189,Tryz.ntmps189
      go_wp2_with fail
      go_quiet (fail)
      go_wp2_with fail
      go_ret
      exact ⟨rfl,bdrew (below_alloc w _) _⟩
     ·have g1:decide ((x1.toNat:Int)<128)=false:=by simp;omega
      by_cases h2:159<x1.toNat
      ·have g2:decide ((159:Int)<(x1.toNat:Int))=true:=by simp;omega
       have hr:fullN s.size x0.toNat x1.toNat x2.toNat=true:=by
        unfold fullN
        rw [hX,show accLo (35 / 16)=128 from rfl,show accHi (35 / 16)=159 from rfl]
        repeat' split
        all_goals first | rfl | (exfalso;omega)
       rw [hr]
       clear hr hX hT
       go_enter Tryz.func189,Tryz.ntmps189
       go_wp2_with fail
       go_quiet (fail)
       go_wp2_with fail
       go_ret
       exact ⟨rfl,bdrew (below_alloc w _) _⟩
      ·have g2:decide ((159:Int)<(x1.toNat:Int))=false:=by simp;omega
       have hr:fullN s.size x0.toNat x1.toNat x2.toNat=false:=by
        unfold fullN
        rw [hX,show accLo (35 / 16)=128 from rfl,show accHi (35 / 16)=159 from rfl]
        repeat' split
        all_goals first | rfl | (exfalso;omega)
       rw [hr]
       clear hr hX hT
       go_enter Tryz.func189,Tryz.ntmps189
       go_wp2_with fail
       go_quiet (fail)
       go_wp2_with fail
       go_ret
       exact ⟨rfl,bdrew (below_alloc w _) _⟩
  ·rw [hX] at hc0
   have ha0:w.cell? ⟨3,6,none⟩=some (.int .u8 144):=(hT.2 3 (by omega)).1
   have ha1:w.cell? ⟨3,7,none⟩=some (.int .u8 191):=(hT.2 3 (by omega)).2
   by_cases hn:4≤s.size
   ·clear hs1 hs2
    have hr:fullN s.size x0.toNat x1.toNat x2.toNat=true:=by
     unfold fullN
     rw [hX,show accLo (52 / 16)=144 from rfl,show accHi (52 / 16)=191 from rfl]
     repeat' split
     all_goals first | rfl | (exfalso;omega)
    rw [hr]
    clear hr hX hT
    go_enter Tryz.func189,Tryz.ntmps189
    go_wp2_with fail
    go_ret
    exact ⟨rfl,Below.refl _ _⟩
   ·by_cases hm1:s.size=1
    ·have hn1:s.size=1:=by omega
     clear hs1 hs2
     have hr:fullN s.size x0.toNat x1.toNat x2.toNat=false:=by
      unfold fullN
      rw [hX,show accLo (52 / 16)=144 from rfl,show accHi (52 / 16)=191 from rfl]
      repeat' split
      all_goals first | rfl | (exfalso;omega)
     rw [hr]
     clear hr hX hT
     go_enter Tryz.func189,Tryz.ntmps189
     go_wp2_with fail
     go_quiet (fail)
     go_wp2_with fail
     go_ret
     exact ⟨rfl,bdrew (below_alloc w _) _⟩
    ·by_cases hm2:s.size=2
     ·have hn1:s.size=2:=by omega
      have q1:=hs1 (by omega)
      clear hs1 hs2
      by_cases h1:x1.toNat<144
      ·have g1:decide ((x1.toNat:Int)<144)=true:=by simp;omega
       have hr:fullN s.size x0.toNat x1.toNat x2.toNat=true:=by
        unfold fullN
        rw [hX,show accLo (52 / 16)=144 from rfl,show accHi (52 / 16)=191 from rfl]
        repeat' split
        all_goals first | rfl | (exfalso;omega)
       rw [hr]
       clear hr hX hT
       go_enter Tryz.func189,Tryz.ntmps189
       go_wp2_with fail
       go_quiet (fail)
       go_wp2_with fail
       go_ret
       exact ⟨rfl,bdrew (below_alloc w _) _⟩
      ·have g1:decide ((x1.toNat:Int)<144)=false:=by simp;omega
       by_cases h2:191<x1.toNat
       ·have g2:decide ((191:Int)<(x1.toNat:Int))=true:=by simp;omega
        have hr:fullN s.size x0.toNat x1.toNat x2.toNat=true:=by
         unfold fullN
         rw [hX,show accLo (52 / 16)=144 from rfl,show accHi (52 / 16)=191 from rfl]
         repeat' split
         all_goals first | rfl | (exfalso;omega)
        rw [hr]
        clear hr hX hT
        go_enter Tryz.func189,Tryz.ntmps189
        go_wp2_with fail
        go_quiet (fail)
        go_wp2_with fail
        go_ret
        exact ⟨rfl,bdrew (below_alloc w _) _⟩
       ·have g2:decide ((191:Int)<(x1.toNat:Int))=false:=by simp;omega
        have hr:fullN s.size x0.toNat x1.toNat x2.toNat=false:=by
         unfold fullN
         rw [hX,show accLo (52 / 16)=144 from rfl,show accHi (52 / 16)=191 from rfl]
         repeat' split
         all_goals first | rfl | (exfalso;omega)
        rw [hr]
        clear hr hX hT
        go_enter Tryz.func189,Tryz.ntmps189
        go_wp2_with fail
        go_quiet (fail)
        go_wp2_with fail
        go_ret
        exact ⟨rfl,bdrew (below_alloc w _) _⟩
     ·have hn1:s.size=3:=by omega
      have q1:=hs1 (by omega)
      have q2:=hs2 (by omega)
      clear hs1 hs2
      by_cases h1:x1.toNat<144
      ·have g1:decide ((x1.toNat:Int)<144)=true:=by simp;omega
       have hr:fullN s.size x0.toNat x1.toNat x2.toNat=true:=by
        unfold fullN
        rw [hX,show accLo (52 / 16)=144 from rfl,show accHi (52 / 16)=191 from rfl]
        repeat' split
        all_goals first | rfl | (exfalso;omega)
       rw [hr]
       clear hr hX hT
       go_enter Tryz.func189,Tryz.ntmps189
       go_wp2_with fail
       go_quiet (fail)
       go_wp2_with fail
       go_ret
       exact ⟨rfl,bdrew (below_alloc w _) _⟩
      ·have g1:decide ((x1.toNat:Int)<144)=false:=by simp;omega
       by_cases h2:191<x1.toNat
       ·have g2:decide ((191:Int)<(x1.toNat:Int))=true:=by simp;omega
        have hr:fullN s.size x0.toNat x1.toNat x2.toNat=true:=by
         unfold fullN
         rw [hX,show accLo (52 / 16)=144 from rfl,show accHi (52 / 16)=191 from rfl]
         repeat' split
         all_goals first | rfl | (exfalso;omega)
        rw [hr]
        clear hr hX hT
        go_enter Tryz.func189,Tryz.ntmps189
        go_wp2_with fail
        go_quiet (fail)
        go_wp2_with fail
        go_ret
        exact ⟨rfl,bdrew (below_alloc w _) _⟩
       ·have g2:decide ((191:Int)<(x1.toNat:Int))=false:=by simp;omega
        by_cases h3:x2.toNat<128
        ·have g3:decide ((x2.toNat:Int)<128)=true:=by simp;omega
         have hr:fullN s.size x0.toNat x1.toNat x2.toNat=true:=by
          unfold fullN
          rw [hX,show accLo (52 / 16)=144 from rfl,show accHi (52 / 16)=191 from rfl]
          repeat' split
          all_goals first | rfl | (exfalso;omega)
         rw [hr]
         clear hr hX hT
         go_enter Tryz.func189,Tryz.ntmps189
         go_wp2_with fail
         go_quiet (fail)
         go_wp2_with fail
         go_ret
         exact ⟨rfl,bdrew (below_alloc w _) _⟩
        ·have g3:decide ((x2.toNat:Int)<128)=false:=by simp;omega
         by_cases h4:191<x2.toNat
         ·have g4:decide ((191:Int)<(x2.toNat:Int))=true:=by simp;omega
          have hr:fullN s.size x0.toNat x1.toNat x2.toNat=true:=by
           unfold fullN
           rw [hX,show accLo (52 / 16)=144 from rfl,show accHi (52 / 16)=191 from rfl]
           repeat' split
           all_goals first | rfl | (exfalso;omega)
          rw [hr]
          clear hr hX hT
          go_enter Tryz.func189,Tryz.ntmps189
          go_wp2_with fail
          go_quiet (fail)
          go_wp2_with fail
          go_ret
          exact ⟨rfl,bdrew (below_alloc w _) _⟩
         ·have g4:decide ((191:Int)<(x2.toNat:Int))=false:=by simp;omega
          have hr:fullN s.size x0.toNat x1.toNat x2.toNat=false:=by
           unfold fullN
           rw [hX,show accLo (52 / 16)=144 from rfl,show accHi (52 / 16)=191 from rfl]
           repeat' split
           all_goals first | rfl | (exfalso;omega)
          rw [hr]
          clear hr hX hT
          go_enter Tryz.func189,Tryz.ntmps189
          go_wp2_with fail
          go_quiet (fail)
          go_wp2_with fail
          go_ret
          exact ⟨rfl,bdrew (below_alloc w _) _⟩
  ·rw [hX] at hc0
   have ha0:w.cell? ⟨3,0,none⟩=some (.int .u8 128):=(hT.2 0 (by omega)).1
   have ha1:w.cell? ⟨3,1,none⟩=some (.int .u8 191):=(hT.2 0 (by omega)).2
   by_cases hn:4≤s.size
   ·clear hs1 hs2
    have hr:fullN s.size x0.toNat x1.toNat x2.toNat=true:=by
     unfold fullN
     rw [hX,show accLo (4 / 16)=128 from rfl,show accHi (4 / 16)=191 from rfl]
     repeat' split
     all_goals first | rfl | (exfalso;omega)
    rw [hr]
    clear hr hX hT
    go_enter Tryz.func189,Tryz.ntmps189
    go_wp2_with fail
    go_ret
    exact ⟨rfl,Below.refl _ _⟩
   ·by_cases hm1:s.size=1
    ·have hn1:s.size=1:=by omega
     clear hs1 hs2
     have hr:fullN s.size x0.toNat x1.toNat x2.toNat=false:=by
      unfold fullN
      rw [hX,show accLo (4 / 16)=128 from rfl,show accHi (4 / 16)=191 from rfl]
      repeat' split
      all_goals first | rfl | (exfalso;omega)
     rw [hr]
     clear hr hX hT
     go_enter Tryz.func189,Tryz.ntmps189
     go_wp2_with fail
     go_quiet (fail)
     go_wp2_with fail
     go_ret
     exact ⟨rfl,bdrew (below_alloc w _) _⟩
    ·by_cases hm2:s.size=2
     ·have hn1:s.size=2:=by omega
      have q1:=hs1 (by omega)
      clear hs1 hs2
      by_cases h1:x1.toNat<128
      ·have g1:decide ((x1.toNat:Int)<128)=true:=by simp;omega
       have hr:fullN s.size x0.toNat x1.toNat x2.toNat=true:=by
        unfold fullN
        rw [hX,show accLo (4 / 16)=128 from rfl,show accHi (4 / 16)=191 from rfl]
        repeat' split
        all_goals first | rfl | (exfalso;omega)
       rw [hr]
       clear hr hX hT
       go_enter Tryz.func189,Tryz.ntmps189
       go_wp2_with fail
       go_quiet (fail)
       go_wp2_with fail
       go_ret
       exact ⟨rfl,bdrew (below_alloc w _) _⟩
      ·have g1:decide ((x1.toNat:Int)<128)=false:=by simp;omega
       by_cases h2:191<x1.toNat
       ·have g2:decide ((191:Int)<(x1.toNat:Int))=true:=by simp;omega
        have hr:fullN s.size x0.toNat x1.toNat x2.toNat=true:=by
         unfold fullN
         rw [hX,show accLo (4 / 16)=128 from rfl,show accHi (4 / 16)=191 from rfl]
         repeat' split
         all_goals first | rfl | (exfalso;omega)
        rw [hr]
        clear hr hX hT
        go_enter Tryz.func189,Tryz.ntmps189
        go_wp2_with fail
        go_quiet (fail)
        go_wp2_with fail
        go_ret
        exact ⟨rfl,bdrew (below_alloc w _) _⟩
       ·have g2:decide ((191:Int)<(x1.toNat:Int))=false:=by simp;omega
        have hr:fullN s.size x0.toNat x1.toNat x2.toNat=false:=by
         unfold fullN
         rw [hX,show accLo (4 / 16)=128 from rfl,show accHi (4 / 16)=191 from rfl]
         repeat' split
         all_goals first | rfl | (exfalso;omega)
        rw [hr]
        clear hr hX hT
        go_enter Tryz.func189,Tryz.ntmps189
        go_wp2_with fail
        go_quiet (fail)
        go_wp2_with fail
        go_ret
        exact ⟨rfl,bdrew (below_alloc w _) _⟩
     ·have hn1:s.size=3:=by omega
      have q1:=hs1 (by omega)
      have q2:=hs2 (by omega)
      clear hs1 hs2
      by_cases h1:x1.toNat<128
      ·have g1:decide ((x1.toNat:Int)<128)=true:=by simp;omega
       have hr:fullN s.size x0.toNat x1.toNat x2.toNat=true:=by
        unfold fullN
        rw [hX,show accLo (4 / 16)=128 from rfl,show accHi (4 / 16)=191 from rfl]
        repeat' split
        all_goals first | rfl | (exfalso;omega)
       rw [hr]
       clear hr hX hT
       go_enter Tryz.func189,Tryz.ntmps189
       go_wp2_with fail
       go_quiet (fail)
       go_wp2_with fail
       go_ret
       exact ⟨rfl,bdrew (below_alloc w _) _⟩
      ·have g1:decide ((x1.toNat:Int)<128)=false:=by simp;omega
       by_cases h2:191<x1.toNat
       ·have g2:decide ((191:Int)<(x1.toNat:Int))=true:=by simp;omega
        have hr:fullN s.size x0.toNat x1.toNat x2.toNat=true:=by
         unfold fullN
         rw [hX,show accLo (4 / 16)=128 from rfl,show accHi (4 / 16)=191 from rfl]
         repeat' split
         all_goals first | rfl | (exfalso;omega)
        rw [hr]
        clear hr hX hT
        go_enter Tryz.func189,Tryz.ntmps189
        go_wp2_with fail
        go_quiet (fail)
        go_wp2_with fail
        go_ret
        exact ⟨rfl,bdrew (below_alloc w _) _⟩
       ·have g2:decide ((191:Int)<(x1.toNat:Int))=false:=by simp;omega
        by_cases h3:x2.toNat<128
        ·have g3:decide ((x2.toNat:Int)<128)=true:=by simp;omega
         have hr:fullN s.size x0.toNat x1.toNat x2.toNat=true:=by
          unfold fullN
          rw [hX,show accLo (4 / 16)=128 from rfl,show accHi (4 / 16)=191 from rfl]
          repeat' split
          all_goals first | rfl | (exfalso;omega)
         rw [hr]
         clear hr hX hT
         go_enter Tryz.func189,Tryz.ntmps189
         go_wp2_with fail
         go_quiet (fail)
         go_wp2_with fail
         go_ret
         exact ⟨rfl,bdrew (below_alloc w _) _⟩
        ·have g3:decide ((x2.toNat:Int)<128)=false:=by simp;omega
         by_cases h4:191<x2.toNat
         ·have g4:decide ((191:Int)<(x2.toNat:Int))=true:=by simp;omega
          have hr:fullN s.size x0.toNat x1.toNat x2.toNat=true:=by
           unfold fullN
           rw [hX,show accLo (4 / 16)=128 from rfl,show accHi (4 / 16)=191 from rfl]
           repeat' split
           all_goals first | rfl | (exfalso;omega)
          rw [hr]
          clear hr hX hT
          go_enter Tryz.func189,Tryz.ntmps189
          go_wp2_with fail
          go_quiet (fail)
          go_wp2_with fail
          go_ret
          exact ⟨rfl,bdrew (below_alloc w _) _⟩
         ·have g4:decide ((191:Int)<(x2.toNat:Int))=false:=by simp;omega
          have hr:fullN s.size x0.toNat x1.toNat x2.toNat=false:=by
           unfold fullN
           rw [hX,show accLo (4 / 16)=128 from rfl,show accHi (4 / 16)=191 from rfl]
           repeat' split
           all_goals first | rfl | (exfalso;omega)
          rw [hr]
          clear hr hX hT
          go_enter Tryz.func189,Tryz.ntmps189
          go_wp2_with fail
          go_quiet (fail)
          go_wp2_with fail
          go_ret
          exact ⟨rfl,bdrew (below_alloc w _) _⟩
  ·rw [hX] at hc0
   have ha0:w.cell? ⟨3,8,none⟩=some (.int .u8 128):=(hT.2 4 (by omega)).1
   have ha1:w.cell? ⟨3,9,none⟩=some (.int .u8 143):=(hT.2 4 (by omega)).2
   by_cases hn:4≤s.size
   ·clear hs1 hs2
    have hr:fullN s.size x0.toNat x1.toNat x2.toNat=true:=by
     unfold fullN
     rw [hX,show accLo (68 / 16)=128 from rfl,show accHi (68 / 16)=143 from rfl]
     repeat' split
     all_goals first | rfl | (exfalso;omega)
    rw [hr]
    clear hr hX hT
    go_enter Tryz.func189,Tryz.ntmps189
    go_wp2_with fail
    go_ret
    exact ⟨rfl,Below.refl _ _⟩
   ·by_cases hm1:s.size=1
    ·have hn1:s.size=1:=by omega
     clear hs1 hs2
     have hr:fullN s.size x0.toNat x1.toNat x2.toNat=false:=by
      unfold fullN
      rw [hX,show accLo (68 / 16)=128 from rfl,show accHi (68 / 16)=143 from rfl]
      repeat' split
      all_goals first | rfl | (exfalso;omega)
     rw [hr]
     clear hr hX hT
     go_enter Tryz.func189,Tryz.ntmps189
     go_wp2_with fail
     go_quiet (fail)
     go_wp2_with fail
     go_ret
     exact ⟨rfl,bdrew (below_alloc w _) _⟩
    ·by_cases hm2:s.size=2
     ·have hn1:s.size=2:=by omega
      have q1:=hs1 (by omega)
      clear hs1 hs2
      by_cases h1:x1.toNat<128
      ·have g1:decide ((x1.toNat:Int)<128)=true:=by simp;omega
       have hr:fullN s.size x0.toNat x1.toNat x2.toNat=true:=by
        unfold fullN
        rw [hX,show accLo (68 / 16)=128 from rfl,show accHi (68 / 16)=143 from rfl]
        repeat' split
        all_goals first | rfl | (exfalso;omega)
       rw [hr]
       clear hr hX hT
       go_enter Tryz.func189,Tryz.ntmps189
       go_wp2_with fail
       go_quiet (fail)
       go_wp2_with fail
       go_ret
       exact ⟨rfl,bdrew (below_alloc w _) _⟩
      ·have g1:decide ((x1.toNat:Int)<128)=false:=by simp;omega
       by_cases h2:143<x1.toNat
       ·have g2:decide ((143:Int)<(x1.toNat:Int))=true:=by simp;omega
        have hr:fullN s.size x0.toNat x1.toNat x2.toNat=true:=by
         unfold fullN
         rw [hX,show accLo (68 / 16)=128 from rfl,show accHi (68 / 16)=143 from rfl]
         repeat' split
         all_goals first | rfl | (exfalso;omega)
        rw [hr]
        clear hr hX hT
        go_enter Tryz.func189,Tryz.ntmps189
        go_wp2_with fail
        go_quiet (fail)
        go_wp2_with fail
        go_ret
        exact ⟨rfl,bdrew (below_alloc w _) _⟩
       ·have g2:decide ((143:Int)<(x1.toNat:Int))=false:=by simp;omega
        have hr:fullN s.size x0.toNat x1.toNat x2.toNat=false:=by
         unfold fullN
         rw [hX,show accLo (68 / 16)=128 from rfl,show accHi (68 / 16)=143 from rfl]
         repeat' split
         all_goals first | rfl | (exfalso;omega)
        rw [hr]
        clear hr hX hT
        go_enter Tryz.func189,Tryz.ntmps189
        go_wp2_with fail
        go_quiet (fail)
        go_wp2_with fail
        go_ret
        exact ⟨rfl,bdrew (below_alloc w _) _⟩
     ·have hn1:s.size=3:=by omega
      have q1:=hs1 (by omega)
      have q2:=hs2 (by omega)
      clear hs1 hs2
      by_cases h1:x1.toNat<128
      ·have g1:decide ((x1.toNat:Int)<128)=true:=by simp;omega
       have hr:fullN s.size x0.toNat x1.toNat x2.toNat=true:=by
        unfold fullN
        rw [hX,show accLo (68 / 16)=128 from rfl,show accHi (68 / 16)=143 from rfl]
        repeat' split
        all_goals first | rfl | (exfalso;omega)
       rw [hr]
       clear hr hX hT
       go_enter Tryz.func189,Tryz.ntmps189
       go_wp2_with fail
       go_quiet (fail)
       go_wp2_with fail
       go_ret
       exact ⟨rfl,bdrew (below_alloc w _) _⟩
      ·have g1:decide ((x1.toNat:Int)<128)=false:=by simp;omega
       by_cases h2:143<x1.toNat
       ·have g2:decide ((143:Int)<(x1.toNat:Int))=true:=by simp;omega
        have hr:fullN s.size x0.toNat x1.toNat x2.toNat=true:=by
         unfold fullN
         rw [hX,show accLo (68 / 16)=128 from rfl,show accHi (68 / 16)=143 from rfl]
         repeat' split
         all_goals first | rfl | (exfalso;omega)
        rw [hr]
        clear hr hX hT
        go_enter Tryz.func189,Tryz.ntmps189
        go_wp2_with fail
        go_quiet (fail)
        go_wp2_with fail
        go_ret
        exact ⟨rfl,bdrew (below_alloc w _) _⟩
       ·have g2:decide ((143:Int)<(x1.toNat:Int))=false:=by simp;omega
        by_cases h3:x2.toNat<128
        ·have g3:decide ((x2.toNat:Int)<128)=true:=by simp;omega
         have hr:fullN s.size x0.toNat x1.toNat x2.toNat=true:=by
          unfold fullN
          rw [hX,show accLo (68 / 16)=128 from rfl,show accHi (68 / 16)=143 from rfl]
          repeat' split
          all_goals first | rfl | (exfalso;omega)
         rw [hr]
         clear hr hX hT
         go_enter Tryz.func189,Tryz.ntmps189
         go_wp2_with fail
         go_quiet (fail)
         go_wp2_with fail
         go_ret
         exact ⟨rfl,bdrew (below_alloc w _) _⟩
        ·have g3:decide ((x2.toNat:Int)<128)=false:=by simp;omega
         by_cases h4:191<x2.toNat
         ·have g4:decide ((191:Int)<(x2.toNat:Int))=true:=by simp;omega
          have hr:fullN s.size x0.toNat x1.toNat x2.toNat=true:=by
           unfold fullN
           rw [hX,show accLo (68 / 16)=128 from rfl,show accHi (68 / 16)=143 from rfl]
           repeat' split
           all_goals first | rfl | (exfalso;omega)
          rw [hr]
          clear hr hX hT
          go_enter Tryz.func189,Tryz.ntmps189
          go_wp2_with fail
          go_quiet (fail)
          go_wp2_with fail
          go_ret
          exact ⟨rfl,bdrew (below_alloc w _) _⟩
         ·have g4:decide ((191:Int)<(x2.toNat:Int))=false:=by simp;omega
          have hr:fullN s.size x0.toNat x1.toNat x2.toNat=false:=by
           unfold fullN
           rw [hX,show accLo (68 / 16)=128 from rfl,show accHi (68 / 16)=143 from rfl]
           repeat' split
           all_goals first | rfl | (exfalso;omega)
          rw [hr]
          clear hr hX hT
          go_enter Tryz.func189,Tryz.ntmps189
          go_wp2_with fail
          go_quiet (fail)
          go_wp2_with fail
          go_ret
          exact ⟨rfl,bdrew (below_alloc w _) _⟩
-- END full_any
end Go.Proofs.YtodagkkjfipbgaaGreatDoor
