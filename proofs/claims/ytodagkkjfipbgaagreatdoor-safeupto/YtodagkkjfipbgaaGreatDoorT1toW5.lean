import Derived.Test.YtodagkkjfipbgaaGreatDoorV7lone
namespace Go.Proofs.YtodagkkjfipbgaaGreatDoor
open Go.RowKit Go.Maps Go.Lib
def ByAt (w:World) (b o:Nat) (s:ByteArray):Prop:=∀ j,j<s.size→w.cell? ⟨b,o+j,none⟩=some (.int .u8 ((s.get! j).toNat:Nat))
theorem cell_ltT {w:World} {b o:Nat} {v:Value} (h:w.cell? ⟨b,o,none⟩=some v):b<w.heap.size:=by
 unfold World.cell? at h
 cases hh:w.heap[b]? with
 | none=>rw [hh] at h;simp at h
 | some x=>exact (Array.getElem?_eq_some_iff.1 hh).1
theorem ByAt.below {w w':World} {b o:Nat} {s:ByteArray} (h:ByAt w b o s) (hb:Below w.heap.size w w'):ByAt w' b o s:=fun j hj=>(hb.cell (p:=⟨b,o+j,none⟩) (cell_ltT (h j hj))).trans (h j hj)
theorem len_zero_any (w:World) (ao:Option Addr) (cap:Nat):Calls Tryz.prog 200 #[.slice ao 0 cap] w fun r w'=>r=.returned (.bool false)∧Below w.heap.size w w':=by
 go_enter Tryz.func200,Tryz.ntmps200
 go_wp2_with fail
 go_ret
 exact ⟨rfl,Below.refl _ _⟩
set_option maxHeartbeats 4000000 in
set_option maxRecDepth 1000000 in
theorem fullB_any (s:ByteArray) (w:World) (b o cap:Nat) (hT:Utf8Tabs 2 3 w) (hB:ByAt w b o s) (hn0:1≤s.size) (hlen:s.size≤1500000) :
  Calls Tryz.prog 200 #[.slice (some ⟨b,o,none⟩) s.size cap] w fun r w'=>r=.returned (.bool (fullS s))∧Below w.heap.size w w':=by
 have h0:¬ s.size=0:=by omega
 unfold fullS
 rw [if_neg h0]
 have hz0:(0:Int)<(s.size:Int):=by omega
 have hbl:b<w.heap.size:=cell_ltT (hB 0 hn0)
 obtain ⟨x0,hx0⟩:∃ x0,s.get! 0=x0:=⟨_,rfl⟩
 obtain ⟨x1,hx1⟩:∃ x1,s.get! 1=x1:=⟨_,rfl⟩
 obtain ⟨x2,hx2⟩:∃ x2,s.get! 2=x2:=⟨_,rfl⟩
 have hs0:w.cell? ⟨b,o,none⟩=some (.int .u8 (x0.toNat:Nat)):=by rw [← hx0];exact hB 0 hn0
 have hs1:∀ h:1<s.size,∀ ob,(w.alloc ob).cell? ⟨b,o+1,none⟩=some (.int .u8 (x1.toNat:Nat)):=fun h ob=>by rw [← hx1];exact ((below_alloc w ob).cell (p:=⟨b,o+1,none⟩) hbl).trans (hB 1 h)
 have hs2:∀ h:2<s.size,∀ ob,(w.alloc ob).cell? ⟨b,o+2,none⟩=some (.int .u8 (x2.toNat:Nat)):=fun h ob=>by rw [← hx2];exact ((below_alloc w ob).cell (p:=⟨b,o+2,none⟩) hbl).trans (hB 2 h)
 rw [hx0,hx1,hx2]
 have l0:=x0.toNat_lt
 have l1:=x1.toNat_lt
 have l2:=x2.toNat_lt
 have hc0:=hT.1 x0.toNat (by omega)
 generalize hsz:s.size=n at *
 clear hB hx0 hx1 hx2 hsz hbl
 rcases firstT_cases x0.toNat with hX | hX | hX | hX | hX | hX | hX | hX | hX
 ·rw [show fullN n x0.toNat x1.toNat x2.toNat=true from by unfold fullN;rw [hX,if_pos (by omega)]]
  rw [hX] at hc0
  clear hT hX hs1 hs2
  go_enter Tryz.func200,Tryz.ntmps200
  go_wp2_with fail
  go_ret
  exact ⟨rfl,Below.refl _ _⟩
 ·rw [show fullN n x0.toNat x1.toNat x2.toNat=true from by unfold fullN;rw [hX,if_pos (by omega)]]
  rw [hX] at hc0
  clear hT hX hs1 hs2
  go_enter Tryz.func200,Tryz.ntmps200
  go_wp2_with fail
  go_ret
  exact ⟨rfl,Below.refl _ _⟩
 ·rw [hX] at hc0
  have ha0:w.cell? ⟨3,0,none⟩=some (.int .u8 128):=(hT.2 0 (by omega)).1
  have ha1:w.cell? ⟨3,1,none⟩=some (.int .u8 191):=(hT.2 0 (by omega)).2
  by_cases hn:2≤n
  ·clear hs1 hs2
   have hr:fullN n x0.toNat x1.toNat x2.toNat=true:=by
    unfold fullN
    rw [hX,show accLo (2 / 16)=128 from rfl,show accHi (2 / 16)=191 from rfl]
    repeat' split
    all_goals first | rfl | (exfalso;omega)
   rw [hr]
   clear hr hX hT
   go_enter Tryz.func200,Tryz.ntmps200
   go_wp2_with fail
   go_ret
   exact ⟨rfl,Below.refl _ _⟩
  ·have hn1:n=1:=by omega
   clear hs1 hs2
   have hr:fullN n x0.toNat x1.toNat x2.toNat=false:=by
    unfold fullN
    rw [hX,show accLo (2 / 16)=128 from rfl,show accHi (2 / 16)=191 from rfl]
    repeat' split
    all_goals first | rfl | (exfalso;omega)
   rw [hr]
   clear hr hX hT
   go_enter Tryz.func200,Tryz.ntmps200
   go_wp2_with fail
   go_quiet (fail)
   go_wp2_with fail
   go_ret
   exact ⟨rfl,bdrew (below_alloc w _) _⟩
 ·rw [hX] at hc0
  have ha0:w.cell? ⟨3,2,none⟩=some (.int .u8 160):=(hT.2 1 (by omega)).1
  have ha1:w.cell? ⟨3,3,none⟩=some (.int .u8 191):=(hT.2 1 (by omega)).2
  by_cases hn:3≤n
  ·clear hs1 hs2
   have hr:fullN n x0.toNat x1.toNat x2.toNat=true:=by
    unfold fullN
    rw [hX,show accLo (19 / 16)=160 from rfl,show accHi (19 / 16)=191 from rfl]
    repeat' split
    all_goals first | rfl | (exfalso;omega)
   rw [hr]
   clear hr hX hT
   go_enter Tryz.func200,Tryz.ntmps200
   go_wp2_with fail
   go_ret
   exact ⟨rfl,Below.refl _ _⟩
  ·by_cases hm1:n=1
   ·have hn1:n=1:=by omega
    clear hs1 hs2
    have hr:fullN n x0.toNat x1.toNat x2.toNat=false:=by
     unfold fullN
     rw [hX,show accLo (19 / 16)=160 from rfl,show accHi (19 / 16)=191 from rfl]
     repeat' split
     all_goals first | rfl | (exfalso;omega)
    rw [hr]
    clear hr hX hT
    go_enter Tryz.func200,Tryz.ntmps200
    go_wp2_with fail
    go_quiet (fail)
    go_wp2_with fail
    go_ret
    exact ⟨rfl,bdrew (below_alloc w _) _⟩
   ·have hn1:n=2:=by omega
    have q1:=hs1 (by omega)
    clear hs1 hs2
    by_cases h1:x1.toNat<160
    ·have g1:decide ((x1.toNat:Int)<160)=true:=by simp;omega
     have hr:fullN n x0.toNat x1.toNat x2.toNat=true:=by
      unfold fullN
      rw [hX,show accLo (19 / 16)=160 from rfl,show accHi (19 / 16)=191 from rfl]
      repeat' split
      all_goals first | rfl | (exfalso;omega)
     rw [hr]
     clear hr hX hT
     go_enter Tryz.func200,Tryz.ntmps200
     go_wp2_with fail
     go_quiet (fail)
     go_wp2_with fail
     go_ret
     exact ⟨rfl,bdrew (below_alloc w _) _⟩
    ·have g1:decide ((x1.toNat:Int)<160)=false:=by simp;omega
     by_cases h2:191<x1.toNat
     ·have g2:decide ((191:Int)<(x1.toNat:Int))=true:=by simp;omega
      have hr:fullN n x0.toNat x1.toNat x2.toNat=true:=by
       unfold fullN
       rw [hX,show accLo (19 / 16)=160 from rfl,show accHi (19 / 16)=191 from rfl]
       repeat' split
       all_goals first | rfl | (exfalso;omega)
      rw [hr]
      clear hr hX hT
      go_enter Tryz.func200,Tryz.ntmps200
      go_wp2_with fail
      go_quiet (fail)
      go_wp2_with fail
      go_ret
      exact ⟨rfl,bdrew (below_alloc w _) _⟩
     ·have g2:decide ((191:Int)<(x1.toNat:Int))=false:=by simp;omega
      have hr:fullN n x0.toNat x1.toNat x2.toNat=false:=by
       unfold fullN
       rw [hX,show accLo (19 / 16)=160 from rfl,show accHi (19 / 16)=191 from rfl]
       repeat' split
       all_goals first | rfl | (exfalso;omega)
      rw [hr]
      clear hr hX hT
      go_enter Tryz.func200,Tryz.ntmps200
      go_wp2_with fail
      go_quiet (fail)
      go_wp2_with fail
      go_ret
      exact ⟨rfl,bdrew (below_alloc w _) _⟩
 ·rw [hX] at hc0
  have ha0:w.cell? ⟨3,0,none⟩=some (.int .u8 128):=(hT.2 0 (by omega)).1
  have ha1:w.cell? ⟨3,1,none⟩=some (.int .u8 191):=(hT.2 0 (by omega)).2
  by_cases hn:3≤n
  ·clear hs1 hs2
   have hr:fullN n x0.toNat x1.toNat x2.toNat=true:=by
    unfold fullN
    rw [hX,show accLo (3 / 16)=128 from rfl,show accHi (3 / 16)=191 from rfl]
    repeat' split
    all_goals first | rfl | (exfalso;omega)
   rw [hr]
   clear hr hX hT
   go_enter Tryz.func200,Tryz.ntmps200
   go_wp2_with fail
   go_ret
   exact ⟨rfl,Below.refl _ _⟩
  ·by_cases hm1:n=1
   ·have hn1:n=1:=by omega
    clear hs1 hs2
    have hr:fullN n x0.toNat x1.toNat x2.toNat=false:=by
     unfold fullN
     rw [hX,show accLo (3 / 16)=128 from rfl,show accHi (3 / 16)=191 from rfl]
     repeat' split
     all_goals first | rfl | (exfalso;omega)
    rw [hr]
    clear hr hX hT
    go_enter Tryz.func200,Tryz.ntmps200
    go_wp2_with fail
    go_quiet (fail)
    go_wp2_with fail
    go_ret
    exact ⟨rfl,bdrew (below_alloc w _) _⟩
   ·have hn1:n=2:=by omega
    have q1:=hs1 (by omega)
    clear hs1 hs2
    by_cases h1:x1.toNat<128
    ·have g1:decide ((x1.toNat:Int)<128)=true:=by simp;omega
     have hr:fullN n x0.toNat x1.toNat x2.toNat=true:=by
      unfold fullN
      rw [hX,show accLo (3 / 16)=128 from rfl,show accHi (3 / 16)=191 from rfl]
      repeat' split
      all_goals first | rfl | (exfalso;omega)
     rw [hr]
     clear hr hX hT
     go_enter Tryz.func200,Tryz.ntmps200
     go_wp2_with fail
     go_quiet (fail)
     go_wp2_with fail
     go_ret
     exact ⟨rfl,bdrew (below_alloc w _) _⟩
    ·have g1:decide ((x1.toNat:Int)<128)=false:=by simp;omega
     by_cases h2:191<x1.toNat
     ·have g2:decide ((191:Int)<(x1.toNat:Int))=true:=by simp;omega
      have hr:fullN n x0.toNat x1.toNat x2.toNat=true:=by
       unfold fullN
       rw [hX,show accLo (3 / 16)=128 from rfl,show accHi (3 / 16)=191 from rfl]
       repeat' split
       all_goals first | rfl | (exfalso;omega)
      rw [hr]
      clear hr hX hT
      go_enter Tryz.func200,Tryz.ntmps200
      go_wp2_with fail
      go_quiet (fail)
      go_wp2_with fail
      go_ret
      exact ⟨rfl,bdrew (below_alloc w _) _⟩
     ·have g2:decide ((191:Int)<(x1.toNat:Int))=false:=by simp;omega
      have hr:fullN n x0.toNat x1.toNat x2.toNat=false:=by
       unfold fullN
       rw [hX,show accLo (3 / 16)=128 from rfl,show accHi (3 / 16)=191 from rfl]
       repeat' split
       all_goals first | rfl | (exfalso;omega)
      rw [hr]
      clear hr hX hT
      go_enter Tryz.func200,Tryz.ntmps200
      go_wp2_with fail
      go_quiet (fail)
      go_wp2_with fail
      go_ret
      exact ⟨rfl,bdrew (below_alloc w _) _⟩
 ·rw [hX] at hc0
  have ha0:w.cell? ⟨3,4,none⟩=some (.int .u8 128):=(hT.2 2 (by omega)).1
  have ha1:w.cell? ⟨3,5,none⟩=some (.int .u8 159):=(hT.2 2 (by omega)).2
  by_cases hn:3≤n
  ·clear hs1 hs2
   have hr:fullN n x0.toNat x1.toNat x2.toNat=true:=by
    unfold fullN
    rw [hX,show accLo (35 / 16)=128 from rfl,show accHi (35 / 16)=159 from rfl]
    repeat' split
    all_goals first | rfl | (exfalso;omega)
   rw [hr]
   clear hr hX hT
   go_enter Tryz.func200,Tryz.ntmps200
   go_wp2_with fail
   go_ret
   exact ⟨rfl,Below.refl _ _⟩
  ·by_cases hm1:n=1
   ·have hn1:n=1:=by omega
    clear hs1 hs2
    have hr:fullN n x0.toNat x1.toNat x2.toNat=false:=by
     unfold fullN
     rw [hX,show accLo (35 / 16)=128 from rfl,show accHi (35 / 16)=159 from rfl]
     repeat' split
     all_goals first | rfl | (exfalso;omega)
    rw [hr]
    clear hr hX hT
    go_enter Tryz.func200,Tryz.ntmps200
    go_wp2_with fail
    go_quiet (fail)
    go_wp2_with fail
    go_ret
    exact ⟨rfl,bdrew (below_alloc w _) _⟩
   ·have hn1:n=2:=by omega
    have q1:=hs1 (by omega)
    clear hs1 hs2
    by_cases h1:x1.toNat<128
    ·have g1:decide ((x1.toNat:Int)<128)=true:=by simp;omega
     have hr:fullN n x0.toNat x1.toNat x2.toNat=true:=by
      unfold fullN
      rw [hX,show accLo (35 / 16)=128 from rfl,show accHi (35 / 16)=159 from rfl]
      repeat' split
      all_goals first | rfl | (exfalso;omega)
     rw [hr]
     clear hr hX hT
     go_enter Tryz.func200,Tryz.ntmps200
     go_wp2_with fail
     go_quiet (fail)
     go_wp2_with fail
     go_ret
     exact ⟨rfl,bdrew (below_alloc w _) _⟩
    ·have g1:decide ((x1.toNat:Int)<128)=false:=by simp;omega
     by_cases h2:159<x1.toNat
     ·have g2:decide ((159:Int)<(x1.toNat:Int))=true:=by simp;omega
      have hr:fullN n x0.toNat x1.toNat x2.toNat=true:=by
       unfold fullN
       rw [hX,show accLo (35 / 16)=128 from rfl,show accHi (35 / 16)=159 from rfl]
       repeat' split
       all_goals first | rfl | (exfalso;omega)
      rw [hr]
      clear hr hX hT
      go_enter Tryz.func200,Tryz.ntmps200
      go_wp2_with fail
      go_quiet (fail)
      go_wp2_with fail
      go_ret
      exact ⟨rfl,bdrew (below_alloc w _) _⟩
     ·have g2:decide ((159:Int)<(x1.toNat:Int))=false:=by simp;omega
      have hr:fullN n x0.toNat x1.toNat x2.toNat=false:=by
       unfold fullN
       rw [hX,show accLo (35 / 16)=128 from rfl,show accHi (35 / 16)=159 from rfl]
       repeat' split
       all_goals first | rfl | (exfalso;omega)
      rw [hr]
      clear hr hX hT
      go_enter Tryz.func200,Tryz.ntmps200
      go_wp2_with fail
      go_quiet (fail)
      go_wp2_with fail
      go_ret
      exact ⟨rfl,bdrew (below_alloc w _) _⟩
 ·rw [hX] at hc0
  have ha0:w.cell? ⟨3,6,none⟩=some (.int .u8 144):=(hT.2 3 (by omega)).1
  have ha1:w.cell? ⟨3,7,none⟩=some (.int .u8 191):=(hT.2 3 (by omega)).2
  by_cases hn:4≤n
  ·clear hs1 hs2
   have hr:fullN n x0.toNat x1.toNat x2.toNat=true:=by
    unfold fullN
    rw [hX,show accLo (52 / 16)=144 from rfl,show accHi (52 / 16)=191 from rfl]
    repeat' split
    all_goals first | rfl | (exfalso;omega)
   rw [hr]
   clear hr hX hT
   go_enter Tryz.func200,Tryz.ntmps200
   go_wp2_with fail
   go_ret
   exact ⟨rfl,Below.refl _ _⟩
  ·by_cases hm1:n=1
   ·have hn1:n=1:=by omega
    clear hs1 hs2
    have hr:fullN n x0.toNat x1.toNat x2.toNat=false:=by
     unfold fullN
     rw [hX,show accLo (52 / 16)=144 from rfl,show accHi (52 / 16)=191 from rfl]
     repeat' split
     all_goals first | rfl | (exfalso;omega)
    rw [hr]
    clear hr hX hT
    go_enter Tryz.func200,Tryz.ntmps200
    go_wp2_with fail
    go_quiet (fail)
    go_wp2_with fail
    go_ret
    exact ⟨rfl,bdrew (below_alloc w _) _⟩
   ·by_cases hm2:n=2
    ·have hn1:n=2:=by omega
     have q1:=hs1 (by omega)
     clear hs1 hs2
     by_cases h1:x1.toNat<144
     ·have g1:decide ((x1.toNat:Int)<144)=true:=by simp;omega
      have hr:fullN n x0.toNat x1.toNat x2.toNat=true:=by
       unfold fullN
       rw [hX,show accLo (52 / 16)=144 from rfl,show accHi (52 / 16)=191 from rfl]
       repeat' split
       all_goals first | rfl | (exfalso;omega)
      rw [hr]
      clear hr hX hT
      go_enter Tryz.func200,Tryz.ntmps200
      go_wp2_with fail
      go_quiet (fail)
      go_wp2_with fail
      go_ret
      exact ⟨rfl,bdrew (below_alloc w _) _⟩
     ·have g1:decide ((x1.toNat:Int)<144)=false:=by simp;omega
      by_cases h2:191<x1.toNat
      ·have g2:decide ((191:Int)<(x1.toNat:Int))=true:=by simp;omega
       have hr:fullN n x0.toNat x1.toNat x2.toNat=true:=by
        unfold fullN
        rw [hX,show accLo (52 / 16)=144 from rfl,show accHi (52 / 16)=191 from rfl]
        repeat' split
        all_goals first | rfl | (exfalso;omega)
       rw [hr]
       clear hr hX hT
       go_enter Tryz.func200,Tryz.ntmps200
       go_wp2_with fail
       go_quiet (fail)
       go_wp2_with fail
       go_ret
       exact ⟨rfl,bdrew (below_alloc w _) _⟩
      ·have g2:decide ((191:Int)<(x1.toNat:Int))=false:=by simp;omega
       have hr:fullN n x0.toNat x1.toNat x2.toNat=false:=by
        unfold fullN
        rw [hX,show accLo (52 / 16)=144 from rfl,show accHi (52 / 16)=191 from rfl]
        repeat' split
        all_goals first | rfl | (exfalso;omega)
       rw [hr]
       clear hr hX hT
       go_enter Tryz.func200,Tryz.ntmps200
       go_wp2_with fail
       go_quiet (fail)
       go_wp2_with fail
       go_ret
       exact ⟨rfl,bdrew (below_alloc w _) _⟩
    ·have hn1:n=3:=by omega
     have q1:=hs1 (by omega)
     have q2:=hs2 (by omega)
     clear hs1 hs2
     by_cases h1:x1.toNat<144
     ·have g1:decide ((x1.toNat:Int)<144)=true:=by simp;omega
      have hr:fullN n x0.toNat x1.toNat x2.toNat=true:=by
       unfold fullN
       rw [hX,show accLo (52 / 16)=144 from rfl,show accHi (52 / 16)=191 from rfl]
       repeat' split
       all_goals first | rfl | (exfalso;omega)
      rw [hr]
      clear hr hX hT
      go_enter Tryz.func200,Tryz.ntmps200
      go_wp2_with fail
      go_quiet (fail)
      go_wp2_with fail
      go_ret
      exact ⟨rfl,bdrew (below_alloc w _) _⟩
     ·have g1:decide ((x1.toNat:Int)<144)=false:=by simp;omega
      by_cases h2:191<x1.toNat
      ·have g2:decide ((191:Int)<(x1.toNat:Int))=true:=by simp;omega
       have hr:fullN n x0.toNat x1.toNat x2.toNat=true:=by
        unfold fullN
        rw [hX,show accLo (52 / 16)=144 from rfl,show accHi (52 / 16)=191 from rfl]
        repeat' split
        all_goals first | rfl | (exfalso;omega)
       rw [hr]
       clear hr hX hT
       go_enter Tryz.func200,Tryz.ntmps200
       go_wp2_with fail
       go_quiet (fail)
       go_wp2_with fail
       go_ret
       exact ⟨rfl,bdrew (below_alloc w _) _⟩
      ·have g2:decide ((191:Int)<(x1.toNat:Int))=false:=by simp;omega
       by_cases h3:x2.toNat<128
       ·have g3:decide ((x2.toNat:Int)<128)=true:=by simp;omega
        have hr:fullN n x0.toNat x1.toNat x2.toNat=true:=by
         unfold fullN
         rw [hX,show accLo (52 / 16)=144 from rfl,show accHi (52 / 16)=191 from rfl]
         repeat' split
         all_goals first | rfl | (exfalso;omega)
        rw [hr]
        clear hr hX hT
        go_enter Tryz.func200,Tryz.ntmps200
        go_wp2_with fail
        go_quiet (fail)
        go_wp2_with fail
        go_ret
        exact ⟨rfl,bdrew (below_alloc w _) _⟩
       ·have g3:decide ((x2.toNat:Int)<128)=false:=by simp;omega
        by_cases h4:191<x2.toNat
        ·have g4:decide ((191:Int)<(x2.toNat:Int))=true:=by simp;omega
         have hr:fullN n x0.toNat x1.toNat x2.toNat=true:=by
          unfold fullN
          rw [hX,show accLo (52 / 16)=144 from rfl,show accHi (52 / 16)=191 from rfl]
          repeat' split
          all_goals first | rfl | (exfalso;omega)
         rw [hr]
         clear hr hX hT
         go_enter Tryz.func200,Tryz.ntmps200
         go_wp2_with fail
         go_quiet (fail)
         go_wp2_with fail
         go_ret
         exact ⟨rfl,bdrew (below_alloc w _) _⟩
        ·have g4:decide ((191:Int)<(x2.toNat:Int))=false:=by simp;omega
         have hr:fullN n x0.toNat x1.toNat x2.toNat=false:=by
          unfold fullN
          rw [hX,show accLo (52 / 16)=144 from rfl,show accHi (52 / 16)=191 from rfl]
          repeat' split
          all_goals first | rfl | (exfalso;omega)
         rw [hr]
         clear hr hX hT
         go_enter Tryz.func200,Tryz.ntmps200
         go_wp2_with fail
         go_quiet (fail)
         go_wp2_with fail
         go_ret
         exact ⟨rfl,bdrew (below_alloc w _) _⟩
 ·rw [hX] at hc0
  have ha0:w.cell? ⟨3,0,none⟩=some (.int .u8 128):=(hT.2 0 (by omega)).1
  have ha1:w.cell? ⟨3,1,none⟩=some (.int .u8 191):=(hT.2 0 (by omega)).2
  by_cases hn:4≤n
  ·clear hs1 hs2
   have hr:fullN n x0.toNat x1.toNat x2.toNat=true:=by
    unfold fullN
    rw [hX,show accLo (4 / 16)=128 from rfl,show accHi (4 / 16)=191 from rfl]
    repeat' split
    all_goals first | rfl | (exfalso;omega)
   rw [hr]
   clear hr hX hT
   go_enter Tryz.func200,Tryz.ntmps200
   go_wp2_with fail
   go_ret
   exact ⟨rfl,Below.refl _ _⟩
  ·by_cases hm1:n=1
   ·have hn1:n=1:=by omega
    clear hs1 hs2
    have hr:fullN n x0.toNat x1.toNat x2.toNat=false:=by
     unfold fullN
     rw [hX,show accLo (4 / 16)=128 from rfl,show accHi (4 / 16)=191 from rfl]
     repeat' split
     all_goals first | rfl | (exfalso;omega)
    rw [hr]
    clear hr hX hT
    go_enter Tryz.func200,Tryz.ntmps200
    go_wp2_with fail
    go_quiet (fail)
    go_wp2_with fail
    go_ret
    exact ⟨rfl,bdrew (below_alloc w _) _⟩
   ·by_cases hm2:n=2
    ·have hn1:n=2:=by omega
     have q1:=hs1 (by omega)
     clear hs1 hs2
     by_cases h1:x1.toNat<128
     ·have g1:decide ((x1.toNat:Int)<128)=true:=by simp;omega
      have hr:fullN n x0.toNat x1.toNat x2.toNat=true:=by
       unfold fullN
       rw [hX,show accLo (4 / 16)=128 from rfl,show accHi (4 / 16)=191 from rfl]
       repeat' split
       all_goals first | rfl | (exfalso;omega)
      rw [hr]
      clear hr hX hT
      go_enter Tryz.func200,Tryz.ntmps200
      go_wp2_with fail
      go_quiet (fail)
      go_wp2_with fail
      go_ret
      exact ⟨rfl,bdrew (below_alloc w _) _⟩
     ·have g1:decide ((x1.toNat:Int)<128)=false:=by simp;omega
      by_cases h2:191<x1.toNat
      ·have g2:decide ((191:Int)<(x1.toNat:Int))=true:=by simp;omega
       have hr:fullN n x0.toNat x1.toNat x2.toNat=true:=by
        unfold fullN
        rw [hX,show accLo (4 / 16)=128 from rfl,show accHi (4 / 16)=191 from rfl]
        repeat' split
        all_goals first | rfl | (exfalso;omega)
       rw [hr]
       clear hr hX hT
       go_enter Tryz.func200,Tryz.ntmps200
       go_wp2_with fail
       go_quiet (fail)
       go_wp2_with fail
       go_ret
       exact ⟨rfl,bdrew (below_alloc w _) _⟩
      ·have g2:decide ((191:Int)<(x1.toNat:Int))=false:=by simp;omega
       have hr:fullN n x0.toNat x1.toNat x2.toNat=false:=by
        unfold fullN
        rw [hX,show accLo (4 / 16)=128 from rfl,show accHi (4 / 16)=191 from rfl]
        repeat' split
        all_goals first | rfl | (exfalso;omega)
       rw [hr]
       clear hr hX hT
       go_enter Tryz.func200,Tryz.ntmps200
       go_wp2_with fail
       go_quiet (fail)
       go_wp2_with fail
       go_ret
       exact ⟨rfl,bdrew (below_alloc w _) _⟩
    ·have hn1:n=3:=by omega
     have q1:=hs1 (by omega)
     have q2:=hs2 (by omega)
     clear hs1 hs2
     by_cases h1:x1.toNat<128
     ·have g1:decide ((x1.toNat:Int)<128)=true:=by simp;omega
      have hr:fullN n x0.toNat x1.toNat x2.toNat=true:=by
       unfold fullN
       rw [hX,show accLo (4 / 16)=128 from rfl,show accHi (4 / 16)=191 from rfl]
       repeat' split
       all_goals first | rfl | (exfalso;omega)
      rw [hr]
      clear hr hX hT
      go_enter Tryz.func200,Tryz.ntmps200
      go_wp2_with fail
      go_quiet (fail)
      go_wp2_with fail
      go_ret
      exact ⟨rfl,bdrew (below_alloc w _) _⟩
     ·have g1:decide ((x1.toNat:Int)<128)=false:=by simp;omega
      by_cases h2:191<x1.toNat
      ·have g2:decide ((191:Int)<(x1.toNat:Int))=true:=by simp;omega
       have hr:fullN n x0.toNat x1.toNat x2.toNat=true:=by
        unfold fullN
        rw [hX,show accLo (4 / 16)=128 from rfl,show accHi (4 / 16)=191 from rfl]
        repeat' split
        all_goals first | rfl | (exfalso;omega)
       rw [hr]
       clear hr hX hT
       go_enter Tryz.func200,Tryz.ntmps200
       go_wp2_with fail
       go_quiet (fail)
       go_wp2_with fail
       go_ret
       exact ⟨rfl,bdrew (below_alloc w _) _⟩
      ·have g2:decide ((191:Int)<(x1.toNat:Int))=false:=by simp;omega
       by_cases h3:x2.toNat<128
       ·have g3:decide ((x2.toNat:Int)<128)=true:=by simp;omega
        have hr:fullN n x0.toNat x1.toNat x2.toNat=true:=by
         unfold fullN
         rw [hX,show accLo (4 / 16)=128 from rfl,show accHi (4 / 16)=191 from rfl]
         repeat' split
         all_goals first | rfl | (exfalso;omega)
        rw [hr]
        clear hr hX hT
        go_enter Tryz.func200,Tryz.ntmps200
        go_wp2_with fail
        go_quiet (fail)
        go_wp2_with fail
        go_ret
        exact ⟨rfl,bdrew (below_alloc w _) _⟩
       ·have g3:decide ((x2.toNat:Int)<128)=false:=by simp;omega
        by_cases h4:191<x2.toNat
        ·have g4:decide ((191:Int)<(x2.toNat:Int))=true:=by simp;omega
         have hr:fullN n x0.toNat x1.toNat x2.toNat=true:=by
          unfold fullN
          rw [hX,show accLo (4 / 16)=128 from rfl,show accHi (4 / 16)=191 from rfl]
          repeat' split
          all_goals first | rfl | (exfalso;omega)
         rw [hr]
         clear hr hX hT
         go_enter Tryz.func200,Tryz.ntmps200
         go_wp2_with fail
         go_quiet (fail)
         go_wp2_with fail
         go_ret
         exact ⟨rfl,bdrew (below_alloc w _) _⟩
        ·have g4:decide ((191:Int)<(x2.toNat:Int))=false:=by simp;omega
         have hr:fullN n x0.toNat x1.toNat x2.toNat=false:=by
          unfold fullN
          rw [hX,show accLo (4 / 16)=128 from rfl,show accHi (4 / 16)=191 from rfl]
          repeat' split
          all_goals first | rfl | (exfalso;omega)
         rw [hr]
         clear hr hX hT
         go_enter Tryz.func200,Tryz.ntmps200
         go_wp2_with fail
         go_quiet (fail)
         go_wp2_with fail
         go_ret
         exact ⟨rfl,bdrew (below_alloc w _) _⟩
 ·rw [hX] at hc0
  have ha0:w.cell? ⟨3,8,none⟩=some (.int .u8 128):=(hT.2 4 (by omega)).1
  have ha1:w.cell? ⟨3,9,none⟩=some (.int .u8 143):=(hT.2 4 (by omega)).2
  by_cases hn:4≤n
  ·clear hs1 hs2
   have hr:fullN n x0.toNat x1.toNat x2.toNat=true:=by
    unfold fullN
    rw [hX,show accLo (68 / 16)=128 from rfl,show accHi (68 / 16)=143 from rfl]
    repeat' split
    all_goals first | rfl | (exfalso;omega)
   rw [hr]
   clear hr hX hT
   go_enter Tryz.func200,Tryz.ntmps200
   go_wp2_with fail
   go_ret
   exact ⟨rfl,Below.refl _ _⟩
  ·by_cases hm1:n=1
   ·have hn1:n=1:=by omega
    clear hs1 hs2
    have hr:fullN n x0.toNat x1.toNat x2.toNat=false:=by
     unfold fullN
     rw [hX,show accLo (68 / 16)=128 from rfl,show accHi (68 / 16)=143 from rfl]
     repeat' split
     all_goals first | rfl | (exfalso;omega)
    rw [hr]
    clear hr hX hT
    go_enter Tryz.func200,Tryz.ntmps200
    go_wp2_with fail
    go_quiet (fail)
    go_wp2_with fail
    go_ret
    exact ⟨rfl,bdrew (below_alloc w _) _⟩
   ·by_cases hm2:n=2
    ·have hn1:n=2:=by omega
     have q1:=hs1 (by omega)
     clear hs1 hs2
     by_cases h1:x1.toNat<128
     ·have g1:decide ((x1.toNat:Int)<128)=true:=by simp;omega
      have hr:fullN n x0.toNat x1.toNat x2.toNat=true:=by
       unfold fullN
       rw [hX,show accLo (68 / 16)=128 from rfl,show accHi (68 / 16)=143 from rfl]
       repeat' split
       all_goals first | rfl | (exfalso;omega)
      rw [hr]
      clear hr hX hT
      go_enter Tryz.func200,Tryz.ntmps200
      go_wp2_with fail
      go_quiet (fail)
      go_wp2_with fail
      go_ret
      exact ⟨rfl,bdrew (below_alloc w _) _⟩
     ·have g1:decide ((x1.toNat:Int)<128)=false:=by simp;omega
      by_cases h2:143<x1.toNat
      ·have g2:decide ((143:Int)<(x1.toNat:Int))=true:=by simp;omega
       have hr:fullN n x0.toNat x1.toNat x2.toNat=true:=by
        unfold fullN
        rw [hX,show accLo (68 / 16)=128 from rfl,show accHi (68 / 16)=143 from rfl]
        repeat' split
        all_goals first | rfl | (exfalso;omega)
       rw [hr]
       clear hr hX hT
       go_enter Tryz.func200,Tryz.ntmps200
       go_wp2_with fail
       go_quiet (fail)
       go_wp2_with fail
       go_ret
       exact ⟨rfl,bdrew (below_alloc w _) _⟩
      ·have g2:decide ((143:Int)<(x1.toNat:Int))=false:=by simp;omega
       have hr:fullN n x0.toNat x1.toNat x2.toNat=false:=by
        unfold fullN
        rw [hX,show accLo (68 / 16)=128 from rfl,show accHi (68 / 16)=143 from rfl]
        repeat' split
        all_goals first | rfl | (exfalso;omega)
       rw [hr]
       clear hr hX hT
       go_enter Tryz.func200,Tryz.ntmps200
       go_wp2_with fail
       go_quiet (fail)
       go_wp2_with fail
       go_ret
       exact ⟨rfl,bdrew (below_alloc w _) _⟩
    ·have hn1:n=3:=by omega
     have q1:=hs1 (by omega)
     have q2:=hs2 (by omega)
     clear hs1 hs2
     by_cases h1:x1.toNat<128
     ·have g1:decide ((x1.toNat:Int)<128)=true:=by simp;omega
      have hr:fullN n x0.toNat x1.toNat x2.toNat=true:=by
       unfold fullN
       rw [hX,show accLo (68 / 16)=128 from rfl,show accHi (68 / 16)=143 from rfl]
       repeat' split
       all_goals first | rfl | (exfalso;omega)
      rw [hr]
      clear hr hX hT
      go_enter Tryz.func200,Tryz.ntmps200
      go_wp2_with fail
      go_quiet (fail)
      go_wp2_with fail
      go_ret
      exact ⟨rfl,bdrew (below_alloc w _) _⟩
     ·have g1:decide ((x1.toNat:Int)<128)=false:=by simp;omega
      by_cases h2:143<x1.toNat
      ·have g2:decide ((143:Int)<(x1.toNat:Int))=true:=by simp;omega
       have hr:fullN n x0.toNat x1.toNat x2.toNat=true:=by
        unfold fullN
        rw [hX,show accLo (68 / 16)=128 from rfl,show accHi (68 / 16)=143 from rfl]
        repeat' split
        all_goals first | rfl | (exfalso;omega)
       rw [hr]
       clear hr hX hT
       go_enter Tryz.func200,Tryz.ntmps200
       go_wp2_with fail
       go_quiet (fail)
       go_wp2_with fail
       go_ret
       exact ⟨rfl,bdrew (below_alloc w _) _⟩
      ·have g2:decide ((143:Int)<(x1.toNat:Int))=false:=by simp;omega
       by_cases h3:x2.toNat<128
       ·have g3:decide ((x2.toNat:Int)<128)=true:=by simp;omega
        have hr:fullN n x0.toNat x1.toNat x2.toNat=true:=by
         unfold fullN
         rw [hX,show accLo (68 / 16)=128 from rfl,show accHi (68 / 16)=143 from rfl]
         repeat' split
         all_goals first | rfl | (exfalso;omega)
        rw [hr]
        clear hr hX hT
        go_enter Tryz.func200,Tryz.ntmps200
        go_wp2_with fail
        go_quiet (fail)
        go_wp2_with fail
        go_ret
        exact ⟨rfl,bdrew (below_alloc w _) _⟩
       ·have g3:decide ((x2.toNat:Int)<128)=false:=by simp;omega
        by_cases h4:191<x2.toNat
        ·have g4:decide ((191:Int)<(x2.toNat:Int))=true:=by simp;omega
         have hr:fullN n x0.toNat x1.toNat x2.toNat=true:=by
          unfold fullN
          rw [hX,show accLo (68 / 16)=128 from rfl,show accHi (68 / 16)=143 from rfl]
          repeat' split
          all_goals first | rfl | (exfalso;omega)
         rw [hr]
         clear hr hX hT
         go_enter Tryz.func200,Tryz.ntmps200
         go_wp2_with fail
         go_quiet (fail)
         go_wp2_with fail
         go_ret
         exact ⟨rfl,bdrew (below_alloc w _) _⟩
        ·have g4:decide ((191:Int)<(x2.toNat:Int))=false:=by simp;omega
         have hr:fullN n x0.toNat x1.toNat x2.toNat=false:=by
          unfold fullN
          rw [hX,show accLo (68 / 16)=128 from rfl,show accHi (68 / 16)=143 from rfl]
          repeat' split
          all_goals first | rfl | (exfalso;omega)
         rw [hr]
         clear hr hX hT
         go_enter Tryz.func200,Tryz.ntmps200
         go_wp2_with fail
         go_quiet (fail)
         go_wp2_with fail
         go_ret
         exact ⟨rfl,bdrew (below_alloc w _) _⟩
end Go.Proofs.YtodagkkjfipbgaaGreatDoor
namespace Go.Proofs.YtodagkkjfipbgaaGreatDoor
open Go.RowKit
def Blk (w:World) (b:Nat) (T:ByteArray) (s:RS) (vN vS vL:Value):Prop :=
 w.heap[b]?=some (.cells (rcell T s.at_ s.err s.place vN vS vL s.atoms s.nest) 35 (0,0))
theorem take_snoc (s:ByteArray) (k:Nat) (h:k<s.size):s.toList.take (k+1)=s.toList.take k++[s[k]]:=by
 rw [ByteArray.toList_eq,List.take_succ_eq_append_getElem (by simpa using h)];rfl
theorem toList_length (s:ByteArray):s.toList.length=s.size:=by rw [ByteArray.toList_eq];rfl
theorem dig_bd (c:Nat) (d:Int) (h:RS.dig c=some d):0≤d∧d≤15:=by
 unfold RS.dig at h
 split at h
 ·simp at h;omega
 ·split at h
  ·simp at h;omega
  ·split at h
   ·simp at h;omega
   ·simp at h
theorem hexN_snoc (l:List UInt8) (c:UInt8):RS.hexN (l++[c])=match RS.dig c.toNat with | some d=>16 * RS.hexN l+d | none=>RS.hexN l:=by
 unfold RS.hexN;rw [List.foldl_append];rfl
theorem hexN_bd (k:Nat):∀ l:List UInt8,l.length≤k→0≤RS.hexN l∧RS.hexN l<16 ^ k:=by
 induction k with
 | zero=>intro l h
         have e:l=[]:=List.eq_nil_of_length_eq_zero (by omega)
         subst e;simp [RS.hexN]
 | succ k ih =>
  intro l h
  by_cases hl:l=[]
  ·subst hl;simp [RS.hexN];exact Int.pow_pos (by omega)
  ·obtain ⟨m,c,rfl⟩:∃ m c,l=m++[c]:=⟨l.dropLast,l.getLast hl,(List.dropLast_concat_getLast hl).symm⟩
   have:=ih m (by simp at h;omega)
   rw [hexN_snoc]
   cases hd:RS.dig c.toNat with
   | none=>simp only;rw [Int.pow_succ];omega
   | some d=>have:=dig_bd _ _ hd;simp only;rw [Int.pow_succ];omega
theorem hexOk_snoc (l:List UInt8) (c:UInt8):RS.hexOk (l++[c])=(RS.hexOk l && (RS.dig c.toNat).isSome):=by
 unfold RS.hexOk;simp
def hexAt (s:RS) (p:Int) (l:List UInt8):RS:=if RS.hexOk l=true then s else s.fail 2 p
end Go.Proofs.YtodagkkjfipbgaaGreatDoor
