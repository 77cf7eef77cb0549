import Derived.Test.YtodagkkjfipbgaaGreatDoorA15toA18
import Derived.Test.YtodagkkjfipbgaaGreatDoorV8toV10
namespace Go.Proofs.YtodagkkjfipbgaaGreatDoor
open Go.RowKit
def leadN (c:Nat):Nat:=if c<128 then 1 else if 194≤c∧c<224 then 2 else if 224≤c∧c<240 then 3 else if 240≤c∧c<245 then 4 else 0
def okB (c j b:Nat):Prop:=128≤b∧b<192∧(j=1→¬ (c=224∧b<160)∧¬ (c=237∧160≤b)∧¬ (c=240∧b<144)∧¬ (c=244∧144≤b))
def byteN (s:ByteArray) (j:Nat):Nat:=(s.get! j).toNat
theorem byteN_at (s:ByteArray) (j:Nat) (h:j<s.size):byteN s j=s[j].toNat:=by
 unfold byteN
 rw [show s.get! j=s[j] from by simp [ByteArray.get!,ByteArray.getElem_eq_getElem_data,h]]
structure Fol (s:ByteArray) (k n:Nat):Prop where
 lead:n=leadN (byteN s 0)
 none_:n=0→k=0
 pos:0<n→1≤k∧k≤n∧k≤s.size
 okay:∀ j,1≤j→j<k→okB (byteN s 0) j (byteN s j)
 stop:0<n→k<n→k<s.size→¬ okB (byteN s 0) k (byteN s k)
theorem lead_cases (c:Nat) (hc:c<256):(c<128∧leadN c=1)∨(194≤c∧c<224∧leadN c=2)∨(224≤c∧c<240∧leadN c=3)∨(240≤c∧c<245∧leadN c=4)∨(128≤c∧c<194∧leadN c=0)∨(245≤c∧leadN c=0):=by
 unfold leadN
 (repeat' split) <;> omega
set_option maxHeartbeats 8000000 in
set_option maxRecDepth 10000 in
theorem follow_any (s:ByteArray) (w:World) (h1:1≤s.size) (h2:s.size≤2000000) :
  Calls Tryz.prog 103 #[.string s] w fun e w'=>∃ k n:Nat,e=.returned (.tuple #[.int .i64 k,.int .i64 n])∧Fol s k n∧w'=w:=by
 have hs0:0<s.size:=h1
 have HC:Hid ((s[0]'hs0).toNat=byteN s 0):=(byteN_at s 0 hs0).symm
 have hc256:(s[0]'hs0).toNat<256:=s[0].toNat_lt
 by_cases hz:leadN (s[0]'hs0).toNat=0
 ·have HZ:Hid (leadN (s[0]'hs0).toNat=0):=hz
  have hlow:(s[0]'hs0).toNat<194∧128≤(s[0]'hs0).toNat∨245≤(s[0]'hs0).toNat:=by rcases lead_cases _ hc256 with h | h | h | h | h | h <;> omega
  have hfin:Hid (Fol s 0 0):=⟨by rw [← HC.out,HZ.out],fun _=>rfl,fun h=>by omega,fun j _ h=>by omega,fun h=>by omega⟩
  clear hz
  rcases hlow with ⟨q1,q2⟩ | q1
  all_goals
   go_enter Tryz.func103,Tryz.ntmps103
   go_wp2_with fail
   go_ret2
   exact ⟨0,0,rfl,hfin.out,rfl⟩
 ·obtain ⟨n,hn⟩:∃ n,n=leadN (s[0]'hs0).toNat:=⟨_,rfl⟩
  have HN:Hid (n=leadN (s[0]'hs0).toNat):=hn
  have hn4:1≤n∧n≤4:=by rw [hn];rcases lead_cases _ hc256 with h | h | h | h | h | h <;> omega
  obtain ⟨hn1,hn4⟩:=hn4
  have hcl:((s[0]'hs0).toNat<128∧n=1)∨(194≤(s[0]'hs0).toNat∧(s[0]'hs0).toNat<224∧n=2)∨(224≤(s[0]'hs0).toNat∧(s[0]'hs0).toNat<240∧n=3)∨(240≤(s[0]'hs0).toNat∧(s[0]'hs0).toNat<245∧n=4):=by rw [hn];rcases lead_cases _ hc256 with h | h | h | h | h | h <;> omega
  clear hz hn
  go_enter Tryz.func103,Tryz.ntmps103
  go_upto_block 0 with fail
  go_cut [5] from 10 to 33 (fun nv wx=>nv=.int .i64 n∧wx=w)
  case first =>
   rcases hcl with ⟨q1,rfl⟩ | ⟨q1,q2,rfl⟩ | ⟨q1,q2,rfl⟩ | ⟨q1,q2,rfl⟩
   all_goals
    go_wp2_with fail
    go_meet
    exact ⟨rfl,rfl⟩
  case rest =>
   obtain ⟨rfl,rfl⟩:=hcut
   clear hcl
   go_wp2_with fail
   go_loopg [6] 3 (fun gg kv wr=>∃ k:Nat,1≤k∧k≤n∧k≤s.size∧gg=4 - k∧kv=.int .i64 k∧(∀ j,1≤j→j<k→okB (byteN s 0) j (byteN s j))∧wr=wc)
   case atStart=>exact ⟨1,by omega,by omega,by omega,rfl,rfl,fun j _ _=>by omega,rfl⟩
   case round =>
    obtain ⟨k,hk1,hkn,hks,rfl,rfl,hok,rfl⟩:=hrel
    have HOK:Hid (∀ j,1≤j→j<k→okB (byteN s 0) j (byteN s j)):=hok
    clear hok
    by_cases hkn2:k<n
    ·by_cases hks2:k<s.size
     ·have HB:Hid ((s[k]'hks2).toNat=byteN s k):=(byteN_at s k hks2).symm
      have hb256:(s[k]'hks2).toNat<256:=s[k].toNat_lt
      by_cases p1:128≤(s[k]'hks2).toNat
      ·have e1:decide ((128:Int)≤((s[k]'hks2).toNat:Int))=true:=by simp;omega
       by_cases p2:(s[k]'hks2).toNat<192
       ·have e2:decide (((s[k]'hks2).toNat:Int)<192)=true:=by simp;omega
        by_cases hk1':k=1
        ·subst hk1'
         by_cases c0:(s[0]'hs0).toNat=224
         ·have f0:(((s[0]'hs0).toNat:Int) == 224)=true:=by simp;omega
          have g237:(((s[0]'hs0).toNat:Int) == 237)=false:=by rw [beq_eq_false_iff_ne];omega
          have g240:(((s[0]'hs0).toNat:Int) == 240)=false:=by rw [beq_eq_false_iff_ne];omega
          have g244:(((s[0]'hs0).toNat:Int) == 244)=false:=by rw [beq_eq_false_iff_ne];omega
          by_cases t0:(s[1]'hks2).toNat<160
          ·have u0:decide (((s[1]'hks2).toNat:Int)<160)=true:=by simp;omega
           have hfin:Hid (Fol s 1 n):=⟨by rw [HN.out,← HC.out],fun h=>by omega,fun _=>⟨hk1,hkn,hks⟩,HOK.out,fun _ _ _ hh=>by
            rw [← HB.out,← HC.out] at hh
            obtain ⟨z1,z2,z3⟩:=hh
            first | omega | (have z4:=z3 (by omega);omega)⟩
           clear c0
           go_wp2_with fail
           go_ret2
           exact ⟨1,n,rfl,hfin.out,rfl⟩
          ·have u0:decide (((s[1]'hks2).toNat:Int)<160)=false:=by simp;omega
           have HQ:Hid (∀ j,1≤j→j<1+1→okB (byteN s 0) j (byteN s j)):=by
            intro j j1 j2
            by_cases e:j=1
            ·rw [e,← HB.out,← HC.out];exact ⟨by omega,by omega,fun _=>⟨by omega,by omega,by omega,by omega⟩⟩
            ·exact HOK.out j j1 (by omega)
           clear c0
           go_wp2_with fail
           go_roundg (4 - (1+1))
           case measure=>omega
           case rel=>exact ⟨1+1,by omega,by omega,by omega,rfl,by go_num,HQ.out,rfl⟩
         ·by_cases c1:(s[0]'hs0).toNat=237
          ·have f1:(((s[0]'hs0).toNat:Int) == 237)=true:=by simp;omega
           have g224:(((s[0]'hs0).toNat:Int) == 224)=false:=by rw [beq_eq_false_iff_ne];omega
           have g240:(((s[0]'hs0).toNat:Int) == 240)=false:=by rw [beq_eq_false_iff_ne];omega
           have g244:(((s[0]'hs0).toNat:Int) == 244)=false:=by rw [beq_eq_false_iff_ne];omega
           by_cases t1:160≤(s[1]'hks2).toNat
           ·have u1:decide ((160:Int)≤((s[1]'hks2).toNat:Int))=true:=by simp;omega
            have hfin:Hid (Fol s 1 n):=⟨by rw [HN.out,← HC.out],fun h=>by omega,fun _=>⟨hk1,hkn,hks⟩,HOK.out,fun _ _ _ hh=>by
             rw [← HB.out,← HC.out] at hh
             obtain ⟨z1,z2,z3⟩:=hh
             first | omega | (have z4:=z3 (by omega);omega)⟩
            clear c1
            go_wp2_with fail
            go_ret2
            exact ⟨1,n,rfl,hfin.out,rfl⟩
           ·have u1:decide ((160:Int)≤((s[1]'hks2).toNat:Int))=false:=by simp;omega
            have HQ:Hid (∀ j,1≤j→j<1+1→okB (byteN s 0) j (byteN s j)):=by
             intro j j1 j2
             by_cases e:j=1
             ·rw [e,← HB.out,← HC.out];exact ⟨by omega,by omega,fun _=>⟨by omega,by omega,by omega,by omega⟩⟩
             ·exact HOK.out j j1 (by omega)
            clear c1
            go_wp2_with fail
            go_roundg (4 - (1+1))
            case measure=>omega
            case rel=>exact ⟨1+1,by omega,by omega,by omega,rfl,by go_num,HQ.out,rfl⟩
          ·by_cases c2:(s[0]'hs0).toNat=240
           ·have f2:(((s[0]'hs0).toNat:Int) == 240)=true:=by simp;omega
            have g224:(((s[0]'hs0).toNat:Int) == 224)=false:=by rw [beq_eq_false_iff_ne];omega
            have g237:(((s[0]'hs0).toNat:Int) == 237)=false:=by rw [beq_eq_false_iff_ne];omega
            have g244:(((s[0]'hs0).toNat:Int) == 244)=false:=by rw [beq_eq_false_iff_ne];omega
            by_cases t2:(s[1]'hks2).toNat<144
            ·have u2:decide (((s[1]'hks2).toNat:Int)<144)=true:=by simp;omega
             have hfin:Hid (Fol s 1 n):=⟨by rw [HN.out,← HC.out],fun h=>by omega,fun _=>⟨hk1,hkn,hks⟩,HOK.out,fun _ _ _ hh=>by
              rw [← HB.out,← HC.out] at hh
              obtain ⟨z1,z2,z3⟩:=hh
              first | omega | (have z4:=z3 (by omega);omega)⟩
             clear c2
             go_wp2_with fail
             go_ret2
             exact ⟨1,n,rfl,hfin.out,rfl⟩
            ·have u2:decide (((s[1]'hks2).toNat:Int)<144)=false:=by simp;omega
             have HQ:Hid (∀ j,1≤j→j<1+1→okB (byteN s 0) j (byteN s j)):=by
              intro j j1 j2
              by_cases e:j=1
              ·rw [e,← HB.out,← HC.out];exact ⟨by omega,by omega,fun _=>⟨by omega,by omega,by omega,by omega⟩⟩
              ·exact HOK.out j j1 (by omega)
             clear c2
             go_wp2_with fail
             go_roundg (4 - (1+1))
             case measure=>omega
             case rel=>exact ⟨1+1,by omega,by omega,by omega,rfl,by go_num,HQ.out,rfl⟩
           ·by_cases c3:(s[0]'hs0).toNat=244
            ·have f3:(((s[0]'hs0).toNat:Int) == 244)=true:=by simp;omega
             have g224:(((s[0]'hs0).toNat:Int) == 224)=false:=by rw [beq_eq_false_iff_ne];omega
             have g237:(((s[0]'hs0).toNat:Int) == 237)=false:=by rw [beq_eq_false_iff_ne];omega
             have g240:(((s[0]'hs0).toNat:Int) == 240)=false:=by rw [beq_eq_false_iff_ne];omega
             by_cases t3:144≤(s[1]'hks2).toNat
             ·have u3:decide ((144:Int)≤((s[1]'hks2).toNat:Int))=true:=by simp;omega
              have hfin:Hid (Fol s 1 n):=⟨by rw [HN.out,← HC.out],fun h=>by omega,fun _=>⟨hk1,hkn,hks⟩,HOK.out,fun _ _ _ hh=>by
               rw [← HB.out,← HC.out] at hh
               obtain ⟨z1,z2,z3⟩:=hh
               first | omega | (have z4:=z3 (by omega);omega)⟩
              clear c3
              go_wp2_with fail
              go_ret2
              exact ⟨1,n,rfl,hfin.out,rfl⟩
             ·have u3:decide ((144:Int)≤((s[1]'hks2).toNat:Int))=false:=by simp;omega
              have HQ:Hid (∀ j,1≤j→j<1+1→okB (byteN s 0) j (byteN s j)):=by
               intro j j1 j2
               by_cases e:j=1
               ·rw [e,← HB.out,← HC.out];exact ⟨by omega,by omega,fun _=>⟨by omega,by omega,by omega,by omega⟩⟩
               ·exact HOK.out j j1 (by omega)
              clear c3
              go_wp2_with fail
              go_roundg (4 - (1+1))
              case measure=>omega
              case rel=>exact ⟨1+1,by omega,by omega,by omega,rfl,by go_num,HQ.out,rfl⟩
            ·have g224:(((s[0]'hs0).toNat:Int) == 224)=false:=by rw [beq_eq_false_iff_ne];omega
             have g237:(((s[0]'hs0).toNat:Int) == 237)=false:=by rw [beq_eq_false_iff_ne];omega
             have g240:(((s[0]'hs0).toNat:Int) == 240)=false:=by rw [beq_eq_false_iff_ne];omega
             have g244:(((s[0]'hs0).toNat:Int) == 244)=false:=by rw [beq_eq_false_iff_ne];omega
             have HQ:Hid (∀ j,1≤j→j<1+1→okB (byteN s 0) j (byteN s j)):=by
              intro j j1 j2
              by_cases e:j=1
              ·rw [e,← HB.out,← HC.out];exact ⟨by omega,by omega,fun _=>⟨by omega,by omega,by omega,by omega⟩⟩
              ·exact HOK.out j j1 (by omega)
             go_wp2_with fail
             go_roundg (4 - (1+1))
             case measure=>omega
             case rel=>exact ⟨1+1,by omega,by omega,by omega,rfl,by go_num,HQ.out,rfl⟩
        ·have e3:((k:Int) == 1)=false:=by rw [beq_eq_false_iff_ne];omega
         have HQ:Hid (∀ j,1≤j→j<k+1→okB (byteN s 0) j (byteN s j)):=by
          intro j j1 j2
          by_cases e:j=k
          ·rw [e,← HB.out,← HC.out];exact ⟨by omega,by omega,fun _=>⟨by omega,by omega,by omega,by omega⟩⟩
          ·exact HOK.out j j1 (by omega)
         go_wp2_with fail
         go_roundg (4 - (k+1))
         case measure=>omega
         case rel=>exact ⟨k+1,by omega,by omega,by omega,rfl,by go_num,HQ.out,rfl⟩
       ·have e2:decide (((s[k]'hks2).toNat:Int)<192)=false:=by simp;omega
        by_cases hk1':k=1
        ·subst hk1'
         have hfin:Hid (Fol s 1 n):=⟨by rw [HN.out,← HC.out],fun h=>by omega,fun _=>⟨hk1,hkn,hks⟩,HOK.out,fun _ _ _ hh=>by
          rw [← HB.out,← HC.out] at hh
          obtain ⟨z1,z2,z3⟩:=hh
          first | omega | (have z4:=z3 (by omega);omega)⟩
         go_wp2_with fail
         go_ret2
         exact ⟨1,n,rfl,hfin.out,rfl⟩
        ·have e3:((k:Int) == 1)=false:=by rw [beq_eq_false_iff_ne];omega
         have hfin:Hid (Fol s k n):=⟨by rw [HN.out,← HC.out],fun h=>by omega,fun _=>⟨hk1,hkn,hks⟩,HOK.out,fun _ _ _ hh=>by
          rw [← HB.out,← HC.out] at hh
          obtain ⟨z1,z2,z3⟩:=hh
          first | omega | (have z4:=z3 (by omega);omega)⟩
         go_wp2_with fail
         go_ret2
         exact ⟨k,n,rfl,hfin.out,rfl⟩
      ·have e1:decide ((128:Int)≤((s[k]'hks2).toNat:Int))=false:=by simp;omega
       by_cases hk1':k=1
       ·subst hk1'
        have hfin:Hid (Fol s 1 n):=⟨by rw [HN.out,← HC.out],fun h=>by omega,fun _=>⟨hk1,hkn,hks⟩,HOK.out,fun _ _ _ hh=>by
         rw [← HB.out,← HC.out] at hh
         obtain ⟨z1,z2,z3⟩:=hh
         first | omega | (have z4:=z3 (by omega);omega)⟩
        go_wp2_with fail
        go_ret2
        exact ⟨1,n,rfl,hfin.out,rfl⟩
       ·have e3:((k:Int) == 1)=false:=by rw [beq_eq_false_iff_ne];omega
        have hfin:Hid (Fol s k n):=⟨by rw [HN.out,← HC.out],fun h=>by omega,fun _=>⟨hk1,hkn,hks⟩,HOK.out,fun _ _ _ hh=>by
         rw [← HB.out,← HC.out] at hh
         obtain ⟨z1,z2,z3⟩:=hh
         first | omega | (have z4:=z3 (by omega);omega)⟩
        go_wp2_with fail
        go_ret2
        exact ⟨k,n,rfl,hfin.out,rfl⟩
     ·have hfin:Hid (Fol s k n):=⟨by rw [HN.out,← HC.out],fun h=>by omega,fun _=>⟨hk1,hkn,hks⟩,HOK.out,fun _ _ h=>absurd h hks2⟩
      go_wp2_with fail
      go_ret2
      exact ⟨k,n,rfl,hfin.out,rfl⟩
    ·have hfin:Hid (Fol s k n):=⟨by rw [HN.out,← HC.out],fun h=>by omega,fun _=>⟨hk1,hkn,hks⟩,HOK.out,fun _ h=>absurd h hkn2⟩
     go_wp2_with fail
     go_ret2
     exact ⟨k,n,rfl,hfin.out,rfl⟩
def headN (n:Nat):Int:=if n=2 then 192 else if n=3 then 224 else if n=4 then 240 else 0
def pnt (s:ByteArray):Nat→Int
 | 0=>(byteN s 0:Int) - headN s.size
 | j+1=>64 * pnt s j+(byteN s (j+1):Int) - 128
theorem byteN_lt (s:ByteArray) (j:Nat):byteN s j<256:=(s.get! j).toNat_lt
theorem pnt_bd (s:ByteArray):∀ j,j≤3→-2000000000≤pnt s j∧pnt s j≤2000000000:=by
 have h0:-300≤pnt s 0∧pnt s 0≤300:=by
  have:=byteN_lt s 0
  unfold pnt headN;(repeat' split) <;> omega
 have h1:-20000≤pnt s 1∧pnt s 1≤20000:=by have:=byteN_lt s 1;show _≤64 * pnt s 0+(byteN s 1:Int) - 128∧64 * pnt s 0+(byteN s 1:Int) - 128≤_;omega
 have h2:-2000000≤pnt s 2∧pnt s 2≤2000000:=by have:=byteN_lt s 2;show _≤64 * pnt s 1+(byteN s 2:Int) - 128∧64 * pnt s 1+(byteN s 2:Int) - 128≤_;omega
 have h3:-2000000000≤pnt s 3∧pnt s 3≤2000000000:=by have:=byteN_lt s 3;show _≤64 * pnt s 2+(byteN s 3:Int) - 128∧64 * pnt s 2+(byteN s 3:Int) - 128≤_;omega
 intro j hj
 match j,hj with
 | 0,_=>omega
 | 1,_=>omega
 | 2,_=>omega
 | 3,_=>exact h3
def pointI (s:ByteArray):Int:=if s.size=1 then (byteN s 0:Int) else pnt s (s.size - 1)
set_option maxHeartbeats 4000000 in
theorem point_any (s:ByteArray) (w:World) (h1:1≤s.size) (h4:s.size≤4) :
  Calls Tryz.prog 104 #[.string s] w fun e w'=>e=.returned (.int .i64 (pointI s))∧Below w.heap.size w w':=by
 have hs0:0<s.size:=h1
 have HC:Hid ((s[0]'hs0).toNat=byteN s 0):=(byteN_at s 0 hs0).symm
 have hc256:(s[0]'hs0).toNat<256:=s[0].toNat_lt
 by_cases hone:s.size=1
 ·have HP:Hid (pointI s=((s[0]'hs0).toNat:Int)):=by show pointI s=_;unfold pointI;rw [if_pos hone,← HC.out]
  have e1:((s.size:Int) == 1)=true:=by simp;omega
  clear hone
  go_enter Tryz.func104,Tryz.ntmps104
  go_wp2_with fail
  go_ret
  exact ⟨by rw [HP.out];rfl,Below.refl _ _⟩
 ·have HP:Hid (pointI s=pnt s (s.size - 1)):=by show pointI s=_;unfold pointI;rw [if_neg hone]
  have e1:((s.size:Int) == 1)=false:=by rw [beq_eq_false_iff_ne];omega
  have h2:2≤s.size:=by omega
  have hh:Hid (headN s.size=192∨headN s.size=224∨headN s.size=240):=by
   show _∨_∨_
   unfold headN;(repeat' split) <;> omega
  clear hone
  go_enter Tryz.func104,Tryz.ntmps104
  go_upto_region 4 with fail
  go_cut [4] from 13 to 21 (fun nv wx=>nv=.int .i64 (pnt s 0)∧Below w.heap.size w wx)
  case first =>
   obtain ⟨W,hW⟩:∃ W,W=w.alloc (.cells #[.int .i64 0,.int .i64 0,.int .i64 192,.int .i64 224,.int .i64 240] 3):=⟨_,rfl⟩
   have hcell:W.cell? ⟨w.heap.size,s.size,none⟩=some (.int .i64 (headN s.size)):=by
    have hblk:W.heap[w.heap.size]?=some (.cells #[.int .i64 0,.int .i64 0,.int .i64 192,.int .i64 224,.int .i64 240] 3 (0,0)):=by rw [hW];exact heap_alloc_new _ _
    have:s.size=2∨s.size=3∨s.size=4:=by omega
    rcases this with e | e | e <;> rw [e] <;> exact cell_of_block hblk _ _ rfl
   have HBW:Hid (Below w.heap.size w W):=by show Below _ _ _;rw [hW];exact (Below.refl _ _).alloc (Nat.le_refl _) _
   have HP0:Hid (pnt s 0=((s[0]'hs0).toNat:Int) - headN s.size):=by show pnt s 0=_;rw [HC.out];rfl
   have hhb:headN s.size≤240∧192≤headN s.size:=by rcases hh.out with e | e | e <;> rw [e] <;> omega
   obtain ⟨hhb1,hhb2⟩:=hhb
   rw [← hW]
   clear hW
   generalize headN s.size=hd at *
   go_region
   all_goals go_wp2_with fail
   all_goals go_meet
   all_goals exact ⟨by rw [HP0.out],HBW.out.drew⟩
  case rest =>
   obtain ⟨rfl,hb1⟩:=hcut
   obtain ⟨w1,hw1⟩:∃ w1,w1=wc:=⟨wc,rfl⟩
   subst hw1
   go_wp2_with fail
   go_loopg [4,5] 3 (fun gg nv jv wr=>∃ j:Nat,1≤j∧j≤s.size∧gg=4 - j∧jv=.int .i64 j∧nv=.int .i64 (pnt s (j - 1))∧Below w.heap.size w wr)
   case atStart=>exact ⟨1,by omega,by omega,rfl,rfl,rfl,hb1⟩
   case round =>
    obtain ⟨j,hj1,hjs,rfl,rfl,rfl,hbr⟩:=hrel
    by_cases hjl:j<s.size
    ·have hbj:Hid ((s[j]'hjl).toNat=byteN s j):=(byteN_at s j hjl).symm
     have hb256:(s[j]'hjl).toNat<256:=s[j].toNat_lt
     have hpb:=pnt_bd s (j - 1) (by omega)
     have HPS:Hid (pnt s j=64 * pnt s (j - 1)+((s[j]'hjl).toNat:Int) - 128):=by
      show pnt s j=_
      obtain ⟨i,rfl⟩:∃ i,j=i+1:=⟨j - 1,by omega⟩
      rw [hbj.out];rfl
     obtain ⟨q,hq⟩:∃ q,q=pnt s (j - 1):=⟨_,rfl⟩
     rw [← hq] at hpb
     have HQ:Hid (q=pnt s (j - 1)):=hq
     rw [← hq]
     clear hq
     go_wp2_with fail
     go_roundg (4 - (j+1))
     case measure=>omega
     case rel =>
      refine ⟨j+1,by omega,by omega,rfl,by go_num,?_,hbr⟩
      show _=Value.int .i64 (pnt s j)
      rw [HPS.out,← HQ.out]
    ·go_wp2_with fail
     go_ret
     refine ⟨?_,hbr⟩
     have e:j=s.size:=by omega
     rw [HP.out,← e];rfl
def RefS (w:World) (b nN:Nat) (S:List (Int × Int × Int)):Prop:=(∃ aN cN,w.cell? ⟨b,4,none⟩=some (.slice aN nN cN))∧∃ aS cS,w.cell? ⟨b,5,none⟩=some (.slice aS S.length cS)∧∀ i (hi:i<S.length),∃ g,aS=some ⟨g,0,none⟩∧w.cell? ⟨g,i * 3,none⟩=some (.int .i64 S[i].1)∧w.cell? ⟨g,i * 3+1,none⟩=some (.int .i64 S[i].2.1)∧w.cell? ⟨g,i * 3+2,none⟩=some (.int .i64 S[i].2.2)
theorem RefS.keep {w w':World} {b nN:Nat} {S:List (Int × Int × Int)} (h:RefS w b nN S) (hb:Below w.heap.size w w'):RefS w' b nN S:=by
 obtain ⟨⟨aN,cN,h1⟩,aS,cS,h2,h3⟩:=h
 refine ⟨⟨aN,cN,cell_below hb h1⟩,aS,cS,cell_below hb h2,fun i hi=>?_⟩
 obtain ⟨g,e,k0,k1,k2⟩:=h3 i hi
 exact ⟨g,e,cell_below hb k0,cell_below hb k1,cell_below hb k2⟩
def RefKind (nN:Nat) (S:List (Int × Int × Int)) (c k:Int):Prop:=(∃ o ∈ S,o.1≤c∧c≤o.2.1∧k=o.2.2)∨((∀ o ∈ S,¬ (o.1≤c∧c≤o.2.1))∧k=nN)
set_option maxHeartbeats 4000000 in
theorem refKind_any (w:World) (b nN:Nat) (S:List (Int × Int × Int)) (c:Int) (h:RefS w b nN S) (hl:S.length≤100000) :
  Calls Tryz.prog 105 #[.pointer (some ⟨b,0,none⟩),.int .i64 c] w fun e w'=>∃ k:Int,e=.returned (.int .i64 k)∧RefKind nN S c k∧w'=w:=by
 obtain ⟨⟨aN,cN,c4⟩,aS,cS,c5,hS⟩:=h
 have HS:Hid (∀ i (hi:i<S.length),∃ g,aS=some ⟨g,0,none⟩∧w.cell? ⟨g,i * 3,none⟩=some (.int .i64 S[i].1)∧w.cell? ⟨g,i * 3+1,none⟩=some (.int .i64 S[i].2.1)∧w.cell? ⟨g,i * 3+2,none⟩=some (.int .i64 S[i].2.2)):=hS
 clear hS
 go_enter Tryz.func105,Tryz.ntmps105
 go_wp2_with fail
 go_loopg [5] S.length (fun gg iv wr=>∃ i:Nat,i≤S.length∧gg=S.length - i∧iv=.int .i64 i∧(∀ o ∈ S.take i,¬ (o.1≤c∧c≤o.2.1))∧wr=w)
 case atStart=>exact ⟨0,by omega,rfl,rfl,by simp,rfl⟩
 case round =>
  obtain ⟨i,hi,rfl,rfl,hno,rfl⟩:=hrel
  have HNO:Hid (∀ o ∈ S.take i,¬ (o.1≤c∧c≤o.2.1)):=hno
  clear hno
  by_cases hil:i<S.length
  ·obtain ⟨g,rfl,k0,k1,k2⟩:=HS.out i hil
   have HSN:Hid (S.take (i+1)=S.take i++[S[i]]):=List.take_succ_eq_append_getElem hil
   have HIN:Hid (S[i] ∈ S):=List.getElem_mem hil
   obtain ⟨o,ho⟩:∃ o,o=S[i]:=⟨_,rfl⟩
   rw [← ho] at k0 k1 k2 HSN HIN
   clear ho
   by_cases p1:o.1≤c
   ·have e1:decide (o.1≤c)=true:=by simp;omega
    by_cases p2:c≤o.2.1
    ·have e2:decide (c≤o.2.1)=true:=by simp;omega
     go_wp2_with fail
     go_ret
     exact ⟨_,rfl,Or.inl ⟨o,HIN.out,p1,p2,rfl⟩,rfl⟩
    ·have e2:decide (c≤o.2.1)=false:=by simp;omega
     have HNO2:Hid (∀ o ∈ S.take (i+1),¬ (o.1≤c∧c≤o.2.1)):=by
      intro x hx
      rw [HSN.out] at hx
      rcases List.mem_append.1 hx with k | k
      ·exact HNO.out x k
      ·simp at k;subst k;omega
     go_wp2_with fail
     go_roundg (S.length - (i+1))
     case measure=>omega
     case rel=>exact ⟨i+1,by omega,rfl,by go_num,HNO2.out,rfl⟩
   ·have e1:decide (o.1≤c)=false:=by simp;omega
    have HNO2:Hid (∀ o ∈ S.take (i+1),¬ (o.1≤c∧c≤o.2.1)):=by
     intro x hx
     rw [HSN.out] at hx
     rcases List.mem_append.1 hx with k | k
     ·exact HNO.out x k
     ·simp at k;subst k;omega
    go_wp2_with fail
    go_roundg (S.length - (i+1))
    case measure=>omega
    case rel=>exact ⟨i+1,by omega,rfl,by go_num,HNO2.out,rfl⟩
  ·go_wp2_with fail
   go_ret
   refine ⟨_,rfl,Or.inr ⟨?_,rfl⟩,rfl⟩
   have:=HNO.out
   rw [List.take_of_length_le (by omega)] at this
   exact this
open Go.Maps Go.Lib
inductive RefChars (nN:Nat) (S:List (Int × Int × Int)) (s:ByteArray):Nat→List (Int × Nat)→Prop where
 | nil:RefChars nN S s 0 []
 | good {p n:Nat} {cs:List (Int × Nat)} {c:Int} (h:RefChars nN S s p cs) (hp:p<s.size) (hf:Fol (s.extract p s.size) n n) (hn:0<n) (hk:RefKind nN S (pointI (s.extract p (p+n))) c):RefChars nN S s (p+n) (cs++[(c,p+n)])
 | bad {p k n:Nat} {cs:List (Int × Nat)} (h:RefChars nN S s p cs) (hp:p<s.size) (hf:Fol (s.extract p s.size) k n) (hn:¬ (k=n∧0<n)):RefChars nN S s (p+max k 1) (cs++[((nN:Int)+1,p+max k 1)])
def chCells (cs:List (Int × Nat)):List Value:=cs.flatMap fun x=>[.int .i64 x.1,.int .i64 (x.2:Nat)]
theorem chCells_snoc (cs:List (Int × Nat)) (x:Int × Nat):chCells (cs++[x])=chCells cs++[.int .i64 x.1,.int .i64 (x.2:Nat)]:=by simp [chCells]
theorem Fol.le {s:ByteArray} {k n:Nat} (h:Fol s k n) (h1:1≤s.size):k≤s.size∧n≤4∧k≤4:=by
 have hn:n≤4:=by rw [h.lead];unfold leadN;(repeat' split) <;> omega
 by_cases h0:n=0
 ·have:=h.none_ h0;omega
 ·have:=h.pos (by omega);omega
theorem RefChars.ok {nN:Nat} {S:List (Int × Int × Int)} {s:ByteArray} {p:Nat} {cs:List (Int × Nat)} (h:RefChars nN S s p cs):p≤s.size∧cs.length≤p∧(∀ x ∈ cs,x.2≤p):=by
 induction h with
 | nil=>exact ⟨Nat.zero_le _,Nat.le_refl _,by simp⟩
 | @good p n cs c h hp hf hn hk ih =>
  have hz:(s.extract p s.size).size=s.size - p:=by rw [ByteArray.size_extract];omega
  have:=hf.le (by omega)
  refine ⟨by omega,by simp;omega,fun x hx=>?_⟩
  rcases List.mem_append.1 hx with k | k
  ·have:=ih.2.2 x k;omega
  ·simp at k;subst k;exact Nat.le_refl _
 | @bad p k n cs h hp hf hn ih =>
  have hz:(s.extract p s.size).size=s.size - p:=by rw [ByteArray.size_extract];omega
  have:=hf.le (by omega)
  refine ⟨by omega,by simp;omega,fun x hx=>?_⟩
  rcases List.mem_append.1 hx with k | k
  ·have:=ih.2.2 x k;omega
  ·simp at k;subst k;exact Nat.le_refl _
theorem Tryz.infoCh:(Tryz.prog.info? 115).map (fun i=>(i.zero,i.size,i.bytes))=some (some (.agg #[.int .i64 0,.int .i64 0]),2,16):=by kernel_rfl
theorem Tryz.undCh:Tryz.prog.underlying 110=some (.slice 115):=by kernel_rfl
set_option maxRecDepth 100000 in
set_option maxHeartbeats 8000000 in
theorem refChars_any (w:World) (b nN:Nat) (S:List (Int × Int × Int)) (s:ByteArray) (h:RefS w b nN S) (hl:S.length≤100000) (hN:nN≤100) (hs:s.size≤1500000) :
  Calls Tryz.prog 54 #[.pointer (some ⟨b,0,none⟩),.string s,.bool true] w fun e w'=>∃ v cs,e=.returned v∧RefChars nN S s s.size cs∧w'.ownsRow w.heap.size 115 2 v cs.length (chCells cs)∧Below w.heap.size w w':=by
 have HS:Hid (RefS w b nN S):=h
 clear h
 go_enter Tryz.func54,Tryz.ntmps54
 go_wp2_with fail
 go_loopg [7,8] s.size (fun gg ov pv wr=>∃ (p:Nat) (cs:List (Int × Nat)) (ao:Option Addr) (cap:Nat),gg=s.size - p∧pv=.int .i64 p∧ov=.slice ao cs.length cap∧Hid (RefChars nN S s p cs)∧Hid (wr.ownsRow w.heap.size 115 2 (.slice ao cs.length cap) cs.length (chCells cs))∧Hid (Below w.heap.size w wr))
 case atStart=>exact ⟨0,[],none,0,by omega,rfl,rfl,RefChars.nil,World.ownsRow_nil _ _ _ _,Below.refl _ _⟩
 case round =>
  obtain ⟨w1,hw1⟩:∃ w1,w1=wr:=⟨wr,rfl⟩
  subst hw1
  obtain ⟨p,cs,ao,cap,rfl,rfl,rfl,hR,hO,hB⟩:=hrel
  obtain ⟨hok1,hok2,hok3⟩:=hR.out.ok
  have HOK3:Hid (∀ x ∈ cs,x.2≤p):=hok3
  clear hok3
  by_cases hp:p<s.size
  ·have hz:(s.extract p s.size).size=s.size - p:=by rw [ByteArray.size_extract];omega
   have hfol:=follow_any (s.extract p s.size) w1 (by omega) (by omega)
   have HZ:Hid ((s.extract p s.size).size=s.size - p):=hz
   obtain ⟨t,ht⟩:∃ t,t=s.extract p s.size:=⟨_,rfl⟩
   rw [← ht] at hfol
   have HT:Hid (t=s.extract p s.size):=ht
   clear ht hz
   go_wp2_with fail
   rw [← HT.out]
   refine hfol.mono ?_
   rintro e w2 ⟨k,n,rfl,hF,rfl⟩
   have HF:Hid (Fol t k n):=hF
   have hle:=hF.le (by rw [HT.out,HZ.out];omega)
   rw [HT.out,HZ.out] at hle
   obtain ⟨hk1,hn4,hk4⟩:=hle
   clear hF hfol
   by_cases hgood:k=n∧0<n
   ·obtain ⟨rfl,hk0⟩:=hgood
    have hz2:(s.extract p (p+k)).size=k:=by rw [ByteArray.size_extract];omega
    have hpt:=point_any (s.extract p (p+k)) w2 (by omega) (by omega)
    obtain ⟨x,hx⟩:∃ x,x=s.extract p (p+k):=⟨_,rfl⟩
    have HX:Hid (x=s.extract p (p+k)):=hx
    rw [← hx] at hpt
    clear hz2 hx
    go_wp2_with fail
    rw [← HX.out]
    refine hpt.mono ?_
    rintro e w3 ⟨rfl,hb2⟩
    have B2:Hid (Below w.heap.size w w3):=hB.out.trans (hb2.mono hB.out.size)
    have hkd:=refKind_any w3 b nN S (pointI x) (HS.out.keep B2.out) hl
    have O2:Hid (w3.ownsRow w.heap.size 115 2 (.slice ao cs.length cap) cs.length (chCells cs)):=row_kp hO.out (Kp.below hb2)
    clear hpt hb2
    go_wp2_with fail
    refine hkd.mono ?_
    rintro e w4 ⟨c,rfl,hc,rfl⟩
    have HK:Hid (RefKind nN S (pointI x) c):=hc
    clear hc hkd
    have R1:Hid ((w4.alloc (.cells #[.int .i64 c,.int .i64 ((p:Int)+(k:Int))] 115)).ownsRow w.heap.size 115 2 (.slice ao cs.length cap) cs.length (chCells cs)):=row_kp O2.out (Kp.below (below_alloc w4 _))
    have NW:Hid (∀ (j:Nat) (u:Value),[Value.int .i64 c,.int .i64 ((p:Int)+(k:Int))][j]?=some u→(w4.alloc (.cells #[.int .i64 c,.int .i64 ((p:Int)+(k:Int))] 115)).cell? ⟨w4.heap.size,j,none⟩=some u):=fun j u hu=>cell_of_block (heap_alloc_new w4 _) j u (by simpa using hu)
    have BA:Hid (Below w.heap.size w (w4.alloc (.cells #[.int .i64 c,.int .i64 ((p:Int)+(k:Int))] 115))):=B2.out.alloc B2.out.size _
    have LA:w.heap.size≤(w4.alloc (.cells #[.int .i64 c,.int .i64 ((p:Int)+(k:Int))] 115)).heap.size:=BA.out.size
    have hadd:Hid (((p:Int)+(k:Int))=((p+k:Nat):Int)):=by show _=_;omega
    go_wp2_with (at_builtin;refine wpList_push2 rfl (.tmp 37) (.tmp 45) 110 rfl w.heap.size 115 (.agg #[.int .i64 0,.int .i64 0]) 2 16 Tryz.infoCh Tryz.undCh rfl (by decide) (.slice ao cs.length cap) cs.length (chCells cs) rfl R1.out w4.heap.size 1 [.int .i64 c,.int .i64 ((p:Int)+(k:Int))] rfl rfl NW.out (by intro u hu;simp at hu;rcases hu with rfl | rfl <;> rfl) (by omega) (by omega) LA ?_;intro v' W3 hown hgr hsn;obtain ⟨ao',cap',rfl⟩:=row_shape hown;have HR:Hid (W3.ownsRow w.heap.size 115 2 (.slice ao' (cs.length+1) cap') (cs.length+1) (chCells cs++[.int .i64 c,.int .i64 ((p:Int)+(k:Int))])):=hown;have B3:Hid (Below w.heap.size w W3):=BA.out.grown hgr LA (fun k hk=>(R1.out.lt k hk).1);clear hown hgr hsn)
    go_roundg (s.size - (p+k))
    case measure=>omega
    case rel =>
     refine ⟨p+k,cs++[(c,p+k)],ao',cap',rfl,by go_num,by rw [List.length_append];rfl,RefChars.good hR.out hp (by rw [← HT.out];exact HF.out) hk0 (by rw [← HX.out];exact HK.out),?_,B3⟩
     show W3.ownsRow _ _ _ _ _ _
     rw [List.length_append,chCells_snoc]
     have:=HR.out
     rw [hadd.out] at this
     exact this
   ·have HBD:Hid (¬ (k=n∧0<n)):=hgood
    obtain ⟨⟨aN,cN,c4⟩,_⟩:=HS.out.keep hB.out
    have hz0:n=0→k=0:=HF.out.none_
    have hz1:0<n→1≤k:=fun h=>(HF.out.pos h).1
    by_cases hn0:n=0
    ·obtain rfl:k=0:=hz0 hn0
     subst hn0
     clear hz0 hz1 hgood
     have e9:(((p:Int)) == (s.size:Int))=false:=by rw [beq_eq_false_iff_ne];omega
     have R1:Hid ((w2.alloc (.cells #[.int .i64 ((nN:Int)+1),.int .i64 ((p:Int)+1)] 115)).ownsRow w.heap.size 115 2 (.slice ao cs.length cap) cs.length (chCells cs)):=row_kp hO.out (Kp.below (below_alloc w2 _))
     have NW:Hid (∀ (j:Nat) (u:Value),[Value.int .i64 ((nN:Int)+1),.int .i64 ((p:Int)+1)][j]?=some u→(w2.alloc (.cells #[.int .i64 ((nN:Int)+1),.int .i64 ((p:Int)+1)] 115)).cell? ⟨w2.heap.size,j,none⟩=some u):=fun j u hu=>cell_of_block (heap_alloc_new w2 _) j u (by simpa using hu)
     have BA:Hid (Below w.heap.size w (w2.alloc (.cells #[.int .i64 ((nN:Int)+1),.int .i64 ((p:Int)+1)] 115))):=hB.out.alloc hB.out.size _
     have LA:w.heap.size≤(w2.alloc (.cells #[.int .i64 ((nN:Int)+1),.int .i64 ((p:Int)+1)] 115)).heap.size:=BA.out.size
     have hadd:Hid (((p:Int)+1)=((p+1:Nat):Int)):=by show _=_;omega
     have HM:Hid (max 0 1=1):=by show _=_;omega
     go_wp2_with (at_builtin;refine wpList_push2 rfl (.tmp 70) (.tmp 79) 110 rfl w.heap.size 115 (.agg #[.int .i64 0,.int .i64 0]) 2 16 Tryz.infoCh Tryz.undCh rfl (by decide) (.slice ao cs.length cap) cs.length (chCells cs) rfl R1.out w2.heap.size 1 [Value.int .i64 ((nN:Int)+1),.int .i64 ((p:Int)+1)] rfl rfl NW.out (by intro u hu;simp at hu;rcases hu with rfl | rfl <;> rfl) (by omega) (by omega) LA ?_;intro v' W3 hown hgr hsn;obtain ⟨ao',cap',rfl⟩:=row_shape hown;have HR:Hid (W3.ownsRow w.heap.size 115 2 (.slice ao' (cs.length+1) cap') (cs.length+1) (chCells cs++[Value.int .i64 ((nN:Int)+1),.int .i64 ((p:Int)+1)])):=hown;have B3:Hid (Below w.heap.size w W3):=BA.out.grown hgr LA (fun k hk=>(R1.out.lt k hk).1);clear hown hgr hsn)
     go_roundg (s.size - (p+1))
     case measure=>omega
     case rel =>
      refine ⟨p+1,cs++[((nN:Int)+1,p+1)],ao',cap',rfl,by go_num,by rw [List.length_append];rfl,?_,?_,B3⟩
      ·have:=RefChars.bad hR.out hp (k:=0) (n:=0) (by rw [← HT.out];exact HF.out) (fun h=>by omega)
       rw [HM.out] at this;exact this
      ·show W3.ownsRow _ _ _ _ _ _
       rw [List.length_append,chCells_snoc]
       have:=HR.out
       rw [hadd.out] at this
       exact this
    ·have hk1:1≤k:=hz1 (by omega)
     have e5:((k:Int) == (n:Int))=false:=by rw [beq_eq_false_iff_ne];omega
     have e11:((k:Int) == 0)=false:=by rw [beq_eq_false_iff_ne];omega
     have en:decide ((0:Int)<(n:Int))=true:=by simp;omega
     clear hz0 hz1 hgood
     by_cases hend:p+k=s.size
     ·have e9:(((p:Int)+(k:Int)) == (s.size:Int))=true:=by simp;omega
      have R1:Hid ((w2.alloc (.cells #[.int .i64 ((nN:Int)+1),.int .i64 ((p:Int)+(k:Int))] 115)).ownsRow w.heap.size 115 2 (.slice ao cs.length cap) cs.length (chCells cs)):=row_kp hO.out (Kp.below (below_alloc w2 _))
      have NW:Hid (∀ (j:Nat) (u:Value),[Value.int .i64 ((nN:Int)+1),.int .i64 ((p:Int)+(k:Int))][j]?=some u→(w2.alloc (.cells #[.int .i64 ((nN:Int)+1),.int .i64 ((p:Int)+(k:Int))] 115)).cell? ⟨w2.heap.size,j,none⟩=some u):=fun j u hu=>cell_of_block (heap_alloc_new w2 _) j u (by simpa using hu)
      have BA:Hid (Below w.heap.size w (w2.alloc (.cells #[.int .i64 ((nN:Int)+1),.int .i64 ((p:Int)+(k:Int))] 115))):=hB.out.alloc hB.out.size _
      have LA:w.heap.size≤(w2.alloc (.cells #[.int .i64 ((nN:Int)+1),.int .i64 ((p:Int)+(k:Int))] 115)).heap.size:=BA.out.size
      have hadd:Hid (((p:Int)+(k:Int))=((p+k:Nat):Int)):=by show _=_;omega
      have HM:Hid (max k 1=k):=by show _=_;omega
      go_wp2_with (at_builtin;refine wpList_push2 rfl (.tmp 70) (.tmp 79) 110 rfl w.heap.size 115 (.agg #[.int .i64 0,.int .i64 0]) 2 16 Tryz.infoCh Tryz.undCh rfl (by decide) (.slice ao cs.length cap) cs.length (chCells cs) rfl R1.out w2.heap.size 1 [Value.int .i64 ((nN:Int)+1),.int .i64 ((p:Int)+(k:Int))] rfl rfl NW.out (by intro u hu;simp at hu;rcases hu with rfl | rfl <;> rfl) (by omega) (by omega) LA ?_;intro v' W3 hown hgr hsn;obtain ⟨ao',cap',rfl⟩:=row_shape hown;have HR:Hid (W3.ownsRow w.heap.size 115 2 (.slice ao' (cs.length+1) cap') (cs.length+1) (chCells cs++[Value.int .i64 ((nN:Int)+1),.int .i64 ((p:Int)+(k:Int))])):=hown;have B3:Hid (Below w.heap.size w W3):=BA.out.grown hgr LA (fun k hk=>(R1.out.lt k hk).1);clear hown hgr hsn)
      go_roundg (s.size - (p+k))
      case measure=>omega
      case rel =>
       refine ⟨p+k,cs++[((nN:Int)+1,p+k)],ao',cap',rfl,by go_num,by rw [List.length_append];rfl,?_,?_,B3⟩
       ·have:=RefChars.bad hR.out hp (k:=k) (n:=n) (by rw [← HT.out];exact HF.out) HBD.out
        rw [HM.out] at this;exact this
       ·show W3.ownsRow _ _ _ _ _ _
        rw [List.length_append,chCells_snoc]
        have:=HR.out
        rw [hadd.out] at this
        exact this
     ·have e9:(((p:Int)+(k:Int)) == (s.size:Int))=false:=by rw [beq_eq_false_iff_ne];omega
      have R1:Hid ((w2.alloc (.cells #[.int .i64 ((nN:Int)+1),.int .i64 ((p:Int)+(k:Int))] 115)).ownsRow w.heap.size 115 2 (.slice ao cs.length cap) cs.length (chCells cs)):=row_kp hO.out (Kp.below (below_alloc w2 _))
      have NW:Hid (∀ (j:Nat) (u:Value),[Value.int .i64 ((nN:Int)+1),.int .i64 ((p:Int)+(k:Int))][j]?=some u→(w2.alloc (.cells #[.int .i64 ((nN:Int)+1),.int .i64 ((p:Int)+(k:Int))] 115)).cell? ⟨w2.heap.size,j,none⟩=some u):=fun j u hu=>cell_of_block (heap_alloc_new w2 _) j u (by simpa using hu)
      have BA:Hid (Below w.heap.size w (w2.alloc (.cells #[.int .i64 ((nN:Int)+1),.int .i64 ((p:Int)+(k:Int))] 115))):=hB.out.alloc hB.out.size _
      have LA:w.heap.size≤(w2.alloc (.cells #[.int .i64 ((nN:Int)+1),.int .i64 ((p:Int)+(k:Int))] 115)).heap.size:=BA.out.size
      have hadd:Hid (((p:Int)+(k:Int))=((p+k:Nat):Int)):=by show _=_;omega
      have HM:Hid (max k 1=k):=by show _=_;omega
      go_wp2_with (at_builtin;refine wpList_push2 rfl (.tmp 70) (.tmp 79) 110 rfl w.heap.size 115 (.agg #[.int .i64 0,.int .i64 0]) 2 16 Tryz.infoCh Tryz.undCh rfl (by decide) (.slice ao cs.length cap) cs.length (chCells cs) rfl R1.out w2.heap.size 1 [Value.int .i64 ((nN:Int)+1),.int .i64 ((p:Int)+(k:Int))] rfl rfl NW.out (by intro u hu;simp at hu;rcases hu with rfl | rfl <;> rfl) (by omega) (by omega) LA ?_;intro v' W3 hown hgr hsn;obtain ⟨ao',cap',rfl⟩:=row_shape hown;have HR:Hid (W3.ownsRow w.heap.size 115 2 (.slice ao' (cs.length+1) cap') (cs.length+1) (chCells cs++[Value.int .i64 ((nN:Int)+1),.int .i64 ((p:Int)+(k:Int))])):=hown;have B3:Hid (Below w.heap.size w W3):=BA.out.grown hgr LA (fun k hk=>(R1.out.lt k hk).1);clear hown hgr hsn)
      go_roundg (s.size - (p+k))
      case measure=>omega
      case rel =>
       refine ⟨p+k,cs++[((nN:Int)+1,p+k)],ao',cap',rfl,by go_num,by rw [List.length_append];rfl,?_,?_,B3⟩
       ·have:=RefChars.bad hR.out hp (k:=k) (n:=n) (by rw [← HT.out];exact HF.out) HBD.out
        rw [HM.out] at this;exact this
       ·show W3.ownsRow _ _ _ _ _ _
        rw [List.length_append,chCells_snoc]
        have:=HR.out
        rw [hadd.out] at this
        exact this
  ·have hpe:p=s.size:=by omega
   go_wp2_with fail
   go_ret
   exact ⟨_,cs,rfl,by rw [← hpe];exact hR.out,hO.out,hB.out⟩
theorem chCells_at (l:List (Int × Nat)) (i:Nat) (h:i<l.length):(chCells l)[2 * i]?=some (.int .i64 l[i].1)∧(chCells l)[2 * i+1]?=some (.int .i64 (l[i].2:Nat)):=by
 induction l generalizing i with
 | nil=>simp at h
 | cons a r ih =>
  cases i with
  | zero=>simp [chCells]
  | succ i =>
   have:=ih i (by simpa using h)
   have e:∀ k,(chCells (a :: r))[2 * (i+1)+k]?=(chCells r)[2 * i+k]?:=by
    intro k;rw [show 2 * (i+1)+k=(2 * i+k)+2 from by omega];rfl
   have e0:=e 0;have e1:=e 1
   simp only [Nat.add_zero] at e0
   rw [e0,e1];simpa using this
theorem chRow_form {w:World} {base:Nat} {v:Value} {l:List (Int × Nat)} (h:w.ownsRow base 115 2 v l.length (chCells l)) :
  ∃ ao cap,v=.slice ao l.length cap∧∀ i (hi:i<l.length),∃ g,ao=some ⟨g,0,none⟩∧w.cell? ⟨g,i * 2,none⟩=some (.int .i64 l[i].1)∧w.cell? ⟨g,i * 2+1,none⟩=some (.int .i64 (l[i].2:Nat)):=by
 obtain ⟨h2,h3⟩:=h
 rcases h3 with ⟨hv,hn⟩ | ⟨g,cap,cur,hv,hg,hh,hcap,hmx,hsz,hcur⟩
 ·exact ⟨none,0,by rw [hv,hn],fun i hi=>by omega⟩
 ·refine ⟨some ⟨g,0,none⟩,cap,hv,fun i hi=>⟨g,rfl,?_⟩⟩
  have hc:=chCells_at l i hi
  rw [Nat.mul_comm 2 i] at hc
  rw [← hcur,List.getElem?_take,List.getElem?_take,if_pos (by omega),if_pos (by omega)] at hc
  exact ⟨cell_of_block hh _ _ (by simpa using hc.1),cell_of_block hh _ _ (by simpa using hc.2)⟩
def ChAt (w:World) (v:Value) (l:List (Int × Nat)):Prop:=∃ ao cap,v=.slice ao l.length cap∧∀ i (hi:i<l.length),∃ g,ao=some ⟨g,0,none⟩∧w.cell? ⟨g,i * 2,none⟩=some (.int .i64 l[i].1)∧w.cell? ⟨g,i * 2+1,none⟩=some (.int .i64 (l[i].2:Nat))
theorem ChAt.keep {w w':World} {v:Value} {l:List (Int × Nat)} (h:ChAt w v l) (hb:Below w.heap.size w w'):ChAt w' v l:=by
 obtain ⟨ao,cap,e,h⟩:=h
 refine ⟨ao,cap,e,fun i hi=>?_⟩
 obtain ⟨g,e1,k0,k1⟩:=h i hi
 exact ⟨g,e1,cell_below hb k0,cell_below hb k1⟩
theorem Tryz.infoI64:(Tryz.prog.info? 3).map (fun i=>(i.zero,i.size,i.bytes))=some (some (.int .i64 0),1,8):=by kernel_rfl
theorem Tryz.undI64:Tryz.prog.underlying 33=some (.slice 3):=by kernel_rfl
def kdCells (l:List (Int × Nat)):List Value:=l.map fun x=>.int .i64 x.1
set_option maxHeartbeats 4000000 in
theorem refKinds_any (w:World) (v:Value) (l:List (Int × Nat)) (h:ChAt w v l) (hn:l.length≤1500000) :
  Calls Tryz.prog 55 #[v] w fun e w'=>∃ v',e=.returned v'∧w'.ownsRow w.heap.size 3 1 v' l.length (kdCells l)∧Below w.heap.size w w':=by
 obtain ⟨aC,cC,rfl,hc⟩:=h
 have HC:Hid (∀ i (hi:i<l.length),∃ g,aC=some ⟨g,0,none⟩∧w.cell? ⟨g,i * 2,none⟩=some (.int .i64 l[i].1)∧w.cell? ⟨g,i * 2+1,none⟩=some (.int .i64 (l[i].2:Nat))):=hc
 clear hc
 go_enter Tryz.func55,Tryz.ntmps55
 go_wp2_with fail
 go_loopg [3,4] l.length (fun gg ov iv wr=>∃ (i:Nat) (ao:Option Addr) (cap:Nat),i≤l.length∧gg=l.length - i∧iv=.int .i64 i∧ov=.slice ao i cap∧Hid (wr.ownsRow w.heap.size 3 1 (.slice ao i cap) i (kdCells (l.take i)))∧Hid (Below w.heap.size w wr))
 case atStart=>exact ⟨0,none,0,by omega,rfl,rfl,rfl,World.ownsRow_nil _ _ _ _,Below.refl _ _⟩
 case round =>
  obtain ⟨w1,hw1⟩:∃ w1,w1=wr:=⟨wr,rfl⟩
  subst hw1
  obtain ⟨i,ao,cap,hi,rfl,rfl,rfl,hO,hB⟩:=hrel
  by_cases hil:i<l.length
  ·obtain ⟨g,rfl,k0,_⟩:=HC.out i hil
   have q0:w1.cell? ⟨g,i * 2,none⟩=some (.int .i64 l[i].1):=cell_below hB.out k0
   have HSN:Hid (kdCells (l.take (i+1))=kdCells (l.take i)++[.int .i64 l[i].1]):=by
    show _=_
    unfold kdCells
    rw [List.take_succ_eq_append_getElem hil,List.map_append];rfl
   obtain ⟨c,hc⟩:∃ c,c=l[i].1:=⟨_,rfl⟩
   rw [← hc] at q0 HSN
   clear hc
   have R1:Hid ((w1.alloc (.cells #[.int .i64 c] 3)).ownsRow w.heap.size 3 1 (.slice ao i cap) i (kdCells (l.take i))):=row_kp hO.out (Kp.below (below_alloc w1 _))
   have NW:Hid (∀ (j:Nat) (u:Value),[Value.int .i64 c][j]?=some u→(w1.alloc (.cells #[.int .i64 c] 3)).cell? ⟨w1.heap.size,j,none⟩=some u):=fun j u hu=>cell_of_block (heap_alloc_new w1 _) j u (by simpa using hu)
   have BA:Hid (Below w.heap.size w (w1.alloc (.cells #[.int .i64 c] 3))):=hB.out.alloc hB.out.size _
   have LA:w.heap.size≤(w1.alloc (.cells #[.int .i64 c] 3)).heap.size:=BA.out.size
   go_wp2_with (at_builtin;refine wpList_push2 rfl (.tmp 11) (.tmp 17) 33 rfl w.heap.size 3 (.int .i64 0) 1 8 Tryz.infoI64 Tryz.undI64 rfl (by decide) (.slice ao i cap) i (kdCells (l.take i)) rfl R1.out w1.heap.size 1 [.int .i64 c] rfl rfl NW.out (by intro u hu;simp at hu;subst hu;rfl) (by omega) (by omega) LA ?_;intro v' W3 hown hgr hsn;obtain ⟨ao',cap',rfl⟩:=row_shape hown;have HR:Hid (W3.ownsRow w.heap.size 3 1 (.slice ao' (i+1) cap') (i+1) (kdCells (l.take i)++[.int .i64 c])):=hown;have B3:Hid (Below w.heap.size w W3):=BA.out.grown hgr LA (fun k hk=>(R1.out.lt k hk).1);clear hown hgr hsn)
   go_roundg (l.length - (i+1))
   case measure=>omega
   case rel=>exact ⟨i+1,ao',cap',by omega,rfl,by go_num,rfl,by rw [HSN.out];exact HR,B3⟩
  ·have hil':i=l.length:=by omega
   go_wp2_with fail
   go_ret
   refine ⟨_,rfl,?_,hB.out⟩
   have:=hO.out
   rw [hil',List.take_length] at this
   rw [hil'];exact this
end Go.Proofs.YtodagkkjfipbgaaGreatDoor
