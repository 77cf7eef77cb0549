import Derived.Test.YtodagkkjfipbgaaGreatDoorRows
import Derived.ProofKit
import Derived.LaidLaws
import Derived.Lay
import Derived.LaidOnce
import Derived.OpenShut
import Derived.ChangeSame
import Derived.SizedLaws
import Derived.Stop.LaidErr
import Derived.Lib.LaidU8
import Derived.SliceStrings
import Derived.Test.YtodagkkjfipbgaaGreatDoorT41toT42
namespace Go.Proofs.YtodagkkjfipbgaaGreatDoor
open Go.RowKit Go.Maps Go.Lib
def bytesL (s:ByteArray):Nat→List ByteArray
 | 0=>[]
 | i+1=>bytesL s i++[s.extract i (i+1),⟨#[]⟩]
theorem bytesL_len (s:ByteArray):∀ i,(bytesL s i).length=2 * i:=by
 intro i
 induction i with
 | zero=>rfl
 | succ i ih=>rw [bytesL,List.length_append,ih];simp;omega
theorem bytesL_join (s:ByteArray):∀ i,i≤s.size→joinB (bytesL s i)=s.extract 0 i:=by
 intro i
 induction i with
 | zero=>intro _;apply ba_ext;rw [ByteArray.toList_eq,ByteArray.toList_eq];simp [bytesL,joinB]
 | succ i ih =>
  intro hi
  have e:bytesL s (i+1)=(bytesL s i++[s.extract i (i+1)])++[⟨#[]⟩]:=by rw [bytesL];simp
  rw [e,joinB_snoc,joinB_snoc,ih (by omega),app_nil]
  exact ext_app s i (i+1) (by omega)
set_option maxRecDepth 100000 in
set_option maxHeartbeats 16000000 in
theorem pieces_pr (T:ByteArray) (v:Value) (P:List ByteArray) (w:World) (hV:VarsOk w) (hA:ArgS w v P) (hT:T.size≤140737488351232) (hl:P.length≤1500000) (hsz:(joinB P).size≤1500000) :
  Calls Tryz.prog 9 #[.string T,v] w fun r w'=>r=.returned (.bool true)∧Below w.heap.size w w':=by
 obtain ⟨aoP,capP,rfl⟩:=hA.shape
 have HV:Hid (VarsOk w):=hV
 have HA:Hid (ArgS w (.slice aoP P.length capP) P):=hA
 have hg:=given_any T w hV hT
 obtain ⟨iS,hiS,hz0,hz1,hz2⟩:=info_parts Tryz.infoSg
 clear hV hA
 go_enter Tryz.func9,Tryz.ntmps9
 go_wp2_with fail
 refine hg.mono ?_
 rintro r w1 ⟨⟨v1,rfl,h1,h2⟩,b1⟩
 have B1:Hid (Below w.heap.size w w1):=b1
 by_cases e0:(rdT T).err=0
 ·have hR1:=h1 e0
  obtain ⟨g,rfl⟩:∃ g,v1=.pointer (some ⟨g,0,none⟩):=by
   obtain ⟨g,_,_,_,_,_,_,e,_⟩:=hR1
   exact ⟨g,e⟩
  obtain ⟨vE,vJ,vP,vH,vV,L,H,V,hI,hE,hU⟩:=hR1.stream e0 (HV.out.below b1)
  have V1:Hid (VarsOk w1):=HV.out.below b1
  have RI:Hid (RulesIn w1 g T vE vJ vP vH vV L):=hI
  have EE:Hid (FEnv w1 g H V L (possOf L)):=hE
  have UU:Hid (RulP (read2 T).2 L (possOf L) H V):=hU
  have hA1:ArgS w1 (.slice aoP P.length capP) P:=by
   rcases HA.out with h9 | ⟨a,cap,e9,h9⟩
   ·exact Or.inl h9
   ·exact Or.inr ⟨a,cap,e9,fun i s hs=>(B1.out.cell (p:=a.add i) (cell_ltA (h9 i s hs))).trans (h9 i s hs)⟩
  have hsh:=short_any w1 _ P hA1 hl hsz
  have hin:=short_inv P P.length (Nat.le_refl _)
  obtain ⟨Q,hQ⟩:∃ Q,Q=shortP P:=⟨_,rfl⟩
  have hq1:(joinB Q).size≤5000:=by rw [hQ];exact hin.2.1
  have hq2:Q.length≤1500000:=by rw [hQ];have h9:(shortP P).length≤_:=hin.2.2.2;omega
  rw [← hQ] at hsh
  clear hg h1 h2 b1 e0 hR1 hI hE hU hA1 hin hQ HA
  go_wp2_with fail
  refine hsh.mono ?_
  rintro r w2 ⟨⟨vS,rfl,hrow2⟩,b2⟩
  obtain ⟨aoS,capS,rfl⟩:=row_shape hrow2
  have R2:Hid (w2.ownsRow w1.heap.size 9 1 (.slice aoS Q.length capS) Q.length (strCells Q)):=hrow2
  have B2:Hid (Below w1.heap.size w1 w2):=b2
  have hj:=joined_any w1.heap.size (.slice aoS Q.length capS) Q w2 hrow2 (by omega) (by omega)
  have HW:Hid (∀ (l:List ByteArray) C s,Rests H V L (joinB Q) C l s→∀ all,CutTold T (joinB Q) L all→l++(endS H V s).told=all):=fun l C s h9 all h8=>h9.whole UU.out h8
  have HO:Hid (∀ (l l2:List ByteArray) C C2 s s2,Rests H V L (joinB Q) C l s→Rests H V L (joinB Q) C2 l2 s2→l=l2):=fun l l2 C C2 s s2 h9 h8=>h9.one UU.out.row UU.out.kinds h8
  obtain ⟨s,hs⟩:∃ s,s=joinB Q:=⟨_,rfl⟩
  have HSJ:Hid (joinB Q=s):=hs.symm
  rw [← hs] at hq1 hj HW HO
  have hcut:=cut_any w2 g T s vE vJ vP vH vV L (by have:=RI.out;exact ⟨(b2.block _ (heap_lt this.blk)).trans this.blk,this.perm,this.row,row_kp this.tab (Kp.below b2),this.judge.kp (Kp.below b2) (Kp.below b2),this.out.below b2,this.ok,this.few,this.spans⟩) (V1.out.below b2).utf (V1.out.below b2).low (by omega)
  clear hsh hrow2 b2 hs
  go_wp2_with fail
  refine hj.mono ?_
  rintro r W ⟨rfl,rfl⟩
  clear hj
  go_wp2_with fail
  refine hcut.mono ?_
  rintro r w3 ⟨⟨vC,all,rfl,hct,hrow3⟩,b3⟩
  obtain ⟨aoC,capC,rfl⟩:=row_shape hrow3
  have hal:all.length≤5000:=Nat.le_trans (told_whole UU.out.kinds hct).2.2 hq1
  have CT:Hid (CutTold T s L all):=hct
  have R3:Hid (w3.ownsRow W.heap.size 9 1 (.slice aoC all.length capC) all.length (strCells all)):=hrow3
  have B3:Hid (Below w1.heap.size w1 w3):=B2.out.trans (b3.mono B2.out.size)
  have S3:Hid (w3.ownsRow w1.heap.size 9 1 (.slice aoS Q.length capS) Q.length (strCells Q)):=row_kp R2.out (Kp.below b3)
  have hf1:=kflow_any w3 g H V L (possOf L) (EE.out.below B3.out) Q _ _ S3.out (by rw [HSJ.out];exact hq1) hq2 true
  clear hcut hct hrow3 b3 R2
  go_wp2_with fail
  refine hf1.mono ?_
  rintro r w4 ⟨v9,told9,C9,l9,s9,rfl,hrow9,hl9,b9,hR9,e9⟩
  rw [HSJ.out] at hR9
  have e9':told9=all:=by rw [e9,if_pos rfl];exact HW.out _ _ _ hR9 _ CT.out
  subst e9'
  obtain ⟨ao9,cap9,rfl⟩:=row_shape hrow9
  have R9:Hid (w4.ownsRow w3.heap.size 9 1 (.slice ao9 told9.length cap9) told9.length (strCells told9)):=hrow9
  have B4:Hid (Below w1.heap.size w1 w4):=B3.out.trans (b9.mono B3.out.size)
  have C4:Hid (w4.ownsRow W.heap.size 9 1 (.slice aoC told9.length capC) told9.length (strCells told9)):=row_kp R3.out (Kp.below b9)
  clear hf1 hrow9 b9 hR9 e9 R3 S3 CT HW B3
  go_wp2_with fail
  go_loopg [11,12] (s.size+1) (fun gh bv iv wx=>∃ (i:Nat) (B:List ByteArray) (ao:Option Addr) (cap:Nat),i≤s.size∧gh=s.size+1 - i∧bv=.slice ao B.length cap∧iv=.int .i64 i∧Hid (B=bytesL s i)∧(i=0∨s.size<200)∧Hid (wx.ownsRow w4.heap.size 9 1 (.slice ao B.length cap) B.length (strCells B))∧Hid (Below w4.heap.size w4 wx))
  case atStart=>exact ⟨0,[],none,0,Nat.zero_le _,rfl,rfl,rfl,rfl,Or.inl rfl,World.ownsRow_nil _ _ _ _,Below.refl _ _⟩
  case round =>
   obtain ⟨i,B,ao,cap,hi,rfl,rfl,rfl,hBi,hor,hW,hB⟩:=hrel
   obtain ⟨w5,hw5⟩:∃ w5,w5=wr:=⟨wr,rfl⟩
   subst hw5
   have hBl:Hid (B.length=2 * i):=by show _=_;rw [hBi.out,bytesL_len]
   by_cases hgo:i<s.size∧s.size<200
   ·have hd1:decide ((i:Int)<(s.size:Int))=true:=decide_eq_true (by omega)
    have hd2:decide ((s.size:Int)<200)=true:=decide_eq_true (by omega)
    have hBb:B.length≤400:=by have:=hBl.out;omega
    obtain ⟨x,hx⟩:∃ x,x=s.extract i (i+1):=⟨_,rfl⟩
    have HX:Hid (x=s.extract i (i+1)):=hx
    have NB:Hid (B++[x,⟨#[]⟩]=bytesL s (i+1)):=by show _=_;rw [bytesL,← hx,hBi.out]
    have R1:Hid ((w5.alloc (.cells #[.string x,.string ⟨#[]⟩] 9)).ownsRow w4.heap.size 9 1 (.slice ao B.length cap) B.length (strCells B)):=row_kp hW.out (Kp.below (below_alloc w5 _))
    have NW:Hid (∀ (j:Nat) (u:Value),[Value.string x,.string ⟨#[]⟩][j]?=some u→(w5.alloc (.cells #[.string x,.string ⟨#[]⟩] 9)).cell? ((⟨w5.heap.size,0,none⟩:Addr).add j)=some u):=fun j u hu=>by
     rw [show (⟨w5.heap.size,0,none⟩:Addr).add j=⟨w5.heap.size,0+j,none⟩ from by unfold Addr.add;split <;> simp_all,Nat.zero_add]
     exact cell_of_block (heap_alloc_new w5 _) j u (by simpa using hu)
    have BA:Hid (Below w4.heap.size w4 (w5.alloc (.cells #[.string x,.string ⟨#[]⟩] 9))):=hB.out.alloc hB.out.size _
    have LA:w4.heap.size≤(w5.alloc (.cells #[.string x,.string ⟨#[]⟩] 9)).heap.size:=BA.out.size
    have O2:Hid (∀ u ∈ [Value.string x,.string ⟨#[]⟩],u.oneCell'=true):=fun u hu=>by
     simp at hu
     rcases hu with rfl | rfl <;> rfl
    clear hx hBi hW hB
    have hm1:B.length+2≤maxLen:=by unfold maxLen;omega
    go_wp2_with (at_builtin;rw [← HX.out];go_loud (refine wpList_append_own_at _ rfl (.tmp 55) (.tmp 61) 30 rfl w4.heap.size 9 iS (.string ⟨#[]⟩) 1 16 Tryz.undSg hiS hz0 hz1 hz2 rfl (by decide) (.slice ao B.length cap) B.length (strCells B) rfl R1.out ⟨w5.heap.size,0,none⟩ 2 2 [.string x,.string ⟨#[]⟩] rfl rfl NW.out O2.out hm1 (by omega) LA ?_);intro v' W3 hown hgr hnl hat;obtain ⟨ao',cap',rfl⟩:=row_shape hown;have HR:Hid (W3.ownsRow w4.heap.size 9 1 (.slice ao' (B.length+2) cap') (B.length+2) (strCells B++[.string x,.string ⟨#[]⟩])):=hown;have B3:Hid (Below w4.heap.size w4 W3):=BA.out.grown hgr LA (fun k hk=>(R1.out.lt k hk).1);clear hown hgr hnl hat)
    go_roundg (s.size+1 - (i+1))
    case measure=>omega
    case rel =>
     refine ⟨i+1,B++[x,⟨#[]⟩],ao',cap',by omega,rfl,by rw [List.length_append];rfl,by go_num,NB,Or.inr hgo.2,?_,B3⟩
     rw [List.length_append,strCells_app]
     exact HR
   ·have hex:Hid ((B=[]∧(s.size=0∨200≤s.size))∨(joinB B=s∧0<B.length)):=by
     show _∨_
     rcases Nat.lt_or_ge i s.size with h9 | h9
     ·rcases hor with h8 | h8
      ·left
       exact ⟨List.eq_nil_of_length_eq_zero (by have:=hBl.out;omega),by omega⟩
      ·omega
     ·have h7:i=s.size:=by omega
      rcases Nat.eq_zero_or_pos i with h8 | h8
      ·left
       exact ⟨List.eq_nil_of_length_eq_zero (by have:=hBl.out;omega),by omega⟩
      ·right
       refine ⟨?_,by have:=hBl.out;omega⟩
       rw [hBi.out,bytesL_join s i hi,h7,extract_all]
    have hBf:B.length≤400:=by
     rcases hex.out with ⟨h9,_⟩ | ⟨_,_⟩
     ·rw [h9];decide
     ·have:=hBl.out;omega
    have hcases:(i<s.size∧¬ s.size<200)∨¬ i<s.size:=by omega
    have HEX:=hex
    clear hor hBi hBl hgo hi hex
    rcases HEX.out with ⟨h9,_⟩ | ⟨h9,h8⟩
    ·subst h9
     have R1:Hid ((w5.alloc (.cells #[.string s] 9)).ownsRow w4.heap.size 9 1 (.slice ao 0 cap) 0 []):=row_kp hW.out (Kp.below (below_alloc w5 _))
     have NW:Hid (∀ (j:Nat) (u:Value),[Value.string s][j]?=some u→(w5.alloc (.cells #[.string s] 9)).cell? ⟨w5.heap.size,j,none⟩=some u):=fun j u hu=>cell_of_block (heap_alloc_new w5 _) j u (by simpa using hu)
     have BA:Hid (Below w4.heap.size w4 (w5.alloc (.cells #[.string s] 9))):=hB.out.alloc hB.out.size _
     have LA:w4.heap.size≤(w5.alloc (.cells #[.string s] 9)).heap.size:=BA.out.size
     have J9:Hid (joinB [s]=s):=joinB_one s
     have hXl:[s].length≤401:=by show 1≤401;omega
     clear HEX
     rcases hcases with ⟨hd1,hd2⟩ | hd1 <;> (
      go_wp2_with (at_builtin;refine wpList_push2 rfl (.tmp 66) (.tmp 68) 30 rfl w4.heap.size 9 (.string ⟨#[]⟩) 1 16 Tryz.infoSg Tryz.undSg rfl (by decide) (.slice ao 0 cap) 0 [] rfl R1.out w5.heap.size 1 [.string s] rfl rfl NW.out (one_str s) (by omega) (by omega) LA ?_;intro v' W3 hown0 hgr hsn;have hown:W3.ownsRow w4.heap.size 9 1 v' 1 [.string s]:=hown0;obtain ⟨ao',cap',rfl⟩:=row_shape hown;have RX:Hid (W3.ownsRow w4.heap.size 9 1 (.slice ao' 1 cap') [s].length (strCells [s])):=hown;have BX:Hid (Below w4.heap.size w4 W3):=BA.out.grown hgr LA (fun k hk=>(R1.out.lt k hk).1);clear hown hown0 hgr hsn R1 NW BA LA)
      have JD:=J9
      clear hW hB hBf hXl
      have B5:Hid (Below w1.heap.size w1 W3):=B4.out.trans (BX.out.mono B4.out.size)
      have A5:Hid (W3.ownsRow w3.heap.size 9 1 (.slice ao9 told9.length cap9) told9.length (strCells told9)):=row_kp R9.out (Kp.below BX.out)
      have C5:Hid (W3.ownsRow W.heap.size 9 1 (.slice aoC told9.length capC) told9.length (strCells told9)):=row_kp C4.out (Kp.below BX.out)
      have hf2:=kflow_any W3 g H V L (possOf L) (EE.out.below B5.out) [s] (.slice ao' 1 cap') _ RX.out (by rw [JD.out];exact hq1) (by show 1≤_;omega) false
      go_wp2_with fail
      refine hf2.mono ?_
      rintro r w6 ⟨v6,told6,C6,l6,s6,rfl,hrow6,hl6,b6,hR6,e6⟩
      rw [JD.out] at hR6
      rw [if_neg (by simp)] at e6
      subst e6
      obtain ⟨ao6,cap6,rfl⟩:=row_shape hrow6
      have R6:Hid (w6.ownsRow W3.heap.size 9 1 (.slice ao6 told6.length cap6) told6.length (strCells told6)):=hrow6
      have Q6:Hid (Rests H V L s C6 told6 s6):=hR6
      have B6:Hid (Below w1.heap.size w1 w6):=B5.out.trans (b6.mono B5.out.size)
      have A6:Hid (w6.ownsRow w3.heap.size 9 1 (.slice ao9 told9.length cap9) told9.length (strCells told9)):=row_kp A5.out (Kp.below b6)
      have C6':Hid (w6.ownsRow W.heap.size 9 1 (.slice aoC told9.length capC) told9.length (strCells told9)):=row_kp C5.out (Kp.below b6)
      obtain ⟨W7,hW7⟩:∃ W7,W7=w6.alloc (.cells #[.string s] 9):=⟨_,rfl⟩
      have HW7:Hid (W7=w6.alloc (.cells #[.string s] 9)):=hW7
      have b7:Below w6.heap.size w6 W7:=by rw [hW7];exact below_alloc w6 _
      have own7:W7.ownsRow 0 9 1 (.slice (some ⟨w6.heap.size,0,none⟩) 1 1) [s].length (strCells [s]):=by
       rw [hW7]
       exact ⟨rfl,Or.inr ⟨w6.heap.size,1,#[.string s],rfl,Nat.zero_le _,heap_alloc_new w6 _,Nat.le_refl _,by decide,rfl,rfl⟩⟩
      have B7:Hid (Below w1.heap.size w1 W7):=B6.out.trans (b7.mono B6.out.size)
      have R7:Hid (W7.ownsRow W3.heap.size 9 1 (.slice ao6 told6.length cap6) told6.length (strCells told6)):=row_kp R6.out (Kp.below b7)
      have A7:Hid (W7.ownsRow w3.heap.size 9 1 (.slice ao9 told9.length cap9) told9.length (strCells told9)):=row_kp A6.out (Kp.below b7)
      have C7:Hid (W7.ownsRow W.heap.size 9 1 (.slice aoC told9.length capC) told9.length (strCells told9)):=row_kp C6'.out (Kp.below b7)
      have hf3:=kflow_any W7 g H V L (possOf L) (EE.out.below B7.out) [s] _ _ own7 (by rw [joinB_one];exact hq1) (by show 1≤1500000;omega) false
      clear hf2 hrow6 b6 hR6 hW7 b7 own7 R6 A6 C6' B6 A5 C5 B5 RX JD J9
      go_wp2_with fail
      rw [← HW7.out]
      refine hf3.mono ?_
      rintro r w8 ⟨v8,told8,C8,l8,s8,rfl,hrow8,hl8,b8,hR8,e8⟩
      rw [joinB_one] at hR8
      rw [if_neg (by simp)] at e8
      subst e8
      obtain rfl:told8=told6:=HO.out _ _ _ _ _ _ hR8 Q6.out
      obtain ⟨ao8,cap8,rfl⟩:=row_shape hrow8
      have B8:Hid (Below w1.heap.size w1 w8):=B7.out.trans (b8.mono B7.out.size)
      have hs1:=same_eq w3.heap.size W.heap.size _ _ told9 w8 (row_kp A7.out (Kp.below b8)) (row_kp C7.out (Kp.below b8)) (by omega)
      have X8:Hid (w8.ownsRow W7.heap.size 9 1 (.slice ao8 told8.length cap8) told8.length (strCells told8)):=hrow8
      have Y8:Hid (w8.ownsRow W3.heap.size 9 1 (.slice ao6 told8.length cap6) told8.length (strCells told8)):=row_kp R7.out (Kp.below b8)
      clear hf3 hrow8 b8 hR8 HW7 R7 A7 C7 B7 Q6
      go_wp2_with fail
      refine hs1.mono ?_
      rintro r w9 ⟨rfl,b9⟩
      have B9:Hid (Below w1.heap.size w1 w9):=B8.out.trans (b9.mono B8.out.size)
      have hs2:=same_eq _ _ _ _ told8 w9 (row_kp Y8.out (Kp.below b9)) (row_kp X8.out (Kp.below b9)) (by omega)
      clear hs1 b9 B8
      go_wp2_with fail
      refine hs2.mono ?_
      rintro r w10 ⟨rfl,b10⟩
      have B10:Hid (Below w1.heap.size w1 w10):=B9.out.trans (b10.mono B9.out.size)
      clear hs2 b10 B9
      go_wp2_with fail
      go_ret
      exact ⟨rfl,B1.out.trans (B10.out.mono B1.out.size)⟩)
    ·have hd3:((B.length:Int) == 0)=false:=by rw [beq_eq_false_iff_ne];omega
     have hd4:¬ B.length=0:=by omega
     have hd5:B ≠ []:=fun e=>by rw [e] at h8;exact absurd h8 (by decide)
     have J9:Hid (joinB B=s):=h9
     have hXl:B.length≤401:=by omega
     have RX:=hW
     have BX:=hB
     clear h9 HEX
     rcases hcases with ⟨hd1,hd2⟩ | hd1 <;> (
      obtain ⟨D,hD⟩:∃ D,D=B:=⟨_,rfl⟩
      have RD:Hid (w5.ownsRow w4.heap.size 9 1 (.slice ao D.length cap) D.length (strCells D)):=by rw [hD];exact RX.out
      have JD:Hid (joinB D=s):=by rw [hD];exact J9.out
      have hDl:D.length≤401:=by rw [hD];exact hXl
      have g3:((D.length:Int) == 0)=false:=by rw [hD];exact hd3
      have g4:¬ D.length=0:=by rw [hD];exact hd4
      have g5:D ≠ []:=by rw [hD];exact hd5
      rw [show B.length=D.length from by rw [hD]]
      clear RX J9 hXl hD hW hB hBf
      have B5:Hid (Below w1.heap.size w1 w5):=B4.out.trans (BX.out.mono B4.out.size)
      have A5:Hid (w5.ownsRow w3.heap.size 9 1 (.slice ao9 told9.length cap9) told9.length (strCells told9)):=row_kp R9.out (Kp.below BX.out)
      have C5:Hid (w5.ownsRow W.heap.size 9 1 (.slice aoC told9.length capC) told9.length (strCells told9)):=row_kp C4.out (Kp.below BX.out)
      have hf2:=kflow_any w5 g H V L (possOf L) (EE.out.below B5.out) D _ _ RD.out (by rw [JD.out];exact hq1) (by omega) false
      go_wp2_with fail
      refine hf2.mono ?_
      rintro r w6 ⟨v6,told6,C6,l6,s6,rfl,hrow6,hl6,b6,hR6,e6⟩
      rw [JD.out] at hR6
      rw [if_neg (by simp)] at e6
      subst e6
      obtain ⟨ao6,cap6,rfl⟩:=row_shape hrow6
      have R6:Hid (w6.ownsRow w5.heap.size 9 1 (.slice ao6 told6.length cap6) told6.length (strCells told6)):=hrow6
      have Q6:Hid (Rests H V L s C6 told6 s6):=hR6
      have B6:Hid (Below w1.heap.size w1 w6):=B5.out.trans (b6.mono B5.out.size)
      have A6:Hid (w6.ownsRow w3.heap.size 9 1 (.slice ao9 told9.length cap9) told9.length (strCells told9)):=row_kp A5.out (Kp.below b6)
      have C6':Hid (w6.ownsRow W.heap.size 9 1 (.slice aoC told9.length capC) told9.length (strCells told9)):=row_kp C5.out (Kp.below b6)
      obtain ⟨W7,hW7⟩:∃ W7,W7=w6.alloc (.cells #[.string s] 9):=⟨_,rfl⟩
      have HW7:Hid (W7=w6.alloc (.cells #[.string s] 9)):=hW7
      have b7:Below w6.heap.size w6 W7:=by rw [hW7];exact below_alloc w6 _
      have own7:W7.ownsRow 0 9 1 (.slice (some ⟨w6.heap.size,0,none⟩) 1 1) [s].length (strCells [s]):=by
       rw [hW7]
       exact ⟨rfl,Or.inr ⟨w6.heap.size,1,#[.string s],rfl,Nat.zero_le _,heap_alloc_new w6 _,Nat.le_refl _,by decide,rfl,rfl⟩⟩
      have B7:Hid (Below w1.heap.size w1 W7):=B6.out.trans (b7.mono B6.out.size)
      have R7:Hid (W7.ownsRow w5.heap.size 9 1 (.slice ao6 told6.length cap6) told6.length (strCells told6)):=row_kp R6.out (Kp.below b7)
      have A7:Hid (W7.ownsRow w3.heap.size 9 1 (.slice ao9 told9.length cap9) told9.length (strCells told9)):=row_kp A6.out (Kp.below b7)
      have C7:Hid (W7.ownsRow W.heap.size 9 1 (.slice aoC told9.length capC) told9.length (strCells told9)):=row_kp C6'.out (Kp.below b7)
      have hf3:=kflow_any W7 g H V L (possOf L) (EE.out.below B7.out) [s] _ _ own7 (by rw [joinB_one];exact hq1) (by show 1≤1500000;omega) false
      clear hf2 hrow6 b6 hR6 hW7 b7 own7 R6 A6 C6' B6 A5 C5 B5 RD JD
      go_wp2_with fail
      rw [← HW7.out]
      refine hf3.mono ?_
      rintro r w8 ⟨v8,told8,C8,l8,s8,rfl,hrow8,hl8,b8,hR8,e8⟩
      rw [joinB_one] at hR8
      rw [if_neg (by simp)] at e8
      subst e8
      obtain rfl:told8=told6:=HO.out _ _ _ _ _ _ hR8 Q6.out
      obtain ⟨ao8,cap8,rfl⟩:=row_shape hrow8
      have B8:Hid (Below w1.heap.size w1 w8):=B7.out.trans (b8.mono B7.out.size)
      have hs1:=same_eq w3.heap.size W.heap.size _ _ told9 w8 (row_kp A7.out (Kp.below b8)) (row_kp C7.out (Kp.below b8)) (by omega)
      have X8:Hid (w8.ownsRow W7.heap.size 9 1 (.slice ao8 told8.length cap8) told8.length (strCells told8)):=hrow8
      have Y8:Hid (w8.ownsRow w5.heap.size 9 1 (.slice ao6 told8.length cap6) told8.length (strCells told8)):=row_kp R7.out (Kp.below b8)
      clear hf3 hrow8 b8 hR8 HW7 R7 A7 C7 B7 Q6
      go_wp2_with fail
      refine hs1.mono ?_
      rintro r w9 ⟨rfl,b9⟩
      have B9:Hid (Below w1.heap.size w1 w9):=B8.out.trans (b9.mono B8.out.size)
      have hs2:=same_eq _ _ _ _ told8 w9 (row_kp Y8.out (Kp.below b9)) (row_kp X8.out (Kp.below b9)) (by omega)
      clear hs1 b9 B8
      go_wp2_with fail
      refine hs2.mono ?_
      rintro r w10 ⟨rfl,b10⟩
      have B10:Hid (Below w1.heap.size w1 w10):=B9.out.trans (b10.mono B9.out.size)
      clear hs2 b10 B9
      go_wp2_with fail
      go_ret
      exact ⟨rfl,B1.out.trans (B10.out.mono B1.out.size)⟩)
 ·obtain rfl:=h2 e0
  clear hg h1 h2 b1 e0
  go_wp2_with fail
  go_ret
  exact ⟨rfl,B1.out⟩
end Go.Proofs.YtodagkkjfipbgaaGreatDoor
namespace Go.Proofs.YtodagkkjfipbgaaGreatDoor
open Go.ChangeShapes Go.WideShapes Go.ChangeAt Go.RowKit
theorem tSU:(Tryz.prog.globals[0]?).map (·.type)=some 171:=by kernel_rfl
theorem laid_sur {n:String} {r:List (String × DataW Unit)} {W:World} (h:laidMet Tryz.prog ((n,Rows.laid_cleave_kinds_surrogates) :: r) W) (gSU:Tryz.prog.globalNamed n=some 0):W.cell? ⟨0,0,none⟩=some (.int .i32 55296)∧W.cell? ⟨0,1,none⟩=some (.int .i32 57343):=by
 obtain ⟨ps,⟨g0,t0,cs0,f0,p0,q0,hg0,ht0,hv0,hd0,_,e0⟩,_,_⟩:=h
 obtain rfl:=Option.some.inj (gSU.symm.trans hg0)
 obtain rfl:=Option.some.inj (tSU.symm.trans ht0)
 have c1:Tryz.prog.cellsOf 21=1:=by kernel_rfl
 obtain ⟨y0,y1,m,ex,hl,h0,h1⟩:=trod_struct2 Tryz.underlying171 hd0
 have c2:Tryz.prog.cellsOf 171=2:=by kernel_rfl
 rw [c2] at hl
 have e1:=(Prod.mk.inj ex).1
 unfold Rows.laid_cleave_kinds_surrogates at e1
 injection e1 with e1
 injection e1 with ea e1
 injection e1 with eb _
 simp only [c1] at h0 h1
 obtain ⟨a,a0,a1,_⟩:=DataW.trod_int Tryz.underlying21 h0
 obtain ⟨b,b0,b1,_⟩:=DataW.trod_int Tryz.underlying21 h1
 rw [a1] at ea
 rw [b1] at eb
 have hza:a=55296:=by simpa using ea.symm
 have hzb:b=57343:=by simpa using eb.symm
 subst hza
 subst hzb
 obtain ⟨l⟩:=cs0
 match l,hl with
 | [x,y],_ =>
  simp at a0 b0
  subst a0
  subst b0
  exact ⟨by rw [World.var?_cell gSU hv0 0];rfl,by rw [World.var?_cell gSU hv0 1];rfl⟩
theorem ownW:ownKnob Tryz.prog.godebug=none:=by kernel_rfl
theorem gESW : Tryz.prog.globalNamed "strconv.ErrSyntax" = some 6 := by kernel_rfl
theorem gERW : Tryz.prog.globalNamed "strconv.ErrRange" = some 7 := by kernel_rfl
theorem tESW:(Tryz.prog.globals[6]?).map (·.type)=some 332:=by kernel_rfl
theorem tERW:(Tryz.prog.globals[7]?).map (·.type)=some 332:=by kernel_rfl
theorem laid_ifaceW {n nm:String} {d:DataW Unit} {r:List (String × DataW Unit)} {W:World} {g:Nat} {ti:TypeId} {ms:Array (String × TypeId)}
  (h:laidMet Tryz.prog ((n,.iface nm d) :: r) W) (hg:Tryz.prog.globalNamed n=some g) (ht:(Tryz.prog.globals[g]?).map (·.type)=some ti) (hi:Tryz.prog.underlying ti=some (.interface ms)) :
  ∃ u v,W.cell? ⟨g,0,none⟩=some (.iface u v):=by
 obtain ⟨ps,⟨g0,t0,cs0,f0,p0,q0,hg0,ht0,hv0,hd0,_,e0⟩,_,_⟩:=h
 obtain rfl:=Option.some.inj (hg.symm.trans hg0)
 obtain rfl:=Option.some.inj (ht.symm.trans ht0)
 obtain ⟨_,u,v,hcs,_,_⟩:=iface_of_trod hi hd0
 refine ⟨u,v,?_⟩
 rw [World.var?_cell hg hv0 0]
 obtain ⟨l⟩:=cs0
 simp at hcs
 subst hcs
 rfl
theorem u8x:U8Extra Tryz.prog Tryz.laysDec_ren:=⟨by kernel_rfl,by kernel_rfl,by kernel_rfl,by kernel_rfl,by kernel_rfl,by kernel_rfl,by kernel_rfl⟩
theorem firstIs:Rows.laid_unicode_utf8_first=Lib.firstData:=by kernel_rfl
theorem acceptIs:Rows.laid_unicode_utf8_acceptRanges=Lib.acceptData:=by kernel_rfl
theorem utf_laid {l : List (String × DataW Unit)} {W : World} (h : laidMet Tryz.prog l W) (h1 : ("unicode/utf8.first", Rows.laid_unicode_utf8_first) ∈ l) (h2 : ("unicode/utf8.acceptRanges", Rows.laid_unicode_utf8_acceptRanges) ∈ l) :
  Lib.Utf8Tabs 2 3 W∧(2<W.heap.size∧3<W.heap.size):=by
 rw [firstIs] at h1
 rw [acceptIs] at h2
 have hT:=utf8Tabs_of_reads { Tryz.laysDec with } u8x (Lib.laidMet.reads h h1) (Lib.laidMet.reads h h2)
 rw [show Tryz.laysDec_ren.g 3=2 from by kernel_rfl,show Tryz.laysDec_ren.g 4=3 from by kernel_rfl] at hT
 exact ⟨hT,cell_lt (hT.1 0 (by omega)),cell_lt (hT.2 0 (by omega)).1⟩
theorem vars_laid {W : World} {a b c : String × DataW Unit} {l : List (String × DataW Unit)} (h : laidMet Tryz.prog (a :: b :: c :: ("unicode/utf8.acceptRanges", Rows.laid_unicode_utf8_acceptRanges) :: ("cleave/kinds.surrogates", Rows.laid_cleave_kinds_surrogates) :: ("strconv.ErrRange", Rows.laid_strconv_ErrRange) :: ("strconv.ErrSyntax", Rows.laid_strconv_ErrSyntax) :: ("unicode/utf8.first", Rows.laid_unicode_utf8_first) :: l) W) : VarsOk W := by
 have hU:=utf_laid h (List.mem_of_getElem? (i:=7) rfl) (List.mem_of_getElem? (i:=3) rfl)
 exact ⟨⟨laid_ifaceW h.tail.tail.tail.tail.tail.tail gESW tESW Tryz.underlying332,laid_ifaceW h.tail.tail.tail.tail.tail gERW tERW Tryz.underlying332,laid_sur h.tail.tail.tail.tail (by kernel_rfl)⟩,hU.1,hU.2⟩
end Go.Proofs.YtodagkkjfipbgaaGreatDoor
namespace Go.Proofs.YtodagkkjfipbgaaGreatDoor
open Go.ChangeShapes Go.RowKit
theorem bulk_strs {H:Type}:∀ l:List ByteArray,Rows.uptoBulkAll (strs (H:=H) l)=(joinB l).size+l.length:=by
 intro l
 rw [joinB_size]
 induction l with
 | nil=>rfl
 | cons s l ih =>
  have e:Rows.uptoBulkAll (strs (H:=H) (s :: l))=s.data.toList.length+1+Rows.uptoBulkAll (strs (H:=H) l):=rfl
  have e2:s.data.toList.length=s.size:=Array.length_toList
  rw [e,ih,e2]
  simp
  omega
theorem Tryz.cellsStr:Tryz.prog.cellsOf 9=1:=by kernel_rfl
end Go.Proofs.YtodagkkjfipbgaaGreatDoor
