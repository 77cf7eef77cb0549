import Derived.Test.YtodagkkjfipbgaaGreatDoorRows
import Derived.ProofKit
import Derived.LaidLaws
import Derived.Lay
import Derived.LaidOnce
import Derived.OpenShut
import Derived.ChangeSame
import Derived.SizedLaws
import Derived.Stop.LaidErr
import Derived.Lib.LaidU8
import Derived.Test.YtodagkkjfipbgaaGreatDoorT58toTp
namespace Go.Proofs.YtodagkkjfipbgaaGreatDoor
open Go.RowKit Go.Maps Go.Lib
def bsB:Nat→ByteArray
 | 0=>⟨#[]⟩
 | i+1=>bsB i++⟨#[32,98]⟩
def seB:Nat→ByteArray
 | 0=>⟨#[120,97]⟩
 | i+1=>seB i++⟨#[98]⟩
theorem bsB_late:∀ n,1≤n→n≤4→(⟨lateHead.toArray⟩++bsB n)++⟨#[59]⟩=lateT n:=oneToFour (by kernel_rfl) (by kernel_rfl) (by kernel_rfl) (by kernel_rfl)
theorem seB_late:∀ n,n<4→seB n=lateS n:=toThree (by kernel_rfl) (by kernel_rfl) (by kernel_rfl) (by kernel_rfl)
theorem seB_late2:∀ n,n<4→joinB [seB n,⟨#[120]⟩]=lateX n:=toThree (by kernel_rfl) (by kernel_rfl) (by kernel_rfl) (by kernel_rfl)
structure LateIn (w:World) (g:Nat) (T:ByteArray) (H:List Hd) (V:List Vw) (L:List (Int × Int × Nat)):Prop where
 ins:∃ vE vJ vP vH vV,RulesIn w g T vE vJ vP vH vV L
 env:FEnv w g H V L KsL
 rul:RulP (read2 T).2 L KsL H V
 perm:L.Perm lateL
theorem late_in {T:ByteArray} {w:World} {v:Value} (h:RulesAt T w v) (h0:(rdT T).err=0) (hl:(read1 T).l=lateL) (hV:VarsOk w):∃ g H V L,v=.pointer (some ⟨g,0,none⟩)∧LateIn w g T H V L:=by
 obtain ⟨g,vE,vJ,vP,vH,vV,L,rfl,hR⟩:=h
 obtain ⟨H,V,hE,hU⟩:=rules_stream hR h0 hV
 have hp:L.Perm lateL:=by rw [← hl];exact hR.perm
 rw [late_poss hp] at hE hU
 exact ⟨g,H,V,L,rfl,⟨_,_,_,_,_,hR⟩,hE,hU,hp⟩
theorem LateIn.below {w w':World} {g:Nat} {T:ByteArray} {H:List Hd} {V:List Vw} {L:List (Int × Int × Nat)} (h:LateIn w g T H V L) (b:Below w.heap.size w w'):LateIn w' g T H V L:=by
 obtain ⟨⟨vE,vJ,vP,vH,vV,this⟩,hE,hU,hp⟩:=h
 exact ⟨⟨vE,vJ,vP,vH,vV,(b.block _ (heap_lt this.blk)).trans this.blk,this.perm,this.row,row_kp this.tab (Kp.below b),this.judge.kp (Kp.below b) (Kp.below b),this.out.below b,this.ok,this.few,this.spans⟩,hE.below b,hU,hp⟩
theorem LateIn.delay {w:World} {g:Nat} {T:ByteArray} {H:List Hd} {V:List Vw} {L:List (Int × Int × Nat)} (h:LateIn w g T H V L):Calls Tryz.prog 31 #[.pointer (some ⟨g,0,none⟩)] w fun r w'=>(∃ z:Int,r=.returned (.int .i64 z)∧delayIs V KsL z)∧Below w.heap.size w w':=by
 obtain ⟨⟨vE,vJ,vP,vH,vV,hI⟩,hE,hU,hp⟩:=h
 have e:=late_poss hp
 rw [← e] at hE hU ⊢
 exact rules_delay hI hE hU
theorem lateW_snoc (k:Nat):lateW (k+1)=lateW k++[⟨#[98]⟩]:=by
 unfold lateW
 rw [List.replicate_succ',List.append_assoc]
set_option maxRecDepth 100000 in
set_option maxHeartbeats 16000000 in
theorem late_pr (a b:Int) (w:World) (hV:VarsOk w) (ha1:-9223372036854775808≤a) (ha2:a≤9223372036854775807) (hb1:-9223372036854775808≤b) (hb2:b≤9223372036854775807) :
  Calls Tryz.prog 12 #[.int .i64 a,.int .i64 b] w fun r w'=>r=.returned (.bool true)∧Below w.heap.size w w':=by
 have HV:Hid (VarsOk w):=hV
 have hp1:=pick_any a 4 w ha1 ha2 (by decide) (by decide)
 have l1:=pickP_lt a (n:=4) (by decide)
 generalize pickP a 4=n0 at hp1 l1
 obtain ⟨n,hn⟩:∃ n:Nat,(n:Int)=1+(n0:Int):=⟨1+n0,by omega⟩
 have hn1:1≤n:=by omega
 have hn2:n≤4:=by omega
 have HN:Hid ((n:Int)=1+(n0:Int)):=hn
 clear hV ha1 ha2 hn
 go_enter Tryz.func12,Tryz.ntmps12
 go_wp2_with fail
 refine hp1.mono ?_
 rintro r W ⟨rfl,rfl⟩
 clear hp1
 go_wp2_with fail
 rw [← HN.out]
 clear l1 HN
 go_loopg [5,7] n (fun gh rv iv wx=>∃ (i:Nat) (x:ByteArray),i≤n∧gh=n - i∧rv=.string x∧iv=.int .i64 i∧Hid (x=bsB i)∧x.size=2 * i∧wx=W)
 case atStart=>exact ⟨0,⟨#[]⟩,Nat.zero_le _,rfl,rfl,rfl,rfl,rfl,rfl⟩
 case round =>
  obtain ⟨i,x,hi,rfl,rfl,rfl,hx,hxs,rfl⟩:=hrel
  by_cases hlt:i<n
  ·have hd1:decide ((i:Int)<(n:Int))=true:=decide_eq_true (by omega)
   go_wp2_with fail
   go_roundg (n - (i+1))
   case measure=>omega
   case rel=>exact ⟨i+1,x++⟨#[32,98]⟩,by omega,rfl,rfl,by go_num,by show _=_;rw [hx.out];rfl,by rw [ByteArray.size_append,hxs];rfl,rfl⟩
  ·obtain rfl:i=n:=by omega
   obtain ⟨w0,hw0⟩:∃ w0,w0=wr:=⟨wr,rfl⟩
   subst hw0
   have HT:Hid ((⟨lateHead.toArray⟩++x)++⟨#[59]⟩=lateT i):=by show _=_;rw [hx.out];exact bsB_late i hn1 hn2
   have hr1:=keepRules_ok (lateT i) w0 HV.out.errs (by rw [← HT.out,ByteArray.size_append,ByteArray.size_append,hxs];have:(⟨lateHead.toArray⟩:ByteArray).size=36:=rfl;rw [this];have:(⟨#[59]⟩:ByteArray).size=1:=rfl;omega) (late_read i hn1 hn2)
   rw [← HT.out] at hr1
   have hd1:decide ((i:Int)<(i:Int))=false:=decide_eq_false (by omega)
   clear hx hi
   go_wp2_with fail
   refine hr1.mono ?_
   rintro r w1 ⟨⟨v1,rfl,h1⟩,b1⟩
   rw [HT.out] at h1
   have B1:Hid (Below w0.heap.size w0 w1):=b1
   obtain ⟨g1,H1,V1,L1,rfl,hI1⟩:=late_in h1 (late_read i hn1 hn2) (late_l i hn1 hn2) (HV.out.below b1)
   have I1:Hid (LateIn w1 g1 (lateT i) H1 V1 L1):=hI1
   have hr2:=keepRules_ok lateE w1 (HV.out.below b1).errs (by decide) lateE_read
   clear hr1 h1 hI1 b1 HT hd1 hxs
   go_wp2_with fail
   refine hr2.mono ?_
   rintro r w2 ⟨⟨v2,rfl,h2⟩,b2⟩
   have B2:Hid (Below w0.heap.size w0 w2):=B1.out.trans (b2.mono B1.out.size)
   have I2:Hid (LateIn w2 g1 (lateT i) H1 V1 L1):=I1.out.below b2
   obtain ⟨g2,H2,V2,L2,rfl,hE2⟩:=late_in h2 lateE_read lateE_l (HV.out.below B2.out)
   have E2:Hid (LateIn w2 g2 lateE H2 V2 L2):=hE2
   have hr3:=keepRules_ok lateF w2 (HV.out.below B2.out).errs (by decide) lateF_read
   clear hr2 h2 hE2 b2 I1 B1
   go_wp2_with fail
   refine hr3.mono ?_
   rintro r w3 ⟨⟨v3,rfl,h3⟩,b3⟩
   have B3:Hid (Below w0.heap.size w0 w3):=B2.out.trans (b3.mono B2.out.size)
   have I3:Hid (LateIn w3 g1 (lateT i) H1 V1 L1):=I2.out.below b3
   have E3:Hid (LateIn w3 g2 lateE H2 V2 L2):=E2.out.below b3
   obtain ⟨g3,H3,V3,L3,rfl,hF3⟩:=late_in h3 lateF_read lateF_l (HV.out.below B3.out)
   have F3:Hid (LateIn w3 g3 lateF H3 V3 L3):=hF3
   have hd:=I3.out.delay
   clear hr3 h3 hF3 b3 I2 E2 B2
   go_wp2_with fail
   refine hd.mono ?_
   rintro r w4 ⟨⟨z,rfl,hz⟩,b4⟩
   obtain rfl:=delay_late hn1 hn2 I3.out.rul hz
   have B4:Hid (Below w0.heap.size w0 w4):=B3.out.trans (b4.mono B3.out.size)
   have I4:Hid (LateIn w4 g1 (lateT i) H1 V1 L1):=I3.out.below b4
   have E4:Hid (LateIn w4 g2 lateE H2 V2 L2):=E3.out.below b4
   have F4:Hid (LateIn w4 g3 lateF H3 V3 L3):=F3.out.below b4
   have hd5:=E4.out.delay
   clear hd hz b4 I3 E3 F3 B3
   go_wp2_with fail
   refine hd5.mono ?_
   rintro r w5 ⟨⟨z,rfl,hz⟩,b5⟩
   obtain rfl:=delay_e E4.out.rul hz
   have B5:Hid (Below w0.heap.size w0 w5):=B4.out.trans (b5.mono B4.out.size)
   have I5:Hid (LateIn w5 g1 (lateT i) H1 V1 L1):=I4.out.below b5
   have F5:Hid (LateIn w5 g3 lateF H3 V3 L3):=F4.out.below b5
   have hd6:=F5.out.delay
   clear hd5 hz b5 I4 E4 F4 B4
   go_wp2_with fail
   refine hd6.mono ?_
   rintro r w6 ⟨⟨z,rfl,hz⟩,b6⟩
   obtain rfl:=delay_f F5.out.rul hz
   have B6:Hid (Below w0.heap.size w0 w6):=B5.out.trans (b6.mono B5.out.size)
   have I6:Hid (LateIn w6 g1 (lateT i) H1 V1 L1):=I5.out.below b6
   have hp2:=pick_any b i w6 hb1 hb2 hn1 (by omega)
   have l2:=pickP_lt b (n:=i) hn1
   generalize pickP b i=m at hp2 l2
   clear hd6 hz b6 I5 F5 B5 hb1 hb2
   go_wp2_with fail
   refine hp2.mono ?_
   rintro r W7 ⟨rfl,rfl⟩
   clear hp2
   go_wp2_with fail
   go_loopg [6,12] m (fun gh sv jv wx=>∃ (j:Nat) (y:ByteArray),j≤m∧gh=m - j∧sv=.string y∧jv=.int .i64 j∧Hid (y=seB j)∧y.size=2+j∧wx=W7)
   case atStart=>exact ⟨0,⟨#[120,97]⟩,Nat.zero_le _,rfl,rfl,rfl,rfl,rfl,rfl⟩
   case round =>
    obtain ⟨j,y,hj,rfl,rfl,rfl,hy,hys,rfl⟩:=hrel
    by_cases hlt2:j<m
    ·have hd1:decide ((j:Int)<(m:Int))=true:=decide_eq_true (by omega)
     go_wp2_with fail
     go_roundg (m - (j+1))
     case measure=>omega
     case rel=>exact ⟨j+1,y++⟨#[98]⟩,by omega,rfl,rfl,by go_num,by show _=_;rw [hy.out];rfl,by rw [ByteArray.size_append,hys];rfl,rfl⟩
    ·obtain rfl:j=m:=by omega
     obtain ⟨w7,hw7⟩:∃ w7,w7=wr:=⟨wr,rfl⟩
     subst hw7
     have hd1:decide ((j:Int)<(j:Int))=false:=decide_eq_false (by omega)
     have HY1:Hid (joinB [y]=lateS j):=by show _=_;rw [joinB_one,hy.out];exact seB_late j (by omega)
     have HY2:Hid (joinB [y,⟨#[120]⟩]=lateX j):=by show _=_;rw [hy.out];exact seB_late2 j (by omega)
     have SZ1:Hid ((joinB [y]).size≤5000):=by show _≤_;rw [joinB_one];omega
     have SZ2:Hid ((joinB [y,⟨#[120]⟩]).size≤5000):=by
      show _≤_
      rw [show [y,(⟨#[120]⟩:ByteArray)]=[y]++[⟨#[120]⟩] from rfl,joinB_snoc,ByteArray.size_append,joinB_one]
      have:(⟨#[120]⟩:ByteArray).size=1:=rfl
      omega
     obtain ⟨W8,hW8⟩:∃ W8,W8=w7.alloc (.cells #[.string y] 9):=⟨_,rfl⟩
     have HW8:Hid (W8=w7.alloc (.cells #[.string y] 9)):=hW8
     have b8:Below w7.heap.size w7 W8:=by rw [hW8];exact below_alloc w7 _
     have own8:W8.ownsRow 0 9 1 (.slice (some ⟨w7.heap.size,0,none⟩) 1 1) [y].length (strCells [y]):=by
      rw [hW8]
      exact ⟨rfl,Or.inr ⟨w7.heap.size,1,#[.string y],rfl,Nat.zero_le _,heap_alloc_new w7 _,Nat.le_refl _,by decide,rfl,rfl⟩⟩
     have B8:Hid (Below w0.heap.size w0 W8):=B6.out.trans (b8.mono B6.out.size)
     have I8:Hid (LateIn W8 g1 (lateT i) H1 V1 L1):=I6.out.below b8
     have hf:=kflow_any W8 g1 H1 V1 L1 KsL I8.out.env [y] _ _ own8 SZ1.out (by show 1≤1500000;omega) false
     clear hW8 b8 own8 hy hj B6 I6 SZ1
     go_wp2_with fail
     rw [← HW8.out]
     refine hf.mono ?_
     rintro r w9 ⟨v9,l,C9,l9,s9,rfl,hrow9,hl9,b9,hR9,e9⟩
     rw [HY1.out] at hR9
     rw [if_neg (by simp)] at e9
     subst e9
     obtain rfl:=late_rest hn1 hn2 l2 I8.out.perm I8.out.rul hR9
     obtain ⟨ao9,cap9,rfl⟩:=row_shape hrow9
     have B9:Hid (Below w0.heap.size w0 w9):=B8.out.trans (b9.mono B8.out.size)
     have I9:Hid (LateIn w9 g1 (lateT i) H1 V1 L1):=I8.out.below b9
     have R9:Hid (w9.ownsRow W8.heap.size 9 1 (.slice ao9 1 cap9) [(⟨#[120]⟩:ByteArray)].length (strCells [⟨#[120]⟩])):=hrow9
     obtain ⟨W10,hW10⟩:∃ W10,W10=w9.alloc (.cells #[.string y,.string ⟨#[120]⟩] 9):=⟨_,rfl⟩
     have HW10:Hid (W10=w9.alloc (.cells #[.string y,.string ⟨#[120]⟩] 9)):=hW10
     have b10:Below w9.heap.size w9 W10:=by rw [hW10];exact below_alloc w9 _
     have own10:W10.ownsRow 0 9 1 (.slice (some ⟨w9.heap.size,0,none⟩) 2 2) [y,(⟨#[120]⟩:ByteArray)].length (strCells [y,⟨#[120]⟩]):=by
      rw [hW10]
      exact ⟨rfl,Or.inr ⟨w9.heap.size,2,#[.string y,.string ⟨#[120]⟩],rfl,Nat.zero_le _,heap_alloc_new w9 _,Nat.le_refl _,by decide,rfl,rfl⟩⟩
     have B10:Hid (Below w0.heap.size w0 W10):=B9.out.trans (b10.mono B9.out.size)
     have I10:Hid (LateIn W10 g1 (lateT i) H1 V1 L1):=I9.out.below b10
     have R10:Hid (W10.ownsRow W8.heap.size 9 1 (.slice ao9 1 cap9) [(⟨#[120]⟩:ByteArray)].length (strCells [⟨#[120]⟩])):=row_kp R9.out (Kp.below b10)
     have hf2:=kflow_any W10 g1 H1 V1 L1 KsL I10.out.env [y,⟨#[120]⟩] _ _ own10 SZ2.out (by show 2≤1500000;omega) false
     clear hf hrow9 hl9 b9 hR9 hW10 b10 own10 HW8 B8 B9 I8 I9 R9 HY1 SZ2
     go_wp2_with fail
     rw [← HW10.out]
     refine hf2.mono ?_
     rintro r w11 ⟨v11,l,C11,l11,s11,rfl,hrow11,hl11,b11,hR11,e11⟩
     rw [HY2.out] at hR11
     rw [if_neg (by simp)] at e11
     subst e11
     have eW:=late_all hn1 hn2 l2 I10.out.perm I10.out.rul hR11
     obtain ⟨ao11,cap11,rfl⟩:=row_shape hrow11
     have EL:Hid (l=lateW j++[⟨#[120]⟩]):=eW
     have hll:l.length≤100:=by rw [eW];unfold lateW;simp;omega
     have B11:Hid (Below w0.heap.size w0 w11):=B10.out.trans (b11.mono B10.out.size)
     have R11:Hid (w11.ownsRow W8.heap.size 9 1 (.slice ao9 1 cap9) [(⟨#[120]⟩:ByteArray)].length (strCells [⟨#[120]⟩])):=row_kp R10.out (Kp.below b11)
     have Q11:Hid (w11.ownsRow W10.heap.size 9 1 (.slice ao11 l.length cap11) l.length (strCells l)):=hrow11
     obtain ⟨W12,hW12⟩:∃ W12,W12=w11.alloc (.cells #[.string ⟨#[120]⟩,.string ⟨#[97]⟩] 9):=⟨_,rfl⟩
     have HW12:Hid (W12=w11.alloc (.cells #[.string ⟨#[120]⟩,.string ⟨#[97]⟩] 9)):=hW12
     have b12:Below w11.heap.size w11 W12:=by rw [hW12];exact below_alloc w11 _
     have O12:Hid (W12.ownsRow w11.heap.size 9 1 (.slice (some ⟨w11.heap.size,0,none⟩) 2 2) 2 (strCells (lateW 0))):=by
      show World.ownsRow _ _ _ _ _ _ _
      rw [hW12]
      exact ⟨rfl,Or.inr ⟨w11.heap.size,2,#[.string ⟨#[120]⟩,.string ⟨#[97]⟩],rfl,Nat.le_refl _,heap_alloc_new w11 _,Nat.le_refl _,by decide,rfl,rfl⟩⟩
     clear hf2 hrow11 hl11 b11 hR11 eW hW12 HW10 B10 I10 R10 HY2
     go_wp2_with fail
     rw [← HW12.out]
     have BW:Hid (Below w11.heap.size w11 W12):=b12
     have hj4:j≤4:=by omega
     clear b12 HW12 hys l2 hn1
     go_loopg [17,18] j (fun gh sv kv wx=>∃ (k:Nat) (D:List ByteArray) (ao:Option Addr) (cap:Nat),k≤j∧gh=j - k∧sv=.slice ao D.length cap∧kv=.int .i64 k∧Hid (D=lateW k)∧Hid (D.length=2+k)∧Hid (wx.ownsRow w11.heap.size 9 1 (.slice ao D.length cap) D.length (strCells D))∧Hid (Below w11.heap.size w11 wx))
     case atStart=>exact ⟨0,lateW 0,some ⟨w11.heap.size,0,none⟩,2,Nat.zero_le _,rfl,rfl,rfl,rfl,rfl,O12,BW⟩
     case round =>
      obtain ⟨k,D,ao,cap,hk,rfl,rfl,rfl,hD,hDl,hW,hB⟩:=hrel
      obtain ⟨w13,hw13⟩:∃ w13,w13=wr:=⟨wr,rfl⟩
      subst hw13
      have hDb:D.length≤100:=by have:=hDl.out;omega
      by_cases hlt3:k<j
      ·have hd1:decide ((k:Int)<(j:Int))=true:=decide_eq_true (by omega)
       have R1:Hid ((w13.alloc (.cells #[.string ⟨#[98]⟩] 9)).ownsRow w11.heap.size 9 1 (.slice ao D.length cap) D.length (strCells D)):=row_kp hW.out (Kp.below (below_alloc w13 _))
       have NW:Hid (∀ (q:Nat) (u:Value),[Value.string ⟨#[98]⟩][q]?=some u→(w13.alloc (.cells #[.string ⟨#[98]⟩] 9)).cell? ⟨w13.heap.size,q,none⟩=some u):=fun q u hu=>cell_of_block (heap_alloc_new w13 _) q u (by simpa using hu)
       have BA:Hid (Below w11.heap.size w11 (w13.alloc (.cells #[.string ⟨#[98]⟩] 9))):=hB.out.alloc hB.out.size _
       have LA:w11.heap.size≤(w13.alloc (.cells #[.string ⟨#[98]⟩] 9)).heap.size:=BA.out.size
       have ND:Hid (D++[⟨#[98]⟩]=lateW (k+1)):=by show _=_;rw [lateW_snoc,hD.out]
       clear hW hB hD
       go_wp2_with (at_builtin;refine wpList_push2 rfl (.tmp 91) (.tmp 92) 30 rfl w11.heap.size 9 (.string ⟨#[]⟩) 1 16 Tryz.infoSg Tryz.undSg rfl (by decide) (.slice ao D.length cap) D.length (strCells D) rfl R1.out w13.heap.size 1 [.string ⟨#[98]⟩] rfl rfl NW.out (one_str _) (by omega) (by omega) LA ?_;intro v' W3 hown hgr hsn;obtain ⟨ao',cap',rfl⟩:=row_shape hown;have HR:Hid (W3.ownsRow w11.heap.size 9 1 (.slice ao' (D.length+1) cap') (D.length+1) (strCells D++[.string ⟨#[98]⟩])):=hown;have B3:Hid (Below w11.heap.size w11 W3):=BA.out.grown hgr LA (fun k hk=>(R1.out.lt k hk).1);clear hown hgr hsn)
       go_roundg (j - (k+1))
       case measure=>omega
       case rel =>
        refine ⟨k+1,D++[⟨#[98]⟩],ao',cap',by omega,rfl,by rw [List.length_append];rfl,by go_num,ND,by show _=_;rw [List.length_append,hDl.out];rfl,?_,B3⟩
        rw [List.length_append,strCells_snoc]
        exact HR
      ·obtain rfl:k=j:=by omega
       have hd1:decide ((k:Int)<(k:Int))=false:=decide_eq_false (by omega)
       have B13:Hid (Below w0.heap.size w0 w13):=B11.out.trans (hB.out.mono B11.out.size)
       have R13:Hid (w13.ownsRow W8.heap.size 9 1 (.slice ao9 1 cap9) [(⟨#[120]⟩:ByteArray)].length (strCells [⟨#[120]⟩])):=row_kp R11.out (Kp.below hB.out)
       have Q13:Hid (w13.ownsRow W10.heap.size 9 1 (.slice ao11 l.length cap11) l.length (strCells l)):=row_kp Q11.out (Kp.below hB.out)
       obtain ⟨W14,hW14⟩:∃ W14,W14=w13.alloc (.cells #[.string ⟨#[120]⟩] 9):=⟨_,rfl⟩
       have HW14:Hid (W14=w13.alloc (.cells #[.string ⟨#[120]⟩] 9)):=hW14
       have b14:Below w13.heap.size w13 W14:=by rw [hW14];exact below_alloc w13 _
       have own14:W14.ownsRow 0 9 1 (.slice (some ⟨w13.heap.size,0,none⟩) 1 1) [(⟨#[120]⟩:ByteArray)].length (strCells [⟨#[120]⟩]):=by
        rw [hW14]
        exact ⟨rfl,Or.inr ⟨w13.heap.size,1,#[.string ⟨#[120]⟩],rfl,Nat.zero_le _,heap_alloc_new w13 _,Nat.le_refl _,by decide,rfl,rfl⟩⟩
       have hs1:=same_eq _ _ _ _ [⟨#[120]⟩] W14 (row_kp R13.out (Kp.below b14)) own14 (by show 1≤1500000;omega)
       have D14:Hid (W14.ownsRow w11.heap.size 9 1 (.slice ao D.length cap) D.length (strCells D)):=row_kp hW.out (Kp.below b14)
       have C14:Hid (Below w11.heap.size w11 W14):=hB.out.trans (b14.mono hB.out.size)
       have Q14:Hid (W14.ownsRow W10.heap.size 9 1 (.slice ao11 l.length cap11) l.length (strCells l)):=row_kp Q13.out (Kp.below b14)
       clear hW14 b14 own14 hW hB hk R13 Q13 B13
       go_wp2_with fail
       rw [← HW14.out]
       refine hs1.mono ?_
       rintro r w15 ⟨rfl,b15⟩
       have D15:Hid (w15.ownsRow w11.heap.size 9 1 (.slice ao D.length cap) D.length (strCells D)):=row_kp D14.out (Kp.below b15)
       have C15:Hid (Below w11.heap.size w11 w15):=C14.out.trans (b15.mono C14.out.size)
       have R1:Hid ((w15.alloc (.cells #[.string ⟨#[120]⟩] 9)).ownsRow w11.heap.size 9 1 (.slice ao D.length cap) D.length (strCells D)):=row_kp D15.out (Kp.below (below_alloc w15 _))
       have NW:Hid (∀ (q:Nat) (u:Value),[Value.string ⟨#[120]⟩][q]?=some u→(w15.alloc (.cells #[.string ⟨#[120]⟩] 9)).cell? ⟨w15.heap.size,q,none⟩=some u):=fun q u hu=>cell_of_block (heap_alloc_new w15 _) q u (by simpa using hu)
       have BA:Hid (Below w11.heap.size w11 (w15.alloc (.cells #[.string ⟨#[120]⟩] 9))):=C15.out.alloc C15.out.size _
       have LA:w11.heap.size≤(w15.alloc (.cells #[.string ⟨#[120]⟩] 9)).heap.size:=BA.out.size
       have ND:Hid (D++[⟨#[120]⟩]=l):=by show _=_;rw [EL.out,hD.out]
       clear hs1 b15 D14 C14 Q14 HW14 D15 C15 hD EL
       go_wp2_with (at_builtin;refine wpList_push2 rfl (.tmp 98) (.tmp 99) 30 rfl w11.heap.size 9 (.string ⟨#[]⟩) 1 16 Tryz.infoSg Tryz.undSg rfl (by decide) (.slice ao D.length cap) D.length (strCells D) rfl R1.out w15.heap.size 1 [.string ⟨#[120]⟩] rfl rfl NW.out (one_str _) (by omega) (by omega) LA ?_;intro v' W3 hown hgr hsn;obtain ⟨ao',cap',rfl⟩:=row_shape hown;have HR:Hid (W3.ownsRow w11.heap.size 9 1 (.slice ao' (D.length+1) cap') (D.length+1) (strCells D++[.string ⟨#[120]⟩])):=hown;have B3:Hid (Below w11.heap.size w11 W3):=BA.out.grown hgr LA (fun k hk=>(R1.out.lt k hk).1);clear hown hgr hsn R1 NW BA LA)
       obtain ⟨W16,hW16⟩:∃ W16,W16=W3:=⟨_,rfl⟩
       subst hW16
       have hs2:=same_eq W10.heap.size w11.heap.size (.slice ao11 l.length cap11) (.slice ao' (D.length+1) cap') l W16 (row_kp Q11.out (Kp.below B3.out)) (by rw [← ND.out,List.length_append,strCells_snoc];exact HR.out) (by omega)
       go_wp2_with fail
       refine hs2.mono ?_
       rintro r w17 ⟨rfl,b17⟩
       have B17:Hid (Below w0.heap.size w0 w17):=by
        have h9:Below w11.heap.size w11 w17:=B3.out.trans (b17.mono B3.out.size)
        exact B11.out.trans (h9.mono B11.out.size)
       clear hs2 b17 B3 HR ND
       go_wp2_with fail
       go_ret
       exact ⟨rfl,B17.out⟩
end Go.Proofs.YtodagkkjfipbgaaGreatDoor
namespace Go.Proofs.YtodagkkjfipbgaaGreatDoor
open Go.ChangeShapes Go.WideShapes Go.ChangeAt Go.RowKit
theorem tSU:(Tryz.prog.globals[0]?).map (·.type)=some 171:=by kernel_rfl
theorem laid_sur {n:String} {r:List (String × DataW Unit)} {W:World} (h:laidMet Tryz.prog ((n,Rows.laid_cleave_kinds_surrogates) :: r) W) (gSU:Tryz.prog.globalNamed n=some 0):W.cell? ⟨0,0,none⟩=some (.int .i32 55296)∧W.cell? ⟨0,1,none⟩=some (.int .i32 57343):=by
 obtain ⟨ps,⟨g0,t0,cs0,f0,p0,q0,hg0,ht0,hv0,hd0,_,e0⟩,_,_⟩:=h
 obtain rfl:=Option.some.inj (gSU.symm.trans hg0)
 obtain rfl:=Option.some.inj (tSU.symm.trans ht0)
 have c1:Tryz.prog.cellsOf 21=1:=by kernel_rfl
 obtain ⟨y0,y1,m,ex,hl,h0,h1⟩:=trod_struct2 Tryz.underlying171 hd0
 have c2:Tryz.prog.cellsOf 171=2:=by kernel_rfl
 rw [c2] at hl
 have e1:=(Prod.mk.inj ex).1
 unfold Rows.laid_cleave_kinds_surrogates at e1
 injection e1 with e1
 injection e1 with ea e1
 injection e1 with eb _
 simp only [c1] at h0 h1
 obtain ⟨a,a0,a1,_⟩:=DataW.trod_int Tryz.underlying21 h0
 obtain ⟨b,b0,b1,_⟩:=DataW.trod_int Tryz.underlying21 h1
 rw [a1] at ea
 rw [b1] at eb
 have hza:a=55296:=by simpa using ea.symm
 have hzb:b=57343:=by simpa using eb.symm
 subst hza
 subst hzb
 obtain ⟨l⟩:=cs0
 match l,hl with
 | [x,y],_ =>
  simp at a0 b0
  subst a0
  subst b0
  exact ⟨by rw [World.var?_cell gSU hv0 0];rfl,by rw [World.var?_cell gSU hv0 1];rfl⟩
theorem ownW:ownKnob Tryz.prog.godebug=none:=by kernel_rfl
theorem gESW : Tryz.prog.globalNamed "strconv.ErrSyntax" = some 6 := by kernel_rfl
theorem gERW : Tryz.prog.globalNamed "strconv.ErrRange" = some 7 := by kernel_rfl
theorem tESW:(Tryz.prog.globals[6]?).map (·.type)=some 332:=by kernel_rfl
theorem tERW:(Tryz.prog.globals[7]?).map (·.type)=some 332:=by kernel_rfl
theorem laid_ifaceW {n nm:String} {d:DataW Unit} {r:List (String × DataW Unit)} {W:World} {g:Nat} {ti:TypeId} {ms:Array (String × TypeId)}
  (h:laidMet Tryz.prog ((n,.iface nm d) :: r) W) (hg:Tryz.prog.globalNamed n=some g) (ht:(Tryz.prog.globals[g]?).map (·.type)=some ti) (hi:Tryz.prog.underlying ti=some (.interface ms)) :
  ∃ u v,W.cell? ⟨g,0,none⟩=some (.iface u v):=by
 obtain ⟨ps,⟨g0,t0,cs0,f0,p0,q0,hg0,ht0,hv0,hd0,_,e0⟩,_,_⟩:=h
 obtain rfl:=Option.some.inj (hg.symm.trans hg0)
 obtain rfl:=Option.some.inj (ht.symm.trans ht0)
 obtain ⟨_,u,v,hcs,_,_⟩:=iface_of_trod hi hd0
 refine ⟨u,v,?_⟩
 rw [World.var?_cell hg hv0 0]
 obtain ⟨l⟩:=cs0
 simp at hcs
 subst hcs
 rfl
theorem u8x:U8Extra Tryz.prog Tryz.laysDec_ren:=⟨by kernel_rfl,by kernel_rfl,by kernel_rfl,by kernel_rfl,by kernel_rfl,by kernel_rfl,by kernel_rfl⟩
theorem firstIs:Rows.laid_unicode_utf8_first=Lib.firstData:=by kernel_rfl
theorem acceptIs:Rows.laid_unicode_utf8_acceptRanges=Lib.acceptData:=by kernel_rfl
theorem utf_laid {l : List (String × DataW Unit)} {W : World} (h : laidMet Tryz.prog l W) (h1 : ("unicode/utf8.first", Rows.laid_unicode_utf8_first) ∈ l) (h2 : ("unicode/utf8.acceptRanges", Rows.laid_unicode_utf8_acceptRanges) ∈ l) :
  Lib.Utf8Tabs 2 3 W∧(2<W.heap.size∧3<W.heap.size):=by
 rw [firstIs] at h1
 rw [acceptIs] at h2
 have hT:=utf8Tabs_of_reads { Tryz.laysDec with } u8x (Lib.laidMet.reads h h1) (Lib.laidMet.reads h h2)
 rw [show Tryz.laysDec_ren.g 3=2 from by kernel_rfl,show Tryz.laysDec_ren.g 4=3 from by kernel_rfl] at hT
 exact ⟨hT,cell_lt (hT.1 0 (by omega)),cell_lt (hT.2 0 (by omega)).1⟩
theorem vars_laid {W : World} {a b c : String × DataW Unit} {l : List (String × DataW Unit)} (h : laidMet Tryz.prog (a :: b :: c :: ("unicode/utf8.acceptRanges", Rows.laid_unicode_utf8_acceptRanges) :: ("cleave/kinds.surrogates", Rows.laid_cleave_kinds_surrogates) :: ("strconv.ErrRange", Rows.laid_strconv_ErrRange) :: ("strconv.ErrSyntax", Rows.laid_strconv_ErrSyntax) :: ("unicode/utf8.first", Rows.laid_unicode_utf8_first) :: l) W) : VarsOk W := by
 have hU:=utf_laid h (List.mem_of_getElem? (i:=7) rfl) (List.mem_of_getElem? (i:=3) rfl)
 exact ⟨⟨laid_ifaceW h.tail.tail.tail.tail.tail.tail gESW tESW Tryz.underlying332,laid_ifaceW h.tail.tail.tail.tail.tail gERW tERW Tryz.underlying332,laid_sur h.tail.tail.tail.tail (by kernel_rfl)⟩,hU.1,hU.2⟩
end Go.Proofs.YtodagkkjfipbgaaGreatDoor
