import Derived.Test.YtodagkkjfipbgaaGreatDoorRows
import Derived.ProofKit
import Derived.LaidLaws
import Derived.Lay
import Derived.LaidOnce
import Derived.OpenShut
import Derived.ChangeSame
import Derived.SizedLaws
import Derived.Stop.LaidErr
import Derived.Lib.LaidU8
import Derived.SliceStrings
import Derived.Test.YtodagkkjfipbgaaGreatDoorT41toT42
namespace Go.Proofs.YtodagkkjfipbgaaGreatDoor
open Go.RowKit Go.Maps Go.Lib
theorem row_take {w:World} {base g n cap m:Nat} {e:TypeId} {us:List Value} (h:w.ownsRow base e 1 (.slice (some ⟨g,0,none⟩) n cap) n us) (hm:m≤n):w.ownsRow base e 1 (.slice (some ⟨g,0,none⟩) m cap) m (us.take m):=by
 obtain ⟨h1,h2⟩:=h
 refine ⟨by rw [List.length_take];omega,?_⟩
 rcases h2 with ⟨e1,_⟩ | ⟨q,c,cur,e1,hb,hh,hc,hm2,hs,ht⟩
 ·cases e1
 ·injection e1 with e1 _ e2
  injection e1 with e1
  injection e1 with e1 _ _
  subst e1
  subst e2
  refine Or.inr ⟨g,cap,cur,rfl,hb,hh,by omega,hm2,hs,?_⟩
  rw [← ht,List.take_take,Nat.mul_one,Nat.mul_one,Nat.min_eq_left hm]
def safeX (more:ByteArray):List ByteArray:=[⟨#[]⟩,more,more++more,⟨#[233]⟩,⟨#[97]⟩]
theorem safeX_size (more:ByteArray):∀ x ∈ safeX more,x.size≤2 * more.size+1:=by
 intro x hx
 unfold safeX at hx
 simp at hx
 rcases hx with rfl | rfl | rfl | rfl | rfl
 ·show 0≤_;omega
 ·omega
 ·rw [ByteArray.size_append];omega
 ·show 1≤_;omega
 ·show 1≤_;omega
theorem pre_take {l all:List ByteArray} (h:l <+: all):all.take l.length=l:=(List.prefix_iff_eq_take.1 h).symm
set_option maxRecDepth 100000 in
set_option maxHeartbeats 16000000 in
theorem safe_pr (T more:ByteArray) (v:Value) (P:List ByteArray) (w:World) (hV:VarsOk w) (hA:ArgS w v P) (hT:T.size≤140737488351232) (hl:P.length≤1500000) (hsz:(joinB P).size≤1500000) (hmo:more.size≤1048576) :
  Calls Tryz.prog 10 #[.string T,v,.string more] w fun r w'=>r=.returned (.bool true)∧Below w.heap.size w w':=by
 obtain ⟨aoP,capP,rfl⟩:=hA.shape
 have HV:Hid (VarsOk w):=hV
 have HA:Hid (ArgS w (.slice aoP P.length capP) P):=hA
 have hg:=given_any T w hV hT
 clear hV hA
 go_enter Tryz.func10,Tryz.ntmps10
 go_wp2_with fail
 refine hg.mono ?_
 rintro r w1 ⟨⟨v1,rfl,h1,h2⟩,b1⟩
 have B1:Hid (Below w.heap.size w w1):=b1
 by_cases e0:(rdT T).err=0
 ·have hR1:=h1 e0
  obtain ⟨g,rfl⟩:∃ g,v1=.pointer (some ⟨g,0,none⟩):=by
   obtain ⟨g,_,_,_,_,_,_,e,_⟩:=hR1
   exact ⟨g,e⟩
  obtain ⟨vE,vJ,vP,vH,vV,L,H,V,hI,hE,hU⟩:=hR1.stream e0 (HV.out.below b1)
  have V1:Hid (VarsOk w1):=HV.out.below b1
  have RI:Hid (RulesIn w1 g T vE vJ vP vH vV L):=hI
  have EE:Hid (FEnv w1 g H V L (possOf L)):=hE
  have UU:Hid (RulP (read2 T).2 L (possOf L) H V):=hU
  have hA1:ArgS w1 (.slice aoP P.length capP) P:=by
   rcases HA.out with h9 | ⟨a,cap,e9,h9⟩
   ·exact Or.inl h9
   ·exact Or.inr ⟨a,cap,e9,fun i s hs=>(B1.out.cell (p:=a.add i) (cell_ltA (h9 i s hs))).trans (h9 i s hs)⟩
  have hsh:=short_any w1 _ P hA1 hl hsz
  have hin:=short_inv P P.length (Nat.le_refl _)
  obtain ⟨Q,hQ⟩:∃ Q,Q=shortP P:=⟨_,rfl⟩
  have hq1:(joinB Q).size≤5000:=by rw [hQ];exact hin.2.1
  have hq2:Q.length≤1500000:=by rw [hQ];have h9:(shortP P).length≤_:=hin.2.2.2;omega
  rw [← hQ] at hsh
  clear hg h1 h2 b1 e0 hR1 hI hE hU hA1 hin hQ HA
  go_wp2_with fail
  refine hsh.mono ?_
  rintro r w2 ⟨⟨vS,rfl,hrow2⟩,b2⟩
  obtain ⟨aoS,capS,rfl⟩:=row_shape hrow2
  have R2:Hid (w2.ownsRow w1.heap.size 9 1 (.slice aoS Q.length capS) Q.length (strCells Q)):=hrow2
  have B2:Hid (Below w1.heap.size w1 w2):=b2
  have hf1:=kflow_any w2 g H V L (possOf L) (EE.out.below b2) Q _ _ hrow2 hq1 hq2 false
  clear hsh hrow2 b2
  go_wp2_with fail
  refine hf1.mono ?_
  rintro r w3 ⟨v9,told,C9,l9,s9,rfl,hrow9,hl9,b9,hR9,e9⟩
  rw [if_neg (by simp)] at e9
  subst e9
  obtain ⟨ao9,cap9,rfl⟩:=row_shape hrow9
  have SF:Hid (∀ x all,CutTold T (joinB Q++x) L all→told <+: all):=fun x all h9=>hR9.safe UU.out h9
  obtain ⟨s,hs⟩:∃ s,s=joinB Q:=⟨_,rfl⟩
  have HSJ:Hid (joinB Q=s):=hs.symm
  rw [← hs] at hq1 SF
  obtain ⟨X,hX⟩:∃ X,X=safeX more:=⟨_,rfl⟩
  have HXS:Hid (∀ x ∈ X,x.size≤2 * more.size+1):=by rw [hX];exact safeX_size more
  have hXl:X.length=5:=by rw [hX];rfl
  obtain ⟨W4,hW4⟩:∃ W4,W4=w3.alloc (.cells #[.string ⟨#[]⟩,.string more,.string (more++more),.string ⟨#[233]⟩,.string ⟨#[97]⟩] 9):=⟨_,rfl⟩
  have HW4:Hid (W4=w3.alloc (.cells #[.string ⟨#[]⟩,.string more,.string (more++more),.string ⟨#[233]⟩,.string ⟨#[97]⟩] 9)):=hW4
  have XC:Hid (∀ (i:Nat) (x:ByteArray),X[i]?=some x→W4.cell? ⟨w3.heap.size,i,none⟩=some (.string x)):=fun i x hx=>by
   rw [hW4]
   refine cell_of_block (heap_alloc_new w3 _) i _ ?_
   rw [hX] at hx
   rcases i with _ | _ | _ | _ | _ | i
   ·cases hx;rfl
   ·cases hx;rfl
   ·cases hx;rfl
   ·cases hx;rfl
   ·cases hx;rfl
   ·simp [safeX] at hx
  have b4:Below w3.heap.size w3 W4:=by rw [hW4];exact below_alloc w3 _
  have LT4:Hid (w3.heap.size<W4.heap.size):=by show _<_;rw [hW4];simp
  have B4:Hid (Below w1.heap.size w1 W4):=(B2.out.trans (b9.mono B2.out.size)).trans (b4.mono (B2.out.trans (b9.mono B2.out.size)).size)
  have R4:Hid (W4.ownsRow w2.heap.size 9 1 (.slice ao9 told.length cap9) told.length (strCells told)):=row_kp hrow9 (Kp.below b4)
  have S4:Hid (W4.ownsRow w1.heap.size 9 1 (.slice aoS Q.length capS) Q.length (strCells Q)):=row_kp (row_kp R2.out (Kp.below b9)) (Kp.below b4)
  clear hf1 hrow9 b9 b4 hR9 hs hX hW4 R2
  go_wp2_with fail
  rw [← HW4.out]
  clear HW4
  go_loopg [12] 5 (fun gh iv wx=>∃ i:Nat,i≤5∧gh=5 - i∧iv=.int .i64 i∧Hid (Below W4.heap.size W4 wx))
  case atStart=>exact ⟨0,Nat.zero_le _,rfl,rfl,Below.refl _ _⟩
  case round =>
   obtain ⟨i,hi,rfl,rfl,hB⟩:=hrel
   obtain ⟨w5,hw5⟩:∃ w5,w5=wr:=⟨wr,rfl⟩
   subst hw5
   by_cases hlt:i<5
   ·obtain ⟨x,hx⟩:∃ x,X[i]?=some x:=⟨X[i]'(by omega),List.getElem?_eq_getElem _⟩
    have hd1:decide ((i:Int)<5)=true:=decide_eq_true (by omega)
    have hxs:=HXS.out x (List.mem_of_getElem? hx)
    have hc:w5.cell? ⟨w3.heap.size,i,none⟩=some (.string x):=(hB.out.cell (p:=⟨w3.heap.size,i,none⟩) LT4.out).trans (XC.out i x hx)
    have B5:Hid (Below w1.heap.size w1 w5):=B4.out.trans (hB.out.mono B4.out.size)
    have JN:Hid (∀ W',Below w5.heap.size w5 W'→Calls Tryz.prog 25 #[.slice aoS Q.length capS] W' fun r w'=>r=.returned (.string s)∧w'=W'):=fun W' hb=>by
     have:=joined_any w1.heap.size (.slice aoS Q.length capS) Q W' (row_kp (row_kp S4.out (Kp.below hB.out)) (Kp.below hb)) (by omega) (by rw [HSJ.out];omega)
     rwa [HSJ.out] at this
    have CU:Hid (∀ W',Below w5.heap.size w5 W'→Calls Tryz.prog 19 #[.pointer (some ⟨g,0,none⟩),.string (s++x)] W' fun r w'=>∃ ao cap all,r=.returned (.slice ao all.length cap)∧CutTold T (s++x) L all∧w'.ownsRow 0 9 1 (.slice ao all.length cap) all.length (strCells all)∧Below w5.heap.size w5 w'):=fun W' hb=>by
     have hbb:Below w1.heap.size w1 W':=B5.out.trans (hb.mono B5.out.size)
     have hRI:=RI.out
     refine (cut_any W' g T (s++x) vE vJ vP vH vV L ⟨(hbb.block _ (heap_lt hRI.blk)).trans hRI.blk,hRI.perm,hRI.row,row_kp hRI.tab (Kp.below hbb),hRI.judge.kp (Kp.below hbb) (Kp.below hbb),hRI.out.below hbb,hRI.ok,hRI.few,hRI.spans⟩ (V1.out.below hbb).utf (V1.out.below hbb).low (by rw [ByteArray.size_append];omega)).mono ?_
     rintro r w' ⟨⟨v',all,rfl,hct,hrow⟩,hb'⟩
     obtain ⟨ao,cap,rfl⟩:=row_shape hrow
     exact ⟨ao,cap,all,rfl,hct,row_base hrow (Nat.zero_le _),hb.trans (hb'.mono hb.size)⟩
    clear hx
    go_upto_region 12 with fail
    go_cut [13] from 42 to 69 (fun av wx=>∃ (ao:Option Addr) (cap:Nat) (all:List ByteArray),av=.slice ao all.length cap∧Hid (CutTold T (s++x) L all)∧Hid (wx.ownsRow 0 9 1 (.slice ao all.length cap) all.length (strCells all))∧Hid (Below w5.heap.size w5 wx))
    case first =>
     go_region_with (first
      | (go_at_call 25;refine (JN.out _ ((Below.refl _ _).drew)).mono ?_;rintro e W2 ⟨rfl,rfl⟩)
      | (go_at_call 19;refine (CU.out _ ((Below.refl _ _).drew)).mono ?_;rintro e W2 ⟨ao2,cap2,all2,rfl,h2,h3,h4⟩;have P2:Hid (CutTold T (s++x) L all2):=h2;have P3:Hid (W2.ownsRow 0 9 1 (.slice ao2 all2.length cap2) all2.length (strCells all2)):=h3;have P4:Hid (Below w5.heap.size w5 W2):=h4;clear h2 h3 h4))
     all_goals go_wp2_with fail
     all_goals go_meet
     all_goals exact ⟨_,_,_,rfl,P2,P3,P4⟩
    case rest =>
     obtain ⟨ao,cap,all,rfl,hct,hrow,hb6⟩:=hcut
     obtain ⟨w6,hw6⟩:∃ w6,w6=wc:=⟨wc,rfl⟩
     subst hw6
     have hpre:=SF.out x all hct.out
     have hle:=hpre.length_le
     have hd2:decide ((all.length:Int)<(told.length:Int))=false:=decide_eq_false (by omega)
     have RT:Hid (w6.ownsRow w2.heap.size 9 1 (.slice ao9 told.length cap9) told.length (strCells told)):=row_kp (row_kp R4.out (Kp.below hB.out)) (Kp.below hb6.out)
     have BN:Hid (∀ w7,Below w6.heap.size w6 w7→Below W4.heap.size W4 w7):=fun w7 h9=>(hB.out.trans (hb6.out.mono hB.out.size)).trans (h9.mono (hB.out.trans (hb6.out.mono hB.out.size)).size)
     have HR0:=hrow.out.2
     rcases HR0 with ⟨e1,e2⟩ | ⟨q,c,cur,e1,_,_,hcap,hmx,_⟩
     ·injection e1 with e1 _ e3
      subst e1
      subst e3
      obtain rfl:all=[]:=List.eq_nil_of_length_eq_zero e2
      obtain rfl:told=[]:=List.eq_nil_of_length_eq_zero (by have:told.length≤0:=hle;omega)
      have hsm:=same_eq 0 w2.heap.size (.slice none 0 0) (.slice ao9 0 cap9) [] w6 (World.ownsRow_nil _ _ _ _) RT.out (by decide)
      clear hpre hct hrow hle e2 hd2
      go_wp2_with fail
      refine hsm.mono ?_
      rintro r w7 ⟨rfl,b7⟩
      have B7:Hid (Below W4.heap.size W4 w7):=BN.out w7 b7
      clear hsm b7
      go_wp2_with fail
      go_roundg (5 - (i+1))
      case measure=>omega
      case rel=>exact ⟨i+1,by omega,rfl,by go_num,B7⟩
     ·injection e1 with e1 _ e3
      subst e1
      subst e3
      have hsm:=same_eq 0 w2.heap.size (.slice (some ⟨q,0,none⟩) told.length cap) (.slice ao9 told.length cap9) told w6 (by have:=row_take hrow.out hle;rwa [show (strCells all).take told.length=strCells told from by unfold strCells;rw [← List.map_take,pre_take hpre]] at this) RT.out (by omega)
      have hcl:told.length≤cap:=by omega
      clear hpre hct hrow hmx
      go_wp2_with fail
      refine hsm.mono ?_
      rintro r w7 ⟨rfl,b7⟩
      have B7:Hid (Below W4.heap.size W4 w7):=BN.out w7 b7
      clear hsm b7
      go_wp2_with fail
      go_roundg (5 - (i+1))
      case measure=>omega
      case rel=>exact ⟨i+1,by omega,rfl,by go_num,B7⟩
   ·obtain rfl:i=5:=by omega
    have hd1:decide ((5:Int)<5)=false:=by decide
    have BF:Hid (Below w.heap.size w w5):=B1.out.trans ((B4.out.trans (hB.out.mono B4.out.size)).mono B1.out.size)
    go_wp2_with fail
    go_ret
    exact ⟨rfl,BF.out⟩
 ·obtain rfl:=h2 e0
  clear hg h1 h2 b1 e0
  go_wp2_with fail
  go_ret
  exact ⟨rfl,B1.out⟩
end Go.Proofs.YtodagkkjfipbgaaGreatDoor
namespace Go.Proofs.YtodagkkjfipbgaaGreatDoor
open Go.ChangeShapes Go.WideShapes Go.ChangeAt Go.RowKit
theorem tSU:(Tryz.prog.globals[0]?).map (·.type)=some 171:=by kernel_rfl
theorem laid_sur {n:String} {r:List (String × DataW Unit)} {W:World} (h:laidMet Tryz.prog ((n,Rows.laid_cleave_kinds_surrogates) :: r) W) (gSU:Tryz.prog.globalNamed n=some 0):W.cell? ⟨0,0,none⟩=some (.int .i32 55296)∧W.cell? ⟨0,1,none⟩=some (.int .i32 57343):=by
 obtain ⟨ps,⟨g0,t0,cs0,f0,p0,q0,hg0,ht0,hv0,hd0,_,e0⟩,_,_⟩:=h
 obtain rfl:=Option.some.inj (gSU.symm.trans hg0)
 obtain rfl:=Option.some.inj (tSU.symm.trans ht0)
 have c1:Tryz.prog.cellsOf 21=1:=by kernel_rfl
 obtain ⟨y0,y1,m,ex,hl,h0,h1⟩:=trod_struct2 Tryz.underlying171 hd0
 have c2:Tryz.prog.cellsOf 171=2:=by kernel_rfl
 rw [c2] at hl
 have e1:=(Prod.mk.inj ex).1
 unfold Rows.laid_cleave_kinds_surrogates at e1
 injection e1 with e1
 injection e1 with ea e1
 injection e1 with eb _
 simp only [c1] at h0 h1
 obtain ⟨a,a0,a1,_⟩:=DataW.trod_int Tryz.underlying21 h0
 obtain ⟨b,b0,b1,_⟩:=DataW.trod_int Tryz.underlying21 h1
 rw [a1] at ea
 rw [b1] at eb
 have hza:a=55296:=by simpa using ea.symm
 have hzb:b=57343:=by simpa using eb.symm
 subst hza
 subst hzb
 obtain ⟨l⟩:=cs0
 match l,hl with
 | [x,y],_ =>
  simp at a0 b0
  subst a0
  subst b0
  exact ⟨by rw [World.var?_cell gSU hv0 0];rfl,by rw [World.var?_cell gSU hv0 1];rfl⟩
theorem ownW:ownKnob Tryz.prog.godebug=none:=by kernel_rfl
theorem gESW : Tryz.prog.globalNamed "strconv.ErrSyntax" = some 6 := by kernel_rfl
theorem gERW : Tryz.prog.globalNamed "strconv.ErrRange" = some 7 := by kernel_rfl
theorem tESW:(Tryz.prog.globals[6]?).map (·.type)=some 332:=by kernel_rfl
theorem tERW:(Tryz.prog.globals[7]?).map (·.type)=some 332:=by kernel_rfl
theorem laid_ifaceW {n nm:String} {d:DataW Unit} {r:List (String × DataW Unit)} {W:World} {g:Nat} {ti:TypeId} {ms:Array (String × TypeId)}
  (h:laidMet Tryz.prog ((n,.iface nm d) :: r) W) (hg:Tryz.prog.globalNamed n=some g) (ht:(Tryz.prog.globals[g]?).map (·.type)=some ti) (hi:Tryz.prog.underlying ti=some (.interface ms)) :
  ∃ u v,W.cell? ⟨g,0,none⟩=some (.iface u v):=by
 obtain ⟨ps,⟨g0,t0,cs0,f0,p0,q0,hg0,ht0,hv0,hd0,_,e0⟩,_,_⟩:=h
 obtain rfl:=Option.some.inj (hg.symm.trans hg0)
 obtain rfl:=Option.some.inj (ht.symm.trans ht0)
 obtain ⟨_,u,v,hcs,_,_⟩:=iface_of_trod hi hd0
 refine ⟨u,v,?_⟩
 rw [World.var?_cell hg hv0 0]
 obtain ⟨l⟩:=cs0
 simp at hcs
 subst hcs
 rfl
theorem u8x:U8Extra Tryz.prog Tryz.laysDec_ren:=⟨by kernel_rfl,by kernel_rfl,by kernel_rfl,by kernel_rfl,by kernel_rfl,by kernel_rfl,by kernel_rfl⟩
theorem firstIs:Rows.laid_unicode_utf8_first=Lib.firstData:=by kernel_rfl
theorem acceptIs:Rows.laid_unicode_utf8_acceptRanges=Lib.acceptData:=by kernel_rfl
theorem utf_laid {l : List (String × DataW Unit)} {W : World} (h : laidMet Tryz.prog l W) (h1 : ("unicode/utf8.first", Rows.laid_unicode_utf8_first) ∈ l) (h2 : ("unicode/utf8.acceptRanges", Rows.laid_unicode_utf8_acceptRanges) ∈ l) :
  Lib.Utf8Tabs 2 3 W∧(2<W.heap.size∧3<W.heap.size):=by
 rw [firstIs] at h1
 rw [acceptIs] at h2
 have hT:=utf8Tabs_of_reads { Tryz.laysDec with } u8x (Lib.laidMet.reads h h1) (Lib.laidMet.reads h h2)
 rw [show Tryz.laysDec_ren.g 3=2 from by kernel_rfl,show Tryz.laysDec_ren.g 4=3 from by kernel_rfl] at hT
 exact ⟨hT,cell_lt (hT.1 0 (by omega)),cell_lt (hT.2 0 (by omega)).1⟩
theorem vars_laid {W : World} {a b c : String × DataW Unit} {l : List (String × DataW Unit)} (h : laidMet Tryz.prog (a :: b :: c :: ("unicode/utf8.acceptRanges", Rows.laid_unicode_utf8_acceptRanges) :: ("cleave/kinds.surrogates", Rows.laid_cleave_kinds_surrogates) :: ("strconv.ErrRange", Rows.laid_strconv_ErrRange) :: ("strconv.ErrSyntax", Rows.laid_strconv_ErrSyntax) :: ("unicode/utf8.first", Rows.laid_unicode_utf8_first) :: l) W) : VarsOk W := by
 have hU:=utf_laid h (List.mem_of_getElem? (i:=7) rfl) (List.mem_of_getElem? (i:=3) rfl)
 exact ⟨⟨laid_ifaceW h.tail.tail.tail.tail.tail.tail gESW tESW Tryz.underlying332,laid_ifaceW h.tail.tail.tail.tail.tail gERW tERW Tryz.underlying332,laid_sur h.tail.tail.tail.tail (by kernel_rfl)⟩,hU.1,hU.2⟩
end Go.Proofs.YtodagkkjfipbgaaGreatDoor
namespace Go.Proofs.YtodagkkjfipbgaaGreatDoor
open Go.ChangeShapes Go.RowKit
theorem bulk_strs {H:Type}:∀ l:List ByteArray,Rows.uptoBulkAll (strs (H:=H) l)=(joinB l).size+l.length:=by
 intro l
 rw [joinB_size]
 induction l with
 | nil=>rfl
 | cons s l ih =>
  have e:Rows.uptoBulkAll (strs (H:=H) (s :: l))=s.data.toList.length+1+Rows.uptoBulkAll (strs (H:=H) l):=rfl
  have e2:s.data.toList.length=s.size:=Array.length_toList
  rw [e,ih,e2]
  simp
  omega
theorem Tryz.cellsStr:Tryz.prog.cellsOf 9=1:=by kernel_rfl
end Go.Proofs.YtodagkkjfipbgaaGreatDoor
