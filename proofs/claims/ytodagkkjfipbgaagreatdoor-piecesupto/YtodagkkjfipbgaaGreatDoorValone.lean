import Derived.SizedLaws
import Derived.Stop.LaidErr
import Derived.Lib.LaidU8
import Derived.Test.YtodagkkjfipbgaaGreatDoorT41toSu
namespace Go.Proofs.YtodagkkjfipbgaaGreatDoor
open Go.ChangeShapes Go.WideShapes Go.ChangeAt Go.RowKit
theorem ownW:ownKnob Tryz.prog.godebug=none:=by kernel_rfl
theorem gESW : Tryz.prog.globalNamed "strconv.ErrSyntax" = some 6 := by kernel_rfl
theorem gERW : Tryz.prog.globalNamed "strconv.ErrRange" = some 7 := by kernel_rfl
theorem tESW:(Tryz.prog.globals[6]?).map (·.type)=some 332:=by kernel_rfl
theorem tERW:(Tryz.prog.globals[7]?).map (·.type)=some 332:=by kernel_rfl
theorem laid_ifaceW {n nm:String} {d:DataW Unit} {r:List (String × DataW Unit)} {W:World} {g:Nat} {ti:TypeId} {ms:Array (String × TypeId)}
  (h:laidMet Tryz.prog ((n,.iface nm d) :: r) W) (hg:Tryz.prog.globalNamed n=some g) (ht:(Tryz.prog.globals[g]?).map (·.type)=some ti) (hi:Tryz.prog.underlying ti=some (.interface ms)) :
  ∃ u v,W.cell? ⟨g,0,none⟩=some (.iface u v):=by
 obtain ⟨ps,⟨g0,t0,cs0,f0,p0,q0,hg0,ht0,hv0,hd0,_,e0⟩,_,_⟩:=h
 obtain rfl:=Option.some.inj (hg.symm.trans hg0)
 obtain rfl:=Option.some.inj (ht.symm.trans ht0)
 obtain ⟨_,u,v,hcs,_,_⟩:=iface_of_trod hi hd0
 refine ⟨u,v,?_⟩
 rw [World.var?_cell hg hv0 0]
 obtain ⟨l⟩:=cs0
 simp at hcs
 subst hcs
 rfl
theorem u8x:U8Extra Tryz.prog Tryz.laysDec_ren:=⟨by kernel_rfl,by kernel_rfl,by kernel_rfl,by kernel_rfl,by kernel_rfl,by kernel_rfl,by kernel_rfl⟩
theorem firstIs:Rows.laid_unicode_utf8_first=Lib.firstData:=by kernel_rfl
theorem acceptIs:Rows.laid_unicode_utf8_acceptRanges=Lib.acceptData:=by kernel_rfl
theorem utf_laid {l : List (String × DataW Unit)} {W : World} (h : laidMet Tryz.prog l W) (h1 : ("unicode/utf8.first", Rows.laid_unicode_utf8_first) ∈ l) (h2 : ("unicode/utf8.acceptRanges", Rows.laid_unicode_utf8_acceptRanges) ∈ l) :
  Lib.Utf8Tabs 2 3 W∧(2<W.heap.size∧3<W.heap.size):=by
 rw [firstIs] at h1
 rw [acceptIs] at h2
 have hT:=utf8Tabs_of_reads { Tryz.laysDec with } u8x (Lib.laidMet.reads h h1) (Lib.laidMet.reads h h2)
 rw [show Tryz.laysDec_ren.g 3=2 from by kernel_rfl,show Tryz.laysDec_ren.g 4=3 from by kernel_rfl] at hT
 exact ⟨hT,cell_lt (hT.1 0 (by omega)),cell_lt (hT.2 0 (by omega)).1⟩
theorem vars_laid {W : World} {a b c : String × DataW Unit} {l : List (String × DataW Unit)} (h : laidMet Tryz.prog (a :: b :: c :: ("unicode/utf8.acceptRanges", Rows.laid_unicode_utf8_acceptRanges) :: ("cleave/kinds.surrogates", Rows.laid_cleave_kinds_surrogates) :: ("strconv.ErrRange", Rows.laid_strconv_ErrRange) :: ("strconv.ErrSyntax", Rows.laid_strconv_ErrSyntax) :: ("unicode/utf8.first", Rows.laid_unicode_utf8_first) :: l) W) : VarsOk W := by
 have hU:=utf_laid h (List.mem_of_getElem? (i:=7) rfl) (List.mem_of_getElem? (i:=3) rfl)
 exact ⟨⟨laid_ifaceW h.tail.tail.tail.tail.tail.tail gESW tESW Tryz.underlying332,laid_ifaceW h.tail.tail.tail.tail.tail gERW tERW Tryz.underlying332,laid_sur h.tail.tail.tail.tail (by kernel_rfl)⟩,hU.1,hU.2⟩
end Go.Proofs.YtodagkkjfipbgaaGreatDoor
