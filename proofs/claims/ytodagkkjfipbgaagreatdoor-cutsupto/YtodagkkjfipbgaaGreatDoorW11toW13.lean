import Derived.Test.YtodagkkjfipbgaaGreatDoorStoW10
import Derived.Test.YtodagkkjfipbgaaGreatDoorV8toV10
namespace Go.Proofs.YtodagkkjfipbgaaGreatDoor
open Go.RowKit
theorem addSpan_at (s:RS) (a b p:Int):(s.addSpan a b p).at_=s.at_∧((s.addSpan a b p).err=0→s.err=0)∧(s.addSpan a b p).names=s.names∧(s.addSpan a b p).L=s.L:=by
 unfold RS.addSpan;simp only
 split
 ·have:=fail_same s 5 p
  exact ⟨this.2.2.2.1,fun h=>absurd h (fail_err _ _ _ (by omega)),this.1,this.2.2.1⟩
 ·exact ⟨rfl,id,rfl,rfl⟩
theorem span_adv (T:ByteArray) (s:RS) (hat:s.at_≤T.size) (h:(s.span T).err=0):s.at_<(s.span T).at_:=by
 unfold RS.span at *
 simp only at *
 have q2:=hex_same T s
 have a1:=take_at T s hat
 have e2:=q2.2.2.2.1
 have a2:=peek_at T (s.hex T) (by rw [e2];exact a1.1)
 split at h
 ·rename_i hd
  have h1:=(addSpan_at _ _ _ _).2.1 h
  have h2:=hex_err T _ h1
  have h3:=hex_adv T s hat h2
  have a3:=take_at T ((s.hex T).peek T) a2.1
  have a4:=take_at T (((s.hex T).peek T).take T) a3.1
  rw [if_pos hd,(addSpan_at _ _ _ _).1,(hex_same T _).2.2.2.1];omega
 ·rename_i hd
  have h1:=(addSpan_at _ _ _ _).2.1 h
  have h3:=hex_adv T s hat h1
  rw [if_neg hd,(addSpan_at _ _ _ _).1];omega
theorem RSt.pushName {w w1 w2 w3:World} {base b:Nat} {T:ByteArray} {s:RS} {vN vS vL v':Value} {x:ByteArray} (h:RSt w base b T s) (hblk:Blk w b T s vN vS vL) (hr:Rows3 w base s vN vS vL)
  (hp:Pushed 9 4 base b vN v' w w1 w2 w3) (hnew:w2.ownsRow base 9 1 v' (s.names.length+1) (s.names.map .string++[.string x])) (hl:s.names.length ≠ 6) (hx:s.err=0→x.toList ≠ []) :
  RSt w3 base b T { s with names:=s.names++[x] }∧RChg base w w3:=by
 obtain ⟨g,hbb,hT,hok,ht,_⟩:=h
 obtain ⟨a,c,vs,d,ar⟩:=hr
 have hrc:=hp.rchg a hbb hblk (by decide) (by decide) (by decide) (by decide) (by decide)
 refine ⟨⟨g,hbb,hT,?_,ht.on hrc.1 g,v',vS,vL,?_,?_,?_,vs,?_,ar.keep hrc.2⟩,hrc⟩
 ·unfold RS.Ok at *
  obtain ⟨p1,p2,p3,p4,p5,p6,p7,p8,p9⟩:=hok
  refine ⟨p1,by show (s.names++[x]).length≤6;rw [List.length_append];simp;omega,p3,p4,p5,p6,p7,p8,fun e=>⟨(p9 e).1,(p9 e).2.1,?_⟩⟩
  intro y hy
  rcases List.mem_append.1 hy with hy | hy
  ·exact (p9 e).2.2 y hy
  ·rw [List.mem_singleton.1 hy];exact hx e
 ·exact (hp.blk a hblk (by decide)).trans rfl
 ·have:=hp.row a hblk (by decide) hnew
  show w3.ownsRow base _ 1 v' (s.names++[x]).length ((s.names++[x]).map .string)
  rw [List.length_append,List.map_append];exact this
 ·exact ownsRow_chg c (hp.kt a hblk (by decide) (by decide) (by decide))
 ·exact ownsRow_chg d (hp.kt a hblk (by decide) (by decide) (by decide))
theorem spansL_err {T:ByteArray} {g:Nat} {s:RS} (h:s.err ≠ 0):RS.spansL T g s=s:=by
 cases g with
 | zero=>rfl
 | succ g=>rw [RS.spansL,if_pos h]
theorem spansL_span {T:ByteArray} {g:Nat} {s:RS} (h:s.err=0) (h1:(s.span T).err ≠ 0):RS.spansL T (g+1) s=s.span T:=by
 rw [RS.spansL,if_neg (by simpa using h)];simp only;rw [if_pos h1]
theorem spansL_end {T:ByteArray} {g:Nat} {s:RS} (h:s.err=0) (h1:(s.span T).err=0) (h2:(s.span T).tk T=[59]):RS.spansL T (g+1) s=(s.span T).take T:=by
 rw [RS.spansL,if_neg (by simpa using h)];simp only;rw [if_neg (by simpa using h1),if_pos h2]
theorem spansL_more {T:ByteArray} {g:Nat} {s:RS} (h:s.err=0) (h1:(s.span T).err=0) (h2:(s.span T).tk T=[44]):RS.spansL T (g+1) s=RS.spansL T g ((s.span T).take T):=by
 rw [RS.spansL,if_neg (by simpa using h)];simp only;rw [if_neg (by simpa using h1),if_neg (by rw [h2];decide),if_pos h2]
theorem spansL_bad {T:ByteArray} {g:Nat} {s:RS} (h:s.err=0) (h1:(s.span T).err=0) (h2:(s.span T).tk T ≠ [59]) (h3:(s.span T).tk T ≠ [44]):RS.spansL T (g+1) s=RS.spansL T g (((s.span T).take T).fail 2 ((s.span T).pos T)):=by
 rw [RS.spansL,if_neg (by simpa using h)];simp only;rw [if_neg (by simpa using h1),if_neg h2,if_neg h3]
set_option maxRecDepth 100000 in
set_option maxHeartbeats 4000000 in
theorem classes_rs (base b:Nat) (T:ByteArray) (s:RS) (w:World) (h:RSt w base b T s) (herr:s.err=0) :
  Calls Tryz.prog 48 #[.pointer (some ⟨b,0,none⟩)] w fun e w'=>e=.returned (.tuple #[])∧RSt w' base b T (s.classes T)∧RChg base w w':=by
 have HE:Hid (s.err=0):=herr
 clear herr
 go_enter Tryz.func48,Tryz.ntmps48
 go_wp2_with fail
 refine (take_rs base b T s _ h).mono ?_
 rintro e1 w1 ⟨rfl,h1,r1⟩
 obtain ⟨s1,hs1⟩:∃ s1,s1=s.take T:=⟨_,rfl⟩
 rw [← hs1] at h1
 have HS1:Hid (s1=s.take T):=hs1
 clear hs1
 obtain ⟨vN,vS,vL,hblk,hrow,c0,c1,c2,c3,c4,c5,c6,c7,c8,hf⟩:=h1.cells
 obtain ⟨aoN,capN,rfl⟩:=ownsRow_shape hrow.1
 have hnl:s1.names.length≤6:=h1.2.2.2.1.2.1
 by_cases h6:s1.names.length=6
 ·have k6:((s1.names.length:Int) == 6)=true:=by rw [beq_iff_eq];omega
  have hfin:Hid (s.classes T=s1.fail 6 (s.pos T)):=by
   show s.classes T=_
   unfold RS.classes;simp only;rw [← HS1.out,if_pos h6]
  clear h6
  go_wp2_with fail
  refine (fail_rs base b T s1 6 (s.pos T) _ h1 (by omega)).mono ?_
  rintro e2 w2 ⟨rfl,h2,r2⟩
  go_wp2_with fail
  refine bodyPost_ret (results_none rfl _ _ _) rfl ?_
  exact ⟨rfl,by rw [hfin.out];exact h2,r1.trans r2⟩
 ·have k6:((s1.names.length:Int) == 6)=false:=by rw [beq_eq_false_iff_ne];omega
  have H6:Hid (s1.names.length ≠ 6):=h6
  clear h6
  go_wp2_with fail
  refine (take_rs base b T s1 _ h1).mono ?_
  rintro e2 w2 ⟨rfl,h2,r2⟩
  obtain ⟨t1,ht1⟩:∃ t1,t1=tok T s1.at_:=⟨_,rfl⟩
  rw [← ht1]
  have HT1:Hid (t1=tok T s1.at_):=ht1
  clear ht1
  go_wp2_with fail
  refine (name_any t1 _).mono ?_
  rintro e3 w3 ⟨rfl,hw3⟩
  subst hw3
  go_upto_if 28 with fail
  go_cut [3,4,5] (fun pv tv _ wx=>pv=.int .i64 (s1.pos T:Nat)∧tv=.string t1∧RSt wx base b T (if nameL t1.toList=true then s1.take T else (s1.take T).fail 2 (s1.pos T))∧RChg base w wx)
  case first =>
   cases hN:nameL t1.toList
   ·go_wp2_with fail
    refine (fail_rs base b T (s1.take T) 2 (s1.pos T) _ h2 (by omega)).mono ?_
    rintro e4 w4 ⟨rfl,h4,r4⟩
    go_wp2_with fail
    go_meet
    exact ⟨rfl,rfl,by rw [if_neg (by simp [hN])];exact h4,(r1.trans r2).trans r4⟩
   ·go_wp2_with fail
    go_meet
    exact ⟨rfl,rfl,by rw [if_pos hN];exact h2,r1.trans r2⟩
  case rest =>
   obtain ⟨rfl,rfl,h4,r4⟩:=hcut
   obtain ⟨w4,hw4⟩:∃ w4,w4=wc:=⟨wc,rfl⟩
   subst hw4
   obtain ⟨s3,hs3⟩:∃ s3,s3=(if nameL t1.toList=true then s1.take T else (s1.take T).fail 2 (s1.pos T)):=⟨_,rfl⟩
   rw [← hs3] at h4
   have HS3:Hid (s3=(if nameL t1.toList=true then s1.take T else (s1.take T).fail 2 (s1.pos T))):=hs3
   clear hs3
   have HN3:Hid (s3.names=s1.names):=by
    show s3.names=s1.names
    rw [HS3.out];split
    ·rfl
    ·exact (fail_same _ _ _).1
   clear hblk hrow c0 c1 c2 c3 c4 c5 c6 c7 c8 hf h1 h2 r1 r2
   go_wp2_with fail
   refine (class_rs base b T s3 t1 _ h4).mono ?_
   rintro e5 w5 ⟨rfl,hw5⟩
   subst hw5
   obtain ⟨ix,hix⟩:∃ ix,ix=clsIx s3.names t1.toList:=⟨_,rfl⟩
   rw [← hix]
   have HIX:Hid (ix=clsIx s3.names t1.toList):=hix
   clear hix
   go_upto_if 35 with fail
   go_cut [3,4] (fun _ tv wx=>tv=.string t1∧∃ s4:RS,Hid (s4=if 0≤ix then s3.fail 4 (s1.pos T) else s3)∧RSt wx base b T s4∧RChg base w wx)
   case first =>
    by_cases hi:0≤ix
    ·go_wp2_with fail
     refine (fail_rs base b T s3 4 (s1.pos T) _ h4 (by omega)).mono ?_
     rintro e6 w6 ⟨rfl,h6,r6⟩
     go_wp2_with fail
     go_meet
     exact ⟨rfl,s3.fail 4 (s1.pos T),by show _=ite _ _ _;rw [if_pos hi],h6,r4.trans r6⟩
    ·go_wp2_with fail
     go_meet
     exact ⟨rfl,s3,by show _=ite _ _ _;rw [if_neg (by omega)],h4,r4⟩
   case rest =>
    obtain ⟨rfl,s4,HS4,h6,r6⟩:=hcut
    obtain ⟨w6,hw6⟩:∃ w6,w6=wc:=⟨wc,rfl⟩
    subst hw6
    clear h4 r4
    have HN4:Hid (s4.names.length ≠ 6):=by
     show s4.names.length ≠ 6
     have:s4.names=s3.names:=by
      rw [HS4.out];split
      ·exact (fail_same _ _ _).1
      ·rfl
     rw [this,HN3.out];exact H6.out
    obtain ⟨vN,vS,vL,hblk,hrow,c0,c1,c2,c3,c4,c5,c6,c7,c8,hf⟩:=h6.cells
    obtain ⟨aoN',capN',rfl⟩:=ownsRow_shape hrow.1
    have hnl4:s4.names.length≤6:=h6.2.2.2.1.2.1
    have hbs:b<w6.heap.size:=(Array.getElem?_eq_some_iff.1 hblk).1
    have hbb:base≤b:=h6.2.1
    have HR:Hid (w6.ownsRow base 9 1 (.slice aoN' s4.names.length capN') s4.names.length (s4.names.map .string)):=hrow.1
    have HRow:Hid (Rows3 w6 base s4 (.slice aoN' s4.names.length capN') vS vL):=hrow
    clear hrow
    go_upto_if 53 with (at_builtin;go_loud (refine wpList_push rfl (.tmp 43) (.tmp 45) 30 rfl base 9 (.string ⟨#[]⟩) 1 16 Tryz.infoStr Tryz.undStr rfl (by decide) (.slice aoN' s4.names.length capN') s4.names.length (s4.names.map .string) rfl (by exact HR.out.alloc _) w6.heap.size 1 [.string t1] rfl rfl (by exact heap_alloc_new _ _) (one_str _) (by omega) (by omega) (by simp;omega) ?_);intro v' w' hown hg;obtain ⟨ao',cap',hv'⟩:=ownsRow_shape hown;subst hv';have hb':=pushed_free hg hblk (by exact ((Below.refl _ _).alloc (Nat.le_refl _) _)) (by exact HR.out.alloc _) (by decide);obtain ⟨_,_,e2,_,e4,_,_,_,_,ef⟩:=rcells hb')
    have hpu:Pushed 9 4 base b (.slice aoN' s4.names.length capN') (.slice ao' (s4.names.length+1) cap') w6 _ w' (w'.setCell ⟨b,4,none⟩ (.slice ao' (s4.names.length+1) cap')):=⟨(Below.refl _ _).alloc (Nat.le_refl _) _,hg,rfl,rfl,rfl,rfl⟩
    have hfin:=h6.pushName hblk HRow.out hpu hown HN4.out (fun e0=>by
     intro hnil
     have h3:s3.err=0:=by
      have:=HS4.out
      by_cases hi:0≤ix
      ·rw [if_pos hi] at this;rw [this] at e0;exact absurd e0 (fail_err _ _ _ (by omega))
      ·rw [if_neg hi] at this;rw [← this];exact e0
     have hq:=HS3.out
     rw [if_neg (by rw [hnil];decide)] at hq
     rw [hq] at h3
     exact absurd h3 (fail_err _ _ _ (by omega)))
    obtain ⟨h7,r7⟩:=hfin
    obtain ⟨s5,hs5⟩:∃ s5:RS,s5={ s4 with names:=s4.names++[t1] }:=⟨_,rfl⟩
    rw [← hs5] at h7
    have HS5:Hid (s5={ s4 with names:=s4.names++[t1] }):=hs5
    have E5:Hid (s5.err=s4.err):=by rw [hs5];rfl
    clear hs5 hpu hown hg hb' hblk c0 c1 c2 c3 c4 c5 c6 c7 c8 hf
    go_cut [53] (fun _ wx=>RSt wx base b T (if s5.err=0 then s5.want T [61] else s5)∧RChg base w wx)
    case first =>
     by_cases e0:s4.err=0
     ·have k0:(s4.err == 0)=true:=by rw [beq_iff_eq];exact e0
      have hif:s5.err=0:=by rw [E5.out];exact e0
      have HIF:Hid (s5.err=0):=hif
      clear e0 hif
      go_wp2_with fail
      refine (want_rs base b T s5 ⟨#[61]⟩ _ h7).mono ?_
      rintro e8 w8 ⟨rfl,h8,r8⟩
      go_wp2_with fail
      go_meet
      exact ⟨by rw [if_pos HIF.out];rw [show (⟨#[61]⟩:ByteArray).toList=[61] from by rw [ByteArray.toList_eq]] at h8;exact h8,(r6.trans r7).trans r8⟩
     ·have k0:(s4.err == 0)=false:=by rw [beq_eq_false_iff_ne];exact e0
      have hif:¬ s5.err=0:=by rw [E5.out];exact e0
      have HIF:Hid (¬ s5.err=0):=hif
      clear e0 hif
      go_wp2_with fail
      go_meet
      exact ⟨by rw [if_neg HIF.out];exact h7,r6.trans r7⟩
    case rest =>
     obtain ⟨h8,r8⟩:=hcut
     obtain ⟨w8,hw8⟩:∃ w8,w8=wc:=⟨wc,rfl⟩
     subst hw8
     obtain ⟨s6,hs6⟩:∃ s6:RS,s6=(if s5.err=0 then s5.want T [61] else s5):=⟨_,rfl⟩
     rw [← hs6] at h8
     have hfin:Hid (s.classes T=RS.spansL T (T.size+2) s6):=by
      show s.classes T=_
      unfold RS.classes;simp only
      rw [← HS1.out,if_neg H6.out]
      have e1:s1.tk T=t1.toList:=by rw [HT1.out];rfl
      rw [e1,← HS3.out,← HIX.out,← HS4.out,← HT1.out,hs6,HS5.out]
     clear hs6 h7 r7 r6 h6
     go_wp2_with fail
     go_loopg [3,4] (T.size+3) (fun g _ _ wx=>∃ (s':RS),RSt wx base b T s'∧RChg base w wx∧0<g∧Hid (RS.spansL T (g - 1) s'=RS.spansL T (T.size+2) s6)∧Hid (s'.err ≠ 0∨T.size<s'.at_+(g - 1)))
     case atStart=>exact ⟨s6,h8,r8,by omega,rfl,Or.inr (by omega)⟩
     case round =>
      obtain ⟨s',h9,r9,hg,HL,HF⟩:=hrel
      have HG:Hid (0<gk):=hg
      clear hg h8 r8
      obtain ⟨vN,vS,vL,hblk,hrow,c0,c1,c2,c3,c4,c5,c6,c7,c8,hf⟩:=h9.cells
      by_cases e0:s'.err=0
      ·have k0:(s'.err == 0)=true:=by rw [beq_iff_eq];exact e0
       have hat9:s'.at_≤T.size:=h9.2.2.2.1.1
       have E0:Hid (s'.err=0):=e0
       have hgk:0<gk - 1:=by rcases HF.out with h | h;exact absurd e0 h;omega
       obtain ⟨g',hg'⟩:∃ g',gk=g'+2:=⟨gk - 2,by omega⟩
       have HG':Hid (gk=g'+2):=hg'
       clear hg' hgk e0
       have HFA:Hid (T.size<s'.at_+(g'+1)):=by
        show T.size<s'.at_+(g'+1)
        have h1:=HF.out;have h2:=HG'.out
        rcases h1 with h1 | h1
        ·exact absurd E0.out h1
        ·omega
       go_wp2_with fail
       refine (span_rs base b T s' _ h9 E0.out).mono ?_
       rintro e10 w10 ⟨rfl,h10,r10⟩
       have hadv:=span_adv T s' hat9
       have HADV:Hid ((s'.span T).err=0→s'.at_<(s'.span T).at_):=hadv
       obtain ⟨s7,hs7⟩:∃ s7,s7=s'.span T:=⟨_,rfl⟩
       rw [← hs7] at h10
       have HS7:Hid (s7=s'.span T):=hs7
       clear hs7 hadv hblk hrow c0 c1 c2 c3 c4 c5 c6 c7 c8 hf
       obtain ⟨vN,vS,vL,hblk,hrow,c0,c1,c2,c3,c4,c5,c6,c7,c8,hf⟩:=h10.cells
       by_cases e1:s7.err=0
       ·have k1:(s7.err != 0)=false:=by simp [e1]
        have E1:Hid (s7.err=0):=e1
        clear e1
        go_wp2_with fail
        refine (take_rs base b T s7 _ h10).mono ?_
        rintro e11 w11 ⟨rfl,h11,r11⟩
        obtain ⟨t2,ht2⟩:∃ t2,t2=tok T s7.at_:=⟨_,rfl⟩
        rw [← ht2]
        have HT2:Hid (s7.tk T=t2.toList):=by rw [ht2];rfl
        clear ht2
        by_cases l1:t2.toList=[59]
        ·have k2:(t2.toList == [59])=true:=by rw [beq_iff_eq];exact l1
         have hres:Hid (s.classes T=s7.take T):=by
          show s.classes T=_
          rw [hfin.out,← HL.out,HG'.out]
          show RS.spansL T (g'+1) s'=_
          rw [spansL_end E0.out (by rw [← HS7.out];exact E1.out) (by rw [← HS7.out,HT2.out];exact l1),← HS7.out]
         clear l1
         go_wp2_with fail
         refine bodyPost_ret (results_none rfl _ _ _) rfl ?_
         exact ⟨rfl,by rw [hres.out];exact h11,(r9.trans r10).trans r11⟩
        ·have k2:(t2.toList == [59])=false:=by rw [beq_eq_false_iff_ne];exact l1
         by_cases l2:t2.toList=[44]
         ·have k3:(t2.toList == [44])=true:=by rw [beq_iff_eq];exact l2
          have hres:Hid (RS.spansL T (g'+1) s'=RS.spansL T g' (s7.take T)):=by
           show RS.spansL T (g'+1) s'=_
           rw [spansL_more E0.out (by rw [← HS7.out];exact E1.out) (by rw [← HS7.out,HT2.out];exact l2),← HS7.out]
          clear l1 l2
          go_wp2_with fail
          go_roundg (g'+1)
          case measure=>have:=HG'.out;omega
          case rel =>
           refine ⟨s7.take T,h11,(r9.trans r10).trans r11,by omega,?_,?_⟩
           ·show RS.spansL T g' (s7.take T)=_
            rw [← hres.out,← HL.out,HG'.out];rfl
           ·refine Or.inr ?_
            show T.size<(s7.take T).at_+g'
            have a1:=take_at T s7 h10.2.2.2.1.1
            have a2:=HADV.out (by rw [← HS7.out];exact E1.out)
            rw [← HS7.out] at a2
            have a3:=HFA.out
            omega
         ·have k3:(t2.toList == [44])=false:=by rw [beq_eq_false_iff_ne];exact l2
          have hres:Hid (RS.spansL T (g'+1) s'=RS.spansL T g' ((s7.take T).fail 2 (s7.pos T))):=by
           show RS.spansL T (g'+1) s'=_
           rw [spansL_bad E0.out (by rw [← HS7.out];exact E1.out) (by rw [← HS7.out,HT2.out];exact l1) (by rw [← HS7.out,HT2.out];exact l2),← HS7.out]
          clear l1 l2
          go_wp2_with fail
          refine (fail_rs base b T (s7.take T) 2 (s7.pos T) _ h11 (by omega)).mono ?_
          rintro e12 w12 ⟨rfl,h12,r12⟩
          go_wp2_with fail
          go_roundg (g'+1)
          case measure=>have:=HG'.out;omega
          case rel =>
           refine ⟨_,h12,((r9.trans r10).trans r11).trans r12,by omega,?_,Or.inl (fail_err _ _ _ (by omega))⟩
           show RS.spansL T g' ((s7.take T).fail 2 (s7.pos T))=_
           rw [← hres.out,← HL.out,HG'.out];rfl
       ·have k1:(s7.err != 0)=true:=by simp [e1]
        have hres:Hid (s.classes T=s7):=by
         show s.classes T=_
         rw [hfin.out,← HL.out,HG'.out]
         show RS.spansL T (g'+1) s'=_
         rw [spansL_span E0.out (by rw [← HS7.out];exact e1),← HS7.out]
        clear e1
        go_wp2_with fail
        refine bodyPost_ret (results_none rfl _ _ _) rfl ?_
        exact ⟨rfl,by rw [hres.out];exact h10,r9.trans r10⟩
      ·have k0:(s'.err == 0)=false:=by rw [beq_eq_false_iff_ne];exact e0
       have hres:Hid (s.classes T=s'):=by
        show s.classes T=_
        rw [hfin.out,← HL.out,spansL_err e0]
       clear e0
       go_wp2_with fail
       go_end0
       exact ⟨rfl,by rw [hres.out];exact h9,r9⟩
def KNum (n:Nat):Prop:=n ∈ [0,1,2,3,4,7,8,15,16,31,32,63,64]∨n ∈ [127,128,255]
def ItoaOk:Prop:=∀ (n:Nat) (w:World),KNum n→TabOK w→1<w.heap.size→Calls Tryz.prog 39 #[.int .i64 n] w fun e w'=>e=.returned (.string (itoaB n))∧Below w.heap.size w w'
theorem itoaB_size (n:Nat):(itoaB n).size≤3∧1≤(itoaB n).size:=by
 unfold itoaB;split
 ·exact ⟨by show 1≤3;omega,by show 1≤1;omega⟩
 ·split
  ·exact ⟨by show 2≤3;omega,by show 1≤2;omega⟩
  ·exact ⟨by show 3≤3;omega,by show 1≤3;omega⟩
set_option maxHeartbeats 1000000 in
theorem char_any (hI:ItoaOk) (n:Nat) (w:World) (hn:KNum n) (ht:TabOK w) (hw:1<w.heap.size) :
  Calls Tryz.prog 245 #[.int .i64 n] w fun e w'=>∃ v,e=.returned v∧IsRe 1 w' v (charX n)∧Below w.heap.size w w':=by
 have hz:=(itoaB_size n).1
 have hadd1:=run_add Tryz.prog ⟨#[91]⟩ (itoaB n) (by rw [size1];omega)
 have hadd2:=run_add Tryz.prog (⟨#[91]⟩++itoaB n) ⟨#[93]⟩ (by rw [sizeApp,size1,size1];omega)
 have HN:Hid (KNum n):=hn
 have HTB:Hid (TabOK w):=ht
 clear hn ht
 go_enter Tryz.func245,Tryz.ntmps245
 go_wp2_with fail
 refine (hI n _ HN.out HTB.out hw).mono ?_
 rintro e1 w1 ⟨rfl,hb1⟩
 go_wp2_with fail
 go_ret
 have hre:=mkRe' (d:=0) (q:=w1.heap.size) (W:=w1) (vL:=.slice none 0 0) (wI:=99) (kI:=(n:Int)) (f:=⟨#[91]⟩++itoaB n++⟨#[93]⟩) (charX n) rfl (by rfl) rfl rfl ⟨[],rfl,World.ownsRow_nil _ _ _ _,by simp⟩ (by show (99:Nat)<256;decide) (fun h=>by simp [charX] at h) (fun h=>by simp [charX] at h)
 exact ⟨.pointer (some ⟨w1.heap.size,0,none⟩),rfl,hre,hb1.alloc (by exact hb1.size) _⟩
def bit (s:RS):Nat:=if s.err=0 then 0 else 1
def PQ (K:Nat) (s:RS) (r:RS × Rx):Prop :=
 r.1.names=s.names∧r.1.nest=s.nest∧s.at_≤r.1.at_∧(r.1.err=0→s.at_<r.1.at_)∧r.2.form.size+5≤K * (r.1.at_ - s.at_+bit r.1)
def Parses (T:ByteArray) (fn:Nat) (P:RS→RS × Rx) (K:Nat) (nst:Int):Prop :=
 ∀ (base b:Nat) (s:RS) (w:World),RSt w base b T s→s.err=0→s.nest=nst →
  Calls Tryz.prog fn #[.pointer (some ⟨b,0,none⟩)] w fun e w'=>∃ v d,e=.returned v∧RSt w' base b T (P s).1∧IsRe d w' v (P s).2∧RChg base w w'∧PQ K s (P s)
theorem bit_pos {s:RS} (h:s.err ≠ 0):bit s=1:=by unfold bit;rw [if_neg h]
theorem bit_zero {s:RS} (h:s.err=0):bit s=0:=by unfold bit;rw [if_pos h]
theorem leafErr_same (s:RS) (l:List UInt8) (p:Int):(s.leafErr l p).names=s.names∧(s.leafErr l p).spans=s.spans∧(s.leafErr l p).L=s.L∧(s.leafErr l p).at_=s.at_∧(s.leafErr l p).atoms=s.atoms∧(s.leafErr l p).nest=s.nest:=by
 unfold RS.leafErr;split
 ·simp
 ·split <;> exact fail_same _ _ _
theorem leafErr_nil (s:RS) (l:List UInt8) (p:Int) (h:(s.leafErr l p).err=0) (hn:∀ x ∈ s.names,x.toList ≠ []):l ≠ []:=by
 intro e;subst e
 unfold RS.leafErr at h
 rw [if_neg] at h
 ·split at h <;> exact absurd h (fail_err _ _ _ (by omega))
 ·rintro (h1 | h1 | h1 | h1)
  ·unfold clsIx at h1
   rw [List.findIdx?_eq_none_iff.2 (by intro x hx;simpa using hn x hx)] at h1
   simp at h1
  all_goals simp at h1
theorem RS.Ok.nest {T:ByteArray} {s:RS} (h:s.Ok T) (n:Int) (h1:0≤n) (h2:n≤4):({ s with nest:=n }:RS).Ok T:=by
 obtain ⟨p1,p2,p3,p4,p5,p6,p7,p8,p9⟩:=h
 exact ⟨p1,p2,p3,p4,p5,p6,h1,h2,p9⟩
theorem RSt.setNest {w:World} {base b:Nat} {T:ByteArray} {s:RS} (h:RSt w base b T s) (n:Int) (h1:0≤n) (h2:n≤4) :
  RSt (w.setCell ⟨b,8,none⟩ (.int .i64 n)) base b T { s with nest:=n }∧RChg base w (w.setCell ⟨b,8,none⟩ (.int .i64 n)):=by
 have h0:=h
 obtain ⟨g,hbb,hT,hok,ht,vN,vS,vL,hblk,hr⟩:=h
 exact h0.step hblk hr ((block_setCell hblk 8 _).trans rfl) ((Chg.refl _ _).set1 _) rfl rfl rfl (hok.nest n h1 h2)
theorem RSt.setAtoms {w:World} {base b:Nat} {T:ByteArray} {s:RS} (h:RSt w base b T s) (n:Int) (hok:({ s with atoms:=n }:RS).Ok T) :
  RSt (w.setCell ⟨b,7,none⟩ (.int .i64 n)) base b T { s with atoms:=n }∧RChg base w (w.setCell ⟨b,7,none⟩ (.int .i64 n)):=by
 have h0:=h
 obtain ⟨g,hbb,hT,_,ht,vN,vS,vL,hblk,hr⟩:=h
 exact h0.step hblk hr ((block_setCell hblk 7 _).trans rfl) ((Chg.refl _ _).set1 _) rfl rfl rfl hok
theorem clsIx_bd (names:List ByteArray) (l:List UInt8):clsIx names l<names.length∧-1≤clsIx names l:=by
 unfold clsIx
 cases h:names.findIdx? (fun x=>x.toList == l) with
 | none=>simp;omega
 | some i=>have:=(List.findIdx?_eq_some_iff_getElem.1 h).1;simp;omega
set_option maxRecDepth 100000 in
set_option maxHeartbeats 4000000 in
theorem atom_b (T:ByteArray) (sub:RS→RS × Rx) (K:Nat) (nst:Int) (hK:10≤K) (hn0:0≤nst) (hn4:nst≤4) (hsub:nst ≠ 4→Parses T 148 sub K (nst+1))
  (base b:Nat) (s:RS) (w:World) (h:RSt w base b T s) (herr:s.err=0) (hnst:s.nest=nst) (htk:s.tk T=[40]) :
  Calls Tryz.prog 231 #[.pointer (some ⟨b,0,none⟩)] w fun e w'=>∃ v d,e=.returned v∧RSt w' base b T (s.atom T sub).1∧IsRe d w' v (s.atom T sub).2∧RChg base w w'∧PQ K s (s.atom T sub):=by
 have HE:Hid (s.err=0):=herr
 have HNS:Hid (s.nest=nst):=hnst
 have HTK:Hid (s.tk T=[40]):=htk
 have HSUB:Hid (nst ≠ 4→Parses T 148 sub K (nst+1)):=hsub
 have hat:s.at_≤T.size:=h.2.2.2.1.1
 have hadv:=take_adv T s hat (by rw [htk];simp)
 have hto:=take_at T s hat
 have k0:((tok T s.at_).toList == [40])=true:=by rw [beq_iff_eq];exact htk
 clear herr hnst htk hsub
 obtain ⟨s1,hs1⟩:∃ s1,s1=s.take T:=⟨_,rfl⟩
 rw [← hs1] at hadv hto
 have HS1:Hid (s1=s.take T):=hs1
 clear hs1
 obtain ⟨t1,ht1⟩:∃ t1,t1=tok T s.at_:=⟨_,rfl⟩
 rw [← ht1] at k0
 have HT1:Hid (t1=tok T s.at_):=ht1
 clear ht1
 go_enter Tryz.func231,Tryz.ntmps231
 go_wp2_with fail
 refine (take_rs base b T s _ h).mono ?_
 rintro e1 w1 ⟨rfl,h1,r1⟩
 rw [← HS1.out] at h1
 rw [← HT1.out]
 have N1:Hid (s1.nest=nst):=by show s1.nest=nst;rw [HS1.out];exact HNS.out
 have E1:Hid (s1.err=0):=by show s1.err=0;rw [HS1.out];exact HE.out
 obtain ⟨vN,vS,vL,hblk,hrow,c0,c1,c2,c3,c4,c5,c6,c7,c8,hf⟩:=h1.cells
 rw [N1.out] at c8
 by_cases h4:nst=4
 ·have k4:(nst == 4)=true:=by rw [beq_iff_eq];exact h4
  have hres:Hid (s.atom T sub=(s1.fail 6 (s.pos T),neverX)):=by
   show s.atom T sub=_
   unfold RS.atom;rw [if_pos HTK.out,if_pos (by rw [HNS.out];exact h4),← HS1.out]
  clear h4
  go_wp2_with fail
  refine (fail_rs base b T s1 6 (s.pos T) _ h1 (by omega)).mono ?_
  rintro e2 w2 ⟨rfl,h2,r2⟩
  go_wp2_with fail
  refine (never_any _).mono ?_
  rintro e3 w3 ⟨v3,rfl,hv3,hb3⟩
  go_wp2_with fail
  go_ret
  obtain ⟨h3,r3⟩:=h2.below hb3
  have f:=fail_same s1 6 (s.pos T)
  have fe:=fail_err s1 6 (s.pos T) (by omega)
  refine ⟨_,1,rfl,by rw [hres.out];exact h3,by rw [hres.out];exact hv3,(r1.trans r2).trans r3,?_⟩
  rw [hres.out]
  refine ⟨by show (s1.fail 6 (s.pos T)).names=_;rw [f.1,HS1.out];rfl,by show (s1.fail 6 (s.pos T)).nest=_;rw [f.2.2.2.2.2,HS1.out];rfl,by show s.at_≤(s1.fail 6 (s.pos T)).at_;rw [f.2.2.2.1];omega,fun e=>absurd e fe,?_⟩
  show 1+5≤K * ((s1.fail 6 (s.pos T)).at_ - s.at_+bit (s1.fail 6 (s.pos T)))
  rw [bit_pos fe]
  calc 1+5≤K * 1:=by omega
   _≤_:=Nat.mul_le_mul_left K (by omega)
 ·have k4:(nst == 4)=false:=by rw [beq_eq_false_iff_ne];exact h4
  have hres:Hid (s.atom T sub=((sub { s1 with nest:=nst+1 }).1.closeB T,(sub { s1 with nest:=nst+1 }).2)):=by
   show s.atom T sub=_
   unfold RS.atom;rw [if_pos HTK.out,if_neg (by rw [HNS.out];exact h4),← HS1.out,HNS.out]
  have hP:=HSUB.out h4
  have HP:Hid (Parses T 148 sub K (nst+1)):=hP
  clear hP
  have h5:=h1.setNest (nst+1) (by omega) (by omega)
  obtain ⟨h2,r2⟩:=h5
  obtain ⟨s2,hs2⟩:∃ s2:RS,s2={ s1 with nest:=nst+1 }:=⟨_,rfl⟩
  rw [← hs2] at h2
  have HS2:Hid (s2={ s1 with nest:=nst+1 }):=hs2
  have A2:s2.at_=s1.at_:=by rw [hs2]
  have AA:Hid (s2.at_=s1.at_):=A2
  clear hs2 A2
  go_wp2_with fail
  refine (HP.out base b s2 _ h2 (by rw [HS2.out];exact E1.out) (by rw [HS2.out])).mono ?_
  rintro e3 w3 ⟨v3,d3,rfl,h3,hv3,r3,q3⟩
  obtain ⟨s3,hs3⟩:∃ s3,s3=(sub s2).1:=⟨_,rfl⟩
  obtain ⟨x3,hx3⟩:∃ x3,x3=(sub s2).2:=⟨_,rfl⟩
  rw [← hs3] at h3
  rw [← hx3] at hv3
  have HV3:Hid (IsRe d3 w3 v3 x3):=hv3
  have HS3:Hid (s3=(sub s2).1):=hs3
  have HX3:Hid (x3=(sub s2).2):=hx3
  have HQ3:Hid (PQ K s2 (s3,x3)):=by show PQ K s2 (s3,x3);rw [hs3,hx3];exact q3
  clear hs3 hx3 hv3 q3 hblk hrow c0 c1 c2 c3 c4 c5 c6 c7 c8 hf
  obtain ⟨vN,vS,vL,hblk,hrow,c0,c1,c2,c3,c4,c5,c6,c7,c8,hf⟩:=h3.cells
  have N3:s3.nest=nst+1:=by have:=HQ3.out.2.1;rw [HS2.out] at this;exact this
  rw [N3] at c8
  have h6:=h3.setNest nst (by omega) (by omega)
  obtain ⟨h4',r4⟩:=h6
  obtain ⟨s4,hs4⟩:∃ s4:RS,s4={ s3 with nest:=nst }:=⟨_,rfl⟩
  rw [← hs4] at h4'
  have HS4:Hid (s4={ s3 with nest:=s3.nest - 1 }):=by show s4=_;rw [hs4,N3,show nst+1 - 1=nst from by omega]
  have E4:Hid (s4.err=s3.err):=by rw [hs4];rfl
  have A4:Hid (s4.at_=s3.at_):=by rw [hs4];rfl
  have NN4:Hid (s4.names=s3.names∧s4.nest=nst):=by rw [hs4];exact ⟨rfl,rfl⟩
  have hres2:Hid (s.atom T sub=(if s4.err=0 then s4.want T [41] else s4,x3)):=by
   show s.atom T sub=_
   rw [hres.out,← HS2.out,← HS3.out,← HX3.out];unfold RS.closeB;simp only;rw [HS4.out]
  clear hs4 N3
  by_cases e0:s3.err=0
  ·have k5:(s3.err == 0)=true:=by rw [beq_iff_eq];exact e0
   have E0:Hid (s3.err=0):=e0
   clear e0
   go_wp2_with fail
   refine (want_rs base b T s4 ⟨#[41]⟩ _ h4').mono ?_
   rintro e7 w7 ⟨rfl,h7,r7⟩
   rw [show (⟨#[41]⟩:ByteArray).toList=[41] from by rw [ByteArray.toList_eq]] at h7
   go_wp2_with fail
   go_ret
   have hres3:s.atom T sub=(s4.want T [41],x3):=by rw [hres2.out,if_pos (by rw [E4.out];exact E0.out)]
   refine ⟨_,d3,rfl,by rw [hres3];exact h7,by rw [hres3];exact HV3.out.keep (r4.trans r7).2,(((r1.trans r2).trans r3).trans r4).trans r7,?_⟩
   rw [hres3]
   have q:=HQ3.out
   have ws:=want_same T s4 [41]
   have ta:=take_at T s4 h4'.2.2.2.1.1
   have a2:=AA.out;have a4:=A4.out
   obtain ⟨q1,q2,q3,q4,q5⟩:=q
   have q3':s2.at_≤s3.at_:=q3
   have q1':s3.names=s2.names:=q1
   refine ⟨by show (s4.want T [41]).names=_;rw [ws.1,NN4.out.1,q1',HS2.out];show s1.names=_;rw [HS1.out];rfl,by show (s4.want T [41]).nest=_;rw [ws.2.2.2.2.2,NN4.out.2,HNS.out],by show s.at_≤(s4.want T [41]).at_;rw [ws.2.2.2.1];omega,fun _=>by show s.at_<(s4.want T [41]).at_;rw [ws.2.2.2.1];omega,?_⟩
   refine Nat.le_trans q5 (Nat.mul_le_mul_left K ?_)
   show s3.at_ - s2.at_+bit s3≤(s4.want T [41]).at_ - s.at_+bit (s4.want T [41])
   rw [bit_zero E0.out,ws.2.2.2.1];omega
  ·have k5:(s3.err == 0)=false:=by rw [beq_eq_false_iff_ne];exact e0
   have E0:Hid (s3.err ≠ 0):=e0
   clear e0
   go_wp2_with fail
   go_ret
   have hres3:s.atom T sub=(s4,x3):=by rw [hres2.out,if_neg (by rw [E4.out];exact E0.out)]
   refine ⟨_,d3,rfl,by rw [hres3];exact h4',by rw [hres3];exact HV3.out.keep r4.2,((r1.trans r2).trans r3).trans r4,?_⟩
   rw [hres3]
   have a2:=AA.out;have a4:=A4.out
   obtain ⟨q1,q2,q3,q4,q5⟩:=HQ3.out
   have q3':s2.at_≤s3.at_:=q3
   have q1':s3.names=s2.names:=q1
   refine ⟨by show s4.names=_;rw [NN4.out.1,q1',HS2.out];show s1.names=_;rw [HS1.out];rfl,by show s4.nest=_;rw [NN4.out.2,HNS.out],by show s.at_≤s4.at_;omega,fun _=>by show s.at_<s4.at_;omega,?_⟩
   refine Nat.le_trans q5 (Nat.mul_le_mul_left K ?_)
   show s3.at_ - s2.at_+bit s3≤s4.at_ - s.at_+bit s4
   rw [bit_pos E0.out,bit_pos (by rw [E4.out];exact E0.out)];omega
end Go.Proofs.YtodagkkjfipbgaaGreatDoor
