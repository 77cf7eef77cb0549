import Derived.Test.YtodagkkjfipbgaaGreatDoorW11toW13
namespace Go.Proofs.YtodagkkjfipbgaaGreatDoor
open Go.RowKit
theorem kinds_cls {s:RS} {l:List UInt8} (h:0≤clsIx s.names l):s.kindsOf l=2 ^ (clsIx s.names l).toNat:=by unfold RS.kindsOf;rw [if_pos h]
theorem kinds_any {s:RS} {l:List UInt8} (h:¬ 0≤clsIx s.names l) (h1:l=[97,110,121]):s.kindsOf l=2 ^ (s.names.length+2) - 1:=by unfold RS.kindsOf;rw [if_neg h,if_pos h1]
theorem kinds_other {s:RS} {l:List UInt8} (h:¬ 0≤clsIx s.names l) (h1:l=[111,116,104,101,114]):s.kindsOf l=2 ^ s.names.length:=by unfold RS.kindsOf;rw [if_neg h,if_neg (by rw [h1];decide),if_pos h1]
theorem kinds_bad {s:RS} {l:List UInt8} (h:¬ 0≤clsIx s.names l) (h1:l=[98,97,100]):s.kindsOf l=2 ^ (s.names.length+1):=by unfold RS.kindsOf;rw [if_neg h,if_neg (by rw [h1];decide),if_neg (by rw [h1];decide),if_pos h1]
theorem kinds_none {s:RS} {l:List UInt8} (h:¬ 0≤clsIx s.names l) (h1:l ≠ [97,110,121]) (h2:l ≠ [111,116,104,101,114]) (h3:l ≠ [98,97,100]):s.kindsOf l=0:=by unfold RS.kindsOf;rw [if_neg h,if_neg h1,if_neg h2,if_neg h3]
theorem kinds_num (s:RS) (l:List UInt8) (hl:s.names.length≤6):KNum (s.kindsOf l):=by
 have hb:=clsIx_bd s.names l
 unfold RS.kindsOf KNum
 generalize s.names.length=n at *
 generalize clsIx s.names l=k at *
 split
 ·obtain ⟨m,rfl⟩:∃ m:Nat,k=m:=⟨k.toNat,by omega⟩
  have:m=0∨m=1∨m=2∨m=3∨m=4∨m=5:=by omega
  rcases this with rfl | rfl | rfl | rfl | rfl | rfl <;> simp
 ·have:n=0∨n=1∨n=2∨n=3∨n=4∨n=5∨n=6:=by omega
  split
  ·rcases this with rfl | rfl | rfl | rfl | rfl | rfl | rfl <;> simp
  ·split
   ·rcases this with rfl | rfl | rfl | rfl | rfl | rfl | rfl <;> simp
   ·split
    ·rcases this with rfl | rfl | rfl | rfl | rfl | rfl | rfl <;> simp
    ·simp
set_option maxRecDepth 100000 in
set_option maxHeartbeats 8000000 in
theorem atom_l (hI:ItoaOk) (T:ByteArray) (sub:RS→RS × Rx) (K:Nat) (hK:10≤K)
  (base b:Nat) (s:RS) (w:World) (h:RSt w base b T s) (herr:s.err=0) (htk:s.tk T ≠ [40]) :
  Calls Tryz.prog 231 #[.pointer (some ⟨b,0,none⟩)] w fun e w'=>∃ v d,e=.returned v∧RSt w' base b T (s.atom T sub).1∧IsRe d w' v (s.atom T sub).2∧RChg base w w'∧PQ K s (s.atom T sub):=by
 have HE:Hid (s.err=0):=herr
 have HII:Hid ItoaOk:=hI
 have hres:Hid (s.atom T sub=s.atomLeaf T):=by show s.atom T sub=_;unfold RS.atom;rw [if_neg htk]
 have hat:s.at_≤T.size:=h.2.2.2.1.1
 have hto:=take_at T s hat
 obtain ⟨t1,ht1⟩:∃ t1,t1=tok T s.at_:=⟨_,rfl⟩
 have HT1:Hid (t1=tok T s.at_):=ht1
 have HL1:Hid (s.tk T=t1.toList):=by show s.tk T=_;rw [ht1];rfl
 have k0:(t1.toList == [40])=false:=by rw [beq_eq_false_iff_ne,← HL1.out];exact htk
 clear herr htk hI ht1
 obtain ⟨s1,hs1⟩:∃ s1,s1=s.take T:=⟨_,rfl⟩
 rw [← hs1] at hto
 have HS1:Hid (s1=s.take T):=hs1
 clear hs1
 go_enter Tryz.func231,Tryz.ntmps231
 go_wp2_with fail
 refine (take_rs base b T s _ h).mono ?_
 rintro e1 w1 ⟨rfl,h1,r1⟩
 rw [← HS1.out] at h1
 rw [← HT1.out]
 have E1:Hid (s1.err=0):=by show s1.err=0;rw [HS1.out];exact HE.out
 obtain ⟨vN,vS,vL,hblk,hrow,c0,c1,c2,c3,c4,c5,c6,c7,c8,hf⟩:=h1.cells
 obtain ⟨aoN,capN,rfl⟩:=ownsRow_shape hrow.1
 have hnl:s1.names.length≤6:=h1.2.2.2.1.2.1
 go_wp2_with fail
 refine (class_rs base b T s1 t1 _ h1).mono ?_
 rintro e2 w2 ⟨rfl,hw2⟩
 subst hw2
 go_wp2_with fail
 refine (name_any t1 _).mono ?_
 rintro e3 w3 ⟨rfl,hw3⟩
 subst hw3
 have hbd:=clsIx_bd s1.names t1.toList
 obtain ⟨ix,hix⟩:∃ ix,ix=clsIx s1.names t1.toList:=⟨_,rfl⟩
 rw [← hix] at hbd ⊢
 obtain ⟨hbd1,hbd2⟩:=hbd
 have HIX:Hid (ix=clsIx s1.names t1.toList):=hix
 clear hix
 obtain ⟨n,hn⟩:∃ n,n=s1.names.length:=⟨_,rfl⟩
 rw [← hn] at hnl hbd1
 rw [← hn]
 have HNL:Hid (n=s1.names.length):=hn
 clear hn
 obtain ⟨nm,hnm⟩:∃ nm,nm=nameL t1.toList:=⟨_,rfl⟩
 rw [← hnm]
 have HNM:Hid (nm=nameL t1.toList):=hnm
 clear hnm
 go_upto_block 0 with fail
 go_cut [4,9,2,3,5,6,7,8] (fun pv kv _ _ _ _ _ _ wx=>pv=.int .i64 (s.pos T:Nat)∧kv=.int .i64 (s1.kindsOf t1.toList:Nat)∧RSt wx base b T (s1.leafErr t1.toList (s.pos T))∧RChg base w wx)
 case first =>
  by_cases hi:0≤ix
  ·have hle:Hid (s1.leafErr t1.toList (s.pos T)=s1):=by show _=s1;unfold RS.leafErr;rw [if_pos (Or.inl (by rw [← HIX.out];exact hi))]
   have hk:Hid (s1.kindsOf t1.toList=2 ^ ix.toNat):=by show _=_;rw [kinds_cls (by rw [← HIX.out];exact hi),← HIX.out]
   have hcs:ix=0∨ix=1∨ix=2∨ix=3∨ix=4∨ix=5:=by omega
   clear hi hbd1 hbd2
   rcases hcs with hv | hv | hv | hv | hv | hv
   all_goals
    have HV:=HIX.out
    subst hv
    clear HV
    go_wp2_with fail
    go_meet
    exact ⟨rfl,by rw [hk.out];rfl,by rw [hle.out];exact h1,r1⟩
  ·have hi':ix<0:=by omega
   have HI':Hid (¬ 0≤clsIx s1.names t1.toList):=by show ¬ _;rw [← HIX.out];exact hi
   clear hi
   have hcs:n=0∨n=1∨n=2∨n=3∨n=4∨n=5∨n=6:=by omega
   by_cases l1:t1.toList=[97,110,121]
   ·have hle:Hid (s1.leafErr t1.toList (s.pos T)=s1):=by show _=s1;unfold RS.leafErr;rw [if_pos (Or.inr (Or.inl l1))]
    have hk:Hid (s1.kindsOf t1.toList=2 ^ (n+2) - 1):=by show _=_;rw [kinds_any HI'.out l1,← HNL.out]
    have j1:(t1.toList == [97,110,121])=true:=by rw [beq_iff_eq];exact l1
    clear l1
    rcases hcs with hv | hv | hv | hv | hv | hv | hv
    all_goals
     subst hv
     go_wp2_with fail
     go_meet
     exact ⟨rfl,by rw [hk.out];rfl,by rw [hle.out];exact h1,r1⟩
   ·have j1:(t1.toList == [97,110,121])=false:=by rw [beq_eq_false_iff_ne];exact l1
    by_cases l2:t1.toList=[111,116,104,101,114]
    ·have hle:Hid (s1.leafErr t1.toList (s.pos T)=s1):=by show _=s1;unfold RS.leafErr;rw [if_pos (Or.inr (Or.inr (Or.inl l2)))]
     have hk:Hid (s1.kindsOf t1.toList=2 ^ n):=by show _=_;rw [kinds_other HI'.out l2,← HNL.out]
     have j2:(t1.toList == [111,116,104,101,114])=true:=by rw [beq_iff_eq];exact l2
     clear l1 l2
     rcases hcs with hv | hv | hv | hv | hv | hv | hv
     all_goals
      subst hv
      go_wp2_with fail
      go_meet
      exact ⟨rfl,by rw [hk.out];rfl,by rw [hle.out];exact h1,r1⟩
    ·have j2:(t1.toList == [111,116,104,101,114])=false:=by rw [beq_eq_false_iff_ne];exact l2
     by_cases l3:t1.toList=[98,97,100]
     ·have hle:Hid (s1.leafErr t1.toList (s.pos T)=s1):=by show _=s1;unfold RS.leafErr;rw [if_pos (Or.inr (Or.inr (Or.inr l3)))]
      have hk:Hid (s1.kindsOf t1.toList=2 ^ (n+1)):=by show _=_;rw [kinds_bad HI'.out l3,← HNL.out]
      have j3:(t1.toList == [98,97,100])=true:=by rw [beq_iff_eq];exact l3
      clear l1 l2 l3
      rcases hcs with hv | hv | hv | hv | hv | hv | hv
      all_goals
       subst hv
       go_wp2_with fail
       go_meet
       exact ⟨rfl,by rw [hk.out];rfl,by rw [hle.out];exact h1,r1⟩
     ·have j3:(t1.toList == [98,97,100])=false:=by rw [beq_eq_false_iff_ne];exact l3
      have hk:Hid (s1.kindsOf t1.toList=0):=by show _=_;rw [kinds_none HI'.out l1 l2 l3]
      have hno:¬ (0≤clsIx s1.names t1.toList∨t1.toList=[97,110,121]∨t1.toList=[111,116,104,101,114]∨t1.toList=[98,97,100]):=by
       rintro (q | q | q | q)
       ·exact HI'.out q
       ·exact l1 q
       ·exact l2 q
       ·exact l3 q
      cases nm
      ·have hle:Hid (s1.leafErr t1.toList (s.pos T)=s1.fail 2 (s.pos T)):=by show _=_;unfold RS.leafErr;rw [if_neg hno,if_neg (by rw [← HNM.out];decide)]
       clear l1 l2 l3 hno hcs
       go_wp2_with fail
       refine (fail_rs base b T s1 2 (s.pos T) _ h1 (by omega)).mono ?_
       rintro e4 w4 ⟨rfl,h4,r4⟩
       go_wp2_with fail
       go_meet
       exact ⟨rfl,by rw [hk.out];rfl,by rw [hle.out];exact h4,r1.trans r4⟩
      ·have hle:Hid (s1.leafErr t1.toList (s.pos T)=s1.fail 3 (s.pos T)):=by show _=_;unfold RS.leafErr;rw [if_neg hno,if_pos HNM.out.symm]
       clear l1 l2 l3 hno hcs
       go_wp2_with fail
       refine (fail_rs base b T s1 3 (s.pos T) _ h1 (by omega)).mono ?_
       rintro e4 w4 ⟨rfl,h4,r4⟩
       go_wp2_with fail
       go_meet
       exact ⟨rfl,by rw [hk.out];rfl,by rw [hle.out];exact h4,r1.trans r4⟩
 case rest =>
  obtain ⟨rfl,rfl,h4,r4⟩:=hcut
  obtain ⟨w4,hw4⟩:∃ w4,w4=wc:=⟨wc,rfl⟩
  subst hw4
  have hkn:=kinds_num s1 t1.toList (by rw [← HNL.out];exact hnl)
  obtain ⟨kn,hkv⟩:∃ kn,kn=s1.kindsOf t1.toList:=⟨_,rfl⟩
  rw [← hkv] at hkn ⊢
  have HKN:Hid (KNum kn):=hkn
  have HKV:Hid (kn=s1.kindsOf t1.toList):=hkv
  clear hkn hkv hblk hrow c0 c1 c2 c3 c4 c5 c6 c7 c8 hf
  obtain ⟨s2,hs2⟩:∃ s2,s2=s1.leafErr t1.toList (s.pos T):=⟨_,rfl⟩
  rw [← hs2] at h4
  have HS2:Hid (s2=s1.leafErr t1.toList (s.pos T)):=hs2
  clear hs2
  obtain ⟨vN,vS,vL,hblk,hrow,c0,c1,c2,c3,c4,c5,c6,c7,c8,hf⟩:=h4.cells
  have SM:=leafErr_same s1 t1.toList (s.pos T)
  rw [← HS2.out] at SM
  have hok1:=h1.2.2.2.1
  have ha4:s2.atoms≤4:=by rw [SM.2.2.2.2.1];exact (hok1.2.2.2.2.2.2.2.2 E1.out).2.1
  have ha0:0≤s2.atoms:=h4.2.2.2.1.2.2.2.2.1
  have HSM:Hid (s2.names=s1.names∧s2.at_=s1.at_∧s2.nest=s1.nest):=⟨SM.1,SM.2.2.2.1,SM.2.2.2.2.2⟩
  have HNX:Hid (∀ x ∈ s1.names,x.toList ≠ []):=(hok1.2.2.2.2.2.2.2.2 E1.out).2.2
  clear SM hok1
  have hres2:Hid (s.atom T sub=(s2.leafMany (s.pos T),charX kn)):=by
   show s.atom T sub=_
   rw [hres.out];unfold RS.atomLeaf;rw [← HS1.out,HL1.out,← HS2.out,← HKV.out]
  go_upto_if 95 with fail
  go_cut [95] (fun _ wx=>∃ s3:RS,Hid (s3=if s2.atoms=4 then s2.fail 6 (s.pos T) else s2)∧RSt wx base b T s3∧RChg base w wx)
  case first =>
   by_cases h44:s2.atoms=4
   ·have k4:(s2.atoms == 4)=true:=by rw [beq_iff_eq];exact h44
    have H44:Hid (s2.atoms=4):=h44
    clear h44
    go_wp2_with fail
    refine (fail_rs base b T s2 6 (s.pos T) _ h4 (by omega)).mono ?_
    rintro e5 w5 ⟨rfl,h5,r5⟩
    go_wp2_with fail
    go_meet
    exact ⟨_,by show _=ite _ _ _;rw [if_pos H44.out],h5,r4.trans r5⟩
   ·have k4:(s2.atoms == 4)=false:=by rw [beq_eq_false_iff_ne];exact h44
    have H44:Hid (¬ s2.atoms=4):=h44
    clear h44
    go_wp2_with fail
    go_meet
    exact ⟨s2,by show _=ite _ _ _;rw [if_neg H44.out],h4,r4⟩
  case rest =>
   obtain ⟨s3,HS3,h5,r5⟩:=hcut
   obtain ⟨w5,hw5⟩:∃ w5,w5=wc:=⟨wc,rfl⟩
   subst hw5
   clear hblk hrow c0 c1 c2 c3 c4 c5 c6 c7 c8 hf
   obtain ⟨vN,vS,vL,hblk,hrow,c0,c1,c2,c3,c4,c5,c6,c7,c8,hf⟩:=h5.cells
   have f:=fail_same s2 6 (s.pos T)
   have A3:s3.atoms=s2.atoms:=by rw [HS3.out];split;exact f.2.2.2.2.1;rfl
   have SM3:Hid (s3.names=s2.names∧s3.at_=s2.at_∧s3.nest=s2.nest):=by
    rw [HS3.out];split
    ·exact ⟨f.1,f.2.2.2.1,f.2.2.2.2.2⟩
    ·exact ⟨rfl,rfl,rfl⟩
   have ER3:Hid (s3.err=0→s2.err=0∧s2.atoms≤3):=by
    intro e
    by_cases h44:s2.atoms=4
    ·rw [HS3.out,if_pos h44] at e;exact absurd e (fail_err _ _ _ (by omega))
    ·rw [HS3.out,if_neg h44] at e;exact ⟨e,by omega⟩
   have hb3:0≤s3.atoms∧s3.atoms≤4:=by rw [A3];exact ⟨ha0,ha4⟩
   obtain ⟨hb3a,hb3b⟩:=hb3
   have hok6:({ s3 with atoms:=s3.atoms+1 }:RS).Ok T:=by
    obtain ⟨p1,p2,p3,p4,p5,p6,p7,p8,p9⟩:=h5.2.2.2.1
    refine ⟨p1,p2,p3,p4,by show 0≤s3.atoms+1;omega,by show s3.atoms+1≤5;omega,p7,p8,fun e=>⟨(p9 e).1,?_,(p9 e).2.2⟩⟩
    show s3.atoms+1≤4
    have:=(ER3.out e).2;omega
   obtain ⟨h6,r6⟩:=h5.setAtoms (s3.atoms+1) hok6
   have hres3:Hid (s.atom T sub=({ s3 with atoms:=s3.atoms+1 },charX kn)):=by
    show s.atom T sub=_
    rw [hres2.out];unfold RS.leafMany;simp only;rw [← HS3.out]
   have ht6:Hid (TabOK (w5.setCell ⟨b,7,none⟩ (.int .i64 (s3.atoms+1)))):=h6.2.2.2.2.1
   have hz6:1<(w5.setCell ⟨b,7,none⟩ (.int .i64 (s3.atoms+1))).heap.size:=by
    have q1:=h6.1;have q2:=h6.2.1
    obtain ⟨_,_,_,_,_,vN',vS',vL',hb',_⟩:=h6
    have:=(Array.getElem?_eq_some_iff.1 hb').1;omega
   clear f A3 hok6
   go_wp2_with fail
   refine (char_any HII.out kn _ HKN.out ht6.out hz6).mono ?_
   rintro e7 w7 ⟨v7,rfl,hv7,hb7⟩
   go_wp2_with fail
   go_ret
   obtain ⟨h7,r7⟩:=h6.below hb7
   refine ⟨_,1,rfl,by rw [hres3.out];exact h7,by rw [hres3.out];exact hv7,(r5.trans r6).trans r7,?_⟩
   rw [hres3.out]
   have q1:=SM3.out;have q2:=HSM.out
   have hadv:s3.err=0→s.at_<s1.at_:=by
    intro e
    have e2:=(ER3.out e).1
    have hn:=leafErr_nil s1 t1.toList (s.pos T) (by rw [← HS2.out];exact e2) HNX.out
    rw [HS1.out];exact take_adv T s hat (by rw [HL1.out];exact hn)
   refine ⟨by show s3.names=_;rw [q1.1,q2.1,HS1.out];rfl,by show s3.nest=_;rw [q1.2.2,q2.2.2,HS1.out];rfl,by show s.at_≤s3.at_;omega,fun e=>by show s.at_<s3.at_;have:=hadv e;omega,?_⟩
   show (⟨#[91]⟩++itoaB kn++⟨#[93]⟩:ByteArray).size+5≤K * (s3.at_ - s.at_+bit { s3 with atoms:=s3.atoms+1 })
   have hz:=(itoaB_size kn).1
   rw [sizeApp,sizeApp,size1,size1]
   have hone:1≤s3.at_ - s.at_+bit { s3 with atoms:=s3.atoms+1 }:=by
    by_cases e:s3.err=0
    ·have:=hadv e;omega
    ·rw [bit_pos (s:={ s3 with atoms:=s3.atoms+1 }) e];omega
   calc 1+(itoaB kn).size+1+5≤K * 1:=by omega
    _≤_:=Nat.mul_le_mul_left K hone
theorem atom_p (hI:ItoaOk) (T:ByteArray) (sub:RS→RS × Rx) (K:Nat) (nst:Int) (hK:10≤K) (hn0:0≤nst) (hn4:nst≤4) (hsub:nst ≠ 4→Parses T 148 sub K (nst+1)) :
  Parses T 231 (fun s=>s.atom T sub) K nst:=by
 intro base b s w h herr hnst
 by_cases htk:s.tk T=[40]
 ·exact atom_b T sub K nst hK hn0 hn4 hsub base b s w h herr hnst htk
 ·exact atom_l hI T sub K hK base b s w h herr htk
theorem tk_peek (T:ByteArray) (s:RS):(s.peek T).tk T=s.tk T:=by
 unfold RS.tk RS.peek tok;simp only;rw [skip_skip]
theorem manyX_size (x:Rx):(manyX x).form.size≤x.form.size+2:=by
 unfold manyX;split
 ·show 1≤_;omega
 ·split
  ·omega
  ·show (⟨#[60]⟩++x.form++⟨#[62]⟩:ByteArray).size≤_
   rw [sizeApp,sizeApp,size1,size1];omega
theorem pq_size {K:Nat} {s:RS} {r:RS × Rx} {T:ByteArray} (h:PQ K s r) (hK:K≤10000) (ha:r.1.at_≤T.size) (hT:T.size≤1000):r.2.form.size≤20000000:=by
 have h5:=h.2.2.2.2
 have hb:bit r.1≤1:=by unfold bit;split <;> omega
 have:K * (r.1.at_ - s.at_+bit r.1)≤10000 * 1001:=Nat.mul_le_mul hK (by omega)
 omega
set_option maxRecDepth 100000 in
set_option maxHeartbeats 4000000 in
theorem part_p (T:ByteArray) (sub:RS→RS × Rx) (K:Nat) (nst:Int) (hK:10≤K) (hK2:K≤1000) (ha:Parses T 231 (fun s=>s.atom T sub) K nst) :
  Parses T 212 (fun s=>s.part T sub) (3 * K) nst:=by
 intro base b s w h herr hnst
 have HP:Hid (Parses T 231 (fun s=>s.atom T sub) K nst):=ha
 have HE:Hid (s.err=0):=herr
 have HNS:Hid (s.nest=nst):=hnst
 have hT:T.size≤1000:=h.2.2.1
 clear ha herr hnst
 go_enter Tryz.func212,Tryz.ntmps212
 go_wp2_with fail
 refine (HP.out base b s _ h HE.out HNS.out).mono ?_
 rintro e1 w1 ⟨v1,d1,rfl,h1,hv1,r1,q1⟩
 obtain ⟨s1,hs1⟩:∃ s1,s1=(s.atom T sub).1:=⟨_,rfl⟩
 obtain ⟨x1,hx1⟩:∃ x1,x1=(s.atom T sub).2:=⟨_,rfl⟩
 have hA:s.atom T sub=(s1,x1):=by rw [hs1,hx1]
 have HA:Hid (s.atom T sub=(s1,x1)):=hA
 have h1':RSt w1 base b T s1:=by rw [hs1];exact h1
 have HV1:Hid (IsRe d1 w1 v1 x1):=by rw [hx1];exact hv1
 have HQ1:Hid (PQ K s (s1,x1)):=by show PQ K s (s1,x1);rw [← hA];exact q1
 clear hs1 hx1 hA h1 hv1 q1
 have hx1s:x1.form.size≤20000000:=pq_size (T:=T) HQ1.out (by omega) h1'.2.2.2.1.1 hT
 obtain ⟨vN,vS,vL,hblk,hrow,c0,c1,c2,c3,c4,c5,c6,c7,c8,hf⟩:=h1'.cells
 by_cases e0:s1.err=0
 ·have k0:(s1.err != 0)=false:=by simp [e0]
  have E0:Hid (s1.err=0):=e0
  clear e0
  have hres:Hid (s.part T sub=RS.suffix T s1 x1):=by
   show s.part T sub=_
   unfold RS.part;rw [HA.out,if_neg (by simpa using E0.out)]
  go_wp2_with fail
  refine (peek_rs base b T s1 _ h1').mono ?_
  rintro e2 w2 ⟨rfl,h2,r2⟩
  obtain ⟨t1,ht1⟩:∃ t1,t1=tok T s1.at_:=⟨_,rfl⟩
  rw [← ht1]
  have HT1:Hid (s1.tk T=t1.toList):=by rw [ht1];rfl
  clear ht1 hblk hrow c0 c1 c2 c3 c4 c5 c6 c7 c8 hf
  have HV2:Hid (IsRe d1 w2 v1 x1):=HV1.out.keep r2.2
  have hfin:∀ (r:RS × Rx),r.1.names=s1.names→r.1.nest=s1.nest→s1.at_≤r.1.at_→r.2.form.size+5≤3 * (x1.form.size+5)→PQ (3 * K) s r:=by
   intro r a1 a2 a3 a4
   obtain ⟨q1,q2,q3,q4,q5⟩:=HQ1.out
   have q3':s.at_≤s1.at_:=q3
   have q4':s.at_<s1.at_:=q4 E0.out
   refine ⟨a1.trans q1,a2.trans q2,by omega,fun _=>by omega,?_⟩
   refine Nat.le_trans a4 ?_
   rw [Nat.mul_assoc]
   refine Nat.mul_le_mul_left 3 (Nat.le_trans q5 (Nat.mul_le_mul_left K ?_))
   show s1.at_ - s.at_+bit s1≤_
   rw [bit_zero E0.out];omega
  have HFIN:Hid (∀ (r:RS × Rx),r.1.names=s1.names→r.1.nest=s1.nest→s1.at_≤r.1.at_→r.2.form.size+5≤3 * (x1.form.size+5)→PQ (3 * K) s r):=hfin
  clear hfin
  have hat1:s1.at_≤T.size:=h1'.2.2.2.1.1
  have pa:=peek_at T s1 hat1
  have ta:=take_at T (s1.peek T) pa.1
  by_cases l1:t1.toList=[42]
  ·have k1:(t1.toList == [42])=true:=by rw [beq_iff_eq];exact l1
   have hres2:Hid (s.part T sub=((s1.peek T).take T,manyX x1)):=by show s.part T sub=_;rw [hres.out];unfold RS.suffix;simp only;rw [if_pos (by rw [HT1.out];exact l1)]
   clear l1
   go_wp2_with fail
   refine (take_rs base b T (s1.peek T) _ h2).mono ?_
   rintro e3 w3 ⟨rfl,h3,r3⟩
   go_wp2_with fail
   refine (many_any _ d1 v1 x1 (HV2.out.keep r3.2) (by omega)).mono ?_
   rintro e4 w4 ⟨v4,rfl,hv4,hb4⟩
   go_wp2_with fail
   go_ret
   obtain ⟨h4,r4⟩:=h3.below hb4
   refine ⟨_,_,rfl,by rw [hres2.out];exact h4,by rw [hres2.out];exact hv4,((r1.trans r2).trans r3).trans r4,?_⟩
   rw [hres2.out]
   have:=manyX_size x1
   exact HFIN.out _ rfl rfl (by show s1.at_≤((s1.peek T).take T).at_;omega) (by show (manyX x1).form.size+5≤_;omega)
  ·have k1:(t1.toList == [42])=false:=by rw [beq_eq_false_iff_ne];exact l1
   by_cases l2:t1.toList=[43]
   ·have k2:(t1.toList == [43])=true:=by rw [beq_iff_eq];exact l2
    have hres2:Hid (s.part T sub=((s1.peek T).take T,rowR x1 (manyX x1))):=by show s.part T sub=_;rw [hres.out];unfold RS.suffix;simp only;rw [if_neg (by rw [HT1.out];exact l1),if_pos (by rw [HT1.out];exact l2)]
    clear l1 l2
    go_wp2_with fail
    refine (take_rs base b T (s1.peek T) _ h2).mono ?_
    rintro e3 w3 ⟨rfl,h3,r3⟩
    have HV3:Hid (IsRe d1 w3 v1 x1):=HV2.out.keep r3.2
    go_wp2_with fail
    refine (many_any _ d1 v1 x1 HV3.out (by omega)).mono ?_
    rintro e4 w4 ⟨v4,rfl,hv4,hb4⟩
    have HV4:Hid (IsRe (d1+1) w4 v4 (manyX x1)):=hv4
    clear hv4
    have hms:=manyX_size x1
    obtain ⟨h4,r4⟩:=h3.below hb4
    go_wp2_with fail
    refine (row_any (x1.form.size+1) _ (d1+1) v1 v4 x1 (manyX x1) (by omega) ((HV3.out.keep r4.2).mono (by omega)) HV4.out (by omega)).mono ?_
    rintro e5 w5 ⟨v5,d5,rfl,hv5,hs5,hb5⟩
    go_wp2_with fail
    go_ret
    obtain ⟨h5,r5⟩:=h4.below hb5
    refine ⟨_,_,rfl,by rw [hres2.out];exact h5,by rw [hres2.out];exact hv5,(((r1.trans r2).trans r3).trans r4).trans r5,?_⟩
    rw [hres2.out]
    exact HFIN.out _ rfl rfl (by show s1.at_≤((s1.peek T).take T).at_;omega) (by show (rowX (x1.form.size+1) x1 (manyX x1)).form.size+5≤_;omega)
   ·have k2:(t1.toList == [43])=false:=by rw [beq_eq_false_iff_ne];exact l2
    by_cases l3:t1.toList=[63]
    ·have k3:(t1.toList == [63])=true:=by rw [beq_iff_eq];exact l3
     have hres2:Hid (s.part T sub=((s1.peek T).take T,eitherX x1 emptyX)):=by show s.part T sub=_;rw [hres.out];unfold RS.suffix;simp only;rw [if_neg (by rw [HT1.out];exact l1),if_neg (by rw [HT1.out];exact l2),if_pos (by rw [HT1.out];exact l3)]
     clear l1 l2 l3
     go_wp2_with fail
     refine (take_rs base b T (s1.peek T) _ h2).mono ?_
     rintro e3 w3 ⟨rfl,h3,r3⟩
     have HV3:Hid (IsRe d1 w3 v1 x1):=HV2.out.keep r3.2
     go_wp2_with fail
     refine (empty_any _).mono ?_
     rintro e4 w4 ⟨v4,rfl,hv4,hb4⟩
     have HV4:Hid (IsRe 1 w4 v4 emptyX):=hv4
     clear hv4
     have hes:emptyX.form.size=1:=rfl
     obtain ⟨h4,r4⟩:=h3.below hb4
     have HES:Hid (emptyX.form.size=1):=hes
     clear hes
     go_wp2_with fail
     refine (either_any _ (d1+1) v1 v4 x1 emptyX ((HV3.out.keep r4.2).mono (by omega)) (HV4.out.mono (by omega)) (by rw [HES.out];omega)).mono ?_
     rintro e5 w5 ⟨v5,d5,rfl,hv5,hs5,hb5⟩
     go_wp2_with fail
     go_ret
     obtain ⟨h5,r5⟩:=h4.below hb5
     refine ⟨_,_,rfl,by rw [hres2.out];exact h5,by rw [hres2.out];exact hv5,(((r1.trans r2).trans r3).trans r4).trans r5,?_⟩
     rw [hres2.out]
     rw [HES.out] at hs5
     exact HFIN.out _ rfl rfl (by show s1.at_≤((s1.peek T).take T).at_;omega) (by show (eitherX x1 emptyX).form.size+5≤_;omega)
    ·have k3:(t1.toList == [63])=false:=by rw [beq_eq_false_iff_ne];exact l3
     have hres2:Hid (s.part T sub=(s1.peek T,x1)):=by show s.part T sub=_;rw [hres.out];unfold RS.suffix;simp only;rw [if_neg (by rw [HT1.out];exact l1),if_neg (by rw [HT1.out];exact l2),if_neg (by rw [HT1.out];exact l3)]
     clear l1 l2 l3
     go_wp2_with fail
     go_ret
     refine ⟨_,_,rfl,by rw [hres2.out];exact h2,by rw [hres2.out];exact HV2.out,r1.trans r2,?_⟩
     rw [hres2.out]
     exact HFIN.out _ rfl rfl (by show s1.at_≤(s1.peek T).at_;omega) (by show x1.form.size+5≤_;omega)
 ·have k0:(s1.err != 0)=true:=by simp [e0]
  have hres:Hid (s.part T sub=(s1,x1)):=by
   show s.part T sub=_
   unfold RS.part;rw [HA.out,if_pos (by simpa using e0)]
  clear e0
  go_wp2_with fail
  go_ret
  refine ⟨_,_,rfl,by rw [hres.out];exact h1',by rw [hres.out];exact HV1.out,r1,?_⟩
  rw [hres.out]
  obtain ⟨q1,q2,q3,q4,q5⟩:=HQ1.out
  exact ⟨q1,q2,q3,q4,Nat.le_trans q5 (Nat.mul_le_mul_right _ (by omega))⟩
theorem rowL_err {T:ByteArray} {sub:RS→RS × Rx} {g:Nat} {s:RS} {e:Rx} (h:s.err ≠ 0):RS.rowL T sub g s e=(s,e):=by
 cases g with
 | zero=>rfl
 | succ g=>rw [RS.rowL,if_pos h]
theorem rowL_more {T:ByteArray} {sub:RS→RS × Rx} {g:Nat} {s:RS} {e:Rx} (h:s.err=0) (hm:RS.moreL (s.tk T)=true):RS.rowL T sub (g+1) s e=RS.rowL T sub g ((s.peek T).part T sub).1 (rowR e ((s.peek T).part T sub).2):=by
 rw [RS.rowL,if_neg (by simpa using h),if_pos hm]
theorem rowL_end {T:ByteArray} {sub:RS→RS × Rx} {g:Nat} {s:RS} {e:Rx} (h:s.err=0) (hm:RS.moreL (s.tk T)=false):RS.rowL T sub (g+1) s e=(s.peek T,e):=by
 rw [RS.rowL,if_neg (by simpa using h),if_neg (by simp [hm])]
theorem exprL_err {T:ByteArray} {sub:RS→RS × Rx} {g:Nat} {s:RS} {e:Rx} (h:s.err ≠ 0):RS.exprL T sub g s e=(s,e):=by
 cases g with
 | zero=>rfl
 | succ g=>rw [RS.exprL,if_pos h]
theorem exprL_more {T:ByteArray} {sub:RS→RS × Rx} {g:Nat} {s:RS} {e:Rx} (h:s.err=0) (hm:s.tk T=[47]):RS.exprL T sub (g+1) s e=RS.exprL T sub g (((s.peek T).take T).row T sub).1 (eitherX e (((s.peek T).take T).row T sub).2):=by
 rw [RS.exprL,if_neg (by simpa using h),if_pos hm]
theorem exprL_end {T:ByteArray} {sub:RS→RS × Rx} {g:Nat} {s:RS} {e:Rx} (h:s.err=0) (hm:s.tk T ≠ [47]):RS.exprL T sub (g+1) s e=(s.peek T,e):=by
 rw [RS.exprL,if_neg (by simpa using h),if_neg hm]
theorem pq_more {K:Nat} {s s1 s2 s3:RS} {x y z:Rx} (hq:PQ K s (s1,x)) (he:s1.err=0) (h12:s2.names=s1.names∧s2.nest=s1.nest∧s1.at_≤s2.at_) (hq2:PQ K s2 (s3,y)) (hz:z.form.size+5≤(x.form.size+5)+(y.form.size+5)):PQ K s (s3,z):=by
 obtain ⟨a1,a2,a3,a4,a5⟩:=hq
 obtain ⟨b1,b2,b3,b4,b5⟩:=hq2
 obtain ⟨c1,c2,c3⟩:=h12
 have a3':s.at_≤s1.at_:=a3
 have b3':s2.at_≤s3.at_:=b3
 have a4':s.at_<s1.at_:=a4 he
 have b1':s3.names=s2.names:=b1
 have b2':s3.nest=s2.nest:=b2
 have a1':s1.names=s.names:=a1
 have a2':s1.nest=s.nest:=a2
 refine ⟨?_,?_,by show s.at_≤s3.at_;omega,fun _=>by show s.at_<s3.at_;omega,?_⟩
 ·show s3.names=s.names;rw [b1',c1,a1']
 ·show s3.nest=s.nest;rw [b2',c2,a2']
 ·show z.form.size+5≤K * (s3.at_ - s.at_+bit s3)
  have a5':x.form.size+5≤K * (s1.at_ - s.at_+bit s1):=a5
  have b5':y.form.size+5≤K * (s3.at_ - s2.at_+bit s3):=b5
  rw [bit_zero he] at a5'
  have e:K * (s1.at_ - s.at_+0)+K * (s3.at_ - s2.at_+bit s3)=K * ((s1.at_ - s.at_+0)+(s3.at_ - s2.at_+bit s3)):=(Nat.mul_add K _ _).symm
  have l:K * ((s1.at_ - s.at_+0)+(s3.at_ - s2.at_+bit s3))≤K * (s3.at_ - s.at_+bit s3):=Nat.mul_le_mul_left K (by omega)
  omega
theorem pq_peek {K:Nat} {T:ByteArray} {s s1:RS} {x:Rx} (hq:PQ K s (s1,x)) (he:s1.err=0) (hat:s1.at_≤T.size):PQ K s (s1.peek T,x):=by
 obtain ⟨a1,a2,a3,a4,a5⟩:=hq
 have p:=peek_at T s1 hat
 have a3':s.at_≤s1.at_:=a3
 have a4':s.at_<s1.at_:=a4 he
 refine ⟨a1,a2,by show s.at_≤(s1.peek T).at_;omega,fun _=>by show s.at_<(s1.peek T).at_;omega,?_⟩
 refine Nat.le_trans a5 (Nat.mul_le_mul_left K ?_)
 show s1.at_ - s.at_+bit s1≤(s1.peek T).at_ - s.at_+bit (s1.peek T)
 have:bit (s1.peek T)=bit s1:=rfl
 omega
set_option maxRecDepth 100000 in
set_option maxHeartbeats 4000000 in
theorem row_p (T:ByteArray) (sub:RS→RS × Rx) (K:Nat) (nst:Int) (hK2:K≤10000) (ha:Parses T 212 (fun s=>s.part T sub) K nst) :
  Parses T 187 (fun s=>s.row T sub) K nst:=by
 intro base b s w h herr hnst
 have HP:Hid (Parses T 212 (fun s=>s.part T sub) K nst):=ha
 have HE:Hid (s.err=0):=herr
 have HNS:Hid (s.nest=nst):=hnst
 have hT:T.size≤1000:=h.2.2.1
 clear ha herr hnst
 go_enter Tryz.func187,Tryz.ntmps187
 go_wp2_with fail
 refine (HP.out base b s _ h HE.out HNS.out).mono ?_
 rintro e1 w1 ⟨v1,d1,rfl,h1,hv1,r1,q1⟩
 have hR:Hid (s.row T sub=RS.rowL T sub (T.size+2) (s.part T sub).1 (s.part T sub).2):=rfl
 go_wp2_with fail
 go_loopg [3] (T.size+3) (fun g ev wx=>∃ (s':RS) (x':Rx) (d:Nat),RSt wx base b T s'∧RChg base w wx∧0<g∧Hid (IsRe d wx ev x')∧Hid (RS.rowL T sub (g - 1) s' x'=s.row T sub)∧Hid (s'.err ≠ 0∨T.size<s'.at_+(g - 1))∧Hid (PQ K s (s',x')))
 case atStart=>exact ⟨_,_,d1,h1,r1,by omega,hv1,hR,Or.inr (by omega),q1⟩
 case round =>
  obtain ⟨s',x',d,h2,r2,hg,HV,HL,HF,HQ⟩:=hrel
  have HG:Hid (0<gk):=hg
  clear hg h1 r1 q1 hv1
  obtain ⟨w2,hw2⟩:∃ w2,w2=wr:=⟨wr,rfl⟩
  subst hw2
  obtain ⟨vN,vS,vL,hblk,hrow,c0,c1,c2,c3,c4,c5,c6,c7,c8,hf⟩:=h2.cells
  have hat2:s'.at_≤T.size:=h2.2.2.2.1.1
  by_cases e0:s'.err=0
  ·have k0:(s'.err == 0)=true:=by rw [beq_iff_eq];exact e0
   have E0:Hid (s'.err=0):=e0
   obtain ⟨g',hg'⟩:∃ g',gk=g'+2:=⟨gk - 2,by rcases HF.out with q | q;exact absurd e0 q;omega⟩
   have HG':Hid (gk=g'+2):=hg'
   have HFA:Hid (T.size<s'.at_+(g'+1)):=by
    show T.size<s'.at_+(g'+1)
    rcases HF.out with q | q
    ·exact absurd e0 q
    ·omega
   clear hg' e0
   have HL':Hid (RS.rowL T sub (g'+1) s' x'=s.row T sub):=by show _=_;rw [← HL.out,HG'.out];rfl
   have hx':x'.form.size≤20000000:=pq_size (T:=T) HQ.out hK2 hat2 hT
   go_wp2_with fail
   refine (peek_rs base b T s' _ h2).mono ?_
   rintro e3 w3 ⟨rfl,h3,r3⟩
   obtain ⟨t1,ht1⟩:∃ t1,t1=tok T s'.at_:=⟨_,rfl⟩
   rw [← ht1]
   have HT1:Hid (s'.tk T=t1.toList):=by rw [ht1];rfl
   clear ht1 hblk hrow c0 c1 c2 c3 c4 c5 c6 c7 c8 hf
   have HV3:Hid (IsRe d w3 u3 x'):=HV.out.keep r3.2
   have hat3:(s'.peek T).at_≤T.size:=h3.2.2.2.1.1
   cases hm:RS.moreL t1.toList
   ·have hcase:(((t1.toList == [40])=false∧t1.toList.isEmpty=true)∨((t1.toList == [40])=false∧t1.toList.isEmpty=false∧∃ hp:0<t1.size,letterN (t1[0].toNat)=false)):=by
     unfold RS.moreL at hm
     simp only [Bool.or_eq_false_iff,decide_eq_false_iff_not] at hm
     by_cases hn:t1.toList=[]
     ·left;exact ⟨by rw [beq_eq_false_iff_ne];exact hm.1,by simp [hn]⟩
     ·have hp:0<t1.size:=by
       rcases Nat.eq_zero_or_pos t1.size with e | e
       ·exfalso;apply hn;rw [ByteArray.toList_eq];exact List.eq_nil_of_length_eq_zero (by simpa using e)
       ·exact e
      right;refine ⟨by rw [beq_eq_false_iff_ne];exact hm.1,by simpa using hn,hp,?_⟩
      have:=hm.2
      simp only [hn,decide_not,decide_false,Bool.not_false,Bool.true_and] at this
      rw [headD_bytes t1 hp] at this;exact this
    have hres:Hid (s.row T sub=(s'.peek T,x')):=by show _=_;rw [← HL'.out,rowL_end E0.out (by rw [HT1.out];exact hm)]
    clear hm
    rcases hcase with ⟨j1,j2⟩ | ⟨j1,j2,hp,j3⟩
    all_goals
     go_wp2_with (go_at_call 90;refine (letter_any _ _).mono ?_;rintro e9 w9 ⟨rfl,rfl⟩)
     go_ret
     refine ⟨_,d,rfl,by show RSt _ _ _ _ (s.row T sub).1;rw [hres.out];exact h3,by show IsRe _ _ _ (s.row T sub).2;rw [hres.out];exact HV3.out,r2.trans r3,?_⟩
     show PQ K s (s.row T sub);rw [hres.out];exact pq_peek HQ.out E0.out hat2
   ·have hcase:(((t1.toList == [40])=true∧t1.toList.isEmpty=false)∨((t1.toList == [40])=false∧t1.toList.isEmpty=false∧∃ hp:0<t1.size,letterN (t1[0].toNat)=true)):=by
     unfold RS.moreL at hm
     by_cases h40:t1.toList=[40]
     ·left;exact ⟨by rw [beq_iff_eq];exact h40,by simp [h40]⟩
     ·simp only [h40,decide_false,Bool.false_or,Bool.and_eq_true,decide_eq_true_eq] at hm
      have hn:=hm.1
      have hp:0<t1.size:=by
       rcases Nat.eq_zero_or_pos t1.size with e | e
       ·exfalso;apply hn;rw [ByteArray.toList_eq];exact List.eq_nil_of_length_eq_zero (by simpa using e)
       ·exact e
      right;refine ⟨by rw [beq_eq_false_iff_ne];exact h40,by simpa using hn,hp,?_⟩
      have:=hm.2
      rw [headD_bytes t1 hp] at this;exact this
    have hres:Hid (RS.rowL T sub g' ((s'.peek T).part T sub).1 (rowR x' ((s'.peek T).part T sub).2)=s.row T sub):=by show _=_;rw [← HL'.out,rowL_more E0.out (by rw [HT1.out];exact hm)]
    have HP3:Hid ((s'.peek T).err=0∧(s'.peek T).nest=nst):=⟨E0.out,by have:=HQ.out.2.1;show s'.nest=nst;exact (show s'.nest=s.nest from this).trans HNS.out⟩
    clear hm
    rcases hcase with ⟨j1,j2⟩ | ⟨j1,j2,hp,j3⟩
    all_goals
     go_wp2_with (go_at_call 90;refine (letter_any _ _).mono ?_;rintro e9 w9 ⟨rfl,rfl⟩)
     refine (HP.out base b (s'.peek T) _ h3 HP3.out.1 HP3.out.2).mono ?_
     rintro e4 w4 ⟨v4,d4,rfl,h4,hv4,r4,q4⟩
     have HV4:Hid (IsRe d4 w4 v4 ((s'.peek T).part T sub).2):=hv4
     have HQ4:Hid (PQ K (s'.peek T) ((s'.peek T).part T sub)):=q4
     have hy:((s'.peek T).part T sub).2.form.size≤20000000:=pq_size (T:=T) q4 hK2 h4.2.2.2.1.1 hT
     clear hv4 q4
     go_wp2_with fail
     refine (row_any (x'.form.size+1) _ (d+d4) u3 v4 x' ((s'.peek T).part T sub).2 (by omega) ((HV3.out.keep r4.2).mono (by omega)) (HV4.out.mono (by omega)) (by omega)).mono ?_
     rintro e5 w5 ⟨v5,d5,rfl,hv5,hs5,hb5⟩
     obtain ⟨h5,r5⟩:=h4.below hb5
     have HV5:Hid (IsRe d5 w5 v5 (rowR x' ((s'.peek T).part T sub).2)):=hv5
     clear hv5
     go_wp2_with fail
     go_roundg (g'+1)
     case measure=>have:=HG'.out;omega
     case rel =>
      have hpa:=peek_at T s' hat2
      have hq5:PQ K s (((s'.peek T).part T sub).1,rowR x' ((s'.peek T).part T sub).2):=pq_more (s2:=s'.peek T) (y:=((s'.peek T).part T sub).2) HQ.out E0.out ⟨rfl,rfl,hpa.2⟩ HQ4.out (by show (rowX (x'.form.size+1) x' ((s'.peek T).part T sub).2).form.size+5≤_;omega)
      refine ⟨_,_,d5,h5,((r2.trans r3).trans r4).trans r5,by omega,HV5,hres,?_,hq5⟩
      by_cases e6:((s'.peek T).part T sub).1.err=0
      ·refine Or.inr ?_
       have a1:(s'.peek T).at_<((s'.peek T).part T sub).1.at_:=HQ4.out.2.2.2.1 e6
       have a2:=HFA.out
       show T.size<((s'.peek T).part T sub).1.at_+(g'+1 - 1)
       omega
      ·exact Or.inl e6
  ·have k0:(s'.err == 0)=false:=by rw [beq_eq_false_iff_ne];exact e0
   have hres:Hid (s.row T sub=(s',x')):=by show _=_;rw [← HL.out,rowL_err e0]
   clear e0
   go_wp2_with fail
   go_ret
   refine ⟨_,d,rfl,by show RSt _ _ _ _ (s.row T sub).1;rw [hres.out];exact h2,by show IsRe _ _ _ (s.row T sub).2;rw [hres.out];exact HV.out,r2,?_⟩
   show PQ K s (s.row T sub);rw [hres.out];exact HQ.out
set_option maxRecDepth 100000 in
set_option maxHeartbeats 4000000 in
theorem expr_p (T:ByteArray) (sub:RS→RS × Rx) (K:Nat) (nst:Int) (hK2:K≤10000) (ha:Parses T 187 (fun s=>s.row T sub) K nst) :
  Parses T 148 (fun s=>s.exprS T sub) K nst:=by
 intro base b s w h herr hnst
 have HP:Hid (Parses T 187 (fun s=>s.row T sub) K nst):=ha
 have HE:Hid (s.err=0):=herr
 have HNS:Hid (s.nest=nst):=hnst
 have hT:T.size≤1000:=h.2.2.1
 clear ha herr hnst
 go_enter Tryz.func148,Tryz.ntmps148
 go_wp2_with fail
 refine (HP.out base b s _ h HE.out HNS.out).mono ?_
 rintro e1 w1 ⟨v1,d1,rfl,h1,hv1,r1,q1⟩
 have hR:Hid (s.exprS T sub=RS.exprL T sub (T.size+2) (s.row T sub).1 (s.row T sub).2):=rfl
 go_wp2_with fail
 go_loopg [3] (T.size+3) (fun g ev wx=>∃ (s':RS) (x':Rx) (d:Nat),RSt wx base b T s'∧RChg base w wx∧0<g∧Hid (IsRe d wx ev x')∧Hid (RS.exprL T sub (g - 1) s' x'=s.exprS T sub)∧Hid (s'.err ≠ 0∨T.size<s'.at_+(g - 1))∧Hid (PQ K s (s',x')))
 case atStart=>exact ⟨_,_,d1,h1,r1,by omega,hv1,hR,Or.inr (by omega),q1⟩
 case round =>
  obtain ⟨s',x',d,h2,r2,hg,HV,HL,HF,HQ⟩:=hrel
  have HG:Hid (0<gk):=hg
  clear hg h1 r1 q1 hv1
  obtain ⟨w2,hw2⟩:∃ w2,w2=wr:=⟨wr,rfl⟩
  subst hw2
  obtain ⟨vN,vS,vL,hblk,hrow,c0,c1,c2,c3,c4,c5,c6,c7,c8,hf⟩:=h2.cells
  have hat2:s'.at_≤T.size:=h2.2.2.2.1.1
  by_cases e0:s'.err=0
  ·have k0:(s'.err == 0)=true:=by rw [beq_iff_eq];exact e0
   have E0:Hid (s'.err=0):=e0
   obtain ⟨g',hg'⟩:∃ g',gk=g'+2:=⟨gk - 2,by rcases HF.out with q | q;exact absurd e0 q;omega⟩
   have HG':Hid (gk=g'+2):=hg'
   have HFA:Hid (T.size<s'.at_+(g'+1)):=by
    show T.size<s'.at_+(g'+1)
    rcases HF.out with q | q
    ·exact absurd e0 q
    ·omega
   clear hg' e0
   have HL':Hid (RS.exprL T sub (g'+1) s' x'=s.exprS T sub):=by show _=_;rw [← HL.out,HG'.out];rfl
   have hx':x'.form.size≤20000000:=pq_size (T:=T) HQ.out hK2 hat2 hT
   go_wp2_with fail
   refine (peek_rs base b T s' _ h2).mono ?_
   rintro e3 w3 ⟨rfl,h3,r3⟩
   obtain ⟨t1,ht1⟩:∃ t1,t1=tok T s'.at_:=⟨_,rfl⟩
   rw [← ht1]
   have HT1:Hid (s'.tk T=t1.toList):=by rw [ht1];rfl
   clear ht1 hblk hrow c0 c1 c2 c3 c4 c5 c6 c7 c8 hf
   have HV3:Hid (IsRe d w3 u3 x'):=HV.out.keep r3.2
   have hat3:(s'.peek T).at_≤T.size:=h3.2.2.2.1.1
   by_cases hm:t1.toList=[47]
   ·have j1:(t1.toList == [47])=true:=by rw [beq_iff_eq];exact hm
    have hres:Hid (RS.exprL T sub g' (((s'.peek T).take T).row T sub).1 (eitherX x' (((s'.peek T).take T).row T sub).2)=s.exprS T sub):=by show _=_;rw [← HL'.out,exprL_more E0.out (by rw [HT1.out];exact hm)]
    have HP3:Hid (((s'.peek T).take T).err=0∧((s'.peek T).take T).nest=nst):=⟨E0.out,by have:=HQ.out.2.1;show s'.nest=nst;exact (show s'.nest=s.nest from this).trans HNS.out⟩
    clear hm
    go_wp2_with fail
    refine (take_rs base b T (s'.peek T) _ h3).mono ?_
    rintro e8 w8 ⟨rfl,h8,r8⟩
    go_wp2_with fail
    refine (HP.out base b ((s'.peek T).take T) _ h8 HP3.out.1 HP3.out.2).mono ?_
    rintro e4 w4 ⟨v4,d4,rfl,h4,hv4,r4,q4⟩
    have HV4:Hid (IsRe d4 w4 v4 (((s'.peek T).take T).row T sub).2):=hv4
    have HQ4:Hid (PQ K ((s'.peek T).take T) (((s'.peek T).take T).row T sub)):=q4
    have hy:(((s'.peek T).take T).row T sub).2.form.size≤20000000:=pq_size (T:=T) q4 hK2 h4.2.2.2.1.1 hT
    clear hv4 q4
    go_wp2_with fail
    refine (either_any _ (d+d4) u3 v4 x' (((s'.peek T).take T).row T sub).2 (((HV3.out.keep r8.2).keep r4.2).mono (by omega)) (HV4.out.mono (by omega)) (by omega)).mono ?_
    rintro e5 w5 ⟨v5,d5,rfl,hv5,hs5,hb5⟩
    obtain ⟨h5,r5⟩:=h4.below hb5
    have HV5:Hid (IsRe d5 w5 v5 (eitherX x' (((s'.peek T).take T).row T sub).2)):=hv5
    clear hv5
    go_wp2_with fail
    go_roundg (g'+1)
    case measure=>have:=HG'.out;omega
    case rel =>
     have hpa:=peek_at T s' hat2
     have hta:=take_at T (s'.peek T) hat3
     have hq5:PQ K s ((((s'.peek T).take T).row T sub).1,eitherX x' (((s'.peek T).take T).row T sub).2):=pq_more (s2:=(s'.peek T).take T) (y:=(((s'.peek T).take T).row T sub).2) HQ.out E0.out ⟨rfl,rfl,by omega⟩ HQ4.out (by omega)
     refine ⟨_,_,d5,h5,(((r2.trans r3).trans r8).trans r4).trans r5,by omega,HV5,hres,?_,hq5⟩
     by_cases e6:(((s'.peek T).take T).row T sub).1.err=0
     ·refine Or.inr ?_
      have a1:((s'.peek T).take T).at_<(((s'.peek T).take T).row T sub).1.at_:=HQ4.out.2.2.2.1 e6
      have a2:=HFA.out
      show T.size<(((s'.peek T).take T).row T sub).1.at_+(g'+1 - 1)
      omega
     ·exact Or.inl e6
   ·have j1:(t1.toList == [47])=false:=by rw [beq_eq_false_iff_ne];exact hm
    have hres:Hid (s.exprS T sub=(s'.peek T,x')):=by show _=_;rw [← HL'.out,exprL_end E0.out (by rw [HT1.out];exact hm)]
    clear hm
    go_wp2_with fail
    go_ret
    refine ⟨_,d,rfl,by show RSt _ _ _ _ (s.exprS T sub).1;rw [hres.out];exact h3,by show IsRe _ _ _ (s.exprS T sub).2;rw [hres.out];exact HV3.out,r2.trans r3,?_⟩
    show PQ K s (s.exprS T sub);rw [hres.out];exact pq_peek HQ.out E0.out hat2
  ·have k0:(s'.err == 0)=false:=by rw [beq_eq_false_iff_ne];exact e0
   have hres:Hid (s.exprS T sub=(s',x')):=by show _=_;rw [← HL.out,exprL_err e0]
   clear e0
   go_wp2_with fail
   go_ret
   refine ⟨_,d,rfl,by show RSt _ _ _ _ (s.exprS T sub).1;rw [hres.out];exact h2,by show IsRe _ _ _ (s.exprS T sub).2;rw [hres.out];exact HV.out,r2,?_⟩
   show PQ K s (s.exprS T sub);rw [hres.out];exact HQ.out
theorem expr_all (hI:ItoaOk) (T:ByteArray) (n:Nat):n≤4→Parses T 148 (RS.expr T n) (10 * 3 ^ (n+1)) (4 - (n:Int)):=by
 induction n with
 | zero =>
  intro _
  have h1:=atom_p hI T (fun s=>(s,neverX)) 10 4 (by omega) (by omega) (by omega) (fun h=>absurd rfl h)
  exact expr_p T _ 30 4 (by omega) (row_p T _ 30 4 (by omega) (part_p T _ 10 4 (by omega) (by omega) h1))
 | succ n ih =>
  intro hn
  have hi:=ih (by omega)
  have hk:10≤10 * 3 ^ (n+1)∧10 * 3 ^ (n+1)≤810:=by
   have:n=0∨n=1∨n=2∨n=3:=by omega
   rcases this with rfl | rfl | rfl | rfl <;> decide
  have e:4 - ((n+1:Nat):Int)+1=4 - (n:Int):=by omega
  have h1:=atom_p hI T (RS.expr T n) (10 * 3 ^ (n+1)) (4 - ((n+1:Nat):Int)) hk.1 (by omega) (by omega) (fun _=>by rw [e];exact hi)
  have h2:=part_p T _ _ _ hk.1 (by omega) h1
  have e3:3 * (10 * 3 ^ (n+1))=10 * 3 ^ (n+1+1):=by rw [Nat.pow_succ 3 (n+1)];omega
  rw [e3] at h2
  exact expr_p T _ _ _ (by omega) (row_p T _ _ _ (by omega) h2)
end Go.Proofs.YtodagkkjfipbgaaGreatDoor
