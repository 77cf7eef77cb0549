import Derived.Test.YtodagkkjfipbgaaGreatDoorV1toT1
import Derived.Test.YtodagkkjfipbgaaGreatDoorD2toD6
namespace Go.Proofs.YtodagkkjfipbgaaGreatDoor
open Go.RowKit Go.Maps Go.Lib
structure BadLen (s:ByteArray) (k:Nat):Prop where
 pos:1<=k
 three:k<=3
 fits:k<=s.size
 open_:∀ j,2<=j->j<=k->fullS (s.extract 0 j)=false
 shut:k=s.size\/fullS (s.extract 0 (k+1))=true
theorem firstT_low (b:Nat):firstT b % 8<=4:=by rcases firstT_cases b with h | h | h | h | h | h | h | h | h <;> rw [h] <;> decide
theorem full_four {s:ByteArray} (h:4<=s.size):fullS s=true:=by
 unfold fullS
 rw [if_neg (by omega)]
 unfold fullN
 rw [if_pos (Nat.le_trans (firstT_low _) h)]
set_option maxRecDepth 100000 in
set_option maxHeartbeats 2000000 in
theorem badSize_any (s:ByteArray) (w:World) (hT:Utf8Tabs 2 3 w) (hG:2<w.heap.size/\3<w.heap.size) (h1:1<=s.size) :
  Calls Tryz.prog 150 #[.string s] w fun r w'=>(∃ k:Nat,r=.returned (.int .i64 k)/\BadLen s k)/\Below w.heap.size w w':=by
 have HT:Hid (Utf8Tabs 2 3 w):=hT
 have HG:Hid (2<w.heap.size/\3<w.heap.size):=hG
 clear hT hG
 go_enter Tryz.func150,Tryz.ntmps150
 go_wp2_with fail
 go_loopg [3] 4 (fun gh kv wx=>∃ k:Nat,1<=k/\k<=3/\k<=s.size/\gh+k=5/\kv=.int .i64 k/\Hid (∀ j,2<=j->j<=k->fullS (s.extract 0 j)=false)/\Hid (Below w.heap.size w wx))
 case atStart=>exact ⟨1,Nat.le_refl _,by omega,h1,rfl,rfl,(fun j h1 h2=>by omega),Below.refl _ _⟩
 case round =>
  obtain ⟨k,hk1,hk3,hks,hgk,rfl,hO,hB⟩:=hrel
  obtain ⟨w1,hw1⟩:∃ w1,w1=wr:=⟨wr,rfl⟩
  subst hw1
  have hs1:=hB.out.size
  by_cases hlt:k<s.size
  ·have hsz:(s.extract 0 (k+1)).size=k+1:=by rw [ByteArray.size_extract];omega
   have T1:Utf8Tabs 2 3 w1:=⟨fun c hc=>(hB.out.cell (p:=⟨_,c,none⟩) HG.out.1).trans (HT.out.1 c hc),fun i hi=>⟨(hB.out.cell (p:=⟨_,2 * i,none⟩) HG.out.2).trans (HT.out.2 i hi).1,(hB.out.cell (p:=⟨_,2 * i+1,none⟩) HG.out.2).trans (HT.out.2 i hi).2⟩⟩
   have hcall:=full_any (s.extract 0 (k+1)) w1 T1 (by omega)
   have H4:Hid (4<=k+1->fullS (s.extract 0 (k+1))=true):=fun h=>full_four (by omega)
   obtain ⟨F,hF⟩:∃ F,F=fullS (s.extract 0 (k+1)):=⟨_,rfl⟩
   rw [<- hF] at hcall
   have HF:Hid (F=fullS (s.extract 0 (k+1))):=hF
   have hd:decide ((k:Int)<(s.size:Int))=true:=by simp;omega
   clear T1 hF hsz
   go_wp2_with fail
   refine hcall.mono ?_
   rintro r w2 ⟨rfl,hb2⟩
   have B2:Hid (Below w.heap.size w w2):=hB.out.trans (hb2.mono hs1)
   clear hcall hb2 hB
   cases F with
   | true =>
    go_wp2_with fail
    go_ret
    exact ⟨⟨k,rfl,⟨hk1,hk3,hks,hO.out,Or.inr HF.out.symm⟩⟩,B2.out⟩
   | false =>
    have hk2:k<3:=by
     rcases Nat.lt_or_ge k 3 with h | h
     ·exact h
     ·have h4:=H4.out (by omega);rw [<- HF.out] at h4;cases h4
    go_wp2_with fail
    go_roundg (4 - k)
    case measure=>omega
    case rel =>
     refine ⟨k+1,by omega,by omega,by omega,by omega,by go_num,?_,B2⟩
     intro j h2 h3
     by_cases e:j=k+1
     ·rw [e];exact HF.out.symm
     ·exact hO.out j h2 (by omega)
  ·have hd:decide ((k:Int)<(s.size:Int))=false:=by simp;omega
   go_wp2_with fail
   go_ret
   exact ⟨⟨k,rfl,⟨hk1,hk3,hks,hO.out,Or.inl (by omega)⟩⟩,hB.out⟩
set_option maxRecDepth 100000 in
set_option maxHeartbeats 2000000 in
theorem bs_any2 (base:Nat) (v:Value) (L:List (Int × Int × Nat)) (c:Int) (w:World) (h:TRe base w v L) (hl:L.length<=100000) (hL:EndsUp L) :
  Calls Tryz.prog 213 #[v,.int .i32 c,.func (.func 214) #[] #[]] w fun r w' =>
   (∃ (i:Nat) (f:Bool),r=.returned (.tuple #[.int .i64 i,.bool f])/\i<=L.length/\Parted L c i i)/\Below w.heap.size w w':=by
 obtain ⟨ao,cap,rfl,hcs⟩:=entRow_form h
 have HC:Hid (∀ i (hi:i<L.length),∃ g,ao=some ⟨g,0,none⟩/\g<w.heap.size/\w.cell? ⟨g,i * 3,none⟩=some (.int .i32 L[i].1)/\w.cell? ⟨g,i * 3+1,none⟩=some (.int .i32 L[i].2.1)/\w.cell? ⟨g,i * 3+2,none⟩=some (.int .u8 L[i].2.2)):=hcs
 have hen:∀ (args:Array Value) (w:World),(callFunc 214 args).run Tryz.prog w=.ok (.enter 214 args) w:=enters_of Tryz.func214 (by kernel_rfl) rfl
 clear hcs h
 go_enter Tryz.func213,Tryz.ntmps213
 go_wp2_with fail
 go_loopg [9,10] L.length (fun g iv jv wx=>∃ i j:Nat,i<=j/\j<=L.length/\g=j - i/\iv=.int .i64 i/\jv=.int .i64 j/\Hid (Parted L c i j)/\Below w.heap.size w wx)
 case atStart=>exact ⟨0,L.length,Nat.zero_le _,Nat.le_refl _,rfl,rfl,rfl,⟨fun k o hk=>by omega,fun k o hk ho=>by rw [List.getElem?_eq_none (by omega)] at ho;cases ho⟩,Below.refl _ _⟩
 case round =>
  obtain ⟨i,j,hij,hj,rfl,rfl,rfl,hP,hb⟩:=hrel
  obtain ⟨w1,hw1⟩:∃ w1,w1=wr:=⟨wr,rfl⟩
  subst hw1
  by_cases hlt:i<j
  ·have hml:(i+j) / 2<L.length:=by omega
   obtain ⟨g,rfl,hg,c0,c1,c2⟩:=HC.out ((i+j) / 2) hml
   have d0:=(hb.cell (p:=⟨g,(i+j) / 2 * 3,none⟩) hg).trans c0
   have d1:=(hb.cell (p:=⟨g,(i+j) / 2 * 3+1,none⟩) hg).trans c1
   have d2:=(hb.cell (p:=⟨g,(i+j) / 2 * 3+2,none⟩) hg).trans c2
   clear c0 c1 c2
   go_wp2_with fail
   refine (endsC_any _ _ _ c w1).mono ?_
   rintro r w2 ⟨rfl,b2⟩
   have hb2:=hb.trans (b2.mono hb.size)
   by_cases hlast:L[(i+j) / 2].2.1<c
   ·have e:cmp3 L[(i+j) / 2].2.1 c=-1:=by unfold cmp3;rw [if_pos hlast]
    rw [e]
    have hP2:Hid (Parted L c ((i+j) / 2+1) j):=hP.out.up hL hml hlast
    clear hP hlast e
    go_wp2_with fail
    go_roundg (j - ((i+j) / 2+1))
    case measure=>omega
    case rel=>exact ⟨(i+j) / 2+1,j,by omega,hj,rfl,by go_num,rfl,hP2,hb2⟩
   ·have hP2:Hid (Parted L c i ((i+j) / 2)):=hP.out.down hL hml hlast
    have e:0<=cmp3 L[(i+j) / 2].2.1 c:=by unfold cmp3;rw [if_neg hlast];split <;> decide
    generalize cmp3 L[(i+j) / 2].2.1 c=z at e ⊢
    have e2:¬ z<0:=by omega
    clear hP hlast
    go_wp2_with fail
    go_roundg ((i+j) / 2 - i)
    case measure=>omega
    case rel=>exact ⟨i,(i+j) / 2,by omega,by omega,rfl,rfl,by go_num,hP2,hb2⟩
  ·obtain rfl:i=j:=by omega
   by_cases hil:i<L.length
   ·obtain ⟨g,rfl,hg,c0,c1,c2⟩:=HC.out i hil
    have d0:=(hb.cell (p:=⟨g,i * 3,none⟩) hg).trans c0
    have d1:=(hb.cell (p:=⟨g,i * 3+1,none⟩) hg).trans c1
    have d2:=(hb.cell (p:=⟨g,i * 3+2,none⟩) hg).trans c2
    clear c0 c1 c2
    go_wp2_with fail
    refine (endsC_any _ _ _ c w1).mono ?_
    rintro r w2 ⟨rfl,b2⟩
    have hb2:=hb.trans (b2.mono hb.size)
    go_wp2_with fail
    refine bodyPost_ret (results_tt rfl _ _) rfl ?_
    exact ⟨⟨i,_,rfl,hj,hP.out⟩,hb2⟩
   ·go_wp2_with fail
    refine bodyPost_ret (results_tt rfl _ _) rfl ?_
    exact ⟨⟨i,_,rfl,hj,hP.out⟩,hb⟩
set_option maxRecDepth 100000 in
set_option maxHeartbeats 1000000 in
theorem ends_any (base b o:Nat) (vE:Value) (L:List (Int × Int × Nat)) (c:Int) (w:World) (hc:w.cell? ⟨b,o,none⟩=some vE) (h:TRe base w vE L) (hl:L.length<=100000) (hL:EndsUp L) :
  Calls Tryz.prog 190 #[.pointer (some ⟨b,o,none⟩),.int .i32 c] w fun r w'=>(∃ i:Nat,r=.returned (.int .i64 i)/\i<=L.length/\Parted L c i i)/\Below w.heap.size w w':=by
 have HT:Hid (TRe base w vE L):=h
 obtain ⟨ao,cap,rfl⟩:=row_shape h
 clear h
 go_enter Tryz.func190,Tryz.ntmps190
 go_wp2_with fail
 refine (bs_any2 base _ L c w HT.out hl hL).mono ?_
 rintro r w1 ⟨⟨i,f,rfl,hi,hp⟩,b1⟩
 go_wp2_with fail
 go_ret
 exact ⟨⟨i,rfl,hi,hp⟩,b1⟩
def KindOf (L:List (Int × Int × Nat)) (c:Int) (k:Nat):Prop:=(∃ o ∈ L,o.1<=c/\c<=o.2.1/\o.2.2=k)\/((∀ o ∈ L,¬ (o.1<=c/\c<=o.2.1))/\k=6)
theorem kindOf_end {L:List (Int × Int × Nat)} {c:Int} {i:Nat} (h:Parted L c i i) (hi:L.length<=i):KindOf L c 6 :=
 Or.inr ⟨fun o ho ⟨_,h2⟩=>by
  obtain ⟨j,hj⟩:=List.mem_iff_getElem?.1 ho
  have hjl:=(List.getElem?_eq_some_iff.1 hj).1
  have:=h.1 j o (by omega) hj
  omega,rfl⟩
theorem kindOf_in {L:List (Int × Int × Nat)} {c:Int} {i:Nat} {o:Int × Int × Nat} (h:Parted L c i i) (ho:L[i]?=some o) (h1:o.1<=c):KindOf L c o.2.2 :=
 Or.inl ⟨o,List.mem_of_getElem? ho,h1,h.2 i o (Nat.le_refl _) ho,rfl⟩
theorem kindOf_out {L:List (Int × Int × Nat)} {c:Int} {i:Nat} {o:Int × Int × Nat} (hR:InRow L) (h:Parted L c i i) (ho:L[i]?=some o) (h1:¬ o.1<=c):KindOf L c 6 :=
 Or.inr ⟨fun p hp ⟨h2,h3⟩=>by
  obtain ⟨j,hj⟩:=List.mem_iff_getElem?.1 hp
  rcases Nat.lt_trichotomy j i with e | e | e
  ·have:=h.1 j p e hj;omega
  ·subst e;rw [ho] at hj;cases hj;exact h1 h2
  ·have h4:=hR.2 i j o p e ho hj
   have h5:=h.2 i o (Nat.le_refl _) ho
   omega,rfl⟩
set_option maxRecDepth 100000 in
set_option maxHeartbeats 1000000 in
theorem of_any (base b o:Nat) (vE:Value) (L:List (Int × Int × Nat)) (c:Int) (w:World) (hc:w.cell? ⟨b,o,none⟩=some vE) (h:TRe base w vE L) (hl:L.length<=100000) (hR:InRow L) :
  Calls Tryz.prog 151 #[.pointer (some ⟨b,o,none⟩),.int .i32 c] w fun r w'=>(∃ k:Nat,r=.returned (.int .u8 k)/\KindOf L c k)/\Below w.heap.size w w':=by
 have hcall:=ends_any base b o vE L c w hc h hl hR.ends
 have hbl:=cell_lt hc
 obtain ⟨ao,cap,rfl,hcs⟩:=entRow_form h
 have HC:Hid (∀ i (hi:i<L.length),∃ g,ao=some ⟨g,0,none⟩/\g<w.heap.size/\w.cell? ⟨g,i * 3,none⟩=some (.int .i32 L[i].1)/\w.cell? ⟨g,i * 3+1,none⟩=some (.int .i32 L[i].2.1)/\w.cell? ⟨g,i * 3+2,none⟩=some (.int .u8 L[i].2.2)):=hcs
 have HR:Hid (InRow L):=hR
 clear hcs h hR
 go_enter Tryz.func151,Tryz.ntmps151
 go_wp2_with fail
 refine hcall.mono ?_
 rintro r w1 ⟨⟨i,rfl,hi,hp⟩,b1⟩
 have HP:Hid (Parted L c i i):=hp
 have B1:Hid (Below w.heap.size w w1):=b1
 have c1:=(b1.cell (p:=⟨b,o,none⟩) hbl).trans hc
 clear hp hcall
 by_cases hil:i<L.length
 ·obtain ⟨g,rfl,hg,c2,c3,c4⟩:=HC.out i hil
  have d2:=(b1.cell (p:=⟨g,i * 3,none⟩) hg).trans c2
  have d3:=(b1.cell (p:=⟨g,i * 3+1,none⟩) hg).trans c3
  have d4:=(b1.cell (p:=⟨g,i * 3+2,none⟩) hg).trans c4
  have HO:Hid (L[i]?=some L[i]):=List.getElem?_eq_getElem hil
  generalize L[i]=e at *
  have hd:decide ((i:Int)<(L.length:Int))=true:=by simp;omega
  clear c2 c3 c4 b1
  by_cases hin:e.1<=c
  ·have hd2:decide (e.1<=c)=true:=by simp;omega
   go_wp2_with fail
   go_ret
   exact ⟨⟨_,rfl,kindOf_in HP.out HO.out hin⟩,B1.out⟩
  ·have hd2:decide (e.1<=c)=false:=by simp;omega
   go_wp2_with fail
   go_ret
   exact ⟨⟨6,rfl,kindOf_out HR.out HP.out HO.out (by omega)⟩,B1.out⟩
 ·have hd:decide ((i:Int)<(L.length:Int))=false:=by simp;omega
  clear b1
  go_wp2_with fail
  go_ret
  exact ⟨⟨6,rfl,kindOf_end HP.out (by omega)⟩,B1.out⟩
def CharIs (L:List (Int × Int × Nat)) (s:ByteArray) (k n:Nat):Prop :=
 ((decodeGo s).1=65533/\(decodeGo s).2=1/\k=7/\BadLen s n)\/(¬ ((decodeGo s).1=65533/\(decodeGo s).2=1)/\n=(decodeGo s).2/\KindOf L ((decodeGo s).1:Int) k)
theorem decodeGo_pos {s:ByteArray} (h:1<=s.size):1<=(decodeGo s).2:=by
 unfold decodeGo
 rw [if_neg (by omega),decode_at]
 unfold decodeN
 repeat' split
 all_goals simp
theorem CharIs.bounds {L:List (Int × Int × Nat)} {s:ByteArray} {k n:Nat} (h:CharIs L s k n) (h1:1<=s.size) (hL:∀ o ∈ L,o.2.2<8):1<=n/\n<=4/\n<=s.size/\k<8:=by
 rcases h with ⟨_,_,rfl,hb⟩ | ⟨_,rfl,hk⟩
 ·exact ⟨hb.pos,Nat.le_trans hb.three (by omega),hb.fits,by omega⟩
 ·refine ⟨decodeGo_pos h1,decodeGo_le4 s,decodeGo_le_size s,?_⟩
  rcases hk with ⟨o,ho,_,_,rfl⟩ | ⟨_,rfl⟩
  ·exact hL o ho
  ·omega
set_option maxRecDepth 100000 in
set_option maxHeartbeats 1000000 in
theorem cfirst_any (base b o:Nat) (vE:Value) (L:List (Int × Int × Nat)) (s:ByteArray) (w:World) (hT:Utf8Tabs 2 3 w) (hG:2<w.heap.size/\3<w.heap.size) (hc:w.cell? ⟨b,o,none⟩=some vE) (h:TRe base w vE L) (hl:L.length<=100000) (hR:InRow L) (h1:1<=s.size) :
  Calls Tryz.prog 98 #[.string s,.pointer (some ⟨b,o,none⟩)] w fun r w'=>(∃ k n:Nat,r=.returned (.tuple #[.int .u8 k,.int .i64 n])/\CharIs L s k n)/\Below w.heap.size w w':=by
 have hdec:Calls Tryz.prog 149 #[.string s] w fun e w'=>e=.returned (.tuple #[.int .i32 (decodeGo s).1,.int .i64 (decodeGo s).2])/\Below w.heap.size w w':=by
  have hd:=Any.utf8_DecodeRuneInString Tryz.laysDec s w (by
   rw [show Tryz.laysDec_ren.g 3=2 from by kernel_rfl,show Tryz.laysDec_ren.g 4=3 from by kernel_rfl]
   exact hT)
  rw [show Tryz.laysDec_ren.f 197=149 from by kernel_rfl] at hd
  exact hd
 obtain ⟨c,hcc⟩:∃ c,c=(decodeGo s).1:=⟨_,rfl⟩
 obtain ⟨m,hm⟩:∃ m,m=(decodeGo s).2:=⟨_,rfl⟩
 rw [<- hcc,<- hm] at hdec
 have HCC:Hid (c=(decodeGo s).1):=hcc
 have HM:Hid (m=(decodeGo s).2):=hm
 have hbl:=cell_lt hc
 have T1:Hid (∀ w1,Below w.heap.size w w1->Utf8Tabs 2 3 w1):=fun w1 hB=>⟨fun c hc=>(hB.cell (p:=⟨_,c,none⟩) hG.1).trans (hT.1 c hc),fun i hi=>⟨(hB.cell (p:=⟨_,2 * i,none⟩) hG.2).trans (hT.2 i hi).1,(hB.cell (p:=⟨_,2 * i+1,none⟩) hG.2).trans (hT.2 i hi).2⟩⟩
 have OF:Hid (∀ w1,Below w.heap.size w w1->Calls Tryz.prog 151 #[.pointer (some ⟨b,o,none⟩),.int .i32 c] w1 fun r w'=>(∃ k:Nat,r=.returned (.int .u8 k)/\KindOf L c k)/\Below w1.heap.size w1 w'):=fun w1 hB=>of_any base b o vE L c w1 ((hB.cell (p:=⟨b,o,none⟩) hbl).trans hc) (row_kp h (Kp.below hB)) hl hR
 have BS:Hid (∀ w1,Below w.heap.size w w1->Calls Tryz.prog 150 #[.string s] w1 fun r w'=>(∃ k:Nat,r=.returned (.int .i64 k)/\BadLen s k)/\Below w1.heap.size w1 w'):=fun w1 hB=>badSize_any s w1 (T1.out w1 hB) ⟨Nat.lt_of_lt_of_le hG.1 hB.size,Nat.lt_of_lt_of_le hG.2 hB.size⟩ h1
 clear hT hG hc h hR hcc hm T1
 go_enter Tryz.func98,Tryz.ntmps98
 go_wp2_with fail
 refine hdec.mono ?_
 rintro r w1 ⟨rfl,b1⟩
 have B1:Hid (Below w.heap.size w w1):=b1
 clear hdec b1
 by_cases e1:c=65533
 ·have hd1:((c:Int) == 65533)=true:=by simp;omega
  by_cases e2:m=1
  ·have hd2:((m:Int) == 1)=true:=by simp;omega
   have E:Hid ((decodeGo s).1=65533/\(decodeGo s).2=1):=⟨by rw [<- HCC.out,e1],by rw [<- HM.out,e2]⟩
   clear e1 e2
   go_wp2_with fail
   refine (BS.out w1 B1.out).mono ?_
   rintro r w2 ⟨⟨k,rfl,hk⟩,b2⟩
   go_wp2_with fail
   go_ret2
   exact ⟨⟨7,k,rfl,Or.inl ⟨E.out.1,E.out.2,rfl,hk⟩⟩,B1.out.trans (b2.mono B1.out.size)⟩
  ·have hd2:((m:Int) == 1)=false:=by simp;omega
   have E:Hid (¬ ((decodeGo s).1=65533/\(decodeGo s).2=1)):=fun h=>e2 (by rw [HM.out,h.2])
   clear e1 e2
   go_wp2_with fail
   refine (OF.out w1 B1.out).mono ?_
   rintro r w2 ⟨⟨k,rfl,hk⟩,b2⟩
   go_wp2_with fail
   go_ret2
   exact ⟨⟨k,m,rfl,Or.inr ⟨E.out,HM.out,by rw [<- HCC.out];exact hk⟩⟩,B1.out.trans (b2.mono B1.out.size)⟩
 ·have hd1:((c:Int) == 65533)=false:=by simp;omega
  have E:Hid (¬ ((decodeGo s).1=65533/\(decodeGo s).2=1)):=fun h=>e1 (by rw [HCC.out,h.1])
  clear e1
  go_wp2_with fail
  refine (OF.out w1 B1.out).mono ?_
  rintro r w2 ⟨⟨k,rfl,hk⟩,b2⟩
  go_wp2_with fail
  go_ret2
  exact ⟨⟨k,m,rfl,Or.inr ⟨E.out,HM.out,by rw [<- HCC.out];exact hk⟩⟩,B1.out.trans (b2.mono B1.out.size)⟩
theorem Tryz.infoKd:(Tryz.prog.info? 169).map (fun i=>(i.zero,i.size,i.bytes))=some (some (.int .u8 0),1,1):=by kernel_rfl
theorem Tryz.undKd:Tryz.prog.underlying 91=some (.slice 169):=by kernel_rfl
theorem Tryz.infoU8:(Tryz.prog.info? 5).map (fun i=>(i.zero,i.size,i.bytes))=some (some (.int .u8 0),1,1):=by kernel_rfl
theorem Tryz.undU8:Tryz.prog.underlying 63=some (.slice 5):=by kernel_rfl
inductive CharsTo (L:List (Int × Int × Nat)) (s:ByteArray):Nat->List Nat->List Nat->Prop where
 | nil:CharsTo L s 0 [] []
 | snoc {p:Nat} {ks ns:List Nat} {k n:Nat} (h:CharsTo L s p ks ns) (hp:p<s.size) (hc:CharIs L (s.extract p s.size) k n):CharsTo L s (p+n) (ks++[k]) (ns++[n])
structure CharsOk (s:ByteArray) (p:Nat) (ks ns:List Nat):Prop where
 len:ks.length=ns.length
 sum:ns.sum=p
 fits:p<=s.size
 kinds:∀ k ∈ ks,k<8
 sizes:∀ n ∈ ns,1<=n/\n<=4
 few:ns.length<=p
theorem CharsTo.ok {L:List (Int × Int × Nat)} (hL:∀ o ∈ L,o.2.2<8) {s:ByteArray} {p:Nat} {ks ns:List Nat} (h:CharsTo L s p ks ns):CharsOk s p ks ns:=by
 induction h with
 | nil=>exact ⟨rfl,rfl,Nat.zero_le _,by simp,by simp,Nat.le_refl _⟩
 | @snoc p ks ns k n h hp hc ih =>
  have hz:(s.extract p s.size).size=s.size - p:=by rw [ByteArray.size_extract];omega
  have hb:=hc.bounds (by omega) hL
  refine ⟨by simp [ih.len],by simp [ih.sum],by omega,fun k' hk=>?_,fun n' hn=>?_,by simp;have:=ih.few;omega⟩
  ·rcases List.mem_append.1 hk with h | h
   ·exact ih.kinds _ h
   ·simp at h;rw [h];exact hb.2.2.2
  ·rcases List.mem_append.1 hn with h | h
   ·exact ih.sizes _ h
   ·simp at h;rw [h];exact ⟨hb.1,hb.2.1⟩
theorem kCells_snoc (ks:List Nat) (k:Nat):kCells (ks++[k])=kCells ks++[.int .u8 (k:Nat)]:=by unfold kCells;rw [List.map_append];rfl
theorem one_u8 (k:Nat):∀ u ∈ [Value.int .u8 (k:Nat)],u.oneCell'=true:=by intro u hu;simp at hu;subst hu;rfl
structure CRow (base:Nat) (W:World) (n0:Nat) (vK vN:Value) (ks ns:List Nat):Prop where
 b0:W.heap[n0]?=some (.cells #[.slice none 0 0,.slice none 0 0] 104 (0,0))
 b1:W.heap[n0+1]?=some (.cells #[vK,vN] 104 (0,0))
 rk:W.ownsRow base 169 1 vK ks.length (kCells ks)
 rn:W.ownsRow base 5 1 vN ns.length (kCells ns)
theorem CRow.below {base:Nat} {W W':World} {n0:Nat} {vK vN:Value} {ks ns:List Nat} (h:CRow base W n0 vK vN ks ns) (hb:Below W.heap.size W W'):CRow base W' n0 vK vN ks ns :=
 ⟨(hb.block _ (heap_lt h.b0)).trans h.b0,(hb.block _ (heap_lt h.b1)).trans h.b1,row_kp h.rk (Kp.below hb),row_kp h.rn (Kp.below hb)⟩
theorem CRow.pushK {base n0:Nat} {W W3:World} {aK aN ao':Option Addr} {cK cN cap':Nat} {ks ns:List Nat} {k:Nat} (D:CRow base W n0 (.slice aK ks.length cK) (.slice aN ns.length cN) ks ns) (hown:W3.ownsRow base 169 1 (.slice ao' (ks.length+1) cap') (ks.length+1) (kCells ks++[.int .u8 (k:Nat)])) (hgr:W.grownBy W3 (Value.slice aK ks.length cK).ownBlock) :
  W3.heap[n0+1]?=some (.cells #[.slice aK ks.length cK,.slice aN ns.length cN] 104 (0,0))/\CRow base (W3.setCell ⟨n0+1,0,none⟩ (.slice ao' (ks.length+1) cap')) n0 (.slice ao' (ks.length+1) cap') (.slice aN ns.length cN) (ks++[k]) ns:=by
 have k1:=kept_grown D.b1 (Kp.refl _ _) D.rk hgr (by decide)
 have k0:=kept_grown D.b0 (Kp.refl _ _) D.rk hgr (by decide)
 refine ⟨k1,⟨(setCell_type (by omega)).trans k0,(block_setCell k1 0 _).trans rfl,?_,row_kp (row_kp D.rn ((Kp.refl _ _).grown D.rk hgr (by decide))) ((Kp.refl _ _).setCell k1 (by decide) _)⟩⟩
 rw [List.length_append,kCells_snoc]
 exact row_kp hown ((Kp.refl _ _).setCell k1 (by decide) _)
theorem CRow.pushN {base n0:Nat} {W W3:World} {aK aN ao':Option Addr} {cK cN cap' m:Nat} {ks ns:List Nat} {n:Nat} (D:CRow base W n0 (.slice aK m cK) (.slice aN ns.length cN) ks ns) (hown:W3.ownsRow base 5 1 (.slice ao' (ns.length+1) cap') (ns.length+1) (kCells ns++[.int .u8 (n:Nat)])) (hgr:W.grownBy W3 (Value.slice aN ns.length cN).ownBlock) :
  W3.heap[n0+1]?=some (.cells #[.slice aK m cK,.slice aN ns.length cN] 104 (0,0))/\CRow base (W3.setCell ⟨n0+1,1,none⟩ (.slice ao' (ns.length+1) cap')) n0 (.slice aK m cK) (.slice ao' (ns.length+1) cap') ks (ns++[n]):=by
 have k1:=kept_grown D.b1 (Kp.refl _ _) D.rn hgr (by decide)
 have k0:=kept_grown D.b0 (Kp.refl _ _) D.rn hgr (by decide)
 refine ⟨k1,⟨(setCell_type (by omega)).trans k0,(block_setCell k1 1 _).trans rfl,row_kp (row_kp D.rk ((Kp.refl _ _).grown D.rn hgr (by decide))) ((Kp.refl _ _).setCell k1 (by decide) _),?_⟩⟩
 rw [List.length_append,kCells_snoc]
 exact row_kp hown ((Kp.refl _ _).setCell k1 (by decide) _)
theorem CRow.readyN {w:World} {n0:Nat} {W W3:World} {aK aN ao':Option Addr} {cK cN cap':Nat} {ks ns:List Nat} {k:Nat} (n:Nat) (hn0:w.heap.size=n0) (D:CRow n0 W n0 (.slice aK ks.length cK) (.slice aN ns.length cN) ks ns) (BA:Below n0 w W) (hown:W3.ownsRow n0 169 1 (.slice ao' (ks.length+1) cap') (ks.length+1) (kCells ks++[.int .u8 (k:Nat)])) (hgr:W.grownBy W3 (Value.slice aK ks.length cK).ownBlock) :
  W3.cell? ⟨n0+1,0,none⟩=some (.slice aK ks.length cK)/\(∀ j,W3.frozen? ⟨n0+1,j,none⟩=false)/\(W3.setCell ⟨n0+1,0,none⟩ (.slice ao' (ks.length+1) cap')).cell? ⟨n0+1,1,none⟩=some (.slice aN ns.length cN)/\((W3.setCell ⟨n0+1,0,none⟩ (.slice ao' (ks.length+1) cap')).alloc (.cells #[.int .u8 (n:Nat)] 5)).cell? ⟨n0+1,1,none⟩=some (.slice aN ns.length cN)/\Below n0 w ((W3.setCell ⟨n0+1,0,none⟩ (.slice ao' (ks.length+1) cap')).alloc (.cells #[.int .u8 (n:Nat)] 5))/\CRow n0 ((W3.setCell ⟨n0+1,0,none⟩ (.slice ao' (ks.length+1) cap')).alloc (.cells #[.int .u8 (n:Nat)] 5)) n0 (.slice ao' (ks.length+1) cap') (.slice aN ns.length cN) (ks++[k]) ns/\(∀ (j:Nat) (u:Value),[Value.int .u8 (n:Nat)][j]?=some u->((W3.setCell ⟨n0+1,0,none⟩ (.slice ao' (ks.length+1) cap')).alloc (.cells #[.int .u8 (n:Nat)] 5)).cell? ⟨W3.heap.size,j,none⟩=some u):=by
 obtain ⟨k1,d2⟩:=D.pushK hown hgr
 have LA:n0<=W.heap.size:=by rw [<- hn0];exact BA.size
 have B3:Below n0 w W3:=BA.grown hgr LA (fun k hk=>(D.rk.lt k hk).1)
 have hl3:=heap_lt d2.b1
 have y1:(W3.setCell ⟨n0+1,0,none⟩ (.slice ao' (ks.length+1) cap')).cell? ⟨n0+1,1,none⟩=some (.slice aN ns.length cN):=cell_of_block d2.b1 1 _ rfl
 have BV:Below n0 w (W3.setCell ⟨n0+1,0,none⟩ (.slice ao' (ks.length+1) cap')):=B3.setCell (by show n0<=n0+1;omega) _
 refine ⟨cell_of_block k1 0 _ rfl,free_of_block k1,y1,((below_alloc _ _).cell (p:=⟨n0+1,1,none⟩) hl3).trans y1,BV.alloc (Nat.le_trans (Nat.le_of_eq hn0.symm) BV.size) _,d2.below (below_alloc _ _),?_⟩
 intro j u hu
 have e:(W3.setCell ⟨n0+1,0,none⟩ (.slice ao' (ks.length+1) cap')).heap.size=W3.heap.size:=by simp
 have h:=cell_of_block (heap_alloc_new (W3.setCell ⟨n0+1,0,none⟩ (.slice ao' (ks.length+1) cap')) (.cells #[.int .u8 (n:Nat)] 5)) j u (by simpa using hu)
 rw [e] at h
 exact h
theorem ext_ext (s:ByteArray) (p n:Nat):(s.extract p s.size).extract n (s.size - p)=s.extract (p+n) s.size:=by
 rw [ByteArray.extract_extract]
 congr 1
 omega
set_option maxRecDepth 100000 in
set_option maxHeartbeats 4000000 in
theorem cread_any (base b o:Nat) (vE:Value) (L:List (Int × Int × Nat)) (s:ByteArray) (w:World) (hT:Utf8Tabs 2 3 w) (hG:2<w.heap.size/\3<w.heap.size) (hc:w.cell? ⟨b,o,none⟩=some vE) (h:TRe base w vE L) (hl:L.length<=100000) (hR:InRow L) (hL:∀ o ∈ L,o.2.2<8) (hlen:s.size<=2200000) :
  Calls Tryz.prog 51 #[.string s,.pointer (some ⟨b,o,none⟩)] w fun r w'=>(∃ vK vN ks ns,r=.returned (.agg #[vK,vN])/\CharsTo L s s.size ks ns/\w'.ownsRow w.heap.size 169 1 vK ks.length (kCells ks)/\w'.ownsRow w.heap.size 5 1 vN ns.length (kCells ns))/\Below w.heap.size w w':=by
 have hbl:=cell_lt hc
 have CF:Hid (∀ (w1:World) (t:ByteArray),Below w.heap.size w w1->1<=t.size->Calls Tryz.prog 98 #[.string t,.pointer (some ⟨b,o,none⟩)] w1 fun r w'=>(∃ k n:Nat,r=.returned (.tuple #[.int .u8 k,.int .i64 n])/\CharIs L t k n)/\Below w1.heap.size w1 w'):=fun w1 t hB h1=>cfirst_any base b o vE L t w1 ⟨fun c hc=>(hB.cell (p:=⟨_,c,none⟩) hG.1).trans (hT.1 c hc),fun i hi=>⟨(hB.cell (p:=⟨_,2 * i,none⟩) hG.2).trans (hT.2 i hi).1,(hB.cell (p:=⟨_,2 * i+1,none⟩) hG.2).trans (hT.2 i hi).2⟩⟩ ⟨Nat.lt_of_lt_of_le hG.1 hB.size,Nat.lt_of_lt_of_le hG.2 hB.size⟩ ((hB.cell (p:=⟨b,o,none⟩) hbl).trans hc) (row_kp h (Kp.below hB)) hl hR h1
 have HL:Hid (∀ o ∈ L,o.2.2<8):=hL
 obtain ⟨W0,hW0⟩:∃ W0,W0=(w.alloc (.cells #[.slice none 0 0,.slice none 0 0] 104)).alloc (.cells #[.slice none 0 0,.slice none 0 0] 104):=⟨_,rfl⟩
 have HW0:Hid (W0=(w.alloc (.cells #[.slice none 0 0,.slice none 0 0] 104)).alloc (.cells #[.slice none 0 0,.slice none 0 0] 104)):=hW0
 have B0:Hid (Below w.heap.size w W0):=by rw [hW0];exact (below_alloc w _).alloc (by simp) _
 have C0:Hid (CRow w.heap.size W0 w.heap.size (.slice none 0 0) (.slice none 0 0) [] []):=by
  refine ⟨?_,?_,World.ownsRow_nil _ _ _ _,World.ownsRow_nil _ _ _ _⟩
  ·rw [hW0];exact (Below.heap_alloc _ _ _ (by simp)).trans (heap_alloc_new w _)
  ·rw [hW0];exact (show (w.alloc (.cells #[.slice none 0 0,.slice none 0 0] 104)).heap.size=w.heap.size+1 by simp) ▸ heap_alloc_new (w.alloc _) _
 have E0:Hid (s=s.extract 0 s.size):=by show _=_;simp
 clear hT hG hc h hR hL hW0 hl
 go_enter Tryz.func51,Tryz.ntmps51
 go_wp2_with fail
 rw [<- HW0.out]
 clear HW0
 go_loopg [0] s.size (fun gh tv wx=>∃ (p:Nat) (aK:Option Addr) (cK:Nat) (aN:Option Addr) (cN:Nat) (ks ns:List Nat),p<=s.size/\gh=s.size - p/\tv=.string (s.extract p s.size)/\Hid (CharsTo L s p ks ns)/\Hid (CRow w.heap.size wx w.heap.size (.slice aK ks.length cK) (.slice aN ns.length cN) ks ns)/\Hid (Below w.heap.size w wx))
 case atStart=>exact ⟨0,none,0,none,0,[],[],Nat.zero_le _,rfl,by rw [<- E0.out],CharsTo.nil,C0,B0⟩
 case round =>
  obtain ⟨p,aK,cK,aN,cN,ks,ns,hp,rfl,rfl,hCh,hC,hB⟩:=hrel
  obtain ⟨w1,hw1⟩:∃ w1,w1=wr:=⟨wr,rfl⟩
  subst hw1
  have hs1:=hB.out.size
  have hok:=hCh.out.ok HL.out
  have hkl:ks.length<=2200000:=by have:=hok.len;have:=hok.few;omega
  have hnl:ns.length<=2200000:=by have:=hok.few;omega
  have hz:(s.extract p s.size).size=s.size - p:=by rw [ByteArray.size_extract];omega
  clear hok C0 B0 E0
  by_cases hlt:p<s.size
  ·have hcall:=CF.out w1 (s.extract p s.size) hB.out (by omega)
   obtain ⟨t,ht⟩:∃ t,t=s.extract p s.size:=⟨_,rfl⟩
   rw [<- ht] at hz hcall ⊢
   have HT:Hid (t=s.extract p s.size):=ht
   clear ht
   go_wp2_with fail
   refine hcall.mono ?_
   rintro r w2 ⟨⟨k,n,rfl,hch⟩,b2⟩
   have hbd:=hch.bounds (by omega) HL.out
   have hn1:=hbd.1
   have hn4:=hbd.2.1
   have hnf:=hbd.2.2.1
   have hw8:IntKind.u8.wrap (n:Int)=(n:Int):=by rw [IntKind.wrap_u8];omega
   have HCH:Hid (CharsTo L s (p+n) (ks++[k]) (ns++[n])):=CharsTo.snoc hCh.out hlt (by rw [<- HT.out];exact hch)
   have B2:Hid (Below w.heap.size w w2):=hB.out.trans (b2.mono hs1)
   have C2:Hid (CRow w.heap.size w2 w.heap.size (.slice aK ks.length cK) (.slice aN ns.length cN) ks ns):=hC.out.below b2
   have hs2:=B2.out.size
   have hb1:=heap_lt C2.out.b1
   have z0:=cell_of_block C2.out.b1 0 _ rfl
   have z0':(w2.alloc (.cells #[.int .u8 (k:Nat)] 169)).cell? ⟨w.heap.size+1,0,none⟩=some (.slice aK ks.length cK):=((below_alloc w2 _).cell (p:=⟨w.heap.size+1,0,none⟩) hb1).trans z0
   have D1:Hid (CRow w.heap.size (w2.alloc (.cells #[.int .u8 (k:Nat)] 169)) w.heap.size (.slice aK ks.length cK) (.slice aN ns.length cN) ks ns):=C2.out.below (below_alloc w2 _)
   have BA:Hid (Below w.heap.size w (w2.alloc (.cells #[.int .u8 (k:Nat)] 169))):=B2.out.alloc hs2 _
   have LA:w.heap.size<=(w2.alloc (.cells #[.int .u8 (k:Nat)] 169)).heap.size:=BA.out.size
   have NW:Hid (∀ (j:Nat) (u:Value),[Value.int .u8 (k:Nat)][j]?=some u->(w2.alloc (.cells #[.int .u8 (k:Nat)] 169)).cell? ⟨w2.heap.size,j,none⟩=some u):=fun j u hu=>cell_of_block (heap_alloc_new w2 _) j u (by simpa using hu)
   clear hcall hch hbd b2 hC hB hCh C2
   go_wp2_with (first
    | (at_builtin;refine wpList_push2 rfl (.tmp 18) (.tmp 20) 91 rfl w.heap.size 169 (.int .u8 0) 1 1 Tryz.infoKd Tryz.undKd rfl (by decide) (.slice aK ks.length cK) ks.length (kCells ks) rfl D1.out.rk w2.heap.size 1 [.int .u8 (k:Nat)] rfl rfl NW.out (one_u8 k) (by omega) (by omega) LA ?_;intro v' W3 hown hgr hsn;obtain ⟨ao',cap',rfl⟩:=row_shape hown;obtain ⟨y0,yf,y1,y1',bu,d2,nu⟩:=D1.out.readyN n rfl BA.out hown hgr;have BU:Hid (Below w.heap.size w ((W3.setCell ⟨w.heap.size+1,0,none⟩ (.slice ao' (ks.length+1) cap')).alloc (.cells #[.int .u8 (n:Nat)] 5))):=bu;have LU:w.heap.size<=((W3.setCell ⟨w.heap.size+1,0,none⟩ (.slice ao' (ks.length+1) cap')).alloc (.cells #[.int .u8 (n:Nat)] 5)).heap.size:=bu.size;have D2:Hid (CRow w.heap.size ((W3.setCell ⟨w.heap.size+1,0,none⟩ (.slice ao' (ks.length+1) cap')).alloc (.cells #[.int .u8 (n:Nat)] 5)) w.heap.size (.slice ao' (ks.length+1) cap') (.slice aN ns.length cN) (ks++[k]) ns):=d2;have NU:Hid (∀ (j:Nat) (u:Value),[Value.int .u8 (n:Nat)][j]?=some u->((W3.setCell ⟨w.heap.size+1,0,none⟩ (.slice ao' (ks.length+1) cap')).alloc (.cells #[.int .u8 (n:Nat)] 5)).cell? ⟨W3.heap.size,j,none⟩=some u):=nu;clear hown hgr hsn d2 bu nu)
    | (at_builtin;refine wpList_push2 rfl (.tmp 24) (.tmp 27) 63 rfl w.heap.size 5 (.int .u8 0) 1 1 Tryz.infoU8 Tryz.undU8 rfl (by decide) (.slice aN ns.length cN) ns.length (kCells ns) rfl D2.out.rn W3.heap.size 1 [.int .u8 (n:Nat)] rfl rfl NU.out (one_u8 n) (by omega) (by omega) LU ?_;intro v2 W4 hown hgr hsn;obtain ⟨ao2,cap2,rfl⟩:=row_shape hown;obtain ⟨j1,d3⟩:=D2.out.pushN hown hgr;have B4:Hid (Below w.heap.size w W4):=BU.out.grown hgr LU (fun k hk=>(D2.out.rn.lt k hk).1);have D3:Hid (CRow w.heap.size (W4.setCell ⟨w.heap.size+1,1,none⟩ (.slice ao2 (ns.length+1) cap2)) w.heap.size (.slice ao' (ks.length+1) cap') (.slice ao2 (ns.length+1) cap2) (ks++[k]) (ns++[n])):=d3;have x1:=cell_of_block j1 1 _ rfl;have xf:=free_of_block j1;clear hown hgr hsn j1 d3))
   go_roundg (s.size - (p+n))
   case measure=>omega
   case rel =>
    refine ⟨p+n,ao',cap',ao2,cap2,ks++[k],ns++[n],by omega,rfl,?_,HCH,?_,B4.out.setCell (by show w.heap.size<=w.heap.size+1;omega) _⟩
    ·rw [HT.out,ext_ext]
    ·rw [List.length_append,List.length_append];exact D3
  ·obtain rfl:p=s.size:=by omega
   have z:=hC.out.b1
   have z0:=cell_of_block z 0 _ rfl
   have z1:=cell_of_block z 1 _ rfl
   have y:=hC.out.b0
   have y0:=cell_of_block y 0 _ rfl
   have y1:=cell_of_block y 1 _ rfl
   have yf:=free_of_block y
   have Y:Hid (w1.heap[w.heap.size]?=some (.cells #[.slice none 0 0,.slice none 0 0] 104 (0,0))):=y
   clear z y
   go_wp2_with fail
   refine bodyPost_ret (results_cell_row rfl _ _ w.heap.size 104 #[.slice aK ks.length cK,.slice aN ns.length cN] (0,0) _ rfl ((block_setCell (block_setCell Y.out 0 _) 1 _).trans rfl) Tryz.underlying104 rfl (by kernel_rfl)) rfl ?_
   refine ⟨⟨_,_,ks,ns,rfl,hCh.out,?_,?_⟩,(hB.out.setCell (p:=⟨w.heap.size,0,none⟩) (Nat.le_refl _) _).setCell (p:=⟨w.heap.size,1,none⟩) (Nat.le_refl _) _⟩
   ·exact row_kp (row_kp hC.out.rk ((Kp.refl _ _).setCell Y.out (by decide) _)) ((Kp.refl _ _).setCell (block_setCell Y.out 0 _) (by decide) _)
   ·exact row_kp (row_kp hC.out.rn ((Kp.refl _ _).setCell Y.out (by decide) _)) ((Kp.refl _ _).setCell (block_setCell Y.out 0 _) (by decide) _)
def NextIs (L:List (Int × Int × Nat)) (s:ByteArray) (k n:Nat):Prop:=(fullS s=false/\k=0/\n=0)\/(fullS s=true/\CharIs L (s.extract 0 (min s.size 4)) k n)
theorem extract_get (s:ByteArray) (a b j:Nat) (h:a+j<b) (hb:b<=s.size):(s.extract a b).data.toList[j]'(by simp;show j<_;have:s.size=s.data.size:=rfl;omega)=s.get! (a+j):=by
 rw [Utf8W.get!_of_lt s (a+j) (by omega)]
 simp
 rfl
set_option maxRecDepth 100000 in
set_option maxHeartbeats 1000000 in
theorem cnext_any (base bT oT:Nat) (vE:Value) (L:List (Int × Int × Nat)) (s:ByteArray) (ao:Option Addr) (cap:Nat) (w:World) (hT:Utf8Tabs 2 3 w) (hG:2<w.heap.size/\3<w.heap.size) (hc:w.cell? ⟨bT,oT,none⟩=some vE) (h:TRe base w vE L) (hl:L.length<=100000) (hR:InRow L) (hB:s.size=0\/∃ b o,ao=some ⟨b,o,none⟩/\ByAt w b o s) (hlen:s.size<=1500000) (hcap:s.size<=cap) :
  Calls Tryz.prog 165 #[.slice ao s.size cap,.pointer (some ⟨bT,oT,none⟩)] w fun r w'=>(∃ k n:Nat,r=.returned (.tuple #[.int .u8 k,.int .i64 n])/\NextIs L s k n)/\Below w.heap.size w w':=by
 by_cases h0:s.size=0
 ·have hf:fullS s=false:=by unfold fullS;rw [if_pos h0]
  have hz:=len_zero_any w ao cap
  rw [h0]
  clear hB
  go_enter Tryz.func165,Tryz.ntmps165
  go_wp2_with fail
  refine hz.mono ?_
  rintro r w1 ⟨rfl,b1⟩
  go_wp2_with fail
  go_ret2
  exact ⟨⟨0,0,rfl,Or.inl ⟨hf,rfl,rfl⟩⟩,b1⟩
 ·obtain ⟨b,o,rfl,hBy⟩:=hB.resolve_left h0
  clear hB
  have hB:ByAt w b o s:=hBy
  clear hBy
  have hbl:b<w.heap.size:=cell_ltT (hB 0 (by omega))
  have hfull:=fullB_any s w b o cap hT hB (by omega) hlen
  cases hf:fullS s with
  | false =>
   rw [hf] at hfull
   go_enter Tryz.func165,Tryz.ntmps165
   go_wp2_with fail
   refine hfull.mono ?_
   rintro r w1 ⟨rfl,b1⟩
   go_wp2_with fail
   go_ret2
   exact ⟨⟨0,0,rfl,Or.inl ⟨hf,rfl,rfl⟩⟩,b1⟩
  | true =>
   rw [hf] at hfull
   obtain ⟨m,hm⟩:∃ m,m=min s.size 4:=⟨_,rfl⟩
   have hms:m<=s.size:=by omega
   have hm1:1<=m:=by omega
   obtain ⟨x,hx⟩:∃ x,x=s.extract 0 m:=⟨_,rfl⟩
   have hxs:x.size=m:=by rw [hx,ByteArray.size_extract];omega
   have kb:∀ w1,Below w.heap.size w w1->∀ c,(convert 63 9 (.slice (some ⟨b,o,none⟩) m c)).run Tryz.prog w1=.ok (.string x) w1:=fun w1 hb c=>by
    have:=run_convert_bytes_back (P:=Tryz.prog) w1 63 9 5 ⟨b,o,none⟩ c x.data.toList Tryz.underlying63 Tryz.underlying5 Tryz.underlying9 fun j hj=>by
     have hj':j<m:=by rw [<- hxs];simpa using hj
     rw [show (⟨b,o,none⟩:Addr).add j=⟨b,o+j,none⟩ from by unfold Addr.add;split <;> simp_all]
     rw [(hb.cell (p:=⟨b,o+j,none⟩) hbl),hB j (by omega)]
     subst hx
     rw [extract_get s 0 m j (by omega) hms,Nat.zero_add]
    rw [show x.data.toList.length=m from by rw [<- hxs];simp] at this
    rw [this]
   go_enter Tryz.func165,Tryz.ntmps165
   go_wp2_with fail
   refine hfull.mono ?_
   rintro r w1 ⟨rfl,b1⟩
   have hk1:=kb w1 b1
   have hfst:=cfirst_any base bT oT vE L x w1 ⟨fun c hc=>(b1.cell (p:=⟨_,c,none⟩) hG.1).trans (hT.1 c hc),fun i hi=>⟨(b1.cell (p:=⟨_,2 * i,none⟩) hG.2).trans (hT.2 i hi).1,(b1.cell (p:=⟨_,2 * i+1,none⟩) hG.2).trans (hT.2 i hi).2⟩⟩ ⟨Nat.lt_of_lt_of_le hG.1 b1.size,Nat.lt_of_lt_of_le hG.2 b1.size⟩ ((b1.cell (p:=⟨bT,oT,none⟩) (cell_ltT hc)).trans hc) (row_kp h (Kp.below b1)) hl hR (by omega)
   have B1:Hid (Below w.heap.size w w1):=b1
   have HX:Hid (x=s.extract 0 (min s.size 4)):=by rw [hx,hm];exact rfl
   have HF:Hid (fullS s=true):=hf
   clear kb hfull b1 hB hT hG hc h hR hx hxs hf
   rw [show m=(min (s.size:Int) 4).toNat from by omega] at hk1
   clear hm hms hm1
   go_wp2_with fail
   refine hfst.mono ?_
   rintro r w2 ⟨⟨k,n,rfl,hch⟩,b2⟩
   have HCH:Hid (CharIs L x k n):=hch
   clear hk1 hfst hch
   go_wp2_with fail
   go_ret2
   exact ⟨⟨k,n,rfl,Or.inr ⟨HF.out,by rw [<- HX.out];exact HCH.out⟩⟩,B1.out.trans (b2.mono B1.out.size)⟩
end Go.Proofs.YtodagkkjfipbgaaGreatDoor
