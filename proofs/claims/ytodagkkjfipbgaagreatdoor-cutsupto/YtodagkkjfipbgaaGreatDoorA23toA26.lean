import Derived.Test.YtodagkkjfipbgaaGreatDoorA19toA22
import Derived.Test.YtodagkkjfipbgaaGreatDoorG2toT30
namespace Go.Proofs.YtodagkkjfipbgaaGreatDoor
open Go.RowKit Go.Maps Go.Lib
def RefAt (L:List (Bool × Tr × Tr)) (row:List Nat) (i:Nat) (c:Bool):Prop:=if i=row.length then c=true else RefCut L row i c
inductive RefSeg (s:ByteArray) (cs:List (Int × Nat)) (cut:Nat→Bool→Prop):Nat→Nat→List ByteArray→Prop where
 | nil:RefSeg s cs cut 0 0 []
 | cut {i a:Nat} {told:List ByteArray} {x:Int × Nat} (h:RefSeg s cs cut i a told) (hx:cs[i]?=some x) (hc:cut (i+1) true):RefSeg s cs cut (i+1) x.2 (told++[s.extract a x.2])
 | join {i a:Nat} {told:List ByteArray} {x:Int × Nat} (h:RefSeg s cs cut i a told) (hx:cs[i]?=some x) (hc:cut (i+1) false):RefSeg s cs cut (i+1) a told
theorem RefSeg.ok {s:ByteArray} {cs:List (Int × Nat)} {cut:Nat→Bool→Prop} {i a:Nat} {told:List ByteArray} (h:RefSeg s cs cut i a told):told.length≤i∧(a=0∨∃ (j:Nat) (x:Int × Nat),j<i∧cs[j]?=some x∧a=x.2):=by
 induction h with
 | nil=>exact ⟨Nat.le_refl _,Or.inl rfl⟩
 | @cut i a told x h hx hc ih=>exact ⟨by simp;omega,Or.inr ⟨i,x,by omega,hx,rfl⟩⟩
 | @join i a told x h hx hc ih =>
  refine ⟨by omega,ih.2.imp id ?_⟩
  rintro ⟨j,y,h1,h2,h3⟩
  exact ⟨j,y,by omega,h2,h3⟩
theorem RefChars.mono {nN:Nat} {S:List (Int × Int × Int)} {s:ByteArray} {p:Nat} {cs:List (Int × Nat)} (h:RefChars nN S s p cs):∀ (i j:Nat) (x y:Int × Nat),i≤j→cs[i]?=some x→cs[j]?=some y→x.2≤y.2:=by
 have key:∀ (cs:List (Int × Nat)) (z:Int × Nat),(∀ (i j:Nat) (x y:Int × Nat),i≤j→cs[i]?=some x→cs[j]?=some y→x.2≤y.2)→(∀ x ∈ cs,x.2≤z.2)→∀ (i j:Nat) (x y:Int × Nat),i≤j→(cs++[z])[i]?=some x→(cs++[z])[j]?=some y→x.2≤y.2:=by
  intro cs z h1 h2 i j x y hij hx hy
  by_cases hj:j<cs.length
  ·rw [List.getElem?_append_left hj] at hy
   rw [List.getElem?_append_left (by omega)] at hx
   exact h1 i j x y hij hx hy
  ·have hy2:y=z:=by
    rw [List.getElem?_append_right (by omega)] at hy
    have:j - cs.length=0:=by
     have:=(List.getElem?_eq_some_iff.1 hy).1
     simp at this;omega
    rw [this] at hy;simp at hy;exact hy.symm
   subst hy2
   by_cases hi:i<cs.length
   ·rw [List.getElem?_append_left hi] at hx
    exact h2 x (List.mem_of_getElem? hx)
   ·rw [List.getElem?_append_right (by omega)] at hx
    have:i - cs.length=0:=by
     have:=(List.getElem?_eq_some_iff.1 hx).1
     simp at this;omega
    rw [this] at hx;simp at hx;rw [hx];exact Nat.le_refl _
 induction h with
 | nil=>intro i j x y _ hx;simp at hx
 | @good p n cs c h hp hf hn hk ih=>exact key cs _ ih (fun x hx=>by have:=h.ok.2.2 x hx;show x.2≤p+n;omega)
 | @bad p k n cs h hp hf hn ih=>exact key cs _ ih (fun x hx=>by have:=h.ok.2.2 x hx;show x.2≤p+max k 1;omega)
theorem kdRow {w:World} {base:Nat} {v:Value} {cs:List (Int × Nat)} {row:List Nat} (h:w.ownsRow base 3 1 v cs.length (kdCells cs)) (hr:cs.map (fun x=>x.1)=row.map (fun k:Nat=>(k:Int))) (hne:cs ≠ []):∃ g cap,v=.slice (some ⟨g,0,none⟩) row.length cap∧RRow w g cap row:=by
 have hlen:cs.length=row.length:=by have:=congrArg List.length hr;simpa using this
 obtain ⟨h2,h3⟩:=h
 rcases h3 with ⟨hv,hn⟩ | ⟨g,cap,cur,hv,hg,hh,hcap,hmx,hsz,hcur⟩
 ·exact absurd (List.eq_nil_of_length_eq_zero hn) hne
 ·refine ⟨g,cap,by rw [hv,hlen],by omega,fun i hi=>?_⟩
  refine cell_of_block hh i _ ?_
  have h1:(kdCells cs)[i]?=some (.int .i64 (row[i]:Nat)):=by
   unfold kdCells
   have e:cs.map (fun x=>Value.int .i64 x.1)=(cs.map (fun x=>x.1)).map (fun c=>Value.int .i64 c):=by rw [List.map_map];rfl
   rw [e,hr,List.map_map,List.getElem?_map,List.getElem?_eq_getElem hi];rfl
  rw [← hcur,List.getElem?_take] at h1
  split at h1
  ·simpa using h1
  ·cases h1
def RefTold (nN:Nat) (S:List (Int × Int × Int)) (L:List (Bool × Tr × Tr)) (s:ByteArray) (told:List ByteArray):Prop :=
 ∃ cs row a,RefChars nN S s s.size cs∧cs.map (fun x=>x.1)=row.map (fun k:Nat=>(k:Int))∧RefSeg s cs (RefAt L row) cs.length a told
def KindsLow (nN:Nat) (S:List (Int × Int × Int)):Prop:=nN≤6∧∀ o ∈ S,0≤o.2.2∧o.2.2<6
theorem RefChars.row {nN:Nat} {S:List (Int × Int × Int)} (hl:KindsLow nN S) {s:ByteArray} {p:Nat} {cs:List (Int × Nat)} (h:RefChars nN S s p cs):∃ row:List Nat,cs.map (fun x=>x.1)=row.map (fun k:Nat=>(k:Int))∧∀ k ∈ row,k<8:=by
 induction h with
 | nil=>exact ⟨[],rfl,by simp⟩
 | @good p n cs c h hp hf hn hk ih =>
  obtain ⟨row,r1,r2⟩:=ih
  have hc:0≤c∧c<8:=by
   rcases hk with ⟨o,ho,_,_,rfl⟩ | ⟨_,rfl⟩
   ·have:=hl.2 o ho;omega
   ·have:=hl.1;omega
  refine ⟨row++[c.toNat],by rw [List.map_append,List.map_append,r1];simp;omega,fun k hk=>?_⟩
  rcases List.mem_append.1 hk with h | h
  ·exact r2 k h
  ·simp at h;omega
 | @bad p k n cs h hp hf hn ih =>
  obtain ⟨row,r1,r2⟩:=ih
  have:=hl.1
  refine ⟨row++[nN+1],by rw [List.map_append,List.map_append,r1];simp,fun k hk=>?_⟩
  rcases List.mem_append.1 hk with h | h
  ·exact r2 k h
  ·simp at h;omega
set_option maxRecDepth 100000 in
set_option maxHeartbeats 8000000 in
theorem refCut_any (w:World) (b nN:Nat) (S:List (Int × Int × Int)) (L:List (Bool × Tr × Tr)) (s:ByteArray) (hS:RefS w b nN S) (hL:RefL w b L) (hf:∀ x ∈ L,AllFit x.2.1∧AllFit x.2.2) (hl:S.length≤100000) (hK:KindsLow nN S) (hl4:L.length≤4) (hs:s.size≤1048576) :
  Calls Tryz.prog 21 #[.pointer (some ⟨b,0,none⟩),.string s] w fun e w'=>∃ v told,e=.returned v∧RefTold nN S L s told∧w'.ownsRow w.heap.size 9 1 v told.length (strCells told)∧Below w.heap.size w w':=by
 have hch:=refChars_any w b nN S s hS hl (by have:=hK.1;omega) (by omega)
 have HS:Hid (RefS w b nN S∧RefL w b L∧(∀ x ∈ L,AllFit x.2.1∧AllFit x.2.2)∧KindsLow nN S):=⟨hS,hL,hf,hK⟩
 clear hS hL hf hK
 go_enter Tryz.func21,Tryz.ntmps21
 go_wp2_with fail
 refine hch.mono ?_
 rintro e w1 ⟨vC,cs,rfl,hC,hCo,hb1⟩
 have HC:Hid (RefChars nN S s s.size cs):=hC
 have hcl:cs.length≤1048576:=by have:=hC.ok.2.1;omega
 obtain ⟨row,hrow,hk8⟩:=hC.row HS.out.2.2.2
 have HRL:Hid (cs.length=row.length):=by show _=_;have:=congrArg List.length hrow;simpa using this
 have HRW:Hid (cs.map (fun x=>x.1)=row.map (fun k:Nat=>(k:Int))∧∀ k ∈ row,k<8):=⟨hrow,hk8⟩
 have hCA:ChAt w1 vC cs:=chRow_form hCo
 have hkn:=refKinds_any w1 vC cs hCA (by omega)
 have HCA:Hid (ChAt w1 vC cs):=hCA
 obtain ⟨aC,cC,rfl,_⟩:=hCA
 clear hC hCo hrow hk8 hch
 go_wp2_with fail
 refine hkn.mono ?_
 rintro e w2 ⟨vK,rfl,hKo,hb2⟩
 have HKo:Hid (w2.ownsRow w1.heap.size 3 1 vK cs.length (kdCells cs)):=hKo
 obtain ⟨aK,cK,rfl⟩:=row_shape hKo
 clear hKo hkn
 have B2:Hid (Below w.heap.size w w2):=hb1.trans (hb2.mono hb1.size)
 have CA2:Hid (ChAt w2 (.slice aC cs.length cC) cs):=HCA.out.keep hb2
 clear hb1 hb2
 go_wp2_with fail
 go_loopg [7,8,9] cs.length (fun gg ov av iv wr=>∃ (i a:Nat) (told:List ByteArray) (ao:Option Addr) (cap:Nat),i≤cs.length∧gg=cs.length - i∧iv=.int .i64 i∧av=.int .i64 a∧ov=.slice ao told.length cap∧Hid (RefSeg s cs (RefAt L row) i a told)∧Hid (wr.ownsRow w2.heap.size 9 1 (.slice ao told.length cap) told.length (strCells told))∧Hid (Below w2.heap.size w2 wr))
 case atStart=>exact ⟨0,0,[],none,0,by omega,rfl,rfl,rfl,rfl,RefSeg.nil,World.ownsRow_nil _ _ _ _,Below.refl _ _⟩
 case round =>
  obtain ⟨w3,hw3⟩:∃ w3,w3=wr:=⟨wr,rfl⟩
  subst hw3
  obtain ⟨i,a,told,ao,cap,hi,rfl,rfl,rfl,rfl,hG,hO,hB⟩:=hrel
  have B3:Hid (Below w.heap.size w w3):=B2.out.trans (hB.out.mono B2.out.size)
  have hgo:=hG.out.ok
  have htl:told.length≤1048576:=by omega
  by_cases hil:i<cs.length
  ·obtain ⟨x,hx⟩:∃ x,cs[i]?=some x:=⟨cs[i],List.getElem?_eq_getElem hil⟩
   have HX:Hid (cs[i]?=some x):=hx
   have hxs:x.2≤s.size:=HC.out.ok.2.2 x (List.mem_of_getElem? hx)
   have hax:a≤x.2:=by
    rcases hgo.2 with e | ⟨j,y,h1,h2,h3⟩
    ·omega
    ·rw [h3];exact HC.out.mono j i y x (by omega) h2 hx
   have hxi:cs[i]=x:=by have:=(List.getElem?_eq_getElem hil).symm.trans hx;simpa using this
   obtain ⟨gK,capK,hvK,hRR⟩:=kdRow HKo.out HRW.out.1 (by intro e;rw [e] at hil;simp at hil)
   obtain ⟨rfl,rfl⟩:aK=some ⟨gK,0,none⟩∧cK=capK:=by rw [HRL.out] at hvK;simp at hvK;exact hvK
   have hrlen:row.length≤1048576:=by rw [← HRL.out];exact hcl
   have hirow:i+1≤row.length:=by rw [← HRL.out];omega
   have hcu:=refCuts_any w3 b gK cK (i+1) L row (HS.out.2.1.keep B3.out) (hRR.keep hB.out) HS.out.2.2.1 HRW.out.2 hrlen hirow hl4
   obtain ⟨_,_,eC,hcc⟩:=CA2.out.keep hB.out
   obtain ⟨gC,hgC,_,k1⟩:=hcc i hil
   simp at eC
   obtain ⟨rfl,rfl⟩:=eC
   subst hgC
   rw [hxi] at k1
   have K1:Hid (w3.cell? ⟨gC,i * 2+1,none⟩=some (.int .i64 (x.2:Nat))):=k1
   have CE2:Hid (∀ i (hi:i<cs.length) (x:Int × Nat),cs[i]?=some x→w2.cell? ⟨gC,i * 2+1,none⟩=some (.int .i64 (x.2:Nat))):=by
    obtain ⟨_,_,e2,h2⟩:=CA2.out
    simp at e2
    intro i' hi' x' hx'
    obtain ⟨g',hg',_,kk⟩:=h2 i' hi'
    rw [← e2.1] at hg'
    simp at hg'
    subst hg'
    have:=(List.getElem?_eq_getElem hi').symm.trans hx'
    simp at this
    rw [this] at kk;exact kk
   have hRP:Hid (∀ e w',RefCutsPost L row (i+1) w3 e w'→∃ c:Bool,e=.returned (.bool c)∧RefAt L row (i+1) c∧Below w3.heap.size w3 w'):=fun e w' h=>h
   rw [← HRL.out] at hcu
   clear hgo hx hxi hvK hRR hcc k1 hrlen hirow
   go_wp2_with fail
   refine hcu.mono ?_
   intro e w4 hp4
   obtain ⟨c,rfl,hc,hb4⟩:=hRP.out _ _ hp4
   have HCC:Hid (RefAt L row (i+1) c):=hc
   have B4:Hid (Below w.heap.size w w4):=B3.out.trans (hb4.mono B3.out.size)
   have BB4:Hid (Below w2.heap.size w2 w4):=hB.out.trans (hb4.mono hB.out.size)
   have O4:Hid (w4.ownsRow w2.heap.size 9 1 (.slice ao told.length cap) told.length (strCells told)):=row_kp hO.out (Kp.below hb4)
   have k4:w4.cell? ⟨gC,i * 2+1,none⟩=some (.int .i64 (x.2:Nat)):=cell_below hb4 K1.out
   clear hp4 hc hb4 hcu
   cases c
   ·have HG:Hid (RefSeg s cs (RefAt L row) (i+1) a told):=RefSeg.join hG.out HX.out HCC.out
    go_wp2_with fail
    go_roundg (cs.length - (i+1))
    case measure=>omega
    case rel=>exact ⟨i+1,a,told,ao,cap,by omega,rfl,by go_num,rfl,rfl,HG,O4,BB4⟩
   ·have HG:Hid (RefSeg s cs (RefAt L row) (i+1) x.2 (told++[s.extract a x.2])):=RefSeg.cut hG.out HX.out HCC.out
    obtain ⟨y,hy⟩:∃ y,y=s.extract a x.2:=⟨_,rfl⟩
    have HY:Hid (y=s.extract a x.2):=hy
    have R1:Hid ((w4.alloc (.cells #[.string (s.extract a x.2)] 9)).ownsRow w2.heap.size 9 1 (.slice ao told.length cap) told.length (strCells told)):=row_kp O4.out (Kp.below (below_alloc w4 _))
    have NW:Hid (∀ (j:Nat) (u:Value),[Value.string (s.extract a x.2)][j]?=some u→(w4.alloc (.cells #[.string (s.extract a x.2)] 9)).cell? ⟨w4.heap.size,j,none⟩=some u):=fun j u hu=>cell_of_block (heap_alloc_new w4 _) j u (by simpa using hu)
    have BA:Hid (Below w.heap.size w (w4.alloc (.cells #[.string (s.extract a x.2)] 9))):=B4.out.alloc B4.out.size _
    have BA2:Hid (Below w2.heap.size w2 (w4.alloc (.cells #[.string (s.extract a x.2)] 9))):=BB4.out.alloc BB4.out.size _
    have LA:w2.heap.size≤(w4.alloc (.cells #[.string (s.extract a x.2)] 9)).heap.size:=BA2.out.size
    clear hy
    go_wp2_with (at_builtin;refine wpList_push2 rfl (.tmp 28) (.tmp 37) 30 rfl w2.heap.size 9 (.string ⟨#[]⟩) 1 16 Tryz.infoSg Tryz.undSg rfl (by decide) (.slice ao told.length cap) told.length (strCells told) rfl R1.out w4.heap.size 1 [.string (s.extract a x.2)] rfl rfl NW.out (one_str _) (by omega) (by omega) LA ?_;intro v' W3 hown hgr hsn;obtain ⟨ao',cap',rfl⟩:=row_shape hown;have HR:Hid (W3.ownsRow w2.heap.size 9 1 (.slice ao' (told.length+1) cap') (told.length+1) (strCells told++[.string (s.extract a x.2)])):=hown;have B5:Hid (Below w2.heap.size w2 W3):=BA2.out.grown hgr LA (fun k hk=>(R1.out.lt k hk).1);have k5:W3.cell? ⟨gC,i * 2+1,none⟩=some (.int .i64 (x.2:Nat)):=cell_below B5.out (CE2.out i hil x HX.out);clear hown hgr hsn)
    go_roundg (cs.length - (i+1))
    case measure=>omega
    case rel =>
     refine ⟨i+1,x.2,told++[s.extract a x.2],ao',cap',by omega,rfl,by go_num,rfl,by rw [List.length_append];rfl,HG,?_,B5⟩
     show W3.ownsRow _ _ _ _ _ _
     rw [List.length_append,strCells_snoc]
     exact HR.out
  ·have hil':i=cs.length:=by omega
   go_wp2_with fail
   go_ret
   exact ⟨_,told,rfl,⟨cs,row,a,HC.out,HRW.out.1,by rw [← hil'];exact hG.out⟩,ownsRow_base hO.out B2.out.size,B3.out⟩
theorem byteN_ext (s:ByteArray) (p e j:Nat) (he:e≤s.size) (h:p+j<e):byteN (s.extract p e) j=byteN s (p+j):=by
 rw [byteN_at _ j (by rw [ByteArray.size_extract];omega),byteN_at s (p+j) (by omega)]
 simp [ByteArray.getElem_eq_getElem_data]
theorem decodeGo_byte (s:ByteArray) (h:1≤s.size):decodeGo s=decodeN s.size (byteN s 0) (byteN s 1) (byteN s 2) (byteN s 3):=by
 unfold decodeGo
 rw [if_neg (by omega),decode_at];rfl
theorem fullS_byte (s:ByteArray) (h:1≤s.size):fullS s=fullN s.size (byteN s 0) (byteN s 1) (byteN s 2):=by
 unfold fullS;rw [if_neg (by omega)];rfl
set_option maxHeartbeats 4000000 in
theorem fol_good {s:ByteArray} {n:Nat} (hs:1≤s.size) (h:Fol s n n) (hn:0<n):¬ ((decodeGo s).1=65533∧(decodeGo s).2=1)∧n=(decodeGo s).2∧((decodeGo s).1:Int)=pointI (s.extract 0 n):=by
 have hb0:=byteN_lt s 0
 have hb1:=byteN_lt s 1
 have hb2:=byteN_lt s 2
 have hb3:=byteN_lt s 3
 have hz:(s.extract 0 n).size=n:=by rw [ByteArray.size_extract];have:=(h.pos hn).2.2;omega
 have hpos:=h.pos hn
 have e0:byteN (s.extract 0 n) 0=byteN s 0:=by have:=byteN_ext s 0 n 0 hpos.2.2 (by omega);simpa using this
 have e1:1<n→byteN (s.extract 0 n) 1=byteN s 1:=fun k=>by have:=byteN_ext s 0 n 1 hpos.2.2 (by omega);simpa using this
 have e2:2<n→byteN (s.extract 0 n) 2=byteN s 2:=fun k=>by have:=byteN_ext s 0 n 2 hpos.2.2 (by omega);simpa using this
 have e3:3<n→byteN (s.extract 0 n) 3=byteN s 3:=fun k=>by have:=byteN_ext s 0 n 3 hpos.2.2 (by omega);simpa using this
 have o1:1<n→okB (byteN s 0) 1 (byteN s 1):=fun k=>h.okay 1 (by omega) k
 have o2:2<n→okB (byteN s 0) 2 (byteN s 2):=fun k=>h.okay 2 (by omega) k
 have o3:3<n→okB (byteN s 0) 3 (byteN s 3):=fun k=>h.okay 3 (by omega) k
 rw [decodeGo_byte s hs]
 have hlead:=h.lead
 have hsz:=hpos.2.2
 unfold pointI
 rw [hz,e0]
 generalize byteN s 0=b0 at *
 generalize byteN s 1=b1 at *
 generalize byteN s 2=b2 at *
 generalize byteN s 3=b3 at *
 rcases lead_cases b0 hb0 with ⟨q1,q2⟩ | ⟨q1,q2,q3⟩ | ⟨q1,q2,q3⟩ | ⟨q1,q2,q3⟩ | ⟨q1,q2,q3⟩ | ⟨q1,q2⟩
 ·obtain rfl:n=1:=by omega
  unfold decodeN
  rw [if_pos q1,if_pos rfl]
  exact ⟨by omega,rfl,rfl⟩
 ·obtain rfl:n=2:=by omega
  obtain ⟨p1,p2,_⟩:=o1 (by omega)
  have f1:=e1 (by omega)
  rw [if_neg (by omega)]
  show _∧_∧_=64 * ((byteN (s.extract 0 2) 0:Int) - headN (s.extract 0 2).size)+(byteN (s.extract 0 2) 1:Int) - 128
  rw [e0,f1,hz]
  unfold decodeN headN
  rw [if_neg (by omega),if_pos (by omega),if_pos (by omega)]
  simp only [if_true]
  exact ⟨by omega,trivial,by omega⟩
 ·obtain rfl:n=3:=by omega
  obtain ⟨p1,p2,p3⟩:=o1 (by omega)
  obtain ⟨p4,p5,_⟩:=o2 (by omega)
  obtain ⟨z1,z2,z3,z4⟩:=p3 rfl
  have f1:=e1 (by omega)
  have f2:=e2 (by omega)
  rw [if_neg (by omega)]
  show _∧_∧_=64 * (64 * ((byteN (s.extract 0 3) 0:Int) - headN (s.extract 0 3).size)+(byteN (s.extract 0 3) 1:Int) - 128)+(byteN (s.extract 0 3) 2:Int) - 128
  rw [e0,f1,f2,hz]
  unfold decodeN headN
  rw [if_neg (by omega),if_neg (by omega),if_pos (by omega),if_pos (by omega)]
  simp only [if_true,show ¬ (3=2) by omega,if_false]
  exact ⟨by omega,trivial,by omega⟩
 ·obtain rfl:n=4:=by omega
  obtain ⟨p1,p2,p3⟩:=o1 (by omega)
  obtain ⟨p4,p5,_⟩:=o2 (by omega)
  obtain ⟨p6,p7,_⟩:=o3 (by omega)
  obtain ⟨z1,z2,z3,z4⟩:=p3 rfl
  have f1:=e1 (by omega)
  have f2:=e2 (by omega)
  have f3:=e3 (by omega)
  rw [if_neg (by omega)]
  show _∧_∧_=64 * (64 * (64 * ((byteN (s.extract 0 4) 0:Int) - headN (s.extract 0 4).size)+(byteN (s.extract 0 4) 1:Int) - 128)+(byteN (s.extract 0 4) 2:Int) - 128)+(byteN (s.extract 0 4) 3:Int) - 128
  rw [e0,f1,f2,f3,hz]
  unfold decodeN headN
  rw [if_neg (by omega),if_neg (by omega),if_neg (by omega),if_pos (by omega),if_pos (by omega)]
  simp only [if_true,show ¬ (4=2) by omega,show ¬ (4=3) by omega,if_false]
  exact ⟨by omega,trivial,by omega⟩
 ·omega
 ·omega
theorem firstT_is (b0:Nat):(128≤b0→b0<194→firstT b0=241)∧(194≤b0→b0<224→firstT b0=2)∧(b0=224→firstT b0=19)∧(224<b0→b0<240→b0 ≠ 237→firstT b0=3)∧(b0=237→firstT b0=35)∧(b0=240→firstT b0=52)∧(240<b0→b0<244→firstT b0=4)∧(b0=244→firstT b0=68)∧(245≤b0→firstT b0=241):=by
 unfold firstT
 refine ⟨?_,?_,?_,?_,?_,?_,?_,?_,?_⟩ <;> intros <;> (repeat' split) <;> omega
theorem first_ok (b0:Nat) (h:b0<256):(leadN b0=0→firstT b0 % 8≤1)∧(2≤leadN b0→firstT b0 % 8=leadN b0)∧(3≤leadN b0→∀ b1,(b1<accLo (firstT b0 / 16)∨accHi (firstT b0 / 16)<b1)↔¬ okB b0 1 b1):=by
 obtain ⟨t1,t2,t3,t4,t5,t6,t7,t8,t9⟩:=firstT_is b0
 have acc:∀ X lo hi,firstT b0=X→accLo (X / 16)=lo→accHi (X / 16)=hi→∀ b1,((b1<lo∨hi<b1)↔¬ okB b0 1 b1)→((b1<accLo (firstT b0 / 16)∨accHi (firstT b0 / 16)<b1)↔¬ okB b0 1 b1):=by
  intro X lo hi h1 h2 h3 b1 h4
  rw [h1,h2,h3];exact h4
 have ob:∀ b1,¬ okB b0 1 b1↔(b1<128∨192≤b1∨(b0=224∧b1<160)∨(b0=237∧160≤b1)∨(b0=240∧b1<144)∨(b0=244∧144≤b1)):=by
  intro b1
  constructor
  ·intro hn
   refine Classical.byContradiction fun hh=>hn ⟨by omega,by omega,fun _=>⟨by omega,by omega,by omega,by omega⟩⟩
  ·rintro hh ⟨q1,q2,q3⟩
   have:=q3 rfl;omega
 refine ⟨?_,?_,?_⟩
 ·intro h0
  have:(128≤b0∧b0<194)∨245≤b0:=by rcases lead_cases b0 h with q | q | q | q | q | q <;> omega
  rcases this with k | k
  ·rw [t1 k.1 k.2];decide
  ·rw [t9 k];decide
 ·intro h2
  rcases lead_cases b0 h with q | q | q | q | q | q
  ·omega
  ·rw [q.2.2,t2 q.1 q.2.1]
  ·rw [q.2.2]
   by_cases c1:b0=224
   ·rw [t3 c1]
   ·by_cases c2:b0=237
    ·rw [t5 c2]
    ·rw [t4 (by omega) q.2.1 c2]
  ·rw [q.2.2]
   by_cases c1:b0=240
   ·rw [t6 c1]
   ·by_cases c2:b0=244
    ·rw [t8 c2]
    ·rw [t7 (by omega) (by omega)]
  ·omega
  ·omega
 ·intro h3 b1
  have hr:224≤b0∧b0<245:=by rcases lead_cases b0 h with q | q | q | q | q | q <;> omega
  by_cases c1:b0=224
  ·exact acc 19 160 191 (t3 c1) (by decide) (by decide) b1 (by rw [ob];omega)
  by_cases c2:b0=237
  ·exact acc 35 128 159 (t5 c2) (by decide) (by decide) b1 (by rw [ob];omega)
  by_cases c3:b0=240
  ·exact acc 52 144 191 (t6 c3) (by decide) (by decide) b1 (by rw [ob];omega)
  by_cases c4:b0=244
  ·exact acc 68 128 143 (t8 c4) (by decide) (by decide) b1 (by rw [ob];omega)
  by_cases c5:b0<240
  ·exact acc 3 128 191 (t4 (by omega) c5 c2) (by decide) (by decide) b1 (by rw [ob];omega)
  ·exact acc 4 128 191 (t7 (by omega) (by omega)) (by decide) (by decide) b1 (by rw [ob];omega)
theorem fullS_ext (s:ByteArray) (j:Nat) (h1:1≤j) (h:j≤s.size):fullS (s.extract 0 j)=true↔(firstT (byteN s 0) % 8≤j∨(1<j∧(byteN s 1<accLo (firstT (byteN s 0) / 16)∨accHi (firstT (byteN s 0) / 16)<byteN s 1))∨(2<j∧(byteN s 2<128∨191<byteN s 2))):=by
 have hz:(s.extract 0 j).size=j:=by rw [ByteArray.size_extract];omega
 rw [fullS_byte _ (by omega),hz]
 have e0:byteN (s.extract 0 j) 0=byteN s 0:=by have:=byteN_ext s 0 j 0 h (by omega);simpa using this
 have e1:1<j→byteN (s.extract 0 j) 1=byteN s 1:=fun k=>by have:=byteN_ext s 0 j 1 h (by omega);simpa using this
 have e2:2<j→byteN (s.extract 0 j) 2=byteN s 2:=fun k=>by have:=byteN_ext s 0 j 2 h (by omega);simpa using this
 rw [e0]
 unfold fullN
 by_cases c0:firstT (byteN s 0) % 8≤j
 ·rw [if_pos c0];simp [c0]
 ·rw [if_neg c0]
  by_cases j1:1<j
  ·rw [e1 j1]
   by_cases c1:1<j∧(byteN s 1<accLo (firstT (byteN s 0) / 16)∨accHi (firstT (byteN s 0) / 16)<byteN s 1)
   ·rw [if_pos c1];exact ⟨fun _=>Or.inr (Or.inl c1),fun _=>rfl⟩
   ·rw [if_neg c1]
    by_cases j2:2<j
    ·rw [e2 j2]
     by_cases c2:2<j∧(byteN s 2<128∨191<byteN s 2)
     ·rw [if_pos c2];exact ⟨fun _=>Or.inr (Or.inr c2),fun _=>rfl⟩
     ·rw [if_neg c2]
      refine ⟨fun h=>(by cases h),?_⟩
      rintro (k | k | k)
      ·exact absurd k c0
      ·exact absurd k c1
      ·exact absurd k c2
    ·rw [if_neg (by omega)]
     refine ⟨fun h=>(by cases h),?_⟩
     rintro (k | k | k)
     ·exact absurd k c0
     ·exact absurd k c1
     ·omega
  ·rw [if_neg (by omega),if_neg (by omega)]
   refine ⟨fun h=>(by cases h),?_⟩
   rintro (k | k | k) <;> omega
theorem BadLen.uniq {s:ByteArray} {a b:Nat} (ha:BadLen s a) (hb:BadLen s b):a=b:=by
 have key:∀ {a b:Nat},BadLen s a→BadLen s b→¬ a<b:=by
  intro a b ha hb h
  rcases ha.shut with e | e
  ·have:=hb.fits;omega
  ·have:=ha.pos
   rw [hb.open_ (a+1) (by omega) (by omega)] at e;cases e
 have h1:=key ha hb
 have h2:=key hb ha
 omega
theorem fol_bad {s:ByteArray} {k n:Nat} (hs:1≤s.size) (h:Fol s k n) (hn:¬ (k=n∧0<n)):BadLen s (max k 1):=by
 have hb0:=byteN_lt s 0
 have hf:=first_ok (byteN s 0) hb0
 have hle:=h.le hs
 have hl:=h.lead
 by_cases h0:n=0
 ·have hk:=h.none_ h0
  subst hk
  refine ⟨by omega,by omega,by omega,fun j j1 j2=>by omega,?_⟩
  by_cases h2:1=s.size
  ·left;omega
  ·right
   rw [fullS_ext s _ (by omega) (by omega)]
   left
   have:=hf.1 (by omega);omega
 ·have hp:=h.pos (by omega)
  have hk1:max k 1=k:=by omega
  rw [hk1]
  have hkn:k<n:=by omega
  have h8:=hf.2.1 (by omega)
  refine ⟨by omega,by omega,hp.2.2,fun j j1 j2=>?_,?_⟩
  ·cases hx:fullS (s.extract 0 j) with
   | false=>rfl
   | true =>
    exfalso
    rcases (fullS_ext s j (by omega) (by omega)).1 hx with q | ⟨_,q⟩ | ⟨q1,q⟩
    ·omega
    ·exact ((hf.2.2 (by omega) _).1 q) (h.okay 1 (by omega) (by omega))
    ·have:=h.okay 2 (by omega) (by omega)
     obtain ⟨z1,z2,_⟩:=this
     omega
  ·by_cases he:k=s.size
   ·exact Or.inl he
   ·right
    rw [fullS_ext s _ (by omega) (by omega)]
    have hst:=h.stop (by omega) hkn (by omega)
    by_cases hk2:n≤k+1
    ·left;omega
    ·right
     by_cases k1:k=1
     ·left
      refine ⟨by omega,(hf.2.2 (by omega) _).2 ?_⟩
      rw [k1] at hst;exact hst
     ·right
      have k2:k=2:=by omega
      rw [k2] at hst
      refine ⟨by omega,?_⟩
      refine Classical.byContradiction fun hh=>hst ⟨by omega,by omega,fun e=>by omega⟩
set_option maxHeartbeats 4000000 in
theorem fol_bad_dec {s:ByteArray} {k n:Nat} (hs:1≤s.size) (h:Fol s k n) (hn:¬ (k=n∧0<n)):(decodeGo s).1=65533∧(decodeGo s).2=1:=by
 have hb0:=byteN_lt s 0
 have hb1:=byteN_lt s 1
 have hb2:=byteN_lt s 2
 have hb3:=byteN_lt s 3
 rw [decodeGo_byte s hs]
 have hl:=h.lead
 by_cases h0:n=0
 ·have hc:(128≤byteN s 0∧byteN s 0<194)∨245≤byteN s 0:=by rcases lead_cases _ hb0 with q | q | q | q | q | q <;> omega
  generalize byteN s 0=b0 at *
  generalize byteN s 1=b1 at *
  generalize byteN s 2=b2 at *
  generalize byteN s 3=b3 at *
  clear h hl
  unfold decodeN
  rcases hc with ⟨c1,c2⟩ | c1 <;> (repeat' split) <;> first | exact ⟨rfl,rfl⟩ | (exfalso;omega)
 ·have hp:=h.pos (by omega)
  have hkn:k<n:=by omega
  have hn4:=(h.le hs).2.1
  have hst:k=s.size∨¬ okB (byteN s 0) k (byteN s k):=by
   by_cases e:k=s.size
   ·exact Or.inl e
   ·exact Or.inr (h.stop (by omega) hkn (by omega))
  have no:∀ {c j b:Nat},¬ okB c j b→(b<128∨192≤b∨(j=1∧((c=224∧b<160)∨(c=237∧160≤b)∨(c=240∧b<144)∨(c=244∧144≤b)))):=by
   intro c j b hh
   refine Classical.byContradiction fun hx=>hh ⟨by omega,by omega,fun e=>⟨by omega,by omega,by omega,by omega⟩⟩
  have hk:k=1∨k=2∨k=3:=by omega
  have h1:1<k→128≤byteN s 1∧byteN s 1<192:=fun e=>⟨(h.okay 1 (by omega) e).1,(h.okay 1 (by omega) e).2.1⟩
  have h2:2<k→128≤byteN s 2∧byteN s 2<192:=fun e=>⟨(h.okay 2 (by omega) e).1,(h.okay 2 (by omega) e).2.1⟩
  have hc:=lead_cases _ hb0
  rw [← hl] at hc
  have hst2:s.size=k∨(byteN s k<128∨192≤byteN s k∨(k=1∧((byteN s 0=224∧byteN s k<160)∨(byteN s 0=237∧160≤byteN s k)∨(byteN s 0=240∧byteN s k<144)∨(byteN s 0=244∧144≤byteN s k)))):=by
   rcases hst with e | e
   ·exact Or.inl e.symm
   ·exact Or.inr (no e)
  clear hst no h hl hn
  rcases hk with rfl | rfl | rfl
  all_goals
   generalize byteN s 0=b0 at *
   generalize byteN s 1=b1 at *
   generalize byteN s 2=b2 at *
   generalize byteN s 3=b3 at *
   unfold decodeN
   (repeat' split) <;> first | exact ⟨rfl,rfl⟩ | (exfalso;omega)
def KindR (nN:Nat) (c:Int) (k:Nat):Prop:=(k<nN∧c=(k:Int))∨(k=6∧c=(nN:Int))∨(k=7∧c=(nN:Int)+1)
def SameS (nN:Nat) (S:List (Int × Int × Int)) (L:List (Int × Int × Nat)):Prop:=(∀ o ∈ L,o.2.2<nN∧(o.1,o.2.1,(o.2.2:Int)) ∈ S)∧∀ o ∈ S,∃ k:Nat,o.2.2=(k:Int)∧(o.1,o.2.1,k) ∈ L
theorem kind_same {nN:Nat} {S:List (Int × Int × Int)} {L:List (Int × Int × Nat)} (h:SameS nN S L) {c x:Int} (hk:RefKind nN S x c):∃ k,KindOf L x k∧KindR nN c k:=by
 rcases hk with ⟨o,ho,h1,h2,rfl⟩ | ⟨hno,rfl⟩
 ·obtain ⟨k,e,hL⟩:=h.2 o ho
  exact ⟨k,Or.inl ⟨_,hL,h1,h2,rfl⟩,Or.inl ⟨(h.1 _ hL).1,e⟩⟩
 ·exact ⟨6,Or.inr ⟨fun o ho hh=>hno _ (h.1 o ho).2 hh,rfl⟩,Or.inr (Or.inl ⟨rfl,rfl⟩)⟩
def endsOf:Nat→List Nat→List Nat
 | _,[]=>[]
 | p,n :: ns=>(p+n) :: endsOf (p+n) ns
theorem endsOf_snoc (p:Nat) (ns:List Nat) (n:Nat):endsOf p (ns++[n])=endsOf p ns++[p+ns.sum+n]:=by
 induction ns generalizing p with
 | nil=>simp [endsOf]
 | cons m ns ih=>simp only [List.cons_append,endsOf,ih,List.sum_cons];congr 3;omega
inductive All2 {α β:Type} (R:α→β→Prop):List α→List β→Prop where
 | nil:All2 R [] []
 | snoc {l:List α} {m:List β} {a:α} {b:β} (h:All2 R l m) (hr:R a b):All2 R (l++[a]) (m++[b])
theorem ext_ext0 (s:ByteArray) (p n:Nat) (h:p+n≤s.size):(s.extract p s.size).extract 0 n=s.extract p (p+n):=by
 apply ByteArray.ext
 simp [ByteArray.data_extract]
 congr 1 <;> omega
theorem chars_same {nN:Nat} {S:List (Int × Int × Int)} {L:List (Int × Int × Nat)} (hS:SameS nN S L) (hL:∀ o ∈ L,o.2.2<8) {s:ByteArray} {p:Nat} {cs:List (Int × Nat)} (h:RefChars nN S s p cs):∃ ks ns,CharsTo L s p ks ns∧All2 (KindR nN) (cs.map (fun x=>x.1)) ks∧cs.map (fun x=>x.2)=endsOf 0 ns:=by
 induction h with
 | nil=>exact ⟨[],[],CharsTo.nil,All2.nil,rfl⟩
 | @good p n cs c h hp hf hn hk ih =>
  obtain ⟨ks,ns,h1,h2,h3⟩:=ih
  have hz:(s.extract p s.size).size=s.size - p:=by rw [ByteArray.size_extract];omega
  have hle:=hf.le (by omega)
  have hg:=fol_good (by omega) hf hn
  rw [ext_ext0 s p n (by omega)] at hg
  obtain ⟨k,k1,k2⟩:=kind_same hS hk
  rw [← hg.2.2] at k1
  refine ⟨ks++[k],ns++[n],CharsTo.snoc h1 hp (Or.inr ⟨hg.1,hg.2.1,k1⟩),?_,?_⟩
  ·rw [List.map_append];exact All2.snoc h2 k2
  ·rw [List.map_append,endsOf_snoc,h3,(h1.ok hL).sum];simp
 | @bad p k n cs h hp hf hn ih =>
  obtain ⟨ks,ns,h1,h2,h3⟩:=ih
  have hz:(s.extract p s.size).size=s.size - p:=by rw [ByteArray.size_extract];omega
  have hd:=fol_bad_dec (by omega) hf hn
  refine ⟨ks++[7],ns++[max k 1],CharsTo.snoc h1 hp (Or.inl ⟨hd.1,hd.2,rfl,fol_bad (by omega) hf hn⟩),?_,?_⟩
  ·rw [List.map_append];exact All2.snoc h2 (Or.inr (Or.inr ⟨rfl,rfl⟩))
  ·rw [List.map_append,endsOf_snoc,h3,(h1.ok hL).sum];simp
theorem KindOf.uniq {L:List (Int × Int × Nat)} (hR:InRow L) {c:Int} {k k':Nat} (h:KindOf L c k) (h':KindOf L c k'):k=k':=by
 rcases h with ⟨o,ho,h1,h2,rfl⟩ | ⟨hno,rfl⟩ <;> rcases h' with ⟨o',ho',h1',h2',rfl⟩ | ⟨hno',rfl⟩
 ·obtain ⟨i,hi,e⟩:=List.getElem_of_mem ho
  obtain ⟨j,hj,e'⟩:=List.getElem_of_mem ho'
  have hi':L[i]?=some o:=by rw [List.getElem?_eq_getElem hi,e]
  have hj':L[j]?=some o':=by rw [List.getElem?_eq_getElem hj,e']
  rcases Nat.lt_trichotomy i j with k | k | k
  ·have:=hR.2 i j o o' k hi' hj';omega
  ·subst k;rw [hi'] at hj';cases hj';rfl
  ·have:=hR.2 j i o' o k hj' hi';omega
 ·exact absurd ⟨h1,h2⟩ (hno' o ho)
 ·exact absurd ⟨h1',h2'⟩ (hno o' ho')
 ·rfl
theorem CharIs.uniq {L:List (Int × Int × Nat)} (hR:InRow L) {s:ByteArray} {k n k' n':Nat} (h:CharIs L s k n) (h':CharIs L s k' n'):k=k'∧n=n':=by
 rcases h with ⟨a1,a2,rfl,a4⟩ | ⟨a1,rfl,a3⟩ <;> rcases h' with ⟨b1,b2,rfl,b4⟩ | ⟨b1,rfl,b3⟩
 ·exact ⟨rfl,a4.uniq b4⟩
 ·exact absurd ⟨a1,a2⟩ b1
 ·exact absurd ⟨b1,b2⟩ a1
 ·exact ⟨a3.uniq hR b3,rfl⟩
theorem charsTo_next {L:List (Int × Int × Nat)} (hR:InRow L) (hL:∀ o ∈ L,o.2.2<8) {s:ByteArray}:∀ (q r k m:Nat) (ks ns ks' ns':List Nat),CharsTo L s r ks ns→r<s.size→CharIs L (s.extract r s.size) k m→CharsTo L s q ks' ns'→r<q→r+m≤q:=by
 intro q
 induction q using Nat.strongRecOn with
 | _ q ih =>
  intro r k m ks ns ks' ns' hr hrs hc hq hlt
  generalize hqq:q=q' at hq
  cases hq with
  | nil=>omega
  | @snoc p0 ks0 ns0 k0 n0 h0 hp0 hc0 =>
   have hz:(s.extract p0 s.size).size=s.size - p0:=by rw [ByteArray.size_extract];omega
   have hb:=hc0.bounds (by omega) hL
   rcases Nat.lt_trichotomy r p0 with e | e | e
   ·have:=ih p0 (by omega) r k m ks ns ks0 ns0 hr hrs hc h0 e;omega
   ·subst e
    have:=(hc.uniq hR hc0).2;omega
   ·have:=ih r (by omega) p0 k0 n0 ks0 ns0 ks ns h0 hp0 hc0 hr e;omega
theorem charsTo_uniq' {L:List (Int × Int × Nat)} (hR:InRow L) (hL:∀ o ∈ L,o.2.2<8) {s:ByteArray}:∀ (b p p':Nat) (ks ns ks' ns':List Nat),p≤b→CharsTo L s p ks ns→CharsTo L s p' ks' ns'→p'=p→ks=ks'∧ns=ns':=by
 intro b
 induction b with
 | zero =>
  intro p p' ks ns ks' ns' hb h hh e
  have e1:=(h.ok hL).few
  have e2:=(hh.ok hL).few
  have l1:=(h.ok hL).len
  have l2:=(hh.ok hL).len
  rw [List.eq_nil_of_length_eq_zero (show ks.length=0 by omega),List.eq_nil_of_length_eq_zero (show ns.length=0 by omega),List.eq_nil_of_length_eq_zero (show ks'.length=0 by omega),List.eq_nil_of_length_eq_zero (show ns'.length=0 by omega)]
  exact ⟨rfl,rfl⟩
 | succ b ih =>
  intro p p' ks ns ks' ns' hb h hh e
  cases h with
  | nil =>
   have e2:=(hh.ok hL).few
   have l2:=(hh.ok hL).len
   rw [List.eq_nil_of_length_eq_zero (show ks'.length=0 by omega),List.eq_nil_of_length_eq_zero (show ns'.length=0 by omega)]
   exact ⟨rfl,rfl⟩
  | @snoc p0 ks0 ns0 k0 n0 h0 hp0 hc0 =>
   have hz0:(s.extract p0 s.size).size=s.size - p0:=by rw [ByteArray.size_extract];omega
   have hb0:=(hc0.bounds (by omega) hL).1
   cases hh with
   | nil=>omega
   | @snoc p1 ks1 ns1 k1 n1 h1 hp1 hc1 =>
    have hz:(s.extract p1 s.size).size=s.size - p1:=by rw [ByteArray.size_extract];omega
    have hb1:=(hc1.bounds (by omega) hL).1
    have ep:p0=p1:=by
     rcases Nat.lt_trichotomy p0 p1 with k | k | k
     ·have:=charsTo_next hR hL p1 p0 k0 n0 ks0 ns0 ks1 ns1 h0 hp0 hc0 h1 k;omega
     ·exact k
     ·have:=charsTo_next hR hL p0 p1 k1 n1 ks1 ns1 ks0 ns0 h1 hp1 hc1 h0 k;omega
    subst ep
    have hu:=hc0.uniq hR hc1
    have hi:=ih p0 p0 _ _ _ _ (by omega) h0 h1 rfl
    rw [hi.1,hi.2,hu.1,hu.2];exact ⟨rfl,rfl⟩
theorem charsTo_uniq {L:List (Int × Int × Nat)} (hR:InRow L) (hL:∀ o ∈ L,o.2.2<8) {s:ByteArray} (p:Nat) (ks ns ks' ns':List Nat) (h:CharsTo L s p ks ns) (h':CharsTo L s p ks' ns'):ks=ks'∧ns=ns':=charsTo_uniq' hR hL p p p ks ns ks' ns' (Nat.le_refl _) h h' rfl
theorem endsOf_at {p:Nat} {ns:List Nat} {i e:Nat} (h:(endsOf p ns)[i]?=some e):∃ n,ns[i]?=some n∧e=p+(ns.take i).sum+n:=by
 induction ns generalizing p i with
 | nil=>simp [endsOf] at h
 | cons m ns ih =>
  cases i with
  | zero=>simp [endsOf] at h;exact ⟨m,rfl,by simp;omega⟩
  | succ i =>
   obtain ⟨n,h1,h2⟩:=ih (p:=p+m) (i:=i) (by simpa [endsOf] using h)
   exact ⟨n,by simpa using h1,by simp;omega⟩
theorem seg_same {s:ByteArray} {cs:List (Int × Nat)} {ns:List Nat} {cb:List Bool} {cut:Nat→Bool→Prop} (hc:cs.map (fun x=>x.2)=endsOf 0 ns) (hcb:∀ i c,1≤i→i≤cs.length→cut i c→cb[i]?=some c) {i a:Nat} {told:List ByteArray} (h:RefSeg s cs cut i a told):segSt s ns cb i=(a,(ns.take i).sum,told):=by
 induction h with
 | nil=>rfl
 | @cut i a told x h hx hcu ih =>
  have hil:=(List.getElem?_eq_some_iff.1 hx).1
  have hx2:(endsOf 0 ns)[i]?=some x.2:=by rw [← hc,List.getElem?_map,hx];rfl
  obtain ⟨n,h1,h2⟩:=endsOf_at hx2
  have hs:=sumTake_succ h1
  rw [segSt_succ h1 (hcb (i+1) true (by omega) (by omega) hcu),ih]
  have e:x.2=(ns.take i).sum+n:=by omega
  rw [e,hs];rfl
 | @join i a told x h hx hcu ih =>
  have hil:=(List.getElem?_eq_some_iff.1 hx).1
  have hx2:(endsOf 0 ns)[i]?=some x.2:=by rw [← hc,List.getElem?_map,hx];rfl
  obtain ⟨n,h1,h2⟩:=endsOf_at hx2
  have hs:=sumTake_succ h1
  rw [segSt_succ h1 (hcb (i+1) false (by omega) (by omega) hcu),ih,hs];rfl
end Go.Proofs.YtodagkkjfipbgaaGreatDoor
