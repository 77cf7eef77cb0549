import Derived.Test.YtodagkkjfipbgaaGreatDoorRows
import Derived.ProofKit
import Derived.LaidLaws
import Derived.Lay
import Derived.LaidOnce
import Derived.OpenShut
import Derived.ChangeSame
import Derived.SizedLaws
import Derived.Stop.LaidErr
import Derived.Lib.LaidU8
import Derived.SliceStrings
import Derived.Test.YtodagkkjfipbgaaGreatDoorA32toG3
namespace Go.Proofs.YtodagkkjfipbgaaGreatDoor
open Go.RowKit Go.Maps Go.Lib
def byte (s:ByteArray) (i:Nat):Nat:=(s.get! i).toNat
def segA (s:ByteArray) (c:Nat→Bool):Nat→Nat × List ByteArray
 | 0=>(0,[])
 | i+1=>if c i then (i+1,(segA s c i).2++[s.extract (segA s c i).1 (i+1)]) else segA s c i
theorem seg_ones (s:ByteArray) {n:Nat} {cs:List Bool} {c:Nat→Bool} (hc:∀ i,i<n→cs[i+1]?=some (c i)):∀ i,i≤n→segSt s (List.replicate n 1) cs i=((segA s c i).1,i,(segA s c i).2):=by
 intro i
 induction i with
 | zero=>intro _;rfl
 | succ i ih =>
  intro hi
  have hn:(List.replicate n 1)[i]?=some 1:=by rw [List.getElem?_replicate,if_pos (by omega)]
  rw [segSt_succ hn (hc i (by omega)),ih (by omega),segA]
  unfold segStep
  cases c i <;> rfl
def lineAt (s:ByteArray) (i:Nat):Bool:=byte s i == 10 || byte s i == 13 && (i+1 == s.size || byte s (i+1) != 10)
def linesP (s:ByteArray):List ByteArray:=if (segA s (lineAt s) s.size).1<s.size then (segA s (lineAt s) s.size).2++[s.extract (segA s (lineAt s) s.size).1 s.size] else (segA s (lineAt s) s.size).2
def isW (c:Nat):Bool:=decide (97≤c) && decide (c≤122) || decide (48≤c) && decide (c≤57)
def partAt (s:ByteArray) (i:Nat):Bool:=!(isW (byte s (i+1)) && isW (byte s i))
def runsTo (s:ByteArray):Nat→List ByteArray
 | 0=>[]
 | i+1=>(segA s (partAt s) i).2++[s.extract (segA s (partAt s) i).1 (i+1)]
def geL (g:List (List (Nat × Nat))) (l:List Nat):List Nat:=l.flatMap fun x=>(grow g x).filterMap fun e=>if e.1=0 then some e.2 else none
def normL (n:Nat) (l:List Nat):List Nat:=(List.range n).filter fun x=>l.contains x
def cloL (g:List (List (Nat × Nat))):Nat→List Nat→List Nat
 | 0,l=>l
 | f+1,l=>cloL g f (normL g.length (l++geL g l))
def seedsK (g:List (List (Nat × Nat))) (l:List Nat) (k:Nat):List Nat:=l.flatMap fun x=>(grow g x).filterMap fun e=>if e.1.testBit k then some e.2 else none
def nxL (g:List (List (Nat × Nat))) (first:Nat) (l:List Nat) (k:Nat):List Nat:=cloL g g.length (first :: seedsK g l k)
def fullB (g:List (List (Nat × Nat))) (from_ l:List Nat):Bool:=(geL g l).all (l.contains ·) && from_.all (l.contains ·)
def famL (g:List (List (Nat × Nat))) (first:Nat) (Ks:List Nat):Nat→List (List Nat)→List (List Nat)
 | 0,F=>F
 | n+1,F=>famL g first Ks n (F++(F.flatMap fun l=>Ks.map (nxL g first l)).filter fun l=>!F.contains l)
def famOk (g:List (List (Nat × Nat))) (first goal:Nat) (Ks:List Nat) (F:List (List Nat)) (p:Nat→Bool):Bool :=
 fullB g [first] (cloL g g.length [first]) && F.contains (cloL g g.length [first]) && F.all fun l=>Ks.all fun k=>fullB g (first :: seedsK g l k) (nxL g first l k) && F.contains (nxL g first l k) && ((nxL g first l k).contains goal == p k)
def plainB (Ks:List Nat) (L:RuleM) (pl pr:Nat→Bool):Bool :=
 famOk (graphOf true L.SL) L.fL 0 Ks (famL (graphOf true L.SL) L.fL Ks 6 [cloL (graphOf true L.SL) (graphOf true L.SL).length [L.fL]]) pl && famOk (graphOf false L.SR) 0 L.fR Ks (famL (graphOf false L.SR) 0 Ks 6 [cloL (graphOf false L.SR) (graphOf false L.SR).length [0]]) pr
def Ascii (s:ByteArray):Prop:=∀ i,i<s.size→byte s i<128
theorem get_extract (s:ByteArray) (p:Nat) (h:p<s.size):(s.extract p s.size).get! 0=s.get! p:=by
 rw [Utf8W.get!_of_lt s p h,Utf8W.get!_of_lt (s.extract p s.size) 0 (by rw [ByteArray.size_extract];omega)]
 simp [ByteArray.getElem_extract]
theorem decode_ascii {s:ByteArray} (h1:1≤s.size) (h:byte s 0<128):decodeGo s=(byte s 0,1):=by
 unfold decodeGo
 rw [if_neg (by omega),decode_at]
 have h':(s.get! 0).toNat<128:=h
 unfold decodeN
 rw [if_pos h']
 rfl
def kindB (l:List (Int × Int × Nat)) (c:Nat):Nat:=match l.find? fun o=>decide (o.1≤(c:Int)) && decide ((c:Int)≤o.2.1) with
 | some o=>o.2.2
 | none=>6
def kindsB (l:List (Int × Int × Nat)) (kf:Nat→Nat):Bool:=(List.range 128).all fun c=>(l.all fun o=>!(decide (o.1≤(c:Int)) && decide ((c:Int)≤o.2.1)) || o.2.2 == kf c) && (l.any (fun o=>decide (o.1≤(c:Int)) && decide ((c:Int)≤o.2.1)) || kf c == 6)
theorem kinds_is {L l:List (Int × Int × Nat)} {kf:Nat→Nat} (hp:L.Perm l) (h:kindsB l kf=true) {c:Nat} (hc:c<128) {k:Nat} (hk:KindOf L (c:Int) k):k=kf c:=by
 unfold kindsB at h
 simp only [List.all_eq_true,List.mem_range,Bool.and_eq_true] at h
 obtain ⟨h1,h2⟩:=h c hc
 rcases hk with ⟨o,ho,a,b,e⟩ | ⟨hn,e⟩
 ·have h3:=h1 o (hp.mem_iff.1 ho)
  rw [decide_eq_true a,decide_eq_true b] at h3
  simp at h3
  rw [← e,h3]
 ·have h4:(l.any fun o=>decide (o.1≤(c:Int)) && decide ((c:Int)≤o.2.1))=false:=by
   rw [List.any_eq_false]
   intro o ho
   have:=hn o (hp.mem_iff.2 ho)
   simp only [Bool.and_eq_true,decide_eq_true_eq]
   exact this
  rw [h4] at h2
  simp at h2
  rw [e,h2]
theorem chars_ascii {L l:List (Int × Int × Nat)} {kf:Nat→Nat} (hp:L.Perm l) (h:kindsB l kf=true) {s:ByteArray} (hs:Ascii s) {p:Nat} {ks ns:List Nat} (hc:CharsTo L s p ks ns):ks=(List.range p).map (fun i=>kf (byte s i))∧ns=List.replicate p 1:=by
 induction hc with
 | nil=>exact ⟨rfl,rfl⟩
 | @snoc p ks ns k n hc hp2 hch ih =>
  have hb:byte (s.extract p s.size) 0=byte s p:=by unfold byte;rw [get_extract s p hp2]
  have hlt:=hs p hp2
  have hd:decodeGo (s.extract p s.size)=(byte s p,1):=by rw [decode_ascii (by rw [ByteArray.size_extract];omega) (by rw [hb];exact hlt),hb]
  unfold CharIs at hch
  rw [hd] at hch
  rcases hch with ⟨e,_⟩ | ⟨_,rfl,hk⟩
  ·simp only at e;omega
  ·have e:=kinds_is hp h hlt hk
   refine ⟨?_,?_⟩
   ·show _=(List.range (p+1)).map _
    rw [ih.1,List.range_succ,List.map_append,e];rfl
   ·show _=List.replicate (p+1) 1
    rw [ih.2,List.replicate_succ']
def cutB2 (f:Nat→Nat→Bool) (s:ByteArray) (i:Nat):Bool:=if i+1<s.size then f (byte s i) (byte s (i+1)) else true
theorem told_ascii {T s:ByteArray} {L:List (Int × Int × Nat)} {told:List ByteArray} {kf:Nat→Nat} (hp:L.Perm (read1 T).l) (hkb:kindsB (read1 T).l kf=true) (hs:Ascii s) (h:CutTold T s L told) (f:Nat→Nat→Bool)
  (hf:∀ J:List PR,PJOk (read2 T).2 J→∀ (ks:List Nat) (i a b:Nat),(∀ k ∈ ks,∃ c,c<128∧k=kf c)→ks[i]?=some a→ks[i+1]?=some b→(cutsOf J ks)[i+1]?=some (f a b)) :
  told=(segA s (cutB2 (fun x y=>f (kf x) (kf y)) s) s.size).2:=by
 obtain ⟨J,ks,ns,hj,hc,rfl⟩:=h
 obtain ⟨rfl,rfl⟩:=chars_ascii hp hkb hs hc
 rw [List.length_replicate,seg_ones s (c:=cutB2 (fun x y=>f (kf x) (kf y)) s) (n:=s.size) ?_ s.size (Nat.le_refl _)]
 intro i hi
 have hat:∀ j,j<s.size→((List.range s.size).map fun i=>kf (byte s i))[j]?=some (kf (byte s j)):=fun j hj=>told_at (fun _=>true) hj |> fun _=>by rw [List.getElem?_map,List.getElem?_range hj];rfl
 unfold cutB2
 by_cases e:i+1<s.size
 ·rw [if_pos e]
  refine hf J hj _ i _ _ (fun k hk=>?_) (hat i hi) (hat (i+1) e)
  obtain ⟨j,hj,rfl⟩:=List.mem_map.1 hk
  exact ⟨_,hs j (List.mem_range.1 hj),rfl⟩
 ·rw [if_neg e]
  have:=cutsOf_end J ((List.range s.size).map fun i=>kf (byte s i))
  rw [List.length_map,List.length_range] at this
  rw [show i+1=s.size from by omega]
  exact this
set_option maxRecDepth 100000 in
set_option maxHeartbeats 2000000 in
theorem lawSame_any (ba bb:Nat) (va vb:Value) (l:List ByteArray) (w:World) (ha:w.ownsRow ba 9 1 va l.length (strCells l)) (hb:w.ownsRow bb 9 1 vb l.length (strCells l)) (hla:l.length≤2200000) :
  Calls Tryz.prog 20 #[va,vb] w fun r w'=>r=.returned (.bool true)∧Below w.heap.size w w':=by
 obtain ⟨aa,ca,rfl⟩:=row_shape ha
 obtain ⟨ab,cb,rfl⟩:=row_shape hb
 have HA:Hid (w.ownsRow ba 9 1 (.slice aa l.length ca) l.length (strCells l)):=ha
 have HB:Hid (w.ownsRow bb 9 1 (.slice ab l.length cb) l.length (strCells l)):=hb
 clear ha hb
 go_enter Tryz.func20,Tryz.ntmps20
 go_wp2_with fail
 go_loopg [5] l.length (fun gh iv wx=>∃ i:Nat,i≤l.length∧gh=l.length - i∧iv=.int .i64 i∧Hid (Below w.heap.size w wx))
 case atStart=>exact ⟨0,Nat.zero_le _,rfl,rfl,Below.refl _ _⟩
 case round =>
  obtain ⟨i,hi,rfl,rfl,hB⟩:=hrel
  obtain ⟨w1,hw1⟩:∃ w1,w1=wr:=⟨wr,rfl⟩
  subst hw1
  by_cases hlt:i<l.length
  ·obtain ⟨x,hx⟩:∃ x,l[i]?=some x:=⟨l[i],List.getElem?_eq_getElem hlt⟩
   obtain ⟨q,hq,_,hc⟩:=row_at (row_kp HA.out (Kp.below hB.out)) (strCells_at hx) (by omega)
   subst hq
   obtain ⟨q',hq',_,hc'⟩:=row_at (row_kp HB.out (Kp.below hB.out)) (strCells_at hx) (by omega)
   subst hq'
   clear hx
   go_wp2_with fail
   go_quiet (fail)
   go_wp2_with fail
   go_roundg (l.length - (i+1))
   case measure=>omega
   case rel=>exact ⟨i+1,by omega,rfl,by go_num,bdrew hB.out _⟩
  ·obtain rfl:i=l.length:=by omega
   go_wp2_with fail
   go_ret
   exact ⟨rfl,hB.out⟩
theorem told_ab {L:List (Int × Int × Nat)} {told:List ByteArray} (hp:L.Perm (read1 ⟨#[]⟩).l) (h:CutTold ⟨#[]⟩ ⟨#[97,98]⟩ L told):told=[⟨#[97]⟩,⟨#[98]⟩]:=by
 have h2:(read2 ⟨#[]⟩).2=[]:=by kernel_rfl
 have hA:Ascii ⟨#[97,98]⟩:=fun i hi=>by
  have hi2:i<2:=hi
  rcases i with _ | _ | i
  ·decide
  ·decide
  ·omega
 rw [told_ascii (kf:=fun _=>6) hp (by kernel_rfl) hA h (fun _ _=>true) fun J hJ ks i a b _ _ hb=>by
  have hJ0:J=[]:=by
   have:=hJ.1
   rw [h2] at this
   exact List.eq_nil_of_length_eq_zero this
  rw [hJ0]
  show (List.replicate (ks.length+1) true)[i+1]?=some true
  have:=(List.getElem?_eq_some_iff.1 hb).1
  rw [List.getElem?_replicate,if_pos (by omega)]]
 show (segA _ _ _).2=_
 kernel_rfl
theorem rulesIn_later {w w':World} {g:Nat} {T:ByteArray} {vE vJ vP vH vV:Value} {L:List (Int × Int × Nat)} (h:RulesIn w g T vE vJ vP vH vV L) (hb:Below w.heap.size w w'):RulesIn w' g T vE vJ vP vH vV L :=
 ⟨(hb.block _ (heap_lt h.blk)).trans h.blk,h.perm,h.row,row_kp h.tab (Kp.below hb),h.judge.kp (Kp.below hb) (Kp.below hb),h.out.below hb,h.ok,h.few,h.spans⟩
set_option maxRecDepth 100000 in
set_option maxHeartbeats 4000000 in
theorem alive_any (w:World) (hV:VarsOk w):Calls Tryz.prog 50 #[] w fun r w'=>r=.returned (.bool true)∧Below w.heap.size w w':=by
 have HV:Hid (VarsOk w):=hV
 have ht:=takes_pr w hV.errs
 clear hV
 go_enter Tryz.func50,Tryz.ntmps50
 go_wp2_with fail
 refine ht.mono ?_
 rintro r w1 ⟨rfl,b1⟩
 have V1:Hid (VarsOk w1):=HV.out.below b1
 have B1:Hid (Below w.heap.size w w1):=b1
 have hc:=compile_all ⟨#[]⟩ w1 V1.out.errs (by decide)
 clear ht b1
 go_wp2_with fail
 refine hc.mono ?_
 rintro r w2 ⟨b2,v2,rfl,h2,-⟩
 obtain ⟨g,vE,vJ,vP,vH,vV,L,rfl,_,hR⟩:=h2 empty_read.1
 have V2:Hid (VarsOk w2):=V1.out.below b2
 have B2:Hid (Below w.heap.size w w2):=B1.out.trans (b2.mono B1.out.size)
 have hcut:=cut_any w2 g ⟨#[]⟩ ⟨#[97,98]⟩ vE vJ vP vH vV L hR V2.out.utf V2.out.low (by decide)
 have HP:Hid (L.Perm (read1 ⟨#[]⟩).l):=hR.perm
 rw [empty_read.1,empty_read.2]
 clear h2 hc hR b2
 go_wp2_with fail
 refine hcut.mono ?_
 rintro r w3 ⟨⟨v3,told,rfl,hct,hrow⟩,b3⟩
 obtain rfl:=told_ab HP.out hct
 obtain ⟨ao3,cap3,rfl⟩:=row_shape hrow
 have B3:Hid (Below w.heap.size w w3):=B2.out.trans (b3.mono B2.out.size)
 obtain ⟨W4,hW4⟩:∃ W4,W4=w3.alloc (.cells #[.string ⟨#[97]⟩,.string ⟨#[98]⟩] 9):=⟨_,rfl⟩
 have HW4:Hid (W4=w3.alloc (.cells #[.string ⟨#[97]⟩,.string ⟨#[98]⟩] 9)):=hW4
 have b34:Below w3.heap.size w3 W4:=by rw [hW4];exact below_alloc w3 _
 have B4:Hid (Below w.heap.size w W4):=B3.out.trans (b34.mono B3.out.size)
 have hown:W4.ownsRow 0 9 1 (.slice (some ⟨w3.heap.size,0,none⟩) 2 2) [(⟨#[97]⟩:ByteArray),⟨#[98]⟩].length (strCells [⟨#[97]⟩,⟨#[98]⟩]):=by
  rw [hW4]
  exact ⟨rfl,Or.inr ⟨w3.heap.size,2,#[.string ⟨#[97]⟩,.string ⟨#[98]⟩],rfl,Nat.zero_le _,heap_alloc_new w3 _,Nat.le_refl _,by decide,rfl,rfl⟩⟩
 have hsame:=lawSame_any w2.heap.size 0 _ _ [⟨#[97]⟩,⟨#[98]⟩] W4 (row_kp hrow (Kp.below b34)) hown (by decide)
 clear hcut hct hrow b3 hW4 b34 hown HP
 go_wp2_with fail
 rw [← HW4.out]
 refine hsame.mono ?_
 rintro r w5 ⟨rfl,b5⟩
 go_wp2_with fail
 go_ret
 exact ⟨rfl,B4.out.trans (b5.mono B4.out.size)⟩
theorem tabOK_later {w w':World} (h:TabOK w) (hb:Below w.heap.size w w'):TabOK w':=(hb.cell (p:=⟨1,2,none⟩) (cell_lt h)).trans h
def RefAtB (T:ByteArray) (w:World) (b:Nat):Prop:=∃ nN S Lt,RefOk T w b nN S Lt
theorem rulesAt_later {T:ByteArray} {w w':World} {v:Value} (h:RulesAt T w v) (hb:Below w.heap.size w w'):RulesAt T w' v:=by
 obtain ⟨g,vE,vJ,vP,vH,vV,L,e,h⟩:=h
 exact ⟨g,vE,vJ,vP,vH,vV,L,e,rulesIn_later h hb⟩
theorem refAtB_later {T:ByteArray} {w w':World} {b:Nat} (h:RefAtB T w b) (hb:Below w.heap.size w w'):RefAtB T w' b:=by
 obtain ⟨nN,S,Lt,h⟩:=h
 exact ⟨nN,S,Lt,h.keep hb⟩
set_option maxRecDepth 100000 in
set_option maxHeartbeats 4000000 in
theorem compiled_any (T:ByteArray) (w:World) (hV:VarsOk w) (hTab:TabOK w) (hT:T.size≤140737488351232) :
  Calls Tryz.prog 18 #[.string T] w fun r w'=>(∃ v b,r=.returned (.tuple #[v,.pointer (some ⟨b,0,none⟩),.bool true])∧((rdT T).err=0→RulesAt T w' v∧RefAtB T w' b)∧((rdT T).err ≠ 0→v=.pointer none))∧Below w.heap.size w w':=by
 have HV:Hid (VarsOk w):=hV
 have HTab:Hid (TabOK w):=hTab
 have ha:=alive_any w hV
 clear hV hTab
 go_enter Tryz.func18,Tryz.ntmps18
 go_wp2_with fail
 refine ha.mono ?_
 rintro r w1 ⟨rfl,b1⟩
 have B1:Hid (Below w.heap.size w w1):=b1
 have hcomp:=compile_all T w1 (HV.out.below b1).errs hT
 clear ha b1
 go_wp2_with fail
 refine hcomp.mono ?_
 rintro r w2 ⟨b2,vR,rfl,h1,h2⟩
 have B2:Hid (Below w.heap.size w w2):=B1.out.trans (b2.mono B1.out.size)
 have hlt:1<w2.heap.size:=Nat.lt_of_lt_of_le (cell_lt HTab.out) B2.out.size
 have hra:=read_any T w2 _ rfl (tabOK_later HTab.out B2.out) hlt hT
 have HRD:Hid ((RS.read T).err=(rdT T).err):=(rd_ref T).1.symm
 have HSM:Hid ((rdT T).err=0→T.size≤1000):=fun h=>(rd_zero h).1
 clear hcomp b2
 go_wp2_with fail
 refine hra.mono ?_
 rintro r w3 ⟨rfl,c2,-,b3,hst⟩
 have B3:Hid (Below w2.heap.size w2 w3):=b3
 have HST:Hid (T.size≤1000→RSt w3 w2.heap.size w2.heap.size T (RS.read T)):=hst
 rw [HRD.out] at c2
 clear hra b3 hst
 by_cases h0:(rdT T).err=0
 ·obtain ⟨g,vE,vJ,vP,vH,vV,L,rfl,_,hR⟩:=h1 h0
  have HR:Hid (RulesAt T w3 (.pointer (some ⟨g,0,none⟩))):=⟨g,vE,vJ,vP,vH,vV,L,rfl,rulesIn_later hR B3.out⟩
  have HF:Hid (RefAtB T w3 w2.heap.size):=ref_ok (HSM.out h0) (HRD.out.trans h0) (HST.out (HSM.out h0))
  have H0:Hid ((rdT T).err=0):=h0
  rw [h0] at c2 ⊢
  clear h1 h2 hR h0
  go_wp2_with fail
  go_quiet ((go_at_call 17;exact Calls.quiet_of_same (num_pr _ _)))
  go_wp2_with fail
  go_ret3
  exact ⟨⟨_,_,rfl,fun _=>⟨rulesAt_later HR.out (bdrew (Below.refl _ _) _),refAtB_later HF.out (bdrew (Below.refl _ _) _)⟩,fun h=>absurd H0.out h⟩,B2.out.trans ((bdrew B3.out _).mono B2.out.size)⟩
 ·obtain rfl:=h2 h0
  have k0:((rdT T).err == 0)=false:=by rw [beq_eq_false_iff_ne];exact h0
  have H0:Hid ((rdT T).err ≠ 0):=h0
  clear h1 h2 h0
  obtain ⟨ee,hee⟩:∃ ee,ee=(rdT T).err:=⟨_,rfl⟩
  rw [← hee] at c2 k0 ⊢
  clear hee HST HSM HRD
  go_wp2_with fail
  go_quiet ((go_at_call 17;exact Calls.quiet_of_same (num_pr _ _)))
  go_wp2_with fail
  go_ret3
  exact ⟨⟨_,_,rfl,fun h=>absurd h H0.out,fun _=>rfl⟩,B2.out.trans ((bdrew B3.out _).mono B2.out.size)⟩
theorem cell_ltC {w:World} {a:Addr} {v:Value} (h:w.cell? a=some v):a.block<w.heap.size:=by
 unfold World.cell? at h
 cases hh:w.heap[a.block]? with
 | none=>rw [hh] at h;simp at h
 | some x=>exact (Array.getElem?_eq_some_iff.1 hh).1
def ArgC (w:World) (v:Value) (P:List ByteArray):Prop:=(v=.slice none 0 0∧P=[])∨∃ a cap,v=.slice (some a) P.length cap∧∀ (i:Nat) (s:ByteArray),P[i]?=some s→w.cell? (a.add i)=some (.string s)
theorem ArgC.shape {w:World} {v:Value} {P:List ByteArray} (h:ArgC w v P):∃ ao cap,v=.slice ao P.length cap:=by
 rcases h with ⟨rfl,rfl⟩ | ⟨a,cap,rfl,_⟩
 ·exact ⟨none,0,rfl⟩
 ·exact ⟨_,cap,rfl⟩
theorem ArgC.at {w w':World} {ao:Option Addr} {n cap:Nat} {P:List ByteArray} (h:ArgC w (.slice ao n cap) P) (hb:Below w.heap.size w w') {i:Nat} {s:ByteArray} (hs:P[i]?=some s):∃ a,ao=some a∧w'.cell? (a.add i)=some (.string s):=by
 rcases h with ⟨_,rfl⟩ | ⟨a,c,e,hc⟩
 ·simp at hs
 ·injection e with e _ _
  subst e
  have h1:=hc i s hs
  exact ⟨a,rfl,(hb.cell (p:=a.add i) (cell_ltC h1)).trans h1⟩
theorem book_new (w:World):BookIn (w.alloc (.cells #[.slice none 0 0] 42)) w.heap.size (w.alloc (.cells #[.slice none 0 0] 42)).heap.size w.heap.size 0 :=
 ⟨Nat.le_refl _,.slice none 0 0,[],heap_alloc_new w _,World.ownsRow_nil _ _ _ _,fun i u h=>by simp at h⟩
set_option maxRecDepth 100000 in
set_option maxHeartbeats 8000000 in
theorem cuts_pr (T:ByteArray) (v:Value) (P:List ByteArray) (w:World) (hV:VarsOk w) (hTab:TabOK w) (hA:ArgC w v P) (hT:T.size≤140737488351232) (hl:P.length≤1500000) (hsz:∀ s ∈ P,s.size≤1048576) :
  Calls Tryz.prog 4 #[.string T,v] w fun r w'=>r=.returned (.bool true)∧Below w.heap.size w w':=by
 obtain ⟨aoP,capP,rfl⟩:=hA.shape
 have HA:Hid (ArgC w (.slice aoP P.length capP) P):=hA
 have HV:Hid (VarsOk w):=hV
 have HSZ:Hid (∀ s ∈ P,s.size≤1048576):=hsz
 have hcom:=compiled_any T w hV hTab hT
 clear hA hV hTab hsz
 go_enter Tryz.func4,Tryz.ntmps4
 go_wp2_with fail
 refine hcom.mono ?_
 rintro r w1 ⟨⟨v1,b,rfl,h1,h2⟩,b1⟩
 have B1:Hid (Below w.heap.size w w1):=b1
 by_cases e0:(rdT T).err=0
 ·obtain ⟨⟨g,vE,vJ,vP,vH,vV,L,rfl,hR⟩,nN,S,Lt,hRef⟩:=h1 e0
  have HR:Hid (RulesIn w1 g T vE vJ vP vH vV L):=hR
  have HF:Hid (RefOk T w1 b nN S Lt):=hRef
  obtain ⟨W2,hW2⟩:∃ W2,W2=w1.alloc (.cells #[.slice none 0 0] 42):=⟨_,rfl⟩
  have HW2:Hid (W2=w1.alloc (.cells #[.slice none 0 0] 42)):=hW2
  have HB2:Hid (BookIn W2 w1.heap.size W2.heap.size w1.heap.size 0):=by rw [hW2];exact book_new w1
  have B12:Hid (Below w1.heap.size w1 W2):=by rw [hW2];exact below_alloc w1 _
  obtain ⟨bb,hbb⟩:∃ bb,bb=w1.heap.size:=⟨_,rfl⟩
  have HBB:Hid (bb=w1.heap.size):=hbb
  clear hcom h1 h2 b1 hR hRef e0 hW2 hbb
  go_wp2_with fail
  rw [← HW2.out,← HBB.out]
  go_loopg [9] P.length (fun gh iv wx=>∃ i:Nat,i≤P.length∧gh=P.length - i∧iv=.int .i64 i∧Hid (BookIn wx bb wx.heap.size bb i)∧Hid (Below bb w1 wx))
  case atStart=>exact ⟨0,Nat.zero_le _,rfl,rfl,by have:=HB2.out;rw [← HBB.out] at this;exact this,by have:=B12.out;rw [← HBB.out] at this;exact this⟩
  case round =>
   obtain ⟨i,hi,rfl,rfl,hBk,hB⟩:=hrel
   obtain ⟨w3,hw3⟩:∃ w3,w3=wr:=⟨wr,rfl⟩
   subst hw3
   have B3:Hid (Below w1.heap.size w1 w3):=by have:=hB.out;rw [HBB.out] at this;exact this
   have R3:Hid (RulesIn w3 g T vE vJ vP vH vV L):=rulesIn_later HR.out B3.out
   have B03:Hid (Below w.heap.size w w3):=B1.out.trans (B3.out.mono B1.out.size)
   have V3:Hid (VarsOk w3):=HV.out.below B03.out
   by_cases hlt:i<P.length
   ·obtain ⟨s,hs⟩:∃ s,P[i]?=some s:=⟨P[i],List.getElem?_eq_getElem hlt⟩
    have HS:Hid (s.size≤1048576):=HSZ.out s (List.mem_of_getElem? hs)
    obtain ⟨aP,hao,hc⟩:=HA.out.at B03.out hs
    have HPS:Hid (P[i]?=some s):=hs
    have hcut:=cut_any w3 g T s vE vJ vP vH vV L R3.out V3.out.utf V3.out.low (by have:=HS.out;omega)
    subst hao
    clear hs
    go_wp2_with fail
    refine hcut.mono ?_
    rintro r w4 ⟨⟨v4,told,rfl,hct,hrow4⟩,b4⟩
    have HCT:Hid (CutTold T s L told):=hct
    have HTL:Hid (told.length≤s.size):=(told_whole R3.out.spans.2 hct).2.2
    have HR4:Hid (w4.ownsRow w3.heap.size 9 1 v4 told.length (strCells told)):=hrow4
    have B4:Hid (Below w3.heap.size w3 w4):=b4
    have B04:Hid (Below w.heap.size w w4):=B03.out.trans (b4.mono B03.out.size)
    have B14:Hid (Below w1.heap.size w1 w4):=B3.out.trans (b4.mono B3.out.size)
    have F4:Hid (RefOk T w4 b nN S Lt):=HF.out.keep B14.out
    obtain ⟨ao4,cap4,rfl⟩:=row_shape hrow4
    obtain ⟨aP',hao',hc4⟩:=HA.out.at B04.out HPS.out
    cases hao'
    have href:=refCut_any w4 b nN S Lt s F4.out.spans F4.out.rules F4.out.fit F4.out.few F4.out.low F4.out.four HS.out
    clear hcut hct hrow4 b4 hc
    go_wp2_with fail
    refine href.mono ?_
    rintro r w5 ⟨v5,told',rfl,hrt,hrow5,b5⟩
    obtain rfl:told=told':=told_same F4.out.low.1 (F4.out.same L R3.out.perm) R3.out.row R3.out.spans.2 F4.out.trees R3.out.ok HCT.out hrt
    have B5:Hid (Below w3.heap.size w3 w5):=B4.out.trans (b5.mono B4.out.size)
    have R5:Hid (w5.ownsRow w3.heap.size 9 1 (.slice ao4 told.length cap4) told.length (strCells told)):=row_kp HR4.out (Kp.below b5)
    have htl:told.length≤1048576:=Nat.le_trans HTL.out HS.out
    have hsame:=lawSame_any w3.heap.size w4.heap.size _ _ told w5 R5.out hrow5 (by omega)
    obtain ⟨ao5,cap5,rfl⟩:=row_shape hrow5
    clear href hrt hrow5 b5 hc4
    go_wp2_with fail
    refine hsame.mono ?_
    rintro r w6 ⟨rfl,b6⟩
    have B6:Hid (Below w3.heap.size w3 w6):=B5.out.trans (b6.mono B5.out.size)
    have R6:Hid (w6.ownsRow w3.heap.size 9 1 (.slice ao4 told.length cap4) told.length (strCells told)):=row_kp R5.out (Kp.below b6)
    have K6:Hid (BookIn w6 bb w3.heap.size bb i):=hBk.out.below B6.out
    have hbl:bb≤w3.heap.size:=by rw [HBB.out];exact B3.out.size
    have hkeep:=keep_any w6 bb w3.heap.size bb i told.length _ (strCells told) K6.out R6.out B6.out.size hbl (by omega) (by omega)
    clear hsame b6
    go_wp2_with fail
    refine hkeep.mono ?_
    rintro r w7 ⟨rfl,k7,b7⟩
    have K7:Hid (BookIn w7 bb w7.heap.size bb (i+1)):=k7
    have B7:Hid (Below bb w1 w7):=(hB.out.trans (B6.out.mono hbl)).trans b7
    have hlook:=looks_any w7 bb _ bb (i+1) k7 (by omega)
    clear hkeep k7 b7
    go_wp2_with fail
    refine hlook.mono ?_
    rintro r w8 ⟨rfl,b8⟩
    have K8:Hid (BookIn w8 bb w8.heap.size bb (i+1)):=(K7.out.below b8).up b8.size
    have B8:Hid (Below bb w1 w8):=B7.out.trans (b8.mono (by rw [HBB.out];exact B7.out.size))
    clear hlook b8
    go_wp2_with fail
    go_roundg (P.length - (i+1))
    case measure=>omega
    case rel=>exact ⟨i+1,by omega,rfl,by go_num,K8,B8⟩
   ·obtain rfl:i=P.length:=by omega
    have hcut:=cut_any w3 g T ⟨#[]⟩ vE vJ vP vH vV L R3.out V3.out.utf V3.out.low (by decide)
    go_wp2_with fail
    refine hcut.mono ?_
    rintro r w4 ⟨⟨v4,told,rfl,hct,hrow4⟩,b4⟩
    have htl:told.length=0:=by
     have:=(told_whole R3.out.spans.2 hct).2.2
     have h0:(⟨#[]⟩:ByteArray).size=0:=rfl
     omega
    obtain ⟨ao4,cap4,rfl⟩:=row_shape hrow4
    have B4:Hid (Below w.heap.size w w4):=B03.out.trans (b4.mono B03.out.size)
    rw [htl]
    clear hcut hct hrow4 b4
    go_wp2_with fail
    go_ret
    exact ⟨rfl,B4.out⟩
 ·obtain rfl:=h2 e0
  clear hcom h1 h2 b1 e0
  go_wp2_with fail
  go_ret
  exact ⟨rfl,B1.out⟩
end Go.Proofs.YtodagkkjfipbgaaGreatDoor
namespace Go.Proofs.YtodagkkjfipbgaaGreatDoor
open Go.ChangeShapes Go.WideShapes Go.ChangeAt Go.RowKit
theorem tSU:(Tryz.prog.globals[0]?).map (·.type)=some 171:=by kernel_rfl
theorem laid_sur {n:String} {r:List (String × DataW Unit)} {W:World} (h:laidMet Tryz.prog ((n,Rows.laid_cleave_kinds_surrogates) :: r) W) (gSU:Tryz.prog.globalNamed n=some 0):W.cell? ⟨0,0,none⟩=some (.int .i32 55296)∧W.cell? ⟨0,1,none⟩=some (.int .i32 57343):=by
 obtain ⟨ps,⟨g0,t0,cs0,f0,p0,q0,hg0,ht0,hv0,hd0,_,e0⟩,_,_⟩:=h
 obtain rfl:=Option.some.inj (gSU.symm.trans hg0)
 obtain rfl:=Option.some.inj (tSU.symm.trans ht0)
 have c1:Tryz.prog.cellsOf 21=1:=by kernel_rfl
 obtain ⟨y0,y1,m,ex,hl,h0,h1⟩:=trod_struct2 Tryz.underlying171 hd0
 have c2:Tryz.prog.cellsOf 171=2:=by kernel_rfl
 rw [c2] at hl
 have e1:=(Prod.mk.inj ex).1
 unfold Rows.laid_cleave_kinds_surrogates at e1
 injection e1 with e1
 injection e1 with ea e1
 injection e1 with eb _
 simp only [c1] at h0 h1
 obtain ⟨a,a0,a1,_⟩:=DataW.trod_int Tryz.underlying21 h0
 obtain ⟨b,b0,b1,_⟩:=DataW.trod_int Tryz.underlying21 h1
 rw [a1] at ea
 rw [b1] at eb
 have hza:a=55296:=by simpa using ea.symm
 have hzb:b=57343:=by simpa using eb.symm
 subst hza
 subst hzb
 obtain ⟨l⟩:=cs0
 match l,hl with
 | [x,y],_ =>
  simp at a0 b0
  subst a0
  subst b0
  exact ⟨by rw [World.var?_cell gSU hv0 0];rfl,by rw [World.var?_cell gSU hv0 1];rfl⟩
theorem ownW:ownKnob Tryz.prog.godebug=none:=by kernel_rfl
theorem gESW : Tryz.prog.globalNamed "strconv.ErrSyntax" = some 6 := by kernel_rfl
theorem gERW : Tryz.prog.globalNamed "strconv.ErrRange" = some 7 := by kernel_rfl
theorem tESW:(Tryz.prog.globals[6]?).map (·.type)=some 332:=by kernel_rfl
theorem tERW:(Tryz.prog.globals[7]?).map (·.type)=some 332:=by kernel_rfl
theorem laid_ifaceW {n nm:String} {d:DataW Unit} {r:List (String × DataW Unit)} {W:World} {g:Nat} {ti:TypeId} {ms:Array (String × TypeId)}
  (h:laidMet Tryz.prog ((n,.iface nm d) :: r) W) (hg:Tryz.prog.globalNamed n=some g) (ht:(Tryz.prog.globals[g]?).map (·.type)=some ti) (hi:Tryz.prog.underlying ti=some (.interface ms)) :
  ∃ u v,W.cell? ⟨g,0,none⟩=some (.iface u v):=by
 obtain ⟨ps,⟨g0,t0,cs0,f0,p0,q0,hg0,ht0,hv0,hd0,_,e0⟩,_,_⟩:=h
 obtain rfl:=Option.some.inj (hg.symm.trans hg0)
 obtain rfl:=Option.some.inj (ht.symm.trans ht0)
 obtain ⟨_,u,v,hcs,_,_⟩:=iface_of_trod hi hd0
 refine ⟨u,v,?_⟩
 rw [World.var?_cell hg hv0 0]
 obtain ⟨l⟩:=cs0
 simp at hcs
 subst hcs
 rfl
theorem u8x:U8Extra Tryz.prog Tryz.laysDec_ren:=⟨by kernel_rfl,by kernel_rfl,by kernel_rfl,by kernel_rfl,by kernel_rfl,by kernel_rfl,by kernel_rfl⟩
theorem firstIs:Rows.laid_unicode_utf8_first=Lib.firstData:=by kernel_rfl
theorem acceptIs:Rows.laid_unicode_utf8_acceptRanges=Lib.acceptData:=by kernel_rfl
theorem utf_laid {l : List (String × DataW Unit)} {W : World} (h : laidMet Tryz.prog l W) (h1 : ("unicode/utf8.first", Rows.laid_unicode_utf8_first) ∈ l) (h2 : ("unicode/utf8.acceptRanges", Rows.laid_unicode_utf8_acceptRanges) ∈ l) :
  Lib.Utf8Tabs 2 3 W∧(2<W.heap.size∧3<W.heap.size):=by
 rw [firstIs] at h1
 rw [acceptIs] at h2
 have hT:=utf8Tabs_of_reads { Tryz.laysDec with } u8x (Lib.laidMet.reads h h1) (Lib.laidMet.reads h h2)
 rw [show Tryz.laysDec_ren.g 3=2 from by kernel_rfl,show Tryz.laysDec_ren.g 4=3 from by kernel_rfl] at hT
 exact ⟨hT,cell_lt (hT.1 0 (by omega)),cell_lt (hT.2 0 (by omega)).1⟩
theorem vars_laid {W : World} {a b c : String × DataW Unit} {l : List (String × DataW Unit)} (h : laidMet Tryz.prog (a :: b :: c :: ("unicode/utf8.acceptRanges", Rows.laid_unicode_utf8_acceptRanges) :: ("cleave/kinds.surrogates", Rows.laid_cleave_kinds_surrogates) :: ("strconv.ErrRange", Rows.laid_strconv_ErrRange) :: ("strconv.ErrSyntax", Rows.laid_strconv_ErrSyntax) :: ("unicode/utf8.first", Rows.laid_unicode_utf8_first) :: l) W) : VarsOk W := by
 have hU:=utf_laid h (List.mem_of_getElem? (i:=7) rfl) (List.mem_of_getElem? (i:=3) rfl)
 exact ⟨⟨laid_ifaceW h.tail.tail.tail.tail.tail.tail gESW tESW Tryz.underlying332,laid_ifaceW h.tail.tail.tail.tail.tail gERW tERW Tryz.underlying332,laid_sur h.tail.tail.tail.tail (by kernel_rfl)⟩,hU.1,hU.2⟩
end Go.Proofs.YtodagkkjfipbgaaGreatDoor
namespace Go.Proofs.YtodagkkjfipbgaaGreatDoor
open Go.ChangeShapes Go.RowKit
theorem bulk_strs {H:Type}:∀ l:List ByteArray,Rows.uptoBulkAll (strs (H:=H) l)=(joinB l).size+l.length:=by
 intro l
 rw [joinB_size]
 induction l with
 | nil=>rfl
 | cons s l ih =>
  have e:Rows.uptoBulkAll (strs (H:=H) (s :: l))=s.data.toList.length+1+Rows.uptoBulkAll (strs (H:=H) l):=rfl
  have e2:s.data.toList.length=s.size:=Array.length_toList
  rw [e,ih,e2]
  simp
  omega
theorem Tryz.cellsStr:Tryz.prog.cellsOf 9=1:=by kernel_rfl
end Go.Proofs.YtodagkkjfipbgaaGreatDoor
