import Derived.Test.YtodagkkjfipbgaaGreatDoorSh4lone
import Derived.Test.YtodagkkjfipbgaaGreatDoorV8toT2
import Derived.Test.YtodagkkjfipbgaaGreatDoorT3toT4
namespace Go.Proofs.YtodagkkjfipbgaaGreatDoor
open Go.RowKit Go.Maps Go.Lib
theorem Tryz.infoSg:(Tryz.prog.info? 9).map (fun i=>(i.zero,i.size,i.bytes))=some (some (.string ⟨#[]⟩),1,16):=by kernel_rfl
theorem Tryz.undSg:Tryz.prog.underlying 30=some (.slice 9):=by kernel_rfl
theorem clone_any (s:ByteArray) (w:World) (h:s.size<=2200000):Calls Tryz.prog 99 #[.string s] w fun e w'=>e=.returned (.string s)/\Below w.heap.size w w':=by
 have hc:Calls Tryz.prog 152 #[.string s] w fun e w'=>e=.returned (.string s)/\Below w.heap.size w w':=by
  have h1:=AnyPu.stringslite_Clone Tryz.laysClone s w (by omega)
  rw [show Tryz.laysClone_ren.f 25=152 from by kernel_rfl] at h1
  exact h1
 go_enter Tryz.func99,Tryz.ntmps99
 go_wp2_with fail
 refine hc.mono ?_
 rintro r w1 ⟨rfl,b1⟩
 go_wp2_with fail
 go_ret
 exact ⟨rfl,b1⟩
abbrev SegSt:Type:=Nat × Nat × List ByteArray
def segStep (s:ByteArray) (st:SegSt) (x:Nat × Bool):SegSt:=if x.2 then (st.2.1+x.1,st.2.1+x.1,st.2.2++[s.extract st.1 (st.2.1+x.1)]) else (st.1,st.2.1+x.1,st.2.2)
def segSt (s:ByteArray) (ns:List Nat) (cs:List Bool) (i:Nat):SegSt:=((ns.zip (cs.drop 1)).take i).foldl (segStep s) (0,0,[])
theorem segSt_succ {s:ByteArray} {ns:List Nat} {cs:List Bool} {i n:Nat} {c:Bool} (hn:ns[i]?=some n) (hc:cs[i+1]?=some c):segSt s ns cs (i+1)=segStep s (segSt s ns cs i) (n,c):=by
 unfold segSt
 have h:(ns.zip (cs.drop 1))[i]?=some (n,c):=by
  rw [List.getElem?_zip_eq_some]
  exact ⟨hn,by rw [List.getElem?_drop,Nat.add_comm];exact hc⟩
 rw [List.take_add_one,h,List.foldl_append]
 rfl
structure SegOk (s:ByteArray) (ns:List Nat) (i:Nat) (st:SegSt):Prop where
 end_:st.2.1=(ns.take i).sum
 order:st.1<=st.2.1
 few:st.2.2.length<=i
theorem sumTake_le (ns:List Nat) (i:Nat):(ns.take i).sum<=ns.sum:=by
 have h:=congrArg List.sum (List.take_append_drop i ns)
 rw [List.sum_append] at h
 omega
theorem sumTake_succ {ns:List Nat} {i n:Nat} (h:ns[i]?=some n):(ns.take (i+1)).sum=(ns.take i).sum+n:=by rw [List.take_add_one,h,List.sum_append];simp
theorem segOk (s:ByteArray) {ns:List Nat} {cs:List Bool} (h:cs.length=ns.length+1):∀ i,i<=ns.length->SegOk s ns i (segSt s ns cs i):=by
 intro i
 induction i with
 | zero=>intro _;exact ⟨by unfold segSt;simp,by unfold segSt;simp,by unfold segSt;simp⟩
 | succ i ih =>
  intro hi
  have h1:=ih (by omega)
  have hn:ns[i]?=some ns[i]:=List.getElem?_eq_getElem (by omega)
  have hc:cs[i+1]?=some (cs[i+1]'(by omega)):=List.getElem?_eq_getElem (by omega)
  rw [segSt_succ hn hc]
  generalize segSt s ns cs i=st at h1
  generalize (cs[i+1]'(by omega))=c
  have e:=sumTake_succ hn
  have h2:=h1.end_
  have h3:=h1.order
  have h4:=h1.few
  unfold segStep
  cases c with
  | true=>exact ⟨by simp;omega,by simp,by simp;omega⟩
  | false=>exact ⟨by simp;omega,by simp;omega,by simp;omega⟩
def strCells (l:List ByteArray):List Value:=l.map Value.string
theorem strCells_snoc (l:List ByteArray) (s:ByteArray):strCells (l++[s])=strCells l++[.string s]:=by unfold strCells;rw [List.map_append];rfl
theorem strCells_at {l:List ByteArray} {i:Nat} {s:ByteArray} (h:l[i]?=some s):(strCells l)[i]?=some (.string s):=by unfold strCells;rw [List.getElem?_map,h];rfl
theorem one_str (s:ByteArray):∀ u ∈ [Value.string s],u.oneCell'=true:=by intro u hu;simp at hu;subst hu;rfl
set_option maxRecDepth 100000 in
set_option maxHeartbeats 4000000 in
theorem segments_any (s:ByteArray) (vN:Value) (ns:List Nat) (g:Nat) (cs:List Bool) (w:World) (hN:w.ownsRow 0 5 1 vN ns.length (kCells ns)) (hC:w.heap[g]?=some (.cells (boolCells cs) 4 (0,0))) (hcl:cs.length=ns.length+1) (hsum:ns.sum=s.size) (h4:∀ n ∈ ns,n<=4) (hlen:s.size<=2200000) (hnl:ns.length<=2200000) :
  Calls Tryz.prog 52 #[.string s,vN,.slice (some ⟨g,0,none⟩) (ns.length+1) (ns.length+1)] w fun r w'=>(∃ v,r=.returned v/\w'.ownsRow w.heap.size 9 1 v (segSt s ns cs ns.length).2.2.length (strCells (segSt s ns cs ns.length).2.2))/\Below w.heap.size w w':=by
 obtain ⟨aN,cN,rfl⟩:=row_shape hN
 have HN:Hid (w.ownsRow 0 5 1 (.slice aN ns.length cN) ns.length (kCells ns)):=hN
 have HC:Hid (w.heap[g]?=some (.cells (boolCells cs) 4 (0,0))):=hC
 have HOK:Hid (∀ i,i<=ns.length->SegOk s ns i (segSt s ns cs i)):=segOk s hcl
 have HCL:Hid (cs.length=ns.length+1):=hcl
 have HS:Hid (ns.sum=s.size):=hsum
 have H4:Hid (∀ n ∈ ns,n<=4):=h4
 clear hN hC hcl hsum h4
 go_enter Tryz.func52,Tryz.ntmps52
 go_wp2_with fail
 go_loopg [7,8,9,14] ns.length (fun gh tv bv ev iv wx=>∃ (i b e:Nat) (told:List ByteArray) (ao:Option Addr) (cap:Nat),i<=ns.length/\gh=ns.length - i/\tv=.slice ao told.length cap/\bv=.int .i64 b/\ev=.int .i64 e/\iv=.int .i64 i/\Hid (segSt s ns cs i=(b,e,told))/\Hid (wx.ownsRow w.heap.size 9 1 (.slice ao told.length cap) told.length (strCells told))/\Hid (Below w.heap.size w wx))
 case atStart=>exact ⟨0,0,0,[],none,0,Nat.zero_le _,rfl,rfl,rfl,rfl,rfl,rfl,World.ownsRow_nil _ _ _ _,Below.refl _ _⟩
 case round =>
  obtain ⟨i,b,e,told,ao,cap,hi,rfl,rfl,rfl,rfl,rfl,hSt,hW,hB⟩:=hrel
  obtain ⟨w1,hw1⟩:∃ w1,w1=wr:=⟨wr,rfl⟩
  subst hw1
  have hs1:=hB.out.size
  have hok:=HOK.out i hi
  rw [hSt.out] at hok
  have hbe:b<=e:=hok.order
  have hel:e=(ns.take i).sum:=hok.end_
  have htl:told.length<=2200000:=by have:told.length<=i:=hok.few;omega
  clear hok
  by_cases hlt:i<ns.length
  ·obtain ⟨n,hn⟩:∃ n,ns[i]?=some n:=⟨ns[i],List.getElem?_eq_getElem hlt⟩
   obtain ⟨c,hc⟩:∃ c,cs[i+1]?=some c:=⟨cs[i+1]'(by rw [HCL.out];omega),List.getElem?_eq_getElem _⟩
   have hn4:=H4.out n (List.mem_of_getElem? hn)
   have hen:e+n<=s.size:=by
    have h1:=sumTake_succ hn
    have h2:=sumTake_le ns (i+1)
    rw [HS.out] at h2
    omega
   have hst':segSt s ns cs (i+1)=segStep s (b,e,told) (n,c):=by rw [segSt_succ hn hc,hSt.out]
   obtain ⟨qN,hqN,_,hcN⟩:=row_at (row_kp HN.out (Kp.below hB.out)) (kCells_at hn) (by omega)
   subst hqN
   have hcC:w1.cell? ⟨g,i+1,none⟩=some (.bool c):=cell_of_block ((hB.out.block _ (heap_lt HC.out)).trans HC.out) (i+1) _ (boolCells_at hc)
   clear hel hn hc
   cases c with
   | false =>
    have ST:Hid (segSt s ns cs (i+1)=(b,e+n,told)):=hst'
    clear hst'
    go_wp2_with fail
    go_roundg (ns.length - (i+1))
    case measure=>omega
    case rel=>exact ⟨i+1,b,e+n,told,ao,cap,by omega,rfl,rfl,rfl,by go_num,by go_num,ST,hW,hB⟩
   | true =>
    have ST:Hid (segSt s ns cs (i+1)=(e+n,e+n,told++[s.extract b (e+n)])):=hst'
    have hz:(s.extract b (e+n)).size<=2200000:=by rw [ByteArray.size_extract];omega
    have hcl:=clone_any (s.extract b (e+n)) w1 hz
    clear hst' hz
    obtain ⟨x,hx⟩:∃ x,x=s.extract b (e+n):=⟨_,rfl⟩
    have HX:Hid (x=s.extract b (e+n)):=hx
    rw [<- hx] at hcl
    go_wp2_with fail
    rw [<- HX.out]
    clear hx
    refine hcl.mono ?_
    rintro r w2 ⟨rfl,b2⟩
    have B2:Hid (Below w.heap.size w w2):=hB.out.trans (b2.mono hs1)
    have R1:Hid ((w2.alloc (.cells #[.string x] 9)).ownsRow w.heap.size 9 1 (.slice ao told.length cap) told.length (strCells told)):=row_kp (row_kp hW.out (Kp.below b2)) (Kp.below (below_alloc w2 _))
    have NW:Hid (∀ (j:Nat) (u:Value),[Value.string x][j]?=some u->(w2.alloc (.cells #[.string x] 9)).cell? ⟨w2.heap.size,j,none⟩=some u):=fun j u hu=>cell_of_block (heap_alloc_new w2 _) j u (by simpa using hu)
    have BA:Hid (Below w.heap.size w (w2.alloc (.cells #[.string x] 9))):=B2.out.alloc B2.out.size _
    have LA:w.heap.size<=(w2.alloc (.cells #[.string x] 9)).heap.size:=BA.out.size
    clear hcl b2 hcC hcN
    go_wp2_with (at_builtin;refine wpList_push2 rfl (.tmp 28) (.tmp 34) 30 rfl w.heap.size 9 (.string ⟨#[]⟩) 1 16 Tryz.infoSg Tryz.undSg rfl (by decide) (.slice ao told.length cap) told.length (strCells told) rfl R1.out w2.heap.size 1 [.string x] rfl rfl NW.out (one_str x) (by omega) (by omega) LA ?_;intro v' W3 hown hgr hsn;obtain ⟨ao',cap',rfl⟩:=row_shape hown;have HR:Hid (W3.ownsRow w.heap.size 9 1 (.slice ao' (told.length+1) cap') (told.length+1) (strCells told++[.string x])):=hown;have B3:Hid (Below w.heap.size w W3):=BA.out.grown hgr LA (fun k hk=>(R1.out.lt k hk).1);clear hown hgr hsn)
    go_roundg (ns.length - (i+1))
    case measure=>omega
    case rel =>
     refine ⟨i+1,e+n,e+n,told++[x],ao',cap',by omega,rfl,by rw [List.length_append];rfl,by go_num,by go_num,by go_num,by rw [HX.out];exact ST,?_,B3⟩
     rw [List.length_append,strCells_snoc]
     exact HR
  ·obtain rfl:i=ns.length:=by omega
   have ST:Hid (segSt s ns cs ns.length=(b,e,told)):=hSt
   go_wp2_with fail
   go_ret
   refine ⟨⟨_,rfl,?_⟩,hB.out⟩
   rw [ST.out]
   exact hW.out
end Go.Proofs.YtodagkkjfipbgaaGreatDoor
namespace Go.Proofs.YtodagkkjfipbgaaGreatDoor
open Go.RowKit Go.Maps
structure OutS (Ls:List RuleM) (ks:List Nat) (J:AJ) (X K:List Spt) (H:List Hd) (V:List Vw) (MC MJ:List Bool):Prop where
 rules:JOk Ls J
 good:∀ r ∈ J,ARuleOk r
 heads:HeadsOk J ks X K H
 hlen:H.length=X.length
 first:X[0]?=some (false,[0,0,0,0])
 pasts:∀ x ∈ X,PastOk J x
 knowns:∀ x ∈ K,KnownOk J x
 views:ViewsOk J ks K V
 vlen:V.length=K.length
 mc:MC.length=V.length/\∀ i,MC[i]?=some true↔mayV ks (plainV V) true i
 mj:MJ.length=V.length/\∀ i,MJ[i]?=some true↔mayV ks (plainV V) false i
 few:H.length<=320000/\V.length<=320000
def OutIn (w:World) (vP vH vV:Value) (Ls:List RuleM) (ks:List Nat):Prop :=
 ∃ J X K H V MC MJ,OutS Ls ks J X K H V MC MJ/\w.ownsRow 0 169 1 vP ks.length (kCells ks)/\w.ownsRow 0 246 9 vH H.length (headCells H)/\w.ownsRow 0 254 10 vV V.length (viewCells (setTo V.length (setF MC MJ) V))
theorem ViewsOk.good {J:AJ} {ks:List Nat} {K:List Spt} {V:List Vw} (h:ViewsOk J ks K V) (hl:V.length=K.length):VGood ks V:=fun v hv=>by
 obtain ⟨i,hi⟩:=List.mem_iff_getElem?.1 hv
 obtain ⟨x,_,h1,_,h2⟩:=h i v hi
 refine ⟨h1,fun k hk=>?_⟩
 obtain ⟨n,h3,h4⟩:=h2 k hk
 exact ⟨n,h3,by rw [hl];exact (List.getElem?_eq_some_iff.1 h4).1⟩
theorem set3 {w:World} {q:Nat} {a b c d e f:Value} {t:TypeId} (h:w.heap[q]?=some (.cells #[a,b,c] t (0,0))) :
  (((w.setCell ⟨q,0,none⟩ d).setCell ⟨q,1,none⟩ e).setCell ⟨q,2,none⟩ f).heap[q]?=some (.cells #[d,e,f] t (0,0)) :=
 (block_setCell ((block_setCell ((block_setCell h 0 _).trans rfl) 1 _).trans rfl) 2 _).trans rfl
set_option maxRecDepth 100000 in
set_option maxHeartbeats 4000000 in
theorem amake_any (lb:Nat) (vL vP:Value) (Ls:List RuleM) (ks:List Nat) (w:World) (hL:LIn lb w vL Ls) (hok:∀ L ∈ Ls,RuleOk L) (hlen:Ls.length<=4) (hks:∀ k ∈ ks,k<8) (hkl:ks.length<=8) (hP:w.ownsRow 0 169 1 vP ks.length (kCells ks)) :
  Calls Tryz.prog 44 #[vL,vP] w fun r w'=>∃ vH vV,r=.returned (.agg #[vP,vH,vV])/\(∃ a b c,vH=.slice a b c)/\(∃ a b c,vV=.slice a b c)/\OutIn w' vP vH vV Ls ks/\Below w.heap.size w w':=by
 obtain ⟨aoL,capL,rfl,_⟩:=hL.form
 obtain ⟨aoP,capP,rfl⟩:=row_shape hP
 have HL:Hid (LIn lb w (.slice aoL Ls.length capL) Ls):=hL
 have HP:Hid (w.ownsRow 0 169 1 (.slice aoP ks.length capP) ks.length (kCells ks)):=hP
 have HKS:Hid (∀ k ∈ ks,k<8):=hks
 have HOK:Hid (∀ L ∈ Ls,RuleOk L):=hok
 clear hL hP hks hok
 have b0:=below_alloc w (.cells #[.slice none 0 0,.slice none 0 0,.slice none 0 0] 95)
 have R0:Hid ((w.alloc (.cells #[.slice none 0 0,.slice none 0 0,.slice none 0 0] 95)).heap[w.heap.size]?=some (.cells #[.slice none 0 0,.slice none 0 0,.slice none 0 0] 95 (0,0))):=heap_alloc_new w _
 have B0:Hid (Below w.heap.size w (w.alloc (.cells #[.slice none 0 0,.slice none 0 0,.slice none 0 0] 95))):=b0
 clear b0
 go_enter Tryz.func44,Tryz.ntmps44
 go_wp2_with fail
 refine (makeJudge_any lb _ Ls _ (HL.out.below B0.out) HOK.out (by omega)).mono ?_
 rintro r w1 ⟨vJ,J,vs,rfl,hA,hJO,hb1⟩
 obtain ⟨aoJ,capJ,rfl,_⟩:=hA.form
 have A1:Hid (AIn 0 w1 (.slice aoJ J.length capJ) J vs):=⟨hA.len,row_base hA.row (Nat.zero_le _),hA.tab,hA.ok⟩
 have JO:Hid (JOk Ls J):=hJO
 have hJl:J.length<=4:=by rw [hJO.1];exact hlen
 have B1:Hid (Below w.heap.size w w1):=B0.out.trans (hb1.mono (by simp))
 have R1:Hid (w1.heap[w.heap.size]?=some (.cells #[.slice none 0 0,.slice none 0 0,.slice none 0 0] 95 (0,0))):=(hb1.block _ (by simp)).trans R0.out
 have hs1:=B1.out.size
 have hr1:=heap_lt R1.out
 clear hA hJO hb1
 obtain ⟨W1,hW1⟩:∃ W1,W1=(w1.alloc (.cells #[.slice aoP ks.length capP,.slice none 0 0,.slice none 0 0] 95)).alloc (.cells #[.slice none 0 0,.map none] 164):=⟨_,rfl⟩
 have HW1:Hid (W1=(w1.alloc (.cells #[.slice aoP ks.length capP,.slice none 0 0,.slice none 0 0] 95)).alloc (.cells #[.slice none 0 0,.map none] 164)):=hW1
 have b2:Below w1.heap.size w1 W1:=by rw [hW1];exact (below_alloc w1 _).alloc (by simp) _
 have hz1:W1.heap.size=w1.heap.size+2:=by rw [hW1];simp
 have O1:Hid (W1.heap[w1.heap.size]?=some (.cells #[.slice aoP ks.length capP,.slice none 0 0,.slice none 0 0] 95 (0,0))):=by rw [hW1,Below.heap_alloc _ _ _ (by simp)];exact heap_alloc_new w1 _
 have K1:Hid (FInK w.heap.size W1 (w1.heap.size+1) [] none 0 none):=by
  refine ⟨?_,World.ownsRow_nil _ _ _ _,Or.inl ⟨rfl,rfl⟩,List.nodup_nil,fun x hx=>by simp at hx⟩
  rw [hW1]
  exact (show (w1.alloc (.cells #[.slice aoP ks.length capP,.slice none 0 0,.slice none 0 0] 95)).heap.size=w1.heap.size+1 by simp) ▸ heap_alloc_new (w1.alloc _) _
 have A2:Hid (AIn 0 W1 (.slice aoJ J.length capJ) J vs):=A1.out.below b2
 have B2:Hid (Below w.heap.size w W1):=B1.out.trans (b2.mono hs1)
 have P2:Hid (W1.ownsRow 0 169 1 (.slice aoP ks.length capP) ks.length (kCells ks)):=row_kp HP.out (Kp.below B2.out)
 have R2:Hid (W1.heap[w.heap.size]?=some (.cells #[.slice none 0 0,.slice none 0 0,.slice none 0 0] 95 (0,0))):=(b2.block _ hr1).trans R1.out
 clear hW1 b2 A1 R0 R1
 go_wp2_with fail
 rw [<- HW1.out]
 refine (lookBack_any (w.heap.size+1) (w1.heap.size+1) w1.heap.size J vs _ ks _ W1 hJl HKS.out hkl A2.out P2.out ⟨K1.out.blk,World.ownsRow_nil _ _ _ _,Or.inl ⟨rfl,rfl⟩,List.nodup_nil,fun x hx=>by simp at hx⟩ O1.out (by omega) (by omega) (by omega)).mono ?_
 rintro r w3 ⟨rfl,p,X,aoX,capX,moX,K,aoK,capK,moK,H,aoH,capH,hLB,hHO,hHl,hKO,hXO,hX0,hb3⟩
 have L3:Hid (LOn (w.heap.size+1) w3 (w1.heap.size+1) w1.heap.size J vs (.slice aoJ J.length capJ) ks (.slice aoP ks.length capP) K aoK capK moK H (.slice aoH H.length capH) [] none 0):=⟨hLB.fk,hLB.aj,hLB.ps,hLB.hd,World.ownsRow_nil _ _ _ _,hLB.ob⟩
 have HO3:Hid (HeadsOk J ks X K H/\H.length=X.length/\(∀ x ∈ K,KnownOk J x)/\(∀ x ∈ X,PastOk J x)/\X[0]?=some (false,[0,0,0,0])):=⟨hHO,hHl,hKO,hXO,hX0⟩
 have B3:Hid (Below (w.heap.size+1) W1 w3):=hb3
 have hs3:=hb3.size
 have hHl2:H.length<=320000:=by rw [hHl];exact few4' hLB.fx.nodup hLB.fx.ok
 clear hLB hHO hHl hKO hXO hX0 hb3
 go_wp2_with fail
 refine (lookOn_any (w.heap.size+1) (w1.heap.size+1) w1.heap.size J vs _ ks _ K aoK capK moK H _ w3 hJl HKS.out hkl L3.out HO3.out.2.2.1 (by omega) (by omega) (by omega)).mono ?_
 rintro r w4 ⟨rfl,K4,aoK4,capK4,moK4,V,aoV,capV,hLO,hVO,hVl,hKp,hKO4,hVF,hb4⟩
 have L4:Hid (LOn (w.heap.size+1) w4 (w1.heap.size+1) w1.heap.size J vs (.slice aoJ J.length capJ) ks (.slice aoP ks.length capP) K4 aoK4 capK4 moK4 H (.slice aoH H.length capH) V aoV capV):=hLO
 have HO4:Hid (ViewsOk J ks K4 V/\V.length=K4.length/\K <+: K4/\∀ x ∈ K4,KnownOk J x):=⟨hVO,hVl,hKp,hKO4⟩
 have B4:Hid (Below (w.heap.size+1) W1 w4):=B3.out.trans hb4
 have hs4:=hb4.size
 have hVl2:V.length<=320000:=by rw [hVl];exact few4' hLO.fk.nodup hLO.fk.ok
 clear hLO hVO hVl hKp hKO4 hVF hb4 B3
 go_wp2_with fail
 refine (settle_any (w.heap.size+1) w1.heap.size ks _ _ V aoV capV w4 HKS.out hkl L4.out.ps L4.out.vw (HO4.out.1.good HO4.out.2.1) hVl2 L4.out.ob).mono ?_
 rintro r w5 ⟨rfl,⟨MC,MJ,hV5,hMCl,hMJl,hMC,hMJ⟩,hC5⟩
 have V5:Hid (w5.ownsRow (w.heap.size+1) 254 10 (.slice aoV V.length capV) V.length (viewCells (setTo V.length (setF MC MJ) V))):=hV5
 have HM5:Hid ((MC.length=V.length/\∀ i,MC[i]?=some true↔mayV ks (plainV V) true i)/\(MJ.length=V.length/\∀ i,MJ[i]?=some true↔mayV ks (plainV V) false i)):=⟨⟨hMCl,hMC⟩,hMJl,hMJ⟩
 have kp5:∀ t:TypeId,t ≠ 254->Kp t w4 w5:=fun t ht k cs m hh=>by
  rw [hC5.block k (heap_lt hh) (fun e=>by obtain ⟨cs',hk⟩:=row_type L4.out.vw k e;rw [hk] at hh;cases hh;exact ht rfl)];exact hh
 have O5:Hid (w5.heap[w1.heap.size]?=some (.cells #[.slice aoP ks.length capP,.slice aoH H.length capH,.slice aoV V.length capV] 95 (0,0))):=kp5 _ (by decide) _ _ _ L4.out.ob
 have P5:Hid (w5.ownsRow 0 169 1 (.slice aoP ks.length capP) ks.length (kCells ks)):=row_kp L4.out.ps (kp5 _ (by decide))
 have H5:Hid (w5.ownsRow (w.heap.size+1) 246 9 (.slice aoH H.length capH) H.length (headCells H)):=row_kp L4.out.hd (kp5 _ (by decide))
 have B5:Hid (Below (w.heap.size+1) W1 w5):=B4.out.trans (hC5.below (by omega) fun k hk e=>by have:=(L4.out.vw.lt k e).1;omega)
 have R5:Hid (w5.heap[w.heap.size]?=some (.cells #[.slice none 0 0,.slice none 0 0,.slice none 0 0] 95 (0,0))):=(B5.out.block _ (by omega)).trans R2.out
 have BB:Hid (Below w.heap.size w w5):=B2.out.trans (B5.out.mono (by omega))
 have c0:=cell_of_block O5.out 0 _ rfl
 have c1:=cell_of_block O5.out 1 _ rfl
 have c2:=cell_of_block O5.out 2 _ rfl
 have r0:=cell_of_block R5.out 0 _ rfl
 have r1:=cell_of_block R5.out 1 _ rfl
 have r2:=cell_of_block R5.out 2 _ rfl
 have rf:=free_of_block R5.out
 clear hV5 hMC hMJ hC5 kp5
 go_wp2_with fail
 refine bodyPost_ret (results_cell_row rfl _ _ w.heap.size 95 #[.slice aoP ks.length capP,.slice aoH H.length capH,.slice aoV V.length capV] (0,0) _ rfl (set3 R5.out) Tryz.underlying95 rfl (by kernel_rfl)) rfl ?_
 have kr:∀ (t:TypeId) (u v x:Value),t ≠ 95->Kp t w5 (((w5.setCell ⟨w.heap.size,0,none⟩ u).setCell ⟨w.heap.size,1,none⟩ v).setCell ⟨w.heap.size,2,none⟩ x):=fun t u v x ht k cs m hh=>by
  have hne:k ≠ w.heap.size:=fun e=>by subst e;rw [R5.out] at hh;cases hh;exact ht rfl
  rw [setCell_type hne,setCell_type hne,setCell_type hne];exact hh
 refine ⟨_,_,rfl,⟨_,_,_,rfl⟩,⟨_,_,_,rfl⟩,⟨J,X,K4,H,V,MC,MJ,⟨JO.out,A2.out.ok,HO3.out.1.more (List.prefix_refl _) HO4.out.2.2.1,HO3.out.2.1,HO3.out.2.2.2.2,HO3.out.2.2.2.1,HO4.out.2.2.2,HO4.out.1,HO4.out.2.1,HM5.out.1,HM5.out.2,⟨hHl2,hVl2⟩⟩,row_kp P5.out (kr _ _ _ _ (by decide)),row_base (row_kp H5.out (kr _ _ _ _ (by decide))) (Nat.zero_le _),row_base (row_kp V5.out (kr _ _ _ _ (by decide))) (Nat.zero_le _)⟩,((BB.out.setCell (Nat.le_refl _) _).setCell (Nat.le_refl _) _).setCell (Nat.le_refl _) _⟩
def sizeP (x y:Int):Int:=wrap64 (wrap64 (wrap32 (y - x))+1)
set_option maxRecDepth 100000 in
set_option maxHeartbeats 1000000 in
theorem ssize_any (w:World) (x y:Int):Calls Tryz.prog 88 #[.agg #[.int .i32 x,.int .i32 y]] w fun r w'=>r=.returned (.int .i64 (sizeP x y))/\Below w.heap.size w w':=by
 go_enter Tryz.func88,Tryz.ntmps88
 go_wp2_with fail
 go_ret
 exact ⟨rfl,below_alloc w _⟩
theorem bits_or_all:((List.range 256).all fun t=>(List.range 8).all fun k=>(bits BinOp.or IntKind.u8 (t:Nat) ((2 ^ k:Nat):Int) == ((t ||| 2 ^ k:Nat):Int)) && decide (t ||| 2 ^ k<256))=true:=by kernel_rfl
theorem bits_or (t k:Nat) (ht:t<256) (hk:k<8):bits BinOp.or IntKind.u8 (t:Nat) ((2 ^ k:Nat):Int)=((t ||| 2 ^ k:Nat):Int)/\t ||| 2 ^ k<256:=by
 have h:=List.all_eq_true.1 (List.all_eq_true.1 bits_or_all t (List.mem_range.2 ht)) k (List.mem_range.2 hk)
 rw [Bool.and_eq_true] at h
 exact ⟨by simpa using h.1,of_decide_eq_true h.2⟩
def maskN (L:List (Int × Int × Nat)) (m:Nat):Nat:=L.foldl (fun m o=>m ||| 2 ^ o.2.2) m
def leftN (L:List (Int × Int × Nat)) (z:Int):Int:=L.foldl (fun z o=>wrap64 (z - sizeP o.1 o.2.1)) z
theorem maskN_snoc (L:List (Int × Int × Nat)) (o:Int × Int × Nat) (m:Nat):maskN (L++[o]) m=maskN L m ||| 2 ^ o.2.2:=by unfold maskN;simp
theorem leftN_snoc (L:List (Int × Int × Nat)) (o:Int × Int × Nat) (z:Int):leftN (L++[o]) z=wrap64 (leftN L z - sizeP o.1 o.2.1):=by unfold leftN;simp
def possMask (L:List (Int × Int × Nat)):Nat:=if 0<leftN L 1112064 then maskN L 128 ||| 2 ^ 6 else maskN L 128
def possOf (L:List (Int × Int × Nat)):List Nat:=(List.range 8).filter fun k=>(possMask L).testBit k
theorem possOf_lt (L:List (Int × Int × Nat)):∀ k ∈ possOf L,k<8:=fun k hk=>by unfold possOf at hk;rw [List.mem_filter,List.mem_range] at hk;exact hk.1
theorem possOf_len (L:List (Int × Int × Nat)):(possOf L).length<=8:=by unfold possOf;exact Nat.le_trans (List.length_filter_le _ _) (by simp)
theorem range_filter (m j:Nat):(List.range (j+1)).filter (fun k=>m.testBit k)=(List.range j).filter (fun k=>m.testBit k)++if m.testBit j=true then [j] else []:=by
 rw [List.range_succ,List.filter_append]
 congr 1
 cases h:m.testBit j <;> simp [h]
set_option maxRecDepth 100000 in
set_option maxHeartbeats 4000000 in
theorem possible_any (w:World) (p base:Nat) (vE:Value) (L:List (Int × Int × Nat)) (hE:ErrsOk w) (hT:TRe base w vE L) (hk:∀ o ∈ L,o.2.2<8) (hl:L.length<=100000) (hc:w.cell? ⟨p,0,none⟩=some vE) :
  Calls Tryz.prog 45 #[.pointer (some ⟨p,0,none⟩)] w fun r w'=>∃ v,r=.returned v/\w'.ownsRow w.heap.size 169 1 v (possOf L).length (kCells (possOf L))/\Below w.heap.size w w':=by
 obtain ⟨ao,cap,rfl,hf⟩:=entRow_form hT
 have HF:Hid (∀ i (hi:i<L.length),∃ g,ao=some ⟨g,0,none⟩/\g<w.heap.size/\w.cell? ⟨g,i * 3,none⟩=some (.int .i32 L[i].1)/\w.cell? ⟨g,i * 3+1,none⟩=some (.int .i32 L[i].2.1)/\w.cell? ⟨g,i * 3+2,none⟩=some (.int .u8 L[i].2.2)):=hf
 have HK:Hid (∀ o ∈ L,o.2.2<8):=hk
 have hpl:=cellLt hc
 have g0:=hE.2.2.1
 have g1:=hE.2.2.2
 have hgl:=cellLt g0
 have hss:Hid (wrap64 (1114112 - sizeP 55296 57343)=1112064):=by show _=_;kernel_rfl
 obtain ⟨W0,hW0⟩:∃ W0,W0=w.alloc (.cells #[.int .u8 7] 169):=⟨_,rfl⟩
 have HW0:Hid (W0=w.alloc (.cells #[.int .u8 7] 169)):=hW0
 have b0:Below w.heap.size w W0:=by rw [hW0];exact below_alloc w _
 have B0:Hid (Below w.heap.size w W0):=b0
 have n0:W0.cell? ⟨w.heap.size,0,none⟩=some (.int .u8 (7:Nat)):=by rw [hW0];exact cell_of_block (heap_alloc_new w _) 0 _ rfl
 have e0:=(b0.cell (p:=⟨0,0,none⟩) hgl).trans g0
 have e1:=(b0.cell (p:=⟨0,1,none⟩) hgl).trans g1
 clear hE hT hf hk hW0 b0 g0 g1
 go_enter Tryz.func45,Tryz.ntmps45
 go_wp2_with fail
 rw [<- HW0.out]
 refine (only_any w.heap.size 7 W0 (by omega) n0).mono ?_
 rintro r w1 ⟨rfl,rfl⟩
 go_wp2_with fail
 refine (ssize_any _ 55296 57343).mono ?_
 obtain ⟨zs,hzs⟩:∃ zs,zs=sizeP 55296 57343:=⟨_,rfl⟩
 rw [<- hzs]
 have HZS:Hid (zs=sizeP 55296 57343):=hzs
 rintro r w1 ⟨rfl,hb1⟩
 have B1:Hid (Below w.heap.size w w1):=B0.out.trans (hb1.mono B0.out.size)
 have c1:=(B1.out.cell (p:=⟨p,0,none⟩) hpl).trans hc
 clear hb1 e0 e1 n0 hzs
 go_wp2_with fail
 go_loopg [3,4,19] L.length (fun gh mv zv iv wx=>∃ (i m:Nat) (z:Int),i<=L.length/\gh=L.length - i/\mv=.int .u8 m/\zv=.int .i64 z/\iv=.int .i64 i/\m<256/\Hid (m=maskN (L.take i) 128)/\Hid (z=leftN (L.take i) 1112064)/\Hid (Below w.heap.size w wx))
 case atStart=>exact ⟨0,128,wrap64 (1114112 - zs),Nat.zero_le _,rfl,rfl,rfl,rfl,by omega,(rfl:(128:Nat)=128),(by show _=_;rw [HZS.out];exact hss.out),B1⟩
 case round =>
  obtain ⟨i,m,z,hi,rfl,rfl,rfl,rfl,hm,hM,hZ,hB⟩:=hrel
  obtain ⟨w2,hw2⟩:∃ w2,w2=wr:=⟨wr,rfl⟩
  subst hw2
  clear B1 c1
  have hs2:=hB.out.size
  by_cases hlt:i<L.length
  ·obtain ⟨g,rfl,hg,a0,a1,a2⟩:=HF.out i hlt
   have hk8:=HK.out L[i] (List.getElem_mem hlt)
   have HT:Hid (L.take (i+1)=L.take i++[L[i]]):=by show _=_;rw [List.take_add_one,List.getElem?_eq_getElem hlt];rfl
   generalize L[i]=en at a0 a1 a2 hk8 HT
   obtain ⟨ex,ey,ek⟩:=en
   simp only at a0 a1 a2 hk8
   have d0:=(hB.out.cell (p:=⟨g,i * 3,none⟩) hg).trans a0
   have d1:=(hB.out.cell (p:=⟨g,i * 3+1,none⟩) hg).trans a1
   have d2:=(hB.out.cell (p:=⟨g,i * 3+2,none⟩) hg).trans a2
   have hor:=bits_or m ek hm hk8
   obtain ⟨W2,hW2⟩:∃ W2,W2=w2.alloc (.cells #[.int .i32 ex,.int .i32 ey,.int .u8 (ek:Nat)] 173):=⟨_,rfl⟩
   have HW2:Hid (W2=w2.alloc (.cells #[.int .i32 ex,.int .i32 ey,.int .u8 (ek:Nat)] 173)):=hW2
   have b2:Below w2.heap.size w2 W2:=by rw [hW2];exact below_alloc w2 _
   have hz2:W2.heap.size=w2.heap.size+1:=by rw [hW2];simp
   have Q2:Hid (W2.heap[w2.heap.size]?=some (.cells #[.int .i32 ex,.int .i32 ey,.int .u8 (ek:Nat)] 173 (0,0))):=by rw [hW2];exact heap_alloc_new w2 _
   have B2:Hid (Below w.heap.size w W2):=hB.out.trans (b2.mono hs2)
   have n2:(W2.alloc (.cells #[.int .u8 (ek:Nat)] 169)).cell? ⟨w2.heap.size+1,0,none⟩=some (.int .u8 (ek:Nat)):=by rw [<- hz2];exact cell_of_block (heap_alloc_new W2 _) 0 _ rfl
   have q0:=((below_alloc W2 (.cells #[.int .u8 (ek:Nat)] 169)).cell (p:=⟨w2.heap.size,0,none⟩) (by show w2.heap.size<_;omega)).trans (cell_of_block Q2.out 0 _ rfl)
   have q1:=((below_alloc W2 (.cells #[.int .u8 (ek:Nat)] 169)).cell (p:=⟨w2.heap.size,1,none⟩) (by show w2.heap.size<_;omega)).trans (cell_of_block Q2.out 1 _ rfl)
   rw [HW2.out] at n2 q0 q1
   clear hW2 b2 a0 a1 a2
   go_wp2_with fail
   refine (only_any (w2.heap.size+1) ek _ (by omega) n2).mono ?_
   rintro r w3 ⟨rfl,rfl⟩
   have HOR:Hid (bits BinOp.or IntKind.u8 (m:Nat) ((2 ^ ek:Nat):Int)=((m ||| 2 ^ ek:Nat):Int)):=hor.1
   have hm2:=hor.2
   clear hor
   go_wp2_with fail
   refine (ssize_any _ ex ey).mono ?_
   obtain ⟨ze,hze⟩:∃ ze,ze=sizeP ex ey:=⟨_,rfl⟩
   rw [<- hze]
   have HZE:Hid (ze=sizeP ex ey):=hze
   rintro r w3 ⟨rfl,hb3⟩
   have B3:Hid (Below w.heap.size w w3):=by
    rw [<- HW2.out] at hb3
    exact (B2.out.alloc (by omega) _).trans (hb3.mono (by simp;omega))
   clear hb3 hze
   go_wp2_with fail
   go_roundg (L.length - (i+1))
   case measure=>omega
   case rel=>exact ⟨i+1,m ||| 2 ^ ek,wrap64 (z - ze),by omega,rfl,congrArg (Value.int IntKind.u8) (by simpa using HOR.out),rfl,by go_num,hm2,(by show _=_;rw [HT.out,maskN_snoc,<- hM.out]),(by show _=_;rw [HT.out,leftN_snoc,<- hZ.out,HZE.out]),B3⟩
  ·have hii:L.take i=L:=List.take_of_length_le (by omega)
   have HM2:Hid (m=maskN L 128):=by have:=hM.out;rw [hii] at this;exact this
   have HZ2:Hid (z=leftN L 1112064):=by have:=hZ.out;rw [hii] at this;exact this
   clear hii
   go_upto_if 36 with fail
   go_cut [3] (fun mv wx=>∃ m':Nat,mv=.int .u8 m'/\m'<256/\Hid (m'=possMask L)/\Hid (Below w.heap.size w wx))
   case first =>
    by_cases hz:0<z
    ·have HP:Hid (m ||| 2 ^ 6=possMask L):=by show _=_;unfold possMask;rw [<- HM2.out,<- HZ2.out,if_pos hz]
     have hor:=bits_or m 6 hm (by omega)
     have hm1:bits BinOp.or IntKind.u8 (m:Nat) 64=((m ||| 2 ^ 6:Nat):Int):=hor.1
     have n2:(w2.alloc (.cells #[.int .u8 6] 169)).cell? ⟨w2.heap.size,0,none⟩=some (.int .u8 ((6:Nat):Int)):=cell_of_block (heap_alloc_new w2 _) 0 _ rfl
     go_wp2_with fail
     refine (only_any w2.heap.size 6 _ (by omega) n2).mono ?_
     rintro r w3 ⟨rfl,rfl⟩
     go_wp2_with fail
     go_meet
     exact ⟨m ||| 2 ^ 6,by rw [<- hm1],hor.2,HP,hB.out.alloc hs2 _⟩
    ·have HP:Hid (m=possMask L):=by show _=_;unfold possMask;rw [<- HM2.out,<- HZ2.out,if_neg hz]
     go_wp2_with fail
     go_meet
     exact ⟨m,rfl,hm,HP,hB⟩
   case rest =>
    obtain ⟨m',rfl,hm',hP',hB'⟩:=hcut
    obtain ⟨w3,hw3⟩:∃ w3,w3=wc:=⟨wc,rfl⟩
    subst hw3
    clear hm hM hZ HM2 HZ2 hB
    go_wp2_with fail
    go_loopg [7,41] 8 (fun gh lv kv wx=>∃ (j:Nat) (ao:Option Addr) (cap:Nat),j<=8/\gh+j=8/\kv=.int .u8 j/\lv=.slice ao ((List.range j).filter fun k=>m'.testBit k).length cap/\Hid (wx.ownsRow w.heap.size 169 1 (.slice ao ((List.range j).filter fun k=>m'.testBit k).length cap) ((List.range j).filter fun k=>m'.testBit k).length (kCells ((List.range j).filter fun k=>m'.testBit k)))/\Hid (Below w.heap.size w wx))
    case atStart=>exact ⟨0,none,0,Nat.zero_le _,rfl,rfl,rfl,World.ownsRow_nil _ _ _ _,hB'⟩
    case round =>
     obtain ⟨j,aoR,capR,hj,hgj,rfl,rfl,hR,hB4⟩:=hrel
     obtain ⟨w4,hw4⟩:∃ w4,w4=wr:=⟨wr,rfl⟩
     subst hw4
     have hs4:=hB4.out.size
     have HRF:=range_filter m' j
     have hfl:((List.range j).filter fun k=>m'.testBit k).length<=8:=Nat.le_trans (List.length_filter_le _ _) (by simp;omega)
     have HRF':Hid ((List.range (j+1)).filter (fun k=>m'.testBit k)=(List.range j).filter (fun k=>m'.testBit k)++if m'.testBit j=true then [j] else []):=HRF
     clear HRF
     by_cases hj8:j<8
     ·have hj8':(j:Int)<8:=by omega
      generalize hF:(List.range j).filter (fun k=>m'.testBit k)=F at *
      go_wp2_with fail
      refine (hasK_any w4 m' j hm' hj8).mono ?_
      rintro r w5 ⟨rfl,hb5⟩
      have B5:Hid (Below w.heap.size w w5):=hB4.out.trans (hb5.mono hs4)
      have R5:Hid (w5.ownsRow w.heap.size 169 1 (.slice aoR F.length capR) F.length (kCells F)):=row_kp hR.out (Kp.below hb5)
      have hs5:=B5.out.size
      clear hb5
      obtain ⟨tb,htb⟩:∃ tb,tb=m'.testBit j:=⟨_,rfl⟩
      rw [<- htb] at HRF'
      rw [<- htb]
      clear htb
      cases tb
      ·have HR2:Hid ((List.range (j+1)).filter (fun k=>m'.testBit k)=F):=by show _=_;have:=HRF'.out;simpa using this
       go_wp2_with fail
       go_roundg (8 - (j+1))
       case measure=>omega
       case rel=>exact ⟨j+1,aoR,capR,by omega,by omega,by go_num,by rw [HR2.out],by rw [HR2.out];exact R5,B5⟩
      ·have HR2:Hid ((List.range (j+1)).filter (fun k=>m'.testBit k)=F++[j]):=by show _=_;have:=HRF'.out;simpa using this
       have R6:Hid ((w5.alloc (.cells #[.int .u8 (j:Nat)] 169)).ownsRow w.heap.size 169 1 (.slice aoR F.length capR) F.length (kCells F)):=row_kp R5.out (Kp.below (below_alloc w5 _))
       have LA:w.heap.size<=(w5.alloc (.cells #[.int .u8 (j:Nat)] 169)).heap.size:=by simp;omega
       go_wp2_with (at_builtin;refine wpList_push2 rfl (.tmp 47) (.tmp 49) 91 rfl w.heap.size 169 (.int .u8 0) 1 1 Tryz.infoKd Tryz.undKd rfl (by decide) (.slice aoR F.length capR) F.length (kCells F) rfl R6.out w5.heap.size 1 [.int .u8 (j:Nat)] rfl rfl (fun i u hu=>cell_of_block (heap_alloc_new w5 _) i u (by simpa using hu)) (one_u8 j) (by omega) (by omega) LA ?_;intro v' W6 hown hgr hsn;obtain ⟨ao6,cap6,rfl⟩:=row_shape hown;have R7:Hid (W6.ownsRow w.heap.size 169 1 (.slice ao6 (F.length+1) cap6) (F.length+1) (kCells F++[.int .u8 (j:Nat)])):=hown;have B6:Hid (Below w.heap.size w W6):=(B5.out.alloc hs5 _).grown hgr LA (fun k hk=>(R6.out.lt k hk).1);clear hown hgr hsn)
       go_roundg (8 - (j+1))
       case measure=>omega
       case rel=>exact ⟨j+1,ao6,cap6,by omega,by omega,by go_num,by rw [HR2.out,List.length_append];rfl,by rw [HR2.out,List.length_append,kCells_snoc];exact R7,B6⟩
     ·have ej:j=8:=by omega
      subst ej
      have HPO:Hid ((List.range 8).filter (fun k=>m'.testBit k)=possOf L):=by show _=_;unfold possOf;rw [hP'.out]
      go_wp2_with fail
      go_ret
      exact ⟨_,rfl,by rw [<- HPO.out];exact hR.out,hB4.out⟩
end Go.Proofs.YtodagkkjfipbgaaGreatDoor
namespace Go.Proofs.YtodagkkjfipbgaaGreatDoor
open Go.RowKit
def cnum (S:List St):Nat:=(S.map fun s=>if s.1=0 then 0 else s.2.length).sum
theorem cnum_app (S R:List St):cnum (S++R)=cnum S+cnum R:=by unfold cnum;simp
theorem stAdds_chars (fw:Bool) (i:Nat) (s:St):((stAdds fw i s).filter fun a=>a.2.1 != 0).length=if s.1=0 then 0 else s.2.length:=by
 unfold stAdds
 by_cases h:s.1=0
 ·rw [if_pos h,List.length_eq_zero_iff,List.filter_eq_nil_iff]
  intro a ha
  obtain ⟨u,_,rfl⟩:=List.mem_map.1 ha
  cases fw <;> simp [h]
 ·rw [if_neg h,List.filter_eq_self.2,List.length_map]
  intro a ha
  obtain ⟨u,_,rfl⟩:=List.mem_map.1 ha
  cases fw <;> simpa using h
theorem chars_len (fw:Bool) (S:List St):(chars fw S).length=cnum S:=by
 unfold chars
 have key:∀ (S:List St) (i:Nat),((allAdds fw S i).filter fun a=>a.2.1 != 0).length=cnum S:=by
  intro S
  induction S with
  | nil=>intro i;rfl
  | cons s S ih =>
   intro i
   rw [allAdds,List.filter_append,List.length_append,ih,stAdds_chars]
   simp [cnum]
 exact key S 0
def atn:Nat->Px->Nat
 | 0,_=>0
 | d+1,x=>if x.what=0 then 1 else (x.l.map (atn d)).sum
def kok:Nat->Px->Prop
 | 0,_=>True
 | d+1,x=>(x.what=0->x.k<256)/\∀ y ∈ x.l,kok d y
structure Mk (n:Nat) (S R:List St) (f:Nat):Prop where
 len:S.length<=R.length
 old:∀ i,i<S.length->(R[i]?).map Prod.fst=(S[i]?).map Prod.fst
 num:cnum R<=cnum S+n
 kind:(∀ s ∈ S,s.1<256)->∀ s ∈ R,s.1<256
 to_:(∀ s ∈ S,∀ t ∈ s.2,t<S.length)->∀ s ∈ R,∀ t ∈ s.2,t<R.length
 first:f<R.length
theorem leadS_mem {S:List St} {f t:Nat} {s:St} (h:s ∈ leadS S f t):s ∈ S\/∃ s0 ∈ S,s=(s0.1,s0.2++[t]):=by
 unfold leadS at h
 obtain ⟨i,hi⟩:=List.mem_iff_getElem?.1 h
 rw [List.getElem?_modify] at hi
 cases hS:S[i]? with
 | none=>rw [hS] at hi;simp at hi
 | some x =>
  rw [hS] at hi
  have hi':(if f=i then (x.1,x.2++[t]) else x)=s:=by simpa using hi
  split at hi'
  ·exact Or.inr ⟨x,List.mem_of_getElem? hS,hi'.symm⟩
  ·exact Or.inl (hi' ▸ List.mem_of_getElem? hS)
theorem leadS_fst (S:List St) (f t i:Nat):((leadS S f t)[i]?).map Prod.fst=(S[i]?).map Prod.fst:=by
 unfold leadS
 rw [List.getElem?_modify]
 cases S[i]? with
 | none=>rfl
 | some x =>
  show some (if f=i then (x.1,x.2++[t]) else x).1=some x.1
  split <;> rfl
theorem leadS_cnum:∀ (S:List St) (f t:Nat),(S[f]?).map Prod.fst=some 0->cnum (leadS S f t)=cnum S:=by
 intro S
 induction S with
 | nil=>intro f t h;simp at h
 | cons a S ih =>
  intro f t h
  cases f with
  | zero=>simp at h;simp [leadS,cnum,h]
  | succ f =>
   have:=ih f t (by simpa using h)
   unfold leadS cnum at *
   simp at *
   omega
theorem Mk.lead {n:Nat} {S R:List St} {f g t:Nat} (h:Mk n S R f) (hg:(R[g]?).map Prod.fst=some 0) (ht:t<R.length) {f':Nat} (hf:f'<R.length):Mk n S (leadS R g t) f':=by
 refine ⟨by rw [leadS_len];exact h.len,fun i hi=>(leadS_fst R g t i).trans (h.old i hi),by rw [leadS_cnum R g t hg];exact h.num,fun hk s hs=>?_,fun hk s hs u hu=>?_,by rw [leadS_len];exact hf⟩
 ·rcases leadS_mem hs with h1 | ⟨s0,h1,rfl⟩
  ·exact h.kind hk s h1
  ·exact h.kind hk s0 h1
 ·rw [leadS_len]
  rcases leadS_mem hs with h1 | ⟨s0,h1,rfl⟩
  ·exact h.to_ hk s h1 u hu
  ·simp at hu
   rcases hu with hu | rfl
   ·exact h.to_ hk s0 h1 u hu
   ·exact ht
theorem Mk.trans {n m k:Nat} {S R Q:List St} {f g:Nat} (h:Mk n S R f) (h':Mk m R Q g) (hk:n+m<=k):Mk k S Q g :=
 ⟨Nat.le_trans h.len h'.len,fun i hi=>(h'.old i (Nat.lt_of_lt_of_le hi h.len)).trans (h.old i hi),by have:=h.num;have:=h'.num;omega,fun a=>h'.kind (h.kind a),fun a=>h'.to_ (h.to_ a),h'.first⟩
theorem Mk.weak {n k:Nat} {S R:List St} {f:Nat} (h:Mk n S R f) (hk:n<=k):Mk k S R f:=⟨h.len,h.old,by have:=h.num;omega,h.kind,h.to_,h.first⟩
theorem mk_add (S:List St) (k:Nat) (l:List Nat) (hk:k<256) (hl:∀ t ∈ l,t<=S.length) (n:Nat) (hn:(if k=0 then 0 else l.length)<=n):Mk n S (S++[(k,l)]) S.length:=by
 refine ⟨by simp,fun i hi=>by rw [List.getElem?_append_left hi],by rw [cnum_app];simp [cnum];exact hn,fun h s hs=>?_,fun h s hs t ht=>?_,by simp⟩
 ·rw [List.mem_append] at hs
  rcases hs with hs | hs
  ·exact h s hs
  ·simp at hs;subst hs;exact hk
 ·rw [List.mem_append] at hs
  rw [List.length_append]
  rcases hs with hs | hs
  ·have:=h s hs t ht;omega
  ·simp at hs;subst hs;have:=hl t ht;simp;omega
theorem Mk.refl (S:List St) (b:Nat) (hb:b<S.length):Mk 0 S S b:=⟨Nat.le_refl _,fun _ _=>rfl,Nat.le_refl _,fun h=>h,fun h=>h,hb⟩
theorem mk_ok (d:Nat):∀ (x:Px) (S:List St) (b:Nat),kok d x->b<S.length->Mk (atn d x) S (mk d x S b).1 (mk d x S b).2:=by
 induction d with
 | zero=>intro x S b _ hb;exact Mk.refl S b hb
 | succ d ih =>
  intro x S b hk hb
  rw [mk,atn]
  split
  ·rename_i h0
   exact mk_add S x.k [b] (hk.1 h0) (fun t ht=>by simp at ht;omega) 1 (by split <;> simp)
  ·split
   ·have key:∀ (l:List Px),(∀ y ∈ l,kok d y)->Mk (l.map (atn d)).sum S (l.foldr (fun y r=>mk d y r.1 r.2) (S,b)).1 (l.foldr (fun y r=>mk d y r.1 r.2) (S,b)).2:=by
     intro l hl
     induction l with
     | nil=>exact Mk.refl S b hb
     | cons y l ihl =>
      rw [List.foldr_cons,List.map_cons,List.sum_cons]
      have h1:=ihl fun z hz=>hl z (List.mem_cons_of_mem _ hz)
      exact h1.trans (ih y _ _ (hl y List.mem_cons_self) h1.first) (by omega)
    exact key x.l hk.2
   ·split
    ·have key:∀ (l:List Px) (Z:List St),(∀ y ∈ l,kok d y)->S.length<Z.length->(Z[S.length]?).map Prod.fst=some 0->Mk (l.map (atn d)).sum Z (l.foldl (fun Z y=>leadS (mk d y Z b).1 S.length (mk d y Z b).2) Z) S.length:=by
      intro l
      induction l with
      | nil=>intro Z _ hz _;exact Mk.refl Z _ hz
      | cons y l ihl =>
       intro Z hl hz h0
       rw [List.foldl_cons,List.map_cons,List.sum_cons]
       have h1:=ih y Z b (hl y List.mem_cons_self) (by omega)
       have hz0:=(h1.old _ hz).trans h0
       have h2:=h1.lead hz0 h1.first (f':=S.length) (Nat.lt_of_lt_of_le hz h1.len)
       have h3:=ihl _ (fun z hz=>hl z (List.mem_cons_of_mem _ hz)) h2.first ((leadS_fst _ _ _ _).trans hz0)
       exact h2.trans h3 (by omega)
     have h0:=mk_add S 0 [] (by omega) (fun t ht=>by simp at ht) 0 (by simp)
     exact h0.trans (key x.l (S++[(0,[])]) hk.2 (by simp) (by simp)) (by omega)
    ·split
     ·rename_i y hy
      have h0:=mk_add S 0 [b] (by omega) (fun t ht=>by simp at ht;omega) 0 (by simp)
      have h1:=ih y (S++[(0,[b])]) S.length (hk.2 y (by rw [hy];exact List.mem_cons_self)) (by simp)
      have hz0:((mk d y (S++[(0,[b])]) S.length).1[S.length]?).map Prod.fst=some 0:=(h1.old _ (by simp)).trans (by simp)
      have hf:(if x.what=3 then S.length else (mk d y (S++[(0,[b])]) S.length).2)<(mk d y (S++[(0,[b])]) S.length).1.length:=by
       split
       ·have:=h1.len;simp at this;omega
       ·exact h1.first
      have h2:=h1.lead hz0 h1.first hf
      simp only [hy,List.map_cons,List.map_nil,List.sum_cons,List.sum_nil]
      exact h0.trans h2 (by omega)
     ·exact (Mk.refl S b hb).weak (Nat.zero_le _)
theorem make_sok (x:Px) (hk:kok 24 x) (hw:wtx 24 x<=8000) (ha:atn 24 x<=4):SOk (mk 24 x startS 0).1/\(∀ fw,(chars fw (mk 24 x startS 0).1).length<=4)/\(mk 24 x startS 0).2<(mk 24 x startS 0).1.length:=by
 have h:=mk_ok 24 x startS 0 hk (by decide)
 have h2:=mk_adds 24 x startS 0
 have e1:startS.length=1:=rfl
 have e2:tot startS=0:=rfl
 have e3:cnum startS=0:=rfl
 unfold Adds at h2
 refine ⟨⟨by omega,by omega,h.kind (by decide),h.to_ (by decide)⟩,fun fw=>?_,h.first⟩
 rw [chars_len]
 have:=h.num
 omega
end Go.Proofs.YtodagkkjfipbgaaGreatDoor
