import Derived.Laws.AppendOwnNone
import Derived.Test.YtodagkkjfipbgaaGreatDoorRows
import Derived.ProofKit
import Derived.LaidLaws
import Derived.Lay
import Derived.LaidOnce
import Derived.OpenShut
import Derived.ChangeSame
import Derived.Test.YtodagkkjfipbgaaGreatDoorT33toY3
namespace Go.Proofs.YtodagkkjfipbgaaGreatDoor
open Go.RowKit Go.Maps Go.Lib
theorem strCells_app (a b:List ByteArray):strCells (a++b)=strCells a++strCells b:=by unfold strCells;simp
theorem strCells_len (a:List ByteArray):(strCells a).length=a.length:=by unfold strCells;simp
theorem one_strs (l:List ByteArray):∀ u ∈ strCells l,u.oneCell'=true:=by
 intro u hu
 unfold strCells at hu
 obtain ⟨x,_,rfl⟩:=List.mem_map.1 hu
 rfl
theorem bytes_in (W:World) (x:ByteArray) (c:Nat) (m:Nat × Nat):∀ j u,(byCells x)[j]?=some u→(W.drew.alloc (.cells (bytesRow x c) 5 m)).cell? ((⟨W.heap.size,0,none⟩:Addr).add j)=some u:=fun j u hu=>by
 have hj:j<x.size:=by rw [← byCells_len];exact (List.getElem?_eq_some_iff.1 hu).1
 rw [show (⟨W.heap.size,0,none⟩:Addr).add j=⟨W.heap.size,0+j,none⟩ from by unfold Addr.add;split <;> simp_all,Nat.zero_add]
 refine cell_of_mark (alloc_mark W _) j u ?_
 rw [bytesRow_at x c j hj,← hu,byCells_at x j hj,get_data x j hj]
def KPost (w:World) (H:List Hd) (V:List Vw) (L:List (Int × Int × Nat)) (P:List ByteArray) (cl:Bool) (r:Ending) (w':World):Prop:=∃ v told C l s,r=.returned (.tuple #[v,.bool true])∧w'.ownsRow w.heap.size 9 1 v told.length (strCells told)∧told.length≤5000∧Below w.heap.size w w'∧Rests H V L (joinB P) C l s∧told=if cl then l++(endS H V s).told else l
set_option maxRecDepth 100000 in
set_option maxHeartbeats 8000000 in
theorem kflow_any (w:World) (gR:Nat) (H:List Hd) (V:List Vw) (L:List (Int × Int × Nat)) (ks:List Nat) (hE:FEnv w gR H V L ks) (P:List ByteArray) (vP:Value) (base:Nat) (hP:w.ownsRow base 9 1 vP P.length (strCells P)) (hsz:(joinB P).size≤5000) (hl:P.length≤1500000) (cl:Bool) :
  Calls Tryz.prog 37 #[.pointer (some ⟨gR,0,none⟩),vP,.bool cl] w fun r w'=>KPost w H V L P cl r w':=by
 have kc:=fun (W:World) (x:ByteArray)=>run_bytes_of_string (P:=Tryz.prog) W 9 63 5 x Tryz.underlying9 Tryz.underlying63 Tryz.underlying5
 obtain ⟨iS,hiS,hz0,hz1,hz2⟩:=info_parts Tryz.infoSg
 obtain ⟨aoP,capP,rfl⟩:=row_shape hP
 have ho:=open_any w gR 100000 H V L ks hE (by decide) (by decide)
 have HE:Hid (FEnv w gR H V L ks):=hE
 have HP:Hid (w.ownsRow base 9 1 (.slice aoP P.length capP) P.length (strCells P)):=hP
 clear hE hP
 go_enter Tryz.func37,Tryz.ntmps37
 go_wp2_with fail
 refine ho.mono ?_
 rintro r w1 ⟨p,f,rfl,hp,hS,b1⟩
 have K0:Hid (KF w w1 p f gR H V L ⟨#[]⟩ (.slice none 0 0) []):=KF.start L hS b1
 clear ho hp hS b1
 go_wp2_with fail
 go_loopg [10,11] P.length (fun gh ov iv wx=>∃ (i:Nat) (told:List ByteArray) (ao:Option Addr) (cap:Nat),i≤P.length∧gh=P.length - i∧ov=.slice ao told.length cap∧iv=.int .i64 i∧Hid (KF w wx p f gR H V L (joinB (P.take i)) (.slice ao told.length cap) told))
 case atStart=>exact ⟨0,[],none,0,Nat.zero_le _,rfl,rfl,rfl,K0⟩
 case round =>
  obtain ⟨i,told,ao,cap,hi,rfl,rfl,rfl,hK⟩:=hrel
  obtain ⟨w2,hw2⟩:∃ w2,w2=wr:=⟨wr,rfl⟩
  subst hw2
  clear K0
  have hjt:=joinB_take P i
  by_cases hlt:i<P.length
  ·obtain ⟨x,hx⟩:∃ x,P[i]?=some x:=⟨P[i],List.getElem?_eq_getElem hlt⟩
   have hd1:decide ((i:Int)<(P.length:Int))=true:=decide_eq_true (by omega)
   have HJ:Hid (joinB (P.take (i+1))=joinB (P.take i)++x):=by
    show _=_
    rw [List.take_add_one,hx]
    exact joinB_snoc _ _
   have hax:(joinB (P.take i)).size+x.size≤5000:=by
    have h1:=joinB_take P (i+1)
    rw [HJ.out,ByteArray.size_append] at h1
    exact Nat.le_trans h1 hsz
   obtain ⟨q,hq,_,hc⟩:=row_at (row_kp HP.out (Kp.below hK.out.bel)) (strCells_at hx) (by omega)
   subst hq
   obtain ⟨cb,hcb⟩:∃ cb,cb=grownCap w2 x.size 0 5:=⟨_,rfl⟩
   obtain ⟨m,hm⟩:∃ m,m=((bytesRow x cb).size,(bytesRow x cb).size+1):=⟨_,rfl⟩
   have hwr:=hK.out.write HE.out (x:=x) (by omega) (wy:=w2.drew.alloc (.cells (bytesRow x cb) 5 m)) (((Below.refl _ _).drew).alloc (Nat.le_refl _) _) (ad:=⟨w2.heap.size,0,none⟩) (cb:=cb) (bytes_in w2 x cb m)
   clear hx hK hjt
   generalize joinB (P.take i)=T at HJ hax hwr
   subst hm
   subst hcb
   go_wp2_with fail
   refine hwr.mono ?_
   rintro r w3 ⟨ao3,cap3,news,rfl,hrow3,hN⟩
   have N3:Hid (KFN w w3 p f gR H V L (T++x) (.slice ao told.length cap) told news):=hN
   have R3:Hid (∃ base,w3.ownsRow base 9 1 (.slice ao3 news.length cap3) news.length (strCells news)):=⟨_,hrow3⟩
   have hfw:=hN.few
   have hfz:(T++x).size=T.size+x.size:=ByteArray.size_append
   clear hwr hrow3 hN
   cases ao3 with
   | none =>
    have h0:news=[]∧cap3=0:=by
     obtain ⟨bs3,hr3⟩:=R3.out
     rcases hr3.2 with ⟨e1,e2⟩ | ⟨g,c,cur,e1,_⟩
     ·injection e1 with _ _ e3
      exact ⟨List.eq_nil_of_length_eq_zero e2,e3⟩
     ·simp at e1
    obtain ⟨rfl,rfl⟩:=h0
    have K3:Hid (KF w w3 p f gR H V L (T++x) (.slice ao told.length cap) told):=N3.out.none
    clear N3 R3
    go_wp2_with (at_builtin;go_loud (refine wpList_append_own_none rfl (.tmp 45) (.tmp 46) 30 rfl w.heap.size 9 iS 1 Tryz.undSg hiS (.slice ao told.length cap) told.length (strCells told) rfl K3.out.row rfl ?_))
    go_roundg (P.length - (i+1))
    case measure=>omega
    case rel=>exact ⟨i+1,told,ao,cap,by omega,rfl,rfl,by go_num,by rw [HJ.out];exact K3⟩
   | some a3 =>
    obtain ⟨bs3,hr3⟩:=R3.out
    have ha3:∃ g3,a3=⟨g3,0,none⟩:=by
     rcases hr3.2 with ⟨e1,_⟩ | ⟨g,c,cur,e1,_⟩
     ·simp at e1
     ·injection e1 with e1 _ _
      injection e1 with e1
      exact ⟨g,e1⟩
    obtain ⟨g3,rfl⟩:=ha3
    have NW:Hid (∀ j u,(strCells news)[j]?=some u→w3.cell? ((⟨g3,0,none⟩:Addr).add j)=some u):=hr3.cells (g:=g3) rfl
    have HL:Hid ((strCells news).length=news.length * 1):=by show _=_;rw [strCells_len,Nat.mul_one]
    have LA:w.heap.size≤w3.heap.size:=N3.out.bel.size
    have hm1:told.length+news.length≤maxLen:=by unfold maxLen;omega
    have hm2:(told.length+news.length) * 16≤140737488355328:=by omega
    clear hr3 R3
    go_wp2_with (at_builtin;go_loud (refine wpList_append_own_at _ rfl (.tmp 45) (.tmp 46) 30 rfl w.heap.size 9 iS (.string ⟨#[]⟩) 1 16 Tryz.undSg hiS hz0 hz1 hz2 rfl (by decide) (.slice ao told.length cap) told.length (strCells told) rfl N3.out.row ⟨g3,0,none⟩ news.length cap3 (strCells news) rfl HL.out NW.out (one_strs news) hm1 hm2 LA ?_);intro v' W4 hown hgr hnl hat;obtain ⟨ao4,cap4,rfl⟩:=row_shape hown;have E4:Hid (told.length+news.length=(told++news).length):=(List.length_append).symm;have K4:Hid (KF w W4 p f gR H V L (T++x) (.slice ao4 (told.length+news.length) cap4) (told++news)):=(N3.out.app HE.out hgr (by rw [strCells_app,← E4.out];exact hown) hat);clear hown hgr hnl hat)
    go_wp2_with fail
    go_roundg (P.length - (i+1))
    case measure=>omega
    case rel=>exact ⟨i+1,told++news,ao4,cap4,by omega,rfl,by rw [← E4.out],by go_num,by rw [HJ.out,← E4.out];exact K4⟩
  ·obtain rfl:i=P.length:=by omega
   have hd1:decide ((P.length:Int)<(P.length:Int))=false:=decide_eq_false (by omega)
   rw [List.take_length] at hK hjt
   cases cl with
   | false =>
    obtain ⟨S,s,C,_,_,hR,_⟩:=hK.out.ex
    have RR:Hid (Rests H V L (joinB P) C told s):=hR
    have hfw:=hR.few HE.out.kinds
    clear hR
    go_wp2_with fail
    go_ret2
    exact ⟨_,told,C,told,s,rfl,hK.out.row,by omega,hK.out.bel,RR.out,rfl⟩
   | true =>
    have hcl:=hK.out.close HE.out
    clear hK
    go_wp2_with fail
    refine hcl.mono ?_
    rintro r w3 ⟨ao3,cap3,news,C,s,rfl,hrow3,hrow0,hb3,hR,hnw,hfw⟩
    have R3:Hid (∃ base,w3.ownsRow base 9 1 (.slice ao3 news.length cap3) news.length (strCells news)):=⟨_,hrow3⟩
    have R0:Hid (w3.ownsRow w.heap.size 9 1 (.slice ao told.length cap) told.length (strCells told)):=hrow0
    have B3:Hid (Below w.heap.size w w3):=hb3
    have RR:Hid (Rests H V L (joinB P) C told s):=hR
    have NN:Hid (news=(endS H V s).told):=hnw
    clear hcl hrow3 hrow0 hb3 hR hnw
    cases ao3 with
    | none =>
     have h0:news=[]∧cap3=0:=by
      obtain ⟨bs3,hr3⟩:=R3.out
      rcases hr3.2 with ⟨e1,e2⟩ | ⟨g,c,cur,e1,_⟩
      ·injection e1 with _ _ e3
       exact ⟨List.eq_nil_of_length_eq_zero e2,e3⟩
      ·simp at e1
     obtain ⟨e0,rfl⟩:=h0
     have EE:Hid (told=told++(endS H V s).told):=by show _=_;rw [← NN.out,e0,List.append_nil]
     rw [show news.length=0 from by rw [e0];rfl]
     clear R3 e0 NN
     go_wp2_with (at_builtin;go_loud (refine wpList_append_own_none rfl (.tmp 56) (.tmp 57) 30 rfl w.heap.size 9 iS 1 Tryz.undSg hiS (.slice ao told.length cap) told.length (strCells told) rfl R0.out rfl ?_))
     go_ret2
     exact ⟨_,told,C,told,s,rfl,R0.out,by omega,B3.out,RR.out,EE.out⟩
    | some a3 =>
     obtain ⟨bs3,hr3⟩:=R3.out
     have ha3:∃ g3,a3=⟨g3,0,none⟩:=by
      rcases hr3.2 with ⟨e1,_⟩ | ⟨g,c,cur,e1,_⟩
      ·simp at e1
      ·injection e1 with e1 _ _
       injection e1 with e1
       exact ⟨g,e1⟩
     obtain ⟨g3,rfl⟩:=ha3
     have NW:Hid (∀ j u,(strCells news)[j]?=some u→w3.cell? ((⟨g3,0,none⟩:Addr).add j)=some u):=hr3.cells (g:=g3) rfl
     have HL:Hid ((strCells news).length=news.length * 1):=by show _=_;rw [strCells_len,Nat.mul_one]
     have LA:w.heap.size≤w3.heap.size:=B3.out.size
     have hm1:told.length+news.length≤maxLen:=by unfold maxLen;omega
     have hm2:(told.length+news.length) * 16≤140737488355328:=by omega
     have EE:Hid (told++news=told++(endS H V s).told):=by show _=_;rw [← NN.out]
     clear hr3 R3 NN
     go_wp2_with (at_builtin;go_loud (refine wpList_append_own_at _ rfl (.tmp 56) (.tmp 57) 30 rfl w.heap.size 9 iS (.string ⟨#[]⟩) 1 16 Tryz.undSg hiS hz0 hz1 hz2 rfl (by decide) (.slice ao told.length cap) told.length (strCells told) rfl R0.out ⟨g3,0,none⟩ news.length cap3 (strCells news) rfl HL.out NW.out (one_strs news) hm1 hm2 LA ?_);intro v' W4 hown hgr hnl hat;obtain ⟨ao4,cap4,rfl⟩:=row_shape hown;have E4:Hid (told.length+news.length=(told++news).length):=(List.length_append).symm;have R4:Hid (W4.ownsRow w.heap.size 9 1 (.slice ao4 (told.length+news.length) cap4) (told++news).length (strCells (told++news))):=(by rw [strCells_app,← E4.out];exact hown);have B4:Hid (Below w.heap.size w W4):=B3.out.grown hgr LA (fun k hk=>(R0.out.lt k hk).1);clear hown hgr hnl hat)
     go_wp2_with fail
     go_ret2
     exact ⟨_,told++news,C,told,s,rfl,R4.out,by rw [← E4.out];omega,B4.out,RR.out,EE.out⟩
def shStep (st:Nat × List ByteArray) (s:ByteArray):Nat × List ByteArray:=(st.1+s.size,if st.1+s.size≤5000 then st.2++[s] else st.2)
def shortSt (P:List ByteArray) (i:Nat):Nat × List ByteArray:=(P.take i).foldl shStep (0,[])
def shortP (P:List ByteArray):List ByteArray:=(shortSt P P.length).2
theorem shortSt_succ {P:List ByteArray} {i:Nat} {x:ByteArray} (h:P[i]?=some x):shortSt P (i+1)=shStep (shortSt P i) x:=by
 unfold shortSt
 rw [List.take_add_one,h,List.foldl_append]
 rfl
theorem short_inv (P:List ByteArray):∀ i,i≤P.length→(shortSt P i).1=(joinB (P.take i)).size∧(joinB (shortSt P i).2).size≤5000∧(joinB (shortSt P i).2).size≤(shortSt P i).1∧(shortSt P i).2.length≤i:=by
 intro i
 induction i with
 | zero=>intro _;exact ⟨rfl,Nat.zero_le _,Nat.le_refl _,Nat.le_refl _⟩
 | succ i ih =>
  intro hi
  obtain ⟨h1,h2,h3,h4⟩:=ih (by omega)
  obtain ⟨x,hx⟩:∃ x,P[i]?=some x:=⟨P[i],List.getElem?_eq_getElem (by omega)⟩
  have e:joinB (P.take (i+1))=joinB (P.take i)++x:=by
   rw [List.take_add_one,hx]
   exact joinB_snoc _ _
  rw [shortSt_succ hx,e]
  unfold shStep
  refine ⟨by show (shortSt P i).1+x.size=_;rw [ByteArray.size_append,h1],?_⟩
  show (joinB (if (shortSt P i).1+x.size≤5000 then (shortSt P i).2++[x] else (shortSt P i).2)).size≤5000∧(joinB (if (shortSt P i).1+x.size≤5000 then (shortSt P i).2++[x] else (shortSt P i).2)).size≤(shortSt P i).1+x.size∧(if (shortSt P i).1+x.size≤5000 then (shortSt P i).2++[x] else (shortSt P i).2).length≤i+1
  by_cases hc:(shortSt P i).1+x.size≤5000
  ·rw [if_pos hc,joinB_snoc,ByteArray.size_append,List.length_append]
   exact ⟨by omega,by omega,by simp;omega⟩
  ·rw [if_neg hc]
   exact ⟨h2,by omega,by omega⟩
theorem cell_ltA {w:World} {a:Addr} {v:Value} (h:w.cell? a=some v):a.block<w.heap.size:=by
 unfold World.cell? at h
 cases hh:w.heap[a.block]? with
 | none=>rw [hh] at h;simp at h
 | some x=>exact (Array.getElem?_eq_some_iff.1 hh).1
def ArgS (w:World) (v:Value) (P:List ByteArray):Prop:=(v=.slice none 0 0∧P=[])∨∃ a cap,v=.slice (some a) P.length cap∧∀ (i:Nat) (s:ByteArray),P[i]?=some s→w.cell? (a.add i)=some (.string s)
theorem ArgS.shape {w:World} {v:Value} {P:List ByteArray} (h:ArgS w v P):∃ ao cap,v=.slice ao P.length cap:=by
 rcases h with ⟨rfl,rfl⟩ | ⟨a,cap,rfl,_⟩
 ·exact ⟨none,0,rfl⟩
 ·exact ⟨_,cap,rfl⟩
theorem ArgS.at {w w':World} {ao:Option Addr} {n cap:Nat} {P:List ByteArray} (h:ArgS w (.slice ao n cap) P) (hb:Below w.heap.size w w') {i:Nat} {s:ByteArray} (hs:P[i]?=some s):∃ a,ao=some a∧w'.cell? (a.add i)=some (.string s):=by
 rcases h with ⟨_,rfl⟩ | ⟨a,c,e,hc⟩
 ·simp at hs
 ·injection e with e _ _
  subst e
  have h1:=hc i s hs
  exact ⟨a,rfl,(hb.cell (p:=a.add i) (cell_ltA h1)).trans h1⟩
set_option maxRecDepth 100000 in
set_option maxHeartbeats 4000000 in
theorem short_any (w:World) (v:Value) (P:List ByteArray) (hA:ArgS w v P) (hl:P.length≤1500000) (hsz:(joinB P).size≤1500000) :
  Calls Tryz.prog 36 #[v] w fun r w'=>(∃ v',r=.returned v'∧w'.ownsRow w.heap.size 9 1 v' (shortP P).length (strCells (shortP P)))∧Below w.heap.size w w':=by
 obtain ⟨aoP,capP,rfl⟩:=hA.shape
 have HA:Hid (ArgS w (.slice aoP P.length capP) P):=hA
 have HI:Hid (∀ i,i≤P.length→(shortSt P i).1=(joinB (P.take i)).size∧(joinB (shortSt P i).2).size≤5000∧(joinB (shortSt P i).2).size≤(shortSt P i).1∧(shortSt P i).2.length≤i):=short_inv P
 have HT:Hid (∀ i,(joinB (P.take i)).size≤(joinB P).size):=fun i=>joinB_take P i
 have HF:Hid (∀ i x,P[i]?=some x→shortSt P (i+1)=shStep (shortSt P i) x):=fun i x h=>shortSt_succ h
 have HE:Hid (shortP P=(shortSt P P.length).2):=rfl
 clear hA
 go_enter Tryz.func36,Tryz.ntmps36
 go_wp2_with fail
 go_loopg [3,4,5] P.length (fun gh ov nv iv wx=>∃ (i n:Nat) (told:List ByteArray) (ao:Option Addr) (cap:Nat),i≤P.length∧gh=P.length - i∧ov=.slice ao told.length cap∧nv=.int .i64 n∧iv=.int .i64 i∧Hid (shortSt P i=(n,told))∧Hid (wx.ownsRow w.heap.size 9 1 (.slice ao told.length cap) told.length (strCells told))∧Hid (Below w.heap.size w wx))
 case atStart=>exact ⟨0,0,[],none,0,Nat.zero_le _,rfl,rfl,rfl,rfl,rfl,World.ownsRow_nil _ _ _ _,Below.refl _ _⟩
 case round =>
  obtain ⟨i,n,told,ao,cap,hi,rfl,rfl,rfl,rfl,hSt,hW,hB⟩:=hrel
  obtain ⟨w1,hw1⟩:∃ w1,w1=wr:=⟨wr,rfl⟩
  subst hw1
  have hin:=HI.out i hi
  rw [hSt.out] at hin
  have htl:told.length≤i:=hin.2.2.2
  have hnb:n≤1500000:=by have h1:n=_:=hin.1;have h2:=HT.out i;omega
  clear hin
  by_cases hlt:i<P.length
  ·obtain ⟨x,hx⟩:∃ x,P[i]?=some x:=⟨P[i],List.getElem?_eq_getElem hlt⟩
   have hd1:decide ((i:Int)<(P.length:Int))=true:=decide_eq_true (by omega)
   have hst2:=HF.out i x hx
   rw [hSt.out] at hst2
   have hin2:=HI.out (i+1) (by omega)
   rw [hst2] at hin2
   have hnx:n+x.size≤1500000:=by have h1:n+x.size=_:=hin2.1;have h2:=HT.out (i+1);omega
   obtain ⟨a,rfl,hc⟩:=HA.out.at hB.out hx
   obtain ⟨nx,hnxe⟩:∃ nx:Nat,nx=n+x.size:=⟨_,rfl⟩
   have S2:Hid (shortSt P (i+1)=shStep (n,told) x):=hst2
   clear hx hst2 hin2
   by_cases hle:n+x.size≤5000
   ·have hd2:decide ((n:Int)+(x.size:Int)≤5000)=true:=decide_eq_true (by omega)
    have ST:Hid (shortSt P (i+1)=(n+x.size,told++[x])):=by show _=_;rw [S2.out];unfold shStep;rw [if_pos hle]
    have hc2:(w1.alloc (.cells #[.string x] 9)).cell? (a.add i)=some (.string x):=((below_alloc w1 _).cell (p:=a.add i) (cell_ltA hc)).trans hc
    have R1:Hid ((w1.alloc (.cells #[.string x] 9)).ownsRow w.heap.size 9 1 (.slice ao told.length cap) told.length (strCells told)):=row_kp hW.out (Kp.below (below_alloc w1 _))
    have NW:Hid (∀ (j:Nat) (u:Value),[Value.string x][j]?=some u→(w1.alloc (.cells #[.string x] 9)).cell? ⟨w1.heap.size,j,none⟩=some u):=fun j u hu=>cell_of_block (heap_alloc_new w1 _) j u (by simpa using hu)
    have BA:Hid (Below w.heap.size w (w1.alloc (.cells #[.string x] 9))):=hB.out.alloc hB.out.size _
    have LA:w.heap.size≤(w1.alloc (.cells #[.string x] 9)).heap.size:=BA.out.size
    clear S2 hnxe
    go_wp2_with (at_builtin;refine wpList_push2 rfl (.tmp 21) (.tmp 26) 30 rfl w.heap.size 9 (.string ⟨#[]⟩) 1 16 Tryz.infoSg Tryz.undSg rfl (by decide) (.slice ao told.length cap) told.length (strCells told) rfl R1.out w1.heap.size 1 [.string x] rfl rfl NW.out (one_str x) (by omega) (by omega) LA ?_;intro v' W3 hown hgr hsn;obtain ⟨ao',cap',rfl⟩:=row_shape hown;have HR:Hid (W3.ownsRow w.heap.size 9 1 (.slice ao' (told.length+1) cap') (told.length+1) (strCells told++[.string x])):=hown;have B3:Hid (Below w.heap.size w W3):=BA.out.grown hgr LA (fun k hk=>(R1.out.lt k hk).1);clear hown hgr hsn)
    go_roundg (P.length - (i+1))
    case measure=>omega
    case rel =>
     refine ⟨i+1,n+x.size,told++[x],ao',cap',by omega,rfl,by rw [List.length_append];rfl,by go_num,by go_num,ST,?_,B3⟩
     rw [List.length_append,strCells_snoc]
     exact HR
   ·have hd2:decide ((n:Int)+(x.size:Int)≤5000)=false:=decide_eq_false (by omega)
    have ST:Hid (shortSt P (i+1)=(n+x.size,told)):=by show _=_;rw [S2.out];unfold shStep;rw [if_neg hle]
    clear S2 hnxe
    go_wp2_with fail
    go_roundg (P.length - (i+1))
    case measure=>omega
    case rel=>exact ⟨i+1,n+x.size,told,ao,cap,by omega,rfl,rfl,by go_num,by go_num,ST,hW,hB⟩
  ·obtain rfl:i=P.length:=by omega
   have hd1:decide ((P.length:Int)<(P.length:Int))=false:=decide_eq_false (by omega)
   have E:Hid (shortP P=told):=by show _=_;rw [HE.out,hSt.out]
   go_wp2_with fail
   go_ret
   exact ⟨⟨_,rfl,by rw [E.out];exact hW.out⟩,hB.out⟩
theorem same_eq (ba bb:Nat) (va vb:Value) (l:List ByteArray) (w:World) (ha:w.ownsRow ba 9 1 va l.length (strCells l)) (hb:w.ownsRow bb 9 1 vb l.length (strCells l)) (hl:l.length≤1500000) :
  Calls Tryz.prog 28 #[va,vb] w fun r w'=>r=.returned (.bool true)∧Below w.heap.size w w':=by
 have h:=keepSame_any ba bb va vb l l w ha hb hl
 rw [show decide (l=l)=true from by simp] at h
 exact h
def bytesL (s:ByteArray):Nat→List ByteArray
 | 0=>[]
 | i+1=>bytesL s i++[s.extract i (i+1),⟨#[]⟩]
theorem bytesL_len (s:ByteArray):∀ i,(bytesL s i).length=2 * i:=by
 intro i
 induction i with
 | zero=>rfl
 | succ i ih=>rw [bytesL,List.length_append,ih];simp;omega
theorem bytesL_join (s:ByteArray):∀ i,i≤s.size→joinB (bytesL s i)=s.extract 0 i:=by
 intro i
 induction i with
 | zero=>intro _;apply ba_ext;rw [ByteArray.toList_eq,ByteArray.toList_eq];simp [bytesL,joinB]
 | succ i ih =>
  intro hi
  have e:bytesL s (i+1)=(bytesL s i++[s.extract i (i+1)])++[⟨#[]⟩]:=by rw [bytesL];simp
  rw [e,joinB_snoc,joinB_snoc,ih (by omega),app_nil]
  exact ext_app s i (i+1) (by omega)
theorem joinB_one (s:ByteArray):joinB [s]=s:=by
 apply ba_ext
 rw [ByteArray.toList_eq,ByteArray.toList_eq]
 simp [joinB]
theorem RulesAt.stream {T:ByteArray} {w:World} {g:Nat} (h:RulesAt T w (.pointer (some ⟨g,0,none⟩))) (h0:(rdT T).err=0) (hV:VarsOk w):∃ vE vJ vP vH vV L H V,RulesIn w g T vE vJ vP vH vV L∧FEnv w g H V L (possOf L)∧RulP (read2 T).2 L (possOf L) H V:=by
 obtain ⟨g',vE,vJ,vP,vH,vV,L,e,h⟩:=h
 cases e
 obtain ⟨H,V,h1,h2⟩:=rules_stream h h0 hV
 exact ⟨vE,vJ,vP,vH,vV,L,H,V,h,h1,h2⟩
set_option maxRecDepth 100000 in
set_option maxHeartbeats 16000000 in
theorem pieces_pr (T:ByteArray) (v:Value) (P:List ByteArray) (w:World) (hV:VarsOk w) (hA:ArgS w v P) (hT:T.size≤140737488351232) (hl:P.length≤1500000) (hsz:(joinB P).size≤1500000) :
  Calls Tryz.prog 9 #[.string T,v] w fun r w'=>r=.returned (.bool true)∧Below w.heap.size w w':=by
 obtain ⟨aoP,capP,rfl⟩:=hA.shape
 have HV:Hid (VarsOk w):=hV
 have HA:Hid (ArgS w (.slice aoP P.length capP) P):=hA
 have hg:=given_any T w hV hT
 obtain ⟨iS,hiS,hz0,hz1,hz2⟩:=info_parts Tryz.infoSg
 clear hV hA
 go_enter Tryz.func9,Tryz.ntmps9
 go_wp2_with fail
 refine hg.mono ?_
 rintro r w1 ⟨⟨v1,rfl,h1,h2⟩,b1⟩
 have B1:Hid (Below w.heap.size w w1):=b1
 by_cases e0:(rdT T).err=0
 ·have hR1:=h1 e0
  obtain ⟨g,rfl⟩:∃ g,v1=.pointer (some ⟨g,0,none⟩):=by
   obtain ⟨g,_,_,_,_,_,_,e,_⟩:=hR1
   exact ⟨g,e⟩
  obtain ⟨vE,vJ,vP,vH,vV,L,H,V,hI,hE,hU⟩:=hR1.stream e0 (HV.out.below b1)
  have V1:Hid (VarsOk w1):=HV.out.below b1
  have RI:Hid (RulesIn w1 g T vE vJ vP vH vV L):=hI
  have EE:Hid (FEnv w1 g H V L (possOf L)):=hE
  have UU:Hid (RulP (read2 T).2 L (possOf L) H V):=hU
  have hA1:ArgS w1 (.slice aoP P.length capP) P:=by
   rcases HA.out with h9 | ⟨a,cap,e9,h9⟩
   ·exact Or.inl h9
   ·exact Or.inr ⟨a,cap,e9,fun i s hs=>(B1.out.cell (p:=a.add i) (cell_ltA (h9 i s hs))).trans (h9 i s hs)⟩
  have hsh:=short_any w1 _ P hA1 hl hsz
  have hin:=short_inv P P.length (Nat.le_refl _)
  obtain ⟨Q,hQ⟩:∃ Q,Q=shortP P:=⟨_,rfl⟩
  have hq1:(joinB Q).size≤5000:=by rw [hQ];exact hin.2.1
  have hq2:Q.length≤1500000:=by rw [hQ];have h9:(shortP P).length≤_:=hin.2.2.2;omega
  rw [← hQ] at hsh
  clear hg h1 h2 b1 e0 hR1 hI hE hU hA1 hin hQ HA
  go_wp2_with fail
  refine hsh.mono ?_
  rintro r w2 ⟨⟨vS,rfl,hrow2⟩,b2⟩
  obtain ⟨aoS,capS,rfl⟩:=row_shape hrow2
  have R2:Hid (w2.ownsRow w1.heap.size 9 1 (.slice aoS Q.length capS) Q.length (strCells Q)):=hrow2
  have B2:Hid (Below w1.heap.size w1 w2):=b2
  have hj:=joined_any w1.heap.size (.slice aoS Q.length capS) Q w2 hrow2 hq2 (by omega)
  have HW:Hid (∀ (l:List ByteArray) C s,Rests H V L (joinB Q) C l s→∀ all,CutTold T (joinB Q) L all→l++(endS H V s).told=all):=fun l C s h9 all h8=>h9.whole UU.out h8
  have HO:Hid (∀ (l l2:List ByteArray) C C2 s s2,Rests H V L (joinB Q) C l s→Rests H V L (joinB Q) C2 l2 s2→l=l2):=fun l l2 C C2 s s2 h9 h8=>h9.one UU.out.row UU.out.kinds h8
  obtain ⟨s,hs⟩:∃ s,s=joinB Q:=⟨_,rfl⟩
  have HSJ:Hid (joinB Q=s):=hs.symm
  rw [← hs] at hq1 hj HW HO
  have hcut:=cut_any w2 g T s vE vJ vP vH vV L (by have:=RI.out;exact ⟨(b2.block _ (heap_lt this.blk)).trans this.blk,this.perm,this.row,row_kp this.tab (Kp.below b2),this.judge.kp (Kp.below b2) (Kp.below b2),this.out.below b2,this.ok,this.few,this.spans⟩) (V1.out.below b2).utf (V1.out.below b2).low (by omega)
  clear hsh hrow2 b2 hs
  go_wp2_with fail
  refine hj.mono ?_
  rintro r W ⟨rfl,rfl⟩
  clear hj
  go_wp2_with fail
  refine hcut.mono ?_
  rintro r w3 ⟨⟨vC,all,rfl,hct,hrow3⟩,b3⟩
  obtain ⟨aoC,capC,rfl⟩:=row_shape hrow3
  have hal:all.length≤5000:=Nat.le_trans (told_whole UU.out.kinds hct).2.2 hq1
  have CT:Hid (CutTold T s L all):=hct
  have R3:Hid (w3.ownsRow W.heap.size 9 1 (.slice aoC all.length capC) all.length (strCells all)):=hrow3
  have B3:Hid (Below w1.heap.size w1 w3):=B2.out.trans (b3.mono B2.out.size)
  have S3:Hid (w3.ownsRow w1.heap.size 9 1 (.slice aoS Q.length capS) Q.length (strCells Q)):=row_kp R2.out (Kp.below b3)
  have hf1:=kflow_any w3 g H V L (possOf L) (EE.out.below B3.out) Q _ _ S3.out (by rw [HSJ.out];exact hq1) hq2 true
  clear hcut hct hrow3 b3 R2
  go_wp2_with fail
  refine hf1.mono ?_
  rintro r w4 ⟨v9,told9,C9,l9,s9,rfl,hrow9,hl9,b9,hR9,e9⟩
  rw [HSJ.out] at hR9
  have e9':told9=all:=by rw [e9,if_pos rfl];exact HW.out _ _ _ hR9 _ CT.out
  subst e9'
  obtain ⟨ao9,cap9,rfl⟩:=row_shape hrow9
  have R9:Hid (w4.ownsRow w3.heap.size 9 1 (.slice ao9 told9.length cap9) told9.length (strCells told9)):=hrow9
  have B4:Hid (Below w1.heap.size w1 w4):=B3.out.trans (b9.mono B3.out.size)
  have C4:Hid (w4.ownsRow W.heap.size 9 1 (.slice aoC told9.length capC) told9.length (strCells told9)):=row_kp R3.out (Kp.below b9)
  clear hf1 hrow9 b9 hR9 e9 R3 S3 CT HW B3
  go_wp2_with fail
  go_loopg [11,12] (s.size+1) (fun gh bv iv wx=>∃ (i:Nat) (B:List ByteArray) (ao:Option Addr) (cap:Nat),i≤s.size∧gh=s.size+1 - i∧bv=.slice ao B.length cap∧iv=.int .i64 i∧Hid (B=bytesL s i)∧(i=0∨s.size<200)∧Hid (wx.ownsRow w4.heap.size 9 1 (.slice ao B.length cap) B.length (strCells B))∧Hid (Below w4.heap.size w4 wx))
  case atStart=>exact ⟨0,[],none,0,Nat.zero_le _,rfl,rfl,rfl,rfl,Or.inl rfl,World.ownsRow_nil _ _ _ _,Below.refl _ _⟩
  case round =>
   obtain ⟨i,B,ao,cap,hi,rfl,rfl,rfl,hBi,hor,hW,hB⟩:=hrel
   obtain ⟨w5,hw5⟩:∃ w5,w5=wr:=⟨wr,rfl⟩
   subst hw5
   have hBl:Hid (B.length=2 * i):=by show _=_;rw [hBi.out,bytesL_len]
   by_cases hgo:i<s.size∧s.size<200
   ·have hd1:decide ((i:Int)<(s.size:Int))=true:=decide_eq_true (by omega)
    have hd2:decide ((s.size:Int)<200)=true:=decide_eq_true (by omega)
    have hBb:B.length≤400:=by have:=hBl.out;omega
    obtain ⟨x,hx⟩:∃ x,x=s.extract i (i+1):=⟨_,rfl⟩
    have HX:Hid (x=s.extract i (i+1)):=hx
    have NB:Hid (B++[x,⟨#[]⟩]=bytesL s (i+1)):=by show _=_;rw [bytesL,← hx,hBi.out]
    have R1:Hid ((w5.alloc (.cells #[.string x,.string ⟨#[]⟩] 9)).ownsRow w4.heap.size 9 1 (.slice ao B.length cap) B.length (strCells B)):=row_kp hW.out (Kp.below (below_alloc w5 _))
    have NW:Hid (∀ (j:Nat) (u:Value),[Value.string x,.string ⟨#[]⟩][j]?=some u→(w5.alloc (.cells #[.string x,.string ⟨#[]⟩] 9)).cell? ((⟨w5.heap.size,0,none⟩:Addr).add j)=some u):=fun j u hu=>by
     rw [show (⟨w5.heap.size,0,none⟩:Addr).add j=⟨w5.heap.size,0+j,none⟩ from by unfold Addr.add;split <;> simp_all,Nat.zero_add]
     exact cell_of_block (heap_alloc_new w5 _) j u (by simpa using hu)
    have BA:Hid (Below w4.heap.size w4 (w5.alloc (.cells #[.string x,.string ⟨#[]⟩] 9))):=hB.out.alloc hB.out.size _
    have LA:w4.heap.size≤(w5.alloc (.cells #[.string x,.string ⟨#[]⟩] 9)).heap.size:=BA.out.size
    have O2:Hid (∀ u ∈ [Value.string x,.string ⟨#[]⟩],u.oneCell'=true):=fun u hu=>by
     simp at hu
     rcases hu with rfl | rfl <;> rfl
    clear hx hBi hW hB
    have hm1:B.length+2≤maxLen:=by unfold maxLen;omega
    go_wp2_with (at_builtin;rw [← HX.out];go_loud (refine wpList_append_own_at _ rfl (.tmp 55) (.tmp 61) 30 rfl w4.heap.size 9 iS (.string ⟨#[]⟩) 1 16 Tryz.undSg hiS hz0 hz1 hz2 rfl (by decide) (.slice ao B.length cap) B.length (strCells B) rfl R1.out ⟨w5.heap.size,0,none⟩ 2 2 [.string x,.string ⟨#[]⟩] rfl rfl NW.out O2.out hm1 (by omega) LA ?_);intro v' W3 hown hgr hnl hat;obtain ⟨ao',cap',rfl⟩:=row_shape hown;have HR:Hid (W3.ownsRow w4.heap.size 9 1 (.slice ao' (B.length+2) cap') (B.length+2) (strCells B++[.string x,.string ⟨#[]⟩])):=hown;have B3:Hid (Below w4.heap.size w4 W3):=BA.out.grown hgr LA (fun k hk=>(R1.out.lt k hk).1);clear hown hgr hnl hat)
    go_roundg (s.size+1 - (i+1))
    case measure=>omega
    case rel =>
     refine ⟨i+1,B++[x,⟨#[]⟩],ao',cap',by omega,rfl,by rw [List.length_append];rfl,by go_num,NB,Or.inr hgo.2,?_,B3⟩
     rw [List.length_append,strCells_app]
     exact HR
   ·have hex:Hid ((B=[]∧(s.size=0∨200≤s.size))∨(joinB B=s∧0<B.length)):=by
     show _∨_
     rcases Nat.lt_or_ge i s.size with h9 | h9
     ·rcases hor with h8 | h8
      ·left
       exact ⟨List.eq_nil_of_length_eq_zero (by have:=hBl.out;omega),by omega⟩
      ·omega
     ·have h7:i=s.size:=by omega
      rcases Nat.eq_zero_or_pos i with h8 | h8
      ·left
       exact ⟨List.eq_nil_of_length_eq_zero (by have:=hBl.out;omega),by omega⟩
      ·right
       refine ⟨?_,by have:=hBl.out;omega⟩
       rw [hBi.out,bytesL_join s i hi,h7,extract_all]
    have hBf:B.length≤400:=by
     rcases hex.out with ⟨h9,_⟩ | ⟨_,_⟩
     ·rw [h9];decide
     ·have:=hBl.out;omega
    have hcases:(i<s.size∧¬ s.size<200)∨¬ i<s.size:=by omega
    have HEX:=hex
    clear hor hBi hBl hgo hi hex
    rcases HEX.out with ⟨h9,_⟩ | ⟨h9,h8⟩
    ·subst h9
     have R1:Hid ((w5.alloc (.cells #[.string s] 9)).ownsRow w4.heap.size 9 1 (.slice ao 0 cap) 0 []):=row_kp hW.out (Kp.below (below_alloc w5 _))
     have NW:Hid (∀ (j:Nat) (u:Value),[Value.string s][j]?=some u→(w5.alloc (.cells #[.string s] 9)).cell? ⟨w5.heap.size,j,none⟩=some u):=fun j u hu=>cell_of_block (heap_alloc_new w5 _) j u (by simpa using hu)
     have BA:Hid (Below w4.heap.size w4 (w5.alloc (.cells #[.string s] 9))):=hB.out.alloc hB.out.size _
     have LA:w4.heap.size≤(w5.alloc (.cells #[.string s] 9)).heap.size:=BA.out.size
     have J9:Hid (joinB [s]=s):=joinB_one s
     have hXl:[s].length≤401:=by show 1≤401;omega
     clear HEX
     rcases hcases with ⟨hd1,hd2⟩ | hd1 <;> (
      go_wp2_with (at_builtin;refine wpList_push2 rfl (.tmp 66) (.tmp 68) 30 rfl w4.heap.size 9 (.string ⟨#[]⟩) 1 16 Tryz.infoSg Tryz.undSg rfl (by decide) (.slice ao 0 cap) 0 [] rfl R1.out w5.heap.size 1 [.string s] rfl rfl NW.out (one_str s) (by omega) (by omega) LA ?_;intro v' W3 hown0 hgr hsn;have hown:W3.ownsRow w4.heap.size 9 1 v' 1 [.string s]:=hown0;obtain ⟨ao',cap',rfl⟩:=row_shape hown;have RX:Hid (W3.ownsRow w4.heap.size 9 1 (.slice ao' 1 cap') [s].length (strCells [s])):=hown;have BX:Hid (Below w4.heap.size w4 W3):=BA.out.grown hgr LA (fun k hk=>(R1.out.lt k hk).1);clear hown hown0 hgr hsn R1 NW BA LA)
      have JD:=J9
      clear hW hB hBf hXl
      have B5:Hid (Below w1.heap.size w1 W3):=B4.out.trans (BX.out.mono B4.out.size)
      have A5:Hid (W3.ownsRow w3.heap.size 9 1 (.slice ao9 told9.length cap9) told9.length (strCells told9)):=row_kp R9.out (Kp.below BX.out)
      have C5:Hid (W3.ownsRow W.heap.size 9 1 (.slice aoC told9.length capC) told9.length (strCells told9)):=row_kp C4.out (Kp.below BX.out)
      have hf2:=kflow_any W3 g H V L (possOf L) (EE.out.below B5.out) [s] (.slice ao' 1 cap') _ RX.out (by rw [JD.out];exact hq1) (by show 1≤_;omega) false
      go_wp2_with fail
      refine hf2.mono ?_
      rintro r w6 ⟨v6,told6,C6,l6,s6,rfl,hrow6,hl6,b6,hR6,e6⟩
      rw [JD.out] at hR6
      rw [if_neg (by simp)] at e6
      subst e6
      obtain ⟨ao6,cap6,rfl⟩:=row_shape hrow6
      have R6:Hid (w6.ownsRow W3.heap.size 9 1 (.slice ao6 told6.length cap6) told6.length (strCells told6)):=hrow6
      have Q6:Hid (Rests H V L s C6 told6 s6):=hR6
      have B6:Hid (Below w1.heap.size w1 w6):=B5.out.trans (b6.mono B5.out.size)
      have A6:Hid (w6.ownsRow w3.heap.size 9 1 (.slice ao9 told9.length cap9) told9.length (strCells told9)):=row_kp A5.out (Kp.below b6)
      have C6':Hid (w6.ownsRow W.heap.size 9 1 (.slice aoC told9.length capC) told9.length (strCells told9)):=row_kp C5.out (Kp.below b6)
      obtain ⟨W7,hW7⟩:∃ W7,W7=w6.alloc (.cells #[.string s] 9):=⟨_,rfl⟩
      have HW7:Hid (W7=w6.alloc (.cells #[.string s] 9)):=hW7
      have b7:Below w6.heap.size w6 W7:=by rw [hW7];exact below_alloc w6 _
      have own7:W7.ownsRow 0 9 1 (.slice (some ⟨w6.heap.size,0,none⟩) 1 1) [s].length (strCells [s]):=by
       rw [hW7]
       exact ⟨rfl,Or.inr ⟨w6.heap.size,1,#[.string s],rfl,Nat.zero_le _,heap_alloc_new w6 _,Nat.le_refl _,by decide,rfl,rfl⟩⟩
      have B7:Hid (Below w1.heap.size w1 W7):=B6.out.trans (b7.mono B6.out.size)
      have R7:Hid (W7.ownsRow W3.heap.size 9 1 (.slice ao6 told6.length cap6) told6.length (strCells told6)):=row_kp R6.out (Kp.below b7)
      have A7:Hid (W7.ownsRow w3.heap.size 9 1 (.slice ao9 told9.length cap9) told9.length (strCells told9)):=row_kp A6.out (Kp.below b7)
      have C7:Hid (W7.ownsRow W.heap.size 9 1 (.slice aoC told9.length capC) told9.length (strCells told9)):=row_kp C6'.out (Kp.below b7)
      have hf3:=kflow_any W7 g H V L (possOf L) (EE.out.below B7.out) [s] _ _ own7 (by rw [joinB_one];exact hq1) (by show 1≤1500000;omega) false
      clear hf2 hrow6 b6 hR6 hW7 b7 own7 R6 A6 C6' B6 A5 C5 B5 RX JD J9
      go_wp2_with fail
      rw [← HW7.out]
      refine hf3.mono ?_
      rintro r w8 ⟨v8,told8,C8,l8,s8,rfl,hrow8,hl8,b8,hR8,e8⟩
      rw [joinB_one] at hR8
      rw [if_neg (by simp)] at e8
      subst e8
      obtain rfl:told8=told6:=HO.out _ _ _ _ _ _ hR8 Q6.out
      obtain ⟨ao8,cap8,rfl⟩:=row_shape hrow8
      have B8:Hid (Below w1.heap.size w1 w8):=B7.out.trans (b8.mono B7.out.size)
      have hs1:=same_eq w3.heap.size W.heap.size _ _ told9 w8 (row_kp A7.out (Kp.below b8)) (row_kp C7.out (Kp.below b8)) (by omega)
      have X8:Hid (w8.ownsRow W7.heap.size 9 1 (.slice ao8 told8.length cap8) told8.length (strCells told8)):=hrow8
      have Y8:Hid (w8.ownsRow W3.heap.size 9 1 (.slice ao6 told8.length cap6) told8.length (strCells told8)):=row_kp R7.out (Kp.below b8)
      clear hf3 hrow8 b8 hR8 HW7 R7 A7 C7 B7 Q6
      go_wp2_with fail
      refine hs1.mono ?_
      rintro r w9 ⟨rfl,b9⟩
      have B9:Hid (Below w1.heap.size w1 w9):=B8.out.trans (b9.mono B8.out.size)
      have hs2:=same_eq _ _ _ _ told8 w9 (row_kp Y8.out (Kp.below b9)) (row_kp X8.out (Kp.below b9)) (by omega)
      clear hs1 b9 B8
      go_wp2_with fail
      refine hs2.mono ?_
      rintro r w10 ⟨rfl,b10⟩
      have B10:Hid (Below w1.heap.size w1 w10):=B9.out.trans (b10.mono B9.out.size)
      clear hs2 b10 B9
      go_wp2_with fail
      go_ret
      exact ⟨rfl,B1.out.trans (B10.out.mono B1.out.size)⟩)
    ·have hd3:((B.length:Int) == 0)=false:=by rw [beq_eq_false_iff_ne];omega
     have hd4:¬ B.length=0:=by omega
     have hd5:B ≠ []:=fun e=>by rw [e] at h8;exact absurd h8 (by decide)
     have J9:Hid (joinB B=s):=h9
     have hXl:B.length≤401:=by omega
     have RX:=hW
     have BX:=hB
     clear h9 HEX
     rcases hcases with ⟨hd1,hd2⟩ | hd1 <;> (
      obtain ⟨D,hD⟩:∃ D,D=B:=⟨_,rfl⟩
      have RD:Hid (w5.ownsRow w4.heap.size 9 1 (.slice ao D.length cap) D.length (strCells D)):=by rw [hD];exact RX.out
      have JD:Hid (joinB D=s):=by rw [hD];exact J9.out
      have hDl:D.length≤401:=by rw [hD];exact hXl
      have g3:((D.length:Int) == 0)=false:=by rw [hD];exact hd3
      have g4:¬ D.length=0:=by rw [hD];exact hd4
      have g5:D ≠ []:=by rw [hD];exact hd5
      rw [show B.length=D.length from by rw [hD]]
      clear RX J9 hXl hD hW hB hBf
      have B5:Hid (Below w1.heap.size w1 w5):=B4.out.trans (BX.out.mono B4.out.size)
      have A5:Hid (w5.ownsRow w3.heap.size 9 1 (.slice ao9 told9.length cap9) told9.length (strCells told9)):=row_kp R9.out (Kp.below BX.out)
      have C5:Hid (w5.ownsRow W.heap.size 9 1 (.slice aoC told9.length capC) told9.length (strCells told9)):=row_kp C4.out (Kp.below BX.out)
      have hf2:=kflow_any w5 g H V L (possOf L) (EE.out.below B5.out) D _ _ RD.out (by rw [JD.out];exact hq1) (by omega) false
      go_wp2_with fail
      refine hf2.mono ?_
      rintro r w6 ⟨v6,told6,C6,l6,s6,rfl,hrow6,hl6,b6,hR6,e6⟩
      rw [JD.out] at hR6
      rw [if_neg (by simp)] at e6
      subst e6
      obtain ⟨ao6,cap6,rfl⟩:=row_shape hrow6
      have R6:Hid (w6.ownsRow w5.heap.size 9 1 (.slice ao6 told6.length cap6) told6.length (strCells told6)):=hrow6
      have Q6:Hid (Rests H V L s C6 told6 s6):=hR6
      have B6:Hid (Below w1.heap.size w1 w6):=B5.out.trans (b6.mono B5.out.size)
      have A6:Hid (w6.ownsRow w3.heap.size 9 1 (.slice ao9 told9.length cap9) told9.length (strCells told9)):=row_kp A5.out (Kp.below b6)
      have C6':Hid (w6.ownsRow W.heap.size 9 1 (.slice aoC told9.length capC) told9.length (strCells told9)):=row_kp C5.out (Kp.below b6)
      obtain ⟨W7,hW7⟩:∃ W7,W7=w6.alloc (.cells #[.string s] 9):=⟨_,rfl⟩
      have HW7:Hid (W7=w6.alloc (.cells #[.string s] 9)):=hW7
      have b7:Below w6.heap.size w6 W7:=by rw [hW7];exact below_alloc w6 _
      have own7:W7.ownsRow 0 9 1 (.slice (some ⟨w6.heap.size,0,none⟩) 1 1) [s].length (strCells [s]):=by
       rw [hW7]
       exact ⟨rfl,Or.inr ⟨w6.heap.size,1,#[.string s],rfl,Nat.zero_le _,heap_alloc_new w6 _,Nat.le_refl _,by decide,rfl,rfl⟩⟩
      have B7:Hid (Below w1.heap.size w1 W7):=B6.out.trans (b7.mono B6.out.size)
      have R7:Hid (W7.ownsRow w5.heap.size 9 1 (.slice ao6 told6.length cap6) told6.length (strCells told6)):=row_kp R6.out (Kp.below b7)
      have A7:Hid (W7.ownsRow w3.heap.size 9 1 (.slice ao9 told9.length cap9) told9.length (strCells told9)):=row_kp A6.out (Kp.below b7)
      have C7:Hid (W7.ownsRow W.heap.size 9 1 (.slice aoC told9.length capC) told9.length (strCells told9)):=row_kp C6'.out (Kp.below b7)
      have hf3:=kflow_any W7 g H V L (possOf L) (EE.out.below B7.out) [s] _ _ own7 (by rw [joinB_one];exact hq1) (by show 1≤1500000;omega) false
      clear hf2 hrow6 b6 hR6 hW7 b7 own7 R6 A6 C6' B6 A5 C5 B5 RD JD
      go_wp2_with fail
      rw [← HW7.out]
      refine hf3.mono ?_
      rintro r w8 ⟨v8,told8,C8,l8,s8,rfl,hrow8,hl8,b8,hR8,e8⟩
      rw [joinB_one] at hR8
      rw [if_neg (by simp)] at e8
      subst e8
      obtain rfl:told8=told6:=HO.out _ _ _ _ _ _ hR8 Q6.out
      obtain ⟨ao8,cap8,rfl⟩:=row_shape hrow8
      have B8:Hid (Below w1.heap.size w1 w8):=B7.out.trans (b8.mono B7.out.size)
      have hs1:=same_eq w3.heap.size W.heap.size _ _ told9 w8 (row_kp A7.out (Kp.below b8)) (row_kp C7.out (Kp.below b8)) (by omega)
      have X8:Hid (w8.ownsRow W7.heap.size 9 1 (.slice ao8 told8.length cap8) told8.length (strCells told8)):=hrow8
      have Y8:Hid (w8.ownsRow w5.heap.size 9 1 (.slice ao6 told8.length cap6) told8.length (strCells told8)):=row_kp R7.out (Kp.below b8)
      clear hf3 hrow8 b8 hR8 HW7 R7 A7 C7 B7 Q6
      go_wp2_with fail
      refine hs1.mono ?_
      rintro r w9 ⟨rfl,b9⟩
      have B9:Hid (Below w1.heap.size w1 w9):=B8.out.trans (b9.mono B8.out.size)
      have hs2:=same_eq _ _ _ _ told8 w9 (row_kp Y8.out (Kp.below b9)) (row_kp X8.out (Kp.below b9)) (by omega)
      clear hs1 b9 B8
      go_wp2_with fail
      refine hs2.mono ?_
      rintro r w10 ⟨rfl,b10⟩
      have B10:Hid (Below w1.heap.size w1 w10):=B9.out.trans (b10.mono B9.out.size)
      clear hs2 b10 B9
      go_wp2_with fail
      go_ret
      exact ⟨rfl,B1.out.trans (B10.out.mono B1.out.size)⟩)
 ·obtain rfl:=h2 e0
  clear hg h1 h2 b1 e0
  go_wp2_with fail
  go_ret
  exact ⟨rfl,B1.out⟩
end Go.Proofs.YtodagkkjfipbgaaGreatDoor
namespace Go.Proofs.YtodagkkjfipbgaaGreatDoor
open Go.ChangeShapes Go.WideShapes Go.ChangeAt Go.RowKit
theorem tSU:(Tryz.prog.globals[0]?).map (·.type)=some 171:=by kernel_rfl
theorem laid_sur {n:String} {r:List (String × DataW Unit)} {W:World} (h:laidMet Tryz.prog ((n,Rows.laid_cleave_kinds_surrogates) :: r) W) (gSU:Tryz.prog.globalNamed n=some 0):W.cell? ⟨0,0,none⟩=some (.int .i32 55296)∧W.cell? ⟨0,1,none⟩=some (.int .i32 57343):=by
 obtain ⟨ps,⟨g0,t0,cs0,f0,p0,q0,hg0,ht0,hv0,hd0,_,e0⟩,_,_⟩:=h
 obtain rfl:=Option.some.inj (gSU.symm.trans hg0)
 obtain rfl:=Option.some.inj (tSU.symm.trans ht0)
 have c1:Tryz.prog.cellsOf 21=1:=by kernel_rfl
 obtain ⟨y0,y1,m,ex,hl,h0,h1⟩:=trod_struct2 Tryz.underlying171 hd0
 have c2:Tryz.prog.cellsOf 171=2:=by kernel_rfl
 rw [c2] at hl
 have e1:=(Prod.mk.inj ex).1
 unfold Rows.laid_cleave_kinds_surrogates at e1
 injection e1 with e1
 injection e1 with ea e1
 injection e1 with eb _
 simp only [c1] at h0 h1
 obtain ⟨a,a0,a1,_⟩:=DataW.trod_int Tryz.underlying21 h0
 obtain ⟨b,b0,b1,_⟩:=DataW.trod_int Tryz.underlying21 h1
 rw [a1] at ea
 rw [b1] at eb
 have hza:a=55296:=by simpa using ea.symm
 have hzb:b=57343:=by simpa using eb.symm
 subst hza
 subst hzb
 obtain ⟨l⟩:=cs0
 match l,hl with
 | [x,y],_ =>
  simp at a0 b0
  subst a0
  subst b0
  exact ⟨by rw [World.var?_cell gSU hv0 0];rfl,by rw [World.var?_cell gSU hv0 1];rfl⟩
end Go.Proofs.YtodagkkjfipbgaaGreatDoor
