import Derived.Laws.AppendOwnNone
import Derived.Test.YtodagkkjfipbgaaGreatDoorT33toY3
namespace Go.Proofs.YtodagkkjfipbgaaGreatDoor
open Go.RowKit Go.Maps Go.Lib
theorem strCells_app (a b:List ByteArray):strCells (a++b)=strCells a++strCells b:=by unfold strCells;simp
theorem strCells_len (a:List ByteArray):(strCells a).length=a.length:=by unfold strCells;simp
theorem one_strs (l:List ByteArray):∀ u ∈ strCells l,u.oneCell'=true:=by
 intro u hu
 unfold strCells at hu
 obtain ⟨x,_,rfl⟩:=List.mem_map.1 hu
 rfl
theorem bytes_in (W:World) (x:ByteArray) (c:Nat) (m:Nat × Nat):∀ j u,(byCells x)[j]?=some u→(W.drew.alloc (.cells (bytesRow x c) 5 m)).cell? ((⟨W.heap.size,0,none⟩:Addr).add j)=some u:=fun j u hu=>by
 have hj:j<x.size:=by rw [← byCells_len];exact (List.getElem?_eq_some_iff.1 hu).1
 rw [show (⟨W.heap.size,0,none⟩:Addr).add j=⟨W.heap.size,0+j,none⟩ from by unfold Addr.add;split <;> simp_all,Nat.zero_add]
 refine cell_of_mark (alloc_mark W _) j u ?_
 rw [bytesRow_at x c j hj,← hu,byCells_at x j hj,get_data x j hj]
def KPost (w:World) (H:List Hd) (V:List Vw) (L:List (Int × Int × Nat)) (P:List ByteArray) (cl:Bool) (r:Ending) (w':World):Prop:=∃ v told C l s,r=.returned (.tuple #[v,.bool true])∧w'.ownsRow w.heap.size 9 1 v told.length (strCells told)∧told.length≤5000∧Below w.heap.size w w'∧Rests H V L (joinB P) C l s∧told=if cl then l++(endS H V s).told else l
set_option maxRecDepth 100000 in
set_option maxHeartbeats 8000000 in
theorem kflow_any (w:World) (gR:Nat) (H:List Hd) (V:List Vw) (L:List (Int × Int × Nat)) (ks:List Nat) (hE:FEnv w gR H V L ks) (P:List ByteArray) (vP:Value) (base:Nat) (hP:w.ownsRow base 9 1 vP P.length (strCells P)) (hsz:(joinB P).size≤5000) (hl:P.length≤1500000) (cl:Bool) :
  Calls Tryz.prog 37 #[.pointer (some ⟨gR,0,none⟩),vP,.bool cl] w fun r w'=>KPost w H V L P cl r w':=by
 have kc:=fun (W:World) (x:ByteArray)=>run_bytes_of_string (P:=Tryz.prog) W 9 63 5 x Tryz.underlying9 Tryz.underlying63 Tryz.underlying5
 obtain ⟨iS,hiS,hz0,hz1,hz2⟩:=info_parts Tryz.infoSg
 obtain ⟨aoP,capP,rfl⟩:=row_shape hP
 have ho:=open_any w gR 100000 H V L ks hE (by decide) (by decide)
 have HE:Hid (FEnv w gR H V L ks):=hE
 have HP:Hid (w.ownsRow base 9 1 (.slice aoP P.length capP) P.length (strCells P)):=hP
 clear hE hP
 go_enter Tryz.func37,Tryz.ntmps37
 go_wp2_with fail
 refine ho.mono ?_
 rintro r w1 ⟨p,f,rfl,hp,hS,b1⟩
 have K0:Hid (KF w w1 p f gR H V L ⟨#[]⟩ (.slice none 0 0) []):=KF.start L hS b1
 clear ho hp hS b1
 go_wp2_with fail
 go_loopg [10,11] P.length (fun gh ov iv wx=>∃ (i:Nat) (told:List ByteArray) (ao:Option Addr) (cap:Nat),i≤P.length∧gh=P.length - i∧ov=.slice ao told.length cap∧iv=.int .i64 i∧Hid (KF w wx p f gR H V L (joinB (P.take i)) (.slice ao told.length cap) told))
 case atStart=>exact ⟨0,[],none,0,Nat.zero_le _,rfl,rfl,rfl,K0⟩
 case round =>
  obtain ⟨i,told,ao,cap,hi,rfl,rfl,rfl,hK⟩:=hrel
  obtain ⟨w2,hw2⟩:∃ w2,w2=wr:=⟨wr,rfl⟩
  subst hw2
  clear K0
  have hjt:=joinB_take P i
  by_cases hlt:i<P.length
  ·obtain ⟨x,hx⟩:∃ x,P[i]?=some x:=⟨P[i],List.getElem?_eq_getElem hlt⟩
   have hd1:decide ((i:Int)<(P.length:Int))=true:=decide_eq_true (by omega)
   have HJ:Hid (joinB (P.take (i+1))=joinB (P.take i)++x):=by
    show _=_
    rw [List.take_add_one,hx]
    exact joinB_snoc _ _
   have hax:(joinB (P.take i)).size+x.size≤5000:=by
    have h1:=joinB_take P (i+1)
    rw [HJ.out,ByteArray.size_append] at h1
    exact Nat.le_trans h1 hsz
   obtain ⟨q,hq,_,hc⟩:=row_at (row_kp HP.out (Kp.below hK.out.bel)) (strCells_at hx) (by omega)
   subst hq
   obtain ⟨cb,hcb⟩:∃ cb,cb=grownCap w2 x.size 0 5:=⟨_,rfl⟩
   obtain ⟨m,hm⟩:∃ m,m=((bytesRow x cb).size,(bytesRow x cb).size+1):=⟨_,rfl⟩
   have hwr:=hK.out.write HE.out (x:=x) (by omega) (wy:=w2.drew.alloc (.cells (bytesRow x cb) 5 m)) (((Below.refl _ _).drew).alloc (Nat.le_refl _) _) (ad:=⟨w2.heap.size,0,none⟩) (cb:=cb) (bytes_in w2 x cb m)
   clear hx hK hjt
   generalize joinB (P.take i)=T at HJ hax hwr
   subst hm
   subst hcb
   go_wp2_with fail
   refine hwr.mono ?_
   rintro r w3 ⟨ao3,cap3,news,rfl,hrow3,hN⟩
   have N3:Hid (KFN w w3 p f gR H V L (T++x) (.slice ao told.length cap) told news):=hN
   have R3:Hid (∃ base,w3.ownsRow base 9 1 (.slice ao3 news.length cap3) news.length (strCells news)):=⟨_,hrow3⟩
   have hfw:=hN.few
   have hfz:(T++x).size=T.size+x.size:=ByteArray.size_append
   clear hwr hrow3 hN
   cases ao3 with
   | none =>
    have h0:news=[]∧cap3=0:=by
     obtain ⟨bs3,hr3⟩:=R3.out
     rcases hr3.2 with ⟨e1,e2⟩ | ⟨g,c,cur,e1,_⟩
     ·injection e1 with _ _ e3
      exact ⟨List.eq_nil_of_length_eq_zero e2,e3⟩
     ·simp at e1
    obtain ⟨rfl,rfl⟩:=h0
    have K3:Hid (KF w w3 p f gR H V L (T++x) (.slice ao told.length cap) told):=N3.out.none
    clear N3 R3
    go_wp2_with (at_builtin;go_loud (refine wpList_append_own_none rfl (.tmp 45) (.tmp 46) 30 rfl w.heap.size 9 iS 1 Tryz.undSg hiS (.slice ao told.length cap) told.length (strCells told) rfl K3.out.row rfl ?_))
    go_roundg (P.length - (i+1))
    case measure=>omega
    case rel=>exact ⟨i+1,told,ao,cap,by omega,rfl,rfl,by go_num,by rw [HJ.out];exact K3⟩
   | some a3 =>
    obtain ⟨bs3,hr3⟩:=R3.out
    have ha3:∃ g3,a3=⟨g3,0,none⟩:=by
     rcases hr3.2 with ⟨e1,_⟩ | ⟨g,c,cur,e1,_⟩
     ·simp at e1
     ·injection e1 with e1 _ _
      injection e1 with e1
      exact ⟨g,e1⟩
    obtain ⟨g3,rfl⟩:=ha3
    have NW:Hid (∀ j u,(strCells news)[j]?=some u→w3.cell? ((⟨g3,0,none⟩:Addr).add j)=some u):=hr3.cells (g:=g3) rfl
    have HL:Hid ((strCells news).length=news.length * 1):=by show _=_;rw [strCells_len,Nat.mul_one]
    have LA:w.heap.size≤w3.heap.size:=N3.out.bel.size
    have hm1:told.length+news.length≤maxLen:=by unfold maxLen;omega
    have hm2:(told.length+news.length) * 16≤140737488355328:=by omega
    clear hr3 R3
    go_wp2_with (at_builtin;go_loud (refine wpList_append_own_at _ rfl (.tmp 45) (.tmp 46) 30 rfl w.heap.size 9 iS (.string ⟨#[]⟩) 1 16 Tryz.undSg hiS hz0 hz1 hz2 rfl (by decide) (.slice ao told.length cap) told.length (strCells told) rfl N3.out.row ⟨g3,0,none⟩ news.length cap3 (strCells news) rfl HL.out NW.out (one_strs news) hm1 hm2 LA ?_);intro v' W4 hown hgr hnl hat;obtain ⟨ao4,cap4,rfl⟩:=row_shape hown;have E4:Hid (told.length+news.length=(told++news).length):=(List.length_append).symm;have K4:Hid (KF w W4 p f gR H V L (T++x) (.slice ao4 (told.length+news.length) cap4) (told++news)):=(N3.out.app HE.out hgr (by rw [strCells_app,← E4.out];exact hown) hat);clear hown hgr hnl hat)
    go_wp2_with fail
    go_roundg (P.length - (i+1))
    case measure=>omega
    case rel=>exact ⟨i+1,told++news,ao4,cap4,by omega,rfl,by rw [← E4.out],by go_num,by rw [HJ.out,← E4.out];exact K4⟩
  ·obtain rfl:i=P.length:=by omega
   have hd1:decide ((P.length:Int)<(P.length:Int))=false:=decide_eq_false (by omega)
   rw [List.take_length] at hK hjt
   cases cl with
   | false =>
    obtain ⟨S,s,C,_,_,hR,_⟩:=hK.out.ex
    have RR:Hid (Rests H V L (joinB P) C told s):=hR
    have hfw:=hR.few HE.out.kinds
    clear hR
    go_wp2_with fail
    go_ret2
    exact ⟨_,told,C,told,s,rfl,hK.out.row,by omega,hK.out.bel,RR.out,rfl⟩
   | true =>
    have hcl:=hK.out.close HE.out
    clear hK
    go_wp2_with fail
    refine hcl.mono ?_
    rintro r w3 ⟨ao3,cap3,news,C,s,rfl,hrow3,hrow0,hb3,hR,hnw,hfw⟩
    have R3:Hid (∃ base,w3.ownsRow base 9 1 (.slice ao3 news.length cap3) news.length (strCells news)):=⟨_,hrow3⟩
    have R0:Hid (w3.ownsRow w.heap.size 9 1 (.slice ao told.length cap) told.length (strCells told)):=hrow0
    have B3:Hid (Below w.heap.size w w3):=hb3
    have RR:Hid (Rests H V L (joinB P) C told s):=hR
    have NN:Hid (news=(endS H V s).told):=hnw
    clear hcl hrow3 hrow0 hb3 hR hnw
    cases ao3 with
    | none =>
     have h0:news=[]∧cap3=0:=by
      obtain ⟨bs3,hr3⟩:=R3.out
      rcases hr3.2 with ⟨e1,e2⟩ | ⟨g,c,cur,e1,_⟩
      ·injection e1 with _ _ e3
       exact ⟨List.eq_nil_of_length_eq_zero e2,e3⟩
      ·simp at e1
     obtain ⟨e0,rfl⟩:=h0
     have EE:Hid (told=told++(endS H V s).told):=by show _=_;rw [← NN.out,e0,List.append_nil]
     rw [show news.length=0 from by rw [e0];rfl]
     clear R3 e0 NN
     go_wp2_with (at_builtin;go_loud (refine wpList_append_own_none rfl (.tmp 56) (.tmp 57) 30 rfl w.heap.size 9 iS 1 Tryz.undSg hiS (.slice ao told.length cap) told.length (strCells told) rfl R0.out rfl ?_))
     go_ret2
     exact ⟨_,told,C,told,s,rfl,R0.out,by omega,B3.out,RR.out,EE.out⟩
    | some a3 =>
     obtain ⟨bs3,hr3⟩:=R3.out
     have ha3:∃ g3,a3=⟨g3,0,none⟩:=by
      rcases hr3.2 with ⟨e1,_⟩ | ⟨g,c,cur,e1,_⟩
      ·simp at e1
      ·injection e1 with e1 _ _
       injection e1 with e1
       exact ⟨g,e1⟩
     obtain ⟨g3,rfl⟩:=ha3
     have NW:Hid (∀ j u,(strCells news)[j]?=some u→w3.cell? ((⟨g3,0,none⟩:Addr).add j)=some u):=hr3.cells (g:=g3) rfl
     have HL:Hid ((strCells news).length=news.length * 1):=by show _=_;rw [strCells_len,Nat.mul_one]
     have LA:w.heap.size≤w3.heap.size:=B3.out.size
     have hm1:told.length+news.length≤maxLen:=by unfold maxLen;omega
     have hm2:(told.length+news.length) * 16≤140737488355328:=by omega
     have EE:Hid (told++news=told++(endS H V s).told):=by show _=_;rw [← NN.out]
     clear hr3 R3 NN
     go_wp2_with (at_builtin;go_loud (refine wpList_append_own_at _ rfl (.tmp 56) (.tmp 57) 30 rfl w.heap.size 9 iS (.string ⟨#[]⟩) 1 16 Tryz.undSg hiS hz0 hz1 hz2 rfl (by decide) (.slice ao told.length cap) told.length (strCells told) rfl R0.out ⟨g3,0,none⟩ news.length cap3 (strCells news) rfl HL.out NW.out (one_strs news) hm1 hm2 LA ?_);intro v' W4 hown hgr hnl hat;obtain ⟨ao4,cap4,rfl⟩:=row_shape hown;have E4:Hid (told.length+news.length=(told++news).length):=(List.length_append).symm;have R4:Hid (W4.ownsRow w.heap.size 9 1 (.slice ao4 (told.length+news.length) cap4) (told++news).length (strCells (told++news))):=(by rw [strCells_app,← E4.out];exact hown);have B4:Hid (Below w.heap.size w W4):=B3.out.grown hgr LA (fun k hk=>(R0.out.lt k hk).1);clear hown hgr hnl hat)
     go_wp2_with fail
     go_ret2
     exact ⟨_,told++news,C,told,s,rfl,R4.out,by rw [← E4.out];omega,B4.out,RR.out,EE.out⟩
def shStep (st:Nat × List ByteArray) (s:ByteArray):Nat × List ByteArray:=(st.1+s.size,if st.1+s.size≤5000 then st.2++[s] else st.2)
def shortSt (P:List ByteArray) (i:Nat):Nat × List ByteArray:=(P.take i).foldl shStep (0,[])
def shortP (P:List ByteArray):List ByteArray:=(shortSt P P.length).2
theorem shortSt_succ {P:List ByteArray} {i:Nat} {x:ByteArray} (h:P[i]?=some x):shortSt P (i+1)=shStep (shortSt P i) x:=by
 unfold shortSt
 rw [List.take_add_one,h,List.foldl_append]
 rfl
theorem short_inv (P:List ByteArray):∀ i,i≤P.length→(shortSt P i).1=(joinB (P.take i)).size∧(joinB (shortSt P i).2).size≤5000∧(joinB (shortSt P i).2).size≤(shortSt P i).1∧(shortSt P i).2.length≤i:=by
 intro i
 induction i with
 | zero=>intro _;exact ⟨rfl,Nat.zero_le _,Nat.le_refl _,Nat.le_refl _⟩
 | succ i ih =>
  intro hi
  obtain ⟨h1,h2,h3,h4⟩:=ih (by omega)
  obtain ⟨x,hx⟩:∃ x,P[i]?=some x:=⟨P[i],List.getElem?_eq_getElem (by omega)⟩
  have e:joinB (P.take (i+1))=joinB (P.take i)++x:=by
   rw [List.take_add_one,hx]
   exact joinB_snoc _ _
  rw [shortSt_succ hx,e]
  unfold shStep
  refine ⟨by show (shortSt P i).1+x.size=_;rw [ByteArray.size_append,h1],?_⟩
  show (joinB (if (shortSt P i).1+x.size≤5000 then (shortSt P i).2++[x] else (shortSt P i).2)).size≤5000∧(joinB (if (shortSt P i).1+x.size≤5000 then (shortSt P i).2++[x] else (shortSt P i).2)).size≤(shortSt P i).1+x.size∧(if (shortSt P i).1+x.size≤5000 then (shortSt P i).2++[x] else (shortSt P i).2).length≤i+1
  by_cases hc:(shortSt P i).1+x.size≤5000
  ·rw [if_pos hc,joinB_snoc,ByteArray.size_append,List.length_append]
   exact ⟨by omega,by omega,by simp;omega⟩
  ·rw [if_neg hc]
   exact ⟨h2,by omega,by omega⟩
theorem cell_ltA {w:World} {a:Addr} {v:Value} (h:w.cell? a=some v):a.block<w.heap.size:=by
 unfold World.cell? at h
 cases hh:w.heap[a.block]? with
 | none=>rw [hh] at h;simp at h
 | some x=>exact (Array.getElem?_eq_some_iff.1 hh).1
def ArgS (w:World) (v:Value) (P:List ByteArray):Prop:=(v=.slice none 0 0∧P=[])∨∃ a cap,v=.slice (some a) P.length cap∧∀ (i:Nat) (s:ByteArray),P[i]?=some s→w.cell? (a.add i)=some (.string s)
theorem ArgS.shape {w:World} {v:Value} {P:List ByteArray} (h:ArgS w v P):∃ ao cap,v=.slice ao P.length cap:=by
 rcases h with ⟨rfl,rfl⟩ | ⟨a,cap,rfl,_⟩
 ·exact ⟨none,0,rfl⟩
 ·exact ⟨_,cap,rfl⟩
theorem ArgS.at {w w':World} {ao:Option Addr} {n cap:Nat} {P:List ByteArray} (h:ArgS w (.slice ao n cap) P) (hb:Below w.heap.size w w') {i:Nat} {s:ByteArray} (hs:P[i]?=some s):∃ a,ao=some a∧w'.cell? (a.add i)=some (.string s):=by
 rcases h with ⟨_,rfl⟩ | ⟨a,c,e,hc⟩
 ·simp at hs
 ·injection e with e _ _
  subst e
  have h1:=hc i s hs
  exact ⟨a,rfl,(hb.cell (p:=a.add i) (cell_ltA h1)).trans h1⟩
set_option maxRecDepth 100000 in
set_option maxHeartbeats 4000000 in
theorem short_any (w:World) (v:Value) (P:List ByteArray) (hA:ArgS w v P) (hl:P.length≤1500000) (hsz:(joinB P).size≤1500000) :
  Calls Tryz.prog 36 #[v] w fun r w'=>(∃ v',r=.returned v'∧w'.ownsRow w.heap.size 9 1 v' (shortP P).length (strCells (shortP P)))∧Below w.heap.size w w':=by
 obtain ⟨aoP,capP,rfl⟩:=hA.shape
 have HA:Hid (ArgS w (.slice aoP P.length capP) P):=hA
 have HI:Hid (∀ i,i≤P.length→(shortSt P i).1=(joinB (P.take i)).size∧(joinB (shortSt P i).2).size≤5000∧(joinB (shortSt P i).2).size≤(shortSt P i).1∧(shortSt P i).2.length≤i):=short_inv P
 have HT:Hid (∀ i,(joinB (P.take i)).size≤(joinB P).size):=fun i=>joinB_take P i
 have HF:Hid (∀ i x,P[i]?=some x→shortSt P (i+1)=shStep (shortSt P i) x):=fun i x h=>shortSt_succ h
 have HE:Hid (shortP P=(shortSt P P.length).2):=rfl
 clear hA
 go_enter Tryz.func36,Tryz.ntmps36
 go_wp2_with fail
 go_loopg [3,4,5] P.length (fun gh ov nv iv wx=>∃ (i n:Nat) (told:List ByteArray) (ao:Option Addr) (cap:Nat),i≤P.length∧gh=P.length - i∧ov=.slice ao told.length cap∧nv=.int .i64 n∧iv=.int .i64 i∧Hid (shortSt P i=(n,told))∧Hid (wx.ownsRow w.heap.size 9 1 (.slice ao told.length cap) told.length (strCells told))∧Hid (Below w.heap.size w wx))
 case atStart=>exact ⟨0,0,[],none,0,Nat.zero_le _,rfl,rfl,rfl,rfl,rfl,World.ownsRow_nil _ _ _ _,Below.refl _ _⟩
 case round =>
  obtain ⟨i,n,told,ao,cap,hi,rfl,rfl,rfl,rfl,hSt,hW,hB⟩:=hrel
  obtain ⟨w1,hw1⟩:∃ w1,w1=wr:=⟨wr,rfl⟩
  subst hw1
  have hin:=HI.out i hi
  rw [hSt.out] at hin
  have htl:told.length≤i:=hin.2.2.2
  have hnb:n≤1500000:=by have h1:n=_:=hin.1;have h2:=HT.out i;omega
  clear hin
  by_cases hlt:i<P.length
  ·obtain ⟨x,hx⟩:∃ x,P[i]?=some x:=⟨P[i],List.getElem?_eq_getElem hlt⟩
   have hd1:decide ((i:Int)<(P.length:Int))=true:=decide_eq_true (by omega)
   have hst2:=HF.out i x hx
   rw [hSt.out] at hst2
   have hin2:=HI.out (i+1) (by omega)
   rw [hst2] at hin2
   have hnx:n+x.size≤1500000:=by have h1:n+x.size=_:=hin2.1;have h2:=HT.out (i+1);omega
   obtain ⟨a,rfl,hc⟩:=HA.out.at hB.out hx
   obtain ⟨nx,hnxe⟩:∃ nx:Nat,nx=n+x.size:=⟨_,rfl⟩
   have S2:Hid (shortSt P (i+1)=shStep (n,told) x):=hst2
   clear hx hst2 hin2
   by_cases hle:n+x.size≤5000
   ·have hd2:decide ((n:Int)+(x.size:Int)≤5000)=true:=decide_eq_true (by omega)
    have ST:Hid (shortSt P (i+1)=(n+x.size,told++[x])):=by show _=_;rw [S2.out];unfold shStep;rw [if_pos hle]
    have hc2:(w1.alloc (.cells #[.string x] 9)).cell? (a.add i)=some (.string x):=((below_alloc w1 _).cell (p:=a.add i) (cell_ltA hc)).trans hc
    have R1:Hid ((w1.alloc (.cells #[.string x] 9)).ownsRow w.heap.size 9 1 (.slice ao told.length cap) told.length (strCells told)):=row_kp hW.out (Kp.below (below_alloc w1 _))
    have NW:Hid (∀ (j:Nat) (u:Value),[Value.string x][j]?=some u→(w1.alloc (.cells #[.string x] 9)).cell? ⟨w1.heap.size,j,none⟩=some u):=fun j u hu=>cell_of_block (heap_alloc_new w1 _) j u (by simpa using hu)
    have BA:Hid (Below w.heap.size w (w1.alloc (.cells #[.string x] 9))):=hB.out.alloc hB.out.size _
    have LA:w.heap.size≤(w1.alloc (.cells #[.string x] 9)).heap.size:=BA.out.size
    clear S2 hnxe
    go_wp2_with (at_builtin;refine wpList_push2 rfl (.tmp 21) (.tmp 26) 30 rfl w.heap.size 9 (.string ⟨#[]⟩) 1 16 Tryz.infoSg Tryz.undSg rfl (by decide) (.slice ao told.length cap) told.length (strCells told) rfl R1.out w1.heap.size 1 [.string x] rfl rfl NW.out (one_str x) (by omega) (by omega) LA ?_;intro v' W3 hown hgr hsn;obtain ⟨ao',cap',rfl⟩:=row_shape hown;have HR:Hid (W3.ownsRow w.heap.size 9 1 (.slice ao' (told.length+1) cap') (told.length+1) (strCells told++[.string x])):=hown;have B3:Hid (Below w.heap.size w W3):=BA.out.grown hgr LA (fun k hk=>(R1.out.lt k hk).1);clear hown hgr hsn)
    go_roundg (P.length - (i+1))
    case measure=>omega
    case rel =>
     refine ⟨i+1,n+x.size,told++[x],ao',cap',by omega,rfl,by rw [List.length_append];rfl,by go_num,by go_num,ST,?_,B3⟩
     rw [List.length_append,strCells_snoc]
     exact HR
   ·have hd2:decide ((n:Int)+(x.size:Int)≤5000)=false:=decide_eq_false (by omega)
    have ST:Hid (shortSt P (i+1)=(n+x.size,told)):=by show _=_;rw [S2.out];unfold shStep;rw [if_neg hle]
    clear S2 hnxe
    go_wp2_with fail
    go_roundg (P.length - (i+1))
    case measure=>omega
    case rel=>exact ⟨i+1,n+x.size,told,ao,cap,by omega,rfl,rfl,by go_num,by go_num,ST,hW,hB⟩
  ·obtain rfl:i=P.length:=by omega
   have hd1:decide ((P.length:Int)<(P.length:Int))=false:=decide_eq_false (by omega)
   have E:Hid (shortP P=told):=by show _=_;rw [HE.out,hSt.out]
   go_wp2_with fail
   go_ret
   exact ⟨⟨_,rfl,by rw [E.out];exact hW.out⟩,hB.out⟩
theorem same_eq (ba bb:Nat) (va vb:Value) (l:List ByteArray) (w:World) (ha:w.ownsRow ba 9 1 va l.length (strCells l)) (hb:w.ownsRow bb 9 1 vb l.length (strCells l)) (hl:l.length≤1500000) :
  Calls Tryz.prog 28 #[va,vb] w fun r w'=>r=.returned (.bool true)∧Below w.heap.size w w':=by
 have h:=keepSame_any ba bb va vb l l w ha hb (by omega)
 rw [show decide (l=l)=true from by simp] at h
 exact h
theorem joinB_one (s:ByteArray):joinB [s]=s:=by
 apply ba_ext
 rw [ByteArray.toList_eq,ByteArray.toList_eq]
 simp [joinB]
theorem RulesAt.stream {T:ByteArray} {w:World} {g:Nat} (h:RulesAt T w (.pointer (some ⟨g,0,none⟩))) (h0:(rdT T).err=0) (hV:VarsOk w):∃ vE vJ vP vH vV L H V,RulesIn w g T vE vJ vP vH vV L∧FEnv w g H V L (possOf L)∧RulP (read2 T).2 L (possOf L) H V:=by
 obtain ⟨g',vE,vJ,vP,vH,vV,L,e,h⟩:=h
 cases e
 obtain ⟨H,V,h1,h2⟩:=rules_stream h h0 hV
 exact ⟨vE,vJ,vP,vH,vV,L,H,V,h,h1,h2⟩
end Go.Proofs.YtodagkkjfipbgaaGreatDoor
