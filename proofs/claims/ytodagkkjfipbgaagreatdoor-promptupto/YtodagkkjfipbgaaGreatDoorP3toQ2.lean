import Derived.Deep.RegionLaw
import Derived.OwnWalk
import Derived.Test.YtodagkkjfipbgaaGreatDoorBtoP2
namespace Go.Proofs.YtodagkkjfipbgaaGreatDoor
open Go.RowKit
def tokp (T:ByteArray) (p:Nat):ByteArray:=T.extract p (tokEnd T p)
def nextp (T:ByteArray) (p:Nat):Nat:=skip T (tokEnd T p)
def memL (L:List ByteArray) (l:List UInt8):Bool:=decide (0<=clsIx L l)
def PAt (w:World) (b:Nat) (T:ByteArray) (p:Nat) (vN vE vL:Value) (fault place:Int):Prop:=PBlk w b T p (tokEnd T p:Nat) vN vE vL fault place
def These (w:World) (v:Value) (L:List ByteArray):Prop:=w.ownsRow 0 9 1 v L.length (L.map .string)/\L.length<=100
set_option maxHeartbeats 1000000 in
theorem contains_any (v:Value) (L:List ByteArray) (s:ByteArray) (w:World) (hN:These w v L) :
  Calls Tryz.prog 126 #[v,.string s] w fun e w'=>e=.returned (.bool (memL L s.toList))/\w'=w:=by
 have HN:Hid (These w v L):=hN
 clear hN
 go_enter Tryz.func126,Tryz.ntmps126
 go_wp2_with fail
 refine (index_any v 0 L s _ HN.out.1 HN.out.2).mono ?_
 rintro e1 w1 ⟨rfl,rfl⟩
 go_wp2_with fail
 go_ret
 exact ⟨rfl,rfl⟩
theorem these_drewN {w:World} {v:Value} {L:List ByteArray} (h:These w v L) (n:Nat):These (w.drewN n) v L:=h
theorem pat_drewN {w:World} {b:Nat} {T:ByteArray} {p:Nat} {vN vE vL:Value} {fault place:Int} (h:PAt w b T p vN vE vL fault place) (n:Nat):PAt (w.drewN n) b T p vN vE vL fault place:=h
set_option maxHeartbeats 1000000 in
theorem is_any (b:Nat) (T:ByteArray) (p:Nat) (vN vE vL:Value) (fault place:Int) (v:Value) (L:List ByteArray) (w:World) (h:PAt w b T p vN vE vL fault place) (hp:p<=T.size) (hN:These w v L) :
  Calls Tryz.prog 76 #[.pointer (some ⟨b,0,none⟩),v] w fun r w'=>r=.returned (.bool (memL L (tokp T p).toList))/\∃ n,w'=w.drewN n:=by
 have HN:Hid (These w v L):=hN
 have HH:Hid (PAt w b T p vN vE vL fault place):=h
 have ht:=tokEnd_le T p
 obtain ⟨ht1,ht2,ht3⟩:=ht
 have ht2':=ht2 hp
 clear hN h ht2 ht3
 go_enter Tryz.func76,Tryz.ntmps76
 go_wp2_with fail
 refine (now_any b T p (tokEnd T p) vN vE vL fault place _ HH.out ht1 ht2').mono ?_
 rintro e1 w1 ⟨rfl,n,rfl⟩
 go_wp2_with fail
 refine (contains_any v L (T.extract p (tokEnd T p)) _ (these_drewN HN.out n)).mono ?_
 rintro e2 w2 ⟨rfl,rfl⟩
 go_wp2_with fail
 go_ret
 exact ⟨rfl,n,rfl⟩
set_option maxHeartbeats 1000000 in
theorem take_no (b:Nat) (T:ByteArray) (p:Nat) (vN vE vL:Value) (fault place:Int) (v:Value) (L:List ByteArray) (w:World) (h:PAt w b T p vN vE vL fault place) (hp:p<=T.size) (hN:These w v L) (hm:memL L (tokp T p).toList=false) :
  Calls Tryz.prog 131 #[.pointer (some ⟨b,0,none⟩),v] w fun r w'=>r=.returned (.string ⟨#[]⟩)/\∃ n,w'=w.drewN n:=by
 have HN:Hid (These w v L):=hN
 have HH:Hid (PAt w b T p vN vE vL fault place):=h
 clear hN h
 go_enter Tryz.func131,Tryz.ntmps131
 go_wp2_with fail
 refine (is_any b T p vN vE vL fault place v L _ HH.out hp HN.out).mono ?_
 rintro e1 w1 ⟨rfl,n,rfl⟩
 go_wp2_with fail
 go_ret
 exact ⟨rfl,n,rfl⟩
set_option maxHeartbeats 1000000 in
theorem take_yes (b:Nat) (T:ByteArray) (p:Nat) (vN vE vL:Value) (fault place:Int) (v:Value) (L:List ByteArray) (w:World) (h:PAt w b T p vN vE vL fault place) (hp:p<=T.size) (hT:T.size<=1000) (hN:These w v L) (hm:memL L (tokp T p).toList=true) :
  Calls Tryz.prog 131 #[.pointer (some ⟨b,0,none⟩),v] w fun r w'=>r=.returned (.string (tokp T p))/\PAt w' b T (nextp T p) vN vE vL fault place/\Chg (fun k=>k=b) w w':=by
 have HN:Hid (These w v L):=hN
 have HH:Hid (PAt w b T p vN vE vL fault place):=h
 have ht:=tokEnd_le T p
 obtain ⟨ht1,ht2,ht3⟩:=ht
 have ht2':=ht2 hp
 clear hN h ht2 ht3
 go_enter Tryz.func131,Tryz.ntmps131
 go_wp2_with fail
 refine (is_any b T p vN vE vL fault place v L _ HH.out hp HN.out).mono ?_
 rintro e1 w1 ⟨rfl,n,rfl⟩
 go_wp2_with fail
 refine (now_any b T p (tokEnd T p) vN vE vL fault place _ (pat_drewN HH.out n) ht1 ht2').mono ?_
 rintro e2 w2 ⟨rfl,n2,hw2⟩
 have H2:Hid (PAt w2 b T p vN vE vL fault place):=by rw [hw2];exact HH.out
 have C2:Hid (Chg (fun k=>k=b) w w2):=by rw [hw2];exact ((Chg.refl _ _).drewN n).drewN n2
 clear hw2
 go_wp2_with fail
 refine (step_any b T p (tokEnd T p) vN vE vL fault place _ H2.out ht2' hT).mono ?_
 rintro e3 w3 ⟨rfl,h3,c3⟩
 have H3:Hid (PAt w3 b T (nextp T p) vN vE vL fault place):=h3
 clear h3
 go_wp2_with fail
 go_ret
 exact ⟨rfl,H3.out,C2.out.trans c3⟩
theorem tokp_ne {T:ByteArray} {p:Nat} {L:List ByteArray} (hm:memL L (tokp T p).toList=true) (hL:∀ x ∈ L,x.toList ≠ []):(tokp T p).toList.isEmpty=false:=by
 unfold memL at hm
 simp at hm
 unfold clsIx at hm
 cases hf:L.findIdx? (fun x=>x.toList == (tokp T p).toList) with
 | none=>rw [hf] at hm;simp at hm
 | some i =>
  obtain ⟨hi,he,_⟩:=List.findIdx?_eq_some_iff_getElem.1 hf
  simp at he
  have:=hL L[i] (List.getElem_mem hi)
  rw [he] at this
  simpa using this
set_option maxHeartbeats 1000000 in
theorem need_yes (b:Nat) (T:ByteArray) (p:Nat) (vN vE vL:Value) (fault place:Int) (v:Value) (L:List ByteArray) (w:World) (h:PAt w b T p vN vE vL fault place) (hp:p<=T.size) (hT:T.size<=1000) (hN:These w v L) (hm:memL L (tokp T p).toList=true) (hL:∀ x ∈ L,x.toList ≠ []) :
  Calls Tryz.prog 128 #[.pointer (some ⟨b,0,none⟩),v] w fun r w'=>r=.returned (.string (tokp T p))/\PAt w' b T (nextp T p) vN vE vL fault place/\Chg (fun k=>k=b) w w':=by
 have HN:Hid (These w v L):=hN
 have HH:Hid (PAt w b T p vN vE vL fault place):=h
 have hne:=tokp_ne hm hL
 have HM:Hid (memL L (tokp T p).toList=true):=hm
 clear hN h hm hL
 go_enter Tryz.func128,Tryz.ntmps128
 go_wp2_with fail
 refine (take_yes b T p vN vE vL fault place v L _ HH.out hp hT HN.out HM.out).mono ?_
 rintro e1 w1 ⟨rfl,h1,c1⟩
 have H1:Hid (PAt w1 b T (nextp T p) vN vE vL fault place):=h1
 clear h1
 go_wp2_with fail
 go_ret
 exact ⟨rfl,H1.out,c1⟩
theorem tokEnd_size (T:ByteArray):tokEnd T T.size=T.size:=by
 unfold tokEnd;rw [if_neg (by omega)];exact word_stop (Or.inl (Nat.le_refl _))
set_option maxHeartbeats 1000000 in
theorem need_no (b:Nat) (T:ByteArray) (p:Nat) (vN vE vL:Value) (fault place:Int) (v:Value) (L:List ByteArray) (w:World) (h:PAt w b T p vN vE vL fault place) (hp:p<=T.size) (hN:These w v L) (hm:memL L (tokp T p).toList=false) :
  Calls Tryz.prog 128 #[.pointer (some ⟨b,0,none⟩),v] w fun r w'=>r=.returned (.string ⟨#[]⟩)/\PAt w' b T T.size vN vE vL (pf fault 2) (pp fault p place)/\Chg (fun k=>k=b) w w':=by
 have HN:Hid (These w v L):=hN
 have HH:Hid (PAt w b T p vN vE vL fault place):=h
 have HM:Hid (memL L (tokp T p).toList=false):=hm
 clear hN h hm
 go_enter Tryz.func128,Tryz.ntmps128
 go_wp2_with fail
 refine (take_no b T p vN vE vL fault place v L _ HH.out hp HN.out HM.out).mono ?_
 rintro e1 w1 ⟨rfl,n,rfl⟩
 go_wp2_with fail
 refine (fail_pr b T p (tokEnd T p) vN vE vL fault place 2 _ (pat_drewN HH.out n)).mono ?_
 rintro e2 w2 ⟨rfl,h2,c2⟩
 have H2:Hid (PBlk w2 b T T.size T.size vN vE vL (pf fault 2) (pp fault (p:Int) place)):=h2
 clear h2
 go_wp2_with fail
 go_ret
 refine ⟨rfl,?_,((Chg.refl _ _).drewN n).trans c2⟩
 show PBlk _ _ _ _ _ _ _ _ _ _
 rw [tokEnd_size];exact H2.out
def wordp (T:ByteArray) (p:Nat):Bool:=decide (p ≠ T.size) && letterN (at0 T p)
set_option maxRecDepth 100000 in
set_option maxHeartbeats 2000000 in
theorem isWordBut_any (b:Nat) (T:ByteArray) (p:Nat) (vN vE vL:Value) (fault place:Int) (v:Value) (L:List ByteArray) (w:World) (h:PAt w b T p vN vE vL fault place) (hp:p<=T.size) (hN:These w v L) :
  Calls Tryz.prog 170 #[.pointer (some ⟨b,0,none⟩),v] w fun r w'=>r=.returned (.bool (wordp T p && !memL L (tokp T p).toList))/\∃ n,w'=w.drewN n:=by
 have HN:Hid (These w v L):=hN
 have HH:Hid (PAt w b T p vN vE vL fault place):=h
 obtain ⟨c0,c1,c2,c3,c4,c5,c6,c7,hf⟩:=pcells h
 clear hN h
 by_cases he:p=T.size
 ·have hd:decide (p=T.size)=true:=by simpa using he
  have hw:Hid ((wordp T p && !memL L (tokp T p).toList)=false):=by show _=false;unfold wordp;simp [he]
  rw [hw.out]
  go_enter Tryz.func170,Tryz.ntmps170
  go_wp2_with fail
  go_quiet ((first | (go_at_call 79;exact Calls.quiet_of (ended_any b T p (tokEnd T p) vN vE vL fault place _ (by exact HH.out))) | (go_at_call 125;exact Calls.quiet_of_same (isWordByte_any _ _)) | (go_at_call 76;exact Calls.quiet_of (is_any b T p vN vE vL fault place v L _ (by exact HH.out) hp (by exact HN.out)))))
  go_wp2_with fail
  go_ret
  exact ⟨rfl,_,rfl⟩
 ·have hd:decide (p=T.size)=false:=by simpa using he
  have hlt:p<T.size:=by omega
  cases hl:letterN (T[p].toNat)
  ·have hw:Hid ((wordp T p && !memL L (tokp T p).toList)=false):=by show _=false;unfold wordp;rw [at0_eq hlt,hl];simp
   rw [hw.out]
   clear he
   go_enter Tryz.func170,Tryz.ntmps170
   go_wp2_with fail
   go_quiet ((first | (go_at_call 79;exact Calls.quiet_of (ended_any b T p (tokEnd T p) vN vE vL fault place _ (by exact HH.out))) | (go_at_call 125;exact Calls.quiet_of_same (isWordByte_any _ _)) | (go_at_call 76;exact Calls.quiet_of (is_any b T p vN vE vL fault place v L _ (by exact HH.out) hp (by exact HN.out)))))
   go_wp2_with fail
   go_ret
   exact ⟨rfl,_,rfl⟩
  ·have hw:Hid ((wordp T p && !memL L (tokp T p).toList)=!memL L (tokp T p).toList):=by show _=_;unfold wordp;rw [at0_eq hlt,hl];simp [he]
   rw [hw.out]
   clear he
   go_enter Tryz.func170,Tryz.ntmps170
   go_wp2_with fail
   go_quiet ((first | (go_at_call 79;exact Calls.quiet_of (ended_any b T p (tokEnd T p) vN vE vL fault place _ (by exact HH.out))) | (go_at_call 125;exact Calls.quiet_of_same (isWordByte_any _ _)) | (go_at_call 76;exact Calls.quiet_of (is_any b T p vN vE vL fault place v L _ (by exact HH.out) hp (by exact HN.out)))))
   go_wp2_with fail
   go_ret
   exact ⟨rfl,_,rfl⟩
set_option maxHeartbeats 2000000 in
theorem kindOf_any (b base:Nat) (T:ByteArray) (p:Nat) (vN vE vL:Value) (fault place:Int) (names:List ByteArray) (x:ByteArray) (w:World) (h:PAt w b T p vN vE vL fault place) (hN:w.ownsRow base 9 1 vN names.length (names.map .string)) (hl:names.length<=100) :
  Calls Tryz.prog 171 #[.pointer (some ⟨b,0,none⟩),.string x] w fun r w'=>r=.returned (.tuple #[.int .u8 (max (clsIx names x.toList) 0),.bool (decide (0<=clsIx names x.toList))])/\w'=w:=by
 obtain ⟨c0,c1,c2,c3,c4,c5,c6,c7,hf⟩:=pcells h
 have HN:Hid (w.ownsRow base 9 1 vN names.length (names.map .string)):=hN
 have hbd:-1<=clsIx names x.toList/\clsIx names x.toList<100:=by
  unfold clsIx
  cases hfi:names.findIdx? (fun y=>y.toList == x.toList) with
  | none=>simp
  | some i=>have:=(List.findIdx?_eq_some_iff_getElem.1 hfi).1;simp;omega
 obtain ⟨hb1,hb2⟩:=hbd
 obtain ⟨k,hk⟩:∃ k,k=clsIx names x.toList:=⟨_,rfl⟩
 have HK:Hid (k=clsIx names x.toList):=hk
 rw [<- hk] at hb1 hb2
 clear hN h hk
 rw [<- HK.out]
 have hcase:(0<=k/\max k 0=k/\decide (0<=k)=true)\/(k<0/\max k 0=0/\decide (0<=k)=false):=by
  by_cases h0:0<=k
  ·left;exact ⟨h0,by omega,by simpa using h0⟩
  ·right;exact ⟨by omega,by omega,by simp;omega⟩
 rcases hcase with ⟨h0,e1,e2⟩ | ⟨h0,e1,e2⟩
 all_goals
  rw [e1,e2]
  clear e1
  go_enter Tryz.func171,Tryz.ntmps171
  go_wp2_with fail
  refine (index_any vN base names x _ HN.out hl).mono ?_
  rintro e1 w1 ⟨rfl,rfl⟩
  rw [<- HK.out]
  go_wp2_with fail
  go_ret2
  exact ⟨rfl,rfl⟩
def SameOrNew (w:World) (v v':Value):Prop:=v'.ownBlock=v.ownBlock\/v'.ownBlock=some w.heap.size
theorem run_push {P:Program} (w:World) (t ty e:TypeId) (base:Nat) (z:Value) (size bytes:Nat) (hinfo:(P.info? e).map (fun i=>(i.zero,i.size,i.bytes))=some (some z,size,bytes)) (ht:P.underlying t=some (.slice e))
  (hzs:z.cells.size=size) (hsz:0<size) (v:Value) (n:Nat) (xs:List Value) (hown:w.ownsRow base e size v n xs)
  (a:Addr) (c:Nat) (news:List Value) (hl:news.length=size) (hnews:∀ j u,news[j]?=some u->w.cell? (a.add j)=some u) (h1:∀ u ∈ news,u.oneCell'=true)
  (hn:n<=9000000000) (hby:bytes<=1000) (hbase:base<=w.heap.size) :
  ∃ v' w',(Builtin.append_ #[t,t] ty #[v,.slice (some a) 1 c]).run P w=.ok v' w'/\w'.ownsRow base e size v' (n+1) (xs++news)/\w.grownBy w' v.ownBlock/\SameOrNew w v v':=by
 obtain ⟨i,hi,hz0,hz1,hz2⟩:=info_parts hinfo
 have hb:(n+1) * bytes<=140737488355328:=by
  calc (n+1) * bytes<=9000000001 * 1000:=Nat.mul_le_mul (by omega) hby
   _<=_:=by omega
 have hl':news.length=1 * size:=by omega
 obtain ⟨v',w',hr,ho,hg,_⟩:=run_append_own (P:=P) w base t ty e i z size bytes ht hi hz0 hz1 hz2 hzs hsz v n xs hown a 1 c news hl' hnews h1 (by simp only [maxLen];omega) hb hbase
 refine ⟨v',w',hr,ho,hg,?_⟩
 subst hz1
 subst hz2
 rcases hown.2 with ⟨rfl,rfl⟩ | ⟨g,cap,cur,rfl,hbg,hgg,hnc,hcm,hcs,htake⟩
 ·have hr2:=run_append_nil (P:=P) w t ty e i z ht hi hz0 a 1 c news hl' hnews (by omega) (by omega) (by omega)
  rw [hr2] at hr
  injection hr with h1 h2
  rw [<- h1]
  exact Or.inr rfl
 ·by_cases hroom:n+1<=cap
  ·have hfit:n * i.size+news.length<=cur.size:=by rw [hl',hcs,<- Nat.add_mul];exact Nat.mul_le_mul_right _ hroom
   have hr2:=run_append_room (P:=P) w t ty e i ht hi g n cap cur hgg a 1 c news hl' hnews h1 hroom hfit
   rw [hr2] at hr
   injection hr with h1 h2
   rw [<- h1]
   exact Or.inl rfl
  ·have hr2:=run_append_grow (P:=P) w t ty e i z ht hi hz0 ⟨g,0,none⟩ n cap xs hown.1 (hown.cells (g:=g) rfl) a 1 c news hl' hnews (by omega) (by omega) (growslice_fits (by omega) hb)
   rw [hr2] at hr
   injection hr with h1 h2
   rw [<- h1]
   exact Or.inr rfl
theorem add_none (g j:Nat):(⟨g,0,none⟩:Addr).add j=⟨g,j,none⟩:=by unfold Addr.add;split <;> simp_all
theorem wp_push {P:Program} {w:World} {o:Oper} {a:Act} {K:Act->World->Prop} {Q:Exit->Act->World->Prop} (s x:Operand) (t:TypeId)
  (ho:o.op=.call { callee:=.builtin .append,args:=#[s,x],argTypes:=#[t,t] })
  (base:Nat) (e:TypeId) (z:Value) (size bytes:Nat) (hinfo:(P.info? e).map (fun i=>(i.zero,i.size,i.bytes))=some (some z,size,bytes)) (ht:P.underlying t=some (.slice e))
  (hzs:z.cells.size=size) (hsz:0<size) (v:Value) (n:Nat) (xs:List Value) (hs:a.eval s=v) (hown:w.ownsRow base e size v n xs)
  (g c:Nat) (news:List Value) (hx:a.eval x=.slice (some ⟨g,0,none⟩) 1 c) (hl:news.length=size) (hnews:∀ j u,news[j]?=some u->w.cell? ⟨g,j,none⟩=some u) (h1:∀ u ∈ news,u.oneCell'=true)
  (hn:n<=9000000000) (hby:bytes<=1000) (hbase:base<=w.heap.size)
  (hK:∀ v' w',w'.ownsRow base e size v' (n+1) (xs++news)->w.grownBy w' v.ownBlock->SameOrNew w v v'->K (a.put o.dst v') w'):o.wp P a w K Q:=by
 obtain ⟨v',w',hr,h2,h3,h4⟩:=run_push (P:=P) w t o.type e base z size bytes hinfo ht hzs hsz v n xs hown ⟨g,0,none⟩ c news hl (fun j u hu=>by rw [add_none];exact hnews j u hu) h1 hn hby hbase
 unfold Oper.wp execOp
 simp only [ho,resolve,invoke,builtin,Sem.run_bind,Sem.run_pure,Result.andThen_ok,List.map_toArray,List.map_cons,List.map_nil,hs,hx,hr]
 exact hK v' w' h2 h3 h4
theorem wpList_push2 {P:Program} {w:World} {ops:Array Oper} {rest:List Oper} {o:Oper} {a:Act} {Q:Exit->Act->World->Prop} (hgd:o.guard=none) (s x:Operand) (t:TypeId)
  (ho:o.op=.call { callee:=.builtin .append,args:=#[s,x],argTypes:=#[t,t] })
  (base:Nat) (e:TypeId) (z:Value) (size bytes:Nat) (hinfo:(P.info? e).map (fun i=>(i.zero,i.size,i.bytes))=some (some z,size,bytes)) (ht:P.underlying t=some (.slice e))
  (hzs:z.cells.size=size) (hsz:0<size) (v:Value) (n:Nat) (xs:List Value) (hs:a.eval s=v) (hown:w.ownsRow base e size v n xs)
  (g c:Nat) (news:List Value) (hx:a.eval x=.slice (some ⟨g,0,none⟩) 1 c) (hl:news.length=size) (hnews:∀ j u,news[j]?=some u->w.cell? ⟨g,j,none⟩=some u) (h1:∀ u ∈ news,u.oneCell'=true)
  (hn:n<=9000000000) (hby:bytes<=1000) (hbase:base<=w.heap.size)
  (h:∀ v' w',w'.ownsRow base e size v' (n+1) (xs++news)->w.grownBy w' v.ownBlock->SameOrNew w v v'->wpList P ops Q rest (a.put o.dst v') w'):wpList P ops Q (o :: rest) a w :=
 wpList_plain hgd fun _ hK=>wp_push s x t ho base e z size bytes hinfo ht hzs hsz v n xs hs hown g c news hx hl hnews h1 hn hby hbase fun v' w' h2 h3 h4=>hK _ _ (h v' w' h2 h3 h4)
theorem step_push2 {P:Program} {w:World} {ops:Array Oper} {o:Oper} {a:Act} {K:Act->World->Prop} {Q:Exit->Act->World->Prop} {E:Prop} (hgd:o.guard=none) (s x:Operand) (t:TypeId)
  (ho:o.op=.call { callee:=.builtin .append,args:=#[s,x],argTypes:=#[t,t] })
  (base:Nat) (e:TypeId) (z:Value) (size bytes:Nat) (hinfo:(P.info? e).map (fun i=>(i.zero,i.size,i.bytes))=some (some z,size,bytes)) (ht:P.underlying t=some (.slice e))
  (hzs:z.cells.size=size) (hsz:0<size) (v:Value) (n:Nat) (xs:List Value) (hs:a.eval s=v) (hown:w.ownsRow base e size v n xs)
  (g c:Nat) (news:List Value) (hx:a.eval x=.slice (some ⟨g,0,none⟩) 1 c) (hl:news.length=size) (hnews:∀ j u,news[j]?=some u->w.cell? ⟨g,j,none⟩=some u) (h1:∀ u ∈ news,u.oneCell'=true)
  (hn:n<=9000000000) (hby:bytes<=1000) (hbase:base<=w.heap.size)
  (hK:∀ v' w',w'.ownsRow base e size v' (n+1) (xs++news)->w.grownBy w' v.ownBlock->SameOrNew w v v'->K (a.put o.dst v') w') :
  if Region.wanted o (yielded ops a.tmps)=true then Oper.wp P o a w K Q else E:=by
 have hw:Region.wanted o (yielded ops a.tmps)=true:=by simp [Region.wanted,hgd]
 rw [if_pos hw]
 exact wp_push s x t ho base e z size bytes hinfo ht hzs hsz v n xs hs hown g c news hx hl hnews h1 hn hby hbase hK
structure Px where
 what:Nat
 k:Nat
 l:List Px
def oneP (k:Nat):Px:=⟨0,k,[]⟩
def rowP (l:List Px):Px:=⟨1,0,l⟩
def eitherP (l:List Px):Px:=match l with
 | [x]=>x
 | l=>⟨2,0,l⟩
def starP (x:Px):Px:=⟨3,0,[x]⟩
def plusP (x:Px):Px:=⟨4,0,[x]⟩
def maybeP (x:Px):Px:=⟨2,0,[x,rowP []]⟩
abbrev St:=Nat × List Nat
def leadS (S:List St) (f t:Nat):List St:=S.modify f fun s=>(s.1,s.2++[t])
def mk:Nat->Px->List St->Nat->List St × Nat
 | 0,_,S,b=>(S,b)
 | d+1,x,S,b =>
  if x.what=0 then (S++[(x.k,[b])],S.length)
  else if x.what=1 then x.l.foldr (fun y r=>mk d y r.1 r.2) (S,b)
  else if x.what=2 then (x.l.foldl (fun Z y=>leadS (mk d y Z b).1 S.length (mk d y Z b).2) (S++[(0,[])]),S.length)
  else match x.l with
   | [y]=>(leadS (mk d y (S++[(0,[b])]) S.length).1 S.length (mk d y (S++[(0,[b])]) S.length).2,if x.what=3 then S.length else (mk d y (S++[(0,[b])]) S.length).2)
   | _=>(S,b)
def wtx:Nat->Px->Nat
 | 0,_=>0
 | d+1,x =>
  if x.what=0 then 1
  else if x.what=1 then (x.l.map (wtx d)).sum
  else if x.what=2 then 1+(x.l.map fun y=>1+wtx d y).sum
  else 2+(x.l.map (wtx d)).sum
def tot (S:List St):Nat:=(S.map fun s=>s.2.length).sum
theorem leadS_len (S:List St) (f t:Nat):(leadS S f t).length=S.length:=by unfold leadS;simp
theorem leadS_tot (S:List St) (f t:Nat):tot (leadS S f t)<=tot S+1:=by
 unfold leadS
 induction S generalizing f with
 | nil=>simp [tot]
 | cons a S ih =>
  cases f with
  | zero=>simp [tot];omega
  | succ f=>have:=ih f;simp [tot] at *;omega
theorem tot_mem {S:List St} {s:St} (h:s ∈ S):s.2.length<=tot S:=by
 induction S with
 | nil=>simp at h
 | cons a S ih =>
  simp only [tot,List.map_cons,List.sum_cons] at *
  rcases List.mem_cons.1 h with rfl | h
  ·omega
  ·have:=ih h;omega
def Adds (n:Nat) (S R:List St):Prop:=S.length<=R.length/\R.length<=S.length+n/\tot R<=tot S+n
theorem Adds.trans {n m k:Nat} {S R Q:List St} (h:Adds n S R) (h':Adds m R Q) (hk:n+m<=k):Adds k S Q:=by
 unfold Adds at *;omega
theorem mk_adds (d:Nat):∀ (x:Px) (S:List St) (b:Nat),Adds (wtx d x) S (mk d x S b).1:=by
 induction d with
 | zero=>intro x S b;simp [mk,wtx,Adds]
 | succ d ih =>
  intro x S b
  rw [mk,wtx]
  split
  ·simp [Adds,tot]
  ·split
   ·have key:∀ (l:List Px),Adds (l.map (wtx d)).sum S (l.foldr (fun y r=>mk d y r.1 r.2) (S,b)).1:=by
     intro l
     induction l with
     | nil=>simp [Adds]
     | cons y l ihl =>
      rw [List.foldr_cons,List.map_cons,List.sum_cons]
      exact ihl.trans (ih y _ _) (by omega)
    exact key x.l
   ·split
    ·have key:∀ (l:List Px) (Z:List St),Adds (l.map fun y=>1+wtx d y).sum Z (l.foldl (fun Z y=>leadS (mk d y Z b).1 S.length (mk d y Z b).2) Z):=by
      intro l
      induction l with
      | nil=>simp [Adds]
      | cons y l ihl =>
       intro Z
       rw [List.foldl_cons,List.map_cons,List.sum_cons]
       have h1:=ih y Z b
       have h2:Adds 1 (mk d y Z b).1 (leadS (mk d y Z b).1 S.length (mk d y Z b).2):=⟨by rw [leadS_len];omega,by rw [leadS_len];omega,leadS_tot _ _ _⟩
       exact (h1.trans h2 (Nat.le_refl _)).trans (ihl _) (by omega)
     have h0:Adds 1 S (S++[(0,[])]):=by simp [Adds,tot]
     exact h0.trans (key x.l (S++[(0,[])])) (by omega)
    ·split
     ·rename_i y hy
      have h0:Adds 1 S (S++[(0,[b])]):=by simp [Adds,tot]
      have h1:=ih y (S++[(0,[b])]) S.length
      have h2:Adds 1 (mk d y (S++[(0,[b])]) S.length).1 (leadS (mk d y (S++[(0,[b])]) S.length).1 S.length (mk d y (S++[(0,[b])]) S.length).2):=⟨by rw [leadS_len];omega,by rw [leadS_len];omega,leadS_tot _ _ _⟩
      simp only [hy,List.map_cons,List.map_nil,List.sum_cons,List.sum_nil]
      exact (h0.trans h1 (Nat.le_refl _)).trans h2 (by omega)
     ·simp [Adds]
def fnv (f q:Nat):Value:=.func (.func f) #[] #[.pointer (some ⟨q,0,none⟩)]
def PtRow (R:Value->Px->Prop) (A:Nat->Prop) (w:World) (v:Value) (l:List Px):Prop :=
 ∃ us:List Value,us.length=l.length/\l.length<=9000/\w.ownsRow 0 224 1 v l.length us/\(∀ k,v.ownBlock=some k->A k)/\∀ (i:Nat) (u:Value) (x:Px),us[i]?=some u->l[i]?=some x->R u x
def PIn:Nat->(Nat->Prop)->World->Value->Px->Prop
 | 0,_,_,_,_=>False
 | d+1,A,w,v,x=>∃ q,A q /\
  ((x.what=0/\v=fnv 255 q/\w.heap[q]?=some (.cells #[.int .u8 x.k] 167 (0,0))/\x.k<256) \/
   (x.what=1/\v=fnv 206 q/\∃ vR,w.heap[q]?=some (.cells #[vR] 337 (0,0))/\PtRow (PIn d A w) A w vR x.l) \/
   (x.what=2/\v=fnv 225 q/\∃ vR,w.heap[q]?=some (.cells #[vR] 337 (0,0))/\PtRow (PIn d A w) A w vR x.l) \/
   (x.what=3/\v=fnv 250 q/\∃ u y,x.l=[y]/\w.heap[q]?=some (.cells #[u] 224 (0,0))/\PIn d A w u y) \/
   (x.what=4/\v=fnv 252 q/\∃ u y,x.l=[y]/\w.heap[q]?=some (.cells #[u] 224 (0,0))/\PIn d A w u y))
def PtType (t:TypeId):Prop:=t=167\/t=337\/t=224
def KeepPt (A:Nat->Prop) (w w':World):Prop:=∀ (k:Nat) (cs:Array Value) (t:TypeId) (m:Nat × Nat),A k->PtType t->w.heap[k]?=some (.cells cs t m)->w'.heap[k]?=some (.cells cs t m)
theorem PtRow.turn {R R':Value->Px->Prop} {A A':Nat->Prop} {w w':World} {v:Value} {l:List Px} (h:PtRow R A w v l) (hk:KeepPt A w w') (hA:∀ k,k<w.heap.size->A k->A' k) (hR:∀ u x,R u x->R' u x):PtRow R' A' w' v l:=by
 obtain ⟨us,h1,h0,h2,h3,h4⟩:=h
 refine ⟨us,h1,h0,⟨h2.1,?_⟩,fun k e=>hA k (h2.lt k e).2 (h3 k e),fun i u x hu hx=>hR _ _ (h4 i u x hu hx)⟩
 rcases h2.2 with h | ⟨g,cap,cur,hv,hg,hh,r⟩
 ·exact Or.inl h
 ·exact Or.inr ⟨g,cap,cur,hv,hg,hk _ _ _ _ (h3 g (by rw [hv];rfl)) (Or.inr (Or.inr rfl)) hh,r⟩
theorem PtRow.len {R:Value->Px->Prop} {A:Nat->Prop} {w:World} {v:Value} {l:List Px} (h:PtRow R A w v l):l.length<=9000:=by
 obtain ⟨us,h1,h0,h2,h3,h4⟩:=h
 exact h0
theorem heap_lt {w:World} {k:Nat} {o:Obj} (h:w.heap[k]?=some o):k<w.heap.size:=(Array.getElem?_eq_some_iff.1 h).1
theorem PIn.turn {A A':Nat->Prop} {w w':World} (hk:KeepPt A w w') (hA:∀ k,k<w.heap.size->A k->A' k):∀ {d v x},PIn d A w v x->PIn d A' w' v x:=by
 intro d
 induction d with
 | zero=>intro v x h;exact h.elim
 | succ d ih =>
  intro v x h
  obtain ⟨q,hq,h⟩:=h
  rcases h with ⟨h1,h2,h3,h4⟩ | ⟨h1,h2,vR,h3,h4⟩ | ⟨h1,h2,vR,h3,h4⟩ | ⟨h1,h2,u,y,h3,h4,h5⟩ | ⟨h1,h2,u,y,h3,h4,h5⟩
  ·exact ⟨q,hA q (heap_lt h3) hq,Or.inl ⟨h1,h2,hk _ _ _ _ hq (Or.inl rfl) h3,h4⟩⟩
  ·exact ⟨q,hA q (heap_lt h3) hq,Or.inr (Or.inl ⟨h1,h2,vR,hk _ _ _ _ hq (Or.inr (Or.inl rfl)) h3,h4.turn hk hA (fun u x hu=>ih hu)⟩)⟩
  ·exact ⟨q,hA q (heap_lt h3) hq,Or.inr (Or.inr (Or.inl ⟨h1,h2,vR,hk _ _ _ _ hq (Or.inr (Or.inl rfl)) h3,h4.turn hk hA (fun u x hu=>ih hu)⟩))⟩
  ·exact ⟨q,hA q (heap_lt h4) hq,Or.inr (Or.inr (Or.inr (Or.inl ⟨h1,h2,u,y,h3,hk _ _ _ _ hq (Or.inr (Or.inr rfl)) h4,ih h5⟩)))⟩
  ·exact ⟨q,hA q (heap_lt h4) hq,Or.inr (Or.inr (Or.inr (Or.inr ⟨h1,h2,u,y,h3,hk _ _ _ _ hq (Or.inr (Or.inr rfl)) h4,ih h5⟩)))⟩
theorem KeepPt.refl (A:Nat->Prop) (w:World):KeepPt A w w:=fun _ _ _ _ _ _ h=>h
theorem KeepPt.below {B:Nat} {w w':World} (h:Below B w w') {A:Nat->Prop} (hA:∀ k,k<w.heap.size->A k->k<B):KeepPt A w w':=fun k cs t m ha _ hh=>by
 rw [h.block k (hA k (heap_lt hh) ha)];exact hh
theorem PIn.later {B d:Nat} {w w':World} {v:Value} {x:Px} (h:PIn d (fun k=>k<B) w v x) (hb:Below B w w'):PIn d (fun k=>k<B) w' v x:=h.turn (KeepPt.below hb fun _ _ h=>h) fun _ _ h=>h
theorem PIn.deeper {A:Nat->Prop} {w:World}:∀ {d e v x},d<=e->PIn d A w v x->PIn e A w v x:=by
 intro d
 induction d with
 | zero=>intro e v x _ h;exact h.elim
 | succ d ih =>
  intro e v x he h
  cases e with
  | zero=>omega
  | succ e =>
   obtain ⟨q,hq,h⟩:=h
   have he':d<=e:=by omega
   have row:∀ {vR l},PtRow (PIn d A w) A w vR l->PtRow (PIn e A w) A w vR l:=fun h=>h.turn (KeepPt.refl _ _) (fun _ _ h=>h) (fun _ _ h=>ih he' h)
   rcases h with ⟨h1,h2,h3,h4⟩ | ⟨h1,h2,vR,h3,h4⟩ | ⟨h1,h2,vR,h3,h4⟩ | ⟨h1,h2,u,y,h3,h4,h5⟩ | ⟨h1,h2,u,y,h3,h4,h5⟩
   ·exact ⟨q,hq,Or.inl ⟨h1,h2,h3,h4⟩⟩
   ·exact ⟨q,hq,Or.inr (Or.inl ⟨h1,h2,vR,h3,row h4⟩)⟩
   ·exact ⟨q,hq,Or.inr (Or.inr (Or.inl ⟨h1,h2,vR,h3,row h4⟩))⟩
   ·exact ⟨q,hq,Or.inr (Or.inr (Or.inr (Or.inl ⟨h1,h2,u,y,h3,h4,ih he' h5⟩)))⟩
   ·exact ⟨q,hq,Or.inr (Or.inr (Or.inr (Or.inr ⟨h1,h2,u,y,h3,h4,ih he' h5⟩)))⟩
def stCells (S:List St) (tv:List Value):List Value:=(S.zip tv).flatMap fun o=>[.int .u8 o.1.1,o.2]
def intCells (l:List Nat):List Value:=l.map fun (n:Nat)=>Value.int .i64 (n:Int)
structure MRow (w:World) (base:Nat) (vS:Value) (S:List St) (tv:List Value):Prop where
 len:tv.length=S.length
 row:w.ownsRow base 293 2 vS S.length (stCells S tv)
 to_:∀ (i:Nat) (v:Value) (s:St),tv[i]?=some v->S[i]?=some s->w.ownsRow base 3 1 v s.2.length (intCells s.2)
 apart:∀ (i j:Nat) (v u:Value) (k:Nat),i ≠ j->tv[i]?=some v->tv[j]?=some u->v.ownBlock=some k->u.ownBlock ≠ some k
def MIn (w:World) (base m:Nat) (S:List St) (first:Int):Prop :=
 base<=m/\∃ vS tv,w.heap[m]?=some (.cells #[vS,.int .i64 first] 146 (0,0))/\MRow w base vS S tv
theorem stCells_at:∀ (S:List St) (tv:List Value) (i:Nat) (s:St) (v:Value),S[i]?=some s->tv[i]?=some v->(stCells S tv)[i * 2]?=some (.int .u8 s.1)/\(stCells S tv)[i * 2+1]?=some v:=by
 intro S
 induction S with
 | nil=>intro tv i s v h;simp at h
 | cons a S ih =>
  intro tv i s v h1 h2
  cases tv with
  | nil=>simp at h2
  | cons u tv =>
   cases i with
   | zero=>simp at h1 h2;subst h1;subst h2;simp [stCells]
   | succ i =>
    simp at h1 h2
    have:=ih tv i s v h1 h2
    have e:∀ k,(stCells (a :: S) (u :: tv))[(i+1) * 2+k]?=(stCells S tv)[i * 2+k]?:=by
     intro k;rw [show (i+1) * 2+k=(i * 2+k)+2 from by omega];rfl
    have e0:=e 0;have e1:=e 1
    simp only [Nat.add_zero] at e0
    rw [e0,e1];exact this
theorem stCells_snoc (S:List St) (tv:List Value) (s:St) (v:Value) (h:tv.length=S.length):stCells (S++[s]) (tv++[v])=stCells S tv++[.int .u8 s.1,v]:=by
 unfold stCells;rw [List.zip_append h.symm];simp
theorem Tryz.infoState:(Tryz.prog.info? 293).map (fun i=>(i.zero,i.size,i.bytes))=some (some (.agg #[.int .u8 0,.slice none 0 0]),2,32):=by kernel_rfl
theorem Tryz.undState:Tryz.prog.underlying 144=some (.slice 293):=by kernel_rfl
theorem Tryz.infoInt:(Tryz.prog.info? 3).map (fun i=>(i.zero,i.size,i.bytes))=some (some (.int .i64 0),1,8):=by kernel_rfl
theorem Tryz.undInt:Tryz.prog.underlying 33=some (.slice 3):=by kernel_rfl
theorem row_shape {w:World} {base:Nat} {e:TypeId} {size:Nat} {v:Value} {n:Nat} {us:List Value} (h:w.ownsRow base e size v n us):∃ ao cap,v=.slice ao n cap:=by
 rcases h.2 with ⟨hv,hn⟩ | ⟨g,cap,cur,hv,_⟩
 ·exact ⟨none,0,by rw [hv,hn]⟩
 ·exact ⟨_,cap,hv⟩
theorem row_on {w w':World} {base:Nat} {e:TypeId} {size:Nat} {v:Value} {n:Nat} {us:List Value} (h:w.ownsRow base e size v n us) (hk:∀ k,v.ownBlock=some k->w'.heap[k]?=w.heap[k]?):w'.ownsRow base e size v n us:=by
 refine ⟨h.1,?_⟩
 rcases h.2 with h2 | ⟨g,cap,cur,hv,hg,hh,r⟩
 ·exact Or.inl h2
 ·exact Or.inr ⟨g,cap,cur,hv,hg,(hk g (by rw [hv];rfl)).trans hh,r⟩
theorem row_type {w:World} {base:Nat} {e:TypeId} {size:Nat} {v:Value} {n:Nat} {us:List Value} (h:w.ownsRow base e size v n us) (k:Nat) (hk:v.ownBlock=some k):∃ cs,w.heap[k]?=some (.cells cs e (0,0)):=by
 rcases h.2 with ⟨hv,_⟩ | ⟨g,cap,cur,hv,hg,hh,r⟩
 ·rw [hv] at hk;simp [Value.ownBlock] at hk
 ·rw [hv] at hk;simp [Value.ownBlock] at hk;subst hk;exact ⟨cur,hh⟩
theorem type_ne {w:World} {k l:Nat} {c d:Array Value} {t u:TypeId} {m n:Nat × Nat} (h:w.heap[k]?=some (.cells c t m)) (h':w.heap[l]?=some (.cells d u n)) (ht:t ≠ u):k ≠ l:=by
 intro e;subst e;rw [h] at h';simp at h';exact ht h'.2.1
def Kp (t:TypeId) (w w':World):Prop:=∀ (k:Nat) (cs:Array Value) (m:Nat × Nat),w.heap[k]?=some (.cells cs t m)->w'.heap[k]?=some (.cells cs t m)
theorem Kp.refl (t:TypeId) (w:World):Kp t w w:=fun _ _ _ h=>h
theorem Kp.trans {t:TypeId} {a b c:World} (h:Kp t a b) (k:Kp t b c):Kp t a c:=fun i cs m hh=>k i cs m (h i cs m hh)
theorem Kp.below {t:TypeId} {w w':World} (h:Below w.heap.size w w'):Kp t w w':=fun k cs m hh=>by rw [h.block k (heap_lt hh)];exact hh
theorem Kp.alloc {t:TypeId} {a w:World} (h:Kp t a w) (o:Obj):Kp t a (w.alloc o):=fun k cs m hh=>by rw [Below.heap_alloc _ _ _ (heap_lt (h k cs m hh))];exact h k cs m hh
theorem Kp.drewN {t:TypeId} {a w:World} (h:Kp t a w) (n:Nat):Kp t a (w.drewN n):=h
theorem Kp.grown {t e:TypeId} {base size n:Nat} {a w w':World} {v:Value} {us:List Value} (h:Kp t a w) (hown:w.ownsRow base e size v n us) (hg:w.grownBy w' v.ownBlock) (ht:t ≠ e):Kp t a w':=fun k cs m hh=>by
 have h1:=h k cs m hh
 rw [hg.block k (heap_lt h1) (fun e1=>by obtain ⟨c2,h2⟩:=row_type hown k e1.symm;exact type_ne h1 h2 ht rfl)];exact h1
theorem Kp.setCell {t t0:TypeId} {a w:World} {b o:Nat} {cs0:Array Value} {m0:Nat × Nat} (h:Kp t a w) (hb:w.heap[b]?=some (.cells cs0 t0 m0)) (ht:t ≠ t0) (u:Value):Kp t a (w.setCell ⟨b,o,none⟩ u):=fun k cs m hh=>by
 have h1:=h k cs m hh
 rw [Below.heap_setCell _ _ _ _ (type_ne h1 hb ht)];exact h1
theorem row_kp {w w':World} {base:Nat} {e:TypeId} {size:Nat} {v:Value} {n:Nat} {us:List Value} (h:w.ownsRow base e size v n us) (hk:Kp e w w'):w'.ownsRow base e size v n us :=
 row_on h fun k e1=>by obtain ⟨cs,hh⟩:=row_type h k e1;rw [hh];exact hk k cs _ hh
theorem kept_grown {w W w':World} {m base size n:Nat} {t e:TypeId} {cs:Array Value} {v:Value} {us:List Value} (hm:w.heap[m]?=some (.cells cs t (0,0))) (h1:Kp t w W) (hown:W.ownsRow base e size v n us) (hg:W.grownBy w' v.ownBlock) (ht:t ≠ e):w'.heap[m]?=some (.cells cs t (0,0)) :=
 (h1.grown hown hg ht) m cs _ hm
theorem two_cells (a b:Value) (ha:a.oneCell'=true) (hb:b.oneCell'=true):∀ u ∈ [a,b],u.oneCell'=true:=by
 intro u hu;simp at hu;rcases hu with rfl | rfl <;> assumption
theorem snoc_at {α:Type} {l:List α} {a x:α} {i:Nat} (h:(l++[a])[i]?=some x):(l[i]?=some x/\i<l.length)\/(i=l.length/\x=a):=by
 rcases Nat.lt_trichotomy i l.length with h1 | h1 | h1
 ·left;rw [List.getElem?_append_left h1] at h;exact ⟨h,h1⟩
 ·right;subst h1;simp at h;exact ⟨rfl,h.symm⟩
 ·rw [List.getElem?_append_right (by omega)] at h
  rw [show i - l.length=(i - l.length - 1)+1 from by omega] at h
  simp at h
theorem setCell0 {w:World} {m:Nat} {a b v:Value} {t:TypeId} (h:w.heap[m]?=some (.cells #[a,b] t (0,0))):(w.setCell ⟨m,0,none⟩ v).heap[m]?=some (.cells #[v,b] t (0,0)):=(block_setCell h 0 _).trans rfl
theorem MRow.push {w w2:World} {base:Nat} {vS vS' v:Value} {S:List St} {tv:List Value} {k:Nat} {to_:List Nat} (h:MRow w base vS S tv) (hrow:w2.ownsRow base 293 2 vS' (S.length+1) (stCells S tv++[.int .u8 k,v]))
  (hk:Kp 3 w w2) (hv:w.ownsRow base 3 1 v to_.length (intCells to_)) (hn:∀ (i:Nat) (u:Value) (j:Nat),tv[i]?=some u->u.ownBlock=some j->v.ownBlock ≠ some j):MRow w2 base vS' (S++[(k,to_)]) (tv++[v]):=by
 have hl:=h.len
 refine ⟨by simp [hl],?_,?_,?_⟩
 ·rw [stCells_snoc _ _ _ _ hl,List.length_append];exact hrow
 ·intro i u s hu hs
  rcases snoc_at hu with ⟨h1,h2⟩ | ⟨h1,rfl⟩
  ·rcases snoc_at hs with ⟨h3,h4⟩ | ⟨h3,rfl⟩
   ·exact row_kp (h.to_ i u s h1 h3) hk
   ·omega
  ·rcases snoc_at hs with ⟨h3,h4⟩ | ⟨h3,rfl⟩
   ·omega
   ·exact row_kp hv hk
 ·intro i j u x k hij hu hx hk'
  rcases snoc_at hu with ⟨h1,h2⟩ | ⟨h1,rfl⟩
  ·rcases snoc_at hx with ⟨h3,h4⟩ | ⟨h3,rfl⟩
   ·exact h.apart i j u x k hij h1 h3 hk'
   ·exact hn i u k h1 hk'
  ·rcases snoc_at hx with ⟨h3,h4⟩ | ⟨h3,rfl⟩
   ·intro e;exact hn j x k h3 e hk'
   ·omega
set_option maxRecDepth 100000 in
set_option maxHeartbeats 2000000 in
theorem add_at (base m:Nat) (S:List St) (first:Int) (k:Nat) (to_:List Nat) (v vS:Value) (tv:List Value) (w:World) (hbm:base<=m) (hm:w.heap[m]?=some (.cells #[vS,.int .i64 first] 146 (0,0))) (hr:MRow w base vS S tv)
  (hb:base<=w.heap.size) (hS:S.length<=9000) (hv:w.ownsRow base 3 1 v to_.length (intCells to_)) (hnew:∀ (i:Nat) (u:Value) (j:Nat),tv[i]?=some u->u.ownBlock=some j->v.ownBlock ≠ some j) :
  Calls Tryz.prog 226 #[.pointer (some ⟨m,0,none⟩),.int .u8 k,v] w fun e w'=>e=.returned (.int .i64 S.length)/\MIn w' base m (S++[(k,to_)]) first/\Below base w w':=by
 obtain ⟨ao,cap,rfl⟩:=row_shape hr.row
 obtain ⟨aov,capv,rfl⟩:=row_shape hv
 have c0:=cell_of_block hm 0 _ rfl
 have hf:=free_of_block hm
 have HR:Hid (w.ownsRow base 293 2 (.slice ao S.length cap) S.length (stCells S tv)):=hr.row
 have HM:Hid (w.heap[m]?=some (.cells #[.slice ao S.length cap,.int .i64 first] 146 (0,0))):=hm
 have HV:Hid (w.ownsRow base 3 1 (.slice aov to_.length capv) to_.length (intCells to_)):=hv
 have HN:Hid (∀ (i:Nat) (u:Value) (j:Nat),tv[i]?=some u->u.ownBlock=some j->Value.ownBlock (.slice aov to_.length capv) ≠ some j):=hnew
 have HRR:Hid (MRow w base (.slice ao S.length cap) S tv):=hr
 clear hr hm hv hnew
 go_enter Tryz.func226,Tryz.ntmps226
 go_wp2_with (at_builtin;refine wpList_push2 rfl (.tmp 11) (.tmp 15) 144 rfl base 293 (.agg #[.int .u8 0,.slice none 0 0]) 2 32 Tryz.infoState Tryz.undState rfl (by decide) (.slice ao S.length cap) S.length (stCells S tv) rfl (by exact HR.out.alloc _) w.heap.size 1 [.int .u8 k,.slice aov to_.length capv] rfl rfl (fun j u hu=>by rw [cell_of_block (heap_alloc_new w _) j u (by simpa using hu)]) (two_cells _ _ rfl rfl) (by omega) (by omega) (by simp;omega) ?_;intro v' w' hown hg hsn;obtain ⟨ao',cap',rfl⟩:=row_shape hown;have hm':=kept_grown HM.out ((Kp.refl _ w).alloc _) (HR.out.alloc _) hg (by decide);have e0:=cell_of_block hm' 0 _ rfl;have ef:=free_of_block hm')
 go_ret
 refine ⟨rfl,⟨hbm,_,tv++[.slice aov to_.length capv],setCell0 hm',?_⟩,?_⟩
 ·refine HRR.out.push ?_ ?_ HV.out HN.out
  ·exact row_kp hown ((Kp.refl _ _).setCell hm' (by decide) _)
  ·exact ((((Kp.refl _ w).alloc _).grown (HR.out.alloc _) hg (by decide))).setCell hm' (by decide) _
 ·refine Below.setCell (Below.grown ((Below.refl _ _).alloc hb _) hg (by simp;omega) fun k hk=>?_) hbm _
  exact (HR.out.lt k hk).1
theorem leadS_at {S:List St} {f t i:Nat} {s:St} (h:(leadS S f t)[i]?=some s):(i ≠ f/\S[i]?=some s)\/(i=f/\∃ s0,S[i]?=some s0/\s=(s0.1,s0.2++[t])):=by
 unfold leadS at h
 rw [List.getElem?_modify] at h
 by_cases e:f=i
 ·right
  subst e
  simp at h
  obtain ⟨a,b,h1,rfl⟩:=h
  exact ⟨rfl,_,h1,rfl⟩
 ·left
  refine ⟨fun e'=>e e'.symm,?_⟩
  cases hS:S[i]? with
  | none=>rw [hS] at h;simp at h
  | some x=>rw [hS] at h;simp [e] at h;rw [h]
theorem stCells_set:∀ (S:List St) (tv:List Value) (f t:Nat) (v:Value),tv.length=S.length->f<S.length->stCells (leadS S f t) (tv.set f v)=(stCells S tv).set (f * 2+1) v:=by
 intro S
 induction S with
 | nil=>intro tv f t v _ h;simp at h
 | cons a S ih =>
  intro tv f t v hl hf
  cases tv with
  | nil=>simp at hl
  | cons u tv =>
   cases f with
   | zero=>simp [stCells,leadS]
   | succ f =>
    have:=ih tv f t v (by simpa using hl) (by simpa using hf)
    rw [show (f+1) * 2+1=(f * 2+1)+2 from by omega]
    have e1:stCells (leadS (a :: S) (f+1) t) ((u :: tv).set (f+1) v)=.int .u8 a.1 :: u :: stCells (leadS S f t) (tv.set f v):=by simp [stCells,leadS]
    have e2:stCells (a :: S) (u :: tv)=.int .u8 a.1 :: u :: stCells S tv:=by simp [stCells]
    rw [e1,e2,this];rfl
theorem row_set {w:World} {base g n cap:Nat} {e:TypeId} {size:Nat} {us:List Value} (h:w.ownsRow base e size (.slice (some ⟨g,0,none⟩) n cap) n us) (o:Nat) (u:Value) :
  (w.setCell ⟨g,o,none⟩ u).ownsRow base e size (.slice (some ⟨g,0,none⟩) n cap) n (us.set o u):=by
 obtain ⟨h1,h2⟩:=h
 refine ⟨by rw [List.length_set];exact h1,?_⟩
 rcases h2 with ⟨hv,_⟩ | ⟨g',cap',cur,hv,hg,hh,hc1,hc2,hc3,hc4⟩
 ·simp at hv
 ·simp at hv
  obtain ⟨rfl,rfl⟩:=hv
  refine Or.inr ⟨g,cap,cur.setIfInBounds o u,rfl,hg,block_setCell hh o u,hc1,hc2,by simpa using hc3,?_⟩
  rw [Array.toList_setIfInBounds,List.take_set,hc4]
theorem MRow.lead {w w2:World} {base gS capS f t:Nat} {u v:Value} {S:List St} {tv:List Value} (h:MRow w base (.slice (some ⟨gS,0,none⟩) S.length capS) S tv) (hf:f<S.length) (hu:tv[f]?=some u)
  (hrow:w2.ownsRow base 293 2 (.slice (some ⟨gS,0,none⟩) S.length capS) S.length ((stCells S tv).set (f * 2+1) v))
  (hk:∀ (k:Nat),some k ≠ u.ownBlock->(∃ cs,w.heap[k]?=some (.cells cs 3 (0,0)))->w2.heap[k]?=w.heap[k]?)
  (hv:∀ (s:St),S[f]?=some s->w2.ownsRow base 3 1 v (s.2.length+1) (intCells s.2++[.int .i64 t])) (hn:v.ownBlock=u.ownBlock\/∃ k,v.ownBlock=some k/\w.heap.size<=k) :
  MRow w2 base (.slice (some ⟨gS,0,none⟩) S.length capS) (leadS S f t) (tv.set f v):=by
 have hl:=h.len
 have oth:∀ (i:Nat) (x:Value) (s:St),i ≠ f->tv[i]?=some x->S[i]?=some s->w2.ownsRow base 3 1 x s.2.length (intCells s.2):=by
  intro i x s hi hx hs
  have h0:=h.to_ i x s hx hs
  refine row_on h0 fun k hk'=>?_
  refine hk k (fun e=>?_) (row_type h0 k hk')
  exact h.apart i f x u k hi hx hu hk' e.symm
 have at_:∀ (i:Nat) (x:Value),(tv.set f v)[i]?=some x->(i ≠ f/\tv[i]?=some x)\/(i=f/\x=v):=by
  intro i x hx
  by_cases e:i=f
  ·right;subst e;rw [List.getElem?_set_self (by omega)] at hx;simp at hx;exact ⟨rfl,hx.symm⟩
  ·left;rw [List.getElem?_set_ne (fun e'=>e e'.symm)] at hx;exact ⟨e,hx⟩
 have apv:∀ (j:Nat) (x:Value) (k:Nat),j ≠ f->tv[j]?=some x->x.ownBlock=some k->v.ownBlock ≠ some k:=by
  intro j x k hj hx hk' e
  rcases hn with hn | ⟨k',hn,hge⟩
  ·exact h.apart j f x u k hj hx hu hk' (by rw [<- hn];exact e)
  ·have hjl:j<S.length:=by rw [<- hl];exact (List.getElem?_eq_some_iff.1 hx).1
   have:=((h.to_ j x _ hx (List.getElem?_eq_getElem hjl)).lt k hk').2
   rw [hn] at e;simp at e;omega
 refine ⟨by rw [List.length_set,leadS_len];exact hl,?_,?_,?_⟩
 ·rw [stCells_set S tv f t v hl hf,leadS_len];exact hrow
 ·intro i x s hx hs
  rcases leadS_at hs with ⟨h1,h2⟩ | ⟨h1,s0,h2,rfl⟩
  ·rcases at_ i x hx with ⟨h3,h4⟩ | ⟨h3,h4⟩
   ·exact oth i x s h1 h4 h2
   ·exact absurd h3 h1
  ·subst h1
   rcases at_ i x hx with ⟨h3,h4⟩ | ⟨h3,rfl⟩
   ·exact absurd rfl h3
   ·have:=hv s0 h2
    simpa [intCells] using this
 ·intro i j x y k hij hx hy hk'
  rcases at_ i x hx with ⟨h3,h4⟩ | ⟨h3,rfl⟩
  ·rcases at_ j y hy with ⟨h5,h6⟩ | ⟨h5,rfl⟩
   ·exact h.apart i j x y k hij h4 h6 hk'
   ·exact apv i x k h3 h4 hk'
  ·rcases at_ j y hy with ⟨h5,h6⟩ | ⟨h5,rfl⟩
   ·intro e;exact apv j y k h5 h6 e hk'
   ·exact absurd (h3.trans h5.symm) hij
end Go.Proofs.YtodagkkjfipbgaaGreatDoor
