import Derived.Deep.RegionWith
import Derived.Test.YtodagkkjfipbgaaGreatDoorN15toN17
namespace Go.Proofs.YtodagkkjfipbgaaGreatDoor
open Go.RowKit Go.Maps
def ptrP (o:Option Nat):Value:=.pointer (o.map fun p=>⟨p,0,none⟩)
structure Nd where
 p:Nat
 size:Nat
 st:Option Bool
 beside:Option Nat
def plC (x:Nd) (behind:Option Nat):Array Value:=#[.int .i64 x.size,.bool x.st.isSome,.bool (x.st.getD false),ptrP behind,ptrP x.beside]
def nextP (ns:List Nd) (i:Nat):Option Nat:=(ns[i+1]?).map Nd.p
def SeqIn (w:World) (ns:List Nd):Prop:=∀ (i:Nat) (x:Nd),ns[i]?=some x->w.heap[x.p]?=some (.cells (plC x (nextP ns i)) 330 (0,0))
def Apart (ns:List Nd):Prop:=∀ (i j:Nat) (x y:Nd),ns[i]?=some x->ns[j]?=some y->x.p=y.p->i=j
def ChainOk (ns:List Nd) (c:List Nat):Prop:=∀ (i p:Nat),c[i]?=some p->∃ x ∈ ns,x.p=p/\x.st=none/\x.beside=c[i+1]?
def settleX (c:List Nat) (cut:Bool) (x:Nd):Nd:=if x.p ∈ c then { x with st:=some cut,beside:=none } else x
theorem settleX_p (c:List Nat) (cut:Bool) (x:Nd):(settleX c cut x).p=x.p:=by unfold settleX;split <;> rfl
theorem nextP_map (f:Nd->Nd) (hf:∀ x,(f x).p=x.p) (ns:List Nd) (i:Nat):nextP (ns.map f) i=nextP ns i:=by
 unfold nextP
 rw [List.getElem?_map,Option.map_map]
 congr 1
 funext x
 exact hf x
theorem SeqIn.map {w:World} {f:Nd->Nd} (hf:∀ x,(f x).p=x.p) {ns:List Nd} (h:∀ (i:Nat) (x:Nd),ns[i]?=some x->w.heap[x.p]?=some (.cells (plC (f x) (nextP ns i)) 330 (0,0))):SeqIn w (ns.map f):=by
 intro i y hy
 rw [List.getElem?_map] at hy
 obtain ⟨x,hx,rfl⟩:=Option.map_eq_some_iff.1 hy
 rw [nextP_map f hf,hf]
 exact h i x hx
theorem SeqIn.below {w w':World} {ns:List Nd} (h:SeqIn w ns) (hb:Below w.heap.size w w'):SeqIn w' ns:=fun i x hx=>(hb.block _ (heap_lt (h i x hx))).trans (h i x hx)
theorem Apart.map {f:Nd->Nd} (hf:∀ x,(f x).p=x.p) {ns:List Nd} (h:Apart ns):Apart (ns.map f):=by
 intro i j x y hx hy e
 rw [List.getElem?_map] at hx hy
 obtain ⟨x',hx',rfl⟩:=Option.map_eq_some_iff.1 hx
 obtain ⟨y',hy',rfl⟩:=Option.map_eq_some_iff.1 hy
 rw [hf,hf] at e
 exact h i j x' y' hx' hy' e
theorem Apart.eq {ns:List Nd} (h:Apart ns) {x y:Nd} (hx:x ∈ ns) (hy:y ∈ ns) (e:x.p=y.p):x=y:=by
 obtain ⟨i,hi⟩:=List.mem_iff_getElem?.1 hx
 obtain ⟨j,hj⟩:=List.mem_iff_getElem?.1 hy
 have:=h i j x y hi hj e
 subst this
 rw [hi] at hj
 exact Option.some.inj hj
theorem settle_take {c:List Nat} {i p:Nat} (hp:c[i]?=some p) (cut:Bool) (x:Nd):settleX (c.take (i+1)) cut x=if x.p=p then { x with st:=some cut,beside:=none } else settleX (c.take i) cut x:=by
 unfold settleX
 rw [List.take_add_one,hp]
 simp only [Option.toList_some,List.mem_append,List.mem_singleton]
 by_cases e:x.p=p
 ·rw [if_pos (Or.inr e),if_pos e]
 ·rw [if_neg e]
  by_cases h:x.p ∈ c.take i
  ·rw [if_pos (Or.inl h),if_pos h]
  ·rw [if_neg (fun h'=>h'.elim h e),if_neg h]
theorem not_in_take {c:List Nat} (hc:c.Nodup) {i p:Nat} (hp:c[i]?=some p):¬ p ∈ c.take i:=by
 intro h
 obtain ⟨j,hj⟩:=List.mem_iff_getElem?.1 h
 rw [List.getElem?_take] at hj
 split at hj
 ·rename_i hji
  have h1:=List.getElem?_eq_some_iff.1 hj
  have h2:=List.getElem?_eq_some_iff.1 hp
  exact (List.pairwise_iff_getElem.1 hc) j i h1.1 h2.1 hji (by rw [h1.2,h2.2])
 ·cases hj
theorem settle_one {w:World} {ns:List Nd} {c:List Nat} {cut:Bool} {i p:Nat} (hA:Apart ns) (hN:c.Nodup) (hC:ChainOk ns c) (hp:c[i]?=some p) (hS:SeqIn w (ns.map (settleX (c.take i) cut))) :
  ∃ (sz:Nat) (bh:Option Nat),w.heap[p]?=some (.cells #[.int .i64 sz,.bool false,.bool false,ptrP bh,ptrP c[i+1]?] 330 (0,0)) /\
   ∀ w',w'.heap[p]?=some (.cells #[.int .i64 sz,.bool true,.bool cut,ptrP bh,ptrP none] 330 (0,0))->(∀ k,k ≠ p->k<w.heap.size->w'.heap[k]?=w.heap[k]?)->SeqIn w' (ns.map (settleX (c.take (i+1)) cut)):=by
 obtain ⟨x,hx,hxp,hst,hbe⟩:=hC i p hp
 obtain ⟨j,hj⟩:=List.mem_iff_getElem?.1 hx
 have hsx:settleX (c.take i) cut x=x:=by unfold settleX;rw [if_neg (by rw [hxp];exact not_in_take hN hp)]
 have h0:=hS j x (by rw [List.getElem?_map,hj,Option.map_some,hsx])
 rw [nextP_map _ (settleX_p _ _)] at h0
 unfold plC at h0
 rw [hxp,hst,hbe] at h0
 refine ⟨x.size,nextP ns j,h0,fun w' h1 h2=>SeqIn.map (settleX_p _ _) fun m y hy=>?_⟩
 rw [settle_take hp]
 by_cases e:y.p=p
 ·have hmj:m=j:=hA m j y x hy hj (by rw [e,hxp])
  subst hmj
  rw [hj] at hy
  cases hy
  rw [if_pos e,e]
  exact h1
 ·rw [if_neg e]
  have h3:=hS m (settleX (c.take i) cut y) (by rw [List.getElem?_map,hy];rfl)
  rw [nextP_map _ (settleX_p _ _),settleX_p] at h3
  rw [h2 y.p e (heap_lt h3)]
  exact h3
theorem cells3 {w:World} {p:Nat} {a b c d e u v x:Value} {t:TypeId} (h:w.heap[p]?=some (.cells #[a,b,c,d,e] t (0,0))) :
  (((w.setCell ⟨p,1,none⟩ u).setCell ⟨p,2,none⟩ v).setCell ⟨p,4,none⟩ x).heap[p]?=some (.cells #[a,u,v,d,x] t (0,0)) :=
 (block_setCell ((block_setCell ((block_setCell h 1 _).trans rfl) 2 _).trans rfl) 4 _).trans rfl
theorem settle_all (c:List Nat) (cut:Bool) (ns:List Nd):ns.map (settleX (c.take c.length) cut)=ns.map (settleX c cut):=by rw [List.take_length]
theorem settle_none (cut:Bool) (ns:List Nd):ns.map (settleX [] cut)=ns:=by
 have:settleX [] cut=id:=by funext x;unfold settleX;simp
 rw [this,List.map_id]
def PlChg (ns:List Nd) (w w':World):Prop:=Chg (fun k=>∃ x ∈ ns,x.p=k) w w'
set_option maxRecDepth 100000 in
set_option maxHeartbeats 2000000 in
theorem gsettle_any (w:World) (ns:List Nd) (c:List Nat) (cut:Bool) (la:Option Nat) (hA:Apart ns) (hN:c.Nodup) (hC:ChainOk ns c) (hS:SeqIn w ns) :
  Calls Tryz.prog 168 #[.agg #[ptrP c.head?,ptrP la],.bool cut] w fun r w'=>r=.returned (.tuple #[])/\SeqIn w' (ns.map (settleX c cut))/\PlChg ns w w':=by
 have HA:Hid (Apart ns):=hA
 have HN:Hid c.Nodup:=hN
 have HC:Hid (ChainOk ns c):=hC
 have H0:Hid (SeqIn (w.alloc (.cells #[ptrP c.head?,ptrP la] 280)) (ns.map (settleX (c.take 0) cut))):=by
  rw [List.take_zero,settle_none]
  exact hS.below (below_alloc w _)
 have C0:Hid (PlChg ns w (w.alloc (.cells #[ptrP c.head?,ptrP la] 280))):=(Chg.refl _ w).alloc _
 have hh:c.head?=c[0]?:=by cases c <;> rfl
 rw [hh] at H0 C0 ⊢
 clear hA hN hC hS hh
 unfold ptrP at H0 C0 ⊢
 go_enter Tryz.func168,Tryz.ntmps168
 go_wp2_with fail
 go_loopg [4] c.length (fun gh pv wx=>∃ i:Nat,i<=c.length/\gh=c.length - i/\pv=ptrP c[i]?/\Hid (SeqIn wx (ns.map (settleX (c.take i) cut)))/\Hid (PlChg ns w wx))
 case atStart=>exact ⟨0,Nat.zero_le _,rfl,rfl,H0,C0⟩
 case round =>
  obtain ⟨i,hi,rfl,rfl,hS,hCg⟩:=hrel
  obtain ⟨w1,hw1⟩:∃ w1,w1=wr:=⟨wr,rfl⟩
  subst hw1
  clear H0 C0
  by_cases hlt:i<c.length
  ·obtain ⟨p,hp⟩:∃ p,c[i]?=some p:=⟨c[i],List.getElem?_eq_getElem hlt⟩
   obtain ⟨sz,bh,hb,hnx⟩:=settle_one HA.out HN.out HC.out hp hS.out
   obtain ⟨x,hxm,hxp,_⟩:=HC.out i p hp
   have N1:Hid (SeqIn (((w1.setCell ⟨p,1,none⟩ (.bool true)).setCell ⟨p,2,none⟩ (.bool cut)).setCell ⟨p,4,none⟩ (ptrP none)) (ns.map (settleX (c.take (i+1)) cut))):=by
    refine hnx _ (cells3 hb) fun k hk _=>?_
    rw [Below.heap_setCell _ _ _ _ hk,Below.heap_setCell _ _ _ _ hk,Below.heap_setCell _ _ _ _ hk]
   have N2:Hid (PlChg ns w (((w1.setCell ⟨p,1,none⟩ (.bool true)).setCell ⟨p,2,none⟩ (.bool cut)).setCell ⟨p,4,none⟩ (ptrP none))):=((hCg.out.setCell (q:=⟨p,1,none⟩) (Or.inr ⟨x,hxm,hxp⟩) _).setCell (q:=⟨p,2,none⟩) (Or.inr ⟨x,hxm,hxp⟩) _).setCell (q:=⟨p,4,none⟩) (Or.inr ⟨x,hxm,hxp⟩) _
   have c4:=cell_of_block hb 4 _ rfl
   have c1:=cell_of_block hb 1 _ rfl
   have c2:=cell_of_block hb 2 _ rfl
   have fr:=free_of_block hb
   rw [hp]
   clear hnx hS hCg hp hxm hxp
   obtain ⟨nx,hnx⟩:∃ nx,nx=ptrP c[i+1]?:=⟨_,rfl⟩
   have HNX:Hid (nx=ptrP c[i+1]?):=hnx
   rw [<- hnx] at c4
   clear hnx hb
   unfold ptrP at *
   simp only [Option.map_some,Option.map_none] at *
   go_wp2_with fail
   go_roundg (c.length - (i+1))
   case measure=>omega
   case rel=>exact ⟨i+1,by omega,rfl,HNX.out,N1,N2⟩
  ·obtain rfl:i=c.length:=by omega
   have e:c[c.length]?=none:=by simp
   rw [e]
   unfold ptrP
   simp only [Option.map_none]
   go_wp2_with fail
   go_end0
   rw [settle_all] at hS
   exact ⟨rfl,hS.out,hCg.out⟩
def setTo (n:Nat) (f:Nat->Bool) (V:List Vw):List Vw:=V.mapIdx fun j v=>if j<n then (v.1,f j,v.2.2) else v
theorem setTo_len (n:Nat) (f:Nat->Bool) (V:List Vw):(setTo n f V).length=V.length:=by unfold setTo;simp
theorem setTo_at (n:Nat) (f:Nat->Bool) (V:List Vw) (i:Nat):(setTo n f V)[i]?=(V[i]?).map fun v=>if i<n then (v.1,f i,v.2.2) else v:=by unfold setTo;rw [List.getElem?_mapIdx]
theorem setTo_zero (f:Nat->Bool) (V:List Vw):setTo 0 f V=V:=by
 apply List.ext_getElem?
 intro i
 rw [setTo_at]
 cases V[i]? <;> simp
theorem setTo_succ {n:Nat} {f:Nat->Bool} {V:List Vw} {v:Vw} (h:V[n]?=some v):setTo (n+1) f V=(setTo n f V).set n (v.1,f n,v.2.2):=by
 apply List.ext_getElem?
 intro i
 rw [setTo_at,List.getElem?_set,setTo_len,setTo_at]
 have hn:=(List.getElem?_eq_some_iff.1 h).1
 by_cases e:n=i
 ·subst e;rw [if_pos rfl,if_pos hn,h];simp
 ·rw [if_neg e]
  cases V[i]? with
  | none=>rfl
  | some y =>
   simp only [Option.map_some,Option.some.injEq]
   by_cases h1:i<n
   ·rw [if_pos (by omega),if_pos h1]
   ·rw [if_neg (by omega),if_neg h1]
theorem setTo_same {n:Nat} (f:Nat->Bool) {V:List Vw} {i:Nat} (h:n<=i):(setTo n f V)[i]?=V[i]?:=by
 rw [setTo_at]
 cases V[i]? with
 | none=>rfl
 | some y=>simp only [Option.map_some];rw [if_neg (by omega)]
theorem setTo_eight {n:Nat} {f:Nat->Bool} {V:List Vw} (h:∀ v ∈ V,v.2.2.length=8):∀ v ∈ setTo n f V,v.2.2.length=8:=fun v hv=>by
 obtain ⟨i,hi⟩:=List.mem_iff_getElem?.1 hv
 rw [setTo_at] at hi
 cases hx:V[i]? with
 | none=>rw [hx] at hi;simp at hi
 | some y =>
  rw [hx] at hi
  simp only [Option.map_some,Option.some.injEq] at hi
  have:=h y (List.mem_of_getElem? hx)
  rw [<- hi]
  split <;> exact this
theorem viewCells_set:∀ (V:List Vw) (i:Nat) (v:Vw) (b:Bool),(∀ y ∈ V,y.2.2.length=8)->V[i]?=some v->viewCells (V.set i (v.1,b,v.2.2))=(viewCells V).set (i * 10+1) (.bool b):=by
 intro V
 induction V with
 | nil=>intro i v b _ h;simp at h
 | cons a V ih =>
  intro i v b hr h
  have hla:(viewCell a).length=10:=by unfold viewCell;simp [hr a List.mem_cons_self]
  have e:∀ (x:Vw) (Y:List Vw),viewCells (x :: Y)=viewCell x++viewCells Y:=fun _ _=>rfl
  cases i with
  | zero =>
   simp at h
   subst h
   rw [List.set_cons_zero,e,e,List.set_append,if_pos (by omega)]
   rfl
  | succ i =>
   have:=ih i v b (fun y hy=>hr y (List.mem_cons_of_mem _ hy)) (by simpa using h)
   rw [List.set_cons_succ,e,e,this,List.set_append,if_neg (by omega),hla,show (i+1) * 10+1 - 10=i * 10+1 from by omega]
def setF (MC MJ:List Bool) (i:Nat):Bool:=!((MC[i]?).getD false) || !((MJ[i]?).getD false)
set_option maxRecDepth 100000 in
set_option maxHeartbeats 4000000 in
theorem settle_any (base o:Nat) (ks:List Nat) (vP vH:Value) (V:List Vw) (aoV:Option Addr) (capV:Nat) (w:World) (hks:∀ k ∈ ks,k<8) (hkl:ks.length<=8) (hP:w.ownsRow 0 169 1 vP ks.length (kCells ks)) (hW:w.ownsRow base 254 10 (.slice aoV V.length capV) V.length (viewCells V)) (hV:VGood ks V) (hVl:V.length<=320000)
  (hO:w.heap[o]?=some (.cells #[vP,vH,.slice aoV V.length capV] 95 (0,0))) :
  Calls Tryz.prog 86 #[.pointer (some ⟨o,0,none⟩)] w fun r w'=>r=.returned (.tuple #[])/\(∃ MC MJ:List Bool,w'.ownsRow base 254 10 (.slice aoV V.length capV) V.length (viewCells (setTo V.length (setF MC MJ) V))/\MC.length=V.length/\MJ.length=V.length/\(∀ i,MC[i]?=some true↔mayV ks (plainV V) true i)/\(∀ i,MJ[i]?=some true↔mayV ks (plainV V) false i))/\Chg (fun k=>(Value.slice aoV V.length capV).ownBlock=some k) w w':=by
 obtain ⟨aoP,capP,rfl⟩:=row_shape hP
 have HP:Hid (w.ownsRow 0 169 1 (.slice aoP ks.length capP) ks.length (kCells ks)):=hP
 have HWV:Hid (w.ownsRow base 254 10 (.slice aoV V.length capV) V.length (viewCells V)):=hW
 have HV:Hid (VGood ks V):=hV
 have HKS:Hid (∀ k ∈ ks,k<8):=hks
 have HO:Hid (w.heap[o]?=some (.cells #[.slice aoP ks.length capP,vH,.slice aoV V.length capV] 95 (0,0))):=hO
 have hol:=heap_lt hO
 clear hP hW hV hks hO
 go_enter Tryz.func86,Tryz.ntmps86
 go_wp2_with fail
 refine (sources_any base o ks _ vH V aoV capV w HKS.out hkl HP.out HWV.out HV.out hVl HO.out).mono ?_
 rintro r w1 ⟨vS,src,rv,rfl,hS1,hSO,hSl,hb1⟩
 have S1:Hid (SRw w1 w.heap.size vS src rv):=hS1
 have SO:Hid (SrcOk ks (plainV V) src):=hSO
 have SL:Hid (∀ l ∈ src,l.length<=2560000):=hSl
 have B1:Hid (Below w.heap.size w w1):=hb1
 have W1:Hid (w1.ownsRow base 254 10 (.slice aoV V.length capV) V.length (viewCells V)):=row_kp HWV.out (Kp.below hb1)
 have O1:Hid (w1.heap[o]?=some (.cells #[.slice aoP ks.length capP,vH,.slice aoV V.length capV] 95 (0,0))):=(hb1.block o hol).trans HO.out
 have hs1:=hb1.size
 obtain ⟨aoS,capS,rfl⟩:=row_shape hS1.row
 clear hS1 hSO hSl hb1
 go_wp2_with fail
 refine (mayEnd_any base w.heap.size o ks _ vH _ V aoV capV src rv true w1 W1.out HV.out hVl O1.out S1.out SO.out SL.out).mono ?_
 rintro r w2 ⟨MC,rfl,hC2,hCl,hCm,hb2⟩
 have C2:Hid (w2.heap[w1.heap.size]?=some (.cells (boolCells MC) 4 (0,0))):=hC2
 have HCM:Hid (MC.length=V.length/\∀ i,MC[i]?=some true↔mayV ks (plainV V) true i):=⟨hCl,hCm⟩
 have B2:Hid (Below w.heap.size w w2):=B1.out.trans (hb2.mono hs1)
 have S2:Hid (SRw w2 w.heap.size (.slice aoS src.length capS) src rv):=S1.out.kpa (KpA.below hb2)
 have W2:Hid (w2.ownsRow base 254 10 (.slice aoV V.length capV) V.length (viewCells V)):=row_kp W1.out (Kp.below hb2)
 have O2:Hid (w2.heap[o]?=some (.cells #[.slice aoP ks.length capP,vH,.slice aoV V.length capV] 95 (0,0))):=(hb2.block o (heap_lt O1.out)).trans O1.out
 have hs2:=hb2.size
 clear hC2 hCm hb2 hCl
 go_wp2_with fail
 refine (mayEnd_any base w.heap.size o ks _ vH _ V aoV capV src rv false w2 W2.out HV.out hVl O2.out S2.out SO.out SL.out).mono ?_
 rintro r w3 ⟨MJ,rfl,hJ3,hJl,hJm,hb3⟩
 have J3:Hid (w3.heap[w2.heap.size]?=some (.cells (boolCells MJ) 4 (0,0))):=hJ3
 have C3:Hid (w3.heap[w1.heap.size]?=some (.cells (boolCells MC) 4 (0,0))):=(hb3.block _ (heap_lt C2.out)).trans C2.out
 have HJM:Hid (MJ.length=V.length/\∀ i,MJ[i]?=some true↔mayV ks (plainV V) false i):=⟨hJl,hJm⟩
 have B3:Hid (Below w.heap.size w w3):=B2.out.trans (hb3.mono (by omega))
 have W3:Hid (w3.ownsRow base 254 10 (.slice aoV V.length capV) V.length (viewCells (setTo 0 (setF MC MJ) V))):=by rw [setTo_zero];exact row_kp W2.out (Kp.below hb3)
 have O3:Hid (w3.heap[o]?=some (.cells #[.slice aoP ks.length capP,vH,.slice aoV V.length capV] 95 (0,0))):=(hb3.block o (heap_lt O2.out)).trans O2.out
 have o3:w3.cell? ⟨o,2,none⟩=some (.slice aoV V.length capV):=cell_of_block O3.out 2 _ rfl
 have X3:Hid (Chg (fun k=>(Value.slice aoV V.length capV).ownBlock=some k) w w3):=Chg.of_below B3.out
 clear hJ3 hJm hb3 C2 S1 S2 hJl
 go_wp2_with fail
 go_loopg [19] V.length (fun gh iv wx=>∃ i:Nat,i<=V.length/\gh=V.length - i/\iv=.int .i64 i/\Hid (wx.ownsRow base 254 10 (.slice aoV V.length capV) V.length (viewCells (setTo i (setF MC MJ) V)))/\Hid (wx.heap[o]?=some (.cells #[.slice aoP ks.length capP,vH,.slice aoV V.length capV] 95 (0,0)))/\Hid (wx.heap[w1.heap.size]?=some (.cells (boolCells MC) 4 (0,0)))/\Hid (wx.heap[w2.heap.size]?=some (.cells (boolCells MJ) 4 (0,0)))/\Hid (Chg (fun k=>(Value.slice aoV V.length capV).ownBlock=some k) w wx))
 case atStart=>exact ⟨0,Nat.zero_le _,rfl,rfl,W3,O3,C3,J3,X3⟩
 case round =>
  obtain ⟨i,hi,rfl,rfl,hW4,hO4,hC4,hJ4,hX4⟩:=hrel
  obtain ⟨w4,hw4⟩:∃ w4,w4=wr:=⟨wr,rfl⟩
  subst hw4
  clear W3 O3 C3 J3 X3 o3
  by_cases hlt:i<V.length
  ·have hCl:=HCM.out.1
   have hJl:=HJM.out.1
   obtain ⟨mc,hmc⟩:∃ b,MC[i]?=some b:=⟨MC[i]'(by omega),List.getElem?_eq_getElem _⟩
   obtain ⟨mj,hmj⟩:∃ b,MJ[i]?=some b:=⟨MJ[i]'(by omega),List.getElem?_eq_getElem _⟩
   obtain ⟨v,hv⟩:∃ v,V[i]?=some v:=⟨V[i],List.getElem?_eq_getElem hlt⟩
   have h8:=setTo_eight (n:=i) (f:=setF MC MJ) (fun v h=>(HV.out v h).1)
   have hvi:=(setTo_same (setF MC MJ) (Nat.le_refl i)).trans hv
   have HST:Hid (viewCells (setTo (i+1) (setF MC MJ) V)=(viewCells (setTo i (setF MC MJ) V)).set (i * 10+1) (.bool (!mc || !mj))):=by
    show _=_
    rw [setTo_succ hv,viewCells_set _ i v _ h8 hvi]
    unfold setF
    rw [hmc,hmj]
    rfl
   have hW4':w4.ownsRow base 254 10 (.slice aoV (setTo i (setF MC MJ) V).length capV) (setTo i (setF MC MJ) V).length (viewCells (setTo i (setF MC MJ) V)):=by rw [setTo_len];exact hW4.out
   obtain ⟨gV,hgV,hgl,hvc⟩:=view_cells hW4' h8 hvi
   subst hgV
   have d1:=hvc 1 _ rfl
   obtain ⟨cur,hcur⟩:=row_type hW4.out gV rfl
   have HG:Hid (w4.heap[gV]?=some (.cells cur 254 (0,0))):=hcur
   have df:=free_of_block hcur
   have a2:w4.cell? ⟨o,2,none⟩=some (.slice (some ⟨gV,0,none⟩) V.length capV):=cell_of_block hO4.out 2 _ rfl
   have e1:w4.cell? ⟨w1.heap.size,i,none⟩=some (.bool mc):=cell_of_block hC4.out i _ (boolCells_at hmc)
   have e2:w4.cell? ⟨w2.heap.size,i,none⟩=some (.bool mj):=cell_of_block hJ4.out i _ (boolCells_at hmj)
   have hCi:(i:Int)<(MC.length:Int):=by omega
   have hJi:(i:Int)<(MJ.length:Int):=by omega
   have HCL:Hid (MC.length=V.length/\MJ.length=V.length):=⟨hCl,hJl⟩
   clear hvc hW4' hvi hcur h8 hCl hJl hmc hmj hv
   have HN:Hid (Chg (fun k=>(Value.slice (some ⟨gV,0,none⟩) V.length capV).ownBlock=some k) w (w4.setCell ⟨gV,i * 10+1,none⟩ (.bool (!mc || !mj)))):=hX4.out.setCell (q:=⟨gV,i * 10+1,none⟩) (Or.inr rfl) _
   have HR:Hid ((w4.setCell ⟨gV,i * 10+1,none⟩ (.bool (!mc || !mj))).ownsRow base 254 10 (.slice (some ⟨gV,0,none⟩) V.length capV) V.length (viewCells (setTo (i+1) (setF MC MJ) V))):=by rw [HST.out];exact row_set hW4.out _ _
   have HO5:Hid ((w4.setCell ⟨gV,i * 10+1,none⟩ (.bool (!mc || !mj))).heap[o]?=some (.cells #[.slice aoP ks.length capP,vH,.slice (some ⟨gV,0,none⟩) V.length capV] 95 (0,0))):=(Kp.refl _ _).setCell HG.out (by decide) _ _ _ _ hO4.out
   have HC5:Hid ((w4.setCell ⟨gV,i * 10+1,none⟩ (.bool (!mc || !mj))).heap[w1.heap.size]?=some (.cells (boolCells MC) 4 (0,0))):=(Kp.refl _ _).setCell HG.out (by decide) _ _ _ _ hC4.out
   have HJ5:Hid ((w4.setCell ⟨gV,i * 10+1,none⟩ (.bool (!mc || !mj))).heap[w2.heap.size]?=some (.cells (boolCells MJ) 4 (0,0))):=(Kp.refl _ _).setCell HG.out (by decide) _ _ _ _ hJ4.out
   cases mc <;> cases mj
   all_goals go_wp2_with fail
   all_goals go_region
   all_goals go_wp2_with fail
   all_goals go_roundg (V.length - (i+1))
   all_goals first
    | (case measure=>omega)
    | exact ⟨i+1,by omega,rfl,by go_num,HR,HO5,HC5,HJ5,HN.out.drew⟩
  ·have e:i=V.length:=by omega
   subst e
   go_wp2_with fail
   go_end0
   exact ⟨rfl,⟨MC,MJ,hW4.out,HCM.out.1,HJM.out.1,HCM.out.2,HJM.out.2⟩,hX4.out⟩
def encO:Option Nat->Int
 | none=>-1
 | some n=>n
theorem encO_inj {a b:Option Nat} (h:encO a=encO b):a=b:=by
 cases a with
 | none=>cases b with
  | none=>rfl
  | some b=>have:(-1:Int)=(b:Int):=h;omega
 | some a=>cases b with
  | none=>have:(a:Int)=(-1:Int):=h;omega
  | some b=>have:(a:Int)=(b:Int):=h;rw [show a=b from by omega]
def encP:Value->Option Int
 | .pointer none=>some (-1)
 | .pointer (some a)=>if a.off=0/\a.spot=none then some (a.block:Int) else none
 | _=>none
theorem encP_mk (o:Option Nat):encP (ptrP o)=some (encO o):=by
 cases o <;> simp [ptrP,encP,encO]
theorem encP_inv {v:Value} {x:Int} (h:encP v=some x):∃ o,v=ptrP o/\x=encO o:=by
 unfold encP at h
 split at h
 ·cases h;exact ⟨none,rfl,rfl⟩
 ·rename_i a
  split at h
  ·rename_i e
   cases h
   obtain ⟨b,o,s⟩:=a
   simp only at e
   obtain ⟨rfl,rfl⟩:=e
   exact ⟨some b,rfl,rfl⟩
  ·cases h
 ·cases h
def grpD (a b:Option Nat):DataW Unit:=.agg [.lit (.int .i64 (encO a)),.lit (.int .i64 (encO b))]
theorem grpD_inj {a b c d:Option Nat} (h:grpD a b=grpD c d):a=c/\b=d:=by
 unfold grpD at h
 simp only [DataW.agg.injEq,List.cons.injEq,DataW.lit.injEq,Lit.int.injEq,true_and,and_true] at h
 exact ⟨encO_inj h.1,encO_inj h.2⟩
def grpElem:Value->Option (DataW Unit × List MemPlace)
 | .agg xs=>match xs.toList with
  | [u,v]=>match encP u,encP v with
   | some a,some b=>some (.agg [.lit (.int .i64 a),.lit (.int .i64 b)],[])
   | _,_=>none
  | _=>none
 | _=>none
theorem grpElem_mk (a b:Option Nat):grpElem (.agg #[ptrP a,ptrP b])=some (grpD a b,[]):=by
 unfold grpElem
 simp only [encP_mk]
 rfl
theorem grpElem_inv {v:Value} {z:DataW Unit × List MemPlace} (h:grpElem v=some z):∃ a b,v=.agg #[ptrP a,ptrP b]/\z=(grpD a b,[]):=by
 unfold grpElem at h
 split at h
 ·rename_i xs
  split at h
  ·rename_i u v e
   split at h
   ·rename_i x y hx hy
    obtain ⟨a,rfl,rfl⟩:=encP_inv hx
    obtain ⟨b,rfl,rfl⟩:=encP_inv hy
    refine ⟨a,b,?_,(Option.some.inj h).symm⟩
    obtain ⟨l⟩:=xs
    simp only at e
    rw [e]
   ·cases h
  ·cases h
 ·cases h
theorem Tryz.undGr:Tryz.prog.underlying 268=some (.map 3 280):=by kernel_rfl
theorem zeroGr (w:World):(zeroValue 280).run Tryz.prog w=.ok (.agg #[ptrP none,ptrP none]) w:=by
 have e:Tryz.t280.zero=some (.agg #[ptrP none,ptrP none]):=by kernel_rfl
 simp [zeroValue]
 rw [e]
 rfl
structure GD (w:World) (m N:Nat) (D:DataW Unit) (g:Nat->List Nat):Prop where
 own:w.ownsMap Tryz.prog 3 grpElem m (Maps.size D) D
 mem:∀ v:Nat,Maps.has D (.int .i64 v)=true↔g v ≠ []
 key:∀ kl,Maps.has D kl=true->∃ v:Nat,v<N/\kl=.int .i64 v
 val:∀ v:Nat,g v ≠ []->∀ zd,D.atKey (.int .i64 v) zd=grpD (g v).head? (g v).getLast?
theorem GD.size_le {w:World} {m N:Nat} {D:DataW Unit} {g:Nat->List Nat} (h:GD w m N D g):Maps.size D<=N:=by
 obtain ⟨es,rfl,hp,hk⟩:=h.own.entries intKey
 rw [Maps.size_eq,<- fst_len es]
 have:N=((List.range N).map fun x:Nat=>Lit.int .i64 (x:Int)).length:=by simp
 rw [this]
 refine List.Nodup.length_le_of_subset (fst_nodup hp) ?_
 intro kl hkl
 obtain ⟨p,hpm,rfl⟩:=List.mem_map.1 hkl
 obtain ⟨x,hx,e⟩:=h.key _ (mem_has hpm (hk p hpm))
 exact List.mem_map.2 ⟨x,List.mem_range.2 hx,e.symm⟩
theorem GD.keep {w w':World} {m N:Nat} {D:DataW Unit} {g:Nat->List Nat} (h:GD w m N D g) (hb:w'.heap[m]?=w.heap[m]?):GD w' m N D g:=by
 obtain ⟨es,clock,h1,r⟩:=h.own
 exact ⟨⟨es,clock,hb.trans h1,r⟩,h.mem,h.key,h.val⟩
theorem GD.blk {w:World} {m N:Nat} {D:DataW Unit} {g:Nat->List Nat} (h:GD w m N D g):∃ es clock,w.heap[m]?=some (.map es clock):=by
 obtain ⟨es,clock,h1,_⟩:=h.own
 exact ⟨es,clock,h1⟩
theorem GD.none {w:World} {m N:Nat} {D:DataW Unit} {g:Nat->List Nat} (h:GD w m N D g) {v:Nat} (hv:N<=v):g v=[]:=by
 by_cases e:g v=[]
 ·exact e
 ·obtain ⟨v',h1,h2⟩:=h.key _ ((h.mem v).2 e)
  injection h2 with _ h2
  have:v=v':=by exact_mod_cast h2
  omega
def updG (g:Nat->List Nat) (v:Nat) (c:List Nat) (x:Nat):List Nat:=if x=v then c else g x
theorem GD.put {w w':World} {m N v n:Nat} {D:DataW Unit} {g:Nat->List Nat} (h:GD w m N D g) (hv:v<N) {c:List Nat} (hc:c ≠ []) (ho:w'.ownsMap Tryz.prog 3 grpElem m n (D.put (.int .i64 v) (grpD c.head? c.getLast?))):GD w' m N (D.put (.int .i64 v) (grpD c.head? c.getLast?)) (updG g v c):=by
 have hD:=h.own.isMap
 have hne:∀ x:Nat,x ≠ v->(Lit.int .i64 (x:Int)) ≠ .int .i64 (v:Int):=fun x hx e=>hx (by injection e with _ e;exact_mod_cast e)
 refine ⟨own_tight ho,fun x=>?_,fun kl hkl=>?_,fun x hx zd=>?_⟩
 ·unfold updG
  by_cases e:x=v
  ·subst e
   rw [if_pos rfl]
   exact ⟨fun _=>hc,fun _=>has_put_same hD (show WideAt.IsKeyLit (.int .i64 (x:Int)) from trivial) _⟩
  ·rw [if_neg e,has_put_other (hne x e)]
   exact h.mem x
 ·by_cases e:kl=.int .i64 (v:Int)
  ·exact ⟨v,hv,e⟩
  ·rw [has_put_other e] at hkl
   exact h.key kl hkl
 ·unfold updG at hx ⊢
  by_cases e:x=v
  ·subst e
   rw [if_pos rfl]
   exact atKey_put_same hD (show WideAt.IsKeyLit (.int .i64 (x:Int)) from trivial) _ _
  ·rw [if_neg e] at hx ⊢
   rw [atKey_put_other (hne x e)]
   exact h.val x hx zd
def linkX (l h:Option Nat) (x:Nd):Nd:=if some x.p=l then { x with beside:=h } else x
theorem linkX_p (l h:Option Nat) (x:Nd):(linkX l h x).p=x.p:=by unfold linkX;split <;> rfl
theorem link_same {ns:List Nd} {c:List Nat} (hA:Apart ns) (hC:ChainOk ns c):ns.map (linkX c.getLast? none)=ns:=by
 conv=>rhs;rw [<- List.map_id ns]
 refine List.map_congr_left fun x hx=>?_
 unfold linkX
 split
 ·rename_i e
  have hc:c ≠ []:=by intro e';rw [e'] at e;cases e
  have h1:c[c.length - 1]?=some x.p:=by rw [e,List.getLast?_eq_getElem?]
  obtain ⟨y,hy,hyp,_,hb⟩:=hC _ _ h1
  obtain rfl:=hA.eq hy hx hyp
  rw [show c[c.length - 1+1]?=none from by
   have:0<c.length:=List.length_pos_iff.2 hc
   rw [List.getElem?_eq_none];omega] at hb
  obtain ⟨a,b,c',d⟩:=y
  simp only at hb
  rw [hb]
  rfl
 ·rfl
theorem link_one {w:World} {ns:List Nd} {c:List Nat} {l:Nat} (hA:Apart ns) (hC:ChainOk ns c) (hl:c.getLast?=some l) (hS:SeqIn w ns) (h:Option Nat) :
  ∃ (sz:Nat) (bh:Option Nat),w.heap[l]?=some (.cells #[.int .i64 sz,.bool false,.bool false,ptrP bh,ptrP none] 330 (0,0)) /\
   ∀ w',w'.heap[l]?=some (.cells #[.int .i64 sz,.bool false,.bool false,ptrP bh,ptrP h] 330 (0,0))->(∀ x ∈ ns,x.p ≠ l->w'.heap[x.p]?=w.heap[x.p]?)->SeqIn w' (ns.map (linkX c.getLast? h)):=by
 have hc:0<c.length:=by cases c with
  | nil=>cases hl
  | cons a c=>simp
 have h1:c[c.length - 1]?=some l:=by rw [<- hl,List.getLast?_eq_getElem?]
 obtain ⟨x,hx,hxp,hst,hbe⟩:=hC _ _ h1
 rw [show c[c.length - 1+1]?=none from by rw [List.getElem?_eq_none];omega] at hbe
 obtain ⟨j,hj⟩:=List.mem_iff_getElem?.1 hx
 have h0:=hS j x hj
 unfold plC at h0
 rw [hxp,hst,hbe] at h0
 refine ⟨x.size,nextP ns j,h0,fun w' g1 g2=>SeqIn.map (linkX_p _ _) fun m y hy=>?_⟩
 unfold linkX
 by_cases e:y.p=l
 ·have hmj:m=j:=hA m j y x hy hj (by rw [e,hxp])
  subst hmj
  rw [hj] at hy
  cases hy
  rw [hl,if_pos (by rw [e]),e]
  unfold plC
  simp only [hst]
  exact g1
 ·rw [hl,if_neg (fun e'=>e (Option.some.inj e'))]
  rw [g2 y (List.mem_of_getElem? hy) e]
  exact hS m y hy
end Go.Proofs.YtodagkkjfipbgaaGreatDoor
