import Derived.RangeFuncNested
import Derived.RangeFuncBound
import Derived.RangeFuncCalls
import Derived.RangeFuncLeaves
import Derived.Shelf.RegionOpen
import Derived.OwnWalkIn
import Derived.TacticsInMore
import Derived.LoopNIn
import Derived.LoopIn
import Derived.Laws.CopyOwn
import Derived.Test.YtodagkkjfipbgaaGreatDoorV1toW5
import Derived.Test.YtodagkkjfipbgaaGreatDoorSh3lone
namespace Go.Proofs.YtodagkkjfipbgaaGreatDoor
open Go.RowKit Go.Maps Go.Shelf
attribute [local go_sem] Oper.semAt_some
abbrev At {β:Type} (L:List β):Type:={ x:Nat × β // L[x.1]?=some x.2 }
def downs (n j:Nat):List Nat:=(List.range' j (n - j)).reverse
def wheres {β:Type} {L:List β} (pre:List (At L)):List Nat:=pre.map fun x=>x.1.1
def KeepsAt (n₀ Bs:Nat) (W W':World):Prop:=Below n₀ W W'∧W'.heap[Bs]?=W.heap[Bs]?
theorem KeepsAt.refl (n₀ Bs:Nat) (W:World):KeepsAt n₀ Bs W W:=⟨Below.refl _ _,rfl⟩
abbrev ruleVal (k:Bool × Value × Value):Value:=.agg #[.bool k.1,k.2.1,k.2.2]
end Go.Proofs.YtodagkkjfipbgaaGreatDoor
namespace Go.Proofs.YtodagkkjfipbgaaGreatDoor
open Go.RowKit Go.Maps Go.Shelf
attribute [local go_sem] Oper.semAt_some
def rightAt (t:Tab) (row:List Nat) (i:Nat):Nat:=(row.drop i).reverse.foldl (fun a k=>tnext t a k) 0
def rstep (t:Tab) {row:List Nat} (s:Nat × List Bool) (x:At row):Nat × List Bool:=(tnext t s.1 x.1.2,s.2.set x.1.1 (tmatch t (tnext t s.1 x.1.2)))
def rst (t:Tab) {row:List Nat} (pre:List (At row)):Nat × List Bool:=pre.foldl (rstep t) (0,(List.replicate (row.length+1) false).set row.length (tmatch t 0))
theorem snoc_ind {β:Type} {p:List β→Prop} (h0:p []) (h1:∀ l a,p l→p (l++[a])):∀ l,p l:=by
 intro l
 have:∀ r:List β,p r.reverse:=by
  intro r
  induction r with
  | nil=>exact h0
  | cons a r ih=>rw [List.reverse_cons];exact h1 _ _ ih
 have h:=this l.reverse
 rwa [List.reverse_reverse] at h
theorem cell_lt2 {w:World} {b o:Nat} {v:Value} (h:w.cell? ⟨b,o,none⟩=some v):b<w.heap.size:=by
 obtain ⟨x,hx,_⟩:=cells_of_cell h
 exact (Array.getElem?_eq_some_iff.1 hx).1
def onlyAt (A:Act) (W:World):Exit→Act→World→Prop:=fun e a w=>match e with
 | .normal=>a=A∧w=W
 | _=>False
structure RMem (n0:Nat) (W:World) (vT:Value) (m:Nat) (s:Nat × List Bool):Prop where
 b0:W.heap[n0]?=some (.cells #[vT] 154 (0,0))
 b1:W.heap[n0+1]?=some (.cells (boolCells s.2) 4 (0,0))
 b2:W.heap[n0+1+1]?=some (.cells #[.slice (some ⟨n0+1,0,none⟩) m m] 108 (0,0))
 b3:W.heap[n0+1+1+1]?=some (.cells #[.int .i64 (s.1:Nat)] 3 (0,0))
theorem RMem.blocks {n0:Nat} {W W':World} {vT:Value} {m:Nat} {s:Nat × List Bool} (h:RMem n0 W vT m s) (hk:∀ (k:Nat) (cs:Array Value) (t:TypeId),W.heap[k]?=some (.cells cs t (0,0))→W'.heap[k]?=some (.cells cs t (0,0))):RMem n0 W' vT m s :=
 ⟨hk _ _ _ h.b0,hk _ _ _ h.b1,hk _ _ _ h.b2,hk _ _ _ h.b3⟩
theorem RMem.below {n0:Nat} {W W':World} {vT:Value} {m:Nat} {s:Nat × List Bool} (h:RMem n0 W vT m s) (hb:Below W.heap.size W W'):RMem n0 W' vT m s:=h.blocks fun k _ _ hk=>(hb.block k (heap_lt hk)).trans hk
theorem RMem.told {n0:Nat} {W:World} {vT:Value} {m:Nat} {s:Nat × List Bool} (h:RMem n0 W vT m s) (i:Nat) (b:Bool):RMem n0 (W.setCell ⟨n0+1,i,none⟩ (.bool b)) vT m (s.1,s.2.set i b) :=
 ⟨(setCell_type (by omega)).trans h.b0,(block_setCell h.b1 i _).trans (by rw [boolCells_set]),(setCell_type (by omega)).trans h.b2,(setCell_type (by omega)).trans h.b3⟩
theorem RMem.at_ {n0:Nat} {W:World} {vT:Value} {m:Nat} {s:Nat × List Bool} (h:RMem n0 W vT m s) (a:Nat):RMem n0 (W.setCell ⟨n0+1+1+1,0,none⟩ (.int .i64 (a:Nat))) vT m (a,s.2) :=
 ⟨(setCell_type (by omega)).trans h.b0,(setCell_type (by omega)).trans h.b1,(setCell_type (by omega)).trans h.b2,(block_setCell h.b3 0 _).trans rfl⟩
end Go.Proofs.YtodagkkjfipbgaaGreatDoor
namespace Go.Proofs.YtodagkkjfipbgaaGreatDoor
open Go.RowKit Go.Maps
def judgedTo (c:Bool) (fl fr:Nat→Bool) (m:Nat) (cuts:List Bool):List Bool:=cuts.mapIdx fun i b=>if 1≤i∧i<m∧fl i=true∧fr i=true then c else b
theorem judgedTo_len (c:Bool) (fl fr:Nat→Bool) (m:Nat) (cuts:List Bool):(judgedTo c fl fr m cuts).length=cuts.length:=by unfold judgedTo;simp
end Go.Proofs.YtodagkkjfipbgaaGreatDoor
namespace Go.Proofs.YtodagkkjfipbgaaGreatDoor
open Go.RowKit Go.Maps Go.Shelf
attribute [local go_sem] Oper.semAt_some
abbrev PR:Type:=Bool × Tab × Tab
def pCells (J:List PR) (vs:List (Value × Value)):List Value:=(J.zip vs).flatMap fun o=>[.bool o.1.1,o.2.1,o.2.2]
structure PRIn (w:World) (v:Value) (J:List PR) (vs:List (Value × Value)):Prop where
 len:vs.length=J.length
 row:w.ownsRow 0 157 3 v J.length (pCells J vs)
 tab:∀ (i:Nat) (r:PR) (u:Value × Value),J[i]?=some r→vs[i]?=some u→TabIn 0 w u.1 r.2.1∧TabIn 0 w u.2 r.2.2
 ok:∀ r ∈ J,TabGood r.2.1∧TabGood r.2.2
 few:J.length≤100
theorem PRIn.below {w w':World} {v:Value} {J:List PR} {vs:List (Value × Value)} (h:PRIn w v J vs) (hb:Below w.heap.size w w'):PRIn w' v J vs :=
 ⟨h.len,row_kp h.row (Kp.below hb),fun i r u hr hu=>⟨row_kp (h.tab i r u hr hu).1 (Kp.below hb),row_kp (h.tab i r u hr hu).2 (Kp.below hb)⟩,h.ok,h.few⟩
theorem pCells_at:∀ (J:List PR) (vs:List (Value × Value)) (i:Nat) (r:PR) (v:Value × Value),J[i]?=some r→vs[i]?=some v→(pCells J vs)[i * 3]?=some (.bool r.1)∧(pCells J vs)[i * 3+1]?=some v.1∧(pCells J vs)[i * 3+2]?=some v.2:=by
 intro J
 induction J with
 | nil=>intro vs i r v h;simp at h
 | cons a J ih =>
  intro vs i r v h1 h2
  cases vs with
  | nil=>simp at h2
  | cons u vs =>
   cases i with
   | zero=>simp at h1 h2;subst h1;subst h2;simp [pCells]
   | succ i =>
    simp at h1 h2
    have:=ih vs i r v h1 h2
    have e:∀ k,(pCells (a :: J) (u :: vs))[(i+1) * 3+k]?=(pCells J vs)[i * 3+k]?:=by
     intro k;rw [show (i+1) * 3+k=(i * 3+k)+3 from by omega];rfl
    have e0:=e 0
    simp only [Nat.add_zero] at e0
    rw [e0,e 1,e 2];exact this
def ruleSays (row:List Nat) (r:PR) (cs:List Bool):List Bool:=judgedTo r.1 (fun i=>tmatch r.2.1 (leftAt r.2.1 row i)) (fun i=>tmatch r.2.2 (rightAt r.2.2 row i)) row.length cs
def cutsOf (J:List PR) (row:List Nat):List Bool:=J.foldr (ruleSays row) (List.replicate (row.length+1) true)
def stepI (J:List PR) (row:List Nat) (cs:List Bool) (i:Nat):List Bool:=match J[i]? with
 | some r=>ruleSays row r cs
 | none=>cs
theorem ruleSays_len (row:List Nat) (r:PR) (cs:List Bool):(ruleSays row r cs).length=cs.length:=judgedTo_len _ _ _ _ _
theorem cutsOf_len (J:List PR) (row:List Nat):(cutsOf J row).length=row.length+1:=by
 unfold cutsOf
 induction J with
 | nil=>simp
 | cons a J ih=>rw [List.foldr_cons,ruleSays_len];exact ih
def pVals (J:List PR) (vs:List (Value × Value)):List (Bool × Value × Value):=(J.zip vs).map fun o=>(o.1.1,o.2.1,o.2.2)
theorem pVals_at {J:List PR} {vs:List (Value × Value)} {i:Nat} {x:Bool × Value × Value} (h:(pVals J vs)[i]?=some x):∃ r u,J[i]?=some r∧vs[i]?=some u∧x=(r.1,u.1,u.2):=by
 unfold pVals at h
 rw [List.getElem?_map,Option.map_eq_some_iff] at h
 obtain ⟨⟨r,u⟩,h1,h2⟩:=h
 rw [List.getElem?_zip_eq_some] at h1
 exact ⟨r,u,h1.1,h1.2,h2.symm⟩
structure CMem (n0 N nB:Nat) (W:World) (vJ vK:Value) (m:Nat) (cs:List Bool):Prop where
 b0:W.heap[n0]?=some (.cells #[vJ] 89 (0,0))
 b1:W.heap[n0+1]?=some (.cells #[vK] 91 (0,0))
 b2:W.heap[N]?=some (.cells (boolCells cs) 4 (0,0))
 b3:W.heap[nB]?=some (.cells #[.slice (some ⟨N,0,none⟩) m m] 108 (0,0))
theorem CMem.blocks {n0 N nB:Nat} {W W':World} {vJ vK:Value} {m:Nat} {cs:List Bool} (h:CMem n0 N nB W vJ vK m cs) (hk:∀ (k:Nat) (cs:Array Value) (t:TypeId),W.heap[k]?=some (.cells cs t (0,0))→W'.heap[k]?=some (.cells cs t (0,0))):CMem n0 N nB W' vJ vK m cs :=
 ⟨hk _ _ _ h.b0,hk _ _ _ h.b1,hk _ _ _ h.b2,hk _ _ _ h.b3⟩
theorem CMem.below {n0 N nB:Nat} {W W':World} {vJ vK:Value} {m:Nat} {cs:List Bool} (h:CMem n0 N nB W vJ vK m cs) (hb:Below W.heap.size W W'):CMem n0 N nB W' vJ vK m cs:=h.blocks fun k _ _ hk=>(hb.block k (heap_lt hk)).trans hk
theorem PRIn.part {w:World} {v:Value} {J:List PR} {vs:List (Value × Value)} (h:PRIn w v J vs) {i:Nat} {x:Bool × Value × Value} (hx:(pVals J vs)[i]?=some x) :
  ∃ (r:PR) (al ar:Option Addr) (cl cr:Nat),J[i]?=some r∧x=(r.1,.slice al r.2.1.length cl,.slice ar r.2.2.length cr)∧TabIn 0 w (.slice al r.2.1.length cl) r.2.1∧TabIn 0 w (.slice ar r.2.2.length cr) r.2.2∧TabGood r.2.1∧TabGood r.2.2:=by
 obtain ⟨r,u,h1,h2,rfl⟩:=pVals_at hx
 obtain ⟨t1,t2⟩:=h.tab i r u h1 h2
 obtain ⟨g1,g2⟩:=h.ok r (List.mem_of_getElem? h1)
 obtain ⟨al,cl,e1⟩:=row_shape t1
 obtain ⟨ar,cr,e2⟩:=row_shape t2
 rw [e1] at t1
 rw [e2] at t2
 exact ⟨r,al,ar,cl,cr,h1,by rw [e1,e2],t1,t2,g1,g2⟩
theorem PRIn.cells {w:World} {ao:Option Addr} {cap:Nat} {J:List PR} {vs:List (Value × Value)} (h:PRIn w (.slice ao J.length cap) J vs) {i:Nat} {x:Bool × Value × Value} (hx:(pVals J vs)[i]?=some x) :
  ∃ q,ao=some ⟨q,0,none⟩∧q<w.heap.size∧w.cell? ⟨q,i * 3,none⟩=some (.bool x.1)∧w.cell? ⟨q,i * 3+1,none⟩=some x.2.1∧w.cell? ⟨q,i * 3+2,none⟩=some x.2.2:=by
 obtain ⟨r,u,h1,h2,rfl⟩:=pVals_at hx
 have hi:=(List.getElem?_eq_some_iff.1 h1).1
 have hc:=pCells_at J vs i r u h1 h2
 obtain ⟨q,hq,_,hc0⟩:=row_at h.row hc.1 (by omega)
 obtain ⟨q',hq',_,hc1⟩:=row_at h.row hc.2.1 (by omega)
 obtain ⟨q'',hq'',_,hc2⟩:=row_at h.row hc.2.2 (by omega)
 rw [hq] at hq' hq''
 cases hq'
 cases hq''
 exact ⟨q,hq,cell_lt2 hc0,hc0,hc1,hc2⟩
def saidBy (J:List PR) (row:List Nat) (l:List Nat):List Bool:=l.foldl (stepI J row) (List.replicate (row.length+1) true)
end Go.Proofs.YtodagkkjfipbgaaGreatDoor
