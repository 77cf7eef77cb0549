import Derived.Test.YtodagkkjfipbgaaGreatDoorProg
import Derived.WalkKit
import Derived.WalkSpells
import Derived.WalkLawsBesides
import Derived.BigQuiet
import Derived.Deep.QuietTactic
import Derived.Deep.LoopGhost
import Derived.KernelRfl
import Derived.Deep.DeepCutAuto
import Derived.Deep.CutBlock
import Derived.Deep.RegionLaw
import Derived.OwnWalk
import Derived.Maps.OwnSet
import Derived.Maps.RangeWalk
import Derived.RegionTactic
set_option maxRecDepth 100000
set_option maxHeartbeats 8000000
namespace Go.Proofs.YtodagkkjfipbgaaGreatDoor
open Go.RowKit Go.Proofs.Tryz
theorem az{p:Prop}(h:p):Hid p:=h
abbrev ai:=ByteArray
theorem ax:type_of% @List.getElem?_eq_getElem:=@List.getElem?_eq_getElem
theorem aw:type_of% @heap_alloc_new:=@heap_alloc_new
theorem aF:type_of% @List.length_append:=@List.length_append
theorem ar:type_of% @Nat.le_refl:=@Nat.le_refl
theorem ac:type_of% @Or.inr:=@Or.inr
theorem ae:type_of% @if_neg:=@if_neg
theorem a1:type_of% @List.getElem?_eq_some_iff:=@List.getElem?_eq_some_iff
theorem ag:type_of% @if_pos:=@if_pos
theorem aO:type_of% @beq_eq_false_iff_ne:=@beq_eq_false_iff_ne
theorem ah:type_of% @Or.inl:=@Or.inl
theorem aU:type_of% @List.mem_cons_self:=@List.mem_cons_self
theorem aE:type_of% @Nat.le_trans:=@Nat.le_trans
theorem aR:type_of% @List.mem_append:=@List.mem_append
theorem aW:type_of% @Below.heap_alloc:=@Below.heap_alloc
theorem aB:type_of% @Below.refl:=@Below.refl
theorem bC:type_of% @List.mem_of_getElem?:=@List.mem_of_getElem?
theorem aJ:type_of% @Nat.zero_le:=@Nat.zero_le
theorem aN:type_of% @List.mem_map:=@List.mem_map
theorem bM:type_of% @ByteArray.toList_eq:=@ByteArray.toList_eq
theorem bl:type_of% @List.getElem_mem:=@List.getElem_mem
theorem aT:type_of% @List.mem_cons:=@List.mem_cons
theorem bJ:type_of% @List.getElem?_take:=@List.getElem?_take
theorem b6:type_of% @List.mem_cons_of_mem:=@List.mem_cons_of_mem
theorem dE:type_of% @Array.getElem?_eq_some_iff:=@Array.getElem?_eq_some_iff
theorem dD:type_of% @List.getElem?_append_left:=@List.getElem?_append_left
theorem bT:type_of% @List.length_cons:=@List.length_cons
theorem eH:type_of% @List.getElem?_append_right:=@List.getElem?_append_right
theorem cI:type_of% @Nat.lt_of_lt_of_le:=@Nat.lt_of_lt_of_le
theorem cq:type_of% @World.ownsRow_nil:=@World.ownsRow_nil
theorem b5:type_of% @List.length_map:=@List.length_map
theorem cV:type_of% @List.getElem?_map:=@List.getElem?_map
theorem cz:type_of% @List.length_take:=@List.length_take
theorem ek:type_of% @ByteArray.size_extract:=@ByteArray.size_extract
theorem bS:type_of% @List.map_cons:=@List.map_cons
theorem cH:type_of% @decide_eq_false:=@decide_eq_false
theorem fj:type_of% @List.getElem?_replicate:=@List.getElem?_replicate
theorem hj:type_of% @List.eq_nil_of_length_eq_zero:=@List.eq_nil_of_length_eq_zero
theorem cU:type_of% @Option.map_some:=@Option.map_some
theorem e3:type_of% @List.mem_iff_getElem?:=@List.mem_iff_getElem?
theorem c9:type_of% @List.map_append:=@List.map_append
theorem cG:type_of% @decide_eq_true:=@decide_eq_true
theorem jh:type_of% @List.take_succ_eq_append_getElem:=@List.take_succ_eq_append_getElem
theorem gj:type_of% @List.take_of_length_le:=@List.take_of_length_le
theorem bL:type_of% @beq_iff_eq:=@beq_iff_eq
theorem e2:type_of% @Below.heap_setCell:=@Below.heap_setCell
theorem eG:type_of% @List.append_assoc:=@List.append_assoc
theorem h6:type_of% @Classical.byContradiction:=@Classical.byContradiction
theorem cF:type_of% @Nat.lt_or_ge:=@Nat.lt_or_ge
theorem gi:type_of% @List.mem_append_left:=@List.mem_append_left
theorem e1:type_of% @decide_eq_true_eq:=@decide_eq_true_eq
theorem gB:type_of% @List.getElem?_eq_none:=@List.getElem?_eq_none
theorem e0:type_of% @List.foldl_append:=@List.foldl_append
theorem dC:type_of% @List.sum_cons:=@List.sum_cons
theorem eF:type_of% @List.mem_filter:=@List.mem_filter
theorem h5:type_of% @List.mem_append_right:=@List.mem_append_right
theorem h4:type_of% @List.getElem?_toArray:=@List.getElem?_toArray
theorem gh:type_of% @List.ext_getElem?:=@List.ext_getElem?
theorem jg:type_of% @decide_eq_false_iff_not:=@decide_eq_false_iff_not
theorem jf:type_of% @World.block_lt_of_cell?:=@World.block_lt_of_cell?
theorem gg:type_of% @List.length_drop:=@List.length_drop
theorem gA:type_of% @Bool.and_eq_true:=@Bool.and_eq_true
theorem gd:type_of% @List.length_nil:=@List.length_nil
theorem lf:type_of% @List.drop_eq_getElem_cons:=@List.drop_eq_getElem_cons
theorem hh:type_of% @List.not_mem_nil:=@List.not_mem_nil
theorem g9:type_of% @List.mem_flatMap:=@List.mem_flatMap
theorem h3:type_of% @Option.some.injEq:=@Option.some.injEq
theorem je:type_of% @List.getElem?_range:=@List.getElem?_range
theorem g8:type_of% @Option.some.inj:=@Option.some.inj
theorem ld:type_of% @List.mem_of_mem_take:=@List.mem_of_mem_take
theorem h2:type_of% @Nat.mul_le_mul:=@Nat.mul_le_mul
theorem oX:type_of% @List.take_append_of_le_length:=@List.take_append_of_le_length
theorem jd:type_of% @List.cons_append:=@List.cons_append
theorem ky:type_of% @List.size_toArray:=@List.size_toArray
theorem hZ:type_of% @Prod.mk.injEq:=@Prod.mk.injEq
theorem jc:type_of% @List.length_set:=@List.length_set
theorem jb:type_of% @List.foldl_cons:=@List.foldl_cons
theorem q2:type_of% @List.findIdx?_eq_some_iff_getElem:=@List.findIdx?_eq_some_iff_getElem
theorem mn:type_of% @List.getElem?_mapIdx:=@List.getElem?_mapIdx
theorem kx:type_of% @results_cell_row:=@results_cell_row
theorem kw:type_of% @List.prefix_refl:=@List.prefix_refl
theorem g7:type_of% @List.map_nil:=@List.map_nil
theorem mm:type_of% @Nat.mul_le_mul_left:=@Nat.mul_le_mul_left
theorem lc:type_of% @List.take_add_one:=@List.take_add_one
theorem ja:type_of% @List.mem_range:=@List.mem_range
theorem nw:type_of% @List.length_filter_le:=@List.length_filter_le
theorem q1:type_of% @List.Nodup.length_le_of_subset:=@List.Nodup.length_le_of_subset
theorem kv:type_of% @Bool.eq_iff_iff:=@Bool.eq_iff_iff
theorem nv:type_of% @Nat.pow_le_pow_right:=@Nat.pow_le_pow_right
theorem ej:type_of% @congrArg:=@congrArg
theorem ml:type_of% @List.getElem?_set:=@List.getElem?_set
theorem de:type_of% @if_true:=@if_true
theorem oW:type_of% @List.getElem?_set_self:=@List.getElem?_set_self
theorem mi:type_of% @List.take_length:=@List.take_length
theorem nu:type_of% @List.pairwise_cons:=@List.pairwise_cons
theorem la:type_of% @Bool.false_eq_true:=@Bool.false_eq_true
theorem oV:type_of% @World.cell?_of_block:=@World.cell?_of_block
theorem mh:type_of% @List.nodup_cons:=@List.nodup_cons
theorem mg:type_of% @List.append_nil:=@List.append_nil
theorem oU:type_of% @List.length_pos_iff:=@List.length_pos_iff
theorem nt:type_of% @List.map_toArray:=@List.map_toArray
theorem fi:type_of% @if_false:=@if_false
theorem oT:type_of% @List.set_cons_succ:=@List.set_cons_succ
theorem k9:type_of% @Nat.zero_add:=@Nat.zero_add
theorem nr:type_of% @Nat.not_lt_zero:=@Nat.not_lt_zero
theorem k8:type_of% @Nat.add_zero:=@Nat.add_zero
theorem np:type_of% @List.nil_append:=@List.nil_append
theorem q0:type_of% @List.mem_of_mem_drop:=@List.mem_of_mem_drop
theorem qZ:type_of% @List.getElem?_set_ne:=@List.getElem?_set_ne
theorem qY:type_of% @List.getElem?_modify:=@List.getElem?_modify
theorem qX:type_of% @Array.replicate_zero:=@Array.replicate_zero
theorem qW:type_of% @Array.replicate_succ:=@Array.replicate_succ
theorem g6:type_of% @or_false:=@or_false
theorem k7:type_of% @Nat.mul_add:=@Nat.mul_add
theorem qV:type_of% @List.append_toArray:=@List.append_toArray
theorem Qk:type_of% @List.zip_cons_cons:=@List.zip_cons_cons
theorem xK:type_of% @List.pairwise_singleton:=@List.pairwise_singleton
theorem AV:type_of% @List.drop_append_of_le_length:=@List.drop_append_of_le_length
theorem xJ:type_of% @List.getElem?_cons_succ:=@List.getElem?_cons_succ
structure bj (p:Nat->Prop) (w w':World):Prop where
 os:w'.os=w.os
 tape:w'.tape=w.tape
 output:w'.output=w.output
 size:w.heap.size<=w'.heap.size
 block:∀k,k<w.heap.size->¬p k->w'.heap[k]?=w.heap[k]?
theorem bj.refl(p:Nat->Prop)(w:World):bj p w w:=⟨rfl,rfl,rfl,ar _,fun _ _ _=>rfl⟩
theorem bj.trans{p:Nat->Prop}{a b c:World}(h:bj p a b)(k:bj p b c):bj p a c :=
 ⟨k.os.trans h.os,k.tape.trans h.tape,k.output.trans h.output,aE h.size k.size,
  fun i hi d=>(k.block i (cI hi h.size) d).trans (h.block i hi d)⟩
theorem bj.mono{p q:Nat->Prop}{a b:World}(h:bj p a b)(g:∀k,k<a.heap.size->p k->q k):bj q a b :=
 ⟨h.os,h.tape,h.output,h.size,fun i hi j=>h.block i hi (fun d=>j (g i hi d))⟩
theorem bj.drew{p:Nat->Prop}{a w:World}(h:bj p a w):bj p a w.drew:=⟨h.os,h.tape,h.output,h.size,h.block⟩
theorem bj.drewN{p:Nat->Prop}{a w:World}(h:bj p a w)(n:Nat):bj p a (w.drewN n):=⟨h.os,h.tape,h.output,h.size,h.block⟩
theorem bj.alloc{p:Nat->Prop}{a w:World}(h:bj p a w)(o:Obj):bj p a (w.alloc o) :=
 h.trans ⟨rfl,rfl,rfl,by simp,fun k d _=>aW _ _ _ d⟩
theorem bj.setCell{p:Nat->Prop}{a w:World}(h:bj p a w){q:Addr}(d:a.heap.size<=q.block\/p q.block)(u:Value):bj p a (w.setCell q u) :=
 ⟨h.os,h.tape,h.output,by have:=h.size;simpa[World.setCell]using this,fun k i g=>by
  have j:k≠q.block:=by
   intro e;rcases d with d|d
   ·omega
   ·exact g (e▸d)
  rw[e2 _ _ _ _ j];exact h.block k i g⟩
theorem bj.kV{b o:Nat}{a w:World}(h:bj (fun k=>k=b) a w)(u:Value):bj (fun k=>k=b) a (w.setCell ⟨b,o,none⟩ u):=h.setCell (q:=⟨b,o,none⟩) (ac rfl) u
theorem bj.below{p:Nat->Prop}{a w:World}(h:bj p a w){B:Nat}(g:B<=a.heap.size)(i:∀k,k<B->¬p k):Below B a w :=
 ⟨h.os,h.tape,h.output,h.size,fun k d=>h.block k (cI d g) (i k d)⟩
theorem bj.aL{p:Nat->Prop}{a w:World}(h:Below a.heap.size a w):bj p a w:=⟨h.os,h.tape,h.output,h.size,fun k d _=>h.block k d⟩
theorem bj.grown{p:Nat->Prop}{a w w':World}{row:Option Nat}(h:bj p a w)(hg:w.grownBy w' row)(i:∀k,row=some k->a.heap.size<=k\/p k):bj p a w' :=
 ⟨hg.os.trans h.os,hg.tape.trans h.tape,hg.output.trans h.output,aE h.size hg.size,fun k d g=>by
  rw[hg.block k (cI d h.size) (fun e=>by
   rcases i k e.symm with h1|h1
   ·omega
   ·exact g h1)];exact h.block k d g⟩
theorem ab{w:World}{b:Nat}{a:Array Value}{t:TypeId}(h:w.heap[b]?=some (.cells a t (0,0)))(o:Nat)(v:Value)(c:a[o]?=some v):w.cell? ⟨b,o,none⟩=some v:=by
 simp[World.cell?,h,c]
theorem aq{w:World}{b:Nat}{a:Array Value}{t:TypeId}(h:w.heap[b]?=some (.cells a t (0,0)))(o:Nat):w.frozen? ⟨b,o,none⟩=false:=by
 simp[World.frozen?,h]
theorem am{w:World}{b:Nat}{a:Array Value}{t:TypeId}(h:w.heap[b]?=some (.cells a t (0,0)))(o:Nat)(u:Value):(w.setCell ⟨b,o,none⟩ u).heap[b]?=some (.cells (a.setIfInBounds o u) t (0,0)):=by
 simp[World.setCell,Array.getElem?_modify,h]
theorem j9{a b:Bool}(h:a=b):Ending.returned (.bool a)=.returned (.bool b):=by rw[h]
theorem ox{a b:Int}{v:Value}(h:a=b):Ending.returned (.tuple #[.int .i64 a,v])=.returned (.tuple #[.int .i64 b,v]):=by rw[h]
theorem kH{k:IntKind}{a b:Int}(h:a=b):Ending.returned (.int k a)=.returned (.int k b):=by rw[h]
def dL(c:Nat):Bool:=decide (97<=c/\c<=122)||decide (65<=c/\c<=90)||decide (48<=c/\c<=57)
def k5(c:Nat):Bool:=decide (c=32)||decide (c=10)
def Iz(T:ai)(i:Nat):Nat:=if h:i<T.size then (T[i]'h).toNat else 0
def o8(T:ai):Nat->Nat->Nat
 | 0,i=>i
 | n+1,i=>if k5 (Iz T i)=true then o8 T n (i+1)else i
def skip(T:ai)(i:Nat):Nat:=o8 T (T.size-i) i
def oZ(T:ai):Nat->Nat->Nat
 | 0,i=>i
 | n+1,i=>if dL (Iz T i)=true then oZ T n (i+1)else i
def cA(T:ai)(i:Nat):Nat:=oZ T (T.size-i) i
def bO(T:ai)(i:Nat):Nat:=if cA T i=i/\i<T.size then i+1 else cA T i
def tok(T:ai)(i:Nat):ai:=T.extract (skip T i) (bO T (skip T i))
theorem zn{T:ai}{i:Nat}(h:i<T.size)(hb:k5 (Iz T i)=true):skip T i=skip T (i+1):=by
 unfold skip;rw[show T.size-i=(T.size-(i+1))+1 from by omega,o8,ag hb]
theorem ic{T:ai}{i:Nat}(h:T.size<=i\/k5 (Iz T i)=false):skip T i=i:=by
 unfold skip
 by_cases hi:i<T.size
 ·have hb:k5 (Iz T i)=false:=by
   rcases h with h|h
   ·omega
   ·exact h
  rw[show T.size-i=(T.size-(i+1))+1 from by omega,o8,ae (by simp[hb])]
 ·rw[show T.size-i=0 from by omega,o8]
theorem JD(T:ai)(n i:Nat):i<=o8 T n i/\o8 T n i<=i+n:=by
 induction n generalizing i with
 | zero=>simp[o8]
 | succ n a=>rw[o8];split
             ·have:=a (i+1);omega
             ·omega
theorem gH(T:ai)(i:Nat):i<=skip T i/\(i<=T.size->skip T i<=T.size):=by
 have:=JD T (T.size-i) i;unfold skip;omega
theorem Fg{T:ai}{i:Nat}(h:i<T.size)(hb:dL (Iz T i)=true):cA T i=cA T (i+1):=by
 unfold cA;rw[show T.size-i=(T.size-(i+1))+1 from by omega,oZ,ag hb]
theorem lh{T:ai}{i:Nat}(h:T.size<=i\/dL (Iz T i)=false):cA T i=i:=by
 unfold cA
 by_cases hi:i<T.size
 ·have hb:dL (Iz T i)=false:=by
   rcases h with h|h
   ·omega
   ·exact h
  rw[show T.size-i=(T.size-(i+1))+1 from by omega,oZ,ae (by simp[hb])]
 ·rw[show T.size-i=0 from by omega,oZ]
theorem I1(T:ai)(n i:Nat):i<=oZ T n i/\oZ T n i<=i+n:=by
 induction n generalizing i with
 | zero=>simp[oZ]
 | succ n a=>rw[oZ];split
             ·have:=a (i+1);omega
             ·omega
theorem Ff(T:ai)(i:Nat):i<=cA T i/\(i<=T.size->cA T i<=T.size):=by
 have:=I1 T (T.size-i) i;unfold cA;omega
theorem eQ(T:ai)(i:Nat):i<=bO T i/\(i<=T.size->bO T i<=T.size)/\(i<T.size->i<bO T i):=by
 have:=Ff T i;unfold bO;split<;>omega
theorem qc(T:ai)(i:Nat):skip T (skip T i)=skip T i:=by
 have key:∀n i,T.size-i=n->skip T (skip T i)=skip T i:=by
  intro n;induction n with
  | zero=>intro i h;rw[ic (i:=i) (by omega)];exact ic (by omega)
  | succ n a =>
   intro i h
   by_cases hb:k5 (Iz T i)=true
   ·rw[zn (by omega) hb];exact a _ (by omega)
   ·rw[ic (i:=i) (ac (by simpa using hb))];exact ic (ac (by simpa using hb))
 exact key _ i rfl
theorem fT{P:Program}{w:World}{f:Array Oper}{rest:List Oper}{o:Oper}{a:Act}{Q:Exit->Act->World->Prop}(y:o.guard=none)(s x:Operand)(t:TypeId) (B:o.op=.call { callee:=.builtin .append,args:=#[s,x],argTypes:=#[t,t] }) (base:Nat) (e:TypeId) (z:Value) (size bytes:Nat) (A:(P.info? e).map (fun i=>(i.zero,i.size,i.bytes))=some (some z,size,bytes)) (F:P.underlying t=some (.slice e)) (K:z.cells.size=size) (E:0<size) (v:Value) (n:Nat) (xs:List Value) (D:a.eval s=v) (C:w.ownsRow base e size v n xs) (g c:Nat) (b:List Value) (G:a.eval x=.slice (some ⟨g,0,none⟩) 1 c) (L:b.length=size) (q:w.heap[g]?=some (.cells b.toArray e (0,0))) (h1:∀u∈b,u.oneCell'=true) (M:n<=9000000000) (r:bytes<=1000) (p:base<=w.heap.size) (h:∀d w',w'.ownsRow base e size d (n+1) (xs++b)->w.grownBy w' v.ownBlock->wpList P f Q rest (a.put o.dst d) w'):wpList P f Q (o::rest) a w:=by
 obtain⟨i,hi,H,I,J⟩:=info_parts A;refine wpList_append_own w y s x t B base e i z size bytes F hi H I J K E v n xs D C ⟨g,0,none⟩ 1 c b G (by omega) ?_ h1 (by simp only[maxLen];omega) ?_ p (fun d w' k l _=>h d w' k l)
 ·intro j u hu;have m:(⟨g,0,none⟩:Addr).add j=⟨g,j,none⟩:=by unfold Addr.add;split<;>simp_all
  rw[m];exact ab q j u (by simpa using hu)
 ·calc (n+1)*bytes<=9000000001*1000:=h2 (by omega) r
   _<=_:=by omega
theorem Tryz.qA:(prog.info? 178).map (fun i=>(i.zero,i.size,i.bytes))=some (some (.pointer none),1,8):=by kernel_rfl
theorem Tryz.ya:prog.underlying 201=some (.slice 178):=by kernel_rfl
theorem Tryz.Ad:(prog.info? 9).map (fun i=>(i.zero,i.size,i.bytes))=some (some (.string ⟨#[]⟩),1,16):=by kernel_rfl
theorem Tryz.Jd:prog.underlying 30=some (.slice 9):=by kernel_rfl
theorem Tryz.K0:(prog.info? 197).map (fun i=>(i.zero,i.size,i.bytes))=some (some (.agg #[.int .i64 0,.int .i64 0,.int .i64 0]),3,24):=by kernel_rfl
theorem Tryz.MW:prog.underlying 31=some (.slice 197):=by kernel_rfl
theorem Tryz.K2:(prog.info? 181).map (fun i=>(i.zero,i.size,i.bytes))=some (some (.agg #[.bool false,.pointer none,.pointer none]),3,24):=by kernel_rfl
theorem Tryz.MY:prog.underlying 32=some (.slice 181):=by kernel_rfl
theorem il(c:UInt8)(w:World):Calls prog 90 #[.int .u8 c.toNat] w fun e w'=>e=.returned (.bool (dL c.toNat))/\w'=w:=by
 go_enter func90,ntmps90;go_wp2
 all_goals (go_ret;refine⟨j9 ?_,rfl⟩;rw[kv];simp[dL];omega)
def jj(T:ai)(at_ err place:Int)(a b vL:Value)(atoms nest:Int):Array Value :=
 #[.string T,.int .i64 at_,.int .i64 err,.int .i64 place,a,b,vL,.int .i64 atoms,.int .i64 nest,.slice none 0 0,.slice none 0 0]
theorem lP{w:World}{b:Nat}{T:ai}{at_ err place:Int}{a c vL:Value}{atoms nest:Int}(h:w.heap[b]?=some (.cells (jj T at_ err place a c vL atoms nest) 35 (0,0))):w.cell? ⟨b,0,none⟩=some (.string T)/\w.cell? ⟨b,1,none⟩=some (.int .i64 at_)/\w.cell? ⟨b,2,none⟩=some (.int .i64 err)/\w.cell? ⟨b,3,none⟩=some (.int .i64 place) /\w.cell? ⟨b,4,none⟩=some a/\w.cell? ⟨b,5,none⟩=some c/\w.cell? ⟨b,6,none⟩=some vL/\w.cell? ⟨b,7,none⟩=some (.int .i64 atoms)/\w.cell? ⟨b,8,none⟩=some (.int .i64 nest)/\(∀o,w.frozen? ⟨b,o,none⟩=false) :=
 ⟨ab h _ _ rfl,ab h _ _ rfl,ab h _ _ rfl,ab h _ _ rfl,ab h _ _ rfl,ab h _ _ rfl,ab h _ _ rfl,ab h _ _ rfl,ab h _ _ rfl,aq h⟩
theorem NV(b:Nat)(T:ai)(at_ err place:Int)(d f vL:Value)(atoms nest:Int)(a c:Int)(w:World) (h:w.heap[b]?=some (.cells (jj T at_ err place d f vL atoms nest) 35 (0,0))) (q:(err==0)=false):Calls prog 46 #[.pointer (some ⟨b,0,none⟩),.int .i64 a,.int .i64 c] w fun e w'=>e=.returned (.tuple #[])/\w'=w:=by
 obtain⟨g,i,j,c3,k,l,m,n,o,p⟩:=lP h;go_enter func46,ntmps46;go_wp2
 go_end0
 exact⟨rfl,rfl⟩
theorem Lq(b:Nat)(T:ai)(at_ place:Int)(d f vL:Value)(atoms nest:Int)(a c:Int)(w:World) (h:w.heap[b]?=some (.cells (jj T at_ 0 place d f vL atoms nest) 35 (0,0))):Calls prog 46 #[.pointer (some ⟨b,0,none⟩),.int .i64 a,.int .i64 c] w fun e w'=>e=.returned (.tuple #[]) /\w'.heap[b]?=some (.cells (jj T at_ a c d f vL atoms nest) 35 (0,0))/\bj (fun k=>k=b) w w':=by
 obtain⟨g,i,j,c3,l,m,n,o,p,q⟩:=lP h;go_enter func46,ntmps46;go_wp2
 go_end0
 refine⟨rfl,?_,((bj.refl _ _).kV _).kV _⟩;rw[am (am h _ _)];rfl
theorem ko{T:ai}{i:Nat}(h:i<T.size):Iz T i=(T[i]'h).toNat:=by simp[Iz,h]
theorem po{T:ai}{at_ k:Nat}(c:skip T at_=k)(j:Nat)(h:(cA T k=k/\k<T.size/\j=k+1)\/(cA T k=j/\(j≠k\/T.size<=k))):Ending.returned (.tuple #[.string (T.extract k j),.int .i64 (k:Int)])=Ending.returned (.tuple #[.string (tok T at_),.int .i64 (skip T at_:Nat)]):=by
 have:bO T k=j:=by
  unfold bO;rcases h with⟨h1,a,b⟩|⟨h1,a⟩
  ·rw[ag ⟨h1,a⟩,b]
  ·rw[ae (by omega),h1]
 unfold tok;rw[c,this]
theorem BQ(b:Nat)(T:ai)(at_:Nat)(err place:Int)(o p vL:Value)(atoms nest:Int)(w:World) (h:w.heap[b]?=some (.cells (jj T at_ err place o p vL atoms nest) 35 (0,0))) (J:T.size<=1000) (x:at_<=T.size):Calls prog 47 #[.pointer (some ⟨b,0,none⟩)] w fun e w'=>e=.returned (.tuple #[.string (tok T at_),.int .i64 (skip T at_:Nat)]) /\w'.heap[b]?=some (.cells (jj T (skip T at_:Nat) err place o p vL atoms nest) 35 (0,0))/\bj (fun k=>k=b) w w':=by
 go_enter func47,ntmps47;go_wp2
 go_loopg [] (T.size-at_) (fun g wr=>∃k:Nat,at_<=k/\k<=T.size/\g=T.size-k/\Hid (skip T k=skip T at_)/\bj (fun k=>k=b) w wr/\wr.heap[b]?=some (.cells (jj T k err place o p vL atoms nest) 35 (0,0)))
 case atStart=>exact⟨at_,ar _,x,rfl,rfl,bj.refl _ _,h⟩
 case round =>
  obtain⟨k,O,z,rfl,n,hc,hb⟩:=hrel;obtain⟨B,C,D,c3,E,F,G,H,I,K⟩:=lP hb
  by_cases c:∃a:k<T.size,T[k].toNat=32\/T[k].toNat=10
  ·obtain⟨a,c⟩:=c;have s:Hid (skip T (k+1)=skip T at_):=by
    rw[<- n.out];exact(zn a (by rw[ko a];simpa[k5]using c)).symm
   by_cases h1:T[k].toNat=32
   ·have q:((T[k].toNat:Int)==32)=true:=by simp[h1]
    clear c;go_wp2;go_quiet (fail);go_wp2;go_roundg (T.size-(k+1))
    case measure=>omega
    case rel=>exact⟨k+1,by omega,by omega,rfl,s,(hc.drewN _).kV _,(am (w:=wr.drewN nq) hb 1 _).trans rfl⟩
   ·have r:T[k].toNat=10:=by omega
    have q:((T[k].toNat:Int)==32)=false:=by simp;omega
    have u:((T[k].toNat:Int)==10)=true:=by simp[r]
    clear c h1 r;go_wp2;go_quiet (fail);go_wp2;go_roundg (T.size-(k+1))
    case measure=>omega
    case rel=>exact⟨k+1,by omega,by omega,rfl,s,(hc.drewN _).kV _,(am (w:=wr.drewN nq) hb 1 _).trans rfl⟩
  ·have d:Hid (skip T at_=k):=by
    show skip T at_=k;rw[<- n.out];refine ic ?_
    by_cases a:k<T.size
    ·right;rw[ko a];simp[k5];exact⟨fun e=>c ⟨a,ah e⟩,fun e=>c ⟨a,ac e⟩⟩
    ·left;omega
   have A:(∃a:k<T.size,((T[k].toNat:Int)==32)=false/\((T[k].toNat:Int)==10)=false)\/(¬k<T.size/\decide ((k:Int)<(T.size:Int))=false):=by
    by_cases a:k<T.size
    ·left;refine⟨a,?_,?_⟩
     ·simp;intro e;exact c ⟨a,ah (by omega)⟩
     ·simp;intro e;exact c ⟨a,ac (by omega)⟩
    ·right;exact⟨by omega,by simp;omega⟩
   clear c n;rcases A with⟨a,q,u⟩|⟨L,P⟩
   all_goals
    go_wp2;go_quiet (fail);go_wp2
    go_loop [4] (fun v=>∃j:Nat,k<=j/\j<=T.size/\v=.int .i64 j/\Hid (cA T k=cA T j)) (fun v=>T.size-(intOf v).toNat)
    case atStart=>exact⟨k,ar _,z,rfl,rfl⟩
    case round =>
     obtain⟨j,M,N,rfl,l⟩:=hrel
     by_cases i:j<T.size
     ·try (exfalso;omega)
      all_goals
       cases t:dL (T[j].toNat)
       ·have f:Hid (cA T k=j):=by rw[l.out];exact lh (ac (by rw[ko i];exact t))
        by_cases m:j=k
        ·subst m;go_wp2_with (go_at_call 90;refine(il _ _).mono ?_;rintro e w' ⟨rfl,rfl⟩);go_quiet (fail);go_wp2
         go_ret2
         exact⟨po d.out (j+1) (ah ⟨f.out,i,rfl⟩),by rw[d.out];exact hb,(hc.drewN _).drewN _⟩
        ·have y:((j:Int)==(k:Int))=false:=by simp;omega
         go_wp2_with (go_at_call 90;refine(il _ _).mono ?_;rintro e w' ⟨rfl,rfl⟩);go_quiet (fail);go_wp2
         go_ret2
         exact⟨po d.out j (ac ⟨f.out,by omega⟩),by rw[d.out];exact hb,(hc.drewN _).drewN _⟩
       ·go_wp2_with (go_at_call 90;refine(il _ _).mono ?_;rintro e w' ⟨rfl,rfl⟩)
        go_round
        case rel=>exact⟨j+1,by omega,by omega,by go_num,by rw[l.out];exact Fg i (by rw[ko i];exact t)⟩
        case measure=>simp[intOf];omega
     ·have f:Hid (cA T k=j):=by rw[l.out];exact lh (ah (by omega))
      by_cases m:j=k
      ·try (exfalso;omega)
       all_goals subst m
       all_goals go_wp2
       all_goals go_quiet (fail)
       all_goals go_wp2
       all_goals go_ret2
       all_goals exact⟨by simpa using po d.out j (ac ⟨f.out,by omega⟩),by rw[d.out];exact hb,(hc.drewN _).drewN _⟩
      ·try (exfalso;omega)
       all_goals have y:((j:Int)==(k:Int))=false:=by simp;omega
       all_goals go_wp2
       all_goals go_quiet (fail)
       all_goals go_wp2
       all_goals go_ret2
       all_goals exact⟨po d.out j (ac ⟨f.out,by omega⟩),by rw[d.out];exact hb,(hc.drewN _).drewN _⟩
structure Rx where
 what:Nat
 kinds:Int
 l:List Rx
 form:ai
def lit(l:List UInt8):ai:=⟨l.toArray⟩
def eB:Rx:=⟨122,0,[],lit [48]⟩
def dp:Rx:=⟨101,0,[],lit [49]⟩
def DV(a b:Rx):Rx:=⟨115,0,[a,b],⟨#[40]⟩++a.form++b.form++⟨#[41]⟩⟩
def fS:Nat->Rx->Rx->Rx
 | 0,_,_=>eB
 | n+1,a,b =>
  if a.what=122\/b.what=122 then eB
  else if a.what=101 then b
  else if b.what=101 then a
  else if a.what=115 then fS n (a.l.getD 0 eB) (fS n (a.l.getD 1 eB) b)
  else DV a b
def IN(a b:ai):Bool:=Op.bytesLess a.toList b.toList||a.toList==b.toList
def bp:List Rx->Rx->List Rx
 | [],a=>[a]
 | x::r,a=>if IN a.form x.form=true then (if (a.form.toList==x.form.toList)=true then x::r else a::x::r)else x::bp r a
def bi(l:List Rx)(x:Rx):List Rx:=if x.what=97 then x.l.foldl bp l else if x.what=122 then l else bp l x
def bU(l:List Rx):ai:=l.foldl (fun s x=>s++⟨#[47]⟩++x.form) ⟨#[]⟩
def eb(a b:Rx):Rx :=
 let l:=bi (bi [] a) b
 match l with
 | []=>eB
 | [x]=>x
 | l=>⟨97,0,l,⟨#[123]⟩++bU l++⟨#[125]⟩⟩
def hO(a:Rx):Rx :=
 if a.what=122\/a.what=101 then dp else if a.what=109 then a else ⟨109,0,[a],⟨#[60]⟩++a.form++⟨#[62]⟩⟩
def hv(n:Nat):ai :=
 if n<10 then lit [UInt8.ofNat (48+n)]else if n<100 then lit [UInt8.ofNat (48+n/10),UInt8.ofNat (48+n%10)]else lit [UInt8.ofNat (48+n/100),UInt8.ofNat (48+n/10%10),UInt8.ofNat (48+n%10)]
def na(k:Nat):Rx:=⟨99,k,[],⟨#[91]⟩++hv k++⟨#[93]⟩⟩
def iT(a b:Rx):Rx:=fS (a.form.size+1) a b
def a8(l:List Rx):Nat:=(l.map fun x=>x.form.size+1).sum
theorem eJ(c:UInt8):(⟨#[c]⟩:ai).size=1:=rfl
theorem c1(a b:ai):(a++b).size=a.size+b.size:=ByteArray.size_append
theorem tw(P:Program)(a b:ai)(h:a.size+b.size<=4000000000)(W:World):(Op.stringOp .add a b).run P W=.ok (.string (a++b)) W:=run_string_add_sum (P:=P) W a b (by omega)
def dZ(R:Value->Rx->Prop)(base:Nat)(w:World)(v:Value)(l:List Rx):Prop :=
 ∃us:List Value,us.length=l.length/\w.ownsRow base 178 1 v l.length us/\∀(i:Nat) (u:Value) (x:Rx),us[i]?=some u->l[i]?=some x->R u x
def aS:Nat->World->Value->Rx->Prop
 | 0,_,_,_=>False
 | d+1,w,v,x=>∃p vL,v=.pointer (some ⟨p,0,none⟩)/\w.heap[p]?=some (.cells #[.int .u8 x.what,.int .i64 x.kinds,vL,.string x.form] 204 (0,0)) /\
   dZ (aS d w) 0 w vL x.l/\x.what<256/\(x.what=115->x.l.length=2)/\(x.what=115\/x.what=97->a8 x.l<=x.form.size)
def bf(w w':World):Prop:=∀(k:Nat) (a:Array Value) (t:TypeId) (m:Nat×Nat),(t=204\/t=178)->w.heap[k]?=some (.cells a t m)->w'.heap[k]?=some (.cells a t m)
theorem bf.refl(w:World):bf w w:=fun _ _ _ _ _ h=>h
theorem bf.trans{a b c:World}(h:bf a b)(k:bf b c):bf a c:=fun i d t m g j=>k i d t m g (h i d t m g j)
theorem bf.drew(w:World):bf w w.drew:=fun _ _ _ _ _ h=>h
theorem bf.drewN(w:World)(n:Nat):bf w (w.drewN n):=fun _ _ _ _ _ h=>h
theorem bf.aL{w w':World}(h:Below w.heap.size w w'):bf w w':=fun k g t m _ d=>by
 rw[h.block k (dE.1 d).1];exact d
theorem bf.zN{p:Nat->Prop}{w w':World}(h:bj p w w')(i:∀k d t m,p k->w.heap[k]?=some (.cells d t m)->t≠204/\t≠178):bf w w':=fun k d t m n g=>by
 rw[h.block k (dE.1 g).1 (fun j=>by have:=i k d t m j g;rcases n with rfl|rfl<;>simp at this)];exact g
theorem zI{w w':World}{base:Nat}{v:Value}{n:Nat}{us:List Value}(h:w.ownsRow base 178 1 v n us)(d:bf w w'):w'.ownsRow base 178 1 v n us:=by
 obtain⟨h1,a⟩:=h;refine⟨h1,?_⟩;rcases a with a|⟨g,au,b,e,hg,c,r⟩
 ·exact ah a
 ·exact ac ⟨g,au,b,e,hg,d _ _ _ _ (ac rfl) c,r⟩
theorem pv{w:World}{base b:Nat}{e:TypeId}{size:Nat}{v:Value}{n:Nat}{us:List Value}(h:w.ownsRow base e size v n us)(hb:b<=base):w.ownsRow b e size v n us:=by
 obtain⟨h1,a⟩:=h;refine⟨h1,?_⟩;rcases a with a|⟨g,au,c,d,hg,r⟩
 ·exact ah a
 ·exact ac ⟨g,au,c,d,aE hb hg,r⟩
theorem dZ.aY{R d:Value->Rx->Prop}{base:Nat}{w w':World}{v:Value}{l:List Rx}(h:dZ R base w v l)(o:bf w w')(n:∀u x,R u x->d u x):dZ d base w' v l:=by
 obtain⟨t,h1,g,j⟩:=h;exact⟨t,h1,zI g o,fun i u x hu q=>n _ _ (j i u x hu q)⟩
theorem dZ.mono{R d:Value->Rx->Prop}{base g:Nat}{w:World}{v:Value}{l:List Rx}(h:dZ R base w v l)(hb:g<=base)(o:∀u x,R u x->d u x):dZ d g w v l:=by
 obtain⟨t,h1,j,n⟩:=h;exact⟨t,h1,pv j hb,fun i u x hu q=>o _ _ (n i u x hu q)⟩
theorem aS.aY{d:Nat}{w w':World}(g:bf w w'):∀{v x},aS d w v x->aS d w' v x:=by
 induction d with
 | zero=>intro v x h;exact h.elim
 | succ d y =>
  intro v x h;obtain⟨p,A,t,o,q,i,j,n⟩:=h;exact⟨p,A,t,g _ _ _ _ (ah rfl) o,q.aY g (fun u x hu=>y hu),i,j,n⟩
theorem aS.mono{d e:Nat}{w:World}(A:d<=e):∀{v x},aS d w v x->aS e w v x:=by
 induction d generalizing e with
 | zero=>intro v x h;exact h.elim
 | succ d t =>
  intro v x h;obtain⟨p,y,q,n,o,g,i,j⟩:=h;cases e with
  | zero=>omega
  | succ e=>exact⟨p,y,q,n,o.mono (ar _) (fun u x hu=>t (by omega) hu),g,i,j⟩
theorem aS.open{d:Nat}{w:World}{v:Value}{x:Rx}(h:aS d w v x):∃p vL e,d=e+1/\v=.pointer (some ⟨p,0,none⟩)/\w.cell? ⟨p,0,none⟩=some (.int .u8 x.what)/\w.cell? ⟨p,1,none⟩=some (.int .i64 x.kinds) /\w.cell? ⟨p,2,none⟩=some vL/\w.cell? ⟨p,3,none⟩=some (.string x.form)/\p<w.heap.size/\dZ (aS e w) 0 w vL x.l/\x.what<256/\(x.what=115->x.l.length=2)/\(x.what=115\/x.what=97->a8 x.l<=x.form.size):=by
 cases d with
 | zero=>exact h.elim
 | succ d =>
  obtain⟨p,vL,q,g,o,i,j,n⟩:=h;exact⟨p,vL,d,rfl,q,ab g _ _ rfl,ab g _ _ rfl,ab g _ _ rfl,ab g _ _ rfl,(dE.1 g).1,o,i,j,n⟩
theorem dZ.form{R:Value->Rx->Prop}{base:Nat}{w:World}{v:Value}{l:List Rx}(h:dZ R base w v l):∃j au,v=.slice j l.length au/\∀i (hi:i<l.length),∃g u,j=some ⟨g,0,none⟩/\w.cell? ⟨g,i,none⟩=some u/\R u l[i]:=by
 obtain⟨n,h1,⟨B,o⟩,q⟩:=h;rcases o with⟨d,y⟩|⟨g,au,A,d,hg,x,C,E,F,t⟩
 ·exact⟨none,0,by rw[d,y],fun i hi=>by omega⟩
 ·refine⟨some ⟨g,0,none⟩,au,d,fun i hi=>?_⟩;obtain⟨u,hu⟩:∃u,n[i]?=some u:=⟨n[i]'(by omega),ax (by omega)⟩;refine⟨g,u,rfl,?_,q i _ _ hu (ax hi)⟩;refine ab x i _ ?_;rw[<- t,bJ,ag (by omega)]at hu;simpa using hu
theorem RH{d q:Nat}{W:World}{vL:Value}{x:Rx}(f:q=W.heap.size)(g:dZ (aS d W) 0 W vL x.l)(b:x.what<256)(c:x.what=115->x.l.length=2)(e:x.what=115\/x.what=97->a8 x.l<=x.form.size):aS (d+1) (W.alloc (.cells #[.int .u8 x.what,.int .i64 x.kinds,vL,.string x.form] 204)) (.pointer (some ⟨q,0,none⟩)) x:=by
 subst f;have a:bf W (W.alloc (.cells #[.int .u8 x.what,.int .i64 x.kinds,vL,.string x.form] 204)):=bf.aL ((aB _ _).alloc (ar _) _);exact⟨_,vL,rfl,aw _ _,g.aY a (fun u y hu=>hu.aY a),b,c,e⟩
theorem F0{d q:Nat}{W:World}{vL:Value}{wI kI:Int}{f:ai}(x:Rx)(h:q=W.heap.size)(h1:wI=x.what)(a:kI=x.kinds)(b:f=x.form)(i:dZ (aS d W) 0 W vL x.l)(c:x.what<256)(e:x.what=115->x.l.length=2)(g:x.what=115\/x.what=97->a8 x.l<=x.form.size):aS (d+1) (W.alloc (.cells #[.int .u8 wI,.int .i64 kI,vL,.string f] 204)) (.pointer (some ⟨q,0,none⟩)) x:=by
 subst h1;subst a;subst b;exact RH h i c e g
theorem RA{d:Nat}{w:World}{v:Value}{x:Rx}(h:aS d w v x):dZ (aS d (w.alloc (.cells #[v] 178))) 0 (w.alloc (.cells #[v] 178)) (.slice (some ⟨w.heap.size,0,none⟩) 1 1) [x]:=by
 refine⟨[v],rfl,World.ownsRow_lit w #[v] 1 (aJ _) (by decide) rfl,?_⟩;intro i u y hu a
 match i,hu,a with
 | 0,hu,a=>simp at hu a;subst hu;subst a;exact h.aY (bf.aL ((aB _ _).alloc (ar _) _))
theorem Ry{d:Nat}{w:World}{v b:Value}{x e:Rx}(h:aS d w v x)(f:aS d w b e):dZ (aS d (w.alloc (.cells #[v,b] 178))) 0 (w.alloc (.cells #[v,b] 178)) (.slice (some ⟨w.heap.size,0,none⟩) 2 2) [x,e]:=by
 have c:bf w (w.alloc (.cells #[v,b] 178)):=bf.aL ((aB _ _).alloc (ar _) _);refine⟨[v,b],rfl,World.ownsRow_lit w #[v,b] 2 (aJ _) (by decide) rfl,?_⟩;intro i u y hu a
 match i,hu,a with
 | 0,hu,a=>simp at hu a;subst hu;subst a;exact h.aY c
 | 1,hu,a=>simp at hu a;subst hu;subst a;exact f.aY c
structure RS where
 at_:Nat
 err:Int
 place:Int
 aa:List ai
 ay:List (Int×Int×Int)
 L:List (Bool×Rx×Rx)
 atoms:Int
 nest:Int
def ew(l:List UInt8):Bool :=
 if l=[]\/l=[99,108,97,115,115]\/l=[99,117,116]\/l=[106,111,105,110]\/l=[97,110,121]\/l=[111,116,104,101,114]\/l=[98,97,100]then false
 else dL (l.headD 0).toNat
def ba(aa:List ai)(l:List UInt8):Int :=
 match aa.findIdx? (fun x=>x.toList==l)with
 | some i=>i
 | none=>-1
namespace RS
def tk(T:ai)(s:RS):List UInt8:=(tok T s.at_).toList
def pos(T:ai)(s:RS):Nat:=skip T s.at_
def fail(s:RS)(e p:Int):RS:=if s.err=0 then { s with err:=e,place:=p }else s
def aH(T:ai)(s:RS):RS:={ s with at_:=skip T s.at_ }
def take(T:ai)(s:RS):RS:={ s with at_:=bO T (skip T s.at_) }
def want(T:ai)(s:RS)(l:List UInt8):RS:=if s.tk T=l then s.take T else (s.take T).fail 2 (s.pos T)
def n7(c:Nat):Option Int :=
 if 48<=c/\c<=57 then some ((c:Int)-48)else if 97<=c/\c<=102 then some ((c:Int)-97+10)else if 65<=c/\c<=70 then some ((c:Int)-65+10)else none
def cg(l:List UInt8):Int:=l.foldl (fun n c=>match n7 c.toNat with|some d=>16*n+d|none=>n) 0
def cY(l:List UInt8):Bool:=l.all fun c=>(n7 c.toNat).isSome
def fX(l:List UInt8):Int:=if 6<l.length then 0 else cg l
def hex(T:ai)(s:RS):RS :=
 let l:=s.tk T
 let d:=s.take T
 if 6<l.length then d.fail 2 (s.pos T)
 else
  let s2:=if cY l=true/\l≠[]then d else d.fail 2 (s.pos T)
  if 1114111<cg l then s2.fail 5 (s.pos T)else s2
def meets(a b:Int)(l:List (Int×Int×Int)):Bool:=l.any fun o=>decide (a<=o.2.1)&&decide (o.1<=b)
def dy(a b:Int)(l:List (Int×Int×Int)):Bool:=decide (b<a)||(decide (a<=57343)&&decide (55296<=b))||meets a b l
def bR(s:RS)(a b p:Int):RS :=
 let d:=if dy a b s.ay=true then s.fail 5 p else s
 { d with ay:=d.ay++[(a,b,(d.aa.length:Int)-1)] }
def span(T:ai)(s:RS):RS :=
 let a:=fX (s.tk T)
 let d:=(s.hex T).aH T
 if d.err=0/\d.tk T=[45]then
  let s2:=d.take T
  (s2.hex T).bR a (fX (s2.tk T)) (s2.pos T)
 else d.bR a a (s.pos T)
def aM(T:ai):Nat->RS->RS
 | 0,s=>s
 | g+1,s =>
  if s.err≠0 then s
  else
   let d:=s.span T
   if d.err≠0 then d
   else
    let l:=d.tk T
    let s2:=d.take T
    if l=[59]then s2 else if l=[44]then aM T g s2 else aM T g (s2.fail 2 (d.pos T))
def bE(T:ai)(s:RS):RS :=
 let d:=s.take T
 if d.aa.length=6 then d.fail 6 (s.pos T)
 else
  let l:=d.tk T
  let p:=d.pos T
  let s2:=d.take T
  let g:=if ew l=true then s2 else s2.fail 2 p
  let i:=if 0<=ba g.aa l then g.fail 4 p else g
  let h:={ i with aa:=i.aa++[tok T d.at_] }
  let j:=if h.err=0 then h.want T [61]else h
  aM T (T.size+2) j
def b8(s:RS)(l:List UInt8):Nat :=
 if 0<=ba s.aa l then 2^(ba s.aa l).toNat
 else if l=[97,110,121]then 2^(s.aa.length+2)-1
 else if l=[111,116,104,101,114]then 2^s.aa.length
 else if l=[98,97,100]then 2^(s.aa.length+1)
 else 0
def bd(s:RS)(l:List UInt8)(p:Int):RS :=
 if 0<=ba s.aa l\/l=[97,110,121]\/l=[111,116,104,101,114]\/l=[98,97,100]then s else if ew l=true then s.fail 3 p else s.fail 2 p
def dn(s:RS)(p:Int):RS :=
 let d:=if s.atoms=4 then s.fail 6 p else s
 { d with atoms:=d.atoms+1 }
def gF(T:ai)(s:RS):RS×Rx :=
 (((s.take T).bd (s.tk T) (s.pos T)).dn (s.pos T),na ((s.take T).b8 (s.tk T)))
def eg(T:ai)(s:RS):RS :=
 let s2:={ s with nest:=s.nest-1 }
 if s2.err=0 then s2.want T [41]else s2
def atom(T:ai)(sub:RS->RS×Rx)(s:RS):RS×Rx :=
 if s.tk T=[40]then
  if s.nest=4 then ((s.take T).fail 6 (s.pos T),eB)
  else ((sub { s.take T with nest:=s.nest+1 }).1.eg T,(sub { s.take T with nest:=s.nest+1 }).2)
 else s.gF T
def suffix(T:ai)(s:RS)(e:Rx):RS×Rx :=
 let l:=s.tk T
 if l=[42]then ((s.aH T).take T,hO e)else if l=[43]then ((s.aH T).take T,iT e (hO e))else if l=[63]then ((s.aH T).take T,eb e dp)else (s.aH T,e)
def part(T:ai)(sub:RS->RS×Rx)(s:RS):RS×Rx :=
 if (s.atom T sub).1.err≠0 then s.atom T sub else suffix T (s.atom T sub).1 (s.atom T sub).2
def mT(l:List UInt8):Bool:=decide (l=[40])||(decide (l≠[])&&dL (l.headD 0).toNat)
def cS(T:ai)(sub:RS->RS×Rx):Nat->RS->Rx->RS×Rx
 | 0,s,e=>(s,e)
 | g+1,s,e =>
  if s.err≠0 then (s,e)
  else if mT (s.tk T)=true then cS T sub g ((s.aH T).part T sub).1 (iT e ((s.aH T).part T sub).2)else (s.aH T,e)
def row(T:ai)(sub:RS->RS×Rx)(s:RS):RS×Rx:=cS T sub (T.size+2) (s.part T sub).1 (s.part T sub).2
def bo(T:ai)(sub:RS->RS×Rx):Nat->RS->Rx->RS×Rx
 | 0,s,e=>(s,e)
 | g+1,s,e =>
  if s.err≠0 then (s,e)
  else if s.tk T=[47]then bo T sub g (((s.aH T).take T).row T sub).1 (eb e (((s.aH T).take T).row T sub).2)else (s.aH T,e)
def fK(T:ai)(sub:RS->RS×Rx)(s:RS):RS×Rx:=bo T sub (T.size+2) (s.row T sub).1 (s.row T sub).2
def expr(T:ai):Nat->RS->RS×Rx
 | 0,s=>fK T (fun s=>(s,eB)) s
 | n+1,s=>fK T (expr T n) s
def hC(T:ai)(s:RS)(l:List UInt8):RS:=if s.err=0 then s.want T l else s
def side(T:ai)(s:RS)(l:List UInt8):RS×Rx :=
 let d:=({ s with atoms:=0 }:RS).aH T
 if d.tk T=l then (d.hC T l,dp)else ((d.expr T 4).1.hC T l,(d.expr T 4).2)
def ep(T:ai)(s:RS):RS :=
 let d:=s.take T
 if d.L.length=4 then d.fail 6 (s.pos T)
 else
  let s2:=d.side T [124]
  let g:=if s2.1.err=0 then s2.1.side T [59]else (s2.1,dp)
  { g.1 with L:=g.1.L++[(decide (s.tk T=[99,117,116]),s2.2,g.2)] }
def cW(T:ai):Nat->RS->RS
 | 0,s=>s
 | g+1,s =>
  if s.err≠0 then s
  else
   let l:=s.tk T
   let d:=s.aH T
   if l=[99,108,97,115,115]/\d.L.length=0 then cW T g (d.bE T)
   else if l=[99,117,116]\/l=[106,111,105,110]then cW T g (d.ep T)
   else if l=[]then d
   else cW T g (d.fail 2 (s.pos T))
def start:RS:={ at_:=0,err:=0,place:=0,aa:=[],ay:=[],L:=[],atoms:=0,nest:=0 }
def read(T:ai):RS:=if 1000<T.size then start.fail 1 0 else cW T (T.size+2) start
end RS
theorem vy(T:ai)(at_:Nat)(a:at_<=T.size):(skip T at_:Int)+((tok T at_).size:Int)=(bO T (skip T at_):Int)/\(tok T at_).size<=T.size:=by
 have b:=(gH T at_).2 a;have c:=eQ T (skip T at_);unfold tok;rw[ek];omega
theorem Jl(b:Nat)(T:ai)(at_:Nat)(err place:Int)(c d vL:Value)(atoms nest:Int)(w:World) (h:w.heap[b]?=some (.cells (jj T at_ err place c d vL atoms nest) 35 (0,0))) (g:T.size<=1000) (a:at_<=T.size):Calls prog 91 #[.pointer (some ⟨b,0,none⟩)] w fun e w'=>e=.returned (.tuple #[.string (tok T at_),.int .i64 (skip T at_:Nat)]) /\w'.heap[b]?=some (.cells (jj T (bO T (skip T at_):Nat) err place c d vL atoms nest) 35 (0,0))/\bj (fun k=>k=b) w w':=by
 have t:=(gH T at_).2 a;have u:=(vy T at_ a).2;go_enter func91,ntmps91;go_wp2_with (go_at_call 47;refine(BQ b T at_ err place c d vL atoms nest _ h g a).mono ?_;rintro e v ⟨rfl,f,i⟩;obtain⟨j,l,m,c3,n,o,p,q,r,s⟩:=lP f)
 go_ret2
 refine⟨rfl,?_,i.kV _⟩;rw[am f,<- (vy T at_ a).1];rfl
theorem kL(s:ai)(h:0<s.size):s.toList.headD 0=s[0]:=by
 rw[bM];obtain⟨⟨l⟩⟩:=s;cases l with
 | nil=>simp[ByteArray.size]at h
 | cons a r=>rfl
theorem B6(s:ai)(w:World):Calls prog 92 #[.string s] w fun e w'=>e=.returned (.bool (ew s.toList))/\w'=w:=by
 by_cases h0:s.toList=[]
 ·go_enter func92,ntmps92;go_wp2_with fail;go_ret;exact⟨j9 (by unfold ew;rw[ag (ah h0)]),rfl⟩
 ·have c:0<s.size:=by
   rcases Nat.eq_zero_or_pos s.size with e|e
   ·exfalso;apply h0;rw[bM];exact hj (by simpa using e)
   ·exact e
  have a:=kL s c;have b:Hid (s.toList.headD 0=s[0]):=a;clear a;go_enter func92,ntmps92;go_wp2_with (go_at_call 90;refine(il _ _).mono ?_;rintro e w' ⟨rfl,rfl⟩)
  all_goals go_ret
  all_goals refine⟨j9 ?_,rfl⟩
  all_goals first
   | (simp_all [ew];done)
   | (have d:=b.out;unfold ew;rw[ae (by simp_all),d])
theorem xe{aa:List ai}{l:List UInt8}(h:∀j (a:j<aa.length),(aa[j].toList==l)=false):ba aa l=-1:=by
 unfold ba;rw[List.findIdx?_eq_none_iff.2];intro x b;obtain⟨j,a,rfl⟩:=List.getElem_of_mem b;exact h j a
theorem xd{aa:List ai}{l:List UInt8}{i:Nat}(hi:i<aa.length)(hit:(aa[i].toList==l)=true)(h:∀j (_:j<i) (a:j<aa.length),(aa[j].toList==l)=false):ba aa l=i:=by
 unfold ba;have:aa.findIdx? (fun x=>x.toList==l)=some i:=by
  rw[q2];exact⟨hi,hit,fun j a=>by simp[h j a (by omega)]⟩
 rw[this]
theorem Io(b base:Nat)(T:ai)(at_ err place:Int)(l B vL:Value)(atoms nest:Int)(aa:List ai)(s:ai)(w:World) (h:w.heap[b]?=some (.cells (jj T at_ err place l B vL atoms nest) 35 (0,0))) (m:w.ownsRow base 9 1 l aa.length (aa.map .string)) (N:aa.length<=100):Calls prog 93 #[.pointer (some ⟨b,0,none⟩),.string s] w fun e w'=>e=.returned (.int .i64 (ba aa s.toList))/\w'=w:=by
 obtain⟨C,D,E,c3,F,G,H,I,J,M⟩:=lP h;have x:∃c au,l=.slice c aa.length au/\∀i (hi:i<aa.length),∃g,c=some ⟨g,0,none⟩/\w.cell? ⟨g,i,none⟩=some (.string aa[i]):=by
  obtain⟨h1,t⟩:=m;rcases t with⟨a,A⟩|⟨g,au,r,a,hg,y,K,O,P,u⟩
  ·exact⟨none,0,by rw[a,A],fun i hi=>by omega⟩
  ·refine⟨some ⟨g,0,none⟩,au,a,fun i hi=>⟨g,rfl,?_⟩⟩;refine ab y i _ ?_;have f:(r.toList.take (aa.length*1))[i]?=some (.string aa[i]):=by rw[u];simp[hi]
   rw[bJ]at f;rw[ag (by omega)]at f;simpa using f
 obtain⟨c,au,a,n⟩:=x;subst a;have q:Hid (∀i (hi:i<aa.length),∃g,c=some ⟨g,0,none⟩/\w.cell? ⟨g,i,none⟩=some (.string aa[i])):=n;clear n m;go_enter func93,ntmps93;go_wp2
 go_loop [5] (fun v=>∃i:Nat,i<=aa.length/\v=.int .i64 i/\Hid (∀j (_:j<i) (d:j<aa.length),(aa[j].toList==s.toList)=false)) (fun v=>aa.length-(intOf v).toNat)
 case atStart=>exact⟨0,aJ _,rfl,fun j d=>by omega⟩
 case round =>
  obtain⟨i,hi,rfl,k⟩:=hrel
  by_cases p:i<aa.length
  ·obtain⟨g,rfl,L⟩:=q.out i p;cases o:(aa[i].toList==s.toList)
   ·go_wp2
    go_round
    case rel=>exact⟨i+1,by omega,by go_num,fun j d z=>if e:j=i then by subst e;exact o else k.out j (by omega) z⟩
    case measure=>simp[intOf];omega
   ·go_wp2;go_ret;exact⟨kH (xd p o k.out).symm,rfl⟩
  ·go_wp2;go_ret;exact⟨kH (xe (fun j d=>k.out j (by omega) d)).symm,rfl⟩
theorem mZ(c:UInt8)(w:World):Calls prog 124 #[.int .u8 c.toNat] w fun e w'=>e=.returned (.bool (k5 c.toNat))/\w'=w:=by
 go_enter func124,ntmps124;go_wp2
 all_goals (go_ret;refine⟨j9 ?_,rfl⟩;rw[kv];simp[k5];omega)
theorem eT(c:UInt8)(w:World):Calls prog 125 #[.int .u8 c.toNat] w fun e w'=>e=.returned (.bool (dL c.toNat))/\w'=w:=by
 have hc:c.toNat<256:=c.toNat_lt;have a:c.toNat<48\/(48<=c.toNat/\c.toNat<=57)\/(58<=c.toNat/\c.toNat<=64)\/(65<=c.toNat/\c.toNat<=90)\/(91<=c.toNat/\c.toNat<=96)\/(97<=c.toNat/\c.toNat<=122)\/123<=c.toNat:=by omega
 rcases a with a|⟨a,b⟩|⟨a,b⟩|⟨a,b⟩|⟨a,b⟩|⟨a,b⟩|a
 all_goals
  go_enter func125,ntmps125;go_wp2;go_ret;refine⟨j9 ?_,rfl⟩;rw[kv];simp[dL];omega
def pf(a no:Int):Int:=if a=0 then no else a
def pp(a at_ place:Int):Int:=if a=0 then at_ else place
def Ke(T:ai)(at_ a:Int)(d c vL:Value)(b place:Int):Array Value :=
 #[.string T,.int .i64 at_,.int .i64 a,d,c,vL,.int .i64 b,.int .i64 place]
def fF(w:World)(b:Nat)(T:ai)(at_ a:Int)(e d vL:Value)(c place:Int):Prop :=
 w.heap[b]?=some (.cells (Ke T at_ a e d vL c place) 141 (0,0))
theorem dA{w:World}{b:Nat}{T:ai}{at_ a:Int}{e d vL:Value}{c place:Int}(h:fF w b T at_ a e d vL c place):w.cell? ⟨b,0,none⟩=some (.string T)/\w.cell? ⟨b,1,none⟩=some (.int .i64 at_)/\w.cell? ⟨b,2,none⟩=some (.int .i64 a)/\w.cell? ⟨b,3,none⟩=some e/\w.cell? ⟨b,4,none⟩=some d/\w.cell? ⟨b,5,none⟩=some vL /\w.cell? ⟨b,6,none⟩=some (.int .i64 c)/\w.cell? ⟨b,7,none⟩=some (.int .i64 place)/\(∀o,w.frozen? ⟨b,o,none⟩=false) :=
 ⟨ab h _ _ rfl,ab h _ _ rfl,ab h _ _ rfl,ab h _ _ rfl,ab h _ _ rfl,ab h _ _ rfl,ab h _ _ rfl,ab h _ _ rfl,aq h⟩
theorem zP(b:Nat)(T:ai)(a e:Nat)(f d vL:Value)(c place:Int)(w:World)(h:fF w b T a e f d vL c place)(h1:a<=e)(p:e<=T.size):Calls prog 127 #[.pointer (some ⟨b,0,none⟩)] w fun r w'=>r=.returned (.string (T.extract a e))/\∃n,w'=w.drewN n:=by
 obtain⟨g,i,j,c3,k,l,m,o,q⟩:=dA h;go_enter func127,ntmps127;go_wp2;go_quiet (fail);go_wp2;go_ret;exact⟨rfl,_,rfl⟩
theorem nZ(b:Nat)(T:ai)(a e:Nat)(f d vL:Value)(c place:Int)(w:World)(h:fF w b T a e f d vL c place):Calls prog 79 #[.pointer (some ⟨b,0,none⟩)] w fun r w'=>r=.returned (.bool (decide (a=T.size)))/\∃n,w'=w.drewN n:=by
 obtain⟨g,i,j,c3,k,l,m,o,p⟩:=dA h;go_enter func79,ntmps79;go_wp2;go_quiet (fail);go_wp2;go_ret;refine⟨j9 ?_,_,rfl⟩;rw[kv];simp;omega
theorem OC{w:World}{b:Nat}{T:ai}{a e:Int}{d c vL:Value}{f place:Int}(h:fF w b T a e d c vL f place)(no at_:Int)(x:Int):fF ((((w.setCell ⟨b,6,none⟩ (.int .i64 no)).setCell ⟨b,7,none⟩ (.int .i64 at_)).setCell ⟨b,1,none⟩ (.int .i64 x)).setCell ⟨b,2,none⟩ (.int .i64 x)) b T x x d c vL no at_ /\bj (fun k=>k=b) w ((((w.setCell ⟨b,6,none⟩ (.int .i64 no)).setCell ⟨b,7,none⟩ (.int .i64 at_)).setCell ⟨b,1,none⟩ (.int .i64 x)).setCell ⟨b,2,none⟩ (.int .i64 x)) :=
 ⟨(am (am (am (am h 6 _) 7 _) 1 _) 2 _).trans rfl,((((bj.refl _ _).kV _).kV _).kV _).kV _⟩
theorem OD{w:World}{b:Nat}{T:ai}{a e:Int}{f d vL:Value}{c place:Int}(h:fF w b T a e f d vL c place)(x:Int):fF ((w.setCell ⟨b,1,none⟩ (.int .i64 x)).setCell ⟨b,2,none⟩ (.int .i64 x)) b T x x f d vL c place/\bj (fun k=>k=b) w ((w.setCell ⟨b,1,none⟩ (.int .i64 x)).setCell ⟨b,2,none⟩ (.int .i64 x)) :=
 ⟨(am (am h 1 _) 2 _).trans rfl,((bj.refl _ _).kV _).kV _⟩
theorem wZ(b:Nat)(T:ai)(a e:Nat)(j i vL:Value)(c place:Int)(no at_:Int)(w:World)(h:fF w b T a e j i vL c place):Calls prog 134 #[.pointer (some ⟨b,0,none⟩),.int .i64 no,.int .i64 at_] w fun r w'=>r=.returned (.tuple #[])/\fF w' b T T.size T.size j i vL (pf c no) (pp c at_ place)/\bj (fun k=>k=b) w w':=by
 obtain⟨m,n,o,c3,p,q,s,t,u⟩:=dA h;have g:Hid (fF w b T a e j i vL c place):=h;clear h
 by_cases h0:c=0
 ·have l:(c==0)=true:=by rw[bL];exact h0
  have d:pf c no=no:=by unfold pf;rw[ag h0]
  have f:pp c at_ place=at_:=by unfold pp;rw[ag h0]
  rw[d,f];clear h0 d f;go_enter func134,ntmps134;go_wp2;go_region
  all_goals (try go_wp2)
  all_goals go_end0
  all_goals exact⟨rfl,(OC g.out no at_ _).1,(OC g.out no at_ _).2.drew⟩
 ·have l:(c==0)=false:=by rw[aO];exact h0
  have d:pf c no=c:=by unfold pf;rw[ae h0]
  have f:pp c at_ place=place:=by unfold pp;rw[ae h0]
  rw[d,f];clear h0 d f;go_enter func134,ntmps134;go_wp2;go_region
  all_goals (try go_wp2)
  all_goals go_end0
  all_goals exact⟨rfl,(OD g.out _).1,(OD g.out _).2.drew⟩
theorem Gh(b:Nat)(T:ai)(a e:Nat)(f d vL:Value)(c place:Int)(no:Int)(w:World)(h:fF w b T a e f d vL c place):Calls prog 80 #[.pointer (some ⟨b,0,none⟩),.int .i64 no] w fun r w'=>r=.returned (.tuple #[])/\fF w' b T T.size T.size f d vL (pf c no) (pp c (a:Int) place)/\bj (fun k=>k=b) w w':=by
 obtain⟨l,m,n,c3,o,p,q,s,t⟩:=dA h;go_enter func80,ntmps80;go_wp2_with fail;refine(wZ b T a e f d vL c place no a _ h).mono ?_;rintro r j ⟨rfl,h1,i⟩;have g:Hid (fF j b T T.size T.size f d vL (pf c no) (pp c (a:Int) place)):=h1;clear h1;go_wp2_with fail
 go_end0
 exact⟨rfl,g.out,i⟩
theorem yG(v:Value)(base:Nat)(aa:List ai)(s:ai)(w:World)(k:w.ownsRow base 9 1 v aa.length (aa.map .string))(A:aa.length<=100):Calls prog 169 #[v,.string s] w fun e w'=>e=.returned (.int .i64 (ba aa s.toList))/\w'=w:=by
 have t:∃c au,v=.slice c aa.length au/\∀i (hi:i<aa.length),∃g,c=some ⟨g,0,none⟩/\w.cell? ⟨g,i,none⟩=some (.string aa[i]):=by
  obtain⟨h1,q⟩:=k;rcases q with⟨b,x⟩|⟨g,au,p,b,hg,u,y,B,C,r⟩
  ·exact⟨none,0,by rw[b,x],fun i hi=>by omega⟩
  ·refine⟨some ⟨g,0,none⟩,au,b,fun i hi=>⟨g,rfl,?_⟩⟩;refine ab u i _ ?_;have d:(p.toList.take (aa.length*1))[i]?=some (.string aa[i]):=by rw[r];simp[hi]
   rw[bJ]at d;rw[ag (by omega)]at d;simpa using d
 obtain⟨c,au,b,l⟩:=t;subst b;have o:Hid (∀i (hi:i<aa.length),∃g,c=some ⟨g,0,none⟩/\w.cell? ⟨g,i,none⟩=some (.string aa[i])):=l;clear l k;go_enter func169,ntmps169;go_wp2
 go_loop [8] (fun v=>∃i:Nat,i<=aa.length/\v=.int .i64 i/\Hid (∀j (_:j<i) (a:j<aa.length),(s.toList==aa[j].toList)=false)) (fun v=>aa.length-(intOf v).toNat)
 case atStart=>exact⟨0,aJ _,rfl,fun j a=>by omega⟩
 case round =>
  obtain⟨i,hi,rfl,h⟩:=hrel
  by_cases n:i<aa.length
  ·obtain⟨g,rfl,z⟩:=o.out i n;cases m:(s.toList==aa[i].toList)
   ·go_wp2
    go_round
    case rel=>exact⟨i+1,by omega,by go_num,fun j a f=>if e:j=i then by subst e;exact m else h.out j (by omega) f⟩
    case measure=>simp[intOf];omega
   ·go_wp2;go_ret;exact⟨kH (xd n (by rw[BEq.comm];exact m) (fun j a f=>by rw[BEq.comm];exact h.out j a f)).symm,rfl⟩
  ·go_wp2;go_ret;exact⟨kH (xe (fun j a=>by rw[BEq.comm];exact h.out j (by omega) a)).symm,rfl⟩
theorem FN{w:World}{b:Nat}{T:ai}{a e:Int}{f d vL:Value}{c place:Int}(h:fF w b T a e f d vL c place)(x:Int):fF (w.setCell ⟨b,1,none⟩ (.int .i64 x)) b T x e f d vL c place:=(am h 1 _).trans rfl
theorem zC{w:World}{b:Nat}{T:ai}{a e:Int}{f d vL:Value}{c place:Int}(h:fF w b T a e f d vL c place)(x:Int):fF (w.setCell ⟨b,2,none⟩ (.int .i64 x)) b T a x f d vL c place:=(am h 2 _).trans rfl
theorem vM(b:Nat)(T:ai)(a e:Nat)(y x vL:Value)(s place:Int)(w:World)(h:fF w b T a e y x vL s place)(R:e<=T.size)(a0:T.size<=1000):Calls prog 75 #[.pointer (some ⟨b,0,none⟩)] w fun r w'=>r=.returned (.tuple #[])/\fF w' b T (skip T e:Nat) (bO T (skip T e):Nat) y x vL s place/\bj (fun k=>k=b) w w':=by
 obtain⟨i,d,f,c3,j,l,m,n,o⟩:=dA h;have S:Hid (fF w b T a e y x vL s place):=h;clear h;go_enter func75,ntmps75
 go_upto_block 0 with fail
 go_cut [] (fun c=>bj (fun k=>k=b) w c/\Hid (fF c b T (skip T e:Nat) e y x vL s place))
 case first =>
  go_wp2_with fail
  go_loopg [] (T.size-e) (fun g c=>∃k:Nat,e<=k/\k<=T.size/\g=T.size-k/\Hid (skip T k=skip T e)/\bj (fun k=>k=b) w c/\Hid (fF c b T k e y x vL s place))
  case atStart=>exact⟨e,ar _,R,rfl,rfl,(bj.refl _ _).kV _,FN S.out _⟩
  case round =>
   obtain⟨k,U,V,rfl,u,hc,hb⟩:=hrel;obtain⟨C,N⟩:∃C,C=wr:=⟨wr,rfl⟩;subst N;clear i d f c3 j l m n o;obtain⟨i,d,f,c3,j,l,m,n,o⟩:=dA hb.out
   by_cases t:k<T.size
   ·cases A:k5 (T[k].toNat)
    ·have v:Hid (skip T e=k):=by show _=_;rw[<- u.out];exact ic (ac (by rw[ko t];exact A))
     go_wp2_with fail;go_quiet ((go_at_call 124;exact Calls.quiet_of_same (mZ _ _)));go_wp2_with fail;go_meet;exact⟨hc.drewN _,by rw[v.out];exact hb.out⟩
    ·have J:Hid (skip T (k+1)=skip T e):=by show _=_;rw[<- u.out];exact(zn t (by rw[ko t];exact A)).symm
     go_wp2_with fail;go_quiet ((go_at_call 124;exact Calls.quiet_of_same (mZ _ _)));go_wp2_with fail;go_roundg (T.size-(k+1))
     case measure=>omega
     case rel=>exact⟨k+1,by omega,by omega,rfl,J,(hc.drewN _).kV _,by show fF _ _ _ _ _ _ _ _ _ _;exact FN hb.out _⟩
   ·have hd:decide ((k:Int)<(T.size:Int))=false:=by simp;omega
    have v:Hid (skip T e=k):=by show _=_;rw[<- u.out];exact ic (ah (by omega))
    go_wp2_with fail;go_quiet ((go_at_call 124;exact Calls.quiet_of_same (mZ _ _)));go_wp2_with fail;go_meet;exact⟨hc.drewN _,by rw[v.out];exact hb.out⟩
 case rest =>
  obtain⟨Q,G⟩:=hcut;obtain⟨C,N⟩:∃C,C=wc:=⟨wc,rfl⟩;subst N;clear i d f c3 j l m n o;obtain⟨i,d,f,c3,j,l,m,n,o⟩:=dA G.out;have M:=(gH T e).2 R;obtain⟨p,K⟩:∃p,p=skip T e:=⟨_,rfl⟩;rw[<- K]at G d M;have H:Hid (p=skip T e):=K;clear K
  go_upto_block 2 with fail
  go_cut [] (fun c=>bj (fun k=>k=b) w c/\Hid (fF c b T p (cA T p:Nat) y x vL s place))
  case first =>
   go_wp2_with fail
   go_loopg [] (T.size-p) (fun g c=>∃k:Nat,p<=k/\k<=T.size/\g=T.size-k/\Hid (cA T k=cA T p)/\bj (fun k=>k=b) w c/\Hid (fF c b T p k y x vL s place))
   case atStart=>exact⟨p,ar _,M,rfl,rfl,Q.kV _,zC G.out _⟩
   case round =>
    obtain⟨k,U,V,rfl,u,hc,hb⟩:=hrel;obtain⟨D,O⟩:∃D,D=wr:=⟨wr,rfl⟩;subst O;clear i d f c3 j l m n o;obtain⟨i,d,f,c3,j,l,m,n,o⟩:=dA hb.out
    by_cases t:k<T.size
    ·cases A:dL (T[k].toNat)
     ·have v:Hid (cA T p=k):=by show _=_;rw[<- u.out];exact lh (ac (by rw[ko t];exact A))
      go_wp2_with fail;go_quiet ((go_at_call 125;exact Calls.quiet_of_same (eT _ _)));go_wp2_with fail;go_meet;exact⟨hc.drewN _,by rw[v.out];exact hb.out⟩
     ·have J:Hid (cA T (k+1)=cA T p):=by show _=_;rw[<- u.out];exact(Fg t (by rw[ko t];exact A)).symm
      go_wp2_with fail;go_quiet ((go_at_call 125;exact Calls.quiet_of_same (eT _ _)));go_wp2_with fail;go_roundg (T.size-(k+1))
      case measure=>omega
      case rel=>exact⟨k+1,by omega,by omega,rfl,J,(hc.drewN _).kV _,by show fF _ _ _ _ _ _ _ _ _ _;exact zC hb.out _⟩
    ·have hd:decide ((k:Int)<(T.size:Int))=false:=by simp;omega
     have v:Hid (cA T p=k):=by show _=_;rw[<- u.out];exact lh (ah (by omega))
     go_wp2_with fail;go_quiet ((go_at_call 125;exact Calls.quiet_of_same (eT _ _)));go_wp2_with fail;go_meet;exact⟨hc.drewN _,by rw[v.out];exact hb.out⟩
  case rest =>
   obtain⟨I,z⟩:=hcut;obtain⟨D,O⟩:∃D,D=wc:=⟨wc,rfl⟩;subst O;clear i d f c3 j l m n o Q G;obtain⟨i,d,f,c3,j,l,m,n,o⟩:=dA z.out;have P:=Ff T p;have X:=P.2 M;have W:=P.1;obtain⟨q,L⟩:∃q,q=cA T p:=⟨_,rfl⟩;rw[<- L]at z f W X;have E:Hid (q=cA T p):=L;clear L P
   by_cases F:q=p
   ·have Y:((q:Int)==(p:Int))=true:=by rw[bL];omega
    by_cases Z:q<T.size
    ·have B:Hid (bO T p=q+1):=by show _=_;unfold bO;rw[ag ⟨by rw[<- E.out];exact F,by omega⟩];omega
     clear F;go_wp2_with fail;go_quiet (fail);go_wp2_with fail
     go_end0
     exact⟨rfl,by rw[<- H.out,B.out];exact zC z.out _,(I.drewN _).kV _⟩
    ·have hd:decide ((q:Int)<(T.size:Int))=false:=by simp;omega
     have B:Hid (bO T p=q):=by show _=_;unfold bO;rw[ae (by omega)];exact E.out.symm
     clear F;go_wp2_with fail;go_quiet (fail);go_wp2_with fail
     go_end0
     exact⟨rfl,by rw[<- H.out,B.out];exact z.out,I.drewN _⟩
   ·have Y:((q:Int)==(p:Int))=false:=by rw[aO];omega
    have B:Hid (bO T p=q):=by show _=_;unfold bO;rw[ae (by rw[<- E.out];omega)];exact E.out.symm
    clear F;go_wp2_with fail;go_quiet (fail);go_wp2_with fail
    go_end0
    exact⟨rfl,by rw[<- H.out,B.out];exact z.out,I.drewN _⟩
def bF(T:ai)(p:Nat):ai:=T.extract p (bO T p)
def hq(T:ai)(p:Nat):Nat:=skip T (bO T p)
def bH(L:List ai)(l:List UInt8):Bool:=decide (0<=ba L l)
def xM(w:World)(b:Nat)(T:ai)(p:Nat)(d c vL:Value)(a place:Int):Prop:=fF w b T p (bO T p:Nat) d c vL a place
def iP(w:World)(v:Value)(L:List ai):Prop:=w.ownsRow 0 9 1 v L.length (L.map .string)/\L.length<=100
theorem AA(v:Value)(L:List ai)(s:ai)(w:World)(b:iP w v L):Calls prog 126 #[v,.string s] w fun e w'=>e=.returned (.bool (bH L s.toList))/\w'=w:=by
 have a:Hid (iP w v L):=b;clear b;go_enter func126,ntmps126;go_wp2_with fail;refine(yG v 0 L s _ a.out.1 a.out.2).mono ?_;rintro c d ⟨rfl,rfl⟩;go_wp2_with fail;go_ret;exact⟨rfl,rfl⟩
theorem A8{w:World}{v:Value}{L:List ai}(h:iP w v L)(n:Nat):iP (w.drewN n) v L:=h
theorem qo{w:World}{b:Nat}{T:ai}{p:Nat}{d c vL:Value}{a place:Int}(h:xM w b T p d c vL a place)(n:Nat):xM (w.drewN n) b T p d c vL a place:=h
theorem qy(b:Nat)(T:ai)(p:Nat)(d c vL:Value)(a place:Int)(v:Value)(L:List ai)(w:World)(h:xM w b T p d c vL a place)(j:p<=T.size)(e:iP w v L):Calls prog 76 #[.pointer (some ⟨b,0,none⟩),v] w fun r w'=>r=.returned (.bool (bH L (bF T p).toList))/\∃n,w'=w.drewN n:=by
 have i:Hid (iP w v L):=e;have g:Hid (xM w b T p d c vL a place):=h;have k:=eQ T p;obtain⟨l,f,o⟩:=k;have m:=f j;clear e h f o;go_enter func76,ntmps76;go_wp2_with fail;refine(zP b T p (bO T p) d c vL a place _ g.out l m).mono ?_;rintro q t ⟨rfl,n,rfl⟩;go_wp2_with fail;refine(AA v L (T.extract p (bO T p)) _ (A8 i.out n)).mono ?_;rintro s u ⟨rfl,rfl⟩;go_wp2_with fail;go_ret;exact⟨rfl,n,rfl⟩
theorem Fp(b:Nat)(T:ai)(p:Nat)(d c vL:Value)(a place:Int)(v:Value)(L:List ai)(w:World)(h:xM w b T p d c vL a place)(i:p<=T.size)(e:iP w v L)(k:bH L (bF T p).toList=false):Calls prog 131 #[.pointer (some ⟨b,0,none⟩),v] w fun r w'=>r=.returned (.string ⟨#[]⟩)/\∃n,w'=w.drewN n:=by
 have g:Hid (iP w v L):=e;have f:Hid (xM w b T p d c vL a place):=h;clear e h;go_enter func131,ntmps131;go_wp2_with fail;refine(qy b T p d c vL a place v L _ f.out i g.out).mono ?_;rintro j l ⟨rfl,n,rfl⟩;go_wp2_with fail;go_ret;exact⟨rfl,n,rfl⟩
theorem A9(b:Nat)(T:ai)(p:Nat)(d c vL:Value)(a place:Int)(v:Value)(L:List ai)(w:World)(h:xM w b T p d c vL a place)(j:p<=T.size)(x:T.size<=1000)(i:iP w v L)(F:bH L (bF T p).toList=true):Calls prog 131 #[.pointer (some ⟨b,0,none⟩),v] w fun r w'=>r=.returned (.string (bF T p))/\xM w' b T (hq T p) d c vL a place/\bj (fun k=>k=b) w w':=by
 have u:Hid (iP w v L):=i;have e:Hid (xM w b T p d c vL a place):=h;have y:=eQ T p;obtain⟨z,l,A⟩:=y;have m:=l j;clear i h l A;go_enter func131,ntmps131;go_wp2_with fail;refine(qy b T p d c vL a place v L _ e.out j u.out).mono ?_;rintro C G ⟨rfl,n,rfl⟩;go_wp2_with fail;refine(zP b T p (bO T p) d c vL a place _ (qo e.out n) z m).mono ?_;rintro D o ⟨rfl,B,f⟩;have s:Hid (xM o b T p d c vL a place):=by rw[f];exact e.out
 have q:Hid (bj (fun k=>k=b) w o):=by rw[f];exact((bj.refl _ _).drewN n).drewN B
 clear f;go_wp2_with fail;refine(vM b T p (bO T p) d c vL a place _ s.out m x).mono ?_;rintro E w3 ⟨rfl,g,c3⟩;have t:Hid (xM w3 b T (hq T p) d c vL a place):=g;clear g;go_wp2_with fail;go_ret;exact⟨rfl,t.out,q.out.trans c3⟩
theorem M2{T:ai}{p:Nat}{L:List ai}(a:bH L (bF T p).toList=true)(d:∀x∈L,x.toList≠[]):(bF T p).toList.isEmpty=false:=by
 unfold bH at a;simp at a;unfold ba at a;cases c:L.findIdx? (fun x=>x.toList==(bF T p).toList)with
 | none=>rw[c]at a;simp at a
 | some i =>
  obtain⟨hi,b,_⟩:=q2.1 c;simp at b;have:=d L[i] (bl hi);rw[b]at this;simpa using this
theorem Kv(b:Nat)(T:ai)(p:Nat)(d c vL:Value)(a place:Int)(v:Value)(L:List ai)(w:World)(h:xM w b T p d c vL a place)(q:p<=T.size)(o:T.size<=1000)(g:iP w v L)(e:bH L (bF T p).toList=true)(f:∀x∈L,x.toList≠[]):Calls prog 128 #[.pointer (some ⟨b,0,none⟩),v] w fun r w'=>r=.returned (.string (bF T p))/\xM w' b T (hq T p) d c vL a place/\bj (fun k=>k=b) w w':=by
 have m:Hid (iP w v L):=g;have j:Hid (xM w b T p d c vL a place):=h;have u:=M2 e f;have l:Hid (bH L (bF T p).toList=true):=e;clear g h e f;go_enter func128,ntmps128;go_wp2_with fail;refine(A9 b T p d c vL a place v L _ j.out q o m.out l.out).mono ?_;rintro t s ⟨rfl,h1,n⟩;have i:Hid (xM s b T (hq T p) d c vL a place):=h1;clear h1;go_wp2_with fail;go_ret;exact⟨rfl,i.out,n⟩
theorem kD(T:ai):bO T T.size=T.size:=by
 unfold bO;rw[ae (by omega)];exact lh (ah (ar _))
theorem NC(b:Nat)(T:ai)(p:Nat)(d c vL:Value)(a place:Int)(v:Value)(L:List ai)(w:World)(h:xM w b T p d c vL a place)(q:p<=T.size)(g:iP w v L)(i:bH L (bF T p).toList=false):Calls prog 128 #[.pointer (some ⟨b,0,none⟩),v] w fun r w'=>r=.returned (.string ⟨#[]⟩)/\xM w' b T T.size d c vL (pf a 2) (pp a p place)/\bj (fun k=>k=b) w w':=by
 have m:Hid (iP w v L):=g;have e:Hid (xM w b T p d c vL a place):=h;have l:Hid (bH L (bF T p).toList=false):=i;clear g h i;go_enter func128,ntmps128;go_wp2_with fail;refine(Fp b T p d c vL a place v L _ e.out q m.out l.out).mono ?_;rintro t x ⟨rfl,n,rfl⟩;go_wp2_with fail;refine(Gh b T p (bO T p) d c vL a place 2 _ (qo e.out n)).mono ?_;rintro u s ⟨rfl,f,o⟩;have j:Hid (fF s b T T.size T.size d c vL (pf a 2) (pp a (p:Int) place)):=f;clear f;go_wp2_with fail;go_ret;refine⟨rfl,?_,((bj.refl _ _).drewN n).trans o⟩;show fF _ _ _ _ _ _ _ _ _ _;rw[kD];exact j.out
def eI(T:ai)(p:Nat):Bool:=decide (p≠T.size)&&dL (Iz T p)
theorem xY(b:Nat)(T:ai)(p:Nat)(d c vL:Value)(a place:Int)(v:Value)(L:List ai)(w:World)(h:xM w b T p d c vL a place)(j:p<=T.size)(k:iP w v L):Calls prog 170 #[.pointer (some ⟨b,0,none⟩),v] w fun r w'=>r=.returned (.bool (eI T p&&!bH L (bF T p).toList))/\∃n,w'=w.drewN n:=by
 have i:Hid (iP w v L):=k;have e:Hid (xM w b T p d c vL a place):=h;obtain⟨o,q,s,c3,t,u,x,y,z⟩:=dA h;clear k h
 by_cases f:p=T.size
 ·have hd:decide (p=T.size)=true:=by simpa using f
  have g:Hid ((eI T p&&!bH L (bF T p).toList)=false):=by show _=false;unfold eI;simp[f]
  rw[g.out];go_enter func170,ntmps170;go_wp2_with fail;go_quiet ((first|(go_at_call 79;exact Calls.quiet_of (nZ b T p (bO T p) d c vL a place _ (by exact e.out)))|(go_at_call 125;exact Calls.quiet_of_same (eT _ _))|(go_at_call 76;exact Calls.quiet_of (qy b T p d c vL a place v L _ (by exact e.out) j (by exact i.out)))));go_wp2_with fail;go_ret;exact⟨rfl,_,rfl⟩
 ·have hd:decide (p=T.size)=false:=by simpa using f
  have m:p<T.size:=by omega
  cases l:dL (T[p].toNat)
  ·have g:Hid ((eI T p&&!bH L (bF T p).toList)=false):=by show _=false;unfold eI;rw[ko m,l];simp
   rw[g.out];clear f;go_enter func170,ntmps170;go_wp2_with fail;go_quiet ((first|(go_at_call 79;exact Calls.quiet_of (nZ b T p (bO T p) d c vL a place _ (by exact e.out)))|(go_at_call 125;exact Calls.quiet_of_same (eT _ _))|(go_at_call 76;exact Calls.quiet_of (qy b T p d c vL a place v L _ (by exact e.out) j (by exact i.out)))));go_wp2_with fail;go_ret;exact⟨rfl,_,rfl⟩
  ·have g:Hid ((eI T p&&!bH L (bF T p).toList)=!bH L (bF T p).toList):=by show _=_;unfold eI;rw[ko m,l];simp[f]
   rw[g.out];clear f;go_enter func170,ntmps170;go_wp2_with fail;go_quiet ((first|(go_at_call 79;exact Calls.quiet_of (nZ b T p (bO T p) d c vL a place _ (by exact e.out)))|(go_at_call 125;exact Calls.quiet_of_same (eT _ _))|(go_at_call 76;exact Calls.quiet_of (qy b T p d c vL a place v L _ (by exact e.out) j (by exact i.out)))));go_wp2_with fail;go_ret;exact⟨rfl,_,rfl⟩
theorem wB(b base:Nat)(T:ai)(p:Nat)(c u vL:Value)(l place:Int)(aa:List ai)(x:ai)(w:World)(h:xM w b T p c u vL l place)(g:w.ownsRow base 9 1 c aa.length (aa.map .string))(t:aa.length<=100):Calls prog 171 #[.pointer (some ⟨b,0,none⟩),.string x] w fun r w'=>r=.returned (.tuple #[.int .u8 (max (ba aa x.toList) 0),.bool (decide (0<=ba aa x.toList))])/\w'=w:=by
 obtain⟨v,z,A,c3,B,C,D,E,F⟩:=dA h;have j:Hid (w.ownsRow base 9 1 c aa.length (aa.map .string)):=g;have o:-1<=ba aa x.toList/\ba aa x.toList<100:=by
  unfold ba;cases s:aa.findIdx? (fun y=>y.toList==x.toList)with
  | none=>simp
  | some i=>have:=(q2.1 s).1;simp;omega
 obtain⟨m,n⟩:=o;obtain⟨k,d⟩:∃k,k=ba aa x.toList:=⟨_,rfl⟩;have e:Hid (k=ba aa x.toList):=d;rw[<- d]at m n;clear g h d;rw[<- e.out];have q:(0<=k/\max k 0=k/\decide (0<=k)=true)\/(k<0/\max k 0=0/\decide (0<=k)=false):=by
  by_cases h0:0<=k
  ·left;exact⟨h0,by omega,by simpa using h0⟩
  ·right;exact⟨by omega,by omega,by simp;omega⟩
 rcases q with⟨h0,a,f⟩|⟨h0,a,f⟩
 all_goals
  rw[a,f];clear a;go_enter func171,ntmps171;go_wp2_with fail;refine(yG c base aa x _ j.out t).mono ?_;rintro a G ⟨rfl,rfl⟩;rw[<- e.out];go_wp2_with fail
  go_ret2
  exact⟨rfl,rfl⟩
def eX(w:World)(v a:Value):Prop:=a.ownBlock=v.ownBlock\/a.ownBlock=some w.heap.size
theorem JP{P:Program}(w:World)(t k e:TypeId)(base:Nat)(z:Value)(size bytes:Nat)(G:(P.info? e).map (fun i=>(i.zero,i.size,i.bytes))=some (some z,size,bytes))(p:P.underlying t=some (.slice e)) (J:z.cells.size=size) (I:0<size) (v:Value) (n:Nat) (xs:List Value) (o:w.ownsRow base e size v n xs) (a:Addr) (c:Nat) (b:List Value) (M:b.length=size) (m:∀j u,b[j]?=some u->w.cell? (a.add j)=some u) (h1:∀u∈b,u.oneCell'=true) (N:n<=9000000000) (C:bytes<=1000) (B:base<=w.heap.size):∃l w',(Builtin.append_ #[t,t] k #[v,.slice (some a) 1 c]).run P w=.ok l w'/\w'.ownsRow base e size l (n+1) (xs++b)/\w.grownBy w' v.ownBlock/\eX w v l:=by
 obtain⟨i,hi,q,y,A⟩:=info_parts G;have hb:(n+1)*bytes<=140737488355328:=by
  calc (n+1)*bytes<=9000000001*1000:=h2 (by omega) C
   _<=_:=by omega
 have f:b.length=1*size:=by omega
 obtain⟨l,w',d,H,hg,_⟩:=run_append_own (P:=P) w base t k e i z size bytes p hi q y A J I v n xs o a 1 c b f m h1 (by simp only[maxLen];omega) hb B;refine⟨l,w',d,H,hg,?_⟩;subst y;subst A;rcases o.2 with⟨rfl,rfl⟩|⟨g,au,r,rfl,K,F,O,L,D,Q⟩
 ·have h:=run_append_nil (P:=P) w t k e i z p hi q a 1 c b f m (by omega) (by omega) (by omega);rw[h]at d;injection d with h1 s
  rw[<- h1];exact ac rfl
 ·by_cases x:n+1<=au
  ·have E:n*i.size+b.length<=r.size:=by rw[f,D,<- Nat.add_mul];exact Nat.mul_le_mul_right _ x
   have h:=run_append_room (P:=P) w t k e i p hi g n au r F a 1 c b f m h1 x E;rw[h]at d;injection d with h1 s
   rw[<- h1];exact ah rfl
  ·have h:=run_append_grow (P:=P) w t k e i z p hi q ⟨g,0,none⟩ n au xs o.1 (o.cells (g:=g) rfl) a 1 c b f m (by omega) (by omega) (growslice_fits (by omega) hb);rw[h]at d;injection d with h1 s
   rw[<- h1];exact ac rfl
theorem Dh(g j:Nat):(⟨g,0,none⟩:Addr).add j=⟨g,j,none⟩:=by unfold Addr.add;split<;>simp_all
theorem Fe{P:Program}{w:World}{o:Oper}{a:Act}{K:Act->World->Prop}{Q:Exit->Act->World->Prop}(s x:Operand)(t:TypeId) (B:o.op=.call { callee:=.builtin .append,args:=#[s,x],argTypes:=#[t,t] }) (base:Nat) (e:TypeId) (z:Value) (size bytes:Nat) (q:(P.info? e).map (fun i=>(i.zero,i.size,i.bytes))=some (some z,size,bytes)) (G:P.underlying t=some (.slice e)) (I:z.cells.size=size) (F:0<size) (v:Value) (n:Nat) (xs:List Value) (E:a.eval s=v) (C:w.ownsRow base e size v n xs) (g c:Nat) (b:List Value) (H:a.eval x=.slice (some ⟨g,0,none⟩) 1 c) (r:b.length=size) (A:∀j u,b[j]?=some u->w.cell? ⟨g,j,none⟩=some u) (h1:∀u∈b,u.oneCell'=true) (y:n<=9000000000) (p:bytes<=1000) (m:base<=w.heap.size) (l:∀d w',w'.ownsRow base e size d (n+1) (xs++b)->w.grownBy w' v.ownBlock->eX w v d->K (a.put o.dst d) w'):o.wp P a w K Q:=by
 obtain⟨d,w',D,f,h,k⟩:=JP (P:=P) w t o.type e base z size bytes q G I F v n xs C ⟨g,0,none⟩ c b r (fun j u hu=>by rw[Dh];exact A j u hu) h1 y p m;unfold Oper.wp execOp;simp only[B,resolve,invoke,builtin,Sem.run_bind,Sem.run_pure,Result.andThen_ok,nt,bS,g7,E,H,D];exact l d w' f h k
theorem bs{P:Program}{w:World}{f:Array Oper}{rest:List Oper}{o:Oper}{a:Act}{Q:Exit->Act->World->Prop}(y:o.guard=none)(s x:Operand)(t:TypeId) (E:o.op=.call { callee:=.builtin .append,args:=#[s,x],argTypes:=#[t,t] }) (base:Nat) (e:TypeId) (z:Value) (size bytes:Nat) (A:(P.info? e).map (fun i=>(i.zero,i.size,i.bytes))=some (some z,size,bytes)) (I:P.underlying t=some (.slice e)) (K:z.cells.size=size) (H:0<size) (v:Value) (n:Nat) (xs:List Value) (G:a.eval s=v) (F:w.ownsRow base e size v n xs) (g c:Nat) (b:List Value) (J:a.eval x=.slice (some ⟨g,0,none⟩) 1 c) (B:b.length=size) (D:∀j u,b[j]?=some u->w.cell? ⟨g,j,none⟩=some u) (h1:∀u∈b,u.oneCell'=true) (C:n<=9000000000) (r:bytes<=1000) (q:base<=w.heap.size) (h:∀d w',w'.ownsRow base e size d (n+1) (xs++b)->w.grownBy w' v.ownBlock->eX w v d->wpList P f Q rest (a.put o.dst d) w'):wpList P f Q (o::rest) a w :=
 wpList_plain y fun _ p=>Fe s x t E base e z size bytes A I K H v n xs G F g c b J B D h1 C r q fun d w' k l m=>p _ _ (h d w' k l m)
theorem dz{P:Program}{w:World}{f:Array Oper}{o:Oper}{a:Act}{K:Act->World->Prop}{Q:Exit->Act->World->Prop}{E:Prop}(m:o.guard=none)(s x:Operand)(t:TypeId) (A:o.op=.call { callee:=.builtin .append,args:=#[s,x],argTypes:=#[t,t] }) (base:Nat) (e:TypeId) (z:Value) (size bytes:Nat) (p:(P.info? e).map (fun i=>(i.zero,i.size,i.bytes))=some (some z,size,bytes)) (F:P.underlying t=some (.slice e)) (I:z.cells.size=size) (D:0<size) (v:Value) (n:Nat) (xs:List Value) (C:a.eval s=v) (B:w.ownsRow base e size v n xs) (g c:Nat) (b:List Value) (H:a.eval x=.slice (some ⟨g,0,none⟩) 1 c) (q:b.length=size) (y:∀j u,b[j]?=some u->w.cell? ⟨g,j,none⟩=some u) (h1:∀u∈b,u.oneCell'=true) (r:n<=9000000000) (l:bytes<=1000) (k:base<=w.heap.size) (h:∀d w',w'.ownsRow base e size d (n+1) (xs++b)->w.grownBy w' v.ownBlock->eX w v d->K (a.put o.dst d) w'):if Region.wanted o (yielded f a.tmps)=true then Oper.wp P o a w K Q else E:=by
 have G:Region.wanted o (yielded f a.tmps)=true:=by simp[Region.wanted,m]
 rw[ag G];exact Fe s x t A base e z size bytes p F I D v n xs C B g c b H q y h1 r l k h
structure Px where
 what:Nat
 k:Nat
 l:List Px
def r0(k:Nat):Px:=⟨0,k,[]⟩
def eA(l:List Px):Px:=⟨1,0,l⟩
def ff(l:List Px):Px:=match l with
 | [x]=>x
 | l=>⟨2,0,l⟩
def q7(x:Px):Px:=⟨3,0,[x]⟩
def rq(x:Px):Px:=⟨4,0,[x]⟩
def mU(x:Px):Px:=⟨2,0,[x,eA []]⟩
abbrev St:=Nat×List Nat
def b9(S:List St)(f t:Nat):List St:=S.modify f fun s=>(s.1,s.2++[t])
def mk:Nat->Px->List St->Nat->List St×Nat
 | 0,_,S,b=>(S,b)
 | d+1,x,S,b =>
  if x.what=0 then (S++[(x.k,[b])],S.length)
  else if x.what=1 then x.l.foldr (fun y r=>mk d y r.1 r.2) (S,b)
  else if x.what=2 then (x.l.foldl (fun Z y=>b9 (mk d y Z b).1 S.length (mk d y Z b).2) (S++[(0,[])]),S.length)
  else match x.l with
   | [y]=>(b9 (mk d y (S++[(0,[b])]) S.length).1 S.length (mk d y (S++[(0,[b])]) S.length).2,if x.what=3 then S.length else (mk d y (S++[(0,[b])]) S.length).2)
   | _=>(S,b)
def fB:Nat->Px->Nat
 | 0,_=>0
 | d+1,x =>
  if x.what=0 then 1
  else if x.what=1 then (x.l.map (fB d)).sum
  else if x.what=2 then 1+(x.l.map fun y=>1+fB d y).sum
  else 2+(x.l.map (fB d)).sum
def lg(S:List St):Nat:=(S.map fun s=>s.2.length).sum
theorem dv(S:List St)(f t:Nat):(b9 S f t).length=S.length:=by unfold b9;simp
theorem qu(S:List St)(f t:Nat):lg (b9 S f t)<=lg S+1:=by
 unfold b9
 induction S generalizing f with
 | nil=>simp[lg]
 | cons a S b =>
  cases f with
  | zero=>simp[lg];omega
  | succ f=>have:=b f;simp[lg]at *;omega
theorem MZ{S:List St}{s:St}(h:s∈S):s.2.length<=lg S:=by
 induction S with
 | nil=>simp at h
 | cons a S b =>
  simp only[lg,bS,dC]at *;rcases aT.1 h with rfl|h
  ·omega
  ·have:=b h;omega
def i7(n:Nat)(S R:List St):Prop:=S.length<=R.length/\R.length<=S.length+n/\lg R<=lg S+n
theorem i7.trans{n m k:Nat}{S R Q:List St}(h:i7 n S R)(d:i7 m R Q)(g:n+m<=k):i7 k S Q:=by
 unfold i7 at *;omega
theorem nQ(d:Nat):∀(x:Px) (S:List St) (b:Nat),i7 (fB d x) S (mk d x S b).1:=by
 induction d with
 | zero=>intro x S b;simp[mk,fB,i7]
 | succ d c =>
  intro x S b;rw[mk,fB];split
  ·simp[i7,lg]
  ·split
   ·have key:∀(l:List Px),i7 (l.map (fB d)).sum S (l.foldr (fun y r=>mk d y r.1 r.2) (S,b)).1:=by
     intro l
     induction l with
     | nil=>simp[i7]
     | cons y l e =>
      rw[List.foldr_cons,bS,dC];exact e.trans (c y _ _) (by omega)
    exact key x.l
   ·split
    ·have key:∀(l:List Px) (Z:List St),i7 (l.map fun y=>1+fB d y).sum Z (l.foldl (fun Z y=>b9 (mk d y Z b).1 S.length (mk d y Z b).2) Z):=by
      intro l
      induction l with
      | nil=>simp[i7]
      | cons y l e =>
       intro Z;rw[jb,bS,dC];have h1:=c y Z b;have a:i7 1 (mk d y Z b).1 (b9 (mk d y Z b).1 S.length (mk d y Z b).2):=⟨by rw[dv];omega,by rw[dv];omega,qu _ _ _⟩;exact(h1.trans a (ar _)).trans (e _) (by omega)
     have h0:i7 1 S (S++[(0,[])]):=by simp[i7,lg]
     exact h0.trans (key x.l (S++[(0,[])])) (by omega)
    ·split
     ·rename_i y f;have h0:i7 1 S (S++[(0,[b])]):=by simp[i7,lg]
      have h1:=c y (S++[(0,[b])]) S.length;have a:i7 1 (mk d y (S++[(0,[b])]) S.length).1 (b9 (mk d y (S++[(0,[b])]) S.length).1 S.length (mk d y (S++[(0,[b])]) S.length).2):=⟨by rw[dv];omega,by rw[dv];omega,qu _ _ _⟩;simp only[f,bS,g7,dC,List.sum_nil];exact(h0.trans h1 (ar _)).trans a (by omega)
     ·simp[i7]
def gW(f q:Nat):Value:=.func (.func f) #[] #[.pointer (some ⟨q,0,none⟩)]
def gv(R:Value->Px->Prop)(A:Nat->Prop)(w:World)(v:Value)(l:List Px):Prop :=
 ∃us:List Value,us.length=l.length/\l.length<=9000/\w.ownsRow 0 224 1 v l.length us/\(∀k,v.ownBlock=some k->A k)/\∀(i:Nat) (u:Value) (x:Px),us[i]?=some u->l[i]?=some x->R u x
def eY:Nat->(Nat->Prop)->World->Value->Px->Prop
 | 0,_,_,_,_=>False
 | d+1,A,w,v,x=>∃q,A q /\
  ((x.what=0/\v=gW 255 q/\w.heap[q]?=some (.cells #[.int .u8 x.k] 167 (0,0))/\x.k<256) \/
   (x.what=1/\v=gW 206 q/\∃a,w.heap[q]?=some (.cells #[a] 337 (0,0))/\gv (eY d A w) A w a x.l) \/
   (x.what=2/\v=gW 225 q/\∃a,w.heap[q]?=some (.cells #[a] 337 (0,0))/\gv (eY d A w) A w a x.l) \/
   (x.what=3/\v=gW 250 q/\∃u y,x.l=[y]/\w.heap[q]?=some (.cells #[u] 224 (0,0))/\eY d A w u y) \/
   (x.what=4/\v=gW 252 q/\∃u y,x.l=[y]/\w.heap[q]?=some (.cells #[u] 224 (0,0))/\eY d A w u y))
def Qd(t:TypeId):Prop:=t=167\/t=337\/t=224
def eZ(A:Nat->Prop)(w w':World):Prop:=∀(k:Nat) (a:Array Value) (t:TypeId) (m:Nat×Nat),A k->Qd t->w.heap[k]?=some (.cells a t m)->w'.heap[k]?=some (.cells a t m)
theorem gv.iS{R j:Value->Px->Prop}{A A':Nat->Prop}{w w':World}{v:Value}{l:List Px}(h:gv R A w v l)(E:eZ A w w')(y:∀k,k<w.heap.size->A k->A' k)(B:∀u x,R u x->j u x):gv j A' w' v l:=by
 obtain⟨G,h1,h0,d,n,t⟩:=h;refine⟨G,h1,h0,⟨d.1,?_⟩,fun k e=>y k (d.lt k e).2 (n k e),fun i u x hu F=>B _ _ (t i u x hu F)⟩;rcases d.2 with h|⟨g,au,q,o,hg,C,r⟩
 ·exact ah h
 ·exact ac ⟨g,au,q,o,hg,E _ _ _ _ (n g (by rw[o];rfl)) (ac (ac rfl)) C,r⟩
theorem gv.len{R:Value->Px->Prop}{A:Nat->Prop}{w:World}{v:Value}{l:List Px}(h:gv R A w v l):l.length<=9000:=by
 obtain⟨j,h1,h0,d,g,i⟩:=h;exact h0
theorem an{w:World}{k:Nat}{o:Obj}(h:w.heap[k]?=some o):k<w.heap.size:=(dE.1 h).1
theorem eY.iS{A A':Nat->Prop}{w w':World}(t:eZ A w w')(o:∀k,k<w.heap.size->A k->A' k):∀{d v x},eY d A w v x->eY d A' w' v x:=by
 intro d
 induction d with
 | zero=>intro v x h;exact h.elim
 | succ d B =>
  intro v x h;obtain⟨q,j,h⟩:=h;rcases h with⟨h1,n,g,i⟩|⟨h1,n,E,g,i⟩|⟨h1,n,E,g,i⟩|⟨h1,n,u,y,g,i,C⟩|⟨h1,n,u,y,g,i,C⟩
  ·exact⟨q,o q (an g) j,ah ⟨h1,n,t _ _ _ _ j (ah rfl) g,i⟩⟩
  ·exact⟨q,o q (an g) j,ac (ah ⟨h1,n,E,t _ _ _ _ j (ac (ah rfl)) g,i.iS t o (fun u x hu=>B hu)⟩)⟩
  ·exact⟨q,o q (an g) j,ac (ac (ah ⟨h1,n,E,t _ _ _ _ j (ac (ah rfl)) g,i.iS t o (fun u x hu=>B hu)⟩))⟩
  ·exact⟨q,o q (an i) j,ac (ac (ac (ah ⟨h1,n,u,y,g,t _ _ _ _ j (ac (ac rfl)) i,B C⟩)))⟩
  ·exact⟨q,o q (an i) j,ac (ac (ac (ac ⟨h1,n,u,y,g,t _ _ _ _ j (ac (ac rfl)) i,B C⟩)))⟩
theorem eZ.refl(A:Nat->Prop)(w:World):eZ A w w:=fun _ _ _ _ _ _ h=>h
theorem eZ.below{B:Nat}{w w':World}(h:Below B w w'){A:Nat->Prop}(g:∀k,k<w.heap.size->A k->k<B):eZ A w w':=fun k j t m i _ d=>by
 rw[h.block k (g k (an d) i)];exact d
theorem eY.later{B d:Nat}{w w':World}{v:Value}{x:Px}(h:eY d (fun k=>k<B) w v x)(hb:Below B w w'):eY d (fun k=>k<B) w' v x:=h.iS (eZ.below hb fun _ _ h=>h) fun _ _ h=>h
theorem eY.qJ{A:Nat->Prop}{w:World}:∀{d e v x},d<=e->eY d A w v x->eY e A w v x:=by
 intro d
 induction d with
 | zero=>intro e v x _ h;exact h.elim
 | succ d C =>
  intro e v x E h;cases e with
  | zero=>omega
  | succ e =>
   obtain⟨q,o,h⟩:=h;have B:d<=e:=by omega
   have row:∀{n l},gv (eY d A w) A w n l->gv (eY e A w) A w n l:=fun h=>h.iS (eZ.refl _ _) (fun _ _ h=>h) (fun _ _ h=>C B h)
   rcases h with⟨h1,g,i,j⟩|⟨h1,g,n,i,j⟩|⟨h1,g,n,i,j⟩|⟨h1,g,u,y,i,j,t⟩|⟨h1,g,u,y,i,j,t⟩
   ·exact⟨q,o,ah ⟨h1,g,i,j⟩⟩
   ·exact⟨q,o,ac (ah ⟨h1,g,n,i,row j⟩)⟩
   ·exact⟨q,o,ac (ac (ah ⟨h1,g,n,i,row j⟩))⟩
   ·exact⟨q,o,ac (ac (ac (ah ⟨h1,g,u,y,i,j,C B t⟩)))⟩
   ·exact⟨q,o,ac (ac (ac (ac ⟨h1,g,u,y,i,j,C B t⟩)))⟩
def dg(S:List St)(a:List Value):List Value:=(S.zip a).flatMap fun o=>[.int .u8 o.1.1,o.2]
def aP(l:List Nat):List Value:=l.map fun (n:Nat)=>Value.int .i64 (n:Int)
structure dH (w:World) (base:Nat) (vS:Value) (S:List St) (tv:List Value):Prop where
 len:tv.length=S.length
 row:w.ownsRow base 293 2 vS S.length (dg S tv)
 ib:∀(i:Nat) (v:Value) (s:St),tv[i]?=some v->S[i]?=some s->w.ownsRow base 3 1 v s.2.length (aP s.2)
 apart:∀(i j:Nat) (v u:Value) (k:Nat),i≠j->tv[i]?=some v->tv[j]?=some u->v.ownBlock=some k->u.ownBlock≠some k
def n3(w:World)(base m:Nat)(S:List St)(first:Int):Prop :=
 base<=m/\∃a b,w.heap[m]?=some (.cells #[a,.int .i64 first] 146 (0,0))/\dH w base a S b
theorem DK:∀(S:List St) (b:List Value) (i:Nat) (s:St) (v:Value),S[i]?=some s->b[i]?=some v->(dg S b)[i*2]?=some (.int .u8 s.1)/\(dg S b)[i*2+1]?=some v:=by
 intro S
 induction S with
 | nil=>intro b i s v h;simp at h
 | cons a S g =>
  intro b i s v h1 c;cases b with
  | nil=>simp at c
  | cons u b =>
   cases i with
   | zero=>simp at h1 c;subst h1;subst c;simp[dg]
   | succ i =>
    simp at h1 c;have:=g b i s v h1 c;have e:∀k,(dg (a::S) (u::b))[(i+1)*2+k]?=(dg S b)[i*2+k]?:=by
     intro k;rw[show (i+1)*2+k=(i*2+k)+2 from by omega];rfl
    have d:=e 0;have f:=e 1;simp only[k8]at d;rw[d,f];exact this
theorem zj(S:List St)(a:List Value)(s:St)(v:Value)(h:a.length=S.length):dg (S++[s]) (a++[v])=dg S a++[.int .u8 s.1,v]:=by
 unfold dg;rw[List.zip_append h.symm];simp
theorem Tryz.infoState:(prog.info? 293).map (fun i=>(i.zero,i.size,i.bytes))=some (some (.agg #[.int .u8 0,.slice none 0 0]),2,32):=by kernel_rfl
theorem Tryz.Je:prog.underlying 144=some (.slice 293):=by kernel_rfl
theorem Tryz.NN:(prog.info? 3).map (fun i=>(i.zero,i.size,i.bytes))=some (some (.int .i64 0),1,8):=by kernel_rfl
theorem Tryz.OZ:prog.underlying 33=some (.slice 3):=by kernel_rfl
theorem ak{w:World}{base:Nat}{e:TypeId}{size:Nat}{v:Value}{n:Nat}{us:List Value}(h:w.ownsRow base e size v n us):∃b au,v=.slice b n au:=by
 rcases h.2 with⟨a,c⟩|⟨g,au,d,a,_⟩
 ·exact⟨none,0,by rw[a,c]⟩
 ·exact⟨_,au,a⟩
theorem qg{w w':World}{base:Nat}{e:TypeId}{size:Nat}{v:Value}{n:Nat}{us:List Value}(h:w.ownsRow base e size v n us)(f:∀k,v.ownBlock=some k->w'.heap[k]?=w.heap[k]?):w'.ownsRow base e size v n us:=by
 refine⟨h.1,?_⟩;rcases h.2 with c|⟨g,au,b,a,hg,d,r⟩
 ·exact ah c
 ·exact ac ⟨g,au,b,a,hg,(f g (by rw[a];rfl)).trans d,r⟩
theorem bh{w:World}{base:Nat}{e:TypeId}{size:Nat}{v:Value}{n:Nat}{us:List Value}(h:w.ownsRow base e size v n us)(k:Nat)(a:v.ownBlock=some k):∃c,w.heap[k]?=some (.cells c e (0,0)):=by
 rcases h.2 with⟨b,_⟩|⟨g,au,d,b,hg,f,r⟩
 ·rw[b]at a;simp[Value.ownBlock]at a
 ·rw[b]at a;simp[Value.ownBlock]at a;subst a;exact⟨d,f⟩
theorem dI{w:World}{k l:Nat}{c d:Array Value}{t u:TypeId}{m n:Nat×Nat}(h:w.heap[k]?=some (.cells c t m))(a:w.heap[l]?=some (.cells d u n))(b:t≠u):k≠l:=by
 intro e;subst e;rw[h]at a;simp at a;exact b a.2.1
def Kp(t:TypeId)(w w':World):Prop:=∀(k:Nat) (a:Array Value) (m:Nat×Nat),w.heap[k]?=some (.cells a t m)->w'.heap[k]?=some (.cells a t m)
theorem Kp.refl(t:TypeId)(w:World):Kp t w w:=fun _ _ _ h=>h
theorem Kp.trans{t:TypeId}{a b c:World}(h:Kp t a b)(k:Kp t b c):Kp t a c:=fun i d m g=>k i d m (h i d m g)
theorem Kp.below{t:TypeId}{w w':World}(h:Below w.heap.size w w'):Kp t w w':=fun k g m d=>by rw[h.block k (an d)];exact d
theorem Kp.alloc{t:TypeId}{a w:World}(h:Kp t a w)(o:Obj):Kp t a (w.alloc o):=fun k d m g=>by rw[aW _ _ _ (an (h k d m g))];exact h k d m g
theorem Kp.drewN{t:TypeId}{a w:World}(h:Kp t a w)(n:Nat):Kp t a (w.drewN n):=h
theorem Kp.grown{t e:TypeId}{base size n:Nat}{a w w':World}{v:Value}{us:List Value}(h:Kp t a w)(o:w.ownsRow base e size v n us)(hg:w.grownBy w' v.ownBlock)(q:t≠e):Kp t a w':=fun k d m j=>by
 have h1:=h k d m j;rw[hg.block k (an h1) (fun g=>by obtain⟨u,i⟩:=bh o k g.symm;exact dI h1 i q rfl)];exact h1
theorem Kp.setCell{t t0:TypeId}{a w:World}{b o:Nat}{g:Array Value}{m0:Nat×Nat}(h:Kp t a w)(hb:w.heap[b]?=some (.cells g t0 m0))(j:t≠t0)(u:Value):Kp t a (w.setCell ⟨b,o,none⟩ u):=fun k d m i=>by
 have h1:=h k d m i;rw[e2 _ _ _ _ (dI h1 hb j)];exact h1
theorem al{w w':World}{base:Nat}{e:TypeId}{size:Nat}{v:Value}{n:Nat}{us:List Value}(h:w.ownsRow base e size v n us)(d:Kp e w w'):w'.ownsRow base e size v n us :=
 qg h fun k c=>by obtain⟨b,a⟩:=bh h k c;rw[a];exact d k b _ a
theorem br{w W w':World}{m base size n:Nat}{t e:TypeId}{a:Array Value}{v:Value}{us:List Value}(b:w.heap[m]?=some (.cells a t (0,0)))(h1:Kp t w W)(c:W.ownsRow base e size v n us)(hg:W.grownBy w' v.ownBlock)(d:t≠e):w'.heap[m]?=some (.cells a t (0,0)) :=
 (h1.grown c hg d) m a _ b
theorem p5(a b:Value)(c:a.oneCell'=true)(hb:b.oneCell'=true):∀u∈[a,b],u.oneCell'=true:=by
 intro u hu;simp at hu;rcases hu with rfl|rfl<;>assumption
theorem bD{α:Type}{l:List α}{a x:α}{i:Nat}(h:(l++[a])[i]?=some x):(l[i]?=some x/\i<l.length)\/(i=l.length/\x=a):=by
 rcases Nat.lt_trichotomy i l.length with h1|h1|h1
 ·left;rw[dD h1]at h;exact⟨h,h1⟩
 ·right;subst h1;simp at h;exact⟨rfl,h.symm⟩
 ·rw[eH (by omega)]at h;rw[show i-l.length=(i-l.length-1)+1 from by omega]at h;simp at h
theorem mL{w:World}{m:Nat}{a b v:Value}{t:TypeId}(h:w.heap[m]?=some (.cells #[a,b] t (0,0))):(w.setCell ⟨m,0,none⟩ v).heap[m]?=some (.cells #[v,b] t (0,0)):=(am h 0 _).trans rfl
theorem dH.push{w q:World}{base:Nat}{J E v:Value}{S:List St}{g:List Value}{k:Nat}{ib:List Nat}(h:dH w base J S g)(H:q.ownsRow base 293 2 E (S.length+1) (dg S g++[.int .u8 k,v])) (t:Kp 3 w q) (I:w.ownsRow base 3 1 v ib.length (aP ib)) (A:∀(i:Nat) (u:Value) (j:Nat),g[i]?=some u->u.ownBlock=some j->v.ownBlock≠some j):dH q base E (S++[(k,ib)]) (g++[v]):=by
 have y:=h.len;refine⟨by simp[y],?_,?_,?_⟩
 ·rw[zj _ _ _ _ y,aF];exact H
 ·intro i u s hu B;rcases bD hu with⟨h1,F⟩|⟨h1,rfl⟩
  ·rcases bD B with⟨d,n⟩|⟨d,rfl⟩
   ·exact al (h.ib i u s h1 d) t
   ·omega
  ·rcases bD B with⟨d,n⟩|⟨d,rfl⟩
   ·omega
   ·exact al I t
 ·intro i j u x k G hu C o;rcases bD hu with⟨h1,F⟩|⟨h1,rfl⟩
  ·rcases bD C with⟨d,n⟩|⟨d,rfl⟩
   ·exact h.apart i j u x k G h1 d o
   ·exact A i u k h1 o
  ·rcases bD C with⟨d,n⟩|⟨d,rfl⟩
   ·intro e;exact A j x k d e o
   ·omega
theorem Mj(base m:Nat)(S:List St)(first:Int)(k:Nat)(ib:List Nat)(v r:Value)(a:List Value)(w:World)(o:base<=m)(h:w.heap[m]?=some (.cells #[r,.int .i64 first] 146 (0,0)))(l:dH w base r S a) (hb:base<=w.heap.size) (hS:S.length<=9000) (n:w.ownsRow base 3 1 v ib.length (aP ib)) (p:∀(i:Nat) (u:Value) (j:Nat),a[i]?=some u->u.ownBlock=some j->v.ownBlock≠some j):Calls prog 226 #[.pointer (some ⟨m,0,none⟩),.int .u8 k,v] w fun e w'=>e=.returned (.int .i64 S.length)/\n3 w' base m (S++[(k,ib)]) first/\Below base w w':=by
 obtain⟨d,au,rfl⟩:=ak l.row;obtain⟨f,g,rfl⟩:=ak n;have B:=ab h 0 _ rfl;have F:=aq h;have c:Hid (w.ownsRow base 293 2 (.slice d S.length au) S.length (dg S a)):=l.row;have s:Hid (w.heap[m]?=some (.cells #[.slice d S.length au,.int .i64 first] 146 (0,0))):=h;have y:Hid (w.ownsRow base 3 1 (.slice f ib.length g) ib.length (aP ib)):=n;have t:Hid (∀(i:Nat) (u:Value) (j:Nat),a[i]?=some u->u.ownBlock=some j->Value.ownBlock (.slice f ib.length g)≠some j):=p;have x:Hid (dH w base (.slice d S.length au) S a):=l;clear l h n p;go_enter func226,ntmps226;go_wp2_with (at_builtin;refine bs rfl (.tmp 11) (.tmp 15) 144 rfl base 293 (.agg #[.int .u8 0,.slice none 0 0]) 2 32 Tryz.infoState Tryz.Je rfl (by decide) (.slice d S.length au) S.length (dg S a) rfl (by exact c.out.alloc _) w.heap.size 1 [.int .u8 k,.slice f ib.length g] rfl rfl (fun j u hu=>by rw[ab (aw w _) j u (by simpa using hu)]) (p5 _ _ rfl rfl) (by omega) (by omega) (by simp;omega) ?_;intro H w' q hg G;obtain⟨A,C,rfl⟩:=ak q;have b:=br s.out ((Kp.refl _ w).alloc _) (c.out.alloc _) hg (by decide);have D:=ab b 0 _ rfl;have E:=aq b);go_ret;refine⟨rfl,⟨o,_,a++[.slice f ib.length g],mL b,?_⟩,?_⟩
 ·refine x.out.push ?_ ?_ y.out t.out
  ·exact al q ((Kp.refl _ _).setCell b (by decide) _)
  ·exact((((Kp.refl _ w).alloc _).grown (c.out.alloc _) hg (by decide))).setCell b (by decide) _
 ·refine Below.setCell (Below.grown ((aB _ _).alloc hb _) hg (by simp;omega) fun k z=>?_) o _;exact(c.out.lt k z).1
theorem KO{S:List St}{f t i:Nat}{s:St}(h:(b9 S f t)[i]?=some s):(i≠f/\S[i]?=some s)\/(i=f/\∃c,S[i]?=some c/\s=(c.1,c.2++[t])):=by
 unfold b9 at h;rw[qY]at h
 by_cases e:f=i
 ·right;subst e;simp at h;obtain⟨a,b,h1,rfl⟩:=h;exact⟨rfl,_,h1,rfl⟩
 ·left;refine⟨fun d=>e d.symm,?_⟩;cases hS:S[i]? with
  | none=>rw[hS]at h;simp at h
  | some x=>rw[hS]at h;simp[e]at h;rw[h]
theorem Bq:∀(S:List St) (b:List Value) (f t:Nat) (v:Value),b.length=S.length->f<S.length->dg (b9 S f t) (b.set f v)=(dg S b).set (f*2+1) v:=by
 intro S
 induction S with
 | nil=>intro b f t v _ h;simp at h
 | cons a S i =>
  intro b f t v c g;cases b with
  | nil=>simp at c
  | cons u b =>
   cases f with
   | zero=>simp[dg,b9]
   | succ f =>
    have:=i b f t v (by simpa using c) (by simpa using g);rw[show (f+1)*2+1=(f*2+1)+2 from by omega];have d:dg (b9 (a::S) (f+1) t) ((u::b).set (f+1) v)=.int .u8 a.1::u::dg (b9 S f t) (b.set f v):=by simp[dg,b9]
    have e:dg (a::S) (u::b)=.int .u8 a.1::u::dg S b:=by simp[dg]
    rw[d,e,this];rfl
theorem tx{w:World}{base g n au:Nat}{e:TypeId}{size:Nat}{us:List Value}(h:w.ownsRow base e size (.slice (some ⟨g,0,none⟩) n au) n us)(o:Nat)(u:Value):(w.setCell ⟨g,o,none⟩ u).ownsRow base e size (.slice (some ⟨g,0,none⟩) n au) n (us.set o u):=by
 obtain⟨h1,c⟩:=h;refine⟨by rw[jc];exact h1,?_⟩;rcases c with⟨a,_⟩|⟨m,l,b,a,hg,k,d,f,i,j⟩
 ·simp at a
 ·simp at a;obtain⟨rfl,rfl⟩:=a;refine ac ⟨g,au,b.setIfInBounds o u,rfl,hg,am k o u,d,f,by simpa using i,?_⟩;rw[Array.toList_setIfInBounds,List.take_set,j]
theorem dH.lead{w C:World}{base F E f t:Nat}{u v:Value}{S:List St}{o:List Value}(h:dH w base (.slice (some ⟨F,0,none⟩) S.length E) S o)(Q:f<S.length)(hu:o[f]?=some u) (V:C.ownsRow base 293 2 (.slice (some ⟨F,0,none⟩) S.length E) S.length ((dg S o).set (f*2+1) v)) (U:∀(k:Nat),some k≠u.ownBlock->(∃O,w.heap[k]?=some (.cells O 3 (0,0)))->C.heap[k]?=w.heap[k]?) (W:∀(s:St),S[f]?=some s->C.ownsRow base 3 1 v (s.2.length+1) (aP s.2++[.int .i64 t])) (B:v.ownBlock=u.ownBlock\/∃k,v.ownBlock=some k/\w.heap.size<=k):dH C base (.slice (some ⟨F,0,none⟩) S.length E) (b9 S f t) (o.set f v):=by
 have I:=h.len;have X:∀(i:Nat) (x:Value) (s:St),i≠f->o[i]?=some x->S[i]?=some s->C.ownsRow base 3 1 x s.2.length (aP s.2):=by
  intro i x s hi d J;have h0:=h.ib i x s d J;refine qg h0 fun k n=>?_
  refine U k (fun e=>?_) (bh h0 k n);exact h.apart i f x u k hi d hu n e.symm
 have at_:∀(i:Nat) (x:Value),(o.set f v)[i]?=some x->(i≠f/\o[i]?=some x)\/(i=f/\x=v):=by
  intro i x d
  by_cases e:i=f
  ·right;subst e;rw[oW (by omega)]at d;simp at d;exact⟨rfl,d.symm⟩
  ·left;rw[qZ (fun P=>e P.symm)]at d;exact⟨e,d⟩
 have K:∀(j:Nat) (x:Value) (k:Nat),j≠f->o[j]?=some x->x.ownBlock=some k->v.ownBlock≠some k:=by
  intro j x k R d n e;rcases B with B|⟨k',B,Z⟩
  ·exact h.apart j f x u k R d hu n (by rw[<- B];exact e)
  ·have T:j<S.length:=by rw[<- I];exact(a1.1 d).1
   have:=((h.ib j x _ d (ax T)).lt k n).2;rw[B]at e;simp at e;omega
 refine⟨by rw[jc,dv];exact I,?_,?_,?_⟩
 ·rw[Bq S o f t v I Q,dv];exact V
 ·intro i x s d J;rcases KO J with⟨h1,G⟩|⟨h1,Y,G,rfl⟩
  ·rcases at_ i x d with⟨g,q⟩|⟨g,q⟩
   ·exact X i x s h1 q G
   ·exact absurd g h1
  ·subst h1;rcases at_ i x d with⟨g,q⟩|⟨g,rfl⟩
   ·exact absurd rfl g
   ·have:=W Y G;simpa[aP]using this
 ·intro i j x y k M d N n;rcases at_ i x d with⟨g,q⟩|⟨g,rfl⟩
  ·rcases at_ j y N with⟨A,H⟩|⟨A,rfl⟩
   ·exact h.apart i j x y k M q H n
   ·exact K i x k g q n
  ·rcases at_ j y N with⟨A,H⟩|⟨A,rfl⟩
   ·intro e;exact K j y k A H e n
   ·exact absurd (g.trans A.symm) M
open Go.Maps
def fY(g:List (List (Nat×Nat)))(x:Nat):List (Nat×Nat):=(g[x]?).getD []
def Ey(g:List (List (Nat×Nat)))(x y:Nat):Prop:=(0,y)∈fY g x
def goes(g:List (List (Nat×Nat))):Nat->Nat->Nat->Prop
 | 0,x,y=>x=y
 | n+1,x,y=>∃z,Ey g x z/\goes g n z y
def a6(g:List (List (Nat×Nat)))(x y:Nat):Prop:=∃n,goes g n x y
theorem c2(g:List (List (Nat×Nat)))(x:Nat):a6 g x x:=⟨0,rfl⟩
theorem jU{g:List (List (Nat×Nat))}{x z y:Nat}(h:Ey g x z)(k:a6 g z y):a6 g x y:=by
 obtain⟨n,a⟩:=k;exact⟨n+1,z,h,a⟩
theorem Ew{g:List (List (Nat×Nat))}{y z:Nat}(k:a6 g y z):∀n x,goes g n x y->a6 g x z:=by
 intro n
 induction n with
 | zero=>intro x h;cases h;exact k
 | succ n b=>intro x h;obtain⟨u,h1,a⟩:=h;exact jU h1 (b u a)
theorem iC{g:List (List (Nat×Nat))}{x y z:Nat}(h:a6 g x y)(k:a6 g y z):a6 g x z:=by
 obtain⟨n,a⟩:=h;exact Ew k n x a
def gO(g:List (List (Nat×Nat)))(S:Nat->Prop):Prop:=∀x,S x->∀y,Ey g x y->S y
theorem C0{g:List (List (Nat×Nat))}{S:Nat->Prop}(h:gO g S):∀n x y,S x->goes g n x y->S y:=by
 intro n
 induction n with
 | zero=>intro x y a e;cases e;exact a
 | succ n c=>intro x y a e;obtain⟨z,h1,b⟩:=e;exact c z y (h x a z h1) b
theorem js{g:List (List (Nat×Nat))}{S:Nat->Prop}(h:gO g S){x y:Nat}(b:S x)(k:a6 g x y):S y:=by
 obtain⟨n,a⟩:=k;exact C0 h n x y b a
theorem CZ(g:List (List (Nat×Nat))):gO g (fun _=>False):=fun _ h=>h.elim
theorem jp(g:List (List (Nat×Nat)))(a:Nat):gO g (a6 g a):=fun _ b y c=>iC b (jU c (c2 g y))
structure xx (g:List (List (Nat×Nat))) (S R:Nat->Prop) (a:Nat):Prop where
 AX:∀x,S x->R x
 here:R a
 new:∀x,R x->¬S x->a6 g a x/\∀y,Ey g x y->R y
theorem xx.eq{g:List (List (Nat×Nat))}{S R:Nat->Prop}{a:Nat}(h:xx g S R a)(hS:gO g S):∀x,R x↔S x\/a6 g a x:=by
 have n:gO g R:=fun x d y j=>by
  by_cases i:S x
  ·exact h.AX y (hS x i y j)
  ·exact(h.new x d i).2 y j
 intro x;constructor
 ·intro d
  by_cases i:S x
  ·exact ah i
  ·exact ac (h.new x d i).1
 ·rintro(d|d)
  ·exact h.AX x d
  ·exact js n h.here d
structure ez (g:List (List (Nat×Nat))) (S R:Nat->Prop) (a i:Nat):Prop where
 AX:∀x,S x->R x
 here:R a
 new:∀x,R x->¬S x->x≠a->a6 g a x/\∀y,Ey g x y->R y
 done:∀j y,j<i->(fY g a)[j]?=some (0,y)->R y
theorem ez.start(g:List (List (Nat×Nat)))(S:Nat->Prop)(a:Nat):ez g S (fun x=>S x\/x=a) a 0 :=
 ⟨fun _ h=>ah h,ac rfl,fun _ h i d=>(h.elim (fun h=>(i h).elim) fun h=>(d h).elim),fun _ _ h=>absurd h (nr _)⟩
theorem ez.skip{g:List (List (Nat×Nat))}{S R:Nat->Prop}{a i t y:Nat}(h:ez g S R a i)(n:(fY g a)[i]?=some (t,y))(o:t≠0):ez g S R a (i+1) :=
 ⟨h.AX,h.here,h.new,fun j z q d=>by
  by_cases e:j=i
  ·subst e;rw[n]at d;simp at d;exact absurd d.1 o
  ·exact h.done j z (by omega) d⟩
theorem ez.next{g:List (List (Nat×Nat))}{S R q:Nat->Prop}{a i y:Nat}(h:ez g S R a i)(u:(fY g a)[i]?=some (0,y))(k:xx g R q y):ez g S q a (i+1):=by
 have w:a6 g a y:=jU (bC u) (c2 g y);refine⟨fun x o=>k.AX x (h.AX x o),k.AX a h.here,?_,?_⟩
 ·intro x o v t
  by_cases n:R x
  ·exact⟨(h.new x n v t).1,fun z d=>k.AX z ((h.new x n v t).2 z d)⟩
  ·exact⟨iC w (k.new x o n).1,(k.new x o n).2⟩
 ·intro j z A d
  by_cases e:j=i
  ·subst e;rw[u]at d;simp at d;subst d;exact k.here
  ·exact k.AX z (h.done j z (by omega) d)
theorem ez.LD{g:List (List (Nat×Nat))}{S R:Nat->Prop}{a i:Nat}(h:ez g S R a i)(hi:(fY g a).length<=i):xx g S R a :=
 ⟨h.AX,h.here,fun x q o=>by
  have n:∀y,Ey g a y->R y:=fun y t=>by
   obtain⟨j,d⟩:=e3.1 t;exact h.done j y (cI (a1.1 d).1 hi) d
  by_cases e:x=a
  ·subst e;exact⟨c2 g x,n⟩
  ·exact h.new x q o e⟩
def gr(g:List (List (Nat×Nat)))(F:Nat->Prop)(k:Nat)(x:Nat):Prop:=∃a t y,F a/\(t,y)∈fY g a/\t.testBit k=true/\a6 g y x
theorem q5(g:List (List (Nat×Nat)))(F:Nat->Prop)(k:Nat):gO g (gr g F k):=fun _ ⟨a,t,z,h1,b,c,d⟩ y e=>⟨a,t,z,h1,b,c,jp g z _ d y e⟩
theorem Tryz.lH:prog.underlying 296=some (.map 3 338):=by kernel_rfl
theorem Tryz.rY:prog.underlying 3=some (.int .i64):=by kernel_rfl
theorem gx:Keyed prog 3:=int_keyed Tryz.rY
theorem IW(w:World):(zeroValue 338).run prog w=.ok (.agg #[]) w:=by
 have e:Tryz.t338.zero=some (.agg #[]):=by kernel_rfl
 simp[zeroValue];rw[e];rfl
theorem lu(x:Nat)(a:x<=1000000):keyOf prog 3 (.int .i64 x)=some (.int .i64 x):=by
 have e:IntKind.i64.min=-9223372036854775808:=by decide
 refine keyOf_int_mk Tryz.rY ?_;simp[Lit.wf,e];omega
structure eW (w:World) (b N:Nat) (D:DataW Unit) (S:Nat->Prop):Prop where
 own:w.ownsMap prog 3 unitElem b (Maps.size D) D
 mem:∀x:Nat,Maps.has D (.int .i64 x)=true↔S x
 key:∀kl,Maps.has D kl=true->∃x:Nat,x<N/\kl=.int .i64 x
def be(w:World)(b N:Nat)(S:Nat->Prop):Prop:=∃D,eW w b N D S
theorem jV{P:Program}{k:TypeId}{R:Value->Option (DataW Unit×List MemPlace)}{w:World}{b n:Nat}{D:DataW Unit}(h:w.ownsMap P k R b n D):w.ownsMap P k R b (Maps.size D) D:=by
 obtain⟨c,a,hb,F,d,rfl⟩:=h;exact⟨c,a,hb,F,by simp[Maps.size,length_sorted],rfl⟩
theorem eW.lt{w:World}{b N x:Nat}{D:DataW Unit}{S:Nat->Prop}(h:eW w b N D S)(d:S x):x<N:=by
 obtain⟨y,g,e⟩:=h.key _ ((h.mem x).2 d);injection e with _ e
 have:x=y:=by exact_mod_cast e
 omega
theorem eW.congr{w:World}{b N:Nat}{D:DataW Unit}{S d:Nat->Prop}(h:eW w b N D S)(e:∀x,S x↔d x):eW w b N D d:=⟨h.own,fun x=>(h.mem x).trans (e x),h.key⟩
theorem be.congr{w:World}{b N:Nat}{S d:Nat->Prop}(h:be w b N S)(e:∀x,S x↔d x):be w b N d:=by obtain⟨D,g⟩:=h;exact⟨D,g.congr e⟩
theorem Ai{a:List (Lit×DataW Unit)}{kl:Lit}(h:Maps.has (.map a) kl=true):kl∈a.map Prod.fst:=by
 rw[Maps.has_eq,List.any_eq_true]at h;obtain⟨p,b,e⟩:=h;exact aN.2 ⟨p,b,WideAt.sameKey_eq e⟩
theorem nR{a:List (Lit×DataW Unit)}{p:Lit×DataW Unit}(h:p∈a)(b:WideAt.IsKeyLit p.1):Maps.has (.map a) p.1=true:=by
 rw[Maps.has_eq,List.any_eq_true];exact⟨p,h,WideAt.sameKey_self b⟩
theorem pF(a:List (Lit×DataW Unit)):(a.map Prod.fst).length=a.length:=b5 _
theorem nX{a:List (Lit×DataW Unit)}(h:a.Pairwise (fun p q=>p.1≠q.1)):(a.map Prod.fst).Nodup:=by
 unfold List.Nodup;rw[List.pairwise_map];exact h
theorem eW.qd{w w':World}{b n N:Nat}{D d:DataW Unit}{S g:Nat->Prop}(h:eW w b N D S)(i:eW w' n N d g)(y:∀x,S x->g x):Maps.size D<=Maps.size d:=by
 obtain⟨o,rfl,v,t⟩:=h.own.entries gx;obtain⟨q,rfl,B,A⟩:=i.own.entries gx;rw[Maps.size_eq,Maps.size_eq,<- pF o,<- pF q];refine q1 (nX v) ?_;intro kl u;obtain⟨p,j,rfl⟩:=aN.1 u;have h1:=nR j (t p j);obtain⟨x,C,e⟩:=h.key _ h1;rw[e]at h1 ⊢;exact Ai ((i.mem x).2 (y x ((h.mem x).1 h1)))
theorem eW.size_le{w:World}{b N:Nat}{D:DataW Unit}{S:Nat->Prop}(h:eW w b N D S):Maps.size D<=N:=by
 obtain⟨g,rfl,n,i⟩:=h.own.entries gx;rw[Maps.size_eq,<- pF g];have:N=((List.range N).map fun x:Nat=>Lit.int .i64 (x:Int)).length:=by simp
 rw[this];refine q1 (nX n) ?_;intro kl j;obtain⟨p,d,rfl⟩:=aN.1 j;obtain⟨x,o,e⟩:=h.key _ (nR d (i p d));exact aN.2 ⟨x,ja.2 o,e.symm⟩
theorem eW.same{w w':World}{b v N:Nat}{D n:DataW Unit}{S i:Nat->Prop}(h:eW w b N D S)(j:eW w' v N n i)(A:Maps.size D=Maps.size n)(u:∀x,S x->i x):∀x,S x↔i x:=by
 intro x;refine⟨u x,fun F=>?_⟩;obtain⟨o,rfl,E,t⟩:=h.own.entries gx;obtain⟨q,rfl,H,G⟩:=j.own.entries gx
 by_cases hc:S x
 ·exact hc
 ·exfalso;rw[Maps.size_eq,Maps.size_eq,<- pF o,<- pF q]at A;have C:(Lit.int .i64 (x:Int)::o.map Prod.fst).Nodup:=by
   rw[mh];refine⟨fun B=>hc ?_,nX E⟩;obtain⟨p,d,e⟩:=aN.1 B;have h1:=nR d (t p d);rw[e]at h1;exact(h.mem x).1 h1
  have:=q1 (l₂:=q.map Prod.fst) C (by
   intro kl g;rw[aT]at g;rcases g with rfl|g
   ·exact Ai ((j.mem x).2 F)
   ·obtain⟨p,d,rfl⟩:=aN.1 g;have h1:=nR d (t p d);obtain⟨y,I,e⟩:=h.key _ h1;rw[e]at h1 ⊢;exact Ai ((j.mem y).2 (u y ((h.mem y).1 h1))))
  rw[bT]at this;omega
theorem eW.kept{w w':World}{b N:Nat}{D:DataW Unit}{S:Nat->Prop}(h:eW w b N D S)(hb:w'.heap[b]?=w.heap[b]?):eW w' b N D S:=by
 refine⟨?_,h.mem,h.key⟩;obtain⟨g,d,h1,r⟩:=h.own;exact⟨g,d,hb.trans h1,r⟩
theorem eW.da{w:World}{b N:Nat}{D:DataW Unit}{S:Nat->Prop}(h:eW w b N D S):b<w.heap.size:=h.own.lt
theorem be.kept{w w':World}{b N:Nat}{S:Nat->Prop}(h:be w b N S)(hb:w'.heap[b]?=w.heap[b]?):be w' b N S:=by obtain⟨D,d⟩:=h;exact⟨D,d.kept hb⟩
theorem be.da{w:World}{b N:Nat}{S:Nat->Prop}(h:be w b N S):b<w.heap.size:=by obtain⟨D,d⟩:=h;exact d.da
theorem be.below{w w':World}{b N:Nat}{S:Nat->Prop}(h:be w b N S)(hb:Below w.heap.size w w'):be w' b N S:=h.kept (hb.block b h.da)
theorem eW.put{w w':World}{b N x n:Nat}{D:DataW Unit}{S:Nat->Prop}(h:eW w b N D S)(j:x<N)(i:w'.ownsMap prog 3 unitElem b n (D.put (.int .i64 x) (.agg []))):eW w' b N (D.put (.int .i64 x) (.agg [])) (fun y=>S y\/y=x):=by
 refine⟨jV i,?_,?_⟩
 ·intro y
  by_cases e:y=x
  ·subst e;exact⟨fun _=>ac rfl,fun _=>has_put_same (k:=.int .i64 (y:Int)) h.own.isMap trivial _⟩
  ·rw[has_put_other (fun d=>e (by injection d with _ d;exact_mod_cast d))];rw[h.mem y];exact⟨ah,fun h=>h.elim id fun h=>(e h).elim⟩
 ·intro kl g
  by_cases e:kl=.int .i64 x
  ·exact⟨x,j,e⟩
  ·rw[has_put_other e]at g;exact h.key kl g
theorem eW.J6{w:World}{b N x:Nat}{D:DataW Unit}{S:Nat->Prop}(h:eW w b N D S)(d:¬S x):Maps.size (D.put (.int .i64 x) (.agg []))=Maps.size D+1:=by
 rw[size_put (h.own.tidy gx),ae (fun e=>d ((h.mem x).1 e))]
theorem mJ(w:World)(N:Nat):eW (w.alloc (.map #[] 0)) w.heap.size N (.map []) (fun _=>False) :=
 ⟨jV (World.ownsMap_made w _ _ _),fun x=>by simp[Maps.has],fun kl h=>by simp[Maps.has]at h⟩
end Go.Proofs.YtodagkkjfipbgaaGreatDoor
namespace Go.Proofs.YtodagkkjfipbgaaGreatDoor
open Go.RowKit Go.Proofs.Tryz
theorem NA(n:Int):∀u∈[Value.int .i64 n],u.oneCell'=true:=by intro u hu;simp at hu;subst hu;rfl
theorem dH.cells{w:World}{base:Nat}{q:Value}{S:List St}{d:List Value}(h:dH w base q S d)(f:Nat)(n:f<S.length):∃g au i,q=.slice (some ⟨g,0,none⟩) S.length au/\w.heap[g]?=some (.cells i 293 (0,0))/\base<=g/\∃u,d[f]?=some u/\w.cell? ⟨g,f*2,none⟩=some (.int .u8 (S[f]'n).1)/\w.cell? ⟨g,f*2+1,none⟩=some u:=by
 obtain⟨h1,t⟩:=h.row;have y:=h.len;rcases t with⟨o,B⟩|⟨g,au,i,o,hg,j,x,A,C,v⟩
 ·omega
 ·obtain⟨u,hu⟩:∃u,d[f]?=some u:=⟨d[f]'(by omega),ax (by omega)⟩;have hc:=DK S d f _ u (ax n) hu;rw[<- v,bJ,bJ,ag (by omega),ag (by omega)]at hc;exact⟨g,au,i,o,j,hg,u,hu,ab j _ _ (by simpa using hc.1),ab j _ _ (by simpa using hc.2)⟩
theorem KM{w w':World}{base m:Nat}{S:List St}{first:Int}{f t g au l d c n:Nat}{b a:Option Addr}{s:St}{o:List Value}{B:Array Value}(D:base<=m)(hb:base<=w.heap.size)(C:base<=g)(E:f<n) (y:S[f]?=some s) (A:o[f]?=some (.slice b l d)) (z:w.ownsRow base 3 1 (.slice b l d) l (aP s.2)) (v:l=s.2.length) (p:dH w base (.slice (some ⟨g,0,none⟩) n au) S o) (x:n=S.length) (hg:w.drew.grownBy w' (Value.ownBlock (.slice b l d))) (F:w'.ownsRow base 3 1 (.slice a (l+1) c) (l+1) (aP s.2++[.int .i64 t])) (G:eX w.drew (.slice b l d) (.slice a (l+1) c)) (u:w'.heap[m]?=some (.cells #[.slice (some ⟨g,0,none⟩) n au,.int .i64 first] 146 (0,0))) (i:w'.heap[g]?=some (.cells B 293 (0,0))):n3 (w'.setCell ⟨g,f*2+1,none⟩ (.slice a (l+1) c)) base m (b9 S f t) first/\Below base w (w'.setCell ⟨g,f*2+1,none⟩ (.slice a (l+1) c)):=by
 subst x;subst v;have q:w.drew.ownsRow base 3 1 (.slice b s.2.length d) s.2.length (aP s.2):=z;constructor
 ·refine⟨D,.slice (some ⟨g,0,none⟩) S.length au,o.set f (.slice a (s.2.length+1) c),?_,?_⟩
  ·rw[e2 _ _ _ _ (dI u i (by decide))];exact u
  ·refine p.lead E A ?_ ?_ ?_ ?_
   ·have e:Kp 293 w w':=(Kp.refl _ w).grown (w:=w.drew) q hg (by decide);exact tx (al p.row e) _ _
   ·rintro k e ⟨H,r⟩;have h1:w'.heap[k]?=w.heap[k]?:=hg.block k (an r) e;rw[e2 _ _ _ _ (dI (h1.trans r) i (by decide))];exact h1
   ·intro I j;rw[y]at j;simp at j;subst j;exact al F ((Kp.refl _ _).setCell i (by decide) _)
   ·rcases G with h|h
    ·exact ah h
    ·exact ac ⟨_,h,ar _⟩
 ·refine Below.setCell (Below.grown (w:=w.drew) ((aB _ _).drew) hg hb fun k e=>?_) C _;exact(q.lt k e).1
theorem KN(base m:Nat)(S:List St)(first:Int)(f t gt:Nat)(w:World)(h:n3 w base m S first)(hb:base<=w.heap.size)(b:f<S.length)(_hS:S.length<=9000)(d:∀s∈S,s.2.length<=9000) (P:w.cell? ⟨gt,0,none⟩=some (.int .i64 t)):Calls prog 227 #[.pointer (some ⟨m,0,none⟩),.int .i64 f,.slice (some ⟨gt,0,none⟩) 1 1] w fun e w'=>e=.returned (.tuple #[])/\n3 w' base m (b9 S f t) first/\Below base w w':=by
 obtain⟨M,a0,F,i,k⟩:=h;obtain⟨g,au,K,rfl,hg,L,u,hu,N,r⟩:=k.cells f b;have A:=k.ib f u _ hu (ax b);have hlen:=d _ (bl b);obtain⟨p,q,rfl⟩:=ak A;have J:=ab i 0 _ rfl;have Y:=aq i;have X:=aq hg;have C:Hid (w.heap[m]?=some (.cells #[.slice (some ⟨g,0,none⟩) S.length au,.int .i64 first] 146 (0,0))):=i;have B:Hid (w.heap[g]?=some (.cells K 293 (0,0))):=hg;have c:Hid (w.ownsRow base 3 1 (.slice p (S[f]'b).2.length q) (S[f]'b).2.length (aP (S[f]'b).2)):=A;have o:Hid (F[f]?=some (.slice p (S[f]'b).2.length q)):=hu;have D:Hid (dH w base (.slice (some ⟨g,0,none⟩) S.length au) S F):=k;obtain⟨s,z⟩:∃s,s=S[f]'b:=⟨_,rfl⟩;have I:Hid (S[f]?=some s):=by rw[z];exact ax b
 rw[<- z]at c o r N hlen;clear i hg A hu k z d;obtain⟨l,d⟩:∃l,l=s.2.length:=⟨_,rfl⟩;have G:Hid (l=s.2.length):=d;rw[<- d]at c o r hlen;obtain⟨n,y⟩:∃n,n=S.length:=⟨_,rfl⟩;have H:Hid (n=S.length):=y;rw[<- y]at C D J b _hS;clear d y;go_enter func227,ntmps227;go_wp2_with fail
 go_region_law (refine dz rfl (.tmp 18) (.tmp 19) 33 rfl base 3 (.int .i64 0) 1 8 Tryz.NN Tryz.OZ rfl (by decide) (.slice p l q) l (aP s.2) rfl (by exact c.out) gt 1 [.int .i64 t] rfl rfl (fun j u hu=>by cases j with|zero=>simp at hu;subst hu;exact P|succ j=>simp at hu) (NA _) (by omega) (by omega) hb ?_;intro Z w' E hg O;obtain⟨Q,R,rfl⟩:=ak E;have x:=br C.out (by exact Kp.refl _ w) (by exact c.out) hg (by decide);have T:=ab x 0 _ rfl;have V:=aq x;have v:=br B.out (by exact Kp.refl _ w) (by exact c.out) hg (by decide);have W:=aq v;have U:=(oV (a:=⟨g,f*2+1,none⟩) (w:=w) (v.trans B.out.symm)).trans r)
 all_goals go_wp2_with fail
 all_goals go_end0
 all_goals
  exact⟨rfl,KM M hb L b I.out o.out c.out G.out D.out H.out hg E O x v⟩
theorem dH.later{w w':World}{base:Nat}{j:Value}{S:List St}{g:List Value}(h:dH w base j S g)(hb:Below w.heap.size w w'):dH w' base j S g:=by
 have d:∀t,Kp t w w':=fun t=>Kp.below hb
 exact⟨h.len,al h.row (d _),fun i v s o n=>al (h.ib i v s o n) (d _),h.apart⟩
theorem n3.later{w w':World}{base m:Nat}{S:List St}{first:Int}(h:n3 w base m S first)(hb:Below w.heap.size w w'):n3 w' base m S first:=by
 obtain⟨h1,j,i,d,g⟩:=h;exact⟨h1,j,i,by rw[hb.block m (an d)];exact d,g.later hb⟩
theorem n3.size{w:World}{base m:Nat}{S:List St}{first:Int}(h:n3 w base m S first):base<=w.heap.size:=by
 obtain⟨h1,j,i,d,g⟩:=h;have:=an d;omega
theorem O1{w:World}{base:Nat}{c:Value}{S:List St}{a:List Value}(h:dH w base c S a){i j:Nat}{u:Value}(hu:a[i]?=some u)(b:u.ownBlock=some j):j<w.heap.size:=by
 have hi:i<S.length:=by rw[<- h.len];exact(a1.1 hu).1
 exact((h.ib i u _ hu (ax hi)).lt j b).2
theorem Oh(base m:Nat)(S:List St)(first:Int)(k:Nat)(w:World)(h:n3 w base m S first)(hS:S.length<=9000):Calls prog 226 #[.pointer (some ⟨m,0,none⟩),.int .u8 k,.slice none 0 0] w fun e w'=>e=.returned (.int .i64 S.length)/\n3 w' base m (S++[(k,[])]) first/\Below base w w':=by
 have c:=h.size;obtain⟨h1,f,d,a,b⟩:=h;exact Mj base m S first k [] _ f d w h1 a b c hS (cq _ _ _ _) (fun i u j _ _=>by simp[Value.ownBlock])
theorem af(w:World)(o:Obj):Below w.heap.size w (w.alloc o):=(aB _ _).alloc (ar _) o
theorem Gy(base m:Nat)(S:List St)(first:Int)(k b:Nat)(w:World)(h:n3 w base m S first)(hS:S.length<=9000):Calls prog 226 #[.pointer (some ⟨m,0,none⟩),.int .u8 k,.slice (some ⟨w.heap.size,0,none⟩) 1 1] (w.alloc (.cells #[.int .i64 b] 3)) fun e w'=>e=.returned (.int .i64 S.length)/\n3 w' base m (S++[(k,[b])]) first/\Below base w w':=by
 have d:=h.size;obtain⟨h1,l,g,a,c⟩:=h;have hb:=af w (.cells #[.int .i64 b] 3);refine(Mj base m S first k [b] _ l g _ h1 (by rw[hb.block m (an a)];exact a) (c.later hb) (by simp;omega) hS ?_ ?_).mono ?_
 ·exact⟨rfl,ac ⟨w.heap.size,1,#[.int .i64 b],rfl,d,aw _ _,ar _,by decide,rfl,rfl⟩⟩
 ·intro i u j hu f e;have:=O1 c hu f;simp[Value.ownBlock]at e;omega
 ·rintro e w' ⟨h1,a,c⟩;exact⟨h1,a,(hb.mono d).trans c⟩
theorem Ck(base m:Nat)(S:List St)(first:Int)(f t:Nat)(w:World)(h:n3 w base m S first)(g:f<S.length)(hS:S.length<=9000)(d:lg S<=9000):Calls prog 227 #[.pointer (some ⟨m,0,none⟩),.int .i64 f,.slice (some ⟨w.heap.size,0,none⟩) 1 1] (w.alloc (.cells #[.int .i64 t] 3)) fun e w'=>e=.returned (.tuple #[])/\n3 w' base m (b9 S f t) first/\Below base w w':=by
 have a:=h.size;have hb:=af w (.cells #[.int .i64 t] 3);refine(KN base m S first f t w.heap.size _ (h.later hb) (by simp;omega) g hS (fun s a=>aE (MZ a) d) ?_).mono ?_
 ·exact ab (aw _ _) 0 _ rfl
 ·rintro e w' ⟨h1,b,c⟩;exact⟨h1,b,(hb.mono a).trans c⟩
end Go.Proofs.YtodagkkjfipbgaaGreatDoor
