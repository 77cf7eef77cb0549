import Derived.Laws.CopyRow
import Derived.Laws.CopyOwn
import Derived.Laws.Externs
import Derived.Lib.Overlaps
import Derived.Lib.AppendZerosOnto
import Derived.Test.YtodagkkjfipbgaaGreatDoorH1toD1
namespace Go.Proofs.YtodagkkjfipbgaaGreatDoor
open Go.RowKit
theorem run_copy_rowK {P:Program} (w:World) (dT sT ty elem:TypeId) (g o dLen dCap:Nat) (a:Addr) (sLen sCap:Nat) (cur:Array Value) (t:TypeId) (cs:List Value) (k:Nat)
  (hu:P.underlying dT=some (.slice elem)) (hs:(P.info? elem).map (·.size)=some k) (hg:w.heap[g]?=some (.cells cur t (0,0))) (hn:cs.length=Nat.min sLen dLen * k)
  (hsrc:∀ j v,cs[j]?=some v->w.cell? (a.add j)=some v) (hfit:o+cs.length<=cur.size) (h1:∀ v ∈ cs,v.oneCell'=true) :
  (Builtin.copy_ #[dT,sT] ty #[.slice (some ⟨g,o,none⟩) dLen dCap,.slice (some a) sLen sCap]).run P w=.ok (goInt (Nat.min sLen dLen)) (w.setRow g (cur.toList.take o++cs++cur.toList.drop (o+cs.length)).toArray):=by
 have hl:=run_loadCells_list (P:=P) w a cs hsrc
 have hst:=run_storeCells_at P g o t cs 0 cur w hg (by simpa using hfit) h1
 cases hq:P.info? elem with
 | none=>simp [hq] at hs
 | some i =>
  have hi:i.size=k:=by simpa [hq] using hs
  simp [Builtin.copy_,run_underlying hu,Builtin.lenOf,Builtin.firstCells,sizeOf,typeInfo,hq,hi,<- hn,hl,hst]
theorem sizeEnt:(Tryz.prog.info? 173).map (·.size)=some 3:=by kernel_rfl
def insE (L:List (Int × Int × Nat)) (i:Nat) (e:Int × Int × Nat):List (Int × Int × Nat):=L.take i++[e]++L.drop i
theorem entCells_app (a b:List (Int × Int × Nat)):entCells (a++b)=entCells a++entCells b:=by unfold entCells;simp
theorem entCells_len (a:List (Int × Int × Nat)):(entCells a).length=a.length * 3:=by
 induction a with
 | nil=>rfl
 | cons x r ih=>show (_ :: _ :: _ :: entCells r).length=_;simp [ih];omega
theorem entCells_take (L:List (Int × Int × Nat)) (i:Nat):entCells (L.take i)=(entCells L).take (i * 3):=by
 induction L generalizing i with
 | nil=>simp [entCells]
 | cons x r ih =>
  cases i with
  | zero=>simp [entCells]
  | succ i =>
   rw [List.take_succ_cons,show (i+1) * 3=i * 3+3 by omega]
   show _ :: _ :: _ :: entCells (r.take i)=_
   rw [ih];rfl
theorem entCells_drop (L:List (Int × Int × Nat)) (i:Nat):entCells (L.drop i)=(entCells L).drop (i * 3):=by
 induction L generalizing i with
 | nil=>simp [entCells]
 | cons x r ih =>
  cases i with
  | zero=>simp
  | succ i =>
   rw [List.drop_succ_cons,show (i+1) * 3=i * 3+3 by omega,ih];rfl
theorem entCells_one (L:List (Int × Int × Nat)):∀ v ∈ entCells L,v.oneCell'=true:=by
 intro v hv
 unfold entCells at hv
 rw [List.mem_flatMap] at hv
 obtain ⟨o,_,ho⟩:=hv
 simp at ho;rcases ho with rfl | rfl | rfl <;> rfl
theorem three_cellsD (x y:Int) (k:Nat):∀ u ∈ [Value.int .i32 x,.int .i32 y,.int .u8 k],u.oneCell'=true:=by
 intro u hu;simp at hu;rcases hu with rfl | rfl | rfl <;> rfl
theorem ownBlock_len (ao:Option Addr) (a b c d:Nat):(Value.slice ao a b).ownBlock=(Value.slice ao c d).ownBlock:=by cases ao <;> rfl
def InsPost (base:Nat) (L:List (Int × Int × Nat)) (i:Nat) (e:Int × Int × Nat) (v:Value) (w:World) (r:Ending) (w':World):Prop :=
 ∃ v',r=.returned v'/\TRe base w' v' (insE L i e)/\Chg (fun k=>v.ownBlock=some k) w w'
set_option maxRecDepth 100000 in
set_option maxHeartbeats 2000000 in
theorem ins_end (base:Nat) (v:Value) (L:List (Int × Int × Nat)) (x y:Int) (k q:Nat) (w:World) (h:TRe base w v L) (hl:L.length<=2000) (hbase:base<=w.heap.size)
  (hq:w.heap[q]?=some (.cells #[.int .i32 x,.int .i32 y,.int .u8 k] 173 (0,0))) :
  Calls Tryz.prog 205 #[v,.int .i64 L.length,.slice (some ⟨q,0,none⟩) 1 1] w (InsPost base L L.length (x,y,k) v w):=by
 have HT:Hid (TRe base w v L):=h
 have HQ:Hid (w.heap[q]?=some (.cells #[.int .i32 x,.int .i32 y,.int .u8 k] 173 (0,0))):=hq
 have HE:Hid (insE L L.length (x,y,k)=L++[(x,y,k)]):=by show _=_;unfold insE;simp
 obtain ⟨ao,cap,rfl⟩:=row_shape h
 have hsl:∀ a,ao=some a->∃ g,a=⟨g,0,none⟩:=by
  rcases h.2 with ⟨hv,_⟩ | ⟨g,cp,cur,hv,_⟩
  ·intro a e;simp at hv;rw [hv.1] at e;cases e
  ·intro a e;simp at hv;rw [hv.1] at e;cases e;exact ⟨g,rfl⟩
 have hcap:L.length<=cap:=by
  rcases h.2 with ⟨hv,hn⟩ | ⟨g,cp,cur,hv,_,_,hc,_⟩
  ·omega
  ·simp at hv;omega
 clear h hq
 unfold InsPost
 rw [HE.out]
 go_enter Tryz.func205,Tryz.ntmps205
 go_wp2_with (at_builtin;refine wpList_push2 rfl (.tmp 23) (.tmp 24) 79 rfl base 173 (.agg #[.int .i32 0,.int .i32 0,.int .u8 0]) 3 12 Tryz.infoEnt Tryz.undEnt rfl (by decide) (.slice ao L.length cap) L.length (entCells L) rfl HT.out q 1 [.int .i32 x,.int .i32 y,.int .u8 k] rfl rfl (fun j u hu=>cell_of_block HQ.out j u (by simpa using hu)) (three_cellsD x y k) (by omega) (by omega) hbase ?_;intro v' w2 hown hg hsn;have HO:Hid (w2.ownsRow base 173 3 v' (L.length+1) _):=hown;have HG:Hid (World.grownBy _ w2 _):=hg;obtain ⟨ao',cap',rfl⟩:=row_shape hown;clear hown hg hsn)
 all_goals go_ret
 all_goals
  refine ⟨_,rfl,?_,?_⟩
  ·show World.ownsRow _ _ _ _ _ _ _
   rw [entCells_app,List.length_append]
   exact HO.out
  ·exact (Chg.refl _ _).grown HG.out (fun k e=>Or.inr ((ownBlock_len _ _ _ _ _).trans e))
theorem Chg.setRow (w:World) (g:Nat) (cs:Array Value):Chg (fun k=>k=g) w (w.setRow g cs):=⟨rfl,rfl,rfl,by simp,fun k _ hp=>setRow_other w g k cs hp⟩
theorem wp_copyK {P:Program} {w:World} {o:Oper} {a:Act} {K:Act->World->Prop} {Q:Exit->Act->World->Prop} (d s:Operand) (t:TypeId)
  (ho:o.op=.call { callee:=.builtin .copy,args:=#[d,s],argTypes:=#[t,t] }) (elem:TypeId) (n:Nat) (hu:P.underlying t=some (.slice elem)) (hz:(P.info? elem).map (·.size)=some n)
  (g off dLen dCap:Nat) (ad:Addr) (sLen sCap:Nat) (hd:a.eval d=.slice (some ⟨g,off,none⟩) dLen dCap) (hs:a.eval s=.slice (some ad) sLen sCap)
  (cur:List Value) (e:TypeId) (hg:w.heap[g]?=some (.cells cur.toArray e (0,0))) (cs:List Value) (hn:cs.length=Nat.min sLen dLen * n)
  (hsrc:∀ j v,cs[j]?=some v->w.cell? (ad.add j)=some v) (hfit:off+cs.length<=cur.length) (h1:∀ v ∈ cs,v.oneCell'=true)
  (h:∀ w',w'.heap[g]?=some (.cells (splice cur off cs).toArray e (0,0))->Chg (fun k=>k=g) w w'->K (a.put o.dst (goInt (Nat.min sLen dLen))) w'):o.wp P a w K Q:=by
 have hrun:(Builtin.copy_ #[t,t] o.type #[.slice (some ⟨g,off,none⟩) dLen dCap,.slice (some ad) sLen sCap]).run P w=.ok (goInt (Nat.min sLen dLen)) (w.setRow g (splice cur off cs).toArray):=by
  rw [run_copy_rowK (P:=P) w t t o.type elem g off dLen dCap ad sLen sCap cur.toArray e cs n hu hz hg hn hsrc (by simpa using hfit) h1]
  simp [splice]
 have hK:=h _ (setRow_heap w g _ _ e _ hg) (Chg.setRow w g (splice cur off cs).toArray)
 unfold Oper.wp
 simp only [execOp,ho,resolve,invoke,builtin,Sem.run_bind,Sem.run_pure,Result.andThen_ok,List.map_toArray,List.map_cons,List.map_nil,hd,hs,hrun]
 exact hK
theorem step_copyK {P:Program} {w:World} {ops:Array Oper} {o:Oper} {a:Act} {K:Act->World->Prop} {Q:Exit->Act->World->Prop} {E:Prop} (hgd:o.guard=none) (d s:Operand) (t:TypeId)
  (ho:o.op=.call { callee:=.builtin .copy,args:=#[d,s],argTypes:=#[t,t] }) (elem:TypeId) (n:Nat) (hu:P.underlying t=some (.slice elem)) (hz:(P.info? elem).map (·.size)=some n)
  (g off dLen dCap:Nat) (ad:Addr) (sLen sCap:Nat) (hd:a.eval d=.slice (some ⟨g,off,none⟩) dLen dCap) (hs:a.eval s=.slice (some ad) sLen sCap)
  (cur:List Value) (e:TypeId) (hg:w.heap[g]?=some (.cells cur.toArray e (0,0))) (cs:List Value) (hn:cs.length=Nat.min sLen dLen * n)
  (hsrc:∀ j v,cs[j]?=some v->w.cell? (ad.add j)=some v) (hfit:off+cs.length<=cur.length) (h1:∀ v ∈ cs,v.oneCell'=true)
  (hK:∀ w',w'.heap[g]?=some (.cells (splice cur off cs).toArray e (0,0))->Chg (fun k=>k=g) w w'->K (a.put o.dst (goInt (Nat.min sLen dLen))) w') :
  if Region.wanted o (yielded ops a.tmps)=true then Oper.wp P o a w K Q else E:=by
 have hw:Region.wanted o (yielded ops a.tmps)=true:=by simp [Region.wanted,hgd]
 rw [if_pos hw]
 exact wp_copyK d s t ho elem n hu hz g off dLen dCap ad sLen sCap hd hs cur e hg cs hn hsrc hfit h1 hK
theorem overl_no (q b la ca lb cb off:Nat) (w:World) (hne:q ≠ b) (cq cb':Array Value) (t t':TypeId) (hq:w.heap[q]?=some (.cells cq t (0,0))) (hb:w.heap[b]?=some (.cells cb' t' (0,0))) (h0:cb'.size ≠ 0) :
  (callFunc 221 #[.slice (some ⟨q,0,none⟩) la ca,.slice (some ⟨b,off,none⟩) lb cb]).run Tryz.prog w=.ok (.value (.bool false)) w:=by
 rw [run_callFunc_extern Tryz.func221 (by kernel_rfl) (by kernel_rfl) (by kernel_rfl) (e:=Extern.SlicesOverlaps.overlaps #[79,79] #[4]) (by kernel_rfl),
  Lib.run_overlaps_apart w 79 4 173 Tryz.undEnt 3 Tryz.sizeOf173 ⟨q,0,none⟩ ⟨b,off,none⟩ la ca lb cb hne t t' cq.size cb'.size (by simp [World.shape?,hq]) (by simp [World.shape?,hb]) h0 (by simp [World.frozen?,hq]) (by simp [World.frozen?,hq])]
 rfl
theorem splice2 {L:List (Int × Int × Nat)} {i:Nat} {x y:Int} {k:Nat} {cur:List Value} (hi:i<L.length) (hc:cur.take (L.length * 3)=entCells L) (hl:(L.length+1) * 3<=cur.length) :
  (splice (splice cur ((i+1) * 3) (entCells (L.drop i))) (i * 3) [.int .i32 x,.int .i32 y,.int .u8 k]).take ((L.length+1) * 3)=entCells (insE L i (x,y,k)):=by
 have hd:(entCells (L.drop i)).length=(L.length - i) * 3:=by rw [entCells_len,List.length_drop]
 have ht:cur.take (i * 3)=entCells (L.take i):=by rw [entCells_take,<- hc,List.take_take];congr 1;omega
 unfold splice insE
 rw [entCells_app,entCells_app,<- ht]
 have e1:(List.take ((i+1) * 3) cur++(entCells (List.drop i L)++List.drop ((i+1) * 3+(entCells (List.drop i L)).length) cur)).take (i * 3)=cur.take (i * 3):=by
  rw [List.take_append_of_le_length (by rw [List.length_take];omega),List.take_take];congr 1;omega
 have e2:(List.take ((i+1) * 3) cur++(entCells (List.drop i L)++List.drop ((i+1) * 3+(entCells (List.drop i L)).length) cur)).drop (i * 3+3)=entCells (List.drop i L)++List.drop ((i+1) * 3+(entCells (List.drop i L)).length) cur:=by
  rw [List.drop_append_of_le_length (by rw [List.length_take];omega),List.drop_eq_nil_of_le (by rw [List.length_take];omega)];rfl
 show List.take _ (List.take (i * 3) _++([_,_,_]++List.drop (i * 3+3) _))=_
 rw [e1,e2]
 have hA:(cur.take (i * 3)).length=i * 3:=by rw [List.length_take];omega
 rw [<- List.append_assoc,<- List.append_assoc,List.take_append_of_le_length (by simp [hA,hd];omega),List.take_of_length_le (by simp [hA,hd];omega)]
 rfl
set_option maxRecDepth 100000 in
set_option maxHeartbeats 4000000 in
theorem ins_shift (base g i cap:Nat) (L:List (Int × Int × Nat)) (x y:Int) (k q:Nat) (w:World) (h:TRe base w (.slice (some ⟨g,0,none⟩) L.length cap) L) (hl:L.length<=2000) (hi:i<L.length) (hroom:L.length+1<=cap) (hqg:q ≠ g)
  (hq:w.heap[q]?=some (.cells #[.int .i32 x,.int .i32 y,.int .u8 k] 173 (0,0))) :
  Calls Tryz.prog 205 #[.slice (some ⟨g,0,none⟩) L.length cap,.int .i64 i,.slice (some ⟨q,0,none⟩) 1 1] w (InsPost base L i (x,y,k) (.slice (some ⟨g,0,none⟩) L.length cap) w):=by
 obtain ⟨cur,hbg,hg,hmx,hsz,hcur⟩:∃ cur:List Value,base<=g/\w.heap[g]?=some (.cells cur.toArray 173 (0,0))/\cap<=maxLen/\cur.length=cap * 3/\cur.take (L.length * 3)=entCells L:=by
  rcases h.2 with ⟨hv,_⟩ | ⟨g',cp,cur,hv,h1,h2,h3,h4,h5,h6⟩
  ·cases hv
  ·simp at hv
   obtain ⟨rfl,rfl⟩:=hv
   exact ⟨cur.toList,h1,by simpa using h2,h4,by simpa using h5,h6⟩
 have HG:Hid (w.heap[g]?=some (.cells cur.toArray 173 (0,0))):=hg
 have HQ:Hid (w.heap[q]?=some (.cells #[.int .i32 x,.int .i32 y,.int .u8 k] 173 (0,0))):=hq
 have HC:Hid (cur.take (L.length * 3)=entCells L):=hcur
 have hcapm:cap<=9223372036854775807:=by unfold maxLen at hmx;omega
 have hov:∀ lb cb off,(callFunc 221 #[.slice (some ⟨q,0,none⟩) 1 1,.slice (some ⟨g,off,none⟩) lb cb]).run Tryz.prog w=.ok (.value (.bool false)) w:=fun lb cb off=>overl_no q g 1 1 lb cb off w hqg _ _ _ _ hq hg (by rw [List.size_toArray,hsz];omega)
 have n1:¬ ((i:Int)=(L.length:Int)):=by omega
 have n2:¬ (cap=i+1):=by omega
 have n3:¬ (cap=i):=by omega
 clear h hq hg hcur
 go_enter Tryz.func205,Tryz.ntmps205
 go_wp2_with (simp only [hov])
 have HN:Hid ((entCells (L.drop i)).length=Nat.min (L.length+1 - i) (L.length+1 - (i+1)) * 3):=by
  show _=_
  rw [entCells_len,List.length_drop];congr 1;simp only [Nat.min_def];split <;> omega
 have HS:Hid (∀ j v,(entCells (L.drop i))[j]?=some v->w.cell? ((⟨g,i * 3,none⟩:Addr).add j)=some v):=fun j v hj=>by
  rw [entCells_drop,<- HC.out,List.getElem?_drop,List.getElem?_take] at hj
  split at hj
  ·rw [Addr.add_lit];exact cell_of_block HG.out _ _ (by simpa using hj)
  ·cases hj
 have HF:Hid ((i+1) * 3+(entCells (L.drop i)).length<=cur.length):=by
  show _<=_
  rw [entCells_len,List.length_drop];omega
 have hw1:IntKind.i64.wrap ((i:Int)+1)=(i:Int)+1:=by rw [IntKind.wrap_i64];omega
 have hb1:(0:Int)<=(i:Int)+1:=by omega
 have hin:i<=L.length:=by omega
 have htn:((i:Int)+1).toNat=i+1:=by omega
 have hb3:(i:Int)<=(L.length:Int)+1:=by omega
 have hb4:i<=L.length+1:=by omega
 go_region_law
  (refine step_copyK rfl (.tmp 73) (.tmp 76) 79 rfl 173 3 Tryz.undEnt sizeEnt g ((i+1) * 3) (L.length+1 - (i+1)) (cap - (i+1)) ⟨g,i * 3,none⟩ (L.length+1 - i) (cap - i) (by simp [Act.eval,Act.put]) (by simp [Act.eval,Act.put]) cur 173 HG.out (entCells (L.drop i)) HN.out HS.out HF.out (entCells_one _) ?_
   intro w2 hb2 hc2
   have HB2:Hid (w2.heap[g]?=some (.cells (splice cur ((i+1) * 3) (entCells (L.drop i))).toArray 173 (0,0))):=hb2
   have HC2:Hid (Chg (fun k=>k=g) w w2):=⟨hc2.os,hc2.tape,hc2.output,hc2.size,hc2.block⟩
   clear hb2 hc2)
 have HQ2:Hid (w2.heap[q]?=some (.cells #[.int .i32 x,.int .i32 y,.int .u8 k] 173 (0,0))):=by
  show _=_
  rw [HC2.out.block q (heap_lt HQ.out) hqg];exact HQ.out
 have HL2:Hid (i * 3+3<=(splice cur ((i+1) * 3) (entCells (L.drop i))).length):=by
  show _<=_
  rw [length_splice _ _ _ HF.out];omega
 have HM:Hid (3=Nat.min 1 (L.length+1 - i) * 3):=by
  show _=_
  rw [show Nat.min 1 (L.length+1 - i)=1 by simp only [Nat.min_def];split <;> omega]
 have hrun:(Builtin.copy_ #[79,79] 3 #[.slice (some ⟨g,i * 3,none⟩) (L.length+1 - i) (cap - i),.slice (some ⟨q,0,none⟩) 1 1]).run Tryz.prog w2=.ok (goInt (Nat.min 1 (L.length+1 - i))) (w2.setRow g (splice (splice cur ((i+1) * 3) (entCells (L.drop i))) (i * 3) [.int .i32 x,.int .i32 y,.int .u8 k]).toArray):=by
  rw [run_copy_rowK (P:=Tryz.prog) w2 79 79 3 173 g (i * 3) (L.length+1 - i) (cap - i) ⟨q,0,none⟩ 1 1 _ 173 [.int .i32 x,.int .i32 y,.int .u8 k] 3 Tryz.undEnt sizeEnt HB2.out HM.out (fun j u hu=>by rw [Addr.add_lit,Nat.zero_add];exact cell_of_block HQ2.out j u (by simpa using hu)) (by simpa using HL2.out) (three_cellsD x y k),List.append_assoc]
  rfl
 obtain ⟨w3,hw3⟩:∃ w3,w3=w2.setRow g (splice (splice cur ((i+1) * 3) (entCells (L.drop i))) (i * 3) [.int .i32 x,.int .i32 y,.int .u8 k]).toArray:=⟨_,rfl⟩
 rw [<- hw3] at hrun
 have hb3:Hid (w3.heap[g]?=some (.cells (splice (splice cur ((i+1) * 3) (entCells (L.drop i))) (i * 3) [.int .i32 x,.int .i32 y,.int .u8 k]).toArray 173 (0,0))):=by
  show _=_
  rw [hw3];exact setRow_heap w2 g _ _ _ _ HB2.out
 have hc3:Chg (fun k=>k=g) w2 w3:=by rw [hw3];exact Chg.setRow w2 g _
 clear hw3
 go_wp2_with (simp only [hrun])
 go_ret
 refine ⟨_,rfl,⟨by rw [entCells_len],Or.inr ⟨g,cap,_,?_,hbg,hb3.out,?_,hmx,?_,?_⟩⟩,?_⟩
 ·show Value.slice _ _ _=Value.slice _ _ _
  rw [show (insE L i (x,y,k)).length=L.length+1 by unfold insE;simp;omega]
 ·show (insE L i (x,y,k)).length<=cap
  rw [show (insE L i (x,y,k)).length=L.length+1 by unfold insE;simp;omega];exact hroom
 ·rw [List.size_toArray,length_splice _ _ _ HL2.out,length_splice _ _ _ HF.out];exact hsz
 ·rw [show (insE L i (x,y,k)).length=L.length+1 by unfold insE;simp;omega]
  exact splice2 hi HC.out (by omega)
 ·exact ⟨hc3.os.trans HC2.out.os,hc3.tape.trans HC2.out.tape,hc3.output.trans HC2.out.output,Nat.le_trans HC2.out.size hc3.size,fun k hk hp=>by
   have hk':k ≠ g:=fun e=>hp (by rw [e];rfl)
   rw [hc3.block k (Nat.lt_of_lt_of_le hk HC2.out.size) hk',HC2.out.block k hk hk']⟩
theorem zero_len (n:Nat):(Builtin.zeroCells (Value.agg #[.int .i32 0,.int .i32 0,.int .u8 0]).cells n).size=n * 3:=by
 simp [Builtin.zeroCells,Value.cells]
theorem splice3 {L:List (Int × Int × Nat)} {i:Nat} {x y:Int} {k:Nat} {row:List Value} (hi:i<L.length) (hr:row.take (i * 3)=entCells (L.take i)) :
  (splice (splice row (i * 3) [.int .i32 x,.int .i32 y,.int .u8 k]) ((i+1) * 3) (entCells (L.drop i))).take ((L.length+1) * 3)=entCells (insE L i (x,y,k)):=by
 have hd:(entCells (L.drop i)).length=(L.length - i) * 3:=by rw [entCells_len,List.length_drop]
 have ht:(entCells (L.take i)).length=i * 3:=by rw [entCells_len,List.length_take];omega
 unfold splice insE
 rw [entCells_app,entCells_app,hr]
 have e1:∀ r:List Value,(entCells (L.take i)++([Value.int .i32 x,.int .i32 y,.int .u8 k]++r)).take ((i+1) * 3)=entCells (L.take i)++[Value.int .i32 x,.int .i32 y,.int .u8 k]:=fun r=>by
  rw [<- List.append_assoc,List.take_append_of_le_length (by simp [ht];omega),List.take_of_length_le (by simp [ht];omega)]
 rw [e1,<- List.append_assoc,List.take_append_of_le_length (by simp [ht,hd];omega),List.take_of_length_le (by simp [ht,hd];omega)]
 rfl
set_option maxRecDepth 100000 in
set_option maxHeartbeats 4000000 in
theorem ins_grow (base g i cap:Nat) (L:List (Int × Int × Nat)) (x y:Int) (k q:Nat) (w:World) (h:TRe base w (.slice (some ⟨g,0,none⟩) L.length cap) L) (hl:L.length<=2000) (hbase:base<=w.heap.size) (hi:i<L.length) (hroom:cap<L.length+1)
  (hq:w.heap[q]?=some (.cells #[.int .i32 x,.int .i32 y,.int .u8 k] 173 (0,0))) :
  Calls Tryz.prog 205 #[.slice (some ⟨g,0,none⟩) L.length cap,.int .i64 i,.slice (some ⟨q,0,none⟩) 1 1] w (InsPost base L i (x,y,k) (.slice (some ⟨g,0,none⟩) L.length cap) w):=by
 obtain ⟨cur,hbg,hg,hmx,hsz,hcur,hcl⟩:∃ cur:List Value,base<=g/\w.heap[g]?=some (.cells cur.toArray 173 (0,0))/\cap<=maxLen/\cur.length=cap * 3/\cur.take (L.length * 3)=entCells L/\L.length<=cap:=by
  rcases h.2 with ⟨hv,_⟩ | ⟨g',cp,cur,hv,h1,h2,h3,h4,h5,h6⟩
  ·cases hv
  ·simp at hv
   obtain ⟨rfl,rfl⟩:=hv
   exact ⟨cur.toList,h1,by simpa using h2,h4,by simpa using h5,h6,h3⟩
 obtain rfl:cap=L.length:=by omega
 have HG:Hid (w.heap[g]?=some (.cells cur.toArray 173 (0,0))):=hg
 have HQ:Hid (w.heap[q]?=some (.cells #[.int .i32 x,.int .i32 y,.int .u8 k] 173 (0,0))):=hq
 have HC:Hid (cur.take (L.length * 3)=entCells L):=hcur
 obtain ⟨i0,hi0,hz0,hzs,hzb⟩:∃ i0,Tryz.prog.info? 173=some i0/\i0.zero=some (.agg #[.int .i32 0,.int .i32 0,.int .u8 0])/\i0.size=3/\i0.bytes=12:=by
  have:=Tryz.infoEnt
  cases hh:Tryz.prog.info? 173 with
  | none=>rw [hh] at this;cases this
  | some i0=>rw [hh] at this;simp at this;exact ⟨i0,rfl,this.1,this.2.1,this.2.2⟩
 have hkk:(L.length:Int)+1 - (i:Int)=((L.length+1 - i:Nat):Int):=by omega
 have hik:i+(L.length+1 - i)=L.length+1:=by omega
 have hold:(Builtin.firstCells i0.size i (.slice (some ⟨g,0,none⟩) i L.length)).run Tryz.prog w.drew=.ok (entCells (L.take i)).toArray w.drew:=by
  rw [hzs]
  exact run_firstCells_some w.drew 3 i ⟨g,0,none⟩ i L.length (entCells (L.take i)) (by rw [entCells_len,List.length_take];omega) (fun j v hj=>by
   rw [Addr.add_lit,Nat.zero_add]
   rw [entCells_take,<- HC.out,List.getElem?_take] at hj
   split at hj
   ·rw [List.getElem?_take] at hj
    split at hj
    ·exact cell_of_block (w:=w) HG.out _ _ (by simpa using hj)
    ·cases hj
   ·cases hj)
 obtain ⟨G,hG⟩:∃ G,G=grownCap w (L.length+1) L.length 173:=⟨_,rfl⟩
 have hGn:L.length+1<=G:=by rw [hG];exact grownCap_ge w _ _ _
 have hGm:G<=maxLen:=by rw [hG];exact grownCap_le_maxLen w _ _ _ (by unfold maxLen;omega)
 obtain ⟨row,hrow⟩:∃ row:List Value,row.toArray=(entCells (L.take i)).toArray++Builtin.zeroCells (Value.agg #[.int .i32 0,.int .i32 0,.int .u8 0]).cells (L.length+1 - i)++Builtin.zeroCells (Value.agg #[.int .i32 0,.int .i32 0,.int .u8 0]).cells (G - (L.length+1)):=⟨_,Array.toArray_toList⟩
 have hrl:row.length=G * 3:=by
  have:=congrArg Array.size hrow
  simp only [Array.size_append,zero_len,List.size_toArray,entCells_len,List.length_take] at this
  omega
 have hrt:row.take (i * 3)=entCells (L.take i):=by
  have e:=congrArg Array.toList hrow
  simp only [Array.toList_append] at e
  rw [e,List.append_assoc,List.take_append_of_le_length (by rw [entCells_len,List.length_take];omega),List.take_of_length_le (by rw [entCells_len,List.length_take];omega)]
 have hrz:∀ ty,(Builtin.append_ #[79,3] ty #[.slice (some ⟨g,0,none⟩) i L.length,.int .i64 ((L.length:Int)+1 - (i:Int))]).run Tryz.prog w =
   .ok (.slice (some ⟨w.heap.size,0,none⟩) (L.length+1) G) (w.drew.alloc (.cells row.toArray 173)):=fun ty=>by
  have h:=Lib.run_append_grow_zeros w 79 3 ty 173 i0 _ .i64 .i64 Tryz.undEnt Tryz.underlying3 hi0 hz0 (some ⟨g,0,none⟩) i L.length (entCells (L.take i)) hold (L.length+1 - i) (by omega) (by omega) (by omega) (by omega) (by rw [hzb];omega) (by rw [hzb,hik];exact growslice_fits (by omega) (by omega))
  rw [hik,<- hG,<- hrow] at h
  rw [hkk]
  exact h
 have hgl:g<w.heap.size:=heap_lt hg
 have hql:q<w.heap.size:=heap_lt hq
 obtain ⟨W1,hW1⟩:∃ W1,W1=w.drew.alloc (.cells row.toArray 173):=⟨_,rfl⟩
 rw [<- hW1] at hrz
 have HN1:Hid (W1.heap[w.heap.size]?=some (.cells row.toArray 173 (0,0))):=by show _=_;rw [hW1];exact heap_alloc_new w.drew _
 have HB1:Hid (Below w.heap.size w W1):=by show Below _ _ _;rw [hW1];exact ((Below.refl _ _).drew).alloc (Nat.le_refl _) _
 have HF1:Hid (i * 3+3<=row.length):=by show _<=_;omega
 have HM:Hid (3=Nat.min 1 (L.length+1 - i) * 3):=by
  show _=_
  rw [show Nat.min 1 (L.length+1 - i)=1 by simp only [Nat.min_def];split <;> omega]
 have hrun:∀ ty,(Builtin.copy_ #[79,79] ty #[.slice (some ⟨w.heap.size,i * 3,none⟩) (L.length+1 - i) (G - i),.slice (some ⟨q,0,none⟩) 1 1]).run Tryz.prog W1=.ok (goInt (Nat.min 1 (L.length+1 - i))) (W1.setRow w.heap.size (splice row (i * 3) [.int .i32 x,.int .i32 y,.int .u8 k]).toArray):=fun ty=>by
  rw [run_copy_rowK (P:=Tryz.prog) W1 79 79 ty 173 w.heap.size (i * 3) (L.length+1 - i) (G - i) ⟨q,0,none⟩ 1 1 _ 173 [.int .i32 x,.int .i32 y,.int .u8 k] 3 Tryz.undEnt sizeEnt HN1.out HM.out (fun j u hu=>by rw [Addr.add_lit,Nat.zero_add];exact (HB1.out.cell (p:=⟨q,j,none⟩) hql).trans (cell_of_block HQ.out j u (by simpa using hu))) (by simpa using HF1.out) (three_cellsD x y k),List.append_assoc]
  rfl
 obtain ⟨W2,hW2⟩:∃ W2,W2=W1.setRow w.heap.size (splice row (i * 3) [.int .i32 x,.int .i32 y,.int .u8 k]).toArray:=⟨_,rfl⟩
 rw [<- hW2] at hrun
 have HN2:Hid (W2.heap[w.heap.size]?=some (.cells (splice row (i * 3) [.int .i32 x,.int .i32 y,.int .u8 k]).toArray 173 (0,0))):=by
  show _=_
  rw [hW2];exact setRow_heap W1 w.heap.size _ _ _ _ HN1.out
 have HB2:Hid (Below w.heap.size w W2):=by show Below _ _ _;rw [hW2];exact below_setRow HB1.out (Nat.le_refl _) _
 have HN:Hid ((entCells (L.drop i)).length=Nat.min (L.length - i) (L.length+1 - (i+1)) * 3):=by
  show _=_
  rw [entCells_len,List.length_drop];congr 1;simp only [Nat.min_def];split <;> omega
 have HS:Hid (∀ j v,(entCells (L.drop i))[j]?=some v->W2.cell? ((⟨g,i * 3,none⟩:Addr).add j)=some v):=fun j v hj=>by
  rw [entCells_drop,<- HC.out,List.getElem?_drop,List.getElem?_take] at hj
  split at hj
  ·rw [Addr.add_lit];exact (HB2.out.cell (p:=⟨g,_,none⟩) hgl).trans (cell_of_block HG.out _ _ (by simpa using hj))
  ·cases hj
 have HL2:Hid ((i+1) * 3+(entCells (L.drop i)).length<=(splice row (i * 3) [.int .i32 x,.int .i32 y,.int .u8 k]).length):=by
  show _<=_
  rw [entCells_len,List.length_drop,length_splice _ _ _ HF1.out];omega
 have hw1:IntKind.i64.wrap ((i:Int)+1)=(i:Int)+1:=by rw [IntKind.wrap_i64];omega
 have hb1:(0:Int)<=(i:Int)+1:=by omega
 have hin:i<=L.length:=by omega
 have htn:((i:Int)+1).toNat=i+1:=by omega
 have hb3:(i:Int)<=(L.length:Int):=by omega
 have hb4:i<=L.length+1:=by omega
 have n1:¬ ((i:Int)=(L.length:Int)):=by omega
 have n2:¬ (G=i+1):=by omega
 have n3:¬ (G=i):=by omega
 have n4:¬ (L.length=i):=by omega
 have hG63:G<=9223372036854775807:=by unfold maxLen at hGm;omega
 clear h hq hg hcur hold hrow hG hW1 hW2 hkk hik hi0 hz0 hzs hzb
 go_enter Tryz.func205,Tryz.ntmps205
 go_wp2_with (first | (at_builtin;refine Lib.wpList_append_run _ rfl _ _ _ _ rfl _ _ rfl rfl _ _ (hrz _) ?_) | simp only [hrun])
 go_region_law
  (refine step_copyK rfl (.tmp 50) (.tmp 53) 79 rfl 173 3 Tryz.undEnt sizeEnt w.heap.size ((i+1) * 3) (L.length+1 - (i+1)) (G - (i+1)) ⟨g,i * 3,none⟩ (L.length - i) (L.length - i) (by simp [Act.eval,Act.put]) (by simp [Act.eval,Act.put]) (splice row (i * 3) [.int .i32 x,.int .i32 y,.int .u8 k]) 173 HN2.out (entCells (L.drop i)) HN.out HS.out HL2.out (entCells_one _) ?_
   intro W3 hb3 hc3
   have HN3:Hid (W3.heap[w.heap.size]?=some (.cells (splice (splice row (i * 3) [.int .i32 x,.int .i32 y,.int .u8 k]) ((i+1) * 3) (entCells (L.drop i))).toArray 173 (0,0))):=hb3
   have HC3:Hid (Chg (fun k=>k=w.heap.size) W2 W3):=⟨hc3.os,hc3.tape,hc3.output,hc3.size,hc3.block⟩
   clear hb3 hc3)
 go_wp2_with fail
 go_ret
 have hlen:(insE L i (x,y,k)).length=L.length+1:=by unfold insE;simp;omega
 refine ⟨_,rfl,⟨by rw [entCells_len],Or.inr ⟨w.heap.size,G,_,?_,hbase,HN3.out,?_,hGm,?_,?_⟩⟩,?_⟩
 ·show Value.slice _ _ _=Value.slice _ _ _
  rw [hlen]
 ·rw [hlen];exact hGn
 ·rw [List.size_toArray,length_splice _ _ _ HL2.out,length_splice _ _ _ HF1.out];exact hrl
 ·rw [hlen]
  exact splice3 hi hrt
 ·exact ⟨HC3.out.os.trans HB2.out.os,HC3.out.tape.trans HB2.out.tape,HC3.out.output.trans HB2.out.output,Nat.le_trans HB2.out.size HC3.out.size,fun k hk hp=>by
   rw [HC3.out.block k (Nat.lt_of_lt_of_le hk HB2.out.size) (fun e=>by have:k=w.heap.size:=e;omega),HB2.out.block k hk]⟩
theorem ins_any (base i:Nat) (v:Value) (L:List (Int × Int × Nat)) (x y:Int) (k q:Nat) (w:World) (h:TRe base w v L) (hl:L.length<=2000) (hbase:base<=w.heap.size) (hi:i<=L.length) (hqv:v.ownBlock ≠ some q)
  (hq:w.heap[q]?=some (.cells #[.int .i32 x,.int .i32 y,.int .u8 k] 173 (0,0))) :
  Calls Tryz.prog 205 #[v,.int .i64 i,.slice (some ⟨q,0,none⟩) 1 1] w (InsPost base L i (x,y,k) v w):=by
 by_cases he:i=L.length
 ·subst he;exact ins_end base v L x y k q w h hl hbase hq
 ·have hlt:i<L.length:=by omega
  rcases h.2 with ⟨_,hn⟩ | ⟨g,cap,cur,hv,_⟩
  ·omega
  ·subst hv
   by_cases hr:L.length+1<=cap
   ·exact ins_shift base g i cap L x y k q w h hl hlt hr (fun e=>hqv (by rw [e];rfl)) hq
   ·exact ins_grow base g i cap L x y k q w h hl hbase hlt (by omega) hq
def InRow (L:List (Int × Int × Nat)):Prop:=(∀ o ∈ L,o.1<=o.2.1)/\∀ (i j:Nat) (a b:Int × Int × Nat),i<j->L[i]?=some a->L[j]?=some b->a.2.1<b.1
theorem InRow.ends {L:List (Int × Int × Nat)} (h:InRow L):EndsUp L:=fun i j a b hij ha hb=>by
 have h1:=h.2 i j a b hij ha hb
 have h2:=h.1 b (List.mem_of_getElem? hb)
 omega
def TRs (base:Nat) (w:World) (v:Value) (l:List (Int × Int × Nat)):Prop:=∃ L,L.Perm l/\TRe base w v L/\InRow L
theorem meets_perm {x y:Int} {L l:List (Int × Int × Nat)} (h:L.Perm l):RS.meets x y (spI L)=RS.meets x y (spI l):=by
 unfold RS.meets spI
 exact (h.map _).any_eq
theorem meets_first {L:List (Int × Int × Nat)} {x y:Int} {i:Nat} (h:InRow L) (hp:Parted L x i i):RS.meets x y (spI L)=(match L[i]? with | some o=>meet1 o.1 o.2.1 x y | none=>false):=by
 rw [Bool.eq_iff_iff]
 constructor
 ·intro hm
  unfold RS.meets spI at hm
  rw [List.any_eq_true] at hm
  obtain ⟨o',ho',hm⟩:=hm
  rw [List.mem_map] at ho'
  obtain ⟨o,ho,rfl⟩:=ho'
  obtain ⟨j,hj⟩:=List.mem_iff_getElem?.1 ho
  simp at hm
  have hij:i<=j:=by
   by_cases hc:i<=j
   ·exact hc
   ·have:=hp.1 j o (by omega) hj;omega
  have hil:i<L.length:=by
   have:=(List.getElem?_eq_some_iff.1 hj).1;omega
  rw [List.getElem?_eq_getElem hil]
  have hge:=hp.2 i _ (Nat.le_refl _) (List.getElem?_eq_getElem hil)
  have hfi:L[i].1<=y:=by
   by_cases e:i=j
   ·subst e
    rw [List.getElem?_eq_getElem hil] at hj
    cases hj;omega
   ·have h1:=h.2 i j _ o (by omega) (List.getElem?_eq_getElem hil) hj
    have h2:=h.1 _ (List.getElem_mem hil)
    omega
  show meet1 _ _ _ _=true
  unfold meet1;simp;omega
 ·intro hm
  cases hx:L[i]? with
  | none=>rw [hx] at hm;cases hm
  | some o =>
   rw [hx] at hm
   unfold RS.meets spI
   rw [List.any_eq_true]
   refine ⟨_,List.mem_map.2 ⟨o,List.mem_of_getElem? hx,rfl⟩,?_⟩
   have hm':meet1 o.1 o.2.1 x y=true:=hm
   unfold meet1 at hm'
   simp at hm' ⊢
   omega
theorem insE_perm (L:List (Int × Int × Nat)) (i:Nat) (e:Int × Int × Nat):(insE L i e).Perm (L++[e]):=by
 unfold insE
 rw [List.append_assoc]
 have h1:([e]++L.drop i).Perm (L.drop i++[e]):=List.perm_append_comm
 have h2:=h1.append_left (L.take i)
 rw [<- List.append_assoc (L.take i) (L.drop i),List.take_append_drop] at h2
 exact h2
theorem insE_at (L:List (Int × Int × Nat)) (i:Nat) (e:Int × Int × Nat) (hi:i<=L.length) (j:Nat) (o:Int × Int × Nat) (h:(insE L i e)[j]?=some o):(j<i/\L[j]?=some o)\/(j=i/\o=e)\/(i<j/\L[j - 1]?=some o):=by
 unfold insE at h
 rw [List.append_assoc] at h
 have hl:(L.take i).length=i:=by rw [List.length_take];omega
 by_cases h1:j<i
 ·rw [List.getElem?_append_left (by omega),List.getElem?_take,if_pos h1] at h
  exact Or.inl ⟨h1,h⟩
 ·rw [List.getElem?_append_right (by omega),hl] at h
  by_cases h2:j=i
  ·subst h2;simp at h;exact Or.inr (Or.inl ⟨rfl,h.symm⟩)
  ·rw [List.getElem?_append_right (by simp;omega),List.getElem?_drop] at h
   exact Or.inr (Or.inr ⟨by omega,by simp at h;rw [show j - 1=i+(j - i - 1) by omega];exact h⟩)
theorem InRow.ins {L:List (Int × Int × Nat)} {x y:Int} {k i:Nat} (h:InRow L) (hi:i<=L.length) (hp:Parted L x i i) (hxy:x<=y) (hm:RS.meets x y (spI L)=false):InRow (insE L i (x,y,k)):=by
 have hbeh:∀ j o,i<=j->L[j]?=some o->y<o.1:=fun j o hj ho=>by
  have hil:i<L.length:=by
   have:=(List.getElem?_eq_some_iff.1 ho).1;omega
  have e:=meets_first (y:=y) h hp
  rw [hm,List.getElem?_eq_getElem hil] at e
  have e':meet1 L[i].1 L[i].2.1 x y=false:=e.symm
  have hge:=hp.2 i _ (Nat.le_refl _) (List.getElem?_eq_getElem hil)
  have hfi:y<L[i].1:=by
   unfold meet1 at e'
   simp at e'
   by_cases hc:L[i].1<=y
   ·have:=e' hc;omega
   ·omega
  by_cases ej:i=j
  ·subst ej;rw [List.getElem?_eq_getElem hil] at ho;cases ho;exact hfi
  ·have h1:=h.2 i j _ o (by omega) (List.getElem?_eq_getElem hil) ho
   have h2:=h.1 _ (List.getElem_mem hil)
   omega
 refine ⟨fun o ho=>?_,fun a b oa ob hab ha hb=>?_⟩
 ·rw [(insE_perm L i (x,y,k)).mem_iff,List.mem_append] at ho
  rcases ho with ho | ho
  ·exact h.1 o ho
  ·simp at ho;subst ho;exact hxy
 ·rcases insE_at L i _ hi a oa ha with ⟨h1,h2⟩ | ⟨h1,h2⟩ | ⟨h1,h2⟩ <;> rcases insE_at L i _ hi b ob hb with ⟨g1,g2⟩ | ⟨g1,g2⟩ | ⟨g1,g2⟩
  ·exact h.2 a b oa ob hab h2 g2
  ·subst g2;exact hp.1 a oa h1 h2
  ·exact h.2 a (b - 1) oa ob (by omega) h2 g2
  ·omega
  ·omega
  ·subst h2;exact hbeh (b - 1) ob (by omega) g2
  ·omega
  ·omega
  ·exact h.2 (a - 1) (b - 1) oa ob (by omega) h2 g2
set_option maxHeartbeats 1000000 in
theorem first_any (base b:Nat) (T:ByteArray) (vN vE vL:Value) (s:PS) (L:List (Int × Int × Nat)) (c:Int) (w:World) (hr:RAt w b T vN vE vL s) (h:TRe base w vE L) (hl:L.length<=2000) (hL:EndsUp L) :
  Calls Tryz.prog 190 #[.pointer (some ⟨b,4,none⟩),.int .i32 c] w fun r w'=>(∃ i:Nat,r=.returned (.int .i64 i)/\i<=L.length/\Parted L c i i)/\Below w.heap.size w w':=by
 have c4:=(pcells hr.blk).2.2.2.2.1
 have HT:Hid (TRe base w vE L):=h
 obtain ⟨ao,cap,rfl⟩:=row_shape h
 clear h hr
 go_enter Tryz.func190,Tryz.ntmps190
 go_wp2_with fail
 refine (bs_any base _ L c w HT.out hl hL).mono ?_
 rintro r w1 ⟨⟨i,f,rfl,hi,hp⟩,b1⟩
 go_wp2_with fail
 go_ret
 exact ⟨⟨i,rfl,hi,hp⟩,b1⟩
end Go.Proofs.YtodagkkjfipbgaaGreatDoor
