import Derived.Test.YtodagkkjfipbgaaGreatDoorK7toL3
import Derived.Test.YtodagkkjfipbgaaGreatDoorJ7toJ8
namespace Go.Proofs.YtodagkkjfipbgaaGreatDoor
open Go.RowKit
theorem Tryz.infoRul:(Tryz.prog.info? 148).map (fun i=>(i.zero,i.size,i.bytes))=some (some (.agg #[.bool false,.slice none 0 0,.int .i64 0,.slice none 0 0,.int .i64 0]),5,72):=by kernel_rfl
theorem Tryz.undRul:Tryz.prog.underlying 82=some (.slice 148):=by kernel_rfl
structure RuleM where
 cut:Bool
 SL:List St
 fL:Nat
 SR:List St
 fR:Nat
def ruleCellsP (Ls:List RuleM) (vs:List (Value × Value)):List Value:=(Ls.zip vs).flatMap fun o=>[.bool o.1.cut,o.2.1,.int .i64 o.1.fL,o.2.2,.int .i64 o.1.fR]
def LIn (base:Nat) (w:World) (vL:Value) (Ls:List RuleM):Prop :=
 ∃ vs:List (Value × Value),vs.length=Ls.length/\w.ownsRow base 148 5 vL Ls.length (ruleCellsP Ls vs)/\∀ (i:Nat) (L:RuleM) (v:Value × Value),Ls[i]?=some L->vs[i]?=some v->(∃ tv,MRow w 0 v.1 L.SL tv)/\∃ tv,MRow w 0 v.2 L.SR tv
theorem MRow.kp {w w':World} {base:Nat} {vS:Value} {S:List St} {tv:List Value} (h:MRow w base vS S tv) (k1:Kp 293 w w') (k2:Kp 3 w w'):MRow w' base vS S tv :=
 ⟨h.len,row_kp h.row k1,fun i v s hv hs=>row_kp (h.to_ i v s hv hs) k2,h.apart⟩
theorem MRow.base0 {w:World} {base:Nat} {vS:Value} {S:List St} {tv:List Value} (h:MRow w base vS S tv):MRow w 0 vS S tv :=
 ⟨h.len,row_base h.row (Nat.zero_le _),fun i v s hv hs=>row_base (h.to_ i v s hv hs) (Nat.zero_le _),h.apart⟩
theorem ruleCellsP_snoc (Ls:List RuleM) (vs:List (Value × Value)) (L:RuleM) (v:Value × Value) (h:vs.length=Ls.length):ruleCellsP (Ls++[L]) (vs++[v])=ruleCellsP Ls vs++[.bool L.cut,v.1,.int .i64 L.fL,v.2,.int .i64 L.fR]:=by
 unfold ruleCellsP;rw [List.zip_append h.symm];simp
theorem LIn.kp {base:Nat} {w w':World} {vL:Value} {Ls:List RuleM} (h:LIn base w vL Ls) (k0:Kp 148 w w') (k1:Kp 293 w w') (k2:Kp 3 w w'):LIn base w' vL Ls:=by
 obtain ⟨vs,h1,h2,h3⟩:=h
 exact ⟨vs,h1,row_kp h2 k0,fun i L v hL hv=>by
  obtain ⟨⟨a,ha⟩,c,hc⟩:=h3 i L v hL hv
  exact ⟨⟨a,ha.kp k1 k2⟩,c,hc.kp k1 k2⟩⟩
theorem LIn.below {base:Nat} {w w':World} {vL:Value} {Ls:List RuleM} (h:LIn base w vL Ls) (hb:Below w.heap.size w w'):LIn base w' vL Ls:=h.kp (Kp.below hb) (Kp.below hb) (Kp.below hb)
theorem LIn.chg1 {w w':World} {base b:Nat} {vL:Value} {Ls:List RuleM} {cs:Array Value} {m:Nat × Nat} (h:LIn base w vL Ls) (hb:w.heap[b]?=some (.cells cs 141 m)) (hc:Chg (fun k=>k=b) w w'):LIn base w' vL Ls :=
 h.kp (Kp.chg1 hb hc (by decide)) (Kp.chg1 hb hc (by decide)) (Kp.chg1 hb hc (by decide))
def PS.ruleN (T:ByteArray) (n:Nat) (s:PS):PS:=if n=4 then s.fail T 6 else s
def PS.ruleA (T:ByteArray) (names:List ByteArray) (n:Nat) (s:PS):PS × Px:=((s.ruleN T n).need T [wCut,wJoin]).side T names (sgn 124)
def PS.ruleB (T:ByteArray) (names:List ByteArray) (n:Nat) (s:PS):PS × Px:=((s.ruleA T names n).1.need T [sgn 124]).side T names (sgn 59)
def PS.rule (T:ByteArray) (names:List ByteArray) (n:Nat) (s:PS):PS:=(s.ruleB T names n).1.need T [sgn 59]
def ruleOf (T:ByteArray) (names:List ByteArray) (n:Nat) (s:PS):RuleM :=
 ⟨(takenOf T [wCut,wJoin] (s.ruleN T n).p).toList == [99,117,116],(mk 24 (s.ruleA T names n).2 startS 0).1,(mk 24 (s.ruleA T names n).2 startS 0).2,(mk 24 (s.ruleB T names n).2 startS 0).1,(mk 24 (s.ruleB T names n).2 startS 0).2⟩
theorem make_later (d:Nat) (x:Px) (v:Value) (w:World) (N:Nat) (h:PIn d (From N) w v x) (hw:wtx d x<=8000) (W:World) (hb:Below w.heap.size w W) :
  Calls Tryz.prog 133 #[v] W fun e w'=>∃ vS tv,e=.returned (.agg #[vS,.int .i64 (mk d x startS 0).2])/\MRow w' W.heap.size vS (mk d x startS 0).1 tv/\Below W.heap.size W w' :=
 make_any d x v W (h.turn (A':=fun k=>k<W.heap.size) (KeepPt.below hb fun _ hk _=>hk) fun _ hk _=>Nat.lt_of_lt_of_le hk hb.size) hw
def MkPost (R:List St × Nat) (W:World) (e:Ending) (w':World):Prop:=∃ vS tv,e=.returned (.agg #[vS,.int .i64 R.2])/\MRow w' W.heap.size vS R.1 tv/\Below W.heap.size W w'
theorem step_make {w:World} {ops:Array Oper} {o:Oper} {a:Act} {K:Act->World->Prop} {Q:Exit->Act->World->Prop} {E:Prop} (x:Operand)
  (ho:o.op=.call { callee:=.value (.func 133),args:=#[x],argTypes:=#[224] }) (hgd:o.guard=none) (v0:Value) (hx:a.eval x=v0) (R:List St × Nat) (hc:Calls Tryz.prog 133 #[v0] w (MkPost R w))
  (hK:∀ vS tv w',MRow w' w.heap.size vS R.1 tv->Below w.heap.size w w'->K (a.put o.dst (.agg #[vS,.int .i64 R.2])) w') :
  if Region.wanted o (yielded ops a.tmps)=true then Oper.wp Tryz.prog o a w K Q else E :=
 step_fn1 hgd 133 x _ ho (enters_of Tryz.func133 (by kernel_rfl) rfl) v0 hx _ hc fun e w' h=>by
  obtain ⟨vS,tv,rfl,h1,h2⟩:=h
  exact ⟨_,rfl,hK vS tv w' h1 h2⟩
theorem below_drew {w W:World} (h:Below w.drew.heap.size w.drew W):Below w.heap.size w W:=⟨h.os,h.tape,h.output,h.size,h.block⟩
theorem five_cells (c:Bool) (a b:Value) (x y:Int) (ha:a.oneCell'=true) (hb:b.oneCell'=true):∀ u ∈ [Value.bool c,a,.int .i64 x,b,.int .i64 y],u.oneCell'=true:=by
 intro u hu;simp at hu;rcases hu with rfl | rfl | rfl | rfl | rfl
 ·rfl
 ·exact ha
 ·rfl
 ·exact hb
 ·rfl
theorem cell_newL (w:World) (l:List Value) (t:TypeId):∀ (j:Nat) (u:Value),l[j]?=some u->(w.alloc (.cells l.toArray t)).cell? ⟨w.heap.size,j,none⟩=some u:=fun j u hu=>cell_of_block (heap_alloc_new w _) j u (by simpa using hu)
theorem cj_ne:∀ x ∈ [wCut,wJoin],x.toList ≠ []:=by
 intro x hx;simp at hx;rcases hx with rfl | rfl
 ·unfold wCut;rw [ByteArray.toList_eq];simp
 ·unfold wJoin;rw [ByteArray.toList_eq];simp
theorem pset_ls {w:World} {b:Nat} {T:ByteArray} {a e:Int} {vN vE vL:Value} {fault place:Int} (h:PBlk w b T a e vN vE vL fault place) (x:Value):PBlk (w.setCell ⟨b,5,none⟩ x) b T a e vN vE x fault place:=(block_setCell h 5 _).trans rfl
theorem rule_end {base b n cap cap1 cap2 cap':Nat} {T:ByteArray} {vN vE:Value} {Ls:List RuleM} {s':PS} {w w6 W1 W2 W3:World} {ao ao1 ao2 ao':Option Addr} {RA RB:List St × Nat} {cb:Bool} {vs:List (Value × Value)} {tv1 tv2:List Value} (hn:n=Ls.length)
  (H6:RAt w6 b T vN vE (.slice ao n cap) s') (C6:Chg (fun k=>k=b) w w6) (HV:w6.ownsRow base 148 5 (.slice ao n cap) n (ruleCellsP Ls vs)) (HV1:vs.length=Ls.length)
  (HV3:∀ (i:Nat) (L:RuleM) (v:Value × Value),Ls[i]?=some L->vs[i]?=some v->(∃ tv,MRow w6 0 v.1 L.SL tv)/\∃ tv,MRow w6 0 v.2 L.SR tv)
  (HM1:MRow W1 w6.heap.size (.slice ao1 RA.1.length cap1) RA.1 tv1) (hC1:Below w6.heap.size w6 W1) (HM2:MRow W2 W1.heap.size (.slice ao2 RB.1.length cap2) RB.1 tv2) (hB2:Below W1.heap.size W1 W2)
  (hg:(W2.alloc (.cells #[.bool cb,.slice ao1 RA.1.length cap1,.int .i64 RA.2,.slice ao2 RB.1.length cap2,.int .i64 RB.2] 148)).grownBy W3 (Value.ownBlock (.slice ao n cap)))
  (hown:W3.ownsRow base 148 5 (.slice ao' (n+1) cap') (n+1) (ruleCellsP Ls vs++[.bool cb,.slice ao1 RA.1.length cap1,.int .i64 RA.2,.slice ao2 RB.1.length cap2,.int .i64 RB.2]))
  (hbl:W3.heap[b]?=some (.cells (pcell T s'.p (tokEnd T s'.p) vN vE (.slice ao n cap) s'.f s'.pl) 141 (0,0))) :
  RAt (W3.setCell ⟨b,5,none⟩ (.slice ao' (n+1) cap')) b T vN vE (.slice ao' (n+1) cap') s'/\LIn base (W3.setCell ⟨b,5,none⟩ (.slice ao' (n+1) cap')) (.slice ao' (n+1) cap') (Ls++[⟨cb,RA.1,RA.2,RB.1,RB.2⟩]) /\
   Chg (fun k=>k=b\/Value.ownBlock (.slice ao n cap)=some k) w (W3.setCell ⟨b,5,none⟩ (.slice ao' (n+1) cap')):=by
 subst hn
 have hC2:Below w6.heap.size w6 W2:=hC1.trans (hB2.mono hC1.size)
 have hBa:=below_alloc W2 (.cells #[.bool cb,.slice ao1 RA.1.length cap1,.int .i64 RA.2,.slice ao2 RB.1.length cap2,.int .i64 RB.2] 148)
 have hC3:=hC2.trans (hBa.mono hC2.size)
 have hrow:=row_kp HV (Kp.below hC3)
 have kk:∀ t,t ≠ 148->t ≠ 141->Kp t W2 (W3.setCell ⟨b,5,none⟩ (.slice ao' (Ls.length+1) cap')):=fun t h1 h2 =>
  ((Kp.below hBa).grown hrow hg h1).setCell hbl h2 _
 have kS:=kk 293 (by decide) (by decide)
 have kI:=kk 3 (by decide) (by decide)
 refine ⟨⟨pset_ls hbl _,H6.le,H6.short⟩,⟨vs++[(.slice ao1 RA.1.length cap1,.slice ao2 RB.1.length cap2)],by simp [HV1],?_,?_⟩,?_⟩
 ·rw [ruleCellsP_snoc _ _ _ _ HV1,List.length_append]
  exact row_kp hown ((Kp.refl _ _).setCell hbl (by decide) _)
 ·intro i L v hL hv
  rcases snoc_at hL with ⟨a1,a2⟩ | ⟨a1,rfl⟩
  ·rcases snoc_at hv with ⟨b1,b2⟩ | ⟨b1,rfl⟩
   ·obtain ⟨⟨t1,h1⟩,t2,h2⟩:=HV3 i L v a1 b1
    exact ⟨⟨t1,h1.kp ((Kp.below hC2).trans kS) ((Kp.below hC2).trans kI)⟩,t2,h2.kp ((Kp.below hC2).trans kS) ((Kp.below hC2).trans kI)⟩
   ·omega
  ·rcases snoc_at hv with ⟨b1,b2⟩ | ⟨b1,rfl⟩
   ·omega
   ·exact ⟨⟨tv1,(HM1.kp ((Kp.below hB2).trans kS) ((Kp.below hB2).trans kI)).base0⟩,tv2,(HM2.kp kS kI).base0⟩
 ·have c1:Chg (fun k=>k=b\/Value.ownBlock (.slice ao Ls.length cap)=some k) w (W2.alloc (.cells #[.bool cb,.slice ao1 RA.1.length cap1,.int .i64 RA.2,.slice ao2 RB.1.length cap2,.int .i64 RB.2] 148)) :=
   (C6.mono fun _ _ e=>Or.inl e).trans (Chg.of_below hC3)
  exact (c1.grown hg fun k e=>Or.inr (Or.inr e)).setCell (q:=⟨b,5,none⟩) (Or.inr (Or.inl rfl)) _
set_option maxRecDepth 100000 in
set_option maxHeartbeats 1500000 in
theorem rule_any (base b:Nat) (T:ByteArray) (names:List ByteArray) (vN vE vL:Value) (Ls:List RuleM) (s:PS) (w:World) (h:RAt w b T vN vE vL s) (hN:w.ownsRow 0 9 1 vN names.length (names.map .string)) (hl:names.length<=7) (hL:LIn base w vL Ls) (hn:Ls.length<=1000) (hbase:base<=w.heap.size) :
  Calls Tryz.prog 78 #[.pointer (some ⟨b,0,none⟩)] w fun r w'=>r=.returned (.tuple #[])/\∃ vL',RAt w' b T vN vE vL' (s.rule T names Ls.length)/\LIn base w' vL' (Ls++[ruleOf T names Ls.length s])/\Chg (fun k=>k=b\/vL.ownBlock=some k) w w':=by
 have HH:Hid (RAt w b T vN vE vL s):=h
 have HN:Hid (w.ownsRow 0 9 1 vN names.length (names.map .string)):=hN
 have HL:Hid (LIn base w vL Ls):=hL
 obtain ⟨ao,cap,rfl⟩:∃ ao cap,vL=.slice ao Ls.length cap:=by obtain ⟨_,_,h2,_⟩:=hL;exact row_shape h2
 have c5:=(pcells h.blk).2.2.2.2.2.1
 clear h hN hL
 go_enter Tryz.func78,Tryz.ntmps78
 go_upto_if 11 with fail
 go_cut [] (fun wx=>Hid (RAt wx b T vN vE (.slice ao Ls.length cap) (s.ruleN T Ls.length))/\Hid (Chg (fun k=>k=b) w wx))
 case first =>
  by_cases h4:Ls.length=4
  ·have k4:((Ls.length:Int) == 4)=true:=by rw [beq_iff_eq];omega
   have e:Hid (s.ruleN T Ls.length=s.fail T 6):=by show _=_;unfold PS.ruleN;rw [if_pos h4]
   clear h4
   go_wp2_with fail
   refine (fail_ps b T vN vE (.slice ao Ls.length cap) s 6 w HH.out).mono ?_
   rintro r w4 ⟨rfl,h4,c4⟩
   have H4:Hid (RAt w4 b T vN vE (.slice ao Ls.length cap) (s.fail T 6)):=h4
   clear h4
   go_wp2_with fail
   go_meet
   exact ⟨by rw [e.out];exact H4,c4⟩
  ·have k4:((Ls.length:Int) == 4)=false:=by rw [beq_eq_false_iff_ne];omega
   have e:Hid (s.ruleN T Ls.length=s):=by show _=_;unfold PS.ruleN;rw [if_neg h4]
   clear h4
   go_wp2_with fail
   go_meet
   exact ⟨by rw [e.out];exact HH,Chg.refl _ _⟩
 case rest =>
  obtain ⟨h1,c1⟩:=hcut
  obtain ⟨w1,hw1⟩:∃ w1,w1=wc:=⟨wc,rfl⟩
  subst hw1
  clear c5
  go_wp2_with fail
  refine (need_new b T vN vE (.slice ao Ls.length cap) (s.ruleN T Ls.length) [wCut,wJoin] w1 h1.out (by decide) (by decide) cj_ne).mono ?_
  rintro r w2 ⟨rfl,h2,c2⟩
  have H2:Hid (RAt w2 b T vN vE (.slice ao Ls.length cap) ((s.ruleN T Ls.length).need T [wCut,wJoin])):=h2
  have C2:Hid (Chg (fun k=>k=b) w w2):=c1.out.trans c2
  have N2:Hid (w2.ownsRow 0 9 1 vN names.length (names.map .string)):=row_kp HN.out (Kp.chg1 HH.out.blk C2.out (by decide))
  clear h2 c2 h1 c1
  go_wp2_with fail
  refine (side_any b T names vN vE (.slice ao Ls.length cap) (sgn 124) ((s.ruleN T Ls.length).need T [wCut,wJoin]) w2 H2.out N2.out hl).mono ?_
  rintro r w3 ⟨vA,rfl,h3,p3,c3⟩
  have H3:Hid (RAt w3 b T vN vE (.slice ao Ls.length cap) (s.ruleA T names Ls.length).1):=h3
  have P3:Hid (PIn 24 (From w2.heap.size) w3 vA (s.ruleA T names Ls.length).2):=p3
  have C3:Hid (Chg (fun k=>k=b) w w3):=C2.out.trans c3
  have WA:Hid (wtx 24 (s.ruleA T names Ls.length).2<=8000):=by have:=side_wt T names (sgn 124) _ H2.out.le HH.out.short 24;exact Nat.le_trans this (by omega)
  have hb2:=H2.out.lt
  clear h3 p3 c3 H2 C2 N2
  go_wp2_with fail
  refine (need_new b T vN vE (.slice ao Ls.length cap) (s.ruleA T names Ls.length).1 [sgn 124] w3 H3.out (by decide) (by decide) (sgn_ne _)).mono ?_
  rintro r w4 ⟨rfl,h4,c4⟩
  have H4:Hid (RAt w4 b T vN vE (.slice ao Ls.length cap) ((s.ruleA T names Ls.length).1.need T [sgn 124])):=h4
  have C4:Hid (Chg (fun k=>k=b) w w4):=C3.out.trans c4
  have N4:Hid (w4.ownsRow 0 9 1 vN names.length (names.map .string)):=row_kp HN.out (Kp.chg1 HH.out.blk C4.out (by decide))
  have P4:Hid (PIn 24 (From w2.heap.size) w4 vA (s.ruleA T names Ls.length).2):=P3.out.keep (EChg.of1 (c:=b) c4) hb2 hb2
  clear h4 c4 H3 P3 C3
  go_wp2_with fail
  refine (side_any b T names vN vE (.slice ao Ls.length cap) (sgn 59) ((s.ruleA T names Ls.length).1.need T [sgn 124]) w4 H4.out N4.out hl).mono ?_
  rintro r w5 ⟨vB,rfl,h5,p5,c5⟩
  have H5:Hid (RAt w5 b T vN vE (.slice ao Ls.length cap) (s.ruleB T names Ls.length).1):=h5
  have P5:Hid (PIn 24 (From w4.heap.size) w5 vB (s.ruleB T names Ls.length).2):=p5
  have P5a:Hid (PIn 24 (From w2.heap.size) w5 vA (s.ruleA T names Ls.length).2):=P4.out.keep (EChg.of1 (c:=b) c5) hb2 hb2
  have C5:Hid (Chg (fun k=>k=b) w w5):=C4.out.trans c5
  have WB':Hid (wtx 24 (s.ruleB T names Ls.length).2<=8000):=by have:=side_wt T names (sgn 59) _ H4.out.le HH.out.short 24;exact Nat.le_trans this (by omega)
  have hb4:=H4.out.lt
  clear h5 p5 c5 H4 C4 N4 P4
  go_wp2_with fail
  refine (need_new b T vN vE (.slice ao Ls.length cap) (s.ruleB T names Ls.length).1 [sgn 59] w5 H5.out (by decide) (by decide) (sgn_ne _)).mono ?_
  rintro r w6 ⟨rfl,h6,c6⟩
  have H6:Hid (RAt w6 b T vN vE (.slice ao Ls.length cap) (s.rule T names Ls.length)):=h6
  have C6:Hid (Chg (fun k=>k=b) w w6):=C5.out.trans c6
  have P6b:Hid (PIn 24 (From w4.heap.size) w6 vB (s.ruleB T names Ls.length).2):=P5.out.keep (EChg.of1 (c:=b) c6) hb4 hb4
  have P6a:Hid (PIn 24 (From w2.heap.size) w6 vA (s.ruleA T names Ls.length).2):=P5a.out.keep (EChg.of1 (c:=b) c6) hb2 hb2
  have L6:Hid (LIn base w6 (.slice ao Ls.length cap) Ls):=HL.out.chg1 HH.out.blk C6.out
  clear h6 c6 H5 C5 P5 P5a
  obtain ⟨fA,qA,hvA⟩:=P6a.out.fn
  obtain ⟨fB,qB,hvB⟩:=P6b.out.fn
  obtain ⟨RA,hRA⟩:∃ RA,RA=mk 24 (s.ruleA T names Ls.length).2 startS 0:=⟨_,rfl⟩
  obtain ⟨RB,hRB⟩:∃ RB,RB=mk 24 (s.ruleB T names Ls.length).2 startS 0:=⟨_,rfl⟩
  obtain ⟨tx,htx⟩:∃ tx,tx=takenOf T [wCut,wJoin] (s.ruleN T Ls.length).p:=⟨_,rfl⟩
  obtain ⟨cb,hcb⟩:∃ cb,cb=(tx.toList == [99,117,116]):=⟨_,rfl⟩
  have HRO:Hid (ruleOf T names Ls.length s=⟨cb,RA.1,RA.2,RB.1,RB.2⟩):=by show _=_;unfold ruleOf;rw [hcb,htx,hRA,hRB]
  have MA:Hid (∀ W,Below w6.heap.size w6 W->Calls Tryz.prog 133 #[vA] W (MkPost RA W)):=by
   intro W hb
   have:=make_later 24 _ vA w6 _ P6a.out WA.out W hb
   rw [<- hRA] at this
   exact this
  have MB:Hid (∀ W,Below w6.heap.size w6 W->Calls Tryz.prog 133 #[vB] W (MkPost RB W)):=by
   intro W hb
   have:=make_later 24 _ vB w6 _ P6b.out WB'.out W hb
   rw [<- hRB] at this
   exact this
  rw [<- htx]
  have hcb':(tx.toList == [99,117,116])=cb:=hcb.symm
  clear htx hRA hRB WA WB' hcb
  have c5:=(pcells H6.out.blk).2.2.2.2.2.1
  have c5f:=free_of_block H6.out.blk
  have hb6:=H6.out.lt
  clear P6a P6b hvA hvB
  go_wp2_with fail
  obtain ⟨vs,l1,l2,l3⟩:=L6.out
  have HV:Hid (w6.ownsRow base 148 5 (.slice ao Ls.length cap) Ls.length (ruleCellsP Ls vs)):=l2
  have HV1:Hid (vs.length=Ls.length):=l1
  have HV3:Hid (∀ (i:Nat) (L:RuleM) (v:Value × Value),Ls[i]?=some L->vs[i]?=some v->(∃ tv,MRow w6 0 v.1 L.SL tv)/\∃ tv,MRow w6 0 v.2 L.SR tv):=l3
  clear l1 l2 l3
  go_region_law (first
   | (refine step_make (.tmp 35) ?_ ?_ vA ?_ RA ?_ ?_
      ·exact rfl
      ·exact rfl
      ·simp [Act.eval,Act.put]
      ·exact MA.out _ ((Below.refl _ _).drew)
      intro vS1 tv1 W1 hM1 hB1
      obtain ⟨ao1,cap1,rfl⟩:=row_shape hM1.row
      have HM1:Hid (MRow W1 w6.heap.size (.slice ao1 RA.1.length cap1) RA.1 tv1):=hM1
      clear hM1
      have hC1:=below_drew hB1
      have f5:=(hC1.cell (p:=⟨b,5,none⟩) hb6).trans c5)
   | (refine step_make (.tmp 37) ?_ ?_ vB ?_ RB ?_ ?_
      ·exact rfl
      ·exact rfl
      ·simp [Act.eval]
      ·exact MB.out _ hC1
      intro vS2 tv2 W2 hM2 hB2
      obtain ⟨ao2,cap2,rfl⟩:=row_shape hM2.row
      have HM2:Hid (MRow W2 W1.heap.size (.slice ao2 RB.1.length cap2) RB.1 tv2):=hM2
      clear hM2
      have hC2:=hC1.trans (hB2.mono hC1.size)
      have g5:=(hC2.cell (p:=⟨b,5,none⟩) hb6).trans c5
      have g5':=fun o=>((below_alloc W2 o).cell (p:=⟨b,5,none⟩) (Nat.lt_of_lt_of_le hb6 hC2.size)).trans g5)
   | (refine step_push2 rfl (.tmp 32) (.tmp 40) 82 rfl base 148 (.agg #[.bool false,.slice none 0 0,.int .i64 0,.slice none 0 0,.int .i64 0]) 5 72 Tryz.infoRul Tryz.undRul rfl (by decide) (.slice ao Ls.length cap) Ls.length (ruleCellsP Ls vs) (by simp [Act.eval]) (row_kp HV.out (Kp.below (hC2.trans ((below_alloc W2 _).mono hC2.size)))) W2.heap.size 1 [.bool cb,.slice ao1 RA.1.length cap1,.int .i64 RA.2,.slice ao2 RB.1.length cap2,.int .i64 RB.2] (by simp [Act.eval]) rfl (cell_newL W2 [.bool cb,.slice ao1 RA.1.length cap1,.int .i64 RA.2,.slice ao2 RB.1.length cap2,.int .i64 RB.2] _) (five_cells _ _ _ _ _ rfl rfl) (by omega) (by omega) (Nat.le_trans hbase (Nat.le_trans C6.out.size (Nat.le_trans hC2.size (below_alloc W2 _).size))) ?_
      intro v' W3 hown hg hsn
      obtain ⟨ao',cap',rfl⟩:=row_shape hown
      have HO3:Hid (W3.ownsRow base 148 5 (.slice ao' (Ls.length+1) cap') (Ls.length+1) _):=hown
      have hbl:=kept_grown H6.out.blk (Kp.below (hC2.trans ((below_alloc W2 _).mono hC2.size))) (row_kp HV.out (Kp.below (hC2.trans ((below_alloc W2 _).mono hC2.size)))) hg (by decide)
      have i5:=(pcells hbl).2.2.2.2.2.1
      have i5f:=free_of_block hbl))
  all_goals go_wp2_with fail
  all_goals go_end0
  all_goals
   have hfin:=rule_end rfl H6.out C6.out HV.out HV1.out HV3.out HM1.out hC1 HM2.out hB2 hg HO3.out hbl
   refine ⟨rfl,_,hfin.1,?_,hfin.2.2⟩
   rw [HRO.out]
   exact hfin.2.1
open Go.Maps
def subl {α:Type}:List α->List (List α)
 | []=>[[]]
 | a :: l=>subl l++(subl l).map (a :: ·)
theorem subl_len {α:Type}:∀ l:List α,(subl l).length=2 ^ l.length:=by
 intro l
 induction l with
 | nil=>rfl
 | cons a l ih=>rw [subl,List.length_append,List.length_map,ih,List.length_cons,Nat.pow_succ];omega
theorem filter_subl {α:Type} (p:α->Bool):∀ l:List α,l.filter p ∈ subl l:=by
 intro l
 induction l with
 | nil=>simp [subl]
 | cons a l ih =>
  rw [subl,List.mem_append]
  by_cases h:p a=true
  ·right;rw [List.filter_cons_of_pos h];exact List.mem_map.2 ⟨_,ih,rfl⟩
  ·left;rw [List.filter_cons_of_neg h];exact ih
def chars (fw:Bool) (S:List St):List (Nat × Nat × Nat):=(allAdds fw S 0).filter fun a=>a.2.1 != 0
theorem testBit_ne {t k:Nat} (h:t.testBit k=true):t ≠ 0:=by intro e;subst e;simp at h
theorem stepS_chars (fw:Bool) (S:List St) (F:Nat->Prop) (hF:∀ x,F x->x<S.length) (k:Nat):∃ sub ∈ subl (chars fw S),∀ x,stepS (graphOf fw S) F k x↔∃ e ∈ sub,reach (graphOf fw S) e.2.2 x:=by
 classical
 refine ⟨(chars fw S).filter fun a=>decide (F a.1/\a.2.1.testBit k=true),filter_subl _ _,fun x=>?_⟩
 have hm:∀ a e,a<S.length->(e ∈ grow (graphOf fw S) a↔(a,e) ∈ allAdds fw S 0):=fun a e ha=>grF_mem _ _ ha e _ _ rfl
 constructor
 ·rintro ⟨a,t,y,h1,h2,h3,h4⟩
  refine ⟨(a,t,y),?_,h4⟩
  rw [List.mem_filter]
  refine ⟨?_,by simp [h1,h3]⟩
  unfold chars
  rw [List.mem_filter]
  exact ⟨(hm a (t,y) (hF a h1)).1 h2,by simpa using testBit_ne h3⟩
 ·rintro ⟨⟨a,t,y⟩,h1,h2⟩
  rw [List.mem_filter] at h1
  unfold chars at h1
  rw [List.mem_filter] at h1
  obtain ⟨⟨h3,_⟩,h4⟩:=h1
  simp at h4
  exact ⟨a,t,y,h4.1,(hm a (t,y) (hF a h4.1)).2 h3,h4.2,h2⟩
def nxA (g:List (List (Nat × Nat))) (first:Nat) (S:Nat->Prop) (k:Nat) (x:Nat):Prop:=stepS g S k x\/reach g first x
def allA (fw:Bool) (S:List St) (first:Nat):List (Nat->Prop):=reach (graphOf fw S) first :: (subl (chars fw S)).map fun sub x=>(∃ e ∈ sub,reach (graphOf fw S) e.2.2 x)\/reach (graphOf fw S) first x
theorem allA_len (fw:Bool) (S:List St) (first:Nat) (h:(chars fw S).length<=4):(allA fw S first).length<=20:=by
 unfold allA
 rw [List.length_cons,List.length_map,subl_len]
 have:2 ^ (chars fw S).length<=2 ^ 4:=Nat.pow_le_pow_right (by omega) h
 omega
theorem reach_lt {g:List (List (Nat × Nat))} (hg:GOk g) {a x:Nat} (ha:a<g.length) (h:reach g a x):x<g.length:=by
 have hc:closedS g (fun x=>x<g.length):=fun x hx y hy=>by
  unfold geps at hy
  rw [grow_at hx] at hy
  exact (hg.to_ _ (List.getElem_mem hx) _ hy).1
 exact closed_reach hc ha h
theorem allA_lt (fw:Bool) (S:List St) (hS:SOk S) (first:Nat) (hf:first<S.length):∀ F ∈ allA fw S first,∀ x,F x->x<S.length:=by
 have hg:=graph_ok fw S hS
 have hl:=graph_len fw S
 have rl:∀ a x,a<S.length->reach (graphOf fw S) a x->x<S.length:=fun a x ha h=>by have:=reach_lt hg (by rw [hl];exact ha) h;rw [hl] at this;exact this
 have sl:∀ sub ∈ subl (chars fw S),∀ e ∈ sub,e ∈ chars fw S:=by
  generalize chars fw S=l
  induction l with
  | nil=>intro sub h e he;simp [subl] at h;subst h;simp at he
  | cons a l ih =>
   intro sub h e he
   rw [subl,List.mem_append] at h
   rcases h with h | h
   ·exact List.mem_cons_of_mem _ (ih sub h e he)
   ·obtain ⟨sub',h1,rfl⟩:=List.mem_map.1 h
    rw [List.mem_cons] at he
    rcases he with rfl | he
    ·exact List.mem_cons_self
    ·exact List.mem_cons_of_mem _ (ih sub' h1 e he)
 intro F hF x hx
 unfold allA at hF
 rw [List.mem_cons] at hF
 rcases hF with rfl | hF
 ·exact rl first x hf hx
 ·obtain ⟨sub,h1,rfl⟩:=List.mem_map.1 hF
  rcases hx with ⟨e,h2,h3⟩ | h3
  ·refine rl _ x ?_ h3
   have h4:=sl sub h1 e h2
   unfold chars at h4
   rw [List.mem_filter,mem_allAdds] at h4
   obtain ⟨⟨j,s,h5,h6⟩,_⟩:=h4
   unfold stAdds at h6
   rw [List.mem_map] at h6
   obtain ⟨u,h7,h8⟩:=h6
   have hj:=(List.getElem?_eq_some_iff.1 h5).1
   cases fw
   ·simp at h8;rw [<- h8];simpa using hj
   ·simp at h8;rw [<- h8];exact hS.to_ s (List.mem_of_getElem? h5) u h7
  ·exact rl first x hf h3
theorem allA_next (fw:Bool) (S:List St) (hS:SOk S) (first:Nat) (hf:first<S.length):∀ F ∈ allA fw S first,∀ k,k<8->nxA (graphOf fw S) first F k ∈ allA fw S first:=by
 intro F hF k _
 obtain ⟨sub,h1,h2⟩:=stepS_chars fw S F (allA_lt fw S hS first hf F hF) k
 unfold allA
 rw [List.mem_cons]
 right
 rw [List.mem_map]
 refine ⟨sub,h1,set_ext fun x=>?_⟩
 unfold nxA
 rw [h2 x]
set_option maxRecDepth 100000 in
set_option maxHeartbeats 1000000 in
theorem anynext_ok (g:List (List (Nat × Nat))) (hg:GOk g) (v:Value) (first p1 p2 base:Nat) (wp w0:World) (All:List (Nat->Prop)) (hG:GIn wp v g) (hb:Below wp.heap.size wp w0) (hbase:wp.heap.size<=base) (hf:first<g.length) (h1:w0.heap[p1]?=some (.cells #[v] 229 (0,0)))
  (h2:w0.heap[p2]?=some (.cells #[.int .i64 first] 3 (0,0))) (hp1:p1<base) (hp2:p2<base):NextOk base w0 176 (.pointer (some ⟨p1,0,none⟩)) (.pointer (some ⟨p2,0,none⟩)) g.length (nxA g first) All:=by
 intro W b k S hW hS _ hk
 have HG:Hid (GIn W v g):=hG.kpa (KpA.below (hb.trans (hW.mono hbase)))
 have HS:Hid (SetAt W b g.length S):=hS
 have c1:W.cell? ⟨p1,0,none⟩=some v:=cell_of_block (box_on hp1 hW h1) 0 _ rfl
 have c2:W.cell? ⟨p2,0,none⟩=some (.int .i64 first):=cell_of_block (box_on hp2 hW h2) 0 _ rfl
 have l1:p1<W.heap.size:=heap_lt (box_on hp1 hW h1)
 have l2:p2<W.heap.size:=heap_lt (box_on hp2 hW h2)
 obtain ⟨ao,cap,rfl,_⟩:=HG.out.form
 clear hG hS hb h1 h2
 go_enter Tryz.func176,Tryz.ntmps176
 go_wp2_with fail
 refine (gstep_any g hg _ W b k S HG.out HS.out hk).mono ?_
 rintro r w1 ⟨b',rfl,hge,hS1,hb1⟩
 have H1:Hid (SetAt w1 b' g.length (stepS g S k)):=hS1
 have G1:Hid (GIn w1 (.slice ao g.length cap) g):=HG.out.below hb1
 have B1:Hid (Below W.heap.size W w1):=hb1
 have d1:=(hb1.cell (p:=⟨p1,0,none⟩) l1).trans c1
 have d2:=(hb1.cell (p:=⟨p2,0,none⟩) l2).trans c2
 clear hS1 hb1 c1 c2
 go_wp2_with fail
 refine (stand_any g hg _ w1 b' _ first G1.out H1.out hf (step_closed g S k)).mono ?_
 rintro r w2 ⟨rfl,hS2,hC2⟩
 have H2:Hid (SetAt w2 b' g.length (nxA g first S k)):=hS2
 have B2:Hid (Below W.heap.size W w2):=B1.out.trans (hC2.below B1.out.size (fun k hk e=>by omega))
 clear hS2 hC2
 go_wp2_with fail
 go_ret
 exact ⟨b',rfl,H2.out,B2.out⟩
def SidePost (nx:(Nat->Prop)->Nat->Nat->Prop) (goal:Nat) (Ss0:List (Nat->Prop)) (mkv:Value->Value) (w:World) (r:Ending) (w':World):Prop :=
 ∃ v tab Ss,r=.returned (mkv v)/\TabIn w.heap.size w' v tab/\tab.length=Ss.length/\Ss0 <+: Ss/\Ss.length<=20/\TabOk nx goal Ss tab/\Below w.heap.size w w'
set_option maxRecDepth 100000 in
set_option maxHeartbeats 1000000 in
theorem anywhere_any (fw:Bool) (S:List St) (hS:SOk S) (hc:(chars fw S).length<=4) (v:Value) (first goal:Nat) (w:World) (hG:GIn w v (graphOf fw S)) (hf:first<S.length) (hgo:goal<=9000) :
  Calls Tryz.prog 135 #[v,.int .i64 first,.int .i64 goal] w (SidePost (nxA (graphOf fw S) first) goal [reach (graphOf fw S) first] id w):=by
 have hg:=graph_ok fw S hS
 have hl:=graph_len fw S
 have hlen:=hS.len
 have HG:Hid (GIn w v (graphOf fw S)):=hG
 obtain ⟨ao,cap,hv,_⟩:=hG.form
 rw [hl] at hv
 subst hv
 have HL:Hid ((graphOf fw S).length=S.length):=hl
 clear hG hl
 have hen:∀ (args:Array Value) (w:World),(callFunc 176 args).run Tryz.prog w=.ok (.enter 176 args) w:=enters_of Tryz.func176 (by kernel_rfl) rfl
 go_enter Tryz.func135,Tryz.ntmps135
 go_wp2_with fail
 have B1:Below w.heap.size w ((w.alloc (.cells #[.slice ao S.length cap] 229)).alloc (.cells #[.int .i64 first] 3)):=(below_alloc w _).alloc (by simp) _
 refine (from_any (graphOf fw S) hg _ _ first (HG.out.below B1) (by rw [HL.out];exact hf)).mono ?_
 rintro r w2 ⟨b,rfl,hge,hS2,hb2⟩
 have hsz:((w.alloc (.cells #[.slice ao S.length cap] 229)).alloc (.cells #[.int .i64 first] 3)).heap.size=w.heap.size+2:=by simp
 have hs2:=hb2.size
 rw [hsz] at hs2
 have B2:Hid (Below w.heap.size w w2):=B1.trans (hb2.mono (by rw [hsz];omega))
 have P1:w2.heap[w.heap.size]?=some (.cells #[.slice ao S.length cap] 229 (0,0)):=by
  rw [hb2.block _ (by rw [hsz];omega),Below.heap_alloc _ _ _ (by simp)];exact heap_alloc_new w _
 have P2:w2.heap[w.heap.size+1]?=some (.cells #[.int .i64 first] 3 (0,0)):=by
  rw [hb2.block _ (by rw [hsz];omega)];exact (show ((w.alloc (.cells #[.slice ao S.length cap] 229)).heap.size)=w.heap.size+1 by simp) ▸ heap_alloc_new (w.alloc _) _
 have B3:Hid (Below w2.heap.size w2 (w2.alloc (.cells #[.map (some b)] 296))):=below_alloc w2 _
 have S3:Hid (SRow (w2.alloc (.cells #[.map (some b)] 296)) w2.heap.size (.slice (some ⟨w2.heap.size,0,none⟩) 1 1) (graphOf fw S).length [reach (graphOf fw S) first] [b]):=by
  refine ⟨rfl,⟨rfl,Or.inr ⟨w2.heap.size,1,_,rfl,Nat.le_refl _,heap_alloc_new w2 _,by simp,by unfold maxLen;omega,rfl,rfl⟩⟩,?_⟩
  intro i c T hc hT
  cases i with
  | zero=>simp at hc hT;subst hc;subst hT;exact hS2.below (below_alloc w2 _)
  | succ i=>simp at hc
 have NX:=anynext_ok (graphOf fw S) hg (.slice ao S.length cap) first w.heap.size (w.heap.size+1) w2.heap.size w (w2.alloc (.cells #[.map (some b)] 296)) (allA fw S first) HG.out (B2.out.alloc B2.out.size _) B2.out.size (by rw [HL.out];exact hf)
  (by rw [B3.out.block _ (by omega)];exact P1) (by rw [B3.out.block _ (by omega)];exact P2) (by omega) (by omega)
 have T3:=table_any w2.heap.size (w2.alloc (.cells #[.map (some b)] 296)) 176 w.heap.size (w.heap.size+1) (graphOf fw S).length goal (nxA (graphOf fw S) first) (allA fw S first) [reach (graphOf fw S) first] _ [b] hen NX (allA_next fw S hS first hf) (Nat.le_trans (allA_len fw S first hc) (by omega)) (by rw [HL.out];exact hlen) hgo S3.out
  ⟨by simp,fun T hT=>by simp at hT;subst hT;unfold allA;exact List.mem_cons_self,List.prefix_refl _⟩ (by simp)
 have HT3:Hid (Calls Tryz.prog 179 #[.func (.func 176) #[] #[.pointer (some ⟨w.heap.size,0,none⟩),.pointer (some ⟨w.heap.size+1,0,none⟩)],.int .i64 goal,.slice (some ⟨w2.heap.size,0,none⟩) 1 1] (w2.alloc (.cells #[.map (some b)] 296)) (TablePost w2.heap.size (nxA (graphOf fw S) first) goal (allA fw S first) [reach (graphOf fw S) first] (w2.alloc (.cells #[.map (some b)] 296)))):=T3
 clear T3 NX S3 P1 P2 hS2 hb2 B1 hsz
 go_wp2_with fail
 refine HT3.out.mono ?_
 rintro r w4 ⟨v4,tab,Ss,rfl,hT4,hl4,hS4,hO4,hB4⟩
 have R4:Hid (SidePost (nxA (graphOf fw S) first) goal [reach (graphOf fw S) first] id w (.returned v4) w4):=⟨v4,tab,Ss,rfl,row_base hT4 B2.out.size,hl4,hS4.pre,Nat.le_trans hS4.len (allA_len fw S first hc),hO4,(B2.out.alloc B2.out.size _).trans (hB4.mono B2.out.size)⟩
 obtain ⟨aoT,capT,rfl⟩:=row_shape hT4
 clear hT4 hl4 hS4 hO4 hB4
 go_wp2_with fail
 go_ret
 exact R4.out
theorem step_fn3 {P:Program} {w:World} {ops:Array Oper} {o:Oper} {a:Act} {K:Act->World->Prop} {Q:Exit->Act->World->Prop} {E:Prop} (hgd:o.guard=none) (f:Nat) (x y z:Operand) (ts:Array TypeId)
  (ho:o.op=.call { callee:=.value (.func f),args:=#[x,y,z],argTypes:=ts }) (he:Go.Proofs.Enters P f) (v0 v1 v2:Value) (hx:a.eval x=v0) (hy:a.eval y=v1) (hz:a.eval z=v2) (R:Ending->World->Prop) (hc:Calls P f #[v0,v1,v2] w R)
  (hK:∀ e w',R e w'->∃ v,e=.returned v/\K (a.put o.dst v) w') :
  if Region.wanted o (yielded ops a.tmps)=true then Oper.wp P o a w K Q else E:=by
 have hw:Region.wanted o (yielded ops a.tmps)=true:=by simp [Region.wanted,hgd]
 rw [if_pos hw]
 unfold Go.Proofs.Enters at he
 unfold Oper.wp execOp
 have hfe:a.eval (.func f)=.func (.func f) #[] #[]:=rfl
 simp [ho,resolve,invoke,hx,hy,hz,hfe,Deferred.ofValue,he,Oper.upon_enter]
 refine hc.mono ?_
 intro e w' hr
 obtain ⟨v,rfl,hk⟩:=hK e w' hr
 exact hk
def GPost (g:List (List (Nat × Nat))) (W:World) (r:Ending) (w':World):Prop:=∃ v,r=.returned v/\GIn w' v g/\Below W.heap.size W w'
set_option maxRecDepth 100000 in
set_option maxHeartbeats 2000000 in
theorem left_any (S:List St) (hS:SOk S) (hc:(chars true S).length<=4) (vS:Value) (tv:List Value) (first:Nat) (w:World) (hM:MRow w 0 vS S tv) (hf:first<S.length) :
  Calls Tryz.prog 81 #[.agg #[vS,.int .i64 first]] w (SidePost (nxA (graphOf true S) first) 0 [reach (graphOf true S) first] (fun v=>.agg #[v]) w):=by
 have HM:Hid (MRow w 0 vS S tv):=hM
 have hl0:=hS.len
 obtain ⟨ao,cap,rfl⟩:=row_shape hM.row
 clear hM
 obtain ⟨W0,hW0⟩:∃ W0,W0=(w.alloc (.cells #[.slice ao S.length cap,.int .i64 first] 146)).alloc (.cells #[.slice none 0 0] 152):=⟨_,rfl⟩
 have HW0:Hid (W0=(w.alloc (.cells #[.slice ao S.length cap,.int .i64 first] 146)).alloc (.cells #[.slice none 0 0] 152)):=hW0
 have b0:Below w.heap.size w W0:=by rw [hW0];exact (below_alloc w _).alloc (by simp) _
 have hz:W0.heap.size=w.heap.size+2:=by rw [hW0];simp
 have p0:W0.heap[w.heap.size]?=some (.cells #[.slice ao S.length cap,.int .i64 first] 146 (0,0)):=by rw [hW0,Below.heap_alloc _ _ _ (by simp)];exact heap_alloc_new w _
 have p1:W0.heap[w.heap.size+1]?=some (.cells #[.slice none 0 0] 152 (0,0)):=by rw [hW0];exact (show ((w.alloc (.cells #[.slice ao S.length cap,.int .i64 first] 146)).heap.size)=w.heap.size+1 by simp) ▸ heap_alloc_new (w.alloc _) _
 have P1:Hid (W0.heap[w.heap.size+1]?=some (.cells #[.slice none 0 0] 152 (0,0))):=p1
 have B0:Hid (Below w.heap.size w W0):=b0
 have HF:Hid (Calls Tryz.prog 136 #[.agg #[.slice ao S.length cap,.int .i64 first]] W0.drew (GPost (graphOf true S) W0.drew)):=forth_any S _ tv first W0.drew (HM.out.later b0.drew) hS
 have m0:W0.cell? ⟨w.heap.size,0,none⟩=some (.slice ao S.length cap):=cell_of_block p0 0 _ rfl
 have m1:W0.cell? ⟨w.heap.size,1,none⟩=some (.int .i64 (first:Nat)):=cell_of_block p0 1 _ rfl
 have r1:W0.cell? ⟨w.heap.size+1,0,none⟩=some (.slice none 0 0):=cell_of_block p1 0 _ rfl
 clear hW0 b0 p0 p1
 go_enter Tryz.func81,Tryz.ntmps81
 go_wp2_with fail
 rw [<- HW0.out]
 go_region_law (first
  | (refine step_fn1 rfl 136 (.tmp 3) _ rfl (enters_of Tryz.func136 (by kernel_rfl) rfl) (.agg #[.slice ao S.length cap,.int .i64 first]) (by simp [Act.eval]) _ HF.out ?_
     rintro e W1 ⟨v1,rfl,hG1,hB1⟩
     refine ⟨v1,rfl,?_⟩
     have G1:Hid (GIn W1 v1 (graphOf true S)):=hG1
     have B1:Hid (Below W0.heap.size W0 W1):=below_drew hB1
     have n1:=(B1.out.cell (p:=⟨w.heap.size,1,none⟩) (by rw [hz];show w.heap.size<_;omega)).trans m1
     obtain ⟨ao1,cap1,rfl,_⟩:=hG1.form
     clear hG1 hB1)
  | (refine step_fn3 rfl 135 (.tmp 4) (.tmp 6) (.const (.int .i64 0)) _ rfl (enters_of Tryz.func135 (by kernel_rfl) rfl) _ (.int .i64 (first:Nat)) (.int .i64 0) (by simp [Act.eval]) (by simp [Act.eval]) (by simp [Act.eval]) _ (anywhere_any true S hS hc _ first 0 W1 G1.out hf (by omega)) ?_
     rintro e W2 ⟨v2,tab,Ss,rfl,hT2,hl2,hp2,hn2,hO2,hB2⟩
     refine ⟨v2,rfl,?_⟩
     have B2:Hid (Below W0.heap.size W0 W2):=B1.out.trans (hB2.mono B1.out.size)
     have BB2:Hid (Below w.heap.size w W2):=B0.out.trans (B2.out.mono (by omega))
     have T2:Hid (TabIn w.heap.size W2 v2 tab):=row_base hT2 (Nat.le_trans (by omega) B1.out.size)
     have HR2:Hid (tab.length=Ss.length/\[reach (graphOf true S) first] <+: Ss/\Ss.length<=20/\TabOk (nxA (graphOf true S) first) 0 Ss tab):=⟨hl2,hp2,hn2,hO2⟩
     have QB:Hid (W2.heap[w.heap.size+1]?=some (.cells #[.slice none 0 0] 152 (0,0))):=by show _=_;rw [B2.out.block _ (by omega)];exact P1.out
     have o2:=cell_of_block QB.out 0 _ rfl
     have f2:=free_of_block QB.out
     obtain ⟨aoT,capT,hv2⟩:=row_shape hT2
     subst hv2
     clear hT2 hl2 hp2 hn2 hO2 hB2))
 all_goals go_wp2_with fail
 all_goals refine bodyPost_ret (results_cell_row rfl _ _ (w.heap.size+1) 152 #[.slice aoT tab.length capT] (0,0) _ rfl ((block_setCell QB.out 0 _).trans rfl) Tryz.underlying152 rfl (by kernel_rfl)) rfl ?_
 all_goals exact ⟨_,tab,Ss,rfl,row_kp T2.out ((Kp.refl _ _).setCell QB.out (by decide) _),HR2.out.1,HR2.out.2.1,HR2.out.2.2.1,HR2.out.2.2.2,BB2.out.setCell (by show w.heap.size<=w.heap.size+1;omega) _⟩
set_option maxRecDepth 100000 in
set_option maxHeartbeats 2000000 in
theorem right_any (S:List St) (hS:SOk S) (hc:(chars false S).length<=4) (vS:Value) (tv:List Value) (first:Nat) (w:World) (hM:MRow w 0 vS S tv) (hf:first<S.length) :
  Calls Tryz.prog 82 #[.agg #[vS,.int .i64 first]] w (SidePost (nxA (graphOf false S) 0) first [reach (graphOf false S) 0] (fun v=>.agg #[v]) w):=by
 have HM:Hid (MRow w 0 vS S tv):=hM
 have hl0:=hS.len
 obtain ⟨ao,cap,rfl⟩:=row_shape hM.row
 clear hM
 obtain ⟨W0,hW0⟩:∃ W0,W0=(w.alloc (.cells #[.slice ao S.length cap,.int .i64 first] 146)).alloc (.cells #[.slice none 0 0] 154):=⟨_,rfl⟩
 have HW0:Hid (W0=(w.alloc (.cells #[.slice ao S.length cap,.int .i64 first] 146)).alloc (.cells #[.slice none 0 0] 154)):=hW0
 have b0:Below w.heap.size w W0:=by rw [hW0];exact (below_alloc w _).alloc (by simp) _
 have hz:W0.heap.size=w.heap.size+2:=by rw [hW0];simp
 have p0:W0.heap[w.heap.size]?=some (.cells #[.slice ao S.length cap,.int .i64 first] 146 (0,0)):=by rw [hW0,Below.heap_alloc _ _ _ (by simp)];exact heap_alloc_new w _
 have p1:W0.heap[w.heap.size+1]?=some (.cells #[.slice none 0 0] 154 (0,0)):=by rw [hW0];exact (show ((w.alloc (.cells #[.slice ao S.length cap,.int .i64 first] 146)).heap.size)=w.heap.size+1 by simp) ▸ heap_alloc_new (w.alloc _) _
 have P1:Hid (W0.heap[w.heap.size+1]?=some (.cells #[.slice none 0 0] 154 (0,0))):=p1
 have B0:Hid (Below w.heap.size w W0):=b0
 have HF:Hid (Calls Tryz.prog 137 #[.agg #[.slice ao S.length cap,.int .i64 first]] W0.drew (GPost (graphOf false S) W0.drew)):=back_any S _ tv first W0.drew (HM.out.later b0.drew) hS
 have m0:W0.cell? ⟨w.heap.size,0,none⟩=some (.slice ao S.length cap):=cell_of_block p0 0 _ rfl
 have m1:W0.cell? ⟨w.heap.size,1,none⟩=some (.int .i64 (first:Nat)):=cell_of_block p0 1 _ rfl
 have r1:W0.cell? ⟨w.heap.size+1,0,none⟩=some (.slice none 0 0):=cell_of_block p1 0 _ rfl
 clear hW0 b0 p0 p1
 go_enter Tryz.func82,Tryz.ntmps82
 go_wp2_with fail
 rw [<- HW0.out]
 go_region_law (first
  | (refine step_fn1 rfl 137 (.tmp 3) _ rfl (enters_of Tryz.func137 (by kernel_rfl) rfl) (.agg #[.slice ao S.length cap,.int .i64 first]) (by simp [Act.eval]) _ HF.out ?_
     rintro e W1 ⟨v1,rfl,hG1,hB1⟩
     refine ⟨v1,rfl,?_⟩
     have G1:Hid (GIn W1 v1 (graphOf false S)):=hG1
     have B1:Hid (Below W0.heap.size W0 W1):=below_drew hB1
     have n1:=(B1.out.cell (p:=⟨w.heap.size,1,none⟩) (by rw [hz];show w.heap.size<_;omega)).trans m1
     obtain ⟨ao1,cap1,rfl,_⟩:=hG1.form
     clear hG1 hB1)
  | (refine step_fn3 rfl 135 (.tmp 4) (.const (.int .i64 0)) (.tmp 6) _ rfl (enters_of Tryz.func135 (by kernel_rfl) rfl) _ (.int .i64 0) (.int .i64 (first:Nat)) (by simp [Act.eval]) (by simp [Act.eval]) (by simp [Act.eval]) _ (anywhere_any false S hS hc _ 0 first W1 G1.out (by omega) (by omega)) ?_
     rintro e W2 ⟨v2,tab,Ss,rfl,hT2,hl2,hp2,hn2,hO2,hB2⟩
     refine ⟨v2,rfl,?_⟩
     have B2:Hid (Below W0.heap.size W0 W2):=B1.out.trans (hB2.mono B1.out.size)
     have BB2:Hid (Below w.heap.size w W2):=B0.out.trans (B2.out.mono (by omega))
     have T2:Hid (TabIn w.heap.size W2 v2 tab):=row_base hT2 (Nat.le_trans (by omega) B1.out.size)
     have HR2:Hid (tab.length=Ss.length/\[reach (graphOf false S) 0] <+: Ss/\Ss.length<=20/\TabOk (nxA (graphOf false S) 0) first Ss tab):=⟨hl2,hp2,hn2,hO2⟩
     have QB:Hid (W2.heap[w.heap.size+1]?=some (.cells #[.slice none 0 0] 154 (0,0))):=by show _=_;rw [B2.out.block _ (by omega)];exact P1.out
     have o2:=cell_of_block QB.out 0 _ rfl
     have f2:=free_of_block QB.out
     obtain ⟨aoT,capT,hv2⟩:=row_shape hT2
     subst hv2
     clear hT2 hl2 hp2 hn2 hO2 hB2))
 all_goals go_wp2_with fail
 all_goals refine bodyPost_ret (results_cell_row rfl _ _ (w.heap.size+1) 154 #[.slice aoT tab.length capT] (0,0) _ rfl ((block_setCell QB.out 0 _).trans rfl) Tryz.underlying154 rfl (by kernel_rfl)) rfl ?_
 all_goals exact ⟨_,tab,Ss,rfl,row_kp T2.out ((Kp.refl _ _).setCell QB.out (by decide) _),HR2.out.1,HR2.out.2.1,HR2.out.2.2.1,HR2.out.2.2.2,BB2.out.setCell (by show w.heap.size<=w.heap.size+1;omega) _⟩
end Go.Proofs.YtodagkkjfipbgaaGreatDoor
