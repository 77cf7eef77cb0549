import Derived.Test.YtodagkkjfipbgaaGreatDoorW14toW16
namespace Go.Proofs.YtodagkkjfipbgaaGreatDoor
open Go.RowKit
theorem want_L (T:ByteArray) (s:RS) (l:List UInt8):(s.want T l).L=s.L:=(want_same T s l).2.2.1
theorem closeB_L (T:ByteArray) (s:RS):(s.closeB T).L=s.L:=by
 unfold RS.closeB;simp only;split
 ·rw [want_L]
 ·rfl
theorem atomLeaf_L (T:ByteArray) (s:RS):(s.atomLeaf T).1.L=s.L:=by
 unfold RS.atomLeaf RS.leafMany;simp only
 have h:=(leafErr_same (s.take T) (s.tk T) (s.pos T)).2.2.1
 split
 ·show ((((s.take T).leafErr (s.tk T) (s.pos T)).fail 6 (s.pos T))).L=_
  rw [(fail_same _ _ _).2.2.1,h];rfl
 ·exact h.trans rfl
theorem atom_L (T:ByteArray) (sub:RS→RS × Rx) (hs:∀ s,(sub s).1.L=s.L) (s:RS):(s.atom T sub).1.L=s.L:=by
 unfold RS.atom;split
 ·split
  ·show ((s.take T).fail 6 (s.pos T)).L=_
   rw [(fail_same _ _ _).2.2.1];rfl
  ·show ((sub _).1.closeB T).L=_
   rw [closeB_L,hs];rfl
 ·exact atomLeaf_L T s
theorem part_L (T:ByteArray) (sub:RS→RS × Rx) (hs:∀ s,(sub s).1.L=s.L) (s:RS):(s.part T sub).1.L=s.L:=by
 unfold RS.part;split
 ·exact atom_L T sub hs s
 ·unfold RS.suffix;simp only
  split
  ·exact atom_L T sub hs s
  ·split
   ·exact atom_L T sub hs s
   ·split
    ·exact atom_L T sub hs s
    ·exact atom_L T sub hs s
theorem rowL_L (T:ByteArray) (sub:RS→RS × Rx) (hs:∀ s,(sub s).1.L=s.L) (g:Nat):∀ s e,(RS.rowL T sub g s e).1.L=s.L:=by
 induction g with
 | zero=>intro s e;rfl
 | succ g ih =>
  intro s e;rw [RS.rowL];split
  ·rfl
  ·split
   ·rw [ih,part_L T sub hs];rfl
   ·rfl
theorem row_L (T:ByteArray) (sub:RS→RS × Rx) (hs:∀ s,(sub s).1.L=s.L) (s:RS):(s.row T sub).1.L=s.L:=by
 unfold RS.row;rw [rowL_L T sub hs,part_L T sub hs]
theorem exprL_L (T:ByteArray) (sub:RS→RS × Rx) (hs:∀ s,(sub s).1.L=s.L) (g:Nat):∀ s e,(RS.exprL T sub g s e).1.L=s.L:=by
 induction g with
 | zero=>intro s e;rfl
 | succ g ih =>
  intro s e;rw [RS.exprL];split
  ·rfl
  ·split
   ·rw [ih,row_L T sub hs];rfl
   ·rfl
theorem exprS_L (T:ByteArray) (sub:RS→RS × Rx) (hs:∀ s,(sub s).1.L=s.L) (s:RS):(s.exprS T sub).1.L=s.L:=by
 unfold RS.exprS;rw [exprL_L T sub hs,row_L T sub hs]
theorem expr_L (T:ByteArray) (n:Nat):∀ s,(RS.expr T n s).1.L=s.L:=by
 induction n with
 | zero=>intro s;exact exprS_L T _ (fun _=>rfl) s
 | succ n ih=>intro s;exact exprS_L T _ ih s
theorem endB_L (T:ByteArray) (s:RS) (l:List UInt8):(s.endB T l).L=s.L:=by
 unfold RS.endB;split
 ·exact want_L T s l
 ·rfl
theorem side_L (T:ByteArray) (s:RS) (l:List UInt8):(s.side T l).1.L=s.L:=by
 unfold RS.side;simp only;split
 ·rw [endB_L];rfl
 ·rw [endB_L,expr_L];rfl
theorem endB_at (T:ByteArray) (s:RS) (l:List UInt8) (hat:s.at_≤T.size):s.at_≤(s.endB T l).at_∧(s.endB T l).nest=s.nest∧(s.endB T l).names=s.names:=by
 unfold RS.endB;split
 ·have w:=want_same T s l
  have t:=take_at T s hat
  exact ⟨by rw [w.2.2.2.1];exact t.2.1,w.2.2.2.2.2,w.1⟩
 ·exact ⟨Nat.le_refl _,rfl,rfl⟩
set_option maxRecDepth 100000 in
set_option maxHeartbeats 4000000 in
theorem side_rs (hI:ItoaOk) (T:ByteArray) (base b:Nat) (s:RS) (x:ByteArray) (w:World) (h:RSt w base b T s) (herr:s.err=0) (hnst:s.nest=0) :
  Calls Tryz.prog 97 #[.pointer (some ⟨b,0,none⟩),.string x] w fun e w'=>∃ v d,e=.returned v∧RSt w' base b T (s.side T x.toList).1∧IsRe d w' v (s.side T x.toList).2∧RChg base w w'∧(s.side T x.toList).1.nest=0∧s.at_≤(s.side T x.toList).1.at_:=by
 have HP:Hid (Parses T 148 (RS.expr T 4) 2430 0):=expr_all hI T 4 (by omega)
 have HE:Hid (s.err=0):=herr
 have HNS:Hid (s.nest=0):=hnst
 clear hI herr hnst
 obtain ⟨vN,vS,vL,hblk,hrow,c0,c1,c2,c3,c4,c5,c6,c7,c8,hf⟩:=h.cells
 have hok0:({ s with atoms:=0 }:RS).Ok T:=by
  obtain ⟨p1,p2,p3,p4,p5,p6,p7,p8,p9⟩:=h.2.2.2.1
  exact ⟨p1,p2,p3,p4,by show (0:Int)≤0;omega,by show (0:Int)≤5;omega,p7,p8,fun e=>⟨(p9 e).1,by show (0:Int)≤4;omega,(p9 e).2.2⟩⟩
 obtain ⟨h1,r1⟩:=h.setAtoms 0 hok0
 obtain ⟨s1,hs1⟩:∃ s1:RS,s1={ s with atoms:=0 }:=⟨_,rfl⟩
 rw [← hs1] at h1
 have HS1:Hid (s1={ s with atoms:=0 }):=hs1
 have A1:Hid (s1.at_=s.at_∧s1.err=s.err∧s1.nest=s.nest):=by rw [hs1];exact ⟨rfl,rfl,rfl⟩
 clear hs1 hok0
 go_enter Tryz.func97,Tryz.ntmps97
 go_wp2_with fail
 refine (empty_any _).mono ?_
 rintro e2 w2 ⟨v2,rfl,hv2,hb2⟩
 obtain ⟨h2,r2⟩:=h1.below hb2
 have HV2:Hid (IsRe 1 w2 v2 emptyX):=hv2
 clear hv2 hblk hrow c0 c1 c2 c3 c4 c5 c6 c7 c8 hf
 go_wp2_with fail
 refine (peek_rs base b T s1 _ h2).mono ?_
 rintro e3 w3 ⟨rfl,h3,r3⟩
 obtain ⟨t1,ht1⟩:∃ t1,t1=tok T s1.at_:=⟨_,rfl⟩
 rw [← ht1]
 have HT1:Hid ((s1.peek T).tk T=t1.toList):=by rw [ht1];exact tk_peek T s1
 clear ht1
 have hat1:s1.at_≤T.size:=h1.2.2.2.1.1
 have pa:=peek_at T s1 hat1
 obtain ⟨B,hB⟩:∃ B,B=(t1.toList == x.toList):=⟨_,rfl⟩
 have HB:Hid (B=(t1.toList == x.toList)):=hB
 clear hB
 go_upto_if 19 with fail
 rw [← HB.out]
 go_cut [5,6,7] (fun ev _ _ wx=>∃ (s4:RS) (x4:Rx) (d:Nat),RSt wx base b T s4∧RChg base w wx∧Hid (IsRe d wx ev x4)∧Hid (s.side T x.toList=(s4.endB T x.toList,x4))∧Hid (s4.nest=0∧s.at_≤s4.at_))
 case first =>
  cases B
  rotate_left
  ·have l1:t1.toList=x.toList:=by have:=HB.out.symm;rw [beq_iff_eq] at this;exact this
   have hres:Hid (s.side T x.toList=((s1.peek T).endB T x.toList,emptyX)):=by show s.side T x.toList=_;unfold RS.side;simp only;rw [← HS1.out,if_pos (by rw [HT1.out];exact l1)]
   clear l1
   go_wp2_with fail
   go_meet
   exact ⟨s1.peek T,emptyX,1,h3,(r1.trans r2).trans r3,HV2.out.keep r3.2,hres,A1.out.2.2.trans HNS.out,by have:=A1.out.1;omega⟩
  ·have l1:¬ t1.toList=x.toList:=by have:=HB.out.symm;rw [beq_eq_false_iff_ne] at this;exact this
   have hres:Hid (s.side T x.toList=((RS.expr T 4 (s1.peek T)).1.endB T x.toList,(RS.expr T 4 (s1.peek T)).2)):=by show s.side T x.toList=_;unfold RS.side;simp only;rw [← HS1.out,if_neg (by rw [HT1.out];exact l1)]
   clear l1
   go_wp2_with fail
   refine (HP.out base b (s1.peek T) _ h3 (A1.out.2.1.trans HE.out) (A1.out.2.2.trans HNS.out)).mono ?_
   rintro e4 w4 ⟨v4,d4,rfl,h4,hv4,r4,q4⟩
   go_wp2_with fail
   go_meet
   exact ⟨_,_,d4,h4,((r1.trans r2).trans r3).trans r4,hv4,hres,q4.2.1.trans (A1.out.2.2.trans HNS.out),by have:=A1.out.1;have:=q4.2.2.1;omega⟩
 case rest =>
  obtain ⟨s4,x4,d,h4,r4,HV4,HR4,HN4⟩:=hcut
  obtain ⟨w4,hw4⟩:∃ w4,w4=wc:=⟨wc,rfl⟩
  subst hw4
  obtain ⟨vN,vS,vL,hblk,hrow,c0,c1,c2,c3,c4,c5,c6,c7,c8,hf⟩:=h4.cells
  have ha4:s4.at_≤T.size:=h4.2.2.2.1.1
  have hen:=endB_at T s4 x.toList ha4
  have HEN:Hid (s4.at_≤(s4.endB T x.toList).at_∧(s4.endB T x.toList).nest=s4.nest∧(s4.endB T x.toList).names=s4.names):=hen
  clear hen
  by_cases e0:s4.err=0
  ·have k0:(s4.err == 0)=true:=by rw [beq_iff_eq];exact e0
   have hb:Hid (s4.endB T x.toList=s4.want T x.toList):=by show _=_;unfold RS.endB;rw [if_pos e0]
   clear e0
   go_wp2_with fail
   refine (want_rs base b T s4 x _ h4).mono ?_
   rintro e5 w5 ⟨rfl,h5,r5⟩
   go_wp2_with fail
   go_ret
   refine ⟨_,d,rfl,by rw [HR4.out,hb.out];exact h5,by rw [HR4.out];exact HV4.out.keep r5.2,r4.trans r5,by rw [HR4.out];exact HEN.out.2.1.trans HN4.out.1,by rw [HR4.out];exact Nat.le_trans HN4.out.2 HEN.out.1⟩
  ·have k0:(s4.err == 0)=false:=by rw [beq_eq_false_iff_ne];exact e0
   have hb:Hid (s4.endB T x.toList=s4):=by show _=_;unfold RS.endB;rw [if_neg e0]
   clear e0
   go_wp2_with fail
   go_ret
   refine ⟨_,d,rfl,by rw [HR4.out,hb.out];exact h4,by rw [HR4.out];exact HV4.out,r4,by rw [HR4.out];exact HEN.out.2.1.trans HN4.out.1,by rw [HR4.out];exact Nat.le_trans HN4.out.2 HEN.out.1⟩
theorem ruleCells_snoc (vs:List (Bool × Value × Value)) (v:Bool × Value × Value):ruleCells (vs++[v])=ruleCells vs++[.bool v.1,v.2.1,v.2.2]:=by simp [ruleCells]
theorem AreRules.snoc {w:World} {vs:List (Bool × Value × Value)} {L:List (Bool × Rx × Rx)} (h:AreRules w vs L) (c:Bool) (vl vr:Value) (xl xr:Rx) {d e:Nat} (hl:IsRe d w vl xl) (hr:IsRe e w vr xr):AreRules w (vs++[(c,vl,vr)]) (L++[(c,xl,xr)]):=by
 refine ⟨by simp [h.1],fun i v x hv hx=>?_⟩
 by_cases hi:i<L.length
 ·rw [List.getElem?_append_left (by have:=h.1;omega)] at hv
  rw [List.getElem?_append_left hi] at hx
  exact h.2 i v x hv hx
 ·have hi':i=L.length:=by
   have:=(List.getElem?_eq_some_iff.1 hx).1
   simp at this;omega
  subst hi'
  rw [List.getElem?_append_right (by have:=h.1;omega)] at hv
  rw [List.getElem?_append_right (by omega)] at hx
  simp [h.1] at hv hx
  subst hv;subst hx
  exact ⟨rfl,⟨d,hl⟩,e,hr⟩
theorem RSt.pushRule {w w1 w2 w3:World} {base b:Nat} {T:ByteArray} {s:RS} {vN vS vL v':Value} {c:Bool} {vl vr:Value} {xl xr:Rx} {d e:Nat} {vs:List (Bool × Value × Value)} (h:RSt w base b T s) (hblk:Blk w b T s vN vS vL)
  (hN:w.ownsRow base 9 1 vN s.names.length (s.names.map .string)) (hS:w.ownsRow base 197 3 vS s.spans.length (spanCells s.spans)) (hL:w.ownsRow base 181 3 vL s.L.length (ruleCells vs)) (har:AreRules w vs s.L)
  (hp:Pushed 181 6 base b vL v' w w1 w2 w3) (hnew:w2.ownsRow base 181 3 v' (s.L.length+1) (ruleCells vs++[.bool c,vl,vr]))
  (hl:IsRe d w vl xl) (hr:IsRe e w vr xr) (hn:s.L.length≤3):RSt w3 base b T { s with L:=s.L++[(c,xl,xr)] }∧Below base w w3:=by
 obtain ⟨g,hbb,hT,hok,ht,_⟩:=h
 have k1:∀ t',Kt t' w w1:=fun t'=>Kt.below hp.first
 have own1:w1.ownsRow base 181 3 vL s.L.length (ruleCells vs):=ownsRow_chg hL (k1 _)
 have hbs:b<w.heap.size:=(Array.getElem?_eq_some_iff.1 hblk).1
 have hs1:=hp.first.size
 have b1:Below base w w2:=(hp.first.mono (by omega)).grown hp.grown (by omega) (fun k hk=>(own1.lt k hk).1)
 have b2:Below base w (w2.setCell ⟨b,6,none⟩ v'):=b1.setCell hbb v'
 have hb3:Below base w w3:=⟨hp.last.2.1.trans b1.os,hp.last.2.2.1.trans b1.tape,hp.last.2.2.2.trans b1.output,by rw [hp.last.1];exact b2.size,fun k hk=>by rw [hp.last.1];exact b2.block k hk⟩
 have hkr:KeepRe w w3:=keepRe_kt (hp.kt hL hblk (by decide) (by decide) (by decide)) (hp.kt hL hblk (by decide) (by decide) (by decide))
 refine ⟨⟨g,hbb,hT,?_,ht.on hb3 g,vN,vS,v',?_,?_,?_,vs++[(c,vl,vr)],?_,?_⟩,hb3⟩
 ·obtain ⟨p1,p2,p3,p4,p5⟩:=hok
  exact ⟨p1,p2,p3,by show (s.L++[(c,xl,xr)]).length≤4;rw [List.length_append];simp;omega,p5⟩
 ·exact (hp.blk hL hblk (by decide)).trans rfl
 ·exact ownsRow_chg hN (hp.kt hL hblk (by decide) (by decide) (by decide))
 ·exact ownsRow_chg hS (hp.kt hL hblk (by decide) (by decide) (by decide))
 ·have:=hp.row hL hblk (by decide) hnew
  show w3.ownsRow base _ 3 v' (s.L++[(c,xl,xr)]).length (ruleCells (vs++[(c,vl,vr)]))
  rw [ruleCells_snoc,List.length_append];exact this
 ·exact (har.keep hkr).snoc c vl vr xl xr (hl.keep hkr) (hr.keep hkr)
set_option maxRecDepth 100000 in
set_option maxHeartbeats 2000000 in
theorem itoa_small (n:Nat) (hn:n ∈ [0,1,2,3,4,7,8,15,16,31,32,63,64]) (w:World) :
  Calls Tryz.prog 39 #[.int .i64 n] w fun e w'=>e=.returned (.string (itoaB n))∧w'=w:=by
 simp only [List.mem_cons,List.not_mem_nil,or_false] at hn
 rcases hn with rfl | rfl | rfl | rfl | rfl | rfl | rfl | rfl | rfl | rfl | rfl | rfl | rfl
 all_goals
  go_enter Tryz.func39,Tryz.ntmps39
  go_wp2
  go_ret
  exact ⟨by rfl,rfl⟩
set_option maxRecDepth 100000 in
set_option maxHeartbeats 2000000 in
theorem len64_c (n:Nat) (hn:n ∈ [127,128,255]) (w:World) :
  Calls Tryz.prog 196 #[.int .u64 n] w fun e w'=>e=.returned (.int .i64 (if n=127 then 7 else 8))∧w'=w:=by
 simp only [List.mem_cons,List.not_mem_nil,or_false] at hn
 rcases hn with rfl | rfl | rfl
 all_goals
  go_enter Tryz.func196,Tryz.ntmps196
  go_wp2
  go_ret
  exact ⟨by simp [wrap64];decide +kernel,rfl⟩
set_option maxRecDepth 100000 in
set_option maxHeartbeats 2000000 in
theorem numDigits_c (n:Nat) (hn:n ∈ [127,128,255]) (w:World) (ht:w.cell? ⟨1,2,none⟩=some (.int .u64 100)) :
  Calls Tryz.prog 162 #[.int .u64 n] w fun e w'=>e=.returned (.int .i64 3)∧w'=w:=by
 go_enter Tryz.func162,Tryz.ntmps162
 go_wp2_with fail
 refine (len64_c n hn _).mono ?_
 rintro e1 w1 ⟨rfl,rfl⟩
 simp only [List.mem_cons,List.not_mem_nil,or_false] at hn
 rcases hn with rfl | rfl | rfl
 all_goals
  simp only [if_true,if_false,Nat.reduceEqDiff]
  go_wp2
  go_ret
  exact ⟨by first | rfl | (simp;done),rfl⟩
def zero24:Array Value:=#[.int .u8 0,.int .u8 0,.int .u8 0,.int .u8 0,.int .u8 0,.int .u8 0,.int .u8 0,.int .u8 0,.int .u8 0,.int .u8 0,.int .u8 0,.int .u8 0,.int .u8 0,.int .u8 0,.int .u8 0,.int .u8 0,.int .u8 0,.int .u8 0,.int .u8 0,.int .u8 0,.int .u8 0,.int .u8 0,.int .u8 0,.int .u8 0]
def dig3 (n:Nat):Array Value:=((zero24.setIfInBounds 1 (.int .u8 (48+n / 100:Nat))).setIfInBounds 2 (.int .u8 (48+n / 10 % 10:Nat))).setIfInBounds 3 (.int .u8 (48+n % 10:Nat))
set_option maxRecDepth 100000 in
set_option maxHeartbeats 2000000 in
theorem base10_c (n:Nat) (hn:n ∈ [127,128,255]) (B:Nat) (w:World) (h:w.heap[B]?=some (.cells zero24 272 (0,0))) :
  Calls Tryz.prog 163 #[.slice (some ⟨B,1,none⟩) 3 23,.int .u64 n] w fun e w'=>e=.returned (.tuple #[])∧w'.heap[B]?=some (.cells (dig3 n) 272 (0,0))∧Chg (fun k=>k=B) w w':=by
 have c1:w.cell? ⟨B,1,none⟩=some (.int .u8 0):=cell_of_block h 1 _ rfl
 have c2:w.cell? ⟨B,2,none⟩=some (.int .u8 0):=cell_of_block h 2 _ rfl
 have c3:w.cell? ⟨B,3,none⟩=some (.int .u8 0):=cell_of_block h 3 _ rfl
 have hf:=free_of_block h
 simp only [List.mem_cons,List.not_mem_nil,or_false] at hn
 rcases hn with rfl | rfl | rfl
 all_goals
  go_enter Tryz.func163,Tryz.ntmps163
  go_wp2
  refine wp_loop_rounds 1 ?_
  rw [rounds_succ]
  go_wp2
  go_region
  all_goals (try go_wp2)
  go_end0
  exact ⟨rfl,(block_setCell (block_setCell (block_setCell h 3 _) 2 _) 1 _).trans (by rfl),((((Chg.refl _ _).set1 _).set1 _).set1 _).drew⟩
set_option maxRecDepth 100000 in
set_option maxHeartbeats 2000000 in
theorem format_c (n:Nat) (hn:n ∈ [127,128,255]) (w:World) (ht:w.cell? ⟨1,2,none⟩=some (.int .u64 100)) (h2:1<w.heap.size) :
  Calls Tryz.prog 118 #[.int .i64 n,.int .i64 10] w fun e w'=>e=.returned (.string (itoaB n))∧Below w.heap.size w w':=by
 have hb:100≤n∧n≤255:=by simp at hn;omega
 obtain ⟨hb1,hb2⟩:=hb
 have HN:Hid (n ∈ [127,128,255]):=hn
 clear hn
 go_enter Tryz.func118,Tryz.ntmps118
 go_wp2_with fail
 refine (numDigits_c n HN.out _ ?_).mono ?_
 ·exact (Below.cell (((Below.refl w.heap.size w).alloc (Nat.le_refl _) _)) (p:=⟨1,2,none⟩) h2).trans ht
 rintro e1 w1 ⟨rfl,rfl⟩
 go_wp2_with fail
 refine (base10_c n HN.out w.heap.size _ (heap_alloc_new _ _)).mono ?_
 rintro e2 w2 ⟨rfl,hb2',hc2⟩
 have d1:w2.cell? ⟨w.heap.size,1,none⟩=some (.int .u8 (48+n / 100:Nat)):=cell_of_block hb2' 1 _ rfl
 have d2:w2.cell? ⟨w.heap.size,2,none⟩=some (.int .u8 (48+n / 10 % 10:Nat)):=cell_of_block hb2' 2 _ rfl
 have d3:w2.cell? ⟨w.heap.size,3,none⟩=some (.int .u8 (48+n % 10:Nat)):=cell_of_block hb2' 3 _ rfl
 have hconv:(convert 63 9 (.slice (some ⟨w.heap.size,1,none⟩) 3 23)).run Tryz.prog w2=.ok (.string (itoaB n)) w2:=by
  have hb:=run_convert_bytes_back (P:=Tryz.prog) w2 63 9 5 ⟨w.heap.size,1,none⟩ 23 [UInt8.ofNat (48+n / 100),UInt8.ofNat (48+n / 10 % 10),UInt8.ofNat (48+n % 10)] (by kernel_rfl) (by kernel_rfl) (by kernel_rfl) (fun j hj=>by
   have hadd:∀ j,(⟨w.heap.size,1,none⟩:Addr).add j=⟨w.heap.size,1+j,none⟩:=by intro j;unfold Addr.add;split <;> simp_all
   rw [hadd]
   match j,hj with
   | 0,_=>refine d1.trans ?_;simp;omega
   | 1,_=>refine d2.trans ?_;simp;omega
   | 2,_=>refine d3.trans ?_;simp;omega)
  have e:itoaB n=⟨[UInt8.ofNat (48+n / 100),UInt8.ofNat (48+n / 10 % 10),UInt8.ofNat (48+n % 10)].toArray⟩:=by
   unfold itoaB;rw [if_neg (by omega),if_neg (by omega)];rfl
  rw [e];exact hb
 go_wp2_with fail
 go_ret
 exact ⟨rfl,((Below.refl _ _).alloc (Nat.le_refl _) _).trans (hc2.below (by simp) (fun k hk e=>by omega))⟩
set_option maxHeartbeats 1000000 in
theorem itoa_in (n:Nat) (hn:n ∈ [127,128,255]) (w:World) (ht:w.cell? ⟨1,2,none⟩=some (.int .u64 100)) (h2:1<w.heap.size) :
  Calls Tryz.prog 70 #[.int .i64 n] w fun e w'=>e=.returned (.string (itoaB n))∧Below w.heap.size w w':=by
 have HT:Hid (w.cell? ⟨1,2,none⟩=some (.int .u64 100)):=ht
 have HN:Hid (n ∈ [127,128,255]):=hn
 have hb:n≤255:=by simp at hn;omega
 clear ht hn
 go_enter Tryz.func70,Tryz.ntmps70
 go_wp2_with fail
 refine (format_c n HN.out _ HT.out h2).mono ?_
 rintro e1 w1 ⟨rfl,hb1⟩
 go_wp2_with fail
 go_ret
 exact ⟨rfl,hb1⟩
set_option maxHeartbeats 1000000 in
theorem itoa_great (n:Nat) (hn:n ∈ [127,128,255]) (w:World) (ht:w.cell? ⟨1,2,none⟩=some (.int .u64 100)) (h2:1<w.heap.size) :
  Calls Tryz.prog 39 #[.int .i64 n] w fun e w'=>e=.returned (.string (itoaB n))∧Below w.heap.size w w':=by
 have HT:Hid (w.cell? ⟨1,2,none⟩=some (.int .u64 100)):=ht
 have HN:Hid (n ∈ [127,128,255]):=hn
 clear ht hn
 go_enter Tryz.func39,Tryz.ntmps39
 go_wp2_with fail
 refine (itoa_in n HN.out _ HT.out h2).mono ?_
 rintro e1 w1 ⟨rfl,hb1⟩
 go_wp2_with fail
 go_ret
 exact ⟨rfl,hb1⟩
theorem itoa_ok:ItoaOk:=by
 intro n w hn ht h2
 rcases hn with hn | hn
 ·refine (itoa_small n hn w).mono ?_
  rintro e w' ⟨rfl,rfl⟩
  exact ⟨rfl,Below.refl _ _⟩
 ·exact itoa_great n hn w ht h2
def LBelow (w:World) (b lim:Nat):Prop:=∃ cs:Array Value,w.heap[b]?=some (.cells cs 35 (0,0))∧∀ v k,cs[6]?=some v→v.ownBlock=some k→k<lim
theorem LBelow.kl {w w':World} {b lim:Nat} (h:LBelow w b lim) (hk:KL w w'):LBelow w' b lim:=by
 obtain ⟨cs,hh,h2⟩:=h
 obtain ⟨cs',hh',e⟩:=hk b cs hh
 exact ⟨cs',hh',fun v k hv hk=>h2 v k (by rw [← e];exact hv) hk⟩
theorem RSt.lbelow {w:World} {base b:Nat} {T:ByteArray} {s:RS} (h:RSt w base b T s):LBelow w b w.heap.size:=by
 obtain ⟨g,hbb,hT,hok,ht,vN,vS,vL,hblk,hN,hS,vs,hL,har⟩:=h
 refine ⟨_,hblk,fun v k hv hk=>?_⟩
 have hv':vL=v:=Option.some.inj hv
 subst hv'
 exact (hL.lt k hk).2
theorem LBelow.at {w:World} {b lim:Nat} {T:ByteArray} {s:RS} {vN vS vL:Value} (h:LBelow w b lim) (hb:Blk w b T s vN vS vL):∀ k,vL.ownBlock=some k→k<lim:=by
 obtain ⟨cs,hh,h2⟩:=h
 have hb':=hb
 unfold Blk at hb'
 rw [hb'] at hh
 simp at hh
 intro k hk
 exact h2 vL k (by rw [← hh];rfl) hk
theorem RSt.setOther {w:World} {base b:Nat} {T:ByteArray} {s:RS} {q lim:Nat} {cs:Array Value} (h:RSt w base b T s) (hl:LBelow w b lim) (hq:w.heap[q]?=some (.cells cs 181 (0,0))) (hlim:lim≤q) (hbq:base≤q) (o:Nat) (u:Value) :
  RSt (w.setCell ⟨q,o,none⟩ u) base b T s∧Below base w (w.setCell ⟨q,o,none⟩ u)∧KeepRe w (w.setCell ⟨q,o,none⟩ u)∧LBelow (w.setCell ⟨q,o,none⟩ u) b lim∧(w.setCell ⟨q,o,none⟩ u).heap[q]?=some (.cells (cs.setIfInBounds o u) 181 (0,0)):=by
 obtain ⟨g,hbb,hT,hok,ht,vN,vS,vL,hblk,hN,hS,vs,hL,har⟩:=h
 have hb:Below base w (w.setCell ⟨q,o,none⟩ u):=(Below.refl _ _).setCell hbq u
 have kt:∀ t,t ≠ 181→Kt t w (w.setCell ⟨q,o,none⟩ u):=fun t ht=>Kt.setCell hq ht u
 have hkr:KeepRe w (w.setCell ⟨q,o,none⟩ u):=keepRe_kt (kt _ (by decide)) (kt _ (by decide))
 have hne:vL.ownBlock ≠ some q:=fun e=>by have:=hl.at hblk q e;omega
 have hblk':Blk (w.setCell ⟨q,o,none⟩ u) b T s vN vS vL:=kt _ (by decide) _ _ _ hblk
 refine ⟨⟨g,hbb,hT,hok,ht.on hb g,vN,vS,vL,hblk',ownsRow_chg hN (kt _ (by decide)),ownsRow_chg hS (kt _ (by decide)),vs,ownsRow_setCell_other hL hne u,har.keep hkr⟩,hb,hkr,⟨_,hblk',fun v k hv hk=>?_⟩,block_setCell hq o u⟩
 have hv':vL=v:=Option.some.inj hv
 subst hv'
 exact hl.at hblk k hk
theorem IsRe.ptr {d:Nat} {w:World} {v:Value} {x:Rx} (h:IsRe d w v x):∃ p,v=.pointer (some ⟨p,0,none⟩):=by
 obtain ⟨p,_,_,_,hv,_⟩:=h.open
 exact ⟨p,hv⟩
theorem rule_last (T:ByteArray) (s s1:RS) (hs1:s1=s.take T) (h4:¬ s1.L.length=4):s.rule T={ (if (s1.side T [124]).1.err=0 then (s1.side T [124]).1.side T [59] else ((s1.side T [124]).1,emptyX)).1 with L:=(if (s1.side T [124]).1.err=0 then (s1.side T [124]).1.side T [59] else ((s1.side T [124]).1,emptyX)).1.L++[(decide (s.tk T=[99,117,116]),(s1.side T [124]).2,(if (s1.side T [124]).1.err=0 then (s1.side T [124]).1.side T [59] else ((s1.side T [124]).1,emptyX)).2)] }:=by
 unfold RS.rule;simp only;rw [← hs1,if_neg h4]
set_option maxRecDepth 100000 in
set_option maxHeartbeats 8000000 in
theorem rule_rs (T:ByteArray) (base b:Nat) (s:RS) (w:World) (h:RSt w base b T s) (herr:s.err=0) (hnst:s.nest=0) :
  Calls Tryz.prog 49 #[.pointer (some ⟨b,0,none⟩)] w fun e w'=>e=.returned (.tuple #[])∧RSt w' base b T (s.rule T)∧Below base w w'∧(s.rule T).nest=0∧(s.take T).at_≤(s.rule T).at_:=by
 have HE:Hid (s.err=0):=herr
 have HNS:Hid (s.nest=0):=hnst
 clear herr hnst
 obtain ⟨s1,hs1⟩:∃ s1,s1=s.take T:=⟨_,rfl⟩
 have HS1:Hid (s1=s.take T):=hs1
 have A1:Hid (s1.err=0∧s1.nest=0):=by rw [hs1];exact ⟨HE.out,HNS.out⟩
 clear hs1
 obtain ⟨t1,ht1⟩:∃ t1,t1=tok T s.at_:=⟨_,rfl⟩
 have HT1:Hid (t1=tok T s.at_):=ht1
 clear ht1
 go_enter Tryz.func49,Tryz.ntmps49
 go_wp2_with fail
 refine (take_rs base b T s _ h).mono ?_
 rintro e1 w1 ⟨rfl,h1,r1⟩
 rw [← HS1.out] at h1
 rw [← HT1.out]
 obtain ⟨vN,vS,vL,hblk,hrow,c0,c1,c2,c3,c4,c5,c6,c7,c8,hf⟩:=h1.cells
 obtain ⟨aoL,capL,rfl⟩:∃ ao cap,vL=.slice ao s1.L.length cap:=by obtain ⟨_,_,vs,hL,_⟩:=hrow;exact ownsRow_shape hL
 have hLl:s1.L.length≤4:=h1.2.2.2.1.2.2.2.1
 by_cases h4:s1.L.length=4
 ·have k4:((s1.L.length:Int) == 4)=true:=by rw [beq_iff_eq];omega
  have hfin:Hid (s.rule T=s1.fail 6 (s.pos T)):=by show s.rule T=_;unfold RS.rule;simp only;rw [← HS1.out,if_pos h4]
  clear h4
  go_wp2_with fail
  refine (fail_rs base b T s1 6 (s.pos T) _ h1 (by omega)).mono ?_
  rintro e2 w2 ⟨rfl,h2,r2⟩
  go_wp2_with fail
  refine bodyPost_ret (results_none rfl _ _ _) rfl ?_
  have f:=fail_same s1 6 (s.pos T)
  exact ⟨rfl,by rw [hfin.out];exact h2,(r1.trans r2).1,by rw [hfin.out,f.2.2.2.2.2];exact A1.out.2,by rw [hfin.out,f.2.2.2.1,HS1.out];exact Nat.le_refl _⟩
 ·have k4:((s1.L.length:Int) == 4)=false:=by rw [beq_eq_false_iff_ne];omega
  have H4:Hid (¬ s1.L.length=4):=h4
  clear h4
  have hlb1:=h1.lbelow
  have HLB1:Hid (LBelow w1 b w1.heap.size):=hlb1
  clear hlb1
  go_wp2_with fail
  refine (empty_any _).mono ?_
  rintro e2 w2 ⟨v2,rfl,hv2,hb2⟩
  obtain ⟨h2,r2⟩:=h1.below hb2
  obtain ⟨p2,rfl⟩:=hv2.ptr
  go_wp2_with fail
  refine (empty_any _).mono ?_
  rintro e3 w3 ⟨v3,rfl,hv3,hb3⟩
  obtain ⟨h3,r3⟩:=h2.below hb3
  obtain ⟨p3,rfl⟩:=hv3.ptr
  have HV3:Hid (IsRe 1 w3 (.pointer (some ⟨p3,0,none⟩)) emptyX):=hv3
  clear hv2 hv3 hblk hrow c0 c1 c2 c3 c4 c5 c6 c7 c8 hf
  obtain ⟨cB,hcB⟩:∃ cB,cB=(t1.toList == [99,117,116]):=⟨_,rfl⟩
  have HCB:Hid (cB=decide (s.tk T=[99,117,116])):=by
   show cB=_
   have e:s.tk T=t1.toList:=by rw [HT1.out];rfl
   rw [hcB,e,Bool.eq_iff_iff];simp
  have HCB0:Hid (cB=(t1.toList == [99,117,116])):=hcB
  clear hcB
  go_wp2_with fail
  rw [← HCB0.out]
  obtain ⟨q,hq⟩:∃ q,q=w3.heap.size:=⟨_,rfl⟩
  rw [← hq]
  have HQ:Hid (q=w3.heap.size):=hq
  have hbel4:Below w3.heap.size w3 (w3.alloc (.cells #[.bool cB,.pointer (some ⟨p2,0,none⟩),.pointer (some ⟨p3,0,none⟩)] 181)):=(Below.refl _ _).alloc (Nat.le_refl _) _
  obtain ⟨h4,r4⟩:=h3.below hbel4
  have hq4:(w3.alloc (.cells #[.bool cB,.pointer (some ⟨p2,0,none⟩),.pointer (some ⟨p3,0,none⟩)] 181)).heap[q]?=some (.cells #[.bool cB,.pointer (some ⟨p2,0,none⟩),.pointer (some ⟨p3,0,none⟩)] 181 (0,0)):=by rw [hq];exact heap_alloc_new _ _
  have hlb4:LBelow (w3.alloc (.cells #[.bool cB,.pointer (some ⟨p2,0,none⟩),.pointer (some ⟨p3,0,none⟩)] 181)) b w1.heap.size:=((HLB1.out.kl r2.4).kl r3.4).kl r4.4
  have hlim:w1.heap.size≤q:=by have q1:=hb2.size;have q2:=hb3.size;omega
  have hbq:base≤q:=by
   have q1:=h1.2.1
   obtain ⟨_,_,_,_,_,vN',vS',vL',hb',_⟩:=h1
   have:=(Array.getElem?_eq_some_iff.1 hb').1;omega
  have HV4:Hid (IsRe 1 (w3.alloc (.cells #[.bool cB,.pointer (some ⟨p2,0,none⟩),.pointer (some ⟨p3,0,none⟩)] 181)) (.pointer (some ⟨p3,0,none⟩)) emptyX):=HV3.out.keep r4.2
  have R4:Hid (Below base w (w3.alloc (.cells #[.bool cB,.pointer (some ⟨p2,0,none⟩),.pointer (some ⟨p3,0,none⟩)] 181))):=(((r1.trans r2).trans r3).trans r4).1
  generalize w3.alloc (.cells #[.bool cB,.pointer (some ⟨p2,0,none⟩),.pointer (some ⟨p3,0,none⟩)] 181)=w4 at *
  clear hbel4 r1 r2 r3 r4 h2 h3 hb2 hb3 hq HV3
  have HQ4:Hid (w4.heap[q]?=some (.cells #[.bool cB,.pointer (some ⟨p2,0,none⟩),.pointer (some ⟨p3,0,none⟩)] 181 (0,0))):=hq4
  have HLB4:Hid (LBelow w4 b w1.heap.size):=hlb4
  clear hq4 hlb4
  refine (side_rs itoa_ok T base b s1 ⟨#[124]⟩ _ h4 A1.out.1 A1.out.2).mono ?_
  rintro e5 w5 ⟨v5,d5,rfl,h5,hv5,r5,hn5,ha5⟩
  rw [show (⟨#[124]⟩:ByteArray).toList=[124] from by rw [ByteArray.toList_eq]] at h5 hv5 hn5 ha5
  obtain ⟨p5,rfl⟩:=hv5.ptr
  have hq5:=r5.3 _ _ _ HQ4.out
  have hlb5:=HLB4.out.kl r5.4
  have so5:=h5.setOther hlb5 hq5 hlim hbq 1 (.pointer (some ⟨p5,0,none⟩))
  obtain ⟨h6,b6,k6,lb6,q6⟩:=so5
  have HV6:Hid (IsRe d5 (w5.setCell ⟨q,1,none⟩ (.pointer (some ⟨p5,0,none⟩))) (.pointer (some ⟨p5,0,none⟩)) (s1.side T [124]).2):=hv5.keep k6
  have HV6e:Hid (IsRe 1 (w5.setCell ⟨q,1,none⟩ (.pointer (some ⟨p5,0,none⟩))) (.pointer (some ⟨p3,0,none⟩)) emptyX):=(HV4.out.keep r5.2).keep k6
  have R6:Hid (Below base w (w5.setCell ⟨q,1,none⟩ (.pointer (some ⟨p5,0,none⟩)))):=(R4.out.trans r5.1).trans b6
  have HQ6:Hid ((w5.setCell ⟨q,1,none⟩ (.pointer (some ⟨p5,0,none⟩))).heap[q]?=some (.cells #[.bool cB,.pointer (some ⟨p5,0,none⟩),.pointer (some ⟨p3,0,none⟩)] 181 (0,0))):=q6.trans rfl
  have HLB6:Hid (LBelow (w5.setCell ⟨q,1,none⟩ (.pointer (some ⟨p5,0,none⟩))) b w1.heap.size):=lb6
  have x5:w5.cell? ⟨q,1,none⟩=some (.pointer (some ⟨p2,0,none⟩)):=cell_of_block hq5 1 _ rfl
  have xf5:=free_of_block hq5
  obtain ⟨s5,hs5⟩:∃ s5,s5=(s1.side T [124]).1:=⟨_,rfl⟩
  obtain ⟨xl,hxl⟩:∃ xl,xl=(s1.side T [124]).2:=⟨_,rfl⟩
  rw [← hs5] at h6 h5 hn5 ha5
  rw [← hxl] at HV6
  have HSD:Hid (s1.side T [124]=(s5,xl)):=by show _=_;rw [hs5,hxl]
  have HL5:Hid (s5.L=s1.L):=by show s5.L=_;rw [hs5];exact side_L T s1 _
  clear hs5 hxl hv5 r5 hq5 hlb5 b6 k6 lb6 q6 hbq
  obtain ⟨vN,vS,vL,hblk,hrow,c0,c1,c2,c3,c4,c5,c6,c7,c8,hf⟩:=h6.cells
  go_upto_if 31 with fail
  go_cut [2,3,4] (fun _ _ xv wx=>xv=.pointer (some ⟨q,0,none⟩)∧∃ (s6:RS) (xr:Rx) (p6 dl dr:Nat),RSt wx base b T s6∧Hid (Below base w wx)∧Hid (wx.heap[q]?=some (.cells #[.bool cB,.pointer (some ⟨p5,0,none⟩),.pointer (some ⟨p6,0,none⟩)] 181 (0,0)))∧Hid (IsRe dl wx (.pointer (some ⟨p5,0,none⟩)) xl)∧Hid (IsRe dr wx (.pointer (some ⟨p6,0,none⟩)) xr)∧Hid ((if s5.err=0 then s5.side T [59] else (s5,emptyX))=(s6,xr))∧Hid (s6.nest=0∧s5.at_≤s6.at_∧s6.L=s5.L))
  case first =>
   by_cases e0:s5.err=0
   ·have k0:(s5.err == 0)=true:=by rw [beq_iff_eq];exact e0
    have E0:Hid (s5.err=0):=e0
    clear e0
    go_wp2_with fail
    refine (side_rs itoa_ok T base b s5 ⟨#[59]⟩ _ h6 E0.out hn5).mono ?_
    rintro e7 w7 ⟨v7,d7,rfl,h7,hv7,r7,hn7,ha7⟩
    rw [show (⟨#[59]⟩:ByteArray).toList=[59] from by rw [ByteArray.toList_eq]] at h7 hv7 hn7 ha7
    obtain ⟨p7,rfl⟩:=hv7.ptr
    have hq7:=r7.3 _ _ _ HQ6.out
    have hlb7:=HLB6.out.kl r7.4
    have hbq7:base≤q:=by
     have q1:=h1.2.1
     obtain ⟨_,_,_,_,_,vN',vS',vL',hb',_⟩:=h1
     have:=(Array.getElem?_eq_some_iff.1 hb').1;omega
    have so7:=h7.setOther hlb7 hq7 hlim hbq7 2 (.pointer (some ⟨p7,0,none⟩))
    obtain ⟨h8,b8,k8,lb8,q8⟩:=so7
    have x7:w7.cell? ⟨q,2,none⟩=some (.pointer (some ⟨p3,0,none⟩)):=cell_of_block hq7 2 _ rfl
    have xf7:=free_of_block hq7
    have HV8:Hid (IsRe d7 (w7.setCell ⟨q,2,none⟩ (.pointer (some ⟨p7,0,none⟩))) (.pointer (some ⟨p7,0,none⟩)) (s5.side T [59]).2):=hv7.keep k8
    have HV8l:Hid (IsRe d5 (w7.setCell ⟨q,2,none⟩ (.pointer (some ⟨p7,0,none⟩))) (.pointer (some ⟨p5,0,none⟩)) xl):=(HV6.out.keep r7.2).keep k8
    have R8:Hid (Below base w (w7.setCell ⟨q,2,none⟩ (.pointer (some ⟨p7,0,none⟩)))):=(R6.out.trans r7.1).trans b8
    have HQ8:Hid ((w7.setCell ⟨q,2,none⟩ (.pointer (some ⟨p7,0,none⟩))).heap[q]?=some (.cells #[.bool cB,.pointer (some ⟨p5,0,none⟩),.pointer (some ⟨p7,0,none⟩)] 181 (0,0))):=q8.trans rfl
    clear hv7 r7 hq7 hlb7 b8 k8 lb8 q8
    go_wp2_with fail
    go_meet
    exact ⟨rfl,_,_,p7,d5,d7,h8,R8,HQ8,HV8l,HV8,by show _=_;rw [if_pos E0.out],hn7,ha7,side_L T s5 _⟩
   ·have k0:(s5.err == 0)=false:=by rw [beq_eq_false_iff_ne];exact e0
    have E0:Hid (¬ s5.err=0):=e0
    clear e0
    go_wp2_with fail
    go_meet
    exact ⟨rfl,s5,emptyX,p3,d5,1,h6,R6,HQ6,HV6,HV6e,by show _=_;rw [if_neg E0.out],hn5,Nat.le_refl _,rfl⟩
  case rest =>
   obtain ⟨rfl,s6,xr,p6,dl,dr,h8,R8,HQ8,HVl,HVr,HIF,HN6⟩:=hcut
   obtain ⟨w8,hw8⟩:∃ w8,w8=wc:=⟨wc,rfl⟩
   subst hw8
   clear hblk hrow c0 c1 c2 c3 c4 c5 c6 c7 c8 hf h5 h6 h4 x5 xf5
   obtain ⟨vN,vS,vL,hblk,hrow,c0,c1,c2,c3,c4,c5,c6,c7,c8,hf⟩:=h8.cells
   obtain ⟨hRN,hRS,vs,hRL,hAR⟩:=hrow
   obtain ⟨ao8,cap8,rfl⟩:=ownsRow_shape hRL
   have hl6:s6.L.length≤3:=by rw [HN6.out.2.2,HL5.out];have:=H4.out;omega
   have hbb:base≤b:=h8.2.1
   have hbs:b<w8.heap.size:=(Array.getElem?_eq_some_iff.1 hblk).1
   have x0:w8.cell? ⟨q,0,none⟩=some (.bool cB):=cell_of_block HQ8.out 0 _ rfl
   have x1:w8.cell? ⟨q,1,none⟩=some (.pointer (some ⟨p5,0,none⟩)):=cell_of_block HQ8.out 1 _ rfl
   have x2:w8.cell? ⟨q,2,none⟩=some (.pointer (some ⟨p6,0,none⟩)):=cell_of_block HQ8.out 2 _ rfl
   have HRL:Hid (w8.ownsRow base 181 3 (.slice ao8 s6.L.length cap8) s6.L.length (ruleCells vs)):=hRL
   have HRN:Hid (w8.ownsRow base 9 1 vN s6.names.length (s6.names.map .string)∧w8.ownsRow base 197 3 vS s6.spans.length (spanCells s6.spans)∧AreRules w8 vs s6.L):=⟨hRN,hRS,hAR⟩
   clear hRN hRS hRL hAR
   go_wp2
   go_region_law (refine step_push rfl (.tmp 39) (.tmp 41) 32 rfl base 181 (.agg #[.bool false,.pointer none,.pointer none]) 3 24 Tryz.infoRule Tryz.undRule rfl (by decide) (.slice ao8 s6.L.length cap8) s6.L.length (ruleCells vs) rfl (by exact HRL.out.alloc _) w8.heap.size 1 [.bool cB,.pointer (some ⟨p5,0,none⟩),.pointer (some ⟨p6,0,none⟩)] rfl rfl (by exact heap_alloc_new _ _) (by intro u hu;simp at hu;rcases hu with rfl | rfl | rfl <;> rfl) (by omega) (by omega) (by simp;omega) ?_;intro v' w' hown hg;obtain ⟨ao',cap',hv'⟩:=ownsRow_shape hown;subst hv';have hb':=pushed_free hg hblk (by exact (((Below.refl _ _).alloc (Nat.le_refl _) _)).drew) (by exact HRL.out.alloc _) (by decide);obtain ⟨_,_,_,_,_,_,e6,_,_,ef⟩:=rcells hb')
   all_goals go_wp2
   all_goals go_end0
   all_goals
    have hpu:Pushed 181 6 base b (.slice ao8 s6.L.length cap8) (.slice ao' (s6.L.length+1) cap') w8 _ w' (w'.setCell ⟨b,6,none⟩ (.slice ao' (s6.L.length+1) cap')):=⟨((Below.refl _ _).alloc (Nat.le_refl _) _).drew,hg,rfl,rfl,rfl,rfl⟩
    have hfin:=h8.pushRule hblk HRN.out.1 HRN.out.2.1 HRL.out HRN.out.2.2 hpu hown HVl.out HVr.out hl6
    have heq:s.rule T={ s6 with L:=s6.L++[(cB,xl,xr)] }:=by
     rw [rule_last T s s1 HS1.out H4.out,HSD.out]
     simp only
     rw [HIF.out,← HCB.out]
    exact ⟨rfl,by rw [heq];exact hfin.1,R8.out.trans hfin.2,by rw [heq];exact HN6.out.1,by rw [heq,← HS1.out];exact Nat.le_trans ha5 HN6.out.2.1⟩
end Go.Proofs.YtodagkkjfipbgaaGreatDoor
