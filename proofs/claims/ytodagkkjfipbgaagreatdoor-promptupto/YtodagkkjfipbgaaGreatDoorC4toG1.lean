import Derived.Test.YtodagkkjfipbgaaGreatDoorD7toC3
import Derived.Test.YtodagkkjfipbgaaGreatDoorK9toJ10
namespace Go.Proofs.YtodagkkjfipbgaaGreatDoor
open Go.RowKit
def Stk (s s':PS):Prop:=s.f ≠ 0->s'.f=s.f/\s'.pl=s.pl
theorem Stk.refl (s:PS):Stk s s:=fun _=>⟨rfl,rfl⟩
theorem Stk.trans {a b c:PS} (h:Stk a b) (k:Stk b c):Stk a c:=fun e=>by
 have h1:=h e
 have h2:=k (by rw [h1.1];exact e)
 exact ⟨h2.1.trans h1.1,h2.2.trans h1.2⟩
theorem stk_failAt (T:ByteArray) (s:PS) (no at_:Int):Stk s (s.failAt T no at_):=fun e=>by
 unfold PS.failAt pf pp;simp [e]
theorem stk_fail (T:ByteArray) (s:PS) (no:Int):Stk s (s.fail T no):=stk_failAt T s no _
theorem stk_step (T:ByteArray) (s:PS):Stk s (s.step T):=fun _=>⟨rfl,rfl⟩
theorem stk_if (T:ByteArray) (s:PS) {c:Prop} [Decidable c] (no:Int):Stk s (if c then s.fail T no else s):=by
 split
 ·exact stk_fail T s no
 ·exact Stk.refl s
theorem stk_if' (T:ByteArray) (s:PS) {c:Prop} [Decidable c] (no:Int):Stk s (if c then s else s.fail T no):=by
 split
 ·exact Stk.refl s
 ·exact stk_fail T s no
theorem stk_need (T:ByteArray) (L:List ByteArray) (s:PS):Stk s (s.need T L):=by
 unfold PS.need;split
 ·exact stk_step T s
 ·exact stk_fail T s 2
theorem stk_newName (T:ByteArray) (names:List ByteArray) (s:PS):Stk s (s.newName T names):=by
 have h1:Stk s (s.nameA T):=stk_if' T s 2
 have h2:Stk (s.nameA T) ((s.nameA T).nameB T names (s.tk T)):=stk_if T _ 4
 exact (h1.trans h2).trans (stk_step T _)
theorem stk_hex (T:ByteArray) (s:PS):Stk s (s.hex T):=by
 unfold PS.hex;split
 ·exact stk_step T s
 ·exact stk_fail T s _
theorem stk_spanTo (T:ByteArray) (s:PS):Stk s (s.spanTo T):=by
 unfold PS.spanTo;split
 ·exact ((stk_hex T s).trans (stk_step T _)).trans (stk_hex T _)
 ·exact stk_hex T s
theorem stk_span (T:ByteArray) (l:List (Int × Int × Nat)) (s:PS):Stk s (s.span T l):=by
 unfold PS.span;split
 ·exact stk_spanTo T s
 ·split
  ·exact (stk_spanTo T s).trans (stk_failAt T _ _ _)
  ·exact stk_spanTo T s
theorem stk_spansL (T:ByteArray) (k:Nat):∀ (g:Nat) (s:PS) (l:List (Int × Int × Nat)),Stk s (PS.spansL T k g s l).1:=by
 intro g
 induction g with
 | zero=>intro s l;exact Stk.refl s
 | succ g ih =>
  intro s l
  rw [PS.spansL]
  split
  ·exact ((stk_step T s).trans (stk_span T l _)).trans (ih _ _)
  ·exact Stk.refl s
theorem stk_classA (T:ByteArray) (names:List ByteArray) (s:PS):Stk s (s.classA T names) :=
 (((show Stk s (s.classN T names.length) from stk_if T s 6).trans (stk_need T _ _)).trans (stk_newName T names _)).trans (stk_need T _ _)
theorem stk_class (T:ByteArray) (names:List ByteArray) (l:List (Int × Int × Nat)) (s:PS):Stk s (s.klass T names l) :=
 (((stk_classA T names s).trans (stk_span T l _)).trans (stk_spansL T names.length (T.size+1) _ _)).trans (stk_need T _ _)
theorem class_six (T:ByteArray) (names:List ByteArray) (l:List (Int × Int × Nat)) (s:PS) (h:(s.klass T names l).f=0):names.length ≠ 6:=by
 intro e
 have h1:(s.classN T names.length).f ≠ 0:=by
  unfold PS.classN;rw [if_pos e]
  unfold PS.fail PS.failAt pf
  simp only
  split
  ·decide
  ·assumption
 have h2:Stk (s.classN T names.length) (s.klass T names l) :=
  ((((stk_need T _ _).trans (stk_newName T names _)).trans (stk_need T _ _)).trans (stk_span T l _)).trans ((stk_spansL T names.length (T.size+1) _ _).trans (stk_need T _ _))
 have:=(h2 h1).1
 rw [h] at this
 exact h1 this.symm
theorem class_p (T:ByteArray) (names:List ByteArray) (l:List (Int × Int × Nat)) (s:PS) (h:Fz T s) (hp:s.p<=T.size):(s.klass T names l).p<=T.size/\s.p<=(s.klass T names l).p/\(s.p<T.size->s.p<(s.klass T names l).p):=by
 have hA:=classA_fz h hp names
 have h1:=span_p hA.2.1 l
 have key:∀ (g:Nat) (s:PS) (l:List (Int × Int × Nat)),s.p<=T.size->s.p<=(PS.spansL T names.length g s l).1.p/\(PS.spansL T names.length g s l).1.p<=T.size:=by
  intro g
  induction g with
  | zero=>intro s l h;exact ⟨Nat.le_refl _,h⟩
  | succ g ih =>
   intro s l h
   rw [PS.spansL]
   split
   ·have h2:=nextp_le T s.p h
    have h3:=span_p (s:=s.step T) h2.1 l
    have e:(s.step T).p=nextp T s.p:=rfl
    have h4:=ih ((s.step T).span T l) (l++[((s.step T).spanX T,(s.step T).spanY T,names.length)]) h3.2.1
    exact ⟨by omega,h4.2⟩
   ·exact ⟨Nat.le_refl _,h⟩
 have h2:=key (T.size+1) ((s.classA T names).span T l) (l++[((s.classA T names).spanX T,(s.classA T names).spanY T,names.length)]) h1.2.1
 have h3:=need_p h2.2 [sgn 59]
 have e:s.klass T names l=(PS.spansL T names.length (T.size+1) ((s.classA T names).span T l) (l++[((s.classA T names).spanX T,(s.classA T names).spanY T,names.length)])).1.need T [sgn 59]:=rfl
 rw [e]
 exact ⟨h3.1,by omega,fun h=>by have:=hA.2.2.2 h;omega⟩
theorem Fz.one {T:ByteArray} {names:List ByteArray} {s:PS} (h:Fz T s) (hp:s.p<=T.size):Fz T (s.one T names).1:=by
 have h1:Fz T (s.known T names):=h.if' 3
 have p1:(s.known T names).p<=T.size:=(p_if' hp 3).1
 have h2:Fz T ((s.known T names).many T):=h1.if_ 6
 have p2:((s.known T names).many T).p<=T.size:=(p_if p1 6).1
 have h3:Fz T ((s.known T names).many T).more:=h2
 exact h3.step p2
def FGood (T:ByteArray) (P:PS->PS × Px):Prop:=∀ s:PS,s.p<=T.size->Fz T s->Fz T (P s).1/\Stk s (P s).1
theorem stk_one (T:ByteArray) (names:List ByteArray) (s:PS):Stk s (s.one T names).1:=by
 have h1:Stk s (s.known T names):=stk_if' T s 3
 have h2:Stk (s.known T names) ((s.known T names).many T):=stk_if T _ 6
 have h3:Stk ((s.known T names).many T) ((s.known T names).many T).more:=fun _=>⟨rfl,rfl⟩
 exact ((h1.trans h2).trans h3).trans (stk_step T _)
theorem fg_bracket (T:ByteArray) (sub:PS->PS × Px) (hs:PGood T sub) (hf:FGood T sub) (s:PS) (h:s.p<=T.size) (hz:Fz T s):Fz T (s.bracket T sub).1/\Stk s (s.bracket T sub).1:=by
 have h1:Goes T s (s.nest T):=goes_if 6 h
 have z1:Fz T (s.nest T):=hz.if_ 6
 have k1:Stk s (s.nest T):=stk_if T s 6
 have h2:=adv_need T [sgn 40] (s.nest T) h1.2.2
 have z2:Fz T (((s.nest T).need T [sgn 40]).inK):=z1.need h1.2.2 _
 have k2:Stk (s.nest T) (((s.nest T).need T [sgn 40]).inK):=stk_need T _ _
 have h3:=hs (((s.nest T).need T [sgn 40]).inK) h2.1.2.2
 have h4:=hf (((s.nest T).need T [sgn 40]).inK) h2.1.2.2 z2
 have z5:Fz T ((sub (((s.nest T).need T [sgn 40]).inK)).1.outK):=h4.1
 have k5:Stk (((s.nest T).need T [sgn 40]).inK) ((sub (((s.nest T).need T [sgn 40]).inK)).1.outK):=h4.2
 exact ⟨z5.need h3.2.2.1 _,((k1.trans k2).trans k5).trans (stk_need T _ _)⟩
theorem fg_atom (T:ByteArray) (names:List ByteArray) (sub:PS->PS × Px) (hs:PGood T sub) (hf:FGood T sub) (s:PS) (h:s.p<=T.size) (hz:Fz T s):Fz T (s.atom T names sub).1/\Stk s (s.atom T names sub).1:=by
 have h1:Goes T s (s.atomOk T):=goes_if' 2 h
 have z1:Fz T (s.atomOk T):=hz.if' 2
 have k1:Stk s (s.atomOk T):=stk_if' T s 2
 unfold PS.atom
 split
 ·have:=fg_bracket T sub hs hf _ h1.2.2 z1
  exact ⟨this.1,k1.trans this.2⟩
 ·exact ⟨z1.one h1.2.2,k1.trans (stk_one T names _)⟩
theorem fg_atom0 (T:ByteArray) (names:List ByteArray) (s:PS) (h:s.p<=T.size) (hz:Fz T s):Fz T (s.atom T names (fun s=>(s,rowP []))).1/\Stk s (s.atom T names (fun s=>(s,rowP []))).1:=by
 have h1:Goes T s (s.atomOk T):=goes_if' 2 h
 have z1:Fz T (s.atomOk T):=hz.if' 2
 have k1:Stk s (s.atomOk T):=stk_if' T s 2
 unfold PS.atom
 split
 ·have h2:Goes T (s.atomOk T) ((s.atomOk T).nest T):=goes_if 6 h1.2.2
  have z2:Fz T ((s.atomOk T).nest T):=z1.if_ 6
  have k2:Stk (s.atomOk T) ((s.atomOk T).nest T):=stk_if T _ 6
  have h3:=adv_need T [sgn 40] ((s.atomOk T).nest T) h2.2.2
  have z3:Fz T (((((s.atomOk T).nest T).need T [sgn 40]).inK).outK):=z2.need h2.2.2 _
  have k3:Stk ((s.atomOk T).nest T) (((((s.atomOk T).nest T).need T [sgn 40]).inK).outK):=stk_need T _ _
  exact ⟨z3.need h3.1.2.2 _,((k1.trans k2).trans k3).trans (stk_need T _ _)⟩
 ·exact ⟨z1.one h1.2.2,k1.trans (stk_one T names _)⟩
theorem fg_partF (T:ByteArray) (s:PS) (q:PS × Px) (hq:q.1.p<=T.size) (h:Fz T q.1/\Stk s q.1):Fz T (PS.partF T q).1/\Stk s (PS.partF T q).1:=by
 unfold PS.partF
 split
 ·exact ⟨h.1.step hq,h.2.trans (stk_step T _)⟩
 ·split
  ·exact ⟨h.1.step hq,h.2.trans (stk_step T _)⟩
  ·split
   ·exact ⟨h.1.step hq,h.2.trans (stk_step T _)⟩
   ·exact h
theorem fg_rowL (T:ByteArray) (P:PS->PS × Px) (hP:PGood T P) (hf:FGood T P):∀ (g:Nat) (s:PS) (l:List Px),s.p<=T.size->Fz T s->Fz T (PS.rowL T P g s l).1/\Stk s (PS.rowL T P g s l).1:=by
 intro g
 induction g with
 | zero=>intro s l _ h;exact ⟨h,Stk.refl s⟩
 | succ g ih =>
  intro s l hp h
  rw [PS.rowL]
  split
  ·have h1:=hf s hp h
   have h2:=ih (P s).1 (l++[(P s).2]) (hP s hp).2.2.1 h1.1
   exact ⟨h2.1,h1.2.trans h2.2⟩
  ·exact ⟨h,Stk.refl s⟩
theorem fg_row (T:ByteArray) (P:PS->PS × Px) (hP:PGood T P) (hf:FGood T P):FGood T (PS.rowR T P):=fun s hp h=>by
 have h1:=hf s hp h
 have h2:=fg_rowL T P hP hf (T.size+1) (P s).1 [(P s).2] (hP s hp).2.2.1 h1.1
 exact ⟨h2.1,h1.2.trans h2.2⟩
theorem fg_exprL (T:ByteArray) (R:PS->PS × Px) (hR:PGood T R) (hf:FGood T R):∀ (g:Nat) (s:PS) (l:List Px),s.p<=T.size->Fz T s->Fz T (PS.exprL T R g s l).1/\Stk s (PS.exprL T R g s l).1:=by
 intro g
 induction g with
 | zero=>intro s l _ h;exact ⟨h,Stk.refl s⟩
 | succ g ih =>
  intro s l hp h
  rw [PS.exprL]
  split
  ·have h0:=(adv_step T s hp).1.2.2
   have h1:=hf (s.step T) h0 (h.step hp)
   have h2:=ih (R (s.step T)).1 (l++[(R (s.step T)).2]) (hR (s.step T) h0).2.2.1 h1.1
   exact ⟨h2.1,((stk_step T s).trans h1.2).trans h2.2⟩
  ·exact ⟨h,Stk.refl s⟩
theorem fg_expr' (T:ByteArray) (R:PS->PS × Px) (hR:PGood T R) (hf:FGood T R):FGood T (PS.exprR T R):=fun s hp h=>by
 have h1:=hf s hp h
 have h2:=fg_exprL T R hR hf (T.size+1) (R s).1 [(R s).2] (hR s hp).2.2.1 h1.1
 exact ⟨h2.1,h1.2.trans h2.2⟩
theorem fg_expr (T:ByteArray) (names:List ByteArray):∀ n,FGood T (PS.expr T names n):=by
 intro n
 induction n with
 | zero =>
  have g0:PGood T (PS.partP T names (fun s=>(s,rowP []))):=good_adv.2 fun s h=>adv_partF T s _ (adv_atom0 T names s h)
  have f0:FGood T (PS.partP T names (fun s=>(s,rowP []))):=fun s hp h=>fg_partF T s _ (adv_atom0 T names s hp).1.2.2 (fg_atom0 T names s hp h)
  exact fg_expr' T _ (good_row T _ g0) (fg_row T _ g0 f0)
 | succ n ih =>
  have g0:PGood T (PS.partP T names (PS.expr T names n)):=good_part T names _ (good_expr T names n)
  have f0:FGood T (PS.partP T names (PS.expr T names n)):=fun s hp h=>fg_partF T s _ (adv_atom T names _ (good_expr T names n) s hp).1.2.2 (fg_atom T names _ (good_expr T names n) ih s hp h)
  exact fg_expr' T _ (good_row T _ g0) (fg_row T _ g0 f0)
theorem fg_side (T:ByteArray) (names:List ByteArray) (x:ByteArray) (s:PS) (hp:s.p<=T.size) (h:Fz T s):Fz T (s.side T names x).1/\Stk s (s.side T names x).1:=by
 unfold PS.side
 split
 ·exact ⟨h,Stk.refl s⟩
 ·exact fg_expr T names 5 s.zero hp h
theorem rule_good (T:ByteArray) (names:List ByteArray) (n:Nat) (s:PS) (hp:s.p<=T.size) (h:Fz T s):Fz T (s.rule T names n)/\Stk s (s.rule T names n)/\(s.rule T names n).p<=T.size/\s.p<=(s.rule T names n).p/\(s.p<T.size->s.p<(s.rule T names n).p):=by
 have z1:Fz T (s.ruleN T n):=h.if_ 6
 have k1:Stk s (s.ruleN T n):=stk_if T s 6
 have p1:(s.ruleN T n).p<=T.size/\s.p<=(s.ruleN T n).p:=p_if hp 6
 have z2:=z1.need p1.1 [wCut,wJoin]
 have p2:=need_p p1.1 [wCut,wJoin]
 have f3:=fg_side T names (sgn 124) _ p2.1 z2
 have p3:=side_goes T names (sgn 124) _ p2.1
 have z4:=f3.1.need p3.2 [sgn 124]
 have p4:=need_p p3.2 [sgn 124]
 have f5:=fg_side T names (sgn 59) _ p4.1 z4
 have p5:=side_goes T names (sgn 59) _ p4.1
 have z6:=f5.1.need p5.2 [sgn 59]
 have p6:=need_p p5.2 [sgn 59]
 have e:s.rule T names n=((((((s.ruleN T n).need T [wCut,wJoin]).side T names (sgn 124)).1.need T [sgn 124]).side T names (sgn 59)).1).need T [sgn 59]:=rfl
 rw [e]
 refine ⟨z6,((((k1.trans (stk_need T _ _)).trans f3.2).trans (stk_need T _ _)).trans f5.2).trans (stk_need T _ _),p6.1,by omega,fun hlt=>?_⟩
 rcases Nat.lt_or_ge (s.ruleN T n).p T.size with h1 | h1
 ·have:=p2.2.2 h1;omega
 ·omega
structure RD where
 s:PS
 names:List ByteArray
 l:List (Int × Int × Nat)
def readC (T:ByteArray):Nat->RD->RD
 | 0,r=>r
 | g+1,r=>if memL [wClass] (r.s.tk T)=true then readC T g ⟨r.s.klass T r.names r.l,r.names++[nameTok T r.names r.s],(r.s.classB T r.names r.l).2⟩ else r
def readR (T:ByteArray) (names:List ByteArray):Nat->PS->List RuleM->PS × List RuleM
 | 0,s,L=>(s,L)
 | g+1,s,L=>if memL [wCut,wJoin] (s.tk T)=true then readR T names g (s.rule T names L.length) (L++[ruleOf T names L.length s]) else (s,L)
def readEnd (T:ByteArray) (s:PS):PS:=if s.p=T.size then s else s.fail T 2
def read0 (T:ByteArray):RD:=⟨⟨skip T 0,0,0,0,0⟩,[],[]⟩
def read1 (T:ByteArray):RD:=readC T (T.size+1) (read0 T)
def read2 (T:ByteArray):PS × List RuleM:=readR T (read1 T).names (T.size+1) (read1 T).s []
def readP (T:ByteArray):PS:=readEnd T (read2 T).1
theorem mem_lt {T:ByteArray} {s:PS} {L:List ByteArray} (hp:s.p<=T.size) (hne:∀ x ∈ L,x.toList ≠ []) (h:memL L (s.tk T)=true):s.p<T.size:=by
 rcases Nat.lt_or_ge s.p T.size with h1 | h1
 ·exact h1
 ·exfalso
  have e:s.p=T.size:=by omega
  unfold PS.tk at h
  rw [e,tokp_end,memL_iff] at h
  obtain ⟨x,hx,hx2⟩:=h
  exact hne x hx hx2
theorem Fr.below {base:Nat} {w w':World} (h:Below w.heap.size w w') (hb:base<=w.heap.size):Fr base w w':=⟨h.mono hb,fun _ _ _ _=>Kp.below h⟩
theorem CAt.later {TR:World->Value->List (Int × Int × Nat)->Prop} {base b:Nat} {T:ByteArray} {names:List ByteArray} {vN vE vL:Value} {s:PS} {l:List (Int × Int × Nat)} {w w':World} (hTR:AddOk base TR) (h:CAt TR base b T names vN vE vL s l w) (hb:Below w.heap.size w w'):CAt TR base b T names vN vE vL s l w' :=
 ⟨h.rd.later hb,row_kp h.row (Kp.below hb),hTR.keep _ _ _ _ h.tr (Kp.below hb),h.errs.below hb,h.fz,h.hb,h.hg⟩
theorem rule_c {TR:World->Value->List (Int × Int × Nat)->Prop} {base:Nat} (hTR:AddOk base TR) (b:Nat) (T:ByteArray) (names:List ByteArray) (vN vE vL:Value) (s:PS) (l:List (Int × Int × Nat)) (Ls:List RuleM) (w:World) (h:CAt TR base b T names vN vE vL s l w) (hl:names.length<=7) (hL:LIn base w vL Ls) (hn:Ls.length<=1000) :
  Calls Tryz.prog 78 #[.pointer (some ⟨b,0,none⟩)] w fun r w'=>r=.returned (.tuple #[])/\∃ vL',CAt TR base b T names vN vE vL' (s.rule T names Ls.length) l w'/\LIn base w' vL' (Ls++[ruleOf T names Ls.length s])/\Below base w w':=by
 refine (rule_any base b T names vN vE vL Ls s w h.rd (row_base h.row (Nat.zero_le _)) hl hL hn h.sz).mono ?_
 rintro r w' ⟨rfl,vL',h1,h2,h3⟩
 have own:∀ k,vL.ownBlock=some k->base<=k/\∃ cs,w.heap[k]?=some (.cells cs 148 (0,0)):=by
  intro k e
  obtain ⟨_,_,g2,_⟩:=hL
  exact ⟨(g2.lt k e).1,row_type g2 k e⟩
 have hbl:Below base w w':=h3.below h.sz fun k hk e=>by
  rcases e with rfl | e
  ·have:=h.hb;omega
  ·have:=(own k e).1;omega
 have kk:∀ t,t ≠ 141->t ≠ 148->Kp t w w':=fun t a1 a2 k cs m hh=>by
  rw [h3.block k (heap_lt hh) (fun e=>?_)]
  ·exact hh
  ·rcases e with rfl | e
   ·exact type_ne hh h.rd.blk a1 rfl
   ·obtain ⟨_,cs',hcs⟩:=own k e
    exact type_ne hh hcs a2 rfl
 have hE:ErrsOk w':=h.errs.on fun k o v hk hv=>(hbl.cell (p:=⟨k,o,none⟩) (by simp only;have hg:=h.hg;rcases hk with rfl | rfl | rfl <;> omega)).trans hv
 exact ⟨rfl,vL',⟨h1,row_kp h.row (kk _ (by decide) (by decide)),hTR.keep _ _ _ _ h.tr (kk _ (by decide) (by decide)),hE,(rule_good T names Ls.length s h.rd.le h.fz).1,h.hb,h.hg⟩,h2,hbl⟩
def ReadPost (TR:World->Value->List (Int × Int × Nat)->Prop) (base:Nat) (T:ByteArray) (w:World) (r:Ending) (w':World):Prop :=
 Below w.heap.size w w'/\∃ vE vL,r=.returned (.tuple #[.agg #[vE,vL],.int .i64 (readP T).f,.int .i64 (if (readP T).f=0 then 0 else (readP T).pl)])/\((readP T).f=0->TR w' vE (read1 T).l/\LIn base w' vL (read2 T).2)/\((readP T).f ≠ 0->vE=.slice none 0 0/\vL=.slice none 0 0)
theorem results_ctt {P:Program} {fn:Func} {p u v:Tmp} {ty:TypeId} (h:fn.results=#[.cell p ty,.tmp u,.tmp v]) (tmps:Array Value) (w:World) (g:Nat) (t:TypeId) (cs:Array Value) (fr:Nat × Nat) (d:TypeDesc)
  (hp:tmps.getD p undef=.pointer (some ⟨g,0,none⟩)) (hg:w.heap[g]?=some (.cells cs t fr)) (hu:P.underlying ty=some d) (hd:(match d with | .struct _ | .array _ _=>true | _=>false)=true) (hi:(P.info? ty).map (·.size)=some cs.size) :
  (results fn tmps).run P w=.ok (.tuple #[.agg cs,tmps.getD u undef,tmps.getD v undef]) w:=by
 have hp':tmps[p]?.getD undef=.pointer (some ⟨g,0,none⟩):=by simpa using hp
 simp [results,h,hp',asAddr,run_loadVar_row w g t ty cs fr d hg hu hd hi]
theorem readR_stk (T:ByteArray) (names:List ByteArray):∀ (g:Nat) (s:PS) (L:List RuleM),s.p<=T.size->Fz T s->Stk s (readR T names g s L).1:=by
 intro g
 induction g with
 | zero=>intro s L _ _;exact Stk.refl s
 | succ g ih =>
  intro s L hp hz
  rw [readR]
  split
  ·have h:=rule_good T names L.length s hp hz
   exact h.2.1.trans (ih _ _ h.2.2.1 h.1)
  ·exact Stk.refl s
theorem readEnd_f {T:ByteArray} {s:PS} (h:(readEnd T s).f=0):s.f=0:=by
 unfold readEnd at h
 split at h
 ·exact h
 ·unfold PS.fail PS.failAt pf at h
  simp only at h
  split at h
  ·assumption
  ·exact h
theorem set2 {w:World} {q:Nat} {a b x y:Value} {t:TypeId} (h:w.heap[q]?=some (.cells #[a,b] t (0,0))):((w.setCell ⟨q,0,none⟩ x).setCell ⟨q,1,none⟩ y).heap[q]?=some (.cells #[x,y] t (0,0)):=setCell1 (setCell0 h)
set_option maxRecDepth 100000 in
set_option maxHeartbeats 4000000 in
theorem read_pr (TR:World->Value->List (Int × Int × Nat)->Prop) (T:ByteArray) (w:World) (hTR:AddOk (w.heap.size+1) TR) (hE:ErrsOk w) (hT:T.size<=1000) :
  Calls Tryz.prog 42 #[.string T] w (ReadPost TR (w.heap.size+1) T w):=by
 have HE:Hid (ErrsOk w):=hE
 have hgl:6<w.heap.size/\7<w.heap.size:=by
  obtain ⟨⟨_,_,h1⟩,⟨_,_,h2⟩,_⟩:=hE
  exact ⟨cell_lt h1,cell_lt h2⟩
 obtain ⟨W,hW⟩:∃ W,W=(w.alloc (.cells #[.slice none 0 0,.slice none 0 0] 84)).alloc (.cells #[.string T,.int .i64 0,.int .i64 0,.slice none 0 0,.slice none 0 0,.slice none 0 0,.int .i64 0,.int .i64 0] 141):=⟨_,rfl⟩
 have HW:Hid (W=(w.alloc (.cells #[.slice none 0 0,.slice none 0 0] 84)).alloc (.cells #[.string T,.int .i64 0,.int .i64 0,.slice none 0 0,.slice none 0 0,.slice none 0 0,.int .i64 0,.int .i64 0] 141)):=hW
 have hb0:W.heap[w.heap.size+1]?=some (.cells (pcell T 0 0 (.slice none 0 0) (.slice none 0 0) (.slice none 0 0) 0 0) 141 (0,0)):=by
  rw [hW];exact (show ((w.alloc _).heap.size)=w.heap.size+1 by simp) ▸ heap_alloc_new (w.alloc _) _
 have hr0:W.heap[w.heap.size]?=some (.cells #[.slice none 0 0,.slice none 0 0] 84 (0,0)):=by
  rw [hW,Below.heap_alloc _ _ _ (by simp)];exact heap_alloc_new w _
 have hbw:Below w.heap.size w W:=by rw [hW];exact ((Below.refl _ _).alloc (Nat.le_refl _) _).alloc (by simp) _
 have hWs:W.heap.size=w.heap.size+2:=by rw [hW];simp
 have HB0:Hid (PBlk W (w.heap.size+1) T (0:Nat) (0:Nat) (.slice none 0 0) (.slice none 0 0) (.slice none 0 0) 0 0):=hb0
 have HR0:Hid (W.heap[w.heap.size]?=some (.cells #[.slice none 0 0,.slice none 0 0] 84 (0,0))):=hr0
 have HBW:Hid (Below w.heap.size w W):=hbw
 clear hE hW hb0 hr0 hbw
 go_enter Tryz.func42,Tryz.ntmps42
 go_wp2_with fail
 rw [<- HW.out]
 refine (step_any (w.heap.size+1) T 0 0 (.slice none 0 0) (.slice none 0 0) (.slice none 0 0) 0 0 W HB0.out (Nat.zero_le _) hT).mono ?_
 rintro r w1 ⟨rfl,h1,c1⟩
 have hsk:=(skip_le T 0).2 (Nat.zero_le _)
 have H1:Hid (CAt TR (w.heap.size+1) (w.heap.size+1) T [] (.slice none 0 0) (.slice none 0 0) (.slice none 0 0) (read0 T).s [] w1):=by
  refine ⟨⟨h1,hsk,hT⟩,World.ownsRow_nil _ _ _ _,hTR.nil w1,?_,fun e=>(e rfl).elim,Nat.le_refl _,by omega⟩
  refine (HE.out.below HBW.out).on fun k o v hk hv=>?_
  have:k ≠ w.heap.size+1:=by rcases hk with rfl | rfl | rfl <;> omega
  exact (World.cell?_of_block (a:=⟨k,o,none⟩) (w:=W) (c1.block k (cell_lt hv) this)).trans hv
 have F1:Hid (Below (w.heap.size+1) W w1):=c1.below (by omega) fun k hk e=>by omega
 clear h1 c1
 obtain ⟨B,hB⟩:∃ B,B=w.heap.size+1:=⟨_,rfl⟩
 have HB:Hid (B=w.heap.size+1):=hB
 rw [<- hB] at hTR H1 F1 ⊢
 clear hB
 go_upto_block 0 with fail
 go_cut [] (fun wx=>Hid (∃ vN vE lm,CAt TR B B T (read1 T).names vN vE (.slice none 0 0) (read1 T).s lm wx/\((read1 T).s.f=0->lm=(read1 T).l)/\(read1 T).names.length<=7)/\Hid (Below B W wx))
 case first =>
  go_wp2_with fail
  go_loopg [] (T.size+1) (fun g wx=>∃ (r:RD) (vN vE:Value) (lm:List (Int × Int × Nat)),Hid (CAt TR B B T r.names vN vE (.slice none 0 0) r.s lm wx)/\Hid (Below B W wx)/\Hid (r.s.f=0->lm=r.l)/\Hid (readC T g r=read1 T)/\T.size<r.s.p+g/\lm.length<=r.s.p/\Hid (r.s.f=0->r.names.length<=6)/\r.names.length<=7)
  case atStart=>exact ⟨read0 T,_,_,[],H1,F1,fun _=>rfl,rfl,by omega,Nat.zero_le _,fun _=>by show 0<=6;omega,by show 0<=7;omega⟩
  case round =>
   obtain ⟨r,vN,vE,lm,hC,hF,hL,hS,hg,hlm,hN6,hN7⟩:=hrel
   obtain ⟨w2,hw2⟩:∃ w2,w2=wr:=⟨wr,rfl⟩
   subst hw2
   have hle':=hC.out.rd.le
   obtain ⟨g',hg'⟩:∃ g',gk=g'+1:=⟨gk - 1,by omega⟩
   subst hg'
   clear H1 F1
   go_wp2_with fail
   refine (is_new B T vN vE (.slice none 0 0) r.s [wClass] w2 hC.out.rd (by decide) (by decide)).mono ?_
   rintro e w3 ⟨rfl,b3⟩
   have H3:Hid (CAt TR B B T r.names vN vE (.slice none 0 0) r.s lm w3):=hC.out.later hTR b3
   have F3:Hid (Below B W w3):=hF.out.trans (b3.mono hC.out.sz)
   clear hC hF b3
   cases hm:memL [wClass] (r.s.tk T)
   ·have e:Hid (read1 T=r):=by show _=_;rw [<- hS.out,readC,hm];rfl
    go_wp2_with fail
    go_meet
    exact ⟨⟨vN,vE,lm,by rw [e.out];exact H3.out,by rw [e.out];exact hL.out,by rw [e.out];exact hN7⟩,F3⟩
   ·have hlt:=mem_lt hle' cls_ne hm
    have h0:r.s.f=0:=by
     rcases Classical.em (r.s.f=0) with h | h
     ·exact h
     ·have:=H3.out.fz h;omega
    have hll:=hL.out h0
    have hn6:=hN6.out h0
    have e:Hid (readC T g' ⟨r.s.klass T r.names r.l,r.names++[nameTok T r.names r.s],(r.s.classB T r.names r.l).2⟩=read1 T):=by show _=_;rw [<- hS.out,readC,hm];rfl
    have hcp:=class_p T r.names lm r.s H3.out.fz hle'
    have hadv:=hcp.2.2 hlt
    have HLL:Hid (lm=r.l):=hll
    clear h0 hll hL hS hN6
    go_wp2_with fail
    refine (pclass_any hTR B T r.names vN vE (.slice none 0 0) r.s lm w3 H3.out (by omega) hlm hlt).mono ?_
    rintro e4 w4 ⟨rfl,vN4,vE4,l4,h4,l4l,l4e,f4⟩
    have H4:Hid (CAt TR B B T (r.names++[nameTok T r.names r.s]) vN4 vE4 (.slice none 0 0) (r.s.klass T r.names lm) l4 w4):=h4
    have L4:Hid ((r.s.klass T r.names lm).f=0->l4=(r.s.classB T r.names lm).2):=l4e
    have F4:Hid (Below B W w4):=F3.out.trans f4.1
    clear h4 l4e f4
    go_wp2_with fail
    go_roundg g'
    case measure=>omega
    case rel =>
     refine ⟨⟨r.s.klass T r.names lm,r.names++[nameTok T r.names r.s],(r.s.classB T r.names lm).2⟩,vN4,vE4,l4,H4,F4,L4,?_,by show T.size<(r.s.klass T r.names lm).p+g';omega,l4l,fun hf=>?_,?_⟩
     ·show _=_
      rw [HLL.out];exact e.out
     ·have:=class_six T r.names lm r.s hf
      show (r.names++[nameTok T r.names r.s]).length<=6
      rw [List.length_append];simp;omega
     ·show (r.names++[nameTok T r.names r.s]).length<=7
      rw [List.length_append];simp;omega
 case rest =>
  obtain ⟨h2,f2⟩:=hcut
  obtain ⟨w2,hw2⟩:∃ w2,w2=wc:=⟨wc,rfl⟩
  subst hw2
  clear H1 F1
  obtain ⟨vN,vE,lm,hC2,hL2,hN7⟩:=h2.out
  have HC2:Hid (CAt TR B B T (read1 T).names vN vE (.slice none 0 0) (read1 T).s lm w2):=hC2
  have HL2:Hid ((read1 T).s.f=0->lm=(read1 T).l):=hL2
  have hle2:=hC2.rd.le
  have HZ2:Hid (Fz T (read1 T).s):=hC2.fz
  clear h2 hC2 hL2
  go_upto_block 2 with fail
  go_cut [] (fun wx=>Hid (∃ vL,CAt TR B B T (read1 T).names vN vE vL (read2 T).1 lm wx/\LIn B wx vL (read2 T).2)/\Hid (Below B W wx))
  case first =>
   go_wp2_with fail
   go_loopg [] (T.size+1) (fun g wx=>∃ (s':PS) (vL:Value) (Ls:List RuleM),Hid (CAt TR B B T (read1 T).names vN vE vL s' lm wx)/\Hid (LIn B wx vL Ls)/\Hid (Below B W wx)/\Hid (readR T (read1 T).names g s' Ls=read2 T)/\T.size<s'.p+g/\Ls.length<=s'.p)
   case atStart=>exact ⟨_,_,[],HC2,⟨[],rfl,World.ownsRow_nil _ _ _ _,fun i L v hL=>by simp at hL⟩,f2,rfl,by omega,Nat.zero_le _⟩
   case round =>
    obtain ⟨s',vL,Ls,hC,hLI,hF,hS,hg,hll⟩:=hrel
    obtain ⟨w3,hw3⟩:∃ w3,w3=wr:=⟨wr,rfl⟩
    subst hw3
    have hle':=hC.out.rd.le
    obtain ⟨g',hg'⟩:∃ g',gk=g'+1:=⟨gk - 1,by omega⟩
    subst hg'
    clear HC2 f2
    go_wp2_with fail
    refine (is_new B T vN vE vL s' [wCut,wJoin] w3 hC.out.rd (by decide) (by decide)).mono ?_
    rintro e w4 ⟨rfl,b4⟩
    have H4:Hid (CAt TR B B T (read1 T).names vN vE vL s' lm w4):=hC.out.later hTR b4
    have L4:Hid (LIn B w4 vL Ls):=hLI.out.below b4
    have F4:Hid (Below B W w4):=hF.out.trans (b4.mono hC.out.sz)
    clear hC hF b4 hLI
    cases hm:memL [wCut,wJoin] (s'.tk T)
    ·have e:Hid (read2 T=(s',Ls)):=by show _=_;rw [<- hS.out,readR,hm];rfl
     go_wp2_with fail
     go_meet
     exact ⟨⟨vL,by rw [e.out];exact H4.out,by rw [e.out];exact L4.out⟩,F4⟩
    ·have hlt:=mem_lt hle' cj_ne hm
     have hrg:=rule_good T (read1 T).names Ls.length s' hle' H4.out.fz
     have hadv:=hrg.2.2.2.2 hlt
     have e:Hid (readR T (read1 T).names g' (s'.rule T (read1 T).names Ls.length) (Ls++[ruleOf T (read1 T).names Ls.length s'])=read2 T):=by show _=_;rw [<- hS.out,readR,hm];rfl
     clear hS hrg
     go_wp2_with fail
     refine (rule_c hTR B T (read1 T).names vN vE vL s' lm Ls w4 H4.out hN7 L4.out (by omega)).mono ?_
     rintro e5 w5 ⟨rfl,vL5,h5,l5,b5⟩
     have H5:Hid (CAt TR B B T (read1 T).names vN vE vL5 (s'.rule T (read1 T).names Ls.length) lm w5):=h5
     have L5:Hid (LIn B w5 vL5 (Ls++[ruleOf T (read1 T).names Ls.length s'])):=l5
     have F5:Hid (Below B W w5):=F4.out.trans b5
     clear h5 l5 b5
     go_wp2_with fail
     go_roundg g'
     case measure=>omega
     case rel=>exact ⟨_,vL5,_,H5,L5,F5,e,by omega,by rw [List.length_append];simp;omega⟩
  case rest =>
   obtain ⟨h3,f3⟩:=hcut
   obtain ⟨w3,hw3⟩:∃ w3,w3=wc:=⟨wc,rfl⟩
   subst hw3
   clear HC2 f2
   obtain ⟨vL,hC3,hL3⟩:=h3.out
   have HC3:Hid (CAt TR B B T (read1 T).names vN vE vL (read2 T).1 lm w3):=hC3
   have HL3:Hid (LIn B w3 vL (read2 T).2):=hL3
   clear h3 hC3 hL3
   obtain ⟨s3,hs3⟩:∃ s3,s3=(read2 T).1:=⟨_,rfl⟩
   rw [<- hs3] at HC3
   have HP:Hid (readP T=readEnd T s3):=by show _=_;unfold readP;rw [hs3]
   have HS1:Hid (Stk (read1 T).s s3):=by rw [hs3];exact readR_stk T _ _ _ _ hle2 HZ2.out
   clear hs3
   go_wp2_with fail
   refine (ended_any B T s3.p (tokEnd T s3.p) vN vE vL s3.f s3.pl w3 HC3.out.rd.blk).mono ?_
   rintro r w4 ⟨rfl,n,hw4⟩
   have b4:Below w3.heap.size w3 w4:=by rw [hw4];exact bdrew (Below.refl _ _) n
   clear hw4
   have H4:Hid (CAt TR B B T (read1 T).names vN vE vL s3 lm w4):=HC3.out.later hTR b4
   have L4:Hid (LIn B w4 vL (read2 T).2):=HL3.out.below b4
   have F4:Hid (Below B W w4):=f3.out.trans (b4.mono HC3.out.sz)
   clear HC3 HL3 f3 b4
   go_upto_if 20 with fail
   go_cut [] (fun wx=>Hid (CAt TR B B T (read1 T).names vN vE vL (readEnd T s3) lm wx)/\Hid (LIn B wx vL (read2 T).2)/\Hid (Below B W wx))
   case first =>
    by_cases hp:s3.p=T.size
    ·have k1:decide (s3.p=T.size)=true:=by simpa using hp
     have e:Hid (readEnd T s3=s3):=by show _=_;unfold readEnd;rw [if_pos hp]
     rw [k1]
     clear hp k1
     go_wp2_with fail
     go_meet
     exact ⟨by rw [e.out];exact H4,L4,F4⟩
    ·have k1:decide (s3.p=T.size)=false:=by simpa using hp
     have e:Hid (readEnd T s3=s3.fail T 2):=by show _=_;unfold readEnd;rw [if_neg hp]
     rw [k1]
     clear hp k1
     go_wp2_with fail
     refine (fail_ps B T vN vE vL s3 2 w4 H4.out.rd).mono ?_
     rintro r w5 ⟨rfl,h5,c5⟩
     have H5:Hid (CAt TR B B T (read1 T).names vN vE vL (s3.fail T 2) lm w5/\Fr B w4 w5):=H4.out.on hTR h5 c5 (Fz.fail' s3 2)
     have L5:Hid (LIn B w5 vL (read2 T).2):=L4.out.chg1 H4.out.rd.blk c5
     clear h5 c5
     go_wp2_with fail
     go_meet
     exact ⟨by rw [e.out];exact H5.out.1,L5,F4.out.trans H5.out.2.1⟩
   case rest =>
    obtain ⟨h5,l5,f5⟩:=hcut
    obtain ⟨w5,hw5⟩:∃ w5,w5=wc:=⟨wc,rfl⟩
    subst hw5
    clear H4 L4 F4
    have H5:Hid (CAt TR B B T (read1 T).names vN vE vL (readP T) lm w5):=by rw [HP.out];exact h5
    have HF:Hid ((readP T).f=0->(read1 T).s.f=0):=by
     intro h0
     rw [HP.out] at h0
     have h1:=readEnd_f h0
     rcases Classical.em ((read1 T).s.f=0) with h | h
     ·exact h
     ·have:=(HS1.out h).1;rw [h1] at this;exact absurd this.symm h
    have q5:w5.heap[w.heap.size]?=some (.cells #[.slice none 0 0,.slice none 0 0] 84 (0,0)):=by
     rw [f5.out.block _ (by have:=HB.out;omega)];exact HR0.out
    have QQ:Hid (w5.heap[w.heap.size]?=some (.cells #[.slice none 0 0,.slice none 0 0] 84 (0,0))):=q5
    have hqB:w.heap.size ≠ B:=by have:=HB.out;omega
    obtain ⟨ff,hff⟩:∃ ff,ff=(readP T).f:=⟨_,rfl⟩
    obtain ⟨pp',hpp⟩:∃ pp',pp'=(readP T).pl:=⟨_,rfl⟩
    have hcs:=pcells H5.out.rd.blk
    rw [<- hff,<- hpp] at hcs
    obtain ⟨c0,c1,c2,c3,c4,c5,c6,c7,cf⟩:=hcs
    have d0:=cell_of_block q5 0 _ rfl
    have d1:=cell_of_block q5 1 _ rfl
    have df:=free_of_block q5
    have HFF:Hid (ff=(readP T).f):=hff
    have HPP:Hid (pp'=(readP T).pl):=hpp
    clear h5 hff hpp q5 c0 c1 c2 c3
    obtain ⟨aoE,nE,capE,rfl⟩:=hTR.shape _ _ _ H5.out.tr
    obtain ⟨aoL,capL,rfl⟩:∃ ao cap,vL=.slice ao (read2 T).2.length cap:=by obtain ⟨_,_,h2,_⟩:=l5.out;exact row_shape h2
    by_cases h0:ff=0
    ·have k0:(ff == 0)=true:=by rw [beq_iff_eq];exact h0
     have K0:Hid ((readP T).f=0):=by rw [<- HFF.out];exact h0
     clear h0
     go_wp2_with fail
     refine bodyPost_ret (results_ctt rfl _ _ w.heap.size 84 _ (0,0) _ rfl (set2 QQ.out) Tryz.underlying84 rfl (by kernel_rfl)) rfl ?_
     have kp:∀ t,t ≠ 84->Kp t w5 ((w5.setCell ⟨w.heap.size,0,none⟩ (.slice aoE nE capE)).setCell ⟨w.heap.size,1,none⟩ (.slice aoL (read2 T).2.length capL)):=fun t ht=>((Kp.refl _ _).setCell QQ.out ht _).setCell (setCell0 QQ.out) ht _
     refine ⟨?_,.slice aoE nE capE,.slice aoL (read2 T).2.length capL,by rw [K0.out];rfl,fun _=>⟨?_,?_⟩,fun h=>absurd K0.out h⟩
     ·have b1:Below w.heap.size w w5:=HBW.out.trans (f5.out.mono (by have:=HB.out;omega))
      exact (b1.setCell (Nat.le_refl _) _).setCell (Nat.le_refl _) _
     ·have e:=HL2.out (HF.out K0.out)
      rw [<- e]
      exact hTR.keep _ _ _ _ H5.out.tr (kp _ (by decide))
     ·rw [<- HB.out]
      exact l5.out.kp (kp _ (by decide)) (kp _ (by decide)) (kp _ (by decide))
    ·have k0:(ff == 0)=false:=by rw [beq_eq_false_iff_ne];exact h0
     have K0:Hid ((readP T).f ≠ 0):=by rw [<- HFF.out];exact h0
     clear h0
     go_wp2_with fail
     go_region
     all_goals (try go_wp2_with fail)
     all_goals
      refine bodyPost_ret (results_ctt rfl _ _ w.heap.size 84 #[.slice none 0 0,.slice none 0 0] (0,0) _ rfl (set2 QQ.out) Tryz.underlying84 rfl (by kernel_rfl)) rfl ?_
      refine ⟨?_,.slice none 0 0,.slice none 0 0,?_,fun h=>absurd h K0.out,fun _=>⟨rfl,rfl⟩⟩
      ·have b1:Below w.heap.size w w5:=HBW.out.trans (f5.out.mono (by have:=HB.out;omega))
       exact ((b1.setCell (Nat.le_refl _) _).setCell (Nat.le_refl _) _).drew
      ·rw [if_neg K0.out,<- HFF.out,<- HPP.out];rfl
structure RdT where
 err:Int
 place:Int
def rdT (T:ByteArray):RdT:=if 1000<T.size then ⟨1,0⟩ else ⟨(readP T).f,if (readP T).f=0 then 0 else (readP T).pl⟩
theorem rd_big {T:ByteArray} (h:1000<T.size):rdT T=⟨1,0⟩:=by unfold rdT;rw [if_pos h]
theorem rd_is {T:ByteArray} (h:T.size<=1000):rdT T=⟨(readP T).f,if (readP T).f=0 then 0 else (readP T).pl⟩:=by unfold rdT;rw [if_neg (by omega)]
theorem rd_zero {T:ByteArray} (h:(rdT T).err=0):T.size<=1000/\(readP T).f=0/\(rdT T).place=0:=by
 rcases Nat.lt_or_ge 1000 T.size with h1 | h1
 ·rw [rd_big h1] at h;exact absurd h (by decide)
 ·rw [rd_is h1] at h ⊢
  have h2:(readP T).f=0:=h
  exact ⟨h1,h2,by show (if (readP T).f=0 then 0 else (readP T).pl)=0;rw [if_pos h2]⟩
set_option maxRecDepth 100000 in
set_option maxHeartbeats 2000000 in
theorem read_big (T:ByteArray) (w:World) (hT:1000<T.size) (hT2:T.size<=140737488351232) :
  Calls Tryz.prog 42 #[.string T] w fun r w'=>Below w.heap.size w w'/\∃ vE vL,r=.returned (.tuple #[.agg #[vE,vL],.int .i64 (rdT T).err,.int .i64 (rdT T).place])/\(∃ a b c,vE=.slice a b c)/\∃ a b c,vL=.slice a b c:=by
 have hfin:Hid ((rdT T).err=1/\(rdT T).place=0):=by
  show _/\_
  rw [rd_big hT];exact ⟨rfl,rfl⟩
 rw [hfin.out.1,hfin.out.2]
 go_enter Tryz.func42,Tryz.ntmps42
 go_wp2_with fail
 refine bodyPost_ret (results_ctt rfl _ _ w.heap.size 84 #[.slice none 0 0,.slice none 0 0] (0,0) _ rfl (heap_alloc_new _ _) Tryz.underlying84 rfl (by kernel_rfl)) rfl ?_
 exact ⟨(Below.refl _ _).alloc (Nat.le_refl _) _,.slice none 0 0,.slice none 0 0,rfl,⟨_,_,_,rfl⟩,_,_,_,rfl⟩
theorem read_err0 (T:ByteArray) (h:(rdT T).err=0):(rdT T).place=0:=(rd_zero h).2.2
theorem read_all (T:ByteArray) (w:World) (hE:ErrsOk w) (hT2:T.size<=140737488351232) :
  Calls Tryz.prog 42 #[.string T] w fun r w'=>Below w.heap.size w w'/\∃ vE vL,r=.returned (.tuple #[.agg #[vE,vL],.int .i64 (rdT T).err,.int .i64 (rdT T).place])/\(∃ a b c,vE=.slice a b c)/\(∃ a b c,vL=.slice a b c)/\((rdT T).err=0->TRs (w.heap.size+1) w' vE (read1 T).l/\LIn (w.heap.size+1) w' vL (read2 T).2):=by
 by_cases h:T.size<=1000
 ·refine (read_pr _ T w (addOk_s _) hE h).mono ?_
  rintro r w' ⟨hb,vE,vL,rfl,hx,hy⟩
  rw [rd_is h]
  refine ⟨hb,vE,vL,rfl,?_⟩
  by_cases h0:(readP T).f=0
  ·obtain ⟨_,_,h1,_⟩:=(hx h0).1
   obtain ⟨ao,cap,e⟩:=row_shape h1
   obtain ⟨_,_,h2,_⟩:=(hx h0).2
   obtain ⟨ao',cap',e'⟩:=row_shape h2
   exact ⟨⟨_,_,_,e⟩,⟨_,_,_,e'⟩,fun _=>hx h0⟩
  ·exact ⟨⟨_,_,_,(hy h0).1⟩,⟨_,_,_,(hy h0).2⟩,fun e=>absurd e h0⟩
 ·refine (read_big T w (by omega) hT2).mono ?_
  rintro r w' ⟨hb,vE,vL,rfl,h1,h2⟩
  refine ⟨hb,vE,vL,rfl,h1,h2,fun e=>absurd e ?_⟩
  rw [rd_big (by omega)];decide
end Go.Proofs.YtodagkkjfipbgaaGreatDoor
