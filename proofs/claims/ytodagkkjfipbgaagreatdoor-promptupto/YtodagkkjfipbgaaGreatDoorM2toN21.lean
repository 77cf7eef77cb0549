import Derived.Test.YtodagkkjfipbgaaGreatDoorV10toM1
import Derived.Test.YtodagkkjfipbgaaGreatDoorC4toG1
namespace Go.Proofs.YtodagkkjfipbgaaGreatDoor
open Go.RowKit
theorem Stk.back {s s':PS} (h:Stk s s') (e:s'.f=0):s.f=0:=by
 by_cases h0:s.f=0
 ·exact h0
 ·have:=(h h0).1;rw [e] at this;exact this.symm
theorem fail_f (T:ByteArray) (s:PS) (no:Int) (hn:no ≠ 0):(s.fail T no).f ≠ 0:=by
 unfold PS.fail PS.failAt pf
 simp only
 split
 ·exact hn
 ·assumption
theorem a_if (T:ByteArray) (s:PS) {c:Prop} [Decidable c] (no:Int):(if c then s.fail T no else s).a=s.a:=by split <;> rfl
theorem a_if' (T:ByteArray) (s:PS) {c:Prop} [Decidable c] (no:Int):(if c then s else s.fail T no).a=s.a:=by split <;> rfl
theorem a_need (T:ByteArray) (L:List ByteArray) (s:PS):(s.need T L).a=s.a:=by unfold PS.need;split <;> rfl
def AG (s:PS) (q:PS × Px):Prop:=q.1.f=0->0<=s.a->s.a<=4->q.1.a<=4/\∀ d,(atn d q.2:Int)+s.a<=q.1.a/\kok d q.2
def AGood (T:ByteArray) (P:PS->PS × Px):Prop:=∀ s:PS,s.p<=T.size->Fz T s->AG s (P s)
theorem AG.pre {s s':PS} {q:PS × Px} (h:AG s' q) (e:s'.a=s.a):AG s q:=fun hf h0 h4=>by
 have:=h hf (by omega) (by omega)
 rw [e] at this;exact this
theorem atn_row0 (d:Nat):atn d (rowP [])=0:=by cases d <;> simp [atn,rowP]
theorem kok_row0 (d:Nat):kok d (rowP []):=by cases d <;> simp [kok,rowP]
theorem ag_one (T:ByteArray) (names:List ByteArray) (hn:names.length<=7) (s:PS):AG s (s.one T names):=by
 intro hf h0 h4
 have ea:(s.known T names).a=s.a:=a_if' T s 3
 have hne:s.a ≠ 4:=by
  intro e
  have h1:((s.known T names).many T).f ≠ 0:=by unfold PS.many;rw [if_pos (by rw [ea];exact e)];exact fail_f T _ 6 (by decide)
  exact h1 hf
 have em:((s.known T names).many T).a=s.a:=(a_if T _ 6).trans ea
 have e1:(s.one T names).1.a=s.a+1:=by
  show IntKind.i64.wrap (((s.known T names).many T).a+1)=_
  rw [em];exact IntWalk.i64_in _ ⟨by omega,by omega⟩
 refine ⟨by omega,fun d=>?_⟩
 rw [e1]
 show (atn d (oneP (meaningP names (s.tk T)).1):Int)+s.a<=s.a+1/\kok d (oneP (meaningP names (s.tk T)).1)
 have hlt:=meaningP_lt names (s.tk T) hn
 cases d with
 | zero=>simp [atn,kok];omega
 | succ d=>simp [atn,kok,oneP,hlt];omega
theorem ag_bracket (T:ByteArray) (sub:PS->PS × Px) (_hs:PGood T sub) (_hf:FGood T sub) (ha:AGood T sub) (s:PS) (h:s.p<=T.size) (hz:Fz T s):AG s (s.bracket T sub):=by
 have h1:Goes T s (s.nest T):=goes_if 6 h
 have z1:Fz T (s.nest T):=hz.if_ 6
 have h2:=adv_need T [sgn 40] (s.nest T) h1.2.2
 have z2:Fz T (((s.nest T).need T [sgn 40]).inK):=z1.need h1.2.2 _
 have h3:=ha (((s.nest T).need T [sgn 40]).inK) h2.1.2.2 z2
 have ea:(((s.nest T).need T [sgn 40]).inK).a=s.a:=(a_need T _ _).trans (a_if T s 6)
 intro e h0 h4
 have k:=stk_need T [sgn 41] ((sub (((s.nest T).need T [sgn 40]).inK)).1.outK)
 have e':(sub (((s.nest T).need T [sgn 40]).inK)).1.f=0:=k.back e
 have h5:=(h3.pre ea) e' h0 h4
 have eb:(s.bracket T sub).1.a=(sub (((s.nest T).need T [sgn 40]).inK)).1.a:=a_need T _ _
 rw [eb];exact h5
theorem ag_atom (T:ByteArray) (names:List ByteArray) (hn:names.length<=7) (sub:PS->PS × Px) (hs:PGood T sub) (hf:FGood T sub) (ha:AGood T sub) (s:PS) (h:s.p<=T.size) (hz:Fz T s):AG s (s.atom T names sub):=by
 have h1:Goes T s (s.atomOk T):=goes_if' 2 h
 have z1:Fz T (s.atomOk T):=hz.if' 2
 have ea:(s.atomOk T).a=s.a:=a_if' T s 2
 unfold PS.atom
 split
 ·exact (ag_bracket T sub hs hf ha _ h1.2.2 z1).pre ea
 ·exact (ag_one T names hn _).pre ea
theorem ag_atom0 (T:ByteArray) (names:List ByteArray) (hn:names.length<=7) (s:PS) (_h:s.p<=T.size) (_hz:Fz T s):AG s (s.atom T names (fun s=>(s,rowP []))):=by
 have ea:(s.atomOk T).a=s.a:=a_if' T s 2
 unfold PS.atom
 split
 ·intro e h0 h4
  have eb:((s.atomOk T).bracket T (fun s=>(s,rowP []))).1.a=s.a:=by
   show ((((((s.atomOk T).nest T).need T [sgn 40]).inK).outK).need T [sgn 41]).a=s.a
   rw [a_need];show (((s.atomOk T).nest T).need T [sgn 40]).a=s.a
   rw [a_need];exact (a_if T _ 6).trans ea
  refine ⟨by omega,fun d=>?_⟩
  rw [eb]
  show (atn d (rowP []):Int)+s.a<=s.a/\kok d (rowP [])
  exact ⟨by rw [atn_row0];omega,kok_row0 d⟩
 ·exact (ag_one T names hn _).pre ea
theorem ag_partF (T:ByteArray) (s:PS) (q:PS × Px) (h:AG s q):AG s (PS.partF T q):=by
 have wrapd:∀ (x:Px),(∀ d,atn d x<=atn (d - 1) q.2/\(kok (d - 1) q.2->kok d x))->AG s (q.1.step T,x):=fun x hx hf h0 h4=>by
  have h1:=h hf h0 h4
  refine ⟨h1.1,fun d=>?_⟩
  have h2:=hx d
  have h3:=h1.2 (d - 1)
  refine ⟨?_,h2.2 h3.2⟩
  show (atn d x:Int)+s.a<=q.1.a
  have:=h3.1
  omega
 unfold PS.partF
 split
 ·exact wrapd _ fun d=>by
   cases d with
   | zero=>exact ⟨Nat.zero_le _,fun _=>trivial⟩
   | succ d=>simp [atn,kok,starP]
 ·split
  ·exact wrapd _ fun d=>by
    cases d with
    | zero=>exact ⟨Nat.zero_le _,fun _=>trivial⟩
    | succ d=>simp [atn,kok,plusP]
  ·split
   ·exact wrapd _ fun d=>by
     cases d with
     | zero=>exact ⟨Nat.zero_le _,fun _=>trivial⟩
     | succ d=>simp [atn,kok,maybeP,atn_row0,kok_row0]
   ·exact h
def LG (s:PS) (l:List Px) (q:PS × List Px):Prop:=q.1.f=0->0<=s.a->s.a<=4->q.1.a<=4/\∀ d,((q.2.map (atn d)).sum:Int)+s.a<=q.1.a+((l.map (atn d)).sum:Int)/\((∀ y ∈ l,kok d y)->∀ y ∈ q.2,kok d y)
theorem LG.refl (s:PS) (l:List Px):LG s l (s,l):=fun _ _ h4=>⟨h4,fun d=>⟨by show ((l.map (atn d)).sum:Int)+s.a<=s.a+((l.map (atn d)).sum:Int);omega,fun h=>h⟩⟩
theorem LG.step {s s1:PS} {x:Px} {l:List Px} {q:PS × List Px} (h1:AG s (s1,x)) (h2:LG s1 (l++[x]) q) (hb:q.1.f=0->s1.f=0):LG s l q:=fun hf h0 h4=>by
 have a1:=h1 (hb hf) h0 h4
 have e0:0≤s1.a:=by have h3:=(a1.2 0).1;have h4':(0:Int)≤(atn 0 (s1,x).2:Int):=by omega
                    show 0<=(s1,x).1.a;omega
 have a2:=h2 hf e0 a1.1
 refine ⟨a2.1,fun d=>?_⟩
 have b1:=a1.2 d
 have b2:=a2.2 d
 have es:((l++[x]).map (atn d)).sum=(l.map (atn d)).sum+atn d x:=by simp
 have b3:(atn d x:Int)+s.a<=s1.a:=b1.1
 rw [es] at b2
 refine ⟨by have:=b2.1;omega,fun hk=>b2.2 fun y hy=>?_⟩
 rw [List.mem_append] at hy
 rcases hy with hy | hy
 ·exact hk y hy
 ·simp at hy;subst hy;exact b1.2
theorem ag_rowL (T:ByteArray) (P:PS->PS × Px) (hP:PGood T P) (hf:FGood T P) (ha:AGood T P):∀ (g:Nat) (s:PS) (l:List Px),s.p<=T.size->Fz T s->LG s l (PS.rowL T P g s l):=by
 intro g
 induction g with
 | zero=>intro s l _ _;exact LG.refl s l
 | succ g ih =>
  intro s l hp h
  rw [PS.rowL]
  split
  ·have h1:=hf s hp h
   have h2:=ih (P s).1 (l++[(P s).2]) (hP s hp).2.2.1 h1.1
   exact LG.step (ha s hp h) h2 (fg_rowL T P hP hf g (P s).1 (l++[(P s).2]) (hP s hp).2.2.1 h1.1).2.back
  ·exact LG.refl s l
theorem ag_exprL (T:ByteArray) (P:PS->PS × Px) (hP:PGood T P) (hf:FGood T P) (ha:AGood T P):∀ (g:Nat) (s:PS) (l:List Px),s.p<=T.size->Fz T s->LG s l (PS.exprL T P g s l):=by
 intro g
 induction g with
 | zero=>intro s l _ _;exact LG.refl s l
 | succ g ih =>
  intro s l hp h
  rw [PS.exprL]
  split
  ·have h0:=(adv_step T s hp).1.2.2
   have h1:=hf (s.step T) h0 (h.step hp)
   have h2:=ih (P (s.step T)).1 (l++[(P (s.step T)).2]) (hP (s.step T) h0).2.2.1 h1.1
   exact LG.step ((ha (s.step T) h0 (h.step hp)).pre rfl) h2 (fg_exprL T P hP hf g _ (l++[(P (s.step T)).2]) (hP (s.step T) h0).2.2.1 h1.1).2.back
  ·exact LG.refl s l
theorem LG.all {s s1:PS} {x:Px} {q:PS × List Px} (h1:AG s (s1,x)) (h2:LG s1 [x] q) (hb:q.1.f=0->s1.f=0):LG s [] q:=LG.step (l:=[]) h1 h2 hb
theorem AG.of_list {s:PS} {q:PS × List Px} {y:Px} (h:LG s [] q) (hy:∀ d,atn d y<=(q.2.map (atn (d - 1))).sum\/q.2=[y]) (hk:∀ d,(∀ z ∈ q.2,kok (d - 1) z/\kok d z)->kok d y):AG s (q.1,y):=fun hf h0 h4=>by
 have h1:=h hf h0 h4
 refine ⟨h1.1,fun d=>?_⟩
 have b1:=h1.2 (d - 1)
 have b2:=h1.2 d
 refine ⟨?_,hk d fun z hz=>⟨b1.2 (fun _ h=>by simp at h) z hz,b2.2 (fun _ h=>by simp at h) z hz⟩⟩
 show (atn d y:Int)+s.a<=q.1.a
 rcases hy d with h2 | h2
 ·have:=b1.1;simp at this;omega
 ·have:=b2.1;rw [h2] at this;simp at this;omega
theorem ag_row (T:ByteArray) (P:PS->PS × Px) (hP:PGood T P) (hf:FGood T P) (ha:AGood T P):AGood T (PS.rowR T P):=fun s hp h=>by
 have h1:=hf s hp h
 have h2:=ag_rowL T P hP hf ha (T.size+1) (P s).1 [(P s).2] (hP s hp).2.2.1 h1.1
 have h3:=LG.all (ha s hp h) h2 (fg_rowL T P hP hf (T.size+1) (P s).1 [(P s).2] (hP s hp).2.2.1 h1.1).2.back
 refine AG.of_list h3 (fun d=>?_) (fun d hz=>?_)
 ·left
  cases d with
  | zero=>exact Nat.zero_le _
  | succ d=>simp [atn,rowP]
 ·cases d with
  | zero=>trivial
  | succ d=>simp only [kok,rowP];exact ⟨fun e=>by simp at e,fun y hy=>(hz y hy).1⟩
theorem ag_expr' (T:ByteArray) (P:PS->PS × Px) (hP:PGood T P) (hf:FGood T P) (ha:AGood T P):AGood T (PS.exprR T P):=fun s hp h=>by
 have h1:=hf s hp h
 have h2:=ag_exprL T P hP hf ha (T.size+1) (P s).1 [(P s).2] (hP s hp).2.2.1 h1.1
 have h3:=LG.all (ha s hp h) h2 (fg_exprL T P hP hf (T.size+1) (P s).1 [(P s).2] (hP s hp).2.2.1 h1.1).2.back
 unfold PS.exprR
 generalize PS.exprL T P (T.size+1) (P s).1 [(P s).2]=q at h3
 obtain ⟨s',l⟩:=q
 refine AG.of_list h3 (fun d=>?_) (fun d hz=>?_)
 ·match l with
  | [x]=>exact Or.inr rfl
  | []=>left;cases d <;> simp [atn,eitherP]
  | x :: y :: l=>left;cases d <;> simp [atn,eitherP]
 ·match l with
  | [x]=>exact (hz x List.mem_cons_self).2
  | []=>cases d <;> simp [kok,eitherP]
  | x :: y :: l =>
   cases d with
   | zero=>trivial
   | succ d=>simp only [kok,eitherP];exact ⟨fun e=>by simp at e,fun z hz'=>(hz z hz').1⟩
theorem ag_expr (T:ByteArray) (names:List ByteArray) (hn:names.length<=7):∀ n,AGood T (PS.expr T names n):=by
 intro n
 induction n with
 | zero =>
  have g0:PGood T (PS.partP T names (fun s=>(s,rowP []))):=good_adv.2 fun s h=>adv_partF T s _ (adv_atom0 T names s h)
  have f0:FGood T (PS.partP T names (fun s=>(s,rowP []))):=fun s hp h=>fg_partF T s _ (adv_atom0 T names s hp).1.2.2 (fg_atom0 T names s hp h)
  have a0:AGood T (PS.partP T names (fun s=>(s,rowP []))):=fun s hp h=>ag_partF T s _ (ag_atom0 T names hn s hp h)
  exact ag_expr' T _ (good_row T _ g0) (fg_row T _ g0 f0) (ag_row T _ g0 f0 a0)
 | succ n ih =>
  have g0:PGood T (PS.partP T names (PS.expr T names n)):=good_part T names _ (good_expr T names n)
  have f0:FGood T (PS.partP T names (PS.expr T names n)):=fun s hp h=>fg_partF T s _ (adv_atom T names _ (good_expr T names n) s hp).1.2.2 (fg_atom T names _ (good_expr T names n) (fg_expr T names n) s hp h)
  have a0:AGood T (PS.partP T names (PS.expr T names n)):=fun s hp h=>ag_partF T s _ (ag_atom T names hn _ (good_expr T names n) (fg_expr T names n) ih s hp h)
  exact ag_expr' T _ (good_row T _ g0) (fg_row T _ g0 f0) (ag_row T _ g0 f0 a0)
theorem side_few (T:ByteArray) (names:List ByteArray) (hn:names.length<=7) (x:ByteArray) (s:PS) (hp:s.p<=T.size) (h:Fz T s) (hf:(s.side T names x).1.f=0) (d:Nat):atn d (s.side T names x).2<=4/\kok d (s.side T names x).2:=by
 unfold PS.side at hf ⊢
 split at hf
 ·rename_i hm;rw [if_pos hm];exact ⟨by rw [atn_row0];omega,kok_row0 d⟩
 ·rename_i hm
  rw [if_neg hm]
  have h1:=ag_expr T names hn 5 s.zero hp h hf (Int.le_refl _) (by show (0:Int)<=4;decide)
  have h2:=h1.2 d
  have e:s.zero.a=0:=rfl
  exact ⟨by have:=h2.1;have:=h1.1;omega,h2.2⟩
theorem rule_few (T:ByteArray) (names:List ByteArray) (hn:names.length<=7) (hT:T.size<=1000) (n:Nat) (s:PS) (hp:s.p<=T.size) (h:Fz T s) (hf:(s.rule T names n).f=0):n ≠ 4/\RuleOk (ruleOf T names n s):=by
 have z1:Fz T (s.ruleN T n):=h.if_ 6
 have p1:(s.ruleN T n).p<=T.size/\s.p<=(s.ruleN T n).p:=p_if hp 6
 have z2:=z1.need p1.1 [wCut,wJoin]
 have p2:=need_p p1.1 [wCut,wJoin]
 have f3:=fg_side T names (sgn 124) _ p2.1 z2
 have p3:=side_goes T names (sgn 124) _ p2.1
 have z4:=f3.1.need p3.2 [sgn 124]
 have p4:=need_p p3.2 [sgn 124]
 have f5:=fg_side T names (sgn 59) _ p4.1 z4
 have e5:(s.ruleB T names n).1.f=0:=(stk_need T [sgn 59] _).back hf
 have e4:((s.ruleA T names n).1.need T [sgn 124]).f=0:=f5.2.back e5
 have e3:(s.ruleA T names n).1.f=0:=(stk_need T [sgn 124] _).back e4
 have e2:((s.ruleN T n).need T [wCut,wJoin]).f=0:=f3.2.back e3
 have e1:(s.ruleN T n).f=0:=(stk_need T [wCut,wJoin] _).back e2
 have hA:=side_few T names hn (sgn 124) _ p2.1 z2 e3 24
 have hB:=side_few T names hn (sgn 59) _ p4.1 z4 e5 24
 have wA:=side_wt T names (sgn 124) _ p2.1 hT 24
 have wB:=side_wt T names (sgn 59) _ p4.1 hT 24
 have mA:=make_sok _ hA.2 (Nat.le_trans wA (by omega)) hA.1
 have mB:=make_sok _ hB.2 (Nat.le_trans wB (by omega)) hB.1
 refine ⟨fun e=>?_,mA.1,mB.1,mA.2.1 true,mB.2.1 false,mB.2.1 true,mA.2.2,mB.2.2⟩
 have:(s.ruleN T n).f ≠ 0:=by unfold PS.ruleN;rw [if_pos e];exact fail_f T s 6 (by decide)
 exact this e1
theorem readR_few (T:ByteArray) (names:List ByteArray) (hn:names.length<=7) (hT:T.size<=1000):∀ (g:Nat) (s:PS) (L:List RuleM),s.p<=T.size->Fz T s->(readR T names g s L).1.f=0->L.length<=4->(∀ x ∈ L,RuleOk x)->(readR T names g s L).2.length<=4/\∀ x ∈ (readR T names g s L).2,RuleOk x:=by
 intro g
 induction g with
 | zero=>intro s L _ _ _ h1 h2;exact ⟨h1,h2⟩
 | succ g ih =>
  intro s L hp hz hf h1 h2
  rw [readR] at hf ⊢
  split at hf
  ·rename_i hm
   rw [if_pos hm]
   have hg:=rule_good T names L.length s hp hz
   have e:=(readR_stk T names g _ (L++[ruleOf T names L.length s]) hg.2.2.1 hg.1).back hf
   have hr:=rule_few T names hn hT L.length s hp hz e
   refine ih _ _ hg.2.2.1 hg.1 hf (by rw [List.length_append];have:=hr.1;simp;omega) fun x hx=>?_
   rw [List.mem_append] at hx
   rcases hx with hx | hx
   ·exact h2 x hx
   ·simp at hx;subst hx;exact hr.2
  ·rename_i hm;rw [if_neg hm];exact ⟨h1,h2⟩
theorem fz_spansL (T:ByteArray) (k:Nat):∀ (g:Nat) (s:PS) (l:List (Int × Int × Nat)),s.p<=T.size->Fz T s->Fz T (PS.spansL T k g s l).1/\(PS.spansL T k g s l).1.p<=T.size:=by
 intro g
 induction g with
 | zero=>intro s l hp h;exact ⟨h,hp⟩
 | succ g ih =>
  intro s l hp h
  rw [PS.spansL]
  split
  ·have h0:=(adv_step T s hp).1.2.2
   exact ih _ _ (span_p (s:=s.step T) h0 l).2.1 ((h.step hp).span h0 l)
  ·exact ⟨h,hp⟩
theorem klass_fz (T:ByteArray) (names:List ByteArray) (l:List (Int × Int × Nat)) (s:PS) (h:Fz T s) (hp:s.p<=T.size):Fz T (s.klass T names l):=by
 have hA:=classA_fz h hp names
 have h1:=span_p hA.2.1 l
 have h2:=fz_spansL T names.length (T.size+1) ((s.classA T names).span T l) (l++[((s.classA T names).spanX T,(s.classA T names).spanY T,names.length)]) h1.2.1 (hA.1.span hA.2.1 l)
 exact h2.1.need h2.2 [sgn 59]
theorem readC_few (T:ByteArray):∀ (g:Nat) (r:RD),r.s.p<=T.size->Fz T r.s->Fz T (readC T g r).s/\(readC T g r).s.p<=T.size/\Stk r.s (readC T g r).s/\((readC T g r).s.f=0->r.names.length<=6->(readC T g r).names.length<=6):=by
 intro g
 induction g with
 | zero=>intro r hp hz;exact ⟨hz,hp,Stk.refl _,fun _ h=>h⟩
 | succ g ih =>
  intro r hp hz
  rw [readC]
  split
  ·have h1:=ih ⟨r.s.klass T r.names r.l,r.names++[nameTok T r.names r.s],(r.s.classB T r.names r.l).2⟩ (class_p T r.names r.l r.s hz hp).1 (klass_fz T r.names r.l r.s hz hp)
   refine ⟨h1.1,h1.2.1,(stk_class T r.names r.l r.s).trans h1.2.2.1,fun hf hn=>h1.2.2.2 hf ?_⟩
   have:=class_six T r.names r.l r.s (h1.2.2.1.back hf)
   simp;omega
  ·exact ⟨hz,hp,Stk.refl _,fun _ h=>h⟩
theorem read_few (T:ByteArray) (h0:(rdT T).err=0):(read2 T).2.length<=4/\∀ x ∈ (read2 T).2,RuleOk x:=by
 obtain ⟨hT,hf,_⟩:=rd_zero h0
 have h2:(read2 T).1.f=0:=readEnd_f hf
 have hp:(read0 T).s.p<=T.size:=(skip_le T 0).2 (Nat.zero_le _)
 have h1:=readC_few T (T.size+1) (read0 T) hp (fun e=>absurd rfl e)
 have hs:=readR_stk T (read1 T).names (T.size+1) (read1 T).s [] h1.2.1 h1.1
 have hn:=h1.2.2.2 (hs.back h2) (by show (0:Nat)<=6;omega)
 exact readR_few T (read1 T).names (Nat.le_trans hn (by omega)) hT (T.size+1) (read1 T).s [] h1.2.1 h1.1 h2 (by simp) (by simp)
theorem spansL_few (T:ByteArray) (k:Nat):∀ (g:Nat) (s:PS) (l:List (Int × Int × Nat)),(PS.spansL T k g s l).2.length<=l.length+g/\∀ o ∈ (PS.spansL T k g s l).2,o ∈ l\/o.2.2=k:=by
 intro g
 induction g with
 | zero=>intro s l;exact ⟨Nat.le_refl _,fun o ho=>Or.inl ho⟩
 | succ g ih =>
  intro s l
  rw [PS.spansL]
  split
  ·have h:=ih ((s.step T).span T l) (l++[((s.step T).spanX T,(s.step T).spanY T,k)])
   refine ⟨by have:=h.1;simp at this;omega,fun o ho=>?_⟩
   rcases h.2 o ho with h1 | h1
   ·rw [List.mem_append] at h1
    rcases h1 with h1 | h1
    ·exact Or.inl h1
    ·simp at h1;right;rw [h1]
   ·exact Or.inr h1
  ·exact ⟨by show l.length<=_;omega,fun o ho=>Or.inl ho⟩
theorem readC_spans (T:ByteArray):∀ (g:Nat) (r:RD),r.s.p<=T.size->Fz T r.s->(readC T g r).s.f=0->r.names.length<=6->r.l.length<=r.names.length * (T.size+2)->(∀ o ∈ r.l,o.2.2<8)->(readC T g r).l.length<=(readC T g r).names.length * (T.size+2)/\∀ o ∈ (readC T g r).l,o.2.2<8:=by
 intro g
 induction g with
 | zero=>intro r _ _ _ _ h1 h2;exact ⟨h1,h2⟩
 | succ g ih =>
  intro r hp hz hf hn h1 h2
  rw [readC] at hf ⊢
  split at hf
  ·rename_i hm
   rw [if_pos hm]
   have hp':=(class_p T r.names r.l r.s hz hp).1
   have hz':=klass_fz T r.names r.l r.s hz hp
   have hc:=readC_few T g ⟨r.s.klass T r.names r.l,r.names++[nameTok T r.names r.s],(r.s.classB T r.names r.l).2⟩ hp' hz'
   have h6:=class_six T r.names r.l r.s (hc.2.2.1.back hf)
   have hs:=spansL_few T r.names.length (T.size+1) ((r.s.classA T r.names).span T r.l) (r.l++[((r.s.classA T r.names).spanX T,(r.s.classA T r.names).spanY T,r.names.length)])
   refine ih _ hp' hz' hf (by simp;omega) ?_ fun o ho=>?_
   ·have:=hs.1
    show ((r.s.classB T r.names r.l).2).length<=(r.names++[nameTok T r.names r.s]).length * (T.size+2)
    unfold PS.classB
    rw [List.length_append,List.length_singleton] at this
    rw [List.length_append,List.length_singleton,Nat.add_mul]
    omega
   ·rcases hs.2 o ho with h | h
    ·rw [List.mem_append] at h
     rcases h with h | h
     ·exact h2 o h
     ·simp at h;rw [h];show r.names.length<8;omega
    ·omega
  ·rename_i hm;rw [if_neg hm];exact ⟨h1,h2⟩
theorem read_spans (T:ByteArray) (h0:(rdT T).err=0):(read1 T).l.length<=100000/\∀ o ∈ (read1 T).l,o.2.2<8:=by
 obtain ⟨hT,hf,_⟩:=rd_zero h0
 have h2:(read2 T).1.f=0:=readEnd_f hf
 have hp:(read0 T).s.p<=T.size:=(skip_le T 0).2 (Nat.zero_le _)
 have hz:Fz T (read0 T).s:=fun e=>absurd rfl e
 have h1:=readC_few T (T.size+1) (read0 T) hp hz
 have hs:=readR_stk T (read1 T).names (T.size+1) (read1 T).s [] h1.2.1 h1.1
 have hf1:=hs.back h2
 have hn:(read1 T).names.length<=6:=h1.2.2.2 hf1 (by show (0:Nat)<=6;omega)
 have h3:=readC_spans T (T.size+1) (read0 T) hp hz hf1 (by show (0:Nat)<=6;omega) (by show (0:Nat)<=_;omega) (fun o ho=>by have:o ∈ ([]:List (Int × Int × Nat)):=ho;simp at this)
 refine ⟨Nat.le_trans h3.1 ?_,h3.2⟩
 have:(read1 T).names.length * (T.size+2)<=6 * 1002:=Nat.mul_le_mul hn (by omega)
 exact Nat.le_trans this (by omega)
end Go.Proofs.YtodagkkjfipbgaaGreatDoor
