import Derived.Test.YtodagkkjfipbgaaGreatDoorK4toK6
namespace Go.Proofs.YtodagkkjfipbgaaGreatDoor
open Go.RowKit
namespace PS
def partP (T:ByteArray) (names:List ByteArray) (sub:PS->PS × Px) (s:PS):PS × Px:=partF T (s.atom T names sub)
def exprAt (T:ByteArray) (names:List ByteArray) (sub:PS->PS × Px) (s:PS):PS × Px:=exprR T (rowR T (partP T names sub)) s
def expr (T:ByteArray) (names:List ByteArray):Nat->PS->PS × Px
 | 0,s=>exprAt T names (fun s=>(s,rowP [])) s
 | n+1,s=>exprAt T names (expr T names n) s
end PS
def Goes (T:ByteArray) (s s':PS):Prop:=s'.k=s.k/\s.p<=s'.p/\s'.p<=T.size
def Adv (T:ByteArray) (s s':PS):Prop:=Goes T s s'/\(s.p<T.size->s.p<s'.p)
theorem Goes.refl {T:ByteArray} {s:PS} (h:s.p<=T.size):Goes T s s:=⟨rfl,Nat.le_refl _,h⟩
theorem Goes.trans {T:ByteArray} {a b c:PS} (h:Goes T a b) (k:Goes T b c):Goes T a c:=⟨k.1.trans h.1,Nat.le_trans h.2.1 k.2.1,k.2.2⟩
theorem Adv.trans {T:ByteArray} {a b c:PS} (h:Adv T a b) (k:Goes T b c):Adv T a c:=⟨h.1.trans k,fun e=>Nat.lt_of_lt_of_le (h.2 e) k.2.1⟩
theorem Goes.adv {T:ByteArray} {a b c:PS} (h:Goes T a b) (k:Adv T b c):Adv T a c:=⟨h.trans k.1,fun e=>by
 have h1:=h.2.1;have h2:=k.1.2.1;have h3:=k.1.2.2;have h4:=h.2.2
 rcases Nat.lt_or_ge b.p T.size with h5 | h5
 ·have:=k.2 h5;omega
 ·omega⟩
theorem adv_fail (T:ByteArray) (s:PS) (no:Int) (h:s.p<=T.size):Adv T s (s.fail T no):=⟨⟨rfl,h,Nat.le_refl _⟩,fun e=>e⟩
theorem adv_step (T:ByteArray) (s:PS) (h:s.p<=T.size):Adv T s (s.step T):=⟨⟨rfl,(nextp_le T s.p h).2.1,(nextp_le T s.p h).1⟩,(nextp_le T s.p h).2.2⟩
theorem adv_need (T:ByteArray) (L:List ByteArray) (s:PS) (h:s.p<=T.size):Adv T s (s.need T L):=by
 unfold PS.need;split
 ·exact adv_step T s h
 ·exact adv_fail T s 2 h
theorem goes_if {T:ByteArray} {s:PS} {c:Prop} [Decidable c] (no:Int) (h:s.p<=T.size):Goes T s (if c then s.fail T no else s):=by
 split
 ·exact (adv_fail T s no h).1
 ·exact Goes.refl h
theorem goes_if' {T:ByteArray} {s:PS} {c:Prop} [Decidable c] (no:Int) (h:s.p<=T.size):Goes T s (if c then s else s.fail T no):=by
 split
 ·exact Goes.refl h
 ·exact (adv_fail T s no h).1
theorem adv_one (T:ByteArray) (names:List ByteArray) (s:PS) (h:s.p<=T.size):Adv T s (s.one T names).1:=by
 have h1:Goes T s (s.known T names):=goes_if' 3 h
 have h2:Goes T (s.known T names) ((s.known T names).many T):=goes_if 6 h1.2.2
 have h3:Goes T ((s.known T names).many T) ((s.known T names).many T).more:=⟨rfl,Nat.le_refl _,h2.2.2⟩
 exact ((h1.trans h2).trans h3).adv (adv_step T _ h2.2.2)
theorem adv_bracket (T:ByteArray) (sub:PS->PS × Px) (hs:PGood T sub) (s:PS) (h:s.p<=T.size):Adv T s (s.bracket T sub).1:=by
 have h1:Goes T s (s.nest T):=goes_if 6 h
 have h2:=adv_need T [sgn 40] (s.nest T) h1.2.2
 have h3:=hs (((s.nest T).need T [sgn 40]).inK) h2.1.2.2
 have h4:((sub (((s.nest T).need T [sgn 40]).inK)).1.outK).p<=T.size:=h3.2.2.1
 have h5:=adv_need T [sgn 41] _ h4
 have h12:=h1.adv h2
 have e1:(((s.nest T).need T [sgn 40]).inK).p=((s.nest T).need T [sgn 40]).p:=rfl
 have e2:((sub (((s.nest T).need T [sgn 40]).inK)).1.outK).p=(sub (((s.nest T).need T [sgn 40]).inK)).1.p:=rfl
 have e3:((sub (((s.nest T).need T [sgn 40]).inK)).1.outK).k=s.k:=by
  show (sub (((s.nest T).need T [sgn 40]).inK)).1.k - 1=s.k
  rw [h3.1]
  show ((s.nest T).need T [sgn 40]).k+1 - 1=s.k
  rw [h12.1.1];omega
 have a1:=h5.1.2.1;have a2:=h3.2.1;have a3:=h12.1.2.1;have a4:=h5.1.2.2
 refine ⟨⟨?_,?_,a4⟩,fun e=>?_⟩
 ·show ((sub (((s.nest T).need T [sgn 40]).inK)).1.outK.need T [sgn 41]).k=s.k
  rw [h5.1.1,e3]
 ·show s.p<=((sub (((s.nest T).need T [sgn 40]).inK)).1.outK.need T [sgn 41]).p
  omega
 ·show s.p<((sub (((s.nest T).need T [sgn 40]).inK)).1.outK.need T [sgn 41]).p
  have:=h12.2 e;omega
theorem adv_atom (T:ByteArray) (names:List ByteArray) (sub:PS->PS × Px) (hs:PGood T sub) (s:PS) (h:s.p<=T.size):Adv T s (s.atom T names sub).1:=by
 have h1:Goes T s (s.atomOk T):=goes_if' 2 h
 unfold PS.atom
 split
 ·exact h1.adv (adv_bracket T sub hs _ h1.2.2)
 ·exact h1.adv (adv_one T names _ h1.2.2)
theorem adv_partF (T:ByteArray) (s:PS) (q:PS × Px) (h:Adv T s q.1):Adv T s (PS.partF T q).1:=by
 have h1:=h.1.2.2
 unfold PS.partF
 split
 ·exact h.trans (adv_step T _ h1).1
 ·split
  ·exact h.trans (adv_step T _ h1).1
  ·split
   ·exact h.trans (adv_step T _ h1).1
   ·exact h
theorem good_adv {T:ByteArray} {P:PS->PS × Px}:PGood T P↔∀ s:PS,s.p<=T.size->Adv T s (P s).1 :=
 ⟨fun h s hs=>⟨⟨(h s hs).1,(h s hs).2.1,(h s hs).2.2.1⟩,(h s hs).2.2.2⟩,fun h s hs=>⟨(h s hs).1.1,(h s hs).1.2.1,(h s hs).1.2.2,(h s hs).2⟩⟩
theorem good_part (T:ByteArray) (names:List ByteArray) (sub:PS->PS × Px) (hs:PGood T sub):PGood T (PS.partP T names sub) :=
 good_adv.2 fun s h=>adv_partF T s _ (adv_atom T names sub hs s h)
theorem goes_rowL (T:ByteArray) (P:PS->PS × Px) (hP:PGood T P):∀ (g:Nat) (s:PS) (l:List Px),s.p<=T.size->Goes T s (PS.rowL T P g s l).1:=by
 intro g
 induction g with
 | zero=>intro s l h;exact Goes.refl h
 | succ g ih =>
  intro s l h
  rw [PS.rowL]
  split
  ·have h1:=good_adv.1 hP s h
   exact h1.1.trans (ih _ _ h1.1.2.2)
  ·exact Goes.refl h
theorem good_row (T:ByteArray) (P:PS->PS × Px) (hP:PGood T P):PGood T (PS.rowR T P) :=
 good_adv.2 fun s h=>(good_adv.1 hP s h).trans (goes_rowL T P hP _ _ _ (good_adv.1 hP s h).1.2.2)
theorem goes_exprL (T:ByteArray) (R:PS->PS × Px) (hR:PGood T R):∀ (g:Nat) (s:PS) (l:List Px),s.p<=T.size->Goes T s (PS.exprL T R g s l).1:=by
 intro g
 induction g with
 | zero=>intro s l h;exact Goes.refl h
 | succ g ih =>
  intro s l h
  rw [PS.exprL]
  split
  ·have h0:=adv_step T s h
   have h1:=good_adv.1 hR (s.step T) h0.1.2.2
   exact (h0.1.trans h1.1).trans (ih _ _ h1.1.2.2)
  ·exact Goes.refl h
theorem good_expr' (T:ByteArray) (R:PS->PS × Px) (hR:PGood T R):PGood T (PS.exprR T R) :=
 good_adv.2 fun s h=>(good_adv.1 hR s h).trans (goes_exprL T R hR _ _ _ (good_adv.1 hR s h).1.2.2)
theorem adv_atom0 (T:ByteArray) (names:List ByteArray) (s:PS) (h:s.p<=T.size):Adv T s (s.atom T names (fun s=>(s,rowP []))).1:=by
 have h1:Goes T s (s.atomOk T):=goes_if' 2 h
 unfold PS.atom
 split
 ·have h2:Goes T (s.atomOk T) ((s.atomOk T).nest T):=goes_if 6 h1.2.2
  have h3:=adv_need T [sgn 40] ((s.atomOk T).nest T) h2.2.2
  have h4:=adv_need T [sgn 41] (((((s.atomOk T).nest T).need T [sgn 40]).inK).outK) h3.1.2.2
  have h5:Adv T ((s.atomOk T).nest T) ((((((s.atomOk T).nest T).need T [sgn 40]).inK).outK).need T [sgn 41]):=by
   have e:((((((s.atomOk T).nest T).need T [sgn 40]).inK).outK)).p=(((s.atomOk T).nest T).need T [sgn 40]).p:=rfl
   have e2:((((((s.atomOk T).nest T).need T [sgn 40]).inK).outK)).k=(((s.atomOk T).nest T).need T [sgn 40]).k:=by
    show (((s.atomOk T).nest T).need T [sgn 40]).k+1 - 1=_
    omega
   have a1:=h4.1.2.1;have a2:=h3.1.2.1
   exact ⟨⟨by rw [h4.1.1,e2];exact h3.1.1,by omega,h4.1.2.2⟩,fun e'=>by have:=h3.2 e';omega⟩
  exact (h1.trans h2).adv h5
 ·exact h1.adv (adv_one T names _ h1.2.2)
theorem good_expr (T:ByteArray) (names:List ByteArray):∀ n,PGood T (PS.expr T names n):=by
 intro n
 induction n with
 | zero=>exact good_expr' T _ (good_row T _ (good_adv.2 fun s h=>adv_partF T s _ (adv_atom0 T names s h)))
 | succ n ih=>exact good_expr' T _ (good_row T _ (good_part T names _ ih))
theorem Ret.deeper {b c:Nat} {T:ByteArray} {names:List ByteArray} {vN vE vL:Value} {D E:Nat} {q:PS × Px} {w w':World} {r:Ending} (h:Ret b c T names vN vE vL D q w r w') (he:D<=E):Ret b c T names vN vE vL E q w r w':=by
 obtain ⟨v,h1,h2,h3,h4⟩:=h
 exact ⟨v,h1,h2,h3.deeper he,h4⟩
theorem atomOk_open {T:ByteArray} {s:PS} (h:memL [sgn 40] ((s.atomOk T).tk T)=true):s.atomOk T=s/\s.tk T=[40]:=by
 unfold PS.atomOk at h ⊢
 split at h
 ·rename_i hm
  rw [if_pos hm]
  rw [memL_sgn] at h
  exact ⟨rfl,by simpa using h⟩
 ·exfalso
  rw [memL_sgn] at h
  have:(s.fail T 2).tk T=[]:=tokp_end T
  rw [this] at h
  simp at h
theorem expr_ok (b c:Nat) (T:ByteArray) (names:List ByteArray) (vN vE vL:Value):∀ n,SubOk b c T names vN vE vL (4 * n+4) (okN n T) (PS.expr T names n):=by
 intro n
 induction n with
 | zero =>
  intro s w h hok
  refine expr_e b c T names vN vE vL 0 3 _ (good_row T _ (good_adv.2 fun s h=>adv_partF T s _ (adv_atom0 T names s h))) ?_ s w h hok
  intro s w h hok
  refine row_e b c T names vN vE vL 0 2 _ (good_adv.2 fun s h=>adv_partF T s _ (adv_atom0 T names s h)) ?_ s w h hok
  intro s w h hok
  refine part_e b c T names vN vE vL 0 s _ w h ?_
  refine atom_e b c T names vN vE vL 1 _ s w h (by omega) (fun hm=>?_)
  exfalso
  obtain ⟨_,e⟩:=atomOk_open hm
  have:=tk_lt h.rd.le e
  rcases hok with h1 | h1
  ·omega
  ·omega
 | succ n ih =>
  intro s w h hok
  refine expr_e b c T names vN vE vL (n+1) (4 * n+7) _ (good_row T _ (good_part T names _ (good_expr T names n))) ?_ s w h hok
  intro s w h hok
  refine row_e b c T names vN vE vL (n+1) (4 * n+6) _ (good_part T names _ (good_expr T names n)) ?_ s w h hok
  intro s w h hok
  refine part_e b c T names vN vE vL (4 * n+4) s _ w h ?_
  refine atom_e b c T names vN vE vL (4 * n+5) _ s w h (by omega) (fun hm w2 h2=>?_)
  obtain ⟨e1,e⟩:=atomOk_open hm
  rw [e1] at h2 ⊢
  have hlt:=tk_lt h.rd.le e
  have hk:s.k+(n+1:Nat)=5/\0<=s.k/\s.k<=4:=by
   rcases hok with h1 | h1
   ·omega
   ·exact h1
  have hg:Goes T s (s.nest T):=goes_if 6 h.rd.le
  have hn:=adv_need T [sgn 40] (s.nest T) hg.2.2
  have hkk:(((s.nest T).need T [sgn 40]).inK).k=s.k+1:=by
   show ((s.nest T).need T [sgn 40]).k+1=s.k+1
   rw [hn.1.1,hg.1]
  refine (bracket_e b c T names vN vE vL (4 * n+4) (okN n T) _ ih s w2 h2 hk.2.1 hk.2.2 ?_ ?_).mono fun r w' hr=>hr.deeper (by omega)
  ·by_cases h4:s.k=4
   ·left
    have e2:s.nest T=s.fail T 6:=by unfold PS.nest;rw [if_pos h4]
    have:T.size<=((s.nest T).need T [sgn 40]).p:=by have:=hn.1.2.1;rw [e2] at this ⊢;exact this
    have:=hn.1.2.2
    show ((s.nest T).need T [sgn 40]).p=T.size
    omega
   ·right
    rw [hkk]
    omega
  ·rw [(good_expr T names n (((s.nest T).need T [sgn 40]).inK) hn.1.2.2).1,hkk]
def endE (T:ByteArray) (p:Nat):Nat:=if p=T.size then 1 else 0
def WB (T:ByteArray) (s:PS) (q:PS × Px):Prop:=∀ d,wtx d q.2<=3 * (q.1.p - s.p)+endE T q.1.p
theorem endE_le (T:ByteArray) {p p':Nat} (h:p<=p') (h':p'<=T.size):endE T p<=endE T p':=by
 unfold endE;split <;> split <;> omega
theorem endE_lt (T:ByteArray) {p:Nat} (h:p<T.size):endE T p=0:=by unfold endE;rw [if_neg (by omega)]
theorem wtx_one (d k:Nat):wtx d (oneP k)<=1:=by
 cases d with
 | zero=>simp [wtx]
 | succ d=>simp [wtx,oneP]
theorem wtx_row (d:Nat) (l:List Px):wtx (d+1) (rowP l)=(l.map (wtx d)).sum:=by simp [wtx,rowP]
theorem wtx_row0 (d:Nat):wtx d (rowP [])=0:=by
 cases d with
 | zero=>rfl
 | succ d=>rw [wtx_row];rfl
theorem wb_one (T:ByteArray) (names:List ByteArray) (s:PS) (h:s.p<=T.size):WB T s (s.one T names):=by
 intro d
 have h1:=adv_one T names s h
 have h2:=wtx_one d (meaningP names (s.tk T)).1
 have h3:wtx d (s.one T names).2<=1:=h2
 have h4:=h1.1.2.1;have h5:=h1.1.2.2
 rcases Nat.lt_or_ge s.p T.size with h6 | h6
 ·have:=h1.2 h6;omega
 ·have e:(s.one T names).1.p=T.size:=by omega
  unfold endE;rw [if_pos e];omega
theorem wb_bracket (T:ByteArray) (sub:PS->PS × Px) (hs:PGood T sub) (hw:∀ s:PS,s.p<=T.size->WB T s (sub s)) (s:PS) (h:s.p<=T.size):WB T s (s.bracket T sub):=by
 intro d
 have h1:Goes T s (s.nest T):=goes_if 6 h
 have h2:=adv_need T [sgn 40] (s.nest T) h1.2.2
 have h3:=hs (((s.nest T).need T [sgn 40]).inK) h2.1.2.2
 have h4:((sub (((s.nest T).need T [sgn 40]).inK)).1.outK).p<=T.size:=h3.2.2.1
 have h5:=adv_need T [sgn 41] _ h4
 have h6:=hw (((s.nest T).need T [sgn 40]).inK) h2.1.2.2 d
 have e1:(((s.nest T).need T [sgn 40]).inK).p=((s.nest T).need T [sgn 40]).p:=rfl
 have e2:((sub (((s.nest T).need T [sgn 40]).inK)).1.outK).p=(sub (((s.nest T).need T [sgn 40]).inK)).1.p:=rfl
 have a1:=h5.1.2.1;have a2:=h3.2.1;have a3:=(h1.adv h2).1.2.1;have a4:=h5.1.2.2
 have e3:(s.bracket T sub).1.p=((sub (((s.nest T).need T [sgn 40]).inK)).1.outK.need T [sgn 41]).p:=rfl
 have e4:(s.bracket T sub).2=(sub (((s.nest T).need T [sgn 40]).inK)).2:=rfl
 rw [e3,e4]
 have:=endE_le T (p:=(sub (((s.nest T).need T [sgn 40]).inK)).1.p) (p':=((sub (((s.nest T).need T [sgn 40]).inK)).1.outK.need T [sgn 41]).p) (by omega) a4
 omega
theorem wb_goes {T:ByteArray} {s s1:PS} {q:PS × Px} (h:WB T s1 q) (hg:Goes T s s1):WB T s q:=by
 intro d
 have:=h d;have:=hg.2.1;omega
theorem wb_atom (T:ByteArray) (names:List ByteArray) (sub:PS->PS × Px) (hs:PGood T sub) (hw:∀ s:PS,s.p<=T.size->WB T s (sub s)) (s:PS) (h:s.p<=T.size):WB T s (s.atom T names sub):=by
 have h1:Goes T s (s.atomOk T):=goes_if' 2 h
 unfold PS.atom
 split
 ·exact wb_goes (wb_bracket T sub hs hw _ h1.2.2) h1
 ·exact wb_goes (wb_one T names _ h1.2.2) h1
theorem wb_suf (T:ByteArray) (s:PS) (q:PS × Px) (c:UInt8) (h:q.1.tk T=[c]) (ha:Adv T s q.1) (hw:WB T s q) (y:Px) (hy:∀ d,wtx d y<=3+wtx (d - 1) q.2):WB T s (q.1.step T,y):=by
 intro d
 have h1:=tk_lt ha.1.2.2 h
 have h2:=adv_step T q.1 ha.1.2.2
 have h3:=h2.2 h1
 have h4:=hw (d - 1)
 have h5:=hy d
 rw [endE_lt T h1] at h4
 have h6:=ha.1.2.1
 show wtx d y<=3 * ((q.1.step T).p - s.p)+endE T (q.1.step T).p
 omega
theorem wb_partF (T:ByteArray) (s:PS) (q:PS × Px) (ha:Adv T s q.1) (hw:WB T s q):WB T s (PS.partF T q):=by
 unfold PS.partF
 split
 ·rename_i e
  refine wb_suf T s q 42 e ha hw _ fun d=>?_
  cases d with
  | zero=>simp [wtx]
  | succ d=>simp [wtx,starP]
 ·split
  ·rename_i e
   refine wb_suf T s q 43 e ha hw _ fun d=>?_
   cases d with
   | zero=>simp [wtx]
   | succ d=>simp [wtx,plusP]
  ·split
   ·rename_i e
    refine wb_suf T s q 63 e ha hw _ fun d=>?_
    cases d with
    | zero=>simp [wtx]
    | succ d =>
     have:=wtx_row0 d
     simp [wtx,maybeP];omega
   ·exact hw
theorem sum_snoc (f:Px->Nat) (l:List Px) (x:Px):((l++[x]).map f).sum=(l.map f).sum+f x:=by simp
theorem wb_rowL (T:ByteArray) (P:PS->PS × Px) (hP:PGood T P) (hw:∀ s:PS,s.p<=T.size->WB T s (P s)) (p0 d:Nat):∀ (g:Nat) (s:PS) (l:List Px),s.p<=T.size->p0<=s.p ->
  (l.map (wtx d)).sum<=3 * (s.p - p0)+endE T s.p->((PS.rowL T P g s l).2.map (wtx d)).sum<=3 * ((PS.rowL T P g s l).1.p - p0)+endE T (PS.rowL T P g s l).1.p:=by
 intro g
 induction g with
 | zero=>intro s l _ _ h;exact h
 | succ g ih =>
  intro s l hs h0 h
  rw [PS.rowL]
  split
  ·rename_i hm
   have h1:=isAtom_lt hs hm
   have h2:=good_adv.1 hP s hs
   have h3:=hw s hs d
   have h4:=h2.1.2.1
   rw [endE_lt T h1] at h
   refine ih _ _ h2.1.2.2 (by omega) ?_
   rw [sum_snoc];omega
  ·exact h
theorem wb_row (T:ByteArray) (P:PS->PS × Px) (hP:PGood T P) (hw:∀ s:PS,s.p<=T.size->WB T s (P s)) (s:PS) (h:s.p<=T.size):WB T s (PS.rowR T P s):=by
 intro d
 cases d with
 | zero=>simp [wtx]
 | succ d =>
  have h2:=good_adv.1 hP s h
  have:=wb_rowL T P hP hw s.p d (T.size+1) (P s).1 [(P s).2] h2.1.2.2 h2.1.2.1 (by simpa using hw s h d)
  show wtx (d+1) (rowP (PS.rowL T P (T.size+1) (P s).1 [(P s).2]).2)<=_
  rw [wtx_row];exact this
theorem exprL_len (T:ByteArray) (R:PS->PS × Px):∀ (g:Nat) (s:PS) (l:List Px),1<=l.length->1<=(PS.exprL T R g s l).2.length:=by
 intro g
 induction g with
 | zero=>intro s l h;exact h
 | succ g ih =>
  intro s l h
  rw [PS.exprL]
  split
  ·exact ih _ _ (by simp)
  ·exact h
theorem wb_exprL (T:ByteArray) (R:PS->PS × Px) (hR:PGood T R) (hw:∀ s:PS,s.p<=T.size->WB T s (R s)) (p0 d:Nat):∀ (g:Nat) (s:PS) (l:List Px),s.p<=T.size->p0<=s.p->1<=l.length ->
  (l.map (wtx d)).sum+3 * (l.length - 1)<=3 * (s.p - p0)+endE T s.p->((PS.exprL T R g s l).2.map (wtx d)).sum+3 * ((PS.exprL T R g s l).2.length - 1)<=3 * ((PS.exprL T R g s l).1.p - p0)+endE T (PS.exprL T R g s l).1.p:=by
 intro g
 induction g with
 | zero=>intro s l _ _ _ h;exact h
 | succ g ih =>
  intro s l hs h0 hl h
  rw [PS.exprL]
  split
  ·rename_i hm
   have h1:=tk_lt hs hm
   have h2:=adv_step T s hs
   have h3:=good_adv.1 hR (s.step T) h2.1.2.2
   have h4:=hw (s.step T) h2.1.2.2 d
   have h5:=h2.2 h1
   have h6:=h3.1.2.1
   rw [endE_lt T h1] at h
   refine ih _ _ h3.1.2.2 (by omega) (by simp) ?_
   rw [sum_snoc,List.length_append]
   simp only [List.length_cons,List.length_nil]
   omega
  ·exact h
theorem sum_plus (d:Nat) (l:List Px):(l.map fun y=>1+wtx d y).sum=l.length+(l.map (wtx d)).sum:=by
 induction l with
 | nil=>rfl
 | cons a l ih=>rw [List.map_cons,List.sum_cons,ih,List.map_cons,List.sum_cons,List.length_cons];omega
theorem wb_expr' (T:ByteArray) (R:PS->PS × Px) (hR:PGood T R) (hw:∀ s:PS,s.p<=T.size->WB T s (R s)) (s:PS) (h:s.p<=T.size):WB T s (PS.exprR T R s):=by
 intro d
 have h2:=good_adv.1 hR s h
 have key:∀ d,_:=fun d=>wb_exprL T R hR hw s.p d (T.size+1) (R s).1 [(R s).2] h2.1.2.2 h2.1.2.1 (by simp) (by simpa using hw s h d)
 have hl:=exprL_len T R (T.size+1) (R s).1 [(R s).2] (by simp)
 show wtx d (eitherP (PS.exprL T R (T.size+1) (R s).1 [(R s).2]).2)<=3 * ((PS.exprL T R (T.size+1) (R s).1 [(R s).2]).1.p - s.p)+endE T (PS.exprL T R (T.size+1) (R s).1 [(R s).2]).1.p
 obtain ⟨q,hq⟩:∃ q,q=PS.exprL T R (T.size+1) (R s).1 [(R s).2]:=⟨_,rfl⟩
 rw [<- hq] at hl ⊢
 simp only [<- hq] at key
 by_cases h1:q.2.length=1
 ·obtain ⟨x,hx⟩:=List.length_eq_one_iff.1 h1
  rw [hx,eitherP_one]
  have:=key d
  rw [hx] at this
  simpa using this
 ·rw [eitherP_ne _ h1]
  cases d with
  | zero=>simp [wtx]
  | succ d =>
   have:=key d
   have e:wtx (d+1) ⟨2,0,q.2⟩=1+(q.2.map fun y=>1+wtx d y).sum:=by rw [wtx];simp
   rw [e,sum_plus]
   omega
theorem wb_atom0 (T:ByteArray) (names:List ByteArray) (s:PS) (h:s.p<=T.size):WB T s (s.atom T names (fun s=>(s,rowP []))):=by
 have h1:Goes T s (s.atomOk T):=goes_if' 2 h
 unfold PS.atom
 split
 ·intro d
  show wtx d (rowP [])<=_
  rw [wtx_row0];omega
 ·exact wb_goes (wb_one T names _ h1.2.2) h1
theorem wb_expr (T:ByteArray) (names:List ByteArray):∀ (n:Nat) (s:PS),s.p<=T.size->WB T s (PS.expr T names n s):=by
 intro n
 induction n with
 | zero =>
  have g0:PGood T (PS.partP T names (fun s=>(s,rowP []))):=good_adv.2 fun s h=>adv_partF T s _ (adv_atom0 T names s h)
  exact fun s h=>wb_expr' T _ (good_row T _ g0) (fun s h=>wb_row T _ g0 (fun s h=>wb_partF T s _ (adv_atom0 T names s h) (wb_atom0 T names s h)) s h) s h
 | succ n ih =>
  have g0:PGood T (PS.partP T names (PS.expr T names n)):=good_part T names _ (good_expr T names n)
  exact fun s h=>wb_expr' T _ (good_row T _ g0) (fun s h=>wb_row T _ g0 (fun s h=>wb_partF T s _ (adv_atom T names _ (good_expr T names n) s h) (wb_atom T names _ (good_expr T names n) ih s h)) s h) s h
def PS.zero (s:PS):PS:={ s with a:=0,k:=0 }
def PS.side (T:ByteArray) (names:List ByteArray) (x:ByteArray) (s:PS):PS × Px:=if memL [x] (s.tk T)=true then (s,rowP []) else PS.expr T names 5 s.zero
theorem side_wt (T:ByteArray) (names:List ByteArray) (x:ByteArray) (s:PS) (h:s.p<=T.size) (hT:T.size<=1000) (d:Nat):wtx d (s.side T names x).2<=3001:=by
 unfold PS.side
 split
 ·rw [wtx_row0];omega
 ·have h1:=wb_expr T names 5 s.zero h d
  have h2:=(good_expr T names 5 s.zero h).2.2.1
  have:endE T (PS.expr T names 5 s.zero).1.p<=1:=by unfold endE;split <;> omega
  omega
theorem side_goes (T:ByteArray) (names:List ByteArray) (x:ByteArray) (s:PS) (h:s.p<=T.size):s.p<=(s.side T names x).1.p/\(s.side T names x).1.p<=T.size:=by
 unfold PS.side
 split
 ·exact ⟨Nat.le_refl _,h⟩
 ·have:=good_expr T names 5 s.zero h
  exact ⟨this.2.1,this.2.2.1⟩
set_option maxRecDepth 100000 in
set_option maxHeartbeats 2000000 in
theorem side_any (b:Nat) (T:ByteArray) (names:List ByteArray) (vN vE vL:Value) (x:ByteArray) (s:PS) (w:World) (h:RAt w b T vN vE vL s) (hN:w.ownsRow 0 9 1 vN names.length (names.map .string)) (hl:names.length<=7) :
  Calls Tryz.prog 132 #[.pointer (some ⟨b,0,none⟩),.string x] w fun r w'=>∃ v,r=.returned v/\RAt w' b T vN vE vL (s.side T names x).1/\PIn 24 (From w.heap.size) w' v (s.side T names x).2/\Chg (fun k=>k=b) w w':=by
 have HH:Hid (RAt w b T vN vE vL s):=h
 have HN:Hid (w.ownsRow 0 9 1 vN names.length (names.map .string)):=hN
 clear h hN
 go_enter Tryz.func132,Tryz.ntmps132
 go_wp2_with fail
 refine (is_new b T vN vE vL s [x] w HH.out (by simp) (by simp)).mono ?_
 rintro r w1 ⟨rfl,b1⟩
 have H1:Hid (RAt w1 b T vN vE vL s):=HH.out.later b1
 have N1:Hid (w1.ownsRow 0 9 1 vN names.length (names.map .string)):=row_kp HN.out (Kp.below b1)
 cases hm:memL [x] (s.tk T)
 ·have e:Hid (s.side T names x=PS.expr T names 5 s.zero):=by show _=_;unfold PS.side;rw [hm];rfl
  go_wp2_with fail
  have b2:=below_alloc w1 (.cells #[.int .i64 0,.int .i64 0] 289)
  have hE:EAt (w1.alloc (.cells #[.int .i64 0,.int .i64 0] 289)) b w1.heap.size T names vN vE vL s.zero :=
   ⟨⟨(H1.out.later b2).blk,HH.out.le,HH.out.short⟩,heap_alloc_new _ _,row_kp N1.out (Kp.below b2),hl⟩
  refine (expr_ok b w1.heap.size T names vN vE vL 5 s.zero _ hE (Or.inr ⟨rfl,by show (0:Int)<=0;omega,by show (0:Int)<=4;omega⟩)).mono ?_
  rintro r w3 hr
  obtain ⟨v,rfl,h3,p3,c3⟩:=hr
  have H3:Hid (RAt w3 b T vN vE vL (PS.expr T names 5 s.zero).1):=h3.rd
  have P3:Hid (PIn 24 (From w.heap.size) w3 v (PS.expr T names 5 s.zero).2):=p3.from (Nat.le_trans b1.size b2.size)
  have C3:Hid (Chg (fun k=>k=b) w w3):=by
   have c2:Chg (fun k=>k=b) w (w1.alloc (.cells #[.int .i64 0,.int .i64 0] 289)):=(Chg.of_below b1).alloc _
   refine ⟨c3.os.trans c2.os,c3.tape.trans c2.tape,c3.output.trans c2.output,Nat.le_trans c2.size c3.size,fun k hk hp=>?_⟩
   have hs:=b1.size
   rw [Chg.block c3 k (Nat.lt_of_lt_of_le hk c2.size) (fun e=>by rcases e with e | e;exact hp e;omega)]
   exact c2.block k hk hp
  clear h3 p3 c3 hE b2
  go_wp2_with fail
  go_ret
  rw [e.out]
  exact ⟨v,rfl,H3.out,P3.out,C3.out⟩
 ·have e:Hid (s.side T names x=(s,rowP [])):=by show _=_;unfold PS.side;rw [hm];rfl
  go_wp2_with fail
  refine (rowp_any w.heap.size 23 [] (.slice none 0 0) w1 (PtRow_nil _ _ _) b1.size).mono ?_
  rintro r w2 ⟨v,rfl,p2,b2⟩
  have P2:Hid (PIn 24 (From w.heap.size) w2 v (rowP [])):=p2
  clear p2
  go_wp2_with fail
  go_ret
  rw [e.out]
  exact ⟨v,rfl,H1.out.later b2,P2.out,(Chg.of_below b1).trans (Chg.of_below b2)⟩
theorem step_fn1 {P:Program} {w:World} {ops:Array Oper} {o:Oper} {a:Act} {K:Act->World->Prop} {Q:Exit->Act->World->Prop} {E:Prop} (hgd:o.guard=none) (f:Nat) (x:Operand) (ts:Array TypeId)
  (ho:o.op=.call { callee:=.value (.func f),args:=#[x],argTypes:=ts }) (he:Go.Proofs.Enters P f) (v0:Value) (hx:a.eval x=v0) (R:Ending->World->Prop) (hc:Calls P f #[v0] w R)
  (hK:∀ e w',R e w'->∃ v,e=.returned v/\K (a.put o.dst v) w') :
  if Region.wanted o (yielded ops a.tmps)=true then Oper.wp P o a w K Q else E:=by
 have hw:Region.wanted o (yielded ops a.tmps)=true:=by simp [Region.wanted,hgd]
 rw [if_pos hw]
 unfold Go.Proofs.Enters at he
 unfold Oper.wp execOp
 have hfe:a.eval (.func f)=.func (.func f) #[] #[]:=rfl
 simp [ho,resolve,invoke,hx,hfe,Deferred.ofValue,he,Oper.upon_enter]
 refine hc.mono ?_
 intro e w' hr
 obtain ⟨v,rfl,hk⟩:=hK e w' hr
 exact hk
end Go.Proofs.YtodagkkjfipbgaaGreatDoor
