import Derived.Test.YtodagkkjfipbgaaGreatDoorA30toZ1
namespace Go.Proofs.YtodagkkjfipbgaaGreatDoor
open Go.RowKit
theorem spansL_stop {T:ByteArray} {k g:Nat} {p:PS} {l:List (Int × Int × Nat)} (h:p.tk T ≠ [44]):PS.spansL T k g p l=(p,l):=by
 cases g with
 | zero=>rfl
 | succ g=>rw [PS.spansL,if_neg h]
theorem spans_z {T:ByteArray} {k:Nat}:∀ (g:Nat) (s:RS) (p:PS) (l:List (Int × Int × Nat)) (g':Nat),Okz T s p→s.spans=spI l→s.names.length=k+1→T.size<p.p+g→T.size<p.p+g' →
  (Okz T (RS.spansL T g s) ((PS.spansL T k g' (p.span T l) (l++[(p.spanX T,p.spanY T,k)])).1.need T [sgn 59])∧(RS.spansL T g s).spans=spI (PS.spansL T k g' (p.span T l) (l++[(p.spanX T,p.spanY T,k)])).2∧(RS.spansL T g s).names=s.names) ∨
  Badz T (RS.spansL T g s) ((PS.spansL T k g' (p.span T l) (l++[(p.spanX T,p.spanY T,k)])).1.need T [sgn 59]):=by
 intro g
 induction g with
 | zero=>intro s p l g' h _ _ hg;have:=okz_le h;omega
 | succ g ih =>
  intro s p l g' h hs hn hg hg'
  have hle:=okz_le h
  have hsp:=span_p hle l
  rw [RS.spansL,if_neg (by rw [h.1];simp)]
  simp only
  rcases span_z h hs hn with ⟨h1,s1,n1⟩ | hbad
  ·rw [if_neg (by rw [h1.1];simp)]
   have ht:=okz_tk h1
   by_cases e59:(s.span T).tk T=[59]
   ·rw [if_pos e59]
    have e:(p.span T l).tk T=[59]:=by rw [← ht];exact e59
    rw [spansL_stop (by rw [e];decide)]
    left
    rcases okz_want h1 59 with ⟨_,w2,w3⟩ | ⟨w1,_⟩
    ·rw [w2] at w3
     exact ⟨w3,s1,n1⟩
    ·exact absurd e w1
   ·rw [if_neg e59]
    by_cases e44:(s.span T).tk T=[44]
    ·rw [if_pos e44]
     have e:(p.span T l).tk T=[44]:=by rw [← ht];exact e44
     have hlt:=tk_lt (okz_le h1) e
     have hnx:=nextp_le T (p.span T l).p (okz_le h1)
     obtain ⟨g'',rfl⟩:∃ g'',g'=g''+1:=⟨g' - 1,by omega⟩
     rw [PS.spansL,if_pos e]
     have hst:((p.span T l).step T).p=nextp T (p.span T l).p:=rfl
     have hadv:=hnx.2.2 hlt
     have:=ih ((s.span T).take T) ((p.span T l).step T) (l++[(p.spanX T,p.spanY T,k)]) g'' (okz_take h1) s1 (by show (s.span T).names.length=_;rw [n1];exact hn) (by omega) (by omega)
     rcases this with ⟨a1,a2,a3⟩ | a1
     ·left;exact ⟨a1,a2,by rw [a3];exact n1⟩
     ·right;exact a1
    ·rw [if_neg e44]
     have e:(p.span T l).tk T ≠ [44]:=by rw [← ht];exact e44
     have e':(p.span T l).tk T ≠ [59]:=by rw [← ht];exact e59
     rw [spansL_stop e]
     right
     have e2:(p.span T l).need T [sgn 59]=(p.span T l).fail T 2:=by unfold PS.need;rw [memL_sgn];simp [e']
     have hb:=badz_fail (T:=T) (s:=(s.span T).take T) h1.1 h1.2.1 2 (by decide) ((s.span T).pos T:Int) (okz_pos h1)
     have e3:RS.spansL T g (((s.span T).take T).fail 2 ((s.span T).pos T))=((s.span T).take T).fail 2 ((s.span T).pos T):=by
      cases g with
      | zero=>rfl
      | succ g=>rw [RS.spansL,if_pos hb.1]
     rw [e3,e2];exact hb
  ·right
   rw [if_pos hbad.1,spansL_stop (by rw [badz_tk hbad];decide)]
   exact badz_keep hbad rfl rfl (stk_need T _ _) ((badz_fz hbad).need (by rw [hbad.2.2.2];omega) _)
theorem tokp_head {T:ByteArray} {p:Nat} (h:p<T.size):(tokp T p).toList ≠ []∧((tokp T p).toList.headD 0).toNat=at0 T p:=by
 have h1:=(tokEnd_le T p).2.2 h
 have h2:=(tokEnd_le T p).2.1 (by omega)
 have hsz:0<(tokp T p).size:=by unfold tokp;rw [ByteArray.size_extract];omega
 constructor
 ·intro e
  have:(tokp T p).toList.length=0:=by rw [e];rfl
  rw [ByteArray.toList_eq] at this
  simp at this
  have e2:(tokp T p).size=(tokp T p).data.size:=rfl
  rw [e2,this] at hsz
  simp at hsz
 ·have e:∀ (x:ByteArray) (hx:0<x.size),x=T.extract p (tokEnd T p)→x[0]'hx=T[p]'h:=by
   intro x hx e;subst e;rw [ByteArray.getElem_extract];simp
  rw [headD_bytes _ hsz,at0_eq h,e _ hsz rfl]
theorem nameL_word (T:ByteArray) (p:Nat) (hp:p≤T.size):nameL (tokp T p).toList=(wordp T p && !memL six (tokp T p).toList):=by
 have hsix:memL six (tokp T p).toList=true↔((tokp T p).toList=[99,108,97,115,115]∨(tokp T p).toList=[99,117,116]∨(tokp T p).toList=[106,111,105,110]∨(tokp T p).toList=[97,110,121]∨(tokp T p).toList=[111,116,104,101,114]∨(tokp T p).toList=[98,97,100]):=by
  rw [memL_iff]
  unfold six wClass wCut wJoin wAny wOther wBad
  simp only [List.mem_cons,List.not_mem_nil,or_false]
  constructor
  ·rintro ⟨x,(rfl | rfl | rfl | rfl | rfl | rfl),hx⟩ <;> rw [ByteArray.toList_eq] at hx <;> simp [← hx]
  ·rintro (h | h | h | h | h | h)
   ·exact ⟨_,Or.inl rfl,by rw [ByteArray.toList_eq];exact h.symm⟩
   ·exact ⟨_,Or.inr (Or.inl rfl),by rw [ByteArray.toList_eq];exact h.symm⟩
   ·exact ⟨_,Or.inr (Or.inr (Or.inl rfl)),by rw [ByteArray.toList_eq];exact h.symm⟩
   ·exact ⟨_,Or.inr (Or.inr (Or.inr (Or.inl rfl))),by rw [ByteArray.toList_eq];exact h.symm⟩
   ·exact ⟨_,Or.inr (Or.inr (Or.inr (Or.inr (Or.inl rfl)))),by rw [ByteArray.toList_eq];exact h.symm⟩
   ·exact ⟨_,Or.inr (Or.inr (Or.inr (Or.inr (Or.inr rfl)))),by rw [ByteArray.toList_eq];exact h.symm⟩
 unfold nameL
 rcases Nat.lt_or_ge p T.size with hlt | hge
 ·obtain ⟨hne,hhd⟩:=tokp_head hlt
  cases hm:memL six (tokp T p).toList
  ·rw [if_neg (by rintro (h | h);exact hne h;exact absurd (hsix.2 h) (by rw [hm];simp)),hhd]
   unfold wordp
   simp
   omega
  ·rw [if_pos (Or.inr (hsix.1 hm))];simp
 ·have e:p=T.size:=by omega
  rw [e,tokp_end,if_pos (Or.inl rfl)]
  unfold wordp;simp
theorem class_word {T:ByteArray} {p:PS} (h:memL [wClass] (p.tk T)=true):p.tk T=[99,108,97,115,115]:=by
 rw [memL_iff] at h
 obtain ⟨x,hx,hx2⟩:=h
 simp at hx
 subst hx
 rw [← hx2];unfold wClass;rw [ByteArray.toList_eq]
def NamesOk (names:List ByteArray):Prop:=∀ x ∈ names,nameL x.toList=true
theorem spansL_fz {T:ByteArray} {k:Nat}:∀ (g:Nat) (p:PS) (l:List (Int × Int × Nat)),p.p≤T.size→Fz T p→Fz T (PS.spansL T k g p l).1∧(PS.spansL T k g p l).1.p≤T.size:=by
 intro g
 induction g with
 | zero=>intro p l hp h;exact ⟨h,hp⟩
 | succ g ih =>
  intro p l hp h
  rw [PS.spansL]
  split
  ·have h1:=(nextp_le T p.p hp).1
   exact ih _ _ (span_p (s:=p.step T) h1 l).2.1 ((h.step hp).span h1 l)
  ·exact ⟨h,hp⟩
theorem class_fz {T:ByteArray} {p:PS} (h:Fz T p) (hp:p.p≤T.size) (names:List ByteArray) (l:List (Int × Int × Nat)):Fz T (p.klass T names l):=by
 have hA:=classA_fz h hp names
 have h2:=spansL_fz (T:=T) (k:=names.length) (T.size+1) ((p.classA T names).span T l) (l++[((p.classA T names).spanX T,(p.classA T names).spanY T,names.length)]) (span_p hA.2.1 l).2.1 (hA.1.span hA.2.1 l)
 exact h2.1.need h2.2 _
theorem class_z {T:ByteArray} {s:RS} {p:PS} {l:List (Int × Int × Nat)} (h:Okz T s p) (hs:s.spans=spI l) (hm:memL [wClass] (p.tk T)=true) (hno:NamesOk s.names) :
  (Okz T (s.classes T) (p.klass T s.names l)∧(s.classes T).spans=spI (p.classB T s.names l).2∧(s.classes T).names=s.names++[nameTok T s.names p]∧NamesOk (s.classes T).names)∨Badz T (s.classes T) (p.klass T s.names l):=by
 have hle:=okz_le h
 have hfz:=okz_fz h
 have hcf:=class_fz hfz hle s.names l
 unfold RS.classes
 simp only
 by_cases h6:s.names.length=6
 ·rw [if_pos (by show (s.take T).names.length=6;exact h6)]
  right
  have hb:=badz_fail (T:=T) (s:=s.take T) h.1 h.2.1 6 (by decide) (s.pos T:Int) (okz_pos h)
  have ec:p.classN T s.names.length=p.fail T 6:=by unfold PS.classN;rw [if_pos h6]
  have k1:Stk (p.fail T 6) (p.klass T s.names l):=by
   rw [← ec]
   exact ((((stk_need T _ _).trans (stk_newName T s.names _)).trans (stk_need T _ _)).trans (stk_span T l _)).trans ((stk_spansL T s.names.length (T.size+1) _ _).trans (stk_need T _ _))
  exact badz_keep hb rfl rfl k1 hcf
 ·rw [if_neg (by show ¬ (s.take T).names.length=6;exact h6)]
  have h1:=okz_take h
  have ec:(p.classN T s.names.length).need T [wClass]=p.step T:=by
   have:p.classN T s.names.length=p:=by unfold PS.classN;rw [if_neg h6]
   rw [this];unfold PS.need;rw [hm];rfl
  have hnt:nameTok T s.names p=tok T (s.take T).at_:=by unfold nameTok;rw [ec];unfold tokp tok;rw [h1.2.2.1]
  have ht:=okz_tk h1
  have hq:=okz_pos h1
  have hle1:=okz_le h1
  have hnl:nameL ((s.take T).tk T)=(wordp T (p.step T).p && !memL six ((p.step T).tk T)):=by rw [ht];exact nameL_word T _ hle1
  have h2:=okz_take h1
  have rest:∀ (q:PS),Stk q ((p.step T).newName T s.names)→Stk q (p.klass T s.names l):=by
   intro q hk
   have e:p.klass T s.names l=((PS.spansL T s.names.length (T.size+1) ((((p.step T).newName T s.names).need T [sgn 61]).span T l) (l++[((((p.step T).newName T s.names).need T [sgn 61]).spanX T,(((p.step T).newName T s.names).need T [sgn 61]).spanY T,s.names.length)])).1).need T [sgn 59]:=by
    unfold PS.klass PS.classB PS.classA;rw [ec]
   rw [e]
   exact (((hk.trans (stk_need T _ _)).trans (stk_span T l _)).trans (stk_spansL T s.names.length (T.size+1) _ _)).trans (stk_need T _ _)
  have stop:∀ (x:RS),x.err ≠ 0→RS.spansL T (T.size+2) x=x:=fun x hx=>by rw [RS.spansL,if_pos hx]
  cases hn:nameL ((s.take T).tk T)
  ·right
   have hA:(p.step T).nameA T=(p.step T).fail T 2:=by unfold PS.nameA;rw [← hnl,hn];rfl
   have hb:=badz_fail (T:=T) (s:=(s.take T).take T) h2.1 h1.2.1 2 (by decide) ((s.take T).pos T:Int) hq
   simp only [Bool.false_eq_true,if_false]
   have e4:(if 0≤clsIx (((s.take T).take T).fail 2 ((s.take T).pos T)).names ((s.take T).tk T) then (((s.take T).take T).fail 2 ((s.take T).pos T)).fail 4 ((s.take T).pos T) else ((s.take T).take T).fail 2 ((s.take T).pos T))=((s.take T).take T).fail 2 ((s.take T).pos T):=by
    split
    ·exact rs_fail_same hb.1 _ _
    ·rfl
   rw [e4,if_neg hb.1,stop _ (by exact hb.1)]
   have k1:Stk ((p.step T).fail T 2) ((p.step T).newName T s.names):=by
    unfold PS.newName;rw [hA];exact (show Stk ((p.step T).fail T 2) (((p.step T).fail T 2).nameB T s.names ((p.step T).tk T)) from stk_if T _ 4).trans (stk_step T _)
   exact badz_keep hb rfl rfl (rest _ k1) hcf
  ·have hA:(p.step T).nameA T=p.step T:=by unfold PS.nameA;rw [← hnl,hn];rfl
   simp only [if_true]
   by_cases hc:0≤clsIx s.names ((s.take T).tk T)
   ·right
    have hb:=badz_fail (T:=T) (s:=(s.take T).take T) h2.1 h1.2.1 4 (by decide) ((s.take T).pos T:Int) hq
    rw [if_pos (show 0≤clsIx ((s.take T).take T).names ((s.take T).tk T) from hc),if_neg hb.1,stop _ (by exact hb.1)]
    have k1:Stk ((p.step T).fail T 4) ((p.step T).newName T s.names):=by
     have:(p.step T).newName T s.names=((p.step T).fail T 4).step T:=by
      unfold PS.newName;rw [hA];unfold PS.nameB;rw [← ht,if_pos hc]
     rw [this];exact stk_step T _
    exact badz_keep hb rfl rfl (rest _ k1) hcf
   ·rw [if_neg (show ¬ 0≤clsIx ((s.take T).take T).names ((s.take T).tk T) from hc)]
    have hN:(p.step T).newName T s.names=(p.step T).step T:=by
     unfold PS.newName;rw [hA];unfold PS.nameB;rw [← ht,if_neg hc]
    have hA2:p.classA T s.names=((p.step T).step T).need T [sgn 61]:=by unfold PS.classA;rw [ec,hN]
    have h5:Okz T { (s.take T).take T with names:=((s.take T).take T).names++[tok T (s.take T).at_] } ((p.step T).step T):=h2
    rw [if_pos h5.1]
    rcases okz_want h5 61 with ⟨_,w2,w3⟩ | ⟨_,w3⟩
    ·have hw:({ (s.take T).take T with names:=((s.take T).take T).names++[tok T (s.take T).at_] }:RS).want T [61]=({ (s.take T).take T with names:=((s.take T).take T).names++[tok T (s.take T).at_] }:RS).take T:=w2
     have hnn:(({ (s.take T).take T with names:=((s.take T).take T).names++[tok T (s.take T).at_] }:RS).want T [61]).names=s.names++[tok T (s.take T).at_]:=by rw [hw];rfl
     have hss:(({ (s.take T).take T with names:=((s.take T).take T).names++[tok T (s.take T).at_] }:RS).want T [61]).spans=spI l:=by rw [hw];exact hs
     have:=spans_z (k:=s.names.length) (T.size+2) _ _ l (T.size+1) w3 hss (by rw [hnn];simp) (by omega) (by omega)
     rw [← hA2] at this
     rcases this with ⟨a1,a2,a3⟩ | a1
     ·left
      refine ⟨a1,a2,by rw [a3,hnn,hnt],?_⟩
      rw [a3,hnn]
      intro x hx
      rcases List.mem_append.1 hx with hx | hx
      ·exact hno x hx
      ·simp at hx;subst hx;exact hn
     ·right;exact a1
    ·right
     rw [stop _ w3.1]
     have k1:Stk (p.classA T s.names) (p.klass T s.names l):=(stk_span T l _).trans ((stk_spansL T s.names.length (T.size+1) _ _).trans (stk_need T _ _))
     rw [hA2] at k1
     exact badz_keep w3 rfl rfl k1 hcf
def Ez (T:ByteArray) (names:List ByteArray) (n:Nat) (s:RS) (p:PS):Prop:=Okz T s p∧p.a=s.atoms∧p.k=s.nest∧0≤s.atoms∧s.atoms≤4∧s.names=names∧s.nest+n=4
def Rz (T:ByteArray) (names:List ByteArray) (n:Nat) (s:RS) (p:PS):Prop:=Ez T names n s p∨Badz T s p∨Pendz T s p
def SubZ (T:ByteArray) (names:List ByteArray) (n:Nat) (f:RS→RS × Rx) (g:PS→PS × Px):Prop:=∀ s p,Ez T names n s p→Rz T names n (f s).1 (g p).1
theorem three_mem (l:List UInt8):memL [wClass,wCut,wJoin] l=true↔(l=[99,108,97,115,115]∨l=[99,117,116]∨l=[106,111,105,110]):=by
 rw [memL_iff]
 unfold wClass wCut wJoin
 simp only [List.mem_cons,List.not_mem_nil,or_false]
 constructor
 ·rintro ⟨x,(rfl | rfl | rfl),hx⟩ <;> rw [ByteArray.toList_eq] at hx <;> simp [← hx]
 ·rintro (h | h | h)
  ·exact ⟨_,Or.inl rfl,by rw [ByteArray.toList_eq];exact h.symm⟩
  ·exact ⟨_,Or.inr (Or.inl rfl),by rw [ByteArray.toList_eq];exact h.symm⟩
  ·exact ⟨_,Or.inr (Or.inr rfl),by rw [ByteArray.toList_eq];exact h.symm⟩
theorem cls_name {names:List ByteArray} (hno:NamesOk names) {l:List UInt8} (h:0≤clsIx names l):nameL l=true:=by
 have:memL names l=true:=by unfold memL;simpa using h
 rw [memL_iff] at this
 obtain ⟨x,hx,rfl⟩:=this
 exact hno x hx
theorem nameL_iff (l:List UInt8):nameL l=true↔(l ≠ []∧letterN (l.headD 0).toNat=true∧l ≠ [99,108,97,115,115]∧l ≠ [99,117,116]∧l ≠ [106,111,105,110]∧l ≠ [97,110,121]∧l ≠ [111,116,104,101,114]∧l ≠ [98,97,100]):=by
 unfold nameL
 split
 ·rename_i h
  simp
  intro h1 _ h2 h3 h4 h5 h6
  rcases h with h | h | h | h | h | h | h
  ·exact absurd h h1
  ·exact absurd h h2
  ·exact absurd h h3
  ·exact absurd h h4
  ·exact absurd h h5
  ·exact absurd h h6
  ·exact h
 ·rename_i h
  simp only [not_or] at h
  constructor
  ·intro hl;exact ⟨h.1,hl,h.2.1,h.2.2.1,h.2.2.2.1,h.2.2.2.2.1,h.2.2.2.2.2.1,h.2.2.2.2.2.2⟩
  ·intro hl;exact hl.2.1
theorem wordp_iff (T:ByteArray) (p:Nat) (hp:p≤T.size):wordp T p=true↔((tokp T p).toList ≠ []∧letterN ((tokp T p).toList.headD 0).toNat=true):=by
 rcases Nat.lt_or_ge p T.size with h1 | h1
 ·obtain ⟨h2,h3⟩:=tokp_head h1
  unfold wordp
  rw [h3]
  simp [h2]
  intro _;omega
 ·have e:p=T.size:=by omega
  rw [e,tokp_end]
  unfold wordp;simp
def leafKnown (names:List ByteArray) (l:List UInt8):Prop:=0≤clsIx names l∨l=[97,110,121]∨l=[111,116,104,101,114]∨l=[98,97,100]
theorem known_iff (names:List ByteArray) (l:List UInt8):(meaningP names l).2=true↔leafKnown names l:=by
 unfold meaningP leafKnown
 split
 ·rename_i h;simp [h]
 ·rename_i h1
  split
  ·rename_i h;simp [h]
  ·rename_i h2
   split
   ·rename_i h;simp [h]
   ·rename_i h3
    simp [h1,h2,h3]
theorem leaf_cases {T:ByteArray} {names:List ByteArray} (hno:NamesOk names) (p:PS) (hp:p.p≤T.size) (h40:p.tk T ≠ [40]) :
  (p.isAtom T=false∧¬ leafKnown names (p.tk T)∧nameL (p.tk T)=false)∨(p.isAtom T=true∧leafKnown names (p.tk T))∨(p.isAtom T=true∧¬ leafKnown names (p.tk T)∧nameL (p.tk T)=true):=by
 have hw:=wordp_iff T p.p hp
 have hn:=nameL_iff (p.tk T)
 have ht:=three_mem (p.tk T)
 have hia:p.isAtom T=true↔(wordp T p.p=true∧¬ memL [wClass,wCut,wJoin] (p.tk T)=true):=by
  unfold PS.isAtom;rw [memL_sgn];simp [h40]
 have hw':wordp T p.p=true↔(p.tk T ≠ []∧letterN ((p.tk T).headD 0).toNat=true):=hw
 by_cases hk:leafKnown names (p.tk T)
 ·right;left
  refine ⟨hia.2 ?_,hk⟩
  rw [hw',ht]
  rcases hk with h | h | h | h
  ·have:=hn.1 (cls_name hno h)
   exact ⟨⟨this.1,this.2.1⟩,by rintro (h | h | h);exact this.2.2.1 h;exact this.2.2.2.1 h;exact this.2.2.2.2.1 h⟩
  all_goals (rw [h];decide)
 ·cases hi:p.isAtom T
  ·left
   refine ⟨rfl,hk,?_⟩
   cases hl:nameL (p.tk T) with
   | false=>rfl
   | true =>
    exfalso
    have:=hn.1 hl
    have:p.isAtom T=true:=hia.2 ⟨hw'.2 ⟨this.1,this.2.1⟩,by rw [ht];rintro (h | h | h);exact this.2.2.1 h;exact this.2.2.2.1 h;exact this.2.2.2.2.1 h⟩
    rw [hi] at this;cases this
  ·right;right
   refine ⟨rfl,hk,?_⟩
   have h1:=hia.1 hi
   have h2:=hw'.1 h1.1
   have h3:¬ (p.tk T=[99,108,97,115,115]∨p.tk T=[99,117,116]∨p.tk T=[106,111,105,110]):=fun h=>h1.2 (ht.2 h)
   unfold leafKnown at hk
   simp only [not_or] at h3 hk
   exact hn.2 ⟨h2.1,h2.2,h3.1,h3.2.1,h3.2.2,hk.2.1,hk.2.2.1,hk.2.2.2⟩
theorem stk_one_known (T:ByteArray) (names:List ByteArray) (s:PS):Stk (s.known T names) (s.one T names).1:=by
 have h2:Stk (s.known T names) ((s.known T names).many T):=stk_if T _ 6
 have h3:Stk ((s.known T names).many T) ((s.known T names).many T).more:=fun _=>⟨rfl,rfl⟩
 exact (h2.trans h3).trans (stk_step T _)
theorem leafMany_bad {s:RS} (h:s.err ≠ 0) (q:Int):(s.leafMany q).err=s.err∧(s.leafMany q).place=s.place:=by
 unfold RS.leafMany;simp only
 split
 ·rw [rs_fail_same h];exact ⟨rfl,rfl⟩
 ·exact ⟨rfl,rfl⟩
theorem leaf_z {T:ByteArray} {names:List ByteArray} {n:Nat} {s:RS} {p:PS} {subR:RS→RS × Rx} {subP:PS→PS × Px} (hno:NamesOk names) (h:Ez T names n s p) (h40:p.tk T ≠ [40]):Ez T names n (s.atom T subR).1 (p.atom T names subP).1∨(Badz T (s.atom T subR).1 (p.atom T names subP).1∧(p.isAtom T=false→(s.atom T subR).1.err=2∧(s.atom T subR).1.place=p.p)):=by
 obtain ⟨h0,ha,hk,ha0,ha4,hnm,hnn⟩:=h
 have hle:=okz_le h0
 have ht:=okz_tk h0
 have hq:=okz_pos h0
 have hfz:=okz_fz h0
 have eR:(s.atom T subR).1=((s.take T).leafErr (s.tk T) (s.pos T)).leafMany (s.pos T):=by unfold RS.atom;rw [if_neg (by rw [ht];exact h40)];rfl
 have hnt:(s.take T).names=names:=hnm
 rcases leaf_cases hno p hle h40 with ⟨hi,hkn,hnl⟩ | ⟨hi,hkn⟩ | ⟨hi,hkn,hnl⟩
 ·right
  have e1:(s.take T).leafErr (s.tk T) (s.pos T)=(s.take T).fail 2 (s.pos T):=by
   unfold RS.leafErr;rw [ht,hnt,if_neg (by exact hkn),hnl];rfl
  have hb:=badz_fail (T:=T) (s:=s.take T) h0.1 h0.2.1 2 (by decide) (s.pos T:Int) hq
  have eok:p.atomOk T=p.fail T 2:=by unfold PS.atomOk;rw [hi];rfl
  have eP:(p.atom T names subP).1=((p.fail T 2).one T names).1:=by
   unfold PS.atom;rw [eok,memL_sgn,badz_tk hb];rfl
  have hm:=leafMany_bad hb.1 (s.pos T:Int)
  rw [eR,e1,eP]
  refine ⟨badz_keep hb hm.1 hm.2 (stk_one T names _) ((badz_fz hb).one (by show T.size≤T.size;omega)),fun _=>?_⟩
  rw [hm.1,hm.2]
  have e2:((s.take T).fail 2 (s.pos T)).err=2∧((s.take T).fail 2 (s.pos T)).place=s.pos T:=by
   unfold RS.fail;rw [if_pos (show (s.take T).err=0 from h0.1)];exact ⟨rfl,rfl⟩
  rw [e2.1,e2.2];exact ⟨rfl,hq⟩
 ·have e1:(s.take T).leafErr (s.tk T) (s.pos T)=s.take T:=by unfold RS.leafErr;rw [ht,hnt,if_pos (by exact hkn)]
  have eok:p.atomOk T=p:=by unfold PS.atomOk;rw [hi];rfl
  have eP:(p.atom T names subP).1=(p.one T names).1:=by
   unfold PS.atom;rw [eok,memL_sgn];simp [h40]
  have ekn:p.known T names=p:=by unfold PS.known;rw [(known_iff names _).2 hkn];rfl
  rw [eR,e1,eP]
  by_cases h4:s.atoms=4
  ·right
   have hb:=badz_fail (T:=T) (s:=s.take T) h0.1 h0.2.1 6 (by decide) (s.pos T:Int) hq
   have e2:((s.take T).leafMany (s.pos T)).err=((s.take T).fail 6 (s.pos T)).err∧((s.take T).leafMany (s.pos T)).place=((s.take T).fail 6 (s.pos T)).place:=by
    unfold RS.leafMany;simp only;rw [if_pos (show (s.take T).atoms=4 from h4)];exact ⟨rfl,rfl⟩
   have em:(p.known T names).many T=p.fail T 6:=by rw [ekn];unfold PS.many;rw [if_pos (by rw [ha];exact h4)]
   have k1:Stk (p.fail T 6) (p.one T names).1:=by
    rw [← em]
    exact (show Stk ((p.known T names).many T) ((p.known T names).many T).more from fun _=>⟨rfl,rfl⟩).trans (stk_step T _)
   exact ⟨badz_keep hb e2.1 e2.2 k1 (hfz.one hle),fun hh=>by rw [hi] at hh;cases hh⟩
  ·left
   have e2:(s.take T).leafMany (s.pos T)={ s.take T with atoms:=s.atoms+1 }:=by
    unfold RS.leafMany;simp only;rw [if_neg (show ¬ (s.take T).atoms=4 from h4)];rfl
   have em:(p.known T names).many T=p:=by rw [ekn];unfold PS.many;rw [if_neg (by rw [ha];exact h4)]
   have eo:(p.one T names).1=(p.more).step T:=by unfold PS.one;simp only;rw [em]
   have hw:IntKind.i64.wrap (p.a+1)=p.a+1:=IntWalk.i64_in _ ⟨by omega,by omega⟩
   rw [e2,eo]
   refine ⟨okz_take h0,?_,hk,by show 0≤s.atoms+1;omega,by show s.atoms+1≤4;omega,hnm,hnn⟩
   show IntKind.i64.wrap (p.a+1)=s.atoms+1
   rw [hw,ha]
 ·right
  have e1:(s.take T).leafErr (s.tk T) (s.pos T)=(s.take T).fail 3 (s.pos T):=by
   unfold RS.leafErr;rw [ht,hnt,if_neg (by exact hkn),hnl];rfl
  have hb:=badz_fail (T:=T) (s:=s.take T) h0.1 h0.2.1 3 (by decide) (s.pos T:Int) hq
  have eok:p.atomOk T=p:=by unfold PS.atomOk;rw [hi];rfl
  have eP:(p.atom T names subP).1=(p.one T names).1:=by
   unfold PS.atom;rw [eok,memL_sgn];simp [h40]
  have ekn:p.known T names=p.fail T 3:=by
   unfold PS.known
   rw [if_neg (fun hh=>hkn ((known_iff names _).1 hh))]
  have hm:=leafMany_bad hb.1 (s.pos T:Int)
  rw [eR,e1,eP]
  have k1:=stk_one_known T names p
  rw [ekn] at k1
  exact ⟨badz_keep hb hm.1 hm.2 k1 (hfz.one hle),fun hh=>by rw [hi] at hh;cases hh⟩
theorem fg_bracket_from (T:ByteArray) (sub:PS→PS × Px) (hs:PGood T sub) (hf:FGood T sub) (s:PS) (h:s.p≤T.size) (hz:Fz T s):Stk (s.nest T) (s.bracket T sub).1:=by
 have h1:Goes T s (s.nest T):=goes_if 6 h
 have z1:Fz T (s.nest T):=hz.if_ 6
 have h2:=adv_need T [sgn 40] (s.nest T) h1.2.2
 have z2:Fz T (((s.nest T).need T [sgn 40]).inK):=z1.need h1.2.2 _
 have k2:Stk (s.nest T) (((s.nest T).need T [sgn 40]).inK):=stk_need T _ _
 have h4:=hf (((s.nest T).need T [sgn 40]).inK) h2.1.2.2 z2
 have k5:Stk (((s.nest T).need T [sgn 40]).inK) ((sub (((s.nest T).need T [sgn 40]).inK)).1.outK):=h4.2
 have _:=hs
 exact (k2.trans k5).trans (stk_need T _ _)
theorem bracket_z {T:ByteArray} {names:List ByteArray} {n:Nat} {s:RS} {p:PS} {subR:RS→RS × Rx} {subP:PS→PS × Px} (hs:PGood T subP) (hf:FGood T subP) (hsub:∀ m,n=m+1→SubZ T names m subR subP) (h:Ez T names n s p) (h40:p.tk T=[40]) :
  Ez T names n (s.atom T subR).1 (p.atom T names subP).1∨Badz T (s.atom T subR).1 (p.atom T names subP).1:=by
 obtain ⟨h0,ha,hk,ha0,ha4,hnm,hnn⟩:=h
 have hle:=okz_le h0
 have ht:=okz_tk h0
 have hq:=okz_pos h0
 have hfz:=okz_fz h0
 have hi:p.isAtom T=true:=by unfold PS.isAtom;rw [memL_sgn,h40];simp
 have eok:p.atomOk T=p:=by unfold PS.atomOk;rw [hi];rfl
 have eP:(p.atom T names subP).1=(p.bracket T subP).1:=by unfold PS.atom;rw [eok,memL_sgn,h40];simp
 have hbz:=(fg_bracket T subP hs hf p hle hfz).1
 rw [eP]
 unfold RS.atom
 rw [if_pos (by rw [ht];exact h40)]
 by_cases h4:s.nest=4
 ·right
  rw [if_pos h4]
  have hb:=badz_fail (T:=T) (s:=s.take T) h0.1 h0.2.1 6 (by decide) (s.pos T:Int) hq
  have en:p.nest T=p.fail T 6:=by unfold PS.nest;rw [if_pos (by rw [hk];exact h4)]
  have k1:=fg_bracket_from T subP hs hf p hle hfz
  rw [en] at k1
  exact badz_keep hb rfl rfl k1 hbz
 ·rw [if_neg h4]
  obtain ⟨m,hm⟩:∃ m,n=m+1:=⟨n - 1,by omega⟩
  have en:p.nest T=p:=by unfold PS.nest;rw [if_neg (by rw [hk];exact h4)]
  have e1:(p.nest T).need T [sgn 40]=p.step T:=by rw [en];unfold PS.need;rw [memL_sgn,h40];simp
  have hE:Ez T names m { s.take T with nest:=s.nest+1 } (p.step T).inK:=by
   refine ⟨okz_take h0,ha,?_,ha0,ha4,hnm,?_⟩
   ·show p.k+1=s.nest+1;rw [hk]
   ·show s.nest+1+(m:Int)=4;omega
  have hR:=hsub m hm _ _ hE
  have eB:(p.bracket T subP).1=((subP ((p.step T).inK)).1.outK).need T [sgn 41]:=by unfold PS.bracket;simp only;rw [e1]
  rw [eB]
  obtain ⟨r,hr⟩:∃ r,r=(subR { s.take T with nest:=s.nest+1 }).1:=⟨_,rfl⟩
  obtain ⟨q,hq'⟩:∃ q,q=(subP ((p.step T).inK)).1:=⟨_,rfl⟩
  show Ez T names n ((subR { s.take T with nest:=s.nest+1 }).1.closeB T) _∨Badz T ((subR { s.take T with nest:=s.nest+1 }).1.closeB T) _
  rw [← hr,← hq'] at hR ⊢
  have hqz:Fz T q:=by rw [hq'];exact (hf (p.step T).inK (nextp_le T p.p hle).1 (hfz.step hle)).1
  rcases hR with ⟨g0,ga,gk,ga0,ga4,gnm,gnn⟩ | hb | hpd
  ·have g0':Okz T { r with nest:=r.nest - 1 } q.outK:=g0
   have ec:r.closeB T=({ r with nest:=r.nest - 1 }:RS).want T [41]:=by unfold RS.closeB;simp only;rw [if_pos g0.1]
   rw [ec]
   rcases okz_want g0' 41 with ⟨_,w2,w3⟩ | ⟨_,w3⟩
   ·left
    have en2:=need_ak T [sgn 41] q.outK
    refine ⟨w3,?_,?_,?_,?_,?_,?_⟩
    ·rw [en2.1,w2];exact ga
    ·rw [en2.2,w2];show q.k - 1=r.nest - 1;rw [gk]
    ·rw [w2];exact ga0
    ·rw [w2];exact ga4
    ·rw [w2];exact gnm
    ·rw [w2];show r.nest - 1+(n:Int)=4;omega
   ·right;exact w3
  ·right
   have ec:r.closeB T={ r with nest:=r.nest - 1 }:=by unfold RS.closeB;simp only;rw [if_neg hb.1]
   rw [ec]
   have hb':Badz T { r with nest:=r.nest - 1 } q.outK:=hb
   exact badz_keep hb' rfl rfl (stk_need T _ _) ((show Fz T q.outK from hqz).need (by show q.p≤T.size;rw [hb.2.2.2];omega) _)
  ·right
   have ec:r.closeB T={ r with nest:=r.nest - 1 }:=by unfold RS.closeB;simp only;rw [if_neg (by rw [hpd.1];decide)]
   rw [ec]
   have hp':Pendz T { r with nest:=r.nest - 1 } q.outK:=hpd
   exact (pendz_need hp' 41).1
theorem atom_z {T:ByteArray} {names:List ByteArray} {n:Nat} {s:RS} {p:PS} {subR:RS→RS × Rx} {subP:PS→PS × Px} (hno:NamesOk names) (hs:PGood T subP) (hf:FGood T subP) (hsub:∀ m,n=m+1→SubZ T names m subR subP) (h:Ez T names n s p) :
  Ez T names n (s.atom T subR).1 (p.atom T names subP).1∨(Badz T (s.atom T subR).1 (p.atom T names subP).1∧(p.isAtom T=false→(s.atom T subR).1.err=2∧(s.atom T subR).1.place=p.p)):=by
 by_cases h40:p.tk T=[40]
 ·rcases bracket_z hs hf hsub h h40 with h1 | h1
  ·exact Or.inl h1
  ·refine Or.inr ⟨h1,fun hh=>?_⟩
   have hi:p.isAtom T=true:=by unfold PS.isAtom;rw [memL_sgn,h40];simp
   rw [hi] at hh;cases hh
 ·exact leaf_z hno h h40
theorem part_z {T:ByteArray} {names:List ByteArray} {n:Nat} {s:RS} {p:PS} {subR:RS→RS × Rx} {subP:PS→PS × Px} (hno:NamesOk names) (hs:PGood T subP) (hf:FGood T subP) (hsub:∀ m,n=m+1→SubZ T names m subR subP) (h:Ez T names n s p) :
  Ez T names n (s.part T subR).1 (PS.partP T names subP p).1∨(Badz T (s.part T subR).1 (PS.partP T names subP p).1∧(p.isAtom T=false→(s.part T subR).1.err=2∧(s.part T subR).1.place=p.p)):=by
 rcases atom_z hno hs hf hsub h with h1 | ⟨h1,h2⟩
 ·left
  have e:s.part T subR=RS.suffix T (s.atom T subR).1 (s.atom T subR).2:=by unfold RS.part;rw [if_neg (by rw [h1.1.1];simp)]
  have ht:=okz_tk h1.1
  have step:Ez T names n (((s.atom T subR).1.peek T).take T) ((p.atom T names subP).1.step T):=⟨okz_take (okz_peek h1.1),h1.2.1,h1.2.2.1,h1.2.2.2.1,h1.2.2.2.2.1,h1.2.2.2.2.2.1,h1.2.2.2.2.2.2⟩
  rw [e]
  unfold RS.suffix PS.partP PS.partF
  simp only
  rw [ht]
  split
  ·exact step
  ·split
   ·exact step
   ·split
    ·exact step
    ·exact ⟨okz_peek h1.1,h1.2⟩
 ·right
  have e:s.part T subR=s.atom T subR:=by unfold RS.part;rw [if_pos h1.1]
  have e2:PS.partP T names subP p=p.atom T names subP:=by
   unfold PS.partP PS.partF
   rw [badz_tk h1]
   rw [if_neg (by decide),if_neg (by decide),if_neg (by decide)]
  rw [e,e2];exact ⟨h1,h2⟩
theorem more_iff {T:ByteArray} (p:PS) (hp:p.p≤T.size):RS.moreL (p.tk T)=(decide (p.tk T=[40]) || wordp T p.p):=by
 have hw:=wordp_iff T p.p hp
 unfold RS.moreL
 congr 1
 rw [Bool.eq_iff_iff,hw]
 simp
 rfl
theorem exprL_z {T:ByteArray} {names:List ByteArray} {n:Nat} {subR:RS→RS × Rx} {subP:PS→PS × Px} (hno:NamesOk names) (hs:PGood T subP) (hf:FGood T subP) (hsub:∀ m,n=m+1→SubZ T names m subR subP) :
  ∀ (g:Nat) (s:RS) (e:Rx) (p:PS) (l:List Px) (g':Nat),p.p≤T.size→Rz T names n s p→T.size<p.p+g→T.size<p.p+g'→Rz T names n (RS.exprL T subR g s e).1 (PS.exprL T (PS.rowR T (PS.partP T names subP)) g' p l).1:=by
 intro g
 induction g with
 | zero=>intro s e p l g' hp h h1 _;omega
 | succ g ih =>
  intro s e p l g' hp h h1 h2
  obtain ⟨g'',rfl⟩:∃ g'',g'=g''+1:=⟨g' - 1,by omega⟩
  rcases h with h | hb | hpd
  ·have ht:=okz_tk h.1
   rw [RS.exprL,if_neg (by rw [h.1.1];simp),PS.exprL,ht]
   by_cases e47:p.tk T=[47]
   ·rw [if_pos e47,if_pos e47]
    have hlt:=tk_lt hp e47
    have hnx:=nextp_le T p.p hp
    have hst:(p.step T).p=nextp T p.p:=rfl
    have hadv:=hnx.2.2 hlt
    have hE:Ez T names n ((s.peek T).take T) (p.step T):=⟨okz_take (okz_peek h.1),h.2⟩
    have hR:=row_z hno hs hf hsub hE
    have hg:=good_row T _ (good_part T names subP hs) (p.step T) (by omega)
    exact ih _ _ _ _ _ hg.2.2.1 hR (by omega) (by omega)
   ·rw [if_neg e47,if_neg e47]
    exact Or.inl ⟨okz_peek h.1,h.2⟩
  ·rw [RS.exprL,if_pos hb.1,PS.exprL,if_neg (by rw [badz_tk hb];decide)]
   exact Or.inr (Or.inl hb)
  ·rw [RS.exprL,if_pos (by rw [hpd.1];decide),PS.exprL,if_neg (pendz_need hpd 47).2]
   exact Or.inr (Or.inr hpd)
theorem exprS_z {T:ByteArray} {names:List ByteArray} {n:Nat} {s:RS} {p:PS} {subR:RS→RS × Rx} {subP:PS→PS × Px} (hno:NamesOk names) (hs:PGood T subP) (hf:FGood T subP) (hsub:∀ m,n=m+1→SubZ T names m subR subP) (h:Ez T names n s p) :
  Rz T names n (RS.exprS T subR s).1 (PS.exprAt T names subP p).1:=by
 have hle:=okz_le h.1
 have hg:=good_row T _ (good_part T names subP hs) p hle
 unfold RS.exprS PS.exprAt PS.exprR
 simp only
 exact exprL_z hno hs hf hsub _ _ _ _ _ _ hg.2.2.1 (row_z hno hs hf hsub h) (by omega) (by omega)
theorem expr_z {T:ByteArray} {names:List ByteArray} (hno:NamesOk names):∀ n,SubZ T names n (RS.expr T n) (PS.expr T names (n+1)):=by
 intro n
 induction n with
 | zero =>
  intro s p h
  exact exprS_z hno (good_expr T names 0) (fg_expr T names 0) (fun m hm=>by omega) h
 | succ n ih =>
  intro s p h
  have hsub:∀ m,n+1=m+1→SubZ T names m (RS.expr T n) (PS.expr T names (n+1)):=by
   intro m hm
   have e:m=n:=by omega
   subst e
   exact ih
  exact exprS_z hno (good_expr T names (n+1)) (fg_expr T names (n+1)) hsub h
end Go.Proofs.YtodagkkjfipbgaaGreatDoor
