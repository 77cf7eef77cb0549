import Derived.Test.YtodagkkjfipbgaaGreatDoorZ5toA31
namespace Go.Proofs.YtodagkkjfipbgaaGreatDoor
open Go.RowKit Go.Maps
def Rd2 (nN D:Nat) (Q:Nat→Tr→Prop) (s:RS) (r:RS × Rx) (x:Px):Prop:=∃ (t:Tr) (k:Nat),r.2=t.rx∧Q k t∧r.1.atoms=s.atoms+(k:Int)∧Sm nN D x t
def Sub2 (T:ByteArray) (names:List ByteArray) (m D:Nat) (f:RS→RS × Rx) (g:PS→PS × Px):Prop:=∀ s p,Ez T names m s p→(f s).1.err=0→Rd2 names.length D (Tr.Ct (Tr.Pa m)) s (f s) (g p).2
theorem atom_unknown {T:ByteArray} {s:RS} {sub:RS→RS × Rx} (h40:s.tk T ≠ [40]) (hk:¬ leafKnown s.names (s.tk T)):(s.atom T sub).1.err ≠ 0:=by
 have e:(s.atom T sub).1=((s.take T).leafErr (s.tk T) (s.pos T)).leafMany (s.pos T):=by unfold RS.atom;rw [if_neg h40];rfl
 have hb:((s.take T).leafErr (s.tk T) (s.pos T)).err ≠ 0:=by
  unfold RS.leafErr
  rw [if_neg (show ¬ (0≤clsIx (s.take T).names (s.tk T)∨_) from hk)]
  split
  ·exact fail_err _ _ _ (by omega)
  ·exact fail_err _ _ _ (by omega)
 rw [e,(leafMany_bad hb _).1];exact hb
theorem leaf2 {T:ByteArray} {names:List ByteArray} {n:Nat} {s:RS} {p:PS} {subR:RS→RS × Rx} {subP:PS→PS × Px} (hno:NamesOk names) (hN:names.length≤6) (h:Ez T names n s p) (h40:p.tk T ≠ [40]) (he:(s.atom T subR).1.err=0):Rd2 names.length 1 (Qa n) s (s.atom T subR) (p.atom T names subP).2:=by
 obtain ⟨h0,ha,hk,ha0,ha4,hnm,hnn⟩:=h
 have hle:=okz_le h0
 have ht:=okz_tk h0
 have h40s:s.tk T ≠ [40]:=by rw [ht];exact h40
 have hkn:leafKnown names (p.tk T):=by
  refine Classical.byContradiction fun hh=>?_
  exact atom_unknown h40s (by rw [hnm,ht];exact hh) he
 have hi:p.isAtom T=true:=by
  rcases leaf_cases hno p hle h40 with ⟨_,q,_⟩ | ⟨q,_⟩ | ⟨_,q,_⟩
  ·exact absurd hkn q
  ·exact q
  ·exact absurd hkn q
 have eok:p.atomOk T=p:=by unfold PS.atomOk;rw [hi];rfl
 have eP:(p.atom T names subP).2=oneP (meaningP names (p.tk T)).1:=by
  unfold PS.atom;rw [eok,memL_sgn];simp [h40];rfl
 have eR:s.atom T subR=s.atomLeaf T:=by unfold RS.atom;rw [if_neg h40s]
 rw [eP]
 rw [eR] at he ⊢
 have hsame:=leafErr_same (s.take T) (s.tk T) (s.pos T)
 have ha':((s.take T).leafErr (s.tk T) (s.pos T)).atoms=s.atoms:=hsame.2.2.2.2.1
 have hne:¬ s.atoms=4:=by
  intro e
  refine fail_err ((s.take T).leafErr (s.tk T) (s.pos T)) 6 (s.pos T) (by omega) ?_
  have:(s.atomLeaf T).1.err=(if ((s.take T).leafErr (s.tk T) (s.pos T)).atoms=4 then ((s.take T).leafErr (s.tk T) (s.pos T)).fail 6 (s.pos T) else (s.take T).leafErr (s.tk T) (s.pos T)).err:=rfl
  rw [this,if_pos (by rw [ha'];exact e)] at he
  exact he
 have hst:(s.atomLeaf T).1={ (s.take T).leafErr (s.tk T) (s.pos T) with atoms:=((s.take T).leafErr (s.tk T) (s.pos T)).atoms+1 }:=by
  show RS.leafMany _ _=_
  unfold RS.leafMany
  simp only [ha',if_neg hne]
 have hNs:(s.take T).names.length≤6:=by show s.names.length≤6;rw [hnm];exact hN
 refine ⟨.c ((s.take T).kindsOf (s.tk T)),1,rfl,Or.inl ⟨_,kinds_low _ _ hNs,rfl,rfl⟩,?_,?_⟩
 ·rw [hst];show _+1=_;rw [ha'];rfl
 ·rw [ht];exact Sm.atom hno hN (show (s.take T).names=names from hnm) hkn
theorem bracket2 {T:ByteArray} {names:List ByteArray} {n:Nat} {s:RS} {p:PS} {subR:RS→RS × Rx} {subP:PS→PS × Px} (hsub:∀ m,n=m+1→Sub2 T names m (3 * m+4) subR subP) (h:Ez T names n s p) (h40:p.tk T=[40]) (he:(s.atom T subR).1.err=0):Rd2 names.length (3 * n+1) (Qa n) s (s.atom T subR) (p.atom T names subP).2:=by
 obtain ⟨h0,ha,hk,ha0,ha4,hnm,hnn⟩:=h
 have ht:=okz_tk h0
 have hi:p.isAtom T=true:=by unfold PS.isAtom;rw [memL_sgn,h40];simp
 have eok:p.atomOk T=p:=by unfold PS.atomOk;rw [hi];rfl
 have eP:(p.atom T names subP).2=(p.bracket T subP).2:=by unfold PS.atom;rw [eok,memL_sgn,h40];simp
 rw [eP]
 unfold RS.atom at he ⊢
 rw [if_pos (by rw [ht];exact h40)] at he ⊢
 by_cases h4:s.nest=4
 ·rw [if_pos h4] at he
  exact absurd he (fail_err _ _ _ (by omega))
 ·rw [if_neg h4] at he ⊢
  obtain ⟨m,rfl⟩:∃ m,n=m+1:=⟨n - 1,by omega⟩
  have en:p.nest T=p:=by unfold PS.nest;rw [if_neg (by rw [hk];exact h4)]
  have e1:(p.nest T).need T [sgn 40]=p.step T:=by rw [en];unfold PS.need;rw [memL_sgn,h40];simp
  have hE:Ez T names m { s.take T with nest:=s.nest+1 } (p.step T).inK:=by
   refine ⟨okz_take h0,ha,?_,ha0,ha4,hnm,?_⟩
   ·show p.k+1=s.nest+1;rw [hk]
   ·show s.nest+1+(m:Int)=4;omega
  have he2:(subR { s.take T with nest:=s.nest+1 }).1.err=0:=close_err he
  obtain ⟨t,k,r1,r2,r3,r4⟩:=hsub m rfl _ _ hE he2
  have eB:(p.bracket T subP).2=(subP ((p.step T).inK)).2:=by unfold PS.bracket;simp only;rw [e1]
  have hc:∀ x:RS,(x.closeB T).atoms=x.atoms:=by
   intro x
   unfold RS.closeB
   have hw:=want_same T { x with nest:=x.nest - 1 } [41]
   show (if x.err=0 then _ else _:RS).atoms=_
   by_cases e:x.err=0
   ·rw [if_pos e];exact hw.2.2.2.2.1
   ·rw [if_neg e]
  refine ⟨t,k,r1,Or.inr ⟨m,rfl,r2⟩,?_,?_⟩
  ·show (RS.closeB T _).atoms=_;rw [hc];exact r3
  ·rw [eB];exact r4.up (by omega)
theorem atom2 {T:ByteArray} {names:List ByteArray} {n:Nat} {s:RS} {p:PS} {subR:RS→RS × Rx} {subP:PS→PS × Px} (hno:NamesOk names) (hN:names.length≤6) (hsub:∀ m,n=m+1→Sub2 T names m (3 * m+4) subR subP) (h:Ez T names n s p) (he:(s.atom T subR).1.err=0):Rd2 names.length (3 * n+1) (Qa n) s (s.atom T subR) (p.atom T names subP).2:=by
 by_cases h40:p.tk T=[40]
 ·exact bracket2 hsub h h40 he
 ·obtain ⟨t,k,r1,r2,r3,r4⟩:=leaf2 (subP:=subP) hno hN h h40 he
  exact ⟨t,k,r1,r2,r3,r4.up (by omega)⟩
theorem part_err {T:ByteArray} {s:RS} {sub:RS→RS × Rx} (h:(s.part T sub).1.err=0):(s.atom T sub).1.err=0:=by
 unfold RS.part at h
 by_cases e:(s.atom T sub).1.err=0
 ·exact e
 ·rw [if_pos e] at h;exact h
theorem part2 {T:ByteArray} {names:List ByteArray} {n:Nat} {s:RS} {p:PS} {subR:RS→RS × Rx} {subP:PS→PS × Px} (hno:NamesOk names) (hN:names.length≤6) (hs:PGood T subP) (hf:FGood T subP) (hz:∀ m,n=m+1→SubZ T names m subR subP) (hsub:∀ m,n=m+1→Sub2 T names m (3 * m+4) subR subP) (h:Ez T names n s p) (he:(s.part T subR).1.err=0):Rd2 names.length (3 * n+2) (Tr.Pa n) s (s.part T subR) (PS.partP T names subP p).2:=by
 have hae:=part_err he
 have hE:Ez T names n (s.atom T subR).1 (p.atom T names subP).1:=by
  rcases atom_z hno hs hf hz h with q | ⟨q,_⟩
  ·exact q
  ·exact absurd hae q.1
 obtain ⟨t,k,r1,r2,r3,r4⟩:=atom2 hno hN hsub h hae
 have ht:=okz_tk hE.1
 have hok:t.ok:=by
  rcases r2 with ⟨c,hc,_,rfl⟩ | ⟨m,rfl,hc⟩
  ·exact hc
  ·exact ct_ok hc
 unfold RS.part PS.partP PS.partF
 rw [if_neg (by simpa using hae),r1]
 unfold RS.suffix
 rw [ht]
 by_cases c1:(p.atom T names subP).1.tk T=[42]
 ·simp only [if_pos c1]
  exact ⟨_,k,Tr.manyX_rx t,qa_sg r2 .st,r3,r4.star⟩
 ·simp only [if_neg c1]
  by_cases c2:(p.atom T names subP).1.tk T=[43]
  ·simp only [if_pos c2]
   refine ⟨_,k,?_,qa_sg r2 .pl,r3,r4.plus⟩
   show rowR t.rx (manyX t.rx)=_
   rw [Tr.manyX_rx,Tr.rowR_rx];rfl
  ·simp only [if_neg c2]
   by_cases c3:(p.atom T names subP).1.tk T=[63]
   ·simp only [if_pos c3]
    exact ⟨_,k,Tr.eitherX_rx hok (y:=.e) trivial,qa_sg r2 .op,r3,r4.maybe hok⟩
   ·simp only [if_neg c3]
    exact ⟨t,k,rfl,qa_sg r2 .no,r3,r4.up (by omega)⟩
theorem part_unknown {T:ByteArray} {s:RS} {sub:RS→RS × Rx} (h40:s.tk T ≠ [40]) (hk:¬ leafKnown s.names (s.tk T)):(s.part T sub).1.err ≠ 0:=by
 intro h
 exact atom_unknown h40 hk (part_err h)
theorem rowL2 {T:ByteArray} {names:List ByteArray} {n:Nat} {subR:RS→RS × Rx} {subP:PS→PS × Px} (hno:NamesOk names) (hN:names.length≤6) (hs:PGood T subP) (hf:FGood T subP) (hz:∀ m,n=m+1→SubZ T names m subR subP) (hsub:∀ m,n=m+1→Sub2 T names m (3 * m+4) subR subP) (s0:RS) :
  ∀ (g:Nat) (s:RS) (e:Rx) (p:PS) (l:List Px) (g':Nat),Ez T names n s p→T.size<p.p+g→T.size<p.p+g'→(∃ t k,e=Tr.rx t∧Tr.Rw (Tr.Pa n) k t∧s.atoms=s0.atoms+(k:Int)∧SmL names.length (3 * n+2) l t)→(RS.rowL T subR g s e).1.err=0 →
   ∃ t k,(RS.rowL T subR g s e).2=Tr.rx t∧Tr.Rw (Tr.Pa n) k t∧(RS.rowL T subR g s e).1.atoms=s0.atoms+(k:Int)∧SmL names.length (3 * n+2) (PS.rowL T (PS.partP T names subP) g' p l).2 t:=by
 intro g
 induction g with
 | zero=>intro s e p l g' h h1;have:=okz_le h.1;omega
 | succ g ih =>
  intro s e p l g' h h1 h2 hR he
  have hle:=okz_le h.1
  have ht:=okz_tk h.1
  obtain ⟨g'',rfl⟩:∃ g'',g'=g''+1:=⟨g' - 1,by omega⟩
  rw [PS.rowL]
  have hpk:Ez T names n (s.peek T) p:=⟨okz_peek h.1,h.2⟩
  have hm0:=more_iff p hle
  cases hi:p.isAtom T
  ·have hnot:p.tk T ≠ [40]:=by
    intro e;unfold PS.isAtom at hi;rw [memL_sgn,e] at hi;simp at hi
   simp only [Bool.false_eq_true,if_false]
   cases hw:wordp T p.p
   ·have hm:RS.moreL (s.tk T)=false:=by rw [ht,hm0,hw];simp [hnot]
    rw [rowL_end h.1.1 hm]
    exact hR
   ·exfalso
    have hm:RS.moreL (s.tk T)=true:=by rw [ht,hm0,hw];simp
    rw [rowL_more h.1.1 hm] at he
    have hkn:¬ leafKnown names (p.tk T):=by
     rcases leaf_cases hno p hle hnot with ⟨_,q,_⟩ | ⟨q,_⟩ | ⟨q,_⟩
     ·exact q
     ·rw [hi] at q;cases q
     ·rw [hi] at q;cases q
    have htp:(s.peek T).tk T=p.tk T:=okz_tk hpk.1
    have hb:((s.peek T).part T subR).1.err ≠ 0:=part_unknown (by rw [htp];exact hnot) (by rw [htp,hpk.2.2.2.2.2.1];exact hkn)
    rw [rowL_err hb] at he
    exact hb he
  ·have hm:RS.moreL (s.tk T)=true:=by
    rw [ht,hm0]
    unfold PS.isAtom at hi
    rw [memL_sgn] at hi
    simp at hi ⊢
    rcases hi with h | h
    ·exact Or.inl h
    ·exact Or.inr h.1
   simp only [if_true]
   rw [rowL_more h.1.1 hm] at he ⊢
   have hpe:((s.peek T).part T subR).1.err=0:=by
    refine Classical.byContradiction fun hb=>?_
    rw [rowL_err hb] at he
    exact hb he
   have hlt:=isAtom_lt hle hi
   have hadv:=(good_part T names subP hs p hle).2.2.2 hlt
   have hE:Ez T names n ((s.peek T).part T subR).1 (PS.partP T names subP p).1:=by
    rcases part_z hno hs hf hz hpk with q | ⟨q,_⟩
    ·exact q
    ·exact absurd hpe q.1
   obtain ⟨t,k,r1,r2,r3,r4⟩:=hR
   obtain ⟨t',k',q1,q2,q3,q4⟩:=part2 hno hN hs hf hz hsub hpk hpe
   refine ih _ _ _ _ _ hE (by omega) (by omega) ⟨Tr.row t t',k+k',?_,Tr.Rw.more r2 q2,?_,r4.snoc q4⟩ he
   ·rw [r1,q1,Tr.rowR_rx]
   ·rw [q3];show s.atoms+(k':Int)=_;omega
theorem rowR2 {T:ByteArray} {names:List ByteArray} {n:Nat} {s:RS} {p:PS} {subR:RS→RS × Rx} {subP:PS→PS × Px} (hno:NamesOk names) (hN:names.length≤6) (hs:PGood T subP) (hf:FGood T subP) (hz:∀ m,n=m+1→SubZ T names m subR subP) (hsub:∀ m,n=m+1→Sub2 T names m (3 * m+4) subR subP) (h:Ez T names n s p) (he:(s.row T subR).1.err=0):Rd2 names.length (3 * n+3) (Tr.Rw (Tr.Pa n)) s (s.row T subR) (PS.rowR T (PS.partP T names subP) p).2:=by
 have hle:=okz_le h.1
 have hg:=good_part T names subP hs p hle
 have e:s.row T subR=RS.rowL T subR (T.size+2) (s.part T subR).1 (s.part T subR).2:=rfl
 rw [e] at he ⊢
 have hpe:(s.part T subR).1.err=0:=by
  refine Classical.byContradiction fun hb=>?_
  rw [rowL_err hb] at he
  exact hb he
 have hE:Ez T names n (s.part T subR).1 (PS.partP T names subP p).1:=by
  rcases part_z hno hs hf hz h with q | ⟨q,_⟩
  ·exact q
  ·exact absurd hpe q.1
 obtain ⟨t',k',q1,q2,q3,q4⟩:=part2 hno hN hs hf hz hsub h hpe
 obtain ⟨t,k,r1,r2,r3,r4⟩:=rowL2 hno hN hs hf hz hsub s (T.size+2) _ _ _ [(PS.partP T names subP p).2] (T.size+1) hE (by omega) (by omega) ⟨t',k',q1,Tr.Rw.one q2,q3,SmL.one q4⟩ he
 exact ⟨t,k,r1,r2,r3,r4.row⟩
theorem exprL2 {T:ByteArray} {names:List ByteArray} {n:Nat} {subR:RS→RS × Rx} {subP:PS→PS × Px} (hno:NamesOk names) (hN:names.length≤6) (hs:PGood T subP) (hf:FGood T subP) (hz:∀ m,n=m+1→SubZ T names m subR subP) (hsub:∀ m,n=m+1→Sub2 T names m (3 * m+4) subR subP) (s0:RS) :
  ∀ (g:Nat) (s:RS) (e:Rx) (p:PS) (l:List Px) (g':Nat),Ez T names n s p→T.size<p.p+g→T.size<p.p+g'→(∃ t k,e=Tr.rx t∧Tr.Ct (Tr.Pa n) k t∧s.atoms=s0.atoms+(k:Int)∧SmE names.length (3 * n+3) l t)→(RS.exprL T subR g s e).1.err=0 →
   ∃ t k,(RS.exprL T subR g s e).2=Tr.rx t∧Tr.Ct (Tr.Pa n) k t∧(RS.exprL T subR g s e).1.atoms=s0.atoms+(k:Int)∧SmE names.length (3 * n+3) (PS.exprL T (PS.rowR T (PS.partP T names subP)) g' p l).2 t:=by
 intro g
 induction g with
 | zero=>intro s e p l g' h h1;have:=okz_le h.1;omega
 | succ g ih =>
  intro s e p l g' h h1 h2 hR he
  have hle:=okz_le h.1
  have ht:=okz_tk h.1
  obtain ⟨g'',rfl⟩:∃ g'',g'=g''+1:=⟨g' - 1,by omega⟩
  rw [PS.exprL]
  by_cases e47:p.tk T=[47]
  ·rw [if_pos e47]
   rw [exprL_more h.1.1 (by rw [ht];exact e47)] at he ⊢
   have hpe:(((s.peek T).take T).row T subR).1.err=0:=by
    refine Classical.byContradiction fun hb=>?_
    rw [exprL_err hb] at he
    exact hb he
   have hlt:=tk_lt hle e47
   have hnx:=nextp_le T p.p hle
   have hst:(p.step T).p=nextp T p.p:=rfl
   have hadv:=hnx.2.2 hlt
   have hE:Ez T names n ((s.peek T).take T) (p.step T):=⟨okz_take (okz_peek h.1),h.2⟩
   have hg:=good_row T _ (good_part T names subP hs) (p.step T) (by omega)
   have hE2:Ez T names n (((s.peek T).take T).row T subR).1 (PS.rowR T (PS.partP T names subP) (p.step T)).1:=by
    rcases row_z hno hs hf hz hE with q | q | q
    ·exact q
    ·exact absurd hpe q.1
    ·have:=q.1;rw [hpe] at this;omega
   obtain ⟨t,k,r1,r2,r3,r4⟩:=hR
   obtain ⟨t',k',q1,q2,q3,q4⟩:=rowR2 hno hN hs hf hz hsub hE hpe
   have o1:=ct_ok r2
   have o2:=rw_ok (fun _ _ hp=>pa_ok hp) q2
   refine ih _ _ _ _ _ hE2 (by omega) (by omega) ⟨Tr.either t t',k+k',?_,Tr.Ct.more r2 q2,?_,r4.snoc q4 o1 o2⟩ he
   ·rw [r1,q1,Tr.eitherX_rx o1 o2]
   ·rw [q3];show s.atoms+(k':Int)=_;omega
  ·rw [if_neg e47,exprL_end h.1.1 (by rw [ht];exact e47)]
   exact hR
theorem exprS2 {T:ByteArray} {names:List ByteArray} {n:Nat} {s:RS} {p:PS} {subR:RS→RS × Rx} {subP:PS→PS × Px} (hno:NamesOk names) (hN:names.length≤6) (hs:PGood T subP) (hf:FGood T subP) (hz:∀ m,n=m+1→SubZ T names m subR subP) (hsub:∀ m,n=m+1→Sub2 T names m (3 * m+4) subR subP) (h:Ez T names n s p) (he:(s.exprS T subR).1.err=0):Rd2 names.length (3 * n+4) (Tr.Ct (Tr.Pa n)) s (s.exprS T subR) (PS.exprAt T names subP p).2:=by
 have hle:=okz_le h.1
 have hg:=good_row T _ (good_part T names subP hs) p hle
 have e:s.exprS T subR=RS.exprL T subR (T.size+2) (s.row T subR).1 (s.row T subR).2:=rfl
 rw [e] at he ⊢
 have hpe:(s.row T subR).1.err=0:=by
  refine Classical.byContradiction fun hb=>?_
  rw [exprL_err hb] at he
  exact hb he
 have hE:Ez T names n (s.row T subR).1 (PS.rowR T (PS.partP T names subP) p).1:=by
  rcases row_z hno hs hf hz h with q | q | q
  ·exact q
  ·exact absurd hpe q.1
  ·have:=q.1;rw [hpe] at this;omega
 obtain ⟨t',k',q1,q2,q3,q4⟩:=rowR2 hno hN hs hf hz hsub h hpe
 obtain ⟨t,k,r1,r2,r3,r4⟩:=exprL2 hno hN hs hf hz hsub s (T.size+2) _ _ _ [(PS.rowR T (PS.partP T names subP) p).2] (T.size+1) hE (by omega) (by omega) ⟨t',k',q1,Tr.Ct.one q2,q3,SmE.one q4⟩ he
 exact ⟨t,k,r1,r2,r3,r4.either⟩
theorem expr2 {T:ByteArray} {names:List ByteArray} (hno:NamesOk names) (hN:names.length≤6):∀ n,Sub2 T names n (3 * n+4) (RS.expr T n) (PS.expr T names (n+1)):=by
 intro n
 induction n with
 | zero =>
  intro s p h he
  exact exprS2 hno hN (good_expr T names 0) (fg_expr T names 0) (fun m hm=>by omega) (fun m hm=>by omega) h he
 | succ n ih =>
  intro s p h he
  have hz:∀ m,n+1=m+1→SubZ T names m (RS.expr T n) (PS.expr T names (n+1)):=by
   intro m hm
   have e:m=n:=by omega
   subst e
   exact expr_z hno m
  have hsub:∀ m,n+1=m+1→Sub2 T names m (3 * m+4) (RS.expr T n) (PS.expr T names (n+1)):=by
   intro m hm
   have e:m=n:=by omega
   subst e
   exact ih
  exact exprS2 hno hN (good_expr T names (n+1)) (fg_expr T names (n+1)) hz hsub h he
def SideR (nN:Nat) (e:Rx) (x:Px):Prop:=∃ t:Tr,e=t.rx∧SideT' t∧Sm nN 24 x t
theorem side2 {T:ByteArray} {names:List ByteArray} {s:RS} {p:PS} (hno:NamesOk names) (hN:names.length≤6) (c:UInt8) (h:Okz T s p) (hn:s.names=names) (h0:s.nest=0) (he:(s.side T [c]).1.err=0):SideR names.length (s.side T [c]).2 (p.side T names (sgn c)).2:=by
 have h1:Okz T (({ s with atoms:=0 }:RS).peek T) p:=okz_peek (s:={ s with atoms:=0 }) h
 have ht:=okz_tk h1
 unfold RS.side PS.side at *
 simp only at he ⊢
 rw [ht] at he ⊢
 rw [memL_sgn]
 by_cases e:p.tk T=[c]
 ·rw [if_pos e,if_pos (by simpa using e)]
  refine ⟨.e,rfl,Or.inl rfl,fun d _ ks _=>?_⟩
  rw [mtP_empty]
  show _↔ks.map (phi names.length)=[]
  simp
 ·rw [if_neg e] at he ⊢
  rw [if_neg (by simpa using e)]
  have hE:Ez T names 4 (({ s with atoms:=0 }:RS).peek T) p.zero:=⟨h1,rfl,by show (0:Int)=s.nest;rw [h0],by show (0:Int)≤0;omega,by show (0:Int)≤4;omega,hn,by show s.nest+4=4;omega⟩
  have hee:((({ s with atoms:=0 }:RS).peek T).expr T 4).1.err=0:=by
   refine Classical.byContradiction fun hb=>?_
   have he':(RS.endB T ((({ s with atoms:=0 }:RS).peek T).expr T 4).1 [c]).err=0:=he
   unfold RS.endB at he'
   rw [if_neg hb] at he'
   exact hb he'
  obtain ⟨t,k,r1,r2,r3,r4⟩:=expr2 hno hN 4 _ _ hE hee
  have hE2:Ez T names 4 ((({ s with atoms:=0 }:RS).peek T).expr T 4).1 (PS.expr T names (4+1) p.zero).1:=by
   rcases expr_z hno 4 _ _ hE with q | q | q
   ·exact q
   ·exact absurd hee q.1
   ·have:=q.1;rw [hee] at this;omega
  have h5:=hE2.2.2.2.2.1
  have r3':((({ s with atoms:=0 }:RS).peek T).expr T 4).1.atoms=0+(k:Int):=r3
  exact ⟨t,r1,Or.inr ⟨k,by omega,r2⟩,r4.up (by omega)⟩
theorem closeB_sp (T:ByteArray) (s:RS):(s.closeB T).spans=s.spans:=by
 unfold RS.closeB;simp only;split
 ·rw [(want_same T _ _).2.1]
 ·rfl
theorem atomLeaf_sp (T:ByteArray) (s:RS):(s.atomLeaf T).1.spans=s.spans:=by
 unfold RS.atomLeaf RS.leafMany;simp only
 have h:=(leafErr_same (s.take T) (s.tk T) (s.pos T)).2.1
 split
 ·show ((((s.take T).leafErr (s.tk T) (s.pos T)).fail 6 (s.pos T))).spans=_
  rw [(fail_same _ _ _).2.1,h];rfl
 ·exact h.trans rfl
theorem atom_sp (T:ByteArray) (sub:RS→RS × Rx) (hs:∀ s,(sub s).1.spans=s.spans) (s:RS):(s.atom T sub).1.spans=s.spans:=by
 unfold RS.atom;split
 ·split
  ·show ((s.take T).fail 6 (s.pos T)).spans=_
   rw [(fail_same _ _ _).2.1];rfl
  ·show ((sub _).1.closeB T).spans=_
   rw [closeB_sp,hs];rfl
 ·exact atomLeaf_sp T s
theorem part_sp (T:ByteArray) (sub:RS→RS × Rx) (hs:∀ s,(sub s).1.spans=s.spans) (s:RS):(s.part T sub).1.spans=s.spans:=by
 unfold RS.part;split
 ·exact atom_sp T sub hs s
 ·unfold RS.suffix;simp only
  (repeat' split) <;> exact atom_sp T sub hs s
theorem rowL_sp (T:ByteArray) (sub:RS→RS × Rx) (hs:∀ s,(sub s).1.spans=s.spans) (g:Nat):∀ s e,(RS.rowL T sub g s e).1.spans=s.spans:=by
 induction g with
 | zero=>intro s e;rfl
 | succ g ih =>
  intro s e;rw [RS.rowL];split
  ·rfl
  ·split
   ·rw [ih,part_sp T sub hs];rfl
   ·rfl
theorem row_sp (T:ByteArray) (sub:RS→RS × Rx) (hs:∀ s,(sub s).1.spans=s.spans) (s:RS):(s.row T sub).1.spans=s.spans:=by
 unfold RS.row;rw [rowL_sp T sub hs,part_sp T sub hs]
theorem exprL_sp (T:ByteArray) (sub:RS→RS × Rx) (hs:∀ s,(sub s).1.spans=s.spans) (g:Nat):∀ s e,(RS.exprL T sub g s e).1.spans=s.spans:=by
 induction g with
 | zero=>intro s e;rfl
 | succ g ih =>
  intro s e;rw [RS.exprL];split
  ·rfl
  ·split
   ·rw [ih,row_sp T sub hs];rfl
   ·rfl
theorem exprS_sp (T:ByteArray) (sub:RS→RS × Rx) (hs:∀ s,(sub s).1.spans=s.spans) (s:RS):(s.exprS T sub).1.spans=s.spans:=by
 unfold RS.exprS;rw [exprL_sp T sub hs,row_sp T sub hs]
theorem expr_sp (T:ByteArray) (n:Nat):∀ s,(RS.expr T n s).1.spans=s.spans:=by
 induction n with
 | zero=>intro s;exact exprS_sp T _ (fun _=>rfl) s
 | succ n ih=>intro s;exact exprS_sp T _ ih s
theorem side_sp (T:ByteArray) (s:RS) (l:List UInt8):(s.side T l).1.spans=s.spans:=by
 have hb:∀ x:RS,(x.endB T l).spans=x.spans:=by
  intro x;unfold RS.endB;split
  ·exact (want_same T x l).2.1
  ·rfl
 unfold RS.side;simp only;split
 ·rw [hb];rfl
 ·rw [hb,expr_sp];rfl
def RuleZ (nN:Nat) (o:Bool × Rx × Rx) (M:RuleM):Prop:=∃ xl xr:Px,o.1=M.cut∧SideR nN o.2.1 xl∧SideR nN o.2.2 xr∧M.SL=(mk 24 xl startS 0).1∧M.fL=(mk 24 xl startS 0).2∧M.SR=(mk 24 xr startS 0).1∧M.fR=(mk 24 xr startS 0).2
theorem rule2 {T:ByteArray} {names:List ByteArray} {s:RS} {p:PS} {n:Nat} (hno:NamesOk names) (hN:names.length≤6) (h:Okz T s p) (hn:s.names=names) (h0:s.nest=0) (hm:memL [wCut,wJoin] (p.tk T)=true) (hL:s.L.length=n) (he:(s.rule T).err=0) :
  ∃ o,(s.rule T).L=s.L++[o]∧RuleZ names.length o (ruleOf T names n p)∧(s.rule T).spans=s.spans:=by
 have h4:¬ n=4:=by
  intro e
  unfold RS.rule at he
  simp only at he
  rw [if_pos (show (s.take T).L.length=4 from hL.trans e)] at he
  exact absurd he (fail_err _ _ _ (by omega))
 have hrl:=rule_last T s (s.take T) rfl (by show ¬ s.L.length=4;omega)
 have en:p.ruleN T n=p:=by unfold PS.ruleN;rw [if_neg h4]
 have en2:(p.ruleN T n).need T [wCut,wJoin]=p.step T:=by rw [en];unfold PS.need;rw [hm];rfl
 have h1:=okz_take h
 have ha:((s.take T).side T [124]).1.err=0:=by
  refine Classical.byContradiction fun hb=>?_
  rw [hrl,if_neg hb] at he
  exact hb he
 rw [hrl,if_pos ha] at he ⊢
 have hb:(((s.take T).side T [124]).1.side T [59]).1.err=0:=he
 have hA:Okz T ((s.take T).side T [124]).1 (((p.step T).side T names (sgn 124)).1.need T [sgn 124])∧((s.take T).side T [124]).1.names=names∧((s.take T).side T [124]).1.nest=0:=by
  rcases side_z hno 124 h1 hn h0 with q | q
  ·exact q
  ·exact absurd ha q.1
 have s1:=side2 hno hN 124 h1 hn h0 ha
 have s2:=side2 hno hN 59 hA.1 hA.2.1 hA.2.2 hb
 have eA:(p.ruleA T names n)=(p.step T).side T names (sgn 124):=by unfold PS.ruleA;rw [en2]
 have eB:(p.ruleB T names n)=(((p.step T).side T names (sgn 124)).1.need T [sgn 124]).side T names (sgn 59):=by unfold PS.ruleB;rw [eA]
 refine ⟨(decide (s.tk T=[99,117,116]),((s.take T).side T [124]).2,(((s.take T).side T [124]).1.side T [59]).2),?_,⟨(p.ruleA T names n).2,(p.ruleB T names n).2,?_,?_,?_,rfl,rfl,rfl,rfl⟩,?_⟩
 ·show _++_=_
  rw [side_L,side_L];rfl
 ·show decide (s.tk T=_)=((takenOf T [wCut,wJoin] (p.ruleN T n).p).toList == [99,117,116])
  have et:takenOf T [wCut,wJoin] p.p=tokp T p.p:=by unfold takenOf;rw [show memL [wCut,wJoin] (tokp T p.p).toList=true from hm];rfl
  rw [en,et,okz_tk h,Bool.eq_iff_iff]
  simp only [decide_eq_true_eq,beq_iff_eq]
  exact Iff.rfl
 ·rw [eA];exact s1
 ·rw [eB];exact s2
 ·show (((s.take T).side T [124]).1.side T [59]).1.spans=_
  rw [side_sp,side_sp];rfl
theorem rules2 {T:ByteArray} {names:List ByteArray} (hno:NamesOk names) (hN:names.length≤6):∀ (g:Nat) (s:RS) (p:PS) (Ls:List RuleM) (g':Nat),Okz T s p→s.names=names→s.nest=0→s.L.length=Ls.length→(p.tk T=[99,108,97,115,115]→s.L.length ≠ 0)→T.size<p.p+g→T.size<p.p+g'→All2 (RuleZ names.length) s.L Ls→(RS.readL T g s).err=0 →
  All2 (RuleZ names.length) (RS.readL T g s).L (readR T names g' p Ls).2∧(RS.readL T g s).names=names∧(RS.readL T g s).spans=s.spans:=by
 intro g
 induction g with
 | zero=>intro s p Ls g' h _ _ _ _ hg;have:=okz_le h;omega
 | succ g ih =>
  intro s p Ls g' h hn h0 hL hc hg hg' hA he
  have hle:=okz_le h
  have ht:=okz_tk h
  have hpk:=okz_peek h
  obtain ⟨g'',rfl⟩:∃ g'',g'=g''+1:=⟨g' - 1,by omega⟩
  rw [readR]
  by_cases hcj:p.tk T=[99,117,116]∨p.tk T=[106,111,105,110]
  ·have hm:=(cj_mem (p.tk T)).2 hcj
   rw [if_pos hm]
   rw [readL_rule h.1 (by rw [ht];exact hcj)] at he ⊢
   have hlt:=mem_lt hle cj_ne hm
   have hrg:=rule_good T names Ls.length p hle (okz_fz h)
   have hadv:=hrg.2.2.2.2 hlt
   have hre:((s.peek T).rule T).err=0:=by
    refine Classical.byContradiction fun hb=>?_
    rw [readL_badz hb] at he
    exact hb he
   obtain ⟨o,o1,o2,o3⟩:=rule2 hno hN hpk hn h0 hm hL hre
   rcases rule_z hno hpk hn h0 hm hL with ⟨a1,a2,a3,a4⟩ | ab
   ·have hA':All2 (RuleZ names.length) ((s.peek T).rule T).L (Ls++[ruleOf T names Ls.length p]):=by rw [o1];exact All2.snoc hA o2
    have:=ih _ _ _ g'' a1 a2 a3 (by rw [a4,List.length_append];rfl) (fun _=>by rw [a4];omega) (by omega) (by omega) hA' he
    exact ⟨this.1,this.2.1,this.2.2.trans o3⟩
   ·exact absurd hre ab.1
  ·have hm:¬ memL [wCut,wJoin] (p.tk T)=true:=fun hh=>hcj ((cj_mem _).1 hh)
   rw [if_neg hm]
   by_cases e:p.tk T=[]
   ·rw [readL_end h.1 (by rw [ht];exact e)]
    exact ⟨hA,hn,rfl⟩
   ·exfalso
    rw [readL_bad h.1 (by rw [ht];exact fun hh=>hc hh.1 hh.2) (by rw [ht];exact hcj) (by rw [ht];exact e)] at he
    have hb:((s.peek T).fail 2 (s.pos T)).err ≠ 0:=fail_err _ _ _ (by omega)
    rw [readL_badz hb] at he
    exact hb he
theorem class_few {T:ByteArray} {s:RS} (h:(s.classes T).err=0) (hN:s.names.length≤6):s.names.length<6:=by
 refine Classical.byContradiction fun hh=>?_
 rw [classes_eq,if_pos (show (s.take T).names.length=6 from (show s.names.length=6 by omega))] at h
 exact absurd h (fail_err _ _ _ (by omega))
theorem classes2 {T:ByteArray}:∀ (g:Nat) (s:RS) (p:PS) (l:List (Int × Int × Nat)) (g':Nat),Okz T s p→NamesOk s.names→s.names.length≤6→s.spans=spI l→s.nest=0→s.L=[]→T.size<p.p+g→T.size<p.p+g'→(RS.readL T g s).err=0 →
  All2 (RuleZ (readC T g' ⟨p,s.names,l⟩).names.length) (RS.readL T g s).L (readR T (readC T g' ⟨p,s.names,l⟩).names (T.size+1) (readC T g' ⟨p,s.names,l⟩).s []).2∧(RS.readL T g s).names=(readC T g' ⟨p,s.names,l⟩).names∧(RS.readL T g s).spans=spI (readC T g' ⟨p,s.names,l⟩).l∧(readC T g' ⟨p,s.names,l⟩).names.length≤6:=by
 intro g
 induction g with
 | zero=>intro s p l g' h _ _ _ _ _ hg;have:=okz_le h;omega
 | succ g ih =>
  intro s p l g' h hno hN hs h0 hL hg hg' he
  have hle:=okz_le h
  have ht:=okz_tk h
  have hpk:=okz_peek h
  obtain ⟨g'',rfl⟩:∃ g'',g'=g''+1:=⟨g' - 1,by omega⟩
  by_cases hm:memL [wClass] (p.tk T)=true
  ·have hcw:=class_word hm
   rw [readL_class h.1 (by rw [ht];exact hcw) (by rw [hL];rfl)] at he ⊢
   rw [readC,if_pos hm]
   have hlt:=mem_lt hle cls_ne hm
   have hcp:=class_p T s.names l p (okz_fz h) hle
   have hadv:=hcp.2.2 hlt
   have hLL:=classes_L T (s.peek T)
   have hce:((s.peek T).classes T).err=0:=by
    refine Classical.byContradiction fun hb=>?_
    rw [readL_badz hb] at he
    exact hb he
   have h6:=class_few hce hN
   rcases class_z hpk hs hm hno with ⟨a1,a2,a3,a4⟩ | ab
   ·have:=ih ((s.peek T).classes T) (p.klass T s.names l) (p.classB T s.names l).2 g'' a1 a4 (by rw [a3,List.length_append];show s.names.length+1≤6;have:s.names.length<6:=h6;omega) a2 (by rw [hLL.2];exact h0) (by rw [hLL.1];exact hL) (by omega) (by omega) he
    rw [a3] at this
    exact this
   ·exact absurd hce ab.1
  ·have e1:readC T (g''+1) ⟨p,s.names,l⟩=⟨p,s.names,l⟩:=by rw [readC,if_neg hm]
   rw [e1]
   have:=rules2 hno hN (g+1) s p [] (T.size+1) h rfl h0 (by rw [hL];rfl) (fun hh=>by
    exfalso
    apply hm
    rw [memL_iff]
    exact ⟨wClass,by simp,by unfold wClass;rw [ByteArray.toList_eq];exact hh.symm⟩) hg (by omega) (by rw [hL];exact All2.nil) he
   exact ⟨this.1,this.2.1,this.2.2.trans hs,hN⟩
theorem read2_same (T:ByteArray) (hT:T.size≤1000) (he:(RS.read T).err=0):All2 (RuleZ (read1 T).names.length) (RS.read T).L (read2 T).2∧(RS.read T).names=(read1 T).names∧(RS.read T).spans=spI (read1 T).l∧(read1 T).names.length≤6:=by
 have h0:Okz T RS.start (read0 T).s:=⟨rfl,rfl,rfl,Nat.zero_le _,rfl⟩
 have e1:RS.read T=RS.readL T (T.size+2) RS.start:=by unfold RS.read;rw [if_neg (by omega)]
 rw [e1] at he ⊢
 exact classes2 (T:=T) (T.size+2) RS.start (read0 T).s [] (T.size+1) h0 (fun x hx=>by simp [RS.start] at hx) (by decide) rfl rfl rfl (by omega) (by omega) he
open Go.Lib
theorem All2.at {α β:Type} {R:α→β→Prop} {l:List α} {m:List β} (h:All2 R l m):l.length=m.length∧∀ (i:Nat) (a:α) (b:β),l[i]?=some a→m[i]?=some b→R a b:=by
 induction h with
 | nil=>exact ⟨rfl,fun i a b h=>by simp at h⟩
 | @snoc l m a b h hr ih =>
  refine ⟨by simp [ih.1],fun i x y hx hy=>?_⟩
  rcases snoc_at hx with ⟨h1,h2⟩ | ⟨h1,rfl⟩
  ·have hi:=(List.getElem?_eq_some_iff.1 h1).1
   rw [List.getElem?_append_left (by have:=ih.1;omega)] at hy
   exact ih.2 i x y h1 hy
  ·rw [List.getElem?_append_right (by have:=ih.1;omega),show i - m.length=0 by have:=ih.1;omega] at hy
   simp at hy
   rw [← hy];exact hr
def rxOf (x:Bool × Tr × Tr):Bool × Rx × Rx:=(x.1,x.2.1.rx,x.2.2.rx)
def RuleT (nN:Nat) (x:Bool × Tr × Tr) (M:RuleM):Prop:=SideT' x.2.1∧SideT' x.2.2∧∃ xl xr:Px,x.1=M.cut∧Sm nN 24 xl x.2.1∧Sm nN 24 xr x.2.2∧M.SL=(mk 24 xl startS 0).1∧M.fL=(mk 24 xl startS 0).2∧M.SR=(mk 24 xr startS 0).1∧M.fR=(mk 24 xr startS 0).2
theorem trees_of {nN:Nat} {L:List (Bool × Rx × Rx)} {Ls:List RuleM} (h:All2 (RuleZ nN) L Ls):∃ Lt,L=List.map rxOf Lt∧All2 (RuleT nN) Lt Ls:=by
 induction h with
 | nil=>exact ⟨[],rfl,All2.nil⟩
 | @snoc l m o M h hr ih =>
  obtain ⟨Lt,e,hA⟩:=ih
  obtain ⟨xl,xr,h1,⟨tl,l1,l2,l3⟩,⟨tr,r1,r2,r3⟩,h4⟩:=hr
  refine ⟨Lt++[(o.1,tl,tr)],?_,All2.snoc hA ⟨l2,r2,xl,xr,h1,l3,r3,h4⟩⟩
  rw [List.map_append,← e]
  show _=_++[(o.1,tl.rx,tr.rx)]
  rw [← l1,← r1]
theorem side_ok {t:Tr} (h:SideT' t):t.ok:=by
 rcases h with rfl | ⟨k,_,hc⟩
 ·exact trivial
 ·exact ct_ok hc
theorem sameR_of {row row':List Nat}:∀ (J:List PR) (Lt:List (Bool × Tr × Tr)),J.length=Lt.length→(∀ (i:Nat) (r:PR) (x:Bool × Tr × Tr),J[i]?=some r→Lt[i]?=some x→r.1=x.1∧(∀ i,1≤i→i<row.length→(tmatch r.2.1 (leftAt r.2.1 row i)=true↔LeftM x.2.1 row' i))∧∀ i,1≤i→i<row.length→(tmatch r.2.2 (rightAt r.2.2 row i)=true↔RightM x.2.2 row' i))→SameR row row' J Lt:=by
 intro J
 induction J with
 | nil =>
  intro Lt h _
  cases Lt with
  | nil=>exact SameR.nil
  | cons a l=>simp at h
 | cons r J ih =>
  intro Lt h hh
  cases Lt with
  | nil=>simp at h
  | cons x Lt =>
   obtain ⟨h1,h2,h3⟩:=hh 0 r x rfl rfl
   exact SameR.cons (ih Lt (by simpa using h) fun i r' x' hr hx=>hh (i+1) r' x' (by simpa using hr) (by simpa using hx)) h1 h2 h3
theorem same_rules {nN:Nat} {Lt:List (Bool × Tr × Tr)} {Ls:List RuleM} {J:List PR} (hA:All2 (RuleT nN) Lt Ls) (hok:∀ x ∈ Ls,RuleOk x) (hJ:PJOk Ls J) {row:List Nat} (hk:Kok nN row) (h8:∀ k ∈ row,k<8):SameR row (row.map (phi nN)) J Lt:=by
 obtain ⟨hl,ha⟩:=hA.at
 refine sameR_of J Lt (by rw [hJ.1,hl]) fun i r x hr hx=>?_
 have hi:i<Ls.length:=by rw [← hl];exact (List.getElem?_eq_some_iff.1 hx).1
 have hM:Ls[i]?=some Ls[i]:=List.getElem?_eq_getElem hi
 obtain ⟨t1,t2,xl,xr,c1,c2,c3,c4,c5,c6,c7⟩:=ha i x Ls[i] hx hM
 obtain ⟨j1,j2,j3⟩:=hJ.2 i Ls[i] r hM hr
 have hro:=hok Ls[i] (List.getElem_mem hi)
 have sub:∀ ks:List Nat,(∀ k ∈ ks,k ∈ row)→Kok nN ks:=fun ks h k hk'=>hk k (h k hk')
 refine ⟨by rw [j1,c1],fun m h1 h2=>?_,fun m h1 h2=>?_⟩
 ·rw [left_mt c4 c5 j2 row h8 m (by omega)]
  unfold LeftM
  constructor
  ·rintro ⟨j,hj,hm⟩
   refine ⟨j,hj,?_⟩
   rw [Tr.der_emp (side_ok t1),← List.map_take,← List.map_drop]
   exact (c2 24 (Nat.le_refl _) _ (sub _ fun k hk'=>List.mem_of_mem_take (List.mem_of_mem_drop hk'))).1 hm
  ·rintro ⟨j,hj,hm⟩
   refine ⟨j,hj,?_⟩
   rw [Tr.der_emp (side_ok t1),← List.map_take,← List.map_drop] at hm
   exact (c2 24 (Nat.le_refl _) _ (sub _ fun k hk'=>List.mem_of_mem_take (List.mem_of_mem_drop hk'))).2 hm
 ·rw [right_mt hro.sr c6 c7 j3 row h8 m]
  unfold RightM
  rw [List.length_map]
  constructor
  ·rintro ⟨j,hj,hm⟩
   refine ⟨j,hj,?_⟩
   rw [Tr.der_emp (side_ok t2),← List.map_drop,← List.map_take]
   exact (c3 24 (Nat.le_refl _) _ (sub _ fun k hk'=>List.mem_of_mem_drop (List.mem_of_mem_take hk'))).1 hm
  ·rintro ⟨j,hj,hm⟩
   refine ⟨j,hj,?_⟩
   rw [Tr.der_emp (side_ok t2),← List.map_drop,← List.map_take] at hm
   exact (c3 24 (Nat.le_refl _) _ (sub _ fun k hk'=>List.mem_of_mem_drop (List.mem_of_mem_take hk'))).2 hm
theorem kinds_phi {nN:Nat} (hN:nN≤6) {cs:List Int} {ks:List Nat} (h:All2 (KindR nN) cs ks):cs=ks.map (fun k=>(phi nN k:Int))∧Kok nN ks:=by
 induction h with
 | nil=>exact ⟨rfl,fun k hk=>by simp at hk⟩
 | @snoc l m c k h hr ih =>
  obtain ⟨e,hk⟩:=ih
  refine ⟨?_,fun k' hk'=>?_⟩
  ·rw [List.map_append,← e]
   congr 1
   show [c]=[(phi nN k:Int)]
   unfold phi
   rcases hr with ⟨h1,h2⟩ | ⟨h1,h2⟩ | ⟨h1,h2⟩
   ·rw [if_neg (by omega),if_neg (by omega),h2]
   ·rw [if_pos h1,h2]
   ·rw [if_neg (by omega),if_pos h1,h2];rfl
  ·rcases List.mem_append.1 hk' with q | q
   ·exact hk k' q
   ·simp at q;subst q
    rcases hr with ⟨h1,_⟩ | ⟨h1,_⟩ | ⟨h1,_⟩
    ·exact Or.inl h1
    ·exact Or.inr (Or.inl h1)
    ·exact Or.inr (Or.inr h1)
theorem endsOf_len (p:Nat) (ns:List Nat):(endsOf p ns).length=ns.length:=by
 induction ns generalizing p with
 | nil=>rfl
 | cons n ns ih=>simp [endsOf,ih]
theorem told_same {T s:ByteArray} {nN:Nat} {S:List (Int × Int × Int)} {L:List (Int × Int × Nat)} {Lt:List (Bool × Tr × Tr)} (hN:nN≤6) (hS:SameS nN S L) (hR:InRow L) (h8:∀ o ∈ L,o.2.2<8) (hA:All2 (RuleT nN) Lt (read2 T).2) (hok:∀ x ∈ (read2 T).2,RuleOk x) {told told':List ByteArray} (h:CutTold T s L told) (h':RefTold nN S Lt s told'):told=told':=by
 obtain ⟨J,ks,ns,hJ,hC,rfl⟩:=h
 obtain ⟨cs,row,a,hc,hrow,hseg⟩:=h'
 obtain ⟨ks',ns',c1,c2,c3⟩:=chars_same hS h8 hc
 obtain ⟨rfl,rfl⟩:=charsTo_uniq hR h8 s.size ks ns ks' ns' hC c1
 obtain ⟨e,hkok⟩:=kinds_phi hN c2
 have hrow':row=ks.map (phi nN):=by
  rw [hrow] at e
  have e2:row.map (fun k:Nat=>(k:Int))=(ks.map (phi nN)).map (fun k:Nat=>(k:Int)):=by rw [e,List.map_map];rfl
  exact (List.map_inj_right (f:=fun k:Nat=>(k:Int)) (fun a b h=>by have h':(a:Int)=(b:Int):=h;omega)).1 e2
 have hlen:cs.length=ns.length:=by have:=congrArg List.length c3;rw [List.length_map,endsOf_len] at this;exact this
 have hlr:cs.length=row.length:=by have:=congrArg List.length hrow;simpa using this
 have hsame:=same_rules hA hok hJ hkok (hC.ok h8).kinds
 rw [hrow'] at hseg
 have:=seg_same (cb:=cutsOf J ks) c3 (fun i c h1 h2 hcc=>cuts_same (by simp) hsame i c h1 (by rw [hrow'] at hlr;omega) hcc) hseg
 rw [← hlen,this]
theorem readC_low (T:ByteArray):∀ (g:Nat) (r:RD),(∀ o ∈ r.l,o.2.2<r.names.length)→∀ o ∈ (readC T g r).l,o.2.2<(readC T g r).names.length:=by
 intro g
 induction g with
 | zero=>intro r h;exact h
 | succ g ih =>
  intro r h
  rw [readC]
  split
  ·refine ih _ fun o ho=>?_
   show o.2.2<(r.names++[nameTok T r.names r.s]).length
   rw [List.length_append]
   show o.2.2<r.names.length+1
   rcases (spansL_few T r.names.length _ _ _).2 o ho with q | q
   ·rcases List.mem_append.1 q with q | q
    ·have:=h o q;omega
    ·simp at q;subst q;exact Nat.lt_succ_self _
   ·omega
  ·exact h
theorem read1_low (T:ByteArray):∀ o ∈ (read1 T).l,o.2.2<(read1 T).names.length:=readC_low T _ _ (fun o ho=>by simp [read0] at ho)
theorem same_spans (T:ByteArray) {L:List (Int × Int × Nat)} (hp:L.Perm (read1 T).l):SameS (read1 T).names.length (spI (read1 T).l) L:=by
 refine ⟨fun o ho=>⟨read1_low T o (hp.mem_iff.1 ho),List.mem_map.2 ⟨o,hp.mem_iff.1 ho,rfl⟩⟩,fun o ho=>?_⟩
 obtain ⟨x,hx,rfl⟩:=List.mem_map.1 ho
 exact ⟨x.2.2,rfl,hp.mem_iff.2 hx⟩
theorem refCells_at (l:List (Bool × Value × Value)) (i:Nat) (h:i<l.length):(ruleCells l)[i * 3]?=some (.bool l[i].1)∧(ruleCells l)[i * 3+1]?=some l[i].2.1∧(ruleCells l)[i * 3+2]?=some l[i].2.2:=by
 induction l generalizing i with
 | nil=>simp at h
 | cons a l ih =>
  cases i with
  | zero=>exact ⟨rfl,rfl,rfl⟩
  | succ i =>
   have:=ih i (by simpa using h)
   have e:∀ k,(ruleCells (a :: l))[(i+1) * 3+k]?=(ruleCells l)[i * 3+k]?:=by
    intro k;rw [show (i+1) * 3+k=(i * 3+k)+3 from by omega];rfl
   have e0:=e 0
   have e1:=e 1
   have e2:=e 2
   simp only [Nat.add_zero] at e0
   rw [e0,e1,e2];exact this
structure RefOk (T:ByteArray) (w:World) (b nN:Nat) (S:List (Int × Int × Int)) (Lt:List (Bool × Tr × Tr)):Prop where
 spans:RefS w b nN S
 rules:RefL w b Lt
 fit:∀ x ∈ Lt,AllFit x.2.1∧AllFit x.2.2
 few:S.length≤100000
 low:KindsLow nN S
 four:Lt.length≤4
 trees:All2 (RuleT nN) Lt (read2 T).2
 same:∀ L:List (Int × Int × Nat),L.Perm (read1 T).l→SameS nN S L
theorem RefOk.keep {T:ByteArray} {w w':World} {b nN:Nat} {S:List (Int × Int × Int)} {Lt:List (Bool × Tr × Tr)} (h:RefOk T w b nN S Lt) (hb:Below w.heap.size w w'):RefOk T w' b nN S Lt:=⟨h.spans.keep hb,h.rules.keep hb,h.fit,h.few,h.low,h.four,h.trees,h.same⟩
theorem ref_ok {T:ByteArray} {w:World} {b:Nat} (hT:T.size≤1000) (he:(RS.read T).err=0) (h:RSt w b b T (RS.read T)):∃ nN S Lt,RefOk T w b nN S Lt:=by
 obtain ⟨hA,hn,hs,h6⟩:=read2_same T hT he
 obtain ⟨Lt,eL,hAt⟩:=trees_of hA
 have hrd:(rdT T).err=0:=by rw [rd_is hT];show (readP T).f=0;rw [(read_z T hT).1];exact he
 have hsp:=read_spans T hrd
 obtain ⟨vN,vS,vL,hblk,hrow,c0,c1,c2,c3,c4,c5,c6,c7,c8,hf⟩:=h.cells
 obtain ⟨hN,hS,vs,hL,har⟩:=hrow
 have hok:=h.2.2.2.1
 obtain ⟨aN,cN,rfl⟩:=row_shape hN
 obtain ⟨aS,cS,rfl,hSf⟩:=spanRow_form hS
 obtain ⟨aL,cL,rfl⟩:=row_shape hL
 have hlen:(RS.read T).L.length=Lt.length:=by rw [eL,List.length_map]
 have hln:(spI (read1 T).l).length=(read1 T).l.length:=by unfold spI;rw [List.length_map]
 refine ⟨(read1 T).names.length,spI (read1 T).l,Lt,⟨⟨⟨aN,cN,by rw [← hn];exact c4⟩,aS,cS,by rw [← hs];exact c5,?_⟩,⟨aL,cL,by rw [← hlen];exact c6,?_⟩,?_,by omega,⟨h6,fun o ho=>?_⟩,by have:=hok.2.2.2.1;omega,hAt,fun L hp=>same_spans T hp⟩⟩
 ·rw [← hs]
  intro i hi
  obtain ⟨g,e,_,k0,k1,k2⟩:=hSf i hi
  exact ⟨g,e,k0,k1,k2⟩
 ·intro i hi
  have hiv:i<vs.length:=by rw [har.1];omega
  have hc:=refCells_at vs i hiv
  have hx:(RS.read T).L[i]?=some (rxOf Lt[i]):=by rw [eL,List.getElem?_map,List.getElem?_eq_getElem hi];rfl
  obtain ⟨e1,e2,e3⟩:=har.2 i vs[i] _ (List.getElem?_eq_getElem hiv) hx
  obtain ⟨_,h3⟩:=hL
  rcases h3 with ⟨hv,hz⟩ | ⟨g,cap,cur,hv,hg,hh,hcap,hmx,hsz,hcur⟩
  ·omega
  ·injection hv with hv1 _ _
   rw [← hcur,List.getElem?_take,List.getElem?_take,List.getElem?_take,if_pos (by omega),if_pos (by omega),if_pos (by omega)] at hc
   refine ⟨g,vs[i].2.1,vs[i].2.2,hv1,?_,cell_of_block hh _ _ (by simpa using hc.2.1),cell_of_block hh _ _ (by simpa using hc.2.2),e2,e3⟩
   have:=cell_of_block hh (i * 3) _ (by simpa using hc.1)
   rw [e1] at this;exact this
 ·intro x hx
  obtain ⟨i,hi,rfl⟩:=List.getElem_of_mem hx
  obtain ⟨hl,ha⟩:=hAt.at
  obtain ⟨t1,t2,_⟩:=ha i Lt[i] _ (List.getElem?_eq_getElem hi) (List.getElem?_eq_getElem (by omega))
  exact ⟨allFit_side t1,allFit_side t2⟩
 ·obtain ⟨x,hx,rfl⟩:=List.mem_map.1 ho
  have:=read1_low T x hx
  show (0:Int)≤(x.2.2:Int)∧(x.2.2:Int)<6
  omega
end Go.Proofs.YtodagkkjfipbgaaGreatDoor
namespace Go.Proofs.YtodagkkjfipbgaaGreatDoor
open Go.RowKit
theorem rd_ref (T:ByteArray):(rdT T).err=(RS.read T).err∧(rdT T).place=(RS.read T).place:=by
 rcases Nat.lt_or_ge 1000 T.size with h | h
 ·have:RS.read T=RS.start.fail 1 0:=by unfold RS.read;rw [if_pos h]
  rw [this,rd_big h];exact ⟨rfl,rfl⟩
 ·obtain ⟨e1,e2,e3⟩:=read_z T h
  rw [rd_is h]
  refine ⟨e1,?_⟩
  show (if (readP T).f=0 then 0 else (readP T).pl)=_
  by_cases h0:(RS.read T).err=0
  ·rw [if_pos (e1.trans h0),e2 h0]
  ·rw [if_neg (by rw [e1];exact h0),e3 h0]
theorem empty_read:(rdT ⟨#[]⟩).err=0∧(rdT ⟨#[]⟩).place=0:=⟨by kernel_rfl,by kernel_rfl⟩
theorem cut_read:(rdT ⟨#[99,117,116]⟩).err=2∧(rdT ⟨#[99,117,116]⟩).place=3:=⟨by kernel_rfl,by kernel_rfl⟩
set_option maxRecDepth 100000 in
set_option maxHeartbeats 2000000 in
theorem takes_pr (w:World) (hE:ErrsOk w) :
  Calls Tryz.prog 14 #[] w fun r w'=>r=.returned (.bool true)∧Below w.heap.size w w':=by
 have HE:Hid (ErrsOk w):=hE
 clear hE
 go_enter Tryz.func14,Tryz.ntmps14
 go_wp2_with fail
 refine (compile_all _ w HE.out (by decide)).mono ?_
 rintro r w1 ⟨b1,v1,rfl,h1,-⟩
 obtain ⟨g,_,_,_,_,_,_,rfl,_⟩:=h1 empty_read.1
 rw [empty_read.1,empty_read.2]
 clear h1
 go_wp2_with fail
 refine (compile_all _ w1 (HE.out.below b1) (by decide)).mono ?_
 rintro r w2 ⟨b2,v2,rfl,-,h2⟩
 obtain rfl:=h2 (by rw [cut_read.1];decide)
 rw [cut_read.1,cut_read.2]
 clear h2
 go_wp2_with fail
 go_ret
 exact ⟨rfl,b1.trans (b2.mono b1.size)⟩
theorem num_pr (n:Int) (w:World):Calls Tryz.prog 17 #[.int .i64 n] w fun r w'=>r=.returned (.int .i64 n)∧w'=w:=by
 go_enter Tryz.func17,Tryz.ntmps17
 go_wp2_with fail
 go_ret
 exact ⟨rfl,rfl⟩
end Go.Proofs.YtodagkkjfipbgaaGreatDoor
