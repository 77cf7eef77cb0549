import Derived.Test.YtodagkkjfipbgaaGreatDoorZ2toZ4
namespace Go.Proofs.YtodagkkjfipbgaaGreatDoor
open Go.RowKit
theorem side_z {T:ByteArray} {names:List ByteArray} {s:RS} {p:PS} (hno:NamesOk names) (c:UInt8) (h:Okz T s p) (hn:s.names=names) (h0:s.nest=0) :
  (Okz T (s.side T [c]).1 ((p.side T names (sgn c)).1.need T [sgn c])∧(s.side T [c]).1.names=names∧(s.side T [c]).1.nest=0)∨Badz T (s.side T [c]).1 ((p.side T names (sgn c)).1.need T [sgn c]):=by
 have hle:=okz_le h
 have h1:Okz T (({ s with atoms:=0 }:RS).peek T) p:=okz_peek (s:={ s with atoms:=0 }) h
 have ht:=okz_tk h1
 unfold RS.side PS.side
 simp only
 rw [ht,memL_sgn]
 by_cases e:p.tk T=[c]
 ·rw [if_pos e,if_pos (by simpa using e)]
  simp only
  have eb:RS.endB T (({ s with atoms:=0 }:RS).peek T) [c]=(({ s with atoms:=0 }:RS).peek T).want T [c]:=by unfold RS.endB;rw [if_pos h1.1]
  rw [eb]
  rcases okz_want h1 c with ⟨_,w2,w3⟩ | ⟨_,w3⟩
  ·left;exact ⟨w3,by rw [w2];exact hn,by rw [w2];exact h0⟩
  ·right;exact w3
 ·rw [if_neg e,if_neg (by simpa using e)]
  simp only
  have hE:Ez T names 4 (({ s with atoms:=0 }:RS).peek T) p.zero:=⟨h1,rfl,by show (0:Int)=s.nest;rw [h0],by show (0:Int)≤0;omega,by show (0:Int)≤4;omega,hn,by show s.nest+4=4;omega⟩
  have hR:=expr_z hno 4 _ _ hE
  obtain ⟨r,hr⟩:∃ r,r=(RS.expr T 4 (({ s with atoms:=0 }:RS).peek T)).1:=⟨_,rfl⟩
  obtain ⟨q,hq⟩:∃ q,q=(PS.expr T names 5 p.zero).1:=⟨_,rfl⟩
  have hqz:Fz T q:=by rw [hq];exact (fg_expr T names 5 p.zero hle (okz_fz h)).1
  rw [← hr] at hR ⊢
  rw [show PS.expr T names (4+1) p.zero=PS.expr T names 5 p.zero from rfl,← hq] at hR
  rw [← hq]
  rcases hR with hE | hb | hpd
  ·have eb:RS.endB T r [c]=r.want T [c]:=by unfold RS.endB;rw [if_pos hE.1.1]
   rw [eb]
   rcases okz_want hE.1 c with ⟨_,w2,w3⟩ | ⟨_,w3⟩
   ·left;exact ⟨w3,by rw [w2];exact hE.2.2.2.2.2.1,by rw [w2];show r.nest=0;have:=hE.2.2.2.2.2.2;omega⟩
   ·right;exact w3
  ·right
   have eb:RS.endB T r [c]=r:=by unfold RS.endB;rw [if_neg hb.1]
   rw [eb]
   exact badz_keep hb rfl rfl (stk_need T _ _) (hqz.need (by rw [hb.2.2.2];omega) _)
  ·right
   have eb:RS.endB T r [c]=r:=by unfold RS.endB;rw [if_neg (by rw [hpd.1];decide)]
   rw [eb]
   exact (pendz_need hpd c).1
theorem rule_z {T:ByteArray} {names:List ByteArray} {s:RS} {p:PS} {n:Nat} (hno:NamesOk names) (h:Okz T s p) (hn:s.names=names) (h0:s.nest=0) (hm:memL [wCut,wJoin] (p.tk T)=true) (hL:s.L.length=n) :
  (Okz T (s.rule T) (p.rule T names n)∧(s.rule T).names=names∧(s.rule T).nest=0∧(s.rule T).L.length=n+1)∨Badz T (s.rule T) (p.rule T names n):=by
 have hle:=okz_le h
 have hfz:=okz_fz h
 have hrg:=rule_good T names n p hle hfz
 unfold RS.rule
 simp only
 by_cases h4:n=4
 ·rw [if_pos (by show s.L.length=4;omega)]
  right
  have hb:=badz_fail (T:=T) (s:=s.take T) h.1 h.2.1 6 (by decide) (s.pos T:Int) (okz_pos h)
  have en:p.ruleN T n=p.fail T 6:=by unfold PS.ruleN;rw [if_pos h4]
  have z1:Fz T (p.ruleN T n):=hfz.if_ 6
  have p1:(p.ruleN T n).p≤T.size:=(p_if hle 6).1
  have z2:=z1.need p1 [wCut,wJoin]
  have p2:=(need_p p1 [wCut,wJoin]).1
  have f3:=fg_side T names (sgn 124) _ p2 z2
  have p3:=(side_goes T names (sgn 124) _ p2).2
  have z4:=f3.1.need p3 [sgn 124]
  have p4:=(need_p p3 [sgn 124]).1
  have f5:=fg_side T names (sgn 59) _ p4 z4
  have k1:Stk (p.ruleN T n) (p.rule T names n):=((((stk_need T _ _).trans f3.2).trans (stk_need T _ _)).trans f5.2).trans (stk_need T _ _)
  rw [en] at k1
  exact badz_keep hb rfl rfl k1 hrg.1
 ·rw [if_neg (by show ¬ s.L.length=4;omega)]
  have en:(p.ruleN T n).need T [wCut,wJoin]=p.step T:=by
   have:p.ruleN T n=p:=by unfold PS.ruleN;rw [if_neg h4]
   rw [this];unfold PS.need;rw [hm];rfl
  have h1:=okz_take h
  have hA:=side_z hno 124 h1 hn h0
  have eA:(p.ruleA T names n).1.need T [sgn 124]=((p.step T).side T names (sgn 124)).1.need T [sgn 124]:=by unfold PS.ruleA;rw [en]
  rcases hA with ⟨a1,a2,a3⟩ | ab
  ·rw [if_pos a1.1]
   have hB:=side_z hno 59 a1 a2 a3
   have eB:p.rule T names n=((((p.step T).side T names (sgn 124)).1.need T [sgn 124]).side T names (sgn 59)).1.need T [sgn 59]:=by unfold PS.rule PS.ruleB;rw [eA]
   rw [eB]
   rcases hB with ⟨b1,b2,b3⟩ | bb
   ·left
    refine ⟨b1,b2,b3,?_⟩
    show ((((s.take T).side T [124]).1.side T [59]).1.L++_).length=n+1
    rw [List.length_append,side_L,side_L]
    show s.L.length+_=_
    rw [hL];rfl
   ·right;exact bb
  ·right
   rw [if_neg ab.1]
   have hb2:Badz T { ((s.take T).side T [124]).1 with L:=((s.take T).side T [124]).1.L++[(decide (s.tk T=[99,117,116]),((s.take T).side T [124]).2,emptyX)] } (((p.step T).side T names (sgn 124)).1.need T [sgn 124]):=ab
   have f5:=fg_side T names (sgn 59) (((p.step T).side T names (sgn 124)).1.need T [sgn 124]) (by rw [ab.2.2.2];omega) (badz_fz ab)
   have k1:Stk (((p.step T).side T names (sgn 124)).1.need T [sgn 124]) (p.rule T names n):=by
    unfold PS.rule PS.ruleB;rw [eA]
    exact f5.2.trans (stk_need T _ _)
   exact badz_keep hb2 rfl rfl k1 hrg.1
def Finz (T:ByteArray) (s:RS) (p:PS):Prop:=(s.err=0∧s.place=0∧p.f=0)∨Badz T s p
theorem readL_badz {T:ByteArray} {s:RS} (h:s.err ≠ 0) (g:Nat):RS.readL T g s=s:=by
 cases g with
 | zero=>rfl
 | succ g=>rw [RS.readL,if_pos h]
theorem cj_mem (l:List UInt8):memL [wCut,wJoin] l=true↔(l=[99,117,116]∨l=[106,111,105,110]):=by
 rw [memL_iff]
 unfold wCut wJoin
 simp only [List.mem_cons,List.not_mem_nil,or_false]
 constructor
 ·rintro ⟨x,(rfl | rfl),hx⟩ <;> rw [ByteArray.toList_eq] at hx <;> simp [← hx]
 ·rintro (h | h)
  ·exact ⟨_,Or.inl rfl,by rw [ByteArray.toList_eq];exact h.symm⟩
  ·exact ⟨_,Or.inr rfl,by rw [ByteArray.toList_eq];exact h.symm⟩
theorem end_bad {T:ByteArray} {s:RS} {p:PS} {names:List ByteArray} (h:Badz T s p) (g':Nat) (Ls:List RuleM):Badz T s (readEnd T (readR T names g' p Ls).1):=by
 have e1:(readR T names g' p Ls).1=p:=by
  cases g' with
  | zero=>rfl
  | succ g'=>rw [readR,if_neg (by rw [cj_mem,badz_tk h];simp)]
 have e2:readEnd T p=p:=by unfold readEnd;rw [if_pos h.2.2.2]
 rw [e1,e2];exact h
theorem tk_nil_iff {T:ByteArray} {p:PS} (hp:p.p≤T.size):p.tk T=[]↔p.p=T.size:=by
 constructor
 ·intro h
  rcases Nat.lt_or_ge p.p T.size with h1 | h1
  ·exact absurd h (tokp_head h1).1
  ·omega
 ·intro h;unfold PS.tk;rw [h];exact tokp_end T
theorem rules_z {T:ByteArray} {names:List ByteArray} (hno:NamesOk names):∀ (g:Nat) (s:RS) (p:PS) (Ls:List RuleM) (g':Nat),Okz T s p→s.names=names→s.nest=0→s.L.length=Ls.length→(p.tk T=[99,108,97,115,115]→s.L.length ≠ 0)→T.size<p.p+g→T.size<p.p+g' →
  Finz T (RS.readL T g s) (readEnd T (readR T names g' p Ls).1):=by
 intro g
 induction g with
 | zero=>intro s p Ls g' h _ _ _ _ hg;have:=okz_le h;omega
 | succ g ih =>
  intro s p Ls g' h hn h0 hL hc hg hg'
  have hle:=okz_le h
  have ht:=okz_tk h
  have hpk:=okz_peek h
  obtain ⟨g'',rfl⟩:∃ g'',g'=g''+1:=⟨g' - 1,by omega⟩
  rw [RS.readL,if_neg (by rw [h.1];simp)]
  simp only
  rw [ht,if_neg (fun hh=>hc hh.1 hh.2),readR]
  by_cases hcj:p.tk T=[99,117,116]∨p.tk T=[106,111,105,110]
  ·have hm:=(cj_mem (p.tk T)).2 hcj
   rw [if_pos hcj,if_pos hm]
   have hlt:=mem_lt hle cj_ne hm
   have hrg:=rule_good T names Ls.length p hle (okz_fz h)
   have hadv:=hrg.2.2.2.2 hlt
   rcases rule_z hno hpk hn h0 hm hL with ⟨a1,a2,a3,a4⟩ | ab
   ·exact ih _ _ _ _ a1 a2 a3 (by rw [a4,List.length_append];rfl) (fun _=>by rw [a4];omega) (by omega) (by omega)
   ·right
    rw [readL_badz ab.1]
    exact end_bad ab _ _
  ·have hm:¬ memL [wCut,wJoin] (p.tk T)=true:=fun hh=>hcj ((cj_mem _).1 hh)
   rw [if_neg hcj,if_neg hm]
   by_cases e:p.tk T=[]
   ·rw [if_pos e]
    have e2:readEnd T p=p:=by unfold readEnd;rw [if_pos ((tk_nil_iff hle).1 e)]
    show Finz T (s.peek T) (readEnd T p)
    rw [e2]
    exact Or.inl ⟨h.1,h.2.2.2.2,h.2.1⟩
   ·rw [if_neg e]
    have hb:=badz_fail (T:=T) (s:=s.peek T) h.1 h.2.1 2 (by decide) (s.pos T:Int) (okz_pos h)
    rw [readL_badz hb.1]
    have e2:readEnd T p=p.fail T 2:=by unfold readEnd;rw [if_neg (fun hh=>e ((tk_nil_iff hle).2 hh))]
    right
    show Badz T _ (readEnd T p)
    rw [e2];exact hb
theorem fail_L (s:RS) (e p:Int):(s.fail e p).L=s.L∧(s.fail e p).nest=s.nest:=⟨(fail_same s e p).2.2.1,(fail_same s e p).2.2.2.2.2⟩
theorem addSpan_L (s:RS) (a b q:Int):(s.addSpan a b q).L=s.L∧(s.addSpan a b q).nest=s.nest:=by
 unfold RS.addSpan;simp only;split
 ·exact fail_L s 5 q
 ·exact ⟨rfl,rfl⟩
theorem span_L (T:ByteArray) (s:RS):(s.span T).L=s.L∧(s.span T).nest=s.nest:=by
 have h1:=hex_same T s
 unfold RS.span;simp only;split
 ·have h2:=hex_same T (((s.hex T).peek T).take T)
  have h3:=addSpan_L ((((s.hex T).peek T).take T).hex T) (RS.hexV (s.tk T)) (RS.hexV ((((s.hex T).peek T).take T).tk T)) ((((s.hex T).peek T).take T).pos T)
  exact ⟨h3.1.trans (h2.2.2.1.trans h1.2.2.1),h3.2.trans (h2.2.2.2.2.2.trans h1.2.2.2.2.2)⟩
 ·have h3:=addSpan_L ((s.hex T).peek T) (RS.hexV (s.tk T)) (RS.hexV (s.tk T)) (s.pos T)
  exact ⟨h3.1.trans h1.2.2.1,h3.2.trans h1.2.2.2.2.2⟩
theorem spansL_L (T:ByteArray):∀ (g:Nat) (s:RS),(RS.spansL T g s).L=s.L∧(RS.spansL T g s).nest=s.nest:=by
 intro g
 induction g with
 | zero=>intro s;exact ⟨rfl,rfl⟩
 | succ g ih =>
  intro s
  have h1:=span_L T s
  rw [RS.spansL]
  split
  ·exact ⟨rfl,rfl⟩
  ·simp only
   split
   ·exact h1
   ·split
    ·exact h1
    ·split
     ·have:=ih ((s.span T).take T);exact ⟨this.1.trans h1.1,this.2.trans h1.2⟩
     ·have:=ih (((s.span T).take T).fail 2 ((s.span T).pos T))
      have h2:=fail_L ((s.span T).take T) 2 ((s.span T).pos T)
      exact ⟨this.1.trans (h2.1.trans h1.1),this.2.trans (h2.2.trans h1.2)⟩
def RS.clsB (T:ByteArray) (s2:RS) (b:Bool) (q:Int) (nm:ByteArray) (l:List UInt8):RS :=
 let s3:=if b=true then s2 else s2.fail 2 q
 let s4:=if 0≤clsIx s3.names l then s3.fail 4 q else s3
 let s5:={ s4 with names:=s4.names++[nm] }
 let s6:=if s5.err=0 then s5.want T [61] else s5
 RS.spansL T (T.size+2) s6
theorem clsB_6 (T:ByteArray) (s5:RS):(RS.spansL T (T.size+2) (if s5.err=0 then s5.want T [61] else s5)).L=s5.L∧(RS.spansL T (T.size+2) (if s5.err=0 then s5.want T [61] else s5)).nest=s5.nest:=by
 split
 ·have h7:=want_same T s5 [61]
  have h6:=spansL_L T (T.size+2) (s5.want T [61])
  exact ⟨h6.1.trans h7.2.2.1,h6.2.trans h7.2.2.2.2.2⟩
 ·exact spansL_L T (T.size+2) s5
theorem clsB_L (T:ByteArray) (s2:RS) (b:Bool) (q:Int) (nm:ByteArray) (l:List UInt8):(RS.clsB T s2 b q nm l).L=s2.L∧(RS.clsB T s2 b q nm l).nest=s2.nest:=by
 have h3:∀ s3:RS,s3=(if b=true then s2 else s2.fail 2 q)→s3.L=s2.L∧s3.nest=s2.nest:=by
  intro s3 e;rw [e];split
  ·exact ⟨rfl,rfl⟩
  ·exact fail_L s2 2 q
 have h4:∀ s3 s4:RS,s3.L=s2.L∧s3.nest=s2.nest→s4=(if 0≤clsIx s3.names l then s3.fail 4 q else s3)→s4.L=s2.L∧s4.nest=s2.nest:=by
  intro s3 s4 h e;rw [e];split
  ·have:=fail_L s3 4 q;exact ⟨this.1.trans h.1,this.2.trans h.2⟩
  ·exact h
 have h5:=h4 _ _ (h3 _ rfl) rfl
 have h6:=clsB_6 T { (if 0≤clsIx (if b=true then s2 else s2.fail 2 q).names l then (if b=true then s2 else s2.fail 2 q).fail 4 q else (if b=true then s2 else s2.fail 2 q)) with names:=(if 0≤clsIx (if b=true then s2 else s2.fail 2 q).names l then (if b=true then s2 else s2.fail 2 q).fail 4 q else (if b=true then s2 else s2.fail 2 q)).names++[nm] }
 exact ⟨h6.1.trans h5.1,h6.2.trans h5.2⟩
theorem classes_eq (T:ByteArray) (s:RS):s.classes T=if (s.take T).names.length=6 then (s.take T).fail 6 (s.pos T) else RS.clsB T ((s.take T).take T) (nameL ((s.take T).tk T)) ((s.take T).pos T) (tok T (s.take T).at_) ((s.take T).tk T):=rfl
theorem classes_L (T:ByteArray) (s:RS):(s.classes T).L=s.L∧(s.classes T).nest=s.nest:=by
 rw [classes_eq]
 split
 ·exact fail_L (s.take T) 6 _
 ·exact clsB_L T ((s.take T).take T) _ _ _ _
theorem classes_z {T:ByteArray}:∀ (g:Nat) (s:RS) (p:PS) (l:List (Int × Int × Nat)) (g':Nat),Okz T s p→NamesOk s.names→s.spans=spI l→s.nest=0→s.L=[]→T.size<p.p+g→T.size<p.p+g' →
  Finz T (RS.readL T g s) (readEnd T (readR T (readC T g' ⟨p,s.names,l⟩).names (T.size+1) (readC T g' ⟨p,s.names,l⟩).s []).1):=by
 intro g
 induction g with
 | zero=>intro s p l g' h _ _ _ _ hg;have:=okz_le h;omega
 | succ g ih =>
  intro s p l g' h hno hs h0 hL hg hg'
  have hle:=okz_le h
  have ht:=okz_tk h
  have hpk:=okz_peek h
  obtain ⟨g'',rfl⟩:∃ g'',g'=g''+1:=⟨g' - 1,by omega⟩
  by_cases hm:memL [wClass] (p.tk T)=true
  ·have hcw:=class_word hm
   rw [readC,if_pos hm,RS.readL,if_neg (by rw [h.1];simp)]
   simp only
   rw [ht,if_pos ⟨hcw,by show s.L.length=0;rw [hL];rfl⟩]
   have hlt:=mem_lt hle cls_ne hm
   have hcp:=class_p T s.names l p (okz_fz h) hle
   have hadv:=hcp.2.2 hlt
   have hLL:=classes_L T (s.peek T)
   rcases class_z hpk hs hm hno with ⟨a1,a2,a3,a4⟩ | ab
   ·have:=ih ((s.peek T).classes T) (p.klass T s.names l) (p.classB T s.names l).2 g'' a1 a4 a2 (by rw [hLL.2];exact h0) (by rw [hLL.1];exact hL) (by omega) (by omega)
    rw [a3] at this
    exact this
   ·right
    rw [readL_badz ab.1]
    have ab':Badz T ((s.peek T).classes T) (p.klass T s.names l):=ab
    have e1:readC T g'' ⟨p.klass T s.names l,s.names++[nameTok T s.names p],(p.classB T s.names l).2⟩=⟨p.klass T s.names l,s.names++[nameTok T s.names p],(p.classB T s.names l).2⟩:=by
     cases g'' with
     | zero=>rfl
     | succ g=>rw [readC,if_neg (by
       intro hh
       have:=class_word (p:=p.klass T s.names l) hh
       rw [badz_tk ab'] at this;cases this)]
    rw [e1]
    exact end_bad ab' _ _
  ·have e1:readC T (g''+1) ⟨p,s.names,l⟩=⟨p,s.names,l⟩:=by rw [readC,if_neg hm]
   rw [e1]
   refine rules_z hno (g+1) s p [] (T.size+1) h rfl h0 (by rw [hL];rfl) (fun hh=>?_) hg (by omega)
   exfalso
   apply hm
   rw [memL_iff]
   exact ⟨wClass,by simp,by unfold wClass;rw [ByteArray.toList_eq];exact hh.symm⟩
theorem read_z (T:ByteArray) (hT:T.size≤1000):(readP T).f=(RS.read T).err∧((RS.read T).err=0→(RS.read T).place=0)∧((RS.read T).err ≠ 0→(readP T).pl=(RS.read T).place):=by
 have h0:Okz T RS.start (read0 T).s:=⟨rfl,rfl,rfl,Nat.zero_le _,rfl⟩
 have h:=classes_z (T:=T) (T.size+2) RS.start (read0 T).s [] (T.size+1) h0 (fun x hx=>by simp [RS.start] at hx) rfl rfl rfl (by omega) (by omega)
 have e1:RS.read T=RS.readL T (T.size+2) RS.start:=by unfold RS.read;rw [if_neg (by omega)]
 have e2:readP T=readEnd T (readR T (readC T (T.size+1) ⟨(read0 T).s,RS.start.names,[]⟩).names (T.size+1) (readC T (T.size+1) ⟨(read0 T).s,RS.start.names,[]⟩).s []).1:=rfl
 rw [← e1,← e2] at h
 rcases h with ⟨a1,a2,a3⟩ | hb
 ·exact ⟨by rw [a1,a3],fun _=>a2,fun hh=>absurd a1 hh⟩
 ·exact ⟨hb.2.1,fun hh=>absurd hh hb.1,fun _=>hb.2.2.1⟩
open Go.Maps
def phi (nN k:Nat):Nat:=if k=6 then nN else if k=7 then nN+1 else k
def Kok (nN:Nat) (ks:List Nat):Prop:=∀ k ∈ ks,k<nN∨k=6∨k=7
def Sm (nN D:Nat) (x:Px) (t:Tr):Prop:=∀ d,D≤d→∀ ks,Kok nN ks→(mtP d x ks↔t.Mt (ks.map (phi nN)))
def SmL (nN D:Nat) (l:List Px) (t:Tr):Prop:=∀ d,D≤d→∀ ks,Kok nN ks→(rowM (l.map (mtP d)) ks↔t.Mt (ks.map (phi nN)))
def SmE (nN D:Nat) (l:List Px) (t:Tr):Prop:=∀ d,D≤d→∀ ks,Kok nN ks→((∃ y ∈ l,mtP d y ks)↔t.Mt (ks.map (phi nN)))
theorem Kok.app {nN:Nat} {u v:List Nat} (h:Kok nN (u++v)):Kok nN u∧Kok nN v:=⟨fun k hk=>h k (List.mem_append_left _ hk),fun k hk=>h k (List.mem_append_right _ hk)⟩
theorem Sm.up {nN D E:Nat} {x:Px} {t:Tr} (h:Sm nN D x t) (hE:D≤E):Sm nN E x t:=fun d hd=>h d (by omega)
theorem tr_mt_many (t:Tr) (w:List Nat):(Tr.many t).Mt w↔Tr.Str t.Mt w:=by
 have one:∀ P:List Nat→Prop,(∀ u,P u→u=[])→(w=[]↔Tr.Str P w):=by
  intro P hP
  constructor
  ·intro h;rw [h];exact Tr.Str.nil
  ·intro h
   induction h with
   | nil=>rfl
   | cons u v hu _ ih=>rw [hP u hu,ih];rfl
 cases t with
 | z=>exact one _ (fun u h=>h.elim)
 | e=>exact one _ (fun u h=>h)
 | m p =>
  clear one
  show Tr.Str p.Mt w↔Tr.Str (Tr.Str p.Mt) w
  constructor
  ·intro h
   have:=Tr.Str.cons (P:=Tr.Str p.Mt) w [] h Tr.Str.nil
   simpa using this
  ·intro h
   induction h with
   | nil=>exact Tr.Str.nil
   | cons u v hu _ ih =>
    induction hu with
    | nil=>simpa using ih
    | cons u1 v1 h1 _ ih1=>rw [List.append_assoc];exact Tr.Str.cons u1 _ h1 ih1
 | c n=>exact Iff.rfl
 | s p q=>exact Iff.rfl
 | a p q=>exact Iff.rfl
theorem str_same {nN:Nat} {P Q:List Nat→Prop} (h:∀ ks,Kok nN ks→(P ks↔Q (ks.map (phi nN)))) {ks:List Nat} (hk:Kok nN ks):Tr.Str P ks↔Tr.Str Q (ks.map (phi nN)):=by
 constructor
 ·intro hs
  induction hs with
  | nil=>exact Tr.Str.nil
  | cons u v hu _ ih =>
   rw [List.map_append]
   exact Tr.Str.cons _ _ ((h u hk.app.1).1 hu) (ih hk.app.2)
 ·intro hs
  generalize hm:ks.map (phi nN)=cs at hs
  induction hs generalizing ks with
  | nil=>simp at hm;rw [hm];exact Tr.Str.nil
  | cons u v hu _ ih =>
   obtain ⟨a,b,rfl,rfl,rfl⟩:=List.map_eq_append_iff.1 hm
   exact Tr.Str.cons a b ((h a hk.app.1).2 hu) (ih hk.app.2 rfl)
theorem two_same {nN:Nat} {P P' Q Q':List Nat→Prop} (h:∀ ks,Kok nN ks→(P ks↔Q (ks.map (phi nN)))) (h':∀ ks,Kok nN ks→(P' ks↔Q' (ks.map (phi nN)))) {ks:List Nat} (hk:Kok nN ks):(∃ u v,ks=u++v∧P u∧P' v)↔∃ u v,ks.map (phi nN)=u++v∧Q u∧Q' v:=by
 constructor
 ·rintro ⟨u,v,rfl,hu,hv⟩
  exact ⟨_,_,List.map_append,(h u hk.app.1).1 hu,(h' v hk.app.2).1 hv⟩
 ·rintro ⟨u,v,e,hu,hv⟩
  obtain ⟨a,b,rfl,rfl,rfl⟩:=List.map_eq_append_iff.1 e
  exact ⟨a,b,rfl,(h a hk.app.1).2 hu,(h' b hk.app.2).2 hv⟩
theorem Sm.star {nN D:Nat} {x:Px} {t:Tr} (h:Sm nN D x t):Sm nN (D+1) (starP x) (Tr.many t):=by
 intro d hd ks hk
 obtain ⟨d,rfl⟩:∃ e,d=e+1:=⟨d - 1,by omega⟩
 rw [mtP_star (x:=starP x) (y:=x) (show (3:Nat) ≠ 0 by decide) (show (3:Nat) ≠ 1 by decide) (show (3:Nat) ≠ 2 by decide) rfl,if_pos (show (starP x).what=3 from rfl),tr_mt_many]
 exact str_same (h d (by omega)) hk
theorem Sm.plus {nN D:Nat} {x:Px} {t:Tr} (h:Sm nN D x t):Sm nN (D+1) (plusP x) (Tr.row t (Tr.many t)):=by
 intro d hd ks hk
 obtain ⟨d,rfl⟩:∃ e,d=e+1:=⟨d - 1,by omega⟩
 rw [mtP_star (x:=plusP x) (y:=x) (show (4:Nat) ≠ 0 by decide) (show (4:Nat) ≠ 1 by decide) (show (4:Nat) ≠ 2 by decide) rfl,if_neg (show ¬ (plusP x).what=3 from (show ¬ (4:Nat)=3 by decide)),Tr.mt_row]
 refine two_same (h d (by omega)) (fun ks hk=>?_) hk
 rw [tr_mt_many]
 exact str_same (h d (by omega)) hk
theorem mtP_empty (d:Nat) (w:List Nat):mtP d (rowP []) w↔w=[]:=by
 cases d with
 | zero=>exact Iff.rfl
 | succ d=>rw [mtP_row (x:=rowP []) rfl];exact Iff.rfl
theorem Sm.maybe {nN D:Nat} {x:Px} {t:Tr} (h:Sm nN D x t) (hok:t.ok):Sm nN (D+1) (maybeP x) (Tr.either t .e):=by
 intro d hd ks hk
 obtain ⟨d,rfl⟩:∃ e,d=e+1:=⟨d - 1,by omega⟩
 rw [mtP_either (x:=maybeP x) rfl,Tr.mt_either hok (y:=.e) trivial]
 have e:(∃ y ∈ (maybeP x).l,mtP d y ks)↔mtP d x ks∨ks=[]:=by
  show (∃ y ∈ [x,rowP []],mtP d y ks)↔_
  simp only [List.mem_cons,List.not_mem_nil,or_false,exists_eq_or_imp,exists_eq_left,mtP_empty]
 rw [e,h d (by omega) ks hk]
 show _↔_∨ks.map (phi nN)=[]
 simp
theorem SmL.one {nN D:Nat} {x:Px} {t:Tr} (h:Sm nN D x t):SmL nN D [x] t:=by
 intro d hd ks hk
 rw [← h d hd ks hk]
 constructor
 ·rintro ⟨u,v,rfl,hu,hv⟩
  rw [show v=[] from hv,List.append_nil];exact hu
 ·intro hu;exact ⟨ks,[],by simp,hu,rfl⟩
theorem rowM_snoc (l:List (List Nat→Prop)) (P:List Nat→Prop):∀ w,rowM (l++[P]) w↔∃ u v,w=u++v∧rowM l u∧P v:=by
 induction l with
 | nil =>
  intro w
  constructor
  ·rintro ⟨u,v,rfl,hu,hv⟩;exact ⟨[],u,by rw [show v=[] from hv];simp,rfl,hu⟩
  ·rintro ⟨u,v,rfl,hu,hv⟩;exact ⟨v,[],by rw [show u=[] from hu];simp,hv,rfl⟩
 | cons R l ih =>
  intro w
  constructor
  ·rintro ⟨u,v,rfl,hu,hv⟩
   obtain ⟨a,b,rfl,ha,hb⟩:=(ih v).1 hv
   exact ⟨u++a,b,by simp,⟨u,a,rfl,hu,ha⟩,hb⟩
  ·rintro ⟨u,v,rfl,⟨a,b,rfl,ha,hb⟩,hv⟩
   exact ⟨a,b++v,by simp,ha,(ih _).2 ⟨b,v,rfl,hb,hv⟩⟩
theorem SmL.snoc {nN D:Nat} {l:List Px} {x:Px} {t t':Tr} (h:SmL nN D l t) (h':Sm nN D x t'):SmL nN D (l++[x]) (Tr.row t t'):=by
 intro d hd ks hk
 rw [List.map_append,List.map_cons,List.map_nil,rowM_snoc,Tr.mt_row]
 exact two_same (h d hd) (h' d hd) hk
theorem SmL.row {nN D:Nat} {l:List Px} {t:Tr} (h:SmL nN D l t):Sm nN (D+1) (rowP l) t:=by
 intro d hd ks hk
 obtain ⟨d,rfl⟩:∃ e,d=e+1:=⟨d - 1,by omega⟩
 rw [mtP_row (x:=rowP l) rfl]
 exact h d (by omega) ks hk
theorem SmE.one {nN D:Nat} {x:Px} {t:Tr} (h:Sm nN D x t):SmE nN D [x] t:=by
 intro d hd ks hk
 rw [← h d hd ks hk];simp
theorem SmE.snoc {nN D:Nat} {l:List Px} {x:Px} {t t':Tr} (h:SmE nN D l t) (h':Sm nN D x t') (o:t.ok) (o':t'.ok):SmE nN D (l++[x]) (Tr.either t t'):=by
 intro d hd ks hk
 rw [Tr.mt_either o o',← h d hd ks hk,← h' d hd ks hk]
 constructor
 ·rintro ⟨y,hy,hm⟩
  rcases List.mem_append.1 hy with hy | hy
  ·exact Or.inl ⟨y,hy,hm⟩
  ·simp at hy;subst hy;exact Or.inr hm
 ·rintro (⟨y,hy,hm⟩ | hm)
  ·exact ⟨y,List.mem_append_left _ hy,hm⟩
  ·exact ⟨x,by simp,hm⟩
theorem SmE.either {nN D:Nat} {l:List Px} {t:Tr} (h:SmE nN D l t):Sm nN (D+1) (eitherP l) t:=by
 intro d hd ks hk
 unfold eitherP
 split
 ·rename_i x
  rw [← h d (by omega) ks hk];simp
 ·obtain ⟨d,rfl⟩:∃ e,d=e+1:=⟨d - 1,by omega⟩
  rw [mtP_either (x:=⟨2,0,l⟩) rfl]
  exact h d (by omega) ks hk
theorem bits_same {names:List ByteArray} (hno:NamesOk names) (hN:names.length≤6) {s:RS} (hs:s.names=names) {l:List UInt8} (hk:leafKnown names l) {j:Nat} (hj:j<names.length∨j=6∨j=7):(meaningP names l).1.testBit j=(s.kindsOf l).testBit (phi names.length j):=by
 have pw:∀ a b:Nat,(2 ^ a).testBit b=decide (a=b):=fun a b=>Nat.testBit_two_pow
 have hp:∀ a,a≤7→(decide (a=j)=decide ((if a=6 then names.length else if a=7 then names.length+1 else a)=phi names.length j)∨¬ (a<names.length∨a=6∨a=7)):=by
  intro a ha
  by_cases hh:a<names.length∨a=6∨a=7
  ·left
   apply decide_eq_decide.2
   unfold phi
   (repeat' split) <;> omega
  ·exact Or.inr hh
 unfold RS.kindsOf
 rw [hs]
 by_cases hc:0≤clsIx names l
 ·have hb:=clsIx_bd names l
  have hn:=(nameL_iff l).1 (cls_name hno hc)
  have e:(meaningP names l).1=2 ^ (clsIx names l).toNat:=by
   unfold meaningP
   rw [if_neg hn.2.2.2.2.2.1,if_neg hn.2.2.2.2.2.2.1,if_neg hn.2.2.2.2.2.2.2]
   show 2 ^ (max (clsIx names l) 0).toNat=_
   rw [show max (clsIx names l) 0=clsIx names l by omega]
  rw [e,if_pos hc,pw,pw]
  rcases hp (clsIx names l).toNat (by omega) with q | q
  ·rw [q,if_neg (by omega),if_neg (by omega)]
  ·exact absurd (Or.inl (by omega)) q
 ·rw [if_neg hc]
  unfold meaningP
  by_cases h1:l=[97,110,121]
  ·rw [if_pos h1,if_pos h1]
   show (255:Nat).testBit j=_
   rw [show (255:Nat)=2 ^ 8 - 1 from rfl,Nat.testBit_two_pow_sub_one,Nat.testBit_two_pow_sub_one]
   apply decide_eq_decide.2
   unfold phi
   (repeat' split) <;> omega
  ·rw [if_neg h1,if_neg h1]
   by_cases h2:l=[111,116,104,101,114]
   ·rw [if_pos h2,if_pos h2]
    show (64:Nat).testBit j=_
    rw [show (64:Nat)=2 ^ 6 from rfl,pw,pw]
    rcases hp 6 (by omega) with q | q
    ·rw [q];rfl
    ·exact absurd (Or.inr (Or.inl rfl)) q
   ·rw [if_neg h2,if_neg h2]
    have h3:l=[98,97,100]:=by
     rcases hk with q | q | q | q
     ·exact absurd q hc
     ·exact absurd q h1
     ·exact absurd q h2
     ·exact q
    rw [if_pos h3,if_pos h3]
    show (128:Nat).testBit j=_
    rw [show (128:Nat)=2 ^ 7 from rfl,pw,pw]
    rcases hp 7 (by omega) with q | q
    ·rw [q];rfl
    ·exact absurd (Or.inr (Or.inr rfl)) q
theorem meaning_pos {names:List ByteArray} (l:List UInt8):(meaningP names l).1 ≠ 0:=by
 unfold meaningP
 (repeat' split) <;> first | decide | exact Nat.ne_of_gt (Nat.pow_pos (by omega))
theorem Sm.atom {names:List ByteArray} (hno:NamesOk names) (hN:names.length≤6) {s:RS} (hs:s.names=names) {l:List UInt8} (hk:leafKnown names l):Sm names.length 1 (oneP (meaningP names l).1) (.c (s.kindsOf l)):=by
 intro d hd ks hks
 obtain ⟨d,rfl⟩:∃ e,d=e+1:=⟨d - 1,by omega⟩
 rw [mtP_one (x:=oneP (meaningP names l).1) rfl,if_neg (show ¬ (oneP (meaningP names l).1).k=0 from meaning_pos l)]
 show (∃ j,ks=[j]∧(meaningP names l).1.testBit j=true)↔∃ j,ks.map (phi names.length)=[j]∧(s.kindsOf l).testBit j=true
 constructor
 ·rintro ⟨j,rfl,hj⟩
  exact ⟨_,rfl,by rw [← bits_same hno hN hs hk (hks j (by simp))];exact hj⟩
 ·rintro ⟨j,e,hj⟩
  obtain ⟨a,rfl,rfl⟩:∃ a,ks=[a]∧phi names.length a=j:=by
   cases ks with
   | nil=>simp at e
   | cons a r=>simp at e;exact ⟨a,by rw [e.2],e.1⟩
  exact ⟨a,rfl,by rw [bits_same hno hN hs hk (hks a (by simp))];exact hj⟩
end Go.Proofs.YtodagkkjfipbgaaGreatDoor
