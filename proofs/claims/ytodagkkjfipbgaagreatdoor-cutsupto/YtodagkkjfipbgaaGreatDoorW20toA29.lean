import Derived.Test.YtodagkkjfipbgaaGreatDoorW17toW19
import Derived.Test.YtodagkkjfipbgaaGreatDoorA23toA26
namespace Go.Proofs.YtodagkkjfipbgaaGreatDoor
open Go.RowKit
theorem hex_mono (T:ByteArray) (s:RS) (hat:s.at_≤T.size):s.at_≤(s.hex T).at_∧(s.hex T).at_≤T.size∧(s.hex T).nest=s.nest:=by
 have h:=hex_same T s
 have t:=take_at T s hat
 rw [h.2.2.2.1];exact ⟨t.2.1,t.1,h.2.2.2.2.2⟩
theorem addSpan_nest (s:RS) (a b p:Int):(s.addSpan a b p).nest=s.nest:=by
 unfold RS.addSpan;simp only
 split
 ·exact (fail_same s 5 p).2.2.2.2.2
 ·rfl
theorem span_mono (T:ByteArray) (s:RS) (hat:s.at_≤T.size):s.at_≤(s.span T).at_∧(s.span T).at_≤T.size∧(s.span T).nest=s.nest:=by
 unfold RS.span;simp only
 have h1:=hex_mono T s hat
 have p1:=peek_at T (s.hex T) h1.2.1
 split
 ·have t1:=take_at T ((s.hex T).peek T) p1.1
  have h2:=hex_mono T (((s.hex T).peek T).take T) t1.1
  rw [(addSpan_at _ _ _ _).1,addSpan_nest]
  exact ⟨by omega,h2.2.1,h2.2.2.trans h1.2.2⟩
 ·rw [(addSpan_at _ _ _ _).1,addSpan_nest]
  exact ⟨by omega,p1.1,h1.2.2⟩
theorem spansL_mono (T:ByteArray) (g:Nat):∀ s:RS,s.at_≤T.size→s.at_≤(RS.spansL T g s).at_∧(RS.spansL T g s).nest=s.nest:=by
 induction g with
 | zero=>intro s _;exact ⟨Nat.le_refl _,rfl⟩
 | succ g ih =>
  intro s hat
  rw [RS.spansL];split
  ·exact ⟨Nat.le_refl _,rfl⟩
  ·simp only
   have h1:=span_mono T s hat
   have t1:=take_at T (s.span T) h1.2.1
   split
   ·exact ⟨h1.1,h1.2.2⟩
   ·split
    ·exact ⟨by omega,h1.2.2⟩
    ·split
     ·have:=ih ((s.span T).take T) t1.1
      exact ⟨by omega,this.2.trans h1.2.2⟩
     ·have f:=fail_same ((s.span T).take T) 2 ((s.span T).pos T)
      have:=ih (((s.span T).take T).fail 2 ((s.span T).pos T)) (by rw [f.2.2.2.1];exact t1.1)
      rw [f.2.2.2.1,f.2.2.2.2.2] at this
      exact ⟨by omega,this.2.trans h1.2.2⟩
theorem classes_mono (T:ByteArray) (s:RS) (hat:s.at_≤T.size):(s.take T).at_≤(s.classes T).at_∧(s.classes T).nest=s.nest:=by
 unfold RS.classes;simp only
 have t1:=take_at T s hat
 split
 ·have f:=fail_same (s.take T) 6 (s.pos T)
  exact ⟨by rw [f.2.2.2.1];exact Nat.le_refl _,f.2.2.2.2.2⟩
 ·have t2:=take_at T (s.take T) t1.1
  have key:∀ s3:RS,s3.at_=((s.take T).take T).at_∧s3.nest=s.nest→∀ p:Int,∀ c:Prop,∀ _:Decidable c,(if c then s3.fail 4 p else s3).at_=((s.take T).take T).at_∧(if c then s3.fail 4 p else s3).nest=s.nest:=by
   intro s3 h3 p c _
   split
   ·have f:=fail_same s3 4 p;exact ⟨f.2.2.2.1.trans h3.1,f.2.2.2.2.2.trans h3.2⟩
   ·exact h3
  have key2:∀ c:Prop,∀ _:Decidable c,(if c then (s.take T).take T else ((s.take T).take T).fail 2 ((s.take T).pos T)).at_=((s.take T).take T).at_∧(if c then (s.take T).take T else ((s.take T).take T).fail 2 ((s.take T).pos T)).nest=s.nest:=by
   intro c _
   split
   ·exact ⟨rfl,rfl⟩
   ·have f:=fail_same ((s.take T).take T) 2 ((s.take T).pos T);exact ⟨f.2.2.2.1,f.2.2.2.2.2⟩
  have k4:=key _ (key2 (nameL ((s.take T).tk T)=true) inferInstance) ((s.take T).pos T) (0≤clsIx (if nameL ((s.take T).tk T)=true then (s.take T).take T else ((s.take T).take T).fail 2 ((s.take T).pos T)).names ((s.take T).tk T)) inferInstance
  generalize (if 0≤clsIx (if nameL ((s.take T).tk T)=true then (s.take T).take T else ((s.take T).take T).fail 2 ((s.take T).pos T)).names ((s.take T).tk T) then (if nameL ((s.take T).tk T)=true then (s.take T).take T else ((s.take T).take T).fail 2 ((s.take T).pos T)).fail 4 ((s.take T).pos T) else (if nameL ((s.take T).tk T)=true then (s.take T).take T else ((s.take T).take T).fail 2 ((s.take T).pos T)))=s4 at *
  have k6:∀ s5:RS,s5.at_=((s.take T).take T).at_∧s5.nest=s.nest→((s.take T).take T).at_≤(if s5.err=0 then s5.want T [61] else s5).at_∧(if s5.err=0 then s5.want T [61] else s5).at_≤T.size∧(if s5.err=0 then s5.want T [61] else s5).nest=s.nest:=by
   intro s5 h5
   split
   ·have w:=want_same T s5 [61]
    have t:=take_at T s5 (by rw [h5.1];exact t2.1)
    rw [w.2.2.2.1,w.2.2.2.2.2];exact ⟨by omega,t.1,h5.2⟩
   ·exact ⟨by omega,by rw [h5.1];exact t2.1,h5.2⟩
  have k7:=k6 { s4 with names:=s4.names++[tok T (s.take T).at_] } k4
  have k8:=spansL_mono T (T.size+2) _ k7.2.1
  exact ⟨Nat.le_trans (Nat.le_trans t2.2.1 k7.1) k8.1,k8.2.trans k7.2.2⟩
theorem readL_err {T:ByteArray} {g:Nat} {s:RS} (h:s.err ≠ 0):RS.readL T g s=s:=by
 cases g with
 | zero=>rfl
 | succ g=>rw [RS.readL,if_pos h]
theorem readL_class {T:ByteArray} {g:Nat} {s:RS} (h:s.err=0) (h1:s.tk T=[99,108,97,115,115]) (h2:s.L.length=0):RS.readL T (g+1) s=RS.readL T g ((s.peek T).classes T):=by
 rw [RS.readL,if_neg (by simpa using h)];simp only;rw [if_pos ⟨h1,h2⟩]
theorem readL_rule {T:ByteArray} {g:Nat} {s:RS} (h:s.err=0) (h1:s.tk T=[99,117,116]∨s.tk T=[106,111,105,110]):RS.readL T (g+1) s=RS.readL T g ((s.peek T).rule T):=by
 rw [RS.readL,if_neg (by simpa using h)];simp only
 rw [if_neg (by rintro ⟨e,_⟩;rw [e] at h1;rcases h1 with h1 | h1 <;> simp at h1),if_pos h1]
theorem readL_end {T:ByteArray} {g:Nat} {s:RS} (h:s.err=0) (h1:s.tk T=[]):RS.readL T (g+1) s=s.peek T:=by
 rw [RS.readL,if_neg (by simpa using h)];simp only
 rw [if_neg (by rintro ⟨e,_⟩;rw [e] at h1;simp at h1),if_neg (by rw [h1];simp),if_pos h1]
theorem readL_bad {T:ByteArray} {g:Nat} {s:RS} (h:s.err=0) (h1:¬ (s.tk T=[99,108,97,115,115]∧s.L.length=0)) (h2:¬ (s.tk T=[99,117,116]∨s.tk T=[106,111,105,110])) (h3:s.tk T ≠ []):RS.readL T (g+1) s=RS.readL T g ((s.peek T).fail 2 (s.pos T)):=by
 rw [RS.readL,if_neg (by simpa using h)];simp only
 rw [if_neg (show ¬ (s.tk T=[99,108,97,115,115]∧(s.peek T).L.length=0) from h1),if_neg h2,if_neg h3]
set_option maxRecDepth 100000 in
set_option maxHeartbeats 8000000 in
theorem read_any (T:ByteArray) (w:World) (b:Nat) (hbs:w.heap.size=b) (ht:TabOK w) (h2:1<b) (hT:T.size≤140737488351232) :
  Calls Tryz.prog 16 #[.string T] w fun e w'=>e=.returned (.pointer (some ⟨b,0,none⟩))∧w'.cell? ⟨b,2,none⟩=some (.int .i64 (RS.read T).err)∧w'.cell? ⟨b,3,none⟩=some (.int .i64 (RS.read T).place) ∧
   Below b w w'∧(T.size≤1000→RSt w' b b T (RS.read T)):=by
 have hblk:Blk (w.alloc (.cells (rcell T 0 0 0 (.slice none 0 0) (.slice none 0 0) (.slice none 0 0) 0 0) 35)) b T RS.start (.slice none 0 0) (.slice none 0 0) (.slice none 0 0):=by
  show _=_
  rw [← hbs];exact heap_alloc_new _ _
 have hbel:Below b w (w.alloc (.cells (rcell T 0 0 0 (.slice none 0 0) (.slice none 0 0) (.slice none 0 0) 0 0) 35)):=(Below.refl _ _).alloc (by omega) _
 by_cases hbig:1000<T.size
 ·have hfin:Hid (RS.read T=RS.start.fail 1 0):=by show RS.read T=_;unfold RS.read;rw [if_pos hbig]
  have HBK:Hid (Blk (w.alloc (.cells (rcell T 0 0 0 (.slice none 0 0) (.slice none 0 0) (.slice none 0 0) 0 0) 35)) b T RS.start (.slice none 0 0) (.slice none 0 0) (.slice none 0 0)):=hblk
  clear hblk ht
  go_enter Tryz.func16,Tryz.ntmps16
  go_wp2_with fail
  refine (fail_st b T RS.start (.slice none 0 0) (.slice none 0 0) (.slice none 0 0) 1 0 _ HBK.out).mono ?_
  rintro e1 w1 ⟨rfl,hb1,hc1⟩
  go_wp2_with fail
  go_ret
  obtain ⟨c0,c1,c2,c3,_⟩:=rcells hb1
  refine ⟨rfl,by rw [hfin.out];exact c2,by rw [hfin.out];exact c3,hbel.trans (hc1.below (by simp;omega) (fun k hk e=>by omega)),fun h=>by omega⟩
 ·have hst:RSt (w.alloc (.cells (rcell T 0 0 0 (.slice none 0 0) (.slice none 0 0) (.slice none 0 0) 0 0) 35)) b b T RS.start:=by
   refine ⟨h2,by omega,by omega,⟨Nat.zero_le _,by decide,by decide,by decide,by decide,by decide,by decide,by decide,fun _=>⟨by decide,by decide,fun x hx=>by simp [RS.start] at hx⟩⟩,ht.on hbel h2,_,_,_,hblk,World.ownsRow_nil _ _ _ _,World.ownsRow_nil _ _ _ _,[],World.ownsRow_nil _ _ _ _,rfl,fun i v x hv=>by simp at hv⟩
  have hfin:Hid (RS.read T=RS.readL T (T.size+2) RS.start):=by show RS.read T=_;unfold RS.read;rw [if_neg hbig]
  have hsm:T.size≤1000:=by omega
  have hd:decide (1000<(T.size:Int))=false:=by simp;omega
  clear hblk ht hbig
  go_enter Tryz.func16,Tryz.ntmps16
  go_wp2_with fail
  go_loopg [4,5] (T.size+3) (fun g _ _ wx=>∃ (s':RS),RSt wx b b T s'∧Hid (Below b w wx)∧0<g∧Hid (RS.readL T (g - 1) s'=RS.read T)∧Hid (s'.err ≠ 0∨T.size<s'.at_+(g - 1))∧Hid (s'.nest=0))
  case atStart=>exact ⟨RS.start,hst,hbel,by omega,hfin.out.symm,Or.inr (by show T.size<0+(T.size+3 - 1);omega),rfl⟩
  case round =>
   obtain ⟨s',h3,R3,hg,HL,HF,HN⟩:=hrel
   have HG:Hid (0<gk):=hg
   clear hg hst hbel
   obtain ⟨w3,hw3⟩:∃ w3,w3=wr:=⟨wr,rfl⟩
   subst hw3
   obtain ⟨vN,vS,vL,hblk,hrow,c0,c1,c2,c3,c4,c5,c6,c7,c8,hf⟩:=h3.cells
   have hat3:s'.at_≤T.size:=h3.2.2.2.1.1
   by_cases e0:s'.err=0
   ·have k0:(s'.err == 0)=true:=by rw [beq_iff_eq];exact e0
    have E0:Hid (s'.err=0):=e0
    obtain ⟨g',hg'⟩:∃ g',gk=g'+2:=⟨gk - 2,by rcases HF.out with q | q;exact absurd e0 q;omega⟩
    have HG':Hid (gk=g'+2):=hg'
    have HFA:Hid (T.size<s'.at_+(g'+1)):=by
     show T.size<s'.at_+(g'+1)
     rcases HF.out with q | q
     ·exact absurd e0 q
     ·omega
    clear hg' e0
    have HL':Hid (RS.readL T (g'+1) s'=RS.read T):=by show _=_;rw [← HL.out,HG'.out];rfl
    go_wp2_with fail
    refine (peek_rs b b T s' _ h3).mono ?_
    rintro e4 w4 ⟨rfl,h4,r4⟩
    obtain ⟨t1,ht1⟩:∃ t1,t1=tok T s'.at_:=⟨_,rfl⟩
    rw [← ht1]
    have HT1:Hid (s'.tk T=t1.toList):=by rw [ht1];rfl
    clear ht1 hblk hrow c0 c1 c2 c3 c4 c5 c6 c7 c8 hf
    obtain ⟨vN,vS,vL,hblk,hrow,c0,c1,c2,c3,c4,c5,c6,c7,c8,hf⟩:=h4.cells
    obtain ⟨aoL,capL,rfl⟩:∃ ao cap,vL=.slice ao (s'.peek T).L.length cap:=by obtain ⟨_,_,vs,hL,_⟩:=hrow;exact ownsRow_shape hL
    have hpa:=peek_at T s' hat3
    have hLe:(s'.peek T).L=s'.L:=rfl
    have HLE:Hid ((s'.peek T).L=s'.L):=hLe
    clear hLe
    have R4:Hid (Below b w w4):=R3.out.trans r4.1
    by_cases l1:t1.toList=[99,108,97,115,115]
    ·have j1:(t1.toList == [99,108,97,115,115])=true:=by rw [beq_iff_eq];exact l1
     have j2:(t1.toList == [99,117,116])=false:=by rw [beq_eq_false_iff_ne,l1];decide
     have j3:(t1.toList == [106,111,105,110])=false:=by rw [beq_eq_false_iff_ne,l1];decide
     have j4:t1.toList.isEmpty=false:=by rw [l1];rfl
     by_cases hl0:(s'.peek T).L.length=0
     ·have j5:(((s'.peek T).L.length:Int) == 0)=true:=by rw [beq_iff_eq];omega
      have hres:Hid (RS.readL T g' ((s'.peek T).classes T)=RS.read T):=by show _=_;rw [← HL'.out,readL_class E0.out (by rw [HT1.out];exact l1) hl0]
      have hadv:=take_adv T (s'.peek T) hpa.1 (by rw [tk_peek,HT1.out,l1];simp)
      clear l1 hl0
      go_wp2_with fail
      refine (classes_rs b b T (s'.peek T) _ h4 E0.out).mono ?_
      rintro e5 w5 ⟨rfl,h5,r5⟩
      go_wp2_with fail
      go_roundg (g'+1)
      case measure=>have:=HG'.out;omega
      case rel =>
       have cm:=classes_mono T (s'.peek T) hpa.1
       refine ⟨_,h5,R4.out.trans r5.1,by omega,hres,Or.inr ?_,cm.2.trans HN.out⟩
       show T.size<((s'.peek T).classes T).at_+(g'+1 - 1)
       have:=HFA.out;omega
     ·have j5:(((s'.peek T).L.length:Int) == 0)=false:=by rw [beq_eq_false_iff_ne];omega
      have hres:Hid (RS.readL T g' ((s'.peek T).fail 2 (s'.pos T))=RS.read T):=by
       show _=_
       rw [← HL'.out,readL_bad E0.out (fun q=>hl0 q.2) (by rw [HT1.out,l1];decide) (by rw [HT1.out,l1];decide)]
      clear l1 hl0
      go_wp2_with fail
      refine (fail_rs b b T (s'.peek T) 2 (s'.pos T) _ h4 (by omega)).mono ?_
      rintro e5 w5 ⟨rfl,h5,r5⟩
      go_wp2_with fail
      go_roundg (g'+1)
      case measure=>have:=HG'.out;omega
      case rel=>exact ⟨_,h5,R4.out.trans r5.1,by omega,hres,Or.inl (fail_err _ _ _ (by omega)),(fail_same _ _ _).2.2.2.2.2.trans HN.out⟩
    ·have j1:(t1.toList == [99,108,97,115,115])=false:=by rw [beq_eq_false_iff_ne];exact l1
     by_cases l2:t1.toList=[99,117,116]∨t1.toList=[106,111,105,110]
     ·have jj:((t1.toList == [99,117,116])=true)∨((t1.toList == [99,117,116])=false∧(t1.toList == [106,111,105,110])=true):=by
       rcases l2 with q | q
       ·left;rw [beq_iff_eq];exact q
       ·right;exact ⟨by rw [beq_eq_false_iff_ne,q];decide,by rw [beq_iff_eq];exact q⟩
      have hres:Hid (RS.readL T g' ((s'.peek T).rule T)=RS.read T):=by show _=_;rw [← HL'.out,readL_rule E0.out (by rw [HT1.out];exact l2)]
      have hadv:=take_adv T (s'.peek T) hpa.1 (by rw [tk_peek,HT1.out];rcases l2 with q | q <;> rw [q] <;> simp)
      clear l1 l2
      rcases jj with j2 | ⟨j2,j3⟩
      all_goals
       go_wp2_with fail
       refine (rule_rs T b b (s'.peek T) _ h4 E0.out HN.out).mono ?_
       rintro e5 w5 ⟨rfl,h5,b5,hn5,ha5⟩
       go_wp2_with fail
       go_roundg (g'+1)
       case measure=>have:=HG'.out;omega
       case rel =>
        refine ⟨_,h5,R4.out.trans b5,by omega,hres,Or.inr ?_,hn5⟩
        show T.size<((s'.peek T).rule T).at_+(g'+1 - 1)
        have:=HFA.out;omega
     ·have j2:(t1.toList == [99,117,116])=false:=by rw [beq_eq_false_iff_ne];exact fun q=>l2 (Or.inl q)
      have j3:(t1.toList == [106,111,105,110])=false:=by rw [beq_eq_false_iff_ne];exact fun q=>l2 (Or.inr q)
      by_cases l3:t1.toList=[]
      ·have j4:t1.toList.isEmpty=true:=by rw [l3];rfl
       have hres:Hid (RS.read T=s'.peek T):=by show _=_;rw [← HL'.out,readL_end E0.out (by rw [HT1.out];exact l3)]
       clear l1 l2 l3
       go_wp2_with fail
       go_ret
       exact ⟨rfl,by rw [hres.out];exact c2,by rw [hres.out];exact c3,R4.out,fun _=>by rw [hres.out];exact h4⟩
      ·have j4:t1.toList.isEmpty=false:=by simpa using l3
       have hres:Hid (RS.readL T g' ((s'.peek T).fail 2 (s'.pos T))=RS.read T):=by
        show _=_
        rw [← HL'.out,readL_bad E0.out (fun q=>l1 (by rw [← HT1.out];exact q.1)) (by rw [HT1.out];exact l2) (by rw [HT1.out];exact l3)]
       clear l1 l2 l3
       go_wp2_with fail
       refine (fail_rs b b T (s'.peek T) 2 (s'.pos T) _ h4 (by omega)).mono ?_
       rintro e5 w5 ⟨rfl,h5,r5⟩
       go_wp2_with fail
       go_roundg (g'+1)
       case measure=>have:=HG'.out;omega
       case rel=>exact ⟨_,h5,R4.out.trans r5.1,by omega,hres,Or.inl (fail_err _ _ _ (by omega)),(fail_same _ _ _).2.2.2.2.2.trans HN.out⟩
   ·have k0:(s'.err == 0)=false:=by rw [beq_eq_false_iff_ne];exact e0
    have hres:Hid (RS.read T=s'):=by show _=_;rw [← HL.out,readL_err e0]
    clear e0
    go_wp2_with fail
    go_ret
    exact ⟨rfl,by rw [hres.out];exact c2,by rw [hres.out];exact c3,R3.out,fun _=>by rw [hres.out];exact h3⟩
def Gv (n:Nat) (Q:Nat→Tr→Prop) (s:RS) (r:RS × Rx):Prop :=
 s.nest=4 - (n:Int)→s.names.length≤6→0≤s.atoms→s.atoms≤4→s.err=0→r.1.err=0 →
  ∃ (t:Tr) (k:Nat),r.2=t.rx∧Q k t∧r.1.atoms=s.atoms+(k:Int)∧r.1.atoms≤4∧r.1.names=s.names∧r.1.nest=s.nest
def Qa (n k:Nat) (t:Tr):Prop:=(∃ c,c<256∧k=1∧t=.c c)∨∃ m,n=m+1∧Tr.Ct (Tr.Pa m) k t
theorem kinds_low (s:RS) (l:List UInt8) (h:s.names.length≤6):s.kindsOf l<256:=by
 have hp:∀ m,m≤8→2 ^ m≤256:=fun m hm=>Nat.le_trans (Nat.pow_le_pow_right (by omega) hm) (by decide)
 have hc:=clsIx_bd s.names l
 unfold RS.kindsOf
 split
 ·have:2 ^ (clsIx s.names l).toNat≤2 ^ 5:=Nat.pow_le_pow_right (by omega) (by omega)
  omega
 ·split
  ·have:=hp (s.names.length+2) (by omega)
   have:=Nat.one_le_two_pow (n:=s.names.length+2);omega
  ·split
   ·have:2 ^ s.names.length≤2 ^ 6:=Nat.pow_le_pow_right (by omega) h
    omega
   ·split
    ·have:2 ^ (s.names.length+1)≤2 ^ 7:=Nat.pow_le_pow_right (by omega) (by omega)
     omega
    ·omega
theorem close_err {T:ByteArray} {s:RS} (h:(s.closeB T).err=0):s.err=0:=by
 unfold RS.closeB at h
 by_cases e:s.err=0
 ·exact e
 ·simp only [if_neg e] at h;exact h
theorem rw_ok {P:Nat→Tr→Prop} (hP:∀ k t,P k t→t.ok) {k:Nat} {t:Tr} (h:Tr.Rw P k t):t.ok:=by
 induction h with
 | one h=>exact hP _ _ h
 | more _ h' ih=>exact (Tr.row_ok ih (hP _ _ h')).1
theorem ct_ok' {P:Nat→Tr→Prop} (hP:∀ k t,P k t→t.ok) {k:Nat} {t:Tr} (h:Tr.Ct P k t):t.ok:=by
 induction h with
 | one h=>exact rw_ok hP h
 | more _ h' ih=>exact (Tr.either_ok ih (rw_ok hP h')).1
theorem sg_ok' {t:Tr} (h:t.ok) (s:Tr.Sg):(Tr.sg s t).ok:=by
 cases s with
 | no=>exact h
 | st=>exact (Tr.many_ok h).1
 | pl=>exact (Tr.row_ok h (Tr.many_ok h).1).1
 | op=>exact (Tr.either_ok h (y:=.e) trivial).1
theorem pa_ok {h:Nat}:∀ {k:Nat} {t:Tr},Tr.Pa h k t→t.ok:=by
 induction h with
 | zero=>rintro k t ⟨x,h1,_,rfl⟩;exact (Tr.pt_ok h1).1
 | succ h ih =>
  rintro k t (⟨x,h1,_,rfl⟩ | ⟨t',s,hc,rfl⟩)
  ·exact (Tr.pt_ok h1).1
  ·exact sg_ok' (ct_ok' (fun _ _ hp=>ih hp) hc) s
theorem ct_ok {h k:Nat} {t:Tr} (hc:Tr.Ct (Tr.Pa h) k t):t.ok:=ct_ok' (fun _ _ hp=>pa_ok hp) hc
theorem qa_sg {n k:Nat} {t:Tr} (h:Qa n k t) (sg:Tr.Sg):Tr.Pa n k (Tr.sg sg t):=by
 rcases h with ⟨c,h1,h2,rfl⟩ | ⟨m,rfl,h2⟩
 ·have:Tr.At k (Tr.sg sg (.c c)):=⟨(c,sg),h1,h2,rfl⟩
  cases n with
  | zero=>exact this
  | succ n=>exact Or.inl this
 ·exact Or.inr ⟨t,sg,h2,rfl⟩
def Res (Q:Nat→Tr→Prop) (s:RS) (r:RS × Rx):Prop:=∃ (t:Tr) (k:Nat),r.2=t.rx∧Q k t∧r.1.atoms=s.atoms+(k:Int)∧r.1.atoms≤4∧r.1.names=s.names∧r.1.nest=s.nest
def SideT' (t:Tr):Prop:=t=.e∨∃ k,k≤4∧Tr.Ct (Tr.Pa 4) k t
theorem allFit_side {t:Tr} (h:SideT' t):AllFit t:=by
 rcases h with rfl | ⟨k,hk,hc⟩
 ·intro v _
  by_cases hv:v=[]
  ·subst hv;exact ⟨trivial,by decide,trivial⟩
  ·rw [Tr.der_e hv];exact ⟨trivial,by decide,trivial⟩
 ·intro v hv;exact Tr.form_bound hc hk v hv
open Go.Maps Go.Lib
inductive SameR (row row':List Nat):List PR→List (Bool × Tr × Tr)→Prop where
 | nil:SameR row row' [] []
 | cons {r:PR} {x:Bool × Tr × Tr} {J:List PR} {L:List (Bool × Tr × Tr)} (h:SameR row row' J L) (hc:r.1=x.1) (hl:∀ i,1≤i→i<row.length→(tmatch r.2.1 (leftAt r.2.1 row i)=true↔LeftM x.2.1 row' i)) (hr:∀ i,1≤i→i<row.length→(tmatch r.2.2 (rightAt r.2.2 row i)=true↔RightM x.2.2 row' i)):SameR row row' (r :: J) (x :: L)
theorem cuts_same {row row':List Nat} (hlen:row.length=row'.length) {J:List PR} {L:List (Bool × Tr × Tr)} (h:SameR row row' J L):∀ (i:Nat) (c:Bool),1≤i→i≤row'.length→RefAt L row' i c→(cutsOf J row)[i]?=some c:=by
 intro i c h1 h2 hc
 unfold RefAt at hc
 by_cases he:i=row'.length
 ·rw [if_pos he] at hc
  rw [hc,he,← hlen];exact cutsOf_end J row
 ·rw [if_neg he] at hc
  have hi:i<row.length:=by omega
  induction h with
  | nil =>
   have e:c=true:=hc
   rw [e]
   show (List.replicate (row.length+1) true)[i]?=some true
   rw [List.getElem?_replicate,if_pos (by omega)]
  | @cons r x J L h hcut hl hr ih =>
   have hl':=hl i h1 hi
   have hr':=hr i h1 hi
   have e:cutsOf (r :: J) row=ruleSays row r (cutsOf J row):=rfl
   have hb:∃ b,(cutsOf J row)[i]?=some b:=⟨_,List.getElem?_eq_getElem (by rw [cutsOf_len];omega)⟩
   obtain ⟨b,hb⟩:=hb
   rw [e]
   unfold ruleSays judgedTo
   rw [List.getElem?_mapIdx,hb,Option.map_some]
   rcases hc with ⟨q1,q2,q3⟩ | ⟨q1,q2⟩
   ·rw [if_pos ⟨h1,hi,hl'.2 q1,hr'.2 q2⟩,q3,hcut]
   ·rw [if_neg (fun k=>q1 ⟨hl'.1 k.2.2.1,hr'.1 k.2.2.2⟩)]
    rw [← hb];exact ih q2
end Go.Proofs.YtodagkkjfipbgaaGreatDoor
