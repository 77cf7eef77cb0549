import Derived.Test.YtodagkkjfipbgaaGreatDoorA9toA11
namespace Go.Proofs.YtodagkkjfipbgaaGreatDoor
open Go
namespace Tr
theorem tl_one {x:Nat × Sg}:(tl x).one:=by unfold tl;split <;> exact ⟨rfl,rfl⟩
theorem p1_atom {k:Nat} {t:Tr} (h:At k t):P1 t k:=by
 obtain ⟨x,h1,rfl,rfl⟩:=h
 have hp:=pt_ok h1
 have ht:=tl_ok h1
 refine ⟨hp.1,hp.2.1,hp.2.2.1,by unfold W1;omega,?_,pt_hc h1,fun w=>⟨[tl x],[tl x],?_,kov_pt h1 w,(show 1≤2 by omega),?_,fun _=>Or.inl rfl,?_,?_,(show 1≤2 by omega),?_⟩⟩
 ·obtain ⟨n,s⟩:=x
  cases s with
  | no=>exact ni_one ⟨rfl,rfl⟩
  | st=>exact ni_one ⟨rfl,rfl⟩
  | pl=>exact ni_one ⟨rfl,rfl⟩
  | op =>
   have e:pt (n,.op)=.a .e (.c n):=op_eq n h1
   rw [e];simp [ni,alts,isE]
 ·intro g hg;simp at hg;subst hg;exact ⟨ht.1,ht.2.1,tl_hc x⟩
 ·rw [sz_cons];simp [sz,U1];omega
 ·intro v n1 n2 u hu
  have:=(kov_pt h1 w).flat hp.1 n1 n2 u hu
  simpa [alts_one tl_one] using this
 ·intro g hg;simp at hg;subst hg;exact ⟨ht.1,tl_one,tl_hc x⟩
 ·rw [sz_cons];simp [sz,U1];omega
theorem ni_rowT {r:List (Nat × Sg)} (h:lowR r):ni (rowT r)≤1:=by
 cases r with
 | nil=>exact ni_one ⟨rfl,rfl⟩
 | cons x r =>
  cases r with
  | nil =>
   have e:rowT [x]=pt x:=row_e _
   rw [e];exact (p1_atom ⟨x,h.head,rfl,rfl⟩).ni
  | cons y r =>
   have h1:=pt_ok h.head
   have h2:=rowT_ok h.tail
   have h3:(rowT (y :: r)).isE=false:=by
    have:=ctT_wt (rs:=[y :: r]) (by intro z hz;simp at hz;subst hz;exact ⟨h.tail,by simp⟩) (by simp)
    rw [ctT_single h.tail] at this;exact this.2
   exact ni_one (isS_one (row_isS h1.1 h2.1 h1.2.1 h1.2.2.1 h2.2.1 h3))
theorem ni_ctT {rs:List (List (Nat × Sg))} (h:lowC rs):ni (ctT rs)≤(posC rs).length:=by
 induction rs with
 | nil=>simp [ctT,ni,alts]
 | cons r rs ih =>
  have h1:=ni_either (rowT_ok (h r (List.mem_cons_self ..)).1).1 (ctT_ok h.tail)
  have h2:=ih h.tail
  have h3:=ni_rowT (h r (List.mem_cons_self ..)).1
  have h4:1≤r.length:=List.length_pos_iff.2 (h r (List.mem_cons_self ..)).2
  rw [posC_len] at h2 ⊢
  rw [List.map_cons,List.sum_cons]
  show ni (either (rowT r) (ctT rs))≤_
  omega
theorem altsP_map (S:List Pos) (f:Pos→List Nat→Prop):altsP (S.map fun p=>(f p,p.2))=altsP S:=by simp [altsP,List.flatMap_map]
theorem altsP_row {r:List (Nat × Sg)} (h:lowR r):(altsP (posR r)).length+(if r=[] then 0 else 1)≤2 * r.length:=by
 induction r with
 | nil=>simp [altsP,posR]
 | cons x r ih =>
  have e:altsP (posR (x :: r))=(row (tl x) (rowT r)).alts++altsP (posR r):=by
   simp only [posR]
   show (row (tl x) (rowT r)).alts++altsP ((posR r).map _)=_
   rw [altsP_map]
  have h1:=ih h.tail
  have h2:=rowT_ok h.tail
  rw [e,List.length_append,if_neg (by simp),List.length_cons]
  by_cases hr:r=[]
  ·subst hr
   have:(row (tl x) (rowT [])).alts=[tl x]:=by show (row (tl x) .e).alts=_;rw [row_e,alts_one tl_one]
   rw [this];simp [altsP,posR]
  ·rw [if_neg hr] at h1
   have hn:(rowT r).isE=false:=by
    have:=ctT_wt (rs:=[r]) (by intro z hz;simp at hz;subst hz;exact ⟨h.tail,hr⟩) (by simp)
    rw [ctT_single h.tail] at this;exact this.2
   have:(row (tl x) (rowT r)).alts.length≤2:=by
    by_cases ht:(tl x).isE=true
    ·rw [isE_eq ht]
     have:=alts_ni h2.1
     have:=ni_rowT h.tail
     show (rowT r).alts.length≤2
     omega
    ·have ht2:=tl_ok h.head
     rw [alts_one (isS_one (row_isS ht2.1 h2.1 ht2.2.1 (by simpa using ht) h2.2.1 hn))];simp
   omega
theorem altsP_ct {rs:List (List (Nat × Sg))} (h:lowC rs) (hn:rs ≠ []):(altsP (posC rs)).length+1≤2 * (posC rs).length:=by
 have key:∀ {rs:List (List (Nat × Sg))},lowC rs→(altsP (posC rs)).length≤2 * (posC rs).length:=by
  intro rs h
  induction rs with
  | nil=>simp [altsP,posC]
  | cons r rs ih =>
   have e:posC (r :: rs)=posR r++posC rs:=by simp [posC]
   have h1:=altsP_row (h r (List.mem_cons_self ..)).1
   have h2:=ih h.tail
   rw [e];show ((posR r++posC rs).flatMap _).length≤_
   rw [List.flatMap_append,List.length_append,List.length_append,posR_len]
   show (altsP (posR r)).length+(altsP (posC rs)).length≤_
   omega
 cases rs with
 | nil=>exact absurd rfl hn
 | cons r rs =>
  have e:posC (r :: rs)=posR r++posC rs:=by simp [posC]
  have h1:=altsP_row (h r (List.mem_cons_self ..)).1
  rw [if_neg (h r (List.mem_cons_self ..)).2] at h1
  have h2:=key h.tail
  rw [e];show ((posR r++posC rs).flatMap _).length+1≤_
  rw [List.flatMap_append,List.length_append,List.length_append,posR_len]
  show (altsP (posR r)).length+(altsP (posC rs)).length+1≤_
  omega
theorem altsP_sz {S:List Pos} (h:∀ p ∈ S,p.2.ok):sz (altsP S)≤szP S:=by
 induction S with
 | nil=>simp [altsP,sz,szP]
 | cons p S ih =>
  have h1:=(wt_alts (h p (List.mem_cons_self ..))).2
  have h2:=ih (fun q hq=>h q (List.mem_cons_of_mem _ hq))
  show sz (p.2.alts++altsP S)≤_
  rw [sz_app,szP_cons];omega
theorem ctT_hc {rs:List (List (Nat × Sg))} (h:lowC rs) (hk:(posC rs).length≤4):(ctT rs).hc:=by
 refine hc_of (fun u hu=>?_) ?_
 ·obtain ⟨x,hx,hu⟩:=(ctT_rows h [] u).1 hu
  obtain ⟨r,hr,rfl⟩:=List.mem_map.1 hx
  exact (rowT_hc (h r hr).1).alts u hu
 ·have h1:=alts_ni (ctT_ok h)
  have h2:=ni_ctT h
  omega
theorem p1_br {k:Nat} {t:Tr} (hc:Ct At k t) (hk:k≤4) (hk1:1≤k) (s:Sg):P1 (sg s t) k:=by
 obtain ⟨rs,c1,c2,rfl,rfl⟩:=ct_flat hc
 generalize hkk:(posC rs).length=k at *
 have hw:=ctT_wt c1 c2
 rw [hkk] at hw
 have hz:=ctT_nz c1 c2
 have ho:=ctT_ok c1
 have hs:=sg_ok ho hz hw.2 s
 have hni:=ni_ctT c1
 rw [hkk] at hni
 have hhc:(ctT rs).hc:=ctT_hc c1 (by omega)
 have hU29:29≤U1 k:=by unfold U1;(repeat' split) <;> omega
 have hM2:2≤M1 k:=by unfold M1;(repeat' split) <;> omega
 refine ⟨hs.1,hs.2.1,hs.2.2.1,by unfold W1;omega,ni_sg ho hz hw.2 s hk1 hni,hc_sg ho hz hw.2 s hk1 (by omega) hni hhc,fun w=>?_⟩
 by_cases hm:(ctT rs).isM=true
 ·-- a star of one atom
  obtain ⟨p,ep⟩:∃ p,ctT rs=.m p:=by
   cases e:ctT rs with
   | m p=>exact ⟨p,rfl⟩
   | _=>rw [e] at hm;simp [isM] at hm
  obtain ⟨n,hn,rfl⟩:=flat_m c1 ep
  rw [ep]
  have kv:Kov (.m (.c n)) w [.m (.c n)]:=kov_pt (x:=(n,.st)) hn w
  have hmo:=m_ok hn
  have hwm:(Tr.m (.c n)).wt≤7:=by
   have hi:(itoaL n).length≤3:=by unfold itoaL;split <;> (try split) <;> simp
   simp [wt,fm,fmG];omega
  have one1:∀ g ∈ [Tr.m (.c n)],g.ok∧g.isZ=false∧g.hc:=by intro g hg;simp at hg;subst hg;exact ⟨hmo,rfl,trivial⟩
  have one2:∀ g ∈ [Tr.m (.c n)],g.ok∧g.one∧g.hc:=by intro g hg;simp at hg;subst hg;exact ⟨hmo,⟨rfl,rfl⟩,trivial⟩
  have fk:=fc_kov hmo kv (fun g hg=>(one2 g hg).2.1)
  have s1:sz [Tr.m (.c n)]≤U1 k:=by rw [sz_cons];simp [sz];omega
  have nE:∀ g ∈ [Tr.m (.c n)],g.isE=false:=by intro g hg;simp at hg;subst hg;rfl
  cases s with
  | no=>exact ⟨[.m (.c n)],[.m (.c n)],one1,kv,by simp;omega,s1,fun _=>Or.inl rfl,fk,one2,by simp;omega,s1⟩
  | st=>exact ⟨[.m (.c n)],[.m (.c n)],one1,kv,by simp;omega,s1,fun _=>Or.inl rfl,fk,one2,by simp;omega,s1⟩
  | op =>
   refine ⟨[.m (.c n)],[.m (.c n)],one1,?_,by simp;omega,s1,fun _=>Or.inl rfl,fc_opt hmo fk,one2,by simp;omega,s1⟩
   refine kv.either hmo (y:=.e) trivial (fun v h1 _ g hg=>Or.inl (pcs_e v h1 g hg)) ?_
   intro v n1 n2
   rw [der_opt hmo n1]
   exact who_of hmo hmo ⟨rfl,rfl⟩ (fun v n1 n2 u hu=>by simpa using fk v n1 n2 u hu) v n1 n2
  | pl =>
   have kv2:=kv.row hmo hmo kv
   have e2:([Tr.m (.c n)].map (fun g=>Tr.row g (.m (.c n)))++[.m (.c n)])=[.s (.m (.c n)) (.m (.c n)),.m (.c n)]:=rfl
   rw [e2] at kv2
   have hso:(Tr.s (.m (.c n)) (.m (.c n))).ok:=⟨hmo,hmo,rfl,rfl,rfl,rfl,rfl⟩
   have s2:sz [Tr.s (.m (.c n)) (.m (.c n)),.m (.c n)]≤U1 k:=by rw [sz_cons,sz_cons,wt_s];simp [sz];omega
   have o2:∀ g ∈ [Tr.s (.m (.c n)) (.m (.c n)),.m (.c n)],g.ok∧g.one∧g.hc:=by
    intro g hg;simp at hg;rcases hg with rfl | rfl
    ·exact ⟨hso,one_s,trivial,trivial⟩
    ·exact ⟨hmo,⟨rfl,rfl⟩,trivial⟩
   have e3:sg .pl (Tr.m (.c n))=row (.m (.c n)) (.m (.c n)):=rfl
   rw [e3]
   refine ⟨_,_,fun g hg=>⟨(o2 g hg).1,(o2 g hg).2.1.2,(o2 g hg).2.2⟩,kv2,by simp;omega,s2,fun _=>Or.inr ?_,fc_kov hso kv2 (fun g hg=>(o2 g hg).2.1),o2,by simp;omega,s2⟩
   intro g hg;simp at hg;rcases hg with rfl | rfl <;> rfl
 ·have hm':(ctT rs).isM=false:=by simpa using hm
  have hfl:=flat c1 c2 (by omega)
  rw [hkk] at hfl
  obtain ⟨V,v0,v2,v3,v4,v5⟩:=hfl.all w
  have hal:(altsP (posC rs)).length≤10000000:=by have:=altsP_ct c1 c2;omega
  have v1:∀ g ∈ V,g.ok∧g.isZ=false∧g.hc:=fun g hg=>⟨(v0 g hg).1,(v0 g hg).2.1,hc_in (v0 g hg).1 (altsP_hc c1) hal (v0 g hg).2.2⟩
  have hMM:Mk k≤M1 k:=by unfold Mk M1;(repeat' split) <;> omega
  have hbig:Uk k+Mk k * (18 * k)≤U1 k:=by
   have:k=1∨k=2∨k=3∨k=4:=by omega
   rcases this with rfl | rfl | rfl | rfl <;> decide
  have hU:Uk k≤U1 k:=Nat.le_trans (Nat.le_add_right ..) hbig
  have hk1V:k=1→V.length≤1:=by intro e;rw [e] at v4;exact v4
  have hone:∀ {X:List Tr},X.length≤V.length→(k=1→X.length=1∨∀ g ∈ X,g.isE=false):=by
   intro X hX e
   have:=hk1V e
   match X,hX with
   | [],_=>right;intro g hg;cases hg
   | [_],_=>left;rfl
   | _ :: _ :: _,hX=>simp at hX;omega
  -- the alternatives of the positions
  have hF:Fc (ctT rs) w (altsP (posC rs))∧(∀ g ∈ altsP (posC rs),g.ok∧g.one∧g.hc)∧(altsP (posC rs)).length≤M1 k∧sz (altsP (posC rs))≤U1 k:=by
   refine ⟨?_,fun g hg=>⟨(D_mem (fun p hp=>(posC_ok c1 p hp).1) g hg).1,(D_mem (fun p hp=>(posC_ok c1 p hp).1) g hg).2,altsP_hc c1 g hg⟩,?_,?_⟩
   ·intro v n1 n2 u hu
    obtain ⟨p,hp,_,hu⟩:=(der_ctT c1 v n1 u).1 hu
    exact List.mem_flatMap.2 ⟨p,hp,hu⟩
   ·have:=altsP_ct c1 c2
    rw [hkk] at this
    have:2 * k≤M1 k+1:=by
     have:k=1∨k=2∨k=3∨k=4:=by omega
     rcases this with rfl | rfl | rfl | rfl <;> decide
    omega
   ·have h1:=altsP_sz (fun p hp=>(posC_ok c1 p hp).1)
    have h2:=posC_sz c1
    rw [hkk] at h2
    have h3:8 * (k * k)≤U1 k:=by
     have:k=1∨k=2∨k=3∨k=4:=by omega
     rcases this with rfl | rfl | rfl | rfl <;> decide
    omega
  have hszm:sz V+V.length * ((ctT rs).wt+4)≤U1 k:=by
   have h2:V.length * ((ctT rs).wt+4)≤Mk k * (18 * k):=Nat.mul_le_mul v4 hw.1
   omega
  cases s with
  | no=>exact ⟨V,_,v1,v2,by omega,by omega,hone (by omega),hF.1,hF.2.1,hF.2.2.1,hF.2.2.2⟩
  | op =>
   refine ⟨V,_,v1,?_,by omega,by omega,hone (by omega),fc_opt ho hF.1,hF.2.1,hF.2.2.1,hF.2.2.2⟩
   refine v2.either ho (y:=.e) trivial (fun v h1 _ g hg=>Or.inl (pcs_e v h1 g hg)) ?_
   intro v n1 n2
   rw [der_opt ho n1];exact v3 v n1 n2
  | _ =>
   rcases many_or ho with ⟨p,e⟩ | e | e | ⟨e,hmo⟩
   ·rw [e] at hm';simp [isM] at hm'
   ·rw [e] at hw;simp [isE] at hw
   ·rw [e] at hz;simp [isZ] at hz
   ·have ok':∀ g ∈ V.map (fun g=>row g (.m (ctT rs))),g.ok∧g.isZ=false∧g.one∧g.hc:=by
     intro g hg
     obtain ⟨x,hx,rfl⟩:=List.mem_map.1 hg
     have h1:=row_ok (v1 x hx).1 hmo
     refine ⟨h1.1,(h1.2 (v1 x hx).2.1 rfl).1,?_,hc_row (v1 x hx).2.2 hhc⟩
     by_cases hxe:x.isE=true
     ·rw [isE_eq hxe];exact ⟨rfl,rfl⟩
     ·exact isS_one (row_isS (v1 x hx).1 hmo (v1 x hx).2.1 (by simpa using hxe) rfl rfl)
    have sz':sz (V.map fun g=>row g (.m (ctT rs)))≤U1 k:=by
     have:=sz_map V (.m (ctT rs))
     rw [wt_m] at this
     have e4:(ctT rs).wt+2+2=(ctT rs).wt+4:=rfl
     rw [e4] at this;omega
    have kst:=v2.m hmo v3
    first
    | (refine ⟨_,V.map (fun g=>row g (.m (ctT rs))),fun g hg=>⟨(ok' g hg).1,(ok' g hg).2.1,(ok' g hg).2.2.2⟩,(show Kov (many (ctT rs)) w _ by rw [e];exact kst),by rw [List.length_map];omega,sz',hone (by rw [List.length_map];omega),(show Fc (many (ctT rs)) w _ by rw [e];exact fc_kov hmo kst (fun g hg=>(ok' g hg).2.2.1)),fun g hg=>⟨(ok' g hg).1,(ok' g hg).2.2.1,(ok' g hg).2.2.2⟩,by rw [List.length_map];omega,sz'⟩;done)
    | (have kpl:Kov (row (ctT rs) (.m (ctT rs))) w (V.map fun g=>row g (.m (ctT rs))):=(v2.row ho hmo kst).sub (fun x hx=>by rcases List.mem_append.1 hx with k | k <;> exact k)
       refine ⟨_,V.map (fun g=>row g (.m (ctT rs))),fun g hg=>⟨(ok' g hg).1,(ok' g hg).2.1,(ok' g hg).2.2.2⟩,(show Kov (row (ctT rs) (many (ctT rs))) w _ by rw [e];exact kpl),by rw [List.length_map];omega,sz',hone (by rw [List.length_map];omega),(show Fc (row (ctT rs) (many (ctT rs))) w _ by rw [e];exact fc_kov (row_ok ho hmo).1 kpl (fun g hg=>(ok' g hg).2.2.1)),fun g hg=>⟨(ok' g hg).1,(ok' g hg).2.2.1,(ok' g hg).2.2.2⟩,by rw [List.length_map];omega,sz'⟩)
end Tr
namespace Tr
theorem At.pos {k:Nat} {t:Tr} (h:At k t):1≤k:=by obtain ⟨x,_,rfl,_⟩:=h;exact Nat.le_refl _
theorem Rw.pos {P:Nat→Tr→Prop} (hP:∀ k t,P k t→1≤k) {k:Nat} {t:Tr} (h:Rw P k t):1≤k:=by
 induction h with
 | one h=>exact hP _ _ h
 | more _ _ ih=>omega
theorem Ct.pos {P:Nat→Tr→Prop} (hP:∀ k t,P k t→1≤k) {k:Nat} {t:Tr} (h:Ct P k t):1≤k:=by
 induction h with
 | one h=>exact h.pos hP
 | more _ _ ih=>omega
theorem Pa.pos {h:Nat}:∀ {k:Nat} {t:Tr},Pa h k t→1≤k:=by
 induction h with
 | zero=>intro k t h;exact At.pos h
 | succ h ih =>
  intro k t hp
  rcases hp with hp | ⟨t',s,hc,_⟩
  ·exact At.pos hp
  ·exact hc.pos (fun k t hp=>ih hp)
theorem pa1 {k:Nat} {t:Tr} (h:Pa 1 k t) (hk:k≤4):P1 t k:=by
 rcases h with h | ⟨t',s,hc,rfl⟩
 ·exact p1_atom h
 ·exact p1_br hc hk (hc.pos fun k t hp=>At.pos hp) s
theorem rr_ok {k:Nat} {t:Tr} (h:RR (fun k t=>Pa 1 k t∧P1 t k) k t) (hk:k≤4):C1 t k∧1≤k:=by
 induction h with
 | one h=>exact ⟨h.2.c,Pa.pos h.1⟩
 | more h _ ih =>
  have h1:=Pa.pos h.1
  have h2:=ih (by omega)
  exact ⟨C1.row h.2 h2.1 h1 h2.2 hk,by omega⟩
theorem rw_le {P Q:Nat→Tr→Prop} {K:Nat} (hP:∀ k t,P k t→1≤k) (hPQ:∀ k t,P k t→k≤K→Q k t) {k:Nat} {t:Tr} (h:Rw P k t) (hk:k≤K):Rw Q k t:=by
 induction h with
 | one h=>exact Rw.one (hPQ _ _ h hk)
 | more h h' ih =>
  have:=hP _ _ h'
  have:=h.pos hP
  exact Rw.more (ih (by omega)) (hPQ _ _ h' (by omega))
theorem c1_row {k:Nat} {t:Tr} (h:Rw (Pa 1) k t) (hk:k≤4):C1 t k:=by
 have h1:Rw (fun k t=>Pa 1 k t∧P1 t k) k t:=rw_le (fun _ _ h=>Pa.pos h) (fun k t hp hk=>⟨hp,pa1 hp hk⟩) h hk
 exact (rr_ok (h1.rr fun k t hp=>hp.2.ok) hk).1
theorem c1_ct {k:Nat} {t:Tr} (h:Ct (Pa 1) k t) (hk:k≤4):C1 t k:=by
 induction h with
 | one h=>exact c1_row h hk
 | more h h' ih =>
  have h1:=h.pos fun _ _ h=>Pa.pos h
  have h2:=h'.pos fun _ _ h=>Pa.pos h
  exact (ih (by omega)).either (c1_row h' (by omega)) h1 h2 hk
def b2 (k _n:Nat):Nat:=if k=1 then 4 else if k=2 then 16 else if k=3 then 128 else 8192
def U2 (k _n:Nat):Nat:=if k=1 then 250 else if k=2 then 3104 else if k=3 then 62720 else 9736192
def W2 (k:Nat):Nat:=92 * k - 5
theorem k4 {k:Nat} (h1:1≤k) (h2:k≤4):k=1∨k=2∨k=3∨k=4:=by omega
theorem pk2 {k:Nat} {t:Tr} (h:C1 t k) (hk1:1≤k) (hk:k≤4) (s:Sg):PK b2 U2 W2 (sg s t) k:=by
 have hs:=sg_ok h.ok h.nz h.ne s
 have hwt:=h.wt
 refine ⟨hs.1,hs.2.1,hs.2.2.1,by unfold W2;unfold W1 at hwt;omega,ni_sg h.ok h.nz h.ne s hk1 h.ni,hc_sg h.ok h.nz h.ne s hk1 (by omega) h.ni h.hc,fun w _=>?_⟩
 obtain ⟨F,a1,a2',a3,a4⟩:=h.all w
 have a2:∀ x ∈ F,x.ok∧x.one:=fun x hx=>⟨(a2' x hx).1,(a2' x hx).2.1⟩
 have hf13:f1 k≤13:=by unfold f1;(repeat' split) <;> omega
 have hfb:f1 k≤b2 k w.length:=by rcases k4 hk1 hk with rfl | rfl | rfl | rfl <;> simp [f1,b2]
 by_cases hm:t.isM=false∨s=.op
 ·have hpow:2 ^ F.length≤2 ^ f1 k:=Nat.pow_le_pow_right (by omega) a3
  let V:=((subs F).map can).filter fun g=>!g.isZ
  have hVm:∀ {g:Tr},g.ok→g.isZ=false→(∀ u ∈ g.alts,u ∈ F)→g ∈ V:=by
   intro g h1 h2 h3
   obtain ⟨l,hl,rfl⟩:=can_of a2 h1 h3
   exact List.mem_filter.2 ⟨List.mem_map.2 ⟨l,hl,rfl⟩,by simp [h2]⟩
  have hsub:∀ (l:List Tr),∀ m ∈ subs l,∀ x ∈ m,x ∈ l:=by
   intro l
   induction l with
   | nil=>intro m hm x hx;simp [subs] at hm;subst hm;cases hx
   | cons y l ih =>
    intro m hm x hx
    rcases List.mem_append.1 hm with k | k
    ·exact List.mem_cons_of_mem _ (ih m k x hx)
    ·obtain ⟨m',hm',rfl⟩:=List.mem_map.1 k
     rcases List.mem_cons.1 hx with rfl | hx
     ·exact List.mem_cons_self ..
     ·exact List.mem_cons_of_mem _ (ih m' hm' x hx)
  have hV:∀ g ∈ V,g.ok∧g.isZ=false∧g.hc:=by
   intro g hg
   obtain ⟨h1,h2⟩:=List.mem_filter.1 hg
   obtain ⟨l,hl,rfl⟩:=List.mem_map.1 h1
   have hco:=can_ok (fun x hx=>a2 x (hsub F l hl x hx))
   exact ⟨hco.1,by simpa using h2,hc_in hco.1 (F:=F) (fun x hx=>(a2' x hx).2.2) (by omega) (fun u hu=>hsub F l hl u ((hco.2 u).1 hu))⟩
  have hlen:V.length≤2 ^ f1 k:=by
   have:=List.length_filter_le (fun g:Tr=>!g.isZ) ((subs F).map can)
   rw [List.length_map,subs_len] at this
   exact Nat.le_trans this hpow
  have hsz:sz V * 2≤2 ^ f1 k * (U1 k+6):=by
   have h1:=map_can_sz F a2
   have h2:sz V≤sz ((subs F).map can):=by
    have key:∀ X:List Tr,sz (X.filter fun g=>!g.isZ)≤sz X:=by
     intro X
     induction X with
     | nil=>simp [sz]
     | cons g X ih=>rw [List.filter_cons];split <;> simp only [sz_cons] <;> omega
    exact key _
   have h3:2 ^ F.length * (sz F+6)≤2 ^ f1 k * (U1 k+6):=Nat.mul_le_mul hpow (by omega)
   omega
  have hkov:Kov t w V:=by
   intro v n1 n2 g hg
   by_cases hz:g.isZ=true
   ·exact Or.inl (isZ_eq hz)
   ·exact Or.inr (hVm (pcs_ok h.ok v g hg) (by simpa using hz) (fun u hu=>a1 v n1 n2 u ((pcs_alts h.ok v u).2 ⟨g,hg,hu⟩)))
  have hwho:Who t w V:=by
   intro v n1 n2
   by_cases hz:(t.der v).isZ=true
   ·exact Or.inl (isZ_eq hz)
   ·exact Or.inr (hVm (der_ok h.ok v) (by simpa using hz) (a1 v n1 n2))
  obtain ⟨V',w1,w2,wo,w3,w4⟩:=kov_sg h.ok s hm hV h.hc hkov hwho
  have h5:V.length * (t.wt+4)≤2 ^ f1 k * (W1 k+4):=Nat.mul_le_mul hlen (by omega)
  have hlen':V'.length≤b2 k w.length:=by
   refine Nat.le_trans w3 (Nat.le_trans hlen ?_)
   rcases k4 hk1 hk with rfl | rfl | rfl | rfl <;> simp [f1,b2]
  have hF:∃ F',Fc (sg s t) w F'∧(∀ g ∈ F',g.ok∧g.one∧g.hc)∧F'.length≤b2 k w.length:=by
   by_cases hst:s=.st∨s=.pl
   ·exact ⟨V',fc_kov hs.1 w2 (wo hst),fun g hg=>⟨(w1 g hg).1,wo hst g hg,(w1 g hg).2.2⟩,hlen'⟩
   ·refine ⟨F,?_,a2',by omega⟩
    cases s with
    | no=>exact a1
    | op=>exact fc_opt h.ok a1
    | st=>exact absurd (Or.inl rfl) hst
    | pl=>exact absurd (Or.inr rfl) hst
  obtain ⟨F',f1',f2',f3'⟩:=hF
  refine ⟨V',F',w1,w2,hlen',?_,f1',f2',f3'⟩
  ·refine Nat.le_trans w4 ?_
   have:2 ^ f1 k * (U1 k+6)+2 * (2 ^ f1 k * (W1 k+4))≤2 * U2 k w.length:=by
    rcases k4 hk1 hk with rfl | rfl | rfl | rfl <;> simp [f1,U1,W1,U2]
   omega
 ·have hm1:t.isM=true:=by
   cases hx:t.isM with
   | true=>rfl
   | false=>exact absurd (Or.inl hx) hm
  obtain ⟨p,rfl⟩:∃ p,t=.m p:=by cases t <;> first | exact ⟨_,rfl⟩ | simp [isM] at hm1
  have hkov:Kov (.m p) w F:=by
   intro v n1 n2 g hg
   rcases pcs_m h.ok v n1 g hg with e | ⟨v',g',m1,m2,hv,rfl⟩
   ·exact Or.inl e
   ·by_cases hz:g'.isZ=true
    ·left;rw [isZ_eq hz];rfl
    ·right
     have hgo:g'.ok:=by rcases hv with rfl | hv
                        ·exact der_ok h.ok.1 v'
                        ·exact pcs_ok h.ok.1 v' g' hv
     have h1:(row g' (.m p)).one:=by
      by_cases hxe:g'.isE=true
      ·rw [isE_eq hxe];exact ⟨rfl,rfl⟩
      ·exact isS_one (row_isS hgo h.ok (by simpa using hz) (by simpa using hxe) rfl rfl)
     exact a1 v n1 n2 _ ((pcs_alts h.ok v _).2 ⟨_,hg,by rw [alts_one h1];simp⟩)
  obtain ⟨V',w1,w2,w3,w4⟩:=kov_sgm h.ok s (fun e=>hm (Or.inr e)) a2' h.hc hkov
  have hlen':V'.length≤b2 k w.length:=by
   refine Nat.le_trans w3 ?_
   have:2 * f1 k≤b2 k w.length:=by rcases k4 hk1 hk with rfl | rfl | rfl | rfl <;> simp [f1,b2]
   omega
  refine ⟨V',V',fun g hg=>⟨(w1 g hg).1,(w1 g hg).2.1.2,(w1 g hg).2.2⟩,w2,hlen',?_,fc_kov hs.1 w2 (fun g hg=>(w1 g hg).2.1),w1,hlen'⟩
  ·refine Nat.le_trans w4 ?_
   have h5:F.length * ((Tr.m p).wt+4)≤f1 k * (W1 k+4):=Nat.mul_le_mul a3 (by omega)
   have:2 * U1 k+f1 k * (W1 k+4)≤U2 k w.length:=by
    rcases k4 hk1 hk with rfl | rfl | rfl | rfl <;> simp [f1,U1,W1,U2]
   omega
theorem pk_atom {b U:Nat→Nat→Nat} {W:Nat→Nat} (hb:∀ n,1≤b 1 n) (hU:∀ n,8≤U 1 n) (hW:14≤W 1) {k:Nat} {t:Tr} (h:At k t):PK b U W t k:=by
 obtain ⟨x,h1,rfl,rfl⟩:=h
 have hp:=pt_ok h1
 have ht:=tl_ok h1
 have hone:∀ g ∈ [tl x],g.ok∧g.one∧g.hc:=by intro g hg;simp at hg;subst hg;exact ⟨ht.1,tl_one,tl_hc x⟩
 refine ⟨hp.1,hp.2.1,hp.2.2.1,by omega,(p1_atom ⟨x,h1,rfl,rfl⟩).ni,pt_hc h1,fun w _=>⟨[tl x],[tl x],?_,kov_pt h1 w,?_,?_,fc_kov hp.1 (kov_pt h1 w) (fun g hg=>(hone g hg).2.1),hone,?_⟩⟩
 ·intro g hg;exact ⟨(hone g hg).1,(hone g hg).2.1.2,(hone g hg).2.2⟩
 ·have:=hb w.length;simpa using this
 ·have:=hU w.length;rw [sz_cons];simp [sz];omega
 ·have:=hb w.length;simpa using this
theorem ck_ct {b U:Nat→Nat→Nat} {W:Nat→Nat} (S:Sup b U W) {P:Nat→Tr→Prop} (hpos:∀ k t,P k t→1≤k) (hP:∀ k t,P k t→k≤4→PK b U W t k) {k:Nat} {t:Tr} (h:Ct P k t) (hk:k≤4):CK b U W t k:=by
 have hrow:∀ {k:Nat} {t:Tr},Rw P k t→k≤4→PK b U W t k:=by
  intro k t h
  induction h with
  | one h=>exact hP _ _ h
  | more h h' ih =>
   intro hk
   have h1:=h.pos hpos
   have h2:=hpos _ _ h'
   exact (ih (by omega)).row S (hP _ _ h' (by omega)) h1 h2 hk
 induction h with
 | one h=>exact (hrow h hk).ck
 | more h h' ih =>
  have h1:=h.pos hpos
  have h2:=h'.pos hpos
  exact (ih (by omega)).either S (hrow h' (by omega)).ck h1 h2 hk
theorem ij {i j:Nat} (hi:1≤i) (hj:1≤j) (h:i+j≤4):(i=1∧j=1)∨(i=1∧j=2)∨(i=1∧j=3)∨(i=2∧j=1)∨(i=2∧j=2)∨(i=3∧j=1):=by omega
theorem sup2:Sup b2 U2 W2:=by
 constructor
 ·intro i j n hi hj hk _;rcases ij hi hj hk with ⟨rfl,rfl⟩ | ⟨rfl,rfl⟩ | ⟨rfl,rfl⟩ | ⟨rfl,rfl⟩ | ⟨rfl,rfl⟩ | ⟨rfl,rfl⟩ <;> simp [b2]
 ·intro i j n hi hj hk _;rcases ij hi hj hk with ⟨rfl,rfl⟩ | ⟨rfl,rfl⟩ | ⟨rfl,rfl⟩ | ⟨rfl,rfl⟩ | ⟨rfl,rfl⟩ | ⟨rfl,rfl⟩ <;> simp [b2,U2,W2]
 ·intro i j hi hj hk;unfold W2;omega
 ·intro i n h1 h2 _;rcases k4 h1 h2 with rfl | rfl | rfl | rfl <;> simp [b2]
theorem pa2 {k:Nat} {t:Tr} (h:Pa 2 k t) (hk:k≤4):PK b2 U2 W2 t k:=by
 rcases h with h | ⟨t',s,hc,rfl⟩
 ·exact pk_atom (by intro n;simp [b2]) (by intro n;simp [U2]) (by simp [W2]) h
 ·exact pk2 (c1_ct hc hk) (hc.pos fun _ _ h=>Pa.pos h) hk s
def b3 (k n:Nat):Nat:=k * n+2 * b2 k 0
def a3 (k:Nat):Nat:=if k=1 then 344 else if k=2 then 3290 else if k=3 then 62998 else 9736562
def c3 (k:Nat):Nat:=if k=1 then 864 else if k=2 then 9136 else if k=3 then 160640 else 22478848
def U3 (k n:Nat):Nat:=a3 k * n+c3 k
def W3 (k:Nat):Nat:=184 * k - 5
theorem sumTo_const (c n:Nat):sumTo (fun _=>c) n=c * n:=by
 induction n with
 | zero=>rfl
 | succ n ih=>simp only [sumTo,ih,Nat.mul_succ];omega
theorem sup3:Sup b3 U3 W3:=by
 constructor
 ·intro i j n hi hj hk _;rcases ij hi hj hk with ⟨rfl,rfl⟩ | ⟨rfl,rfl⟩ | ⟨rfl,rfl⟩ | ⟨rfl,rfl⟩ | ⟨rfl,rfl⟩ | ⟨rfl,rfl⟩ <;> simp [b3,b2] <;> omega
 ·intro i j n hi hj hk _;rcases ij hi hj hk with ⟨rfl,rfl⟩ | ⟨rfl,rfl⟩ | ⟨rfl,rfl⟩ | ⟨rfl,rfl⟩ | ⟨rfl,rfl⟩ | ⟨rfl,rfl⟩ <;> simp [b3,b2,U3,a3,c3,W3] <;> omega
 ·intro i j hi hj hk;unfold W3;omega
 ·intro i n h1 h2 h3;rcases k4 h1 h2 with rfl | rfl | rfl | rfl <;> simp [b3,b2] <;> omega
theorem num3 {k:Nat} (hk1:1≤k) (hk:k≤4) (n:Nat):(U2 k 0+3) * n+U2 k n+(n+b2 k n) * (W2 k+4)≤U3 k n∧2 * U2 k n+b2 k n * (W2 k+4)≤U3 k n:=by
 rcases k4 hk1 hk with rfl | rfl | rfl | rfl
 ·simp only [U3,U2,a3,c3,W2,b2,if_true];omega
 ·simp only [U3,U2,a3,c3,W2,b2,if_true,show ¬ (2=1) by omega,if_false];omega
 ·simp only [U3,U2,a3,c3,W2,b2,if_true,show ¬ (3=1) by omega,show ¬ (3=2) by omega,if_false];omega
 ·simp only [U3,U2,a3,c3,W2,b2,show ¬ (4=1) by omega,show ¬ (4=2) by omega,show ¬ (4=3) by omega,if_false];omega
theorem num3b {k:Nat} (hk1:1≤k) (hk:k≤4) (n:Nat):n+b2 k n≤b3 k n∧2 * b2 k n≤b3 k n:=by
 rcases k4 hk1 hk with rfl | rfl | rfl | rfl
 ·simp only [b3,b2,if_true];omega
 ·simp only [b3,b2,if_true,show ¬ (2=1) by omega,if_false];omega
 ·simp only [b3,b2,if_true,show ¬ (3=1) by omega,show ¬ (3=2) by omega,if_false];omega
 ·simp only [b3,b2,show ¬ (4=1) by omega,show ¬ (4=2) by omega,show ¬ (4=3) by omega,if_false];omega
theorem pa3 {k:Nat} {t:Tr} (h:Pa 3 k t) (hk:k≤4):PK b3 U3 W3 t k:=by
 rcases h with h | ⟨t',s,hc,rfl⟩
 ·exact pk_atom (by intro n;unfold b3 b2;simp only [if_true];omega) (by intro n;unfold U3 a3 c3;simp only [if_true];omega) (by simp [W3]) h
 ·have hk1:=hc.pos fun _ _ h=>Pa.pos h
  refine (ck_ct sup2 (fun _ _ h=>Pa.pos h) (fun _ _=>pa2) hc hk).sg sup2 hk1 hk ?_ ?_ ?_ s
  ·intro n _;exact num3b hk1 hk n
  ·intro n _
   have e2:sumTo (fun i=>U2 k i+3) n=(U2 k 0+3) * n:=sumTo_const (U2 k 0+3) n
   rw [e2]
   exact num3 hk1 hk n
  ·unfold W2 W3;omega
def b4 (k n:Nat):Nat:=2 * k * n+4 * b2 k 0
def U4 (k _n:Nat):Nat:=if k=1 then 300000000000000 else if k=2 then 3000000000000000 else if k=3 then 100000000000000000 else 6000000000000000000
def W4 (k:Nat):Nat:=368 * k - 5
theorem sumTo_lin (a c n:Nat):2 * sumTo (fun i=>a * i+c+3) n=a * (n * (n+1))+2 * ((c+3) * n):=by
 induction n with
 | zero=>simp [sumTo]
 | succ n ih =>
  simp only [sumTo,Nat.mul_add,ih]
  have e1:(n+1) * (n+1+1)=n * (n+1)+2 * (n+1):=by rw [Nat.add_mul n 1,Nat.mul_add n];omega
  have e2:a * (n * n+n * 1 )=a * (n * n)+a * n:=by rw [Nat.mul_one,Nat.mul_add]
  simp only [Nat.mul_add,Nat.add_mul,Nat.mul_one,Nat.one_mul]
  omega
theorem sup4:Sup b4 U4 W4:=by
 constructor
 ·intro i j n hi hj hk _;rcases ij hi hj hk with ⟨rfl,rfl⟩ | ⟨rfl,rfl⟩ | ⟨rfl,rfl⟩ | ⟨rfl,rfl⟩ | ⟨rfl,rfl⟩ | ⟨rfl,rfl⟩ <;> simp [b4,b2] <;> omega
 ·intro i j n hi hj hk _;rcases ij hi hj hk with ⟨rfl,rfl⟩ | ⟨rfl,rfl⟩ | ⟨rfl,rfl⟩ | ⟨rfl,rfl⟩ | ⟨rfl,rfl⟩ | ⟨rfl,rfl⟩ <;> simp [b4,b2,U4,W4] <;> omega
 ·intro i j hi hj hk;unfold W4;omega
 ·intro i n h1 h2 h3;rcases k4 h1 h2 with rfl | rfl | rfl | rfl <;> simp [b4,b2] <;> omega
theorem pa4 {k:Nat} {t:Tr} (h:Pa 4 k t) (hk:k≤4):PK b4 U4 W4 t k:=by
 rcases h with h | ⟨t',s,hc,rfl⟩
 ·exact pk_atom (by intro n;unfold b4 b2;simp only [if_true];omega) (by intro n;unfold U4;simp only [if_true];omega) (by simp [W4]) h
 ·have hk1:=hc.pos fun _ _ h=>Pa.pos h
  refine (ck_ct sup3 (fun _ _ h=>Pa.pos h) (fun _ _=>pa3) hc hk).sg sup3 hk1 hk ?_ ?_ ?_ s
  ·intro n _;rcases k4 hk1 hk with rfl | rfl | rfl | rfl <;> simp [b4,b3,b2] <;> omega
  ·intro n hn
   have e:=sumTo_lin (a3 k) (c3 k) n
   have e2:sumTo (fun i=>U3 k i+3) n=sumTo (fun i=>a3 k * i+c3 k+3) n:=rfl
   rw [e2]
   have hq:n * (n+1)≤1048576 * 1048577:=Nat.mul_le_mul hn (by omega)
   generalize sumTo (fun i=>a3 k * i+c3 k+3) n=S at *
   generalize hQ:n * (n+1)=Q at *
   rcases k4 hk1 hk with rfl | rfl | rfl | rfl <;> simp [U4,U3,a3,c3,W3,b3,b2] at * <;> omega
  ·unfold W3 W4;omega
theorem form_bound {k:Nat} {t:Tr} (h:Ct (Pa 4) k t) (hk:k≤4) (w:List Nat) (hw:w.length≤1048576):(t.der w).ok∧(t.der w).wt≤6000000000000000002∧(t.der w).hc:=by
 have hc:=ck_ct sup4 (fun _ _ h=>Pa.pos h) (fun _ _=>pa4) h hk
 have hk1:=h.pos fun _ _ h=>Pa.pos h
 refine ⟨der_ok hc.ok w,?_,hc.hc_der sup4 hk1 hk w hw⟩
 by_cases hn:w=[]
 ·subst hn
  have:=hc.wt
  show t.wt≤_
  unfold W4 at this;omega
 ·have:=hc.wt_der w hw hn
  rcases k4 hk1 hk with rfl | rfl | rfl | rfl <;> simp [U4] at this <;> omega
end Tr
end Go.Proofs.YtodagkkjfipbgaaGreatDoor
namespace Go.Proofs.YtodagkkjfipbgaaGreatDoor
open Go.RowKit
set_option maxHeartbeats 400000 in
theorem never_any (w:World) :
  Calls Tryz.prog 159 #[] w fun e w'=>∃ v,e=.returned v∧IsRe 1 w' v neverX∧Below w.heap.size w w':=by
 go_enter Tryz.func159,Tryz.ntmps159
 go_wp2
 go_ret
 refine ⟨_,rfl,?_,(Below.refl _ _).alloc (Nat.le_refl _) _⟩
 refine ⟨_,_,rfl,heap_alloc_new _ _,⟨[],rfl,World.ownsRow_nil _ _ _ _,by simp⟩,by decide,by decide,by decide⟩
set_option maxHeartbeats 400000 in
theorem empty_any (w:World) :
  Calls Tryz.prog 96 #[] w fun e w'=>∃ v,e=.returned v∧IsRe 1 w' v emptyX∧Below w.heap.size w w':=by
 go_enter Tryz.func96,Tryz.ntmps96
 go_wp2
 go_ret
 refine ⟨_,rfl,?_,(Below.refl _ _).alloc (Nat.le_refl _) _⟩
 refine ⟨_,_,rfl,heap_alloc_new _ _,⟨[],rfl,World.ownsRow_nil _ _ _ _,by simp⟩,by decide,by decide,by decide⟩
set_option maxHeartbeats 1000000 in
theorem many_any (w:World) (d:Nat) (a:Value) (x:Rx) (ha:IsRe d w a x) (hs:x.form.size≤1000000000) :
  Calls Tryz.prog 232 #[a] w fun e w'=>∃ v,e=.returned v∧IsRe (d+1) w' v (manyX x)∧Below w.heap.size w w':=by
 have ha0:=ha
 obtain ⟨p,vL,e,rfl,rfl,c0,c1,c2,c3,hp,hr,hw,h1,h2⟩:=ha.open
 have hadd1:=run_add Tryz.prog ⟨#[60]⟩ x.form (by rw [size1];omega)
 have hadd2:=run_add Tryz.prog (⟨#[60]⟩++x.form) ⟨#[62]⟩ (by rw [sizeApp,size1,size1];omega)
 by_cases hq:x.what=122∨x.what=101
 ·have hm:manyX x=emptyX:=by unfold manyX;rw [if_pos hq]
  rw [hm];clear hm
  have hq':((x.what:Int) == 122)=true∨(((x.what:Int) == 122)=false∧((x.what:Int) == 101)=true):=by simp;omega
  rcases hq' with k1 | ⟨k1,k2⟩
  all_goals
   go_enter Tryz.func232,Tryz.ntmps232
   go_wp2_with (go_at_call 96;refine (empty_any _).mono ?_;rintro e w1 ⟨v1,rfl,hv1,hb1⟩)
   go_ret
   exact ⟨_,rfl,hv1.mono (by omega),hb1⟩
 ·have k1:((x.what:Int) == 122)=false:=by simp;omega
  have k2:((x.what:Int) == 101)=false:=by simp;omega
  by_cases hq3:x.what=109
  ·have hm:manyX x=x:=by unfold manyX;rw [if_neg hq,if_pos hq3]
   rw [hm];clear hm
   have k3:((x.what:Int) == 109)=true:=by simp;omega
   clear hq hq3
   go_enter Tryz.func232,Tryz.ntmps232
   go_wp2
   go_ret
   exact ⟨_,rfl,ha0.mono (by omega),Below.refl _ _⟩
  ·have hm:manyX x=⟨109,0,[x],⟨#[60]⟩++x.form++⟨#[62]⟩⟩:=by unfold manyX;rw [if_neg hq,if_neg hq3]
   rw [hm];clear hm
   have k3:((x.what:Int) == 109)=false:=by simp;omega
   clear hq hq3
   have HA:Hid (IsRe (e+1) w (.pointer (some ⟨p,0,none⟩)) x):=ha0
   clear ha0 ha
   go_enter Tryz.func232,Tryz.ntmps232
   go_wp2
   go_ret
   refine ⟨.pointer (some ⟨w.heap.size+1,0,none⟩),rfl,?_,((Below.refl _ _).alloc (Nat.le_refl _) _).alloc (by simp) _⟩
   have hr1:=row1 HA.out
   exact mkRe' (d:=e+1) (q:=w.heap.size+1) (W:=w.alloc (.cells #[.pointer (some ⟨p,0,none⟩)] 178)) (vL:=.slice (some ⟨w.heap.size,0,none⟩) 1 1) (wI:=109) (kI:=0) (f:=⟨#[60]⟩++x.form++⟨#[62]⟩) ⟨109,0,[x],⟨#[60]⟩++x.form++⟨#[62]⟩⟩ (by simp) (by rfl) rfl rfl hr1 (by show (109:Nat)<256;decide) (fun h=>by simp at h) (fun h=>by simp at h)
theorem run_addB (P:Program) (a b:ByteArray) (h:a.size+b.size≤9223372036854775807) (W:World):(Op.stringOp .add a b).run P W=.ok (.string (a++b)) W:=run_string_add_sum (P:=P) W a b h
theorem sizes2 (a b:Rx):sizesX [a,b]=a.form.size+1+(b.form.size+1):=by simp [sizesX]
set_option maxHeartbeats 2000000 in
theorem row_any (n:Nat):∀ (w:World) (d:Nat) (a b:Value) (x y:Rx),x.form.size<n→IsRe d w a x→IsRe d w b y→x.form.size+y.form.size≤9000000000000000000 →
  Calls Tryz.prog 157 #[a,b] w fun e w'=>∃ v d',e=.returned v∧IsRe d' w' v (rowX n x y)∧(rowX n x y).form.size≤x.form.size+y.form.size+2∧Below w.heap.size w w':=by
 induction n with
 | zero=>intro w d a b x y h;omega
 | succ n ih =>
  intro w d a b x y hn ha hb hs
  have ha0:=ha
  have hb0:=hb
  obtain ⟨p,vL,e,rfl,rfl,c0,c1,c2,c3,hp,hr,hw,h1,h2⟩:=ha.open
  obtain ⟨p',vL',e',he',rfl,c0',c1',c2',c3',hp',hr',hw',h1',h2'⟩:=hb.open
  have HA:Hid (IsRe (e+1) w (.pointer (some ⟨p,0,none⟩)) x):=ha0
  have HB:Hid (IsRe (e+1) w (.pointer (some ⟨p',0,none⟩)) y):=hb0
  clear ha0 ha hb0 hb
  by_cases hz:x.what=122∨y.what=122
  ·have hm:rowX (n+1) x y=neverX:=by unfold rowX;rw [if_pos hz]
   rw [hm]
   have hq:((x.what:Int) == 122)=true∨(((x.what:Int) == 122)=false∧((y.what:Int) == 122)=true):=by simp;omega
   rcases hq with k1 | ⟨k1,k2⟩
   all_goals
    go_enter Tryz.func157,Tryz.ntmps157
    go_wp2_with (go_at_call 159;refine (never_any _).mono ?_;rintro e w1 ⟨v1,rfl,hv1,hb1⟩)
    go_ret
    exact ⟨_,1,rfl,hv1,by show 1≤_;omega,hb1⟩
  ·have k1:((x.what:Int) == 122)=false:=by simp;omega
   have k2:((y.what:Int) == 122)=false:=by simp;omega
   by_cases hx:x.what=101
   ·have hm:rowX (n+1) x y=y:=by unfold rowX;rw [if_neg hz,if_pos hx]
    rw [hm]
    have k3:((x.what:Int) == 101)=true:=by simp;omega
    clear hz hx hm
    go_enter Tryz.func157,Tryz.ntmps157
    go_wp2_with fail
    go_ret
    exact ⟨_,_,rfl,HB.out,by omega,Below.refl _ _⟩
   ·have k3:((x.what:Int) == 101)=false:=by simp;omega
    by_cases hy:y.what=101
    ·have hm:rowX (n+1) x y=x:=by unfold rowX;rw [if_neg hz,if_neg hx,if_pos hy]
     rw [hm]
     have k4:((y.what:Int) == 101)=true:=by simp;omega
     clear hz hx hm hy
     go_enter Tryz.func157,Tryz.ntmps157
     go_wp2_with fail
     go_ret
     exact ⟨_,_,rfl,HA.out,by omega,Below.refl _ _⟩
    ·have k4:((y.what:Int) == 101)=false:=by simp;omega
     by_cases hs':x.what=115
     ·have hm:rowX (n+1) x y=rowX n (x.l.getD 0 neverX) (rowX n (x.l.getD 1 neverX) y):=by rw [rowX,if_neg hz,if_neg hx,if_neg hy,if_pos hs']
      rw [hm]
      have k5:((x.what:Int) == 115)=true:=by simp;omega
      have hlen:=h1 hs'
      have hsz:=h2 (Or.inl hs')
      obtain ⟨x0,x1,hl⟩:∃ x0 x1,x.l=[x0,x1]:=by
       match hxl:x.l,hlen with
       | [x0,x1],_=>exact ⟨x0,x1,rfl⟩
      rw [hl] at hr hsz ⊢
      rw [sizes2] at hsz
      obtain ⟨ao,cap,hvl,hrow⟩:=hr.form
      obtain ⟨g,u0,rfl,g0,r0⟩:=hrow 0 (by simp)
      obtain ⟨g',u1,hg',g1,r1⟩:=hrow 1 (by simp)
      simp at hg'
      subst hg'
      subst hvl
      simp only [List.length_cons,List.length_nil,Nat.zero_add,Nat.reduceAdd,List.getElem_cons_zero,List.getElem_cons_succ] at r0 r1 c2
      have R0:Hid (IsRe e w u0 x0):=r0
      have R1:Hid (IsRe e w u1 x1):=r1
      have IH:=ih
      have IH':Hid (∀ (w:World) (d:Nat) (a b:Value) (x y:Rx),x.form.size<n→IsRe d w a x→IsRe d w b y→x.form.size+y.form.size≤9000000000000000000 →
  Calls Tryz.prog 157 #[a,b] w fun e w'=>∃ v d',e=.returned v∧IsRe d' w' v (rowX n x y)∧(rowX n x y).form.size≤x.form.size+y.form.size+2∧Below w.heap.size w w'):=ih
          clear hz hx hm hy r0 r1 hrow hr ih IH hs' h1 h2 hlen hl
          go_enter Tryz.func157,Tryz.ntmps157
          go_wp2_with fail
          refine (IH'.out _ (e+1) _ _ x1 y (by omega) (R1.out.mono (by omega)) HB.out (by omega)).mono ?_
          rintro e1 w1 ⟨v1,d1,rfl,hv1,hs1,hb1⟩
          have hg:g<w.heap.size:=World.block_lt_of_cell? w ⟨g,0,none⟩ g0
          have d2:w1.cell? ⟨p,2,none⟩=some (.slice (some ⟨g,0,none⟩) 2 cap):=(hb1.cell (p:=⟨p,2,none⟩) hp).trans c2
          have dg0:w1.cell? ⟨g,0,none⟩=some u0:=(hb1.cell (p:=⟨g,0,none⟩) hg).trans g0
          have d0:w1.cell? ⟨p,0,none⟩=some (.int .u8 x.what):=(hb1.cell (p:=⟨p,0,none⟩) hp).trans c0
          have R0':Hid (IsRe e w1 u0 x0):=R0.out.keep (KeepRe.of_below hb1)
          have HV1:Hid (IsRe d1 w1 v1 (rowX n x1 y)):=hv1
          clear hv1
          go_wp2_with fail
          refine (IH'.out _ (e+d1) _ _ x0 (rowX n x1 y) (by omega) (R0'.out.mono (by omega)) (HV1.out.mono (by omega)) (by omega)).mono ?_
          rintro e2 w2 ⟨v2,d2',rfl,hv2,hs2,hb2⟩
          go_wp2_with fail
          go_ret
          exact ⟨_,_,rfl,hv2,by show (rowX n x0 (rowX n x1 y)).form.size≤_;omega,hb1.trans (hb2.mono hb1.size)⟩
        ·have hm:rowX (n+1) x y=seqX x y:=by rw [rowX,if_neg hz,if_neg hx,if_neg hy,if_neg hs']
         rw [hm]
         have k5:((x.what:Int) == 115)=false:=by simp;omega
         have hadd1:=run_addB Tryz.prog ⟨#[40]⟩ x.form (by rw [size1];omega)
         have hadd2:=run_addB Tryz.prog (⟨#[40]⟩++x.form) y.form (by rw [sizeApp,size1];omega)
         have hadd3:=run_addB Tryz.prog (⟨#[40]⟩++x.form++y.form) ⟨#[41]⟩ (by rw [sizeApp,sizeApp,size1,size1];omega)
         clear hz hx hm hy hs' h1 h2 ih hr
         go_enter Tryz.func157,Tryz.ntmps157
         go_wp2_with fail
         go_region
         all_goals (try go_wp2)
         go_ret
         have hr2:=row2 HA.out HB.out
         have hre:=mkRe' (d:=e+1) (q:=w.heap.size+1) (W:=w.alloc (.cells #[.pointer (some ⟨p,0,none⟩),.pointer (some ⟨p',0,none⟩)] 178)) (vL:=.slice (some ⟨w.heap.size,0,none⟩) 2 2) (wI:=115) (kI:=0) (f:=⟨#[40]⟩++x.form++y.form++⟨#[41]⟩) (seqX x y) (by simp) (by rfl) rfl rfl hr2 (by show (115:Nat)<256;decide) (fun _=>rfl)
          (fun _=>by show sizesX [x,y]≤(⟨#[40]⟩++x.form++y.form++⟨#[41]⟩:ByteArray).size;rw [sizes2,sizeApp,sizeApp,sizeApp,size1,size1];omega)
         refine ⟨.pointer (some ⟨w.heap.size+1,0,none⟩),e+2,rfl,hre.keep (KeepRe.drew _),?_,?_⟩
         ·show (⟨#[40]⟩++x.form++y.form++⟨#[41]⟩:ByteArray).size≤_
          rw [sizeApp,sizeApp,sizeApp,size1,size1];omega
         ·exact (((Below.refl _ _).alloc (Nat.le_refl _) _).alloc (by simp) _).drew
end Go.Proofs.YtodagkkjfipbgaaGreatDoor
