import Derived.Test.YtodagkkjfipbgaaGreatDoorA4toA6
namespace Go.Proofs.YtodagkkjfipbgaaGreatDoor
open Go
namespace Tr
theorem szP_cons (p:Pos) (S:List Pos):szP (p :: S)=p.2.wt+1+szP S:=by simp [szP]
theorem szP_app (S T:List Pos):szP (S++T)=szP S+szP T:=by simp [szP]
theorem szP_map (S:List Pos) (f:Pos→List Nat→Prop):szP (S.map fun p=>(f p,p.2))=szP S:=by simp [szP,Function.comp_def]
theorem posR_len (r:List (Nat × Sg)):(posR r).length=r.length:=by
 induction r with
 | nil=>rfl
 | cons x r ih=>simp [posR,ih]
theorem posR_sz {r:List (Nat × Sg)} (h:lowR r):szP (posR r)≤8 * (r.length * r.length):=by
 induction r with
 | nil=>simp [posR,szP]
 | cons x r ih =>
  have h1:=ih h.tail
  have ht:=tl_ok h.head
  have hr:=rowT_ok h.tail
  have h2:=wt_row (tl x) (rowT r)
  have e:szP (posR (x :: r))=(row (tl x) (rowT r)).wt+1+szP (posR r):=by
   simp only [posR,szP_cons,szP_map]
  have h3:(row (tl x) (rowT r)).wt≤16 * r.length+7:=by
   by_cases hn:r=[]
   ·subst hn;show (row (tl x) .e).wt≤_;rw [row_e];omega
   ·have:=hr.2.2.2 hn;omega
  rw [e,List.length_cons]
  have:(r.length+1) * (r.length+1)=r.length * r.length+2 * r.length+1:=by rw [Nat.add_mul,Nat.mul_add];omega
  omega
theorem posC_sz {rs:List (List (Nat × Sg))} (h:lowC rs):szP (posC rs)≤8 * ((posC rs).length * (posC rs).length):=by
 induction rs with
 | nil=>simp [posC,szP]
 | cons r rs ih =>
  have h1:=ih h.tail
  have h2:=posR_sz (h r (List.mem_cons_self ..)).1
  have e:posC (r :: rs)=posR r++posC rs:=by simp [posC]
  rw [e,szP_app,List.length_append,posR_len]
  generalize (posC rs).length=b at *
  generalize r.length=a at *
  have:(a+b) * (a+b)=a * a+b * b+2 * (a * b):=by rw [Nat.add_mul,Nat.mul_add,Nat.mul_add,Nat.mul_comm b a];omega
  omega
structure Fl (t:Tr) (M U:Nat) (F:List Tr):Prop where
 ok:t.ok
 nz:t.isZ=false
 all:∀ w,∃ V,(∀ g ∈ V,g.ok∧g.isZ=false∧∀ u ∈ g.alts,u ∈ F)∧Kov t w V∧Who t w V∧V.length≤M∧sz V≤U
theorem alts_ne {t:Tr} (h:t.isZ=false):∃ u,u ∈ t.alts:=by
 cases hl:t.alts with
 | nil=>rw [alts_nil] at hl;subst hl;simp [isZ] at h
 | cons u l=>exact ⟨u,List.mem_cons_self ..⟩
theorem ctT_nz {rs:List (List (Nat × Sg))} (h:lowC rs) (hn:rs ≠ []):(ctT rs).isZ=false:=by
 cases rs with
 | nil=>exact absurd rfl hn
 | cons r rs =>
  have hr:=rowT_ok (h r (List.mem_cons_self ..)).1
  obtain ⟨u,hu⟩:=alts_ne hr.2.1
  exact isZ_alts (((either_ok hr.1 (ctT_ok h.tail)).2 u).2 (Or.inl hu))
theorem D_nz {S:List Pos} (h:∀ p ∈ S,p.2.ok∧p.2.isZ=false) (hn:S ≠ []):(D S).isZ=false:=by
 cases S with
 | nil=>exact absurd rfl hn
 | cons p S =>
  obtain ⟨u,hu⟩:=alts_ne (h p (List.mem_cons_self ..)).2
  exact isZ_alts (((D_ok (fun q hq=>(h q hq).1)).2 u).2 ⟨p,List.mem_cons_self ..,hu⟩)
theorem flat_of {rs:List (List (Nat × Sg))} (h:lowC rs) (w:List Nat) (L:List (List Pos)) (hL:∀ S ∈ L,S ≠ []∧∀ p ∈ S,p ∈ posC rs) (h1:∀ p ∈ posC rs,[p] ∈ L) (hc:∀ v,v ≠ []→v <:+ w→(∀ p ∈ posC rs,¬ p.1 v)∨∃ S ∈ L,∀ p,p ∈ S↔p ∈ posC rs∧p.1 v) :
  (∀ g ∈ L.map D,g.ok∧g.isZ=false∧∀ u ∈ g.alts,u ∈ altsP (posC rs))∧Kov (ctT rs) w (L.map D)∧Who (ctT rs) w (L.map D)∧(L.map D).length=L.length∧sz (L.map D)≤(L.map szP).sum+3 * L.length:=by
 have hp:=posC_ok h
 have hw:Who (ctT rs) w (L.map D):=by
  intro v n1 n2
  rcases hc v n1 n2 with k | ⟨S,hS,k⟩
  ·left
   have:=der_D h v n1 [] (fun p=>by simp;exact fun h=>k p h)
   rw [this];rfl
  ·right;rw [der_D h v n1 S k];exact List.mem_map.2 ⟨S,hS,rfl⟩
 refine ⟨?_,kov_ctT h w _ hw ?_,hw,by simp,?_⟩
 ·intro g hg
  obtain ⟨S,hS,rfl⟩:=List.mem_map.1 hg
  refine ⟨(D_ok (fun p hp'=>(hp p ((hL S hS).2 p hp')).1)).1,D_nz (fun p hp'=>hp p ((hL S hS).2 p hp')) (hL S hS).1,fun u hu=>?_⟩
  obtain ⟨p,hp',hu⟩:=((D_ok (fun p hp'=>(hp p ((hL S hS).2 p hp')).1)).2 u).1 hu
  exact List.mem_flatMap.2 ⟨p,(hL S hS).2 p hp',hu⟩
 ·intro p hp'
  rw [← D_one (hp p hp').1];exact List.mem_map.2 ⟨_,h1 p hp',rfl⟩
 ·clear hw hc h1
  induction L with
  | nil=>simp [sz]
  | cons S L ih =>
   have:=ih (fun T hT=>hL T (List.mem_cons_of_mem _ hT))
   have h2:=D_wt (S:=S) (fun p hp'=>(hp p ((hL S (List.mem_cons_self ..)).2 p hp')).1)
   simp only [List.map_cons,sz_cons,List.sum_cons,List.length_cons]
   omega
theorem flat1 {rs:List (List (Nat × Sg))} (h:lowC rs) (hn:rs ≠ []) {p:Pos} (hp:posC rs=[p]):Fl (ctT rs) 1 11 (altsP (posC rs)):=by
 refine ⟨ctT_ok h,ctT_nz h hn,fun w=>?_⟩
 have hs:=posC_sz h
 rw [hp] at hs
 have:=flat_of h w [[p]] (by simp [hp]) (by simp [hp]) (fun v _ _=>by
  rw [hp]
  by_cases k:p.1 v
  ·exact Or.inr ⟨[p],by simp,fun q=>by constructor
                                       ·intro hq;simp at hq;subst hq;exact ⟨by simp,k⟩
                                       ·intro hq;exact hq.1⟩
  ·exact Or.inl (by intro q hq;simp at hq;subst hq;exact k))
 refine ⟨_,this.1,this.2.1,this.2.2.1,by rw [this.2.2.2.1];simp,?_⟩
 have h5:=this.2.2.2.2
 have h6:([[p]].map szP).sum+3 * [[p]].length=szP [p]+3:=by simp
 simp at hs
 omega
def pk (b:Bool) (p:Pos):List Pos:=if b=true then [p] else []
theorem mem_pk {b:Bool} {p q:Pos}:q ∈ pk b p↔b=true∧q=p:=by unfold pk;cases b <;> simp
theorem szP_pk (b:Bool) (p:Pos):szP (pk b p)=if b=true then p.2.wt+1 else 0:=by unfold pk;cases b <;> simp [szP]
abbrev B4:=Bool × Bool × Bool × Bool
def pick4 (p0 p1 p2 p3:Pos) (m:B4):List Pos:=pk m.1 p0++pk m.2.1 p1++pk m.2.2.1 p2++pk m.2.2.2 p3
def m15:List B4:=[(false,false,false,true),(false,false,true,false),(false,false,true,true),(false,true,false,false),(false,true,false,true),(false,true,true,false),(false,true,true,true),(true,false,false,false),(true,false,false,true),(true,false,true,false),(true,false,true,true),(true,true,false,false),(true,true,false,true),(true,true,true,false),(true,true,true,true)]
def m6:List B4:=[(false,false,true,true),(false,true,false,true),(false,true,true,false),(true,false,false,true),(true,false,true,false),(true,true,false,false)]
def but (a b:B4):List B4:=m15.filter fun m=>decide (m ≠ a) && decide (m ≠ b)
theorem but_len:∀ a ∈ m6,∀ b ∈ m6,a ≠ b→(but a b).length=13∧(true,false,false,false) ∈ but a b∧(false,true,false,false) ∈ but a b∧(false,false,true,false) ∈ but a b∧(false,false,false,true) ∈ but a b:=by decide
theorem m15_all:∀ m:B4,m ≠ (false,false,false,false)→m ∈ m15:=by
 rintro ⟨a,b,c,d⟩
 revert a b c d
 decide
theorem m15_some:∀ m ∈ m15,m.1=true∨m.2.1=true∨m.2.2.1=true∨m.2.2.2=true:=by decide
open Classical in
theorem flat4 {rs:List (List (Nat × Sg))} (h:lowC rs) (hn:rs ≠ []) {p0 p1 p2 p3:Pos} (hp:posC rs=[p0,p1,p2,p3])
  (hx:∀ w,∃ a ∈ m6,∃ b ∈ m6,a ≠ b∧∀ v,v ≠ []→v <:+ w→(decide (p0.1 v),decide (p1.1 v),decide (p2.1 v),decide (p3.1 v)) ≠ a∧(decide (p0.1 v),decide (p1.1 v),decide (p2.1 v),decide (p3.1 v)) ≠ b) :
  Fl (ctT rs) 13 1069 (altsP (posC rs)):=by
 refine ⟨ctT_ok h,ctT_nz h hn,fun w=>?_⟩
 have hs:=posC_sz h
 rw [hp] at hs
 obtain ⟨a,ha,b,hb,hab,hx⟩:=hx w
 obtain ⟨l13,s0,s1,s2,s3⟩:=but_len a ha b hb hab
 have hin:∀ m ∈ but a b,m ∈ m15:=fun m hm=>(List.mem_filter.1 hm).1
 have hne:∀ m ∈ m15,pick4 p0 p1 p2 p3 m ≠ []:=by
  intro m hm e
  have k:∀ q,q ∉ pick4 p0 p1 p2 p3 m:=by rw [e];simp
  simp only [pick4,List.mem_append,mem_pk] at k
  rcases m15_some m hm with k1 | k1 | k1 | k1
  ·exact k p0 (Or.inl (Or.inl (Or.inl ⟨k1,rfl⟩)))
  ·exact k p1 (Or.inl (Or.inl (Or.inr ⟨k1,rfl⟩)))
  ·exact k p2 (Or.inl (Or.inr ⟨k1,rfl⟩))
  ·exact k p3 (Or.inr ⟨k1,rfl⟩)
 have:=flat_of h w ((but a b).map (pick4 p0 p1 p2 p3)) (fun S hS=>by
   obtain ⟨m,hm,rfl⟩:=List.mem_map.1 hS
   refine ⟨hne m (hin m hm),fun q hq=>?_⟩
   rw [hp]
   simp only [pick4,List.mem_append,mem_pk] at hq
   rcases hq with ((⟨_,rfl⟩ | ⟨_,rfl⟩) | ⟨_,rfl⟩) | ⟨_,rfl⟩ <;> simp)
  (fun q hq=>by
   rw [hp] at hq
   simp at hq
   rcases hq with rfl | rfl | rfl | rfl
   ·exact List.mem_map.2 ⟨_,s0,rfl⟩
   ·exact List.mem_map.2 ⟨_,s1,rfl⟩
   ·exact List.mem_map.2 ⟨_,s2,rfl⟩
   ·exact List.mem_map.2 ⟨_,s3,rfl⟩)
  (fun v n1 n2=>by
   rw [hp]
   by_cases k:p0.1 v∨p1.1 v∨p2.1 v∨p3.1 v
   ·right
    refine ⟨_,List.mem_map.2 ⟨(decide (p0.1 v),decide (p1.1 v),decide (p2.1 v),decide (p3.1 v)),?_,rfl⟩,fun q=>?_⟩
    ·refine List.mem_filter.2 ⟨?_,by simp only [Bool.and_eq_true,decide_eq_true_eq];exact hx v n1 n2⟩
     refine m15_all _ ?_
     intro e
     simp only [Prod.mk.injEq,decide_eq_false_iff_not] at e
     rcases k with k | k | k | k
     ·exact e.1 k
     ·exact e.2.1 k
     ·exact e.2.2.1 k
     ·exact e.2.2.2 k
    ·simp only [pick4,List.mem_append,mem_pk,decide_eq_true_eq]
     constructor
     ·rintro (((⟨k,rfl⟩ | ⟨k,rfl⟩) | ⟨k,rfl⟩) | ⟨k,rfl⟩) <;> exact ⟨by simp,k⟩
     ·rintro ⟨hq,kq⟩
      simp at hq
      rcases hq with rfl | rfl | rfl | rfl
      ·exact Or.inl (Or.inl (Or.inl ⟨kq,rfl⟩))
      ·exact Or.inl (Or.inl (Or.inr ⟨kq,rfl⟩))
      ·exact Or.inl (Or.inr ⟨kq,rfl⟩)
      ·exact Or.inr ⟨kq,rfl⟩
   ·left
    intro q hq kq
    simp at hq
    rcases hq with rfl | rfl | rfl | rfl
    ·exact k (Or.inl kq)
    ·exact k (Or.inr (Or.inl kq))
    ·exact k (Or.inr (Or.inr (Or.inl kq)))
    ·exact k (Or.inr (Or.inr (Or.inr kq))))
 refine ⟨_,this.1,this.2.1,this.2.2.1,by rw [this.2.2.2.1,List.length_map,l13];omega,?_⟩
 have h5:=this.2.2.2.2
 have hsum:∀ (l:List B4) (f:B4→Nat) (q:B4→Bool),((l.filter q).map f).sum≤(l.map f).sum:=by
  intro l f q
  induction l with
  | nil=>simp
  | cons m l ih=>rw [List.filter_cons];split <;> simp <;> omega
 have h6:=hsum m15 (fun m=>szP (pick4 p0 p1 p2 p3 m)) (fun m=>decide (m ≠ a) && decide (m ≠ b))
 rw [show (((but a b).map (pick4 p0 p1 p2 p3)).map szP)=(but a b).map (szP ∘ pick4 p0 p1 p2 p3) from List.map_map ..,List.length_map,l13] at h5
 have h7:((m15.filter (fun m=>decide (m ≠ a) && decide (m ≠ b))).map (szP ∘ pick4 p0 p1 p2 p3)).sum≤(m15.map fun m=>szP (pick4 p0 p1 p2 p3 m)).sum:=h6
 have h8:(m15.map fun m=>szP (pick4 p0 p1 p2 p3 m)).sum=8 * szP [p0,p1,p2,p3]:=by
  simp only [m15,List.map_cons,List.map_nil,List.sum_cons,List.sum_nil,pick4,szP_app,szP_pk,szP_cons,Bool.false_eq_true,if_false,if_true,show szP []=0 from rfl]
  omega
 have h5':sz (((but a b).map (pick4 p0 p1 p2 p3)).map D)≤(List.map (szP ∘ pick4 p0 p1 p2 p3) (m15.filter (fun m=>decide (m ≠ a) && decide (m ≠ b)))).sum+3 * 13:=h5
 simp only [List.length_cons,List.length_nil] at hs
 omega
end Tr
end Go.Proofs.YtodagkkjfipbgaaGreatDoor
namespace Go.Proofs.YtodagkkjfipbgaaGreatDoor
open Go
namespace Tr
open Classical in
theorem flat2 {rs:List (List (Nat × Sg))} (h:lowC rs) (hn:rs ≠ []) {p0 p1:Pos} (hp:posC rs=[p0,p1]):Fl (ctT rs) 3 73 (altsP (posC rs)):=by
 refine ⟨ctT_ok h,ctT_nz h hn,fun w=>?_⟩
 have hs:=posC_sz h
 rw [hp] at hs
 have:=flat_of h w [[p0],[p1],[p0,p1]] (by
   intro S hS
   rw [hp]
   simp only [List.mem_cons,List.not_mem_nil,or_false] at hS
   rcases hS with rfl | rfl | rfl
   ·exact ⟨by simp,fun q hq=>by rw [List.mem_singleton.1 hq];exact List.mem_cons_self ..⟩
   ·exact ⟨by simp,fun q hq=>by rw [List.mem_singleton.1 hq];exact List.mem_cons_of_mem _ (List.mem_cons_self ..)⟩
   ·exact ⟨by simp,fun q hq=>hq⟩) (by simp [hp]) (fun v _ _=>by
  rw [hp]
  by_cases k0:p0.1 v <;> by_cases k1:p1.1 v
  ·exact Or.inr ⟨[p0,p1],by simp,fun q=>⟨fun hq=>⟨hq,by simp at hq;rcases hq with rfl | rfl <;> assumption⟩,fun hq=>hq.1⟩⟩
  ·exact Or.inr ⟨[p0],by simp,fun q=>⟨fun hq=>by simp at hq;subst hq;exact ⟨by simp,k0⟩,fun hq=>by
    obtain ⟨a,b⟩:=hq;simp at a;rcases a with rfl | rfl
    ·simp
    ·exact absurd b k1⟩⟩
  ·exact Or.inr ⟨[p1],by simp,fun q=>⟨fun hq=>by simp at hq;subst hq;exact ⟨by simp,k1⟩,fun hq=>by
    obtain ⟨a,b⟩:=hq;simp at a;rcases a with rfl | rfl
    ·exact absurd b k0
    ·simp⟩⟩
  ·exact Or.inl (by intro q hq;simp at hq;rcases hq with rfl | rfl <;> assumption))
 refine ⟨_,this.1,this.2.1,this.2.2.1,by rw [this.2.2.2.1];simp,?_⟩
 have h5:=this.2.2.2.2
 have h6:([[p0],[p1],[p0,p1]].map szP).sum+3 * [[p0],[p1],[p0,p1]].length=2 * szP [p0,p1]+9:=by simp [szP];omega
 simp only [List.length_cons,List.length_nil] at hs
 omega
open Classical in
theorem flat3 {rs:List (List (Nat × Sg))} (h:lowC rs) (hn:rs ≠ []) {p0 p1 p2:Pos} (hp:posC rs=[p0,p1,p2]):Fl (ctT rs) 7 309 (altsP (posC rs)):=by
 refine ⟨ctT_ok h,ctT_nz h hn,fun w=>?_⟩
 have hs:=posC_sz h
 rw [hp] at hs
 let bs:List (Bool × Bool × Bool):=[(false,false,true),(false,true,false),(false,true,true),(true,false,false),(true,false,true),(true,true,false),(true,true,true)]
 let f:Bool × Bool × Bool→List Pos:=fun m=>pk m.1 p0++pk m.2.1 p1++pk m.2.2 p2
 have this:=flat_of h w (bs.map f) (fun S hS=>by
   obtain ⟨m,hm,rfl⟩:=List.mem_map.1 hS
   refine ⟨?_,fun q hq=>?_⟩
   ·intro e
    have k:∀ q,q ∉ f m:=by rw [e];simp
    simp only [f,List.mem_append,mem_pk] at k
    simp only [bs,List.mem_cons,List.not_mem_nil,or_false] at hm
    rcases hm with rfl | rfl | rfl | rfl | rfl | rfl | rfl
    ·exact k p2 (Or.inr ⟨rfl,rfl⟩)
    ·exact k p1 (Or.inl (Or.inr ⟨rfl,rfl⟩))
    ·exact k p2 (Or.inr ⟨rfl,rfl⟩)
    ·exact k p0 (Or.inl (Or.inl ⟨rfl,rfl⟩))
    ·exact k p2 (Or.inr ⟨rfl,rfl⟩)
    ·exact k p1 (Or.inl (Or.inr ⟨rfl,rfl⟩))
    ·exact k p2 (Or.inr ⟨rfl,rfl⟩)
   ·rw [hp]
    simp only [f,List.mem_append,mem_pk] at hq
    rcases hq with (⟨_,rfl⟩ | ⟨_,rfl⟩) | ⟨_,rfl⟩ <;> simp)
  (fun q hq=>by
   rw [hp] at hq
   simp at hq
   rcases hq with rfl | rfl | rfl
   ·exact List.mem_map.2 ⟨(true,false,false),by simp [bs],rfl⟩
   ·exact List.mem_map.2 ⟨(false,true,false),by simp [bs],rfl⟩
   ·exact List.mem_map.2 ⟨(false,false,true),by simp [bs],rfl⟩)
  (fun v n1 n2=>by
   rw [hp]
   by_cases k:p0.1 v∨p1.1 v∨p2.1 v
   ·right
    refine ⟨_,List.mem_map.2 ⟨(decide (p0.1 v),decide (p1.1 v),decide (p2.1 v)),?_,rfl⟩,fun q=>?_⟩
    ·by_cases k0:p0.1 v <;> by_cases k1:p1.1 v <;> by_cases k2:p2.1 v <;> simp [bs,k0,k1,k2]
     rcases k with k | k | k
     ·exact k0 k
     ·exact k1 k
     ·exact k2 k
    ·simp only [f,List.mem_append,mem_pk,decide_eq_true_eq]
     constructor
     ·rintro ((⟨k,rfl⟩ | ⟨k,rfl⟩) | ⟨k,rfl⟩) <;> exact ⟨by simp,k⟩
     ·rintro ⟨hq,kq⟩
      simp at hq
      rcases hq with rfl | rfl | rfl
      ·exact Or.inl (Or.inl ⟨kq,rfl⟩)
      ·exact Or.inl (Or.inr ⟨kq,rfl⟩)
      ·exact Or.inr ⟨kq,rfl⟩
   ·left
    intro q hq kq
    simp at hq
    rcases hq with rfl | rfl | rfl
    ·exact k (Or.inl kq)
    ·exact k (Or.inr (Or.inl kq))
    ·exact k (Or.inr (Or.inr kq)))
 refine ⟨_,this.1,this.2.1,this.2.2.1,by rw [this.2.2.2.1];simp [bs],?_⟩
 have h5:=this.2.2.2.2
 have h6:((bs.map f).map szP).sum+3 * (bs.map f).length=4 * szP [p0,p1,p2]+21:=by
  simp only [bs,f,List.map_cons,List.map_nil,List.sum_cons,List.sum_nil,szP_app,szP_pk,szP_cons,Bool.false_eq_true,if_false,if_true,show szP []=0 from rfl,List.length_cons,List.length_nil]
  omega
 simp only [List.length_cons,List.length_nil] at hs
 omega
theorem suf_cmp {v v' w:List Nat} (h:v <:+ w) (h':v' <:+ w):v <:+ v'∨v' <:+ v:=by
 rcases Nat.le_total v.length v'.length with k | k
 ·exact Or.inl (List.suffix_of_suffix_length_le h h' k)
 ·exact Or.inr (List.suffix_of_suffix_length_le h' h k)
theorem run_suf {x:Nat × Sg} {v v':List Nat} (h:run x v) (hs:v' <:+ v) (hn:v' ≠ []):run x v':=by
 obtain ⟨t,rfl⟩:=hs
 obtain ⟨h1,h2,h3⟩:=h
 refine ⟨hn,fun k hk=>h2 k (List.mem_append_right _ hk),h3.imp id fun h3=>?_⟩
 have:1≤v'.length:=List.length_pos_iff.2 hn
 rw [List.length_append] at h3;omega
theorem runs_in (x y:Nat × Sg) (w:List Nat):(∀ v,v ≠ []→v <:+ w→run x v→run y v)∨(∀ v,v ≠ []→v <:+ w→run y v→run x v):=by
 by_cases h:∀ v,v ≠ []→v <:+ w→run x v→run y v
 ·exact Or.inl h
 ·right
  intro v n1 n2 hy
  refine Classical.byContradiction fun hx=>h fun v' m1 m2 hx'=>?_
  rcases suf_cmp n2 m2 with k | k
  ·exact absurd (run_suf hx' k n1) hx
  ·exact run_suf hy k m1
theorem chain {x:Nat × Sg} {w v v':List Nat} (h:v <:+ w) (h':v' <:+ w) (hx:run x v) (hx':run x v') :
  (∀ p:Pos,(∃ u0 v0,v=u0++v0∧v0 ≠ []∧lx x u0∧p.1 v0)→∃ u0 v0,v'=u0++v0∧v0 ≠ []∧lx x u0∧p.1 v0)∨(∀ p:Pos,(∃ u0 v0,v'=u0++v0∧v0 ≠ []∧lx x u0∧p.1 v0)→∃ u0 v0,v=u0++v0∧v0 ≠ []∧lx x u0∧p.1 v0):=by
 have key:∀ {v v':List Nat},run x v'→v ≠ []→v <:+ v'→∀ p:Pos,(∃ u0 v0,v=u0++v0∧v0 ≠ []∧lx x u0∧p.1 v0)→∃ u0 v0,v'=u0++v0∧v0 ≠ []∧lx x u0∧p.1 v0:=by
  rintro v v' hx' hv ⟨t,rfl⟩ p ⟨u0,v0,rfl,n0,hl,hp⟩
  by_cases ht:t=[]
  ·subst ht;exact ⟨u0,v0,rfl,n0,hl,hp⟩
  ·refine ⟨t++u0,v0,by simp,n0,⟨fun k hk=>hx'.2.1 k (by simp at hk ⊢;rcases hk with hk | hk <;> simp [hk]),?_⟩,hp⟩
   have hr:x.2.runs=true:=by
    rcases hx'.2.2 with k | k
    ·exact k
    ·have h1:1≤t.length:=List.length_pos_iff.2 ht
     have h2:1≤(u0++v0).length:=List.length_pos_iff.2 hv
     rw [List.length_append] at k;omega
   have h2:=hl.2
   have h1:1≤t.length:=List.length_pos_iff.2 ht
   cases e:x.2 with
   | no=>rw [e] at hr;simp [Sg.runs] at hr
   | op=>rw [e] at hr;simp [Sg.runs] at hr
   | st=>trivial
   | pl=>show 1≤(t++u0).length;rw [List.length_append];omega
 rcases suf_cmp h h' with k | k
 ·exact Or.inl (key hx' hx.1 k)
 ·exact Or.inr (key hx hx'.1 k)
def Mk (k:Nat):Nat:=if k=1 then 1 else if k=2 then 3 else if k=3 then 7 else 13
def Uk (k:Nat):Nat:=if k=1 then 11 else if k=2 then 73 else if k=3 then 309 else 1069
open Classical in
theorem flat {rs:List (List (Nat × Sg))} (h:lowC rs) (hn:rs ≠ []) (hk:(posC rs).length≤4):Fl (ctT rs) (Mk (posC rs).length) (Uk (posC rs).length) (altsP (posC rs)):=by
 generalize hF:altsP (posC rs)=F
 match hp:posC rs,hk with
 | [],_ =>
  exfalso
  cases rs with
  | nil=>exact hn rfl
  | cons r rs =>
   have e:posC (r :: rs)=posR r++posC rs:=by simp [posC]
   have h1:=congrArg List.length hp
   rw [e,List.length_append,posR_len] at h1
   have:=List.length_pos_iff.2 (h r (List.mem_cons_self ..)).2
   rw [List.length_nil] at h1;omega
 | [p],_=>rw [← hF];exact flat1 h hn hp
 | [p0,p1],_=>rw [← hF];exact flat2 h hn hp
 | [p0,p1,p2],_=>rw [← hF];exact flat3 h hn hp
 | [p0,p1,p2,p3],_ =>
  show Fl (ctT rs) 13 1069 F
  rw [← hF]
  refine flat4 h hn hp fun w=>?_
  have other:∀ (x y:Nat × Sg) (rest:List (List (Nat × Sg))) (xs ys:List (Nat × Sg)),rs=(x :: xs) :: (y :: ys) :: rest→p0.1=run x∧((p1.1=run y∧xs.length=0)∨(p2.1=run y∧xs.length=1)∨(p3.1=run y∧xs.length=2)):=by
   intro x y rest xs ys e
   have e2:posC rs=posR (x :: xs)++(posR (y :: ys)++posC rest):=by rw [e];simp [posC]
   rw [e2] at hp
   match xs,hp with
   | [],hp=>simp [posR] at hp;exact ⟨by rw [← hp.1],Or.inl ⟨by rw [← hp.2.1],rfl⟩⟩
   | [_],hp=>simp [posR] at hp;exact ⟨by rw [← hp.1],Or.inr (Or.inl ⟨by rw [← hp.2.2.1],rfl⟩)⟩
   | [_,_],hp=>simp [posR] at hp;exact ⟨by rw [← hp.1],Or.inr (Or.inr ⟨by rw [← hp.2.2.2.1],rfl⟩)⟩
   | _ :: _ :: _ :: xs,hp=>have:=congrArg List.length hp;simp [posR,posR_len] at this
  cases rs with
  | nil=>exact absurd rfl hn
  | cons r rs =>
  cases r with
  | nil=>exact absurd rfl (h _ (List.mem_cons_self ..)).2
  | cons x xs =>
  cases rs with
  | nil =>
   -- one row
   have e2:posC [x :: xs]=posR (x :: xs):=by simp [posC]
   rw [e2] at hp
   obtain ⟨q1,q2,q3,hq⟩:∃ q1 q2 q3:Pos,posR xs=[q1,q2,q3]:=by
    have h1:=congrArg List.length hp
    rw [posR_len] at h1
    simp at h1
    match hx:posR xs,(posR_len xs).trans h1 with
    | [q1,q2,q3],_=>exact ⟨q1,q2,q3,rfl⟩
   simp only [posR,hq,List.map_cons,List.map_nil,List.cons.injEq,and_true] at hp
   obtain ⟨e0,e1,e2,e3⟩:=hp
   have cmp:∀ v v',v <:+ w→v' <:+ w→p0.1 v→p0.1 v'→(∀ p ∈ [p1,p2,p3],p.1 v→p.1 v')∨(∀ p ∈ [p1,p2,p3],p.1 v'→p.1 v):=by
    intro v v' s s' h0 h0'
    rw [← e0] at h0 h0'
    rcases chain s s' h0 h0' with k | k
    ·left
     intro p hp
     simp at hp
     rcases hp with rfl | rfl | rfl
     ·rw [← e1];exact k q1
     ·rw [← e2];exact k q2
     ·rw [← e3];exact k q3
    ·right
     intro p hp
     simp at hp
     rcases hp with rfl | rfl | rfl
     ·rw [← e1];exact k q1
     ·rw [← e2];exact k q2
     ·rw [← e3];exact k q3
   have two:∀ v v',v <:+ w→v' <:+ w→(decide (p0.1 v),decide (p1.1 v),decide (p2.1 v),decide (p3.1 v))=(true,true,false,false)→(decide (p0.1 v'),decide (p1.1 v'),decide (p2.1 v'),decide (p3.1 v')) ≠ (true,false,true,false)∧(decide (p0.1 v'),decide (p1.1 v'),decide (p2.1 v'),decide (p3.1 v')) ≠ (true,false,false,true):=by
    intro v v' s s' hv
    simp only [Prod.mk.injEq,decide_eq_true_eq,decide_eq_false_iff_not] at hv
    constructor
    ·intro hv'
     simp only [Prod.mk.injEq,decide_eq_true_eq,decide_eq_false_iff_not] at hv'
     rcases cmp v v' s s' hv.1 hv'.1 with k | k
     ·exact hv'.2.1 (k p1 (by simp) hv.2.1)
     ·exact hv.2.2.1 (k p2 (by simp) hv'.2.2.1)
    ·intro hv'
     simp only [Prod.mk.injEq,decide_eq_true_eq,decide_eq_false_iff_not] at hv'
     rcases cmp v v' s s' hv.1 hv'.1 with k | k
     ·exact hv'.2.1 (k p1 (by simp) hv.2.1)
     ·exact hv.2.2.2 (k p3 (by simp) hv'.2.2.2)
   have two':∀ v v',v <:+ w→v' <:+ w→(decide (p0.1 v),decide (p1.1 v),decide (p2.1 v),decide (p3.1 v))=(true,false,true,false)→(decide (p0.1 v'),decide (p1.1 v'),decide (p2.1 v'),decide (p3.1 v')) ≠ (true,false,false,true):=by
    intro v v' s s' hv hv'
    simp only [Prod.mk.injEq,decide_eq_true_eq,decide_eq_false_iff_not] at hv hv'
    rcases cmp v v' s s' hv.1 hv'.1 with k | k
    ·exact hv'.2.2.1 (k p2 (by simp) hv.2.2.1)
    ·exact hv.2.2.2 (k p3 (by simp) hv'.2.2.2)
   by_cases c1:∃ v,v ≠ []∧v <:+ w∧(decide (p0.1 v),decide (p1.1 v),decide (p2.1 v),decide (p3.1 v))=(true,true,false,false)
   ·obtain ⟨v,n1,n2,hv⟩:=c1
    exact ⟨(true,false,true,false),by simp [m6],(true,false,false,true),by simp [m6],by simp,fun v' m1 m2=>two v v' n2 m2 hv⟩
   ·by_cases c2:∃ v,v ≠ []∧v <:+ w∧(decide (p0.1 v),decide (p1.1 v),decide (p2.1 v),decide (p3.1 v))=(true,false,true,false)
    ·obtain ⟨v,n1,n2,hv⟩:=c2
     exact ⟨(true,true,false,false),by simp [m6],(true,false,false,true),by simp [m6],by simp,fun v' m1 m2=>⟨fun e=>c1 ⟨v',m1,m2,e⟩,two' v v' n2 m2 hv⟩⟩
    ·exact ⟨(true,true,false,false),by simp [m6],(true,false,true,false),by simp [m6],by simp,fun v' m1 m2=>⟨fun e=>c1 ⟨v',m1,m2,e⟩,fun e=>c2 ⟨v',m1,m2,e⟩⟩⟩
  | cons r2 rest =>
  cases r2 with
  | nil=>exact absurd rfl (h _ (List.mem_cons_of_mem _ (List.mem_cons_self ..))).2
  | cons y ys =>
   obtain ⟨e0,ey⟩:=other x y rest xs ys rfl
   rcases runs_in x y w with k | k <;> rcases ey with ⟨ey,_⟩ | ⟨ey,_⟩ | ⟨ey,_⟩
   ·refine ⟨(true,false,true,false),by simp [m6],(true,false,false,true),by simp [m6],by simp,fun v m1 m2=>⟨fun e=>?_,fun e=>?_⟩⟩ <;> (simp only [Prod.mk.injEq,decide_eq_true_eq,decide_eq_false_iff_not] at e;exact e.2.1 (by rw [ey];exact k v m1 m2 (by rw [← e0];exact e.1)))
   ·refine ⟨(true,true,false,false),by simp [m6],(true,false,false,true),by simp [m6],by simp,fun v m1 m2=>⟨fun e=>?_,fun e=>?_⟩⟩ <;> (simp only [Prod.mk.injEq,decide_eq_true_eq,decide_eq_false_iff_not] at e;exact e.2.2.1 (by rw [ey];exact k v m1 m2 (by rw [← e0];exact e.1)))
   ·refine ⟨(true,true,false,false),by simp [m6],(true,false,true,false),by simp [m6],by simp,fun v m1 m2=>⟨fun e=>?_,fun e=>?_⟩⟩ <;> (simp only [Prod.mk.injEq,decide_eq_true_eq,decide_eq_false_iff_not] at e;exact e.2.2.2 (by rw [ey];exact k v m1 m2 (by rw [← e0];exact e.1)))
   ·refine ⟨(false,true,true,false),by simp [m6],(false,true,false,true),by simp [m6],by simp,fun v m1 m2=>⟨fun e=>?_,fun e=>?_⟩⟩ <;> (simp only [Prod.mk.injEq,decide_eq_true_eq,decide_eq_false_iff_not] at e;exact e.1 (by rw [e0];exact k v m1 m2 (by rw [← ey];exact e.2.1)))
   ·refine ⟨(false,true,true,false),by simp [m6],(false,false,true,true),by simp [m6],by simp,fun v m1 m2=>⟨fun e=>?_,fun e=>?_⟩⟩ <;> (simp only [Prod.mk.injEq,decide_eq_true_eq,decide_eq_false_iff_not] at e;exact e.1 (by rw [e0];exact k v m1 m2 (by rw [← ey];exact e.2.2.1)))
   ·refine ⟨(false,true,false,true),by simp [m6],(false,false,true,true),by simp [m6],by simp,fun v m1 m2=>⟨fun e=>?_,fun e=>?_⟩⟩ <;> (simp only [Prod.mk.injEq,decide_eq_true_eq,decide_eq_false_iff_not] at e;exact e.1 (by rw [e0];exact k v m1 m2 (by rw [← ey];exact e.2.2.2)))
 | _ :: _ :: _ :: _ :: _ :: _,hk=>simp at hk
end Tr
end Go.Proofs.YtodagkkjfipbgaaGreatDoor
