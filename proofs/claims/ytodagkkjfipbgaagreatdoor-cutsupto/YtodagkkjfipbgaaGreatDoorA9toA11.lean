import Derived.Test.YtodagkkjfipbgaaGreatDoorA7toA8
namespace Go.Proofs.YtodagkkjfipbgaaGreatDoor
open Go
namespace Tr
theorem suf_cons {v:List Nat} {k:Nat} {w:List Nat} (h:v <:+ k :: w):v=k :: w∨v <:+ w:=List.suffix_cons_iff.1 h
def sumTo (f:Nat→Nat):Nat→Nat
 | 0=>0
 | n+1=>f (n+1)+sumTo f n
theorem wholes {t:Tr} (ht:t.ok) (f:Nat→Nat) (w:List Nat) (h:∀ v,v ≠ []→v <:+ w→(t.der v).wt≤f v.length):∃ X,(∀ g ∈ X,g.ok∧g.isZ=false)∧(Who t w X∧∀ g ∈ X,∃ v,v <:+ w∧g=t.der v)∧X.length≤w.length∧sz X≤sumTo (fun i=>f i+1) w.length:=by
 induction w with
 | nil=>exact ⟨[],by simp,⟨fun v h1 h2=>absurd (List.suffix_nil.1 h2) h1,by simp⟩,by simp,by simp [sz]⟩
 | cons k w ih =>
  obtain ⟨X,h1,⟨h2,h2'⟩,h3,h4⟩:=ih (fun v n1 n2=>h v n1 (n2.trans (List.suffix_cons ..)))
  have h2s:∀ g ∈ X,∃ v,v <:+ k :: w∧g=t.der v:=fun g hg=>by obtain ⟨v,n,e⟩:=h2' g hg;exact ⟨v,n.trans (List.suffix_cons ..),e⟩
  have hw:=h (k :: w) (by simp) (List.suffix_refl _)
  by_cases hz:(t.der (k :: w)).isZ=true
  ·refine ⟨X,h1,⟨?_,h2s⟩,by simp;omega,?_⟩
   ·intro v n1 n2
    rcases suf_cons n2 with rfl | n2
    ·exact Or.inl (isZ_eq hz)
    ·exact h2 v n1 n2
   ·simp only [List.length_cons,sumTo];omega
  ·have h2t:∀ g ∈ t.der (k :: w) :: X,∃ v,v <:+ k :: w∧g=t.der v:=by
    intro g hg
    rcases List.mem_cons.1 hg with rfl | hg
    ·exact ⟨_,List.suffix_refl _,rfl⟩
    ·exact h2s g hg
   refine ⟨t.der (k :: w) :: X,?_,⟨?_,h2t⟩,by simp;omega,?_⟩
   ·intro g hg
    rcases List.mem_cons.1 hg with rfl | hg
    ·exact ⟨der_ok ht _,by simpa using hz⟩
    ·exact h1 g hg
   ·intro v n1 n2
    rcases suf_cons n2 with rfl | n2
    ·exact Or.inr (List.mem_cons_self ..)
    ·exact (h2 v n1 n2).imp id (List.mem_cons_of_mem _)
   ·simp only [List.length_cons,sumTo,sz_cons]
    simp only [List.length_cons] at hw
    omega
theorem sub_whole {t:Tr} {w:List Nat} {V V':List Tr} (h:Who t w V) (hs:∀ x ∈ V,x ∈ V'):Who t w V':=fun v h1 h2=>(h v h1 h2).imp id (hs _)
theorem der_opt {t:Tr} (ht:t.ok) {v:List Nat} (h:v ≠ []):(either t .e).der v=t.der v:=by
 have ho:=either_ok ht (y:=.e) trivial
 refine ext (der_ok ho.1 v) (der_ok ht v) fun u=>?_
 rw [der_either ht (y:=.e) trivial,der_e h];simp [alts]
theorem row_isS {x y:Tr} (hx:x.ok) (hy:y.ok) (x1:x.isZ=false) (x2:x.isE=false) (y1:y.isZ=false) (y2:y.isE=false):(row x y).isS=true:=by
 cases h:x.isS with
 | false=>rw [row_o y1 y2 x1 x2 h];rfl
 | true =>
  obtain ⟨p,q,rfl⟩:=isS_eq h
  rw [row_s y1 y2]
  have hb:=row_ok hx.2.1 hy
  have hb2:=hb.2 hx.2.2.2.2.2.1 y1
  rw [row_o hb2.1 (hb2.2 y2) hx.2.2.1 hx.2.2.2.1 hx.2.2.2.2.1];rfl
theorem isS_one {x:Tr} (h:x.isS=true):x.one:=by obtain ⟨p,q,rfl⟩:=isS_eq h;exact one_s
def Fc (t:Tr) (w:List Nat) (F:List Tr):Prop:=∀ v,v ≠ []→v <:+ w→∀ u ∈ (t.der v).alts,u ∈ F
def ni (t:Tr):Nat:=(t.alts.filter fun u=>!u.isE).length
theorem ni_either {x y:Tr} (hx:x.ok) (hy:y.ok):ni (either x y)≤ni x+ni y:=by
 have ho:=either_ok hx hy
 have:=len_le (l:=(either x y).alts.filter fun u=>!u.isE) (l':=(x.alts.filter fun u=>!u.isE)++(y.alts.filter fun u=>!u.isE)) (ho.1.srt.nodup.filter _) (fun u hu=>by
  obtain ⟨h1,h2⟩:=List.mem_filter.1 hu
  rcases (ho.2 u).1 h1 with k | k
  ·exact List.mem_append_left _ (List.mem_filter.2 ⟨k,h2⟩)
  ·exact List.mem_append_right _ (List.mem_filter.2 ⟨k,h2⟩))
 rw [List.length_append] at this;exact this
theorem ni_one {t:Tr} (h:t.one):ni t≤1:=by
 unfold ni;rw [alts_one h];exact Nat.le_trans (List.length_filter_le ..) (by simp)
theorem alts_ni {t:Tr} (h:t.ok):t.alts.length≤ni t+1:=by
 have:=len_le (l:=t.alts) (l':=(t.alts.filter fun u=>!u.isE)++[.e]) h.srt.nodup (fun u hu=>by
  by_cases he:u.isE=true
  ·rw [isE_eq he];exact List.mem_append_right _ (by simp)
  ·exact List.mem_append_left _ (List.mem_filter.2 ⟨hu,by simpa using he⟩))
 rw [List.length_append] at this;exact this
theorem ni_sg {t:Tr} (ht:t.ok) (hz:t.isZ=false) (he:t.isE=false) (s:Sg) {k:Nat} (hk:1≤k) (h:ni t≤k):ni (sg s t)≤k:=by
 have hm:(many t).one:=by cases t <;> first | exact ⟨rfl,rfl⟩ | (simp [isZ] at hz;done)
 cases s with
 | no=>exact h
 | st=>exact Nat.le_trans (ni_one hm) hk
 | pl =>
  have h1:=many_ok ht
  have hme:(many t).isE=false:=by cases t <;> first | rfl | (simp [isZ] at hz;done) | (simp [isE] at he;done)
  exact Nat.le_trans (ni_one (isS_one (row_isS ht h1.1 hz he h1.2 hme))) hk
 | op =>
  have:=ni_either ht (y:=.e) trivial
  have e:ni .e=0:=rfl
  show ni (either t .e)≤k
  omega
theorem hc_either {x y:Tr} (hx:x.ok) (hy:y.ok) (h1:x.hc) (h2:y.hc) {k:Nat} (hk:ni (either x y)≤k) (hk4:k≤10):(either x y).hc:=by
 have ho:=either_ok hx hy
 refine hc_of (fun u hu=>?_) (by have:=alts_ni ho.1;omega)
 rcases (ho.2 u).1 hu with k | k
 ·exact h1.alts u k
 ·exact h2.alts u k
theorem hc_many {t:Tr} (h:t.hc):(many t).hc:=by cases t <;> first | trivial | exact h
theorem hc_sg {t:Tr} (ht:t.ok) (hz:t.isZ=false) (he:t.isE=false) (s:Sg) {k:Nat} (hk:1≤k) (hk4:k≤10) (h:ni t≤k) (hh:t.hc):(sg s t).hc:=by
 cases s with
 | no=>exact hh
 | st=>exact hc_many hh
 | pl=>exact hc_row hh (hc_many hh)
 | op=>exact hc_either ht (y:=.e) trivial hh trivial (ni_sg ht hz he .op hk h) hk4
theorem fc_kov {t:Tr} (ht:t.ok) {w:List Nat} {V:List Tr} (h:Kov t w V) (h1:∀ g ∈ V,g.one):Fc t w V:=by
 intro v n1 n2 u hu
 obtain ⟨g,hg,hu⟩:=List.mem_flatMap.1 (h.flat ht n1 n2 u hu)
 rw [alts_one (h1 g hg)] at hu
 simp at hu;subst hu;exact hg
theorem fc_opt {t:Tr} (ht:t.ok) {w:List Nat} {F:List Tr} (h:Fc t w F):Fc (sg .op t) w F:=by
 intro v n1 n2 u hu
 have e:(sg .op t).der v=t.der v:=der_opt ht n1
 rw [e] at hu;exact h v n1 n2 u hu
theorem fc_row {t t':Tr} (h:t.ok) (hz:t'.isZ=false) (he:t'.isE=false) (h':t'.ok) (hh':t'.hc) {w:List Nat} {V F:List Tr} (v1:∀ g ∈ V,g.ok∧g.isZ=false∧g.hc) (v2:Kov t w V) (a1:Fc t' w F) :
  ∃ G:List Tr,Fc (row t t') w (G++F)∧(∀ g ∈ G,g.ok∧g.one∧g.hc)∧sz G≤sz V+V.length * (t'.wt+2)+(t'.wt+1)∧((∃ g ∈ V,g.isE=true)→G.length+1≤V.length+t'.alts.length)∧((∀ g ∈ V,g.isE=false)→G.length≤V.length):=by
 have ho:=row_ok h h'
 have hw2:=(wt_alts h').2
 have hmap:=sz_map (V.filter fun g=>!g.isE) t'
 have hfl:sz (V.filter fun g=>!g.isE)≤sz V:=by
  clear hmap v2 v1
  induction V with
  | nil=>simp [sz]
  | cons g V ih=>rw [List.filter_cons];split <;> simp only [sz_cons] <;> omega
 have hfn:(V.filter fun g=>!g.isE).length≤V.length:=List.length_filter_le ..
 have hmul:(V.filter fun g=>!g.isE).length * (t'.wt+2)≤V.length * (t'.wt+2):=Nat.mul_le_mul_right _ hfn
 have hok:∀ g ∈ (V.filter fun g=>!g.isE).map (fun g=>Tr.row g t'),g.ok∧g.one∧g.hc:=by
  intro g hg
  obtain ⟨x,hx,rfl⟩:=List.mem_map.1 hg
  obtain ⟨x1,x2⟩:=List.mem_filter.1 hx
  exact ⟨(row_ok (v1 x x1).1 h').1,isS_one (row_isS (v1 x x1).1 h' (v1 x x1).2.1 (by simpa using x2) hz he),hc_row (v1 x x1).2.2 hh'⟩
 have hin:∀ g ∈ V,g.isE=false→∀ u ∈ (Tr.row g t').alts,u ∈ (V.filter fun g=>!g.isE).map (fun g=>Tr.row g t'):=by
  intro g hg he' u hu
  rw [alts_one (isS_one (row_isS (v1 g hg).1 h' (v1 g hg).2.1 he' hz he))] at hu
  simp at hu;subst hu
  exact List.mem_map.2 ⟨g,List.mem_filter.2 ⟨hg,by simp [he']⟩,rfl⟩
 have hfc:∀ G:List Tr,(∀ g ∈ V,∀ u ∈ (Tr.row g t').alts,u ∈ G)→Fc (row t t') w (G++F):=by
  intro G g1 v n1 n2 u hu
  obtain ⟨g,hg,hu⟩:=(pcs_alts ho.1 v u).1 hu
  rcases pcs_row h h' v g hg with rfl | ⟨g',hg',rfl⟩ | ⟨v',m1,m2,hv⟩
  ·simp [alts] at hu
  ·rcases v2 v n1 n2 g' hg' with rfl | hm
   ·simp [Tr.row,alts] at hu
   ·exact List.mem_append_left _ (g1 g' hm u hu)
  ·exact List.mem_append_right _ (a1 v' m1 (m2.trans n2) u ((pcs_alts h' v' u).2 ⟨g,hv,hu⟩))
 by_cases hE:∃ g ∈ V,g.isE=true
 ·obtain ⟨e0,he0,he1⟩:=hE
  refine ⟨(V.filter fun g=>!g.isE).map (fun g=>Tr.row g t')++t'.alts,hfc _ ?_,?_,?_,?_,?_⟩
  ·intro g hg u hu
   by_cases he':g.isE=true
   ·rw [isE_eq he'] at hu;exact List.mem_append_right _ hu
   ·exact List.mem_append_left _ (hin g hg (by simpa using he') u hu)
  ·intro g hg
   rcases List.mem_append.1 hg with k | k
   ·exact hok g k
   ·exact ⟨(h'.srt.2 g k).1,(h'.srt.2 g k).2,hh'.alts g k⟩
  ·rw [sz_app];omega
  ·intro _
   have:(V.filter fun g=>!g.isE).length+1≤V.length:=by
    obtain ⟨a,b,rfl⟩:=List.append_of_mem he0
    rw [List.filter_append,List.filter_cons,if_neg (by simp [he1])]
    have:=List.length_filter_le (fun g:Tr=>!g.isE) a
    have:=List.length_filter_le (fun g:Tr=>!g.isE) b
    simp only [List.length_append,List.length_cons];omega
   rw [List.length_append,List.length_map];omega
  ·intro k;rw [k e0 he0] at he1;cases he1
 ·refine ⟨(V.filter fun g=>!g.isE).map (fun g=>Tr.row g t'),hfc _ ?_,hok,by omega,fun k=>absurd k hE,?_⟩
  ·intro g hg u hu
   refine hin g hg ?_ u hu
   cases hx:g.isE with
   | false=>rfl
   | true=>exact absurd ⟨g,hg,hx⟩ hE
  ·intro _;rw [List.length_map];omega
theorem many_or {t:Tr} (ht:t.ok):(∃ p,t=.m p)∨t=.e∨t=.z∨(many t=.m t∧(Tr.m t).ok):=by
 cases t with
 | z=>exact Or.inr (Or.inr (Or.inl rfl))
 | e=>exact Or.inr (Or.inl rfl)
 | m p=>exact Or.inl ⟨p,rfl⟩
 | _=>exact Or.inr (Or.inr (Or.inr ⟨rfl,ht,rfl,rfl,rfl⟩))
theorem kov_sg {t:Tr} (ht:t.ok) (s:Sg) (hM:t.isM=false∨s=.op) {w:List Nat} {V:List Tr} (hV:∀ g ∈ V,g.ok∧g.isZ=false∧g.hc) (hh:t.hc) (h:Kov t w V) (hw:Who t w V):∃ V',(∀ g ∈ V',g.ok∧g.isZ=false∧g.hc)∧Kov (sg s t) w V'∧(s=.st∨s=.pl→∀ g ∈ V',g.one)∧V'.length≤V.length∧sz V'≤sz V+V.length * (t.wt+4):=by
 have hmap:(Tr.m t).ok→∀ g ∈ V.map (fun g=>row g (.m t)),(g.ok∧g.isZ=false∧g.hc)∧g.one:=by
  intro hm g hg
  obtain ⟨x,hx,rfl⟩:=List.mem_map.1 hg
  have:=row_ok (hV x hx).1 hm
  refine ⟨⟨this.1,(this.2 (hV x hx).2.1 rfl).1,hc_row (hV x hx).2.2 hh⟩,?_⟩
  by_cases hxe:x.isE=true
  ·rw [isE_eq hxe];exact ⟨rfl,rfl⟩
  ·exact isS_one (row_isS (hV x hx).1 hm (hV x hx).2.1 (by simpa using hxe) rfl rfl)
 cases s with
 | no=>exact ⟨V,hV,h,by simp,by omega,Nat.le_add_right ..⟩
 | op =>
  refine ⟨V,hV,?_,by simp,by omega,Nat.le_add_right ..⟩
  refine h.either ht (y:=.e) trivial ?_ ?_
  ·intro v h1 _ g hg;exact Or.inl (pcs_e v h1 g hg)
  ·intro v h1 h2;rw [der_opt ht h1];exact hw v h1 h2
 | st =>
  rcases many_or ht with ⟨p,rfl⟩ | rfl | rfl | ⟨e,hm⟩
  ·simp [isM] at hM
  ·exact ⟨[],by simp,fun v h1 _ g hg=>Or.inl (pcs_e v h1 g hg),by simp,by simp,by simp [sz]⟩
  ·exact ⟨[],by simp,fun v h1 _ g hg=>Or.inl (pcs_e v h1 g hg),by simp,by simp,by simp [sz]⟩
  ·refine ⟨V.map fun g=>row g (.m t),fun g hg=>(hmap hm g hg).1,?_,fun _ g hg=>(hmap hm g hg).2,by simp,?_⟩
   ·show Kov (many t) w _
    rw [e];exact h.m hm hw
   ·have:=sz_map V (.m t)
    rw [wt_m] at this;exact this
 | pl =>
  rcases many_or ht with ⟨p,rfl⟩ | rfl | rfl | ⟨e,hm⟩
  ·simp [isM] at hM
  ·exact ⟨[],by simp,fun v h1 _ g hg=>Or.inl (pcs_e v h1 g hg),by simp,by simp,by simp [sz]⟩
  ·exact ⟨[],by simp,fun v h1 _ g hg=>Or.inl (pcs_z v g hg),by simp,by simp,by simp [sz]⟩
  ·refine ⟨V.map fun g=>row g (.m t),fun g hg=>(hmap hm g hg).1,?_,fun _ g hg=>(hmap hm g hg).2,by simp,?_⟩
   ·show Kov (row t (many t)) w _
    rw [e]
    refine (h.row ht hm (h.m hm hw)).sub ?_
    intro x hx
    rcases List.mem_append.1 hx with k | k <;> exact k
   ·have:=sz_map V (.m t)
    rw [wt_m] at this;exact this
theorem kov_sgm {p:Tr} (ht:(Tr.m p).ok) (s:Sg) (hs:s ≠ .op) {w:List Nat} {V:List Tr} (hV:∀ g ∈ V,g.ok∧g.one∧g.hc) (hh:p.hc) (h:Kov (.m p) w V):∃ V',(∀ g ∈ V',g.ok∧g.one∧g.hc)∧Kov (sg s (.m p)) w V'∧V'.length≤2 * V.length∧sz V'≤2 * sz V+V.length * ((Tr.m p).wt+4):=by
 have le:sz V≤2 * sz V+V.length * ((Tr.m p).wt+4):=Nat.le_trans (by omega) (Nat.le_add_right ..)
 cases s with
 | no=>exact ⟨V,hV,h,by omega,le⟩
 | st=>exact ⟨V,hV,h,by omega,le⟩
 | op=>exact absurd rfl hs
 | pl =>
  refine ⟨V.map (fun g=>row g (.m p))++V,?_,h.row ht ht h,by simp;omega,?_⟩
  ·intro g hg
   rcases List.mem_append.1 hg with k | k
   ·obtain ⟨x,hx,rfl⟩:=List.mem_map.1 k
    have:=row_ok (hV x hx).1 ht
    refine ⟨this.1,?_,hc_row (hV x hx).2.2 hh⟩
    by_cases hxe:x.isE=true
    ·rw [isE_eq hxe];exact ⟨rfl,rfl⟩
    ·exact isS_one (row_isS (hV x hx).1 ht (hV x hx).2.1.2 (by simpa using hxe) rfl rfl)
   ·exact hV g k
  ·have:=sz_map V (.m p)
   rw [sz_app]
   have h2:V.length * ((Tr.m p).wt+2)≤V.length * ((Tr.m p).wt+4):=Nat.mul_le_mul_left _ (by omega)
   omega
theorem sg_ok {t:Tr} (ht:t.ok) (hz:t.isZ=false) (he:t.isE=false) (s:Sg):(sg s t).ok∧(sg s t).isZ=false∧(sg s t).isE=false∧(sg s t).wt≤2 * t.wt+5:=by
 have hp:=wt_pos t
 cases s with
 | no=>exact ⟨ht,hz,he,by show t.wt≤_;omega⟩
 | st =>
  have:=many_ok ht
  refine ⟨this.1,this.2,?_,?_⟩
  ·cases t <;> first | rfl | (simp [isZ] at hz;done) | (simp [isE] at he;done)
  ·show (many t).wt≤_
   cases t <;> simp only [many,wt_m,wt_e] <;> omega
 | pl =>
  have hm:=many_ok ht
  have h1:=row_ok ht hm.1
  have h2:=h1.2 hz hm.2
  have hme:(many t).isE=false:=by cases t <;> first | rfl | (simp [isZ] at hz;done) | (simp [isE] at he;done)
  refine ⟨h1.1,h2.1,h2.2 hme,?_⟩
  have:=wt_row t (many t)
  have hw:(many t).wt≤t.wt+2:=by cases t <;> simp only [many,wt_m,wt_e] <;> omega
  show (row t (many t)).wt≤_
  omega
 | op =>
  have ho:=either_ok ht (y:=.e) trivial
  obtain ⟨u,hu⟩:=alts_ne hz
  refine ⟨ho.1,isZ_alts ((ho.2 u).2 (Or.inl hu)),?_,?_⟩
  ·cases hx:(either t .e).isE with
   | false=>exact hx
   | true =>
    have e:=isE_eq hx
    have:∀ u ∈ t.alts,u=.e:=by
     intro u hu
     have:=(ho.2 u).2 (Or.inl hu)
     rw [e] at this;simpa [alts] using this
    have:=only (x:=.e) trivial ht ⟨rfl,rfl⟩ this hz
    rw [this] at he;simp [isE] at he
  ·have h1:=(wt_alts ho.1).1
   have h2:=(wt_alts ht).2
   have h3:=sz_le ho.1.srt.nodup (l':=t.alts++[.e]) (fun x hx=>by
    rcases (ho.2 x).1 hx with k | k
    ·exact List.mem_append_left _ k
    ·exact List.mem_append_right _ (by simpa [alts] using k))
   rw [sz_app] at h3
   have h4:sz [Tr.e]=2:=rfl
   show (either t .e).wt≤_
   omega
structure PK (b U:Nat→Nat→Nat) (W:Nat→Nat) (t:Tr) (k:Nat):Prop where
 ok:t.ok
 nz:t.isZ=false
 ne:t.isE=false
 wt:t.wt≤W k
 ni:ni t≤k
 hc:t.hc
 all:∀ w,w.length≤1048576→∃ V F,(∀ g ∈ V,g.ok∧g.isZ=false∧g.hc)∧Kov t w V∧V.length≤b k w.length∧sz V≤U k w.length∧Fc t w F∧(∀ g ∈ F,g.ok∧g.one∧g.hc)∧F.length≤b k w.length
structure CK (b U:Nat→Nat→Nat) (W:Nat→Nat) (t:Tr) (k:Nat):Prop where
 ok:t.ok
 nz:t.isZ=false
 ne:t.isE=false
 wt:t.wt≤W k
 ni:ni t≤k
 hc:t.hc
 fc:∀ w,w.length≤1048576→∃ F,Fc t w F∧(∀ g ∈ F,g.ok∧g.one∧g.hc)∧F.length≤b k w.length
 rows:∃ ts:List Tr,(∀ x ∈ ts,x.ok)∧(∀ v u,u ∈ (t.der v).alts↔∃ x ∈ ts,u ∈ (x.der v).alts)∧∀ w,w.length≤1048576→∃ V,(∀ g ∈ V,g.ok∧g.isZ=false∧g.hc)∧(∀ x ∈ ts,Kov x w V)∧V.length≤b k w.length∧sz V≤U k w.length
structure Sup (b U:Nat→Nat→Nat) (W:Nat→Nat):Prop where
 sb:∀ i j n,1≤i→1≤j→i+j≤4→n≤1048576→b i n+b j n+j≤b (i+j) n
 sU:∀ i j n,1≤i→1≤j→i+j≤4→n≤1048576→U i n+b i n * (W j+2)+U j n≤U (i+j) n
 sW:∀ i j,1≤i→1≤j→i+j≤4→W i+W j+4≤W (i+j)
 sN:∀ i n,1≤i→i≤4→n≤1048576→b i n≤10000000
theorem row_isE {x y:Tr} (hx:x.ok) (hy:y.ok) (h1:x.isZ=false) (h2:y.isZ=false) (h3:y.isE=false):(row x y).isE=false:=((row_ok hx hy).2 h1 h2).2 h3
theorem PK.row {b U:Nat→Nat→Nat} {W:Nat→Nat} (S:Sup b U W) {t t':Tr} {i j:Nat} (h:PK b U W t i) (h':PK b U W t' j) (hi:1≤i) (hj:1≤j) (hk:i+j≤4):PK b U W (row t t') (i+j):=by
 have ho:=row_ok h.ok h'.ok
 refine ⟨ho.1,(ho.2 h.nz h'.nz).1,(ho.2 h.nz h'.nz).2 h'.ne,?_,?_,hc_row h.hc h'.hc,?_⟩
 ·have:=wt_row t t';have:=S.sW i j hi hj hk;have:=h.wt;have:=h'.wt;omega
 ·exact Nat.le_trans (ni_one (isS_one (row_isS h.ok h'.ok h.nz h.ne h'.nz h'.ne))) (by omega)
 ·intro w hw
  obtain ⟨V,_,v1,v2,v3,v4,_,_,_⟩:=h.all w hw
  obtain ⟨V',F,u1,u2,u3,u4,u5,u6,u7⟩:=h'.all w hw
  obtain ⟨G,g1,g2,g3,g4,g5⟩:=fc_row h.ok h'.nz h'.ne h'.ok h'.hc v1 v2 u5
  have hsb:=S.sb i j w.length hi hj hk hw
  refine ⟨V.map (fun g=>Tr.row g t')++V',G++F,?_,v2.row h.ok h'.ok u2,?_,?_,g1,?_,?_⟩
  ·intro g hg
   rcases List.mem_append.1 hg with k | k
   ·obtain ⟨x,hx,rfl⟩:=List.mem_map.1 k
    have:=row_ok (v1 x hx).1 h'.ok
    exact ⟨this.1,(this.2 (v1 x hx).2.1 h'.nz).1,hc_row (v1 x hx).2.2 h'.hc⟩
   ·exact u1 g k
  ·rw [List.length_append,List.length_map];omega
  ·have h1:=sz_map V t'
   have h2:=S.sU i j w.length hi hj hk hw
   have h3:V.length * (t'.wt+2)≤b i w.length * (W j+2):=Nat.mul_le_mul v3 (by have:=h'.wt;omega)
   rw [sz_app];omega
  ·intro g hg
   rcases List.mem_append.1 hg with k | k
   ·exact g2 g k
   ·exact u6 g k
  ·rw [List.length_append]
   have hn:=alts_ni h'.ok
   have hn2:=h'.ni
   by_cases hE:∃ g ∈ V,g.isE=true
   ·have:=g4 hE;omega
   ·have:=g5 (fun g hg=>by cases hx:g.isE with
     | false=>rfl
     | true=>exact absurd ⟨g,hg,hx⟩ hE)
    omega
theorem PK.ck {b U:Nat→Nat→Nat} {W:Nat→Nat} {t:Tr} {k:Nat} (h:PK b U W t k):CK b U W t k:=by
 refine ⟨h.ok,h.nz,h.ne,h.wt,h.ni,h.hc,fun w hw=>?_,[t],by simp;exact h.ok,by simp,fun w hw=>?_⟩
 ·obtain ⟨V,F,_,_,_,_,f1,f2,f3⟩:=h.all w hw
  exact ⟨F,f1,f2,f3⟩
 ·obtain ⟨V,F,v1,v2,v3,v4,_⟩:=h.all w hw
  exact ⟨V,v1,by simp;exact v2,v3,v4⟩
theorem either_wt {x y:Tr} (hx:x.ok) (hy:y.ok):(either x y).wt≤x.wt+y.wt+4:=by
 have ho:=either_ok hx hy
 have h1:=(wt_alts ho.1).1
 have h2:=(wt_alts hx).2
 have h3:=(wt_alts hy).2
 have h4:=sz_le ho.1.srt.nodup (l':=x.alts++y.alts) (fun u hu=>List.mem_append.2 ((ho.2 u).1 hu))
 rw [sz_app] at h4
 omega
theorem either_ne {x y:Tr} (hx:x.ok) (hy:y.ok) (h1:x.isZ=false) (h2:x.isE=false):(either x y).isZ=false∧(either x y).isE=false:=by
 have ho:=either_ok hx hy
 obtain ⟨u,hu⟩:=alts_ne h1
 refine ⟨isZ_alts ((ho.2 u).2 (Or.inl hu)),?_⟩
 cases hx':(either x y).isE with
 | false=>rfl
 | true =>
  have e:=isE_eq hx'
  have:∀ u ∈ x.alts,u=.e:=by
   intro u hu
   have:=(ho.2 u).2 (Or.inl hu)
   rw [e] at this;simpa [alts] using this
  have:=only (x:=.e) trivial hx ⟨rfl,rfl⟩ this h1
  rw [this] at h2;simp [isE] at h2
theorem CK.either {b U:Nat→Nat→Nat} {W:Nat→Nat} (S:Sup b U W) {t t':Tr} {i j:Nat} (h:CK b U W t i) (h':CK b U W t' j) (hi:1≤i) (hj:1≤j) (hk:i+j≤4):CK b U W (either t t') (i+j):=by
 have ho:=either_ok h.ok h'.ok
 have hn:=either_ne h.ok h'.ok h.nz h.ne
 have hni:Tr.ni (Tr.either t t')≤i+j:=by have:=ni_either h.ok h'.ok;have:=h.ni;have:=h'.ni;omega
 obtain ⟨ts,a1,a2,a3⟩:=h.rows
 obtain ⟨ts',b1,b2,b3⟩:=h'.rows
 refine ⟨ho.1,hn.1,hn.2,?_,hni,hc_either h.ok h'.ok h.hc h'.hc hni (by omega),?_,ts++ts',?_,?_,?_⟩
 ·have:=either_wt h.ok h'.ok;have:=S.sW i j hi hj hk;have:=h.wt;have:=h'.wt;omega
 ·intro w hw
  obtain ⟨F,f1,f2,f3⟩:=h.fc w hw
  obtain ⟨F',g1,g2,g3⟩:=h'.fc w hw
  refine ⟨F++F',?_,?_,?_⟩
  ·intro v n1 n2 u hu
   rcases (der_either h.ok h'.ok v u).1 hu with k | k
   ·exact List.mem_append_left _ (f1 v n1 n2 u k)
   ·exact List.mem_append_right _ (g1 v n1 n2 u k)
  ·intro g hg;rcases List.mem_append.1 hg with k | k
   ·exact f2 g k
   ·exact g2 g k
  ·have:=S.sb i j w.length hi hj hk hw;rw [List.length_append];omega
 ·intro x hx;rcases List.mem_append.1 hx with k | k
  ·exact a1 x k
  ·exact b1 x k
 ·intro v u
  rw [der_either h.ok h'.ok,a2,b2]
  constructor
  ·rintro (⟨x,hx,hu⟩ | ⟨x,hx,hu⟩)
   ·exact ⟨x,List.mem_append_left _ hx,hu⟩
   ·exact ⟨x,List.mem_append_right _ hx,hu⟩
  ·rintro ⟨x,hx,hu⟩
   rcases List.mem_append.1 hx with k | k
   ·exact Or.inl ⟨x,k,hu⟩
   ·exact Or.inr ⟨x,k,hu⟩
 ·intro w hw
  obtain ⟨V,v1,v2,v3,v4⟩:=a3 w hw
  obtain ⟨V',u1,u2,u3,u4⟩:=b3 w hw
  refine ⟨V++V',?_,?_,?_,?_⟩
  ·intro g hg;rcases List.mem_append.1 hg with k | k
   ·exact v1 g k
   ·exact u1 g k
  ·intro x hx;rcases List.mem_append.1 hx with k | k
   ·exact (v2 x k).sub fun y hy=>List.mem_append_left _ hy
   ·exact (u2 x k).sub fun y hy=>List.mem_append_right _ hy
  ·have:=S.sb i j w.length hi hj hk hw;simp;omega
  ·have:=S.sU i j w.length hi hj hk hw;rw [sz_app]
   have:0≤b i w.length * (W j+2):=Nat.zero_le _
   omega
theorem CK.wt_der {b U:Nat→Nat→Nat} {W:Nat→Nat} {t:Tr} {k:Nat} (h:CK b U W t k) (w:List Nat) (hw:w.length≤1048576) (hn:w ≠ []):(t.der w).wt≤U k w.length+2:=by
 obtain ⟨ts,a1,a2,a3⟩:=h.rows
 obtain ⟨V,v1,v2,v3,v4⟩:=a3 w hw
 have h1:=(wt_alts (der_ok h.ok w)).1
 have h2:=sz_le (der_ok h.ok w).srt.nodup (l':=V.flatMap alts) (fun u hu=>by
  obtain ⟨x,hx,hu⟩:=(a2 w u).1 hu
  exact (v2 x hx).flat (a1 x hx) hn (List.suffix_refl _) u hu)
 have h3:=sz_flat V (fun g hg=>(v1 g hg).1)
 omega
theorem CK.hc_der {b U:Nat→Nat→Nat} {W:Nat→Nat} (S:Sup b U W) {t:Tr} {k:Nat} (h:CK b U W t k) (hk1:1≤k) (hk:k≤4) (w:List Nat) (hw:w.length≤1048576):(t.der w).hc:=by
 by_cases hn:w=[]
 ·subst hn;exact h.hc
 ·obtain ⟨F,f1,f2,f3⟩:=h.fc w hw
  exact hc_in (der_ok h.ok w) (fun x hx=>(f2 x hx).2.2) (Nat.le_trans f3 (S.sN k w.length hk1 hk hw)) (f1 w hn (List.suffix_refl _))
theorem star_in {p:Tr} {ts:List Tr} (ht:(Tr.m p).ok) (a1:∀ x ∈ ts,x.ok) (a2:∀ v u,u ∈ ((Tr.m p).der v).alts↔∃ x ∈ ts,u ∈ (x.der v).alts):Tr.m p ∈ ts:=by
 obtain ⟨x,hx,hu⟩:=(a2 [] (.m p)).1 (by simp [der,alts])
 have:x=.m p:=only ht (a1 x hx) ⟨rfl,rfl⟩ (fun u hu=>by have:=(a2 [] u).2 ⟨x,hx,hu⟩;simpa [der,alts] using this) (isZ_alts hu)
 rw [← this];exact hx
theorem m_one {p:Tr} (h:(Tr.m p).ok) {w:List Nat} {V:List Tr} (hk:Kov (.m p) w V):Kov (.m p) w (V.filter fun g=>!g.isA):=by
 intro v n1 n2 g hg
 rcases hk v n1 n2 g hg with e | hm
 ·exact Or.inl e
 ·rcases pcs_m h v n1 g hg with e | ⟨v',g',m1,m2,hv,e⟩
  ·exact Or.inl e
  ·right
   refine List.mem_filter.2 ⟨hm,?_⟩
   have hgo:g'.ok:=by rcases hv with rfl | hv
                      ·exact der_ok h.1 v'
                      ·exact pcs_ok h.1 v' g' hv
   rw [e]
   by_cases hz:g'.isZ=true
   ·rw [isZ_eq hz];rfl
   ·by_cases hxe:g'.isE=true
    ·rw [isE_eq hxe];rfl
    ·have:=(isS_one (row_isS hgo h (by simpa using hz) (by simpa using hxe) rfl rfl)).1
     rw [this];rfl
theorem CK.sg {b U b' U':Nat→Nat→Nat} {W W':Nat→Nat} (S:Sup b U W) {t:Tr} {k:Nat} (h:CK b U W t k) (hk1:1≤k) (hk4:k≤4) (hb:∀ n,n≤1048576→n+b k n≤b' k n∧2 * b k n≤b' k n)
  (hU:∀ n,n≤1048576→sumTo (fun i=>U k i+3) n+U k n+(n+b k n) * (W k+4)≤U' k n∧2 * U k n+b k n * (W k+4)≤U' k n) (hW:2 * W k+5≤W' k) (s:Sg):PK b' U' W' (Tr.sg s t) k:=by
 have hs:=sg_ok h.ok h.nz h.ne s
 refine ⟨hs.1,hs.2.1,hs.2.2.1,by have:=h.wt;omega,ni_sg h.ok h.nz h.ne s hk1 h.ni,hc_sg h.ok h.nz h.ne s hk1 (by omega) h.ni h.hc,?_⟩
 intro w hw
 obtain ⟨ts,a1,a2,a3⟩:=h.rows
 obtain ⟨V,v1,v2,v3,v4⟩:=a3 w hw
 obtain ⟨F,f1,f2,f3⟩:=h.fc w hw
 have hb:=hb w.length hw
 have hU:=hU w.length hw
 have hwt:=h.wt
 by_cases hm:t.isM=false∨s=.op
 ·obtain ⟨X,x1,x2,x3,x4⟩:=wholes h.ok (fun i=>U k i+2) w (fun v n1 n2=>h.wt_der v (Nat.le_trans n2.length_le hw) n1)
  have hk:Kov t w (X++V):=Kov.of h.ok a1 a2 (fun x hx=>(v2 x hx).sub fun y hy=>List.mem_append_right _ hy) (sub_whole x2.1 fun y hy=>List.mem_append_left _ hy)
  have hXV:∀ g ∈ X++V,g.ok∧g.isZ=false∧g.hc:=by
   intro g hg
   rcases List.mem_append.1 hg with k | k
   ·obtain ⟨v,n2,e⟩:=x2.2 g k
    exact ⟨(x1 g k).1,(x1 g k).2,by rw [e];exact h.hc_der S hk1 hk4 v (Nat.le_trans n2.length_le hw)⟩
   ·exact v1 g k
  obtain ⟨V',w1,w2,wo,w3,w4⟩:=kov_sg h.ok s hm hXV h.hc hk (sub_whole x2.1 fun y hy=>List.mem_append_left _ hy)
  have hlen:V'.length≤b' k w.length:=by rw [List.length_append] at w3;omega
  have hF:∃ F',Fc (Tr.sg s t) w F'∧(∀ g ∈ F',g.ok∧g.one∧g.hc)∧F'.length≤b' k w.length:=by
   by_cases hst:s=.st∨s=.pl
   ·exact ⟨V',fc_kov hs.1 w2 (wo hst),fun g hg=>⟨(w1 g hg).1,wo hst g hg,(w1 g hg).2.2⟩,hlen⟩
   ·refine ⟨F,?_,f2,by omega⟩
    cases s with
    | no=>exact f1
    | op=>exact fc_opt h.ok f1
    | st=>exact absurd (Or.inl rfl) hst
    | pl=>exact absurd (Or.inr rfl) hst
  obtain ⟨F',f1',f2',f3'⟩:=hF
  refine ⟨V',F',w1,w2,hlen,?_,f1',f2',f3'⟩
  have h1:=hU.1
  rw [sz_app,List.length_append] at w4
  have h2:(X.length+V.length) * (t.wt+4)≤(w.length+b k w.length) * (W k+4):=Nat.mul_le_mul (by omega) (by omega)
  have e:(fun i=>U k i+3)=(fun i=>U k i+2+1):=rfl
  rw [e] at h1
  omega
 ·have hm1:t.isM=true:=by
   cases hx:t.isM with
   | true=>rfl
   | false=>exact absurd (Or.inl hx) hm
  obtain ⟨p,rfl⟩:∃ p,t=.m p:=by cases t <;> first | exact ⟨_,rfl⟩ | simp [isM] at hm1
  have hkv:=m_one h.ok (v2 _ (star_in h.ok a1 a2))
  have hle:(V.filter fun g=>!g.isA).length≤V.length:=List.length_filter_le ..
  have hsz:sz (V.filter fun g=>!g.isA)≤sz V:=by
   clear hle hkv v1 v2 v3 v4
   induction V with
   | nil=>simp [sz]
   | cons g V ih=>rw [List.filter_cons];split <;> simp only [sz_cons] <;> omega
  obtain ⟨V',w1,w2,w3,w4⟩:=kov_sgm h.ok s (fun e=>hm (Or.inr e)) (V:=V.filter fun g=>!g.isA) (fun g hg=>by
   obtain ⟨g1,g2⟩:=List.mem_filter.1 hg
   exact ⟨(v1 g g1).1,⟨by simpa using g2,(v1 g g1).2.1⟩,(v1 g g1).2.2⟩) h.hc hkv
  refine ⟨V',V',fun g hg=>⟨(w1 g hg).1,(w1 g hg).2.1.2,(w1 g hg).2.2⟩,w2,by omega,?_,fc_kov hs.1 w2 (fun g hg=>(w1 g hg).2.1),w1,by omega⟩
  have h2:(V.filter fun g=>!g.isA).length * ((Tr.m p).wt+4)≤b k w.length * (W k+4):=Nat.mul_le_mul (by omega) (by omega)
  omega
end Tr
namespace Tr
inductive Rw (P:Nat→Tr→Prop):Nat→Tr→Prop where
 | one {k:Nat} {t:Tr}:P k t→Rw P k t
 | more {k k':Nat} {t t':Tr}:Rw P k t→P k' t'→Rw P (k+k') (row t t')
inductive Ct (P:Nat→Tr→Prop):Nat→Tr→Prop where
 | one {k:Nat} {t:Tr}:Rw P k t→Ct P k t
 | more {k k':Nat} {t t':Tr}:Ct P k t→Rw P k' t'→Ct P (k+k') (either t t')
def At (k:Nat) (t:Tr):Prop:=∃ x:Nat × Sg,x.1<256∧k=1∧t=pt x
def Pa:Nat→Nat→Tr→Prop
 | 0,k,t=>At k t
 | h+1,k,t=>At k t∨∃ t' s,Ct (Pa h) k t'∧t=sg s t'
inductive RR (P:Nat→Tr→Prop):Nat→Tr→Prop where
 | one {k:Nat} {t:Tr}:P k t→RR P k t
 | more {k k':Nat} {t t':Tr}:P k t→RR P k' t'→RR P (k+k') (row t t')
theorem RR.ok {P:Nat→Tr→Prop} (hP:∀ k t,P k t→t.ok) {k:Nat} {t:Tr} (h:RR P k t):t.ok:=by
 induction h with
 | one h=>exact hP _ _ h
 | more h _ ih=>exact (row_ok (hP _ _ h) ih).1
theorem RR.snoc {P:Nat→Tr→Prop} (hP:∀ k t,P k t→t.ok) {k:Nat} {t:Tr} (h:RR P k t) {k':Nat} {t':Tr} (h':P k' t'):RR P (k+k') (row t t'):=by
 induction h with
 | one h=>exact RR.more h (RR.one h')
 | more h hr ih=>rw [row_assoc (hP _ _ h) (hr.ok hP) (hP _ _ h'),Nat.add_assoc];exact RR.more h ih
theorem Rw.rr {P:Nat→Tr→Prop} (hP:∀ k t,P k t→t.ok) {k:Nat} {t:Tr} (h:Rw P k t):RR P k t:=by
 induction h with
 | one h=>exact RR.one h
 | more _ h' ih=>exact ih.snoc hP h'
theorem rowT_snoc {r:List (Nat × Sg)} (h:lowR r) {x:Nat × Sg} (hx:x.1<256):row (rowT r) (pt x)=rowT (r++[x]):=by
 induction r with
 | nil=>show pt x=row (pt x) .e;rw [row_e]
 | cons y r ih =>
  show row (row (pt y) (rowT r)) (pt x)=row (pt y) (rowT (r++[x]))
  rw [row_assoc (pt_ok h.head).1 (rowT_ok h.tail).1 (pt_ok hx).1,ih h.tail]
theorem rw_flat {k:Nat} {t:Tr} (h:Rw At k t):∃ r,lowR r∧r ≠ []∧r.length=k∧t=rowT r:=by
 induction h with
 | one h =>
  obtain ⟨x,h1,h2,h3⟩:=h
  exact ⟨[x],by intro y hy;simp at hy;subst hy;exact h1,by simp,by simp [h2],by rw [h3];show pt x=row (pt x) .e;rw [row_e]⟩
 | more _ h' ih =>
  obtain ⟨r,r1,r2,r3,rfl⟩:=ih
  obtain ⟨x,h1,h2,rfl⟩:=h'
  refine ⟨r++[x],?_,by simp,by simp [r3,h2],rowT_snoc r1 h1⟩
  intro y hy
  rcases List.mem_append.1 hy with k | k
  ·exact r1 y k
  ·simp at k;subst k;exact h1
theorem posC_len (rs:List (List (Nat × Sg))):(posC rs).length=(rs.map List.length).sum:=by
 induction rs with
 | nil=>rfl
 | cons r rs ih =>
  have e:posC (r :: rs)=posR r++posC rs:=by simp [posC]
  rw [e,List.length_append,posR_len,ih];simp
theorem ctT_snoc {rs:List (List (Nat × Sg))} (h:lowC rs) {r:List (Nat × Sg)} (hr:lowR r) (hn:r ≠ []):either (ctT rs) (rowT r)=ctT (rs++[r]):=by
 have h2:lowC (rs++[r]):=by
  intro y hy
  rcases List.mem_append.1 hy with k | k
  ·exact h y k
  ·simp at k;subst k;exact ⟨hr,hn⟩
 have ho:=either_ok (ctT_ok h) (rowT_ok hr).1
 refine ext ho.1 (ctT_ok h2) fun u=>?_
 have e1:=ctT_rows h [] u
 have e2:=ctT_rows h2 [] u
 rw [ho.2]
 constructor
 ·rintro (k | k)
  ·obtain ⟨x,hx,hu⟩:=e1.1 k
   exact e2.2 ⟨x,by rw [List.map_append];exact List.mem_append_left _ hx,hu⟩
  ·exact e2.2 ⟨rowT r,by simp,k⟩
 ·intro k
  obtain ⟨x,hx,hu⟩:=e2.1 k
  rw [List.map_append] at hx
  rcases List.mem_append.1 hx with k | k
  ·exact Or.inl (e1.2 ⟨x,k,hu⟩)
  ·simp at k;subst k;exact Or.inr hu
theorem ctT_single {r:List (Nat × Sg)} (hr:lowR r):ctT [r]=rowT r:=by
 have ho:=either_ok (rowT_ok hr).1 (y:=.z) trivial
 refine ext ho.1 (rowT_ok hr).1 fun u=>?_
 show u ∈ (either (rowT r) .z).alts↔_
 rw [ho.2];simp [alts]
theorem ct_flat {k:Nat} {t:Tr} (h:Ct At k t):∃ rs,lowC rs∧rs ≠ []∧(posC rs).length=k∧t=ctT rs:=by
 induction h with
 | one h =>
  obtain ⟨r,r1,r2,r3,rfl⟩:=rw_flat h
  exact ⟨[r],by intro y hy;simp at hy;subst hy;exact ⟨r1,r2⟩,by simp,by rw [posC_len];simp [r3],(ctT_single r1).symm⟩
 | more _ h' ih =>
  obtain ⟨rs,c1,c2,c3,rfl⟩:=ih
  obtain ⟨r,r1,r2,r3,rfl⟩:=rw_flat h'
  refine ⟨rs++[r],?_,by simp,by rw [posC_len] at c3 ⊢;simp [c3,r3],ctT_snoc c1 r1 r2⟩
  intro y hy
  rcases List.mem_append.1 hy with k | k
  ·exact c1 y k
  ·simp at k;subst k;exact ⟨r1,r2⟩
theorem ctT_wt {rs:List (List (Nat × Sg))} (h:lowC rs) (hn:rs ≠ []):(ctT rs).wt+4≤18 * (posC rs).length∧(ctT rs).isE=false:=by
 have hrow:∀ {r:List (Nat × Sg)},lowR r→r ≠ []→(rowT r).isE=false:=by
  intro r hr hn
  cases r with
  | nil=>exact absurd rfl hn
  | cons x r =>
   by_cases hr':r=[]
   ·subst hr'
    show (row (pt x) .e).isE=false
    rw [row_e];exact (pt_ok hr.head).2.2.1
   ·have h1:=pt_ok hr.head
    have h2:=rowT_ok hr.tail
    show (row (pt x) (rowT r)).isE=false
    cases hx:(rowT r).isE with
    | false=>exact row_isE h1.1 h2.1 h1.2.1 h2.2.1 hx
    | true =>
     rw [isE_eq hx,row_e];exact h1.2.2.1
 rw [posC_len]
 induction rs with
 | nil=>exact absurd rfl hn
 | cons r rs ih =>
  have hr:=rowT_ok (h r (List.mem_cons_self ..)).1
  have hrn:=(h r (List.mem_cons_self ..)).2
  have h1:=hr.2.2.2 hrn
  have hl:1≤r.length:=List.length_pos_iff.2 hrn
  by_cases hs:rs=[]
  ·subst hs
   rw [ctT_single (h r (List.mem_cons_self ..)).1]
   refine ⟨?_,hrow (h r (List.mem_cons_self ..)).1 hrn⟩
   simp;omega
  ·have h2:=ih h.tail hs
   have h3:=either_wt hr.1 (ctT_ok h.tail)
   refine ⟨?_,(either_ne hr.1 (ctT_ok h.tail) hr.2.1 (hrow (h r (List.mem_cons_self ..)).1 hrn)).2⟩
   show (either (rowT r) (ctT rs)).wt+4≤_
   have h2':=h2.1
   rw [List.map_cons,List.sum_cons]
   omega
theorem flat_m {rs:List (List (Nat × Sg))} (h:lowC rs) {p:Tr} (e:ctT rs=.m p):∃ n,n<256∧p=.c n:=by
 have ho:(Tr.m p).ok:=by rw [← e];exact ctT_ok h
 have hin:=star_in ho (ts:=rs.map rowT) (by intro x hx;obtain ⟨r,hr,rfl⟩:=List.mem_map.1 hx;exact (rowT_ok (h r hr).1).1) (by rw [← e];exact ctT_rows h)
 obtain ⟨r,hr,e2⟩:=List.mem_map.1 hin
 have hl:=(h r hr).1
 cases r with
 | nil=>cases e2
 | cons x r =>
  cases r with
  | nil =>
   have e3:pt x=.m p:=by
    have:rowT [x]=pt x:=row_e _
    rw [← this];exact e2
   obtain ⟨n,s⟩:=x
   cases s with
   | no=>cases e3
   | st=>cases e3;exact ⟨n,hl.head,rfl⟩
   | pl=>cases e3
   | op =>
    have:pt (n,.op)=.a .e (.c n):=op_eq n hl.head
    rw [this] at e3;cases e3
  | cons y r =>
   exfalso
   have h1:=pt_ok hl.head
   have h2:=rowT_ok hl.tail
   have h3:(rowT (y :: r)).isE=false:=by
    have:=ctT_wt (rs:=[y :: r]) (by intro z hz;simp at hz;subst hz;exact ⟨hl.tail,by simp⟩) (by simp)
    rw [ctT_single hl.tail] at this;exact this.2
   have h4:(row (pt x) (rowT (y :: r))).isS=true:=by
    cases hx:(pt x).isS with
    | false=>rw [row_o h2.2.1 h3 h1.2.1 h1.2.2.1 hx];rfl
    | true =>
     obtain ⟨a,b,ea⟩:=isS_eq hx
     rw [ea] at h1 ⊢
     rw [row_s h2.2.1 h3]
     have hb:=row_ok h1.1.2.1 h2.1
     have hb2:=hb.2 h1.1.2.2.2.2.2.1 h2.2.1
     rw [row_o hb2.1 (hb2.2 h3) h1.1.2.2.1 h1.1.2.2.2.1 h1.1.2.2.2.2.1];rfl
   have e3:row (pt x) (rowT (y :: r))=.m p:=e2
   rw [e3] at h4;simp [isS] at h4
end Tr
namespace Tr
def W1 (k:Nat):Nat:=46 * k - 5
def M1 (k:Nat):Nat:=if k=1 then 2 else if k=2 then 3 else if k=3 then 7 else 13
def f1 (k:Nat):Nat:=if k=1 then 2 else if k=2 then 4 else if k=3 then 7 else 13
def U1 (k:Nat):Nat:=if k=1 then 29 else if k=2 then 200 else if k=3 then 700 else 2005
structure P1 (t:Tr) (k:Nat):Prop where
 ok:t.ok
 nz:t.isZ=false
 ne:t.isE=false
 wt:t.wt≤W1 k
 ni:ni t≤k
 hc:t.hc
 all:∀ w,∃ V F,(∀ g ∈ V,g.ok∧g.isZ=false∧g.hc)∧Kov t w V∧V.length≤M1 k∧sz V≤U1 k∧(k=1→V.length=1∨∀ g ∈ V,g.isE=false)∧Fc t w F∧(∀ g ∈ F,g.ok∧g.one∧g.hc)∧F.length≤M1 k∧sz F≤U1 k
structure C1 (t:Tr) (k:Nat):Prop where
 ok:t.ok
 nz:t.isZ=false
 ne:t.isE=false
 wt:t.wt≤W1 k
 ni:ni t≤k
 hc:t.hc
 all:∀ w,∃ F,Fc t w F∧(∀ g ∈ F,g.ok∧g.one∧g.hc)∧F.length≤f1 k∧sz F≤U1 k
theorem W1_sup {i j:Nat} (hi:1≤i) (hj:1≤j):W1 i+W1 j+4≤W1 (i+j):=by unfold W1;omega
theorem P1.c {t:Tr} {k:Nat} (h:P1 t k):C1 t k:=⟨h.ok,h.nz,h.ne,h.wt,h.ni,h.hc,fun w=>by
 obtain ⟨V,F,_,_,_,_,_,f1',f2,f3,f4⟩:=h.all w
 exact ⟨F,f1',f2,Nat.le_trans f3 (by unfold M1 f1;(repeat' split) <;> omega),f4⟩⟩
theorem C1.either {t t':Tr} {i j:Nat} (h:C1 t i) (h':C1 t' j) (hi:1≤i) (hj:1≤j) (hk:i+j≤4):C1 (either t t') (i+j):=by
 have ho:=either_ok h.ok h'.ok
 have hn:=either_ne h.ok h'.ok h.nz h.ne
 have hni:Tr.ni (Tr.either t t')≤i+j:=by have:=ni_either h.ok h'.ok;have:=h.ni;have:=h'.ni;omega
 refine ⟨ho.1,hn.1,hn.2,?_,hni,hc_either h.ok h'.ok h.hc h'.hc hni (by omega),?_⟩
 ·have:=either_wt h.ok h'.ok;have:=W1_sup hi hj;have:=h.wt;have:=h'.wt;omega
 ·intro w
  obtain ⟨F,a1,a2,a3,a4⟩:=h.all w
  obtain ⟨F',b1,b2,b3,b4⟩:=h'.all w
  refine ⟨F++F',?_,?_,?_,?_⟩
  ·intro v n1 n2 u hu
   rcases (der_either h.ok h'.ok v u).1 hu with k | k
   ·exact List.mem_append_left _ (a1 v n1 n2 u k)
   ·exact List.mem_append_right _ (b1 v n1 n2 u k)
  ·intro g hg;rcases List.mem_append.1 hg with k | k
   ·exact a2 g k
   ·exact b2 g k
  ·have:f1 i+f1 j≤f1 (i+j):=by unfold f1;(repeat' split) <;> omega
   rw [List.length_append];omega
  ·have:U1 i+U1 j≤U1 (i+j):=by unfold U1;(repeat' split) <;> omega
   rw [sz_app];omega
theorem C1.row {t t':Tr} {i j:Nat} (h:P1 t i) (h':C1 t' j) (hi:1≤i) (hj:1≤j) (hk:i+j≤4):C1 (row t t') (i+j):=by
 have ho:=row_ok h.ok h'.ok
 refine ⟨ho.1,(ho.2 h.nz h'.nz).1,(ho.2 h.nz h'.nz).2 h'.ne,?_,?_,hc_row h.hc h'.hc,?_⟩
 ·have:=wt_row t t';have:=W1_sup hi hj;have:=h.wt;have:=h'.wt;omega
 ·exact Nat.le_trans (ni_one (isS_one (row_isS h.ok h'.ok h.nz h.ne h'.nz h'.ne))) (by omega)
 ·intro w
  obtain ⟨V,_,v1,v2,v3,v4,v5,_,_,_,_⟩:=h.all w
  obtain ⟨F,a1,a2,a3,a4⟩:=h'.all w
  obtain ⟨G,g1,g2,g3,g4,g5⟩:=fc_row h.ok h'.nz h'.ne h'.ok h'.hc v1 v2 a1
  have hj1:=alts_ni h'.ok
  have hj2:=h'.ni
  have hw3:=h'.wt
  have hmul:V.length * (t'.wt+2)≤M1 i * (W1 j+2):=Nat.mul_le_mul (by omega) (by omega)
  have hM:1≤M1 i:=by unfold M1;(repeat' split) <;> omega
  have hG3:sz G≤U1 i+M1 i * (W1 j+2)+(W1 j+1):=by omega
  have hG:G.length+1≤M1 i+(j+1)∧(i=1→G.length≤max 2 (j+1)):=by
   by_cases hE:∃ g ∈ V,g.isE=true
   ·have h4:=g4 hE
    refine ⟨by omega,fun i1=>?_⟩
    rcases v5 i1 with k | k
    ·omega
    ·obtain ⟨e0,he0,he1⟩:=hE
     rw [k e0 he0] at he1;cases he1
   ·have h5:=g5 (fun g hg=>by cases hx:g.isE with
     | false=>rfl
     | true=>exact absurd ⟨g,hg,hx⟩ hE)
    refine ⟨by omega,fun i1=>?_⟩
    have:M1 i=2:=by rw [i1];rfl
    omega
  obtain ⟨g4',g5'⟩:=hG
  clear g4 g5 v5 v4 v3 v2 v1 g3
  refine ⟨G++F,g1,?_,?_,?_⟩
  ·intro g hg;rcases List.mem_append.1 hg with k | k
   ·exact g2 g k
   ·exact a2 g k
  ·rw [List.length_append]
   have h1:i=1∨i=2∨i=3:=by omega
   have h2:j=1∨j=2∨j=3:=by omega
   rcases h1 with rfl | rfl | rfl <;> rcases h2 with rfl | rfl | rfl <;> simp [f1,M1] at * <;> omega
  ·rw [sz_app]
   have h1:i=1∨i=2∨i=3:=by omega
   have h2:j=1∨j=2∨j=3:=by omega
   rcases h1 with rfl | rfl | rfl <;> rcases h2 with rfl | rfl | rfl <;> simp [U1,M1,W1] at * <;> omega
end Tr
end Go.Proofs.YtodagkkjfipbgaaGreatDoor
