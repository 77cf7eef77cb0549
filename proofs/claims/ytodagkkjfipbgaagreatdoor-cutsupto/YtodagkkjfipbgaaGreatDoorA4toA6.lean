import Derived.Test.YtodagkkjfipbgaaGreatDoorA1toA3
namespace Go.Proofs.YtodagkkjfipbgaaGreatDoor
open Go
namespace Tr
theorem pstep_z (k:Nat):Tr.z.pstep k=[.z]:=rfl
theorem pcs_z (w:List Nat):∀ g ∈ Tr.z.pcs w,g=.z:=by
 induction w with
 | nil=>intro g hg;simp [pcs] at hg;exact hg
 | cons k w ih=>intro g hg;simp [pcs,pstep_z] at hg;exact ih g hg
theorem pstep_o {g:Tr} (h:g.isS=false) (k:Nat):g.pstep k=[g.beh k]:=by cases g <;> first | rfl | simp [isS] at h
theorem only {x y:Tr} (hx:x.ok) (hy:y.ok) (h1:x.one) (h:∀ u ∈ y.alts,u=x) (h2:y.isZ=false):y=x:=by
 refine ext hy hx fun u=>?_
 rw [alts_one h1]
 constructor
 ·intro hu;rw [h u hu];simp
 ·intro hu
  simp at hu;subst hu
  cases hl:y.alts with
  | nil=>rw [alts_nil] at hl;subst hl;simp [isZ] at h2
  | cons v l=>have:=h v (by rw [hl];simp);subst this;simp
theorem whole_pcs {t:Tr} (h:t.ok) {v:List Nat} (h1:(t.der v).one):t.der v ∈ t.pcs v:=by
 have ho:=der_ok h v
 have hm:t.der v ∈ (t.der v).alts:=by rw [alts_one h1];simp
 obtain ⟨g,hg,hu⟩:=(pcs_alts h v _).1 hm
 have hgo:=pcs_ok h v g hg
 have:g=t.der v:=by
  refine only ho hgo h1 ?_ ?_
  ·intro u hu'
   have:=(pcs_alts h v u).2 ⟨g,hg,hu'⟩
   rw [alts_one h1] at this;simpa using this
  ·cases g <;> first | rfl | simp [alts] at hu
 rw [← this];exact hg
def Kov (t:Tr) (w:List Nat) (V:List Tr):Prop:=∀ v,v ≠ []→v <:+ w→∀ g ∈ t.pcs v,g=.z∨g ∈ V
def Who (t:Tr) (w:List Nat) (V:List Tr):Prop:=∀ v,v ≠ []→v <:+ w→t.der v=.z∨t.der v ∈ V
theorem Kov.sub {t:Tr} {w:List Nat} {V V':List Tr} (h:Kov t w V) (hs:∀ x ∈ V,x ∈ V'):Kov t w V':=fun v h1 h2 g hg=>(h v h1 h2 g hg).imp id (hs g)
theorem suf_snoc {v w:List Nat} (k:Nat) (h:v <:+ w):v++[k] <:+ w++[k]:=by
 obtain ⟨t,rfl⟩:=h;exact ⟨t,by simp⟩
theorem suf_one {w:List Nat} (k:Nat):[k] <:+ w++[k]:=⟨w,rfl⟩
theorem rev_rec {P:List Nat→Prop} (h0:P []) (h1:∀ w k,P w→P (w++[k])):∀ w,P w:=by
 intro w
 have:∀ n (w:List Nat),w.length=n→P w:=by
  intro n
  induction n with
  | zero=>intro w hw;rw [List.eq_nil_of_length_eq_zero hw];exact h0
  | succ n ih =>
   intro w hw
   have hne:w ≠ []:=by intro e;rw [e] at hw;cases hw
   rw [← List.dropLast_concat_getLast hne]
   exact h1 _ _ (ih _ (by simp [hw]))
 exact this _ w rfl
theorem pcs_row {x y:Tr} (hx:x.ok) (hy:y.ok) (v:List Nat):∀ g ∈ (row x y).pcs v,g=.z∨(∃ g' ∈ x.pcs v,g=row g' y)∨∃ v',v' ≠ []∧v' <:+ v∧g ∈ y.pcs v':=by
 by_cases y1:y.isZ=true
 ·rw [isZ_eq y1,row_z];intro g hg;exact Or.inl (pcs_z v g hg)
 by_cases y2:y.isE=true
 ·rw [isE_eq y2,row_e];intro g hg;exact Or.inr (Or.inl ⟨g,hg,(row_e g).symm⟩)
 induction v using rev_rec with
 | h0=>intro g hg;simp [pcs] at hg;exact Or.inr (Or.inl ⟨x,by simp [pcs],hg⟩)
 | h1 w k ih =>
  intro g hg
  obtain ⟨g0,hg0,hg⟩:=(pcs_snoc _ _ _ _).1 hg
  rcases ih g0 hg0 with rfl | ⟨g',hg',rfl⟩ | ⟨v',n1,n2,hv⟩
  ·rw [pstep_z] at hg;simp at hg;exact Or.inl hg
  ·rcases pstep_row (pcs_ok hx w g' hg') hy (by simpa using y1) (by simpa using y2) k g hg with h | ⟨g2,h,e⟩ | h
   ·exact Or.inl h
   ·exact Or.inr (Or.inl ⟨g2,(pcs_snoc _ _ _ _).2 ⟨g',hg',h⟩,e⟩)
   ·exact Or.inr (Or.inr ⟨[k],by simp,suf_one k,by simp [pcs,h]⟩)
  ·exact Or.inr (Or.inr ⟨v'++[k],by simp,suf_snoc k n2,(pcs_snoc _ _ _ _).2 ⟨g0,hv,hg⟩⟩)
theorem Kov.row {x y:Tr} (hx:x.ok) (hy:y.ok) {w:List Nat} {V V':List Tr} (h:Kov x w V) (h':Kov y w V'):Kov (row x y) w (V.map (fun g=>Tr.row g y)++V'):=by
 intro v h1 h2 g hg
 rcases pcs_row hx hy v g hg with e | ⟨g',hg',rfl⟩ | ⟨v',n1,n2,hv⟩
 ·exact Or.inl e
 ·rcases h v h1 h2 g' hg' with rfl | hm
  ·exact Or.inl rfl
  ·exact Or.inr (List.mem_append_left _ (List.mem_map.2 ⟨g',hm,rfl⟩))
 ·rcases h' v' n1 (n2.trans h2) g hv with e | hm
  ·exact Or.inl e
  ·exact Or.inr (List.mem_append_right _ hm)
theorem one_s {p q:Tr}:(Tr.s p q).one:=⟨rfl,rfl⟩
theorem pcs_m {x:Tr} (hx:(Tr.m x).ok) (v:List Nat):v ≠ []→∀ g ∈ (Tr.m x).pcs v,g=.z∨∃ v' g',v' ≠ []∧v' <:+ v∧(g'=x.der v'∨g' ∈ x.pcs v')∧g=row g' (.m x):=by
 have first:∀ (w:List Nat) (k:Nat) (g:Tr),g ∈ (Tr.m x).pstep k→∃ v' g',v' ≠ []∧v' <:+ w++[k]∧(g'=x.der v'∨g' ∈ x.pcs v')∧g=row g' (.m x):=by
  intro w k g hg
  simp [pstep,beh] at hg
  exact ⟨[k],x.beh k,by simp,suf_one k,Or.inl rfl,hg⟩
 induction v using rev_rec with
 | h0=>intro h;exact absurd rfl h
 | h1 w k ih =>
 intro _ g hg
 obtain ⟨g0,hg0,hg⟩:=(pcs_snoc _ _ _ _).1 hg
 by_cases hw:w=[]
 ·subst hw
  simp [pcs] at hg0;subst hg0
  exact Or.inr (first [] k g hg)
 rcases ih hw g0 hg0 with rfl | ⟨v',g',n1,n2,hv,rfl⟩
 ·rw [pstep_z] at hg;simp at hg;exact Or.inl hg
 ·have hgo:g'.ok:=by rcases hv with rfl | hv
                     ·exact der_ok hx.1 v'
                     ·exact pcs_ok hx.1 v' g' hv
  rcases pstep_row hgo hx rfl rfl k g hg with h | ⟨g2,h,e⟩ | h
  ·exact Or.inl h
  ·right
   have hin:g' ∈ x.pcs v'→g2 ∈ x.pcs (v'++[k]):=fun hv=>(pcs_snoc _ _ _ _).2 ⟨g',hv,h⟩
   refine ⟨v'++[k],g2,by simp,suf_snoc k n2,?_,e⟩
   rcases hv with hv | hv
   ·by_cases hs:g'.isS=true
    ·obtain ⟨p,q,e⟩:=isS_eq hs
     refine Or.inr (hin ?_)
     rw [hv];apply whole_pcs hx.1;rw [← hv,e];exact one_s
    ·rw [pstep_o (by simpa using hs)] at h
     simp at h
     left;rw [h,hv,der_snoc]
   ·exact Or.inr (hin hv)
  ·exact Or.inr (first w k g h)
theorem Kov.m {x:Tr} (hx:(Tr.m x).ok) {w:List Nat} {V:List Tr} (h:Kov x w V) (hw:Who x w V):Kov (.m x) w (V.map (fun g=>Tr.row g (.m x))):=by
 intro v h1 h2 g hg
 rcases pcs_m hx v h1 g hg with e | ⟨v',g',n1,n2,hv,rfl⟩
 ·exact Or.inl e
 ·have:g'=.z∨g' ∈ V:=by
   rcases hv with rfl | hv
   ·exact hw v' n1 (n2.trans h2)
   ·exact h v' n1 (n2.trans h2) g' hv
  rcases this with rfl | hm
  ·exact Or.inl rfl
  ·exact Or.inr (List.mem_map.2 ⟨g',hm,rfl⟩)
theorem der_either {x y:Tr} (hx:x.ok) (hy:y.ok) (w:List Nat) (u:Tr):u ∈ ((either x y).der w).alts↔u ∈ (x.der w).alts∨u ∈ (y.der w).alts:=by
 have ho:=either_ok hx hy
 rw [der_alts ho.1,der_alts hx,der_alts hy]
 constructor
 ·rintro ⟨v,hv,hu⟩
  rcases (ho.2 v).1 hv with k | k
  ·exact Or.inl ⟨v,k,hu⟩
  ·exact Or.inr ⟨v,k,hu⟩
 ·rintro (⟨v,hv,hu⟩ | ⟨v,hv,hu⟩)
  ·exact ⟨v,(ho.2 v).2 (Or.inl hv),hu⟩
  ·exact ⟨v,(ho.2 v).2 (Or.inr hv),hu⟩
theorem isZ_alts {t u:Tr} (h:u ∈ t.alts):t.isZ=false:=by cases t <;> first | rfl | simp [alts] at h
theorem pcs_either {x y:Tr} (hx:x.ok) (hy:y.ok) (v:List Nat):∀ g ∈ (either x y).pcs v,g=.z∨g=(either x y).der v∨g ∈ x.pcs v∨g ∈ y.pcs v:=by
 have ho:=(either_ok hx hy).1
 induction v using rev_rec with
 | h0=>intro g hg;simp [pcs] at hg;exact Or.inr (Or.inl hg)
 | h1 w k ih =>
  intro g hg
  obtain ⟨g0,hg0,hg⟩:=(pcs_snoc _ _ _ _).1 hg
  rcases ih g0 hg0 with rfl | h | h | h
  ·rw [pstep_z] at hg;simp at hg;exact Or.inl hg
  ·by_cases hs:g0.isS=true
   ·obtain ⟨p,q,e⟩:=isS_eq hs
    have h1:((either x y).der w).one:=by rw [← h,e];exact one_s
    have hm:(either x y).der w ∈ ((either x y).der w).alts:=by rw [alts_one h1];simp
    have hall:∀ u,u ∈ (x.der w).alts∨u ∈ (y.der w).alts→u=(either x y).der w:=by
     intro u hu
     have:=(der_either hx hy w u).2 hu
     rw [alts_one h1] at this;simpa using this
    rcases (der_either hx hy w _).1 hm with k1 | k1
    ·have e2:x.der w=(either x y).der w:=only (der_ok ho w) (der_ok hx w) h1 (fun u hu=>hall u (Or.inl hu)) (isZ_alts k1)
     refine Or.inr (Or.inr (Or.inl ((pcs_snoc _ _ _ _).2 ⟨g0,?_,hg⟩)))
     rw [h,← e2];apply whole_pcs hx;rw [e2];exact h1
    ·have e2:y.der w=(either x y).der w:=only (der_ok ho w) (der_ok hy w) h1 (fun u hu=>hall u (Or.inr hu)) (isZ_alts k1)
     refine Or.inr (Or.inr (Or.inr ((pcs_snoc _ _ _ _).2 ⟨g0,?_,hg⟩)))
     rw [h,← e2];apply whole_pcs hy;rw [e2];exact h1
   ·rw [pstep_o (by simpa using hs)] at hg
    simp at hg
    right;left;rw [hg,h,der_snoc]
  ·exact Or.inr (Or.inr (Or.inl ((pcs_snoc _ _ _ _).2 ⟨g0,h,hg⟩)))
  ·exact Or.inr (Or.inr (Or.inr ((pcs_snoc _ _ _ _).2 ⟨g0,h,hg⟩)))
theorem Kov.either {x y:Tr} (hx:x.ok) (hy:y.ok) {w:List Nat} {V:List Tr} (h:Kov x w V) (h':Kov y w V) (hw:Who (either x y) w V):Kov (either x y) w V:=by
 intro v h1 h2 g hg
 rcases pcs_either hx hy v g hg with e | rfl | k | k
 ·exact Or.inl e
 ·exact hw v h1 h2
 ·exact h v h1 h2 g k
 ·exact h' v h1 h2 g k
theorem pcs_e (v:List Nat) (h:v ≠ []):∀ g ∈ Tr.e.pcs v,g=.z:=by
 intro g hg
 cases v with
 | nil=>exact absurd rfl h
 | cons k v=>simp [pcs,pstep,beh] at hg;exact pcs_z v g hg
theorem pcs_c (n:Nat) (v:List Nat) (h:v ≠ []):∀ g ∈ (Tr.c n).pcs v,g=.z∨g=.e:=by
 intro g hg
 cases v with
 | nil=>exact absurd rfl h
 | cons k v =>
  simp only [pcs,pstep,beh,List.flatMap_cons,List.flatMap_nil,List.append_nil] at hg
  split at hg
  ·cases v with
   | nil=>simp [pcs] at hg;exact Or.inr hg
   | cons j v=>exact Or.inl (pcs_e _ (by simp) g hg)
  ·exact Or.inl (pcs_z v g hg)
def wt (t:Tr):Nat:=t.fm.length
def sz (l:List Tr):Nat:=(l.map fun x=>x.wt+1).sum
theorem sz_cons (x:Tr) (l:List Tr):sz (x :: l)=x.wt+1+sz l:=by simp [sz]
theorem sz_app (l l':List Tr):sz (l++l')=sz l+sz l':=by simp [sz]
theorem wt_s (p q:Tr):(Tr.s p q).wt=p.wt+q.wt+2:=by simp [wt,fm,fmG];omega
theorem wt_m (p:Tr):(Tr.m p).wt=p.wt+2:=by simp [wt,fm,fmG]
theorem wt_z:Tr.z.wt=1:=rfl
theorem wt_e:Tr.e.wt=1:=rfl
theorem wt_pos (t:Tr):1≤t.wt:=by
 obtain ⟨c,l,h,_⟩:=fm_cons t
 simp [wt,h]
theorem wt_row (x y:Tr):(row x y).wt≤x.wt+y.wt+2:=by
 induction x generalizing y with
 | z=>have:=wt_pos y;simp only [row,wt_z];omega
 | e=>simp only [row];omega
 | s p q ihp ihq =>
  by_cases h1:y.isZ=true
  ·rw [isZ_eq h1,row_z,wt_z];omega
  ·by_cases h2:y.isE=true
   ·rw [isE_eq h2,row_e];omega
   ·rw [row_s (by simpa using h1) (by simpa using h2),wt_s]
    have:=ihp (row q y);have:=ihq y;omega
 | _ =>
  by_cases h1:y.isZ=true
  ·rw [isZ_eq h1,row_z,wt_z];omega
  ·by_cases h2:y.isE=true
   ·rw [isE_eq h2,row_e];omega
   ·rw [row_o (by simpa using h1) (by simpa using h2) rfl rfl rfl,wt_s];omega
theorem len_true {q:Tr} (ho:q.ok) (h:q.isZ=false):(q.fmG true).length=sz q.alts:=by
 induction q with
 | z=>simp [isZ] at h
 | a p q ihp ihq =>
  simp only [fmG,if_true,alts,sz_cons,List.length_cons,List.length_append,ihq ho.2.1 ho.2.2.2.1]
  simp only [wt,fm];omega
 | _=>simp [fmG,alts,sz,wt,fm]
theorem wt_alts {t:Tr} (h:t.ok):t.wt≤sz t.alts+2∧sz t.alts≤t.wt+1:=by
 cases t with
 | z=>exact ⟨by decide,by decide⟩
 | a p q =>
  have:=len_true h.2.1 h.2.2.2.1
  have e:(Tr.a p q).wt=p.wt+(q.fmG true).length+3:=by simp [wt,fm,fmG];omega
  simp only [alts,sz_cons]
  omega
 | _=>simp [alts,sz];omega
theorem sz_le {l l':List Tr} (hn:l.Nodup) (hs:∀ x ∈ l,x ∈ l'):sz l≤sz l':=by
 induction l generalizing l' with
 | nil=>simp [sz]
 | cons x l ih =>
  obtain ⟨a,b,rfl⟩:=List.append_of_mem (hs x (List.mem_cons_self ..))
  have:=ih (l':=a++b) (List.nodup_cons.1 hn).2 (fun y hy=>by
   have h1:=hs y (List.mem_cons_of_mem _ hy)
   rw [List.mem_append,List.mem_cons] at h1
   rw [List.mem_append]
   rcases h1 with k | rfl | k
   ·exact Or.inl k
   ·exact absurd hy (List.nodup_cons.1 hn).1
   ·exact Or.inr k)
  rw [sz_cons,sz_app,sz_cons]
  rw [sz_app] at this
  omega
theorem sz_flat (V:List Tr) (h:∀ g ∈ V,g.ok):sz (V.flatMap alts)≤sz V:=by
 induction V with
 | nil=>simp [sz]
 | cons g V ih =>
  rw [List.flatMap_cons,sz_app,sz_cons]
  have:=ih (fun x hx=>h x (List.mem_cons_of_mem _ hx))
  have:=(wt_alts (h g (List.mem_cons_self ..))).2
  omega
theorem Kov.flat {t:Tr} (ht:t.ok) {w:List Nat} {V:List Tr} (h:Kov t w V) {v:List Nat} (h1:v ≠ []) (h2:v <:+ w):∀ u ∈ (t.der v).alts,u ∈ V.flatMap alts:=by
 intro u hu
 obtain ⟨g,hg,hu⟩:=(pcs_alts ht v u).1 hu
 rcases h v h1 h2 g hg with rfl | hm
 ·simp [alts] at hu
 ·exact List.mem_flatMap.2 ⟨g,hm,hu⟩
theorem Kov.wt {t:Tr} (ht:t.ok) {w:List Nat} {V:List Tr} (h:Kov t w V) (hV:∀ g ∈ V,g.ok) {v:List Nat} (h1:v ≠ []) (h2:v <:+ w):(t.der v).wt≤sz V+2:=by
 have:=(wt_alts (der_ok ht v)).1
 have:=sz_le (der_ok ht v).srt.nodup (h.flat ht h1 h2)
 have:=sz_flat V hV
 omega
theorem sz_map (V:List Tr) (y:Tr):sz (V.map fun g=>row g y)≤sz V+V.length * (y.wt+2):=by
 induction V with
 | nil=>simp [sz]
 | cons g V ih =>
  rw [List.map_cons,sz_cons,sz_cons,List.length_cons,Nat.add_mul]
  have:=wt_row g y
  omega
def subs:List Tr→List (List Tr)
 | []=>[[]]
 | x :: l=>subs l++(subs l).map (x :: ·)
theorem subs_len (l:List Tr):(subs l).length=2 ^ l.length:=by
 induction l with
 | nil=>rfl
 | cons x l ih=>simp [subs,ih];omega
theorem subs_sum (l:List Tr):((subs l).map sz).sum * 2=2 ^ l.length * sz l:=by
 induction l with
 | nil=>simp [subs,sz]
 | cons x l ih =>
  have h:∀ L:List (List Tr),((L.map (x :: ·)).map sz).sum=(L.map sz).sum+L.length * (x.wt+1):=by
   intro L
   induction L with
   | nil=>simp
   | cons a L ih=>simp only [List.map_cons,List.sum_cons,ih,sz_cons,List.length_cons,Nat.add_mul];omega
  simp only [subs,List.map_append,List.sum_append,h,subs_len,List.length_cons,sz_cons]
  have:2 ^ (l.length+1)=2 * 2 ^ l.length:=by rw [Nat.pow_succ];omega
  rw [this]
  generalize 2 ^ l.length=b at *
  have e:2 * b * (x.wt+1+sz l)=2 * (b * (x.wt+1))+2 * (b * sz l):=by rw [Nat.mul_add,Nat.mul_assoc,Nat.mul_assoc]
  rw [e,← ih]
  generalize b * (x.wt+1)=d
  omega
theorem filter_subs (f:Tr→Bool) (l:List Tr):l.filter f ∈ subs l:=by
 induction l with
 | nil=>simp [subs]
 | cons x l ih =>
  simp only [subs,List.filter_cons]
  split
  ·exact List.mem_append_right _ (List.mem_map.2 ⟨_,ih,rfl⟩)
  ·exact List.mem_append_left _ ih
def can (l:List Tr):Tr:=mkA (l.foldl among [])
theorem can_ok {l:List Tr} (h:∀ x ∈ l,x.ok∧x.one):(can l).ok∧∀ u,u ∈ (can l).alts↔u ∈ l:=by
 have h1:=foldl_among (l:=[]) ⟨List.Pairwise.nil,by simp⟩ h
 have h2:=mkA_srt h1.1
 exact ⟨h2.1,fun u=>by unfold can;rw [h2.2,h1.2];simp⟩
theorem can_wt {l:List Tr} (h:∀ x ∈ l,x.ok∧x.one):(can l).wt≤sz l+2:=by
 have h1:=can_ok h
 have:=(wt_alts h1.1).1
 have:=sz_le h1.1.srt.nodup (fun x hx=>(h1.2 x).1 hx)
 omega
theorem can_of {F:List Tr} (hF:∀ x ∈ F,x.ok∧x.one) {t:Tr} (ht:t.ok) (h:∀ u ∈ t.alts,u ∈ F):∃ l ∈ subs F,t=can l:=by
 have:∀ x,Decidable (x ∈ t.alts):=fun x=>Classical.propDecidable _
 refine ⟨F.filter (fun x=>decide (x ∈ t.alts)),filter_subs _ _,?_⟩
 have h1:∀ x ∈ F.filter (fun x=>decide (x ∈ t.alts)),x.ok∧x.one:=fun x hx=>hF x (List.mem_filter.1 hx).1
 refine ext ht (can_ok h1).1 fun u=>?_
 rw [(can_ok h1).2,List.mem_filter]
 exact ⟨fun hu=>⟨h u hu,by simpa using hu⟩,fun hu=>by simpa using hu.2⟩
theorem map_can_sz (F:List Tr) (hF:∀ x ∈ F,x.ok∧x.one):sz ((subs F).map can) * 2≤2 ^ F.length * (sz F+6):=by
 have hsub:∀ (l:List Tr),∀ m ∈ subs l,∀ x ∈ m,x ∈ l:=by
  intro l
  induction l with
  | nil=>intro m hm x hx;simp [subs] at hm;subst hm;cases hx
  | cons y l ih =>
   intro m hm x hx
   rcases List.mem_append.1 hm with k | k
   ·exact List.mem_cons_of_mem _ (ih m k x hx)
   ·obtain ⟨m',hm',rfl⟩:=List.mem_map.1 k
    rcases List.mem_cons.1 hx with rfl | hx
    ·exact List.mem_cons_self ..
    ·exact List.mem_cons_of_mem _ (ih m' hm' x hx)
 have:∀ L:List (List Tr),(∀ m ∈ L,∀ x ∈ m,x.ok∧x.one)→sz (L.map can)≤(L.map sz).sum+3 * L.length:=by
  intro L
  induction L with
  | nil=>intro _;simp [sz]
  | cons m L ih =>
   intro h
   have h1:=can_wt (h m (List.mem_cons_self ..))
   have h2:=ih (fun x hx=>h x (List.mem_cons_of_mem _ hx))
   simp only [List.map_cons,sz_cons,List.sum_cons,List.length_cons]
   omega
 have h1:=this (subs F) (fun m hm x hx=>hF x (hsub F m hm x hx))
 have h2:=subs_sum F
 rw [subs_len] at h1
 rw [Nat.mul_add,← h2]
 omega
def hc:Tr→Prop
 | .a p q=>q.alts.length+1≤10000000∧p.hc∧q.hc
 | .s p q=>p.hc∧q.hc
 | .m p=>p.hc
 | .z | .e | .c _=>True
theorem hc.alts {t:Tr} (h:t.hc):∀ u ∈ t.alts,u.hc:=by
 induction t with
 | a p q ihp ihq =>
  intro u hu
  rcases List.mem_cons.1 hu with rfl | hu
  ·exact h.2.1
  ·exact ihq h.2.2 u hu
 | z=>intro u hu;cases hu
 | _=>intro u hu;simp [Tr.alts] at hu;subst hu;exact h
theorem hc.len {t:Tr} (h:t.hc):t.alts.length≤10000000:=by
 cases t with
 | a p q=>exact h.1
 | _=>simp [Tr.alts]
theorem hc_of {t:Tr} (h:∀ u ∈ t.alts,u.hc) (hl:t.alts.length≤10000000):t.hc:=by
 induction t with
 | a p q ihp ihq =>
  have hl':q.alts.length+1≤10000000:=hl
  exact ⟨hl',h p (List.mem_cons_self ..),ihq (fun u hu=>h u (List.mem_cons_of_mem _ hu)) (by omega)⟩
 | z=>trivial
 | _=>exact h _ (by simp [Tr.alts])
theorem hc_row {x y:Tr} (hx:x.hc) (hy:y.hc):(row x y).hc:=by
 induction x generalizing y with
 | z=>trivial
 | e=>exact hy
 | s p q ihp ihq =>
  by_cases h1:y.isZ=true
  ·rw [isZ_eq h1,row_z];trivial
  ·by_cases h2:y.isE=true
   ·rw [isE_eq h2,row_e];exact hx
   ·rw [row_s (by simpa using h1) (by simpa using h2)]
    exact ihp hx.1 (ihq hx.2 hy)
 | _ =>
  by_cases h1:y.isZ=true
  ·rw [isZ_eq h1,row_z];trivial
  ·by_cases h2:y.isE=true
   ·rw [isE_eq h2,row_e];exact hx
   ·rw [row_o (by simpa using h1) (by simpa using h2) rfl rfl rfl];exact ⟨hx,hy⟩
theorem len_le {l l':List Tr} (hn:l.Nodup) (hs:∀ x ∈ l,x ∈ l'):l.length≤l'.length:=by
 induction l generalizing l' with
 | nil=>simp
 | cons x l ih =>
  obtain ⟨a,b,rfl⟩:=List.append_of_mem (hs x (List.mem_cons_self ..))
  have:=ih (l':=a++b) (List.nodup_cons.1 hn).2 (fun y hy=>by
   have h1:=hs y (List.mem_cons_of_mem _ hy)
   rw [List.mem_append,List.mem_cons] at h1
   rw [List.mem_append]
   rcases h1 with k | rfl | k
   ·exact Or.inl k
   ·exact absurd hy (List.nodup_cons.1 hn).1
   ·exact Or.inr k)
  simp at this ⊢;omega
theorem hc_in {t:Tr} (ht:t.ok) {F:List Tr} (hF:∀ x ∈ F,x.hc) (hl:F.length≤10000000) (h:∀ u ∈ t.alts,u ∈ F):t.hc :=
 hc_of (fun u hu=>hF u (h u hu)) (Nat.le_trans (len_le ht.srt.nodup h) hl)
end Tr
namespace Tr
inductive Sg where | no | st | pl | op
def Sg.runs:Sg→Bool | .st | .pl=>true | _=>false
def sg:Sg→Tr→Tr
 | .no,t=>t
 | .st,t=>many t
 | .pl,t=>row t (many t)
 | .op,t=>either t .e
def pt (x:Nat × Sg):Tr:=sg x.2 (.c x.1)
def tl (x:Nat × Sg):Tr:=if x.2.runs=true then .m (.c x.1) else .e
def has (n:Nat) (v:List Nat):Prop:=∀ k ∈ v,n.testBit k=true
def run (x:Nat × Sg) (v:List Nat):Prop:=v ≠ []∧has x.1 v∧(x.2.runs=true∨v.length=1)
def lx (x:Nat × Sg) (u:List Nat):Prop:=has x.1 u∧(match x.2 with | .no=>u.length=1 | .op=>u.length≤1 | .st=>True | .pl=>1≤u.length)
theorem has_cons {n k:Nat} {v:List Nat}:has n (k :: v)↔n.testBit k=true∧has n v:=by simp [has]
theorem has_nil {n:Nat}:has n []:=by simp [has]
theorem c_ok {n:Nat} (h:n<256):(Tr.c n).ok:=h
theorem m_ok {n:Nat} (h:n<256):(Tr.m (.c n)).ok:=⟨h,rfl,rfl,rfl⟩
theorem op_eq (n:Nat) (h:n<256):either (.c n) .e=.a .e (.c n):=by
 have h1:=either_ok (c_ok h) (show Tr.e.ok from trivial)
 refine ext h1.1 ⟨trivial,h,⟨rfl,rfl⟩,rfl,?_⟩ fun u=>?_
 ·intro u hu
  simp [alts] at hu;subst hu
  simp [fm,fmG,ltL,Op.bytesLess]
 ·rw [h1.2];simp [alts];exact Or.comm
theorem pt_ok {x:Nat × Sg} (h:x.1<256):(pt x).ok∧(pt x).isZ=false∧(pt x).isE=false∧(pt x).wt≤14:=by
 have hi:(itoaL x.1).length≤3:=by unfold itoaL;split <;> (try split) <;> simp
 obtain ⟨n,s⟩:=x
 have hi:(itoaL n).length≤3:=hi
 cases s with
 | no=>exact ⟨h,rfl,rfl,by simp [pt,sg,wt,fm,fmG];omega⟩
 | st=>exact ⟨m_ok h,rfl,rfl,by simp [pt,sg,many,wt,fm,fmG];omega⟩
 | pl=>exact ⟨⟨h,m_ok h,rfl,rfl,rfl,rfl,rfl⟩,rfl,rfl,by simp [pt,sg,many,row,wt,fm,fmG];omega⟩
 | op =>
  have e:pt (n,.op)=.a .e (.c n):=op_eq n h
  rw [e]
  refine ⟨⟨trivial,h,⟨rfl,rfl⟩,rfl,?_⟩,rfl,rfl,by simp [wt,fm,fmG];omega⟩
  intro u hu
  simp [alts] at hu;subst hu
  simp [fm,fmG,ltL,Op.bytesLess]
theorem tl_ok {x:Nat × Sg} (h:x.1<256):(tl x).ok∧(tl x).isZ=false∧(tl x).wt≤7:=by
 have hi:(itoaL x.1).length≤3:=by unfold itoaL;split <;> (try split) <;> simp
 unfold tl;split
 ·exact ⟨m_ok h,rfl,by simp [wt,fm,fmG];omega⟩
 ·exact ⟨trivial,rfl,by simp [wt,fm,fmG]⟩
theorem der_star {n:Nat} (hn:n<256) {R:Tr} (hR:R.ok) (hz:R.isZ=false) (u:Tr):∀ v,u ∈ ((row (.m (.c n)) R).der v).alts↔(has n v∧u ∈ (row (.m (.c n)) R).alts)∨∃ u0 v',v=u0++v'∧v' ≠ []∧has n u0∧u ∈ (R.der v').alts:=by
 have ho:=(row_ok (m_ok hn) hR).1
 have step:∀ k u,u ∈ ((row (.m (.c n)) R).beh k).alts↔(n.testBit k=true∧u ∈ (row (.m (.c n)) R).alts)∨u ∈ (R.beh k).alts:=by
  intro k u
  by_cases he:R.isE=true
  ·rw [isE_eq he,row_e]
   show u ∈ (row (if n.testBit k=true then .e else .z) (.m (.c n))).alts↔_
   split
   ·rename_i h;simp [row,beh,alts,h]
   ·rename_i h;simp [row,beh,alts,h]
  ·rw [row_o hz (by simpa using he) rfl rfl rfl]
   show u ∈ (either (row (row (if n.testBit k=true then .e else .z) (.m (.c n))) R) (R.beh k)).alts↔_
   rw [(either_ok (row_ok (row_ok (by split <;> trivial) (m_ok hn)).1 hR).1 (beh_ok hR k)).2]
   split
   ·rename_i h
    rw [show row (.e) (.m (.c n))=.m (.c n) from rfl,row_o hz (by simpa using he) rfl rfl rfl];simp [h]
   ·rename_i h
    simp [row,alts,h]
 intro v
 induction v with
 | nil=>simp [der,has]
 | cons k v ih =>
  show u ∈ (((row (.m (.c n)) R).beh k).der v).alts↔_
  rw [der_alts (beh_ok ho k)]
  constructor
  ·rintro ⟨x,hx,hu⟩
   rcases (step k x).1 hx with ⟨hk,hx⟩ | hx
   ·rcases ih.1 ((der_alts ho v u).2 ⟨x,hx,hu⟩) with ⟨h1,h2⟩ | ⟨u0,v',rfl,h1,h2,h3⟩
    ·exact Or.inl ⟨has_cons.2 ⟨hk,h1⟩,h2⟩
    ·exact Or.inr ⟨k :: u0,v',rfl,h1,has_cons.2 ⟨hk,h2⟩,h3⟩
   ·refine Or.inr ⟨[],k :: v,rfl,by simp,has_nil,?_⟩
    show u ∈ ((R.beh k).der v).alts
    rw [der_alts (beh_ok hR k)];exact ⟨x,hx,hu⟩
  ·rintro (⟨h1,h2⟩ | ⟨u0,v',e,h1,h2,h3⟩)
   ·rw [has_cons] at h1
    obtain ⟨x,hx,hu⟩:=(der_alts ho v u).1 (ih.2 (Or.inl ⟨h1.2,h2⟩))
    exact ⟨x,(step k x).2 (Or.inl ⟨h1.1,hx⟩),hu⟩
   ·cases u0 with
    | nil =>
     simp at e;subst e
     have h3:u ∈ ((R.beh k).der v).alts:=h3
     rw [der_alts (beh_ok hR k)] at h3
     obtain ⟨x,hx,hu⟩:=h3
     exact ⟨x,(step k x).2 (Or.inr hx),hu⟩
    | cons j u0 =>
     simp at e;obtain ⟨rfl,rfl⟩:=e
     rw [has_cons] at h2
     obtain ⟨x,hx,hu⟩:=(der_alts ho _ u).1 (ih.2 (Or.inr ⟨u0,v',rfl,h1,h2.2,h3⟩))
     exact ⟨x,(step k x).2 (Or.inl ⟨h2.1,hx⟩),hu⟩
theorem der_char {n:Nat} {R:Tr} (hz:R.isZ=false) (u:Tr) (k:Nat) (v:List Nat):u ∈ ((row (.c n) R).der (k :: v)).alts↔n.testBit k=true∧u ∈ (R.der v).alts:=by
 have e:(row (.c n) R).beh k=if n.testBit k=true then R else .z:=by
  by_cases he:R.isE=true
  ·rw [isE_eq he,row_e];rfl
  ·rw [row_o hz (by simpa using he) rfl rfl rfl]
   show (if (Tr.c n).emp=true then either (row (if n.testBit k=true then .e else .z) R) (R.beh k) else row (if n.testBit k=true then .e else .z) R)=_
   rw [if_neg (by simp [emp])]
   split <;> rfl
 show u ∈ (((row (.c n) R).beh k).der v).alts↔_
 rw [e]
 split
 ·rename_i h;simp [h]
 ·rename_i h;rw [der_z];simp [alts,h]
theorem der_pt {x:Nat × Sg} (hn:x.1<256) {R:Tr} (hR:R.ok) (hz:R.isZ=false) (u:Tr) (v:List Nat) (hv:v ≠ []) :
  u ∈ ((row (pt x) R).der v).alts↔(run x v∧u ∈ (row (tl x) R).alts)∨∃ u0 v',v=u0++v'∧v' ≠ []∧lx x u0∧u ∈ (R.der v').alts:=by
 obtain ⟨n,s⟩:=x
 cases s with
 | st =>
  show u ∈ ((row (.m (.c n)) R).der v).alts↔_
  rw [der_star hn hR hz]
  simp [run,lx,tl,Sg.runs,hv]
 | no =>
  cases v with
  | nil=>exact absurd rfl hv
  | cons k v =>
   show u ∈ ((row (.c n) R).der (k :: v)).alts↔_
   rw [der_char hz]
   constructor
   ·rintro ⟨h1,h2⟩
    cases v with
    | nil=>exact Or.inl ⟨⟨by simp,by simp [has,h1],Or.inr rfl⟩,h2⟩
    | cons j v=>exact Or.inr ⟨[k],j :: v,rfl,by simp,⟨by simp [has,h1],rfl⟩,h2⟩
   ·rintro (⟨⟨_,h1,h2⟩,h3⟩ | ⟨u0,v',e,h1,⟨h2,h3⟩,h4⟩)
    ·rcases h2 with h2 | h2
     ·simp [Sg.runs] at h2
     ·simp at h2;subst h2
      exact ⟨h1 k (by simp),h3⟩
    ·match u0,h3 with
     | [j],_=>simp at e;obtain ⟨rfl,rfl⟩:=e;exact ⟨h2 k (by simp),h4⟩
 | pl =>
  cases v with
  | nil=>exact absurd rfl hv
  | cons k v =>
   have e:row (pt (n,.pl)) R=row (.c n) (row (.m (.c n)) R):=row_assoc (c_ok hn) (m_ok hn) hR
   rw [e]
   have ho:=row_ok (m_ok hn) hR
   rw [der_char (ho.2 rfl hz).1,der_star hn hR hz]
   constructor
   ·rintro ⟨h1,⟨h2,h3⟩ | ⟨u0,v',rfl,h2,h3,h4⟩⟩
    ·exact Or.inl ⟨⟨by simp,has_cons.2 ⟨h1,h2⟩,Or.inl rfl⟩,h3⟩
    ·exact Or.inr ⟨k :: u0,v',rfl,h2,⟨has_cons.2 ⟨h1,h3⟩,by simp⟩,h4⟩
   ·rintro (⟨⟨_,h1,_⟩,h3⟩ | ⟨u0,v',e,h1,⟨h2,h3⟩,h4⟩)
    ·exact ⟨(has_cons.1 h1).1,Or.inl ⟨(has_cons.1 h1).2,h3⟩⟩
    ·cases u0 with
     | nil=>simp at h3
     | cons j u0 =>
      simp at e;obtain ⟨rfl,rfl⟩:=e
      exact ⟨(has_cons.1 h2).1,Or.inr ⟨u0,v',rfl,h1,(has_cons.1 h2).2,h4⟩⟩
 | op =>
  cases v with
  | nil=>exact absurd rfl hv
  | cons k v =>
   have e:pt (n,.op)=.a .e (.c n):=op_eq n hn
   have step:∀ u,u ∈ ((row (pt (n,.op)) R).beh k).alts↔(n.testBit k=true∧u ∈ R.alts)∨u ∈ (R.beh k).alts:=by
    intro u
    rw [e]
    have eb:(Tr.a .e (.c n)).beh k=if n.testBit k=true then .e else .z:=by
     show either .z (if n.testBit k=true then .e else .z)=_
     split <;> rfl
    by_cases he:R.isE=true
    ·rw [isE_eq he,row_e,eb]
     split
     ·rename_i h;simp [h,beh,alts]
     ·rename_i h;simp [h,beh,alts]
    ·rw [row_o hz (by simpa using he) rfl rfl rfl]
     show u ∈ (if (Tr.a .e (.c n)).emp=true then either (row ((Tr.a .e (.c n)).beh k) R) (R.beh k) else row ((Tr.a .e (.c n)).beh k) R).alts↔_
     rw [if_pos (show (Tr.a .e (.c n)).emp=true from rfl),eb,(either_ok (row_ok (by split <;> trivial) hR).1 (beh_ok hR k)).2]
     split
     ·rename_i h;simp [h,row]
     ·rename_i h;simp [h,row,alts]
   have ho:=(row_ok (pt_ok (x:=(n,.op)) hn).1 hR).1
   show u ∈ (((row (pt (n,.op)) R).beh k).der v).alts↔_
   rw [der_alts (beh_ok ho k)]
   constructor
   ·rintro ⟨y,hy,hu⟩
    rcases (step y).1 hy with ⟨h1,hy⟩ | hy
    ·have hu:=(der_alts hR v u).2 ⟨y,hy,hu⟩
     cases v with
     | nil=>exact Or.inl ⟨⟨by simp,by simp [has,h1],Or.inr rfl⟩,hu⟩
     | cons j v=>exact Or.inr ⟨[k],j :: v,rfl,by simp,⟨by simp [has,h1],by simp⟩,hu⟩
    ·refine Or.inr ⟨[],k :: v,rfl,by simp,⟨has_nil,by simp⟩,?_⟩
     show u ∈ ((R.beh k).der v).alts
     rw [der_alts (beh_ok hR k)];exact ⟨y,hy,hu⟩
   ·rintro (⟨⟨_,h1,h2⟩,h3⟩ | ⟨u0,v',e,h1,⟨h2,h3⟩,h4⟩)
    ·rcases h2 with h2 | h2
     ·simp [Sg.runs] at h2
     ·simp at h2;subst h2
      have h3:u ∈ R.alts:=h3
      refine ⟨u,(step u).2 (Or.inl ⟨h1 k (by simp),h3⟩),?_⟩
      show u ∈ u.alts
      rw [alts_one (hR.srt.2 u h3).2];simp
    ·match u0,h3 with
     | [],_ =>
      simp at e;subst e
      have h4:u ∈ ((R.beh k).der v).alts:=h4
      rw [der_alts (beh_ok hR k)] at h4
      obtain ⟨y,hy,hu⟩:=h4
      exact ⟨y,(step y).2 (Or.inr hy),hu⟩
     | [j],_ =>
      simp at e;obtain ⟨rfl,rfl⟩:=e
      obtain ⟨y,hy,hu⟩:=(der_alts hR _ u).1 h4
      exact ⟨y,(step y).2 (Or.inl ⟨h2 k (by simp),hy⟩),hu⟩
     | _ :: _ :: _,h3=>simp at h3
end Tr
namespace Tr
theorem pcs_of {t:Tr} (ht:t.ok) {ts:List Tr} (hts:∀ x ∈ ts,x.ok) (h:∀ v u,u ∈ (t.der v).alts↔∃ x ∈ ts,u ∈ (x.der v).alts) (v:List Nat):∀ g ∈ t.pcs v,g=.z∨g=t.der v∨∃ x ∈ ts,g ∈ x.pcs v:=by
 induction v using rev_rec with
 | h0=>intro g hg;simp [pcs] at hg;exact Or.inr (Or.inl hg)
 | h1 w k ih =>
  intro g hg
  obtain ⟨g0,hg0,hg⟩:=(pcs_snoc _ _ _ _).1 hg
  rcases ih g0 hg0 with rfl | h0 | ⟨x,hx,h0⟩
  ·rw [pstep_z] at hg;simp at hg;exact Or.inl hg
  ·by_cases hs:g0.isS=true
   ·obtain ⟨p,q,e⟩:=isS_eq hs
    have h1:(t.der w).one:=by rw [← h0,e];exact one_s
    have hm:t.der w ∈ (t.der w).alts:=by rw [alts_one h1];simp
    obtain ⟨x,hx,hm⟩:=(h w _).1 hm
    have e2:x.der w=t.der w:=only (der_ok ht w) (der_ok (hts x hx) w) h1 (fun u hu=>by
     have:=(h w u).2 ⟨x,hx,hu⟩
     rw [alts_one h1] at this;simpa using this) (isZ_alts hm)
    refine Or.inr (Or.inr ⟨x,hx,(pcs_snoc _ _ _ _).2 ⟨g0,?_,hg⟩⟩)
    rw [h0,← e2];apply whole_pcs (hts x hx);rw [e2];exact h1
   ·rw [pstep_o (by simpa using hs)] at hg
    simp at hg
    right;left;rw [hg,h0,der_snoc]
  ·exact Or.inr (Or.inr ⟨x,hx,(pcs_snoc _ _ _ _).2 ⟨g0,h0,hg⟩⟩)
theorem Kov.of {t:Tr} (ht:t.ok) {ts:List Tr} (hts:∀ x ∈ ts,x.ok) (h:∀ v u,u ∈ (t.der v).alts↔∃ x ∈ ts,u ∈ (x.der v).alts) {w:List Nat} {V:List Tr} (hk:∀ x ∈ ts,Kov x w V) (hw:Who t w V):Kov t w V:=by
 intro v h1 h2 g hg
 rcases pcs_of ht hts h v g hg with e | rfl | ⟨x,hx,k⟩
 ·exact Or.inl e
 ·exact hw v h1 h2
 ·exact hk x hx v h1 h2 g k
theorem who_of {t:Tr} (ht:t.ok) {w:List Nat} {x:Tr} (hx:x.ok) (h1:x.one) (h:∀ v,v ≠ []→v <:+ w→∀ u ∈ (t.der v).alts,u=x):Who t w [x]:=by
 intro v n1 n2
 by_cases hz:(t.der v).isZ=true
 ·exact Or.inl (isZ_eq hz)
 ·right
  rw [only hx (der_ok ht v) h1 (h v n1 n2) (by simpa using hz)];simp
theorem kov_c (n:Nat) (w:List Nat):Kov (.c n) w [.e]:=by
 intro v h1 _ g hg
 rcases pcs_c n v h1 g hg with e | e
 ·exact Or.inl e
 ·exact Or.inr (by simp [e])
theorem alts_c {n:Nat} {v:List Nat} (h1:v ≠ []) (u:Tr) (hu:u ∈ ((Tr.c n).der v).alts):u=.e:=by
 cases v with
 | nil=>exact absurd rfl h1
 | cons k v =>
  have:=(der_char (n:=n) (R:=.e) rfl u k v).1 (by rw [row_e];exact hu)
  cases v with
  | nil=>simpa [der,alts] using this.2
  | cons j v =>
   have h2:=this.2
   have e:Tr.e.der (j :: v)=.z:=der_z v
   rw [e] at h2;simp [alts] at h2
theorem der_e {v:List Nat} (h:v ≠ []):Tr.e.der v=.z:=by
 cases v with
 | nil=>exact absurd rfl h
 | cons k v=>exact der_z v
theorem kov_pt {x:Nat × Sg} (hx:x.1<256) (w:List Nat):Kov (pt x) w [tl x]:=by
 obtain ⟨n,s⟩:=x
 have hw:Who (.c n) w [.e]:=who_of (c_ok hx) (x:=.e) trivial ⟨rfl,rfl⟩ (fun v h1 _ u hu=>alts_c h1 u hu)
 have hm:Kov (.m (.c n)) w [.m (.c n)]:=(kov_c n w).m (m_ok hx) hw
 cases s with
 | no=>exact kov_c n w
 | st=>exact hm
 | pl =>
  have:=(kov_c n w).row (c_ok hx) (m_ok hx) hm
  refine this.sub ?_
  intro y hy
  simp [row] at hy
  simp [tl,Sg.runs,hy]
 | op =>
  have ho:=either_ok (c_ok hx) (show Tr.e.ok from trivial)
  refine (kov_c n w).either (c_ok hx) (y:=.e) trivial ?_ ?_
  ·intro v h1 _ g hg;exact Or.inl (pcs_e v h1 g hg)
  ·refine who_of ho.1 (x:=.e) trivial ⟨rfl,rfl⟩ ?_
   intro v h1 _ u hu
   rcases (der_either (c_ok hx) (y:=.e) trivial v u).1 hu with k | k
   ·exact alts_c h1 u k
   ·rw [der_e h1] at k;simp [alts] at k
abbrev Pos:=(List Nat→Prop) × Tr
def rowT:List (Nat × Sg)→Tr
 | []=>.e
 | x :: xs=>row (pt x) (rowT xs)
def posR:List (Nat × Sg)→List Pos
 | []=>[]
 | x :: xs=>(run x,row (tl x) (rowT xs)) :: (posR xs).map fun p=>(fun v=>∃ u0 v',v=u0++v'∧v' ≠ []∧lx x u0∧p.1 v',p.2)
def lowR (r:List (Nat × Sg)):Prop:=∀ x ∈ r,x.1<256
theorem lowR.tail {x:Nat × Sg} {r:List (Nat × Sg)} (h:lowR (x :: r)):lowR r:=fun y hy=>h y (List.mem_cons_of_mem _ hy)
theorem lowR.head {x:Nat × Sg} {r:List (Nat × Sg)} (h:lowR (x :: r)):x.1<256:=h x (List.mem_cons_self ..)
theorem rowT_ok {r:List (Nat × Sg)} (h:lowR r):(rowT r).ok∧(rowT r).isZ=false∧(rowT r).wt+2≤16 * r.length+3∧(r ≠ []→(rowT r).wt+2≤16 * r.length):=by
 induction r with
 | nil=>exact ⟨trivial,rfl,by decide,fun h=>absurd rfl h⟩
 | cons x r ih =>
  obtain ⟨i1,i2,i3,i4⟩:=ih h.tail
  have hp:=pt_ok h.head
  have ho:=row_ok hp.1 i1
  have hwt:(rowT (x :: r)).wt+2≤16 * (x :: r).length:=by
   have:=wt_row (pt x) (rowT r)
   have e:rowT (x :: r)=row (pt x) (rowT r):=rfl
   by_cases hr:r=[]
   ·subst hr
    have e2:rowT [x]=pt x:=row_e _
    rw [e2];simp;omega
   ·have:=i4 hr
    rw [e];simp only [List.length_cons];omega
  exact ⟨ho.1,(ho.2 hp.2.1 i2).1,by omega,fun _=>hwt⟩
theorem posR_ok {r:List (Nat × Sg)} (h:lowR r):∀ p ∈ posR r,p.2.ok∧p.2.isZ=false:=by
 induction r with
 | nil=>intro p hp;cases hp
 | cons x r ih =>
  intro p hp
  rcases List.mem_cons.1 hp with rfl | hp
  ·have ht:=tl_ok h.head
   have hr:=rowT_ok h.tail
   have:=row_ok ht.1 hr.1
   exact ⟨this.1,(this.2 ht.2.1 hr.2.1).1⟩
  ·obtain ⟨q,hq,rfl⟩:=List.mem_map.1 hp
   exact ih h.tail q hq
theorem der_rowT {r:List (Nat × Sg)} (h:lowR r) (v:List Nat) (hv:v ≠ []) (u:Tr):u ∈ ((rowT r).der v).alts↔∃ p ∈ posR r,p.1 v∧u ∈ p.2.alts:=by
 induction r generalizing v with
 | nil=>show u ∈ (Tr.e.der v).alts↔_;rw [der_e hv];simp [alts,posR]
 | cons x r ih =>
  have hr:=rowT_ok h.tail
  show u ∈ ((row (pt x) (rowT r)).der v).alts↔_
  rw [der_pt h.head hr.1 hr.2.1 u v hv]
  simp only [posR,List.mem_cons,exists_eq_or_imp,List.mem_map]
  constructor
  ·rintro (k | ⟨u0,v',e,h1,h2,h3⟩)
   ·exact Or.inl k
   ·obtain ⟨p,hp,h4,h5⟩:=(ih h.tail v' h1).1 h3
    exact Or.inr ⟨_,⟨p,hp,rfl⟩,⟨u0,v',e,h1,h2,h4⟩,h5⟩
  ·rintro (k | ⟨q,⟨p,hp,rfl⟩,⟨u0,v',e,h1,h2,h4⟩,h5⟩)
   ·exact Or.inl k
   ·exact Or.inr ⟨u0,v',e,h1,h2,(ih h.tail v' h1).2 ⟨p,hp,h4,h5⟩⟩
theorem kov_rowT {r:List (Nat × Sg)} (h:lowR r) (w:List Nat):Kov (rowT r) w ((posR r).map fun p=>p.2):=by
 induction r with
 | nil=>intro v h1 _ g hg;exact Or.inl (pcs_e v h1 g hg)
 | cons x r ih =>
  have hr:=rowT_ok h.tail
  have:=(kov_pt h.head w).row (pt_ok h.head).1 hr.1 (ih h.tail)
  refine this.sub ?_
  intro y hy
  simp only [posR,List.map_cons,List.mem_cons,List.map_map]
  rcases List.mem_append.1 hy with k | k
  ·simp at k;exact Or.inl k
  ·obtain ⟨p,hp,rfl⟩:=List.mem_map.1 k
   exact Or.inr (List.mem_map.2 ⟨p,hp,rfl⟩)
def ctT:List (List (Nat × Sg))→Tr
 | []=>.z
 | r :: rs=>either (rowT r) (ctT rs)
def posC (rs:List (List (Nat × Sg))):List Pos:=rs.flatMap posR
def lowC (rs:List (List (Nat × Sg))):Prop:=∀ r ∈ rs,lowR r∧r ≠ []
theorem lowC.tail {r:List (Nat × Sg)} {rs:List (List (Nat × Sg))} (h:lowC (r :: rs)):lowC rs:=fun y hy=>h y (List.mem_cons_of_mem _ hy)
theorem ctT_ok {rs:List (List (Nat × Sg))} (h:lowC rs):(ctT rs).ok:=by
 induction rs with
 | nil=>trivial
 | cons r rs ih=>exact (either_ok (rowT_ok (h r (List.mem_cons_self ..)).1).1 (ih h.tail)).1
theorem ctT_rows {rs:List (List (Nat × Sg))} (h:lowC rs) (v:List Nat) (u:Tr):u ∈ ((ctT rs).der v).alts↔∃ x ∈ rs.map rowT,u ∈ (x.der v).alts:=by
 induction rs with
 | nil=>show u ∈ (Tr.z.der v).alts↔_;rw [der_z];simp [alts]
 | cons r rs ih =>
  show u ∈ ((either (rowT r) (ctT rs)).der v).alts↔_
  rw [der_either (rowT_ok (h r (List.mem_cons_self ..)).1).1 (ctT_ok h.tail),ih h.tail]
  simp
theorem der_ctT {rs:List (List (Nat × Sg))} (h:lowC rs) (v:List Nat) (hv:v ≠ []) (u:Tr):u ∈ ((ctT rs).der v).alts↔∃ p ∈ posC rs,p.1 v∧u ∈ p.2.alts:=by
 rw [ctT_rows h]
 simp only [List.mem_map,posC,List.mem_flatMap]
 constructor
 ·rintro ⟨x,⟨r,hr,rfl⟩,hu⟩
  obtain ⟨p,hp,k⟩:=(der_rowT (h r hr).1 v hv u).1 hu
  exact ⟨p,⟨r,hr,hp⟩,k⟩
 ·rintro ⟨p,⟨r,hr,hp⟩,k⟩
  exact ⟨_,⟨r,hr,rfl⟩,(der_rowT (h r hr).1 v hv u).2 ⟨p,hp,k⟩⟩
theorem posC_ok {rs:List (List (Nat × Sg))} (h:lowC rs):∀ p ∈ posC rs,p.2.ok∧p.2.isZ=false:=by
 intro p hp
 obtain ⟨r,hr,hp⟩:=List.mem_flatMap.1 hp
 exact posR_ok (h r hr).1 p hp
def D (S:List Pos):Tr:=can (S.flatMap fun p=>p.2.alts)
theorem D_mem {S:List Pos} (h:∀ p ∈ S,p.2.ok):∀ x ∈ S.flatMap (fun p=>p.2.alts),x.ok∧x.one:=by
 intro x hx
 obtain ⟨p,hp,hx⟩:=List.mem_flatMap.1 hx
 exact (h p hp).srt.2 x hx
theorem D_ok {S:List Pos} (h:∀ p ∈ S,p.2.ok):(D S).ok∧∀ u,u ∈ (D S).alts↔∃ p ∈ S,u ∈ p.2.alts:=by
 have:=can_ok (D_mem h)
 exact ⟨this.1,fun u=>by rw [show D S=can _ from rfl,this.2,List.mem_flatMap]⟩
def szP (S:List Pos):Nat:=(S.map fun p=>p.2.wt+1).sum
theorem D_wt {S:List Pos} (h:∀ p ∈ S,p.2.ok):(D S).wt≤szP S+2:=by
 have h1:=can_wt (D_mem h)
 have:sz (S.flatMap fun p=>p.2.alts)≤szP S:=by
  clear h1
  induction S with
  | nil=>simp [sz,szP]
  | cons p S ih =>
   have:=ih (fun q hq=>h q (List.mem_cons_of_mem _ hq))
   have h2:=(wt_alts (h p (List.mem_cons_self ..))).2
   have e:szP (p :: S)=p.2.wt+1+szP S:=by simp [szP]
   rw [List.flatMap_cons,sz_app,e]
   omega
 show (can _).wt≤_
 omega
theorem der_D {rs:List (List (Nat × Sg))} (h:lowC rs) (v:List Nat) (hv:v ≠ []) (S:List Pos) (hS:∀ p,p ∈ S↔p ∈ posC rs∧p.1 v):(ctT rs).der v=D S:=by
 have ho:∀ p ∈ S,p.2.ok:=fun p hp=>(posC_ok h p ((hS p).1 hp).1).1
 refine ext (der_ok (ctT_ok h) v) (D_ok ho).1 fun u=>?_
 rw [der_ctT h v hv,(D_ok ho).2]
 constructor
 ·rintro ⟨p,h1,h2,h3⟩;exact ⟨p,(hS p).2 ⟨h1,h2⟩,h3⟩
 ·rintro ⟨p,h1,h3⟩;exact ⟨p,((hS p).1 h1).1,((hS p).1 h1).2,h3⟩
theorem D_one {p:Pos} (h:p.2.ok):D [p]=p.2:=by
 have h1:∀ q ∈ [p],q.2.ok:=by intro q hq;simp at hq;subst hq;exact h
 refine ext (D_ok h1).1 h fun u=>?_
 rw [(D_ok h1).2];simp
theorem kov_ctT {rs:List (List (Nat × Sg))} (h:lowC rs) (w:List Nat) (V:List Tr) (hw:Who (ctT rs) w V) (hV:∀ p ∈ posC rs,p.2 ∈ V):Kov (ctT rs) w V:=by
 refine Kov.of (ctT_ok h) (ts:=rs.map rowT) ?_ (ctT_rows h) ?_ hw
 ·intro x hx;obtain ⟨r,hr,rfl⟩:=List.mem_map.1 hx;exact (rowT_ok (h r hr).1).1
 ·intro x hx
  obtain ⟨r,hr,rfl⟩:=List.mem_map.1 hx
  refine (kov_rowT (h r hr).1 w).sub ?_
  intro y hy
  obtain ⟨p,hp,rfl⟩:=List.mem_map.1 hy
  exact hV p (List.mem_flatMap.2 ⟨r,hr,hp⟩)
def altsP (S:List Pos):List Tr:=S.flatMap fun p=>p.2.alts
theorem pt_hc {x:Nat × Sg} (hx:x.1<256):(pt x).hc:=by
 obtain ⟨n,s⟩:=x
 cases s with
 | no=>trivial
 | st=>trivial
 | pl=>exact ⟨trivial,trivial⟩
 | op =>
  have e:pt (n,.op)=.a .e (.c n):=op_eq n hx
  rw [e];exact ⟨by simp [alts],trivial,trivial⟩
theorem tl_hc (x:Nat × Sg):(tl x).hc:=by unfold tl;split <;> trivial
theorem rowT_hc {r:List (Nat × Sg)} (h:lowR r):(rowT r).hc:=by
 induction r with
 | nil=>trivial
 | cons x r ih=>exact hc_row (pt_hc h.head) (ih h.tail)
theorem posR_hc {r:List (Nat × Sg)} (h:lowR r):∀ p ∈ posR r,p.2.hc:=by
 induction r with
 | nil=>intro p hp;cases hp
 | cons x r ih =>
  intro p hp
  rcases List.mem_cons.1 hp with rfl | hp
  ·exact hc_row (tl_hc x) (rowT_hc h.tail)
  ·obtain ⟨q,hq,rfl⟩:=List.mem_map.1 hp
   exact ih h.tail q hq
theorem altsP_hc {rs:List (List (Nat × Sg))} (h:lowC rs):∀ u ∈ altsP (posC rs),u.hc:=by
 intro u hu
 obtain ⟨p,hp,hu⟩:=List.mem_flatMap.1 hu
 obtain ⟨r,hr,hp⟩:=List.mem_flatMap.1 hp
 exact (posR_hc (h r hr).1 p hp).alts u hu
end Tr
end Go.Proofs.YtodagkkjfipbgaaGreatDoor
