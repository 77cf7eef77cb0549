import Derived.Test.YtodagkkjfipbgaaGreatDoorW20toA29
namespace Go.Proofs.YtodagkkjfipbgaaGreatDoor
open Go.RowKit Go.Maps
def rowM:List (List Nat→Prop)→List Nat→Prop
 | [],w=>w=[]
 | P :: r,w=>∃ u v,w=u++v∧P u∧rowM r v
def mtP:Nat→Px→List Nat→Prop
 | 0,_,w=>w=[]
 | d+1,x,w =>
  if x.what=0 then (if x.k=0 then w=[] else ∃ j,w=[j]∧x.k.testBit j=true)
  else if x.what=1 then rowM (x.l.map (mtP d)) w
  else if x.what=2 then ∃ y ∈ x.l,mtP d y w
  else match x.l with
   | [y]=>if x.what=3 then Tr.Str (mtP d y) w else ∃ u v,w=u++v∧mtP d y u∧Tr.Str (mtP d y) v
   | _=>w=[]
inductive Pth (F:List St):Nat→Nat→List Nat→Nat→Prop where
 | nil (q:Nat):Pth F 0 q [] q
 | eps {n q z t:Nat} {w l:List Nat} (h:F[q]?=some (0,l)) (hz:z ∈ l) (r:Pth F n z w t):Pth F (n+1) q w t
 | one {n q z t k j:Nat} {w l:List Nat} (h:F[q]?=some (k,l)) (hk:k.testBit j=true) (hz:z ∈ l) (r:Pth F n z w t):Pth F (n+1) q (j :: w) t
theorem Pth.app {F:List St} {n m q z t:Nat} {u v:List Nat} (h:Pth F n q u z) (k:Pth F m z v t):∃ r,Pth F r q (u++v) t:=by
 induction h with
 | nil q=>exact ⟨m,k⟩
 | eps h hz _ ih=>obtain ⟨r,hr⟩:=ih k;exact ⟨r+1,Pth.eps h hz hr⟩
 | one h hk hz _ ih=>obtain ⟨r,hr⟩:=ih k;exact ⟨r+1,Pth.one h hk hz hr⟩
theorem leadS_get (S:List St) (f t i:Nat):(leadS S f t)[i]?=if f=i then (S[i]?).map (fun s=>(s.1,s.2++[t])) else S[i]?:=by
 unfold leadS
 rw [List.getElem?_modify]
 by_cases h:f=i
 ·simp [h]
 ·simp only [if_neg h]
  cases S[i]? <;> rfl
theorem mk_len (d:Nat) (x:Px) (S:List St) (b:Nat):S.length≤(mk d x S b).1.length:=(mk_adds d x S b).1
def Lies (d:Nat) (y:Px) (b:Nat) (R:List St) (lo z:Nat):Prop:=∃ Z,lo≤Z.length∧(mk d y Z b).1.length≤R.length∧z=(mk d y Z b).2∧∀ i,Z.length≤i→i<(mk d y Z b).1.length→R[i]?=(mk d y Z b).1[i]?
def eitherF (d b e:Nat) (l:List Px) (Z:List St):List St:=l.foldl (fun Z y=>leadS (mk d y Z b).1 e (mk d y Z b).2) Z
theorem Lies.turn {d b lo z lo':Nat} {y:Px} {R R':List St} (h:Lies d y b R lo z) (hlo:lo'≤lo) (hlen:R.length≤R'.length) (he:∀ i,lo≤i→i<R.length→R'[i]?=R[i]?):Lies d y b R' lo' z:=by
 obtain ⟨Z,h1,h2,h3,h4⟩:=h
 exact ⟨Z,by omega,by omega,h3,fun i h5 h6=>by rw [he i (by omega) (by omega)];exact h4 i h5 h6⟩
theorem either_fold (d b e:Nat) (hk:∀ (x:Px) (S:List St) (i:Nat),i<S.length→(mk d x S b).1[i]?=S[i]?):∀ (l:List Px) (Z:List St) (l0:List Nat),e<Z.length→Z[e]?=some (0,l0) →
  Z.length≤(eitherF d b e l Z).length∧(∀ i,i<Z.length→i ≠ e→(eitherF d b e l Z)[i]?=Z[i]?)∧∃ l1,(eitherF d b e l Z)[e]?=some (0,l0++l1)∧(∀ z ∈ l1,∃ y ∈ l,Lies d y b (eitherF d b e l Z) Z.length z)∧∀ y ∈ l,∃ z ∈ l1,Lies d y b (eitherF d b e l Z) Z.length z:=by
 intro l
 induction l with
 | nil=>intro Z l0 _ h;exact ⟨Nat.le_refl _,fun i _ _=>rfl,[],by simpa [eitherF] using h,by simp,by simp⟩
 | cons y l ih =>
  intro Z l0 he h
  have e1:eitherF d b e (y :: l) Z=eitherF d b e l (leadS (mk d y Z b).1 e (mk d y Z b).2):=rfl
  have hl:=mk_len d y Z b
  have hZe:(mk d y Z b).1[e]?=some (0,l0):=by rw [hk y Z e he];exact h
  have hL:(leadS (mk d y Z b).1 e (mk d y Z b).2).length=(mk d y Z b).1.length:=leadS_len _ _ _
  obtain ⟨a1,a2,l1,a3,a4,a5⟩:=ih (leadS (mk d y Z b).1 e (mk d y Z b).2) (l0++[(mk d y Z b).2]) (by omega) (by rw [leadS_get,if_pos rfl,hZe];rfl)
  rw [← e1] at a1 a2 a3 a4 a5
  have here:Lies d y b (eitherF d b e (y :: l) Z) Z.length (mk d y Z b).2:=⟨Z,Nat.le_refl _,by omega,rfl,fun i h1 h2=>by rw [a2 i (by omega) (by omega),leadS_get,if_neg (by omega)]⟩
  refine ⟨by omega,fun i h1 h2=>?_,(mk d y Z b).2 :: l1,by rw [a3];simp,?_,?_⟩
  ·rw [a2 i (by omega) h2,leadS_get,if_neg (Ne.symm h2),hk y Z i h1]
  ·intro z hz
   rcases List.mem_cons.1 hz with rfl | hz
   ·exact ⟨y,List.mem_cons_self ..,here⟩
   ·obtain ⟨y',hy',hl'⟩:=a4 z hz
    exact ⟨y',List.mem_cons_of_mem _ hy',hl'.turn (by omega) (Nat.le_refl _) fun _ _ _=>rfl⟩
  ·intro y' hy'
   rcases List.mem_cons.1 hy' with rfl | hy'
   ·exact ⟨_,List.mem_cons_self ..,here⟩
   ·obtain ⟨z,hz,hl'⟩:=a5 y' hy'
    exact ⟨z,List.mem_cons_of_mem _ hz,hl'.turn (by omega) (Nat.le_refl _) fun _ _ _=>rfl⟩
def rowFd (d:Nat) (l:List Px) (S:List St) (b:Nat):List St × Nat:=l.foldr (fun y r=>mk d y r.1 r.2) (S,b)
theorem mk_one {d:Nat} {x:Px} (h:x.what=0) (S:List St) (b:Nat):mk (d+1) x S b=(S++[(x.k,[b])],S.length):=by rw [mk,if_pos h]
theorem mk_row {d:Nat} {x:Px} (h:x.what=1) (S:List St) (b:Nat):mk (d+1) x S b=rowFd d x.l S b:=by rw [mk,if_neg (by omega),if_pos h];rfl
theorem mk_either {d:Nat} {x:Px} (h:x.what=2) (S:List St) (b:Nat):mk (d+1) x S b=(eitherF d b S.length x.l (S++[(0,[])]),S.length):=by rw [mk,if_neg (by omega),if_neg (by omega),if_pos h];rfl
def starF (d:Nat) (y:Px) (S:List St) (b:Nat):List St:=leadS (mk d y (S++[(0,[b])]) S.length).1 S.length (mk d y (S++[(0,[b])]) S.length).2
theorem mk_star {d:Nat} {x y:Px} (h0:x.what ≠ 0) (h1:x.what ≠ 1) (h2:x.what ≠ 2) (hl:x.l=[y]) (S:List St) (b:Nat):mk (d+1) x S b=(starF d y S b,if x.what=3 then S.length else (mk d y (S++[(0,[b])]) S.length).2):=by
 rw [mk,if_neg h0,if_neg h1,if_neg h2,hl];rfl
theorem mk_none {d:Nat} {x:Px} (h0:x.what ≠ 0) (h1:x.what ≠ 1) (h2:x.what ≠ 2) (hl:∀ y,x.l ≠ [y]) (S:List St) (b:Nat):mk (d+1) x S b=(S,b):=by
 rw [mk,if_neg h0,if_neg h1,if_neg h2]
 split
 ·rename_i y hy;exact absurd hy (hl y)
 ·rfl
theorem mk_keep (d:Nat):∀ (x:Px) (S:List St) (b:Nat),(∀ i,i<S.length→(mk d x S b).1[i]?=S[i]?)∧((mk d x S b).2=b∨(S.length≤(mk d x S b).2∧(mk d x S b).2<(mk d x S b).1.length)):=by
 induction d with
 | zero=>intro x S b;exact ⟨fun _ _=>rfl,Or.inl rfl⟩
 | succ d ih =>
  intro x S b
  by_cases h0:x.what=0
  ·rw [mk_one h0];exact ⟨fun i hi=>List.getElem?_append_left hi,Or.inr ⟨Nat.le_refl _,by simp⟩⟩
  by_cases h1:x.what=1
  ·rw [mk_row h1]
   generalize x.l=l
   induction l with
   | nil=>exact ⟨fun _ _=>rfl,Or.inl rfl⟩
   | cons y l ihl =>
    have e:rowFd d (y :: l) S b=mk d y (rowFd d l S b).1 (rowFd d l S b).2:=rfl
    have hlen:S.length≤(rowFd d l S b).1.length:=by
     clear ihl e
     induction l with
     | nil=>exact Nat.le_refl _
     | cons z l ihl=>exact Nat.le_trans ihl (mk_len d z _ _)
    have hy:=ih y (rowFd d l S b).1 (rowFd d l S b).2
    have hyl:=mk_len d y (rowFd d l S b).1 (rowFd d l S b).2
    rw [e]
    refine ⟨fun i hi=>by rw [hy.1 i (by omega)];exact ihl.1 i hi,?_⟩
    rcases hy.2 with q | q
    ·rw [q]
     rcases ihl.2 with p | p
     ·exact Or.inl p
     ·exact Or.inr ⟨p.1,by omega⟩
    ·exact Or.inr ⟨by omega,q.2⟩
  by_cases h2:x.what=2
  ·rw [mk_either h2]
   have:=either_fold d b S.length (fun x S i hi=>(ih x S b).1 i hi) x.l (S++[(0,[])]) [] (by simp) (by simp)
   have hl:(S++[((0:Nat),([]:List Nat))]).length=S.length+1:=by simp
   exact ⟨fun i hi=>by rw [this.2.1 i (by omega) (by omega)];exact List.getElem?_append_left hi,Or.inr ⟨Nat.le_refl _,by have:=this.1;show S.length<(eitherF d b S.length x.l (S++[(0,[])])).length;omega⟩⟩
  by_cases hl:∃ y,x.l=[y]
  ·obtain ⟨y,hl⟩:=hl
   rw [mk_star h0 h1 h2 hl]
   have hy:=ih y (S++[(0,[b])]) S.length
   have hyl:=mk_len d y (S++[(0,[b])]) S.length
   have hlS:(S++[((0:Nat),[b])]).length=S.length+1:=by simp
   have hL:(starF d y S b).length=(mk d y (S++[(0,[b])]) S.length).1.length:=leadS_len _ _ _
   refine ⟨fun i hi=>?_,?_⟩
   ·show (starF d y S b)[i]?=_
    unfold starF
    rw [leadS_get,if_neg (by omega),hy.1 i (by omega)];exact List.getElem?_append_left hi
   ·show (if x.what=3 then S.length else _)=b∨(S.length≤(if x.what=3 then S.length else _)∧(if x.what=3 then S.length else _)<(starF d y S b).length)
    right
    split
    ·exact ⟨Nat.le_refl _,by omega⟩
    ·rcases hy.2 with q | q
     ·rw [q];exact ⟨Nat.le_refl _,by omega⟩
     ·exact ⟨by omega,by omega⟩
  ·rw [mk_none h0 h1 h2 (fun y e=>hl ⟨y,e⟩)];exact ⟨fun _ _=>rfl,Or.inl rfl⟩
theorem rowFd_len (d:Nat) (l:List Px) (S:List St) (b:Nat):S.length≤(rowFd d l S b).1.length:=by
 induction l with
 | nil=>exact Nat.le_refl _
 | cons z l ihl=>exact Nat.le_trans ihl (mk_len d z _ _)
theorem rowFd_in (d:Nat) (l:List Px) (S:List St) (b:Nat):(rowFd d l S b).2=b∨(S.length≤(rowFd d l S b).2∧(rowFd d l S b).2<(rowFd d l S b).1.length):=by
 have:=(mk_keep (d+1) (rowP l) S b).2
 rw [mk_row rfl] at this
 exact this
theorem star_at (d:Nat) (y:Px) (S:List St) (b:Nat):(starF d y S b)[S.length]?=some (0,[b,(mk d y (S++[(0,[b])]) S.length).2])∧(starF d y S b).length=(mk d y (S++[(0,[b])]) S.length).1.length∧∀ i,i ≠ S.length→(starF d y S b)[i]?=(mk d y (S++[(0,[b])]) S.length).1[i]?:=by
 refine ⟨?_,leadS_len _ _ _,fun i hi=>?_⟩
 ·unfold starF
  rw [leadS_get,if_pos rfl,(mk_keep d y (S++[(0,[b])]) S.length).1 S.length (by simp)]
  simp
 ·unfold starF
  rw [leadS_get,if_neg (Ne.symm hi)]
theorem mtP_one {d:Nat} {x:Px} (h:x.what=0) (w:List Nat):mtP (d+1) x w=(if x.k=0 then w=[] else ∃ j,w=[j]∧x.k.testBit j=true):=by rw [mtP,if_pos h]
theorem mtP_row {d:Nat} {x:Px} (h:x.what=1) (w:List Nat):mtP (d+1) x w=rowM (x.l.map (mtP d)) w:=by rw [mtP,if_neg (by omega),if_pos h]
theorem mtP_either {d:Nat} {x:Px} (h:x.what=2) (w:List Nat):mtP (d+1) x w=∃ y ∈ x.l,mtP d y w:=by rw [mtP,if_neg (by omega),if_neg (by omega),if_pos h]
theorem mtP_star {d:Nat} {x y:Px} (h0:x.what ≠ 0) (h1:x.what ≠ 1) (h2:x.what ≠ 2) (hl:x.l=[y]) (w:List Nat):mtP (d+1) x w=if x.what=3 then Tr.Str (mtP d y) w else ∃ u v,w=u++v∧mtP d y u∧Tr.Str (mtP d y) v:=by
 rw [mtP,if_neg h0,if_neg h1,if_neg h2,hl]
theorem mtP_none {d:Nat} {x:Px} (h0:x.what ≠ 0) (h1:x.what ≠ 1) (h2:x.what ≠ 2) (hl:∀ y,x.l ≠ [y]) (w:List Nat):mtP (d+1) x w=(w=[]):=by
 rw [mtP,if_neg h0,if_neg h1,if_neg h2]
 split
 ·rename_i y hy;exact absurd hy (hl y)
 ·rfl
def In (F R:List St) (lo:Nat):Prop:=∀ i,lo≤i→i<R.length→F[i]?=R[i]?
theorem mk_fwd (d:Nat):∀ (x:Px) (S:List St) (b:Nat) (F:List St),In F (mk d x S b).1 S.length→∀ w,mtP d x w→∃ n,Pth F n (mk d x S b).2 w b:=by
 induction d with
 | zero=>intro x S b F _ w hw;rw [show w=[] from hw];exact ⟨0,Pth.nil b⟩
 | succ d ih =>
  intro x S b F hF w hw
  by_cases h0:x.what=0
  ·rw [mtP_one h0] at hw
   rw [mk_one h0] at hF ⊢
   have hs:F[S.length]?=some (x.k,[b]):=by rw [hF S.length (Nat.le_refl _) (by simp)];simp
   by_cases hk:x.k=0
   ·rw [if_pos hk] at hw
    rw [hw]
    rw [hk] at hs
    exact ⟨1,Pth.eps hs (by simp) (Pth.nil b)⟩
   ·rw [if_neg hk] at hw
    obtain ⟨j,rfl,hj⟩:=hw
    exact ⟨1,Pth.one hs hj (by simp) (Pth.nil b)⟩
  by_cases h1:x.what=1
  ·rw [mtP_row h1] at hw
   rw [mk_row h1] at hF ⊢
   generalize x.l=l at *
   induction l generalizing w with
   | nil=>rw [show w=[] from hw];exact ⟨0,Pth.nil b⟩
   | cons y l ihl =>
    obtain ⟨u,v,rfl,hu,hv⟩:=hw
    have e:rowFd d (y :: l) S b=mk d y (rowFd d l S b).1 (rowFd d l S b).2:=rfl
    rw [e] at hF ⊢
    have hl:=rowFd_len d l S b
    have hyl:=mk_len d y (rowFd d l S b).1 (rowFd d l S b).2
    obtain ⟨n,hn⟩:=ih y _ _ F (fun i h1 h2=>hF i (by omega) h2) u hu
    obtain ⟨m,hm⟩:=ihl v (fun i h1 h2=>by rw [hF i h1 (by omega),(mk_keep d y _ _).1 i h2]) hv
    exact hn.app hm
  by_cases h2:x.what=2
  ·rw [mtP_either h2] at hw
   rw [mk_either h2] at hF ⊢
   obtain ⟨y,hy,hw⟩:=hw
   have hl:(S++[((0:Nat),([]:List Nat))]).length=S.length+1:=by simp
   obtain ⟨a1,_,l1,a3,_,a5⟩:=either_fold d b S.length (fun x S i hi=>(mk_keep d x S b).1 i hi) x.l (S++[(0,[])]) [] (by simp) (by simp)
   obtain ⟨z,hz,Z,z1,z2,z3,z4⟩:=a5 y hy
   obtain ⟨n,hn⟩:=ih y Z b F (fun i h1 h2=>by rw [hF i (by omega) (by show i<(eitherF d b S.length x.l (S++[(0,[])])).length;omega)];exact z4 i h1 h2) w hw
   rw [← z3] at hn
   refine ⟨n+1,Pth.eps (l:=[]++l1) ?_ (by simpa using hz) hn⟩
   rw [hF S.length (Nat.le_refl _) (by show S.length<(eitherF d b S.length x.l (S++[(0,[])])).length;omega)];exact a3
  by_cases hl:∃ y,x.l=[y]
  ·obtain ⟨y,hl⟩:=hl
   rw [mtP_star h0 h1 h2 hl] at hw
   rw [mk_star h0 h1 h2 hl] at hF ⊢
   obtain ⟨s1,s2,s3⟩:=star_at d y S b
   have hlS:(S++[((0:Nat),[b])]).length=S.length+1:=by simp
   have hyl:=mk_len d y (S++[(0,[b])]) S.length
   have hFe:F[S.length]?=some (0,[b,(mk d y (S++[(0,[b])]) S.length).2]):=by rw [hF S.length (Nat.le_refl _) (by show S.length<(starF d y S b).length;omega)];exact s1
   have hy:=ih y (S++[(0,[b])]) S.length F (fun i h1 h2=>by rw [hF i (by omega) (by show i<(starF d y S b).length;omega)];exact s3 i (by omega))
   have star:∀ v,Tr.Str (mtP d y) v→∃ n,Pth F n S.length v b:=by
    intro v hv
    induction hv with
    | nil=>exact ⟨1,Pth.eps hFe (by simp) (Pth.nil b)⟩
    | cons u v hu _ ihv =>
     obtain ⟨n,hn⟩:=hy u hu
     obtain ⟨m,hm⟩:=ihv
     obtain ⟨r,hr⟩:=hn.app hm
     exact ⟨r+1,Pth.eps hFe (by simp) hr⟩
   by_cases h3:x.what=3
   ·rw [if_pos h3] at hw
    show ∃ n,Pth F n (if x.what=3 then _ else _) w b
    rw [if_pos h3];exact star w hw
   ·rw [if_neg h3] at hw
    show ∃ n,Pth F n (if x.what=3 then _ else _) w b
    rw [if_neg h3]
    obtain ⟨u,v,rfl,hu,hv⟩:=hw
    obtain ⟨n,hn⟩:=hy u hu
    obtain ⟨m,hm⟩:=star v hv
    exact hn.app hm
  ·rw [mtP_none h0 h1 h2 (fun y e=>hl ⟨y,e⟩)] at hw
   rw [mk_none h0 h1 h2 (fun y e=>hl ⟨y,e⟩),hw]
   exact ⟨0,Pth.nil b⟩
theorem mk_bwd (d:Nat):∀ (x:Px) (S:List St) (b:Nat) (F:List St),b<S.length→In F (mk d x S b).1 S.length→∀ n w t,(t<S.length∨(mk d x S b).1.length≤t)→Pth F n (mk d x S b).2 w t→∃ u v m,w=u++v∧mtP d x u∧m≤n∧Pth F m b v t:=by
 induction d with
 | zero=>intro x S b F _ _ n w t _ h;exact ⟨[],w,n,rfl,rfl,Nat.le_refl _,h⟩
 | succ d ih =>
  intro x S b F hb hF n w t ht h
  by_cases h0:x.what=0
  ·rw [mk_one h0] at hF h ht
   have hs:F[S.length]?=some (x.k,[b]):=by rw [hF S.length (Nat.le_refl _) (by simp)];simp
   have ht':t ≠ S.length:=by rcases ht with q | q;omega;simp at q;omega
   simp only [mtP_one h0]
   cases h with
   | nil=>exact absurd rfl ht'
   | @eps n _ z _ _ l hq hz r =>
    rw [hs] at hq
    simp at hq
    rw [← hq.2] at hz
    simp at hz
    subst hz
    exact ⟨[],w,n,rfl,by rw [if_pos hq.1],by omega,r⟩
   | @one n _ z _ k j w' l hq hk hz r =>
    rw [hs] at hq
    simp at hq
    rw [← hq.2] at hz
    simp at hz
    subst hz
    refine ⟨[j],w',n,rfl,?_,by omega,r⟩
    rw [if_neg (by rw [hq.1];exact testBit_ne hk),hq.1]
    exact ⟨j,rfl,hk⟩
  by_cases h1:x.what=1
  ·rw [mk_row h1] at hF h ht
   simp only [mtP_row h1]
   generalize x.l=l at *
   induction l generalizing w n with
   | nil=>exact ⟨[],w,n,rfl,rfl,Nat.le_refl _,h⟩
   | cons y l ihl =>
    have e:rowFd d (y :: l) S b=mk d y (rowFd d l S b).1 (rowFd d l S b).2:=rfl
    rw [e] at hF h ht
    have hl:=rowFd_len d l S b
    have hyl:=mk_len d y (rowFd d l S b).1 (rowFd d l S b).2
    have hin:(rowFd d l S b).2<(rowFd d l S b).1.length:=by rcases rowFd_in d l S b with q | q <;> omega
    obtain ⟨u,v,m,rfl,hu,hm,hv⟩:=ih y _ _ F hin (fun i h1 h2=>hF i (by omega) h2) n w t (by omega) h
    obtain ⟨u',v',m',rfl,hu',hm',hv'⟩:=ihl m v (fun i h1 h2=>by rw [hF i h1 (by omega),(mk_keep d y _ _).1 i h2]) (by omega) hv
    exact ⟨u++u',v',m',by simp,⟨u,u',rfl,hu,hu'⟩,by omega,hv'⟩
  by_cases h2:x.what=2
  ·rw [mk_either h2] at hF h ht
   simp only [mtP_either h2]
   have hl:(S++[((0:Nat),([]:List Nat))]).length=S.length+1:=by simp
   obtain ⟨a1,_,l1,a3,a4,_⟩:=either_fold d b S.length (fun x S i hi=>(mk_keep d x S b).1 i hi) x.l (S++[(0,[])]) [] (by simp) (by simp)
   have hlen:S.length<(eitherF d b S.length x.l (S++[(0,[])])).length:=by omega
   have hFe:F[S.length]?=some (0,l1):=by rw [hF S.length (Nat.le_refl _) hlen];simpa using a3
   have ht':t<S.length∨(eitherF d b S.length x.l (S++[(0,[])])).length≤t:=ht
   cases h with
   | nil=>omega
   | @eps n _ z _ _ l hq hz r =>
    rw [hFe] at hq
    simp at hq
    rw [← hq] at hz
    obtain ⟨y,hy,Z,z1,z2,z3,z4⟩:=a4 z hz
    rw [z3] at r
    obtain ⟨u,v,m,e,hu,hm,hv⟩:=ih y Z b F (by omega) (fun i h1 h2=>by rw [hF i (by omega) (by show i<(eitherF d b S.length x.l (S++[(0,[])])).length;omega)];exact z4 i h1 h2) n w t (by omega) r
    exact ⟨u,v,m,e,⟨y,hy,hu⟩,by omega,hv⟩
   | @one n _ z _ k j w' l hq hk hz r =>
    rw [hFe] at hq
    simp at hq
    rw [← hq.1] at hk
    simp at hk
  by_cases hl:∃ y,x.l=[y]
  ·obtain ⟨y,hl⟩:=hl
   rw [mk_star h0 h1 h2 hl] at hF h ht
   simp only [mtP_star h0 h1 h2 hl]
   obtain ⟨s1,s2,s3⟩:=star_at d y S b
   have hlS:(S++[((0:Nat),[b])]).length=S.length+1:=by simp
   have hyl:=mk_len d y (S++[(0,[b])]) S.length
   have ht':t<S.length∨(starF d y S b).length≤t:=ht
   have hFe:F[S.length]?=some (0,[b,(mk d y (S++[(0,[b])]) S.length).2]):=by rw [hF S.length (Nat.le_refl _) (by show S.length<(starF d y S b).length;omega)];exact s1
   have hy:∀ n w,Pth F n (mk d y (S++[(0,[b])]) S.length).2 w t→∃ u v m,w=u++v∧mtP d y u∧m≤n∧Pth F m S.length v t:=fun n w h=>ih y (S++[(0,[b])]) S.length F (by omega) (fun i h1 h2=>by rw [hF i (by omega) (by show i<(starF d y S b).length;omega)];exact s3 i (by omega)) n w t (by omega) h
   have star:∀ N n w,n≤N→Pth F n S.length w t→∃ u v m,w=u++v∧Tr.Str (mtP d y) u∧m≤n∧Pth F m b v t:=by
    intro N
    induction N with
    | zero =>
     intro n w hn h
     cases h with
     | nil=>omega
     | eps=>omega
     | one=>omega
    | succ N ihN =>
     intro n w hn h
     cases h with
     | nil=>omega
     | @eps n _ z _ _ l hq hz r =>
      rw [hFe] at hq
      simp at hq
      rw [← hq] at hz
      simp at hz
      rcases hz with rfl | rfl
      ·exact ⟨[],w,n,rfl,Tr.Str.nil,by omega,r⟩
      ·obtain ⟨u,v,m,rfl,hu,hm,hv⟩:=hy n w r
       obtain ⟨u',v',m',rfl,hu',hm',hv'⟩:=ihN m v (by omega) hv
       exact ⟨u++u',v',m',by simp,Tr.Str.cons u u' hu hu',by omega,hv'⟩
     | @one n _ z _ k j w' l hq hk hz r =>
      rw [hFe] at hq
      simp at hq
      rw [← hq.1] at hk
      simp at hk
   by_cases h3:x.what=3
   ·have h':Pth F n (if x.what=3 then S.length else (mk d y (S++[(0,[b])]) S.length).2) w t:=h
    rw [if_pos h3] at h'
    simp only [if_pos h3]
    exact star n n w (Nat.le_refl _) h'
   ·have h':Pth F n (if x.what=3 then S.length else (mk d y (S++[(0,[b])]) S.length).2) w t:=h
    rw [if_neg h3] at h'
    simp only [if_neg h3]
    obtain ⟨u,v,m,rfl,hu,hm,hv⟩:=hy n w h'
    obtain ⟨u',v',m',rfl,hu',hm',hv'⟩:=star m m v (Nat.le_refl _) hv
    exact ⟨u++u',v',m',by simp,⟨u,u',rfl,hu,hu'⟩,by omega,hv'⟩
  ·rw [mk_none h0 h1 h2 (fun y e=>hl ⟨y,e⟩)] at h
   simp only [mtP_none h0 h1 h2 (fun y e=>hl ⟨y,e⟩)]
   exact ⟨[],w,n,rfl,rfl,Nat.le_refl _,h⟩
theorem mk_takes (d:Nat) (x:Px) (w:List Nat):(∃ n,Pth (mk d x startS 0).1 n (mk d x startS 0).2 w 0)↔mtP d x w:=by
 constructor
 ·rintro ⟨n,h⟩
  obtain ⟨u,v,m,rfl,hu,_,hv⟩:=mk_bwd d x startS 0 _ (by decide) (fun i _ _=>rfl) n w 0 (Or.inl (by decide)) h
  have h0:(mk d x startS 0).1[0]?=some (0,[]):=by rw [(mk_keep d x startS 0).1 0 (by decide)];rfl
  have:v=[]:=by
   cases hv with
   | nil=>rfl
   | eps hq hz _=>rw [h0] at hq;simp at hq;rw [hq] at hz;simp at hz
   | one hq _ hz _=>rw [h0] at hq;simp at hq;rw [hq.2] at hz;simp at hz
  rw [this,List.append_nil];exact hu
 ·intro h;exact mk_fwd d x startS 0 _ (fun i _ _=>rfl) w h
theorem grow_st {S:List St} {x t z:Nat}:(t,z) ∈ grow (graphOf true S) x↔∃ l,S[x]?=some (t,l)∧z ∈ l:=by
 rcases Nat.lt_or_ge x S.length with hx | hx
 ·rw [graph_mem true S x (t,z) hx]
  constructor
  ·rintro ⟨j,s,h1,h2,h3⟩
   simp at h3 h2
   obtain ⟨rfl,h3⟩:=h3
   exact ⟨s.2,by rw [h1,h2],h3⟩
  ·rintro ⟨l,h1,h2⟩
   exact ⟨x,(t,l),h1,rfl,by simp [h2]⟩
 ·constructor
  ·intro h
   unfold grow at h
   rw [List.getElem?_eq_none (by rw [graph_len];exact hx)] at h
   simp at h
  ·rintro ⟨l,h1,_⟩
   rw [List.getElem?_eq_none hx] at h1;cases h1
theorem run_pth {S:List St}:∀ (r:List Nat) (x y:Nat),runG (graphOf true S) r x y↔∃ n,Pth S n x r y:=by
 have eps:∀ n x z,goes (graphOf true S) n x z→∀ r y,(∃ m,Pth S m z r y)→∃ m,Pth S m x r y:=by
  intro n
  induction n with
  | zero=>intro x z h r y k;rw [show x=z from h];exact k
  | succ n ih =>
   intro x z h r y k
   obtain ⟨u,h1,h2⟩:=h
   obtain ⟨m,hm⟩:=ih u z h2 r y k
   obtain ⟨l,h3,h4⟩:=grow_st.1 h1
   exact ⟨m+1,Pth.eps h3 h4 hm⟩
 intro r
 induction r with
 | nil =>
  intro x y
  constructor
  ·rintro ⟨n,h⟩;exact eps n x y h [] y ⟨0,Pth.nil y⟩
  ·rintro ⟨n,h⟩
   generalize hr:([]:List Nat)=r at h
   induction h with
   | nil q=>exact reach_refl _ q
   | eps h hz _ ih=>exact runG_reach (reach_eps (grow_st.2 ⟨_,h,hz⟩) (reach_refl _ _)) (ih hr)
   | one=>cases hr
 | cons c r ih =>
  intro x y
  constructor
  ·rintro ⟨a,t,z,⟨n,h1⟩,h2,h3,h4⟩
   obtain ⟨l,h5,h6⟩:=grow_st.1 h2
   obtain ⟨m,hm⟩:=(ih z y).1 h4
   exact eps n x a h1 _ _ ⟨m+1,Pth.one h5 h3 h6 hm⟩
  ·rintro ⟨n,h⟩
   generalize hr:c :: r=r' at h
   induction h with
   | nil q=>cases hr
   | eps h hz _ ih'=>exact runG_reach (reach_eps (grow_st.2 ⟨_,h,hz⟩) (reach_refl _ _)) (ih' hr)
   | one h hk hz k _ =>
    cases hr
    exact ⟨_,_,_,reach_refl _ _,grow_st.2 ⟨_,h,hz⟩,hk,(ih _ _).2 ⟨_,k⟩⟩
theorem left_mt {d:Nat} {x:Px} {S:List St} {f:Nat} (hS:S=(mk d x startS 0).1) (hf:f=(mk d x startS 0).2) {tab:Tab} (h:LeftT S f tab) (row:List Nat) (hk:∀ k ∈ row,k<8) (i:Nat) (hi:i≤row.length):tmatch tab (leftAt tab row i)=true↔∃ j,j≤i∧mtP d x ((row.take i).drop j):=by
 obtain ⟨Ss,h1,h2,_,h4⟩:=h
 have h0:Ss[0]?=some (reach (graphOf true S) f):=at_prefix h2 rfl
 unfold leftAt
 rw [spot_match h4 h1 (spot_row h4 h1 (row.take i) (fun k hh=>hk k (List.mem_of_mem_take hh)) 0 _ h0),fold_any]
 have hl:(row.take i).length=i:=by rw [List.length_take];omega
 rw [hl]
 constructor
 ·rintro ⟨j,hj,hr⟩
  rw [run_pth,hS,hf] at hr
  exact ⟨j,hj,(mk_takes d x _).1 hr⟩
 ·rintro ⟨j,hj,hr⟩
  refine ⟨j,hj,?_⟩
  rw [run_pth,hS,hf]
  exact (mk_takes d x _).2 hr
theorem right_mt {d:Nat} {x:Px} {S:List St} {f:Nat} (hok:SOk S) (hS:S=(mk d x startS 0).1) (hf:f=(mk d x startS 0).2) {tab:Tab} (h:RightT S f tab) (row:List Nat) (hk:∀ k ∈ row,k<8) (i:Nat):tmatch tab (rightAt tab row i)=true↔∃ j,j≤row.length - i∧mtP d x ((row.drop i).take j):=by
 obtain ⟨Ss,h1,h2,_,h4⟩:=h
 have h0:Ss[0]?=some (reach (graphOf false S) 0):=at_prefix h2 rfl
 unfold rightAt
 rw [spot_match h4 h1 (spot_row h4 h1 (row.drop i).reverse (fun k hh=>hk k (List.mem_of_mem_drop (List.mem_reverse.1 hh))) 0 _ h0),fold_any]
 have hl:(row.drop i).reverse.length=row.length - i:=by simp
 rw [hl]
 have hrev:∀ m,(row.drop i).reverse.drop m=((row.drop i).take (row.length - i - m)).reverse:=by
  intro m;rw [List.drop_reverse,List.length_drop]
 constructor
 ·rintro ⟨j,hj,hr⟩
  rw [hrev,run_back hok,run_pth,hS,hf] at hr
  exact ⟨row.length - i - j,by omega,(mk_takes d x _).1 hr⟩
 ·rintro ⟨j,hj,hr⟩
  refine ⟨row.length - i - j,by omega,?_⟩
  rw [hrev,run_back hok,run_pth,hS,hf,show row.length - i - (row.length - i - j)=j by omega]
  exact (mk_takes d x _).2 hr
end Go.Proofs.YtodagkkjfipbgaaGreatDoor
namespace Go.Proofs.YtodagkkjfipbgaaGreatDoor
open Go.RowKit
def Okz (T:ByteArray) (s:RS) (p:PS):Prop:=s.err=0∧p.f=0∧p.p=skip T s.at_∧s.at_≤T.size∧s.place=0
def Badz (T:ByteArray) (s:RS) (p:PS):Prop:=s.err ≠ 0∧p.f=s.err∧p.pl=s.place∧p.p=T.size
def Pendz (T:ByteArray) (s:RS) (p:PS):Prop:=s.err=2∧p.f=0∧s.place=(p.p:Int)∧p.p<T.size∧memL [wClass,wCut,wJoin] (p.tk T)=true
theorem okz_tk {T:ByteArray} {s:RS} {p:PS} (h:Okz T s p):s.tk T=p.tk T:=by
 unfold RS.tk PS.tk tok tokp;rw [h.2.2.1]
theorem okz_pos {T:ByteArray} {s:RS} {p:PS} (h:Okz T s p):(s.pos T:Int)=(p.p:Int):=by unfold RS.pos;rw [h.2.2.1]
theorem okz_le {T:ByteArray} {s:RS} {p:PS} (h:Okz T s p):p.p≤T.size:=by rw [h.2.2.1];exact (skip_le T s.at_).2 h.2.2.2.1
theorem okz_take {T:ByteArray} {s:RS} {p:PS} (h:Okz T s p):Okz T (s.take T) (p.step T):=by
 refine ⟨h.1,h.2.1,?_,?_,h.2.2.2.2⟩
 ·show nextp T p.p=skip T (tokEnd T (skip T s.at_));unfold nextp;rw [h.2.2.1]
 ·exact (tokEnd_le T _).2.1 ((skip_le T s.at_).2 h.2.2.2.1)
theorem okz_peek {T:ByteArray} {s:RS} {p:PS} (h:Okz T s p):Okz T (s.peek T) p :=
 ⟨h.1,h.2.1,by show p.p=skip T (skip T s.at_);rw [skip_skip];exact h.2.2.1,(skip_le T s.at_).2 h.2.2.2.1,h.2.2.2.2⟩
theorem badz_fail {T:ByteArray} {s:RS} {p:PS} (h1:s.err=0) (h2:p.f=0) (e:Int) (he:e ≠ 0) (q:Int) (hq:q=p.p):Badz T (s.fail e q) (p.fail T e):=by
 have e1:(s.fail e q).err=e:=by unfold RS.fail;rw [if_pos h1]
 have e2:(s.fail e q).place=q:=by unfold RS.fail;rw [if_pos h1]
 refine ⟨by rw [e1];exact he,?_,?_,rfl⟩
 ·rw [e1];show pf p.f e=e;unfold pf;rw [if_pos h2]
 ·rw [e2,hq];show pp p.f p.p p.pl=_;unfold pp;rw [if_pos h2]
theorem rs_fail_same {s:RS} (h:s.err ≠ 0) (e q:Int):s.fail e q=s:=by unfold RS.fail;rw [if_neg h]
theorem badz_keep {T:ByteArray} {s s':RS} {p p':PS} (h:Badz T s p) (h1:s'.err=s.err) (h2:s'.place=s.place) (hs:Stk p p') (hz:Fz T p'):Badz T s' p':=by
 have hf:p.f ≠ 0:=by rw [h.2.1];exact h.1
 have:=hs hf
 exact ⟨by rw [h1];exact h.1,by rw [this.1,h1];exact h.2.1,by rw [this.2,h2];exact h.2.2.1,hz (by rw [this.1];exact hf)⟩
theorem badz_fz {T:ByteArray} {s:RS} {p:PS} (h:Badz T s p):Fz T p:=fun _=>h.2.2.2
theorem okz_fz {T:ByteArray} {s:RS} {p:PS} (h:Okz T s p):Fz T p:=fun e=>absurd h.2.1 e
theorem badz_tk {T:ByteArray} {s:RS} {p:PS} (h:Badz T s p):p.tk T=[]:=by unfold PS.tk;rw [h.2.2.2];exact tokp_end T
theorem okz_want {T:ByteArray} {s:RS} {p:PS} (h:Okz T s p) (c:UInt8):(p.tk T=[c]∧s.want T [c]=s.take T∧Okz T (s.want T [c]) (p.need T [sgn c]))∨(p.tk T ≠ [c]∧Badz T (s.want T [c]) (p.need T [sgn c])):=by
 by_cases e:p.tk T=[c]
 ·left
  have e1:s.want T [c]=s.take T:=by unfold RS.want;rw [okz_tk h,if_pos e]
  have e2:p.need T [sgn c]=p.step T:=by unfold PS.need;rw [memL_sgn,e];simp
  exact ⟨e,e1,by rw [e1,e2];exact okz_take h⟩
 ·right
  have e1:s.want T [c]=(s.take T).fail 2 (s.pos T):=by unfold RS.want;rw [okz_tk h,if_neg e]
  have e2:p.need T [sgn c]=p.fail T 2:=by unfold PS.need;rw [memL_sgn];simp [e]
  exact ⟨e,by rw [e1,e2];exact badz_fail (s:=s.take T) h.1 h.2.1 2 (by decide) _ (okz_pos h)⟩
theorem pendz_need {T:ByteArray} {s:RS} {p:PS} (h:Pendz T s p) (c:UInt8):Badz T s (p.need T [sgn c])∧p.tk T ≠ [c]:=by
 have hk:=h.2.2.2.2
 rw [memL_iff] at hk
 have hne:p.tk T ≠ [c]:=by
  intro e
  obtain ⟨x,hx,hx2⟩:=hk
  rw [e] at hx2
  simp at hx
  rcases hx with rfl | rfl | rfl
  ·unfold wClass at hx2;rw [ByteArray.toList_eq] at hx2;simp at hx2
  ·unfold wCut at hx2;rw [ByteArray.toList_eq] at hx2;simp at hx2
  ·unfold wJoin at hx2;rw [ByteArray.toList_eq] at hx2;simp at hx2
 have e2:p.need T [sgn c]=p.fail T 2:=by unfold PS.need;rw [memL_sgn];simp [hne]
 refine ⟨?_,hne⟩
 rw [e2]
 refine ⟨by rw [h.1];decide,?_,?_,rfl⟩
 ·rw [h.1];show pf p.f 2=2;unfold pf;rw [if_pos h.2.1]
 ·rw [h.2.2.1];show pp p.f p.p p.pl=_;unfold pp;rw [if_pos h.2.1]
theorem okz_hex {T:ByteArray} {s:RS} {p:PS} (h:Okz T s p):(hexErr (p.tk T)=0∧s.hex T=s.take T∧Okz T (s.hex T) (p.hex T)∧RS.hexV (s.tk T)=RS.hexN (p.tk T))∨(Badz T (s.hex T) (p.hex T)):=by
 have ht:=okz_tk h
 have hq:=okz_pos h
 by_cases e:hexErr (p.tk T)=0
 ·left
  have hb:¬ (6<(p.tk T).length∨RS.hexOk (p.tk T)=false∨p.tk T=[]):=by
   intro hb;unfold hexErr at e;rw [if_pos hb] at e;omega
  have hn:¬ 1114111<RS.hexN (p.tk T):=by
   intro hn;unfold hexErr at e;rw [if_neg hb,if_pos hn] at e;omega
  have h6:¬ 6<(p.tk T).length:=fun h=>hb (Or.inl h)
  have hok:RS.hexOk (p.tk T)=true∧p.tk T ≠ []:=by
   constructor
   ·cases hh:RS.hexOk (p.tk T) with
    | true=>rfl
    | false=>exact absurd (Or.inr (Or.inl hh)) hb
   ·intro hh;exact hb (Or.inr (Or.inr hh))
  have e1:s.hex T=s.take T:=by unfold RS.hex;simp only;rw [ht,if_neg h6,if_pos hok,if_neg hn]
  have e2:p.hex T=p.step T:=by unfold PS.hex;rw [if_pos e]
  refine ⟨e,e1,by rw [e1,e2];exact okz_take h,?_⟩
  unfold RS.hexV;rw [ht,if_neg h6]
 ·right
  have e2:p.hex T=p.fail T (hexErr (p.tk T)):=by unfold PS.hex;rw [if_neg e]
  have e1:s.hex T=(s.take T).fail (hexErr (p.tk T)) (s.pos T):=by
   have hto:(s.take T).err=0:=h.1
   unfold RS.hex hexErr
   simp only
   rw [ht]
   by_cases h6:6<(p.tk T).length
   ·rw [if_pos h6,if_pos (Or.inl h6)]
   ·rw [if_neg h6]
    by_cases hk:RS.hexOk (p.tk T)=true∧p.tk T ≠ []
    ·have hb:¬ (6<(p.tk T).length∨RS.hexOk (p.tk T)=false∨p.tk T=[]):=by
      rintro (h | h | h)
      ·exact h6 h
      ·rw [hk.1] at h;cases h
      ·exact hk.2 h
     rw [if_pos hk,if_neg hb]
     by_cases hn:1114111<RS.hexN (p.tk T)
     ·rw [if_pos hn,if_pos hn]
     ·exfalso;apply e;unfold hexErr;rw [if_neg hb,if_neg hn]
    ·have hb:6<(p.tk T).length∨RS.hexOk (p.tk T)=false∨p.tk T=[]:=by
      cases hh:RS.hexOk (p.tk T) with
      | false=>exact Or.inr (Or.inl rfl)
      | true =>
       right;right
       rcases Classical.em (p.tk T=[]) with h | h
       ·exact h
       ·exact absurd ⟨hh,h⟩ hk
     rw [if_neg hk,if_pos hb]
     split
     ·exact rs_fail_same (by unfold RS.fail;rw [if_pos hto];show (2:Int) ≠ 0;decide) _ _
     ·rfl
  rw [e1,e2]
  exact badz_fail (s:=s.take T) h.1 h.2.1 _ e _ hq
theorem badz_addSpan {T:ByteArray} {s:RS} {p:PS} (h:Badz T s p) (a b q:Int):(s.addSpan a b q).err=s.err∧(s.addSpan a b q).place=s.place:=by
 unfold RS.addSpan
 simp only
 split
 ·rw [rs_fail_same h.1];exact ⟨rfl,rfl⟩
 ·exact ⟨rfl,rfl⟩
theorem addSpan_z {T:ByteArray} {s:RS} {p:PS} {l:List (Int × Int × Nat)} {k:Nat} (h:Okz T s p) (a b q:Int) (hs:s.spans=spI l) (hn:s.names.length=k+1) :
  (RS.badSpan a b (spI l)=false∧Okz T (s.addSpan a b q) p∧(s.addSpan a b q).spans=spI (l++[(a,b,k)])∧(s.addSpan a b q).names=s.names)∨(RS.badSpan a b (spI l)=true∧Badz T (s.addSpan a b q) (p.failAt T 5 q)):=by
 cases hb:RS.badSpan a b (spI l)
 ·left
  have e:s.addSpan a b q={ s with spans:=s.spans++[(a,b,(s.names.length:Int) - 1)] }:=by unfold RS.addSpan;simp only;rw [hs,hb];simp [hs]
  refine ⟨rfl,?_,?_,?_⟩
  ·rw [e];exact h
  ·rw [e];show s.spans++_=_;rw [hs];unfold spI;rw [List.map_append,hn];simp
  ·rw [e]
 ·right
  refine ⟨rfl,?_⟩
  have e1:(s.addSpan a b q).err=5∧(s.addSpan a b q).place=q:=by unfold RS.addSpan;simp only;rw [hs,hb];simp [RS.fail,h.1]
  refine ⟨by rw [e1.1];decide,?_,?_,rfl⟩
  ·rw [e1.1];show pf p.f 5=5;unfold pf;rw [if_pos h.2.1]
  ·rw [e1.2];show pp p.f q p.pl=q;unfold pp;rw [if_pos h.2.1]
theorem hex_names (T:ByteArray) (s:RS):(s.hex T).names=s.names∧(s.hex T).spans=s.spans∧(s.hex T).L=s.L:=by
 have:=hex_same T s;exact ⟨this.1,this.2.1,this.2.2.1⟩
theorem span_z {T:ByteArray} {s:RS} {p:PS} {l:List (Int × Int × Nat)} {k:Nat} (h:Okz T s p) (hs:s.spans=spI l) (hn:s.names.length=k+1) :
  (Okz T (s.span T) (p.span T l)∧(s.span T).spans=spI (l++[(p.spanX T,p.spanY T,k)])∧(s.span T).names=s.names)∨Badz T (s.span T) (p.span T l):=by
 have hle:=okz_le h
 have hfz:=okz_fz h
 rcases okz_hex h with ⟨e0,eh,h1,hv⟩ | hbad
 ·have h1':=okz_peek h1
  have ht1:((s.hex T).peek T).tk T=(p.hex T).tk T:=okz_tk h1'
  by_cases hd:(p.hex T).tk T=[45]
  ·have hdash:p.dash T=true:=by unfold PS.dash;rw [memL_sgn];simp [hd]
   have es:s.span T=((((s.hex T).peek T).take T).hex T).addSpan (RS.hexV (s.tk T)) (RS.hexV ((((s.hex T).peek T).take T).tk T)) ((((s.hex T).peek T).take T).pos T):=by
    unfold RS.span;simp only;rw [if_pos ⟨h1'.1,by rw [ht1];exact hd⟩]
   have h2:=okz_take h1'
   have et:p.spanTo T=((p.hex T).step T).hex T:=by unfold PS.spanTo;rw [hdash];rfl
   have ea:p.spanAt T=(((p.hex T).step T).p:Int):=by unfold PS.spanAt;rw [hdash];rfl
   have ey:p.spanY T=RS.hexN (((p.hex T).step T).tk T):=by unfold PS.spanY;rw [hdash];rfl
   rcases okz_hex h2 with ⟨e0',eh',h3,hv'⟩ | hbad
   ·have hp0:(p.spanTo T).f=0:=by rw [et];exact h3.2.1
    have hpos:=okz_pos h2
    rw [es,hv,hv',hpos]
    have ex:p.spanX T=RS.hexN (p.tk T):=rfl
    have hsp:(((((s.hex T).peek T).take T).hex T)).spans=spI l:=by rw [(hex_names T _).2.1];show (s.hex T).spans=_;rw [(hex_names T s).2.1];exact hs
    have hnm:(((((s.hex T).peek T).take T).hex T)).names=s.names:=by rw [(hex_names T _).1];show (s.hex T).names=_;exact (hex_names T s).1
    have hps:p.span T l=if RS.badSpan (p.spanX T) (p.spanY T) (spI l)=true then (p.spanTo T).failAt T 5 (p.spanAt T) else p.spanTo T:=by
     unfold PS.span;rw [if_neg (by simpa using hp0)]
    have:=addSpan_z (k:=k) h3 (RS.hexN (p.tk T)) (RS.hexN (((p.hex T).step T).tk T)) (((p.hex T).step T).p:Int) hsp (by rw [hnm];exact hn)
    rw [← ex,← ey] at this ⊢
    rcases this with ⟨hb,a1,a2,a3⟩ | ⟨hb,a1⟩
    ·left
     rw [hps,hb]
     refine ⟨?_,a2,by rw [a3,hnm]⟩
     simp only [Bool.false_eq_true,if_false]
     rw [et];exact a1
    ·right
     rw [hps,hb]
     simp only [if_true]
     rw [et,ea];exact a1
   ·right
    have hf:(p.spanTo T).f ≠ 0:=by rw [et,hbad.2.1];exact hbad.1
    have hps:p.span T l=p.spanTo T:=by unfold PS.span;rw [if_pos hf]
    rw [hps,et,es]
    have:=badz_addSpan hbad (RS.hexV (s.tk T)) (RS.hexV ((((s.hex T).peek T).take T).tk T)) ((((s.hex T).peek T).take T).pos T)
    exact badz_keep hbad this.1 this.2 (Stk.refl _) (badz_fz hbad)
  ·have hdash:p.dash T=false:=by unfold PS.dash;rw [memL_sgn];simp [hd]
   have es:s.span T=((s.hex T).peek T).addSpan (RS.hexV (s.tk T)) (RS.hexV (s.tk T)) (s.pos T):=by
    unfold RS.span;simp only;rw [if_neg (fun hh=>hd (by rw [← ht1];exact hh.2))]
   have et:p.spanTo T=p.hex T:=by unfold PS.spanTo;rw [hdash];rfl
   have ea:p.spanAt T=(p.p:Int):=by unfold PS.spanAt;rw [hdash];rfl
   have ey:p.spanY T=RS.hexN (p.tk T):=by unfold PS.spanY;rw [hdash];rfl
   have ex:p.spanX T=RS.hexN (p.tk T):=rfl
   have hp0:(p.spanTo T).f=0:=by rw [et];exact h1.2.1
   have hps:p.span T l=if RS.badSpan (p.spanX T) (p.spanY T) (spI l)=true then (p.spanTo T).failAt T 5 (p.spanAt T) else p.spanTo T:=by
    unfold PS.span;rw [if_neg (by simpa using hp0)]
   have hsp:(((s.hex T).peek T)).spans=spI l:=by show (s.hex T).spans=_;rw [(hex_names T s).2.1];exact hs
   have hnm:(((s.hex T).peek T)).names=s.names:=(hex_names T s).1
   have:=addSpan_z (k:=k) h1' (RS.hexN (p.tk T)) (RS.hexN (p.tk T)) (p.p:Int) hsp (by rw [hnm];exact hn)
   rw [es,hv,okz_pos h]
   rw [hps,ex,ey,et,ea]
   rcases this with ⟨hb,a1,a2,a3⟩ | ⟨hb,a1⟩
   ·left
    rw [hb]
    exact ⟨a1,a2,by rw [a3,hnm]⟩
   ·right
    rw [hb]
    exact a1
 ·right
  have hf:(p.hex T).f ≠ 0:=by rw [hbad.2.1];exact hbad.1
  have hd:p.dash T=false:=by unfold PS.dash;rw [badz_tk hbad,memL_sgn];simp
  have et:p.spanTo T=p.hex T:=by unfold PS.spanTo;rw [hd];rfl
  have hps:p.span T l=p.hex T:=by unfold PS.span;rw [et,if_pos hf]
  have es:s.span T=((s.hex T).peek T).addSpan (RS.hexV (s.tk T)) (RS.hexV (s.tk T)) (s.pos T):=by
   unfold RS.span;simp only;rw [if_neg (fun hh=>hbad.1 hh.1)]
  have hb2:Badz T ((s.hex T).peek T) (p.hex T):=hbad
  have:=badz_addSpan hb2 (RS.hexV (s.tk T)) (RS.hexV (s.tk T)) (s.pos T)
  rw [hps,es]
  exact badz_keep hb2 this.1 this.2 (Stk.refl _) (badz_fz hb2)
end Go.Proofs.YtodagkkjfipbgaaGreatDoor
