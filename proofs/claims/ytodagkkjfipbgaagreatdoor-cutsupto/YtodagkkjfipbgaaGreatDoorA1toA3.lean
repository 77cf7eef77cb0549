import Derived.Test.YtodagkkjfipbgaaGreatDoorK3toK5
namespace Go.Proofs.YtodagkkjfipbgaaGreatDoor
open Go
abbrev ltL:=Op.bytesLess
theorem ltL_irr:∀ a:List UInt8,ltL a a=false
 | []=>rfl
 | a :: x=>by simp [ltL,Op.bytesLess];exact ltL_irr x
theorem ltL_trans:∀ {a b c:List UInt8},ltL a b=true→ltL b c=true→ltL a c=true
 | _,[],_,h,_=>by cases ‹List UInt8› <;> simp [ltL,Op.bytesLess] at h
 | _,_ :: _,[],_,h=>by simp [ltL,Op.bytesLess] at h
 | [],_ :: _,_ :: _,_,_=>by simp [ltL,Op.bytesLess]
 | a :: x,b :: y,c :: z,h,k=>by
  simp only [ltL,Op.bytesLess,Bool.or_eq_true,decide_eq_true_eq,Bool.and_eq_true,beq_iff_eq] at h k ⊢
  rcases h with h | ⟨rfl,h⟩ <;> rcases k with k | ⟨rfl,k⟩
  ·exact Or.inl (UInt8.lt_trans h k)
  ·exact Or.inl h
  ·exact Or.inl k
  ·exact Or.inr ⟨rfl,ltL_trans h k⟩
theorem ltL_tot:∀ a b:List UInt8,ltL a b=true∨a=b∨ltL b a=true
 | [],[]=>by simp
 | [],_ :: _=>by simp [ltL,Op.bytesLess]
 | _ :: _,[]=>by simp [ltL,Op.bytesLess]
 | a :: x,b :: y=>by
  simp only [ltL,Op.bytesLess,Bool.or_eq_true,decide_eq_true_eq,Bool.and_eq_true,beq_iff_eq,List.cons.injEq]
  rcases UInt8.lt_or_le a b with h | h
  ·exact Or.inl (Or.inl h)
  ·rcases UInt8.lt_or_le b a with h' | h'
   ·exact Or.inr (Or.inr (Or.inl h'))
   ·have e:a=b:=UInt8.le_antisymm h' h
    rcases ltL_tot x y with k | k | k
    ·exact Or.inl (Or.inr ⟨e,k⟩)
    ·exact Or.inr (Or.inl ⟨e,k⟩)
    ·exact Or.inr (Or.inr (Or.inr ⟨e.symm,k⟩))
def itoaL (n:Nat):List UInt8 :=
 if n<10 then [UInt8.ofNat (48+n)] else if n<100 then [UInt8.ofNat (48+n / 10),UInt8.ofNat (48+n % 10)] else [UInt8.ofNat (48+n / 100),UInt8.ofNat (48+n / 10 % 10),UInt8.ofNat (48+n % 10)]
inductive Tr where
 | z | e
 | c (k:Nat)
 | s (p q:Tr)
 | a (p q:Tr)
 | m (p:Tr)
def Tr.fmG:Bool→Tr→List UInt8
 | i,.z=>if i then [47,48] else [48]
 | i,.e=>if i then [47,49] else [49]
 | i,.c k=>if i then 47 :: 91 :: (itoaL k++[93]) else 91 :: (itoaL k++[93])
 | i,.s p q=>if i then 47 :: 40 :: (p.fmG false++(q.fmG false++[41])) else 40 :: (p.fmG false++(q.fmG false++[41]))
 | i,.a p q=>if i then 47 :: (p.fmG false++q.fmG true) else 123 :: 47 :: (p.fmG false++(q.fmG true++[125]))
 | i,.m p=>if i then 47 :: 60 :: (p.fmG false++[62]) else 60 :: (p.fmG false++[62])
def Tr.fm (t:Tr):List UInt8:=t.fmG false
def Tr.low:Tr→Prop
 | .z | .e=>True
 | .c k=>k<256
 | .s p q=>p.low∧q.low
 | .a p q=>p.low∧q.low
 | .m p=>p.low
set_option maxRecDepth 100000 in
theorem itoaL_inj:∀ i:Nat,i<256→∀ j:Nat,j<256→∀ r r':List UInt8,itoaL i++93 :: r=itoaL j++93 :: r'→i=j∧r=r':=by
 have cut:∀ n:Fin 256,(itoaL n).all (fun c=>c != 93)=true:=by decide +kernel
 have val:∀ n:Fin 256,(itoaL n).foldl (fun v c=>10 * v+(c.toNat - 48)) 0=n.val:=by decide +kernel
 have sp:∀ (l l':List UInt8) (r r':List UInt8),l.all (fun c=>c != 93)=true→l'.all (fun c=>c != 93)=true→l++93 :: r=l'++93 :: r'→l=l'∧r=r':=by
  intro l
  induction l with
  | nil=>intro l' r r' _ h' h
         cases l' with
         | nil=>simpa using h
         | cons x l'=>simp at h;rw [← h.1] at h';simp at h'
  | cons x l ih=>intro l' r r' h1 h' h
                 cases l' with
                 | nil=>simp at h;rw [h.1] at h1;simp at h1
                 | cons x' l' =>
                  simp only [List.cons_append,List.cons.injEq] at h
                  simp only [List.all_cons,Bool.and_eq_true] at h1 h'
                  have:=ih l' r r' h1.2 h'.2 h.2
                  exact ⟨by rw [h.1,this.1],this.2⟩
 intro i hi j hj r r' h
 have:=sp _ _ _ _ (cut ⟨i,hi⟩) (cut ⟨j,hj⟩) h
 refine ⟨?_,this.2⟩
 have e:=val ⟨i,hi⟩
 have e':=val ⟨j,hj⟩
 simp only at e e'
 rw [← e,← e']
 show List.foldl _ 0 (itoaL i)=List.foldl _ 0 (itoaL j)
 rw [this.1]
theorem Tr.fm_cons (t:Tr):∃ c l,t.fm=c :: l∧c ≠ 47∧c ≠ 125:=by
 cases t <;> refine ⟨_,_,rfl,?_,?_⟩ <;> decide
theorem Tr.fmG_cons (t:Tr):∃ l,t.fmG true=47 :: l:=by
 cases t <;> exact ⟨_,rfl⟩
theorem Tr.fmG_of {t:Tr} (h:∀ p q,t ≠ .a p q):t.fmG true=47 :: t.fm:=by
 cases t <;> first | rfl | (exact absurd rfl (h _ _))
theorem Tr.inj2 {x y:Tr} (ih:∀ (y:Tr) (r r':List UInt8),x.low→y.low→x.fm++r=y.fm++r'→x=y∧r=r') (hx':∀ p q,x ≠ .a p q) (r r':List UInt8) (hx:x.low) (hy:y.low) (h:x.fmG true++125 :: r=y.fmG true++125 :: r'):x=y∧r=r':=by
 rw [Tr.fmG_of hx'] at h
 by_cases hy':∀ p q,y ≠ .a p q
 ·rw [Tr.fmG_of hy'] at h
  simp only [List.cons_append,List.cons.injEq,true_and] at h
  have:=ih y _ _ hx hy h
  exact ⟨this.1,by simpa using this.2⟩
 ·have:∃ p q,y=.a p q:=by
   cases y with
   | a p q=>exact ⟨p,q,rfl⟩
   | _=>exact absurd (fun p q h=>by cases h) hy'
  obtain ⟨p,q,rfl⟩:=this
  have h2:x.fm++125 :: r=p.fm++(q.fmG true++125 :: r'):=by
   have:(Tr.a p q).fmG true=47 :: (p.fm++q.fmG true):=rfl
   rw [this] at h
   simpa using h
  have h3:=ih p _ _ hx hy.1 h2
  obtain ⟨l,hl⟩:=q.fmG_cons
  rw [hl] at h3
  simp at h3
theorem Tr.fm_inj (x:Tr):(∀ (y:Tr) (r r':List UInt8),x.low→y.low→x.fm++r=y.fm++r'→x=y∧r=r') ∧
  (∀ (y:Tr) (r r':List UInt8),x.low→y.low→x.fmG true++125 :: r=y.fmG true++125 :: r'→x=y∧r=r'):=by
 induction x with
 | z=>
  have h1:∀ (y:Tr) (r r':List UInt8),Tr.z.low→y.low→Tr.z.fm++r=y.fm++r'→Tr.z=y∧r=r':=by
   intro y r r' _ _ h
   cases y <;> simp [Tr.fm,Tr.fmG] at h
   exact ⟨rfl,h⟩
  exact ⟨h1,fun y r r'=>Tr.inj2 h1 (fun p q h=>by cases h) r r'⟩
 | e=>
  have h1:∀ (y:Tr) (r r':List UInt8),Tr.e.low→y.low→Tr.e.fm++r=y.fm++r'→Tr.e=y∧r=r':=by
   intro y r r' _ _ h
   cases y <;> simp [Tr.fm,Tr.fmG] at h
   exact ⟨rfl,h⟩
  exact ⟨h1,fun y r r'=>Tr.inj2 h1 (fun p q h=>by cases h) r r'⟩
 | c k =>
  have h1:∀ (y:Tr) (r r':List UInt8),(Tr.c k).low→y.low→(Tr.c k).fm++r=y.fm++r'→(Tr.c k)=y∧r=r':=by
   intro y r r' hx hy h
   cases y with
   | c k' =>
    simp only [Tr.fm,Tr.fmG,Bool.false_eq_true,if_false,List.cons_append,List.append_assoc,List.cons.injEq,true_and] at h
    have:=itoaL_inj k hx k' hy r r' (by simpa using h)
    exact ⟨by rw [this.1],this.2⟩
   | _=>simp [Tr.fm,Tr.fmG] at h
  exact ⟨h1,fun y r r'=>Tr.inj2 h1 (fun p q h=>by cases h) r r'⟩
 | s p q ihp ihq =>
  have h1:∀ (y:Tr) (r r':List UInt8),(Tr.s p q).low→y.low→(Tr.s p q).fm++r=y.fm++r'→(Tr.s p q)=y∧r=r':=by
   intro y r r' hx hy h
   cases y with
   | s p' q' =>
    have h':p.fm++(q.fm++(41 :: r))=p'.fm++(q'.fm++(41 :: r')):=by simpa [Tr.fm,Tr.fmG] using h
    have h1:=ihp.1 p' _ _ hx.1 hy.1 h'
    have h2:=ihq.1 q' _ _ hx.2 hy.2 h1.2
    exact ⟨by rw [h1.1,h2.1],by simpa using h2.2⟩
   | _=>simp [Tr.fm,Tr.fmG] at h
  exact ⟨h1,fun y r r'=>Tr.inj2 h1 (fun p q h=>by cases h) r r'⟩
 | m p ihp =>
  have h1:∀ (y:Tr) (r r':List UInt8),(Tr.m p).low→y.low→(Tr.m p).fm++r=y.fm++r'→(Tr.m p)=y∧r=r':=by
   intro y r r' hx hy h
   cases y with
   | m p' =>
    have h':p.fm++(62 :: r)=p'.fm++(62 :: r'):=by simpa [Tr.fm,Tr.fmG] using h
    have h1:=ihp.1 p' _ _ hx hy h'
    exact ⟨by rw [h1.1],by simpa using h1.2⟩
   | _=>simp [Tr.fm,Tr.fmG] at h
  exact ⟨h1,fun y r r'=>Tr.inj2 h1 (fun p q h=>by cases h) r r'⟩
 | a p q ihp ihq =>
  constructor
  ·intro y r r' hx hy h
   cases y with
   | a p' q' =>
    have h':p.fm++(q.fmG true++(125 :: r))=p'.fm++(q'.fmG true++(125 :: r')):=by simpa [Tr.fm,Tr.fmG] using h
    have h1:=ihp.1 p' _ _ hx.1 hy.1 h'
    have h2:=ihq.2 q' _ _ hx.2 hy.2 h1.2
    exact ⟨by rw [h1.1,h2.1],h2.2⟩
   | _=>simp [Tr.fm,Tr.fmG] at h
  ·intro y r r' hx hy h
   have e:(Tr.a p q).fmG true=47 :: (p.fm++q.fmG true):=rfl
   rw [e] at h
   by_cases hy':∀ p q,y ≠ .a p q
   ·rw [Tr.fmG_of hy'] at h
    have h':p.fm++(q.fmG true++(125 :: r))=y.fm++(125 :: r'):=by simpa using h
    have h1:=ihp.1 y _ _ hx.1 hy h'
    obtain ⟨l,hl⟩:=q.fmG_cons
    rw [hl] at h1
    simp at h1
   ·have:∃ p q,y=.a p q:=by
     cases y with
     | a p q=>exact ⟨p,q,rfl⟩
     | _=>exact absurd (fun p q h=>by cases h) hy'
    obtain ⟨p',q',rfl⟩:=this
    have h':p.fm++(q.fmG true++(125 :: r))=p'.fm++(q'.fmG true++(125 :: r')):=by
     have e':(Tr.a p' q').fmG true=47 :: (p'.fm++q'.fmG true):=rfl
     rw [e'] at h
     simpa using h
    have h1:=ihp.1 p' _ _ hx.1 hy.1 h'
    have h2:=ihq.2 q' _ _ hx.2 hy.2 h1.2
    exact ⟨by rw [h1.1,h2.1],h2.2⟩
theorem Tr.fm_eq {x y:Tr} (hx:x.low) (hy:y.low) (h:x.fm=y.fm):x=y:=((Tr.fm_inj x).1 y [] [] hx hy (by rw [h])).1
namespace Tr
def isA:Tr→Bool | .a _ _=>true | _=>false
def isZ:Tr→Bool | .z=>true | _=>false
def isE:Tr→Bool | .e=>true | _=>false
def isS:Tr→Bool | .s _ _=>true | _=>false
def isM:Tr→Bool | .m _=>true | _=>false
def alts:Tr→List Tr
 | .z=>[]
 | .a p q=>p :: q.alts
 | t=>[t]
def mkA:List Tr→Tr
 | []=>.z
 | [x]=>x
 | x :: l=>.a x (mkA l)
def one (t:Tr):Prop:=t.isA=false∧t.isZ=false
def ok:Tr→Prop
 | .z | .e=>True
 | .c k=>k<256
 | .s p q=>p.ok∧q.ok∧p.isZ=false∧p.isE=false∧p.isS=false∧q.isZ=false∧q.isE=false
 | .a p q=>p.ok∧q.ok∧p.one∧q.isZ=false∧∀ u ∈ q.alts,ltL p.fm u.fm=true
 | .m p=>p.ok∧p.isZ=false∧p.isE=false∧p.isM=false
theorem ok.low:∀ {t:Tr},t.ok→t.low:=by
 intro t
 induction t with
 | z=>intro _;trivial
 | e=>intro _;trivial
 | c k=>intro h;exact h
 | s p q ihp ihq=>intro h;exact ⟨ihp h.1,ihq h.2.1⟩
 | a p q ihp ihq=>intro h;exact ⟨ihp h.1,ihq h.2.1⟩
 | m p ih=>intro h;exact ih h.1
theorem alts_one {t:Tr} (h:t.one):t.alts=[t]:=by
 obtain ⟨h1,h2⟩:=h
 cases t <;> simp_all [alts,isA,isZ]
theorem alts_nil {t:Tr}:t.alts=[]↔t=.z:=by cases t <;> simp [alts]
def srt (l:List Tr):Prop:=l.Pairwise (fun x y=>ltL x.fm y.fm=true)∧∀ x ∈ l,x.ok∧x.one
theorem ok.srt {t:Tr} (h:t.ok):srt t.alts:=by
 induction t with
 | z=>exact ⟨List.Pairwise.nil,by simp [alts]⟩
 | a p q ihp ihq =>
  obtain ⟨h1,h2,h3,h4,h5⟩:=h
  obtain ⟨s1,s2⟩:=ihq h2
  refine ⟨List.pairwise_cons.2 ⟨h5,s1⟩,?_⟩
  intro x hx
  rcases List.mem_cons.1 hx with rfl | hx
  ·exact ⟨h1,h3⟩
  ·exact s2 x hx
 | e=>exact ⟨List.pairwise_singleton _ _,by intro x hx;simp [alts] at hx;subst hx;exact ⟨h,rfl,rfl⟩⟩
 | c k=>exact ⟨List.pairwise_singleton _ _,by intro x hx;simp [alts] at hx;subst hx;exact ⟨h,rfl,rfl⟩⟩
 | s p q=>exact ⟨List.pairwise_singleton _ _,by intro x hx;simp [alts] at hx;subst hx;exact ⟨h,rfl,rfl⟩⟩
 | m p=>exact ⟨List.pairwise_singleton _ _,by intro x hx;simp [alts] at hx;subst hx;exact ⟨h,rfl,rfl⟩⟩
theorem srt.tail {x:Tr} {l:List Tr} (h:srt (x :: l)):srt l:=⟨(List.pairwise_cons.1 h.1).2,fun y hy=>h.2 y (List.mem_cons_of_mem _ hy)⟩
theorem srt.nodup {l:List Tr} (h:srt l):l.Nodup:=by
 refine List.Pairwise.imp ?_ h.1
 intro x y hxy e
 subst e;rw [ltL_irr] at hxy;cases hxy
theorem mkA_srt {l:List Tr} (h:srt l):(mkA l).ok∧(mkA l).alts=l:=by
 induction l with
 | nil=>exact ⟨trivial,rfl⟩
 | cons x l ih =>
  have hx:=h.2 x (List.mem_cons_self ..)
  cases l with
  | nil=>exact ⟨hx.1,alts_one hx.2⟩
  | cons y l =>
   obtain ⟨i1,i2⟩:=ih h.tail
   refine ⟨⟨hx.1,i1,hx.2,?_,?_⟩,?_⟩
   ·cases hz:mkA (y :: l) with
    | z=>rw [hz] at i2;simp [alts] at i2
    | _=>rfl
   ·rw [i2];exact (List.pairwise_cons.1 h.1).1
   ·show x :: (mkA (y :: l)).alts=_
    rw [i2]
theorem mkA_alts {t:Tr} (h:t.ok):mkA t.alts=t:=by
 induction t with
 | a p q ihp ihq =>
  obtain ⟨h1,h2,h3,h4,h5⟩:=h
  have:=ihq h2
  cases hq:q.alts with
  | nil=>rw [alts_nil] at hq;subst hq;simp [isZ] at h4
  | cons y l =>
   show mkA (p :: q.alts)=_
   rw [hq];show a p (mkA (y :: l))=_
   rw [← hq,this]
 | _=>rfl
theorem srt_ext:∀ {l l':List Tr},srt l→srt l'→(∀ x,x ∈ l↔x ∈ l')→l=l':=by
 intro l
 induction l with
 | nil=>intro l' _ _ h
        cases l' with
        | nil=>rfl
        | cons y l'=>exact absurd ((h y).2 (List.mem_cons_self ..)) (by simp)
 | cons x l ih =>
  intro l' hs hs' h
  cases l' with
  | nil=>exact absurd ((h x).1 (List.mem_cons_self ..)) (by simp)
  | cons y l' =>
   have h1:=(List.pairwise_cons.1 hs.1).1
   have h2:=(List.pairwise_cons.1 hs'.1).1
   have e:x=y:=by
    rcases List.mem_cons.1 ((h x).1 (List.mem_cons_self ..)) with e | hx
    ·exact e
    ·rcases List.mem_cons.1 ((h y).2 (List.mem_cons_self ..)) with e | hy
     ·exact e.symm
     ·have:=ltL_trans (h1 y hy) (h2 x hx);rw [ltL_irr] at this;cases this
   subst e
   congr 1
   refine ih hs.tail hs'.tail fun u=>?_
   have hn:=List.nodup_cons.1 hs.nodup
   have hn':=List.nodup_cons.1 hs'.nodup
   constructor
   ·intro hu
    rcases List.mem_cons.1 ((h u).1 (List.mem_cons_of_mem _ hu)) with e | k
    ·subst e;exact absurd hu hn.1
    ·exact k
   ·intro hu
    rcases List.mem_cons.1 ((h u).2 (List.mem_cons_of_mem _ hu)) with e | k
    ·subst e;exact absurd hu hn'.1
    ·exact k
theorem ext {t t':Tr} (h:t.ok) (h':t'.ok) (he:∀ x,x ∈ t.alts↔x ∈ t'.alts):t=t':=by
 rw [← mkA_alts h,← mkA_alts h',srt_ext h.srt h'.srt he]
def among:List Tr→Tr→List Tr
 | [],x=>[x]
 | y :: r,x=>if (ltL x.fm y.fm || x.fm == y.fm)=true then (if (x.fm == y.fm)=true then y :: r else x :: y :: r) else y :: among r x
theorem among_srt {l:List Tr} {x:Tr} (h:srt l) (hx:x.ok) (hx1:x.one):srt (among l x)∧∀ u,u ∈ among l x↔u=x∨u ∈ l:=by
 induction l with
 | nil=>exact ⟨⟨List.pairwise_singleton _ _,by intro u hu;simp [among] at hu;subst hu;exact ⟨hx,hx1⟩⟩,by intro u;simp [among]⟩
 | cons y l ih =>
  obtain ⟨i1,i2⟩:=ih h.tail
  have hy:=h.2 y (List.mem_cons_self ..)
  have h1:=(List.pairwise_cons.1 h.1).1
  unfold among
  by_cases he:x.fm=y.fm
  ·have e:x=y:=fm_eq hx.low hy.1.low he
   subst e
   simp only [beq_self_eq_true,Bool.or_true,if_true]
   exact ⟨h,by intro u;simp⟩
  ·have he':(x.fm == y.fm)=false:=by simpa using he
   rw [he']
   simp only [Bool.or_false,Bool.false_eq_true,if_false]
   by_cases hl:ltL x.fm y.fm=true
   ·rw [if_pos hl]
    refine ⟨⟨List.pairwise_cons.2 ⟨?_,h.1⟩,?_⟩,by intro u;simp⟩
    ·intro u hu
     rcases List.mem_cons.1 hu with rfl | hu
     ·exact hl
     ·exact ltL_trans hl (h1 u hu)
    ·intro u hu
     rcases List.mem_cons.1 hu with rfl | hu
     ·exact ⟨hx,hx1⟩
     ·exact h.2 u hu
   ·rw [if_neg hl]
    have hg:ltL y.fm x.fm=true:=by
     rcases ltL_tot x.fm y.fm with k | k | k
     ·exact absurd k hl
     ·exact absurd k he
     ·exact k
    refine ⟨⟨List.pairwise_cons.2 ⟨?_,i1.1⟩,?_⟩,?_⟩
    ·intro u hu
     rcases (i2 u).1 hu with rfl | hu
     ·exact hg
     ·exact h1 u hu
    ·intro u hu
     rcases List.mem_cons.1 hu with rfl | hu
     ·exact hy
     ·exact i1.2 u hu
    ·intro u
     rw [List.mem_cons,i2 u,List.mem_cons]
     constructor
     ·rintro (k | k | k)
      ·exact Or.inr (Or.inl k)
      ·exact Or.inl k
      ·exact Or.inr (Or.inr k)
     ·rintro (k | k | k)
      ·exact Or.inr (Or.inl k)
      ·exact Or.inl k
      ·exact Or.inr (Or.inr k)
theorem foldl_among {l':List Tr}:∀ {l:List Tr},srt l→(∀ x ∈ l',x.ok∧x.one)→srt (l'.foldl among l)∧∀ u,u ∈ l'.foldl among l↔u ∈ l∨u ∈ l':=by
 induction l' with
 | nil=>intro l h _;exact ⟨h,by simp⟩
 | cons x l' ih =>
  intro l h hx
  have h1:=among_srt h (hx x (List.mem_cons_self ..)).1 (hx x (List.mem_cons_self ..)).2
  have h2:=ih h1.1 (fun y hy=>hx y (List.mem_cons_of_mem _ hy))
  refine ⟨h2.1,fun u=>?_⟩
  rw [List.foldl_cons,h2.2 u,h1.2 u,List.mem_cons]
  constructor
  ·rintro ((k | k) | k)
   ·exact Or.inr (Or.inl k)
   ·exact Or.inl k
   ·exact Or.inr (Or.inr k)
  ·rintro (k | k | k)
   ·exact Or.inl (Or.inr k)
   ·exact Or.inl (Or.inl k)
   ·exact Or.inr k
def gather (l:List Tr) (x:Tr):List Tr:=x.alts.foldl among l
def either (x y:Tr):Tr:=mkA (gather (gather [] x) y)
theorem either_ok {x y:Tr} (hx:x.ok) (hy:y.ok):(either x y).ok∧∀ u,u ∈ (either x y).alts↔u ∈ x.alts∨u ∈ y.alts:=by
 have h1:=foldl_among (l:=[]) ⟨List.Pairwise.nil,by simp⟩ hx.srt.2
 have h2:=foldl_among h1.1 hy.srt.2
 have h3:=mkA_srt h2.1
 refine ⟨h3.1,fun u=>?_⟩
 have e:(either x y).alts=y.alts.foldl among (x.alts.foldl among []):=h3.2
 rw [e,h2.2 u,h1.2 u]
 simp
def row:Tr→Tr→Tr
 | .z,_=>.z
 | .e,b=>b
 | .s p q,b=>match b with | .z=>.z | .e=>.s p q | b=>row p (row q b)
 | .c k,b=>match b with | .z=>.z | .e=>.c k | b=>.s (.c k) b
 | .a p q,b=>match b with | .z=>.z | .e=>.a p q | b=>.s (.a p q) b
 | .m p,b=>match b with | .z=>.z | .e=>.m p | b=>.s (.m p) b
theorem row_z (x:Tr):row x .z=.z:=by cases x <;> rfl
theorem row_s {p q b:Tr} (h1:b.isZ=false) (h2:b.isE=false):row (.s p q) b=row p (row q b):=by
 cases b <;> simp_all [isZ,isE,row]
theorem row_o {x b:Tr} (h1:b.isZ=false) (h2:b.isE=false) (x1:x.isZ=false) (x2:x.isE=false) (x3:x.isS=false):row x b=.s x b:=by
 cases x <;> cases b <;> simp_all [isZ,isE,isS,row]
theorem isZ_eq {x:Tr} (h:x.isZ=true):x=.z:=by cases x <;> simp_all [isZ]
theorem isE_eq {x:Tr} (h:x.isE=true):x=.e:=by cases x <;> simp_all [isE]
theorem isS_eq {x:Tr} (h:x.isS=true):∃ p q,x=.s p q:=by cases x <;> simp_all [isS]
theorem row_ok {x b:Tr} (hx:x.ok) (hb:b.ok):(row x b).ok∧(x.isZ=false→b.isZ=false→(row x b).isZ=false∧(b.isE=false→(row x b).isE=false)):=by
 induction x generalizing b with
 | z=>exact ⟨trivial,fun h=>by simp [isZ] at h⟩
 | e=>exact ⟨hb,fun _ h=>⟨h,fun k=>k⟩⟩
 | s p q ihp ihq =>
  by_cases h1:b.isZ=true
  ·rw [isZ_eq h1,row_z];exact ⟨trivial,fun _ h=>by simp [isZ] at h⟩
  ·by_cases h2:b.isE=true
   ·rw [isE_eq h2,row_e];exact ⟨hx,fun _ _=>⟨rfl,fun h=>by simp [isE] at h⟩⟩
   ·rw [row_s (by simpa using h1) (by simpa using h2)]
    have hq:=ihq hx.2.1 hb
    have hq2:=hq.2 hx.2.2.2.2.2.1 (by simpa using h1)
    have hp:=ihp hx.1 hq.1
    refine ⟨hp.1,fun _ _=>?_⟩
    have hp2:=hp.2 hx.2.2.1 hq2.1
    exact ⟨hp2.1,fun h=>hp2.2 (hq2.2 h)⟩
 | _ =>
  by_cases h1:b.isZ=true
  ·rw [isZ_eq h1,row_z];exact ⟨trivial,fun _ h=>by simp [isZ] at h⟩
  ·by_cases h2:b.isE=true
   ·rw [isE_eq h2,row_e];exact ⟨hx,fun _ _=>⟨rfl,fun h=>by simp [isE] at h⟩⟩
   ·rw [row_o (by simpa using h1) (by simpa using h2) rfl rfl rfl]
    exact ⟨⟨hx,hb,rfl,rfl,rfl,by simpa using h1,by simpa using h2⟩,fun _ _=>⟨rfl,fun _=>rfl⟩⟩
theorem row_assoc {x y b:Tr} (hx:x.ok) (hy:y.ok) (hb:b.ok):row (row x y) b=row x (row y b):=by
 by_cases h1:b.isZ=true
 ·rw [isZ_eq h1];simp only [row_z]
 by_cases h2:b.isE=true
 ·rw [isE_eq h2];simp only [row_e]
 have h1':b.isZ=false:=by simpa using h1
 have h2':b.isE=false:=by simpa using h2
 by_cases y1:y.isZ=true
 ·rw [isZ_eq y1];simp only [row_z];show z=row x z;rw [row_z]
 by_cases y2:y.isE=true
 ·rw [isE_eq y2];simp only [row_e];rfl
 have y1':y.isZ=false:=by simpa using y1
 have y2':y.isE=false:=by simpa using y2
 have yb:=(row_ok hy hb).2 y1' h1'
 have key:∀ (x y:Tr),x.isZ=false→x.isE=false→x.isS=false→y.isZ=false→y.isE=false→row (row x y) b=row x (row y b)∨(row y b).isZ=true∨(row y b).isE=true:=by
  intro x y x1 x2 x3 y1 y2
  by_cases k1:(row y b).isZ=true
  ·exact Or.inr (Or.inl k1)
  by_cases k2:(row y b).isE=true
  ·exact Or.inr (Or.inr k2)
  left
  rw [row_o y1 y2 x1 x2 x3,row_s h1' h2',row_o (by simpa using k1) (by simpa using k2) x1 x2 x3]
 induction x generalizing y with
 | z=>rfl
 | e=>rfl
 | s p q ihp ihq =>
  rw [row_s y1' y2']
  have hq:=row_ok hx.2.1 hy
  have hq2:=hq.2 hx.2.2.2.2.2.1 y1'
  rw [ihp hx.1 hq.1 (by simp [hq2.1]) (by simp [hq2.2 y2']) hq2.1 (hq2.2 y2') ((row_ok hq.1 hb).2 hq2.1 h1')]
  rw [ihq hx.2.1 hy y1 y2 y1' y2' yb]
  rw [row_s yb.1 (yb.2 h2')]
 | c n =>
  rcases key (.c n) y rfl rfl rfl y1' y2' with k | k | k
  ·exact k
  ·rw [yb.1] at k;cases k
  ·rw [yb.2 h2'] at k;cases k
 | a p q =>
  rcases key (.a p q) y rfl rfl rfl y1' y2' with k | k | k
  ·exact k
  ·rw [yb.1] at k;cases k
  ·rw [yb.2 h2'] at k;cases k
 | m p =>
  rcases key (.m p) y rfl rfl rfl y1' y2' with k | k | k
  ·exact k
  ·rw [yb.1] at k;cases k
  ·rw [yb.2 h2'] at k;cases k
def many:Tr→Tr
 | .z | .e=>.e
 | .m p=>.m p
 | x=>.m x
theorem many_ok {x:Tr} (h:x.ok):(many x).ok∧(many x).isZ=false:=by
 cases x <;> first | exact ⟨trivial,rfl⟩ | exact ⟨⟨h,rfl,rfl,rfl⟩,rfl⟩ | exact ⟨h,rfl⟩
def emp:Tr→Bool
 | .e | .m _=>true
 | .s p q=>p.emp && q.emp
 | .a p q=>p.emp || q.emp
 | .z | .c _=>false
def beh:Tr→Nat→Tr
 | .z,_ | .e,_=>.z
 | .c n,k=>if n.testBit k then .e else .z
 | .s p q,k=>if p.emp=true then either (row (p.beh k) q) (q.beh k) else row (p.beh k) q
 | .a p q,k=>either (p.beh k) (q.beh k)
 | .m p,k=>row (p.beh k) (.m p)
theorem beh_ok {x:Tr} (h:x.ok) (k:Nat):(x.beh k).ok:=by
 induction x with
 | z=>trivial
 | e=>trivial
 | c n=>show (if n.testBit k then e else z).ok;split <;> trivial
 | s p q ihp ihq =>
  have h1:=(row_ok (ihp h.1) h.2.1).1
  show (if p.emp=true then either (row (p.beh k) q) (q.beh k) else row (p.beh k) q).ok
  split
  ·exact (either_ok h1 (ihq h.2.1)).1
  ·exact h1
 | a p q ihp ihq=>exact (either_ok (ihp h.1) (ihq h.2.1)).1
 | m p ih=>exact (row_ok (ih h.1) h).1
end Tr
namespace Tr
inductive Str (P:List Nat→Prop):List Nat→Prop where
 | nil:Str P []
 | cons (u v:List Nat):P u→Str P v→Str P (u++v)
def Mt:Tr→List Nat→Prop
 | .z,_=>False
 | .e,w=>w=[]
 | .c n,w=>∃ j,w=[j]∧n.testBit j=true
 | .s p q,w=>∃ u v,w=u++v∧p.Mt u∧q.Mt v
 | .a p q,w=>p.Mt w∨q.Mt w
 | .m p,w=>Str p.Mt w
theorem mt_alts (t:Tr) (w:List Nat):t.Mt w↔∃ u ∈ t.alts,u.Mt w:=by
 induction t with
 | z=>simp [Mt,alts]
 | a p q ihp ihq=>simp only [Mt,alts,List.mem_cons,exists_eq_or_imp,ihq]
 | _=>simp [alts]
theorem mt_either {x y:Tr} (hx:x.ok) (hy:y.ok) (w:List Nat):(either x y).Mt w↔x.Mt w∨y.Mt w:=by
 rw [mt_alts,mt_alts x,mt_alts y]
 constructor
 ·rintro ⟨u,hu,h⟩
  rcases ((either_ok hx hy).2 u).1 hu with k | k
  ·exact Or.inl ⟨u,k,h⟩
  ·exact Or.inr ⟨u,k,h⟩
 ·rintro (⟨u,hu,h⟩ | ⟨u,hu,h⟩)
  ·exact ⟨u,((either_ok hx hy).2 u).2 (Or.inl hu),h⟩
  ·exact ⟨u,((either_ok hx hy).2 u).2 (Or.inr hu),h⟩
theorem mt_row {x b:Tr} (w:List Nat):(row x b).Mt w↔∃ u v,w=u++v∧x.Mt u∧b.Mt v:=by
 induction x generalizing b w with
 | z=>exact ⟨fun h=>h.elim,fun ⟨_,_,_,h,_⟩=>h.elim⟩
 | e=>exact ⟨fun h=>⟨[],w,rfl,rfl,h⟩,fun ⟨u,v,h,h1,h2⟩=>by rw [show u=[] from h1] at h;rw [h];exact h2⟩
 | s p q ihp ihq =>
  by_cases h1:b.isZ=true
  ·rw [isZ_eq h1,row_z];exact ⟨fun h=>h.elim,fun ⟨_,_,_,_,h⟩=>h.elim⟩
  ·by_cases h2:b.isE=true
   ·rw [isE_eq h2,row_e]
    exact ⟨fun h=>⟨w,[],by simp,h,rfl⟩,fun ⟨u,v,h,h1,h2⟩=>by rw [show v=[] from h2,List.append_nil] at h;rw [h];exact h1⟩
   ·rw [row_s (by simpa using h1) (by simpa using h2),ihp]
    constructor
    ·rintro ⟨u,v,rfl,hp,hv⟩
     obtain ⟨u',v',rfl,hq,hb⟩:=(ihq _).1 hv
     exact ⟨u++u',v',by simp,⟨u,u',rfl,hp,hq⟩,hb⟩
    ·rintro ⟨u,v,rfl,⟨u',v',rfl,hp,hq⟩,hb⟩
     exact ⟨u',v'++v,by simp,hp,(ihq _).2 ⟨v',v,rfl,hq,hb⟩⟩
 | _ =>
  by_cases h1:b.isZ=true
  ·rw [isZ_eq h1,row_z];exact ⟨fun h=>h.elim,fun ⟨_,_,_,_,h⟩=>h.elim⟩
  ·by_cases h2:b.isE=true
   ·rw [isE_eq h2,row_e]
    exact ⟨fun h=>⟨w,[],by simp,h,rfl⟩,fun ⟨u,v,h,h1,h2⟩=>by rw [show v=[] from h2,List.append_nil] at h;rw [h];exact h1⟩
   ·rw [row_o (by simpa using h1) (by simpa using h2) rfl rfl rfl];exact Iff.rfl
theorem str_cons {P:List Nat→Prop} {k:Nat} {w:List Nat}:Str P (k :: w)↔∃ u v,w=u++v∧P (k :: u)∧Str P v:=by
 constructor
 ·intro h
  generalize hx:k :: w=x at h
  induction h with
  | nil=>cases hx
  | cons u v hu hv ih =>
   cases u with
   | nil=>exact ih (by simpa using hx)
   | cons j u=>simp at hx;obtain ⟨rfl,rfl⟩:=hx;exact ⟨u,v,rfl,hu,hv⟩
 ·rintro ⟨u,v,rfl,h1,h2⟩
  exact Str.cons (k :: u) v h1 h2
theorem emp_mt (t:Tr):t.emp=true↔t.Mt []:=by
 induction t with
 | z=>simp [emp,Mt]
 | e=>simp [emp,Mt]
 | c n=>simp [emp,Mt]
 | s p q ihp ihq =>
  simp only [emp,Bool.and_eq_true,ihp,ihq,Mt]
  constructor
  ·rintro ⟨h1,h2⟩;exact ⟨[],[],rfl,h1,h2⟩
  ·rintro ⟨u,v,h,h1,h2⟩
   have:=List.append_eq_nil_iff.1 h.symm
   rw [this.1] at h1;rw [this.2] at h2;exact ⟨h1,h2⟩
 | a p q ihp ihq=>simp only [emp,Bool.or_eq_true,ihp,ihq,Mt]
 | m p=>simp only [emp,Mt,true_iff];exact Str.nil
theorem beh_mt {t:Tr} (h:t.ok) (k:Nat) (w:List Nat):(t.beh k).Mt w↔t.Mt (k :: w):=by
 induction t generalizing w with
 | z=>simp [beh,Mt]
 | e=>simp [beh,Mt]
 | c n =>
  show (if n.testBit k=true then e else z).Mt w↔∃ j,k :: w=[j]∧n.testBit j=true
  split
  ·rename_i hk
   constructor
   ·intro h;rw [show w=[] from h];exact ⟨k,rfl,hk⟩
   ·rintro ⟨j,hj,_⟩;simp at hj;exact hj.2
  ·rename_i hk
   constructor
   ·intro h;exact h.elim
   ·rintro ⟨j,hj,hj2⟩;simp at hj;rw [hj.1] at hk;exact absurd hj2 hk
 | s p q ihp ihq =>
  have key:(row (p.beh k) q).Mt w↔∃ u v,w=u++v∧p.Mt (k :: u)∧q.Mt v:=by
   rw [mt_row]
   constructor
   ·rintro ⟨u,v,e,h1,h2⟩;exact ⟨u,v,e,(ihp h.1 u).1 h1,h2⟩
   ·rintro ⟨u,v,e,h1,h2⟩;exact ⟨u,v,e,(ihp h.1 u).2 h1,h2⟩
  have key2:(s p q).Mt (k :: w)↔(∃ u v,w=u++v∧p.Mt (k :: u)∧q.Mt v)∨(p.Mt []∧q.Mt (k :: w)):=by
   constructor
   ·rintro ⟨u,v,e,h1,h2⟩
    cases u with
    | nil=>rw [show k :: w=v from e];exact Or.inr ⟨h1,h2⟩
    | cons j u=>simp at e;obtain ⟨rfl,rfl⟩:=e;exact Or.inl ⟨u,v,rfl,h1,h2⟩
   ·rintro (⟨u,v,rfl,h1,h2⟩ | ⟨h1,h2⟩)
    ·exact ⟨k :: u,v,rfl,h1,h2⟩
    ·exact ⟨[],k :: w,rfl,h1,h2⟩
  rw [key2]
  show (if p.emp=true then either (row (p.beh k) q) (q.beh k) else row (p.beh k) q).Mt w↔_
  split
  ·rename_i he
   rw [mt_either (row_ok (beh_ok h.1 k) h.2.1).1 (beh_ok h.2.1 k),key,ihq h.2.1]
   rw [emp_mt] at he
   simp [he]
  ·rename_i he
   rw [emp_mt] at he
   rw [key];simp [he]
 | a p q ihp ihq =>
  show (either (p.beh k) (q.beh k)).Mt w↔_
  rw [mt_either (beh_ok h.1 k) (beh_ok h.2.1 k),ihp h.1,ihq h.2.1];exact Iff.rfl
 | m p ih =>
  show (row (p.beh k) (.m p)).Mt w↔Str p.Mt (k :: w)
  rw [mt_row,str_cons]
  constructor
  ·rintro ⟨u,v,e,h1,h2⟩;exact ⟨u,v,e,(ih h.1 u).1 h1,h2⟩
  ·rintro ⟨u,v,e,h1,h2⟩;exact ⟨u,v,e,(ih h.1 u).2 h1,h2⟩
def der (t:Tr) (w:List Nat):Tr:=w.foldl beh t
theorem der_ok {t:Tr} (h:t.ok) (w:List Nat):(t.der w).ok:=by
 induction w generalizing t with
 | nil=>exact h
 | cons k w ih=>exact ih (beh_ok h k)
theorem der_mt {t:Tr} (h:t.ok) (w v:List Nat):(t.der w).Mt v↔t.Mt (w++v):=by
 induction w generalizing t with
 | nil=>exact Iff.rfl
 | cons k w ih=>show ((t.beh k).der w).Mt v↔_;rw [ih (beh_ok h k),beh_mt h];rfl
theorem der_app (t:Tr) (w v:List Nat):t.der (w++v)=(t.der w).der v:=List.foldl_append
theorem der_snoc (t:Tr) (w:List Nat) (k:Nat):t.der (w++[k])=(t.der w).beh k:=by rw [der_app];rfl
theorem der_z (w:List Nat):Tr.z.der w=.z:=by induction w with | nil=>rfl | cons k w ih=>exact ih
theorem der_emp {t:Tr} (h:t.ok) (w:List Nat):(t.der w).emp=true↔t.Mt w:=by rw [emp_mt,der_mt h];simp
theorem beh_alts {t:Tr} (h:t.ok) (k:Nat) (u:Tr):u ∈ (t.beh k).alts↔∃ v ∈ t.alts,u ∈ (v.beh k).alts:=by
 induction t with
 | z=>simp [beh,alts]
 | a p q ihp ihq =>
  show u ∈ (either (p.beh k) (q.beh k)).alts↔_
  rw [(either_ok (beh_ok h.1 k) (beh_ok h.2.1 k)).2 u,ihq h.2.1]
  simp only [alts,List.mem_cons,exists_eq_or_imp]
 | _=>simp [alts]
theorem der_alts {t:Tr} (h:t.ok) (w:List Nat) (u:Tr):u ∈ (t.der w).alts↔∃ v ∈ t.alts,u ∈ (v.der w).alts:=by
 induction w generalizing t with
 | nil =>
  show u ∈ t.alts↔∃ v ∈ t.alts,u ∈ v.alts
  constructor
  ·intro hu;exact ⟨u,hu,by rw [alts_one (h.srt.2 u hu).2];simp⟩
  ·rintro ⟨v,hv,hu⟩
   rw [alts_one (h.srt.2 v hv).2] at hu;simp at hu;subst hu;exact hv
 | cons k w ih =>
  show u ∈ ((t.beh k).der w).alts↔∃ v ∈ t.alts,u ∈ ((v.beh k).der w).alts
  rw [ih (beh_ok h k)]
  constructor
  ·rintro ⟨v,hv,hu⟩
   obtain ⟨x,hx,hv⟩:=(beh_alts h k v).1 hv
   exact ⟨x,hx,(ih (beh_ok (h.srt.2 x hx).1 k)).2 ⟨v,hv,hu⟩⟩
  ·rintro ⟨x,hx,hu⟩
   obtain ⟨v,hv,hu⟩:=(ih (beh_ok (h.srt.2 x hx).1 k)).1 hu
   exact ⟨v,(beh_alts h k v).2 ⟨x,hx,hv⟩,hu⟩
def pstep:Tr→Nat→List Tr
 | .s p q,k=>row (p.beh k) q :: (if p.emp=true then q.pstep k else [])
 | g,k=>[g.beh k]
def pcs:Tr→List Nat→List Tr
 | g,[]=>[g]
 | g,k :: w=>(g.pstep k).flatMap fun g'=>g'.pcs w
theorem pstep_ok {g:Tr} (h:g.ok) (k:Nat):∀ g' ∈ g.pstep k,g'.ok:=by
 induction g with
 | s p q ihp ihq =>
  intro g' hg
  unfold pstep at hg
  rcases List.mem_cons.1 hg with rfl | hg
  ·exact (row_ok (beh_ok h.1 k) h.2.1).1
  ·split at hg
   ·exact ihq h.2.1 g' hg
   ·cases hg
 | _=>intro g' hg;unfold pstep at hg;simp at hg;subst hg;exact beh_ok h k
theorem pcs_ok {g:Tr} (h:g.ok) (w:List Nat):∀ g' ∈ g.pcs w,g'.ok:=by
 induction w generalizing g with
 | nil=>intro g' hg;simp [pcs] at hg;subst hg;exact h
 | cons k w ih =>
  intro g' hg
  obtain ⟨x,hx,hg⟩:=List.mem_flatMap.1 hg
  exact ih (pstep_ok h k x hx) g' hg
theorem pcs_snoc (g:Tr) (w:List Nat) (k:Nat) (g':Tr):g' ∈ g.pcs (w++[k])↔∃ x ∈ g.pcs w,g' ∈ x.pstep k:=by
 induction w generalizing g with
 | nil=>simp [pcs]
 | cons j w ih =>
  simp only [List.cons_append,pcs,List.mem_flatMap,ih]
  constructor
  ·rintro ⟨y,hy,x,hx,hg⟩;exact ⟨x,⟨y,hy,hx⟩,hg⟩
  ·rintro ⟨x,⟨y,hy,hx⟩,hg⟩;exact ⟨y,hy,x,hx,hg⟩
theorem pstep_alts {g:Tr} (h:g.ok) (k:Nat) (u:Tr):u ∈ (g.beh k).alts↔∃ g' ∈ g.pstep k,u ∈ g'.alts:=by
 induction g with
 | s p q ihp ihq =>
  unfold pstep
  show u ∈ (if p.emp=true then either (row (p.beh k) q) (q.beh k) else row (p.beh k) q).alts↔_
  split
  ·rw [(either_ok (row_ok (beh_ok h.1 k) h.2.1).1 (beh_ok h.2.1 k)).2 u,ihq h.2.1]
   simp
  ·simp
 | _=>unfold pstep;simp
theorem pcs_alts {g:Tr} (h:g.ok) (w:List Nat) (u:Tr):u ∈ (g.der w).alts↔∃ g' ∈ g.pcs w,u ∈ g'.alts:=by
 induction w generalizing g with
 | nil=>simp [pcs,der]
 | cons k w ih =>
  show u ∈ ((g.beh k).der w).alts↔_
  rw [der_alts (beh_ok h k)]
  simp only [pcs,List.mem_flatMap]
  constructor
  ·rintro ⟨v,hv,hu⟩
   obtain ⟨x,hx,hv⟩:=(pstep_alts h k v).1 hv
   have hxo:=pstep_ok h k x hx
   obtain ⟨g',hg',hu⟩:=(ih hxo).1 ((der_alts hxo w u).2 ⟨v,hv,hu⟩)
   exact ⟨g',⟨x,hx,hg'⟩,hu⟩
  ·rintro ⟨g',⟨x,hx,hg'⟩,hu⟩
   have hxo:=pstep_ok h k x hx
   obtain ⟨v,hv,hu⟩:=(der_alts hxo w u).1 ((ih hxo).2 ⟨g',hg',hu⟩)
   exact ⟨v,(pstep_alts h k v).2 ⟨x,hx,hv⟩,hu⟩
theorem pstep_row {g b:Tr} (hg:g.ok) (hb:b.ok) (b1:b.isZ=false) (b2:b.isE=false) (k:Nat) (x:Tr) (hx:x ∈ (row g b).pstep k):x=.z∨(∃ g' ∈ g.pstep k,x=row g' b)∨x ∈ b.pstep k:=by
 induction g generalizing x with
 | z=>left;simp [row,pstep,beh] at hx;exact hx
 | e=>right;right;exact hx
 | s p q ihp ihq =>
  have h2:=(row_ok hg.2.1 hb)
  have h3:=h2.2 hg.2.2.2.2.2.1 b1
  rw [row_s b1 b2,row_o h3.1 (h3.2 b2) hg.2.2.1 hg.2.2.2.1 hg.2.2.2.2.1] at hx
  unfold pstep at hx
  rcases List.mem_cons.1 hx with rfl | hx
  ·right;left
   refine ⟨row (p.beh k) q,by unfold pstep;simp,?_⟩
   rw [row_assoc (beh_ok hg.1 k) hg.2.1 hb]
  ·split at hx
   ·rename_i he
    rcases ihq hg.2.1 x hx with k1 | ⟨g',k1,k2⟩ | k1
    ·exact Or.inl k1
    ·right;left
     exact ⟨g',by unfold pstep;rw [if_pos he];exact List.mem_cons_of_mem _ k1,k2⟩
    ·exact Or.inr (Or.inr k1)
   ·cases hx
 | _ =>
  rw [row_o b1 b2 rfl rfl rfl] at hx
  unfold pstep at hx
  rcases List.mem_cons.1 hx with rfl | hx
  ·right;left;exact ⟨_,by unfold pstep;simp,rfl⟩
  ·split at hx
   ·exact Or.inr (Or.inr hx)
   ·cases hx
end Tr
end Go.Proofs.YtodagkkjfipbgaaGreatDoor
