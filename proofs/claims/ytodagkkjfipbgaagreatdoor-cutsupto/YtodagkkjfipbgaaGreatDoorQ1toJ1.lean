import Derived.OwnWalk
import Derived.Maps.OwnSet
import Derived.Maps.RangeWalk
import Derived.Test.YtodagkkjfipbgaaGreatDoorP1toL2
namespace Go.Proofs.YtodagkkjfipbgaaGreatDoor
open Go.RowKit
structure Px where
 what:Nat
 k:Nat
 l:List Px
def oneP (k:Nat):Px:=⟨0,k,[]⟩
def rowP (l:List Px):Px:=⟨1,0,l⟩
def eitherP (l:List Px):Px:=match l with
 | [x]=>x
 | l=>⟨2,0,l⟩
def starP (x:Px):Px:=⟨3,0,[x]⟩
def plusP (x:Px):Px:=⟨4,0,[x]⟩
def maybeP (x:Px):Px:=⟨2,0,[x,rowP []]⟩
abbrev St:=Nat × List Nat
def leadS (S:List St) (f t:Nat):List St:=S.modify f fun s=>(s.1,s.2++[t])
def mk:Nat→Px→List St→Nat→List St × Nat
 | 0,_,S,b=>(S,b)
 | d+1,x,S,b =>
  if x.what=0 then (S++[(x.k,[b])],S.length)
  else if x.what=1 then x.l.foldr (fun y r=>mk d y r.1 r.2) (S,b)
  else if x.what=2 then (x.l.foldl (fun Z y=>leadS (mk d y Z b).1 S.length (mk d y Z b).2) (S++[(0,[])]),S.length)
  else match x.l with
   | [y]=>(leadS (mk d y (S++[(0,[b])]) S.length).1 S.length (mk d y (S++[(0,[b])]) S.length).2,if x.what=3 then S.length else (mk d y (S++[(0,[b])]) S.length).2)
   | _=>(S,b)
def wtx:Nat→Px→Nat
 | 0,_=>0
 | d+1,x =>
  if x.what=0 then 1
  else if x.what=1 then (x.l.map (wtx d)).sum
  else if x.what=2 then 1+(x.l.map fun y=>1+wtx d y).sum
  else 2+(x.l.map (wtx d)).sum
def tot (S:List St):Nat:=(S.map fun s=>s.2.length).sum
theorem leadS_len (S:List St) (f t:Nat):(leadS S f t).length=S.length:=by unfold leadS;simp
theorem leadS_tot (S:List St) (f t:Nat):tot (leadS S f t)≤tot S+1:=by
 unfold leadS
 induction S generalizing f with
 | nil=>simp [tot]
 | cons a S ih =>
  cases f with
  | zero=>simp [tot];omega
  | succ f=>have:=ih f;simp [tot] at *;omega
theorem tot_mem {S:List St} {s:St} (h:s ∈ S):s.2.length≤tot S:=by
 induction S with
 | nil=>simp at h
 | cons a S ih =>
  simp only [tot,List.map_cons,List.sum_cons] at *
  rcases List.mem_cons.1 h with rfl | h
  ·omega
  ·have:=ih h;omega
def Adds (n:Nat) (S R:List St):Prop:=S.length≤R.length∧R.length≤S.length+n∧tot R≤tot S+n
theorem Adds.trans {n m k:Nat} {S R Q:List St} (h:Adds n S R) (h':Adds m R Q) (hk:n+m≤k):Adds k S Q:=by
 unfold Adds at *;omega
theorem mk_adds (d:Nat):∀ (x:Px) (S:List St) (b:Nat),Adds (wtx d x) S (mk d x S b).1:=by
 induction d with
 | zero=>intro x S b;simp [mk,wtx,Adds]
 | succ d ih =>
  intro x S b
  rw [mk,wtx]
  split
  ·simp [Adds,tot]
  ·split
   ·have key:∀ (l:List Px),Adds (l.map (wtx d)).sum S (l.foldr (fun y r=>mk d y r.1 r.2) (S,b)).1:=by
     intro l
     induction l with
     | nil=>simp [Adds]
     | cons y l ihl =>
      rw [List.foldr_cons,List.map_cons,List.sum_cons]
      exact ihl.trans (ih y _ _) (by omega)
    exact key x.l
   ·split
    ·have key:∀ (l:List Px) (Z:List St),Adds (l.map fun y=>1+wtx d y).sum Z (l.foldl (fun Z y=>leadS (mk d y Z b).1 S.length (mk d y Z b).2) Z):=by
      intro l
      induction l with
      | nil=>simp [Adds]
      | cons y l ihl =>
       intro Z
       rw [List.foldl_cons,List.map_cons,List.sum_cons]
       have h1:=ih y Z b
       have h2:Adds 1 (mk d y Z b).1 (leadS (mk d y Z b).1 S.length (mk d y Z b).2):=⟨by rw [leadS_len];omega,by rw [leadS_len];omega,leadS_tot _ _ _⟩
       exact (h1.trans h2 (Nat.le_refl _)).trans (ihl _) (by omega)
     have h0:Adds 1 S (S++[(0,[])]):=by simp [Adds,tot]
     exact h0.trans (key x.l (S++[(0,[])])) (by omega)
    ·split
     ·rename_i y hy
      have h0:Adds 1 S (S++[(0,[b])]):=by simp [Adds,tot]
      have h1:=ih y (S++[(0,[b])]) S.length
      have h2:Adds 1 (mk d y (S++[(0,[b])]) S.length).1 (leadS (mk d y (S++[(0,[b])]) S.length).1 S.length (mk d y (S++[(0,[b])]) S.length).2):=⟨by rw [leadS_len];omega,by rw [leadS_len];omega,leadS_tot _ _ _⟩
      simp only [hy,List.map_cons,List.map_nil,List.sum_cons,List.sum_nil]
      exact (h0.trans h1 (Nat.le_refl _)).trans h2 (by omega)
     ·simp [Adds]
def fnv (f q:Nat):Value:=.func (.func f) #[] #[.pointer (some ⟨q,0,none⟩)]
def PtRow (R:Value→Px→Prop) (A:Nat→Prop) (w:World) (v:Value) (l:List Px):Prop :=
 ∃ us:List Value,us.length=l.length∧l.length≤9000∧w.ownsRow 0 224 1 v l.length us∧(∀ k,v.ownBlock=some k→A k)∧∀ (i:Nat) (u:Value) (x:Px),us[i]?=some u→l[i]?=some x→R u x
def PIn:Nat→(Nat→Prop)→World→Value→Px→Prop
 | 0,_,_,_,_=>False
 | d+1,A,w,v,x=>∃ q,A q ∧
  ((x.what=0∧v=fnv 255 q∧w.heap[q]?=some (.cells #[.int .u8 x.k] 167 (0,0))∧x.k<256) ∨
   (x.what=1∧v=fnv 206 q∧∃ vR,w.heap[q]?=some (.cells #[vR] 337 (0,0))∧PtRow (PIn d A w) A w vR x.l) ∨
   (x.what=2∧v=fnv 225 q∧∃ vR,w.heap[q]?=some (.cells #[vR] 337 (0,0))∧PtRow (PIn d A w) A w vR x.l) ∨
   (x.what=3∧v=fnv 250 q∧∃ u y,x.l=[y]∧w.heap[q]?=some (.cells #[u] 224 (0,0))∧PIn d A w u y) ∨
   (x.what=4∧v=fnv 252 q∧∃ u y,x.l=[y]∧w.heap[q]?=some (.cells #[u] 224 (0,0))∧PIn d A w u y))
def PtType (t:TypeId):Prop:=t=167∨t=337∨t=224
def KeepPt (A:Nat→Prop) (w w':World):Prop:=∀ (k:Nat) (cs:Array Value) (t:TypeId) (m:Nat × Nat),A k→PtType t→w.heap[k]?=some (.cells cs t m)→w'.heap[k]?=some (.cells cs t m)
theorem PtRow.turn {R R':Value→Px→Prop} {A A':Nat→Prop} {w w':World} {v:Value} {l:List Px} (h:PtRow R A w v l) (hk:KeepPt A w w') (hA:∀ k,k<w.heap.size→A k→A' k) (hR:∀ u x,R u x→R' u x):PtRow R' A' w' v l:=by
 obtain ⟨us,h1,h0,h2,h3,h4⟩:=h
 refine ⟨us,h1,h0,⟨h2.1,?_⟩,fun k e=>hA k (h2.lt k e).2 (h3 k e),fun i u x hu hx=>hR _ _ (h4 i u x hu hx)⟩
 rcases h2.2 with h | ⟨g,cap,cur,hv,hg,hh,r⟩
 ·exact Or.inl h
 ·exact Or.inr ⟨g,cap,cur,hv,hg,hk _ _ _ _ (h3 g (by rw [hv];rfl)) (Or.inr (Or.inr rfl)) hh,r⟩
theorem PtRow.len {R:Value→Px→Prop} {A:Nat→Prop} {w:World} {v:Value} {l:List Px} (h:PtRow R A w v l):l.length≤9000:=by
 obtain ⟨us,h1,h0,h2,h3,h4⟩:=h
 exact h0
theorem heap_lt {w:World} {k:Nat} {o:Obj} (h:w.heap[k]?=some o):k<w.heap.size:=(Array.getElem?_eq_some_iff.1 h).1
theorem PIn.turn {A A':Nat→Prop} {w w':World} (hk:KeepPt A w w') (hA:∀ k,k<w.heap.size→A k→A' k):∀ {d v x},PIn d A w v x→PIn d A' w' v x:=by
 intro d
 induction d with
 | zero=>intro v x h;exact h.elim
 | succ d ih =>
  intro v x h
  obtain ⟨q,hq,h⟩:=h
  rcases h with ⟨h1,h2,h3,h4⟩ | ⟨h1,h2,vR,h3,h4⟩ | ⟨h1,h2,vR,h3,h4⟩ | ⟨h1,h2,u,y,h3,h4,h5⟩ | ⟨h1,h2,u,y,h3,h4,h5⟩
  ·exact ⟨q,hA q (heap_lt h3) hq,Or.inl ⟨h1,h2,hk _ _ _ _ hq (Or.inl rfl) h3,h4⟩⟩
  ·exact ⟨q,hA q (heap_lt h3) hq,Or.inr (Or.inl ⟨h1,h2,vR,hk _ _ _ _ hq (Or.inr (Or.inl rfl)) h3,h4.turn hk hA (fun u x hu=>ih hu)⟩)⟩
  ·exact ⟨q,hA q (heap_lt h3) hq,Or.inr (Or.inr (Or.inl ⟨h1,h2,vR,hk _ _ _ _ hq (Or.inr (Or.inl rfl)) h3,h4.turn hk hA (fun u x hu=>ih hu)⟩))⟩
  ·exact ⟨q,hA q (heap_lt h4) hq,Or.inr (Or.inr (Or.inr (Or.inl ⟨h1,h2,u,y,h3,hk _ _ _ _ hq (Or.inr (Or.inr rfl)) h4,ih h5⟩)))⟩
  ·exact ⟨q,hA q (heap_lt h4) hq,Or.inr (Or.inr (Or.inr (Or.inr ⟨h1,h2,u,y,h3,hk _ _ _ _ hq (Or.inr (Or.inr rfl)) h4,ih h5⟩)))⟩
theorem KeepPt.refl (A:Nat→Prop) (w:World):KeepPt A w w:=fun _ _ _ _ _ _ h=>h
theorem KeepPt.below {B:Nat} {w w':World} (h:Below B w w') {A:Nat→Prop} (hA:∀ k,k<w.heap.size→A k→k<B):KeepPt A w w':=fun k cs t m ha _ hh=>by
 rw [h.block k (hA k (heap_lt hh) ha)];exact hh
theorem PIn.later {B d:Nat} {w w':World} {v:Value} {x:Px} (h:PIn d (fun k=>k<B) w v x) (hb:Below B w w'):PIn d (fun k=>k<B) w' v x:=h.turn (KeepPt.below hb fun _ _ h=>h) fun _ _ h=>h
theorem PIn.deeper {A:Nat→Prop} {w:World}:∀ {d e v x},d≤e→PIn d A w v x→PIn e A w v x:=by
 intro d
 induction d with
 | zero=>intro e v x _ h;exact h.elim
 | succ d ih =>
  intro e v x he h
  cases e with
  | zero=>omega
  | succ e =>
   obtain ⟨q,hq,h⟩:=h
   have he':d≤e:=by omega
   have row:∀ {vR l},PtRow (PIn d A w) A w vR l→PtRow (PIn e A w) A w vR l:=fun h=>h.turn (KeepPt.refl _ _) (fun _ _ h=>h) (fun _ _ h=>ih he' h)
   rcases h with ⟨h1,h2,h3,h4⟩ | ⟨h1,h2,vR,h3,h4⟩ | ⟨h1,h2,vR,h3,h4⟩ | ⟨h1,h2,u,y,h3,h4,h5⟩ | ⟨h1,h2,u,y,h3,h4,h5⟩
   ·exact ⟨q,hq,Or.inl ⟨h1,h2,h3,h4⟩⟩
   ·exact ⟨q,hq,Or.inr (Or.inl ⟨h1,h2,vR,h3,row h4⟩)⟩
   ·exact ⟨q,hq,Or.inr (Or.inr (Or.inl ⟨h1,h2,vR,h3,row h4⟩))⟩
   ·exact ⟨q,hq,Or.inr (Or.inr (Or.inr (Or.inl ⟨h1,h2,u,y,h3,h4,ih he' h5⟩)))⟩
   ·exact ⟨q,hq,Or.inr (Or.inr (Or.inr (Or.inr ⟨h1,h2,u,y,h3,h4,ih he' h5⟩)))⟩
def stCells (S:List St) (tv:List Value):List Value:=(S.zip tv).flatMap fun o=>[.int .u8 o.1.1,o.2]
def intCells (l:List Nat):List Value:=l.map fun (n:Nat)=>Value.int .i64 (n:Int)
structure MRow (w:World) (base:Nat) (vS:Value) (S:List St) (tv:List Value):Prop where
 len:tv.length=S.length
 row:w.ownsRow base 293 2 vS S.length (stCells S tv)
 to_:∀ (i:Nat) (v:Value) (s:St),tv[i]?=some v→S[i]?=some s→w.ownsRow base 3 1 v s.2.length (intCells s.2)
 apart:∀ (i j:Nat) (v u:Value) (k:Nat),i ≠ j→tv[i]?=some v→tv[j]?=some u→v.ownBlock=some k→u.ownBlock ≠ some k
def MIn (w:World) (base m:Nat) (S:List St) (first:Int):Prop :=
 base≤m∧∃ vS tv,w.heap[m]?=some (.cells #[vS,.int .i64 first] 146 (0,0))∧MRow w base vS S tv
theorem stCells_at:∀ (S:List St) (tv:List Value) (i:Nat) (s:St) (v:Value),S[i]?=some s→tv[i]?=some v→(stCells S tv)[i * 2]?=some (.int .u8 s.1)∧(stCells S tv)[i * 2+1]?=some v:=by
 intro S
 induction S with
 | nil=>intro tv i s v h;simp at h
 | cons a S ih =>
  intro tv i s v h1 h2
  cases tv with
  | nil=>simp at h2
  | cons u tv =>
   cases i with
   | zero=>simp at h1 h2;subst h1;subst h2;simp [stCells]
   | succ i =>
    simp at h1 h2
    have:=ih tv i s v h1 h2
    have e:∀ k,(stCells (a :: S) (u :: tv))[(i+1) * 2+k]?=(stCells S tv)[i * 2+k]?:=by
     intro k;rw [show (i+1) * 2+k=(i * 2+k)+2 from by omega];rfl
    have e0:=e 0;have e1:=e 1
    simp only [Nat.add_zero] at e0
    rw [e0,e1];exact this
theorem stCells_snoc (S:List St) (tv:List Value) (s:St) (v:Value) (h:tv.length=S.length):stCells (S++[s]) (tv++[v])=stCells S tv++[.int .u8 s.1,v]:=by
 unfold stCells;rw [List.zip_append h.symm];simp
theorem Tryz.infoState:(Tryz.prog.info? 293).map (fun i=>(i.zero,i.size,i.bytes))=some (some (.agg #[.int .u8 0,.slice none 0 0]),2,32):=by kernel_rfl
theorem Tryz.undState:Tryz.prog.underlying 144=some (.slice 293):=by kernel_rfl
theorem Tryz.infoInt:(Tryz.prog.info? 3).map (fun i=>(i.zero,i.size,i.bytes))=some (some (.int .i64 0),1,8):=by kernel_rfl
theorem Tryz.undInt:Tryz.prog.underlying 33=some (.slice 3):=by kernel_rfl
theorem row_shape {w:World} {base:Nat} {e:TypeId} {size:Nat} {v:Value} {n:Nat} {us:List Value} (h:w.ownsRow base e size v n us):∃ ao cap,v=.slice ao n cap:=by
 rcases h.2 with ⟨hv,hn⟩ | ⟨g,cap,cur,hv,_⟩
 ·exact ⟨none,0,by rw [hv,hn]⟩
 ·exact ⟨_,cap,hv⟩
theorem row_on {w w':World} {base:Nat} {e:TypeId} {size:Nat} {v:Value} {n:Nat} {us:List Value} (h:w.ownsRow base e size v n us) (hk:∀ k,v.ownBlock=some k→w'.heap[k]?=w.heap[k]?):w'.ownsRow base e size v n us:=by
 refine ⟨h.1,?_⟩
 rcases h.2 with h2 | ⟨g,cap,cur,hv,hg,hh,r⟩
 ·exact Or.inl h2
 ·exact Or.inr ⟨g,cap,cur,hv,hg,(hk g (by rw [hv];rfl)).trans hh,r⟩
theorem row_type {w:World} {base:Nat} {e:TypeId} {size:Nat} {v:Value} {n:Nat} {us:List Value} (h:w.ownsRow base e size v n us) (k:Nat) (hk:v.ownBlock=some k):∃ cs,w.heap[k]?=some (.cells cs e (0,0)):=by
 rcases h.2 with ⟨hv,_⟩ | ⟨g,cap,cur,hv,hg,hh,r⟩
 ·rw [hv] at hk;simp [Value.ownBlock] at hk
 ·rw [hv] at hk;simp [Value.ownBlock] at hk;subst hk;exact ⟨cur,hh⟩
theorem type_ne {w:World} {k l:Nat} {c d:Array Value} {t u:TypeId} {m n:Nat × Nat} (h:w.heap[k]?=some (.cells c t m)) (h':w.heap[l]?=some (.cells d u n)) (ht:t ≠ u):k ≠ l:=by
 intro e;subst e;rw [h] at h';simp at h';exact ht h'.2.1
def Kp (t:TypeId) (w w':World):Prop:=∀ (k:Nat) (cs:Array Value) (m:Nat × Nat),w.heap[k]?=some (.cells cs t m)→w'.heap[k]?=some (.cells cs t m)
theorem Kp.refl (t:TypeId) (w:World):Kp t w w:=fun _ _ _ h=>h
theorem Kp.trans {t:TypeId} {a b c:World} (h:Kp t a b) (k:Kp t b c):Kp t a c:=fun i cs m hh=>k i cs m (h i cs m hh)
theorem Kp.below {t:TypeId} {w w':World} (h:Below w.heap.size w w'):Kp t w w':=fun k cs m hh=>by rw [h.block k (heap_lt hh)];exact hh
theorem Kp.alloc {t:TypeId} {a w:World} (h:Kp t a w) (o:Obj):Kp t a (w.alloc o):=fun k cs m hh=>by rw [Below.heap_alloc _ _ _ (heap_lt (h k cs m hh))];exact h k cs m hh
theorem Kp.drewN {t:TypeId} {a w:World} (h:Kp t a w) (n:Nat):Kp t a (w.drewN n):=h
theorem Kp.grown {t e:TypeId} {base size n:Nat} {a w w':World} {v:Value} {us:List Value} (h:Kp t a w) (hown:w.ownsRow base e size v n us) (hg:w.grownBy w' v.ownBlock) (ht:t ≠ e):Kp t a w':=fun k cs m hh=>by
 have h1:=h k cs m hh
 rw [hg.block k (heap_lt h1) (fun e1=>by obtain ⟨c2,h2⟩:=row_type hown k e1.symm;exact type_ne h1 h2 ht rfl)];exact h1
theorem Kp.setCell {t t0:TypeId} {a w:World} {b o:Nat} {cs0:Array Value} {m0:Nat × Nat} (h:Kp t a w) (hb:w.heap[b]?=some (.cells cs0 t0 m0)) (ht:t ≠ t0) (u:Value):Kp t a (w.setCell ⟨b,o,none⟩ u):=fun k cs m hh=>by
 have h1:=h k cs m hh
 rw [Below.heap_setCell _ _ _ _ (type_ne h1 hb ht)];exact h1
theorem row_kp {w w':World} {base:Nat} {e:TypeId} {size:Nat} {v:Value} {n:Nat} {us:List Value} (h:w.ownsRow base e size v n us) (hk:Kp e w w'):w'.ownsRow base e size v n us :=
 row_on h fun k e1=>by obtain ⟨cs,hh⟩:=row_type h k e1;rw [hh];exact hk k cs _ hh
theorem kept_grown {w W w':World} {m base size n:Nat} {t e:TypeId} {cs:Array Value} {v:Value} {us:List Value} (hm:w.heap[m]?=some (.cells cs t (0,0))) (h1:Kp t w W) (hown:W.ownsRow base e size v n us) (hg:W.grownBy w' v.ownBlock) (ht:t ≠ e):w'.heap[m]?=some (.cells cs t (0,0)) :=
 (h1.grown hown hg ht) m cs _ hm
theorem two_cells (a b:Value) (ha:a.oneCell'=true) (hb:b.oneCell'=true):∀ u ∈ [a,b],u.oneCell'=true:=by
 intro u hu;simp at hu;rcases hu with rfl | rfl <;> assumption
theorem snoc_at {α:Type} {l:List α} {a x:α} {i:Nat} (h:(l++[a])[i]?=some x):(l[i]?=some x∧i<l.length)∨(i=l.length∧x=a):=by
 rcases Nat.lt_trichotomy i l.length with h1 | h1 | h1
 ·left;rw [List.getElem?_append_left h1] at h;exact ⟨h,h1⟩
 ·right;subst h1;simp at h;exact ⟨rfl,h.symm⟩
 ·rw [List.getElem?_append_right (by omega)] at h
  rw [show i - l.length=(i - l.length - 1)+1 from by omega] at h
  simp at h
theorem setCell0 {w:World} {m:Nat} {a b v:Value} {t:TypeId} (h:w.heap[m]?=some (.cells #[a,b] t (0,0))):(w.setCell ⟨m,0,none⟩ v).heap[m]?=some (.cells #[v,b] t (0,0)):=(block_setCell h 0 _).trans rfl
theorem MRow.push {w w2:World} {base:Nat} {vS vS' v:Value} {S:List St} {tv:List Value} {k:Nat} {to_:List Nat} (h:MRow w base vS S tv) (hrow:w2.ownsRow base 293 2 vS' (S.length+1) (stCells S tv++[.int .u8 k,v]))
  (hk:Kp 3 w w2) (hv:w.ownsRow base 3 1 v to_.length (intCells to_)) (hn:∀ (i:Nat) (u:Value) (j:Nat),tv[i]?=some u→u.ownBlock=some j→v.ownBlock ≠ some j):MRow w2 base vS' (S++[(k,to_)]) (tv++[v]):=by
 have hl:=h.len
 refine ⟨by simp [hl],?_,?_,?_⟩
 ·rw [stCells_snoc _ _ _ _ hl,List.length_append];exact hrow
 ·intro i u s hu hs
  rcases snoc_at hu with ⟨h1,h2⟩ | ⟨h1,rfl⟩
  ·rcases snoc_at hs with ⟨h3,h4⟩ | ⟨h3,rfl⟩
   ·exact row_kp (h.to_ i u s h1 h3) hk
   ·omega
  ·rcases snoc_at hs with ⟨h3,h4⟩ | ⟨h3,rfl⟩
   ·omega
   ·exact row_kp hv hk
 ·intro i j u x k hij hu hx hk'
  rcases snoc_at hu with ⟨h1,h2⟩ | ⟨h1,rfl⟩
  ·rcases snoc_at hx with ⟨h3,h4⟩ | ⟨h3,rfl⟩
   ·exact h.apart i j u x k hij h1 h3 hk'
   ·exact hn i u k h1 hk'
  ·rcases snoc_at hx with ⟨h3,h4⟩ | ⟨h3,rfl⟩
   ·intro e;exact hn j x k h3 e hk'
   ·omega
set_option maxRecDepth 100000 in
set_option maxHeartbeats 2000000 in
theorem add_at (base m:Nat) (S:List St) (first:Int) (k:Nat) (to_:List Nat) (v vS:Value) (tv:List Value) (w:World) (hbm:base≤m) (hm:w.heap[m]?=some (.cells #[vS,.int .i64 first] 146 (0,0))) (hr:MRow w base vS S tv)
  (hb:base≤w.heap.size) (hS:S.length≤9000) (hv:w.ownsRow base 3 1 v to_.length (intCells to_)) (hnew:∀ (i:Nat) (u:Value) (j:Nat),tv[i]?=some u→u.ownBlock=some j→v.ownBlock ≠ some j) :
  Calls Tryz.prog 226 #[.pointer (some ⟨m,0,none⟩),.int .u8 k,v] w fun e w'=>e=.returned (.int .i64 S.length)∧MIn w' base m (S++[(k,to_)]) first∧Below base w w':=by
 obtain ⟨ao,cap,rfl⟩:=row_shape hr.row
 obtain ⟨aov,capv,rfl⟩:=row_shape hv
 have c0:=cell_of_block hm 0 _ rfl
 have hf:=free_of_block hm
 have HR:Hid (w.ownsRow base 293 2 (.slice ao S.length cap) S.length (stCells S tv)):=hr.row
 have HM:Hid (w.heap[m]?=some (.cells #[.slice ao S.length cap,.int .i64 first] 146 (0,0))):=hm
 have HV:Hid (w.ownsRow base 3 1 (.slice aov to_.length capv) to_.length (intCells to_)):=hv
 have HN:Hid (∀ (i:Nat) (u:Value) (j:Nat),tv[i]?=some u→u.ownBlock=some j→Value.ownBlock (.slice aov to_.length capv) ≠ some j):=hnew
 have HRR:Hid (MRow w base (.slice ao S.length cap) S tv):=hr
 clear hr hm hv hnew
 go_enter Tryz.func226,Tryz.ntmps226
 go_wp2_with (at_builtin;refine wpList_push2 rfl (.tmp 11) (.tmp 15) 144 rfl base 293 (.agg #[.int .u8 0,.slice none 0 0]) 2 32 Tryz.infoState Tryz.undState rfl (by decide) (.slice ao S.length cap) S.length (stCells S tv) rfl (by exact HR.out.alloc _) w.heap.size 1 [.int .u8 k,.slice aov to_.length capv] rfl rfl (fun j u hu=>by rw [cell_of_block (heap_alloc_new w _) j u (by simpa using hu)]) (two_cells _ _ rfl rfl) (by omega) (by omega) (by simp;omega) ?_;intro v' w' hown hg hsn;obtain ⟨ao',cap',rfl⟩:=row_shape hown;have hm':=kept_grown HM.out ((Kp.refl _ w).alloc _) (HR.out.alloc _) hg (by decide);have e0:=cell_of_block hm' 0 _ rfl;have ef:=free_of_block hm')
 go_ret
 refine ⟨rfl,⟨hbm,_,tv++[.slice aov to_.length capv],setCell0 hm',?_⟩,?_⟩
 ·refine HRR.out.push ?_ ?_ HV.out HN.out
  ·exact row_kp hown ((Kp.refl _ _).setCell hm' (by decide) _)
  ·exact ((((Kp.refl _ w).alloc _).grown (HR.out.alloc _) hg (by decide))).setCell hm' (by decide) _
 ·refine Below.setCell (Below.grown ((Below.refl _ _).alloc hb _) hg (by simp;omega) fun k hk=>?_) hbm _
  exact (HR.out.lt k hk).1
theorem leadS_at {S:List St} {f t i:Nat} {s:St} (h:(leadS S f t)[i]?=some s):(i ≠ f∧S[i]?=some s)∨(i=f∧∃ s0,S[i]?=some s0∧s=(s0.1,s0.2++[t])):=by
 unfold leadS at h
 rw [List.getElem?_modify] at h
 by_cases e:f=i
 ·right
  subst e
  simp at h
  obtain ⟨a,b,h1,rfl⟩:=h
  exact ⟨rfl,_,h1,rfl⟩
 ·left
  refine ⟨fun e'=>e e'.symm,?_⟩
  cases hS:S[i]? with
  | none=>rw [hS] at h;simp at h
  | some x=>rw [hS] at h;simp [e] at h;rw [h]
theorem stCells_set:∀ (S:List St) (tv:List Value) (f t:Nat) (v:Value),tv.length=S.length→f<S.length→stCells (leadS S f t) (tv.set f v)=(stCells S tv).set (f * 2+1) v:=by
 intro S
 induction S with
 | nil=>intro tv f t v _ h;simp at h
 | cons a S ih =>
  intro tv f t v hl hf
  cases tv with
  | nil=>simp at hl
  | cons u tv =>
   cases f with
   | zero=>simp [stCells,leadS]
   | succ f =>
    have:=ih tv f t v (by simpa using hl) (by simpa using hf)
    rw [show (f+1) * 2+1=(f * 2+1)+2 from by omega]
    have e1:stCells (leadS (a :: S) (f+1) t) ((u :: tv).set (f+1) v)=.int .u8 a.1 :: u :: stCells (leadS S f t) (tv.set f v):=by simp [stCells,leadS]
    have e2:stCells (a :: S) (u :: tv)=.int .u8 a.1 :: u :: stCells S tv:=by simp [stCells]
    rw [e1,e2,this];rfl
theorem row_set {w:World} {base g n cap:Nat} {e:TypeId} {size:Nat} {us:List Value} (h:w.ownsRow base e size (.slice (some ⟨g,0,none⟩) n cap) n us) (o:Nat) (u:Value) :
  (w.setCell ⟨g,o,none⟩ u).ownsRow base e size (.slice (some ⟨g,0,none⟩) n cap) n (us.set o u):=by
 obtain ⟨h1,h2⟩:=h
 refine ⟨by rw [List.length_set];exact h1,?_⟩
 rcases h2 with ⟨hv,_⟩ | ⟨g',cap',cur,hv,hg,hh,hc1,hc2,hc3,hc4⟩
 ·simp at hv
 ·simp at hv
  obtain ⟨rfl,rfl⟩:=hv
  refine Or.inr ⟨g,cap,cur.setIfInBounds o u,rfl,hg,block_setCell hh o u,hc1,hc2,by simpa using hc3,?_⟩
  rw [Array.toList_setIfInBounds,List.take_set,hc4]
theorem MRow.lead {w w2:World} {base gS capS f t:Nat} {u v:Value} {S:List St} {tv:List Value} (h:MRow w base (.slice (some ⟨gS,0,none⟩) S.length capS) S tv) (hf:f<S.length) (hu:tv[f]?=some u)
  (hrow:w2.ownsRow base 293 2 (.slice (some ⟨gS,0,none⟩) S.length capS) S.length ((stCells S tv).set (f * 2+1) v))
  (hk:∀ (k:Nat),some k ≠ u.ownBlock→(∃ cs,w.heap[k]?=some (.cells cs 3 (0,0)))→w2.heap[k]?=w.heap[k]?)
  (hv:∀ (s:St),S[f]?=some s→w2.ownsRow base 3 1 v (s.2.length+1) (intCells s.2++[.int .i64 t])) (hn:v.ownBlock=u.ownBlock∨∃ k,v.ownBlock=some k∧w.heap.size≤k) :
  MRow w2 base (.slice (some ⟨gS,0,none⟩) S.length capS) (leadS S f t) (tv.set f v):=by
 have hl:=h.len
 have oth:∀ (i:Nat) (x:Value) (s:St),i ≠ f→tv[i]?=some x→S[i]?=some s→w2.ownsRow base 3 1 x s.2.length (intCells s.2):=by
  intro i x s hi hx hs
  have h0:=h.to_ i x s hx hs
  refine row_on h0 fun k hk'=>?_
  refine hk k (fun e=>?_) (row_type h0 k hk')
  exact h.apart i f x u k hi hx hu hk' e.symm
 have at_:∀ (i:Nat) (x:Value),(tv.set f v)[i]?=some x→(i ≠ f∧tv[i]?=some x)∨(i=f∧x=v):=by
  intro i x hx
  by_cases e:i=f
  ·right;subst e;rw [List.getElem?_set_self (by omega)] at hx;simp at hx;exact ⟨rfl,hx.symm⟩
  ·left;rw [List.getElem?_set_ne (fun e'=>e e'.symm)] at hx;exact ⟨e,hx⟩
 have apv:∀ (j:Nat) (x:Value) (k:Nat),j ≠ f→tv[j]?=some x→x.ownBlock=some k→v.ownBlock ≠ some k:=by
  intro j x k hj hx hk' e
  rcases hn with hn | ⟨k',hn,hge⟩
  ·exact h.apart j f x u k hj hx hu hk' (by rw [← hn];exact e)
  ·have hjl:j<S.length:=by rw [← hl];exact (List.getElem?_eq_some_iff.1 hx).1
   have:=((h.to_ j x _ hx (List.getElem?_eq_getElem hjl)).lt k hk').2
   rw [hn] at e;simp at e;omega
 refine ⟨by rw [List.length_set,leadS_len];exact hl,?_,?_,?_⟩
 ·rw [stCells_set S tv f t v hl hf,leadS_len];exact hrow
 ·intro i x s hx hs
  rcases leadS_at hs with ⟨h1,h2⟩ | ⟨h1,s0,h2,rfl⟩
  ·rcases at_ i x hx with ⟨h3,h4⟩ | ⟨h3,h4⟩
   ·exact oth i x s h1 h4 h2
   ·exact absurd h3 h1
  ·subst h1
   rcases at_ i x hx with ⟨h3,h4⟩ | ⟨h3,rfl⟩
   ·exact absurd rfl h3
   ·have:=hv s0 h2
    simpa [intCells] using this
 ·intro i j x y k hij hx hy hk'
  rcases at_ i x hx with ⟨h3,h4⟩ | ⟨h3,rfl⟩
  ·rcases at_ j y hy with ⟨h5,h6⟩ | ⟨h5,rfl⟩
   ·exact h.apart i j x y k hij h4 h6 hk'
   ·exact apv i x k h3 h4 hk'
  ·rcases at_ j y hy with ⟨h5,h6⟩ | ⟨h5,rfl⟩
   ·intro e;exact apv j y k h5 h6 e hk'
   ·exact absurd (h3.trans h5.symm) hij
open Go.Maps
def grow (g:List (List (Nat × Nat))) (x:Nat):List (Nat × Nat):=(g[x]?).getD []
def geps (g:List (List (Nat × Nat))) (x y:Nat):Prop:=(0,y) ∈ grow g x
def goes (g:List (List (Nat × Nat))):Nat→Nat→Nat→Prop
 | 0,x,y=>x=y
 | n+1,x,y=>∃ z,geps g x z∧goes g n z y
def reach (g:List (List (Nat × Nat))) (x y:Nat):Prop:=∃ n,goes g n x y
theorem reach_refl (g:List (List (Nat × Nat))) (x:Nat):reach g x x:=⟨0,rfl⟩
theorem reach_eps {g:List (List (Nat × Nat))} {x z y:Nat} (h:geps g x z) (k:reach g z y):reach g x y:=by
 obtain ⟨n,hn⟩:=k;exact ⟨n+1,z,h,hn⟩
theorem goes_trans {g:List (List (Nat × Nat))} {y z:Nat} (k:reach g y z):∀ n x,goes g n x y→reach g x z:=by
 intro n
 induction n with
 | zero=>intro x h;cases h;exact k
 | succ n ih=>intro x h;obtain ⟨u,h1,h2⟩:=h;exact reach_eps h1 (ih u h2)
theorem reach_trans {g:List (List (Nat × Nat))} {x y z:Nat} (h:reach g x y) (k:reach g y z):reach g x z:=by
 obtain ⟨n,hn⟩:=h;exact goes_trans k n x hn
def closedS (g:List (List (Nat × Nat))) (S:Nat→Prop):Prop:=∀ x,S x→∀ y,geps g x y→S y
theorem closed_goes {g:List (List (Nat × Nat))} {S:Nat→Prop} (h:closedS g S):∀ n x y,S x→goes g n x y→S y:=by
 intro n
 induction n with
 | zero=>intro x y hx e;cases e;exact hx
 | succ n ih=>intro x y hx e;obtain ⟨z,h1,h2⟩:=e;exact ih z y (h x hx z h1) h2
theorem closed_reach {g:List (List (Nat × Nat))} {S:Nat→Prop} (h:closedS g S) {x y:Nat} (hx:S x) (k:reach g x y):S y:=by
 obtain ⟨n,hn⟩:=k;exact closed_goes h n x y hx hn
theorem closed_none (g:List (List (Nat × Nat))):closedS g (fun _=>False):=fun _ h=>h.elim
theorem reach_closed (g:List (List (Nat × Nat))) (a:Nat):closedS g (reach g a):=fun _ hx y hy=>reach_trans hx (reach_eps hy (reach_refl g y))
structure Stands (g:List (List (Nat × Nat))) (S R:Nat→Prop) (a:Nat):Prop where
 old:∀ x,S x→R x
 here:R a
 new:∀ x,R x→¬ S x→reach g a x∧∀ y,geps g x y→R y
theorem Stands.eq {g:List (List (Nat × Nat))} {S R:Nat→Prop} {a:Nat} (h:Stands g S R a) (hS:closedS g S):∀ x,R x↔S x∨reach g a x:=by
 have hR:closedS g R:=fun x hx y hy=>by
  by_cases hs:S x
  ·exact h.old y (hS x hs y hy)
  ·exact (h.new x hx hs).2 y hy
 intro x
 constructor
 ·intro hx
  by_cases hs:S x
  ·exact Or.inl hs
  ·exact Or.inr (h.new x hx hs).1
 ·rintro (hx | hx)
  ·exact h.old x hx
  ·exact closed_reach hR h.here hx
structure Standing (g:List (List (Nat × Nat))) (S R:Nat→Prop) (a i:Nat):Prop where
 old:∀ x,S x→R x
 here:R a
 new:∀ x,R x→¬ S x→x ≠ a→reach g a x∧∀ y,geps g x y→R y
 done:∀ j y,j<i→(grow g a)[j]?=some (0,y)→R y
theorem Standing.start (g:List (List (Nat × Nat))) (S:Nat→Prop) (a:Nat):Standing g S (fun x=>S x∨x=a) a 0 :=
 ⟨fun _ h=>Or.inl h,Or.inr rfl,fun _ h hs ha=>(h.elim (fun h=>(hs h).elim) fun h=>(ha h).elim),fun _ _ h=>absurd h (Nat.not_lt_zero _)⟩
theorem Standing.skip {g:List (List (Nat × Nat))} {S R:Nat→Prop} {a i t y:Nat} (h:Standing g S R a i) (he:(grow g a)[i]?=some (t,y)) (ht:t ≠ 0):Standing g S R a (i+1) :=
 ⟨h.old,h.here,h.new,fun j z hj hz=>by
  by_cases e:j=i
  ·subst e;rw [he] at hz;simp at hz;exact absurd hz.1 ht
  ·exact h.done j z (by omega) hz⟩
theorem Standing.next {g:List (List (Nat × Nat))} {S R R':Nat→Prop} {a i y:Nat} (h:Standing g S R a i) (he:(grow g a)[i]?=some (0,y)) (k:Stands g R R' y):Standing g S R' a (i+1):=by
 have hay:reach g a y:=reach_eps (List.mem_of_getElem? he) (reach_refl g y)
 refine ⟨fun x hx=>k.old x (h.old x hx),k.old a h.here,?_,?_⟩
 ·intro x hx hs ha
  by_cases hr:R x
  ·exact ⟨(h.new x hr hs ha).1,fun z hz=>k.old z ((h.new x hr hs ha).2 z hz)⟩
  ·exact ⟨reach_trans hay (k.new x hx hr).1,(k.new x hx hr).2⟩
 ·intro j z hj hz
  by_cases e:j=i
  ·subst e;rw [he] at hz;simp at hz;subst hz;exact k.here
  ·exact k.old z (h.done j z (by omega) hz)
theorem Standing.done_all {g:List (List (Nat × Nat))} {S R:Nat→Prop} {a i:Nat} (h:Standing g S R a i) (hi:(grow g a).length≤i):Stands g S R a :=
 ⟨h.old,h.here,fun x hx hs=>by
  have ha:∀ y,geps g a y→R y:=fun y hy=>by
   obtain ⟨j,hj⟩:=List.mem_iff_getElem?.1 hy
   exact h.done j y (Nat.lt_of_lt_of_le (List.getElem?_eq_some_iff.1 hj).1 hi) hj
  by_cases e:x=a
  ·subst e;exact ⟨reach_refl g x,ha⟩
  ·exact h.new x hx hs e⟩
def stepS (g:List (List (Nat × Nat))) (F:Nat→Prop) (k:Nat) (x:Nat):Prop:=∃ a t y,F a∧(t,y) ∈ grow g a∧t.testBit k=true∧reach g y x
theorem step_closed (g:List (List (Nat × Nat))) (F:Nat→Prop) (k:Nat):closedS g (stepS g F k):=fun _ ⟨a,t,z,h1,h2,h3,h4⟩ y hy=>⟨a,t,z,h1,h2,h3,reach_closed g z _ h4 y hy⟩
theorem Tryz.undSet:Tryz.prog.underlying 296=some (.map 3 338):=by kernel_rfl
theorem Tryz.undI:Tryz.prog.underlying 3=some (.int .i64):=by kernel_rfl
theorem intKey:Keyed Tryz.prog 3:=int_keyed Tryz.undI
theorem zeroU (w:World):(zeroValue 338).run Tryz.prog w=.ok (.agg #[]) w:=by
 have e:Tryz.t338.zero=some (.agg #[]):=by kernel_rfl
 simp [zeroValue]
 rw [e]
 rfl
theorem keyOf_nat (x:Nat) (hx:x≤1000000):keyOf Tryz.prog 3 (.int .i64 x)=some (.int .i64 x):=by
 have e:IntKind.i64.min=-9223372036854775808:=by decide
 refine keyOf_int_mk Tryz.undI ?_
 simp [Lit.wf,e]
 omega
structure SetD (w:World) (b N:Nat) (D:DataW Unit) (S:Nat→Prop):Prop where
 own:w.ownsMap Tryz.prog 3 unitElem b (Maps.size D) D
 mem:∀ x:Nat,Maps.has D (.int .i64 x)=true↔S x
 key:∀ kl,Maps.has D kl=true→∃ x:Nat,x<N∧kl=.int .i64 x
def SetAt (w:World) (b N:Nat) (S:Nat→Prop):Prop:=∃ D,SetD w b N D S
theorem own_tight {P:Program} {k:TypeId} {R:Value→Option (DataW Unit × List MemPlace)} {w:World} {b n:Nat} {D:DataW Unit} (h:w.ownsMap P k R b n D):w.ownsMap P k R b (Maps.size D) D:=by
 obtain ⟨es,clock,hb,F,hs,rfl⟩:=h
 exact ⟨es,clock,hb,F,by simp [Maps.size,length_sorted],rfl⟩
theorem SetD.lt {w:World} {b N x:Nat} {D:DataW Unit} {S:Nat→Prop} (h:SetD w b N D S) (hx:S x):x<N:=by
 obtain ⟨y,hy,e⟩:=h.key _ ((h.mem x).2 hx)
 injection e with _ e
 have:x=y:=by exact_mod_cast e
 omega
theorem SetD.congr {w:World} {b N:Nat} {D:DataW Unit} {S S':Nat→Prop} (h:SetD w b N D S) (e:∀ x,S x↔S' x):SetD w b N D S':=⟨h.own,fun x=>(h.mem x).trans (e x),h.key⟩
theorem SetAt.congr {w:World} {b N:Nat} {S S':Nat→Prop} (h:SetAt w b N S) (e:∀ x,S x↔S' x):SetAt w b N S':=by obtain ⟨D,hD⟩:=h;exact ⟨D,hD.congr e⟩
theorem has_mem {es:List (Lit × DataW Unit)} {kl:Lit} (h:Maps.has (.map es) kl=true):kl ∈ es.map Prod.fst:=by
 rw [Maps.has_eq,List.any_eq_true] at h
 obtain ⟨p,hp,e⟩:=h
 exact List.mem_map.2 ⟨p,hp,WideAt.sameKey_eq e⟩
theorem mem_has {es:List (Lit × DataW Unit)} {p:Lit × DataW Unit} (h:p ∈ es) (hk:WideAt.IsKeyLit p.1):Maps.has (.map es) p.1=true:=by
 rw [Maps.has_eq,List.any_eq_true]
 exact ⟨p,h,WideAt.sameKey_self hk⟩
theorem fst_len (es:List (Lit × DataW Unit)):(es.map Prod.fst).length=es.length:=List.length_map _
theorem fst_nodup {es:List (Lit × DataW Unit)} (h:es.Pairwise (fun p q=>p.1 ≠ q.1)):(es.map Prod.fst).Nodup:=by
 unfold List.Nodup
 rw [List.pairwise_map]
 exact h
theorem SetD.size_mono {w w':World} {b b' N:Nat} {D D':DataW Unit} {S S':Nat→Prop} (h:SetD w b N D S) (h':SetD w' b' N D' S') (hs:∀ x,S x→S' x):Maps.size D≤Maps.size D':=by
 obtain ⟨es,rfl,hp,hk⟩:=h.own.entries intKey
 obtain ⟨es',rfl,hp',hk'⟩:=h'.own.entries intKey
 rw [Maps.size_eq,Maps.size_eq,← fst_len es,← fst_len es']
 refine List.Nodup.length_le_of_subset (fst_nodup hp) ?_
 intro kl hkl
 obtain ⟨p,hpm,rfl⟩:=List.mem_map.1 hkl
 have h1:=mem_has hpm (hk p hpm)
 obtain ⟨x,hx,e⟩:=h.key _ h1
 rw [e] at h1 ⊢
 exact has_mem ((h'.mem x).2 (hs x ((h.mem x).1 h1)))
theorem SetD.size_le {w:World} {b N:Nat} {D:DataW Unit} {S:Nat→Prop} (h:SetD w b N D S):Maps.size D≤N:=by
 obtain ⟨es,rfl,hp,hk⟩:=h.own.entries intKey
 rw [Maps.size_eq,← fst_len es]
 have:N=((List.range N).map fun x:Nat=>Lit.int .i64 (x:Int)).length:=by simp
 rw [this]
 refine List.Nodup.length_le_of_subset (fst_nodup hp) ?_
 intro kl hkl
 obtain ⟨p,hpm,rfl⟩:=List.mem_map.1 hkl
 obtain ⟨x,hx,e⟩:=h.key _ (mem_has hpm (hk p hpm))
 exact List.mem_map.2 ⟨x,List.mem_range.2 hx,e.symm⟩
theorem SetD.same {w w':World} {b b' N:Nat} {D D':DataW Unit} {S S':Nat→Prop} (h:SetD w b N D S) (h':SetD w' b' N D' S') (he:Maps.size D=Maps.size D') (hs:∀ x,S x→S' x):∀ x,S x↔S' x:=by
 intro x
 refine ⟨hs x,fun hx=>?_⟩
 obtain ⟨es,rfl,hp,hk⟩:=h.own.entries intKey
 obtain ⟨es',rfl,hp',hk'⟩:=h'.own.entries intKey
 by_cases hc:S x
 ·exact hc
 ·exfalso
  rw [Maps.size_eq,Maps.size_eq,← fst_len es,← fst_len es'] at he
  have hn:(Lit.int .i64 (x:Int) :: es.map Prod.fst).Nodup:=by
   rw [List.nodup_cons]
   refine ⟨fun hm=>hc ?_,fst_nodup hp⟩
   obtain ⟨p,hpm,e⟩:=List.mem_map.1 hm
   have h1:=mem_has hpm (hk p hpm)
   rw [e] at h1
   exact (h.mem x).1 h1
  have:=List.Nodup.length_le_of_subset (l₂:=es'.map Prod.fst) hn (by
   intro kl hkl
   rw [List.mem_cons] at hkl
   rcases hkl with rfl | hkl
   ·exact has_mem ((h'.mem x).2 hx)
   ·obtain ⟨p,hpm,rfl⟩:=List.mem_map.1 hkl
    have h1:=mem_has hpm (hk p hpm)
    obtain ⟨y,hy,e⟩:=h.key _ h1
    rw [e] at h1 ⊢
    exact has_mem ((h'.mem y).2 (hs y ((h.mem y).1 h1))))
  rw [List.length_cons] at this
  omega
theorem SetD.kept {w w':World} {b N:Nat} {D:DataW Unit} {S:Nat→Prop} (h:SetD w b N D S) (hb:w'.heap[b]?=w.heap[b]?):SetD w' b N D S:=by
 refine ⟨?_,h.mem,h.key⟩
 obtain ⟨es,clock,h1,r⟩:=h.own
 exact ⟨es,clock,hb.trans h1,r⟩
theorem SetD.blk {w:World} {b N:Nat} {D:DataW Unit} {S:Nat→Prop} (h:SetD w b N D S):b<w.heap.size:=h.own.lt
theorem SetAt.kept {w w':World} {b N:Nat} {S:Nat→Prop} (h:SetAt w b N S) (hb:w'.heap[b]?=w.heap[b]?):SetAt w' b N S:=by obtain ⟨D,hD⟩:=h;exact ⟨D,hD.kept hb⟩
theorem SetAt.blk {w:World} {b N:Nat} {S:Nat→Prop} (h:SetAt w b N S):b<w.heap.size:=by obtain ⟨D,hD⟩:=h;exact hD.blk
theorem SetAt.below {w w':World} {b N:Nat} {S:Nat→Prop} (h:SetAt w b N S) (hb:Below w.heap.size w w'):SetAt w' b N S:=h.kept (hb.block b h.blk)
theorem SetD.put {w w':World} {b N x n:Nat} {D:DataW Unit} {S:Nat→Prop} (h:SetD w b N D S) (hx:x<N) (ho:w'.ownsMap Tryz.prog 3 unitElem b n (D.put (.int .i64 x) (.agg []))):SetD w' b N (D.put (.int .i64 x) (.agg [])) (fun y=>S y∨y=x):=by
 refine ⟨own_tight ho,?_,?_⟩
 ·intro y
  by_cases e:y=x
  ·subst e
   exact ⟨fun _=>Or.inr rfl,fun _=>has_put_same (k:=.int .i64 (y:Int)) h.own.isMap trivial _⟩
  ·rw [has_put_other (fun e'=>e (by injection e' with _ e';exact_mod_cast e'))]
   rw [h.mem y]
   exact ⟨Or.inl,fun h=>h.elim id fun h=>(e h).elim⟩
 ·intro kl hkl
  by_cases e:kl=.int .i64 x
  ·exact ⟨x,hx,e⟩
  ·rw [has_put_other e] at hkl;exact h.key kl hkl
theorem SetD.put_size {w:World} {b N x:Nat} {D:DataW Unit} {S:Nat→Prop} (h:SetD w b N D S) (hx:¬ S x):Maps.size (D.put (.int .i64 x) (.agg []))=Maps.size D+1:=by
 rw [size_put (h.own.tidy intKey),if_neg (fun e=>hx ((h.mem x).1 e))]
theorem set_made (w:World) (N:Nat):SetD (w.alloc (.map #[] 0)) w.heap.size N (.map []) (fun _=>False) :=
 ⟨own_tight (World.ownsMap_made w _ _ _),fun x=>by simp [Maps.has],fun kl h=>by simp [Maps.has] at h⟩
end Go.Proofs.YtodagkkjfipbgaaGreatDoor
