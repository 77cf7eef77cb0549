import Derived.Maps.OwnSet
import Derived.Maps.RangeWalk
import Derived.RegionTactic
import Derived.Test.YtodagkkjfipbgaaGreatDoorP3toQ2
namespace Go.Proofs.YtodagkkjfipbgaaGreatDoor
open Go.RowKit Go.Maps
def grow (g:List (List (Nat × Nat))) (x:Nat):List (Nat × Nat):=(g[x]?).getD []
def geps (g:List (List (Nat × Nat))) (x y:Nat):Prop:=(0,y) ∈ grow g x
def goes (g:List (List (Nat × Nat))):Nat->Nat->Nat->Prop
 | 0,x,y=>x=y
 | n+1,x,y=>∃ z,geps g x z/\goes g n z y
def reach (g:List (List (Nat × Nat))) (x y:Nat):Prop:=∃ n,goes g n x y
theorem reach_refl (g:List (List (Nat × Nat))) (x:Nat):reach g x x:=⟨0,rfl⟩
theorem reach_eps {g:List (List (Nat × Nat))} {x z y:Nat} (h:geps g x z) (k:reach g z y):reach g x y:=by
 obtain ⟨n,hn⟩:=k;exact ⟨n+1,z,h,hn⟩
theorem goes_trans {g:List (List (Nat × Nat))} {y z:Nat} (k:reach g y z):∀ n x,goes g n x y->reach g x z:=by
 intro n
 induction n with
 | zero=>intro x h;cases h;exact k
 | succ n ih=>intro x h;obtain ⟨u,h1,h2⟩:=h;exact reach_eps h1 (ih u h2)
theorem reach_trans {g:List (List (Nat × Nat))} {x y z:Nat} (h:reach g x y) (k:reach g y z):reach g x z:=by
 obtain ⟨n,hn⟩:=h;exact goes_trans k n x hn
def closedS (g:List (List (Nat × Nat))) (S:Nat->Prop):Prop:=∀ x,S x->∀ y,geps g x y->S y
theorem closed_goes {g:List (List (Nat × Nat))} {S:Nat->Prop} (h:closedS g S):∀ n x y,S x->goes g n x y->S y:=by
 intro n
 induction n with
 | zero=>intro x y hx e;cases e;exact hx
 | succ n ih=>intro x y hx e;obtain ⟨z,h1,h2⟩:=e;exact ih z y (h x hx z h1) h2
theorem closed_reach {g:List (List (Nat × Nat))} {S:Nat->Prop} (h:closedS g S) {x y:Nat} (hx:S x) (k:reach g x y):S y:=by
 obtain ⟨n,hn⟩:=k;exact closed_goes h n x y hx hn
theorem closed_none (g:List (List (Nat × Nat))):closedS g (fun _=>False):=fun _ h=>h.elim
theorem reach_closed (g:List (List (Nat × Nat))) (a:Nat):closedS g (reach g a):=fun _ hx y hy=>reach_trans hx (reach_eps hy (reach_refl g y))
structure Stands (g:List (List (Nat × Nat))) (S R:Nat->Prop) (a:Nat):Prop where
 old:∀ x,S x->R x
 here:R a
 new:∀ x,R x->¬ S x->reach g a x/\∀ y,geps g x y->R y
theorem Stands.eq {g:List (List (Nat × Nat))} {S R:Nat->Prop} {a:Nat} (h:Stands g S R a) (hS:closedS g S):∀ x,R x↔S x\/reach g a x:=by
 have hR:closedS g R:=fun x hx y hy=>by
  by_cases hs:S x
  ·exact h.old y (hS x hs y hy)
  ·exact (h.new x hx hs).2 y hy
 intro x
 constructor
 ·intro hx
  by_cases hs:S x
  ·exact Or.inl hs
  ·exact Or.inr (h.new x hx hs).1
 ·rintro (hx | hx)
  ·exact h.old x hx
  ·exact closed_reach hR h.here hx
structure Standing (g:List (List (Nat × Nat))) (S R:Nat->Prop) (a i:Nat):Prop where
 old:∀ x,S x->R x
 here:R a
 new:∀ x,R x->¬ S x->x ≠ a->reach g a x/\∀ y,geps g x y->R y
 done:∀ j y,j<i->(grow g a)[j]?=some (0,y)->R y
theorem Standing.start (g:List (List (Nat × Nat))) (S:Nat->Prop) (a:Nat):Standing g S (fun x=>S x\/x=a) a 0 :=
 ⟨fun _ h=>Or.inl h,Or.inr rfl,fun _ h hs ha=>(h.elim (fun h=>(hs h).elim) fun h=>(ha h).elim),fun _ _ h=>absurd h (Nat.not_lt_zero _)⟩
theorem Standing.skip {g:List (List (Nat × Nat))} {S R:Nat->Prop} {a i t y:Nat} (h:Standing g S R a i) (he:(grow g a)[i]?=some (t,y)) (ht:t ≠ 0):Standing g S R a (i+1) :=
 ⟨h.old,h.here,h.new,fun j z hj hz=>by
  by_cases e:j=i
  ·subst e;rw [he] at hz;simp at hz;exact absurd hz.1 ht
  ·exact h.done j z (by omega) hz⟩
theorem Standing.next {g:List (List (Nat × Nat))} {S R R':Nat->Prop} {a i y:Nat} (h:Standing g S R a i) (he:(grow g a)[i]?=some (0,y)) (k:Stands g R R' y):Standing g S R' a (i+1):=by
 have hay:reach g a y:=reach_eps (List.mem_of_getElem? he) (reach_refl g y)
 refine ⟨fun x hx=>k.old x (h.old x hx),k.old a h.here,?_,?_⟩
 ·intro x hx hs ha
  by_cases hr:R x
  ·exact ⟨(h.new x hr hs ha).1,fun z hz=>k.old z ((h.new x hr hs ha).2 z hz)⟩
  ·exact ⟨reach_trans hay (k.new x hx hr).1,(k.new x hx hr).2⟩
 ·intro j z hj hz
  by_cases e:j=i
  ·subst e;rw [he] at hz;simp at hz;subst hz;exact k.here
  ·exact k.old z (h.done j z (by omega) hz)
theorem Standing.done_all {g:List (List (Nat × Nat))} {S R:Nat->Prop} {a i:Nat} (h:Standing g S R a i) (hi:(grow g a).length<=i):Stands g S R a :=
 ⟨h.old,h.here,fun x hx hs=>by
  have ha:∀ y,geps g a y->R y:=fun y hy=>by
   obtain ⟨j,hj⟩:=List.mem_iff_getElem?.1 hy
   exact h.done j y (Nat.lt_of_lt_of_le (List.getElem?_eq_some_iff.1 hj).1 hi) hj
  by_cases e:x=a
  ·subst e;exact ⟨reach_refl g x,ha⟩
  ·exact h.new x hx hs e⟩
def stepS (g:List (List (Nat × Nat))) (F:Nat->Prop) (k:Nat) (x:Nat):Prop:=∃ a t y,F a/\(t,y) ∈ grow g a/\t.testBit k=true/\reach g y x
theorem step_closed (g:List (List (Nat × Nat))) (F:Nat->Prop) (k:Nat):closedS g (stepS g F k):=fun _ ⟨a,t,z,h1,h2,h3,h4⟩ y hy=>⟨a,t,z,h1,h2,h3,reach_closed g z _ h4 y hy⟩
theorem Tryz.undSet:Tryz.prog.underlying 296=some (.map 3 338):=by kernel_rfl
theorem Tryz.undI:Tryz.prog.underlying 3=some (.int .i64):=by kernel_rfl
theorem intKey:Keyed Tryz.prog 3:=int_keyed Tryz.undI
theorem zeroU (w:World):(zeroValue 338).run Tryz.prog w=.ok (.agg #[]) w:=by
 have e:Tryz.t338.zero=some (.agg #[]):=by kernel_rfl
 simp [zeroValue]
 rw [e]
 rfl
theorem keyOf_nat (x:Nat) (hx:x<=1000000):keyOf Tryz.prog 3 (.int .i64 x)=some (.int .i64 x):=by
 have e:IntKind.i64.min=-9223372036854775808:=by decide
 refine keyOf_int_mk Tryz.undI ?_
 simp [Lit.wf,e]
 omega
structure SetD (w:World) (b N:Nat) (D:DataW Unit) (S:Nat->Prop):Prop where
 own:w.ownsMap Tryz.prog 3 unitElem b (Maps.size D) D
 mem:∀ x:Nat,Maps.has D (.int .i64 x)=true↔S x
 key:∀ kl,Maps.has D kl=true->∃ x:Nat,x<N/\kl=.int .i64 x
def SetAt (w:World) (b N:Nat) (S:Nat->Prop):Prop:=∃ D,SetD w b N D S
theorem own_tight {P:Program} {k:TypeId} {R:Value->Option (DataW Unit × List MemPlace)} {w:World} {b n:Nat} {D:DataW Unit} (h:w.ownsMap P k R b n D):w.ownsMap P k R b (Maps.size D) D:=by
 obtain ⟨es,clock,hb,F,hs,rfl⟩:=h
 exact ⟨es,clock,hb,F,by simp [Maps.size,length_sorted],rfl⟩
theorem SetD.lt {w:World} {b N x:Nat} {D:DataW Unit} {S:Nat->Prop} (h:SetD w b N D S) (hx:S x):x<N:=by
 obtain ⟨y,hy,e⟩:=h.key _ ((h.mem x).2 hx)
 injection e with _ e
 have:x=y:=by exact_mod_cast e
 omega
theorem SetD.congr {w:World} {b N:Nat} {D:DataW Unit} {S S':Nat->Prop} (h:SetD w b N D S) (e:∀ x,S x↔S' x):SetD w b N D S':=⟨h.own,fun x=>(h.mem x).trans (e x),h.key⟩
theorem SetAt.congr {w:World} {b N:Nat} {S S':Nat->Prop} (h:SetAt w b N S) (e:∀ x,S x↔S' x):SetAt w b N S':=by obtain ⟨D,hD⟩:=h;exact ⟨D,hD.congr e⟩
theorem has_mem {es:List (Lit × DataW Unit)} {kl:Lit} (h:Maps.has (.map es) kl=true):kl ∈ es.map Prod.fst:=by
 rw [Maps.has_eq,List.any_eq_true] at h
 obtain ⟨p,hp,e⟩:=h
 exact List.mem_map.2 ⟨p,hp,WideAt.sameKey_eq e⟩
theorem mem_has {es:List (Lit × DataW Unit)} {p:Lit × DataW Unit} (h:p ∈ es) (hk:WideAt.IsKeyLit p.1):Maps.has (.map es) p.1=true:=by
 rw [Maps.has_eq,List.any_eq_true]
 exact ⟨p,h,WideAt.sameKey_self hk⟩
theorem fst_len (es:List (Lit × DataW Unit)):(es.map Prod.fst).length=es.length:=List.length_map _
theorem fst_nodup {es:List (Lit × DataW Unit)} (h:es.Pairwise (fun p q=>p.1 ≠ q.1)):(es.map Prod.fst).Nodup:=by
 unfold List.Nodup
 rw [List.pairwise_map]
 exact h
theorem SetD.size_mono {w w':World} {b b' N:Nat} {D D':DataW Unit} {S S':Nat->Prop} (h:SetD w b N D S) (h':SetD w' b' N D' S') (hs:∀ x,S x->S' x):Maps.size D<=Maps.size D':=by
 obtain ⟨es,rfl,hp,hk⟩:=h.own.entries intKey
 obtain ⟨es',rfl,hp',hk'⟩:=h'.own.entries intKey
 rw [Maps.size_eq,Maps.size_eq,<- fst_len es,<- fst_len es']
 refine List.Nodup.length_le_of_subset (fst_nodup hp) ?_
 intro kl hkl
 obtain ⟨p,hpm,rfl⟩:=List.mem_map.1 hkl
 have h1:=mem_has hpm (hk p hpm)
 obtain ⟨x,hx,e⟩:=h.key _ h1
 rw [e] at h1 ⊢
 exact has_mem ((h'.mem x).2 (hs x ((h.mem x).1 h1)))
theorem SetD.size_le {w:World} {b N:Nat} {D:DataW Unit} {S:Nat->Prop} (h:SetD w b N D S):Maps.size D<=N:=by
 obtain ⟨es,rfl,hp,hk⟩:=h.own.entries intKey
 rw [Maps.size_eq,<- fst_len es]
 have:N=((List.range N).map fun x:Nat=>Lit.int .i64 (x:Int)).length:=by simp
 rw [this]
 refine List.Nodup.length_le_of_subset (fst_nodup hp) ?_
 intro kl hkl
 obtain ⟨p,hpm,rfl⟩:=List.mem_map.1 hkl
 obtain ⟨x,hx,e⟩:=h.key _ (mem_has hpm (hk p hpm))
 exact List.mem_map.2 ⟨x,List.mem_range.2 hx,e.symm⟩
theorem SetD.same {w w':World} {b b' N:Nat} {D D':DataW Unit} {S S':Nat->Prop} (h:SetD w b N D S) (h':SetD w' b' N D' S') (he:Maps.size D=Maps.size D') (hs:∀ x,S x->S' x):∀ x,S x↔S' x:=by
 intro x
 refine ⟨hs x,fun hx=>?_⟩
 obtain ⟨es,rfl,hp,hk⟩:=h.own.entries intKey
 obtain ⟨es',rfl,hp',hk'⟩:=h'.own.entries intKey
 by_cases hc:S x
 ·exact hc
 ·exfalso
  rw [Maps.size_eq,Maps.size_eq,<- fst_len es,<- fst_len es'] at he
  have hn:(Lit.int .i64 (x:Int) :: es.map Prod.fst).Nodup:=by
   rw [List.nodup_cons]
   refine ⟨fun hm=>hc ?_,fst_nodup hp⟩
   obtain ⟨p,hpm,e⟩:=List.mem_map.1 hm
   have h1:=mem_has hpm (hk p hpm)
   rw [e] at h1
   exact (h.mem x).1 h1
  have:=List.Nodup.length_le_of_subset (l₂:=es'.map Prod.fst) hn (by
   intro kl hkl
   rw [List.mem_cons] at hkl
   rcases hkl with rfl | hkl
   ·exact has_mem ((h'.mem x).2 hx)
   ·obtain ⟨p,hpm,rfl⟩:=List.mem_map.1 hkl
    have h1:=mem_has hpm (hk p hpm)
    obtain ⟨y,hy,e⟩:=h.key _ h1
    rw [e] at h1 ⊢
    exact has_mem ((h'.mem y).2 (hs y ((h.mem y).1 h1))))
  rw [List.length_cons] at this
  omega
theorem SetD.kept {w w':World} {b N:Nat} {D:DataW Unit} {S:Nat->Prop} (h:SetD w b N D S) (hb:w'.heap[b]?=w.heap[b]?):SetD w' b N D S:=by
 refine ⟨?_,h.mem,h.key⟩
 obtain ⟨es,clock,h1,r⟩:=h.own
 exact ⟨es,clock,hb.trans h1,r⟩
theorem SetD.blk {w:World} {b N:Nat} {D:DataW Unit} {S:Nat->Prop} (h:SetD w b N D S):b<w.heap.size:=h.own.lt
theorem SetAt.kept {w w':World} {b N:Nat} {S:Nat->Prop} (h:SetAt w b N S) (hb:w'.heap[b]?=w.heap[b]?):SetAt w' b N S:=by obtain ⟨D,hD⟩:=h;exact ⟨D,hD.kept hb⟩
theorem SetAt.blk {w:World} {b N:Nat} {S:Nat->Prop} (h:SetAt w b N S):b<w.heap.size:=by obtain ⟨D,hD⟩:=h;exact hD.blk
theorem SetAt.below {w w':World} {b N:Nat} {S:Nat->Prop} (h:SetAt w b N S) (hb:Below w.heap.size w w'):SetAt w' b N S:=h.kept (hb.block b h.blk)
theorem SetD.put {w w':World} {b N x n:Nat} {D:DataW Unit} {S:Nat->Prop} (h:SetD w b N D S) (hx:x<N) (ho:w'.ownsMap Tryz.prog 3 unitElem b n (D.put (.int .i64 x) (.agg []))):SetD w' b N (D.put (.int .i64 x) (.agg [])) (fun y=>S y\/y=x):=by
 refine ⟨own_tight ho,?_,?_⟩
 ·intro y
  by_cases e:y=x
  ·subst e
   exact ⟨fun _=>Or.inr rfl,fun _=>has_put_same (k:=.int .i64 (y:Int)) h.own.isMap trivial _⟩
  ·rw [has_put_other (fun e'=>e (by injection e' with _ e';exact_mod_cast e'))]
   rw [h.mem y]
   exact ⟨Or.inl,fun h=>h.elim id fun h=>(e h).elim⟩
 ·intro kl hkl
  by_cases e:kl=.int .i64 x
  ·exact ⟨x,hx,e⟩
  ·rw [has_put_other e] at hkl;exact h.key kl hkl
theorem SetD.put_size {w:World} {b N x:Nat} {D:DataW Unit} {S:Nat->Prop} (h:SetD w b N D S) (hx:¬ S x):Maps.size (D.put (.int .i64 x) (.agg []))=Maps.size D+1:=by
 rw [size_put (h.own.tidy intKey),if_neg (fun e=>hx ((h.mem x).1 e))]
theorem set_made (w:World) (N:Nat):SetD (w.alloc (.map #[] 0)) w.heap.size N (.map []) (fun _=>False) :=
 ⟨own_tight (World.ownsMap_made w _ _ _),fun x=>by simp [Maps.has],fun kl h=>by simp [Maps.has] at h⟩
end Go.Proofs.YtodagkkjfipbgaaGreatDoor
namespace Go.Proofs.YtodagkkjfipbgaaGreatDoor
open Go.RowKit
theorem one_int (n:Int):∀ u ∈ [Value.int .i64 n],u.oneCell'=true:=by intro u hu;simp at hu;subst hu;rfl
theorem MRow.cells {w:World} {base:Nat} {vS:Value} {S:List St} {tv:List Value} (h:MRow w base vS S tv) (f:Nat) (hf:f<S.length) :
  ∃ g cap cur,vS=.slice (some ⟨g,0,none⟩) S.length cap/\w.heap[g]?=some (.cells cur 293 (0,0))/\base<=g/\∃ u,tv[f]?=some u/\w.cell? ⟨g,f * 2,none⟩=some (.int .u8 (S[f]'hf).1)/\w.cell? ⟨g,f * 2+1,none⟩=some u:=by
 obtain ⟨h1,h2⟩:=h.row
 have hl:=h.len
 rcases h2 with ⟨hv,hn⟩ | ⟨g,cap,cur,hv,hg,hh,hcap,hmx,hsz,hcur⟩
 ·omega
 ·obtain ⟨u,hu⟩:∃ u,tv[f]?=some u:=⟨tv[f]'(by omega),List.getElem?_eq_getElem (by omega)⟩
  have hc:=stCells_at S tv f _ u (List.getElem?_eq_getElem hf) hu
  rw [<- hcur,List.getElem?_take,List.getElem?_take,if_pos (by omega),if_pos (by omega)] at hc
  exact ⟨g,cap,cur,hv,hh,hg,u,hu,cell_of_block hh _ _ (by simpa using hc.1),cell_of_block hh _ _ (by simpa using hc.2)⟩
theorem lead_end {w w':World} {base m:Nat} {S:List St} {first:Int} {f t g cap l capu cap' n:Nat} {aou ao':Option Addr} {s:St} {tv:List Value} {cur:Array Value} (hbm:base<=m) (hb:base<=w.heap.size) (hbg:base<=g) (hf:f<n)
  (HS:S[f]?=some s) (HU:tv[f]?=some (.slice aou l capu)) (HT:w.ownsRow base 3 1 (.slice aou l capu) l (intCells s.2)) (HL:l=s.2.length)
  (HR:MRow w base (.slice (some ⟨g,0,none⟩) n cap) S tv) (HN:n=S.length) (hg:w.drew.grownBy w' (Value.ownBlock (.slice aou l capu)))
  (hown:w'.ownsRow base 3 1 (.slice ao' (l+1) cap') (l+1) (intCells s.2++[.int .i64 t])) (hsn:SameOrNew w.drew (.slice aou l capu) (.slice ao' (l+1) cap'))
  (hm':w'.heap[m]?=some (.cells #[.slice (some ⟨g,0,none⟩) n cap,.int .i64 first] 146 (0,0))) (hg':w'.heap[g]?=some (.cells cur 293 (0,0))) :
  MIn (w'.setCell ⟨g,f * 2+1,none⟩ (.slice ao' (l+1) cap')) base m (leadS S f t) first/\Below base w (w'.setCell ⟨g,f * 2+1,none⟩ (.slice ao' (l+1) cap')):=by
 subst HN
 subst HL
 have hT:w.drew.ownsRow base 3 1 (.slice aou s.2.length capu) s.2.length (intCells s.2):=HT
 constructor
 ·refine ⟨hbm,.slice (some ⟨g,0,none⟩) S.length cap,tv.set f (.slice ao' (s.2.length+1) cap'),?_,?_⟩
  ·rw [Below.heap_setCell _ _ _ _ (type_ne hm' hg' (by decide))];exact hm'
  ·refine HR.lead hf HU ?_ ?_ ?_ ?_
   ·have hk:Kp 293 w w':=(Kp.refl _ w).grown (w:=w.drew) hT hg (by decide)
    exact row_set (row_kp HR.row hk) _ _
   ·rintro k hk ⟨cs,hcs⟩
    have h1:w'.heap[k]?=w.heap[k]?:=hg.block k (heap_lt hcs) hk
    rw [Below.heap_setCell _ _ _ _ (type_ne (h1.trans hcs) hg' (by decide))];exact h1
   ·intro s1 hs1
    rw [HS] at hs1
    simp at hs1
    subst hs1
    exact row_kp hown ((Kp.refl _ _).setCell hg' (by decide) _)
   ·rcases hsn with h | h
    ·exact Or.inl h
    ·exact Or.inr ⟨_,h,Nat.le_refl _⟩
 ·refine Below.setCell (Below.grown (w:=w.drew) ((Below.refl _ _).drew) hg hb fun k hk=>?_) hbg _
  exact (hT.lt k hk).1
set_option maxRecDepth 100000 in
set_option maxHeartbeats 4000000 in
theorem lead_any (base m:Nat) (S:List St) (first:Int) (f t gt:Nat) (w:World) (h:MIn w base m S first) (hb:base<=w.heap.size) (hf:f<S.length) (_hS:S.length<=9000) (hl:∀ s ∈ S,s.2.length<=9000)
  (ht:w.cell? ⟨gt,0,none⟩=some (.int .i64 t)) :
  Calls Tryz.prog 227 #[.pointer (some ⟨m,0,none⟩),.int .i64 f,.slice (some ⟨gt,0,none⟩) 1 1] w fun e w'=>e=.returned (.tuple #[])/\MIn w' base m (leadS S f t) first/\Below base w w':=by
 obtain ⟨hbm,vS,tv,hm,hr⟩:=h
 obtain ⟨g,cap,cur,rfl,hg,hbg,u,hu,hc1,hc2⟩:=hr.cells f hf
 have hto:=hr.to_ f u _ hu (List.getElem?_eq_getElem hf)
 have hlen:=hl _ (List.getElem_mem hf)
 obtain ⟨aou,capu,rfl⟩:=row_shape hto
 have c0:=cell_of_block hm 0 _ rfl
 have hfr:=free_of_block hm
 have hfg:=free_of_block hg
 have HM:Hid (w.heap[m]?=some (.cells #[.slice (some ⟨g,0,none⟩) S.length cap,.int .i64 first] 146 (0,0))):=hm
 have HG:Hid (w.heap[g]?=some (.cells cur 293 (0,0))):=hg
 have HT:Hid (w.ownsRow base 3 1 (.slice aou (S[f]'hf).2.length capu) (S[f]'hf).2.length (intCells (S[f]'hf).2)):=hto
 have HU:Hid (tv[f]?=some (.slice aou (S[f]'hf).2.length capu)):=hu
 have HR:Hid (MRow w base (.slice (some ⟨g,0,none⟩) S.length cap) S tv):=hr
 obtain ⟨s,hs⟩:∃ s,s=S[f]'hf:=⟨_,rfl⟩
 have HS:Hid (S[f]?=some s):=by rw [hs];exact List.getElem?_eq_getElem hf
 rw [<- hs] at HT HU hc2 hc1 hlen
 clear hm hg hto hu hr hs hl
 obtain ⟨l,hl⟩:∃ l,l=s.2.length:=⟨_,rfl⟩
 have HL:Hid (l=s.2.length):=hl
 rw [<- hl] at HT HU hc2 hlen
 obtain ⟨n,hn⟩:∃ n,n=S.length:=⟨_,rfl⟩
 have HNN:Hid (n=S.length):=hn
 rw [<- hn] at HM HR c0 hf _hS
 clear hl hn
 go_enter Tryz.func227,Tryz.ntmps227
 go_wp2_with fail
 go_region_law (refine step_push2 rfl (.tmp 18) (.tmp 19) 33 rfl base 3 (.int .i64 0) 1 8 Tryz.infoInt Tryz.undInt rfl (by decide) (.slice aou l capu) l (intCells s.2) rfl (by exact HT.out) gt 1 [.int .i64 t] rfl rfl (fun j u hu=>by cases j with | zero=>simp at hu;subst hu;exact ht | succ j=>simp at hu) (one_int _) (by omega) (by omega) hb ?_;intro v' w' hown hg hsn;obtain ⟨ao',cap',rfl⟩:=row_shape hown;have hm':=kept_grown HM.out (by exact Kp.refl _ w) (by exact HT.out) hg (by decide);have e0:=cell_of_block hm' 0 _ rfl;have ef:=free_of_block hm';have hg':=kept_grown HG.out (by exact Kp.refl _ w) (by exact HT.out) hg (by decide);have eg:=free_of_block hg';have ec:=(World.cell?_of_block (a:=⟨g,f * 2+1,none⟩) (w:=w) (hg'.trans HG.out.symm)).trans hc2)
 all_goals go_wp2_with fail
 all_goals go_end0
 all_goals
  exact ⟨rfl,lead_end hbm hb hbg hf HS.out HU.out HT.out HL.out HR.out HNN.out hg hown hsn hm' hg'⟩
theorem MRow.later {w w':World} {base:Nat} {vS:Value} {S:List St} {tv:List Value} (h:MRow w base vS S tv) (hb:Below w.heap.size w w'):MRow w' base vS S tv:=by
 have hk:∀ t,Kp t w w':=fun t=>Kp.below hb
 exact ⟨h.len,row_kp h.row (hk _),fun i v s hv hs=>row_kp (h.to_ i v s hv hs) (hk _),h.apart⟩
theorem MIn.later {w w':World} {base m:Nat} {S:List St} {first:Int} (h:MIn w base m S first) (hb:Below w.heap.size w w'):MIn w' base m S first:=by
 obtain ⟨h1,vS,tv,h2,h3⟩:=h
 exact ⟨h1,vS,tv,by rw [hb.block m (heap_lt h2)];exact h2,h3.later hb⟩
theorem MIn.size {w:World} {base m:Nat} {S:List St} {first:Int} (h:MIn w base m S first):base<=w.heap.size:=by
 obtain ⟨h1,vS,tv,h2,h3⟩:=h
 have:=heap_lt h2;omega
theorem tov_lt {w:World} {base:Nat} {vS:Value} {S:List St} {tv:List Value} (h:MRow w base vS S tv) {i j:Nat} {u:Value} (hu:tv[i]?=some u) (hj:u.ownBlock=some j):j<w.heap.size:=by
 have hi:i<S.length:=by rw [<- h.len];exact (List.getElem?_eq_some_iff.1 hu).1
 exact ((h.to_ i u _ hu (List.getElem?_eq_getElem hi)).lt j hj).2
theorem add_nil (base m:Nat) (S:List St) (first:Int) (k:Nat) (w:World) (h:MIn w base m S first) (hS:S.length<=9000) :
  Calls Tryz.prog 226 #[.pointer (some ⟨m,0,none⟩),.int .u8 k,.slice none 0 0] w fun e w'=>e=.returned (.int .i64 S.length)/\MIn w' base m (S++[(k,[])]) first/\Below base w w':=by
 have hs:=h.size
 obtain ⟨h1,vS,tv,h2,h3⟩:=h
 exact add_at base m S first k [] _ vS tv w h1 h2 h3 hs hS (World.ownsRow_nil _ _ _ _) (fun i u j _ _=>by simp [Value.ownBlock])
theorem below_alloc (w:World) (o:Obj):Below w.heap.size w (w.alloc o):=(Below.refl _ _).alloc (Nat.le_refl _) o
theorem add_new (base m:Nat) (S:List St) (first:Int) (k b:Nat) (w:World) (h:MIn w base m S first) (hS:S.length<=9000) :
  Calls Tryz.prog 226 #[.pointer (some ⟨m,0,none⟩),.int .u8 k,.slice (some ⟨w.heap.size,0,none⟩) 1 1] (w.alloc (.cells #[.int .i64 b] 3)) fun e w'=>e=.returned (.int .i64 S.length)/\MIn w' base m (S++[(k,[b])]) first/\Below base w w':=by
 have hs:=h.size
 obtain ⟨h1,vS,tv,h2,h3⟩:=h
 have hb:=below_alloc w (.cells #[.int .i64 b] 3)
 refine (add_at base m S first k [b] _ vS tv _ h1 (by rw [hb.block m (heap_lt h2)];exact h2) (h3.later hb) (by simp;omega) hS ?_ ?_).mono ?_
 ·exact ⟨rfl,Or.inr ⟨w.heap.size,1,#[.int .i64 b],rfl,hs,heap_alloc_new _ _,Nat.le_refl _,by decide,rfl,rfl⟩⟩
 ·intro i u j hu hj e
  have:=tov_lt h3 hu hj
  simp [Value.ownBlock] at e
  omega
 ·rintro e w' ⟨h1,h2,h3⟩
  exact ⟨h1,h2,(hb.mono hs).trans h3⟩
theorem lead_new (base m:Nat) (S:List St) (first:Int) (f t:Nat) (w:World) (h:MIn w base m S first) (hf:f<S.length) (hS:S.length<=9000) (hT:tot S<=9000) :
  Calls Tryz.prog 227 #[.pointer (some ⟨m,0,none⟩),.int .i64 f,.slice (some ⟨w.heap.size,0,none⟩) 1 1] (w.alloc (.cells #[.int .i64 t] 3)) fun e w'=>e=.returned (.tuple #[])/\MIn w' base m (leadS S f t) first/\Below base w w':=by
 have hs:=h.size
 have hb:=below_alloc w (.cells #[.int .i64 t] 3)
 refine (lead_any base m S first f t w.heap.size _ (h.later hb) (by simp;omega) hf hS (fun s hs=>Nat.le_trans (tot_mem hs) hT) ?_).mono ?_
 ·exact cell_of_block (heap_alloc_new _ _) 0 _ rfl
 ·rintro e w' ⟨h1,h2,h3⟩
  exact ⟨h1,h2,(hb.mono hs).trans h3⟩
open Go.Maps
theorem Tryz.infoEd:(Tryz.prog.info? 303).map (fun i=>(i.zero,i.size,i.bytes))=some (some (.agg #[.int .u8 0,.int .i64 0]),2,16):=by kernel_rfl
theorem Tryz.undEd:Tryz.prog.underlying 301=some (.slice 303):=by kernel_rfl
def KpA (w w':World):Prop:=∀ (k:Nat) (cs:Array Value) (t:TypeId) (m:Nat × Nat),w.heap[k]?=some (.cells cs t m)->w'.heap[k]?=some (.cells cs t m)
theorem KpA.refl (w:World):KpA w w:=fun _ _ _ _ h=>h
theorem KpA.trans {a b c:World} (h:KpA a b) (k:KpA b c):KpA a c:=fun i cs t m hh=>k i cs t m (h i cs t m hh)
theorem KpA.kp {w w':World} (h:KpA w w') (t:TypeId):Kp t w w':=fun k cs m hh=>h k cs t m hh
theorem KpA.below {w w':World} (h:Below w.heap.size w w'):KpA w w':=fun k cs t m hh=>by rw [h.block k (heap_lt hh)];exact hh
theorem KpA.chg {w w':World} {b N:Nat} {S:Nat->Prop} (h:Chg (fun k=>k=b) w w') (hs:SetAt w b N S):KpA w w':=fun k cs t m hh=>by
 rw [h.block k (heap_lt hh) ?_];exact hh
 intro e
 subst e
 obtain ⟨D,hD⟩:=hs
 obtain ⟨es,c,h1,_⟩:=hD.own
 rw [h1] at hh;cases hh
theorem KpA.cell {w w':World} (h:KpA w w') {b o:Nat} {v:Value} (hc:w.cell? ⟨b,o,none⟩=some v):w'.cell? ⟨b,o,none⟩=some v:=by
 unfold World.cell? at hc ⊢
 cases hb:w.heap[b]? with
 | none=>simp [hb] at hc
 | some x =>
  cases x with
  | cells cs t m=>rw [h b cs t m hb];simpa [hb] using hc
  | _=>simp [hb] at hc
def edCells (l:List (Nat × Nat)):List Value:=l.flatMap fun o=>[.int .u8 o.1,.int .i64 o.2]
theorem edCells_snoc (l:List (Nat × Nat)) (t y:Nat):edCells (l++[(t,y)])=edCells l++[.int .u8 t,.int .i64 y]:=by unfold edCells;simp
theorem edCells_at (l:List (Nat × Nat)) (i:Nat) (h:i<l.length):(edCells l)[i * 2]?=some (.int .u8 l[i].1)/\(edCells l)[i * 2+1]?=some (.int .i64 l[i].2):=by
 induction l generalizing i with
 | nil=>simp at h
 | cons a r ih =>
  cases i with
  | zero=>simp [edCells]
  | succ i =>
   have:=ih i (by simpa using h)
   have e:∀ k,(edCells (a :: r))[(i+1) * 2+k]?=(edCells r)[i * 2+k]?:=by
    intro k;rw [show (i+1) * 2+k=(i * 2+k)+2 from by omega];rfl
   have e0:=e 0;have e1:=e 1
   simp only [Nat.add_zero] at e0
   rw [e0,e1];simpa using this
structure GRow (w:World) (base:Nat) (v:Value) (g:List (List (Nat × Nat))) (rv:List Value):Prop where
 len:rv.length=g.length
 row:w.ownsRow base 301 1 v g.length rv
 to_:∀ (i:Nat) (u:Value) (l:List (Nat × Nat)),rv[i]?=some u->g[i]?=some l->w.ownsRow base 303 2 u l.length (edCells l)
 apart:∀ (i j:Nat) (u v:Value) (k:Nat),i ≠ j->rv[i]?=some u->rv[j]?=some v->u.ownBlock=some k->v.ownBlock ≠ some k
def GIn (w:World) (v:Value) (g:List (List (Nat × Nat))):Prop:=∃ rv,GRow w 0 v g rv
theorem GRow.kpa {w w':World} {base:Nat} {v:Value} {g:List (List (Nat × Nat))} {rv:List Value} (h:GRow w base v g rv) (hk:KpA w w'):GRow w' base v g rv :=
 ⟨h.len,row_kp h.row (hk.kp _),fun i u l hu hl=>row_kp (h.to_ i u l hu hl) (hk.kp _),h.apart⟩
theorem GIn.kpa {w w':World} {v:Value} {g:List (List (Nat × Nat))} (h:GIn w v g) (hk:KpA w w'):GIn w' v g:=by obtain ⟨rv,hr⟩:=h;exact ⟨rv,hr.kpa hk⟩
theorem GIn.below {w w':World} {v:Value} {g:List (List (Nat × Nat))} (h:GIn w v g) (hb:Below w.heap.size w w'):GIn w' v g:=h.kpa (KpA.below hb)
structure GOk (g:List (List (Nat × Nat))):Prop where
 len:g.length<=9000
 row:∀ l ∈ g,l.length<=9000
 to_:∀ l ∈ g,∀ e ∈ l,e.2<g.length/\e.1<256
theorem GIn.form {w:World} {v:Value} {g:List (List (Nat × Nat))} (h:GIn w v g):∃ ao cap,v=.slice ao g.length cap/\∀ i (hi:i<g.length),∃ q ao2 cap2,ao=some ⟨q,0,none⟩/\w.cell? ⟨q,i,none⟩=some (.slice ao2 g[i].length cap2) /\
  ∀ j (hj:j<g[i].length),∃ q2,ao2=some ⟨q2,0,none⟩/\w.cell? ⟨q2,j * 2,none⟩=some (.int .u8 g[i][j].1)/\w.cell? ⟨q2,j * 2+1,none⟩=some (.int .i64 g[i][j].2):=by
 obtain ⟨rv,hl,⟨h2,h3⟩,h4,_⟩:=h
 rcases h3 with ⟨hv,hn⟩ | ⟨q,cap,cur,hv,hg,hh,hcap,hmx,hsz,hcur⟩
 ·exact ⟨none,0,by rw [hv,hn],fun i hi=>by omega⟩
 ·refine ⟨some ⟨q,0,none⟩,cap,hv,fun i hi=>?_⟩
  obtain ⟨u,hu⟩:∃ u,rv[i]?=some u:=⟨rv[i]'(by omega),List.getElem?_eq_getElem (by omega)⟩
  have h5:=h4 i u _ hu (List.getElem?_eq_getElem hi)
  have hc:w.cell? ⟨q,i,none⟩=some u:=by
   refine cell_of_block hh i _ ?_
   have e1:(cur.toList.take (g.length * 1))[i]?=some u:=by rw [hcur];exact hu
   rw [List.getElem?_take,if_pos (by omega)] at e1
   simpa using e1
  obtain ⟨h6,h7⟩:=h5
  rcases h7 with ⟨hv',hn'⟩ | ⟨q',cap',cur',hv',hg',hh',hcap',hmx',hsz',hcur'⟩
  ·exact ⟨q,none,0,rfl,by rw [hc,hv',hn'],fun j hj=>by omega⟩
  ·refine ⟨q,some ⟨q',0,none⟩,cap',rfl,by rw [hc,hv'],fun j hj=>⟨q',rfl,?_⟩⟩
   have hc':=edCells_at g[i] j hj
   rw [<- hcur',List.getElem?_take,List.getElem?_take,if_pos (by omega),if_pos (by omega)] at hc'
   exact ⟨cell_of_block hh' _ _ (by simpa using hc'.1),cell_of_block hh' _ _ (by simpa using hc'.2)⟩
theorem SetD.size_lt {w:World} {b N x:Nat} {D:DataW Unit} {S:Nat->Prop} (h:SetD w b N D S) (hx:x<N) (hs:¬ S x):Maps.size D<N:=by
 obtain ⟨es,rfl,hp,hk⟩:=h.own.entries intKey
 have e:((List.range N).map fun x:Nat=>Lit.int .i64 (x:Int)).length=N:=by simp
 have hn:(Lit.int .i64 (x:Int) :: es.map Prod.fst).Nodup:=by
  rw [List.nodup_cons]
  refine ⟨fun hm=>hs ?_,fst_nodup hp⟩
  obtain ⟨p,hpm,e⟩:=List.mem_map.1 hm
  have h1:=mem_has hpm (hk p hpm)
  rw [e] at h1
  exact (h.mem x).1 h1
 have:=List.Nodup.length_le_of_subset (l₂:=(List.range N).map fun x:Nat=>Lit.int .i64 (x:Int)) hn (by
  intro kl hkl
  rw [List.mem_cons] at hkl
  rcases hkl with rfl | hkl
  ·exact List.mem_map.2 ⟨x,List.mem_range.2 hx,rfl⟩
  ·obtain ⟨p,hpm,rfl⟩:=List.mem_map.1 hkl
   obtain ⟨y,hy,e⟩:=h.key _ (mem_has hpm (hk p hpm))
   exact List.mem_map.2 ⟨y,List.mem_range.2 hy,e.symm⟩)
 rw [List.length_cons,e,List.length_map] at this
 rw [Maps.size_eq]
 omega
set_option maxRecDepth 100000 in
set_option maxHeartbeats 1000000 in
theorem has_any (w:World) (b N x:Nat) (S:Nat->Prop) (h:SetAt w b N S) (hx:x<=1000000) :
  Calls Tryz.prog 209 #[.map (some b),.int .i64 x] w fun r w'=>∃ c,r=.returned (.bool c)/\(c=true↔S x)/\Below w.heap.size w w':=by
 obtain ⟨D,hD⟩:=h
 have HD:Hid (SetD w b N D S):=hD
 clear hD
 go_enter Tryz.func209,Tryz.ntmps209
 go_wp2_with (at_lookup;refine wpList_lookup_own_unit _ rfl _ _ 296 rfl 3 338 intKey Tryz.undSet (zeroU _) b (Maps.size D) D rfl HD.out.own _ _ rfl (keyOf_nat x hx) ?_)
 go_ret
 exact ⟨_,rfl,HD.out.mem x,(Below.refl _ _).alloc (Nat.le_refl _) _⟩
theorem gin_row {w:World} {ao:Option Addr} {cap:Nat} {g:List (List (Nat × Nat))} {a:Nat} (h:GIn w (.slice ao g.length cap) g) (ha:a<g.length):∃ q ao2 cap2,ao=some ⟨q,0,none⟩/\w.cell? ⟨q,a,none⟩=some (.slice ao2 g[a].length cap2):=by
 obtain ⟨ao',cap',e,hf⟩:=h.form
 injection e with e1 _ _
 subst e1
 obtain ⟨q,ao2,cap2,h1,h2,_⟩:=hf a ha
 exact ⟨q,ao2,cap2,h1,h2⟩
theorem gin_edge {w:World} {q cap cap2:Nat} {ao2:Option Addr} {g:List (List (Nat × Nat))} {a j:Nat} (h:GIn w (.slice (some ⟨q,0,none⟩) g.length cap) g) (ha:a<g.length) (hc:w.cell? ⟨q,a,none⟩=some (.slice ao2 g[a].length cap2)) (hj:j<g[a].length) :
  ∃ q2,ao2=some ⟨q2,0,none⟩/\w.cell? ⟨q2,j * 2,none⟩=some (.int .u8 g[a][j].1)/\w.cell? ⟨q2,j * 2+1,none⟩=some (.int .i64 g[a][j].2):=by
 obtain ⟨ao',cap',e,hf⟩:=h.form
 injection e with e1 _ _
 subst e1
 obtain ⟨q',ao2',cap2',h1,h2,h3⟩:=hf a ha
 simp at h1
 subst h1
 rw [h2] at hc
 simp at hc
 obtain ⟨rfl,_⟩:=hc
 exact h3 j hj
def StandPost (g:List (List (Nat × Nat))) (b:Nat) (S:Nat->Prop) (a:Nat) (w:World) (r:Ending) (w':World):Prop :=
 r=.returned (.tuple #[])/\(∃ R,SetAt w' b g.length R/\Stands g S R a)/\Chg (fun k=>k=b) w w'
theorem grow_at {g:List (List (Nat × Nat))} {a:Nat} (h:a<g.length):grow g a=g[a]:=by unfold grow;rw [List.getElem?_eq_getElem h];rfl
set_option maxRecDepth 100000 in
set_option maxHeartbeats 4000000 in
theorem stand_fuel (g:List (List (Nat × Nat))) (hg:GOk g) (v:Value):∀ (m:Nat) (w:World) (b:Nat) (D:DataW Unit) (S:Nat->Prop) (a:Nat),GIn w v g->SetD w b g.length D S->g.length<=m+Maps.size D->a<g.length ->
  Calls Tryz.prog 178 #[v,.map (some b),.int .i64 a] w (StandPost g b S a w):=by
 intro m
 induction m with
 | zero =>
  intro w b D S a hG hD hm ha
  have hs:S a:=by
   by_cases hc:S a
   ·exact hc
   ·have:=hD.size_lt ha hc;omega
  have HD:Hid (SetD w b g.length D S):=hD
  have hlen:=hg.len
  obtain ⟨ao,cap,rfl,_⟩:=hG.form
  clear hD hG
  go_enter Tryz.func178,Tryz.ntmps178
  go_wp2_with fail
  refine (has_any w b _ a S ⟨D,HD.out⟩ (by omega)).mono ?_
  rintro r w1 ⟨c,rfl,hc,hb⟩
  obtain rfl:c=true:=hc.2 hs
  go_wp2_with fail
  go_end0
  exact ⟨rfl,⟨S,SetAt.below ⟨D,HD.out⟩ hb,fun _ h=>h,hs,fun x hx hn=>absurd hx hn⟩,Chg.of_below hb⟩
 | succ m ih =>
  intro w b D S a hG hD hm ha
  have HD:Hid (SetD w b g.length D S):=hD
  have HG:Hid (GIn w v g):=hG
  have hlen:=hg.len
  obtain ⟨ao,cap,rfl,_⟩:=hG.form
  have IH:Hid (∀ (w:World) (b:Nat) (D:DataW Unit) (S:Nat->Prop) (a:Nat),GIn w (.slice ao g.length cap) g->SetD w b g.length D S->g.length<=m+Maps.size D->a<g.length->Calls Tryz.prog 178 #[.slice ao g.length cap,.map (some b),.int .i64 a] w (StandPost g b S a w)):=ih
  clear hD hG ih
  go_enter Tryz.func178,Tryz.ntmps178
  go_wp2_with fail
  refine (has_any w b _ a S ⟨D,HD.out⟩ (by omega)).mono ?_
  rintro r w1 ⟨c,rfl,hc,hb⟩
  have HB:Hid (Below w.heap.size w w1):=hb
  have H1:Hid (SetD w1 b g.length D S):=HD.out.kept (hb.block b HD.out.blk)
  clear hb
  cases c
  ·have hs:¬ S a:=fun e=>by have:=hc.2 e;cases this
   have hsz:=HD.out.size_le
   have hka:=keyOf_nat a (by omega)
   have hrl:=hg.row g[a] (List.getElem_mem ha)
   obtain ⟨q,ao2,cap2,hq,hcq0⟩:=gin_row HG.out ha
   subst hq
   have HQ:Hid (w.cell? ⟨q,a,none⟩=some (.slice ao2 g[a].length cap2)):=hcq0
   clear hcq0
   go_wp2_with (at_mapUpdate;refine wpList_mapUpdate_own _ rfl _ _ _ 296 rfl 3 338 intKey Tryz.undSet unitElem b (Maps.size D) D rfl H1.out.own (by unfold maxLen;omega) _ _ (.int .i64 a) rfl rfl hka (.agg []) [] unitElem_mk ?_;intro w2 hown2 hg2;have C2:Hid (Chg (fun k=>k=b) w w2):=(Chg.of_below HB.out).grown hg2 (fun k e=>Or.inr (Option.some.inj e).symm);have S2:Hid (SetD w2 b g.length (D.put (.int .i64 a) (.agg [])) (fun y=>S y\/y=a)):=H1.out.put ha hown2;clear hown2 hg2;have hcq:=(KpA.chg C2.out ⟨D,HD.out⟩).cell HQ.out)
   have e2:=H1.out.put_size hs
   go_loopg [19] g[a].length (fun gh iv wx=>∃ i:Nat,i<=g[a].length/\gh=g[a].length - i/\iv=.int .i64 i/\∃ R D',SetD wx b g.length D' R/\Hid (Standing g S R a i)/\Hid (Maps.size D+1<=Maps.size D')/\Hid (Chg (fun k=>k=b) w wx))
   case atStart=>exact ⟨0,Nat.zero_le _,rfl,rfl,_,_,S2.out,Standing.start g S a,(by show _<=_;rw [e2];exact Nat.le_refl _),C2⟩
   case round =>
    obtain ⟨i,hi,rfl,rfl,R,D',hSD,hSt,hle,hC⟩:=hrel
    obtain ⟨w3,hw3⟩:∃ w3,w3=wr:=⟨wr,rfl⟩
    subst hw3
    have SD3:Hid (SetD w3 b g.length D' R):=hSD
    have K3:=KpA.chg hC.out ⟨D,HD.out⟩
    have G3:Hid (GIn w3 (.slice (some ⟨q,0,none⟩) g.length cap) g):=HG.out.kpa K3
    have hq3:=K3.cell HQ.out
    clear hSD K3
    by_cases hlt:i<g[a].length
    ·obtain ⟨q2,hq2,c0,c1⟩:=gin_edge G3.out ha hq3 hlt
     subst hq2
     have hto:=hg.to_ g[a] (List.getElem_mem ha) g[a][i] (List.getElem_mem hlt)
     have hed:Hid ((grow g a)[i]?=some g[a][i]):=by show _=_;rw [grow_at ha];exact List.getElem?_eq_getElem hlt
     generalize g[a][i]=ed at c0 c1 hto hed
     obtain ⟨t,y⟩:=ed
     simp only at c0 c1 hto
     clear hq3
     by_cases ht:t=0
     ·subst ht
      go_wp2_with fail
      refine (IH.out _ b D' R y (G3.out.below (below_alloc _ _)) (SD3.out.kept (Below.heap_alloc _ _ _ SD3.out.blk)) (by have:=hle.out;omega) hto.1).mono ?_
      rintro r w4 ⟨rfl,⟨R',⟨D4,hS4⟩,hSt'⟩,hC'⟩
      have S4:Hid (SetD w4 b g.length D4 R'):=hS4
      have C4:Hid (Chg (fun k=>k=b) w w4):=(hC.out.alloc _).trans hC'
      have T4:Hid (Standing g S R' a (i+1)):=hSt.out.next hed.out hSt'
      have L4:Hid (Maps.size D+1<=Maps.size D4):=Nat.le_trans hle.out (SD3.out.size_mono hS4 hSt'.old)
      clear hS4 hC' hSt'
      go_wp2_with fail
      go_roundg (g[a].length - (i+1))
      case measure=>omega
      case rel=>exact ⟨i+1,by omega,rfl,by go_num,R',D4,S4.out,T4,L4,C4⟩
     ·have ht':¬ ((t:Int)=0):=by omega
      have T4:Hid (Standing g S R a (i+1)):=hSt.out.skip hed.out ht
      go_wp2_with fail
      go_roundg (g[a].length - (i+1))
      case measure=>omega
      case rel=>exact ⟨i+1,by omega,rfl,by go_num,R,D',SD3.out.kept (Below.heap_alloc _ _ _ SD3.out.blk),T4,hle,hC.out.alloc _⟩
    ·go_wp2_with fail
     go_end0
     exact ⟨rfl,⟨R,⟨D',SD3.out⟩,hSt.out.done_all (by rw [grow_at ha];omega)⟩,hC.out⟩
  ·have hs:S a:=hc.1 rfl
   go_wp2_with fail
   go_end0
   exact ⟨rfl,⟨S,SetAt.below ⟨D,HD.out⟩ HB.out,fun _ h=>h,hs,fun x hx hn=>absurd hx hn⟩,Chg.of_below HB.out⟩
end Go.Proofs.YtodagkkjfipbgaaGreatDoor
