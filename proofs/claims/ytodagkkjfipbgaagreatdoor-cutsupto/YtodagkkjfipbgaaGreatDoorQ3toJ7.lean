import Derived.RegionTactic
import Derived.Laws.MakeOwn
import Derived.Test.YtodagkkjfipbgaaGreatDoorQ1toJ1
namespace Go.Proofs.YtodagkkjfipbgaaGreatDoor
open Go.RowKit
theorem one_int (n:Int):∀ u ∈ [Value.int .i64 n],u.oneCell'=true:=by intro u hu;simp at hu;subst hu;rfl
theorem MRow.cells {w:World} {base:Nat} {vS:Value} {S:List St} {tv:List Value} (h:MRow w base vS S tv) (f:Nat) (hf:f<S.length) :
  ∃ g cap cur,vS=.slice (some ⟨g,0,none⟩) S.length cap∧w.heap[g]?=some (.cells cur 293 (0,0))∧base≤g∧∃ u,tv[f]?=some u∧w.cell? ⟨g,f * 2,none⟩=some (.int .u8 (S[f]'hf).1)∧w.cell? ⟨g,f * 2+1,none⟩=some u:=by
 obtain ⟨h1,h2⟩:=h.row
 have hl:=h.len
 rcases h2 with ⟨hv,hn⟩ | ⟨g,cap,cur,hv,hg,hh,hcap,hmx,hsz,hcur⟩
 ·omega
 ·obtain ⟨u,hu⟩:∃ u,tv[f]?=some u:=⟨tv[f]'(by omega),List.getElem?_eq_getElem (by omega)⟩
  have hc:=stCells_at S tv f _ u (List.getElem?_eq_getElem hf) hu
  rw [← hcur,List.getElem?_take,List.getElem?_take,if_pos (by omega),if_pos (by omega)] at hc
  exact ⟨g,cap,cur,hv,hh,hg,u,hu,cell_of_block hh _ _ (by simpa using hc.1),cell_of_block hh _ _ (by simpa using hc.2)⟩
theorem lead_end {w w':World} {base m:Nat} {S:List St} {first:Int} {f t g cap l capu cap' n:Nat} {aou ao':Option Addr} {s:St} {tv:List Value} {cur:Array Value} (hbm:base≤m) (hb:base≤w.heap.size) (hbg:base≤g) (hf:f<n)
  (HS:S[f]?=some s) (HU:tv[f]?=some (.slice aou l capu)) (HT:w.ownsRow base 3 1 (.slice aou l capu) l (intCells s.2)) (HL:l=s.2.length)
  (HR:MRow w base (.slice (some ⟨g,0,none⟩) n cap) S tv) (HN:n=S.length) (hg:w.drew.grownBy w' (Value.ownBlock (.slice aou l capu)))
  (hown:w'.ownsRow base 3 1 (.slice ao' (l+1) cap') (l+1) (intCells s.2++[.int .i64 t])) (hsn:SameOrNew w.drew (.slice aou l capu) (.slice ao' (l+1) cap'))
  (hm':w'.heap[m]?=some (.cells #[.slice (some ⟨g,0,none⟩) n cap,.int .i64 first] 146 (0,0))) (hg':w'.heap[g]?=some (.cells cur 293 (0,0))) :
  MIn (w'.setCell ⟨g,f * 2+1,none⟩ (.slice ao' (l+1) cap')) base m (leadS S f t) first∧Below base w (w'.setCell ⟨g,f * 2+1,none⟩ (.slice ao' (l+1) cap')):=by
 subst HN
 subst HL
 have hT:w.drew.ownsRow base 3 1 (.slice aou s.2.length capu) s.2.length (intCells s.2):=HT
 constructor
 ·refine ⟨hbm,.slice (some ⟨g,0,none⟩) S.length cap,tv.set f (.slice ao' (s.2.length+1) cap'),?_,?_⟩
  ·rw [Below.heap_setCell _ _ _ _ (type_ne hm' hg' (by decide))];exact hm'
  ·refine HR.lead hf HU ?_ ?_ ?_ ?_
   ·have hk:Kp 293 w w':=(Kp.refl _ w).grown (w:=w.drew) hT hg (by decide)
    exact row_set (row_kp HR.row hk) _ _
   ·rintro k hk ⟨cs,hcs⟩
    have h1:w'.heap[k]?=w.heap[k]?:=hg.block k (heap_lt hcs) hk
    rw [Below.heap_setCell _ _ _ _ (type_ne (h1.trans hcs) hg' (by decide))];exact h1
   ·intro s1 hs1
    rw [HS] at hs1
    simp at hs1
    subst hs1
    exact row_kp hown ((Kp.refl _ _).setCell hg' (by decide) _)
   ·rcases hsn with h | h
    ·exact Or.inl h
    ·exact Or.inr ⟨_,h,Nat.le_refl _⟩
 ·refine Below.setCell (Below.grown (w:=w.drew) ((Below.refl _ _).drew) hg hb fun k hk=>?_) hbg _
  exact (hT.lt k hk).1
set_option maxRecDepth 100000 in
set_option maxHeartbeats 4000000 in
theorem lead_any (base m:Nat) (S:List St) (first:Int) (f t gt:Nat) (w:World) (h:MIn w base m S first) (hb:base≤w.heap.size) (hf:f<S.length) (_hS:S.length≤9000) (hl:∀ s ∈ S,s.2.length≤9000)
  (ht:w.cell? ⟨gt,0,none⟩=some (.int .i64 t)) :
  Calls Tryz.prog 227 #[.pointer (some ⟨m,0,none⟩),.int .i64 f,.slice (some ⟨gt,0,none⟩) 1 1] w fun e w'=>e=.returned (.tuple #[])∧MIn w' base m (leadS S f t) first∧Below base w w':=by
 obtain ⟨hbm,vS,tv,hm,hr⟩:=h
 obtain ⟨g,cap,cur,rfl,hg,hbg,u,hu,hc1,hc2⟩:=hr.cells f hf
 have hto:=hr.to_ f u _ hu (List.getElem?_eq_getElem hf)
 have hlen:=hl _ (List.getElem_mem hf)
 obtain ⟨aou,capu,rfl⟩:=row_shape hto
 have c0:=cell_of_block hm 0 _ rfl
 have hfr:=free_of_block hm
 have hfg:=free_of_block hg
 have HM:Hid (w.heap[m]?=some (.cells #[.slice (some ⟨g,0,none⟩) S.length cap,.int .i64 first] 146 (0,0))):=hm
 have HG:Hid (w.heap[g]?=some (.cells cur 293 (0,0))):=hg
 have HT:Hid (w.ownsRow base 3 1 (.slice aou (S[f]'hf).2.length capu) (S[f]'hf).2.length (intCells (S[f]'hf).2)):=hto
 have HU:Hid (tv[f]?=some (.slice aou (S[f]'hf).2.length capu)):=hu
 have HR:Hid (MRow w base (.slice (some ⟨g,0,none⟩) S.length cap) S tv):=hr
 obtain ⟨s,hs⟩:∃ s,s=S[f]'hf:=⟨_,rfl⟩
 have HS:Hid (S[f]?=some s):=by rw [hs];exact List.getElem?_eq_getElem hf
 rw [← hs] at HT HU hc2 hc1 hlen
 clear hm hg hto hu hr hs hl
 obtain ⟨l,hl⟩:∃ l,l=s.2.length:=⟨_,rfl⟩
 have HL:Hid (l=s.2.length):=hl
 rw [← hl] at HT HU hc2 hlen
 obtain ⟨n,hn⟩:∃ n,n=S.length:=⟨_,rfl⟩
 have HNN:Hid (n=S.length):=hn
 rw [← hn] at HM HR c0 hf _hS
 clear hl hn
 go_enter Tryz.func227,Tryz.ntmps227
 go_wp2_with fail
 go_region_law (refine step_push2 rfl (.tmp 18) (.tmp 19) 33 rfl base 3 (.int .i64 0) 1 8 Tryz.infoInt Tryz.undInt rfl (by decide) (.slice aou l capu) l (intCells s.2) rfl (by exact HT.out) gt 1 [.int .i64 t] rfl rfl (fun j u hu=>by cases j with | zero=>simp at hu;subst hu;exact ht | succ j=>simp at hu) (one_int _) (by omega) (by omega) hb ?_;intro v' w' hown hg hsn;obtain ⟨ao',cap',rfl⟩:=row_shape hown;have hm':=kept_grown HM.out (by exact Kp.refl _ w) (by exact HT.out) hg (by decide);have e0:=cell_of_block hm' 0 _ rfl;have ef:=free_of_block hm';have hg':=kept_grown HG.out (by exact Kp.refl _ w) (by exact HT.out) hg (by decide);have eg:=free_of_block hg';have ec:=(World.cell?_of_block (a:=⟨g,f * 2+1,none⟩) (w:=w) (hg'.trans HG.out.symm)).trans hc2)
 all_goals go_wp2_with fail
 all_goals go_end0
 all_goals
  exact ⟨rfl,lead_end hbm hb hbg hf HS.out HU.out HT.out HL.out HR.out HNN.out hg hown hsn hm' hg'⟩
theorem MRow.later {w w':World} {base:Nat} {vS:Value} {S:List St} {tv:List Value} (h:MRow w base vS S tv) (hb:Below w.heap.size w w'):MRow w' base vS S tv:=by
 have hk:∀ t,Kp t w w':=fun t=>Kp.below hb
 exact ⟨h.len,row_kp h.row (hk _),fun i v s hv hs=>row_kp (h.to_ i v s hv hs) (hk _),h.apart⟩
theorem MIn.later {w w':World} {base m:Nat} {S:List St} {first:Int} (h:MIn w base m S first) (hb:Below w.heap.size w w'):MIn w' base m S first:=by
 obtain ⟨h1,vS,tv,h2,h3⟩:=h
 exact ⟨h1,vS,tv,by rw [hb.block m (heap_lt h2)];exact h2,h3.later hb⟩
theorem MIn.size {w:World} {base m:Nat} {S:List St} {first:Int} (h:MIn w base m S first):base≤w.heap.size:=by
 obtain ⟨h1,vS,tv,h2,h3⟩:=h
 have:=heap_lt h2;omega
theorem tov_lt {w:World} {base:Nat} {vS:Value} {S:List St} {tv:List Value} (h:MRow w base vS S tv) {i j:Nat} {u:Value} (hu:tv[i]?=some u) (hj:u.ownBlock=some j):j<w.heap.size:=by
 have hi:i<S.length:=by rw [← h.len];exact (List.getElem?_eq_some_iff.1 hu).1
 exact ((h.to_ i u _ hu (List.getElem?_eq_getElem hi)).lt j hj).2
theorem add_nil (base m:Nat) (S:List St) (first:Int) (k:Nat) (w:World) (h:MIn w base m S first) (hS:S.length≤9000) :
  Calls Tryz.prog 226 #[.pointer (some ⟨m,0,none⟩),.int .u8 k,.slice none 0 0] w fun e w'=>e=.returned (.int .i64 S.length)∧MIn w' base m (S++[(k,[])]) first∧Below base w w':=by
 have hs:=h.size
 obtain ⟨h1,vS,tv,h2,h3⟩:=h
 exact add_at base m S first k [] _ vS tv w h1 h2 h3 hs hS (World.ownsRow_nil _ _ _ _) (fun i u j _ _=>by simp [Value.ownBlock])
theorem below_alloc (w:World) (o:Obj):Below w.heap.size w (w.alloc o):=(Below.refl _ _).alloc (Nat.le_refl _) o
theorem add_new (base m:Nat) (S:List St) (first:Int) (k b:Nat) (w:World) (h:MIn w base m S first) (hS:S.length≤9000) :
  Calls Tryz.prog 226 #[.pointer (some ⟨m,0,none⟩),.int .u8 k,.slice (some ⟨w.heap.size,0,none⟩) 1 1] (w.alloc (.cells #[.int .i64 b] 3)) fun e w'=>e=.returned (.int .i64 S.length)∧MIn w' base m (S++[(k,[b])]) first∧Below base w w':=by
 have hs:=h.size
 obtain ⟨h1,vS,tv,h2,h3⟩:=h
 have hb:=below_alloc w (.cells #[.int .i64 b] 3)
 refine (add_at base m S first k [b] _ vS tv _ h1 (by rw [hb.block m (heap_lt h2)];exact h2) (h3.later hb) (by simp;omega) hS ?_ ?_).mono ?_
 ·exact ⟨rfl,Or.inr ⟨w.heap.size,1,#[.int .i64 b],rfl,hs,heap_alloc_new _ _,Nat.le_refl _,by decide,rfl,rfl⟩⟩
 ·intro i u j hu hj e
  have:=tov_lt h3 hu hj
  simp [Value.ownBlock] at e
  omega
 ·rintro e w' ⟨h1,h2,h3⟩
  exact ⟨h1,h2,(hb.mono hs).trans h3⟩
theorem lead_new (base m:Nat) (S:List St) (first:Int) (f t:Nat) (w:World) (h:MIn w base m S first) (hf:f<S.length) (hS:S.length≤9000) (hT:tot S≤9000) :
  Calls Tryz.prog 227 #[.pointer (some ⟨m,0,none⟩),.int .i64 f,.slice (some ⟨w.heap.size,0,none⟩) 1 1] (w.alloc (.cells #[.int .i64 t] 3)) fun e w'=>e=.returned (.tuple #[])∧MIn w' base m (leadS S f t) first∧Below base w w':=by
 have hs:=h.size
 have hb:=below_alloc w (.cells #[.int .i64 t] 3)
 refine (lead_any base m S first f t w.heap.size _ (h.later hb) (by simp;omega) hf hS (fun s hs=>Nat.le_trans (tot_mem hs) hT) ?_).mono ?_
 ·exact cell_of_block (heap_alloc_new _ _) 0 _ rfl
 ·rintro e w' ⟨h1,h2,h3⟩
  exact ⟨h1,h2,(hb.mono hs).trans h3⟩
open Go.Maps
theorem Tryz.infoEd:(Tryz.prog.info? 303).map (fun i=>(i.zero,i.size,i.bytes))=some (some (.agg #[.int .u8 0,.int .i64 0]),2,16):=by kernel_rfl
theorem Tryz.undEd:Tryz.prog.underlying 301=some (.slice 303):=by kernel_rfl
def KpA (w w':World):Prop:=∀ (k:Nat) (cs:Array Value) (t:TypeId) (m:Nat × Nat),w.heap[k]?=some (.cells cs t m)→w'.heap[k]?=some (.cells cs t m)
theorem KpA.refl (w:World):KpA w w:=fun _ _ _ _ h=>h
theorem KpA.trans {a b c:World} (h:KpA a b) (k:KpA b c):KpA a c:=fun i cs t m hh=>k i cs t m (h i cs t m hh)
theorem KpA.kp {w w':World} (h:KpA w w') (t:TypeId):Kp t w w':=fun k cs m hh=>h k cs t m hh
theorem KpA.below {w w':World} (h:Below w.heap.size w w'):KpA w w':=fun k cs t m hh=>by rw [h.block k (heap_lt hh)];exact hh
theorem KpA.chg {w w':World} {b N:Nat} {S:Nat→Prop} (h:Chg (fun k=>k=b) w w') (hs:SetAt w b N S):KpA w w':=fun k cs t m hh=>by
 rw [h.block k (heap_lt hh) ?_];exact hh
 intro e
 subst e
 obtain ⟨D,hD⟩:=hs
 obtain ⟨es,c,h1,_⟩:=hD.own
 rw [h1] at hh;cases hh
theorem KpA.cell {w w':World} (h:KpA w w') {b o:Nat} {v:Value} (hc:w.cell? ⟨b,o,none⟩=some v):w'.cell? ⟨b,o,none⟩=some v:=by
 unfold World.cell? at hc ⊢
 cases hb:w.heap[b]? with
 | none=>simp [hb] at hc
 | some x =>
  cases x with
  | cells cs t m=>rw [h b cs t m hb];simpa [hb] using hc
  | _=>simp [hb] at hc
def edCells (l:List (Nat × Nat)):List Value:=l.flatMap fun o=>[.int .u8 o.1,.int .i64 o.2]
theorem edCells_snoc (l:List (Nat × Nat)) (t y:Nat):edCells (l++[(t,y)])=edCells l++[.int .u8 t,.int .i64 y]:=by unfold edCells;simp
theorem edCells_at (l:List (Nat × Nat)) (i:Nat) (h:i<l.length):(edCells l)[i * 2]?=some (.int .u8 l[i].1)∧(edCells l)[i * 2+1]?=some (.int .i64 l[i].2):=by
 induction l generalizing i with
 | nil=>simp at h
 | cons a r ih =>
  cases i with
  | zero=>simp [edCells]
  | succ i =>
   have:=ih i (by simpa using h)
   have e:∀ k,(edCells (a :: r))[(i+1) * 2+k]?=(edCells r)[i * 2+k]?:=by
    intro k;rw [show (i+1) * 2+k=(i * 2+k)+2 from by omega];rfl
   have e0:=e 0;have e1:=e 1
   simp only [Nat.add_zero] at e0
   rw [e0,e1];simpa using this
structure GRow (w:World) (base:Nat) (v:Value) (g:List (List (Nat × Nat))) (rv:List Value):Prop where
 len:rv.length=g.length
 row:w.ownsRow base 301 1 v g.length rv
 to_:∀ (i:Nat) (u:Value) (l:List (Nat × Nat)),rv[i]?=some u→g[i]?=some l→w.ownsRow base 303 2 u l.length (edCells l)
 apart:∀ (i j:Nat) (u v:Value) (k:Nat),i ≠ j→rv[i]?=some u→rv[j]?=some v→u.ownBlock=some k→v.ownBlock ≠ some k
def GIn (w:World) (v:Value) (g:List (List (Nat × Nat))):Prop:=∃ rv,GRow w 0 v g rv
theorem GRow.kpa {w w':World} {base:Nat} {v:Value} {g:List (List (Nat × Nat))} {rv:List Value} (h:GRow w base v g rv) (hk:KpA w w'):GRow w' base v g rv :=
 ⟨h.len,row_kp h.row (hk.kp _),fun i u l hu hl=>row_kp (h.to_ i u l hu hl) (hk.kp _),h.apart⟩
theorem GIn.kpa {w w':World} {v:Value} {g:List (List (Nat × Nat))} (h:GIn w v g) (hk:KpA w w'):GIn w' v g:=by obtain ⟨rv,hr⟩:=h;exact ⟨rv,hr.kpa hk⟩
theorem GIn.below {w w':World} {v:Value} {g:List (List (Nat × Nat))} (h:GIn w v g) (hb:Below w.heap.size w w'):GIn w' v g:=h.kpa (KpA.below hb)
structure GOk (g:List (List (Nat × Nat))):Prop where
 len:g.length≤9000
 row:∀ l ∈ g,l.length≤9000
 to_:∀ l ∈ g,∀ e ∈ l,e.2<g.length∧e.1<256
theorem GIn.form {w:World} {v:Value} {g:List (List (Nat × Nat))} (h:GIn w v g):∃ ao cap,v=.slice ao g.length cap∧∀ i (hi:i<g.length),∃ q ao2 cap2,ao=some ⟨q,0,none⟩∧w.cell? ⟨q,i,none⟩=some (.slice ao2 g[i].length cap2) ∧
  ∀ j (hj:j<g[i].length),∃ q2,ao2=some ⟨q2,0,none⟩∧w.cell? ⟨q2,j * 2,none⟩=some (.int .u8 g[i][j].1)∧w.cell? ⟨q2,j * 2+1,none⟩=some (.int .i64 g[i][j].2):=by
 obtain ⟨rv,hl,⟨h2,h3⟩,h4,_⟩:=h
 rcases h3 with ⟨hv,hn⟩ | ⟨q,cap,cur,hv,hg,hh,hcap,hmx,hsz,hcur⟩
 ·exact ⟨none,0,by rw [hv,hn],fun i hi=>by omega⟩
 ·refine ⟨some ⟨q,0,none⟩,cap,hv,fun i hi=>?_⟩
  obtain ⟨u,hu⟩:∃ u,rv[i]?=some u:=⟨rv[i]'(by omega),List.getElem?_eq_getElem (by omega)⟩
  have h5:=h4 i u _ hu (List.getElem?_eq_getElem hi)
  have hc:w.cell? ⟨q,i,none⟩=some u:=by
   refine cell_of_block hh i _ ?_
   have e1:(cur.toList.take (g.length * 1))[i]?=some u:=by rw [hcur];exact hu
   rw [List.getElem?_take,if_pos (by omega)] at e1
   simpa using e1
  obtain ⟨h6,h7⟩:=h5
  rcases h7 with ⟨hv',hn'⟩ | ⟨q',cap',cur',hv',hg',hh',hcap',hmx',hsz',hcur'⟩
  ·exact ⟨q,none,0,rfl,by rw [hc,hv',hn'],fun j hj=>by omega⟩
  ·refine ⟨q,some ⟨q',0,none⟩,cap',rfl,by rw [hc,hv'],fun j hj=>⟨q',rfl,?_⟩⟩
   have hc':=edCells_at g[i] j hj
   rw [← hcur',List.getElem?_take,List.getElem?_take,if_pos (by omega),if_pos (by omega)] at hc'
   exact ⟨cell_of_block hh' _ _ (by simpa using hc'.1),cell_of_block hh' _ _ (by simpa using hc'.2)⟩
theorem SetD.size_lt {w:World} {b N x:Nat} {D:DataW Unit} {S:Nat→Prop} (h:SetD w b N D S) (hx:x<N) (hs:¬ S x):Maps.size D<N:=by
 obtain ⟨es,rfl,hp,hk⟩:=h.own.entries intKey
 have e:((List.range N).map fun x:Nat=>Lit.int .i64 (x:Int)).length=N:=by simp
 have hn:(Lit.int .i64 (x:Int) :: es.map Prod.fst).Nodup:=by
  rw [List.nodup_cons]
  refine ⟨fun hm=>hs ?_,fst_nodup hp⟩
  obtain ⟨p,hpm,e⟩:=List.mem_map.1 hm
  have h1:=mem_has hpm (hk p hpm)
  rw [e] at h1
  exact (h.mem x).1 h1
 have:=List.Nodup.length_le_of_subset (l₂:=(List.range N).map fun x:Nat=>Lit.int .i64 (x:Int)) hn (by
  intro kl hkl
  rw [List.mem_cons] at hkl
  rcases hkl with rfl | hkl
  ·exact List.mem_map.2 ⟨x,List.mem_range.2 hx,rfl⟩
  ·obtain ⟨p,hpm,rfl⟩:=List.mem_map.1 hkl
   obtain ⟨y,hy,e⟩:=h.key _ (mem_has hpm (hk p hpm))
   exact List.mem_map.2 ⟨y,List.mem_range.2 hy,e.symm⟩)
 rw [List.length_cons,e,List.length_map] at this
 rw [Maps.size_eq]
 omega
set_option maxRecDepth 100000 in
set_option maxHeartbeats 1000000 in
theorem has_any (w:World) (b N x:Nat) (S:Nat→Prop) (h:SetAt w b N S) (hx:x≤1000000) :
  Calls Tryz.prog 209 #[.map (some b),.int .i64 x] w fun r w'=>∃ c,r=.returned (.bool c)∧(c=true↔S x)∧Below w.heap.size w w':=by
 obtain ⟨D,hD⟩:=h
 have HD:Hid (SetD w b N D S):=hD
 clear hD
 go_enter Tryz.func209,Tryz.ntmps209
 go_wp2_with (at_lookup;refine wpList_lookup_own_unit _ rfl _ _ 296 rfl 3 338 intKey Tryz.undSet (zeroU _) b (Maps.size D) D rfl HD.out.own _ _ rfl (keyOf_nat x hx) ?_)
 go_ret
 exact ⟨_,rfl,HD.out.mem x,(Below.refl _ _).alloc (Nat.le_refl _) _⟩
theorem gin_row {w:World} {ao:Option Addr} {cap:Nat} {g:List (List (Nat × Nat))} {a:Nat} (h:GIn w (.slice ao g.length cap) g) (ha:a<g.length):∃ q ao2 cap2,ao=some ⟨q,0,none⟩∧w.cell? ⟨q,a,none⟩=some (.slice ao2 g[a].length cap2):=by
 obtain ⟨ao',cap',e,hf⟩:=h.form
 injection e with e1 _ _
 subst e1
 obtain ⟨q,ao2,cap2,h1,h2,_⟩:=hf a ha
 exact ⟨q,ao2,cap2,h1,h2⟩
theorem gin_edge {w:World} {q cap cap2:Nat} {ao2:Option Addr} {g:List (List (Nat × Nat))} {a j:Nat} (h:GIn w (.slice (some ⟨q,0,none⟩) g.length cap) g) (ha:a<g.length) (hc:w.cell? ⟨q,a,none⟩=some (.slice ao2 g[a].length cap2)) (hj:j<g[a].length) :
  ∃ q2,ao2=some ⟨q2,0,none⟩∧w.cell? ⟨q2,j * 2,none⟩=some (.int .u8 g[a][j].1)∧w.cell? ⟨q2,j * 2+1,none⟩=some (.int .i64 g[a][j].2):=by
 obtain ⟨ao',cap',e,hf⟩:=h.form
 injection e with e1 _ _
 subst e1
 obtain ⟨q',ao2',cap2',h1,h2,h3⟩:=hf a ha
 simp at h1
 subst h1
 rw [h2] at hc
 simp at hc
 obtain ⟨rfl,_⟩:=hc
 exact h3 j hj
def StandPost (g:List (List (Nat × Nat))) (b:Nat) (S:Nat→Prop) (a:Nat) (w:World) (r:Ending) (w':World):Prop :=
 r=.returned (.tuple #[])∧(∃ R,SetAt w' b g.length R∧Stands g S R a)∧Chg (fun k=>k=b) w w'
theorem grow_at {g:List (List (Nat × Nat))} {a:Nat} (h:a<g.length):grow g a=g[a]:=by unfold grow;rw [List.getElem?_eq_getElem h];rfl
set_option maxRecDepth 100000 in
set_option maxHeartbeats 4000000 in
theorem stand_fuel (g:List (List (Nat × Nat))) (hg:GOk g) (v:Value):∀ (m:Nat) (w:World) (b:Nat) (D:DataW Unit) (S:Nat→Prop) (a:Nat),GIn w v g→SetD w b g.length D S→g.length≤m+Maps.size D→a<g.length →
  Calls Tryz.prog 178 #[v,.map (some b),.int .i64 a] w (StandPost g b S a w):=by
 intro m
 induction m with
 | zero =>
  intro w b D S a hG hD hm ha
  have hs:S a:=by
   by_cases hc:S a
   ·exact hc
   ·have:=hD.size_lt ha hc;omega
  have HD:Hid (SetD w b g.length D S):=hD
  have hlen:=hg.len
  obtain ⟨ao,cap,rfl,_⟩:=hG.form
  clear hD hG
  go_enter Tryz.func178,Tryz.ntmps178
  go_wp2_with fail
  refine (has_any w b _ a S ⟨D,HD.out⟩ (by omega)).mono ?_
  rintro r w1 ⟨c,rfl,hc,hb⟩
  obtain rfl:c=true:=hc.2 hs
  go_wp2_with fail
  go_end0
  exact ⟨rfl,⟨S,SetAt.below ⟨D,HD.out⟩ hb,fun _ h=>h,hs,fun x hx hn=>absurd hx hn⟩,Chg.of_below hb⟩
 | succ m ih =>
  intro w b D S a hG hD hm ha
  have HD:Hid (SetD w b g.length D S):=hD
  have HG:Hid (GIn w v g):=hG
  have hlen:=hg.len
  obtain ⟨ao,cap,rfl,_⟩:=hG.form
  have IH:Hid (∀ (w:World) (b:Nat) (D:DataW Unit) (S:Nat→Prop) (a:Nat),GIn w (.slice ao g.length cap) g→SetD w b g.length D S→g.length≤m+Maps.size D→a<g.length→Calls Tryz.prog 178 #[.slice ao g.length cap,.map (some b),.int .i64 a] w (StandPost g b S a w)):=ih
  clear hD hG ih
  go_enter Tryz.func178,Tryz.ntmps178
  go_wp2_with fail
  refine (has_any w b _ a S ⟨D,HD.out⟩ (by omega)).mono ?_
  rintro r w1 ⟨c,rfl,hc,hb⟩
  have HB:Hid (Below w.heap.size w w1):=hb
  have H1:Hid (SetD w1 b g.length D S):=HD.out.kept (hb.block b HD.out.blk)
  clear hb
  cases c
  ·have hs:¬ S a:=fun e=>by have:=hc.2 e;cases this
   have hsz:=HD.out.size_le
   have hka:=keyOf_nat a (by omega)
   have hrl:=hg.row g[a] (List.getElem_mem ha)
   obtain ⟨q,ao2,cap2,hq,hcq0⟩:=gin_row HG.out ha
   subst hq
   have HQ:Hid (w.cell? ⟨q,a,none⟩=some (.slice ao2 g[a].length cap2)):=hcq0
   clear hcq0
   go_wp2_with (at_mapUpdate;refine wpList_mapUpdate_own _ rfl _ _ _ 296 rfl 3 338 intKey Tryz.undSet unitElem b (Maps.size D) D rfl H1.out.own (by unfold maxLen;omega) _ _ (.int .i64 a) rfl rfl hka (.agg []) [] unitElem_mk ?_;intro w2 hown2 hg2;have C2:Hid (Chg (fun k=>k=b) w w2):=(Chg.of_below HB.out).grown hg2 (fun k e=>Or.inr (Option.some.inj e).symm);have S2:Hid (SetD w2 b g.length (D.put (.int .i64 a) (.agg [])) (fun y=>S y∨y=a)):=H1.out.put ha hown2;clear hown2 hg2;have hcq:=(KpA.chg C2.out ⟨D,HD.out⟩).cell HQ.out)
   have e2:=H1.out.put_size hs
   go_loopg [19] g[a].length (fun gh iv wx=>∃ i:Nat,i≤g[a].length∧gh=g[a].length - i∧iv=.int .i64 i∧∃ R D',SetD wx b g.length D' R∧Hid (Standing g S R a i)∧Hid (Maps.size D+1≤Maps.size D')∧Hid (Chg (fun k=>k=b) w wx))
   case atStart=>exact ⟨0,Nat.zero_le _,rfl,rfl,_,_,S2.out,Standing.start g S a,(by show _≤_;rw [e2];exact Nat.le_refl _),C2⟩
   case round =>
    obtain ⟨i,hi,rfl,rfl,R,D',hSD,hSt,hle,hC⟩:=hrel
    obtain ⟨w3,hw3⟩:∃ w3,w3=wr:=⟨wr,rfl⟩
    subst hw3
    have SD3:Hid (SetD w3 b g.length D' R):=hSD
    have K3:=KpA.chg hC.out ⟨D,HD.out⟩
    have G3:Hid (GIn w3 (.slice (some ⟨q,0,none⟩) g.length cap) g):=HG.out.kpa K3
    have hq3:=K3.cell HQ.out
    clear hSD K3
    by_cases hlt:i<g[a].length
    ·obtain ⟨q2,hq2,c0,c1⟩:=gin_edge G3.out ha hq3 hlt
     subst hq2
     have hto:=hg.to_ g[a] (List.getElem_mem ha) g[a][i] (List.getElem_mem hlt)
     have hed:Hid ((grow g a)[i]?=some g[a][i]):=by show _=_;rw [grow_at ha];exact List.getElem?_eq_getElem hlt
     generalize g[a][i]=ed at c0 c1 hto hed
     obtain ⟨t,y⟩:=ed
     simp only at c0 c1 hto
     clear hq3
     by_cases ht:t=0
     ·subst ht
      go_wp2_with fail
      refine (IH.out _ b D' R y (G3.out.below (below_alloc _ _)) (SD3.out.kept (Below.heap_alloc _ _ _ SD3.out.blk)) (by have:=hle.out;omega) hto.1).mono ?_
      rintro r w4 ⟨rfl,⟨R',⟨D4,hS4⟩,hSt'⟩,hC'⟩
      have S4:Hid (SetD w4 b g.length D4 R'):=hS4
      have C4:Hid (Chg (fun k=>k=b) w w4):=(hC.out.alloc _).trans hC'
      have T4:Hid (Standing g S R' a (i+1)):=hSt.out.next hed.out hSt'
      have L4:Hid (Maps.size D+1≤Maps.size D4):=Nat.le_trans hle.out (SD3.out.size_mono hS4 hSt'.old)
      clear hS4 hC' hSt'
      go_wp2_with fail
      go_roundg (g[a].length - (i+1))
      case measure=>omega
      case rel=>exact ⟨i+1,by omega,rfl,by go_num,R',D4,S4.out,T4,L4,C4⟩
     ·have ht':¬ ((t:Int)=0):=by omega
      have T4:Hid (Standing g S R a (i+1)):=hSt.out.skip hed.out ht
      go_wp2_with fail
      go_roundg (g[a].length - (i+1))
      case measure=>omega
      case rel=>exact ⟨i+1,by omega,rfl,by go_num,R,D',SD3.out.kept (Below.heap_alloc _ _ _ SD3.out.blk),T4,hle,hC.out.alloc _⟩
    ·go_wp2_with fail
     go_end0
     exact ⟨rfl,⟨R,⟨D',SD3.out⟩,hSt.out.done_all (by rw [grow_at ha];omega)⟩,hC.out⟩
  ·have hs:S a:=hc.1 rfl
   go_wp2_with fail
   go_end0
   exact ⟨rfl,⟨S,SetAt.below ⟨D,HD.out⟩ HB.out,fun _ h=>h,hs,fun x hx hn=>absurd hx hn⟩,Chg.of_below HB.out⟩
def addE (g:List (List (Nat × Nat))) (a:Nat × Nat × Nat):List (List (Nat × Nat)):=g.modify a.1 (·++[a.2])
def stAdds (fw:Bool) (i:Nat) (s:St):List (Nat × Nat × Nat):=s.2.map fun u=>if fw=true then (i,s.1,u) else (u,s.1,i)
def allAdds (fw:Bool):List St→Nat→List (Nat × Nat × Nat)
 | [],_=>[]
 | s :: r,i=>stAdds fw i s++allAdds fw r (i+1)
def grF (n:Nat) (A:List (Nat × Nat × Nat)):List (List (Nat × Nat)):=A.foldl addE (List.replicate n [])
def graphOf (fw:Bool) (S:List St):List (List (Nat × Nat)):=grF S.length (allAdds fw S 0)
theorem addE_len (g:List (List (Nat × Nat))) (a:Nat × Nat × Nat):(addE g a).length=g.length:=by unfold addE;simp
theorem foldl_addE_len (A:List (Nat × Nat × Nat)):∀ g:List (List (Nat × Nat)),(A.foldl addE g).length=g.length:=by
 induction A with
 | nil=>intro g;rfl
 | cons a A ih=>intro g;rw [List.foldl_cons,ih,addE_len]
theorem grF_len (n:Nat) (A:List (Nat × Nat × Nat)):(grF n A).length=n:=by unfold grF;rw [foldl_addE_len];simp
theorem grF_snoc (n:Nat) (A:List (Nat × Nat × Nat)) (a:Nat × Nat × Nat):grF n (A++[a])=addE (grF n A) a:=by unfold grF;rw [List.foldl_append];rfl
theorem addE_at {g:List (List (Nat × Nat))} {a:Nat × Nat × Nat} {i:Nat} {l:List (Nat × Nat)} (h:(addE g a)[i]?=some l):(i ≠ a.1∧g[i]?=some l)∨(i=a.1∧∃ l0,g[i]?=some l0∧l=l0++[a.2]):=by
 unfold addE at h
 rw [List.getElem?_modify] at h
 by_cases e:a.1=i
 ·right
  subst e
  simp at h
  obtain ⟨l0,h1,rfl⟩:=h
  exact ⟨rfl,_,h1,rfl⟩
 ·left
  refine ⟨fun e'=>e e'.symm,?_⟩
  cases hS:g[i]? with
  | none=>rw [hS] at h;simp at h
  | some x=>rw [hS] at h;simp [e] at h;rw [h]
theorem grF_row (n:Nat):∀ (B A:List (Nat × Nat × Nat)),A.reverse=B→∀ l ∈ grF n A,l.length≤A.length:=by
 intro B
 induction B with
 | nil =>
  intro A e l hl
  have:A=[]:=by simpa using e
  subst this
  unfold grF at hl
  simp at hl
  rw [hl.2];simp
 | cons b B ih =>
  intro A e l hl
  have:A=B.reverse++[b]:=by rw [← List.reverse_cons,← e];simp
  subst this
  rw [grF_snoc] at hl
  obtain ⟨i,hi⟩:=List.mem_iff_getElem?.1 hl
  have h0:=ih B.reverse (by simp)
  rcases addE_at hi with ⟨_,h1⟩ | ⟨_,l0,h1,rfl⟩
  ·have:=h0 l (List.mem_of_getElem? h1);simp at this ⊢;omega
  ·have:=h0 l0 (List.mem_of_getElem? h1);simp at this ⊢;omega
theorem grF_mem (n:Nat) (x:Nat) (hx:x<n) (e:Nat × Nat):∀ (B A:List (Nat × Nat × Nat)),A.reverse=B→(e ∈ grow (grF n A) x↔(x,e) ∈ A):=by
 intro B
 induction B with
 | nil =>
  intro A h
  have:A=[]:=by simpa using h
  subst this
  unfold grow grF
  simp [hx]
 | cons b B ih =>
  intro A h
  have:A=B.reverse++[b]:=by rw [← List.reverse_cons,← h];simp
  subst this
  have h0:=ih B.reverse (by simp)
  rw [grF_snoc,List.mem_append,← h0]
  have hl:x<(grF n B.reverse).length:=by rw [grF_len];exact hx
  have hl2:x<(addE (grF n B.reverse) b).length:=by rw [addE_len];exact hl
  have e1:grow (grF n B.reverse) x=(grF n B.reverse)[x]:=grow_at hl
  have e2:grow (addE (grF n B.reverse) b) x=(addE (grF n B.reverse) b)[x]:=grow_at hl2
  rw [e1,e2]
  rcases addE_at (List.getElem?_eq_getElem hl2) with ⟨h1,h2⟩ | ⟨h1,l0,h2,h3⟩
  ·rw [List.getElem?_eq_getElem hl] at h2
   simp at h2
   rw [← h2]
   constructor
   ·exact Or.inl
   ·rintro (h | h)
    ·exact h
    ·simp at h;exact absurd (congrArg Prod.fst h) h1
  ·rw [List.getElem?_eq_getElem hl] at h2
   simp at h2
   rw [h3,← h2,List.mem_append,List.mem_singleton,List.mem_singleton]
   constructor
   ·rintro (h | h)
    ·exact Or.inl h
    ·exact Or.inr (by rw [h1,h])
   ·rintro (h | h)
    ·exact Or.inl h
    ·exact Or.inr (by rw [← h])
theorem mem_allAdds (fw:Bool) (x:Nat × Nat × Nat):∀ (S:List St) (i:Nat),x ∈ allAdds fw S i↔∃ (j:Nat) (s:St),S[j]?=some s∧x ∈ stAdds fw (i+j) s:=by
 intro S
 induction S with
 | nil=>intro i;simp [allAdds]
 | cons s S ih =>
  intro i
  rw [allAdds,List.mem_append,ih]
  constructor
  ·rintro (h | ⟨j,s',h1,h2⟩)
   ·exact ⟨0,s,rfl,by simpa using h⟩
   ·exact ⟨j+1,s',by simpa using h1,by rw [show i+(j+1)=i+1+j from by omega];exact h2⟩
  ·rintro ⟨j,s',h1,h2⟩
   cases j with
   | zero=>simp at h1;subst h1;exact Or.inl (by simpa using h2)
   | succ j=>exact Or.inr ⟨j,s',by simpa using h1,by rw [show i+1+j=i+(j+1) from by omega];exact h2⟩
theorem allAdds_len (fw:Bool):∀ (S:List St) (i:Nat),(allAdds fw S i).length=tot S:=by
 intro S
 induction S with
 | nil=>intro i;rfl
 | cons s S ih=>intro i;rw [allAdds,List.length_append,ih];simp [stAdds,tot]
theorem allAdds_append (fw:Bool):∀ (S R:List St) (i:Nat),allAdds fw (S++R) i=allAdds fw S i++allAdds fw R (i+S.length):=by
 intro S
 induction S with
 | nil=>intro R i;rfl
 | cons s S ih=>intro R i;rw [List.cons_append,allAdds,allAdds,ih,List.append_assoc,List.length_cons,show i+1+S.length=i+(S.length+1) from by omega]
def preAdds (fw:Bool) (S:List St) (i j:Nat):List (Nat × Nat × Nat):=allAdds fw (S.take i) 0++((S[i]?).map fun s=>(stAdds fw i s).take j).getD []
theorem preAdds_start (fw:Bool) (S:List St) (i:Nat) (h:i<S.length):preAdds fw S i 0=allAdds fw (S.take i) 0:=by unfold preAdds;rw [List.getElem?_eq_getElem h];simp
theorem preAdds_next (fw:Bool) (S:List St) (i j:Nat) (hi:i<S.length) (hj:j<(S[i]'hi).2.length) :
  preAdds fw S i (j+1)=preAdds fw S i j++[if fw=true then (i,(S[i]'hi).1,(S[i]'hi).2[j]'hj) else ((S[i]'hi).2[j]'hj,(S[i]'hi).1,i)]:=by
 unfold preAdds
 rw [List.getElem?_eq_getElem hi]
 simp only [Option.map_some,Option.getD_some]
 rw [List.append_assoc,List.take_add_one]
 congr 2
 unfold stAdds
 rw [List.getElem?_map,List.getElem?_eq_getElem hj]
 rfl
theorem preAdds_end (fw:Bool) (S:List St) (i:Nat) (hi:i<S.length):preAdds fw S i (S[i]'hi).2.length=allAdds fw (S.take (i+1)) 0:=by
 unfold preAdds
 rw [List.getElem?_eq_getElem hi,List.take_add_one,List.getElem?_eq_getElem hi]
 simp only [Option.map_some,Option.getD_some,Option.toList_some]
 have e:(stAdds fw i (S[i]'hi)).take (S[i]'hi).2.length=stAdds fw i (S[i]'hi):=List.take_of_length_le (by simp [stAdds])
 rw [allAdds_append,e]
 congr 1
 rw [List.length_take,Nat.min_eq_left (Nat.le_of_lt hi),Nat.zero_add]
 simp [allAdds]
theorem tot_take (S:List St):∀ i,tot (S.take i)≤tot S:=by
 intro i
 have:tot S=tot (S.take i)+tot (S.drop i):=by
  unfold tot
  rw [← List.sum_append,← List.map_append,List.take_append_drop]
 omega
theorem tot_at (S:List St) (i:Nat) (hi:i<S.length):tot (S.take i)+(S[i]'hi).2.length≤tot S:=by
 have h:=tot_take S (i+1)
 have e:tot (S.take (i+1))=tot (S.take i)+(S[i]'hi).2.length:=by
  unfold tot
  rw [List.take_add_one,List.getElem?_eq_getElem hi,List.map_append,List.sum_append]
  simp
 omega
theorem preAdds_len (fw:Bool) (S:List St) (i j:Nat) (hi:i<S.length):(preAdds fw S i j).length≤tot S:=by
 unfold preAdds
 rw [List.getElem?_eq_getElem hi]
 have h:=tot_at S i hi
 simp only [Option.map_some,Option.getD_some,List.length_append,allAdds_len,List.length_take]
 have:(stAdds fw i (S[i]'hi)).length=(S[i]'hi).2.length:=by simp [stAdds]
 omega
structure SOk (S:List St):Prop where
 len:S.length≤9000
 tot_:tot S≤9000
 kind:∀ s ∈ S,s.1<256
 to_:∀ s ∈ S,∀ t ∈ s.2,t<S.length
theorem graph_len (fw:Bool) (S:List St):(graphOf fw S).length=S.length:=grF_len _ _
theorem graph_mem (fw:Bool) (S:List St) (x:Nat) (e:Nat × Nat) (hx:x<S.length):e ∈ grow (graphOf fw S) x↔∃ (j:Nat) (s:St),S[j]?=some s∧e.1=s.1∧(if fw=true then x=j∧e.2 ∈ s.2 else e.2=j∧x ∈ s.2):=by
 unfold graphOf
 rw [grF_mem _ _ hx e _ _ rfl,mem_allAdds]
 constructor
 ·rintro ⟨j,s,h1,h2⟩
  unfold stAdds at h2
  rw [List.mem_map] at h2
  obtain ⟨t,h3,h4⟩:=h2
  refine ⟨j,s,h1,?_⟩
  cases fw
  ·simp at h4;obtain ⟨rfl,rfl⟩:=h4;exact ⟨rfl,by simp [h3]⟩
  ·simp at h4;obtain ⟨rfl,rfl⟩:=h4;exact ⟨rfl,by simp [h3]⟩
 ·rintro ⟨j,s,h1,h2,h3⟩
  refine ⟨j,s,h1,?_⟩
  unfold stAdds
  rw [List.mem_map]
  cases fw
  ·simp at h3;exact ⟨x,h3.2,by simp;rw [← h3.1,← h2]⟩
  ·simp at h3;exact ⟨e.2,h3.2,by simp;rw [← h2];exact ⟨h3.1.symm,rfl⟩⟩
theorem graph_ok (fw:Bool) (S:List St) (h:SOk S):GOk (graphOf fw S):=by
 refine ⟨by rw [graph_len];exact h.len,fun l hl=>?_,?_⟩
 ·have:=grF_row S.length _ (allAdds fw S 0) rfl l hl
  rw [allAdds_len] at this
  have:=h.tot_;omega
 ·intro l hl e he
  obtain ⟨x,hx,rfl⟩:=List.mem_iff_getElem.1 hl
  rw [← grow_at hx] at he
  rw [graph_len] at hx
  obtain ⟨j,s,h1,h2,h3⟩:=(graph_mem fw S x e hx).1 he
  have hs:=List.mem_of_getElem? h1
  have hj:=(List.getElem?_eq_some_iff.1 h1).1
  refine ⟨?_,by rw [h2];exact h.kind s hs⟩
  rw [graph_len]
  cases fw
  ·simp at h3;omega
  ·simp at h3;exact h.to_ s hs _ h3.2
theorem Tryz.infoRowE:(Tryz.prog.info? 301).map (fun i=>(i.zero,i.size,i.bytes))=some (some (.slice none 0 0),1,24):=by kernel_rfl
theorem Tryz.undGraph:Tryz.prog.underlying 229=some (.slice 301):=by kernel_rfl
theorem made_one (v:Value) (n:Nat):(madeCells #[v] n).toList=List.replicate n v:=by
 unfold madeCells
 simp [Nat.mod_one]
 apply List.ext_getElem
 ·simp
 ·intro i h1 h2;simp
theorem make_graph (W:World) (n:Nat) (hn:n≤9000):(Instr.makeSlice 229 (.int .i64 n) (.int .i64 n)).run Tryz.prog W=.ok (.slice (some ⟨W.heap.size,0,none⟩) n n) (W.alloc (.cells (madeCells #[.slice none 0 0] n) 301)):=by
 obtain ⟨i,hi,hz0,hz1,hz2⟩:=info_parts Tryz.infoRowE
 have h:=run_make (P:=Tryz.prog) W 229 301 i (.slice none 0 0) Tryz.undGraph hi hz0 .i64 .i64 n n (by omega) (by omega) (by rw [hz2];omega) (by omega)
 rw [hz1] at h
 simpa [Value.cells] using h
theorem grow_made (W:World) (n:Nat) (hn:n≤9000):GRow (W.alloc (.cells (madeCells #[.slice none 0 0] n) 301)) W.heap.size (.slice (some ⟨W.heap.size,0,none⟩) n n) (List.replicate n []) (List.replicate n (.slice none 0 0)):=by
 refine ⟨by simp,⟨by simp,Or.inr ⟨W.heap.size,n,_,by simp,Nat.le_refl _,heap_alloc_new W _,by simp,by unfold maxLen;omega,by simp [size_madeCells],?_⟩⟩,?_,?_⟩
 ·rw [made_one];simp
 ·intro i u l hu hl
  rw [List.getElem?_replicate] at hu hl
  split at hu
  ·rw [if_pos (by assumption)] at hl;cases hu;cases hl;exact World.ownsRow_nil _ _ _ _
  ·cases hu
 ·intro i j u v k _ hu _ hk
  rw [List.getElem?_replicate] at hu
  split at hu
  ·cases hu;simp [Value.ownBlock] at hk
  ·cases hu
theorem two_new (w:World) (t y:Nat):∀ (j:Nat) (u:Value),[Value.int .u8 t,.int .i64 y][j]?=some u→(w.alloc (.cells #[.int .u8 t,.int .i64 y] 303)).drew.cell? ⟨w.heap.size,j,none⟩=some u:=fun j u hu=>cell_of_block (heap_alloc_new w _) j u (by simpa using hu)
theorem GRow.add {w w2:World} {base gB cap i:Nat} {t y:Nat} {u v:Value} {g:List (List (Nat × Nat))} {rv:List Value} (h:GRow w base (.slice (some ⟨gB,0,none⟩) g.length cap) g rv) (hi:i<g.length) (hu:rv[i]?=some u)
  (hrow:w2.ownsRow base 301 1 (.slice (some ⟨gB,0,none⟩) g.length cap) g.length (rv.set i v))
  (hk:∀ (k:Nat),some k ≠ u.ownBlock→(∃ cs,w.heap[k]?=some (.cells cs 303 (0,0)))→w2.heap[k]?=w.heap[k]?)
  (hv:w2.ownsRow base 303 2 v (g[i].length+1) (edCells g[i]++[.int .u8 t,.int .i64 y])) (hn:v.ownBlock=u.ownBlock∨∃ k,v.ownBlock=some k∧w.heap.size≤k) :
  GRow w2 base (.slice (some ⟨gB,0,none⟩) g.length cap) (addE g (i,t,y)) (rv.set i v):=by
 have hl:=h.len
 have at_:∀ (j:Nat) (x:Value),(rv.set i v)[j]?=some x→(j ≠ i∧rv[j]?=some x)∨(j=i∧x=v):=by
  intro j x hx
  by_cases e:j=i
  ·right;subst e;rw [List.getElem?_set_self (by omega)] at hx;simp at hx;exact ⟨rfl,hx.symm⟩
  ·left;rw [List.getElem?_set_ne (fun e'=>e e'.symm)] at hx;exact ⟨e,hx⟩
 have apv:∀ (j:Nat) (x:Value) (k:Nat),j ≠ i→rv[j]?=some x→x.ownBlock=some k→v.ownBlock ≠ some k:=by
  intro j x k hj hx hk' e
  rcases hn with hn | ⟨k',hn,hge⟩
  ·exact h.apart j i x u k hj hx hu hk' (by rw [← hn];exact e)
  ·have hjl:j<g.length:=by rw [← hl];exact (List.getElem?_eq_some_iff.1 hx).1
   have:=((h.to_ j x _ hx (List.getElem?_eq_getElem hjl)).lt k hk').2
   rw [hn] at e;simp at e;omega
 refine ⟨by rw [List.length_set,addE_len];exact hl,by rw [addE_len];exact hrow,?_,?_⟩
 ·intro j x l hx hj
  rcases addE_at hj with ⟨h1,h2⟩ | ⟨h1,l0,h2,rfl⟩
  ·rcases at_ j x hx with ⟨h3,h4⟩ | ⟨h3,h4⟩
   ·have h0:=h.to_ j x l h4 h2
    refine row_on h0 fun k hk'=>hk k (fun e=>?_) (row_type h0 k hk')
    exact h.apart j i x u k h3 h4 hu hk' e.symm
   ·exact absurd h3 h1
  ·simp only at h1
   subst h1
   rcases at_ j x hx with ⟨h3,h4⟩ | ⟨h3,rfl⟩
   ·exact absurd rfl h3
   ·rw [List.getElem?_eq_getElem hi] at h2
    simp at h2
    subst h2
    rw [edCells_snoc,List.length_append];exact hv
 ·intro j j' x x' k hjj hx hx' hk'
  rcases at_ j x hx with ⟨h3,h4⟩ | ⟨h3,rfl⟩
  ·rcases at_ j' x' hx' with ⟨h5,h6⟩ | ⟨h5,rfl⟩
   ·exact h.apart j j' x x' k hjj h4 h6 hk'
   ·exact apv j x k h3 h4 hk'
  ·rcases at_ j' x' hx' with ⟨h5,h6⟩ | ⟨h5,rfl⟩
   ·intro e;exact apv j' x' k h5 h6 e hk'
   ·exact absurd (h3.trans h5.symm) hjj
end Go.Proofs.YtodagkkjfipbgaaGreatDoor
