import Derived.Test.YtodagkkjfipbgaaGreatDoorT5toT7
namespace Go.Proofs.YtodagkkjfipbgaaGreatDoor
open Go.RowKit Go.Maps
theorem headCells_at:∀ (X:List Hd) (i:Nat) (x:Hd),(∀ y ∈ X,y.2.length=8)->X[i]?=some x->∀ o u,(headCell x)[o]?=some u->(headCells X)[i * 9+o]?=some u:=by
 intro X
 induction X with
 | nil=>intro i x _ h;simp at h
 | cons a X ih =>
  intro i x hr h o u hu
  have hla:(headCell a).length=9:=by unfold headCell;simp [hr a List.mem_cons_self]
  have e:headCells (a :: X)=headCell a++headCells X:=rfl
  cases i with
  | zero =>
   simp at h
   subst h
   rw [e,List.getElem?_append_left (by have:=(List.getElem?_eq_some_iff.1 hu).1;omega),show 0 * 9+o=o from by omega]
   exact hu
  | succ i =>
   rw [e,List.getElem?_append_right (by omega),hla,show (i+1) * 9+o - 9=i * 9+o from by omega]
   exact ih i x (fun r h=>hr r (List.mem_cons_of_mem _ h)) (by simpa using h) o u hu
structure LookH (w:World) (gO oO:Nat) (H:List Hd):Prop where
 ex:∃ vH,w.cell? ⟨gO,oO+1,none⟩=some vH/\w.ownsRow 0 246 9 vH H.length (headCells H)
 few:H.length<=1000000
 wide:∀ h ∈ H,h.2.length=8
theorem LookH.at {w:World} {gO oO:Nat} {H:List Hd} (h:LookH w gO oO H) {i:Nat} {x:Hd} (hx:H[i]?=some x) :
  ∃ q cap,w.cell? ⟨gO,oO+1,none⟩=some (.slice (some ⟨q,0,none⟩) H.length cap)/\w.cell? ⟨q,i * 9,none⟩=some (.int .i64 (x.1:Nat))/\∀ k n,x.2[k]?=some n->w.cell? ⟨q,i * 9+1+k,none⟩=some (.int .i64 (n:Nat)):=by
 obtain ⟨⟨vV,h1,h2⟩,_,h3⟩:=h
 have hi:=(List.getElem?_eq_some_iff.1 hx).1
 obtain ⟨ao,cap,rfl⟩:=row_shape h2
 have hv:=headCells_at H i x h3 hx
 have c1:(headCells H)[i * 9]?=some (.int .i64 (x.1:Nat)):=hv 0 _ rfl
 have c3:∀ k n,x.2[k]?=some n->(headCells H)[i * 9+1+k]?=some (.int .i64 (n:Nat)):=fun k n hk=>by
  rw [Nat.add_assoc]
  refine hv (1+k) _ ?_
  unfold headCell
  rw [show 1+k=k+1 from by omega,List.getElem?_cons_succ,List.getElem?_map,hk]
  rfl
 obtain ⟨q,hq,_,d1⟩:=row_at h2 c1 (by omega)
 subst hq
 refine ⟨q,cap,h1,d1,fun k n hk=>?_⟩
 have hl:=h3 x (List.mem_of_getElem? hx)
 have hk8:=(List.getElem?_eq_some_iff.1 hk).1
 obtain ⟨q3,hq3,_,d3⟩:=row_at h2 (c3 k n hk) (by omega)
 injection hq3 with hq3
 injection hq3 with hq3 _ _
 subst hq3
 exact d3
def Solid (o:Obj):Prop:=(∃ cs t m,o=.cells cs t m)\/∃ es c,o=.map es c
def KeepS (w w':World):Prop:=∀ (k:Nat) (o:Obj),w.heap[k]?=some o->Solid o->w'.heap[k]?=some o
theorem KeepS.below {w w':World} (h:Below w.heap.size w w'):KeepS w w':=fun k _ ho _=>(h.block k (heap_lt ho)).trans ho
theorem KeepS.trans {a b c:World} (h:KeepS a b) (k:KeepS b c):KeepS a c:=fun i o ho hs=>k i o (h i o ho hs) hs
theorem KeepS.cell {w w':World} (h:KeepS w w') {p:Addr} {v:Value} {cs:Array Value} {t:TypeId} {m:Nat × Nat} (hb:w.heap[p.block]?=some (.cells cs t m)) (hc:w.cell? p=some v):w'.cell? p=some v:=by
 have:=h _ _ hb (Or.inl ⟨_,_,_,rfl⟩)
 unfold World.cell? at hc ⊢
 rw [this]
 rw [hb] at hc
 exact hc
theorem KeepS.row {w w':World} (h:KeepS w w') {base n size:Nat} {e:TypeId} {v:Value} {us:List Value} (hr:w.ownsRow base e size v n us):w'.ownsRow base e size v n us:=by
 obtain ⟨h1,h2⟩:=hr
 refine ⟨h1,?_⟩
 rcases h2 with h2 | ⟨g,cap,cur,hv,hg,hh,r⟩
 ·exact Or.inl h2
 ·exact Or.inr ⟨g,cap,cur,hv,hg,h _ _ hh (Or.inl ⟨_,_,_,rfl⟩),r⟩
structure Look (w:World) (gO oO:Nat) (H:List Hd) (V:List Vw):Prop where
 v:LookV w gO oO V
 h:LookH w gO oO H
 blk:∃ cs,w.heap[gO]?=some (.cells cs 99 (0,0))
theorem Look.keep {w w':World} {gO oO:Nat} {H:List Hd} {V:List Vw} (h:Look w gO oO H V) (hk:∀ (k:Nat) (cs:Array Value) (t:TypeId),t ≠ 330->t ≠ 271->w.heap[k]?=some (.cells cs t (0,0))->w'.heap[k]?=some (.cells cs t (0,0))):Look w' gO oO H V:=by
 obtain ⟨hv,⟨⟨vH,h1,h2⟩,h3,h4⟩,cs,hg⟩:=h
 have hg':=hk gO cs _ (by decide) (by decide) hg
 have hc:∀ o,w'.cell? ⟨gO,o,none⟩=w.cell? ⟨gO,o,none⟩:=fun o=>by unfold World.cell?;rw [hg,hg']
 refine ⟨hv.keep hk (hc _),⟨⟨vH,(hc _).trans h1,?_⟩,h3,h4⟩,cs,hg'⟩
 obtain ⟨h5,h6⟩:=h2
 refine ⟨h5,?_⟩
 rcases h6 with h6 | ⟨g,cap,cur,hv',hg',hh,r⟩
 ·exact Or.inl h6
 ·exact Or.inr ⟨g,cap,cur,hv',hg',hk _ _ _ (by decide) (by decide) hh,r⟩
theorem Look.keepS {w w':World} {gO oO:Nat} {H:List Hd} {V:List Vw} (h:Look w gO oO H V) (hk:KeepS w w'):Look w' gO oO H V:=h.keep fun k _ _ _ _ hh=>hk k _ hh (Or.inl ⟨_,_,_,rfl⟩)
theorem ranges_keep {P:Program} {k:TypeId} {R:Value->Option (DataW Unit × List MemPlace)} {w w':World} {b r n:Nat} {D:DataW Unit} {left:Lit->Bool} {cnt:Nat} (h:w.ranges P k R b r n D left cnt) (hb:w'.heap[b]?=w.heap[b]?) (hr:w'.heap[r]?=w.heap[r]?):w'.ranges P k R b r n D left cnt:=by
 obtain ⟨es,clock,since,seen,c0,h1,F,hs,hD,hi,rest⟩:=h
 exact ⟨es,clock,since,seen,c0,hb.trans h1,F,hs,hD,hr.trans hi,rest⟩
theorem ranges_iter {P:Program} {k:TypeId} {R:Value->Option (DataW Unit × List MemPlace)} {w:World} {b r n:Nat} {D:DataW Unit} {left:Lit->Bool} {cnt:Nat} (h:w.ranges P k R b r n D left cnt):(∃ a b c d,w.heap[r]?=some (.mapIter a b c d))/\∃ es ck,w.heap[b]?=some (.map es ck):=by
 obtain ⟨es,clock,since,seen,c0,h1,F,hs,hD,hi,rest⟩:=h
 exact ⟨⟨_,_,_,_,hi⟩,_,_,h1⟩
structure TSt (w0 wx:World) (b gO oO:Nat) (H:List Hd) (V:List Vw) (hd:Nat) (fi la bg:Value) (m1 m2:Nat) (ns:List Nd) (f:Nd->Nd) (g2:Nat->List Nat):Prop where
 blk:wx.heap[b]?=some (.cells (WatC gO oO (.int .i64 hd) m2 m2 fi la bg) 271 (0,0))
 seq:SeqIn wx (ns.map f)
 gd:∃ D2,GD wx m2 V.length D2 g2
 lk:Look wx gO oO H V
 chg:Chg (fun k=>(∃ x ∈ ns,x.p=k)\/k=m1\/k=m2\/k=b) w0 wx
theorem TSt.keep {w0 wx w':World} {b gO oO:Nat} {H:List Hd} {V:List Vw} {hd:Nat} {fi la bg:Value} {m1 m2:Nat} {ns:List Nd} {f:Nd->Nd} {g2:Nat->List Nat} (h:TSt w0 wx b gO oO H V hd fi la bg m1 m2 ns f g2) (hk:KeepS wx w') (hc:Chg (fun k=>(∃ x ∈ ns,x.p=k)\/k=m1\/k=m2\/k=b) w0 w'):TSt w0 w' b gO oO H V hd fi la bg m1 m2 ns f g2:=by
 obtain ⟨D2,hD⟩:=h.gd
 refine ⟨hk _ _ h.blk (Or.inl ⟨_,_,_,rfl⟩),fun i x hx=>hk _ _ (h.seq i x hx) (Or.inl ⟨_,_,_,rfl⟩),⟨D2,hD.keep ?_⟩,h.lk.keepS hk,hc⟩
 obtain ⟨es,ck,hm⟩:=hD.blk
 rw [hm]
 exact hk _ _ hm (Or.inr ⟨_,_,rfl⟩)
theorem TSt.below {w0 wx w':World} {b gO oO:Nat} {H:List Hd} {V:List Vw} {hd:Nat} {fi la bg:Value} {m1 m2:Nat} {ns:List Nd} {f:Nd->Nd} {g2:Nat->List Nat} (h:TSt w0 wx b gO oO H V hd fi la bg m1 m2 ns f g2) (hb:Below wx.heap.size wx w'):TSt w0 w' b gO oO H V hd fi la bg m1 m2 ns f g2:=h.keep (KeepS.below hb) (h.chg.trans (Chg.of_below hb))
theorem map_p {f:Nd->Nd} (hf:∀ x,(f x).p=x.p) {ns:List Nd} {k:Nat}:(∃ x ∈ ns.map f,x.p=k)↔∃ x ∈ ns,x.p=k:=by
 constructor
 ·rintro ⟨x,hx,rfl⟩
  obtain ⟨y,hy,rfl⟩:=List.mem_map.1 hx
  exact ⟨y,hy,(hf y).symm⟩
 ·rintro ⟨x,hx,rfl⟩
  exact ⟨f x,List.mem_map.2 ⟨x,hx,rfl⟩,hf x⟩
theorem TSt.stood {w0 wx w':World} {b gO oO:Nat} {H:List Hd} {V:List Vw} {hd:Nat} {fi la bg:Value} {m1 m2:Nat} {ns:List Nd} {f f':Nd->Nd} {g2 g2':Nat->List Nat} {D':DataW Unit} (h:TSt w0 wx b gO oO H V hd fi la bg m1 m2 ns f g2) (hf:∀ x,(f x).p=x.p) (hc:Chg (fun k=>(∃ x ∈ ns.map f,x.p=k)\/k=m2) wx w') (hs:SeqIn w' (ns.map f')) (hg:GD w' m2 V.length D' g2') :
  TSt w0 w' b gO oO H V hd fi la bg m1 m2 ns f' g2':=by
 obtain ⟨D2,hD⟩:=h.gd
 obtain ⟨es,ck,hm⟩:=hD.blk
 have hk:∀ (k:Nat) (cs:Array Value) (t:TypeId),t ≠ 330->wx.heap[k]?=some (.cells cs t (0,0))->w'.heap[k]?=some (.cells cs t (0,0)):=fun k cs t ht hh=>by
  rw [hc.block k (heap_lt hh) ?_]
  ·exact hh
  ·rintro (h1 | rfl)
   ·exact not_place h.seq hh ht h1
   ·rw [hm] at hh;cases hh
 refine ⟨hk _ _ _ (by decide) h.blk,hs,⟨D',hg⟩,h.lk.keep fun k cs t h1 _ hh=>hk k cs t h1 hh,h.chg.trans (hc.mono fun k _ hh=>?_)⟩
 rcases hh with h1 | h1
 ·exact Or.inl ((map_p hf).1 h1)
 ·exact Or.inr (Or.inr (Or.inl h1))
theorem stood_other {wx w':World} {ns:List Nd} {m2 k:Nat} (hS:SeqIn wx ns) (hc:Chg (fun k=>(∃ x ∈ ns,x.p=k)\/k=m2) wx w') (h2:k ≠ m2) (hk:k<wx.heap.size) (hne:∀ cs t m,wx.heap[k]? ≠ some (.cells cs t m)):w'.heap[k]?=wx.heap[k]?:=by
 refine hc.block k hk ?_
 rintro (⟨x,hx,rfl⟩ | h1)
 ·obtain ⟨i,hi⟩:=List.mem_iff_getElem?.1 hx
  exact hne _ _ _ (hS i x hi)
 ·exact h2 h1
theorem clear_map {w:World} {m:Nat} {es:Array MapEntry} {ck:Nat} (hm:w.heap[m]?=some (.map es ck)):∃ w',(∀ ty,(Builtin.clear_ #[268] ty #[.map (some m)]).run Tryz.prog w=.ok (.tuple #[]) w')/\w'.heap[m]?=some (.map #[] ck)/\Chg (fun k=>k=m) w w':=by
 refine ⟨{ w with heap:=w.heap.setIfInBounds m (.map #[] ck) },fun ty=>by simp [Builtin.clear_,run_underlying Tryz.undGr,MapKept.run_getObj_map hm,MapKept.run_setObj_map _ hm,Result.andThen],?_,⟨rfl,rfl,rfl,by simp,fun k hk hne=>?_⟩⟩
 ·show (w.heap.setIfInBounds m _)[m]?=_
  rw [Array.getElem?_setIfInBounds,if_pos rfl,if_pos (heap_lt hm)]
 ·show (w.heap.setIfInBounds m _)[k]?=_
  rw [Array.getElem?_setIfInBounds,if_neg (fun e=>hne e.symm)]
def nxV (V:List Vw) (k v:Nat):Nat:=((V[v]?).bind fun x=>x.2.2[k]?).getD 0
def cutV (V:List Vw) (v:Nat):Bool:=((V[v]?).map fun x=>x.1).getD false
def stlV (V:List Vw) (v:Nat):Bool:=((V[v]?).map fun x=>x.2.1).getD false
structure WOk (w:World) (b gO oO:Nat) (H:List Hd) (V:List Vw) (hd:Nat) (ns:List Nd) (g:Nat->List Nat) (bg m1 m2:Nat):Prop where
 blk:∃ la,w.heap[b]?=some (.cells (WatC gO oO (.int .i64 hd) m1 m2 (ptrP (firstP ns)) (ptrP la) (.int .i64 bg)) 271 (0,0))/\(ns ≠ []->la=lastP ns)
 seq:SeqIn w ns
 gr:Grps ns g
 gd:∃ D,GD w m1 V.length D g
 sp:∃ D,GD w m2 V.length D (fun _=>[])
 ne:m1 ≠ m2
 lk:Look w gO oO H V
 op:∀ v,g v ≠ []->stlV V v=false
def Abs (ns:List Nd) (g:Nat->List Nat) (A:List (Nat × (Nat ⊕ Bool))):Prop:=A.length=ns.length/\∀ (i:Nat) (x:Nd) (a:Nat × (Nat ⊕ Bool)),ns[i]?=some x->A[i]?=some a->a.1=x.size/\match a.2 with
 | .inl v=>x.st=none/\x.p ∈ g v
 | .inr c=>x.st=some c
def stG (cut stl:Nat->Bool) (size v:Nat):Nat × (Nat ⊕ Bool):=(size,if stl v then .inr (cut v) else .inl v)
def mvG (nx:Nat->Nat) (cut stl:Nat->Bool) (a:Nat × (Nat ⊕ Bool)):Nat × (Nat ⊕ Bool):=match a.2 with
 | .inl v=>stG cut stl a.1 (nx v)
 | .inr _=>a
def stA (V:List Vw) (size v:Nat):Nat × (Nat ⊕ Bool):=stG (cutV V) (stlV V) size v
def mvA (V:List Vw) (k:Nat) (a:Nat × (Nat ⊕ Bool)):Nat × (Nat ⊕ Bool):=mvG (nxV V k) (cutV V) (stlV V) a
theorem sameKey_nat (x v:Nat):(Lit.int .i64 (x:Int)).sameKey (.int .i64 (v:Int))=decide (x=v):=by
 by_cases e:x=v
 ·subst e
  rw [WideAt.sameKey_self (show WideAt.IsKeyLit (.int .i64 (x:Int)) from trivial)]
  simp
 ·rw [sameKey_ne (fun e'=>e (by injection e' with _ e';exact_mod_cast e'))]
  simp [e]
theorem Moving.grps {ns:List Nd} {g:Nat->List Nat} {nx:Nat->Nat} {cut stl lf:Nat->Bool} {f:Nd->Nd} {g2:Nat->List Nat} (h:Moving ns g nx cut stl lf f g2) (hG:Grps ns g) (hl:∀ v,lf v=false):Grps (ns.map f) g2:=by
 refine ⟨hG.ap.map h.fp,h.ch,h.nd,fun v v' p h1 h2=>?_,fun x hx hst=>?_⟩
 ·obtain ⟨a,_,a2,a3,_⟩:=(h.mem v p).1 h1
  obtain ⟨b,_,b2,b3,_⟩:=(h.mem v' p).1 h2
  rw [<- a3,<- b3,hG.dis a b p a2 b2]
 ·obtain ⟨y,hy,rfl⟩:=List.mem_map.1 hx
  have hys:y.st=none:=by
   cases hs:y.st with
   | none=>rfl
   | some c=>rw [h.done y hy c hs] at hst;cases hst
  obtain ⟨v,hv⟩:=hG.all y hy hys
  have h2:=h.gone y hy v hv (hl v)
  rw [hst] at h2
  refine ⟨nx v,(h.mem _ _).2 ⟨v,hl v,by rw [h.fp];exact hv,rfl,?_⟩⟩
  cases hs:stl (nx v) with
  | false=>rfl
  | true=>rw [hs] at h2;simp at h2
theorem Moving.abs {ns:List Nd} {g:Nat->List Nat} {nx:Nat->Nat} {cut stl lf:Nat->Bool} {f:Nd->Nd} {g2:Nat->List Nat} (h:Moving ns g nx cut stl lf f g2) (hl:∀ v,lf v=false) {A:List (Nat × (Nat ⊕ Bool))} (hA:Abs ns g A):Abs (ns.map f) g2 (A.map (mvG nx cut stl)):=by
 obtain ⟨h1,h2⟩:=hA
 refine ⟨by simp [h1],fun i x a hx ha=>?_⟩
 rw [List.getElem?_map] at hx ha
 obtain ⟨y,hy,rfl⟩:=Option.map_eq_some_iff.1 hx
 obtain ⟨c,hc,rfl⟩:=Option.map_eq_some_iff.1 ha
 obtain ⟨e1,e2⟩:=h2 i y c hy hc
 have hym:=List.mem_of_getElem? hy
 obtain ⟨sz,s⟩:=c
 cases s with
 | inl v =>
  simp only at e1 e2
  have hg:=h.gone y hym v e2.2 (hl v)
  unfold mvG stG
  simp only
  refine ⟨by rw [h.fs];exact e1,?_⟩
  cases hs:stl (nx v) with
  | true =>
   rw [hs] at hg
   simp only [if_true] at hg ⊢
   exact hg
  | false =>
   rw [hs] at hg
   simp only [Bool.false_eq_true,if_false] at hg ⊢
   exact ⟨hg,(h.mem _ _).2 ⟨v,hl v,by rw [h.fp];exact e2.2,rfl,hs⟩⟩
 | inr c =>
  simp only at e1 e2
  unfold mvG
  simp only
  exact ⟨by rw [h.fs];exact e1,h.done y hym c e2⟩
theorem Moving.open {ns:List Nd} {g:Nat->List Nat} {nx:Nat->Nat} {cut stl lf:Nat->Bool} {f:Nd->Nd} {g2:Nat->List Nat} (h:Moving ns g nx cut stl lf f g2) (v:Nat) (hv:g2 v ≠ []):stl v=false:=by
 obtain ⟨p,hp⟩:=List.exists_mem_of_ne_nil _ hv
 obtain ⟨_,_,_,_,h4⟩:=(h.mem v p).1 hp
 exact h4
theorem moving_new {ns:List Nd} {g:Nat->List Nat} {p size N at_:Nat} {cut stl:Nat->Bool} (hG:Grps ns g) (hp:∀ x ∈ ns,x.p<p) (hN:g N=[]) (hop:∀ v,g v ≠ []->stl v=false) :
  Grps (ns++[⟨p,size,none,none⟩]) (updG g N [p])/\Moving (ns++[⟨p,size,none,none⟩]) (updG g N [p]) (fun v=>if v=N then at_ else v) cut stl (fun v=>decide (v=N)) id g:=by
 have sub:∀ c,ChainOk ns c->ChainOk (ns++[⟨p,size,none,none⟩]) c:=fun c hc i q hq=>by
  obtain ⟨x,hx,h⟩:=hc i q hq
  exact ⟨x,List.mem_append_left _ hx,h⟩
 have hnp:∀ v,¬ p ∈ g v:=fun v hv=>by
  obtain ⟨x,hx,e,_⟩:=(hG.ch v).mem hv
  have:=hp x hx
  omega
 have hap:Apart (ns++[⟨p,size,none,none⟩]):=by
  intro i j x y hx hy e
  rcases snoc_at hx with ⟨h1,_⟩ | ⟨h1,rfl⟩
  ·rcases snoc_at hy with ⟨g1,_⟩ | ⟨g1,rfl⟩
   ·exact hG.ap i j x y h1 g1 e
   ·have:=hp x (List.mem_of_getElem? h1);simp only at e;omega
  ·rcases snoc_at hy with ⟨g1,_⟩ | ⟨g1,rfl⟩
   ·have:=hp y (List.mem_of_getElem? g1);simp only at e;omega
   ·omega
 have hone:ChainOk (ns++[⟨p,size,none,none⟩]) [p]:=by
  intro i q hq
  rcases i with _ | i
  ·simp at hq
   subst hq
   exact ⟨_,List.mem_append_right _ (List.mem_singleton.2 rfl),rfl,rfl,rfl⟩
  ·simp at hq
 refine ⟨⟨hap,fun v=>?_,fun v=>?_,fun v v' q h1 h2=>?_,fun x hx hst=>?_⟩,⟨fun _=>rfl,fun _=>rfl,fun _ _ _ h=>h,fun _ _ _ _ _=>rfl,fun x hx v hv hl=>?_,fun v=>?_,hG.nd,fun v' q=>?_⟩⟩
 ·unfold updG
  split
  ·exact hone
  ·exact sub _ (hG.ch v)
 ·unfold updG
  split
  ·simp
  ·exact hG.nd v
 ·unfold updG at h1 h2
  by_cases e1:v=N
  ·by_cases e2:v'=N
   ·rw [e1,e2]
   ·rw [if_pos e1] at h1
    rw [if_neg e2] at h2
    simp at h1
    subst h1
    exact (hnp v' h2).elim
  ·by_cases e2:v'=N
   ·rw [if_neg e1] at h1
    rw [if_pos e2] at h2
    simp at h2
    subst h2
    exact (hnp v h1).elim
   ·rw [if_neg e1] at h1
    rw [if_neg e2] at h2
    exact hG.dis v v' q h1 h2
 ·rcases List.mem_append.1 hx with h | h
  ·obtain ⟨v,hv⟩:=hG.all x h hst
   refine ⟨v,?_⟩
   unfold updG
   rw [if_neg (fun e=>by rw [e,hN] at hv;simp at hv)]
   exact hv
  ·simp at h
   subst h
   exact ⟨N,by unfold updG;rw [if_pos rfl];simp⟩
 ·have hne:v ≠ N:=by simpa using hl
  unfold updG at hv
  rw [if_neg hne] at hv
  rw [if_neg hne,hop v (fun e=>by rw [e] at hv;simp at hv)]
  obtain ⟨y,hy,e1,e2⟩:=(hG.ch v).mem hv
  rw [hap.eq hx (List.mem_append_left _ hy) e1.symm]
  exact e2
 ·rw [List.map_id]
  exact sub _ (hG.ch v)
 ·constructor
  ·intro h
   have hne:v' ≠ N:=fun e=>by rw [e,hN] at h;simp at h
   refine ⟨v',by simpa using hne,by unfold updG;rw [if_neg hne];exact h,by rw [if_neg hne],hop v' (fun e=>by rw [e] at h;simp at h)⟩
  ·rintro ⟨v,h1,h2,h3,_⟩
   have hne:v ≠ N:=by simpa using h1
   rw [if_neg hne] at h3
   unfold updG at h2
   rw [if_neg hne] at h2
   rw [<- h3]
   exact h2
theorem abs_new {ns:List Nd} {g:Nat->List Nat} {p size N:Nat} (hN:g N=[]) {A:List (Nat × (Nat ⊕ Bool))} (hA:Abs ns g A):Abs (ns++[⟨p,size,none,none⟩]) (updG g N [p]) (A++[(size,.inl N)]):=by
 obtain ⟨h1,h2⟩:=hA
 refine ⟨by simp [h1],fun i x a hx ha=>?_⟩
 rcases snoc_at hx with ⟨e1,_⟩ | ⟨e1,rfl⟩
 ·rcases snoc_at ha with ⟨e2,_⟩ | ⟨e2,rfl⟩
  ·have h3:=h2 i x a e1 e2
   refine ⟨h3.1,?_⟩
   obtain ⟨sz,s⟩:=a
   cases s with
   | inl v =>
    simp only at h3 ⊢
    refine ⟨h3.2.1,?_⟩
    unfold updG
    rw [if_neg (fun e=>by have:=h3.2.2;rw [e,hN] at this;simp at this)]
    exact h3.2.2
   | inr c=>exact h3.2
  ·have:=(List.getElem?_eq_some_iff.1 e1).1
   omega
 ·rcases snoc_at ha with ⟨e2,_⟩ | ⟨e2,rfl⟩
  ·have:=(List.getElem?_eq_some_iff.1 e2).1
   omega
  ·refine ⟨rfl,rfl,?_⟩
   unfold updG
   rw [if_pos rfl]
   simp
theorem mv_same {ns:List Nd} {g:Nat->List Nat} {N at_:Nat} {cut stl:Nat->Bool} (hN:g N=[]) (hop:∀ v,g v ≠ []->stl v=false) {A:List (Nat × (Nat ⊕ Bool))} (hA:Abs ns g A):A.map (mvG (fun v=>if v=N then at_ else v) cut stl)=A:=by
 conv=>rhs;rw [<- List.map_id A]
 refine List.map_congr_left fun a ha=>?_
 obtain ⟨i,hi⟩:=List.mem_iff_getElem?.1 ha
 have hil:=(List.getElem?_eq_some_iff.1 hi).1
 have h3:=hA.2 i (ns[i]'(by rw [<- hA.1];exact hil)) a (List.getElem?_eq_getElem _) hi
 obtain ⟨sz,s⟩:=a
 cases s with
 | inl v =>
  simp only at h3
  have hne:g v ≠ []:=fun e=>by rw [e] at h3;simp at h3
  have hvN:v ≠ N:=fun e=>hne (by rw [e];exact hN)
  unfold mvG stG
  simp only [if_neg hvN,hop v hne]
  rfl
 | inr c=>rfl
end Go.Proofs.YtodagkkjfipbgaaGreatDoor
