import Derived.Test.YtodagkkjfipbgaaGreatDoorN12lone
namespace Go.Proofs.YtodagkkjfipbgaaGreatDoor
open Go.RowKit Go.Maps
abbrev Vw:=Bool × Bool × List Nat
def viewCell (v:Vw):List Value:=.bool v.1 :: .bool v.2.1 :: v.2.2.map fun (n:Nat)=>Value.int .i64 (n:Int)
def viewCells (V:List Vw):List Value:=V.flatMap viewCell
theorem viewCells_snoc (V:List Vw) (v:Vw):viewCells (V++[v])=viewCells V++viewCell v:=by unfold viewCells;simp
theorem viewCell_one (v:Vw):∀ u ∈ viewCell v,u.oneCell'=true:=by
 intro u hu
 unfold viewCell at hu
 simp only [List.mem_cons,List.mem_map] at hu
 rcases hu with rfl | rfl | ⟨n,_,rfl⟩ <;> rfl
theorem viewCell_set (c t:Bool) (l:List Nat) (k n:Nat):(viewCell (c,t,l)).toArray.setIfInBounds (2+k) (.int .i64 n)=(viewCell (c,t,l.set k n)).toArray:=by
 unfold viewCell
 rw [List.setIfInBounds_toArray,Nat.add_comm 2 k,List.set_cons_succ,List.set_cons_succ,List.map_set]
theorem viewCell_at {v:Vw} {j u:Nat} (hv:v.2.2[j]?=some u):(viewCell v)[2+j]?=some (.int .i64 (u:Nat)):=by
 unfold viewCell
 rw [Nat.add_comm,List.getElem?_cons_succ,List.getElem?_cons_succ,List.getElem?_map,hv]
 rfl
def ViewOk (J:AJ) (ks:List Nat) (K:List Spt) (x:Spt) (v:Vw):Prop:=v.2.2.length=8/\v.1=cutsA J x/\∀ k ∈ ks,∃ n,v.2.2[k]?=some n/\K[n]?=some (nextA J x k)
theorem ViewOk.more {J:AJ} {ks:List Nat} {K K':List Spt} {x:Spt} {v:Vw} (h:ViewOk J ks K x v) (hK:K <+: K'):ViewOk J ks K' x v :=
 ⟨h.1,h.2.1,fun k hk=>by obtain ⟨n,h1,h2⟩:=h.2.2 k hk;exact ⟨n,h1,at_prefix hK h2⟩⟩
def ViewsOk (J:AJ) (ks:List Nat) (K:List Spt) (V:List Vw):Prop:=∀ (i:Nat) (v:Vw),V[i]?=some v->∃ x,K[i]?=some x/\ViewOk J ks K x v
theorem ViewsOk.more {J:AJ} {ks:List Nat} {K K':List Spt} {V:List Vw} (h:ViewsOk J ks K V) (hK:K <+: K'):ViewsOk J ks K' V:=fun i v hi=>by
 obtain ⟨x,h1,h2⟩:=h i v hi
 exact ⟨x,at_prefix hK h1,h2.more hK⟩
theorem ViewsOk.snoc {J:AJ} {ks:List Nat} {K:List Spt} {V:List Vw} {x:Spt} {v:Vw} (h:ViewsOk J ks K V) (hx:K[V.length]?=some x) (h1:ViewOk J ks K x v):ViewsOk J ks K (V++[v]):=fun i g hi=>by
 rcases snoc_at hi with ⟨h2,_⟩ | ⟨h2,rfl⟩
 ·exact h i g h2
 ·exact ⟨x,by rw [h2];exact hx,h1⟩
structure LOn (base:Nat) (w:World) (q o:Nat) (J:AJ) (vs:List (Value × Value)) (vJ:Value) (ks:List Nat) (vP:Value) (K:List Spt) (aoK:Option Addr) (capK:Nat) (moK:Option Nat) (H:List Hd) (vH:Value) (V:List Vw) (aoV:Option Addr) (capV:Nat):Prop where
 fk:FInK base w q K aoK capK moK
 aj:AIn 0 w vJ J vs
 ps:w.ownsRow 0 169 1 vP ks.length (kCells ks)
 hd:w.ownsRow base 246 9 vH H.length (headCells H)
 vw:w.ownsRow base 254 10 (.slice aoV V.length capV) V.length (viewCells V)
 ob:w.heap[o]?=some (.cells #[vP,vH,.slice aoV V.length capV] 95 (0,0))
theorem LOn.below {base q o:Nat} {w w':World} {J:AJ} {vs:List (Value × Value)} {vJ:Value} {ks:List Nat} {vP:Value} {K:List Spt} {aoK:Option Addr} {capK:Nat} {moK:Option Nat} {H:List Hd} {vH:Value} {V:List Vw} {aoV:Option Addr} {capV:Nat} (h:LOn base w q o J vs vJ ks vP K aoK capK moK H vH V aoV capV) (hb:Below w.heap.size w w'):LOn base w' q o J vs vJ ks vP K aoK capK moK H vH V aoV capV :=
 ⟨h.fk.below hb,h.aj.below hb,row_kp h.ps (Kp.below hb),row_kp h.hd (Kp.below hb),row_kp h.vw (Kp.below hb),(hb.block o (heap_lt h.ob)).trans h.ob⟩
theorem LOn.findK {base q o:Nat} {w w':World} {J:AJ} {vs:List (Value × Value)} {vJ:Value} {ks:List Nat} {vP:Value} {K:List Spt} {aoK:Option Addr} {capK:Nat} {moK:Option Nat} {H:List Hd} {vH:Value} {V:List Vw} {aoV:Option Addr} {capV:Nat} {K':List Spt} {ao':Option Addr} {cap':Nat} {mo':Option Nat} (h:LOn base w q o J vs vJ ks vP K aoK capK moK H vH V aoV capV) (hf:FInK base w' q K' ao' cap' mo') (hc:Chg (AtK q K.length aoK capK moK) w w'):LOn base w' q o J vs vJ ks vP K' ao' cap' mo' H vH V aoV capV :=
 ⟨hf,h.aj.kp (h.fk.kp hc (by decide) (by decide)) (h.fk.kp hc (by decide) (by decide)),row_kp h.ps (h.fk.kp hc (by decide) (by decide)),row_kp h.hd (h.fk.kp hc (by decide) (by decide)),row_kp h.vw (h.fk.kp hc (by decide) (by decide)),h.fk.kp hc (by decide) (by decide) _ _ _ h.ob⟩
theorem LOn.setView {base q o:Nat} {w:World} {J:AJ} {vs:List (Value × Value)} {vJ:Value} {ks:List Nat} {vP:Value} {K:List Spt} {aoK:Option Addr} {capK:Nat} {moK:Option Nat} {H:List Hd} {vH:Value} {V:List Vw} {aoV:Option Addr} {capV:Nat} {lb f:Nat} {cs:Array Value} (h:LOn base w q o J vs vJ ks vP K aoK capK moK H vH V aoV capV) (hl:w.heap[lb]?=some (.cells cs 254 (0,0))) (hn:∀ k,(Value.slice aoV V.length capV).ownBlock=some k->k ≠ lb) (u:Value):LOn base (w.setCell ⟨lb,f,none⟩ u) q o J vs vJ ks vP K aoK capK moK H vH V aoV capV :=
 ⟨h.fk.set_ hl (by decide) (by decide) u,h.aj.kp ((Kp.refl _ _).setCell hl (by decide) u) ((Kp.refl _ _).setCell hl (by decide) u),row_kp h.ps ((Kp.refl _ _).setCell hl (by decide) u),row_kp h.hd ((Kp.refl _ _).setCell hl (by decide) u),row_setN h.vw hn u,(Kp.refl _ _).setCell hl (by decide) u _ _ _ h.ob⟩
theorem LOn.push {base q o:Nat} {w w':World} {J:AJ} {vs:List (Value × Value)} {vJ:Value} {ks:List Nat} {vP:Value} {K:List Spt} {aoK:Option Addr} {capK:Nat} {moK:Option Nat} {H:List Hd} {vH:Value} {V:List Vw} {aoV:Option Addr} {capV:Nat} {ao':Option Addr} {cap':Nat} {v0:Vw} (h:LOn base w q o J vs vJ ks vP K aoK capK moK H vH V aoV capV) (hg:w.grownBy w' (Value.slice aoV V.length capV).ownBlock) (hr:w'.ownsRow base 254 10 (.slice ao' (V.length+1) cap') (V.length+1) (viewCells V++viewCell v0)) :
  LOn base (w'.setCell ⟨o,2,none⟩ (.slice ao' (V.length+1) cap')) q o J vs vJ ks vP K aoK capK moK H vH (V++[v0]) ao' cap':=by
 have ob':=kept_grown h.ob (Kp.refl _ _) h.vw hg (by decide)
 have hbl:∀ k,(∀ cs t m,w.heap[k]?=some (.cells cs t m)->t ≠ 254/\t ≠ 95)->k<w.heap.size->(w'.setCell ⟨o,2,none⟩ (.slice ao' (V.length+1) cap')).heap[k]?=w.heap[k]?:=fun k hk hlt=>by
  rw [setCell_type (fun e=>by subst e;exact (hk _ _ _ h.ob).2 rfl),hg.block k hlt (fun e=>by obtain ⟨cs',hh⟩:=row_type h.vw k e.symm;exact (hk _ _ _ hh).1 rfl)]
 have kp:∀ t:TypeId,t ≠ 254->t ≠ 95->Kp t w (w'.setCell ⟨o,2,none⟩ (.slice ao' (V.length+1) cap')):=fun t h1 h2 k cs m hh=>by
  rw [hbl k (fun cs' t' m' hh'=>by rw [hh] at hh';cases hh';exact ⟨h1,h2⟩) (heap_lt hh)];exact hh
 refine ⟨h.fk.chg fun k hk hu=>hbl k (fun cs t m hh=>?_) hk,h.aj.kp (kp _ (by decide) (by decide)) (kp _ (by decide) (by decide)),row_kp h.ps (kp _ (by decide) (by decide)),row_kp h.hd (kp _ (by decide) (by decide)),?_,?_⟩
 ·rcases hu with e | e | e
  ·subst e;rw [h.fk.blk] at hh;cases hh;decide
  ·obtain ⟨cs',hk⟩:=row_type h.fk.row k e;rw [hk] at hh;cases hh;decide
  ·exact ((h.fk.lt e).2.2 _ _ _ hh).elim
 ·rw [List.length_append,viewCells_snoc];exact row_kp hr ((Kp.refl _ _).setCell ob' (by decide) _)
 ·rw [List.length_append];exact (block_setCell ob' 2 _).trans rfl
theorem Tryz.infoVw:(Tryz.prog.info? 254).map (fun i=>(i.zero,i.size,i.bytes))=some (some (.agg #[.bool false,.bool false,.int .i64 0,.int .i64 0,.int .i64 0,.int .i64 0,.int .i64 0,.int .i64 0,.int .i64 0,.int .i64 0]),10,72):=by kernel_rfl
theorem Tryz.undVw:Tryz.prog.underlying 93=some (.slice 254):=by kernel_rfl
theorem view_new (w:World) (c t:Bool) (l:List Nat) (j:Nat) (u:Value) (hu:(viewCell (c,t,l))[j]?=some u):(w.alloc (.cells (viewCell (c,t,l)).toArray 254)).drew.cell? ⟨w.heap.size,j,none⟩=some u:=cell_of_block (w:=(w.alloc _).drew) (heap_alloc_new w _) j u ((List.getElem?_toArray ..).trans hu)
theorem FInK.cells {base p cap i:Nat} {w:World} {X:List Spt} {ao:Option Addr} {mo:Option Nat} (h:FInK base w p X ao cap mo) {b:Bool} {xp xq xr xs:Nat} (hx:X[i]?=some (b,[xp,xq,xr,xs])):∃ g,ao=some ⟨g,0,none⟩/\w.cell? ⟨g,i * 5,none⟩=some (.bool b)/\w.cell? ⟨g,i * 5+1,none⟩=some (.int .i64 (xp:Nat))/\w.cell? ⟨g,i * 5+2,none⟩=some (.int .i64 (xq:Nat))/\w.cell? ⟨g,i * 5+3,none⟩=some (.int .i64 (xr:Nat))/\w.cell? ⟨g,i * 5+4,none⟩=some (.int .i64 (xs:Nat)):=by
 have hlt:=(List.getElem?_eq_some_iff.1 hx).1
 have hat:=sptCells_at X i _ (fun y hy=>(h.ok y hy).len) hx
 obtain ⟨g,hg,_,e0⟩:=row_at h.row (hat 0 _ rfl) (by omega)
 obtain ⟨g1,hg1,_,e1⟩:=row_at h.row (hat 1 _ rfl) (by omega)
 obtain ⟨g2,hg2,_,e2⟩:=row_at h.row (hat 2 _ rfl) (by omega)
 obtain ⟨g3,hg3,_,e3⟩:=row_at h.row (hat 3 _ rfl) (by omega)
 obtain ⟨g4,hg4,_,e4⟩:=row_at h.row (hat 4 _ rfl) (by omega)
 rw [hg] at hg1 hg2 hg3 hg4
 simp at hg1 hg2 hg3 hg4
 subst hg1;subst hg2;subst hg3;subst hg4
 exact ⟨g,hg,e0,e1,e2,e3,e4⟩
def OnPost (base q o:Nat) (J:AJ) (vs:List (Value × Value)) (vJ:Value) (ks:List Nat) (vP:Value) (K0:List Spt) (H:List Hd) (vH:Value) (w:World) (r:Ending) (w':World):Prop :=
 r=.returned (.tuple #[])/\∃ (K:List Spt) (aoK:Option Addr) (capK:Nat) (moK:Option Nat) (V:List Vw) (aoV:Option Addr) (capV:Nat),LOn base w' q o J vs vJ ks vP K aoK capK moK H vH V aoV capV/\ViewsOk J ks K V/\V.length=K.length/\K0 <+: K/\(∀ x ∈ K,KnownOk J x)/\(∀ v ∈ V,v.2.1=false)/\Below base w w'
set_option maxRecDepth 100000 in
set_option maxHeartbeats 4000000 in
theorem lookOn_any (base q o:Nat) (J:AJ) (vs:List (Value × Value)) (vJ:Value) (ks:List Nat) (vP:Value) (K0:List Spt) (aoK0:Option Addr) (capK0:Nat) (moK0:Option Nat) (H:List Hd) (vH:Value) (w:World) (hJ:J.length<=4) (hks:∀ k ∈ ks,k<8) (hkl:ks.length<=8) (hL0:LOn base w q o J vs vJ ks vP K0 aoK0 capK0 moK0 H vH [] none 0) (hK0:∀ x ∈ K0,KnownOk J x) (hbase:base<=w.heap.size) (hqb:base<=q) (hob:base<=o) :
  Calls Tryz.prog 85 #[.pointer (some ⟨o,0,none⟩),vJ,.pointer (some ⟨q,0,none⟩)] w (OnPost base q o J vs vJ ks vP K0 H vH w):=by
 obtain ⟨aoJ,capJ,rfl,_⟩:=hL0.aj.form
 obtain ⟨aoP,capP,rfl⟩:=row_shape hL0.ps
 obtain ⟨aoH,capH,rfl⟩:=row_shape hL0.hd
 have HJ:Hid (∀ r ∈ J,ARuleOk r):=hL0.aj.ok
 have HKS:Hid (∀ k ∈ ks,k<8):=hks
 have L0:Hid (LOn base w q o J vs (.slice aoJ J.length capJ) ks (.slice aoP ks.length capP) K0 aoK0 capK0 moK0 H (.slice aoH H.length capH) [] none 0):=hL0
 have A0:Hid (∀ x ∈ K0,KnownOk J x):=hK0
 clear hL0 hks hK0
 go_enter Tryz.func85,Tryz.ntmps85
 go_wp2_with fail
 go_loopg [6] 320001 (fun gh iv wx=>∃ (i:Nat) (K:List Spt) (aoK:Option Addr) (capK:Nat) (moK:Option Nat) (V:List Vw) (aoV:Option Addr) (capV:Nat),gh+i=320001/\i<=K.length/\iv=.int .i64 i/\Hid (V.length=i)/\Hid (LOn base wx q o J vs (.slice aoJ J.length capJ) ks (.slice aoP ks.length capP) K aoK capK moK H (.slice aoH H.length capH) V aoV capV)/\Hid (ViewsOk J ks K V)/\Hid (K0 <+: K)/\Hid (∀ x ∈ K,KnownOk J x)/\Hid (∀ v ∈ V,v.2.1=false)/\Hid (Below base w wx))
 case atStart=>exact ⟨0,K0,aoK0,capK0,moK0,[],none,0,rfl,Nat.zero_le _,rfl,(rfl:([]:List Vw).length=0),L0,(fun i h hi=>by simp at hi),List.prefix_refl _,A0,(fun v hv=>by simp at hv),Below.refl _ _⟩
 case round =>
  obtain ⟨i,K,aoK,capK,moK,V,aoV,capV,hgh,hi,rfl,hVl,hL,hVO,hKp,hKO,hVF,hB⟩:=hrel
  obtain ⟨w2,hw2⟩:∃ w2,w2=wr:=⟨wr,rfl⟩
  subst hw2
  clear L0 A0
  have hKl:=few4' hL.out.fk.nodup hL.out.fk.ok
  have hs2:=hB.out.size
  have c0:w2.cell? ⟨q,0,none⟩=some (.slice aoK K.length capK):=cell_of_block hL.out.fk.blk 0 _ rfl
  by_cases hlt:i<K.length
  ·obtain ⟨x,hx⟩:∃ x,K[i]?=some x:=⟨K[i],List.getElem?_eq_getElem hlt⟩
   have HPx:Hid (KnownOk J x):=hKO.out x (List.mem_of_getElem? hx)
   obtain ⟨xb,xl⟩:=x
   obtain ⟨xp,xq,xr,xs,e⟩:=Go.Proofs.YtodagkkjfipbgaaGreatDoor.four HPx.out.len
   simp only at e
   subst e
   have HX:Hid (K[i]?=some (xb,[xp,xq,xr,xs])):=hx
   obtain ⟨g,hg,e0,e1,e2,e3,e4⟩:=hL.out.fk.cells hx
   subst hg
   clear hx
   go_wp2_with fail
   refine (cuts_any w2 _ J vs (xb,[xp,xq,xr,xs]) hL.out.aj hJ HPx.out).mono ?_
   rintro r w3 ⟨rfl,hb3⟩
   obtain ⟨cb,hcb⟩:∃ cb,cb=cutsA J (xb,[xp,xq,xr,xs]):=⟨_,rfl⟩
   rw [<- hcb]
   have HCB:Hid (cb=cutsA J (xb,[xp,xq,xr,xs])):=hcb
   obtain ⟨W3,hW3⟩:∃ W3,W3=w3.alloc (.cells #[.bool cb,.bool false,.int .i64 0,.int .i64 0,.int .i64 0,.int .i64 0,.int .i64 0,.int .i64 0,.int .i64 0,.int .i64 0] 254):=⟨_,rfl⟩
   have HW3:Hid (W3=w3.alloc (.cells #[.bool cb,.bool false,.int .i64 0,.int .i64 0,.int .i64 0,.int .i64 0,.int .i64 0,.int .i64 0,.int .i64 0,.int .i64 0] 254)):=hW3
   have hs3:=hb3.size
   have hb3':Below w2.heap.size w2 W3:=by rw [hW3];exact hb3.alloc hs3 _
   have hz3:W3.heap.size=w3.heap.size+1:=by rw [hW3];simp
   have L3:Hid (LOn base W3 q o J vs (.slice aoJ J.length capJ) ks (.slice aoP ks.length capP) K (some ⟨g,0,none⟩) capK moK H (.slice aoH H.length capH) V aoV capV):=hL.out.below hb3'
   have H3:Hid (W3.heap[w3.heap.size]?=some (.cells (viewCell (cb,false,zero8)).toArray 254 (0,0))):=by rw [hW3];exact heap_alloc_new w3 _
   have B3:Hid (Below base w W3):=hB.out.trans (hb3'.mono (by omega))
   have HNE:Hid (∀ k,(Value.slice aoV V.length capV).ownBlock=some k->k ≠ w3.heap.size):=fun k e=>by have:=(hL.out.vw.lt k e).2;omega
   have o0:W3.cell? ⟨o,0,none⟩=some (.slice aoP ks.length capP):=cell_of_block L3.out.ob 0 _ rfl
   have o0':=o0
   rw [HW3.out] at o0'
   clear hcb hb3 hb3' hW3
   go_wp2_with fail
   rw [<- HW3.out]
   go_loopg [34] ks.length (fun gh jv wx=>∃ (j:Nat) (K':List Spt) (aoK':Option Addr) (capK':Nat) (moK':Option Nat) (nl:List Nat),j<=ks.length/\gh=ks.length - j/\jv=.int .i64 j/\Hid (LOn base wx q o J vs (.slice aoJ J.length capJ) ks (.slice aoP ks.length capP) K' aoK' capK' moK' H (.slice aoH H.length capH) V aoV capV)/\Hid (wx.heap[w3.heap.size]?=some (.cells (viewCell (cb,false,nl)).toArray 254 (0,0)))/\Hid (nl.length=8/\K <+: K'/\(∀ y ∈ K',KnownOk J y)/\∀ t k,t<j->ks[t]?=some k->∃ n,nl[k]?=some n/\K'[n]?=some (nextA J (xb,[xp,xq,xr,xs]) k))/\Hid (Below base w wx))
   case atStart=>exact ⟨0,K,some ⟨g,0,none⟩,capK,moK,zero8,Nat.zero_le _,rfl,rfl,L3,H3,⟨rfl,List.prefix_refl _,hKO.out,fun t k ht=>absurd ht (Nat.not_lt_zero _)⟩,B3⟩
   case round =>
    obtain ⟨j,K',aoK',capK',moK',nl,hj,rfl,rfl,hL4,hH4,hI4,hB4⟩:=hrel
    obtain ⟨w4,hw4⟩:∃ w4,w4=wr:=⟨wr,rfl⟩
    subst hw4
    clear L3 H3 B3 o0 o0' e0 e1 e2 e3 e4 c0
    have hsb4:=hB4.out.size
    have hlt':i<K'.length:=Nat.lt_of_lt_of_le hlt hI4.out.2.1.length_le
    have hKl':=few4' hL4.out.fk.nodup hL4.out.fk.ok
    by_cases hjl:j<ks.length
    ·obtain ⟨k,hk⟩:∃ k,ks[j]?=some k:=⟨ks[j],List.getElem?_eq_getElem hjl⟩
     have hk8:k<8:=HKS.out k (List.mem_of_getElem? hk)
     have hk8':(k:Int)<8:=by omega
     obtain ⟨gP,hgP,_,kc⟩:=row_at hL4.out.ps (kCells_at hk) (by omega)
     subst hgP
     have HKJ:Hid (ks[j]?=some k):=hk
     obtain ⟨g',hg',e0,e1,e2,e3,e4⟩:=hL4.out.fk.cells (at_prefix hI4.out.2.1 HX.out)
     subst hg'
     have c0:w4.cell? ⟨q,0,none⟩=some (.slice (some ⟨g',0,none⟩) K'.length capK'):=cell_of_block hL4.out.fk.blk 0 _ rfl
     clear hk
     go_wp2_with fail
     refine (next_any w4 _ J vs (xb,[xp,xq,xr,xs]) k hL4.out.aj hJ HPx.out hk8).mono ?_
     rintro r w5 ⟨rfl,hb5⟩
     have SO:Hid (KnownOk J (nextA J (xb,[xp,xq,xr,xs]) k)):=next_ok HJ.out HPx.out k
     have L5:Hid (LOn base w5 q o J vs (.slice aoJ J.length capJ) ks (.slice (some ⟨gP,0,none⟩) ks.length capP) K' (some ⟨g',0,none⟩) capK' moK' H (.slice aoH H.length capH) V aoV capV):=hL4.out.below hb5
     have H5:Hid (w5.heap[w3.heap.size]?=some (.cells (viewCell (cb,false,nl)).toArray 254 (0,0))):=(hb5.block _ (heap_lt hH4.out)).trans hH4.out
     have B5:Hid (Below base w w5):=hB4.out.trans (hb5.mono (by omega))
     have hs5:=hb5.size
     clear hb5 e0 e1 e2 e3 e4
     go_wp2_with fail
     refine (findK_any base q K' (some ⟨g',0,none⟩) capK' moK' _ w5 L5.out.fk SO.out.four hqb (by omega)).mono ?_
     rintro r w6 ⟨n,K6,ao6,cap6,mo6,rfl,hF6,hfd6,hm6,hw6,hC6⟩
     have L6:Hid (LOn base w6 q o J vs (.slice aoJ J.length capJ) ks (.slice (some ⟨gP,0,none⟩) ks.length capP) K6 ao6 cap6 mo6 H (.slice aoH H.length capH) V aoV capV):=L5.out.findK hF6 hC6
     have h6:=L5.out.fk.kp hC6 (t:=254) (by decide) (by decide) _ _ _ H5.out
     have H6:Hid (w6.heap[w3.heap.size]?=some (.cells (viewCell (cb,false,nl)).toArray 254 (0,0))):=h6
     have B6:Hid (Below base w w6):=B5.out.trans (hC6.below (by omega) fun k hk e=>by
      rcases e with e | e | e
      ·omega
      ·have:=(L5.out.fk.row.lt k e).1;omega
      ·have:=(L5.out.fk.lt e).2.1;omega)
     have I6:Hid ((nl.set k n).length=8/\K <+: K6/\(∀ y ∈ K6,KnownOk J y)/\∀ t k',t<j+1->ks[t]?=some k'->∃ n',(nl.set k n)[k']?=some n'/\K6[n']?=some (nextA J (xb,[xp,xq,xr,xs]) k')):=by
      refine ⟨by rw [List.length_set];exact hI4.out.1,hI4.out.2.1.trans hfd6.pre.1,hfd6.all hI4.out.2.2.1 SO.out,fun t k' ht hk'=>?_⟩
      by_cases ek:k'=k
      ·subst ek
       exact ⟨n,List.getElem?_set_self (by rw [hI4.out.1];exact hk8),hfd6.pre.2⟩
      ·have htj:t<j:=by
        rcases Nat.lt_or_ge t j with h | h
        ·exact h
        ·have e:t=j:=by omega
         subst e;rw [HKJ.out] at hk';cases hk';exact absurd rfl ek
       obtain ⟨n',h1,h2⟩:=hI4.out.2.2.2 t k' htj hk'
       exact ⟨n',by rw [List.getElem?_set_ne (fun e=>ek e.symm)];exact h1,at_prefix hfd6.pre.1 h2⟩
     obtain ⟨u,hu⟩:∃ u,nl[k]?=some u:=⟨nl[k]'(by have:=hI4.out.1;omega),List.getElem?_eq_getElem _⟩
     have t0:=cell_of_block h6 (2+k) _ ((List.getElem?_toArray ..).trans (viewCell_at (v:=(cb,false,nl)) hu))
     have tf:=free_of_block h6 (2+k)
     clear hF6 hfd6 hm6 hw6 hC6 h6 hu
     go_wp2_with fail
     go_roundg (ks.length - (j+1))
     case measure=>omega
     case rel =>
      refine ⟨j+1,K6,ao6,cap6,mo6,nl.set k n,by omega,rfl,by go_num,L6.out.setView H6.out HNE.out _,?_,I6,B6.out.setCell (by show base<=w3.heap.size;omega) _⟩
      show _=_
      rw [<- viewCell_set];exact block_setCell H6.out _ _
    ·have hj8:j=ks.length:=by omega
     obtain ⟨n0,n1,n2,n3,n4,n5,n6,n7,en⟩:=eight hI4.out.1
     subst en
     have HO:Hid (ViewOk J ks K' (xb,[xp,xq,xr,xs]) (cb,false,[n0,n1,n2,n3,n4,n5,n6,n7])):=⟨rfl,HCB.out,fun k hk=>by obtain ⟨t,ht⟩:=List.mem_iff_getElem?.1 hk;exact hI4.out.2.2.2 t k (by rw [hj8];exact (List.getElem?_eq_some_iff.1 ht).1) ht⟩
     have q0:=cell_of_block hH4.out 0 _ rfl
     have q1:=cell_of_block hH4.out 1 _ rfl
     have q2:=cell_of_block hH4.out 2 _ rfl
     have q3:=cell_of_block hH4.out 3 _ rfl
     have q4:=cell_of_block hH4.out 4 _ rfl
     have q5:=cell_of_block hH4.out 5 _ rfl
     have q6:=cell_of_block hH4.out 6 _ rfl
     have q7:=cell_of_block hH4.out 7 _ rfl
     have q8:=cell_of_block hH4.out 8 _ rfl
     have q9:=cell_of_block hH4.out 9 _ rfl
     have o1:w4.cell? ⟨o,2,none⟩=some (.slice aoV V.length capV):=cell_of_block hL4.out.ob 2 _ rfl
     have hVn2:V.length<=320000:=by have:=hVl.out;omega
     have o1':=fun ob=>((below_alloc w4 ob).cell (p:=⟨o,2,none⟩) (heap_lt hL4.out.ob)).trans o1
     have L5:Hid (LOn base (w4.alloc (.cells (viewCell (cb,false,[n0,n1,n2,n3,n4,n5,n6,n7])).toArray 254)).drew q o J vs (.slice aoJ J.length capJ) ks (.slice aoP ks.length capP) K' aoK' capK' moK' H (.slice aoH H.length capH) V aoV capV):=hL4.out.below (below_alloc w4 _).drew
     have B5:Hid (Below base w (w4.alloc (.cells (viewCell (cb,false,[n0,n1,n2,n3,n4,n5,n6,n7])).toArray 254)).drew):=(hB4.out.alloc (by omega) _).drew
     go_wp2_with fail
     go_region_law (first
      | (refine step_push2 rfl (.tmp 58) (.tmp 60) 93 rfl base 254 (.agg #[.bool false,.bool false,.int .i64 0,.int .i64 0,.int .i64 0,.int .i64 0,.int .i64 0,.int .i64 0,.int .i64 0,.int .i64 0]) 10 72 Tryz.infoVw Tryz.undVw rfl (by decide) (.slice aoV V.length capV) V.length (viewCells V) (by simp [Act.eval]) L5.out.vw w4.heap.size 1 (viewCell (cb,false,[n0,n1,n2,n3,n4,n5,n6,n7])) (by simp [Act.eval]) rfl (view_new w4 cb false [n0,n1,n2,n3,n4,n5,n6,n7]) (viewCell_one _) (by omega) (by omega) (by simp;omega) ?_
         intro v' W6 hown hgr hsn
         obtain ⟨ao',cap',rfl⟩:=row_shape hown
         have HR:Hid (W6.ownsRow base 254 10 (.slice ao' (V.length+1) cap') (V.length+1) (viewCells V++viewCell (cb,false,[n0,n1,n2,n3,n4,n5,n6,n7]))):=hown
         have HG:Hid ((w4.alloc (.cells (viewCell (cb,false,[n0,n1,n2,n3,n4,n5,n6,n7])).toArray 254)).drew.grownBy W6 (Value.slice aoV V.length capV).ownBlock):=hgr
         have hq3:=kept_grown L5.out.ob (Kp.refl _ _) L5.out.vw hgr (by decide)
         have i0:=cell_of_block hq3 2 _ rfl
         have if0:=free_of_block hq3
         clear hown hgr hsn hq3))
     all_goals go_wp2_with fail
     all_goals go_roundg (320001 - (i+1))
     all_goals first
      | (case measure=>omega)
      | exact ⟨i+1,K',aoK',capK',moK',V++[(cb,false,[n0,n1,n2,n3,n4,n5,n6,n7])],ao',cap',by omega,hlt',by go_num,by show _=_;rw [List.length_append,hVl.out];rfl,L5.out.push HG.out HR.out,(hVO.out.more hI4.out.2.1).snoc (by rw [hVl.out];exact at_prefix hI4.out.2.1 HX.out) HO.out,hKp.out.trans hI4.out.2.1,hI4.out.2.2.1,(fun v hv=>by
        rw [List.mem_append] at hv
        rcases hv with hv | hv
        ·exact hVF.out v hv
        ·simp at hv;rw [hv]),(B5.out.grown HG.out (by simp;omega) (fun k hk=>(L5.out.vw.lt k hk).1)).setCell (by show base<=o;omega) _⟩
  ·go_wp2_with fail
   go_end0
   exact ⟨rfl,K,aoK,capK,moK,V,aoV,capV,hL.out,hVO.out,by rw [hVl.out];omega,hKp.out,hKO.out,hVF.out,hB.out⟩
theorem viewCells_at:∀ (V:List Vw) (i:Nat) (v:Vw),(∀ y ∈ V,y.2.2.length=8)->V[i]?=some v->∀ o u,(viewCell v)[o]?=some u->(viewCells V)[i * 10+o]?=some u:=by
 intro X
 induction X with
 | nil=>intro i x _ h;simp at h
 | cons a X ih =>
  intro i x hr h o u hu
  have hla:(viewCell a).length=10:=by unfold viewCell;simp [hr a List.mem_cons_self]
  have e:viewCells (a :: X)=viewCell a++viewCells X:=rfl
  have ho:=(List.getElem?_eq_some_iff.1 hu).1
  cases i with
  | zero =>
   simp at h
   subst h
   rw [e,List.getElem?_append_left (by omega),show 0 * 10+o=o from by omega]
   exact hu
  | succ i =>
   have hlx:(viewCell x).length=10:=by unfold viewCell;simp [hr x (List.mem_cons_of_mem _ (List.mem_of_getElem? (by simpa using h)))]
   have:=ih i x (fun r h=>hr r (List.mem_cons_of_mem _ h)) (by simpa using h) o u hu
   rw [e,List.getElem?_append_right (by omega),hla,show (i+1) * 10+o - 10=i * 10+o from by omega]
   exact this
def VGood (ks:List Nat) (V:List Vw):Prop:=∀ v ∈ V,v.2.2.length=8/\∀ k ∈ ks,∃ n,v.2.2[k]?=some n/\n<V.length
def plainV (V:List Vw):List (Bool × List Nat):=V.map fun v=>(v.1,v.2.2)
structure SRw (w:World) (base:Nat) (v:Value) (g:List (List Nat)) (rv:List Value):Prop where
 len:rv.length=g.length
 row:w.ownsRow base 33 1 v g.length rv
 to_:∀ (i:Nat) (u:Value) (l:List Nat),rv[i]?=some u->g[i]?=some l->w.ownsRow base 3 1 u l.length (intCells l)
 apart:∀ (i j:Nat) (u v:Value) (k:Nat),i ≠ j->rv[i]?=some u->rv[j]?=some v->u.ownBlock=some k->v.ownBlock ≠ some k
theorem SRw.kpa {w w':World} {base:Nat} {v:Value} {g:List (List Nat)} {rv:List Value} (h:SRw w base v g rv) (hk:KpA w w'):SRw w' base v g rv :=
 ⟨h.len,row_kp h.row (hk.kp _),fun i u l hu hl=>row_kp (h.to_ i u l hu hl) (hk.kp _),h.apart⟩
theorem Tryz.infoRowI:(Tryz.prog.info? 33).map (fun i=>(i.zero,i.size,i.bytes))=some (some (.slice none 0 0),1,24):=by kernel_rfl
theorem Tryz.infoI:(Tryz.prog.info? 3).map (fun i=>(i.zero,i.size,i.bytes))=some (some (.int .i64 0),1,8):=by kernel_rfl
theorem Tryz.undRowII:Tryz.prog.underlying 256=some (.slice 33):=by kernel_rfl
theorem Tryz.undRowI:Tryz.prog.underlying 33=some (.slice 3):=by kernel_rfl
theorem make_src (W:World) (n:Nat) (hn:n<=320000):(Instr.makeSlice 256 (.int .i64 n) (.int .i64 n)).run Tryz.prog W=.ok (.slice (some ⟨W.heap.size,0,none⟩) n n) (W.alloc (.cells (madeCells #[.slice none 0 0] n) 33)):=by
 obtain ⟨i,hi,hz0,hz1,hz2⟩:=info_parts Tryz.infoRowI
 have h:=run_make (P:=Tryz.prog) W 256 33 i (.slice none 0 0) Tryz.undRowII hi hz0 .i64 .i64 n n (by omega) (by omega) (by rw [hz2];omega) (by omega)
 rw [hz1] at h
 simpa [Value.cells] using h
theorem src_made (W:World) (n:Nat) (hn:n<=320000):SRw (W.alloc (.cells (madeCells #[.slice none 0 0] n) 33)) W.heap.size (.slice (some ⟨W.heap.size,0,none⟩) n n) (List.replicate n []) (List.replicate n (.slice none 0 0)):=by
 refine ⟨by simp,⟨by simp,Or.inr ⟨W.heap.size,n,_,by simp,Nat.le_refl _,heap_alloc_new W _,by simp,by unfold maxLen;omega,by simp [size_madeCells],?_⟩⟩,?_,?_⟩
 ·rw [made_one];simp
 ·intro i u l hu hl
  rw [List.getElem?_replicate] at hu hl
  split at hu
  ·rw [if_pos (by assumption)] at hl;cases hu;cases hl;exact World.ownsRow_nil _ _ _ _
  ·cases hu
 ·intro i j u v k _ hu _ hk
  rw [List.getElem?_replicate] at hu
  split at hu
  ·cases hu;simp [Value.ownBlock] at hk
  ·cases hu
def addI (g:List (List Nat)) (i x:Nat):List (List Nat):=g.modify i (·++[x])
theorem addI_len (g:List (List Nat)) (i x:Nat):(addI g i x).length=g.length:=by unfold addI;simp
theorem addI_at {g:List (List Nat)} {i x j:Nat} {l:List Nat} (h:(addI g i x)[j]?=some l):(j ≠ i/\g[j]?=some l)\/(j=i/\∃ l0,g[j]?=some l0/\l=l0++[x]):=by
 unfold addI at h
 rw [List.getElem?_modify] at h
 by_cases e:i=j
 ·right
  subst e
  simp at h
  obtain ⟨l0,h1,rfl⟩:=h
  exact ⟨rfl,_,h1,rfl⟩
 ·left
  refine ⟨fun e'=>e e'.symm,?_⟩
  cases hS:g[j]? with
  | none=>rw [hS] at h;simp at h
  | some x=>rw [hS] at h;simp [e] at h;rw [h]
theorem SRw.add {w w2:World} {base gB cap i x:Nat} {u v:Value} {g:List (List Nat)} {rv:List Value} (h:SRw w base (.slice (some ⟨gB,0,none⟩) g.length cap) g rv) (hi:i<g.length) (hu:rv[i]?=some u)
  (hrow:w2.ownsRow base 33 1 (.slice (some ⟨gB,0,none⟩) g.length cap) g.length (rv.set i v))
  (hk:∀ (k:Nat),some k ≠ u.ownBlock->(∃ cs,w.heap[k]?=some (.cells cs 3 (0,0)))->w2.heap[k]?=w.heap[k]?)
  (hv:w2.ownsRow base 3 1 v (g[i].length+1) (intCells g[i]++[.int .i64 (x:Nat)])) (hn:v.ownBlock=u.ownBlock\/∃ k,v.ownBlock=some k/\w.heap.size<=k) :
  SRw w2 base (.slice (some ⟨gB,0,none⟩) g.length cap) (addI g i x) (rv.set i v):=by
 have hl:=h.len
 have at_:∀ (j:Nat) (x:Value),(rv.set i v)[j]?=some x->(j ≠ i/\rv[j]?=some x)\/(j=i/\x=v):=by
  intro j x hx
  by_cases e:j=i
  ·right;subst e;rw [List.getElem?_set_self (by omega)] at hx;simp at hx;exact ⟨rfl,hx.symm⟩
  ·left;rw [List.getElem?_set_ne (fun e'=>e e'.symm)] at hx;exact ⟨e,hx⟩
 have apv:∀ (j:Nat) (x:Value) (k:Nat),j ≠ i->rv[j]?=some x->x.ownBlock=some k->v.ownBlock ≠ some k:=by
  intro j x k hj hx hk' e
  rcases hn with hn | ⟨k',hn,hge⟩
  ·exact h.apart j i x u k hj hx hu hk' (by rw [<- hn];exact e)
  ·have hjl:j<g.length:=by rw [<- hl];exact (List.getElem?_eq_some_iff.1 hx).1
   have:=((h.to_ j x _ hx (List.getElem?_eq_getElem hjl)).lt k hk').2
   rw [hn] at e;simp at e;omega
 refine ⟨by rw [List.length_set,addI_len];exact hl,by rw [addI_len];exact hrow,?_,?_⟩
 ·intro j z l hz hj
  rcases addI_at hj with ⟨h1,h2⟩ | ⟨h1,l0,h2,rfl⟩
  ·rcases at_ j z hz with ⟨h3,h4⟩ | ⟨h3,h4⟩
   ·have h0:=h.to_ j z l h4 h2
    refine row_on h0 fun k hk'=>hk k (fun e=>?_) (row_type h0 k hk')
    exact h.apart j i z u k h3 h4 hu hk' e.symm
   ·exact absurd h3 h1
  ·subst h1
   rcases at_ j z hz with ⟨h3,h4⟩ | ⟨h3,rfl⟩
   ·exact absurd rfl h3
   ·rw [List.getElem?_eq_getElem hi] at h2
    simp at h2
    subst h2
    rw [List.length_append]
    have e:intCells (g[j]++[x])=intCells g[j]++[.int .i64 (x:Nat)]:=by unfold intCells;simp
    rw [e];exact hv
 ·intro j j' x x' k hjj hx hx' hk'
  rcases at_ j x hx with ⟨h3,h4⟩ | ⟨h3,rfl⟩
  ·rcases at_ j' x' hx' with ⟨h5,h6⟩ | ⟨h5,rfl⟩
   ·exact h.apart j j' x x' k hjj h4 h6 hk'
   ·exact apv j x k h3 h4 hk'
  ·rcases at_ j' x' hx' with ⟨h5,h6⟩ | ⟨h5,rfl⟩
   ·intro e;exact apv j' x' k h5 h6 e hk'
   ·exact absurd (h3.trans h5.symm) hjj
theorem SRw.cell {w:World} {base gB cap n i:Nat} {g:List (List Nat)} {rv:List Value} (h:SRw w base (.slice (some ⟨gB,0,none⟩) n cap) g rv) (hn:g.length=n) (hi:i<n) :
  ∃ ao c,rv[i]?=some (.slice ao (g[i]'(by omega)).length c)/\w.cell? ⟨gB,i,none⟩=some (.slice ao (g[i]'(by omega)).length c)/\w.ownsRow base 3 1 (.slice ao (g[i]'(by omega)).length c) (g[i]'(by omega)).length (intCells (g[i]'(by omega)))/\∃ cur,w.heap[gB]?=some (.cells cur 33 (0,0)):=by
 have hl:=h.len
 obtain ⟨u,hu⟩:∃ u,rv[i]?=some u:=⟨rv[i]'(by omega),List.getElem?_eq_getElem (by omega)⟩
 have h0:=h.to_ i u _ hu (List.getElem?_eq_getElem (by omega))
 obtain ⟨ao,c,rfl⟩:=row_shape h0
 obtain ⟨ao',cap',e,hf⟩:=row1_form h.row
 injection e with e1 e2 e3
 obtain ⟨g',e4,_,hc⟩:=hf i _ hu (by omega)
 rw [e4] at e1
 cases e1
 obtain ⟨cur,hcur⟩:=row_type h.row gB rfl
 exact ⟨ao,c,hu,hc,h0,cur,hcur⟩
theorem addI_fin {w w':World} {base gB n i x:Nat} {l:List Nat} {ao ao':Option Addr} {c c':Nat} {g:List (List Nat)} {rv:List Value} {o:Obj} (hg:SRw w base (.slice (some ⟨gB,0,none⟩) n n) g rv) (hn:g.length=n) (hi:i<n) (hl:g[i]?=some l) (hu:rv[i]?=some (.slice ao l.length c))
  (hrow:w.ownsRow base 3 1 (.slice ao l.length c) l.length (intCells l)) (hgr:(w.alloc o).drew.grownBy w' (Value.ownBlock (.slice ao l.length c)))
  (hown:w'.ownsRow base 3 1 (.slice ao' (l.length+1) c') (l.length+1) (intCells l++[.int .i64 (x:Nat)])) (hsn:SameOrNew (w.alloc o).drew (.slice ao l.length c) (.slice ao' (l.length+1) c')) {cur:Array Value} (hgB:w'.heap[gB]?=some (.cells cur 33 (0,0))) :
  SRw (w'.setCell ⟨gB,i,none⟩ (.slice ao' (l.length+1) c')) base (.slice (some ⟨gB,0,none⟩) n n) (addI g i x) (rv.set i (.slice ao' (l.length+1) c')):=by
 subst hn
 have hgi:g[i]'hi=l:=by rw [List.getElem?_eq_getElem hi] at hl;simpa using hl
 have hrA:(w.alloc o).drew.ownsRow base 3 1 (.slice ao l.length c) l.length (intCells l):=row_kp hrow (Kp.alloc (Kp.refl _ w) o)
 refine hg.add hi hu ?_ ?_ ?_ ?_
 ·have hk:Kp 33 w w':=(Kp.alloc (Kp.refl _ w) o).grown (w:=(w.alloc o).drew) hrA hgr (by decide)
  exact row_set (row_kp hg.row hk) _ _
 ·rintro k hk ⟨cs,hcs⟩
  have h1:w'.heap[k]?=w.heap[k]?:=(hgr.block k (by have:=heap_lt hcs;show k<(w.alloc o).heap.size;simp;omega) hk).trans (Below.heap_alloc _ _ _ (heap_lt hcs))
  rw [Below.heap_setCell _ _ _ _ (type_ne (h1.trans hcs) hgB (by decide))];exact h1
 ·rw [hgi]
  exact row_kp hown ((Kp.refl _ _).setCell hgB (by decide) _)
 ·rcases hsn with h | h
  ·exact Or.inl h
  ·exact Or.inr ⟨_,h,by show w.heap.size<=(w.alloc o).heap.size;simp⟩
def SrcAt (ks:List Nat) (V:List (Bool × List Nat)) (i j:Nat) (src:List (List Nat)):Prop:=src.length=V.length/\(∀ l ∈ src,l.length<=8 * i+j)/\∀ y l,src[y]?=some l->∀ x,x ∈ l↔(x<i/\leadsV ks V x y)\/(x=i/\∃ t k,t<j/\ks[t]?=some k/\((V[x]?).bind fun r=>r.2[k]?)=some y)
theorem SrcAt.start (ks:List Nat) (V:List (Bool × List Nat)):SrcAt ks V 0 0 (List.replicate V.length []):=by
 refine ⟨by simp,fun l hl=>?_,fun y l hl x=>?_⟩
 ·rw [List.mem_replicate] at hl;rw [hl.2];simp
 ·rw [List.getElem?_replicate] at hl
  split at hl
  ·cases hl;constructor
   ·intro h;simp at h
   ·rintro (⟨h,_⟩ | ⟨_,t,k,h,_⟩) <;> omega
  ·cases hl
theorem SrcAt.step {ks:List Nat} {V:List (Bool × List Nat)} {i j k n:Nat} {src:List (List Nat)} (h:SrcAt ks V i j src) (hk:ks[j]?=some k) (hn:((V[i]?).bind fun r=>r.2[k]?)=some n):SrcAt ks V i (j+1) (addI src n i):=by
 refine ⟨(addI_len _ _ _).trans h.1,fun l hl=>?_,fun y l hl x=>?_⟩
 ·obtain ⟨y,hy⟩:=List.mem_iff_getElem?.1 hl
  rcases addI_at hy with ⟨_,h1⟩ | ⟨_,l0,h1,rfl⟩
  ·have:=h.2.1 l (List.mem_of_getElem? h1);omega
  ·have:=h.2.1 l0 (List.mem_of_getElem? h1);simp;omega
 ·rcases addI_at hl with ⟨h1,h2⟩ | ⟨h1,l0,h2,rfl⟩
  ·rw [h.2.2 y l h2 x]
   constructor
   ·rintro (h3 | ⟨h3,t,k',h4,h5⟩)
    ·exact Or.inl h3
    ·exact Or.inr ⟨h3,t,k',by omega,h5⟩
   ·rintro (h3 | ⟨h3,t,k',h4,h5,h6⟩)
    ·exact Or.inl h3
    ·refine Or.inr ⟨h3,t,k',?_,h5,h6⟩
     rcases Nat.lt_or_ge t j with h7 | h7
     ·exact h7
     ·exfalso
      have e:t=j:=by omega
      subst e
      rw [hk] at h5;cases h5
      subst h3
      rw [hn] at h6;cases h6;exact h1 rfl
  ·subst h1
   rw [List.mem_append,h.2.2 y l0 h2 x]
   constructor
   ·rintro ((h3 | ⟨h3,t,k',h4,h5⟩) | h3)
    ·exact Or.inl h3
    ·exact Or.inr ⟨h3,t,k',by omega,h5⟩
    ·simp at h3;subst h3;exact Or.inr ⟨rfl,j,k,by omega,hk,hn⟩
   ·rintro (h3 | ⟨h3,t,k',h4,h5,h6⟩)
    ·exact Or.inl (Or.inl h3)
    ·exact Or.inr (by simp [h3])
theorem SrcAt.next {ks:List Nat} {V:List (Bool × List Nat)} {i:Nat} {src:List (List Nat)} (h:SrcAt ks V i ks.length src) (hl:ks.length<=8):SrcAt ks V (i+1) 0 src:=by
 refine ⟨h.1,fun l hl'=>by have:=h.2.1 l hl';omega,fun y l hy x=>?_⟩
 rw [h.2.2 y l hy x]
 constructor
 ·rintro (⟨h1,h2⟩ | ⟨h1,t,k,h2,h3,h4⟩)
  ·exact Or.inl ⟨by omega,h2⟩
  ·exact Or.inl ⟨by omega,k,List.mem_of_getElem? h3,h4⟩
 ·rintro (⟨h1,h2⟩ | ⟨_,t,k,h2,_⟩)
  ·rcases Nat.lt_or_ge x i with h3 | h3
   ·exact Or.inl ⟨h3,h2⟩
   ·obtain ⟨k,hk,h4⟩:=h2
    obtain ⟨t,ht⟩:=List.mem_iff_getElem?.1 hk
    exact Or.inr ⟨by omega,t,k,(List.getElem?_eq_some_iff.1 ht).1,ht,h4⟩
  ·omega
theorem SrcAt.done {ks:List Nat} {V:List (Bool × List Nat)} {i:Nat} {src:List (List Nat)} (h:SrcAt ks V i 0 src) (hi:V.length<=i):SrcOk ks V src:=by
 refine ⟨h.1,fun y l hy x=>?_⟩
 rw [h.2.2 y l hy x]
 constructor
 ·rintro (⟨_,h2⟩ | ⟨_,t,k,h2,_⟩)
  ·exact h2
  ·omega
 ·intro h2
  refine Or.inl ⟨?_,h2⟩
  obtain ⟨k,_,h4⟩:=h2
  rcases Nat.lt_or_ge x i with h3 | h3
  ·exact h3
  ·rw [List.getElem?_eq_none (by omega)] at h4;cases h4
end Go.Proofs.YtodagkkjfipbgaaGreatDoor
