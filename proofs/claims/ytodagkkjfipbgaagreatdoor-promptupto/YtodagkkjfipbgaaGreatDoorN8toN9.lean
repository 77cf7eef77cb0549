import Derived.Test.YtodagkkjfipbgaaGreatDoorN6toN0
namespace Go.Proofs.YtodagkkjfipbgaaGreatDoor
open Go.RowKit Go.Maps
def sptCells (X:List Spt):List Value:=X.flatMap spotCell
theorem sptCells_snoc (X:List Spt) (x:Spt):sptCells (X++[x])=sptCells X++spotCell x:=by unfold sptCells;simp
theorem sptCells_at:∀ (X:List Spt) (i:Nat) (x:Spt),(∀ y ∈ X,y.2.length=4)->X[i]?=some x->∀ o u,(spotCell x)[o]?=some u->(sptCells X)[i * 5+o]?=some u:=by
 intro X
 induction X with
 | nil=>intro i x _ h;simp at h
 | cons a X ih =>
  intro i x hr h o u hu
  have hla:(spotCell a).length=5:=by unfold spotCell;simp [hr a List.mem_cons_self]
  have e:sptCells (a :: X)=spotCell a++sptCells X:=rfl
  have ho:=(List.getElem?_eq_some_iff.1 hu).1
  cases i with
  | zero =>
   simp at h
   subst h
   rw [e,List.getElem?_append_left (by omega),show 0 * 5+o=o from by omega]
   exact hu
  | succ i =>
   have:=ih i x (fun r h=>hr r (List.mem_cons_of_mem _ h)) (by simpa using h) o u hu
   rw [e,List.getElem?_append_right (by omega),hla,show (i+1) * 5+o - 5=i * 5+o from by omega]
   exact this
def FoundX (X:List Spt) (x:Spt) (X':List Spt) (i:Nat):Prop:=(X'=X/\X[i]?=some x)\/(x ∉ X/\X'=X++[x]/\i=X.length)
structure Four (x:Spt):Prop where
 len:x.2.length=4
 lt:∀ j v:Nat,x.2[j]?=some v->v<20
theorem SOk4.four {lim:Nat->Nat} {n:Nat} {x:Spt} (h:SOk4 lim n x):Four x:=⟨h.len,fun j v hv=>(h.lt j v hv).1⟩
theorem sptV_inj {x y:Spt} (hx:Four x) (hy:Four y) (h:sptV x=sptV y):x=y:=by
 obtain ⟨b,l⟩:=x
 obtain ⟨b',l'⟩:=y
 obtain ⟨p,q,r,s,e1⟩:=Go.Proofs.YtodagkkjfipbgaaGreatDoor.four hx.len
 obtain ⟨p',q',r',s',e2⟩:=Go.Proofs.YtodagkkjfipbgaaGreatDoor.four hy.len
 simp only at e1 e2
 subst e1;subst e2
 obtain ⟨rfl,rfl,rfl,rfl,rfl⟩:=spt4_inj h
 rfl
theorem Tryz.zeroI (w:World):(zeroValue 3).run Tryz.prog w=.ok (.int .i64 0) w:=by kernel_rfl
theorem spot_one (x:Spt):∀ u ∈ spotCell x,u.oneCell'=true:=spotCell_one x.1 x.2
theorem few4' {X:List Spt} (hn:X.Nodup) (h:∀ x ∈ X,Four x):X.length<=320000:=few4 (lim:=fun _=>20) (n:=4) hn fun x hx=>⟨(h x hx).len,fun j v hv=>⟨(h x hx).lt j v hv,fun _=>(h x hx).lt j v hv⟩⟩
theorem lit_wf2 {a:Nat} (h:a<=1000000):(Lit.int .i64 (a:Int)).wf=true:=by
 have e:IntKind.i64.min=-9223372036854775808:=by decide
 simp [Lit.wf,e]
 omega
theorem keyOf_pastS {x:Spt} (h:Four x):∃ l,keyOf Tryz.prog 243 (sptV x)=some l:=by
 obtain ⟨b,l⟩:=x
 obtain ⟨p,q,r,s,e1⟩:=Go.Proofs.YtodagkkjfipbgaaGreatDoor.four h.len
 simp only at e1
 subst e1
 have h0:=h.lt 0 p rfl;have h1:=h.lt 1 q rfl;have h2:=h.lt 2 r rfl;have h3:=h.lt 3 s rfl
 exact keyOf_past (b:=b) (by omega) (by omega) (by omega) (by omega)
theorem Tryz.infoP:(Tryz.prog.info? 243).map (fun i=>(i.zero,i.size,i.bytes))=some (some (.agg #[.bool false,.int .i64 0,.int .i64 0,.int .i64 0,.int .i64 0]),5,40):=by kernel_rfl
theorem Tryz.undPs:Tryz.prog.underlying 235=some (.slice 243):=by kernel_rfl
theorem Tryz.undPm:Tryz.prog.underlying 236=some (.map 243 3):=by kernel_rfl
structure FMapP (w:World) (b:Nat) (X:List Spt) (D:DataW Unit):Prop where
 own:w.ownsMap Tryz.prog 243 (plainElem Tryz.prog 3) b (Maps.size D) D
 few:Maps.size D<=X.length
 mem:∀ x l,Four x->keyOf Tryz.prog 243 (sptV x)=some l->(Maps.has D l=true↔x ∈ X)/\∀ i:Nat,X[i]?=some x->D.atKey l (.lit (.int .i64 0))=.lit (.int .i64 i)
structure FInP (base:Nat) (w:World) (p:Nat) (X:List Spt) (ao:Option Addr) (cap:Nat) (mo:Option Nat):Prop where
 blk:w.heap[p]?=some (.cells #[.slice ao X.length cap,.map mo] 238 (0,0))
 row:w.ownsRow base 243 5 (.slice ao X.length cap) X.length (sptCells X)
 map:(mo=none/\X=[])\/∃ b D,mo=some b/\base<=b/\FMapP w b X D
 nodup:X.Nodup
 ok:∀ x ∈ X,Four x
theorem FMapP.kept {w w':World} {b:Nat} {X:List Spt} {D:DataW Unit} (h:FMapP w b X D) (hb:w'.heap[b]?=w.heap[b]?):FMapP w' b X D:=by
 refine ⟨?_,h.few,h.mem⟩
 obtain ⟨es,clock,h1,r⟩:=h.own
 exact ⟨es,clock,hb.trans h1,r⟩
theorem FMapP.snoc {w w':World} {b n:Nat} {X:List Spt} {D:DataW Unit} {x:Spt} {lx:Lit} (h:FMapP w b X D) (hx:Four x) (hn:x ∉ X) (hl:keyOf Tryz.prog 243 (sptV x)=some lx)
  (ho:w'.ownsMap Tryz.prog 243 (plainElem Tryz.prog 3) b n (D.put lx (.lit (.int .i64 (X.length:Nat))))):FMapP w' b (X++[x]) (D.put lx (.lit (.int .i64 (X.length:Nat)))):=by
 have hk:=pastKey.key hl
 refine ⟨own_tight ho,?_,fun y l hy hly=>?_⟩
 ·have hne:Maps.has D lx ≠ true:=fun e=>hn (((h.mem x lx hx hl).1).1 e)
  rw [size_put (h.own.tidy pastKey),if_neg hne,List.length_append]
  have:=h.few
  simp;omega
 ·by_cases e:y=x
  ·subst e
   rw [hl] at hly
   cases hly
   refine ⟨⟨fun _=>by simp,fun _=>has_put_same h.own.isMap hk _⟩,fun i hi=>?_⟩
   rw [atKey_put_same h.own.isMap hk]
   rcases snoc_at hi with ⟨h1,_⟩ | ⟨h1,_⟩
   ·exact absurd (List.mem_of_getElem? h1) hn
   ·rw [h1]
  ·have hne:l ≠ lx:=fun e'=>e (sptV_inj hy hx (pastKey.inj hly (e' ▸ hl)))
   have hm:=h.mem y l hy hly
   refine ⟨?_,fun i hi=>?_⟩
   ·rw [has_put_other hne,hm.1];simp [e]
   ·rw [atKey_put_other hne]
    rcases snoc_at hi with ⟨h1,_⟩ | ⟨_,h1⟩
    ·exact hm.2 i h1
    ·exact absurd h1 e
theorem fmapP_made (w:World):FMapP (w.alloc (.map #[] 0)) w.heap.size [] (.map []) :=
 ⟨own_tight (World.ownsMap_made w _ _ _),by simp [Maps.size],fun x l _ _=>⟨by simp [Maps.has],fun i hi=>by simp at hi⟩⟩
theorem FInP.lt {base p cap:Nat} {w:World} {X:List Spt} {ao:Option Addr} {mo:Option Nat} (h:FInP base w p X ao cap mo) {b:Nat} (e:mo=some b):b<w.heap.size/\base<=b/\∀ cs t m,w.heap[b]? ≠ some (.cells cs t m):=by
 rcases h.map with ⟨h1,_⟩ | ⟨b',D,h1,h2,h3⟩
 ·rw [h1] at e;cases e
 ·rw [h1] at e
  cases e
  refine ⟨h3.own.lt,h2,fun cs t m hh=>?_⟩
  obtain ⟨es,cl,h4,_⟩:=h3.own
  rw [h4] at hh;cases hh
def AtP (p:Nat) (n:Nat) (ao:Option Addr) (cap:Nat) (mo:Option Nat) (k:Nat):Prop:=k=p\/(Value.slice ao n cap).ownBlock=some k\/mo=some k
theorem FInP.kp {base p cap:Nat} {w w':World} {X:List Spt} {ao:Option Addr} {mo:Option Nat} {t:TypeId} (h:FInP base w p X ao cap mo) (hc:Chg (AtP p X.length ao cap mo) w w') (h1:t ≠ 238) (h2:t ≠ 243):Kp t w w':=fun k cs m hh=>by
 rw [hc.block k (heap_lt hh) ?_];exact hh
 rintro (e | e | e)
 ·subst e;rw [h.blk] at hh;cases hh;exact h1 rfl
 ·obtain ⟨cs',hk⟩:=row_type h.row k e;rw [hk] at hh;cases hh;exact h2 rfl
 ·exact (h.lt e).2.2 _ _ _ hh
theorem FInP.chg {base p cap:Nat} {w w':World} {X:List Spt} {ao:Option Addr} {mo:Option Nat} (h:FInP base w p X ao cap mo) (hc:∀ k,k<w.heap.size->AtP p X.length ao cap mo k->w'.heap[k]?=w.heap[k]?):FInP base w' p X ao cap mo:=by
 refine ⟨(hc p (heap_lt h.blk) (Or.inl rfl)).trans h.blk,?_,?_,h.nodup,h.ok⟩
 ·obtain ⟨h1,h2⟩:=h.row
  refine ⟨h1,?_⟩
  rcases h2 with h2 | ⟨g,c,cur,hv,hg,hh,r⟩
  ·exact Or.inl h2
  ·exact Or.inr ⟨g,c,cur,hv,hg,(hc g (heap_lt hh) (Or.inr (Or.inl (by rw [hv];rfl)))).trans hh,r⟩
 ·rcases h.map with h1 | ⟨b,D,h1,h2,h3⟩
  ·exact Or.inl h1
  ·exact Or.inr ⟨b,D,h1,h2,h3.kept (hc b h3.own.lt (Or.inr (Or.inr h1)))⟩
theorem FInP.below {base p cap:Nat} {w w':World} {X:List Spt} {ao:Option Addr} {mo:Option Nat} (h:FInP base w p X ao cap mo) (hb:Below w.heap.size w w'):FInP base w' p X ao cap mo:=h.chg fun k hk _=>hb.block k hk
def FindPPost (base p:Nat) (X:List Spt) (ao:Option Addr) (cap:Nat) (mo:Option Nat) (x:Spt) (w:World) (r:Ending) (w':World):Prop :=
 ∃ (i:Nat) (X':List Spt) (ao':Option Addr) (cap':Nat) (mo':Option Nat),r=.returned (.int .i64 i)/\FInP base w' p X' ao' cap' mo'/\FoundX X x X' i/\(mo'=mo\/∃ b,mo'=some b/\w.heap.size<=b)/\(∀ k,(Value.slice ao' X'.length cap').ownBlock=some k->(Value.slice ao X.length cap).ownBlock=some k\/w.heap.size<=k)/\Chg (AtP p X.length ao cap mo) w w'
theorem keyOf_knownS {x:Spt} (h:Four x):∃ l,keyOf Tryz.prog 249 (sptV x)=some l:=by
 obtain ⟨b,l⟩:=x
 obtain ⟨p,q,r,s,e1⟩:=Go.Proofs.YtodagkkjfipbgaaGreatDoor.four h.len
 simp only at e1
 subst e1
 have h0:=h.lt 0 p rfl;have h1:=h.lt 1 q rfl;have h2:=h.lt 2 r rfl;have h3:=h.lt 3 s rfl
 exact keyOf_known (b:=b) (by omega) (by omega) (by omega) (by omega)
theorem Tryz.infoK:(Tryz.prog.info? 249).map (fun i=>(i.zero,i.size,i.bytes))=some (some (.agg #[.bool false,.int .i64 0,.int .i64 0,.int .i64 0,.int .i64 0]),5,40):=by kernel_rfl
theorem Tryz.undKs:Tryz.prog.underlying 161=some (.slice 249):=by kernel_rfl
theorem Tryz.undKm:Tryz.prog.underlying 162=some (.map 249 3):=by kernel_rfl
structure FMapK (w:World) (b:Nat) (X:List Spt) (D:DataW Unit):Prop where
 own:w.ownsMap Tryz.prog 249 (plainElem Tryz.prog 3) b (Maps.size D) D
 few:Maps.size D<=X.length
 mem:∀ x l,Four x->keyOf Tryz.prog 249 (sptV x)=some l->(Maps.has D l=true↔x ∈ X)/\∀ i:Nat,X[i]?=some x->D.atKey l (.lit (.int .i64 0))=.lit (.int .i64 i)
structure FInK (base:Nat) (w:World) (p:Nat) (X:List Spt) (ao:Option Addr) (cap:Nat) (mo:Option Nat):Prop where
 blk:w.heap[p]?=some (.cells #[.slice ao X.length cap,.map mo] 164 (0,0))
 row:w.ownsRow base 249 5 (.slice ao X.length cap) X.length (sptCells X)
 map:(mo=none/\X=[])\/∃ b D,mo=some b/\base<=b/\FMapK w b X D
 nodup:X.Nodup
 ok:∀ x ∈ X,Four x
theorem FMapK.kept {w w':World} {b:Nat} {X:List Spt} {D:DataW Unit} (h:FMapK w b X D) (hb:w'.heap[b]?=w.heap[b]?):FMapK w' b X D:=by
 refine ⟨?_,h.few,h.mem⟩
 obtain ⟨es,clock,h1,r⟩:=h.own
 exact ⟨es,clock,hb.trans h1,r⟩
theorem FMapK.snoc {w w':World} {b n:Nat} {X:List Spt} {D:DataW Unit} {x:Spt} {lx:Lit} (h:FMapK w b X D) (hx:Four x) (hn:x ∉ X) (hl:keyOf Tryz.prog 249 (sptV x)=some lx)
  (ho:w'.ownsMap Tryz.prog 249 (plainElem Tryz.prog 3) b n (D.put lx (.lit (.int .i64 (X.length:Nat))))):FMapK w' b (X++[x]) (D.put lx (.lit (.int .i64 (X.length:Nat)))):=by
 have hk:=knownKey.key hl
 refine ⟨own_tight ho,?_,fun y l hy hly=>?_⟩
 ·have hne:Maps.has D lx ≠ true:=fun e=>hn (((h.mem x lx hx hl).1).1 e)
  rw [size_put (h.own.tidy knownKey),if_neg hne,List.length_append]
  have:=h.few
  simp;omega
 ·by_cases e:y=x
  ·subst e
   rw [hl] at hly
   cases hly
   refine ⟨⟨fun _=>by simp,fun _=>has_put_same h.own.isMap hk _⟩,fun i hi=>?_⟩
   rw [atKey_put_same h.own.isMap hk]
   rcases snoc_at hi with ⟨h1,_⟩ | ⟨h1,_⟩
   ·exact absurd (List.mem_of_getElem? h1) hn
   ·rw [h1]
  ·have hne:l ≠ lx:=fun e'=>e (sptV_inj hy hx (knownKey.inj hly (e' ▸ hl)))
   have hm:=h.mem y l hy hly
   refine ⟨?_,fun i hi=>?_⟩
   ·rw [has_put_other hne,hm.1];simp [e]
   ·rw [atKey_put_other hne]
    rcases snoc_at hi with ⟨h1,_⟩ | ⟨_,h1⟩
    ·exact hm.2 i h1
    ·exact absurd h1 e
theorem fmapK_made (w:World):FMapK (w.alloc (.map #[] 0)) w.heap.size [] (.map []) :=
 ⟨own_tight (World.ownsMap_made w _ _ _),by simp [Maps.size],fun x l _ _=>⟨by simp [Maps.has],fun i hi=>by simp at hi⟩⟩
theorem FInK.lt {base p cap:Nat} {w:World} {X:List Spt} {ao:Option Addr} {mo:Option Nat} (h:FInK base w p X ao cap mo) {b:Nat} (e:mo=some b):b<w.heap.size/\base<=b/\∀ cs t m,w.heap[b]? ≠ some (.cells cs t m):=by
 rcases h.map with ⟨h1,_⟩ | ⟨b',D,h1,h2,h3⟩
 ·rw [h1] at e;cases e
 ·rw [h1] at e
  cases e
  refine ⟨h3.own.lt,h2,fun cs t m hh=>?_⟩
  obtain ⟨es,cl,h4,_⟩:=h3.own
  rw [h4] at hh;cases hh
def AtK (p:Nat) (n:Nat) (ao:Option Addr) (cap:Nat) (mo:Option Nat) (k:Nat):Prop:=k=p\/(Value.slice ao n cap).ownBlock=some k\/mo=some k
theorem FInK.kp {base p cap:Nat} {w w':World} {X:List Spt} {ao:Option Addr} {mo:Option Nat} {t:TypeId} (h:FInK base w p X ao cap mo) (hc:Chg (AtK p X.length ao cap mo) w w') (h1:t ≠ 164) (h2:t ≠ 249):Kp t w w':=fun k cs m hh=>by
 rw [hc.block k (heap_lt hh) ?_];exact hh
 rintro (e | e | e)
 ·subst e;rw [h.blk] at hh;cases hh;exact h1 rfl
 ·obtain ⟨cs',hk⟩:=row_type h.row k e;rw [hk] at hh;cases hh;exact h2 rfl
 ·exact (h.lt e).2.2 _ _ _ hh
theorem FInK.chg {base p cap:Nat} {w w':World} {X:List Spt} {ao:Option Addr} {mo:Option Nat} (h:FInK base w p X ao cap mo) (hc:∀ k,k<w.heap.size->AtK p X.length ao cap mo k->w'.heap[k]?=w.heap[k]?):FInK base w' p X ao cap mo:=by
 refine ⟨(hc p (heap_lt h.blk) (Or.inl rfl)).trans h.blk,?_,?_,h.nodup,h.ok⟩
 ·obtain ⟨h1,h2⟩:=h.row
  refine ⟨h1,?_⟩
  rcases h2 with h2 | ⟨g,c,cur,hv,hg,hh,r⟩
  ·exact Or.inl h2
  ·exact Or.inr ⟨g,c,cur,hv,hg,(hc g (heap_lt hh) (Or.inr (Or.inl (by rw [hv];rfl)))).trans hh,r⟩
 ·rcases h.map with h1 | ⟨b,D,h1,h2,h3⟩
  ·exact Or.inl h1
  ·exact Or.inr ⟨b,D,h1,h2,h3.kept (hc b h3.own.lt (Or.inr (Or.inr h1)))⟩
theorem FInK.below {base p cap:Nat} {w w':World} {X:List Spt} {ao:Option Addr} {mo:Option Nat} (h:FInK base w p X ao cap mo) (hb:Below w.heap.size w w'):FInK base w' p X ao cap mo:=h.chg fun k hk _=>hb.block k hk
def FindKPost (base p:Nat) (X:List Spt) (ao:Option Addr) (cap:Nat) (mo:Option Nat) (x:Spt) (w:World) (r:Ending) (w':World):Prop :=
 ∃ (i:Nat) (X':List Spt) (ao':Option Addr) (cap':Nat) (mo':Option Nat),r=.returned (.int .i64 i)/\FInK base w' p X' ao' cap' mo'/\FoundX X x X' i/\(mo'=mo\/∃ b,mo'=some b/\w.heap.size<=b)/\(∀ k,(Value.slice ao' X'.length cap').ownBlock=some k->(Value.slice ao X.length cap).ownBlock=some k\/w.heap.size<=k)/\Chg (AtK p X.length ao cap mo) w w'
theorem nodup_snoc {X:List Spt} {x:Spt} (h:X.Nodup) (hn:x ∉ X):(X++[x]).Nodup:=by
 rw [List.nodup_append];exact ⟨h,by simp,fun a ha c hc e=>by simp at hc;subst hc;subst e;exact hn ha⟩
theorem all_snoc {X:List Spt} {x:Spt} {P:Spt->Prop} (h:∀ y ∈ X,P y) (hx:P x):∀ y ∈ X++[x],P y:=fun y hy=>by
 rw [List.mem_append] at hy
 rcases hy with hy | hy
 ·exact h y hy
 ·simp at hy;subst hy;exact hx
theorem same_new {w:World} {v v':Value} {N:Nat} (h:SameOrNew w v v') (hN:N<=w.heap.size):∀ k,v'.ownBlock=some k->v.ownBlock=some k\/N<=k:=fun k hk=>by
 rcases h with e | e
 ·left;rw [<- e];exact hk
 ·right;rw [e] at hk;injection hk with hk;omega
theorem spt_newP (w:World) (b:Bool) (p q r s:Nat) (j:Nat) (u:Value) (hu:(spotCell (b,[p,q,r,s]))[j]?=some u):(w.alloc (.cells #[.bool b,.int .i64 (p:Nat),.int .i64 (q:Nat),.int .i64 (r:Nat),.int .i64 (s:Nat)] 243)).drew.cell? ⟨w.heap.size,j,none⟩=some u:=cell_of_block (w:=(w.alloc _).drew) (heap_alloc_new w _) j u ((List.getElem?_toArray ..).trans hu)
theorem fmapP_row {w:World} {b base n cap:Nat} {X:List Spt} {D:DataW Unit} {ao:Option Addr} {us:List Value} (h:FMapP w b X D) (hr:w.ownsRow base 243 5 (.slice ao n cap) n us) (e:some b=(Value.slice ao n cap).ownBlock):False:=by
 obtain ⟨cs5,hh5⟩:=row_type hr b e.symm
 obtain ⟨es,cl,h4,_⟩:=h.own
 rw [h4] at hh5;cases hh5
theorem eqP_nil (mo:Option Nat) (W:World):(binOp BinOp.eql 236 (.map mo) (.map none)).run Tryz.prog W=.ok (.bool mo.isNone) W:=by
 cases mo with
 | none=>kernel_rfl
 | some b=>kernel_rfl
set_option maxRecDepth 100000 in
set_option maxHeartbeats 2000000 in
theorem findP_any (base p:Nat) (X:List Spt) (ao:Option Addr) (cap:Nat) (mo:Option Nat) (x:Spt) (w:World) (h:FInP base w p X ao cap mo) (hx:Four x) (hp:base<=p) (hbase:base<=w.heap.size) :
  Calls Tryz.prog 139 #[.pointer (some ⟨p,0,none⟩),sptV x] w (FindPPost base p X ao cap mo x w):=by
 obtain ⟨lx,hlx⟩:=keyOf_pastS hx
 obtain ⟨vb,l⟩:=x
 obtain ⟨xp,xq,xr,xs,e⟩:=Go.Proofs.YtodagkkjfipbgaaGreatDoor.four hx.len
 simp only at e
 subst e
 have hXl:=few4' h.nodup h.ok
 have HX:Hid (Four (vb,[xp,xq,xr,xs])):=hx
 have HLX:Hid (keyOf Tryz.prog 243 (.agg #[.bool vb,.int .i64 (xp:Nat),.int .i64 (xq:Nat),.int .i64 (xr:Nat),.int .i64 (xs:Nat)])=some lx):=hlx
 have HF:Hid (FInP base w p X ao cap mo):=h
 have hpl:=heap_lt h.blk
 obtain ⟨W0,hW0⟩:∃ W0,W0=w.alloc (.cells #[.bool vb,.int .i64 (xp:Nat),.int .i64 (xq:Nat),.int .i64 (xr:Nat),.int .i64 (xs:Nat)] 243):=⟨_,rfl⟩
 have HW0:Hid (W0=w.alloc (.cells #[.bool vb,.int .i64 (xp:Nat),.int .i64 (xq:Nat),.int .i64 (xr:Nat),.int .i64 (xs:Nat)] 243)):=hW0
 have b0:Below w.heap.size w W0:=by rw [hW0];exact below_alloc w _
 have hz0:W0.heap.size=w.heap.size+1:=by rw [hW0];simp
 have q0:W0.heap[w.heap.size]?=some (.cells #[.bool vb,.int .i64 (xp:Nat),.int .i64 (xq:Nat),.int .i64 (xr:Nat),.int .i64 (xs:Nat)] 243 (0,0)):=by rw [hW0];exact heap_alloc_new w _
 have F0:Hid (FInP base W0 p X ao cap mo):=h.below b0
 have B0:Hid (Below w.heap.size w W0):=b0
 have Q0:Hid (W0.heap[w.heap.size]?=some (.cells #[.bool vb,.int .i64 (xp:Nat),.int .i64 (xq:Nat),.int .i64 (xr:Nat),.int .i64 (xs:Nat)] 243 (0,0))):=q0
 have hmm:=@run_makeMap Tryz.prog
 clear hW0 h hlx q0 b0 hx
 show Calls _ _ #[_,.agg #[.bool vb,.int .i64 (xp:Nat),.int .i64 (xq:Nat),.int .i64 (xr:Nat),.int .i64 (xs:Nat)]] _ _
 go_enter Tryz.func139,Tryz.ntmps139
 have k1:W0.cell? ⟨p,1,none⟩=some (.map mo):=cell_of_block F0.out.blk 1 _ rfl
 have f1:=free_of_block F0.out.blk 1
 have hbn:∀ W:World,(binOp BinOp.eql 236 (.map mo) (.map none)).run Tryz.prog W=.ok (.bool mo.isNone) W:=fun W=>eqP_nil mo W
 have k1a:=k1
 rw [HW0.out] at k1a
 go_upto_if 11 with fail
 rw [<- HW0.out]
 go_cut [] (fun wx=>∃ (b:Nat) (D:DataW Unit),Hid (wx.heap[p]?=some (.cells #[.slice ao X.length cap,.map (some b)] 238 (0,0)))/\Hid (FMapP wx b X D/\base<=b/\(mo=some b\/w.heap.size<=b))/\Hid (wx.ownsRow base 243 5 (.slice ao X.length cap) X.length (sptCells X))/\Hid (wx.heap[w.heap.size]?=some (.cells #[.bool vb,.int .i64 (xp:Nat),.int .i64 (xq:Nat),.int .i64 (xr:Nat),.int .i64 (xs:Nat)] 243 (0,0)))/\Hid (Chg (AtP p X.length ao cap mo) w wx))
 case first =>
  rcases F0.out.map with ⟨hmo,hX⟩ | ⟨b,D,hmo,hb,hM⟩
  ·subst hmo
   obtain ⟨V,hV⟩:∃ V,V=W0.setCell ⟨p,1,none⟩ (.map (some (w.heap.size+1))):=⟨_,rfl⟩
   have hVz:V.heap.size=w.heap.size+1:=by rw [hV];simp [hz0]
   have vb0:V.heap[p]?=some (.cells #[.slice ao X.length cap,.map (some (w.heap.size+1))] 238 (0,0)):=by rw [hV];exact (block_setCell F0.out.blk 1 _).trans rfl
   have vq:V.heap[w.heap.size]?=some (.cells #[.bool vb,.int .i64 (xp:Nat),.int .i64 (xq:Nat),.int .i64 (xr:Nat),.int .i64 (xs:Nat)] 243 (0,0)):=by rw [hV];exact (setCell_type (by omega)).trans Q0.out
   have vr:V.ownsRow base 243 5 (.slice ao X.length cap) X.length (sptCells X):=by rw [hV];exact row_kp F0.out.row ((Kp.refl _ _).setCell F0.out.blk (by decide) _)
   have vc:Chg (AtP p X.length ao cap none) w V:=by rw [hV];exact (Chg.of_below B0.out).setCell (q:=⟨p,1,none⟩) (Or.inr (Or.inl rfl)) _
   have E1:Hid ((V.alloc (.map #[] 0)).heap[p]?=some (.cells #[.slice ao X.length cap,.map (some (w.heap.size+1))] 238 (0,0))):=(Below.heap_alloc _ _ _ (by omega)).trans vb0
   have E2:Hid (FMapP (V.alloc (.map #[] 0)) (w.heap.size+1) X (.map [])):=by rw [hX,<- hVz];exact fmapP_made V
   have E3:Hid ((V.alloc (.map #[] 0)).ownsRow base 243 5 (.slice ao X.length cap) X.length (sptCells X)):=row_kp vr (Kp.below (below_alloc V _))
   have E4:Hid ((V.alloc (.map #[] 0)).heap[w.heap.size]?=some (.cells #[.bool vb,.int .i64 (xp:Nat),.int .i64 (xq:Nat),.int .i64 (xr:Nat),.int .i64 (xs:Nat)] 243 (0,0))):=(Below.heap_alloc _ _ _ (by omega)).trans vq
   have E5:Hid (Chg (AtP p X.length ao cap none) w (V.alloc (.map #[] 0))):=vc.alloc _
   rw [hV] at E1 E2 E3 E4 E5
   clear hV vb0 vq vr vc hVz
   go_wp2_with fail
   go_meet
   exact ⟨w.heap.size+1,.map [],E1,⟨E2.out,by omega,Or.inr (by omega)⟩,E3,E4,E5⟩
  ·subst hmo
   go_wp2_with fail
   go_meet
   exact ⟨b,D,F0.out.blk,⟨hM,hb,Or.inl rfl⟩,F0.out.row,Q0,Chg.of_below B0.out⟩
 case rest =>
  obtain ⟨b,D,hB,hM,hR,hQ,hC⟩:=hcut
  obtain ⟨w1,hw1⟩:∃ w1,w1=wc:=⟨wc,rfl⟩
  subst hw1
  clear k1 k1a f1 hbn F0 Q0 B0
  have hs1:=hC.out.size
  have c0:w1.cell? ⟨p,0,none⟩=some (.slice ao X.length cap):=cell_of_block hB.out 0 _ rfl
  have c1:w1.cell? ⟨p,1,none⟩=some (.map (some b)):=cell_of_block hB.out 1 _ rfl
  have x0:=cell_of_block hQ.out 0 _ rfl
  have x1:=cell_of_block hQ.out 1 _ rfl
  have x2:=cell_of_block hQ.out 2 _ rfl
  have x3:=cell_of_block hQ.out 3 _ rfl
  have x4:=cell_of_block hQ.out 4 _ rfl
  obtain ⟨v,ps,hrun,hv⟩:=hM.out.1.own.drew.look_ok pastKey Tryz.undPm (Tryz.zeroI w1.drew) (plainElem_int Tryz.undI (by decide)) HLX.out
  obtain ⟨c,hve,hc,_⟩:=plainElem_int_inv Tryz.undI hv
  subst hve
  have hc':=congrArg Prod.fst hc
  simp only at hc'
  have hmem:=hM.out.1.mem _ lx HX.out HLX.out
  cases hh:Maps.has D lx
  ·have hnot:Hid ((vb,[xp,xq,xr,xs]) ∉ X):=fun e=>by have:=hmem.1.2 e;rw [hh] at this;cases this
   rw [hh] at hrun
   clear hc hc' hv hmem
   have hkn:=HLX.out
   have hw1s:w1.drew.drew.ownsMap Tryz.prog 243 (plainElem Tryz.prog 3) b (Maps.size D) D:=hM.out.1.own.drew.drew
   have hDl:=hM.out.1.few
   obtain ⟨w2,hrun2,hown2,hturn2⟩:=hw1s.store (val:=.int .i64 (X.length:Nat)) pastKey Tryz.undPm (by unfold maxLen;omega) hkn (plainElem_int Tryz.undI (lit_wf2 (by omega)))
   have FM2:Hid (FMapP w2 b (X++[(vb,[xp,xq,xr,xs])]) (D.put lx (.lit (.int .i64 (X.length:Nat))))):=hM.out.1.snoc HX.out hnot.out HLX.out hown2
   have hg2:=hturn2.grown
   have hbl:KpA w1 w2:=fun k cs t m hh=>by
    rw [hg2.block k (heap_lt hh) (fun e=>?_)]
    ·exact hh
    ·injection e with e
     subst e
     obtain ⟨es,cl,h4,_⟩:=hM.out.1.own
     rw [h4] at hh;cases hh
   have B2:Hid (w2.heap[p]?=some (.cells #[.slice ao X.length cap,.map (some b)] 238 (0,0))):=hbl _ _ _ _ hB.out
   have Q2:Hid (w2.heap[w.heap.size]?=some (.cells #[.bool vb,.int .i64 (xp:Nat),.int .i64 (xq:Nat),.int .i64 (xr:Nat),.int .i64 (xs:Nat)] 243 (0,0))):=hbl _ _ _ _ hQ.out
   have C2:Hid (Chg (AtP p X.length ao cap mo) w w2):=by
    refine (hC.out.drew.drew).grown hg2 fun k e=>?_
    injection e with e
    subst e
    exact hM.out.2.2.elim (fun e=>Or.inr (Or.inr (Or.inr e))) Or.inl
   have hs2:=C2.out.size
   have y0:=cell_of_block B2.out 0 _ rfl
   have z0:=cell_of_block Q2.out 0 _ rfl
   have z1:=cell_of_block Q2.out 1 _ rfl
   have z2:=cell_of_block Q2.out 2 _ rfl
   have z3:=cell_of_block Q2.out 3 _ rfl
   have z4:=cell_of_block Q2.out 4 _ rfl
   have bp:Hid (b ≠ p):=fun e=>by
    subst e
    obtain ⟨es,cl,h4,_⟩:=FM2.out.own
    have:=B2.out
    rw [h4] at this;cases this
   obtain ⟨V,hV⟩:∃ V,V=w2.alloc (.cells #[.bool vb,.int .i64 (xp:Nat),.int .i64 (xq:Nat),.int .i64 (xr:Nat),.int .i64 (xs:Nat)] 243):=⟨_,rfl⟩
   have R3:Hid ((w2.alloc (.cells #[.bool vb,.int .i64 (xp:Nat),.int .i64 (xq:Nat),.int .i64 (xr:Nat),.int .i64 (xs:Nat)] 243)).drew.ownsRow base 243 5 (.slice ao X.length cap) X.length (sptCells X)):=row_kp (row_kp hR.out (hbl.kp _)) (Kp.below (below_alloc w2 _).drew)
   have FM3:Hid (FMapP (w2.alloc (.cells #[.bool vb,.int .i64 (xp:Nat),.int .i64 (xq:Nat),.int .i64 (xr:Nat),.int .i64 (xs:Nat)] 243)).drew b (X++[(vb,[xp,xq,xr,xs])]) (D.put lx (.lit (.int .i64 (X.length:Nat))))):=FM2.out.kept (Below.heap_alloc _ _ _ FM2.out.own.lt)
   have B3:Hid ((w2.alloc (.cells #[.bool vb,.int .i64 (xp:Nat),.int .i64 (xq:Nat),.int .i64 (xr:Nat),.int .i64 (xs:Nat)] 243)).drew.heap[p]?=some (.cells #[.slice ao X.length cap,.map (some b)] 238 (0,0))):=(Below.heap_alloc _ _ _ (heap_lt B2.out)).trans B2.out
   have u0:(w2.alloc (.cells #[.bool vb,.int .i64 (xp:Nat),.int .i64 (xq:Nat),.int .i64 (xr:Nat),.int .i64 (xs:Nat)] 243)).cell? ⟨p,0,none⟩=some (.slice ao X.length cap):=cell_of_block (w:=(w2.alloc _)) B3.out 0 _ rfl
   clear hown2 hturn2 hg2 hbl hw1s
   go_wp2_with fail
   go_region
   all_goals go_wp2_with fail
   all_goals go_region
   all_goals go_wp2_with fail
   all_goals go_region_law (first
    | (refine step_push2 rfl (.tmp 42) (.tmp 44) 235 rfl base 243 (.agg #[.bool false,.int .i64 0,.int .i64 0,.int .i64 0,.int .i64 0]) 5 40 Tryz.infoP Tryz.undPs rfl (by decide) (.slice ao X.length cap) X.length (sptCells X) (by simp [Act.eval]) R3.out w2.heap.size 1 (spotCell (vb,[xp,xq,xr,xs])) (by simp [Act.eval]) rfl (spt_newP w2 vb xp xq xr xs) (spot_one _) (by omega) (by omega) (by simp;omega) ?_
       intro v' W3 hown hgr hsn
       obtain ⟨ao',cap',rfl⟩:=row_shape hown
       have HO:Hid (W3.ownsRow base 243 5 (.slice ao' (X.length+1) cap') (X.length+1) (sptCells X++spotCell (vb,[xp,xq,xr,xs]))):=hown
       have HG:Hid ((w2.alloc (.cells #[.bool vb,.int .i64 (xp:Nat),.int .i64 (xq:Nat),.int .i64 (xr:Nat),.int .i64 (xs:Nat)] 243)).drew.grownBy W3 (Value.slice ao X.length cap).ownBlock):=hgr
       have HS:Hid (SameOrNew (w2.alloc (.cells #[.bool vb,.int .i64 (xp:Nat),.int .i64 (xq:Nat),.int .i64 (xr:Nat),.int .i64 (xs:Nat)] 243)).drew (.slice ao X.length cap) (.slice ao' (X.length+1) cap')):=hsn
       have hq3:=kept_grown B3.out (Kp.refl _ _) R3.out hgr (by decide)
       have i0:=cell_of_block hq3 0 _ rfl
       have if0:=free_of_block hq3
       clear hown hgr hsn hq3))
   all_goals go_wp2_with fail
   all_goals go_ret
   all_goals have hgr:=HG.out
   all_goals have hq3:=kept_grown B3.out (Kp.refl _ _) R3.out hgr (by decide)
   all_goals have B4:Hid (W3.heap[p]?=some (.cells #[.slice ao X.length cap,.map (some b)] 238 (0,0))):=hq3
   all_goals have R4:=HO
   all_goals have FM4:Hid (FMapP W3 b (X++[(vb,[xp,xq,xr,xs])]) (D.put lx (.lit (.int .i64 (X.length:Nat))))):=FM3.out.kept (hgr.block b FM3.out.own.lt (fun e=>fmapP_row FM3.out R3.out e))
   all_goals have C4:Hid (Chg (AtP p X.length ao cap mo) w W3):=(C2.out.alloc _).drew.grown hgr (fun k e=>Or.inr (Or.inr (Or.inl e)))
   all_goals have SN:Hid (∀ k,(Value.slice ao' (X.length+1) cap').ownBlock=some k->(Value.slice ao X.length cap).ownBlock=some k\/w.heap.size<=k):=same_new HS.out (by show w.heap.size<=_;simp;omega)
   all_goals exact ⟨X.length,X++[(vb,[xp,xq,xr,xs])],ao',cap',some b,rfl,⟨by rw [List.length_append];exact (block_setCell B4.out 0 _).trans rfl,by rw [List.length_append,sptCells_snoc];exact row_kp R4.out ((Kp.refl _ _).setCell B4.out (by decide) _),
    Or.inr ⟨b,_,rfl,hM.out.2.1,FM4.out.kept (setCell_type bp.out)⟩,nodup_snoc HF.out.nodup hnot.out,all_snoc HF.out.ok HX.out⟩,Or.inr ⟨hnot.out,rfl,rfl⟩,
    hM.out.2.2.elim (fun e=>Or.inl e.symm) (fun e=>Or.inr ⟨b,rfl,e⟩),by rw [List.length_append];exact SN.out,C4.out.setCell (q:=⟨p,0,none⟩) (Or.inr (Or.inl rfl)) _⟩
  ·have hin:=hmem.1.1 hh
   obtain ⟨i,hi⟩:=List.mem_iff_getElem?.1 hin
   have hci:=hmem.2 i hi
   rw [hc'] at hci
   have ec:c=(i:Int):=by injection hci with hci;injection hci
   subst ec
   have HI:Hid (X[i]?=some (vb,[xp,xq,xr,xs])):=hi
   rw [hh] at hrun
   clear hc hc' hv hmem hin hi hci
   go_wp2_with fail
   go_region
   all_goals go_wp2_with fail
   all_goals go_ret
   all_goals refine ⟨i,X,ao,cap,some b,rfl,⟨hB.out,hR.out,Or.inr ⟨b,D,rfl,hM.out.2.1,hM.out.1.kept rfl⟩,HF.out.nodup,HF.out.ok⟩,Or.inl ⟨rfl,HI.out⟩,?_,fun k hk=>Or.inl hk,hC.out.drew⟩
   all_goals exact hM.out.2.2.elim (fun e=>Or.inl e.symm) fun e=>Or.inr ⟨b,rfl,e⟩
theorem spt_newK (w:World) (b:Bool) (p q r s:Nat) (j:Nat) (u:Value) (hu:(spotCell (b,[p,q,r,s]))[j]?=some u):(w.alloc (.cells #[.bool b,.int .i64 (p:Nat),.int .i64 (q:Nat),.int .i64 (r:Nat),.int .i64 (s:Nat)] 249)).drew.cell? ⟨w.heap.size,j,none⟩=some u:=cell_of_block (w:=(w.alloc _).drew) (heap_alloc_new w _) j u ((List.getElem?_toArray ..).trans hu)
theorem fmapK_row {w:World} {b base n cap:Nat} {X:List Spt} {D:DataW Unit} {ao:Option Addr} {us:List Value} (h:FMapK w b X D) (hr:w.ownsRow base 249 5 (.slice ao n cap) n us) (e:some b=(Value.slice ao n cap).ownBlock):False:=by
 obtain ⟨cs5,hh5⟩:=row_type hr b e.symm
 obtain ⟨es,cl,h4,_⟩:=h.own
 rw [h4] at hh5;cases hh5
theorem eqK_nil (mo:Option Nat) (W:World):(binOp BinOp.eql 162 (.map mo) (.map none)).run Tryz.prog W=.ok (.bool mo.isNone) W:=by
 cases mo with
 | none=>kernel_rfl
 | some b=>kernel_rfl
set_option maxRecDepth 100000 in
set_option maxHeartbeats 2000000 in
theorem findK_any (base p:Nat) (X:List Spt) (ao:Option Addr) (cap:Nat) (mo:Option Nat) (x:Spt) (w:World) (h:FInK base w p X ao cap mo) (hx:Four x) (hp:base<=p) (hbase:base<=w.heap.size) :
  Calls Tryz.prog 140 #[.pointer (some ⟨p,0,none⟩),sptV x] w (FindKPost base p X ao cap mo x w):=by
 obtain ⟨lx,hlx⟩:=keyOf_knownS hx
 obtain ⟨vb,l⟩:=x
 obtain ⟨xp,xq,xr,xs,e⟩:=Go.Proofs.YtodagkkjfipbgaaGreatDoor.four hx.len
 simp only at e
 subst e
 have hXl:=few4' h.nodup h.ok
 have HX:Hid (Four (vb,[xp,xq,xr,xs])):=hx
 have HLX:Hid (keyOf Tryz.prog 249 (.agg #[.bool vb,.int .i64 (xp:Nat),.int .i64 (xq:Nat),.int .i64 (xr:Nat),.int .i64 (xs:Nat)])=some lx):=hlx
 have HF:Hid (FInK base w p X ao cap mo):=h
 have hpl:=heap_lt h.blk
 obtain ⟨W0,hW0⟩:∃ W0,W0=w.alloc (.cells #[.bool vb,.int .i64 (xp:Nat),.int .i64 (xq:Nat),.int .i64 (xr:Nat),.int .i64 (xs:Nat)] 249):=⟨_,rfl⟩
 have HW0:Hid (W0=w.alloc (.cells #[.bool vb,.int .i64 (xp:Nat),.int .i64 (xq:Nat),.int .i64 (xr:Nat),.int .i64 (xs:Nat)] 249)):=hW0
 have b0:Below w.heap.size w W0:=by rw [hW0];exact below_alloc w _
 have hz0:W0.heap.size=w.heap.size+1:=by rw [hW0];simp
 have q0:W0.heap[w.heap.size]?=some (.cells #[.bool vb,.int .i64 (xp:Nat),.int .i64 (xq:Nat),.int .i64 (xr:Nat),.int .i64 (xs:Nat)] 249 (0,0)):=by rw [hW0];exact heap_alloc_new w _
 have F0:Hid (FInK base W0 p X ao cap mo):=h.below b0
 have B0:Hid (Below w.heap.size w W0):=b0
 have Q0:Hid (W0.heap[w.heap.size]?=some (.cells #[.bool vb,.int .i64 (xp:Nat),.int .i64 (xq:Nat),.int .i64 (xr:Nat),.int .i64 (xs:Nat)] 249 (0,0))):=q0
 have hmm:=@run_makeMap Tryz.prog
 clear hW0 h hlx q0 b0 hx
 show Calls _ _ #[_,.agg #[.bool vb,.int .i64 (xp:Nat),.int .i64 (xq:Nat),.int .i64 (xr:Nat),.int .i64 (xs:Nat)]] _ _
 go_enter Tryz.func140,Tryz.ntmps140
 have k1:W0.cell? ⟨p,1,none⟩=some (.map mo):=cell_of_block F0.out.blk 1 _ rfl
 have f1:=free_of_block F0.out.blk 1
 have hbn:∀ W:World,(binOp BinOp.eql 162 (.map mo) (.map none)).run Tryz.prog W=.ok (.bool mo.isNone) W:=fun W=>eqK_nil mo W
 have k1a:=k1
 rw [HW0.out] at k1a
 go_upto_if 11 with fail
 rw [<- HW0.out]
 go_cut [] (fun wx=>∃ (b:Nat) (D:DataW Unit),Hid (wx.heap[p]?=some (.cells #[.slice ao X.length cap,.map (some b)] 164 (0,0)))/\Hid (FMapK wx b X D/\base<=b/\(mo=some b\/w.heap.size<=b))/\Hid (wx.ownsRow base 249 5 (.slice ao X.length cap) X.length (sptCells X))/\Hid (wx.heap[w.heap.size]?=some (.cells #[.bool vb,.int .i64 (xp:Nat),.int .i64 (xq:Nat),.int .i64 (xr:Nat),.int .i64 (xs:Nat)] 249 (0,0)))/\Hid (Chg (AtK p X.length ao cap mo) w wx))
 case first =>
  rcases F0.out.map with ⟨hmo,hX⟩ | ⟨b,D,hmo,hb,hM⟩
  ·subst hmo
   obtain ⟨V,hV⟩:∃ V,V=W0.setCell ⟨p,1,none⟩ (.map (some (w.heap.size+1))):=⟨_,rfl⟩
   have hVz:V.heap.size=w.heap.size+1:=by rw [hV];simp [hz0]
   have vb0:V.heap[p]?=some (.cells #[.slice ao X.length cap,.map (some (w.heap.size+1))] 164 (0,0)):=by rw [hV];exact (block_setCell F0.out.blk 1 _).trans rfl
   have vq:V.heap[w.heap.size]?=some (.cells #[.bool vb,.int .i64 (xp:Nat),.int .i64 (xq:Nat),.int .i64 (xr:Nat),.int .i64 (xs:Nat)] 249 (0,0)):=by rw [hV];exact (setCell_type (by omega)).trans Q0.out
   have vr:V.ownsRow base 249 5 (.slice ao X.length cap) X.length (sptCells X):=by rw [hV];exact row_kp F0.out.row ((Kp.refl _ _).setCell F0.out.blk (by decide) _)
   have vc:Chg (AtK p X.length ao cap none) w V:=by rw [hV];exact (Chg.of_below B0.out).setCell (q:=⟨p,1,none⟩) (Or.inr (Or.inl rfl)) _
   have E1:Hid ((V.alloc (.map #[] 0)).heap[p]?=some (.cells #[.slice ao X.length cap,.map (some (w.heap.size+1))] 164 (0,0))):=(Below.heap_alloc _ _ _ (by omega)).trans vb0
   have E2:Hid (FMapK (V.alloc (.map #[] 0)) (w.heap.size+1) X (.map [])):=by rw [hX,<- hVz];exact fmapK_made V
   have E3:Hid ((V.alloc (.map #[] 0)).ownsRow base 249 5 (.slice ao X.length cap) X.length (sptCells X)):=row_kp vr (Kp.below (below_alloc V _))
   have E4:Hid ((V.alloc (.map #[] 0)).heap[w.heap.size]?=some (.cells #[.bool vb,.int .i64 (xp:Nat),.int .i64 (xq:Nat),.int .i64 (xr:Nat),.int .i64 (xs:Nat)] 249 (0,0))):=(Below.heap_alloc _ _ _ (by omega)).trans vq
   have E5:Hid (Chg (AtK p X.length ao cap none) w (V.alloc (.map #[] 0))):=vc.alloc _
   rw [hV] at E1 E2 E3 E4 E5
   clear hV vb0 vq vr vc hVz
   go_wp2_with fail
   go_meet
   exact ⟨w.heap.size+1,.map [],E1,⟨E2.out,by omega,Or.inr (by omega)⟩,E3,E4,E5⟩
  ·subst hmo
   go_wp2_with fail
   go_meet
   exact ⟨b,D,F0.out.blk,⟨hM,hb,Or.inl rfl⟩,F0.out.row,Q0,Chg.of_below B0.out⟩
 case rest =>
  obtain ⟨b,D,hB,hM,hR,hQ,hC⟩:=hcut
  obtain ⟨w1,hw1⟩:∃ w1,w1=wc:=⟨wc,rfl⟩
  subst hw1
  clear k1 k1a f1 hbn F0 Q0 B0
  have hs1:=hC.out.size
  have c0:w1.cell? ⟨p,0,none⟩=some (.slice ao X.length cap):=cell_of_block hB.out 0 _ rfl
  have c1:w1.cell? ⟨p,1,none⟩=some (.map (some b)):=cell_of_block hB.out 1 _ rfl
  have x0:=cell_of_block hQ.out 0 _ rfl
  have x1:=cell_of_block hQ.out 1 _ rfl
  have x2:=cell_of_block hQ.out 2 _ rfl
  have x3:=cell_of_block hQ.out 3 _ rfl
  have x4:=cell_of_block hQ.out 4 _ rfl
  obtain ⟨v,ps,hrun,hv⟩:=hM.out.1.own.drew.look_ok knownKey Tryz.undKm (Tryz.zeroI w1.drew) (plainElem_int Tryz.undI (by decide)) HLX.out
  obtain ⟨c,hve,hc,_⟩:=plainElem_int_inv Tryz.undI hv
  subst hve
  have hc':=congrArg Prod.fst hc
  simp only at hc'
  have hmem:=hM.out.1.mem _ lx HX.out HLX.out
  cases hh:Maps.has D lx
  ·have hnot:Hid ((vb,[xp,xq,xr,xs]) ∉ X):=fun e=>by have:=hmem.1.2 e;rw [hh] at this;cases this
   rw [hh] at hrun
   clear hc hc' hv hmem
   have hkn:=HLX.out
   have hw1s:w1.drew.drew.ownsMap Tryz.prog 249 (plainElem Tryz.prog 3) b (Maps.size D) D:=hM.out.1.own.drew.drew
   have hDl:=hM.out.1.few
   obtain ⟨w2,hrun2,hown2,hturn2⟩:=hw1s.store (val:=.int .i64 (X.length:Nat)) knownKey Tryz.undKm (by unfold maxLen;omega) hkn (plainElem_int Tryz.undI (lit_wf2 (by omega)))
   have FM2:Hid (FMapK w2 b (X++[(vb,[xp,xq,xr,xs])]) (D.put lx (.lit (.int .i64 (X.length:Nat))))):=hM.out.1.snoc HX.out hnot.out HLX.out hown2
   have hg2:=hturn2.grown
   have hbl:KpA w1 w2:=fun k cs t m hh=>by
    rw [hg2.block k (heap_lt hh) (fun e=>?_)]
    ·exact hh
    ·injection e with e
     subst e
     obtain ⟨es,cl,h4,_⟩:=hM.out.1.own
     rw [h4] at hh;cases hh
   have B2:Hid (w2.heap[p]?=some (.cells #[.slice ao X.length cap,.map (some b)] 164 (0,0))):=hbl _ _ _ _ hB.out
   have Q2:Hid (w2.heap[w.heap.size]?=some (.cells #[.bool vb,.int .i64 (xp:Nat),.int .i64 (xq:Nat),.int .i64 (xr:Nat),.int .i64 (xs:Nat)] 249 (0,0))):=hbl _ _ _ _ hQ.out
   have C2:Hid (Chg (AtK p X.length ao cap mo) w w2):=by
    refine (hC.out.drew.drew).grown hg2 fun k e=>?_
    injection e with e
    subst e
    exact hM.out.2.2.elim (fun e=>Or.inr (Or.inr (Or.inr e))) Or.inl
   have hs2:=C2.out.size
   have y0:=cell_of_block B2.out 0 _ rfl
   have z0:=cell_of_block Q2.out 0 _ rfl
   have z1:=cell_of_block Q2.out 1 _ rfl
   have z2:=cell_of_block Q2.out 2 _ rfl
   have z3:=cell_of_block Q2.out 3 _ rfl
   have z4:=cell_of_block Q2.out 4 _ rfl
   have bp:Hid (b ≠ p):=fun e=>by
    subst e
    obtain ⟨es,cl,h4,_⟩:=FM2.out.own
    have:=B2.out
    rw [h4] at this;cases this
   obtain ⟨V,hV⟩:∃ V,V=w2.alloc (.cells #[.bool vb,.int .i64 (xp:Nat),.int .i64 (xq:Nat),.int .i64 (xr:Nat),.int .i64 (xs:Nat)] 249):=⟨_,rfl⟩
   have R3:Hid ((w2.alloc (.cells #[.bool vb,.int .i64 (xp:Nat),.int .i64 (xq:Nat),.int .i64 (xr:Nat),.int .i64 (xs:Nat)] 249)).drew.ownsRow base 249 5 (.slice ao X.length cap) X.length (sptCells X)):=row_kp (row_kp hR.out (hbl.kp _)) (Kp.below (below_alloc w2 _).drew)
   have FM3:Hid (FMapK (w2.alloc (.cells #[.bool vb,.int .i64 (xp:Nat),.int .i64 (xq:Nat),.int .i64 (xr:Nat),.int .i64 (xs:Nat)] 249)).drew b (X++[(vb,[xp,xq,xr,xs])]) (D.put lx (.lit (.int .i64 (X.length:Nat))))):=FM2.out.kept (Below.heap_alloc _ _ _ FM2.out.own.lt)
   have B3:Hid ((w2.alloc (.cells #[.bool vb,.int .i64 (xp:Nat),.int .i64 (xq:Nat),.int .i64 (xr:Nat),.int .i64 (xs:Nat)] 249)).drew.heap[p]?=some (.cells #[.slice ao X.length cap,.map (some b)] 164 (0,0))):=(Below.heap_alloc _ _ _ (heap_lt B2.out)).trans B2.out
   have u0:(w2.alloc (.cells #[.bool vb,.int .i64 (xp:Nat),.int .i64 (xq:Nat),.int .i64 (xr:Nat),.int .i64 (xs:Nat)] 249)).cell? ⟨p,0,none⟩=some (.slice ao X.length cap):=cell_of_block (w:=(w2.alloc _)) B3.out 0 _ rfl
   clear hown2 hturn2 hg2 hbl hw1s
   go_wp2_with fail
   go_region
   all_goals go_wp2_with fail
   all_goals go_region
   all_goals go_wp2_with fail
   all_goals go_region_law (first
    | (refine step_push2 rfl (.tmp 42) (.tmp 44) 161 rfl base 249 (.agg #[.bool false,.int .i64 0,.int .i64 0,.int .i64 0,.int .i64 0]) 5 40 Tryz.infoK Tryz.undKs rfl (by decide) (.slice ao X.length cap) X.length (sptCells X) (by simp [Act.eval]) R3.out w2.heap.size 1 (spotCell (vb,[xp,xq,xr,xs])) (by simp [Act.eval]) rfl (spt_newK w2 vb xp xq xr xs) (spot_one _) (by omega) (by omega) (by simp;omega) ?_
       intro v' W3 hown hgr hsn
       obtain ⟨ao',cap',rfl⟩:=row_shape hown
       have HO:Hid (W3.ownsRow base 249 5 (.slice ao' (X.length+1) cap') (X.length+1) (sptCells X++spotCell (vb,[xp,xq,xr,xs]))):=hown
       have HG:Hid ((w2.alloc (.cells #[.bool vb,.int .i64 (xp:Nat),.int .i64 (xq:Nat),.int .i64 (xr:Nat),.int .i64 (xs:Nat)] 249)).drew.grownBy W3 (Value.slice ao X.length cap).ownBlock):=hgr
       have HS:Hid (SameOrNew (w2.alloc (.cells #[.bool vb,.int .i64 (xp:Nat),.int .i64 (xq:Nat),.int .i64 (xr:Nat),.int .i64 (xs:Nat)] 249)).drew (.slice ao X.length cap) (.slice ao' (X.length+1) cap')):=hsn
       have hq3:=kept_grown B3.out (Kp.refl _ _) R3.out hgr (by decide)
       have i0:=cell_of_block hq3 0 _ rfl
       have if0:=free_of_block hq3
       clear hown hgr hsn hq3))
   all_goals go_wp2_with fail
   all_goals go_ret
   all_goals have hgr:=HG.out
   all_goals have hq3:=kept_grown B3.out (Kp.refl _ _) R3.out hgr (by decide)
   all_goals have B4:Hid (W3.heap[p]?=some (.cells #[.slice ao X.length cap,.map (some b)] 164 (0,0))):=hq3
   all_goals have R4:=HO
   all_goals have FM4:Hid (FMapK W3 b (X++[(vb,[xp,xq,xr,xs])]) (D.put lx (.lit (.int .i64 (X.length:Nat))))):=FM3.out.kept (hgr.block b FM3.out.own.lt (fun e=>fmapK_row FM3.out R3.out e))
   all_goals have C4:Hid (Chg (AtK p X.length ao cap mo) w W3):=(C2.out.alloc _).drew.grown hgr (fun k e=>Or.inr (Or.inr (Or.inl e)))
   all_goals have SN:Hid (∀ k,(Value.slice ao' (X.length+1) cap').ownBlock=some k->(Value.slice ao X.length cap).ownBlock=some k\/w.heap.size<=k):=same_new HS.out (by show w.heap.size<=_;simp;omega)
   all_goals exact ⟨X.length,X++[(vb,[xp,xq,xr,xs])],ao',cap',some b,rfl,⟨by rw [List.length_append];exact (block_setCell B4.out 0 _).trans rfl,by rw [List.length_append,sptCells_snoc];exact row_kp R4.out ((Kp.refl _ _).setCell B4.out (by decide) _),
    Or.inr ⟨b,_,rfl,hM.out.2.1,FM4.out.kept (setCell_type bp.out)⟩,nodup_snoc HF.out.nodup hnot.out,all_snoc HF.out.ok HX.out⟩,Or.inr ⟨hnot.out,rfl,rfl⟩,
    hM.out.2.2.elim (fun e=>Or.inl e.symm) (fun e=>Or.inr ⟨b,rfl,e⟩),by rw [List.length_append];exact SN.out,C4.out.setCell (q:=⟨p,0,none⟩) (Or.inr (Or.inl rfl)) _⟩
  ·have hin:=hmem.1.1 hh
   obtain ⟨i,hi⟩:=List.mem_iff_getElem?.1 hin
   have hci:=hmem.2 i hi
   rw [hc'] at hci
   have ec:c=(i:Int):=by injection hci with hci;injection hci
   subst ec
   have HI:Hid (X[i]?=some (vb,[xp,xq,xr,xs])):=hi
   rw [hh] at hrun
   clear hc hc' hv hmem hin hi hci
   go_wp2_with fail
   go_region
   all_goals go_wp2_with fail
   all_goals go_ret
   all_goals refine ⟨i,X,ao,cap,some b,rfl,⟨hB.out,hR.out,Or.inr ⟨b,D,rfl,hM.out.2.1,hM.out.1.kept rfl⟩,HF.out.nodup,HF.out.ok⟩,Or.inl ⟨rfl,HI.out⟩,?_,fun k hk=>Or.inl hk,hC.out.drew⟩
   all_goals exact hM.out.2.2.elim (fun e=>Or.inl e.symm) fun e=>Or.inr ⟨b,rfl,e⟩
end Go.Proofs.YtodagkkjfipbgaaGreatDoor
