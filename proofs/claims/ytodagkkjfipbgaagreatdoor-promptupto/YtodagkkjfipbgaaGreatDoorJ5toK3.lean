import Derived.Test.YtodagkkjfipbgaaGreatDoorK1toJ4
namespace Go.Proofs.YtodagkkjfipbgaaGreatDoor
open Go.RowKit Go.Maps
theorem Tryz.infoSet:(Tryz.prog.info? 296).map (fun i=>(i.zero,i.size,i.bytes))=some (some (.map none),1,8):=by kernel_rfl
theorem Tryz.undSets:Tryz.prog.underlying 339=some (.slice 296):=by kernel_rfl
set_option maxRecDepth 100000 in
set_option maxHeartbeats 1000000 in
theorem same_any (w:World) (b bw q N:Nat) (S Sw:Nat->Prop) (h1:SetAt w b N S) (h2:SetAt w bw N Sw) (hN:N<=9000) (hq:w.cell? ⟨q,0,none⟩=some (.map (some bw))) :
  Calls Tryz.prog 229 #[.map (some b),.pointer (some ⟨q,0,none⟩)] w (EqPost S Sw w):=by
 have H1:Hid (SetAt w b N S):=h1
 have H2:Hid (SetAt w bw N Sw):=h2
 clear h1 h2
 go_enter Tryz.func229,Tryz.ntmps229
 go_wp2_with fail
 refine (equal_any w b bw N S Sw H1.out H2.out hN).mono ?_
 rintro r w1 ⟨c,rfl,hc,hb⟩
 have HC:Hid (c=true↔∀ x,S x↔Sw x):=hc
 clear hc
 go_wp2_with fail
 go_ret
 exact ⟨c,rfl,HC.out,hb⟩
def SRow (w:World) (base:Nat) (v:Value) (N:Nat) (Ss:List (Nat->Prop)) (bs:List Nat):Prop :=
 bs.length=Ss.length/\w.ownsRow base 296 1 v Ss.length (bs.map fun b=>Value.map (some b))/\∀ (i:Nat) (b:Nat) (S:Nat->Prop),bs[i]?=some b->Ss[i]?=some S->SetAt w b N S
theorem SRow.form {w:World} {base N:Nat} {v:Value} {Ss:List (Nat->Prop)} {bs:List Nat} (h:SRow w base v N Ss bs) :
  ∃ ao cap,v=.slice ao Ss.length cap/\∀ i (hi:i<Ss.length),∃ g b,ao=some ⟨g,0,none⟩/\bs[i]?=some b/\w.cell? ⟨g,i,none⟩=some (.map (some b))/\SetAt w b N Ss[i]:=by
 obtain ⟨hl,⟨h2,h3⟩,h4⟩:=h
 rcases h3 with ⟨hv,hn⟩ | ⟨g,cap,cur,hv,hg,hh,hcap,hmx,hsz,hcur⟩
 ·exact ⟨none,0,by rw [hv,hn],fun i hi=>by omega⟩
 ·refine ⟨some ⟨g,0,none⟩,cap,hv,fun i hi=>?_⟩
  obtain ⟨b,hb⟩:∃ b,bs[i]?=some b:=⟨bs[i]'(by omega),List.getElem?_eq_getElem (by omega)⟩
  refine ⟨g,b,rfl,hb,?_,h4 i _ _ hb (List.getElem?_eq_getElem hi)⟩
  refine cell_of_block hh i _ ?_
  have e1:(cur.toList.take (Ss.length * 1))[i]?=some (.map (some b)):=by rw [hcur,List.getElem?_map,hb];rfl
  rw [List.getElem?_take,if_pos (by omega)] at e1
  simpa using e1
theorem SRow.below {w w':World} {base N:Nat} {v:Value} {Ss:List (Nat->Prop)} {bs:List Nat} (h:SRow w base v N Ss bs) (hb:Below w.heap.size w w'):SRow w' base v N Ss bs :=
 ⟨h.1,row_kp h.2.1 (Kp.below hb),fun i b S h1 h2=>(h.2.2 i b S h1 h2).below hb⟩
def IdxPost (Ss:List (Nat->Prop)) (Sw:Nat->Prop) (w:World) (r:Ending) (w':World):Prop :=
 ∃ i:Int,r=.returned (.int .i64 i)/\((i=-1/\Sw ∉ Ss)\/∃ n:Nat,i=n/\Ss[n]?=some Sw)/\Below w.heap.size w w'
theorem set_ext {S T:Nat->Prop} (h:∀ x,S x↔T x):S=T:=funext fun x=>propext (h x)
set_option maxRecDepth 100000 in
set_option maxHeartbeats 2000000 in
theorem sindex_any (w:World) (base bw q N:Nat) (v:Value) (Ss:List (Nat->Prop)) (bs:List Nat) (Sw:Nat->Prop) (h1:SRow w base v N Ss bs) (h2:SetAt w bw N Sw) (hN:N<=9000) (hl:Ss.length<=9000) (hq:w.heap[q]?=some (.cells #[.map (some bw)] 296 (0,0))) :
  Calls Tryz.prog 228 #[v,.func (.func 229) #[] #[.pointer (some ⟨q,0,none⟩)]] w (IdxPost Ss Sw w):=by
 obtain ⟨ao,cap,rfl,hf⟩:=h1.form
 have HF:Hid (∀ i (hi:i<Ss.length),∃ g b,ao=some ⟨g,0,none⟩/\bs[i]?=some b/\w.cell? ⟨g,i,none⟩=some (.map (some b))/\SetAt w b N Ss[i]):=hf
 have H2:Hid (SetAt w bw N Sw):=h2
 have HQ:Hid (w.heap[q]?=some (.cells #[.map (some bw)] 296 (0,0))):=hq
 have hen:∀ (args:Array Value) (w:World),(callFunc 229 args).run Tryz.prog w=.ok (.enter 229 args) w:=enters_of Tryz.func229 (by kernel_rfl) rfl
 clear h1 h2 hf hq
 go_enter Tryz.func228,Tryz.ntmps228
 go_wp2_with fail
 go_loopg [8] Ss.length (fun gh iv wx=>∃ i:Nat,i<=Ss.length/\gh=Ss.length - i/\iv=.int .i64 i/\Hid (∀ j,j<i->Ss[j]? ≠ some Sw)/\Hid (Below w.heap.size w wx))
 case atStart=>exact ⟨0,Nat.zero_le _,rfl,rfl,(fun j hj=>absurd hj (Nat.not_lt_zero _)),Below.refl _ _⟩
 case round =>
  obtain ⟨i,hi,rfl,rfl,hno,hB⟩:=hrel
  obtain ⟨w1,hw1⟩:∃ w1,w1=wr:=⟨wr,rfl⟩
  subst hw1
  by_cases hlt:i<Ss.length
  ·obtain ⟨g,b,rfl,_,hc,hS⟩:=HF.out i hlt
   have hc1:=(KpA.below hB.out).cell hc
   have HS:Hid (SetAt w1 b N Ss[i]):=hS.below hB.out
   have hq1:=(KpA.below hB.out).cell (cell_of_block HQ.out 0 _ rfl)
   have HI:Hid (Ss[i]?=some Ss[i]):=List.getElem?_eq_getElem hlt
   generalize Ss[i]=S at HS HI
   clear hS hc
   go_wp2_with fail
   refine (same_any w1 b bw q N S Sw HS.out (H2.out.below hB.out) hN hq1).mono ?_
   rintro r w2 ⟨c,rfl,hc,hb2⟩
   have B2:Hid (Below w.heap.size w w2):=hB.out.trans (hb2.mono hB.out.size)
   cases c
   ·have hno2:Hid (∀ j,j<i+1->Ss[j]? ≠ some Sw):=fun j hj e=>by
     by_cases e1:j=i
     ·subst e1
      rw [HI.out] at e
      cases e
      have:=hc.2 (fun x=>Iff.rfl)
      cases this
     ·exact hno.out j (by omega) e
    clear hc
    go_wp2_with fail
    go_roundg (Ss.length - (i+1))
    case measure=>omega
    case rel=>exact ⟨i+1,by omega,rfl,by go_num,hno2,B2⟩
   ·have he:Hid (S=Sw):=set_ext (hc.1 rfl)
    clear hc
    go_wp2_with fail
    go_ret
    exact ⟨i,rfl,Or.inr ⟨i,rfl,by rw [HI.out,he.out]⟩,B2.out⟩
  ·go_wp2_with fail
   go_ret
   refine ⟨-1,rfl,Or.inl ⟨rfl,fun hm=>?_⟩,hB.out⟩
   obtain ⟨j,hj⟩:=List.mem_iff_getElem?.1 hm
   exact hno.out j (by have:=(List.getElem?_eq_some_iff.1 hj).1;omega) hj
theorem results_two {P:Program} {fn:Func} {p u:Tmp} (h:fn.results=#[.tmp p,.tmp u]) (tmps:Array Value) (w:World) :
  (results fn tmps).run P w=.ok (.tuple #[tmps.getD p undef,tmps.getD u undef]) w:=by
 simp [results,h]
theorem one_map (b:Nat):∀ u ∈ [Value.map (some b)],u.oneCell'=true:=by
 intro u hu;simp at hu;subst hu;rfl
theorem SRow.grown {w w':World} {base N:Nat} {v v':Value} {Ss:List (Nat->Prop)} {bs:List Nat} {b:Nat} {S:Nat->Prop} (h:SRow w base v N Ss bs) (hs:SetAt w b N S) (hg:w.grownBy w' v.ownBlock) (ho:w'.ownsRow base 296 1 v' (Ss.length+1) ((bs.map fun b=>Value.map (some b))++[.map (some b)])):SRow w' base v' N (Ss++[S]) (bs++[b]):=by
 have keep:∀ {c T},SetAt w c N T->SetAt w' c N T:=fun {c T} hc=>hc.kept (hg.block c hc.blk (fun e=>by
  obtain ⟨cs,hh⟩:=row_type h.2.1 c e.symm
  obtain ⟨D,hD⟩:=hc
  obtain ⟨es,cl,h1,_⟩:=hD.own
  rw [h1] at hh;cases hh))
 refine ⟨by simp [h.1],by simpa using ho,?_⟩
 intro i c T hc hT
 rcases snoc_at hc with ⟨h3,h4⟩ | ⟨h3,rfl⟩
 ·rcases snoc_at hT with ⟨h5,h6⟩ | ⟨h5,rfl⟩
  ·exact keep (h.2.2 i c T h3 h5)
  ·have:=h.1;omega
 ·rcases snoc_at hT with ⟨h5,h6⟩ | ⟨h5,rfl⟩
  ·have:=h.1;omega
  ·exact keep hs
def SameOrNewer (w:World) (v v':Value):Prop:=v'.ownBlock=v.ownBlock\/∃ k,v'.ownBlock=some k/\w.heap.size<=k
def Found (Ss:List (Nat->Prop)) (Sw:Nat->Prop) (Ss':List (Nat->Prop)) (n:Nat):Prop:=(Ss'=Ss/\Ss[n]?=some Sw)\/(Ss'=Ss++[Sw]/\n=Ss.length/\Sw ∉ Ss)
def FindPost (base N:Nat) (v:Value) (Ss:List (Nat->Prop)) (bs:List Nat) (Sw:Nat->Prop) (w:World) (r:Ending) (w':World):Prop :=
 ∃ v' n Ss' bs',r=.returned (.tuple #[v',.int .i64 (n:Nat)])/\SRow w' base v' N Ss' bs'/\Found Ss Sw Ss' n/\bs <+: bs'/\Chg (fun k=>v.ownBlock=some k) w w'/\SameOrNewer w v v'
set_option maxRecDepth 100000 in
set_option maxHeartbeats 2000000 in
theorem find_any (w:World) (base bw N:Nat) (v:Value) (Ss:List (Nat->Prop)) (bs:List Nat) (Sw:Nat->Prop) (h1:SRow w base v N Ss bs) (h2:SetAt w bw N Sw) (hN:N<=9000) (hl:Ss.length<=9000) (hbase:base<=w.heap.size) :
  Calls Tryz.prog 210 #[v,.map (some bw)] w (FindPost base N v Ss bs Sw w):=by
 have H1:Hid (SRow w base v N Ss bs):=h1
 have H2:Hid (SetAt w bw N Sw):=h2
 obtain ⟨ao,cap,rfl,_⟩:=h1.form
 clear h1 h2
 go_enter Tryz.func210,Tryz.ntmps210
 go_wp2_with fail
 refine (sindex_any _ base bw w.heap.size N _ Ss bs Sw (H1.out.below (below_alloc w _)) (H2.out.below (below_alloc w _)) hN hl (heap_alloc_new w _)).mono ?_
 rintro r w1 ⟨i,rfl,hi,hb⟩
 have B1:Hid (Below w.heap.size w w1):=(below_alloc w _).trans (hb.mono (by simp))
 have c1:w1.cell? ⟨w.heap.size,0,none⟩=some (.map (some bw)):=(hb.cell (p:=⟨w.heap.size,0,none⟩) (by simp)).trans (cell_of_block (heap_alloc_new w _) 0 _ rfl)
 clear hb
 rcases hi with ⟨rfl,hno⟩ | ⟨n,rfl,hn⟩
 ·have HNO:Hid (Sw ∉ Ss):=hno
  clear hno
  have BA:Hid (Below w.heap.size w (w1.alloc (.cells #[.map (some bw)] 296))):=B1.out.alloc B1.out.size _
  have RA:Hid (SRow (w1.alloc (.cells #[.map (some bw)] 296)) base (.slice ao Ss.length cap) N Ss bs):=H1.out.below BA.out
  have SA:Hid (SetAt (w1.alloc (.cells #[.map (some bw)] 296)) bw N Sw):=H2.out.below BA.out
  have LA:base<=(w1.alloc (.cells #[.map (some bw)] 296)).heap.size:=Nat.le_trans hbase BA.out.size
  have NA:w.heap.size<=(w1.alloc (.cells #[.map (some bw)] 296)).heap.size:=BA.out.size
  go_wp2_with (at_builtin;refine wpList_push2 rfl (.tmp 14) (.tmp 16) 339 rfl base 296 (.map none) 1 8 Tryz.infoSet Tryz.undSets rfl (by decide) (.slice ao Ss.length cap) Ss.length _ rfl RA.out.2.1 w1.heap.size 1 [.map (some bw)] rfl rfl (fun j u hu=>cell_of_block (heap_alloc_new w1 _) j u (by simpa using hu)) (one_map bw) (by omega) (by omega) LA ?_;intro v' w2 hown hg hsn;have RN:Hid (SRow w2 base v' N (Ss++[Sw]) (bs++[bw])):=RA.out.grown SA.out hg hown;have CN:Hid (Chg (fun k=>Value.ownBlock (.slice ao Ss.length cap)=some k) w w2):=(Chg.of_below BA.out).grown hg (fun k e=>Or.inr e);have NN:Hid (SameOrNewer w (.slice ao Ss.length cap) v'):=hsn.imp id (fun e=>⟨_,e,NA⟩);clear hown hg hsn)
  refine bodyPost_ret (results_two rfl _ _) rfl ?_
  exact ⟨_,Ss.length,_,_,rfl,RN.out,Or.inr ⟨rfl,rfl,HNO.out⟩,List.prefix_append _ _,CN.out,NN.out⟩
 ·have HN:Hid (Ss[n]?=some Sw):=hn
  clear hn
  go_wp2_with fail
  refine bodyPost_ret (results_two rfl _ _) rfl ?_
  exact ⟨_,n,Ss,bs,rfl,H1.out.below B1.out,Or.inl ⟨rfl,HN.out⟩,List.prefix_refl _,Chg.of_below B1.out,Or.inl rfl⟩
theorem Tryz.infoSpot:(Tryz.prog.info? 341).map (fun i=>(i.zero,i.size,i.bytes))=some (some (.agg #[.bool false,.int .i64 0,.int .i64 0,.int .i64 0,.int .i64 0,.int .i64 0,.int .i64 0,.int .i64 0,.int .i64 0]),9,72):=by kernel_rfl
theorem Tryz.undTable:Tryz.prog.underlying 150=some (.slice 341):=by kernel_rfl
def spotCell (o:Bool × List Nat):List Value:=.bool o.1 :: o.2.map fun (n:Nat)=>Value.int .i64 (n:Int)
def spotCells (tab:List (Bool × List Nat)):List Value:=tab.flatMap spotCell
def TabIn (base:Nat) (w:World) (v:Value) (tab:List (Bool × List Nat)):Prop:=w.ownsRow base 341 9 v tab.length (spotCells tab)
def TabOk (nx:(Nat->Prop)->Nat->Nat->Prop) (goal:Nat) (Ss:List (Nat->Prop)) (tab:List (Bool × List Nat)):Prop :=
 ∀ (i:Nat) (m:Bool) (l:List Nat),tab[i]?=some (m,l)->l.length=8/\∃ S,Ss[i]?=some S/\(m=true↔S goal)/\∀ k,k<8->∃ n,l[k]?=some n/\Ss[n]?=some (nx S k)
theorem at_prefix {α:Type} {l l':List α} {i:Nat} {x:α} (h:l <+: l') (hi:l[i]?=some x):l'[i]?=some x:=by
 obtain ⟨t,rfl⟩:=h
 rw [List.getElem?_append_left (List.getElem?_eq_some_iff.1 hi).1];exact hi
theorem TabOk.more {nx:(Nat->Prop)->Nat->Nat->Prop} {goal:Nat} {Ss Ss':List (Nat->Prop)} {tab:List (Bool × List Nat)} (h:TabOk nx goal Ss tab) (hp:Ss <+: Ss'):TabOk nx goal Ss' tab:=fun i m l hi=>by
 obtain ⟨h1,S,h2,h3,h4⟩:=h i m l hi
 refine ⟨h1,S,at_prefix hp h2,h3,fun k hk=>?_⟩
 obtain ⟨n,h5,h6⟩:=h4 k hk
 exact ⟨n,h5,at_prefix hp h6⟩
theorem TabOk.snoc {nx:(Nat->Prop)->Nat->Nat->Prop} {goal:Nat} {Ss:List (Nat->Prop)} {tab:List (Bool × List Nat)} {m:Bool} {l:List Nat} {S:Nat->Prop} (h:TabOk nx goal Ss tab) (hS:Ss[tab.length]?=some S) (hm:m=true↔S goal) (hl:l.length=8)
  (hk:∀ k,k<8->∃ n,l[k]?=some n/\Ss[n]?=some (nx S k)):TabOk nx goal Ss (tab++[(m,l)]):=fun i m' l' hi=>by
 rcases snoc_at hi with ⟨h1,_⟩ | ⟨h1,h2⟩
 ·exact h i m' l' h1
 ·cases h2;subst h1;exact ⟨hl,S,hS,hm,hk⟩
def NextOk (base:Nat) (w0:World) (f:Nat) (c1 c2:Value) (N:Nat) (nx:(Nat->Prop)->Nat->Nat->Prop) (All:List (Nat->Prop)):Prop :=
 ∀ (W:World) (b k:Nat) (S:Nat->Prop),Below base w0 W->SetAt W b N S->S ∈ All->k<8->Calls Tryz.prog f #[.map (some b),.int .u8 k,c1,c2] W fun r w'=>∃ b',r=.returned (.map (some b'))/\SetAt w' b' N (nx S k)/\Below W.heap.size W w'
structure Sets (All Ss0 Ss:List (Nat->Prop)):Prop where
 nodup:Ss.Nodup
 sub:∀ S ∈ Ss,S ∈ All
 pre:Ss0 <+: Ss
theorem Sets.len {All Ss0 Ss:List (Nat->Prop)} (h:Sets All Ss0 Ss):Ss.length<=All.length:=List.Nodup.length_le_of_subset h.nodup h.sub
theorem Sets.found {All Ss0 Ss Ss':List (Nat->Prop)} {S:Nat->Prop} {n:Nat} (h:Sets All Ss0 Ss) (hf:Found Ss S Ss' n) (hS:S ∈ All):Sets All Ss0 Ss'/\Ss <+: Ss'/\Ss'[n]?=some S:=by
 rcases hf with ⟨rfl,h2⟩ | ⟨rfl,rfl,h2⟩
 ·exact ⟨h,List.prefix_refl _,h2⟩
 ·refine ⟨⟨?_,?_,h.pre.trans (List.prefix_append _ _)⟩,List.prefix_append _ _,by simp⟩
  ·rw [List.nodup_append]
   refine ⟨h.nodup,by simp,fun a ha b hb e=>?_⟩
   simp at hb
   subst hb;subst e
   exact h2 ha
  ·intro T hT
   rw [List.mem_append] at hT
   rcases hT with hT | hT
   ·exact h.sub T hT
   ·simp at hT;subst hT;exact hS
theorem SRow.form_at {w:World} {base N i cap:Nat} {ao:Option Addr} {Ss:List (Nat->Prop)} {bs:List Nat} (h:SRow w base (.slice ao Ss.length cap) N Ss bs) (hi:i<Ss.length) :
  ∃ g b,ao=some ⟨g,0,none⟩/\bs[i]?=some b/\w.cell? ⟨g,i,none⟩=some (.map (some b))/\SetAt w b N Ss[i]:=by
 obtain ⟨ao',cap',e,hf⟩:=h.form
 injection e with e1 _ _
 subst e1
 exact hf i hi
def TablePost (base:Nat) (nx:(Nat->Prop)->Nat->Nat->Prop) (goal:Nat) (All Ss0:List (Nat->Prop)) (w:World) (r:Ending) (w':World):Prop :=
 ∃ v tab Ss,r=.returned v/\TabIn base w' v tab/\tab.length=Ss.length/\Sets All Ss0 Ss/\TabOk nx goal Ss tab/\Below base w w'
theorem eight {l:List Nat} (h:l.length=8):∃ a b c d e f g i,l=[a,b,c,d,e,f,g,i]:=by
 match l,h with
 | [a,b,c,d,e,f,g,i],_=>exact ⟨a,b,c,d,e,f,g,i,rfl⟩
theorem set_not_cells {w:World} {b N:Nat} {S:Nat->Prop} (h:SetAt w b N S) {q:Nat} {cs:Array Value} {t:TypeId} {m:Nat × Nat} (hq:w.heap[q]?=some (.cells cs t m)):b ≠ q:=by
 intro e
 subst e
 obtain ⟨D,hD⟩:=h
 obtain ⟨es,cl,h1,_⟩:=hD.own
 rw [h1] at hq;cases hq
theorem SetAt.setCell {w:World} {b N:Nat} {S:Nat->Prop} (h:SetAt w b N S) {q:Nat} {cs:Array Value} {t:TypeId} {m:Nat × Nat} (hq:w.heap[q]?=some (.cells cs t m)) (o:Nat) (u:Value):SetAt (w.setCell ⟨q,o,none⟩ u) b N S :=
 h.kept (Below.heap_setCell _ _ _ _ (set_not_cells h hq))
theorem SetAt.chgOwn {w w':World} {b N base size n:Nat} {S:Nat->Prop} {e:TypeId} {v:Value} {us:List Value} (h:SetAt w b N S) (hrow:w.ownsRow base e size v n us) (hC:Chg (fun k=>v.ownBlock=some k) w w'):SetAt w' b N S :=
 h.kept (hC.block b h.blk (fun e1=>by obtain ⟨cs,hh⟩:=row_type hrow b e1;exact set_not_cells h hh rfl))
theorem kp_own {w w':World} {base size n:Nat} {t e:TypeId} {v:Value} {us:List Value} (hrow:w.ownsRow base e size v n us) (hC:Chg (fun k=>v.ownBlock=some k) w w') (ht:t ≠ e):Kp t w w':=fun k cs m hh=>by
 rw [hC.block k (heap_lt hh) (fun e1=>by obtain ⟨c2,h2⟩:=row_type hrow k e1;exact type_ne hh h2 ht rfl)];exact hh
theorem SRow.setCell {w:World} {base N:Nat} {v:Value} {Ss:List (Nat->Prop)} {bs:List Nat} (h:SRow w base v N Ss bs) {q:Nat} {cs:Array Value} {m:Nat × Nat} (hq:w.heap[q]?=some (.cells cs 341 m)) (o:Nat) (u:Value):SRow (w.setCell ⟨q,o,none⟩ u) base v N Ss bs :=
 ⟨h.1,row_kp h.2.1 ((Kp.refl _ _).setCell hq (by decide) u),fun i b S h1 h2=>(h.2.2 i b S h1 h2).setCell hq o u⟩
theorem below_chg {w w':World} {base size n:Nat} {e:TypeId} {v:Value} {us:List Value} (hrow:w.ownsRow base e size v n us) (hC:Chg (fun k=>v.ownBlock=some k) w w') (hb:base<=w.heap.size):Below base w w' :=
 hC.below hb (fun k hk e1=>by have:=(hrow.lt k e1).1;omega)
theorem spotCells_snoc (tab:List (Bool × List Nat)) (o:Bool × List Nat):spotCells (tab++[o])=spotCells tab++spotCell o:=by unfold spotCells;simp
theorem spotCell_set (c:Bool) (l:List Nat) (k n:Nat):(spotCell (c,l)).toArray.setIfInBounds (1+k) (.int .i64 n)=(spotCell (c,l.set k n)).toArray:=by
 unfold spotCell
 rw [List.setIfInBounds_toArray,Nat.add_comm 1 k,List.set_cons_succ,List.map_set]
theorem spotCell_one (c:Bool) (l:List Nat):∀ u ∈ spotCell (c,l),u.oneCell'=true:=by
 intro u hu
 unfold spotCell at hu
 simp only [List.mem_cons,List.mem_map] at hu
 rcases hu with rfl | ⟨n,_,rfl⟩ <;> rfl
theorem spot_new (w:World) (c:Bool) (l:List Nat) (j:Nat) (u:Value) (hu:(spotCell (c,l))[j]?=some u):(w.alloc (.cells (spotCell (c,l)).toArray 341)).cell? ⟨w.heap.size,j,none⟩=some u:=cell_of_block (heap_alloc_new w _) j u (by simpa using hu)
def Spots (nx:(Nat->Prop)->Nat->Nat->Prop) (S:Nat->Prop) (Ss:List (Nat->Prop)) (l:List Nat) (k:Nat):Prop:=l.length=8/\∀ j,j<k->∃ n,l[j]?=some n/\Ss[n]?=some (nx S j)
theorem Spots.next {nx:(Nat->Prop)->Nat->Nat->Prop} {S:Nat->Prop} {Ss Ss':List (Nat->Prop)} {l:List Nat} {k n:Nat} (h:Spots nx S Ss l k) (hk:k<8) (hp:Ss <+: Ss') (hn:Ss'[n]?=some (nx S k)):Spots nx S Ss' (l.set k n) (k+1):=by
 refine ⟨by rw [List.length_set];exact h.1,fun j hj=>?_⟩
 by_cases e:j=k
 ·subst e
  exact ⟨n,by rw [List.getElem?_set_self (by have:=h.1;omega)],hn⟩
 ·obtain ⟨n',h1,h2⟩:=h.2 j (by omega)
  exact ⟨n',by rw [List.getElem?_set_ne (fun e'=>e e'.symm)];exact h1,at_prefix hp h2⟩
set_option maxRecDepth 100000 in
set_option maxHeartbeats 4000000 in
theorem table_any (base:Nat) (w:World) (f p1 p2 N goal:Nat) (nx:(Nat->Prop)->Nat->Nat->Prop) (All Ss0:List (Nat->Prop)) (vs:Value) (bs0:List Nat) (hen:∀ (args:Array Value) (w:World),(callFunc f args).run Tryz.prog w=.ok (.enter f args) w)
  (hnx:NextOk base w f (.pointer (some ⟨p1,0,none⟩)) (.pointer (some ⟨p2,0,none⟩)) N nx All) (hall:∀ S ∈ All,∀ k,k<8->nx S k ∈ All) (hlen:All.length<=1000) (hN:N<=9000) (hgoal:goal<=9000) (hs0:SRow w base vs N Ss0 bs0) (hSs:Sets All Ss0 Ss0) (hbase:base<=w.heap.size) :
  Calls Tryz.prog 179 #[.func (.func f) #[] #[.pointer (some ⟨p1,0,none⟩),.pointer (some ⟨p2,0,none⟩)],.int .i64 goal,vs] w (TablePost base nx goal All Ss0 w):=by
 have HNX:Hid (NextOk base w f (.pointer (some ⟨p1,0,none⟩)) (.pointer (some ⟨p2,0,none⟩)) N nx All):=hnx
 have HS0:Hid (SRow w base vs N Ss0 bs0):=hs0
 have HALL:Hid (∀ S ∈ All,∀ k,k<8->nx S k ∈ All):=hall
 clear hnx hall hs0
 go_enter Tryz.func179,Tryz.ntmps179
 go_wp2_with fail
 go_loopg [7,2] All.length (fun gh tv sv wx=>∃ (tab:List (Bool × List Nat)) (Ss:List (Nat->Prop)) (bs:List Nat) (ao:Option Addr) (cap:Nat) (ao2:Option Addr) (cap2:Nat),gh+tab.length=All.length/\tab.length<=Ss.length/\tv=.slice ao tab.length cap/\sv=.slice ao2 Ss.length cap2/\Hid (TabIn base wx (.slice ao tab.length cap) tab)/\Hid (SRow wx base (.slice ao2 Ss.length cap2) N Ss bs)/\Hid (Sets All Ss0 Ss)/\Hid (TabOk nx goal Ss tab)/\Hid (Below base w wx))
 case atStart =>
  obtain ⟨ao2,cap2,e,_⟩:=HS0.out.form
  subst e
  exact ⟨[],Ss0,bs0,none,0,ao2,cap2,rfl,Nat.zero_le _,rfl,rfl,World.ownsRow_nil _ _ _ _,HS0,hSs,(fun i m l h=>by simp at h),Below.refl _ _⟩
 case round =>
  obtain ⟨tab,Ss,bs,ao,cap,ao2,cap2,hg,hle,rfl,rfl,hT,hS,hSets,hOk,hB⟩:=hrel
  obtain ⟨w1,hw1⟩:∃ w1,w1=wr:=⟨wr,rfl⟩
  subst hw1
  have hsl:=hSets.out.len
  by_cases hlt:tab.length<Ss.length
  ·obtain ⟨g,b,hao,_,hcb,hSb⟩:=hS.out.form_at hlt
   subst hao
   have HS1:Hid (Ss[tab.length]?=some Ss[tab.length]):=List.getElem?_eq_getElem hlt
   have HSA:Hid (Ss[tab.length] ∈ All):=hSets.out.sub _ (List.getElem_mem hlt)
   have HSB:Hid (SetAt w1 b N Ss[tab.length]):=hSb
   generalize Ss[tab.length]=S at HS1 HSA HSB
   clear hSb
   go_wp2_with fail
   refine (has_any w1 b N goal S HSB.out (by omega)).mono ?_
   rintro r w2 ⟨c,rfl,hc,hb2⟩
   have HC:Hid (c=true↔S goal):=hc
   have hs1:=hB.out.size
   have hs2:=hb2.size
   have hq0:=heap_alloc_new w2 (.cells (spotCell (c,[0,0,0,0,0,0,0,0])).toArray 341)
   have B3:Hid (Below w1.heap.size w1 (w2.alloc (.cells (spotCell (c,[0,0,0,0,0,0,0,0])).toArray 341))):=hb2.trans ((below_alloc w2 _).mono hs2)
   clear hc hb2
   have T3:Hid (TabIn base (w2.alloc (.cells (spotCell (c,[0,0,0,0,0,0,0,0])).toArray 341)) (.slice ao tab.length cap) tab):=row_kp hT.out (Kp.below B3.out)
   have S3:Hid (SRow (w2.alloc (.cells (spotCell (c,[0,0,0,0,0,0,0,0])).toArray 341)) base (.slice (some ⟨g,0,none⟩) Ss.length cap2) N Ss bs):=hS.out.below B3.out
   have SB3:Hid (SetAt (w2.alloc (.cells (spotCell (c,[0,0,0,0,0,0,0,0])).toArray 341)) b N S):=HSB.out.below B3.out
   have BB3:Hid (Below base w (w2.alloc (.cells (spotCell (c,[0,0,0,0,0,0,0,0])).toArray 341))):=hB.out.trans (B3.out.mono (Nat.le_trans hbase hs1))
   have TQ:Hid (∀ k,Value.ownBlock (.slice ao tab.length cap)=some k->k ≠ w2.heap.size):=fun k e1 e2=>by have:=(hT.out.lt k e1).2;omega
   have HQ0:Hid ((w2.alloc (.cells (spotCell (c,[0,0,0,0,0,0,0,0])).toArray 341)).heap[w2.heap.size]?=some (.cells (spotCell (c,[0,0,0,0,0,0,0,0])).toArray 341 (0,0))):=hq0
   clear hq0
   go_wp2_with fail
   go_loopg [2,25] 8 (fun gh sv kv wx=>∃ (k:Nat) (Ss':List (Nat->Prop)) (bs':List Nat) (ao':Option Addr) (cap':Nat) (l:List Nat),k<=8/\gh+k=8/\kv=.int .u8 k/\sv=.slice ao' Ss'.length cap'/\Hid (wx.heap[w2.heap.size]?=some (.cells (spotCell (c,l)).toArray 341 (0,0)))/\Hid (Spots nx S Ss' l k)/\Hid (Ss <+: Ss')/\Hid (TabIn base wx (.slice ao tab.length cap) tab)/\Hid (SRow wx base (.slice ao' Ss'.length cap') N Ss' bs')/\Hid (Sets All Ss0 Ss')/\Hid (SetAt wx b N S)/\Hid (Below base w wx))
   case atStart=>exact ⟨0,Ss,bs,_,cap2,_,Nat.zero_le _,rfl,rfl,rfl,HQ0,(⟨rfl,fun j hj=>absurd hj (Nat.not_lt_zero _)⟩:Spots nx S Ss [0,0,0,0,0,0,0,0] 0),List.prefix_refl _,T3,S3,hSets,SB3,BB3⟩
   case round =>
    obtain ⟨k,Ss',bs',ao',cap',l,hk,hgk,rfl,rfl,hQ,hSp,hPre,hT4,hS4,hSets4,hSB4,hB4⟩:=hrel
    obtain ⟨w4,hw4⟩:∃ w4,w4=wr:=⟨wr,rfl⟩
    subst hw4
    have hsl4:=hSets4.out.len
    have hs4:=hB4.out.size
    have hll:=hSp.out.1
    clear T3 S3 SB3 BB3 HQ0 B3
    by_cases hk8:k<8
    ·have hk8':(k:Int)<8:=by omega
     go_wp2_with fail
     refine (HNX.out w4 b k S hB4.out hSB4.out HSA.out hk8).mono ?_
     rintro r w5 ⟨b',rfl,hS5,hb5⟩
     have HS5:Hid (SetAt w5 b' N (nx S k)):=hS5
     have R5:Hid (SRow w5 base (.slice ao' Ss'.length cap') N Ss' bs'):=hS4.out.below hb5
     have B5:Hid (Below base w w5):=hB4.out.trans (hb5.mono (by omega))
     have Q5:Hid (w5.heap[w2.heap.size]?=some (.cells (spotCell (c,l)).toArray 341 (0,0))):=by show _=_;rw [hb5.block _ (heap_lt hQ.out)];exact hQ.out
     have T5:Hid (TabIn base w5 (.slice ao tab.length cap) tab):=row_kp hT4.out (Kp.below hb5)
     have SB5:Hid (SetAt w5 b N S):=hSB4.out.below hb5
     have hs5:=hb5.size
     clear hS5 hb5 hQ hT4 hS4 hSB4 hB4
     go_wp2_with fail
     refine (find_any w5 base b' N _ Ss' bs' (nx S k) R5.out HS5.out hN (by omega) (by omega)).mono ?_
     rintro r w6 ⟨v6,n,Ss6,bs6,rfl,hR6,hF6,hp6,hC6,hsn6⟩
     obtain ⟨ao6,cap6,rfl⟩:=row_shape hR6.2.1
     obtain ⟨hSets6,hPre6,hn6⟩:=hSets4.out.found hF6 (HALL.out S HSA.out k hk8)
     have R6:Hid (SRow w6 base (.slice ao6 Ss6.length cap6) N Ss6 bs6):=hR6
     have SS6:Hid (Sets All Ss0 Ss6):=hSets6
     have SP6:Hid (Spots nx S Ss6 (l.set k n) (k+1)):=hSp.out.next hk8 hPre6 hn6
     have P6:Hid (Ss <+: Ss6):=hPre.out.trans hPre6
     have KS:=kp_own (t:=341) R5.out.2.1 hC6 (by decide)
     have hq6:=KS _ _ _ Q5.out
     have T6:Hid (TabIn base w6 (.slice ao tab.length cap) tab):=row_kp T5.out KS
     have SB6:Hid (SetAt w6 b N S):=SB5.out.chgOwn R5.out.2.1 hC6
     have B6:Hid (Below base w w6):=B5.out.trans (below_chg R5.out.2.1 hC6 (by omega))
     have Q6:Hid (w6.heap[w2.heap.size]?=some (.cells (spotCell (c,l)).toArray 341 (0,0))):=hq6
     have hfr:=free_of_block hq6
     have hce:w6.cell? ⟨w2.heap.size,1+k,none⟩=some (.int .i64 ((l[k]'(by omega):Nat):Int)):=cell_of_block hq6 (1+k) _ (by unfold spotCell;rw [Nat.add_comm 1 k];simp [hll,hk8])
     clear hR6 hF6 hp6 hC6 hsn6 hSets6 hPre6 hn6 KS hq6 R5 B5 Q5 T5 SB5 HS5 hSp hPre hSets4
     go_wp2_with fail
     go_roundg (8 - (k+1))
     case measure=>omega
     case rel =>
      refine ⟨k+1,Ss6,bs6,ao6,cap6,l.set k n,by omega,by omega,by go_num,rfl,?_,SP6,P6,?_,R6.out.setCell Q6.out _ _,SS6,SB6.out.setCell Q6.out _ _,B6.out.setCell (by show base<=w2.heap.size;omega) _⟩
      ·show _=_
       rw [block_setCell Q6.out,spotCell_set]
      ·exact row_on T6.out fun k' e1=>Below.heap_setCell _ _ _ _ (TQ.out k' e1)
    ·obtain rfl:k=8:=by omega
     obtain ⟨n0,n1,n2,n3,n4,n5,n6,n7,rfl⟩:=eight hll
     have c0:w4.cell? ⟨w2.heap.size,0,none⟩=some (.bool c):=cell_of_block hQ.out 0 _ rfl
     have c1:w4.cell? ⟨w2.heap.size,1,none⟩=some (.int .i64 (n0:Nat)):=cell_of_block hQ.out 1 _ rfl
     have c2:w4.cell? ⟨w2.heap.size,2,none⟩=some (.int .i64 (n1:Nat)):=cell_of_block hQ.out 2 _ rfl
     have c3:w4.cell? ⟨w2.heap.size,3,none⟩=some (.int .i64 (n2:Nat)):=cell_of_block hQ.out 3 _ rfl
     have c4:w4.cell? ⟨w2.heap.size,4,none⟩=some (.int .i64 (n3:Nat)):=cell_of_block hQ.out 4 _ rfl
     have c5:w4.cell? ⟨w2.heap.size,5,none⟩=some (.int .i64 (n4:Nat)):=cell_of_block hQ.out 5 _ rfl
     have c6:w4.cell? ⟨w2.heap.size,6,none⟩=some (.int .i64 (n5:Nat)):=cell_of_block hQ.out 6 _ rfl
     have c7:w4.cell? ⟨w2.heap.size,7,none⟩=some (.int .i64 (n6:Nat)):=cell_of_block hQ.out 7 _ rfl
     have c8:w4.cell? ⟨w2.heap.size,8,none⟩=some (.int .i64 (n7:Nat)):=cell_of_block hQ.out 8 _ rfl
     have TA:Hid (TabIn base (w4.alloc (.cells (spotCell (c,[n0,n1,n2,n3,n4,n5,n6,n7])).toArray 341)) (.slice ao tab.length cap) tab):=row_kp hT4.out (Kp.below (below_alloc w4 _))
     have RA:Hid (SRow (w4.alloc (.cells (spotCell (c,[n0,n1,n2,n3,n4,n5,n6,n7])).toArray 341)) base (.slice ao' Ss'.length cap') N Ss' bs'):=hS4.out.below (below_alloc w4 _)
     have LA:base<=(w4.alloc (.cells (spotCell (c,[n0,n1,n2,n3,n4,n5,n6,n7])).toArray 341)).heap.size:=by simp;omega
     have BA:Hid (Below base w (w4.alloc (.cells (spotCell (c,[n0,n1,n2,n3,n4,n5,n6,n7])).toArray 341))):=hB4.out.alloc (by omega) _
     go_wp2_with (at_builtin;refine wpList_push2 rfl (.tmp 41) (.tmp 43) 150 rfl base 341 (.agg #[.bool false,.int .i64 0,.int .i64 0,.int .i64 0,.int .i64 0,.int .i64 0,.int .i64 0,.int .i64 0,.int .i64 0]) 9 72 Tryz.infoSpot Tryz.undTable rfl (by decide) (.slice ao tab.length cap) tab.length (spotCells tab) rfl TA.out w4.heap.size 1 (spotCell (c,[n0,n1,n2,n3,n4,n5,n6,n7])) rfl rfl (spot_new w4 c [n0,n1,n2,n3,n4,n5,n6,n7]) (spotCell_one _ _) (by omega) (by omega) LA ?_;intro v' w7 hown hgr hsn;obtain ⟨ao7,cap7,rfl⟩:=row_shape hown;have HO:Hid (w7.ownsRow base 341 9 (.slice ao7 (tab.length+1) cap7) (tab.length+1) (spotCells tab++spotCell (c,[n0,n1,n2,n3,n4,n5,n6,n7]))):=hown;have HC7:Hid (Chg (fun k=>Value.ownBlock (.slice ao tab.length cap)=some k) (w4.alloc (.cells (spotCell (c,[n0,n1,n2,n3,n4,n5,n6,n7])).toArray 341)) w7):=(Chg.refl _ _).grown hgr (fun k e=>Or.inr e);clear hown hgr hsn)
     go_roundg (All.length - (tab.length+1))
     case measure=>omega
     case rel =>
      refine ⟨tab++[(c,[n0,n1,n2,n3,n4,n5,n6,n7])],Ss',bs',ao7,cap7,ao',cap',?_,?_,?_,rfl,?_,?_,hSets4,?_,?_⟩
      ·simp;omega
      ·have:=hPre.out.length_le;simp;omega
      ·simp
      ·show TabIn _ _ _ _
       unfold TabIn
       rw [spotCells_snoc,List.length_append];exact HO.out
      ·refine (⟨RA.out.1,row_kp RA.out.2.1 (kp_own TA.out HC7.out (by decide)),fun i b S h1 h2=>(RA.out.2.2 i b S h1 h2).chgOwn TA.out HC7.out⟩:SRow _ _ _ _ _ _)
      ·exact (hOk.out.more hPre.out).snoc (at_prefix hPre.out HS1.out) HC.out rfl hSp.out.2
      ·exact BA.out.trans (below_chg TA.out HC7.out LA)
  ·have e:tab.length=Ss.length:=by omega
   go_wp2_with fail
   go_ret
   exact ⟨_,tab,Ss,rfl,hT.out,e,hSets.out,hOk.out,hB.out⟩
end Go.Proofs.YtodagkkjfipbgaaGreatDoor
namespace Go.Proofs.YtodagkkjfipbgaaGreatDoor
open Go.RowKit
namespace PS
def more (s:PS):PS:={ s with a:=IntKind.i64.wrap (s.a+1) }
def many (T:ByteArray) (s:PS):PS:=if s.a=4 then s.fail T 6 else s
def known (T:ByteArray) (names:List ByteArray) (s:PS):PS:=if (meaningP names (s.tk T)).2=true then s else s.fail T 3
def one (T:ByteArray) (names:List ByteArray) (s:PS):PS × Px:=((((s.known T names).many T).more).step T,oneP (meaningP names (s.tk T)).1)
def nest (T:ByteArray) (s:PS):PS:=if s.k=4 then s.fail T 6 else s
def inK (s:PS):PS:={ s with k:=s.k+1 }
def outK (s:PS):PS:={ s with k:=s.k - 1 }
def bracket (T:ByteArray) (sub:PS->PS × Px) (s:PS):PS × Px :=
 ((((sub (((s.nest T).need T [sgn 40]).inK)).1.outK).need T [sgn 41]),(sub (((s.nest T).need T [sgn 40]).inK)).2)
def atomOk (T:ByteArray) (s:PS):PS:=if s.isAtom T=true then s else s.fail T 2
def atom (T:ByteArray) (names:List ByteArray) (sub:PS->PS × Px) (s:PS):PS × Px :=
 if memL [sgn 40] ((s.atomOk T).tk T)=true then (s.atomOk T).bracket T sub else (s.atomOk T).one T names
end PS
structure EAt (w:World) (b c:Nat) (T:ByteArray) (names:List ByteArray) (vN vE vL:Value) (s:PS):Prop where
 rd:RAt w b T vN vE vL s
 cnt:w.heap[c]?=some (.cells #[.int .i64 s.a,.int .i64 s.k] 289 (0,0))
 row:w.ownsRow 0 9 1 vN names.length (names.map .string)
 few:names.length<=7
def EChg (b c:Nat) (w w':World):Prop:=Chg (fun k=>k=b\/k=c) w w'
theorem EAt.bc {w:World} {b c:Nat} {T:ByteArray} {names:List ByteArray} {vN vE vL:Value} {s:PS} (h:EAt w b c T names vN vE vL s):b ≠ c:=type_ne h.rd.blk h.cnt (by decide)
theorem EAt.later {w w':World} {b c:Nat} {T:ByteArray} {names:List ByteArray} {vN vE vL:Value} {s:PS} (h:EAt w b c T names vN vE vL s) (hb:Below w.heap.size w w'):EAt w' b c T names vN vE vL s :=
 ⟨h.rd.later hb,by rw [hb.block c (heap_lt h.cnt)];exact h.cnt,row_kp h.row (Kp.below hb),h.few⟩
theorem Kp.chg1 {t t0:TypeId} {b:Nat} {w w':World} {cs0:Array Value} {m0:Nat × Nat} (hb:w.heap[b]?=some (.cells cs0 t0 m0)) (hc:Chg (fun k=>k=b) w w') (ht:t ≠ t0):Kp t w w':=fun k cs m hh=>by
 rw [hc.block k (heap_lt hh) (type_ne hh hb ht)];exact hh
theorem EAt.on {w w':World} {b c:Nat} {T:ByteArray} {names:List ByteArray} {vN vE vL:Value} {s s':PS} (h:EAt w b c T names vN vE vL s) (hr:RAt w' b T vN vE vL s') (hc:Chg (fun k=>k=b) w w') (ha:s'.a=s.a) (hk:s'.k=s.k):EAt w' b c T names vN vE vL s' :=
 ⟨hr,by rw [ha,hk,hc.block c (heap_lt h.cnt) (fun e=>h.bc e.symm)];exact h.cnt,row_kp h.row (Kp.chg1 h.rd.blk hc (by decide)),h.few⟩
theorem EChg.of1 {b c:Nat} {w w':World} (h:Chg (fun k=>k=b) w w'):EChg b c w w':=h.mono fun _ _ e=>Or.inl e
theorem EChg.trans {b c:Nat} {w w' w2:World} (h:EChg b c w w') (h2:EChg b c w' w2):EChg b c w w2:=Chg.trans h h2
theorem EChg.below {b c:Nat} {w w':World} (h:Below w.heap.size w w'):EChg b c w w':=Chg.of_below h
theorem EAt.setA {w:World} {b c:Nat} {T:ByteArray} {names:List ByteArray} {vN vE vL:Value} {s:PS} (h:EAt w b c T names vN vE vL s) (x:Int):EAt (w.setCell ⟨c,0,none⟩ (.int .i64 x)) b c T names vN vE vL { s with a:=x } :=
 ⟨⟨by show _=_;rw [Below.heap_setCell _ _ _ _ h.bc];exact h.rd.blk,h.rd.le,h.rd.short⟩,setCell0 h.cnt,row_kp h.row ((Kp.refl _ _).setCell h.cnt (by decide) _),h.few⟩
theorem EAt.setK {w:World} {b c:Nat} {T:ByteArray} {names:List ByteArray} {vN vE vL:Value} {s:PS} (h:EAt w b c T names vN vE vL s) (x:Int):EAt (w.setCell ⟨c,1,none⟩ (.int .i64 x)) b c T names vN vE vL { s with k:=x } :=
 ⟨⟨by show _=_;rw [Below.heap_setCell _ _ _ _ h.bc];exact h.rd.blk,h.rd.le,h.rd.short⟩,setCell1 h.cnt,row_kp h.row ((Kp.refl _ _).setCell h.cnt (by decide) _),h.few⟩
theorem EChg.setC (b c:Nat) (w:World) (o:Nat) (v:Value):EChg b c w (w.setCell ⟨c,o,none⟩ v):=(Chg.refl _ _).setCell (q:=⟨c,o,none⟩) (Or.inr (Or.inr rfl)) v
theorem fail_e (b c:Nat) (T:ByteArray) (names:List ByteArray) (vN vE vL:Value) (s:PS) (no:Int) (w:World) (h:EAt w b c T names vN vE vL s) :
  Calls Tryz.prog 80 #[.pointer (some ⟨b,0,none⟩),.int .i64 no] w fun r w'=>r=.returned (.tuple #[])/\EAt w' b c T names vN vE vL (s.fail T no)/\EChg b c w w':=by
 refine (fail_ps b T vN vE vL s no w h.rd).mono ?_
 rintro r w' ⟨rfl,h1,h2⟩
 exact ⟨rfl,h.on h1 h2 rfl rfl,EChg.of1 h2⟩
theorem step_e (b c:Nat) (T:ByteArray) (names:List ByteArray) (vN vE vL:Value) (s:PS) (w:World) (h:EAt w b c T names vN vE vL s) :
  Calls Tryz.prog 75 #[.pointer (some ⟨b,0,none⟩)] w fun r w'=>r=.returned (.tuple #[])/\EAt w' b c T names vN vE vL (s.step T)/\EChg b c w w':=by
 refine (step_ps b T vN vE vL s w h.rd).mono ?_
 rintro r w' ⟨rfl,h1,h2⟩
 exact ⟨rfl,h.on h1 h2 rfl rfl,EChg.of1 h2⟩
theorem need_ak (T:ByteArray) (L:List ByteArray) (s:PS):(s.need T L).a=s.a/\(s.need T L).k=s.k:=by unfold PS.need;split <;> exact ⟨rfl,rfl⟩
theorem take_ak (T:ByteArray) (L:List ByteArray) (s:PS):(s.take T L).a=s.a/\(s.take T L).k=s.k:=by unfold PS.take;split <;> exact ⟨rfl,rfl⟩
theorem need_e (b c:Nat) (T:ByteArray) (names:List ByteArray) (vN vE vL:Value) (s:PS) (L:List ByteArray) (w:World) (h:EAt w b c T names vN vE vL s) (hL:L.length<=100) (h1:1<=L.length) (hne:∀ x ∈ L,x.toList ≠ []) :
  Calls Tryz.prog 128 #[.pointer (some ⟨b,0,none⟩),.slice (some ⟨w.heap.size,0,none⟩) L.length L.length] (w.alloc (.cells (L.map .string).toArray 9)) fun r w'=>(∃ x,r=.returned (.string x))/\EAt w' b c T names vN vE vL (s.need T L)/\EChg b c w w':=by
 refine (need_new b T vN vE vL s L w h.rd hL h1 hne).mono ?_
 rintro r w' ⟨rfl,h1,h2⟩
 exact ⟨⟨_,rfl⟩,h.on h1 h2 (need_ak T L s).1 (need_ak T L s).2,EChg.of1 h2⟩
theorem take_e (b c:Nat) (T:ByteArray) (names:List ByteArray) (vN vE vL:Value) (s:PS) (L:List ByteArray) (w:World) (h:EAt w b c T names vN vE vL s) (hL:L.length<=100) (h1:1<=L.length) :
  Calls Tryz.prog 131 #[.pointer (some ⟨b,0,none⟩),.slice (some ⟨w.heap.size,0,none⟩) L.length L.length] (w.alloc (.cells (L.map .string).toArray 9)) fun r w'=>r=.returned (.string (takenOf T L s.p))/\EAt w' b c T names vN vE vL (s.take T L)/\EChg b c w w':=by
 refine (take_new b T vN vE vL s L w h.rd hL h1).mono ?_
 rintro r w' ⟨rfl,h1,h2⟩
 exact ⟨rfl,h.on h1 h2 (take_ak T L s).1 (take_ak T L s).2,EChg.of1 h2⟩
set_option maxRecDepth 100000 in
set_option maxHeartbeats 2000000 in
theorem one_e (b c:Nat) (T:ByteArray) (names:List ByteArray) (vN vE vL:Value) (s:PS) (w:World) (h:EAt w b c T names vN vE vL s) :
  Calls Tryz.prog 249 #[.pointer (some ⟨b,0,none⟩),.pointer (some ⟨c,0,none⟩)] w fun r w'=>∃ v,r=.returned v/\EAt w' b c T names vN vE vL (s.one T names).1/\PIn 1 (From w.heap.size) w' v (s.one T names).2/\EChg b c w w':=by
 have HH:Hid (EAt w b c T names vN vE vL s):=h
 have hlt:=meaningP_lt names (s.tk T) h.few
 clear h
 unfold PS.one
 go_enter Tryz.func249,Tryz.ntmps249
 go_wp2_with fail
 refine (now_ps b T vN vE vL s w HH.out.rd).mono ?_
 rintro r w1 ⟨rfl,n,hw1⟩
 have hb1:Below w.heap.size w w1:=by rw [hw1];exact bdrew (Below.refl _ _) n
 clear hw1
 have H1:Hid (EAt w1 b c T names vN vE vL s):=HH.out.later hb1
 go_wp2_with fail
 refine (meaning_any b T vN vE vL s names (tokp T s.p) w1 H1.out.rd H1.out.row H1.out.few).mono ?_
 rintro r w2 ⟨rfl,hb2⟩
 have H2:Hid (EAt w2 b c T names vN vE vL s):=H1.out.later hb2
 have C2:Hid (EChg b c w w2):=(EChg.below hb1).trans (EChg.below hb2)
 have S2:Hid (w.heap.size<=w2.heap.size):=Nat.le_trans hb1.size hb2.size
 clear hb1 hb2
 rw [show (tokp T s.p).toList=s.tk T from rfl]
 obtain ⟨kd,hkd⟩:∃ kd,kd=meaningP names (s.tk T):=⟨_,rfl⟩
 rw [<- hkd] at hlt ⊢
 have HKD:Hid (kd=meaningP names (s.tk T)):=hkd
 clear hkd
 go_upto_if 15 with fail
 go_cut [6] (fun _ wx=>Hid (EAt wx b c T names vN vE vL (s.known T names))/\EChg b c w wx/\w.heap.size<=wx.heap.size)
 case first =>
  cases hk:kd.2
  ·have e:Hid (s.known T names=s.fail T 3):=by show _=_;unfold PS.known;rw [<- HKD.out,hk];rfl
   go_wp2_with fail
   refine (fail_e b c T names vN vE vL s 3 w2 H2.out).mono ?_
   rintro r w3 ⟨rfl,h3,c3⟩
   have H3:Hid (EAt w3 b c T names vN vE vL (s.fail T 3)):=h3
   clear h3
   go_wp2_with fail
   go_meet
   exact ⟨by rw [e.out];exact H3,C2.out.trans c3,(C2.out.trans c3).size⟩
  ·have e:Hid (s.known T names=s):=by show _=_;unfold PS.known;rw [<- HKD.out,hk];rfl
   go_wp2_with fail
   go_meet
   exact ⟨by rw [e.out];exact H2,C2.out,C2.out.size⟩
 case rest =>
  obtain ⟨h3,c3,z3⟩:=hcut
  obtain ⟨w3,hw3⟩:∃ w3,w3=wc:=⟨wc,rfl⟩
  subst hw3
  obtain ⟨s3,hs3⟩:∃ s3,s3=s.known T names:=⟨_,rfl⟩
  rw [<- hs3] at h3
  have HS3:Hid (s3=s.known T names):=hs3
  have hcnt:=h3.out.cnt
  have c0:=cell_of_block hcnt 0 _ rfl
  clear H1 H2 C2 S2 hs3 hcnt
  go_upto_if 22 with fail
  go_cut [] (fun wx=>Hid (EAt wx b c T names vN vE vL (s3.many T))/\EChg b c w wx/\w.heap.size<=wx.heap.size)
  case first =>
   by_cases h4:s3.a=4
   ·have k4:(s3.a == 4)=true:=by simpa using h4
    have e:Hid (s3.many T=s3.fail T 6):=by show _=_;unfold PS.many;rw [if_pos h4]
    clear h4
    go_wp2_with fail
    refine (fail_e b c T names vN vE vL s3 6 w3 h3.out).mono ?_
    rintro r w4 ⟨rfl,h4,c4⟩
    have H4:Hid (EAt w4 b c T names vN vE vL (s3.fail T 6)):=h4
    clear h4
    go_wp2_with fail
    go_meet
    exact ⟨by rw [e.out];exact H4,c3.trans c4,(c3.trans c4).size⟩
   ·have k4:(s3.a == 4)=false:=by simpa using h4
    have e:Hid (s3.many T=s3):=by show _=_;unfold PS.many;rw [if_neg h4]
    clear h4
    go_wp2_with fail
    go_meet
    exact ⟨by rw [e.out];exact h3,c3,z3⟩
  case rest =>
   obtain ⟨h4,c4,z4⟩:=hcut
   obtain ⟨w4,hw4⟩:∃ w4,w4=wc:=⟨wc,rfl⟩
   subst hw4
   obtain ⟨s4,hs4⟩:∃ s4,s4=s3.many T:=⟨_,rfl⟩
   rw [<- hs4] at h4
   have HS4:Hid (s4=s3.many T):=hs4
   clear c0
   have hcnt:=h4.out.cnt
   have c0:=cell_of_block hcnt 0 _ rfl
   have cf:=free_of_block hcnt
   obtain ⟨a',ha'⟩:∃ a',IntKind.i64.wrap (s4.a+1)=a':=⟨_,rfl⟩
   have HA:Hid (a'=IntKind.i64.wrap (s4.a+1)):=ha'.symm
   clear h3 c3 z3 hs4 hcnt
   go_wp2_with fail
   refine (step_e b c T names vN vE vL { s4 with a:=a' } _ (h4.out.setA a')).mono ?_
   rintro r w5 ⟨rfl,h5,c5⟩
   have H5:Hid (EAt w5 b c T names vN vE vL (PS.step T { s4 with a:=a' })):=h5
   have C5:Hid (EChg b c w w5):=c4.trans ((EChg.setC b c w4 0 _).trans c5)
   clear h5
   go_wp2_with fail
   refine (one_any kd.1 hlt w5).mono ?_
   rintro r w6 ⟨v,rfl,h6,hb6⟩
   have H6:Hid (PIn 1 (From w5.heap.size) w6 v (oneP kd.1)):=h6
   clear h6
   go_wp2_with fail
   go_ret
   refine ⟨v,rfl,?_,?_,C5.out.trans (EChg.below hb6)⟩
   ·have:=H5.out.later hb6
    rw [HA.out,HS4.out,HS3.out] at this
    exact this
   ·rw [<- HKD.out];exact H6.out.from C5.out.size
end Go.Proofs.YtodagkkjfipbgaaGreatDoor
