import Derived.Laws.AppendOwnNone
import Derived.Test.YtodagkkjfipbgaaGreatDoorT33toY1
namespace Go.Proofs.YtodagkkjfipbgaaGreatDoor
open Go.RowKit Go.Maps Go.Lib
theorem stays_row {V:List Vw} {ks:List Nat} (hV:StaysV V ks):∀ (row:List Nat) (v:Nat),(∀ k ∈ row,k ∈ ks)->stlV V v=true->stlV V (row.foldl (fun v k=>nxV V k v) v)=true:=by
 intro row
 induction row with
 | nil=>intro v _ h;exact h
 | cons k row ih=>intro v hk h;exact ih _ (fun c hc=>hk c (List.mem_cons_of_mem _ hc)) (hV v h k (hk k (List.mem_cons_self ..))).1
theorem within_row {V:List Vw} {ks:List Nat} (hV:StaysV V ks):∀ (row:List Nat) (n v:Nat),(∀ k ∈ row,k ∈ ks)->n<=row.length->within V ks n v->stlV V (row.foldl (fun v k=>nxV V k v) v)=true:=by
 intro row
 induction row with
 | nil=>intro n v _ hn h;rw [show n=0 from by simpa using hn] at h;exact h
 | cons k row ih =>
  intro n v hk hn h
  have hr:∀ c ∈ row,c ∈ ks:=fun c hc=>hk c (List.mem_cons_of_mem _ hc)
  cases n with
  | zero=>exact stays_row hV (k :: row) v hk h
  | succ n =>
   rcases h with h | h
   ·exact stays_row hV (k :: row) v hk h
   ·exact ih n _ hr (by simpa using hn) (h k (hk k (List.mem_cons_self ..)))
theorem views_from (H:List Hd) (V:List Vw) (ks:List Nat) (h0:∃ h,H[0]?=some h) (hds:∀ k ∈ ks,∀ (hd:Nat) (h1:Hd),H[hd]?=some h1->∃ hd' h2,h1.2[k]?=some hd'/\H[hd']?=some h2/\h2.1<V.length):∀ row:List Nat,(∀ k ∈ row,k ∈ ks)->(∃ h,H[(viewsK H V row).2]?=some h)/\∀ i,i<row.length->∃ u,u<V.length/\(viewsK H V row).1[i]?=some ((row.drop (i+1)).foldl (fun v k=>nxV V k v) u):=by
 apply snoc_ind
 ·intro _;exact ⟨h0,fun i hi=>by simp at hi⟩
 ·intro row k ih hk
  obtain ⟨⟨h,hh⟩,i2⟩:=ih fun c hc=>hk c (List.mem_append_left _ hc)
  obtain ⟨hd',h2,e1,e2,e3⟩:=hds k (hk k (by simp)) _ h hh
  have ehd:hdN H (viewsK H V row).2 k=hd':=by unfold hdN;rw [hh,Option.bind_some,e1];rfl
  have hlen:=viewsK_len H V row
  rw [viewsK_snoc]
  show (∃ h,H[hdN H (viewsK H V row).2 k]?=some h)/\∀ i,i<(row++[k]).length->∃ u,u<V.length/\((viewsK H V row).1.map (nxV V k)++[stH H (hdN H (viewsK H V row).2 k)])[i]?=some _
  rw [ehd]
  refine ⟨⟨h2,e2⟩,fun i hi=>?_⟩
  rcases Nat.lt_or_ge i row.length with h1 | h1
  ·obtain ⟨u,g1,g2⟩:=i2 i h1
   refine ⟨u,g1,?_⟩
   rw [List.getElem?_append_left (by rw [List.length_map];omega),List.getElem?_map,g2,List.drop_append_of_le_length (by omega),List.foldl_append]
   rfl
  ·have hi2:i=row.length:=by simp at hi;omega
   subst hi2
   refine ⟨stH H hd',?_,?_⟩
   ·unfold stH;rw [e2];exact e3
   ·rw [List.getElem?_append_right (by rw [List.length_map];omega),List.length_map,hlen,Nat.sub_self,List.drop_eq_nil_of_le (by simp)]
    rfl
theorem stA_settled {V:List Vw} (n:Nat) {v:Nat} (h:stlV V v=true):stA V n v=(n,.inr (cutV V v)):=by
 unfold stA stG
 rw [h]
 rfl
theorem run_settled {w0:World} {gR:Nat} {H:List Hd} {V:List Vw} {L:List (Int × Int × Nat)} {ks:List Nat} (hE:FEnv w0 gR H V L ks) (hV:StaysV V ks) {n:Nat} (hn:∀ v,v<V.length->within V ks n v) (C:List (Nat × Nat)) (hC:∀ c ∈ C,c.1 ∈ ks) {i:Nat} (hi:i+1+n<=C.length):∃ sz c,(runC H V C).1[i]?=some (sz,.inr c):=by
 rw [(run_views H hV C hC).2,List.getElem?_map]
 have hk:∀ k ∈ C.map (fun c=>c.1),k ∈ ks:=fun k hk=>by obtain ⟨c,hc,rfl⟩:=List.mem_map.1 hk;exact hC c hc
 obtain ⟨u,h1,h2⟩:=(views_from H V ks hE.h0 hE.hds (C.map fun c=>c.1) hk).2 i (by rw [List.length_map];omega)
 have hs:stlV V (((C.map fun c=>c.1).drop (i+1)).foldl (fun v k=>nxV V k v) u)=true:=within_row hV _ n u (fun k hk'=>hk k (List.mem_of_mem_drop hk')) (by rw [List.length_drop,List.length_map];omega) (hn u h1)
 have h3:(C.map fun c=>c.2)[i]?=some ((C[i]'(by omega)).2):=by rw [List.getElem?_map,List.getElem?_eq_getElem (by omega)];rfl
 have h4:((C.map fun c=>c.2).zip (viewsK H V (C.map fun c=>c.1)).1)[i]?=some ((C[i]'(by omega)).2,((C.map fun c=>c.1).drop (i+1)).foldl (fun v k=>nxV V k v) u):=List.getElem?_zip_eq_some.2 ⟨h3,h2⟩
 rw [h4,Option.map_some]
 exact ⟨_,_,congrArg some (stA_settled _ hs)⟩
theorem tellF_first:∀ (Y:List AP) (bg:Nat) (t:ByteArray),PosA Y->sumA Y+bg<=t.size->∀ x m,(tellF Y bg t []).2.2.2=x :: m->bg+1<=x.size:=by
 intro Y
 induction Y with
 | nil=>intro bg t _ _ x m h;cases h
 | cons a Y ih =>
  intro bg t hp hs x m h
  obtain ⟨sz,s⟩:=a
  have e:sumA ((sz,s) :: Y)=sz+sumA Y:=by unfold sumA;simp
  rw [e] at hs
  have hsz:1<=sz:=hp (sz,s) (List.mem_cons_self ..)
  cases s with
  | inl v=>cases h
  | inr c =>
   cases c with
   | true =>
    have h2:(tellF Y 0 (t.extract (bg+sz) t.size) ([]++[t.extract 0 (bg+sz)])).2.2.2=x :: m:=h
    have h3:=tellF_acc Y 0 (t.extract (bg+sz) t.size) [t.extract 0 (bg+sz)] []
    rw [List.append_nil] at h3
    rw [List.nil_append,h3] at h2
    injection h2 with h2 _
    rw [<- h2,ByteArray.size_extract]
    omega
   | false =>
    have:=ih (bg+sz) t (fun a ha=>hp a (List.mem_cons_of_mem _ ha)) (by omega) x m h
    omega
theorem tell_fixed {P:List AP} (hP:Fixed P) (T:ByteArray) (hs:sumA P<=T.size):∃ (l':List ByteArray) (bg':Nat) (t':ByteArray),(joinB l').size+bg'=sumA P/\t'.size+sumA P=T.size+bg'/\∀ Y,tellF (P++Y) 0 T []=tellF Y bg' t' l':=by
 obtain ⟨bg',t',l',h1,h2⟩:=tellF_fixed P hP 0 T []
 obtain ⟨h3,h4⟩:=tellF_join P 0 T [] (by omega)
 rw [h2] at h3 h4
 simp only at h3 h4
 have h5:(joinB l').size+t'.size=T.size:=by
  have e0:joinB []++T=T:=by
   apply ba_ext
   rw [ByteArray.toList_eq,ByteArray.toList_eq]
   unfold joinB
   simp
  rw [e0] at h3
  rw [<- h3,ByteArray.size_append]
 have h6:sumA []=0:=rfl
 rw [h6] at h4
 exact ⟨l',bg',t',by omega,by omega,h1⟩
theorem cum_mono (l:List ByteArray) {i j:Nat} (h:i<=j):(joinB (l.take i)).size<=(joinB (l.take j)).size:=by
 have:=joinB_take (l.take j) i
 rwa [List.take_take,Nat.min_eq_left h] at this
theorem joinB_app (a b:List ByteArray):(joinB (a++b)).size=(joinB a).size+(joinB b).size:=by
 rw [joinB_size,joinB_size,joinB_size,List.map_append,List.sum_append]
theorem tell_early {P Y:List AP} (hP:Fixed P) (T:ByteArray) (hY:PosA Y) (hs:sumA P+sumA Y<=T.size):∃ l':List ByteArray,(∀ Z,l' <+: (tellF (P++Z) 0 T []).2.2.2)/\∀ i,i<(tellF (P++Y) 0 T []).2.2.2.length->(joinB ((tellF (P++Y) 0 T []).2.2.2.take (i+1))).size<=sumA P->i<l'.length:=by
 obtain ⟨l',bg',t',h1,h2,h3⟩:=tell_fixed hP T (by omega)
 have acc:∀ Z,(tellF (P++Z) 0 T []).2.2.2=l'++(tellF Z bg' t' []).2.2.2:=fun Z=>by
  have h4:=tellF_acc Z bg' t' l' []
  rw [List.append_nil] at h4
  rw [h3,h4]
 refine ⟨l',fun Z=>by rw [acc];exact List.prefix_append _ _,fun i hi hle=>?_⟩
 rcases Nat.lt_or_ge i l'.length with h5 | h5
 ·exact h5
 ·exfalso
  rw [acc] at hi hle
  cases hm:(tellF Y bg' t' []).2.2.2 with
  | nil=>rw [hm,List.append_nil] at hi;omega
  | cons x m =>
   have h6:=tellF_first Y bg' t' hY (by omega) x m hm
   rw [hm] at hle
   have h7:=cum_mono (l'++x :: m) (show l'.length+1<=i+1 by omega)
   rw [List.take_append,List.take_of_length_le (by omega),show l'.length+1 - l'.length=1 from by omega,joinB_app] at h7
   have h8:(joinB ((x :: m).take 1)).size=x.size:=by
    show (joinB [x]).size=x.size
    rw [joinB_size]
    simp
   omega
theorem char_one {L:List (Int × Int × Nat)} {s:ByteArray} {k n:Nat} (h1:1<=s.size) (hb:byte s 0<128) (h:CharIs L s k n):n=1:=by
 have hd:=decode_ascii h1 hb
 rcases h with ⟨h2,_⟩ | ⟨_,h2,_⟩
 ·rw [hd] at h2
  have h2':byte s 0=65533:=h2
  omega
 ·rw [h2,hd]
theorem chars_ones {L:List (Int × Int × Nat)} {s:ByteArray} (hs:Ascii s) {p:Nat} {ks ns:List Nat} (h:CharsTo L s p ks ns):∀ n ∈ ns,n=1:=by
 induction h with
 | nil=>intro n hn;simp at hn
 | @snoc p ks ns k n h hp hc ih =>
  intro m hm
  rcases List.mem_append.1 hm with h1 | h1
  ·exact ih m h1
  ·simp at h1
   subst h1
   refine char_one (by rw [ByteArray.size_extract];omega) ?_ hc
   unfold byte
   rw [get_extract s p hp]
   exact hs p hp
theorem full_ascii {s:ByteArray} (h1:1<=s.size) (hb:byte s 0<128):fullS s=true:=by
 cases hf:fullS s with
 | true=>rfl
 | false =>
  rw [fullS_is h1] at hf
  have h2:=open_parts hf
  have h3:(s.get! 0).toNat<128:=hb
  unfold firstT at h2
  rw [if_pos h3] at h2
  omega
theorem Rests.ascii {H:List Hd} {V:List Vw} {L:List (Int × Int × Nat)} {T:ByteArray} (hT:Ascii T) {C:List (Nat × Nat)} {l:List ByteArray} {s:FS} (h:Rests H V L T C l s):C.length=T.size/\(∀ c ∈ C,c.2=1)/\CharsTo L T T.size (C.map fun c=>c.1) (C.map fun c=>c.2):=by
 have hc:=h.fl.known.2 ⟨#[]⟩
 rw [app_nil] at hc
 have hk1:=h.fl.known.1
 have hsum:sumC C=T.size:=by
  rcases Nat.lt_or_ge (sumC C) T.size with h1 | h1
  ·exfalso
   have h2:=h.shut
   rw [h.fl.rest.1] at h2
   have hz:(T.extract (sumC C) T.size).size=T.size - sumC C:=by rw [ByteArray.size_extract];omega
   rw [full_ascii (by omega) (by unfold byte;rw [get_extract T _ h1];exact hT _ h1)] at h2
   cases h2
  ·omega
 rw [hsum] at hc
 have h1:=chars_ones hT hc
 have h2:∀ c ∈ C,c.2=1:=fun c hm=>h1 c.2 (List.mem_map.2 ⟨c,hm,rfl⟩)
 refine ⟨?_,h2,hc⟩
 rw [<- hsum]
 unfold sumC
 clear hc h1 hsum hk1 h
 induction C with
 | nil=>rfl
 | cons c C ih =>
  rw [List.map_cons,List.sum_cons,h2 c (List.mem_cons_self ..),<- ih fun x hx=>h2 x (List.mem_cons_of_mem _ hx)]
  simp
  omega
theorem runC_sizes (H:List Hd) (V:List Vw):∀ C:List (Nat × Nat),(runC H V C).1.map (fun a=>a.1)=C.map fun c=>c.2:=by
 apply snoc_ind
 ·rfl
 ·intro C c ih
  rw [runC_snoc]
  show ((runC H V C).1.map (mvA V c.1)++[stA V c.2 _]).map (fun a=>a.1)=_
  rw [List.map_append,List.map_append,List.map_map,<- ih]
  congr 1
  exact List.map_congr_left fun a _=>mvG_size _ _ _ a
theorem sum_ones:∀ (l:List Nat) (m:Nat),(∀ n ∈ l,n=1)->m<=l.length->(l.take m).sum=m:=by
 intro l
 induction l with
 | nil=>intro m _ hm;simp at hm;subst hm;rfl
 | cons a l ih =>
  intro m h hm
  cases m with
  | zero=>rfl
  | succ m=>rw [List.take_succ_cons,List.sum_cons,ih m (fun n hn=>h n (List.mem_cons_of_mem _ hn)) (by simpa using hm),h a (List.mem_cons_self ..)];omega
theorem Rests.prompt {w0:World} {gR:Nat} {Tr:ByteArray} {L:List (Int × Int × Nat)} {ks:List Nat} {H:List Hd} {V:List Vw} (hE:FEnv w0 gR H V L ks) (hR:RulP (read2 Tr).2 L ks H V) {T:ByteArray} (hT:Ascii T) {C:List (Nat × Nat)} {l:List ByteArray} {s:FS} (h:Rests H V L T C l s) {n:Nat} (hn:∀ v,v<V.length->within V ks n v) (hnT:n<=T.size) {x:ByteArray} {all:List ByteArray} (hc:CutTold Tr (T++x) L all):l <+: all/\∀ i,i<all.length->(joinB (all.take (i+1))).size<=T.size - n->i<l.length:=by
 refine ⟨h.safe hR hc,?_⟩
 obtain ⟨hCl,hC1,hCT⟩:=h.ascii hT
 obtain ⟨J',D,hJ',hD,rfl⟩:=hc.pairs hR.kinds
 obtain ⟨E,rfl⟩:=chars_pre hR.row hR.kinds (h.fl.known.2 x) hD (by rw [ByteArray.size_append];have:=h.fl.known.1;omega)
 rw [<- hR.segs hJ' hD]
 obtain ⟨g,R,g1,g2⟩:=runC_app H V C E
 have hin:=chars_in hR.pos hCT
 have hCk:∀ c ∈ C,c.1 ∈ ks:=fun c hm=>hin c.1 (List.mem_map.2 ⟨c,hm,rfl⟩)
 have hrl:=runC_len H V C
 obtain ⟨P,hPd⟩:∃ P,P=(runC H V C).1.take (T.size - n):=⟨_,rfl⟩
 obtain ⟨Q,hQd⟩:∃ Q,Q=(runC H V C).1.drop (T.size - n):=⟨_,rfl⟩
 have hPQ:(runC H V C).1=P++Q:=by rw [hPd,hQd,List.take_append_drop]
 have hfix:Fixed P:=fun a ha=>by
  obtain ⟨i,hi⟩:=List.mem_iff_getElem?.1 ha
  have hil:i<T.size - n:=by have:=(List.getElem?_eq_some_iff.1 hi).1;rw [hPd,List.length_take] at this;omega
  obtain ⟨sz,c,h9⟩:=run_settled hE hR.stays hn C hCk (i:=i) (by omega)
  rw [hPd,List.getElem?_take,if_pos hil,h9] at hi
  cases hi
  exact ⟨c,rfl⟩
 have hsP:sumA P=T.size - n:=by
  unfold sumA
  rw [hPd,List.map_take,runC_sizes]
  exact sum_ones _ _ (fun m hm=>by obtain ⟨c,hc9,rfl⟩:=List.mem_map.1 hm;exact hC1 c hc9) (by rw [List.length_map];omega)
 obtain ⟨Y,hY⟩:∃ Y,Y=(Q.map g++R).map (endA V):=⟨_,rfl⟩
 have hall:(runC H V (C++E)).1.map (endA V)=P++Y:=by
  have e9:(runC H V C).1.map g++R=P.map g++(Q.map g++R):=by rw [hPQ,List.map_append,List.append_assoc]
  rw [g2,e9,List.map_append,<- hY]
  congr 1
  rw [List.map_map]
  conv=>rhs;rw [<- List.map_id P]
  refine List.map_congr_left fun a ha=>?_
  obtain ⟨c,hc9⟩:=hfix a ha
  show endA V (g a)=a
  rw [g1 a c hc9,endA_fixed V a c hc9]
 have hsz:(P++Y).map (fun a=>a.1)=(C++E).map fun c=>c.2:=by
  rw [<- hall,List.map_map,<- runC_sizes H V (C++E)]
  exact List.map_congr_left fun a _=>endA_size V a
 have hok:=hD.ok hR.kinds
 have hpos:PosA Y:=fun a ha=>by
  have h9:a.1 ∈ (P++Y).map (fun a=>a.1):=List.mem_map.2 ⟨a,List.mem_append_right _ ha,rfl⟩
  rw [hsz] at h9
  exact (hok.sizes _ h9).1
 have hsum:sumA P+sumA Y<=(T++x).size:=by
  have h9:sumA P+sumA Y=sumA (P++Y):=by unfold sumA;rw [List.map_append,List.sum_append]
  rw [h9]
  unfold sumA
  rw [hsz,hok.sum]
  exact Nat.le_refl _
 obtain ⟨l',e1,e2⟩:=tell_early hfix (T++x) hpos hsum
 have hl:(tellF (P++Q) 0 (T++x) []).2.2.2=l:=by
  have t:=h.fl.hist.tel
  rw [h.told,List.append_nil] at t
  have tm:=tellF_more (runC H V C).1 0 T x [] (by rw [sumA_run];exact h.fl.known.1)
  rw [t] at tm
  rw [<- hPQ,tm]
 have hpre:=e1 Q
 rw [hl] at hpre
 rw [hall]
 intro i hi hle
 exact Nat.lt_of_lt_of_le (e2 i hi (by rw [hsP];exact hle)) hpre.length_le
end Go.Proofs.YtodagkkjfipbgaaGreatDoor
namespace Go.Proofs.YtodagkkjfipbgaaGreatDoor
open Go.RowKit Go.Maps
def asciiP (s:ByteArray):ByteArray:=⟨s.data.map (· &&& 127)⟩
theorem asciiP_size (s:ByteArray):(asciiP s).size=s.size:=by show (s.data.map _).size=s.data.size;simp
theorem cell_of_mark {w:World} {b:Nat} {cs:Array Value} {t:TypeId} {m:Nat × Nat} (h:w.heap[b]?=some (.cells cs t m)) (o:Nat) (v:Value) (hv:cs[o]?=some v):w.cell? ⟨b,o,none⟩=some v:=by
 simp [World.cell?,h,hv]
theorem free_of_mark {w:World} {b:Nat} {cs:Array Value} {t:TypeId} {m n:Nat} (h:w.heap[b]?=some (.cells cs t (m,n))) (o:Nat) (ho:o<m):w.frozen? ⟨b,o,none⟩=false:=by
 simp [World.frozen?,h]
 omega
theorem mark_setCell {w:World} {b:Nat} {cs:Array Value} {t:TypeId} {m:Nat × Nat} (h:w.heap[b]?=some (.cells cs t m)) (o:Nat) (u:Value) :
  (w.setCell ⟨b,o,none⟩ u).heap[b]?=some (.cells (cs.setIfInBounds o u) t m):=by
 simp [World.setCell,Array.getElem?_modify,h]
theorem alloc_mark (w:World) (o:Obj):(w.drew.alloc o).heap[w.heap.size]?=some o:=by
 show (w.heap.push o)[w.heap.size]?=_
 simp
def half (s:ByteArray) (i j:Nat):Nat:=if j<i then (s.get! j).toNat % 128 else (s.get! j).toNat
structure HalfIn (w0 w:World) (s:ByteArray) (i m:Nat):Prop where
 blk:∃ C,w.heap[w0.heap.size]?=some (.cells C 5 (m,m+1))/\∀ j,j<s.size->C[j]?=some (.int .u8 (half s i j:Nat))
 fits:s.size<=m
 bel:Below w0.heap.size w0 w
theorem HalfIn.next {w0 w:World} {s:ByteArray} {i m:Nat} (h:HalfIn w0 w s i m) (hi:i<s.size):HalfIn w0 (w.setCell ⟨w0.heap.size,i,none⟩ (.int .u8 ((s.get! i).toNat % 128:Nat))) s (i+1) m:=by
 obtain ⟨⟨C,h1,h2⟩,h3,h4⟩:=h
 refine ⟨⟨_,mark_setCell h1 i _,fun j hj=>?_⟩,h3,h4.setCell (Nat.le_refl _) _⟩
 have hiC:i<C.size:=by
  rcases Nat.lt_or_ge i C.size with h | h
  ·exact h
  ·have:=h2 i hi;rw [Array.getElem?_eq_none h] at this;cases this
 rw [Array.getElem?_setIfInBounds]
 by_cases e:i=j
 ·subst e
  rw [if_pos rfl,if_pos hiC]
  unfold half
  rw [if_pos (by omega)]
 ·rw [if_neg e,h2 j hj]
  unfold half
  by_cases e2:j<i
  ·rw [if_pos e2,if_pos (by omega)]
  ·rw [if_neg e2,if_neg (by omega)]
theorem HalfIn.cell {w0 w:World} {s:ByteArray} {i m:Nat} (h:HalfIn w0 w s i m) {j:Nat} (hj:j<s.size):w.cell? ⟨w0.heap.size,j,none⟩=some (.int .u8 (half s i j:Nat))/\w.frozen? ⟨w0.heap.size,j,none⟩=false:=by
 obtain ⟨⟨C,h1,h2⟩,h3,h4⟩:=h
 exact ⟨cell_of_mark h1 j _ (h2 j hj),free_of_mark h1 j (by omega)⟩
theorem get_data (s:ByteArray) (j:Nat) (hj:j<s.size):s.get! j=s.data[j]'hj:=by
 have:s.get! j=s.data[j]!:=rfl
 rw [this,getElem!_pos s.data j hj]
theorem and127_all:((List.range 256).all fun b=>bits BinOp.and IntKind.u8 (b:Int) 127 == ((b % 128:Nat):Int))=true:=by kernel_rfl
theorem and127 {b:Nat} (h:b<256):bits BinOp.and IntKind.u8 (b:Int) 127=((b % 128:Nat):Int):=by
 have:=and127_all
 rw [List.all_eq_true] at this
 exact eq_of_beq (this b (List.mem_range.2 h))
set_option maxRecDepth 100000 in
set_option maxHeartbeats 2000000 in
theorem ascii_any (s:ByteArray) (w:World) (hs:s.size<=2200000) :
  Calls Tryz.prog 26 #[.string s] w fun r w'=>r=.returned (.string (asciiP s))/\Below w.heap.size w w':=by
 have kc:=fun (W:World) (x:ByteArray)=>run_bytes_of_string (P:=Tryz.prog) W 9 63 5 x Tryz.underlying9 Tryz.underlying63 Tryz.underlying5
 obtain ⟨m,hm⟩:∃ m,m=(bytesRow s (grownCap w s.size 0 5)).size:=⟨_,rfl⟩
 have H0:Hid (HalfIn w (w.drew.alloc (.cells (bytesRow s (grownCap w s.size 0 5)) 5 (m,m+1))) s 0 m):=by
  refine ⟨⟨_,alloc_mark w _,fun j hj=>?_⟩,?_,?_⟩
  ·rw [bytesRow_at s _ j hj]
   unfold half
   rw [if_neg (by omega),get_data s j hj]
  ·rw [hm]
   unfold bytesRow
   simp
  ·exact ((Below.refl _ _).drew).alloc (Nat.le_refl _) _
 go_enter Tryz.func26,Tryz.ntmps26
 go_wp2_with fail
 generalize grownCap w s.size 0 5=cap at *
 go_loopg [4] s.size (fun gh iv wx=>∃ i:Nat,i<=s.size/\gh=s.size - i/\iv=.int .i64 i/\Hid (HalfIn w wx s i m))
 case atStart=>exact ⟨0,Nat.zero_le _,rfl,rfl,by rw [<- hm];exact H0⟩
 case round =>
  obtain ⟨i,hi,rfl,rfl,hH⟩:=hrel
  obtain ⟨w1,hw1⟩:∃ w1,w1=wr:=⟨wr,rfl⟩
  subst hw1
  by_cases hlt:i<s.size
  ·obtain ⟨hc,hfr⟩:=hH.out.cell hlt
   have NX:Hid (HalfIn w (w1.setCell ⟨w.heap.size,i,none⟩ (.int .u8 ((s.get! i).toNat % 128:Nat))) s (i+1) m):=hH.out.next hlt
   rw [show half s i i=(s.get! i).toNat from by unfold half;rw [if_neg (by omega)]] at hc
   have hb:=(s.get! i).toNat_lt
   generalize (s.get! i).toNat=b at hc NX hb
   go_wp2_with fail
   go_roundg (s.size - (i+1))
   case measure=>omega
   case rel =>
    refine ⟨i+1,by omega,rfl,by go_num,?_⟩
    rw [and127 hb]
    exact NX
  ·obtain rfl:i=s.size:=by omega
   have kb:=run_convert_bytes_back (P:=Tryz.prog) w1 63 9 5 ⟨w.heap.size,0,none⟩ cap (asciiP s).data.toList Tryz.underlying63 Tryz.underlying5 Tryz.underlying9 fun j hj=>by
    have hj':j<s.size:=by simpa [asciiP] using hj
    have h1:=(hH.out.cell hj').1
    rw [show (⟨w.heap.size,0,none⟩:Addr).add j=⟨w.heap.size,j,none⟩ from by unfold Addr.add;split <;> simp_all,h1]
    unfold half
    rw [if_pos hj',get_data s j hj']
    simp [asciiP]
    rw [show s.data[j].toNat &&& 127=s.data[j].toNat % 128 from Nat.and_two_pow_sub_one_eq_mod _ 7]
    simp
   have hl:(asciiP s).data.toList.length=s.size:=by simp [asciiP]
   rw [hl] at kb
   go_wp2_with fail
   go_ret
   exact ⟨by simp,hH.out.bel⟩
open Go.Lib
theorem strCells_app (a b:List ByteArray):strCells (a++b)=strCells a++strCells b:=by unfold strCells;simp
theorem strCells_len (a:List ByteArray):(strCells a).length=a.length:=by unfold strCells;simp
theorem one_strs (l:List ByteArray):∀ u ∈ strCells l,u.oneCell'=true:=by
 intro u hu
 unfold strCells at hu
 obtain ⟨x,_,rfl⟩:=List.mem_map.1 hu
 rfl
theorem bytes_in (W:World) (x:ByteArray) (c:Nat) (m:Nat × Nat):∀ j u,(byCells x)[j]?=some u->(W.drew.alloc (.cells (bytesRow x c) 5 m)).cell? ((⟨W.heap.size,0,none⟩:Addr).add j)=some u:=fun j u hu=>by
 have hj:j<x.size:=by rw [<- byCells_len];exact (List.getElem?_eq_some_iff.1 hu).1
 rw [show (⟨W.heap.size,0,none⟩:Addr).add j=⟨W.heap.size,0+j,none⟩ from by unfold Addr.add;split <;> simp_all,Nat.zero_add]
 refine cell_of_mark (alloc_mark W _) j u ?_
 rw [bytesRow_at x c j hj,<- hu,byCells_at x j hj,get_data x j hj]
def KPost (w:World) (H:List Hd) (V:List Vw) (L:List (Int × Int × Nat)) (P:List ByteArray) (cl:Bool) (r:Ending) (w':World):Prop:=∃ v told C l s,r=.returned (.tuple #[v,.bool true])/\w'.ownsRow w.heap.size 9 1 v told.length (strCells told)/\told.length<=5000/\Below w.heap.size w w'/\Rests H V L (joinB P) C l s/\told=if cl then l++(endS H V s).told else l
set_option maxRecDepth 100000 in
set_option maxHeartbeats 8000000 in
theorem kflow_any (w:World) (gR:Nat) (H:List Hd) (V:List Vw) (L:List (Int × Int × Nat)) (ks:List Nat) (hE:FEnv w gR H V L ks) (P:List ByteArray) (vP:Value) (base:Nat) (hP:w.ownsRow base 9 1 vP P.length (strCells P)) (hsz:(joinB P).size<=5000) (hl:P.length<=1500000) (cl:Bool) :
  Calls Tryz.prog 37 #[.pointer (some ⟨gR,0,none⟩),vP,.bool cl] w fun r w'=>KPost w H V L P cl r w':=by
 have kc:=fun (W:World) (x:ByteArray)=>run_bytes_of_string (P:=Tryz.prog) W 9 63 5 x Tryz.underlying9 Tryz.underlying63 Tryz.underlying5
 obtain ⟨iS,hiS,hz0,hz1,hz2⟩:=info_parts Tryz.infoSg
 obtain ⟨aoP,capP,rfl⟩:=row_shape hP
 have ho:=open_any w gR 100000 H V L ks hE (by decide) (by decide)
 have HE:Hid (FEnv w gR H V L ks):=hE
 have HP:Hid (w.ownsRow base 9 1 (.slice aoP P.length capP) P.length (strCells P)):=hP
 clear hE hP
 go_enter Tryz.func37,Tryz.ntmps37
 go_wp2_with fail
 refine ho.mono ?_
 rintro r w1 ⟨p,f,rfl,hp,hS,b1⟩
 have K0:Hid (KF w w1 p f gR H V L ⟨#[]⟩ (.slice none 0 0) []):=KF.start L hS b1
 clear ho hp hS b1
 go_wp2_with fail
 go_loopg [10,11] P.length (fun gh ov iv wx=>∃ (i:Nat) (told:List ByteArray) (ao:Option Addr) (cap:Nat),i<=P.length/\gh=P.length - i/\ov=.slice ao told.length cap/\iv=.int .i64 i/\Hid (KF w wx p f gR H V L (joinB (P.take i)) (.slice ao told.length cap) told))
 case atStart=>exact ⟨0,[],none,0,Nat.zero_le _,rfl,rfl,rfl,K0⟩
 case round =>
  obtain ⟨i,told,ao,cap,hi,rfl,rfl,rfl,hK⟩:=hrel
  obtain ⟨w2,hw2⟩:∃ w2,w2=wr:=⟨wr,rfl⟩
  subst hw2
  clear K0
  have hjt:=joinB_take P i
  by_cases hlt:i<P.length
  ·obtain ⟨x,hx⟩:∃ x,P[i]?=some x:=⟨P[i],List.getElem?_eq_getElem hlt⟩
   have hd1:decide ((i:Int)<(P.length:Int))=true:=decide_eq_true (by omega)
   have HJ:Hid (joinB (P.take (i+1))=joinB (P.take i)++x):=by
    show _=_
    rw [List.take_add_one,hx]
    exact joinB_snoc _ _
   have hax:(joinB (P.take i)).size+x.size<=5000:=by
    have h1:=joinB_take P (i+1)
    rw [HJ.out,ByteArray.size_append] at h1
    exact Nat.le_trans h1 hsz
   obtain ⟨q,hq,_,hc⟩:=row_at (row_kp HP.out (Kp.below hK.out.bel)) (strCells_at hx) (by omega)
   subst hq
   obtain ⟨cb,hcb⟩:∃ cb,cb=grownCap w2 x.size 0 5:=⟨_,rfl⟩
   obtain ⟨m,hm⟩:∃ m,m=((bytesRow x cb).size,(bytesRow x cb).size+1):=⟨_,rfl⟩
   have hwr:=hK.out.write HE.out (x:=x) (by omega) (wy:=w2.drew.alloc (.cells (bytesRow x cb) 5 m)) (((Below.refl _ _).drew).alloc (Nat.le_refl _) _) (ad:=⟨w2.heap.size,0,none⟩) (cb:=cb) (bytes_in w2 x cb m)
   clear hx hK hjt
   generalize joinB (P.take i)=T at HJ hax hwr
   subst hm
   subst hcb
   go_wp2_with fail
   refine hwr.mono ?_
   rintro r w3 ⟨ao3,cap3,news,rfl,hrow3,hN⟩
   have N3:Hid (KFN w w3 p f gR H V L (T++x) (.slice ao told.length cap) told news):=hN
   have R3:Hid (∃ base,w3.ownsRow base 9 1 (.slice ao3 news.length cap3) news.length (strCells news)):=⟨_,hrow3⟩
   have hfw:=hN.few
   have hfz:(T++x).size=T.size+x.size:=ByteArray.size_append
   clear hwr hrow3 hN
   cases ao3 with
   | none =>
    have h0:news=[]/\cap3=0:=by
     obtain ⟨bs3,hr3⟩:=R3.out
     rcases hr3.2 with ⟨e1,e2⟩ | ⟨g,c,cur,e1,_⟩
     ·injection e1 with _ _ e3
      exact ⟨List.eq_nil_of_length_eq_zero e2,e3⟩
     ·simp at e1
    obtain ⟨rfl,rfl⟩:=h0
    have K3:Hid (KF w w3 p f gR H V L (T++x) (.slice ao told.length cap) told):=N3.out.none
    clear N3 R3
    go_wp2_with (at_builtin;go_loud (refine wpList_append_own_none rfl (.tmp 45) (.tmp 46) 30 rfl w.heap.size 9 iS 1 Tryz.undSg hiS (.slice ao told.length cap) told.length (strCells told) rfl K3.out.row rfl ?_))
    go_roundg (P.length - (i+1))
    case measure=>omega
    case rel=>exact ⟨i+1,told,ao,cap,by omega,rfl,rfl,by go_num,by rw [HJ.out];exact K3⟩
   | some a3 =>
    obtain ⟨bs3,hr3⟩:=R3.out
    have ha3:∃ g3,a3=⟨g3,0,none⟩:=by
     rcases hr3.2 with ⟨e1,_⟩ | ⟨g,c,cur,e1,_⟩
     ·simp at e1
     ·injection e1 with e1 _ _
      injection e1 with e1
      exact ⟨g,e1⟩
    obtain ⟨g3,rfl⟩:=ha3
    have NW:Hid (∀ j u,(strCells news)[j]?=some u->w3.cell? ((⟨g3,0,none⟩:Addr).add j)=some u):=hr3.cells (g:=g3) rfl
    have HL:Hid ((strCells news).length=news.length * 1):=by show _=_;rw [strCells_len,Nat.mul_one]
    have LA:w.heap.size<=w3.heap.size:=N3.out.bel.size
    have hm1:told.length+news.length<=maxLen:=by unfold maxLen;omega
    have hm2:(told.length+news.length) * 16<=140737488355328:=by omega
    clear hr3 R3
    go_wp2_with (at_builtin;go_loud (refine wpList_append_own_at _ rfl (.tmp 45) (.tmp 46) 30 rfl w.heap.size 9 iS (.string ⟨#[]⟩) 1 16 Tryz.undSg hiS hz0 hz1 hz2 rfl (by decide) (.slice ao told.length cap) told.length (strCells told) rfl N3.out.row ⟨g3,0,none⟩ news.length cap3 (strCells news) rfl HL.out NW.out (one_strs news) hm1 hm2 LA ?_);intro v' W4 hown hgr hnl hat;obtain ⟨ao4,cap4,rfl⟩:=row_shape hown;have E4:Hid (told.length+news.length=(told++news).length):=(List.length_append).symm;have K4:Hid (KF w W4 p f gR H V L (T++x) (.slice ao4 (told.length+news.length) cap4) (told++news)):=(N3.out.app HE.out hgr (by rw [strCells_app,<- E4.out];exact hown) hat);clear hown hgr hnl hat)
    go_wp2_with fail
    go_roundg (P.length - (i+1))
    case measure=>omega
    case rel=>exact ⟨i+1,told++news,ao4,cap4,by omega,rfl,by rw [<- E4.out],by go_num,by rw [HJ.out,<- E4.out];exact K4⟩
  ·obtain rfl:i=P.length:=by omega
   have hd1:decide ((P.length:Int)<(P.length:Int))=false:=decide_eq_false (by omega)
   rw [List.take_length] at hK hjt
   cases cl with
   | false =>
    obtain ⟨S,s,C,_,_,hR,_⟩:=hK.out.ex
    have RR:Hid (Rests H V L (joinB P) C told s):=hR
    have hfw:=hR.few HE.out.kinds
    clear hR
    go_wp2_with fail
    go_ret2
    exact ⟨_,told,C,told,s,rfl,hK.out.row,by omega,hK.out.bel,RR.out,rfl⟩
   | true =>
    have hcl:=hK.out.close HE.out
    clear hK
    go_wp2_with fail
    refine hcl.mono ?_
    rintro r w3 ⟨ao3,cap3,news,C,s,rfl,hrow3,hrow0,hb3,hR,hnw,hfw⟩
    have R3:Hid (∃ base,w3.ownsRow base 9 1 (.slice ao3 news.length cap3) news.length (strCells news)):=⟨_,hrow3⟩
    have R0:Hid (w3.ownsRow w.heap.size 9 1 (.slice ao told.length cap) told.length (strCells told)):=hrow0
    have B3:Hid (Below w.heap.size w w3):=hb3
    have RR:Hid (Rests H V L (joinB P) C told s):=hR
    have NN:Hid (news=(endS H V s).told):=hnw
    clear hcl hrow3 hrow0 hb3 hR hnw
    cases ao3 with
    | none =>
     have h0:news=[]/\cap3=0:=by
      obtain ⟨bs3,hr3⟩:=R3.out
      rcases hr3.2 with ⟨e1,e2⟩ | ⟨g,c,cur,e1,_⟩
      ·injection e1 with _ _ e3
       exact ⟨List.eq_nil_of_length_eq_zero e2,e3⟩
      ·simp at e1
     obtain ⟨e0,rfl⟩:=h0
     have EE:Hid (told=told++(endS H V s).told):=by show _=_;rw [<- NN.out,e0,List.append_nil]
     rw [show news.length=0 from by rw [e0];rfl]
     clear R3 e0 NN
     go_wp2_with (at_builtin;go_loud (refine wpList_append_own_none rfl (.tmp 56) (.tmp 57) 30 rfl w.heap.size 9 iS 1 Tryz.undSg hiS (.slice ao told.length cap) told.length (strCells told) rfl R0.out rfl ?_))
     go_ret2
     exact ⟨_,told,C,told,s,rfl,R0.out,by omega,B3.out,RR.out,EE.out⟩
    | some a3 =>
     obtain ⟨bs3,hr3⟩:=R3.out
     have ha3:∃ g3,a3=⟨g3,0,none⟩:=by
      rcases hr3.2 with ⟨e1,_⟩ | ⟨g,c,cur,e1,_⟩
      ·simp at e1
      ·injection e1 with e1 _ _
       injection e1 with e1
       exact ⟨g,e1⟩
     obtain ⟨g3,rfl⟩:=ha3
     have NW:Hid (∀ j u,(strCells news)[j]?=some u->w3.cell? ((⟨g3,0,none⟩:Addr).add j)=some u):=hr3.cells (g:=g3) rfl
     have HL:Hid ((strCells news).length=news.length * 1):=by show _=_;rw [strCells_len,Nat.mul_one]
     have LA:w.heap.size<=w3.heap.size:=B3.out.size
     have hm1:told.length+news.length<=maxLen:=by unfold maxLen;omega
     have hm2:(told.length+news.length) * 16<=140737488355328:=by omega
     have EE:Hid (told++news=told++(endS H V s).told):=by show _=_;rw [<- NN.out]
     clear hr3 R3 NN
     go_wp2_with (at_builtin;go_loud (refine wpList_append_own_at _ rfl (.tmp 56) (.tmp 57) 30 rfl w.heap.size 9 iS (.string ⟨#[]⟩) 1 16 Tryz.undSg hiS hz0 hz1 hz2 rfl (by decide) (.slice ao told.length cap) told.length (strCells told) rfl R0.out ⟨g3,0,none⟩ news.length cap3 (strCells news) rfl HL.out NW.out (one_strs news) hm1 hm2 LA ?_);intro v' W4 hown hgr hnl hat;obtain ⟨ao4,cap4,rfl⟩:=row_shape hown;have E4:Hid (told.length+news.length=(told++news).length):=(List.length_append).symm;have R4:Hid (W4.ownsRow w.heap.size 9 1 (.slice ao4 (told.length+news.length) cap4) (told++news).length (strCells (told++news))):=(by rw [strCells_app,<- E4.out];exact hown);have B4:Hid (Below w.heap.size w W4):=B3.out.grown hgr LA (fun k hk=>(R0.out.lt k hk).1);clear hown hgr hnl hat)
     go_wp2_with fail
     go_ret2
     exact ⟨_,told++news,C,told,s,rfl,R4.out,by rw [<- E4.out];omega,B4.out,RR.out,EE.out⟩
def shStep (st:Nat × List ByteArray) (s:ByteArray):Nat × List ByteArray:=(st.1+s.size,if st.1+s.size<=5000 then st.2++[s] else st.2)
def shortSt (P:List ByteArray) (i:Nat):Nat × List ByteArray:=(P.take i).foldl shStep (0,[])
def shortP (P:List ByteArray):List ByteArray:=(shortSt P P.length).2
theorem cell_ltA {w:World} {a:Addr} {v:Value} (h:w.cell? a=some v):a.block<w.heap.size:=by
 unfold World.cell? at h
 cases hh:w.heap[a.block]? with
 | none=>rw [hh] at h;simp at h
 | some x=>exact (Array.getElem?_eq_some_iff.1 hh).1
def ArgS (w:World) (v:Value) (P:List ByteArray):Prop:=(v=.slice none 0 0/\P=[])\/∃ a cap,v=.slice (some a) P.length cap/\∀ (i:Nat) (s:ByteArray),P[i]?=some s->w.cell? (a.add i)=some (.string s)
theorem ArgS.shape {w:World} {v:Value} {P:List ByteArray} (h:ArgS w v P):∃ ao cap,v=.slice ao P.length cap:=by
 rcases h with ⟨rfl,rfl⟩ | ⟨a,cap,rfl,_⟩
 ·exact ⟨none,0,rfl⟩
 ·exact ⟨_,cap,rfl⟩
theorem ArgS.at {w w':World} {ao:Option Addr} {n cap:Nat} {P:List ByteArray} (h:ArgS w (.slice ao n cap) P) (hb:Below w.heap.size w w') {i:Nat} {s:ByteArray} (hs:P[i]?=some s):∃ a,ao=some a/\w'.cell? (a.add i)=some (.string s):=by
 rcases h with ⟨_,rfl⟩ | ⟨a,c,e,hc⟩
 ·simp at hs
 ·injection e with e _ _
  subst e
  have h1:=hc i s hs
  exact ⟨a,rfl,(hb.cell (p:=a.add i) (cell_ltA h1)).trans h1⟩
theorem joinB_one (s:ByteArray):joinB [s]=s:=by
 apply ba_ext
 rw [ByteArray.toList_eq,ByteArray.toList_eq]
 simp [joinB]
theorem RulesAt.stream {T:ByteArray} {w:World} {g:Nat} (h:RulesAt T w (.pointer (some ⟨g,0,none⟩))) (h0:(rdT T).err=0) (hV:VarsOk w):∃ vE vJ vP vH vV L H V,RulesIn w g T vE vJ vP vH vV L/\FEnv w g H V L (possOf L)/\RulP (read2 T).2 L (possOf L) H V:=by
 obtain ⟨g',vE,vJ,vP,vH,vV,L,e,h⟩:=h
 cases e
 obtain ⟨H,V,h1,h2⟩:=rules_stream h h0 hV
 exact ⟨vE,vJ,vP,vH,vV,L,H,V,h,h1,h2⟩
theorem asciiU (s:ByteArray):Ascii (asciiP s):=by
 intro i hi
 unfold byte
 rw [get_data _ i hi]
 have hi':i<s.data.size:=Nat.lt_of_lt_of_eq hi (asciiP_size s)
 have e:(asciiP s).data[i]'hi=(s.data[i]'hi') &&& 127:=by simp [asciiP]
 rw [e,UInt8.toNat_and]
 have:=Nat.and_two_pow_sub_one_eq_mod (s.data[i]'hi').toNat 7
 have h2:(127:UInt8).toNat=2 ^ 7 - 1:=rfl
 rw [h2,this]
 exact Nat.mod_lt _ (by decide)
def cutTo (s:ByteArray):ByteArray:=if 1000<s.size then s.extract 0 1000 else s
theorem cutTo_size (s:ByteArray):(cutTo s).size<=1000:=by
 unfold cutTo
 split
 ·rw [ByteArray.size_extract];omega
 ·omega
theorem cutTo_ascii {s:ByteArray} (h:Ascii s):Ascii (cutTo s):=by
 unfold cutTo
 split
 ·intro i hi
  rw [ByteArray.size_extract] at hi
  unfold byte
  rw [get_front s 1000 i (by omega) (by omega)]
  exact h i (by omega)
 ·exact h
theorem rules_delay {T:ByteArray} {w:World} {g:Nat} {vE vJ vP vH vV:Value} {L:List (Int × Int × Nat)} {H:List Hd} {V:List Vw} (hI:RulesIn w g T vE vJ vP vH vV L) (hE:FEnv w g H V L (possOf L)) (hU:RulP (read2 T).2 L (possOf L) H V):Calls Tryz.prog 31 #[.pointer (some ⟨g,0,none⟩)] w fun r w'=>(∃ z:Int,r=.returned (.int .i64 z)/\delayIs V (possOf L) z)/\Below w.heap.size w w':=by
 obtain ⟨_,_,_,_,_,_,_,_,hP,_⟩:=hI.out
 obtain ⟨_,_,_,V0,_,_,hO,rfl⟩:=hU.out
 exact delay_any g _ _ w hE.lk.v ⟨vP,cell_of_block hI.blk 2 _ rfl,hP⟩ ⟨_,hI.blk⟩ (possOf_lt L) (fun e=>by have:=hE.bad;rw [e] at this;simp at this) (possOf_len L) hE.nxt (by rw [setTo_len];exact hO.few.2)
set_option maxRecDepth 100000 in
set_option maxHeartbeats 16000000 in
theorem prompt_pr (T s more:ByteArray) (w:World) (hV:VarsOk w) (hT:T.size<=140737488351232) (hs:s.size<=1500000) (hmo:more.size<=1048576) :
  Calls Tryz.prog 11 #[.string T,.string s,.string more] w fun r w'=>r=.returned (.bool true)/\Below w.heap.size w w':=by
 have HV:Hid (VarsOk w):=hV
 have hg:=given_any T w hV hT
 clear hV
 go_enter Tryz.func11,Tryz.ntmps11
 go_wp2_with fail
 refine hg.mono ?_
 rintro r w1 ⟨⟨v1,rfl,h1,h2⟩,b1⟩
 have B1:Hid (Below w.heap.size w w1):=b1
 by_cases e0:(rdT T).err=0
 ·have hR1:=h1 e0
  obtain ⟨g,rfl⟩:∃ g,v1=.pointer (some ⟨g,0,none⟩):=by
   obtain ⟨g,_,_,_,_,_,_,e,_⟩:=hR1
   exact ⟨g,e⟩
  obtain ⟨vE,vJ,vP,vH,vV,L,H,V,hI,hE,hU⟩:=hR1.stream e0 (HV.out.below b1)
  have V1:Hid (VarsOk w1):=HV.out.below b1
  have RI:Hid (RulesIn w1 g T vE vJ vP vH vV L):=hI
  have EE:Hid (FEnv w1 g H V L (possOf L)):=hE
  have UU:Hid (RulP (read2 T).2 L (possOf L) H V):=hU
  have hde:=rules_delay hI hE hU
  clear hg h1 h2 b1 e0 hR1 hI hE hU
  go_wp2_with fail
  refine hde.mono ?_
  rintro r w2 ⟨⟨z,rfl,hz⟩,b2⟩
  have B2:Hid (Below w1.heap.size w1 w2):=b2
  have ha:=ascii_any s w2 (by omega)
  obtain ⟨t,ht⟩:∃ t,t=asciiP s:=⟨_,rfl⟩
  rw [<- ht] at ha
  obtain ⟨u,hu⟩:∃ u,u=cutTo t:=⟨_,rfl⟩
  have AU:Hid (Ascii u):=by rw [hu,ht];exact cutTo_ascii (asciiU s)
  have hus:u.size<=1000:=by rw [hu];exact cutTo_size t
  have HU9:Hid (u=cutTo t):=hu
  have HZ:Hid (delayIs V (possOf L) z):=hz
  clear hde b2 ht hu hz
  go_wp2_with fail
  refine ha.mono ?_
  rintro r w3 ⟨rfl,b3⟩
  have B3:Hid (Below w1.heap.size w1 w3):=B2.out.trans (b3.mono B2.out.size)
  clear ha b3
  go_upto_if 33 with fail
  go_cut [1] (fun sv wx=>sv=.string u/\wx=w3)
  case first =>
   by_cases hlt:1000<t.size
   ·have e9:u=t.extract 0 1000:=by rw [HU9.out];unfold cutTo;rw [if_pos hlt]
    subst e9
    clear HU9 AU
    go_wp2_with fail
    go_meet
    exact ⟨rfl,rfl⟩
   ·have e9:u=t:=by rw [HU9.out];unfold cutTo;rw [if_neg hlt]
    subst e9
    clear HU9 AU
    go_wp2_with fail
    go_meet
    exact ⟨rfl,rfl⟩
  case rest =>
   obtain ⟨rfl,rfl⟩:=hcut
   clear HU9
   have BF:Hid (∀ w',Below w1.heap.size w1 w'->Below w.heap.size w w'):=fun w' h9=>B1.out.trans (h9.mono B1.out.size)
   rcases HZ.out with ⟨rfl,_⟩ | ⟨n,rfl,hn1,_⟩
   ·go_wp2_with fail
    go_ret
    exact ⟨rfl,BF.out _ B3.out⟩
   ·have NW:Hid (∀ v,v<V.length->within V (possOf L) n v):=hn1
    have hn0:¬ (n:Int)<0:=by omega
    have hn9:(-1:Int)<=(n:Int):=by omega
    clear hn1 HZ
    by_cases hbig:u.size<n
    ·have hd1:decide ((u.size:Int)<(n:Int))=true:=decide_eq_true (by omega)
     go_wp2_with fail
     go_ret
     exact ⟨rfl,BF.out _ B3.out⟩
    ·have hle:n<=u.size:=by omega
     obtain ⟨W4,hW4⟩:∃ W4,W4=wc.alloc (.cells #[.string u] 9):=⟨_,rfl⟩
     have HW4:Hid (W4=wc.alloc (.cells #[.string u] 9)):=hW4
     have b4:Below wc.heap.size wc W4:=by rw [hW4];exact below_alloc wc _
     have own4:W4.ownsRow 0 9 1 (.slice (some ⟨wc.heap.size,0,none⟩) 1 1) [u].length (strCells [u]):=by
      rw [hW4]
      exact ⟨rfl,Or.inr ⟨wc.heap.size,1,#[.string u],rfl,Nat.zero_le _,heap_alloc_new wc _,Nat.le_refl _,by decide,rfl,rfl⟩⟩
     have B4:Hid (Below w1.heap.size w1 W4):=B3.out.trans (b4.mono B3.out.size)
     have hf:=kflow_any W4 g H V L (possOf L) (EE.out.below B4.out) [u] _ _ own4 (by rw [joinB_one];omega) (by show 1<=1500000;omega) false
     clear hW4 b4 own4
     go_wp2_with fail
     rw [<- HW4.out]
     refine hf.mono ?_
     rintro r w5 ⟨v5,l,C5,l5,s5,rfl,hrow5,hl5,b5,hR5,e5⟩
     rw [joinB_one] at hR5
     rw [if_neg (by simp)] at e5
     subst e5
     obtain ⟨ao5,cap5,rfl⟩:=row_shape hrow5
     have B5:Hid (Below w1.heap.size w1 w5):=B4.out.trans (b5.mono B4.out.size)
     have R5:Hid (w5.ownsRow W4.heap.size 9 1 (.slice ao5 l.length cap5) l.length (strCells l)):=hrow5
     have PR:Hid (∀ all,CutTold T (u++more) L all->l <+: all/\∀ i,i<all.length->(joinB (all.take (i+1))).size<=u.size - n->i<l.length):=fun all h9=>hR5.prompt EE.out UU.out AU.out NW.out hle h9
     have hRI:=RI.out
     have hcut:=cut_any w5 g T (u++more) vE vJ vP vH vV L ⟨(B5.out.block _ (heap_lt hRI.blk)).trans hRI.blk,hRI.perm,hRI.row,row_kp hRI.tab (Kp.below B5.out),hRI.judge.kp (Kp.below B5.out) (Kp.below B5.out),hRI.out.below B5.out,hRI.ok,hRI.few,hRI.spans⟩ (V1.out.below B5.out).utf (V1.out.below B5.out).low (by rw [ByteArray.size_append];omega)
     clear hf hrow5 b5 hR5 HW4 hRI
     go_wp2_with fail
     refine hcut.mono ?_
     rintro r w6 ⟨⟨v6,all,rfl,hct,hrow6⟩,b6⟩
     obtain ⟨ao6,cap6,rfl⟩:=row_shape hrow6
     obtain ⟨hpre,hearly⟩:=PR.out all hct
     have hw6:=told_whole UU.out.kinds hct
     have hal:all.length<=2200000:=by have:=hw6.2.2;rw [ByteArray.size_append] at this;omega
     have hjs:(joinB all).size<=2200000:=by rw [hw6.2.1,ByteArray.size_append];omega
     have HP:Hid (l <+: all):=hpre
     have HL9:Hid (∀ i,i<all.length->(joinB (all.take (i+1))).size<=u.size - n->i<l.length):=hearly
     have R6:Hid (w6.ownsRow w5.heap.size 9 1 (.slice ao6 all.length cap6) all.length (strCells all)):=hrow6
     have Q6:Hid (w6.ownsRow W4.heap.size 9 1 (.slice ao5 l.length cap5) l.length (strCells l)):=row_kp R5.out (Kp.below b6)
     have B6:Hid (Below w1.heap.size w1 w6):=B5.out.trans (b6.mono B5.out.size)
     clear hcut hct hrow6 b6 hpre hearly hw6 R5 PR B5 B4 B3 B2
     go_wp2_with fail
     go_loopg [13,14] all.length (fun gh av iv wx=>∃ i:Nat,i<=all.length/\gh=all.length - i/\av=.int .i64 ((joinB (all.take i)).size:Nat)/\iv=.int .i64 i/\Hid (Below w6.heap.size w6 wx))
     case atStart=>exact ⟨0,Nat.zero_le _,rfl,rfl,rfl,Below.refl _ _⟩
     case round =>
      obtain ⟨i,hi,rfl,rfl,rfl,hB⟩:=hrel
      obtain ⟨w7,hw7⟩:∃ w7,w7=wr:=⟨wr,rfl⟩
      subst hw7
      by_cases hlt:i<all.length
      ·obtain ⟨x,hx⟩:∃ x,all[i]?=some x:=⟨all[i],List.getElem?_eq_getElem hlt⟩
       obtain ⟨q,hq,_,hc⟩:=row_at (row_kp R6.out (Kp.below hB.out)) (strCells_at hx) (by omega)
       subst hq
       obtain ⟨m,hm⟩:∃ m,m=(joinB (all.take i)).size:=⟨_,rfl⟩
       have EM:Hid ((joinB (all.take (i+1))).size=m+x.size):=by show _=_;rw [hm,List.take_add_one,hx];show (joinB (all.take i++[x])).size=_;rw [joinB_snoc,ByteArray.size_append]
       have hmx:m+x.size<=2200000:=by rw [<- EM.out];exact Nat.le_trans (joinB_take all (i+1)) hjs
       rw [<- hm]
       clear hm
       by_cases hear:m+x.size<=u.size - n
       ·have hil:=HL9.out i hlt (by rw [EM.out];exact hear)
        have hli:l[i]?=some x:=by
         obtain ⟨tt,htt⟩:=HP.out
         rw [<- htt,List.getElem?_append_left hil] at hx
         exact hx
        obtain ⟨q5,hq5,_,hc5⟩:=row_at (row_kp Q6.out (Kp.below hB.out)) (strCells_at hli) (by omega)
        subst hq5
        have hd2:(m:Int)+(x.size:Int)<=(u.size:Int) - (n:Int):=by omega
        have hd3:¬ l.length<=i:=by omega
        clear hx hli hear
        go_wp2_with fail
        go_quiet (fail)
        go_wp2_with fail
        go_roundg (all.length - (i+1))
        case measure=>omega
        case rel=>exact ⟨i+1,by omega,rfl,by rw [EM.out];go_num,by go_num,bdrew hB.out _⟩
       ·have hd2:decide ((m:Int)+(x.size:Int)<=(u.size:Int) - (n:Int))=false:=decide_eq_false (by omega)
        clear hx hear
        go_wp2_with fail
        go_quiet (fail)
        go_wp2_with fail
        go_roundg (all.length - (i+1))
        case measure=>omega
        case rel=>exact ⟨i+1,by omega,rfl,by rw [EM.out];go_num,by go_num,bdrew hB.out _⟩
      ·obtain rfl:i=all.length:=by omega
       have BB:Hid (Below w.heap.size w w7):=BF.out _ (B6.out.trans (hB.out.mono B6.out.size))
       go_wp2_with fail
       go_ret
       exact ⟨rfl,BB.out⟩
 ·obtain rfl:=h2 e0
  clear hg h1 h2 b1 e0
  go_wp2_with fail
  go_ret
  exact ⟨rfl,B1.out⟩
end Go.Proofs.YtodagkkjfipbgaaGreatDoor
