import Derived.Test.YtodagkkjfipbgaaGreatDoorT33toY0
namespace Go.Proofs.YtodagkkjfipbgaaGreatDoor
open Go.RowKit Go.Maps Go.Lib
def geL (g:List (List (Nat × Nat))) (l:List Nat):List Nat:=l.flatMap fun x=>(grow g x).filterMap fun e=>if e.1=0 then some e.2 else none
def normL (n:Nat) (l:List Nat):List Nat:=(List.range n).filter fun x=>l.contains x
def cloL (g:List (List (Nat × Nat))):Nat→List Nat→List Nat
 | 0,l=>l
 | f+1,l=>cloL g f (normL g.length (l++geL g l))
def seedsK (g:List (List (Nat × Nat))) (l:List Nat) (k:Nat):List Nat:=l.flatMap fun x=>(grow g x).filterMap fun e=>if e.1.testBit k then some e.2 else none
def nxL (g:List (List (Nat × Nat))) (first:Nat) (l:List Nat) (k:Nat):List Nat:=cloL g g.length (first :: seedsK g l k)
def fullB (g:List (List (Nat × Nat))) (from_ l:List Nat):Bool:=(geL g l).all (l.contains ·) && from_.all (l.contains ·)
theorem mem_geL {g:List (List (Nat × Nat))} {l:List Nat} {y:Nat}:y ∈ geL g l↔∃ x ∈ l,geps g x y:=by
 unfold geL geps
 simp only [List.mem_flatMap,List.mem_filterMap]
 constructor
 ·rintro ⟨x,hx,⟨t,z⟩,he,h⟩
  split at h
  ·rename_i h0
   simp only at h0
   subst h0
   cases h
   exact ⟨x,hx,he⟩
  ·cases h
 ·rintro ⟨x,hx,he⟩
  exact ⟨x,hx,(0,y),he,by simp⟩
theorem mem_seedsK {g:List (List (Nat × Nat))} {l:List Nat} {k y:Nat}:y ∈ seedsK g l k↔∃ x ∈ l,∃ t,(t,y) ∈ grow g x∧t.testBit k=true:=by
 unfold seedsK
 simp only [List.mem_flatMap,List.mem_filterMap]
 constructor
 ·rintro ⟨x,hx,⟨t,z⟩,he,h⟩
  split at h
  ·rename_i h0
   cases h
   exact ⟨x,hx,t,he,h0⟩
  ·cases h
 ·rintro ⟨x,hx,t,he,h0⟩
  exact ⟨x,hx,(t,y),he,by simp [h0]⟩
theorem cloL_sound (g:List (List (Nat × Nat))):∀ (f:Nat) (l:List Nat) (x:Nat),x ∈ cloL g f l→∃ y ∈ l,reach g y x:=by
 intro f
 induction f with
 | zero=>intro l x hx;exact ⟨x,hx,reach_refl g x⟩
 | succ f ih =>
  intro l x hx
  obtain ⟨y,hy,h⟩:=ih _ x hx
  unfold normL at hy
  simp only [List.mem_filter,List.contains_eq_mem,decide_eq_true_eq,List.mem_append] at hy
  rcases hy.2 with h1 | h1
  ·exact ⟨y,h1,h⟩
  ·obtain ⟨z,hz,he⟩:=mem_geL.1 h1
   exact ⟨z,hz,reach_eps he h⟩
theorem full_closed {g:List (List (Nat × Nat))} {a l:List Nat} (h:fullB g a l=true):closedS g (· ∈ l)∧∀ x ∈ a,x ∈ l:=by
 unfold fullB at h
 simp only [Bool.and_eq_true,List.all_eq_true,List.contains_eq_mem,decide_eq_true_eq] at h
 exact ⟨fun x hx y hy=>h.1 y (mem_geL.2 ⟨x,hx,hy⟩),h.2⟩
theorem cloL_is {g:List (List (Nat × Nat))} {a:List Nat} {f:Nat} (h:fullB g a (cloL g f a)=true) (x:Nat):(∃ y ∈ a,reach g y x)↔x ∈ cloL g f a:=by
 obtain ⟨h1,h2⟩:=full_closed h
 exact ⟨fun ⟨y,hy,hr⟩=>closed_reach h1 (h2 y hy) hr,cloL_sound g f a x⟩
theorem nxL_is {g:List (List (Nat × Nat))} {first:Nat} {l:List Nat} {k:Nat} (h:fullB g (first :: seedsK g l k) (nxL g first l k)=true):nxA g first (· ∈ l) k=(· ∈ nxL g first l k):=by
 funext x
 apply propext
 refine Iff.trans ?_ (cloL_is h x)
 unfold nxA stepS
 constructor
 ·rintro (⟨a,t,y,ha,he,ht,hr⟩ | hr)
  ·exact ⟨y,List.mem_cons_of_mem _ (mem_seedsK.2 ⟨a,ha,t,he,ht⟩),hr⟩
  ·exact ⟨first,List.mem_cons_self ..,hr⟩
 ·rintro ⟨y,hy,hr⟩
  rcases List.mem_cons.1 hy with rfl | hy
  ·exact Or.inr hr
  ·obtain ⟨a,ha,t,he,ht⟩:=mem_seedsK.1 hy
   exact Or.inl ⟨a,t,y,ha,he,ht,hr⟩
def famL (g:List (List (Nat × Nat))) (first:Nat) (Ks:List Nat):Nat→List (List Nat)→List (List Nat)
 | 0,F=>F
 | n+1,F=>famL g first Ks n (F++(F.flatMap fun l=>Ks.map (nxL g first l)).filter fun l=>!F.contains l)
def famOk (g:List (List (Nat × Nat))) (first goal:Nat) (Ks:List Nat) (F:List (List Nat)) (p:Nat→Bool):Bool :=
 fullB g [first] (cloL g g.length [first]) && F.contains (cloL g g.length [first]) && F.all fun l=>Ks.all fun k=>fullB g (first :: seedsK g l k) (nxL g first l k) && F.contains (nxL g first l k) && ((nxL g first l k).contains goal == p k)
theorem fam_step {g:List (List (Nat × Nat))} {first goal:Nat} {Ks:List Nat} {F:List (List Nat)} {p:Nat→Bool} (h:famOk g first goal Ks F p=true) {l:List Nat} (hl:l ∈ F) {k:Nat} (hk:k ∈ Ks) :
  nxA g first (· ∈ l) k=(· ∈ nxL g first l k)∧nxL g first l k ∈ F∧(goal ∈ nxL g first l k↔p k=true):=by
 unfold famOk at h
 simp only [Bool.and_eq_true,List.all_eq_true] at h
 obtain ⟨⟨h1,h2⟩,h3⟩:=h.2 l hl k hk
 refine ⟨nxL_is h1,by simpa using h2,?_⟩
 rw [← eq_of_beq h3]
 simp
theorem fam_start {g:List (List (Nat × Nat))} {first goal:Nat} {Ks:List Nat} {F:List (List Nat)} {p:Nat→Bool} (h:famOk g first goal Ks F p=true):∃ l ∈ F,reach g first=(· ∈ l):=by
 unfold famOk at h
 simp only [Bool.and_eq_true] at h
 refine ⟨_,by simpa using h.1.2,?_⟩
 funext x
 apply propext
 rw [← cloL_is h.1.1 x]
 simp
theorem fam_row {g:List (List (Nat × Nat))} {first goal:Nat} {Ks:List Nat} {F:List (List Nat)} {p:Nat→Bool} (h:famOk g first goal Ks F p=true):∀ row:List Nat,(∀ k ∈ row,k ∈ Ks)→∃ l ∈ F,row.foldl (nxA g first) (reach g first)=(· ∈ l):=by
 apply snoc_ind
 ·intro _;exact fam_start h
 ·intro row k ih hk
  obtain ⟨l,hl,e⟩:=ih fun k' h'=>hk k' (List.mem_append_left _ h')
  obtain ⟨h1,h2,_⟩:=fam_step h hl (hk k (by simp))
  refine ⟨_,h2,?_⟩
  rw [List.foldl_append,e]
  exact h1
theorem fam_last {g:List (List (Nat × Nat))} {first goal:Nat} {Ks:List Nat} {F:List (List Nat)} {p:Nat→Bool} {tab:Tab} (h:famOk g first goal Ks F p=true) (ht:SideT (nxA g first) goal [reach g first] tab) (row:List Nat) (k:Nat) (hk:∀ x ∈ row++[k],x ∈ Ks∧x<8) :
  tmatch tab ((row++[k]).foldl (fun a k=>tnext tab a k) 0)=p k:=by
 obtain ⟨Ss,h1,h2,_,h4⟩:=ht
 have h0:Ss[0]?=some (reach g first):=at_prefix h2 rfl
 have hm:=spot_match h4 h1 (spot_row h4 h1 (row++[k]) (fun x hx=>(hk x hx).2) 0 _ h0)
 obtain ⟨l,hl,e⟩:=fam_row h row fun x hx=>(hk x (List.mem_append_left _ hx)).1
 obtain ⟨e1,_,e2⟩:=fam_step h hl (hk k (by simp)).1
 have hm2:tmatch tab ((row++[k]).foldl (fun a k=>tnext tab a k) 0)=true↔p k=true:=by
  rw [hm,← e2,List.foldl_append,e]
  show nxA g first (· ∈ l) k goal↔_
  rw [e1]
 cases hp:p k with
 | true=>exact hm2.2 hp
 | false =>
  cases ht:tmatch tab ((row++[k]).foldl (fun a k=>tnext tab a k) 0) with
  | false=>rfl
  | true=>rw [hm2.1 ht] at hp;cases hp
def plainB (Ks:List Nat) (L:RuleM) (pl pr:Nat→Bool):Bool :=
 famOk (graphOf true L.SL) L.fL 0 Ks (famL (graphOf true L.SL) L.fL Ks 6 [cloL (graphOf true L.SL) (graphOf true L.SL).length [L.fL]]) pl && famOk (graphOf false L.SR) 0 L.fR Ks (famL (graphOf false L.SR) 0 Ks 6 [cloL (graphOf false L.SR) (graphOf false L.SR).length [0]]) pr
theorem take_last {row:List Nat} {i k:Nat} (h:row[i]?=some k):row.take (i+1)=row.take i++[k]:=by rw [List.take_add_one,h];rfl
def Ascii (s:ByteArray):Prop:=∀ i,i<s.size→byte s i<128
theorem get_extract (s:ByteArray) (p:Nat) (h:p<s.size):(s.extract p s.size).get! 0=s.get! p:=by
 rw [Utf8W.get!_of_lt s p h,Utf8W.get!_of_lt (s.extract p s.size) 0 (by rw [ByteArray.size_extract];omega)]
 simp [ByteArray.getElem_extract]
theorem decode_ascii {s:ByteArray} (h1:1≤s.size) (h:byte s 0<128):decodeGo s=(byte s 0,1):=by
 unfold decodeGo
 rw [if_neg (by omega),decode_at]
 have h':(s.get! 0).toNat<128:=h
 unfold decodeN
 rw [if_pos h']
 rfl
def kindB (l:List (Int × Int × Nat)) (c:Nat):Nat:=match l.find? fun o=>decide (o.1≤(c:Int)) && decide ((c:Int)≤o.2.1) with
 | some o=>o.2.2
 | none=>6
def kindsB (l:List (Int × Int × Nat)) (kf:Nat→Nat):Bool:=(List.range 128).all fun c=>(l.all fun o=>!(decide (o.1≤(c:Int)) && decide ((c:Int)≤o.2.1)) || o.2.2 == kf c) && (l.any (fun o=>decide (o.1≤(c:Int)) && decide ((c:Int)≤o.2.1)) || kf c == 6)
theorem kinds_is {L l:List (Int × Int × Nat)} {kf:Nat→Nat} (hp:L.Perm l) (h:kindsB l kf=true) {c:Nat} (hc:c<128) {k:Nat} (hk:KindOf L (c:Int) k):k=kf c:=by
 unfold kindsB at h
 simp only [List.all_eq_true,List.mem_range,Bool.and_eq_true] at h
 obtain ⟨h1,h2⟩:=h c hc
 rcases hk with ⟨o,ho,a,b,e⟩ | ⟨hn,e⟩
 ·have h3:=h1 o (hp.mem_iff.1 ho)
  rw [decide_eq_true a,decide_eq_true b] at h3
  simp at h3
  rw [← e,h3]
 ·have h4:(l.any fun o=>decide (o.1≤(c:Int)) && decide ((c:Int)≤o.2.1))=false:=by
   rw [List.any_eq_false]
   intro o ho
   have:=hn o (hp.mem_iff.2 ho)
   simp only [Bool.and_eq_true,decide_eq_true_eq]
   exact this
  rw [h4] at h2
  simp at h2
  rw [e,h2]
theorem chars_ascii {L l:List (Int × Int × Nat)} {kf:Nat→Nat} (hp:L.Perm l) (h:kindsB l kf=true) {s:ByteArray} (hs:Ascii s) {p:Nat} {ks ns:List Nat} (hc:CharsTo L s p ks ns):ks=(List.range p).map (fun i=>kf (byte s i))∧ns=List.replicate p 1:=by
 induction hc with
 | nil=>exact ⟨rfl,rfl⟩
 | @snoc p ks ns k n hc hp2 hch ih =>
  have hb:byte (s.extract p s.size) 0=byte s p:=by unfold byte;rw [get_extract s p hp2]
  have hlt:=hs p hp2
  have hd:decodeGo (s.extract p s.size)=(byte s p,1):=by rw [decode_ascii (by rw [ByteArray.size_extract];omega) (by rw [hb];exact hlt),hb]
  unfold CharIs at hch
  rw [hd] at hch
  rcases hch with ⟨e,_⟩ | ⟨_,rfl,hk⟩
  ·simp only at e;omega
  ·have e:=kinds_is hp h hlt hk
   refine ⟨?_,?_⟩
   ·show _=(List.range (p+1)).map _
    rw [ih.1,List.range_succ,List.map_append,e];rfl
   ·show _=List.replicate (p+1) 1
    rw [ih.2,List.replicate_succ']
def cutB2 (f:Nat→Nat→Bool) (s:ByteArray) (i:Nat):Bool:=if i+1<s.size then f (byte s i) (byte s (i+1)) else true
theorem stA_settled {V:List Vw} (n:Nat) {v:Nat} (h:stlV V v=true):stA V n v=(n,.inr (cutV V v)):=by
 unfold stA stG
 rw [h]
 rfl
theorem char_one {L:List (Int × Int × Nat)} {s:ByteArray} {k n:Nat} (h1:1≤s.size) (hb:byte s 0<128) (h:CharIs L s k n):n=1:=by
 have hd:=decode_ascii h1 hb
 rcases h with ⟨h2,_⟩ | ⟨_,h2,_⟩
 ·rw [hd] at h2
  have h2':byte s 0=65533:=h2
  omega
 ·rw [h2,hd]
theorem chars_ones {L:List (Int × Int × Nat)} {s:ByteArray} (hs:Ascii s) {p:Nat} {ks ns:List Nat} (h:CharsTo L s p ks ns):∀ n ∈ ns,n=1:=by
 induction h with
 | nil=>intro n hn;simp at hn
 | @snoc p ks ns k n h hp hc ih =>
  intro m hm
  rcases List.mem_append.1 hm with h1 | h1
  ·exact ih m h1
  ·simp at h1
   subst h1
   refine char_one (by rw [ByteArray.size_extract];omega) ?_ hc
   unfold byte
   rw [get_extract s p hp]
   exact hs p hp
theorem full_ascii {s:ByteArray} (h1:1≤s.size) (hb:byte s 0<128):fullS s=true:=by
 cases hf:fullS s with
 | true=>rfl
 | false =>
  rw [fullS_is h1] at hf
  have h2:=open_parts hf
  have h3:(s.get! 0).toNat<128:=hb
  unfold firstT at h2
  rw [if_pos h3] at h2
  omega
theorem Rests.ascii {H:List Hd} {V:List Vw} {L:List (Int × Int × Nat)} {T:ByteArray} (hT:Ascii T) {C:List (Nat × Nat)} {l:List ByteArray} {s:FS} (h:Rests H V L T C l s):C.length=T.size∧(∀ c ∈ C,c.2=1)∧CharsTo L T T.size (C.map fun c=>c.1) (C.map fun c=>c.2):=by
 have hc:=h.fl.known.2 ⟨#[]⟩
 rw [app_nil] at hc
 have hk1:=h.fl.known.1
 have hsum:sumC C=T.size:=by
  rcases Nat.lt_or_ge (sumC C) T.size with h1 | h1
  ·exfalso
   have h2:=h.shut
   rw [h.fl.rest.1] at h2
   have hz:(T.extract (sumC C) T.size).size=T.size - sumC C:=by rw [ByteArray.size_extract];omega
   rw [full_ascii (by omega) (by unfold byte;rw [get_extract T _ h1];exact hT _ h1)] at h2
   cases h2
  ·omega
 rw [hsum] at hc
 have h1:=chars_ones hT hc
 have h2:∀ c ∈ C,c.2=1:=fun c hm=>h1 c.2 (List.mem_map.2 ⟨c,hm,rfl⟩)
 refine ⟨?_,h2,hc⟩
 rw [← hsum]
 unfold sumC
 clear hc h1 hsum hk1 h
 induction C with
 | nil=>rfl
 | cons c C ih =>
  rw [List.map_cons,List.sum_cons,h2 c (List.mem_cons_self ..),← ih fun x hx=>h2 x (List.mem_cons_of_mem _ hx)]
  simp
  omega
def flagK (J:AJ) (R:List Nat) (i:Nat):Bool:=cutsA J (seenK J R i)
theorem fold_snoc {V:List Vw} (d:List Nat) (k v:Nat):(d++[k]).foldl (fun v k=>nxV V k v) v=nxV V k (d.foldl (fun v k=>nxV V k v) v):=by rw [List.foldl_append];rfl
theorem nx_of {V:List Vw} {u k q:Nat} (hu:u<V.length) (h:V[u].2.2[k]?=some q):nxV V k u=q:=by
 unfold nxV
 rw [List.getElem?_eq_getElem hu,Option.bind_some,h]
 rfl
theorem view_ext {Ls:List RuleM} {ks:List Nat} {J:AJ} {X K:List Spt} {H:List Hd} {V:List Vw} {MC MJ:List Bool} (h:OutS Ls ks J X K H V MC MJ) {R:List Nat} {i v:Nat} (hi:i≤R.length) (hv:K[v]?=some (seenK J R i)):∀ d:List Nat,(∀ k ∈ d,k ∈ ks)→K[d.foldl (fun v k=>nxV V k v) v]?=some (seenK J (R++d) i):=by
 apply snoc_ind
 ·intro _;rw [List.append_nil];exact hv
 ·intro d k ih hk
  have h1:=ih fun c hc=>hk c (List.mem_append_left _ hc)
  have hvl:d.foldl (fun v k=>nxV V k v) v<V.length:=by rw [h.vlen];exact (List.getElem?_eq_some_iff.1 h1).1
  obtain ⟨y,hy,_,_,hy2⟩:=h.views _ _ (List.getElem?_eq_getElem hvl)
  rw [h1] at hy
  cases hy
  obtain ⟨q,hq1,hq2⟩:=hy2 k (hk k (by simp))
  have enx:nxV V k (d.foldl (fun v k=>nxV V k v) v)=q:=nx_of hvl hq1
  rw [fold_snoc,enx,hq2,← List.append_assoc,seenK_snoc J (by rw [List.length_append];omega)]
theorem view_flag {Ls:List RuleM} {ks:List Nat} {J:AJ} {X K:List Spt} {H:List Hd} {V:List Vw} {MC MJ:List Bool} (h:OutS Ls ks J X K H V MC MJ) {R:List Nat} {i v:Nat} (hv:K[v]?=some (seenK J R i)):v<V.length∧cutV V v=flagK J R i:=by
 have hvl:v<V.length:=by rw [h.vlen];exact (List.getElem?_eq_some_iff.1 hv).1
 obtain ⟨y,hy,_,hy1,_⟩:=h.views v _ (List.getElem?_eq_getElem hvl)
 rw [hv] at hy
 cases hy
 refine ⟨hvl,?_⟩
 unfold cutV flagK
 rw [List.getElem?_eq_getElem hvl]
 exact hy1
theorem may_text {Ls:List RuleM} {ks:List Nat} {J:AJ} {X K:List Spt} {H:List Hd} {V:List Vw} {MC MJ:List Bool} (h:OutS Ls ks J X K H V MC MJ) (c:Bool):∀ (n:Nat) {R:List Nat} {i v:Nat},i≤R.length→K[v]?=some (seenK J R i)→mayN ks (plainV V) c n v→∃ d:List Nat,(∀ k ∈ d,k ∈ ks)∧flagK J (R++d) i=c:=by
 intro n
 induction n with
 | zero =>
  intro R i v _ hv hm
  obtain ⟨hvl,hf⟩:=view_flag h hv
  refine ⟨[],fun k hk=>by simp at hk,?_⟩
  rw [List.append_nil,← hf]
  have h1:((plainV V)[v]?).map Prod.fst=some c:=hm
  rw [plain_at,List.getElem?_eq_getElem hvl] at h1
  unfold cutV
  rw [List.getElem?_eq_getElem hvl]
  simpa using h1
 | succ n ih =>
  intro R i v hi hv hm
  obtain ⟨hvl,hf⟩:=view_flag h hv
  rcases hm with hm | ⟨k,hk,y,hy,hm⟩
  ·refine ⟨[],fun k hk=>by simp at hk,?_⟩
   rw [List.append_nil,← hf]
   rw [plain_at,List.getElem?_eq_getElem hvl] at hm
   unfold cutV
   rw [List.getElem?_eq_getElem hvl]
   simpa using hm
  ·have hnx:nxV V k v=y:=by
    rw [plain_at,List.getElem?_eq_getElem hvl] at hy
    unfold nxV
    rw [List.getElem?_eq_getElem hvl,Option.bind_some]
    have:V[v].2.2[k]?=some y:=hy
    rw [this]
    rfl
   have h1:=view_ext h hi hv [k] (fun c hc=>by simp at hc;rw [hc];exact hk)
   have h2:K[y]?=some (seenK J (R++[k]) i):=by rw [← hnx];exact h1
   obtain ⟨d,h3,h4⟩:=ih (by rw [List.length_append];omega) h2 hm
   refine ⟨k :: d,fun c hc=>?_,?_⟩
   ·rcases List.mem_cons.1 hc with rfl | hc
    ·exact hk
    ·exact h3 c hc
   ·rw [← h4,List.append_assoc]
    rfl
theorem text_may {Ls:List RuleM} {ks:List Nat} {J:AJ} {X K:List Spt} {H:List Hd} {V:List Vw} {MC MJ:List Bool} (h:OutS Ls ks J X K H V MC MJ) {R:List Nat} {i v:Nat} (hi:i≤R.length) (hv:K[v]?=some (seenK J R i)):∀ d:List Nat,(∀ k ∈ d,k ∈ ks)→mayV ks (plainV V) (flagK J (R++d) i) v:=by
 intro d
 induction d generalizing R v with
 | nil =>
  intro _
  obtain ⟨hvl,hf⟩:=view_flag h hv
  rw [List.append_nil,← hf]
  refine may_here ?_
  rw [plain_at,List.getElem?_eq_getElem hvl]
  unfold cutV
  rw [List.getElem?_eq_getElem hvl]
  rfl
 | cons k d ih =>
  intro hk
  obtain ⟨hvl,_⟩:=view_flag h hv
  have h1:=view_ext h hi hv [k] (fun c hc=>by simp at hc;rw [hc];exact hk k (List.mem_cons_self ..))
  have h2:K[nxV V k v]?=some (seenK J (R++[k]) i):=h1
  have h3:=ih (by rw [List.length_append];omega) h2 (fun c hc=>hk c (List.mem_cons_of_mem _ hc))
  rw [List.append_assoc] at h3
  refine may_back ⟨k,hk k (List.mem_cons_self ..),?_⟩ h3
  obtain ⟨y,hy,_,_,hy2⟩:=h.views v _ (List.getElem?_eq_getElem hvl)
  obtain ⟨q,hq1,_⟩:=hy2 k (hk k (List.mem_cons_self ..))
  rw [plain_at,List.getElem?_eq_getElem hvl]
  unfold nxV
  rw [List.getElem?_eq_getElem hvl,Option.bind_some,hq1]
  exact hq1
theorem stl_text {Ls:List RuleM} {ks:List Nat} {J:AJ} {X K:List Spt} {H:List Hd} {V:List Vw} {MC MJ:List Bool} (h:OutS Ls ks J X K H V MC MJ) {R:List Nat} {i v:Nat} (hi:i≤R.length) (hv:K[v]?=some (seenK J R i)):stlV (setTo V.length (setF MC MJ) V) v=true↔∃ c,∀ d:List Nat,(∀ k ∈ d,k ∈ ks)→flagK J (R++d) i=c:=by
 obtain ⟨hvl,_⟩:=view_flag h hv
 rw [stlV_set hvl (Nat.le_refl _)]
 unfold setF
 rw [Bool.or_eq_true]
 have e1:∀ (M:List Bool),M.length=V.length→((!(M[v]?).getD false)=true↔¬ M[v]?=some true):=fun M hM=>by
  rw [List.getElem?_eq_getElem (by omega)]
  cases M[v]'(by omega) <;> simp
 rw [e1 MC h.mc.1,e1 MJ h.mj.1,h.mc.2,h.mj.2]
 constructor
 ·rintro (h1 | h1)
  ·refine ⟨false,fun d hd=>?_⟩
   cases hf:flagK J (R++d) i with
   | false=>rfl
   | true=>exact absurd (by rw [← hf];exact text_may h hi hv d hd) h1
  ·refine ⟨true,fun d hd=>?_⟩
   cases hf:flagK J (R++d) i with
   | true=>rfl
   | false=>exact absurd (by rw [← hf];exact text_may h hi hv d hd) h1
 ·rintro ⟨c,h1⟩
  have no:∀ b,b ≠ c→¬ mayV ks (plainV V) b v:=fun b hb ⟨n,hm⟩=>by
   obtain ⟨d,h2,h3⟩:=may_text h b n hi hv hm
   exact hb (h3.symm.trans (h1 d h2))
  cases c with
  | true=>exact Or.inr (no false (by decide))
  | false=>exact Or.inl (no true (by decide))
theorem within_all {V:List Vw} {ks:List Nat}:∀ (n v:Nat),(∀ c:List Nat,c.length=n→(∀ k ∈ c,k ∈ ks)→stlV V (c.foldl (fun v k=>nxV V k v) v)=true)→within V ks n v:=by
 intro n
 induction n with
 | zero=>intro v h;exact h [] rfl (fun k hk=>by simp at hk)
 | succ n ih =>
  intro v h
  refine Or.inr fun k hk=>ih _ fun c hc hck=>?_
  exact h (k :: c) (by simp [hc]) (fun x hx=>by
   rcases List.mem_cons.1 hx with rfl | hx
   ·exact hk
   ·exact hck x hx)
def stL (g:List (List (Nat × Nat))) (l:List Nat) (k:Nat):List Nat:=cloL g g.length (seedsK g l k)
theorem stL_is {g:List (List (Nat × Nat))} {l:List Nat} {k:Nat} (h:fullB g (seedsK g l k) (stL g l k)=true):stepS g (· ∈ l) k=(· ∈ stL g l k):=by
 funext x
 apply propext
 refine Iff.trans ?_ (cloL_is h x)
 unfold stepS
 constructor
 ·rintro ⟨a,t,y,ha,he,ht,hr⟩
  exact ⟨y,mem_seedsK.2 ⟨a,ha,t,he,ht⟩,hr⟩
 ·rintro ⟨y,hy,hr⟩
  obtain ⟨a,ha,t,he,ht⟩:=mem_seedsK.1 hy
  exact ⟨a,t,y,ha,he,ht,hr⟩
def autOk (g:List (List (Nat × Nat))) (first goal:Nat) (Ks:List Nat) (F:List (List Nat)) (nx:Nat→Nat→Nat) (hit:Nat→Bool):Bool :=
 fullB g [first] (cloL g g.length [first]) && (F[0]? == some (cloL g g.length [first])) && (List.range F.length).all fun s=>((F[s]?).getD []).contains goal == hit s && Ks.all fun k=>fullB g (seedsK g ((F[s]?).getD []) k) (stL g ((F[s]?).getD []) k) && (F[nx s k]? == some (stL g ((F[s]?).getD []) k))
theorem aut_row {g:List (List (Nat × Nat))} {first goal:Nat} {Ks:List Nat} {F:List (List Nat)} {nx:Nat→Nat→Nat} {hit:Nat→Bool} (h:autOk g first goal Ks F nx hit=true):∀ row:List Nat,(∀ k ∈ row,k ∈ Ks)→∃ l,F[row.foldl nx 0]?=some l∧row.foldl (stepS g) (reach g first)=(· ∈ l):=by
 unfold autOk at h
 simp only [Bool.and_eq_true,List.all_eq_true] at h
 obtain ⟨⟨h1,h2⟩,h3⟩:=h
 apply snoc_ind
 ·intro _
  refine ⟨_,eq_of_beq h2,?_⟩
  funext x
  apply propext
  rw [← cloL_is h1 x]
  simp
 ·intro row k ih hk
  obtain ⟨l,e1,e2⟩:=ih fun c hc=>hk c (List.mem_append_left _ hc)
  have hs:=(List.getElem?_eq_some_iff.1 e1).1
  obtain ⟨_,h4⟩:=h3 _ (List.mem_range.2 hs)
  obtain ⟨h5,h6⟩:=h4 k (hk k (by simp))
  rw [e1,Option.getD_some] at h5 h6
  refine ⟨_,by rw [List.foldl_append];exact eq_of_beq h6,?_⟩
  rw [List.foldl_append,e2]
  exact stL_is h5
theorem aut_goal {g:List (List (Nat × Nat))} {first goal:Nat} {Ks:List Nat} {F:List (List Nat)} {nx:Nat→Nat→Nat} {hit:Nat→Bool} (h:autOk g first goal Ks F nx hit=true) (row:List Nat) (hk:∀ k ∈ row,k ∈ Ks):runG g row first goal↔hit (row.foldl nx 0)=true:=by
 obtain ⟨l,e1,e2⟩:=aut_row h row hk
 rw [← fold_from,e2]
 unfold autOk at h
 simp only [Bool.and_eq_true,List.all_eq_true] at h
 have h1:=(h.2 _ (List.mem_range.2 (List.getElem?_eq_some_iff.1 e1).1)).1
 rw [e1,Option.getD_some] at h1
 rw [← eq_of_beq h1]
 simp
theorem aut_hit {g:List (List (Nat × Nat))} {first goal:Nat} {Ks:List Nat} {F:List (List Nat)} {nx:Nat→Nat→Nat} {hit:Nat→Bool} (h:autOk g first goal Ks F nx hit=true) (row:List Nat) (hk:∀ k ∈ row,k ∈ Ks):hitG g first goal row↔∃ m,m≤row.length∧hit ((row.take m).foldl nx 0)=true:=by
 unfold hitG
 constructor
 ·rintro ⟨m,h1,h2⟩;exact ⟨m,h1,(aut_goal h _ fun k hm=>hk k (List.mem_of_mem_take hm)).1 h2⟩
 ·rintro ⟨m,h1,h2⟩;exact ⟨m,h1,(aut_goal h _ fun k hm=>hk k (List.mem_of_mem_take hm)).2 h2⟩
def nxB (n s k:Nat):Nat:=if s<n∧k=1 then s+1 else n+1
theorem nxB_dead (n:Nat):∀ row:List Nat,row.foldl (nxB n) (n+1)=n+1:=by
 intro row
 induction row with
 | nil=>rfl
 | cons k row ih =>
  rw [List.foldl_cons,show nxB n (n+1) k=n+1 from by unfold nxB;rw [if_neg (by omega)]]
  exact ih
theorem nxB_row (n:Nat):∀ (row:List Nat) (s:Nat),s≤n→(row.foldl (nxB n) s=n↔row=List.replicate (n - s) 1):=by
 intro row
 induction row with
 | nil =>
  intro s hs
  constructor
  ·intro h
   have:s=n:=h
   rw [this,Nat.sub_self]
   rfl
  ·intro h
   have:=congrArg List.length h
   simp at this
   show s=n
   omega
 | cons k row ih =>
  intro s hs
  rw [List.foldl_cons]
  by_cases hc:s<n∧k=1
  ·rw [show nxB n s k=s+1 from by unfold nxB;rw [if_pos hc],ih (s+1) (by omega),show n - s=(n - (s+1))+1 from by omega,List.replicate_succ,hc.2]
   simp
  ·rw [show nxB n s k=n+1 from by unfold nxB;rw [if_neg hc],nxB_dead]
   constructor
   ·intro h;omega
   ·intro h
    exfalso
    apply hc
    cases hns:n - s with
    | zero=>rw [hns] at h;cases h
    | succ d =>
     rw [hns,List.replicate_succ] at h
     injection h with h _
     exact ⟨by omega,h⟩
theorem hits_b {g:List (List (Nat × Nat))} {first goal n:Nat} {Ks:List Nat} {F:List (List Nat)} (h:autOk g first goal Ks F (nxB n) (fun s=>s == n)=true) (row:List Nat) (hk:∀ k ∈ row,k ∈ Ks):hitG g first goal row↔row.take n=List.replicate n 1:=by
 rw [aut_hit h row hk]
 constructor
 ·rintro ⟨m,h1,h2⟩
  have h3:=(nxB_row n (row.take m) 0 (Nat.zero_le _)).1 (by simpa using h2)
  have h4:=congrArg List.length h3
  simp at h4
  rw [show n=m from by omega]
  rw [h3,show n - 0=m from by omega]
 ·intro h1
  have h2:=congrArg List.length h1
  simp at h2
  exact ⟨n,by omega,by rw [h1];simpa using (nxB_row n (List.replicate n 1) 0 (Nat.zero_le _)).2 (by simp)⟩
theorem says_at:∀ (l:List (Bool × Bool)) (j:Nat) (x:Bool × Bool),l[j]?=some x→x.2=true→(∀ j',j'<j→∀ y,l[j']?=some y→y.2=false)→saysB l=x.1:=by
 intro l
 induction l with
 | nil=>intro j x h;simp at h
 | cons a l ih =>
  intro j x h hx hno
  cases j with
  | zero =>
   simp at h
   subst h
   unfold saysB
   rw [hx]
   rfl
  | succ j =>
   have ha:a.2=false:=hno 0 (by omega) a rfl
   unfold saysB
   rw [ha]
   exact ih j x (by simpa using h) hx fun j' hj y hy=>hno (j'+1) (by omega) y (by simpa using hy)
theorem says_none:∀ (l:List (Bool × Bool)),(∀ y ∈ l,y.2=false)→saysB l=true:=by
 intro l
 induction l with
 | nil=>intro _;rfl
 | cons a l ih =>
  intro h
  unfold saysB
  rw [h a (List.mem_cons_self ..)]
  exact ih fun y hy=>h y (List.mem_cons_of_mem _ hy)
theorem flag_end (J:AJ) (R:List Nat):flagK J R R.length=true:=by
 unfold flagK seenK
 rw [List.drop_length,cutsA_says]
 rfl
def leftJ (J:AJ) (R:List Nat) (i j:Nat):Prop:=tmatch (tlAt J j) (((pastK J (R.take i)).2[j]?).getD 0)=true
theorem flag_list {Ls:List RuleM} {J:AJ} (hJ:JOk Ls J) (hl:Ls.length≤4) {R:List Nat} (hk:∀ k ∈ R,k<8) {i:Nat} (h2:i<R.length):flagK J R i=saysB ((List.range' 0 J.length).map fun j=>(cutAt J j,matchA J (seenK J R i).2 j))∧∀ j,j<Ls.length→(matchA J (seenK J R i).2 j=true↔(∀ j',j'<j→¬ metJ Ls (leftJ J R i) (R.drop i) j')∧metJ Ls (leftJ J R i) (R.drop i) j):=by
 obtain ⟨e1,e2⟩:=SeenAt.row hJ (SeenAt.start hJ hl (pastK J (R.take i))) (R.drop i) fun k hm=>hk k (List.mem_of_mem_drop hm)
 change (seenK J R i).1=_ at e1
 change SpInv Ls J (seenK J R i).2 _ at e2
 have e3:(!(seenK J R i).1)=false:=by
  rw [e1]
  have:(R.drop i).isEmpty=false:=by
   rw [List.isEmpty_eq_false_iff]
   intro h
   have:=congrArg List.length h
   simp at this
   omega
  rw [this]
  rfl
 refine ⟨by unfold flagK;rw [cutsA_says,e3,Bool.false_or],fun j hj=>?_⟩
 rw [e2.hit hj,on_met]
 rfl
theorem flag_first {Ls:List RuleM} {J:AJ} (hJ:JOk Ls J) (hl:Ls.length≤4) {R:List Nat} (hk:∀ k ∈ R,k<8) {i:Nat} (h2:i<R.length) {j:Nat} {L:RuleM} (hL:Ls[j]?=some L) (hm:metJ Ls (leftJ J R i) (R.drop i) j) (hno:∀ j',j'<j→¬ metJ Ls (leftJ J R i) (R.drop i) j'):flagK J R i=L.cut:=by
 obtain ⟨e1,e2⟩:=flag_list hJ hl hk h2
 have hj:j<Ls.length:=(List.getElem?_eq_some_iff.1 hL).1
 have hJl:=hJ.1
 rw [e1,says_at _ j (cutAt J j,matchA J (seenK J R i).2 j) (by rw [List.getElem?_map,List.getElem?_range' (by omega)];simp) ((e2 j hj).2 ⟨hno,hm⟩) fun j' hj' y hy=>?_]
 ·exact (hJ.onward hL).2.2
 ·rw [List.getElem?_map,List.getElem?_range' (by omega)] at hy
  simp at hy
  subst hy
  cases h9:matchA J (seenK J R i).2 j' with
  | false=>rfl
  | true=>exact absurd ((e2 j' (by omega)).1 h9).2 (hno j' hj')
theorem flag_none {Ls:List RuleM} {J:AJ} (hJ:JOk Ls J) (hl:Ls.length≤4) {R:List Nat} (hk:∀ k ∈ R,k<8) {i:Nat} (h2:i<R.length) (hno:∀ j,j<Ls.length→¬ metJ Ls (leftJ J R i) (R.drop i) j):flagK J R i=true:=by
 obtain ⟨e1,e2⟩:=flag_list hJ hl hk h2
 have hJl:=hJ.1
 rw [e1]
 refine says_none _ fun y hy=>?_
 obtain ⟨j,hj,rfl⟩:=List.mem_map.1 hy
 have hjl:j<Ls.length:=by have:=List.mem_range'.1 hj;omega
 cases h9:matchA J (seenK J R i).2 j with
 | false=>rfl
 | true=>exact absurd ((e2 j hjl).1 h9).2 (hno j hjl)
theorem left_last {Ls:List RuleM} {J:AJ} (hJ:JOk Ls J) (hl:Ls.length≤4) {j:Nat} {L:RuleM} (hL:Ls[j]?=some L) {Ks:List Nat} {F:List (List Nat)} {p:Nat→Bool} (hf:famOk (graphOf true L.SL) L.fL 0 Ks F p=true) {R:List Nat} (hk:∀ k ∈ R,k ∈ Ks∧k<8) {i c:Nat} (hc:R[i]?=some c):leftJ J R (i+1) j↔p c=true:=by
 have hj:j<Ls.length:=(List.getElem?_eq_some_iff.1 hL).1
 have hJl:=hJ.1
 have h1:=pastK_at J (R.take (i+1)) j (by omega) (by omega)
 have e:=take_last hc
 have h2:=fam_last hf (hJ.onward hL).2.1 (R.take i) c (fun x hx=>by rw [← e] at hx;exact hk x (List.mem_of_mem_take hx))
 unfold leftJ
 rw [h1,Option.getD_some,e,h2]
def lateHead:List UInt8:=[99,108,97,115,115,32,97,32,61,32,54,49,59,32,99,108,97,115,115,32,98,32,61,32,54,50,59,32,106,111,105,110,32,97,32,124]
def lateBs (n:Nat):List UInt8:=(List.replicate n [32,98]).flatten
def lateT (n:Nat):ByteArray:=⟨(lateHead++lateBs n++[59]).toArray⟩
abbrev lateE:ByteArray:=⟨#[99,108,97,115,115,32,97,32,61,32,54,49,59,32,99,108,97,115,115,32,98,32,61,32,54,50,59,32,106,111,105,110,32,97,32,124,32,98,42,32,97,59]⟩
abbrev lateF:ByteArray:=⟨#[99,108,97,115,115,32,97,32,61,32,54,49,59,32,99,108,97,115,115,32,98,32,61,32,54,50,59,32,99,117,116,32,97,32,124,32,98,42,32,97,59,32,106,111,105,110,32,97,32,124,32,59,32,99,117,116,32,124,32,98,32,98,59]⟩
def KsL:List Nat:=[0,1,6,7]
def famF (g:List (List (Nat × Nat))) (first:Nat):List (List Nat):=famL g first KsL 6 [cloL g g.length [first]]
def leftB (L:RuleM):Bool:=famOk (graphOf true L.SL) L.fL 0 KsL (famF (graphOf true L.SL) L.fL) (· == 0)
def setsB (g:List (List (Nat × Nat))) (first:Nat) (l:List (List Nat)):List (List Nat):=l.map fun r=>r.foldl (stL g) (cloL g g.length [first])
def rightB (L:RuleM) (l:List (List Nat)) (nx:Nat→Nat→Nat) (hit:Nat→Bool):Bool:=autOk (graphOf true L.SR) L.fR 0 KsL (setsB (graphOf true L.SR) L.fR l) nx hit
def rowsB (n:Nat):List (List Nat):=(List.range (n+1)).map (fun i=>List.replicate i 1)++[[6]]
def lateB (n:Nat):Bool:=match (read2 (lateT n)).2 with
 | [L]=>L.cut == false && (leftB L && rightB L (rowsB n) (nxB n) (fun s=>s == n))
 | _=>false
def nxE (s k:Nat):Nat:=if s=0∧k=1 then 0 else if s=0∧k=0 then 1 else 2
def nxZ (_ _:Nat):Nat:=1
def lateEB:Bool:=match (read2 lateE).2 with
 | [L]=>L.cut == false && (leftB L && rightB L [[],[0],[6]] nxE (fun s=>s == 1))
 | _=>false
def lateFB:Bool:=match (read2 lateF).2 with
 | [L,M,_]=>L.cut == true && (leftB L && rightB L [[],[0],[6]] nxE (fun s=>s == 1)) && (M.cut == false && (leftB M && rightB M [[],[6]] nxZ (fun s=>s == 0)))
 | _=>false
def lateL:List (Int × Int × Nat):=[(97,97,0),(98,98,1)]
theorem lateE_read:(rdT lateE).err=0:=by kernel_rfl
theorem lateF_read:(rdT lateF).err=0:=by kernel_rfl
theorem lateE_l:(read1 lateE).l=lateL:=by kernel_rfl
theorem lateF_l:(read1 lateF).l=lateL:=by kernel_rfl
theorem lateE_ok:lateEB=true:=by kernel_rfl
theorem lateF_ok:lateFB=true:=by kernel_rfl
theorem oneToFour {P:Nat→Prop} (h1:P 1) (h2:P 2) (h3:P 3) (h4:P 4):∀ n,1≤n→n≤4→P n:=fun n ha hb=>by
 rcases (show n=1∨n=2∨n=3∨n=4 by omega) with rfl | rfl | rfl | rfl
 ·exact h1
 ·exact h2
 ·exact h3
 ·exact h4
theorem late_read:∀ n,1≤n→n≤4→(rdT (lateT n)).err=0:=oneToFour (by kernel_rfl) (by kernel_rfl) (by kernel_rfl) (by kernel_rfl)
theorem late_l:∀ n,1≤n→n≤4→(read1 (lateT n)).l=lateL:=oneToFour (by kernel_rfl) (by kernel_rfl) (by kernel_rfl) (by kernel_rfl)
theorem late_ok:∀ n,1≤n→n≤4→lateB n=true:=oneToFour (by kernel_rfl) (by kernel_rfl) (by kernel_rfl) (by kernel_rfl)
theorem late_kinds:kindsB lateL (fun c=>if c=97 then 0 else if c=98 then 1 else 6)=true:=by kernel_rfl
theorem perm_two {α:Type} {a b:α} {L:List α} (h:L.Perm [a,b]):L=[a,b]∨L=[b,a]:=by
 have hl:=h.length_eq
 match L,hl with
 | [x,y],_ =>
  have hx:=h.mem_iff.1 (List.mem_cons_self ..)
  simp at hx
  rcases hx with rfl | rfl
  ·have h2:=(List.perm_cons _).1 h
   rw [List.perm_singleton.1 h2]
   exact Or.inl rfl
  ·have h2:=(List.perm_cons _).1 (h.trans (List.Perm.swap _ _ _))
   rw [List.perm_singleton.1 h2]
   exact Or.inr rfl
theorem late_poss {L:List (Int × Int × Nat)} (h:L.Perm lateL):possOf L=KsL:=by
 rcases perm_two h with rfl | rfl
 ·kernel_rfl
 ·kernel_rfl
theorem ksL_lt:∀ k ∈ KsL,k<8:=by decide
theorem lateB_one {n:Nat} (h:lateB n=true):∃ L,(read2 (lateT n)).2=[L]∧L.cut=false∧leftB L=true∧rightB L (rowsB n) (nxB n) (fun s=>s == n)=true:=by
 unfold lateB at h
 split at h
 ·rename_i L e
  simp only [Bool.and_eq_true] at h
  exact ⟨L,e,eq_of_beq h.1,h.2.1,h.2.2⟩
 ·cases h
theorem met_at {Ls:List RuleM} {lf:Nat→Prop} {r:List Nat} {j:Nat} {L:RuleM} (hL:Ls[j]?=some L):metJ Ls lf r j↔lf j∧hitG (graphOf true L.SR) L.fR 0 r:=by
 constructor
 ·rintro ⟨L',h1,h2⟩
  rw [hL] at h1
  cases h1
  exact h2
 ·intro h;exact ⟨L,hL,h⟩
theorem late_flag {n:Nat} (h1:1≤n) (h4:n≤4) {J:AJ} (hJ:JOk (read2 (lateT n)).2 J) {R:List Nat} (hk:∀ k ∈ R,k ∈ KsL) {i c:Nat} (hi:i+1<R.length) (hc:R[i]?=some c):flagK J R (i+1)=!(decide (c=0) && decide ((R.drop (i+1)).take n=List.replicate n 1)):=by
 obtain ⟨L,e,e1,e2,e3⟩:=lateB_one (late_ok n h1 h4)
 rw [e] at hJ
 have hk8:∀ k ∈ R,k<8:=fun k hm=>ksL_lt k (hk k hm)
 have hL:([L]:List RuleM)[0]?=some L:=rfl
 have hlf:=left_last hJ (by simp) hL e2 (fun k hm=>⟨hk k hm,hk8 k hm⟩) hc
 have hrt:=hits_b e3 (R.drop (i+1)) fun k hm=>hk k (List.mem_of_mem_drop hm)
 have hmet:metJ [L] (leftJ J R (i+1)) (R.drop (i+1)) 0↔c=0∧(R.drop (i+1)).take n=List.replicate n 1:=by
  rw [met_at hL,hlf,hrt]
  simp
 by_cases hm:c=0∧(R.drop (i+1)).take n=List.replicate n 1
 ·rw [flag_first hJ (by simp) hk8 hi hL (hmet.2 hm) (fun j' hj'=>absurd hj' (by omega)),e1]
  simp [hm.1,hm.2]
 ·rw [flag_none hJ (by simp) hk8 hi (fun j hj hmj=>by
   have:j=0:=by simp at hj;exact hj
   subst this
   exact hm (hmet.1 hmj))]
  by_cases hc0:c=0
  ·have:¬ (R.drop (i+1)).take n=List.replicate n 1:=fun h=>hm ⟨hc0,h⟩
   simp [this]
  ·simp [hc0]
theorem nxE_bs:∀ m:Nat,(List.replicate m 1).foldl nxE 0=0:=by
 intro m
 induction m with
 | zero=>rfl
 | succ m ih=>rw [List.replicate_succ,List.foldl_cons];exact ih
theorem take_bs (m k j:Nat) (hj:j≤m+1):(List.replicate m 1++[k]).take j=if j≤m then List.replicate j 1 else List.replicate m 1++[k]:=by
 split
 ·rename_i h
  rw [List.take_append_of_le_length (by simpa using h),List.take_replicate,Nat.min_eq_left h]
 ·rw [List.take_of_length_le (by simp;omega)]
theorem hits_e {g:List (List (Nat × Nat))} {first goal:Nat} {F:List (List Nat)} (h:autOk g first goal KsL F nxE (fun s=>s == 1)=true) (m k:Nat) (hk:k ∈ KsL):hitG g first goal (List.replicate m 1++[k])↔k=0:=by
 have hr:∀ c ∈ List.replicate m 1++[k],c ∈ KsL:=fun c hc=>by
  rcases List.mem_append.1 hc with h1 | h1
  ·rw [(List.mem_replicate.1 h1).2];decide
  ·simp at h1;rw [h1];exact hk
 rw [aut_hit h _ hr]
 constructor
 ·rintro ⟨j,h1,h2⟩
  simp at h1
  rw [take_bs m k j h1] at h2
  split at h2
  ·rw [nxE_bs] at h2;cases h2
  ·rw [List.foldl_append,nxE_bs,List.foldl_cons,List.foldl_nil] at h2
   unfold nxE at h2
   split at h2
   ·cases h2
   ·split at h2
    ·rename_i h9;exact h9.2
    ·cases h2
 ·rintro rfl
  refine ⟨m+1,by simp,?_⟩
  rw [take_bs m 0 (m+1) (Nat.le_refl _),if_neg (by omega),List.foldl_append,nxE_bs]
  rfl
theorem lateE_one:∃ L,(read2 lateE).2=[L]∧L.cut=false∧leftB L=true∧rightB L [[],[0],[6]] nxE (fun s=>s == 1)=true:=by
 have h:=lateE_ok
 unfold lateEB at h
 split at h
 ·rename_i L e
  simp only [Bool.and_eq_true] at h
  exact ⟨L,e,eq_of_beq h.1,h.2.1,h.2.2⟩
 ·cases h
theorem lateF_three:∃ L M N,(read2 lateF).2=[L,M,N]∧(L.cut=true∧leftB L=true∧rightB L [[],[0],[6]] nxE (fun s=>s == 1)=true)∧M.cut=false∧leftB M=true∧rightB M [[],[6]] nxZ (fun s=>s == 0)=true:=by
 have h:=lateF_ok
 unfold lateFB at h
 split at h
 ·rename_i L M N e
  simp only [Bool.and_eq_true] at h
  exact ⟨L,M,N,e,⟨eq_of_beq h.1.1,h.1.2.1,h.1.2.2⟩,eq_of_beq h.2.1,h.2.2.1,h.2.2.2⟩
 ·cases h
def rowXA (m k:Nat):List Nat:=[6,0]++(List.replicate m 1++[k])
theorem rowXA_in {m k:Nat} (hk:k ∈ KsL):∀ c ∈ rowXA m k,c ∈ KsL:=fun c hc=>by
 unfold rowXA at hc
 rcases List.mem_append.1 hc with h1 | h1
 ·simp at h1;rcases h1 with rfl | rfl <;> decide
 ·rcases List.mem_append.1 h1 with h1 | h1
  ·rw [(List.mem_replicate.1 h1).2];decide
  ·simp at h1;rw [h1];exact hk
theorem flag_e {J:AJ} (hJ:JOk (read2 lateE).2 J) (m k:Nat) (hk:k ∈ KsL):flagK J (rowXA m k) 2=!decide (k=0):=by
 obtain ⟨L,e,e1,e2,e3⟩:=lateE_one
 rw [e] at hJ
 have hin:=rowXA_in (m:=m) hk
 have hk8:∀ k' ∈ rowXA m k,k'<8:=fun k' hm=>ksL_lt k' (hin k' hm)
 have hL:([L]:List RuleM)[0]?=some L:=rfl
 have hi:2<(rowXA m k).length:=by unfold rowXA;simp
 have hlf:=left_last (i:=1) (c:=0) hJ (by simp) hL e2 (fun k' hm=>⟨hin k' hm,hk8 k' hm⟩) (R:=rowXA m k) rfl
 have hmet:metJ [L] (leftJ J (rowXA m k) 2) ((rowXA m k).drop 2) 0↔k=0:=by
  rw [met_at hL,hlf,show (rowXA m k).drop 2=List.replicate m 1++[k] from rfl,hits_e e3 m k hk]
  simp
 by_cases h0:k=0
 ·rw [flag_first hJ (by simp) hk8 hi hL (hmet.2 h0) (fun j' hj'=>absurd hj' (by omega)),e1]
  simp [h0]
 ·rw [flag_none hJ (by simp) hk8 hi (fun j hj hmj=>by
   have:j=0:=by simp at hj;exact hj
   subst this
   exact h0 (hmet.1 hmj))]
  simp [h0]
theorem flag_f {J:AJ} (hJ:JOk (read2 lateF).2 J) (m k:Nat) (hk:k ∈ KsL):flagK J (rowXA m k) 2=decide (k=0):=by
 obtain ⟨L,M,N,e,⟨e1,e2,e3⟩,f1,f2,f3⟩:=lateF_three
 rw [e] at hJ
 have hin:=rowXA_in (m:=m) hk
 have hk8:∀ k' ∈ rowXA m k,k'<8:=fun k' hm=>ksL_lt k' (hin k' hm)
 have hL:([L,M,N]:List RuleM)[0]?=some L:=rfl
 have hM:([L,M,N]:List RuleM)[1]?=some M:=rfl
 have hi:2<(rowXA m k).length:=by unfold rowXA;simp
 have hlf:=left_last (i:=1) (c:=0) hJ (by simp) hL e2 (fun k' hm=>⟨hin k' hm,hk8 k' hm⟩) (R:=rowXA m k) rfl
 have hlm:=left_last (i:=1) (c:=0) hJ (by simp) hM f2 (fun k' hm=>⟨hin k' hm,hk8 k' hm⟩) (R:=rowXA m k) rfl
 have hmet:metJ [L,M,N] (leftJ J (rowXA m k) 2) ((rowXA m k).drop 2) 0↔k=0:=by
  rw [met_at hL,hlf,show (rowXA m k).drop 2=List.replicate m 1++[k] from rfl,hits_e e3 m k hk]
  simp
 have hmet1:metJ [L,M,N] (leftJ J (rowXA m k) 2) ((rowXA m k).drop 2) 1:=by
  rw [met_at hM,hlm]
  refine ⟨rfl,(aut_hit f3 _ fun c hc=>hin c (List.mem_of_mem_drop hc)).2 ⟨0,Nat.zero_le _,rfl⟩⟩
 by_cases h0:k=0
 ·rw [flag_first hJ (by simp) hk8 hi hL (hmet.2 h0) (fun j' hj'=>absurd hj' (by omega)),e1]
  simp [h0]
 ·rw [flag_first hJ (by simp) hk8 hi hM hmet1 (fun j' hj' hmj=>by
   have:j'=0:=by omega
   subst this
   exact h0 (hmet.1 hmj)),f1]
  simp [h0]
end Go.Proofs.YtodagkkjfipbgaaGreatDoor
