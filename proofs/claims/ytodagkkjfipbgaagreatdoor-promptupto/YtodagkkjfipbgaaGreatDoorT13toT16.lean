import Derived.Maps.AppendAt
import Derived.Lib.SliceRun
import Derived.Test.YtodagkkjfipbgaaGreatDoorT12lone
import Derived.Test.YtodagkkjfipbgaaGreatDoorG2toV13
namespace Go.Proofs.YtodagkkjfipbgaaGreatDoor
open Go.RowKit Go.Maps Go.Lib
def byCells (s:ByteArray):List Value:=s.data.toList.map fun x=>Value.int .u8 (x.toNat:Int)
theorem byCells_len (s:ByteArray):(byCells s).length=s.size:=by unfold byCells;simp
theorem byCells_at (s:ByteArray) (j:Nat) (h:j<s.size):(byCells s)[j]?=some (.int .u8 ((s.get! j).toNat:Nat)):=by
 unfold byCells
 rw [List.getElem?_map,Utf8W.get!_of_lt s j h]
 have:s.data.toList[j]?=some (s.data[j]'h):=by simp
 rw [this]
 rfl
theorem byCells_app (a b:ByteArray):byCells (a++b)=byCells a++byCells b:=by unfold byCells;simp
def TxtIn (w:World) (S:Nat->Prop) (v:Value) (s:ByteArray):Prop:=(s.size=0/\∃ ao cap,v=.slice ao 0 cap)\/∃ q o cap,v=.slice (some ⟨q,o,none⟩) s.size cap/\¬ S q/\ByAt w q o s/\s.size<=cap/\∃ cs m,w.heap[q]?=some (.cells cs 5 m)
theorem TxtIn.shape {w:World} {S:Nat->Prop} {v:Value} {s:ByteArray} (h:TxtIn w S v s):∃ ao cap,v=.slice ao s.size cap:=by
 rcases h with ⟨h0,ao,cap,rfl⟩ | ⟨q,o,cap,rfl,_⟩
 ·exact ⟨ao,cap,by rw [h0]⟩
 ·exact ⟨_,cap,rfl⟩
theorem TxtIn.keep {w w':World} {S:Nat->Prop} {v:Value} {s:ByteArray} (h:TxtIn w S v s) (hk:∀ (k:Nat) (cs:Array Value) (m:Nat × Nat),w.heap[k]?=some (.cells cs 5 m)->w'.heap[k]?=some (.cells cs 5 m)):TxtIn w' S v s:=by
 rcases h with h | ⟨q,o,cap,h1,h2,h3,h4,cs,m,h5⟩
 ·exact Or.inl h
 ·refine Or.inr ⟨q,o,cap,h1,h2,fun j hj=>?_,h4,cs,m,hk q cs m h5⟩
  have h6:=h3 j hj
  unfold World.cell? at h6 ⊢
  rw [hk q cs m h5]
  rw [h5] at h6
  exact h6
theorem TxtIn.of_row {w:World} {base:Nat} {S:Nat->Prop} {v:Value} {s:ByteArray} (h:w.ownsRow base 5 1 v s.size (byCells s)) (hS:∀ k,v.ownBlock=some k->¬ S k):TxtIn w S v s:=by
 obtain ⟨h1,h2⟩:=h
 rcases h2 with ⟨hv,hn⟩ | ⟨q,cap,cur,hv,hg,hh,hcap,hmx,hsz,hcur⟩
 ·exact Or.inl ⟨hn,none,0,hv⟩
 ·refine Or.inr ⟨q,0,cap,hv,hS q (by rw [hv];rfl),fun j hj=>?_,hcap,cur,_,hh⟩
  refine cell_of_block hh _ _ ?_
  have:=byCells_at s j hj
  rw [<- hcur,List.getElem?_take,if_pos (by omega)] at this
  rw [Nat.zero_add]
  simpa using this
theorem one_by (s:ByteArray):∀ u ∈ byCells s,u.oneCell'=true:=by
 intro u hu
 unfold byCells at hu
 obtain ⟨x,_,rfl⟩:=List.mem_map.1 hu
 rfl
set_option maxRecDepth 100000 in
set_option maxHeartbeats 1000000 in
theorem bclone_any (w:World) (S:Nat->Prop) (base:Nat) (v:Value) (s:ByteArray) (h:TxtIn w S v s) (hs:s.size<=1500000) (hb:base<=w.heap.size) :
  Calls Tryz.prog 122 #[v] w fun r w'=>(∃ v',r=.returned v'/\w'.ownsRow base 5 1 v' s.size (byCells s))/\Below w.heap.size w w':=by
 obtain ⟨i,hi,hz0,hz1,hz2⟩:=info_parts Tryz.infoU8
 obtain ⟨ao,cap,rfl⟩:=h.shape
 have hnil:=fun (W:World) (a:Option Addr) (n c n' c':Nat)=>Lib.run_eql_slice_nil (P:=Tryz.prog) W 63 5 a n c n' c' Tryz.underlying63
 cases ao with
 | none =>
  have h0:s.size=0:=by
   rcases h with ⟨h0,_⟩ | ⟨q,o,cap,e,_⟩
   ·exact h0
   ·simp at e
  have hcs:byCells s=[]:=List.eq_nil_of_length_eq_zero (by rw [byCells_len];exact h0)
  rw [h0,hcs]
  go_enter Tryz.func122,Tryz.ntmps122
  go_wp2_with fail
  go_ret
  exact ⟨⟨_,rfl,World.ownsRow_nil _ _ _ _⟩,Below.refl _ _⟩
 | some a =>
  have hnews:∀ W',Below w.heap.size w W'->∀ j u,(byCells s)[j]?=some u->W'.cell? (a.add j)=some u:=fun W' hW j u hu=>by
   have hj:j<s.size:=by rw [<- byCells_len];exact (List.getElem?_eq_some_iff.1 hu).1
   rcases h with ⟨h0,_⟩ | ⟨q,o,cap',e,_,h3,_,_⟩
   ·omega
   ·injection e with e _ _
    injection e with e
    subst e
    rw [show (⟨q,o,none⟩:Addr).add j=⟨q,o+j,none⟩ from by unfold Addr.add;split <;> simp_all]
    rw [byCells_at s j hj] at hu
    cases hu
    exact (hW.cell (p:=⟨q,o+j,none⟩) (cell_ltT (h3 j hj))).trans (h3 j hj)
  have OWN:Hid ((w.alloc (.cells #[] 5)).ownsRow base 5 1 (.slice (some ⟨w.heap.size,0,none⟩) 0 0) 0 []):=⟨rfl,Or.inr ⟨w.heap.size,0,#[],rfl,hb,heap_alloc_new w _,Nat.le_refl _,by decide,rfl,rfl⟩⟩
  have NW:Hid (∀ j u,(byCells s)[j]?=some u->(w.alloc (.cells #[] 5)).cell? (a.add j)=some u):=hnews _ (below_alloc w _)
  have HL:Hid ((byCells s).length=s.size * 1):=by show _=_;rw [byCells_len,Nat.mul_one]
  have hbA:base<=(w.alloc (.cells #[] 5)).heap.size:=Nat.le_trans hb (below_alloc w _).size
  have hm1:0+s.size<=maxLen:=by unfold maxLen;omega
  have hm2:(0+s.size) * 1<=140737488355328:=by omega
  clear h hnews
  go_enter Tryz.func122,Tryz.ntmps122
  go_wp2_with (at_builtin;go_loud (refine wpList_append_own_at _ rfl (.tmp 5) (.tmp 6) 63 rfl base 5 i (.int .u8 0) 1 1 Tryz.underlying63 hi hz0 hz1 hz2 rfl (by decide) (.slice (some ⟨w.heap.size,0,none⟩) 0 0) 0 [] rfl OWN.out a s.size cap (byCells s) rfl HL.out NW.out (one_by s) hm1 hm2 hbA ?_);intro v' W3 hown hgr hnl hat;have O3:Hid (W3.ownsRow base 5 1 v' (0+s.size) ([]++byCells s)):=hown;have G3:Hid ((w.alloc (.cells #[] 5)).grownBy W3 (some w.heap.size)):=hgr;clear hown hgr hnl hat;obtain ⟨ao3,c3,rfl⟩:=row_shape O3.out)
  go_ret
  refine ⟨⟨_,rfl,?_⟩,(below_alloc w _).grown G3.out (by simp) (fun k e=>by cases e;exact Nat.le_refl _)⟩
  have:=O3.out
  rw [Nat.zero_add,List.nil_append] at this
  exact this
def FloC (gR b:Nat) (vT:Value) (kn:Nat):Array Value:=#[.pointer (some ⟨gR,0,none⟩),.pointer (some ⟨b,0,none⟩),vT,.int .i64 kn]
structure FEnv (w0:World) (gR:Nat) (H:List Hd) (V:List Vw) (L:List (Int × Int × Nat)) (ks:List Nat):Prop where
 vars:VarsOk w0
 lk:Look w0 gR 2 H V
 tab:∃ vE,w0.cell? ⟨gR,0,none⟩=some vE/\TRe 0 w0 vE L
 few:L.length<=100000
 row:InRow L
 kinds:∀ o ∈ L,o.2.2<8
 pos:∀ (s:ByteArray) (k n:Nat),1<=s.size->CharIs L s k n->k ∈ ks
 lt8:∀ k ∈ ks,k<8
 bad:7 ∈ ks
 h0:∃ h,H[0]?=some h
 nxt:∀ k ∈ ks,∀ v,v<V.length->nxV V k v<V.length
 hds:∀ k ∈ ks,∀ (hd:Nat) (h1:Hd),H[hd]?=some h1->∃ hd' h2,h1.2[k]?=some hd'/\H[hd']?=some h2/\h2.1<V.length
theorem Chg.low {p:Nat->Prop} {w w':World} (h:Chg p w w') {B:Nat} (hB:B<=w.heap.size) (hp:∀ k,p k->B<=k):Below B w w':=h.below hB fun k hk hpk=>by have:=hp k hpk;omega
abbrev Sav (S:Nat->Prop) (w w':World):Prop:=Chg (fun k=>¬ S k) w w'
structure Kept (S:Nat->Prop) (w0 w:World):Prop where
 lo:∀ k,k<w0.heap.size->S k
 hi:∀ k,S k->k<w.heap.size
theorem Kept.grow {S:Nat->Prop} {w0 w w':World} (h:Kept S w0 w) (hz:w.heap.size<=w'.heap.size):Kept S w0 w':=⟨h.lo,fun k hk=>Nat.lt_of_lt_of_le (h.hi k hk) hz⟩
theorem Kept.le {S:Nat->Prop} {w0 w:World} (h:Kept S w0 w) {k:Nat} (hk:¬ S k):w0.heap.size<=k:=Nat.le_of_not_lt fun h9=>hk (h.lo k h9)
theorem Kept.new {S:Nat->Prop} {w0 w:World} (h:Kept S w0 w) {k:Nat} (hk:w.heap.size<=k):¬ S k:=fun h9=>absurd (h.hi k h9) (Nat.not_lt.2 hk)
theorem Kept.below {S:Nat->Prop} {w0 w:World} (h:Kept S w0 w) {a b:World} (hs:Sav S a b) (ha:w0.heap.size<=a.heap.size):Below w0.heap.size a b:=hs.low ha fun _ hk=>h.le hk
structure FP (w0:World) (S:Nat->Prop) (w:World) (f gR b m1 m2:Nat) (vT:Value) (H:List Hd) (V:List Vw) (txt:ByteArray) (kn:Nat) (A:List AP) (hd bg:Nat):Prop where
 hf:w.heap[f]?=some (.cells (FloC gR b vT kn) 215 (0,0))
 ht:TxtIn w S vT txt
 hw:∃ ns g,WOk w b gR 2 H V hd ns g bg m1 m2/\Abs ns g A/\∀ x ∈ ns,¬ S x.p
 lo:¬ S f/\¬ S b/\¬ S m1/\¬ S m2
 bel:Below w0.heap.size w0 w
 hdl:∃ h1,H[hd]?=some h1
 fits:kn<=txt.size/\txt.size<=1500000
 kept:Kept S w0 w
def FOk (w0:World) (S:Nat->Prop) (w:World) (f gR:Nat) (H:List Hd) (V:List Vw) (txt:ByteArray) (kn:Nat) (A:List AP) (hd bg:Nat):Prop:=∃ b m1 m2 vT,FP w0 S w f gR b m1 m2 vT H V txt kn A hd bg
theorem Look.only {w w':World} {gO oO:Nat} {H:List Hd} {V:List Vw} (h:Look w gO oO H V) (hk:∀ (k:Nat) (cs:Array Value) (t:TypeId),(t=99\/t=254\/t=246)->w.heap[k]?=some (.cells cs t (0,0))->w'.heap[k]?=some (.cells cs t (0,0))):Look w' gO oO H V:=by
 obtain ⟨⟨⟨vV,g1,g5,g6⟩,g3,g4⟩,⟨⟨vH,h1,h5,h6⟩,h3,h4⟩,cs,hg⟩:=h
 have hg':=hk gO cs _ (Or.inl rfl) hg
 have hc:∀ o,w'.cell? ⟨gO,o,none⟩=w.cell? ⟨gO,o,none⟩:=fun o=>by unfold World.cell?;rw [hg,hg']
 refine ⟨⟨⟨vV,(hc _).trans g1,g5,?_⟩,g3,g4⟩,⟨⟨vH,(hc _).trans h1,h5,?_⟩,h3,h4⟩,cs,hg'⟩
 ·rcases g6 with g6 | ⟨g,cap,cur,hv',hb',hh,r⟩
  ·exact Or.inl g6
  ·exact Or.inr ⟨g,cap,cur,hv',hb',hk _ _ _ (Or.inr (Or.inl rfl)) hh,r⟩
 ·rcases h6 with h6 | ⟨g,cap,cur,hv',hb',hh,r⟩
  ·exact Or.inl h6
  ·exact Or.inr ⟨g,cap,cur,hv',hb',hk _ _ _ (Or.inr (Or.inr rfl)) hh,r⟩
def WTy (t:TypeId):Prop:=t=99\/t=254\/t=246\/t=330\/t=271
theorem WOk.other {w w':World} {b gO oO:Nat} {H:List Hd} {V:List Vw} {hd:Nat} {ns:List Nd} {g:Nat->List Nat} {bg m1 m2:Nat} (h:WOk w b gO oO H V hd ns g bg m1 m2) (hk:∀ (k:Nat) (cs:Array Value) (t:TypeId),WTy t->w.heap[k]?=some (.cells cs t (0,0))->w'.heap[k]?=some (.cells cs t (0,0))) (hm:∀ (k:Nat) (es:Array MapEntry) (c:Nat),w.heap[k]?=some (.map es c)->w'.heap[k]?=some (.map es c)):WOk w' b gO oO H V hd ns g bg m1 m2:=by
 obtain ⟨⟨la,h1,h2⟩,h3,h4,⟨D,h5⟩,⟨D2,h6⟩,h7,h8,h9⟩:=h
 obtain ⟨e1,e2,e3⟩:=h5.blk
 obtain ⟨f1,f2,f3⟩:=h6.blk
 exact ⟨⟨la,hk _ _ _ (Or.inr (Or.inr (Or.inr (Or.inr rfl)))) h1,h2⟩,fun i x hx=>hk _ _ _ (Or.inr (Or.inr (Or.inr (Or.inl rfl)))) (h3 i x hx),h4,⟨D,h5.keep ((hm _ _ _ e3).trans e3.symm)⟩,⟨D2,h6.keep ((hm _ _ _ f3).trans f3.symm)⟩,h7,h8.only fun k cs t ht hh=>hk k cs t (ht.elim Or.inl fun h=>Or.inr (h.elim Or.inl fun h=>Or.inr (Or.inl h))) hh,h9⟩
theorem FP.turn {w0 w w':World} {S:Nat->Prop} {f gR b m1 m2:Nat} {vT vT':Value} {H:List Hd} {V:List Vw} {txt txt':ByteArray} {kn kn':Nat} {A:List AP} {hd bg:Nat} (h:FP w0 S w f gR b m1 m2 vT H V txt kn A hd bg) (hf:w'.heap[f]?=some (.cells (FloC gR b vT' kn') 215 (0,0))) (ht:TxtIn w' S vT' txt')
  (hk:∀ (k:Nat) (cs:Array Value) (t:TypeId),WTy t->w.heap[k]?=some (.cells cs t (0,0))->w'.heap[k]?=some (.cells cs t (0,0))) (hm:∀ (k:Nat) (es:Array MapEntry) (c:Nat),w.heap[k]?=some (.map es c)->w'.heap[k]?=some (.map es c)) (hb:Sav S w w') (hfit:kn'<=txt'.size/\txt'.size<=1500000):FP w0 S w' f gR b m1 m2 vT' H V txt' kn' A hd bg:=by
 obtain ⟨ns,g,h1,h2,h3⟩:=h.hw
 exact ⟨hf,ht,⟨ns,g,h1.other hk hm,h2,h3⟩,h.lo,h.bel.trans (h.kept.below hb h.bel.size),h.hdl,hfit,h.kept.grow hb.size⟩
theorem FP.below {w0 w w':World} {S:Nat->Prop} {f gR b m1 m2:Nat} {vT:Value} {H:List Hd} {V:List Vw} {txt:ByteArray} {kn:Nat} {A:List AP} {hd bg:Nat} (h:FP w0 S w f gR b m1 m2 vT H V txt kn A hd bg) (hb:Below w.heap.size w w'):FP w0 S w' f gR b m1 m2 vT H V txt kn A hd bg :=
 h.turn ((hb.block _ (heap_lt h.hf)).trans h.hf) (h.ht.keep fun k _ _ hh=>(hb.block k (heap_lt hh)).trans hh) (fun k _ _ _ hh=>(hb.block k (heap_lt hh)).trans hh) (fun k _ _ hh=>(hb.block k (heap_lt hh)).trans hh) (Chg.of_below hb) h.fits
set_option maxRecDepth 100000 in
theorem untold_any (w:World) (f gR b n kn cap:Nat) (ao:Option Addr) (hf:w.heap[f]?=some (.cells (FloC gR b (.slice ao n cap) kn) 215 (0,0))) :
  Calls Tryz.prog 73 #[.pointer (some ⟨f,0,none⟩)] w fun r w'=>r=.returned (.int .i64 n)/\w'=w:=by
 have c2:w.cell? ⟨f,2,none⟩=some (.slice ao n cap):=cell_of_block hf 2 _ rfl
 clear hf
 go_enter Tryz.func73,Tryz.ntmps73
 go_wp2_with fail
 go_ret
 exact ⟨rfl,rfl⟩
theorem ByAt.part {w:World} {q o:Nat} {s:ByteArray} (h:ByAt w q o s) (a b:Nat) (hb:b<=s.size):ByAt w q (o+a) (s.extract a b):=by
 intro j hj
 rw [ByteArray.size_extract] at hj
 have h1:=h (a+j) (by omega)
 rw [Nat.add_assoc,h1]
 have e:(s.extract a b).get! j=s.get! (a+j):=by
  rw [Utf8W.get!_of_lt s (a+j) (by omega),Utf8W.get!_of_lt (s.extract a b) j (by rw [ByteArray.size_extract];omega)]
  simp [ByteArray.getElem_extract]
 rw [e]
set_option maxRecDepth 100000 in
set_option maxHeartbeats 4000000 in
theorem fnext_any (w0 w:World) (S:Nat->Prop) (f gR b kn:Nat) (vT:Value) (txt:ByteArray) (H:List Hd) (V:List Vw) (L:List (Int × Int × Nat)) (ks:List Nat) (hE:FEnv w0 gR H V L ks) (hB:Below w0.heap.size w0 w) (hf:w.heap[f]?=some (.cells (FloC gR b vT kn) 215 (0,0))) (hT:TxtIn w S vT txt) (hkn:kn<=txt.size) (hlen:txt.size<=1500000) :
  Calls Tryz.prog 119 #[.pointer (some ⟨f,0,none⟩)] w fun r w'=>(∃ k n:Nat,r=.returned (.tuple #[.int .u8 k,.int .i64 n])/\NextIs L (txt.extract kn txt.size) k n)/\Below w.heap.size w w':=by
 have c0:w.cell? ⟨f,0,none⟩=some (.pointer (some ⟨gR,0,none⟩)):=cell_of_block hf 0 _ rfl
 have c2:w.cell? ⟨f,2,none⟩=some vT:=cell_of_block hf 2 _ rfl
 have c3:w.cell? ⟨f,3,none⟩=some (.int .i64 kn):=cell_of_block hf 3 _ rfl
 have hfl:=heap_lt hf
 have hxs:(txt.extract kn txt.size).size=txt.size - kn:=by rw [ByteArray.size_extract];omega
 obtain ⟨vE,hvE,hTR⟩:=hE.tab
 have hvw:=(hE.vars).below hB
 have CN:∀ (ao:Option Addr) (cap:Nat),((txt.extract kn txt.size).size=0\/∃ b o,ao=some ⟨b,o,none⟩/\ByAt w b o (txt.extract kn txt.size))->txt.size - kn<=cap->∀ W',Below w.heap.size w W'->Calls Tryz.prog 165 #[.slice ao (txt.size - kn) cap,.pointer (some ⟨gR,0,none⟩)] W' fun r w'=>(∃ k n:Nat,r=.returned (.tuple #[.int .u8 k,.int .i64 n])/\NextIs L (txt.extract kn txt.size) k n)/\Below W'.heap.size W' w':=fun ao cap hh hcap W' hW=>by
  have hB':=hB.trans (hW.mono hB.size)
  have hv':=hE.vars.below hB'
  have:=cnext_any 0 gR 0 vE L (txt.extract kn txt.size) ao cap W' hv'.utf hv'.low ((hB'.cell (p:=⟨gR,0,none⟩) (cellLt hvE)).trans hvE) (row_kp hTR (Kp.below hB')) hE.few hE.row (hh.imp id fun ⟨b,o,e,h⟩=>⟨b,o,e,h.below hW⟩) (by omega) (by omega)
  rw [hxs] at this
  exact this
 have HT:Hid (TxtIn w S vT txt):=hT
 clear hE hB hf hvE hTR hvw
 rcases hT with ⟨h0,ao,cap,rfl⟩ | ⟨q,o,cap,rfl,_,h3,h4,_⟩
 ·have hk0:kn=0:=by omega
  subst hk0
  have C1:Hid (∀ (ao:Option Addr) (cap:Nat) (W':World),Below w.heap.size w W'->Calls Tryz.prog 165 #[.slice ao 0 cap,.pointer (some ⟨gR,0,none⟩)] W' fun r w'=>(∃ k n:Nat,r=.returned (.tuple #[.int .u8 k,.int .i64 n])/\NextIs L (txt.extract 0 txt.size) k n)/\Below W'.heap.size W' w'):=fun ao cap W' hW=>by
   have:=CN ao cap (Or.inl (by omega)) (by omega) W' hW
   rw [h0] at this
   rw [h0]
   exact this
  clear CN
  cases ao with
  | none =>
   have HD:Hid ((w.drew.cell? ⟨f,0,none⟩=some (.pointer (some ⟨gR,0,none⟩))/\w.drew.cell? ⟨f,2,none⟩=some (.slice none 0 cap)/\w.drew.cell? ⟨f,3,none⟩=some (.int .i64 (0:Nat)))):=⟨c0,c2,c3⟩
   clear c0 c2 c3
   go_enter Tryz.func119,Tryz.ntmps119
   go_wp2_with fail
   go_region_held3 (fun w'=>(w'.cell? ⟨f,0,none⟩=some (.pointer (some ⟨gR,0,none⟩))/\w'.cell? ⟨f,2,none⟩=some (.slice none 0 cap)/\w'.cell? ⟨f,3,none⟩=some (.int .i64 (0:Nat))))
    (first | exact H3.out | exact HD.out)
    (first
     | (go_at_call 165
        refine (C1.out _ _ _ ((Below.refl _ _).drew)).mono ?_
        rintro e W3 ⟨⟨k,n,rfl,hN⟩,hb3⟩
        have HN:Hid (NextIs L (txt.extract 0 txt.size) k n):=hN
        have B3:Hid (Below w.heap.size w W3):=below_drew hb3
        have H3:Hid ((W3.cell? ⟨f,0,none⟩=some (.pointer (some ⟨gR,0,none⟩))/\W3.cell? ⟨f,2,none⟩=some (.slice none 0 cap)/\W3.cell? ⟨f,3,none⟩=some (.int .i64 (0:Nat)))):=⟨(B3.out.cell (p:=⟨f,0,none⟩) hfl).trans HD.out.1,(B3.out.cell (p:=⟨f,2,none⟩) hfl).trans HD.out.2.1,(B3.out.cell (p:=⟨f,3,none⟩) hfl).trans HD.out.2.2⟩
        clear hN hb3))
   go_wp2_with fail
   go_ret2
   exact ⟨⟨k,n,rfl,HN.out⟩,B3.out⟩
  | some a =>
   have HD:Hid ((w.drew.cell? ⟨f,0,none⟩=some (.pointer (some ⟨gR,0,none⟩))/\w.drew.cell? ⟨f,2,none⟩=some (.slice (some a) 0 cap)/\w.drew.cell? ⟨f,3,none⟩=some (.int .i64 (0:Nat)))):=⟨c0,c2,c3⟩
   clear c0 c2 c3
   go_enter Tryz.func119,Tryz.ntmps119
   go_wp2_with fail
   go_region_held3 (fun w'=>(w'.cell? ⟨f,0,none⟩=some (.pointer (some ⟨gR,0,none⟩))/\w'.cell? ⟨f,2,none⟩=some (.slice (some a) 0 cap)/\w'.cell? ⟨f,3,none⟩=some (.int .i64 (0:Nat))))
    (first | exact H3.out | exact HD.out)
    (first
     | (go_at_call 165
        refine (C1.out _ _ _ ((Below.refl _ _).drew)).mono ?_
        rintro e W3 ⟨⟨k,n,rfl,hN⟩,hb3⟩
        have HN:Hid (NextIs L (txt.extract 0 txt.size) k n):=hN
        have B3:Hid (Below w.heap.size w W3):=below_drew hb3
        have H3:Hid ((W3.cell? ⟨f,0,none⟩=some (.pointer (some ⟨gR,0,none⟩))/\W3.cell? ⟨f,2,none⟩=some (.slice (some a) 0 cap)/\W3.cell? ⟨f,3,none⟩=some (.int .i64 (0:Nat)))):=⟨(B3.out.cell (p:=⟨f,0,none⟩) hfl).trans HD.out.1,(B3.out.cell (p:=⟨f,2,none⟩) hfl).trans HD.out.2.1,(B3.out.cell (p:=⟨f,3,none⟩) hfl).trans HD.out.2.2⟩
        clear hN hb3))
   go_wp2_with fail
   go_ret2
   exact ⟨⟨k,n,rfl,HN.out⟩,B3.out⟩
 ·by_cases e:cap=kn
  ·have e2:txt.size=kn:=by omega
   have C1:Hid (∀ (ao:Option Addr) (cap:Nat) (W':World),Below w.heap.size w W'->Calls Tryz.prog 165 #[.slice ao 0 cap,.pointer (some ⟨gR,0,none⟩)] W' fun r w'=>(∃ k n:Nat,r=.returned (.tuple #[.int .u8 k,.int .i64 n])/\NextIs L (txt.extract kn txt.size) k n)/\Below W'.heap.size W' w'):=fun ao cap W' hW=>by
    have:=CN ao cap (Or.inl (by omega)) (by omega) W' hW
    rw [show txt.size - kn=0 from by omega] at this
    exact this
   subst e
   rw [e2] at c2
   have HT2:Hid (txt.size=cap):=e2
   clear hxs HT e2
   have HD:Hid ((w.drew.cell? ⟨f,0,none⟩=some (.pointer (some ⟨gR,0,none⟩))/\w.drew.cell? ⟨f,2,none⟩=some (.slice (some ⟨q,o,none⟩) cap cap)/\w.drew.cell? ⟨f,3,none⟩=some (.int .i64 cap))):=⟨c0,c2,c3⟩
   clear CN h3 c0 c2 c3
   go_enter Tryz.func119,Tryz.ntmps119
   go_wp2_with fail
   go_region_held3 (fun w'=>(w'.cell? ⟨f,0,none⟩=some (.pointer (some ⟨gR,0,none⟩))/\w'.cell? ⟨f,2,none⟩=some (.slice (some ⟨q,o,none⟩) cap cap)/\w'.cell? ⟨f,3,none⟩=some (.int .i64 cap)))
    (first | exact H3.out | exact HD.out)
    (first
     | (go_at_call 165
        refine (C1.out _ _ _ ((Below.refl _ _).drew)).mono ?_
        rintro e W3 ⟨⟨k,n,rfl,hN⟩,hb3⟩
        have HN:Hid (NextIs L (txt.extract cap txt.size) k n):=hN
        have B3:Hid (Below w.heap.size w W3):=below_drew hb3
        have H3:Hid ((W3.cell? ⟨f,0,none⟩=some (.pointer (some ⟨gR,0,none⟩))/\W3.cell? ⟨f,2,none⟩=some (.slice (some ⟨q,o,none⟩) cap cap)/\W3.cell? ⟨f,3,none⟩=some (.int .i64 cap))):=⟨(B3.out.cell (p:=⟨f,0,none⟩) hfl).trans HD.out.1,(B3.out.cell (p:=⟨f,2,none⟩) hfl).trans HD.out.2.1,(B3.out.cell (p:=⟨f,3,none⟩) hfl).trans HD.out.2.2⟩
        clear hN hb3))
   go_wp2_with fail
   go_ret2
   exact ⟨⟨k,n,rfl,HN.out⟩,B3.out⟩
  ·have C1:Hid (∀ W',Below w.heap.size w W'->Calls Tryz.prog 165 #[.slice (some ⟨q,o+kn,none⟩) (txt.size - kn) (cap - kn),.pointer (some ⟨gR,0,none⟩)] W' fun r w'=>(∃ k n:Nat,r=.returned (.tuple #[.int .u8 k,.int .i64 n])/\NextIs L (txt.extract kn txt.size) k n)/\Below W'.heap.size W' w'):=CN _ _ (Or.inr ⟨q,o+kn,rfl,h3.part kn txt.size (Nat.le_refl _)⟩) (by omega)
   have HD:Hid ((w.drew.cell? ⟨f,0,none⟩=some (.pointer (some ⟨gR,0,none⟩))/\w.drew.cell? ⟨f,2,none⟩=some (.slice (some ⟨q,o,none⟩) txt.size cap)/\w.drew.cell? ⟨f,3,none⟩=some (.int .i64 kn))):=⟨c0,c2,c3⟩
   clear CN h3 c0 c2 c3
   go_enter Tryz.func119,Tryz.ntmps119
   go_wp2_with fail
   go_region_held3 (fun w'=>(w'.cell? ⟨f,0,none⟩=some (.pointer (some ⟨gR,0,none⟩))/\w'.cell? ⟨f,2,none⟩=some (.slice (some ⟨q,o,none⟩) txt.size cap)/\w'.cell? ⟨f,3,none⟩=some (.int .i64 kn)))
    (first | exact H3.out | exact HD.out)
    (first
     | (go_at_call 165
        refine (C1.out _ ((Below.refl _ _).drew)).mono ?_
        rintro e W3 ⟨⟨k,n,rfl,hN⟩,hb3⟩
        have HN:Hid (NextIs L (txt.extract kn txt.size) k n):=hN
        have B3:Hid (Below w.heap.size w W3):=below_drew hb3
        have H3:Hid ((W3.cell? ⟨f,0,none⟩=some (.pointer (some ⟨gR,0,none⟩))/\W3.cell? ⟨f,2,none⟩=some (.slice (some ⟨q,o,none⟩) txt.size cap)/\W3.cell? ⟨f,3,none⟩=some (.int .i64 kn))):=⟨(B3.out.cell (p:=⟨f,0,none⟩) hfl).trans HD.out.1,(B3.out.cell (p:=⟨f,2,none⟩) hfl).trans HD.out.2.1,(B3.out.cell (p:=⟨f,3,none⟩) hfl).trans HD.out.2.2⟩
        clear hN hb3))
   go_wp2_with fail
   go_ret2
   exact ⟨⟨k,n,rfl,HN.out⟩,B3.out⟩
def hdN (H:List Hd) (hd k:Nat):Nat:=((H[hd]?).bind fun h=>h.2[k]?).getD 0
def stH (H:List Hd) (hd:Nat):Nat:=((H[hd]?).map fun h=>h.1).getD 0
theorem sumA_move (f:AP->AP) (hf:∀ a,(f a).1=a.1) (A:List AP):sumA (A.map f)=sumA A:=by
 unfold sumA
 rw [List.map_map]
 congr 1
 exact List.map_congr_left fun a _=>hf a
theorem mvG_size (nx:Nat->Nat) (cut stl:Nat->Bool) (a:AP):(mvG nx cut stl a).1=a.1:=by
 unfold mvG stG
 split <;> rfl
theorem sumA_snoc (A:List AP) (a:AP):sumA (A++[a])=sumA A+a.1:=by unfold sumA;simp
def KeepN (w w':World):Prop:=∀ (k:Nat) (cs:Array Value) (t:TypeId) (m:Nat × Nat),t ≠ 330->t ≠ 271->t ≠ 215->w.heap[k]?=some (.cells cs t m)->w'.heap[k]?=some (.cells cs t m)
def KeepU (w w':World):Prop:=∀ (k:Nat) (cs:Array Value) (m:Nat × Nat),w.heap[k]?=some (.cells cs 5 m)->w'.heap[k]?=some (.cells cs 5 m)
theorem KeepN.u {w w':World} (h:KeepN w w'):KeepU w w':=fun k cs m hh=>h k cs _ m (by decide) (by decide) (by decide) hh
theorem KeepN.row {w w':World} (h:KeepN w w') {base n size:Nat} {e:TypeId} {v:Value} {us:List Value} (h1:e ≠ 330) (h2:e ≠ 271) (h3:e ≠ 215) (hr:w.ownsRow base e size v n us):w'.ownsRow base e size v n us:=by
 obtain ⟨q1,q2⟩:=hr
 refine ⟨q1,?_⟩
 rcases q2 with q2 | ⟨g,c',cur,hv,hg,hh,rr⟩
 ·exact Or.inl q2
 ·exact Or.inr ⟨g,c',cur,hv,hg,h _ _ _ _ h1 h2 h3 hh,rr⟩
theorem KeepU.row {w w':World} (h:KeepU w w') {base n size:Nat} {v:Value} {us:List Value} (hr:w.ownsRow base 5 size v n us):w'.ownsRow base 5 size v n us:=by
 obtain ⟨q1,q2⟩:=hr
 refine ⟨q1,?_⟩
 rcases q2 with q2 | ⟨g,c',cur,hv,hg,hh,rr⟩
 ·exact Or.inl q2
 ·exact Or.inr ⟨g,c',cur,hv,hg,h _ _ _ hh,rr⟩
theorem KeepU.trans {a b c:World} (h:KeepU a b) (k:KeepU b c):KeepU a c:=fun i cs m hh=>k i cs m (h i cs m hh)
theorem KeepU.below {w w':World} (h:Below w.heap.size w w'):KeepU w w':=fun k _ _ hh=>(h.block k (heap_lt hh)).trans hh
set_option maxRecDepth 100000 in
set_option maxHeartbeats 1000000 in
theorem know_any (w0 w:World) (S:Nat->Prop) (f gR kn k size hd bg:Nat) (txt:ByteArray) (H:List Hd) (V:List Vw) (L:List (Int × Int × Nat)) (ks:List Nat) (A:List AP) (hE:FEnv w0 gR H V L ks) (hF:FOk w0 S w f gR H V txt kn A hd bg) (hk:k ∈ ks) (hk8:k<8) (hs:kn+size<=txt.size) :
  Calls Tryz.prog 120 #[.pointer (some ⟨f,0,none⟩),.int .u8 k,.int .i64 size] w fun r w'=>r=.returned (.tuple #[])/\FOk w0 S w' f gR H V txt (kn+size) (A.map (mvA V k)++[stA V size (stH H (hdN H hd k))]) (hdN H hd k) bg/\Sav S w w'/\KeepN w w'/\w'.cell? ⟨f,2,none⟩=w.cell? ⟨f,2,none⟩:=by
 obtain ⟨b,m1,m2,vT,hf,hT,⟨ns,g,hW,hA,l4⟩,⟨hlo,l1,l2,l3⟩,hB,⟨h1,hh1⟩,hfit,hKp⟩:=hF
 obtain ⟨hd',h2,hn1,hh2,hs2⟩:=hE.hds k hk hd h1 hh1
 have ehd:hdN H hd k=hd':=by unfold hdN;rw [hh1];simp [hn1]
 have est:stH H hd'=h2.1:=by unfold stH;rw [hh2];rfl
 rw [ehd,est]
 have hbw:=hB.size
 have CT:=wtake_any w b gR 2 H V hd ns g bg m1 m2 k size hd' h1 h2 hW hk8 (hE.nxt k hk) hh1 hn1 hh2 hs2
 have c1:w.cell? ⟨f,1,none⟩=some (.pointer (some ⟨b,0,none⟩)):=cell_of_block hf 1 _ rfl
 obtain ⟨lab,hbb,_⟩:=hW.blk
 obtain ⟨D1,hD1⟩:=hW.gd
 obtain ⟨D2,hD2⟩:=hW.sp
 obtain ⟨e1,e2,hm1⟩:=hD1.blk
 obtain ⟨e3,e4,hm2⟩:=hD2.blk
 have KP:Hid (∀ W1,Chg (fun j=>(∃ x ∈ ns,x.p=j)\/j=m1\/j=m2\/j=b) w W1->∀ (j:Nat) (cs:Array Value) (t:TypeId) (m:Nat × Nat),t ≠ 330->t ≠ 271->w.heap[j]?=some (.cells cs t m)->W1.heap[j]?=some (.cells cs t m)):=fun W1 hc j cs t m ht1 ht2 hh=>by
  rw [hc.block j (heap_lt hh) ?_]
  ·exact hh
  ·rintro (⟨x,hx,e⟩ | e | e | e)
   ·obtain ⟨i,hi⟩:=List.mem_iff_getElem?.1 hx
    have h3:=hW.seq i x hi
    rw [e,hh] at h3
    injection h3 with h3
    injection h3 with _ h4
    exact ht1 h4
   ·rw [e,hm1] at hh;cases hh
   ·rw [e,hm2] at hh;cases hh
   ·rw [e,hbb] at hh
    injection hh with hh
    injection hh with _ h4
    exact ht2 h4.symm
 have HF:Hid (w.heap[f]?=some (.cells (FloC gR b vT kn) 215 (0,0))):=hf
 have HT:Hid (TxtIn w S vT txt):=hT
 have HA:Hid (Abs ns g A):=hA
 have HL:Hid (¬ S b/\¬ S m1/\¬ S m2/\∀ x ∈ ns,¬ S x.p):=⟨l1,l2,l3,l4⟩
 have HB:Hid (Below w0.heap.size w0 w):=hB
 have HK:Hid (Kept S w0 w/\¬ S f):=⟨hKp,hlo⟩
 have HD:Hid (H[hd']?=some h2):=hh2
 have hkb:kn+size<=1500000:=Nat.le_trans hs hfit.2
 have htx:=hfit.2
 clear hKp hlo hE hf hT hW hA l1 l2 l3 l4 hB hh1 hfit hn1 hh2 hs2 ehd est hbb hD1 hD2 hm1 hm2
 go_enter Tryz.func120,Tryz.ntmps120
 go_wp2_with fail
 refine CT.mono ?_
 rintro r W1 ⟨rfl,ns',g',hW',hA',hlow',hc'⟩
 have hf1:=KP.out W1 hc' f _ _ _ (by decide) (by decide) HF.out
 have d3:W1.cell? ⟨f,3,none⟩=some (.int .i64 kn):=cell_of_block hf1 3 _ rfl
 have fr1:=free_of_block hf1
 have B1:Hid (Sav S w W1):=hc'.mono (fun j _ h=>by
  rcases h with ⟨x,hx,rfl⟩ | rfl | rfl | rfl
  ·exact HL.out.2.2.2 x hx
  ·exact HL.out.2.1
  ·exact HL.out.2.2.1
  ·exact HL.out.1)
 have fin:FOk w0 S (W1.setCell ⟨f,3,none⟩ (.int .i64 (kn+size:Nat))) f gR H V txt (kn+size) (A.map (mvA V k)++[stA V size h2.1]) hd' bg:=by
  have oth:∀ j,j ≠ f->(W1.setCell ⟨f,3,none⟩ (.int .i64 (kn+size:Nat))).heap[j]?=W1.heap[j]?:=fun j hj=>Below.heap_setCell _ _ _ _ hj
  obtain ⟨la2,hb2,hla2⟩:=hW'.blk
  obtain ⟨E1,hE1⟩:=hW'.gd
  obtain ⟨E2,hE2⟩:=hW'.sp
  obtain ⟨i1,i2,hn1⟩:=hE1.blk
  obtain ⟨i3,i4,hn2⟩:=hE2.blk
  refine ⟨b,m2,m1,vT,(block_setCell hf1 3 _).trans rfl,?_,⟨ns',g',⟨⟨la2,?_,hla2⟩,fun i x hx=>?_,hW'.gr,⟨E1,hE1.keep (oth _ (fun e=>by rw [e,hf1] at hn1;cases hn1))⟩,⟨E2,hE2.keep (oth _ (fun e=>by rw [e,hf1] at hn2;cases hn2))⟩,hW'.ne,?_,hW'.op⟩,hA' A HA.out,hlow' _ HK.out.1.hi HL.out.2.2.2⟩,⟨HK.out.2,HL.out.1,HL.out.2.2.1,HL.out.2.1⟩,?_,⟨h2,HD.out⟩,⟨hs,htx⟩,HK.out.1.grow (B1.out.setCell (q:=⟨f,3,none⟩) (Or.inr HK.out.2) _).size⟩
  ·refine HT.out.keep fun j cs m hh=>?_
   have h3:=KP.out W1 hc' j cs _ m (by decide) (by decide) hh
   rw [oth j (fun e=>by rw [e,hf1] at h3;injection h3 with h3;injection h3 with _ h4;cases h4)]
   exact h3
  ·rw [oth b (fun e=>by rw [e,hf1] at hb2;injection hb2 with h3;injection h3 with _ h4;cases h4)]
   exact hb2
  ·have h3:=hW'.seq i x hx
   rw [oth x.p (fun e=>by rw [e,hf1] at h3;injection h3 with h3;injection h3 with _ h4;cases h4)]
   exact h3
  ·refine hW'.lk.only fun j cs t ht hh=>?_
   rw [oth j (fun e=>by rw [e,hf1] at hh;injection hh with h3;injection h3 with _ h4;rcases ht with rfl | rfl | rfl <;> cases h4)]
   exact hh
  ·exact HB.out.trans (HK.out.1.below (B1.out.setCell (q:=⟨f,3,none⟩) (Or.inr HK.out.2) _) hbw)
 have FIN:Hid (FOk w0 S (W1.setCell ⟨f,3,none⟩ (.int .i64 (kn+size:Nat))) f gR H V txt (kn+size) (A.map (mvA V k)++[stA V size h2.1]) hd' bg):=fin
 have B2:Hid (Sav S w (W1.setCell ⟨f,3,none⟩ (.int .i64 (kn+size:Nat)))):=B1.out.setCell (q:=⟨f,3,none⟩) (Or.inr HK.out.2) _
 have U2:Hid (KeepN w (W1.setCell ⟨f,3,none⟩ (.int .i64 (kn+size:Nat)))):=fun j cs t m ht1 ht2 ht3 hh=>by
  have h3:=KP.out W1 hc' j cs t m ht1 ht2 hh
  rw [Below.heap_setCell _ _ _ _ (show j ≠ f from fun e=>by rw [e,hf1] at h3;injection h3 with h3;injection h3 with _ h4;exact ht3 h4.symm)]
  exact h3
 have V2:Hid ((W1.setCell ⟨f,3,none⟩ (.int .i64 (kn+size:Nat))).cell? ⟨f,2,none⟩=w.cell? ⟨f,2,none⟩):=by
  show _=_
  rw [cell_of_block ((block_setCell hf1 3 _).trans rfl) 2 vT rfl,cell_of_block HF.out 2 vT rfl]
 clear fin hW' hA' hlow' hc' hf1 CT
 go_wp2_with fail
 go_end0
 rw [show ((kn:Int)+(size:Int))=((kn+size:Nat):Int) from by omega]
 exact ⟨rfl,FIN.out,B2.out,U2.out,V2.out⟩
abbrev TS:=List AP × Nat × ByteArray × List ByteArray
def tellP:Nat->List AP->Nat->ByteArray->List ByteArray->TS
 | 0,A,bg,t,l=>(A,bg,t,l)
 | n+1,A,bg,t,l=>if (nextT A bg).2.2=0 then ((nextT A bg).1,(nextT A bg).2.1,t,l) else tellP n (nextT A bg).1 (nextT A bg).2.1 (t.extract (nextT A bg).2.2 t.size) (l++[t.extract 0 (nextT A bg).2.2])
def tellC (n:Nat) (A:List AP) (bg:Nat) (t:ByteArray) (l:List ByteArray) (sz:Nat):TS:=if sz=0 then (A,bg,t,l) else tellP n A bg (t.extract sz t.size) (l++[t.extract 0 sz])
theorem tellP_succ (n:Nat) (A:List AP) (bg:Nat) (t:ByteArray) (l:List ByteArray):tellP (n+1) A bg t l=tellC n (nextT A bg).1 (nextT A bg).2.1 t l (nextT A bg).2.2:=rfl
theorem nextT_sum:∀ (A:List AP) (bg:Nat),sumA (nextT A bg).1+(nextT A bg).2.1+(nextT A bg).2.2=sumA A+bg:=by
 intro A
 induction A with
 | nil=>intro bg;rfl
 | cons a A ih =>
  intro bg
  obtain ⟨sz,s⟩:=a
  have e:sumA ((sz,s) :: A)=sz+sumA A:=by unfold sumA;simp
  cases s with
  | inl v=>show sumA ((sz,.inl v) :: A)+bg+0=_;omega
  | inr c =>
   cases c with
   | true=>show sumA A+0+(bg+sz)=_;rw [e];omega
   | false =>
    have:=ih (bg+sz)
    show sumA (nextT A (bg+sz)).1+(nextT A (bg+sz)).2.1+(nextT A (bg+sz)).2.2=_
    rw [this,e]
    omega
theorem nextT_len:∀ (A:List AP) (bg:Nat),(nextT A bg).1.length<=A.length/\(0<(nextT A bg).2.2->(nextT A bg).1.length<A.length):=by
 intro A
 induction A with
 | nil=>intro bg;exact ⟨Nat.le_refl _,fun h=>absurd h (Nat.lt_irrefl _)⟩
 | cons a A ih =>
  intro bg
  obtain ⟨sz,s⟩:=a
  cases s with
  | inl v=>exact ⟨Nat.le_refl _,fun h=>absurd h (Nat.lt_irrefl _)⟩
  | inr c =>
   cases c with
   | true=>exact ⟨Nat.le_succ _,fun _=>Nat.lt_succ_self _⟩
   | false =>
    have:=ih (bg+sz)
    exact ⟨Nat.le_trans this.1 (Nat.le_succ _),fun h=>Nat.lt_succ_of_le this.1⟩
theorem fwnext (w0 w:World) (S:Nat->Prop) (f gR b m1 m2:Nat) (vT:Value) (H:List Hd) (V:List Vw) (txt:ByteArray) (kn:Nat) (A:List AP) (hd bg:Nat) (h:FP w0 S w f gR b m1 m2 vT H V txt kn A hd bg) (hsum:sumA A+bg<=4000000) :
  Calls Tryz.prog 167 #[.pointer (some ⟨b,0,none⟩)] w fun r w'=>r=.returned (.int .i64 (nextT A bg).2.2)/\FP w0 S w' f gR b m1 m2 vT H V txt kn (nextT A bg).1 hd (nextT A bg).2.1/\Chg (fun k=>k=b) w w':=by
 obtain ⟨ns,g,hW,hA,hl⟩:=h.hw
 refine (wnext_any w b gR 2 H V hd ns g bg m1 m2 A hW hA hsum).mono ?_
 rintro r w' ⟨rfl,⟨ns',hW',hA',hs'⟩,hc⟩
 obtain ⟨la,hb,_⟩:=hW.blk
 have oth:∀ (k:Nat) (cs:Array Value) (t:TypeId) (m:Nat × Nat),t ≠ 271->w.heap[k]?=some (.cells cs t m)->w'.heap[k]?=some (.cells cs t m):=fun k cs t m ht hh=>by
  rw [hc.block k (heap_lt hh) (fun e=>by rw [e,hb] at hh;injection hh with hh;injection hh with _ h2;exact ht h2.symm)]
  exact hh
 exact ⟨rfl,⟨oth _ _ _ _ (by decide) h.hf,h.ht.keep fun k cs m hh=>oth k cs _ m (by decide) hh,⟨ns',g,hW',hA',fun x hx=>hl x (hs' x hx)⟩,h.lo,h.bel.trans (hc.low h.bel.size fun k e=>by rw [e];exact h.kept.le h.lo.2.1),h.hdl,h.fits,h.kept.grow hc.size⟩,hc⟩
theorem TxtIn.drop {w:World} {S:Nat->Prop} {q o cap sz:Nat} {t:ByteArray} (h:ByAt w q o t) (hb:¬ S q) (hty:∃ cs m,w.heap[q]?=some (.cells cs 5 m)) (hc:t.size<=cap) (hs:sz<=t.size):TxtIn w S (.slice (if cap=sz then some ⟨q,o,none⟩ else some ⟨q,o+sz,none⟩) (t.size - sz) (cap - sz)) (t.extract sz t.size):=by
 have hz:(t.extract sz t.size).size=t.size - sz:=by rw [ByteArray.size_extract];omega
 by_cases e:cap=sz
 ·left
  refine ⟨by omega,if cap=sz then some ⟨q,o,none⟩ else some ⟨q,o+sz,none⟩,cap - sz,?_⟩
  rw [show t.size - sz=0 from by omega]
 ·right
  exact ⟨q,o+sz,cap - sz,by rw [if_neg e,hz],hb,h.part sz t.size (Nat.le_refl _),by omega,hty⟩
end Go.Proofs.YtodagkkjfipbgaaGreatDoor
