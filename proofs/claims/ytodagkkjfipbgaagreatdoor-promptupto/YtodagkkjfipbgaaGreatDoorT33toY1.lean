import Derived.Test.YtodagkkjfipbgaaGreatDoorT31toT32
namespace Go.Proofs.YtodagkkjfipbgaaGreatDoor
open Go.RowKit Go.Maps Go.Lib
def SpanV (o:Int × Int × Nat):Prop:=0<=o.1/\o.1<=o.2.1/\o.2.1<=1114111/\(o.2.1<55296\/57343<o.1)
theorem dig_pos {c:Nat} {d:Int} (h:RS.dig c=some d):0<=d:=by
 unfold RS.dig at h
 split at h
 ·injection h with h;omega
 ·split at h
  ·injection h with h;omega
  ·split at h
   ·injection h with h;omega
   ·cases h
theorem hexN_pos (l:List UInt8):0<=RS.hexN l:=by
 unfold RS.hexN
 have key:∀ (l:List UInt8) (n:Int),0<=n->0<=l.foldl (fun n c=>match RS.dig c.toNat with | some d=>16 * n+d | none=>n) n:=by
  intro l
  induction l with
  | nil=>intro n h;exact h
  | cons c l ih =>
   intro n h
   rw [List.foldl_cons]
   apply ih
   cases hd:RS.dig c.toNat with
   | none=>exact h
   | some d=>have:=dig_pos hd;show 0<=16 * n+d;omega
 exact key l 0 (Int.le_refl 0)
theorem hex_range {l:List UInt8} (h:hexErr l=0):0<=RS.hexN l/\RS.hexN l<=1114111:=by
 refine ⟨hexN_pos l,?_⟩
 unfold hexErr at h
 split at h
 ·cases h
 ·split at h
  ·cases h
  ·omega
theorem failAt_f (T:ByteArray) (s:PS) (at_:Int):(s.failAt T 5 at_).f ≠ 0:=by
 unfold PS.failAt pf
 simp only
 split
 ·decide
 ·assumption
theorem span_valid {T:ByteArray} {l:List (Int × Int × Nat)} {s:PS} (k:Nat) (h:(s.span T l).f=0):SpanV (s.spanX T,s.spanY T,k):=by
 unfold PS.span at h
 split at h
 ·rename_i h9;exact absurd h h9
 ·rename_i h0
  split at h
  ·exact absurd h (failAt_f T _ _)
  ·rename_i hb
   have h0':(s.spanTo T).f=0:=Classical.not_not.1 h0
   have hr:(0<=s.spanX T/\s.spanX T<=1114111)/\(0<=s.spanY T/\s.spanY T<=1114111):=by
    unfold PS.spanTo at h0'
    unfold PS.spanX PS.spanY
    by_cases hd:s.dash T=true
    ·rw [if_pos hd] at h0' ⊢
     obtain ⟨h1,h2⟩:=hex_f h0'
     have h3:(s.hex T).f=0:=h1
     exact ⟨hex_range (hex_f h3).2,hex_range h2⟩
    ·rw [if_neg hd] at h0' ⊢
     exact ⟨hex_range (hex_f h0').2,hex_range (hex_f h0').2⟩
   unfold RS.badSpan at hb
   simp only [Bool.or_eq_true,Bool.and_eq_true,decide_eq_true_eq,not_or,not_and] at hb
   obtain ⟨⟨b1,b2⟩,_⟩:=hb
   refine ⟨hr.1.1,?_,hr.2.2,?_⟩
   ·show s.spanX T<=s.spanY T
    omega
   ·show s.spanY T<55296\/57343<s.spanX T
    rcases Int.lt_or_le 57343 (s.spanX T) with h1 | h1
    ·exact Or.inr h1
    ·have:=b2 h1;left;omega
theorem spansL_valid (T:ByteArray) (k:Nat):∀ (g:Nat) (s:PS) (l:List (Int × Int × Nat)),(PS.spansL T k g s l).1.f=0->(∀ o ∈ l,SpanV o)->∀ o ∈ (PS.spansL T k g s l).2,SpanV o:=by
 intro g
 induction g with
 | zero=>intro s l _ h;exact h
 | succ g ih =>
  intro s l hf h
  rw [PS.spansL] at hf ⊢
  split
  ·rename_i hc
   rw [if_pos hc] at hf
   refine ih _ _ hf fun o ho=>?_
   rcases List.mem_append.1 ho with h1 | h1
   ·exact h o h1
   ·simp at h1
    subst h1
    exact span_valid k ((stk_spansL T k g _ _).back hf)
  ·exact h
theorem readC_valid (T:ByteArray):∀ (g:Nat) (r:RD),r.s.p<=T.size->Fz T r.s->(readC T g r).s.f=0->(∀ o ∈ r.l,SpanV o)->∀ o ∈ (readC T g r).l,SpanV o:=by
 intro g
 induction g with
 | zero=>intro r _ _ _ h;exact h
 | succ g ih =>
  intro r hp hz hf h
  rw [readC] at hf ⊢
  split at hf
  ·rename_i hm
   rw [if_pos hm]
   have hp':=(class_p T r.names r.l r.s hz hp).1
   have hz':=klass_fz T r.names r.l r.s hz hp
   have hc:=readC_few T g ⟨r.s.klass T r.names r.l,r.names++[nameTok T r.names r.s],(r.s.classB T r.names r.l).2⟩ hp' hz'
   have hk:(r.s.klass T r.names r.l).f=0:=hc.2.2.1.back hf
   have hb:(r.s.classB T r.names r.l).1.f=0:=(stk_need T [sgn 59] _).back hk
   refine ih _ hp' hz' hf ?_
   unfold PS.classB at hb ⊢
   refine spansL_valid T _ _ _ _ hb fun o ho=>?_
   rcases List.mem_append.1 ho with h1 | h1
   ·exact h o h1
   ·simp at h1
    subst h1
    exact span_valid _ ((stk_spansL T _ _ _ _).back hb)
  ·rename_i hm;rw [if_neg hm];exact h
theorem read_valid (T:ByteArray) (h0:(rdT T).err=0):∀ o ∈ (read1 T).l,SpanV o:=by
 obtain ⟨hT,hf,_⟩:=rd_zero h0
 have h2:(read2 T).1.f=0:=readEnd_f hf
 have hp:(read0 T).s.p<=T.size:=(skip_le T 0).2 (Nat.zero_le _)
 have hz:Fz T (read0 T).s:=fun e=>absurd rfl e
 have h1:=readC_few T (T.size+1) (read0 T) hp hz
 have hs:=readR_stk T (read1 T).names (T.size+1) (read1 T).s [] h1.2.1 h1.1
 have hf1:=hs.back h2
 exact readC_valid T (T.size+1) (read0 T) hp hz hf1 (fun o ho=>by have:o ∈ ([]:List (Int × Int × Nat)):=ho;simp at this)
def sizesL (L:List (Int × Int × Nat)):Int:=(L.map fun o=>o.2.1 - o.1+1).sum
def belowN (c x:Int):Int:=x - (if x<=55296 then 0 else if x<=57344 then x - 55296 else 2048) - (if c<x then 1 else 0)
theorem belowN_mono {c x y:Int} (h:x<=y) (hc:c<55296\/57343<c):belowN c x<=belowN c y:=by
 unfold belowN
 split <;> split <;> split <;> (try split) <;> (try split) <;> (try split) <;> omega
theorem belowN_span {c:Int} {o:Int × Int × Nat} (h:SpanV o) (hc:¬ (o.1<=c/\c<=o.2.1)):belowN c (o.2.1+1)=belowN c o.1+(o.2.1 - o.1+1):=by
 obtain ⟨h1,h2,h3,h4⟩:=h
 unfold belowN
 split <;> split <;> split <;> (try split) <;> (try split) <;> (try split) <;> omega
theorem InRow.tail {o:Int × Int × Nat} {L:List (Int × Int × Nat)} (h:InRow (o :: L)):InRow L/\∀ u ∈ L,o.2.1<u.1:=by
 refine ⟨⟨fun u hu=>h.1 u (List.mem_cons_of_mem _ hu),fun i j a b hij ha hb=>h.2 (i+1) (j+1) a b (by omega) (by simpa using ha) (by simpa using hb)⟩,fun u hu=>?_⟩
 obtain ⟨j,hj⟩:=List.mem_iff_getElem?.1 hu
 exact h.2 0 (j+1) o u (by omega) rfl (by simpa using hj)
theorem sizes_few {c:Int} (hc:c<55296\/57343<c):∀ (L:List (Int × Int × Nat)) (x:Int),InRow L->(∀ o ∈ L,SpanV o)->(∀ o ∈ L,¬ (o.1<=c/\c<=o.2.1))->(∀ o ∈ L,x<=o.1)->x<=1114112->sizesL L<=belowN c 1114112 - belowN c x:=by
 intro L
 induction L with
 | nil=>intro x _ _ _ _ h;have:=belowN_mono (c:=c) h hc;show (0:Int)<=_;omega
 | cons o L ih =>
  intro x hr hv hn hx _
  obtain ⟨hr',hlt⟩:=hr.tail
  have h1:=hv o (List.mem_cons_self ..)
  have h2:=ih (o.2.1+1) hr' (fun u hu=>hv u (List.mem_cons_of_mem _ hu)) (fun u hu=>hn u (List.mem_cons_of_mem _ hu)) (fun u hu=>by have:=hlt u hu;omega) (by have:=h1.2.2.1;omega)
  rw [belowN_span h1 (hn o (List.mem_cons_self ..))] at h2
  have h3:=belowN_mono (c:=c) (hx o (List.mem_cons_self ..)) hc
  have e:sizesL (o :: L)=(o.2.1 - o.1+1)+sizesL L:=by unfold sizesL;simp
  omega
theorem sizeP_is {o:Int × Int × Nat} (h:SpanV o):sizeP o.1 o.2.1=o.2.1 - o.1+1:=by
 obtain ⟨h1,h2,h3,_⟩:=h
 unfold sizeP wrap64 wrap32
 omega
theorem leftN_is:∀ (L:List (Int × Int × Nat)) (z:Int),(∀ o ∈ L,SpanV o)->z<=1112064->-1000000000000000<=z - (L.length:Int) * 1114112->leftN L z=z - sizesL L:=by
 intro L
 induction L with
 | nil=>intro z _ _ _;show z=z - 0;omega
 | cons o L ih =>
  intro z hv hz hb
  have h1:=hv o (List.mem_cons_self ..)
  have hs:=sizeP_is h1
  obtain ⟨g1,g2,g3,_⟩:=h1
  have e0:leftN (o :: L) z=leftN L (wrap64 (z - sizeP o.1 o.2.1)):=rfl
  have hb':-1000000000000000<=z - ((L.length:Int)+1) * 1114112:=by simpa using hb
  have e1:wrap64 (z - sizeP o.1 o.2.1)=z - (o.2.1 - o.1+1):=by
   rw [hs]
   have:(0:Int)<=(L.length:Int):=Int.natCast_nonneg _
   unfold wrap64
   omega
  have e:sizesL (o :: L)=(o.2.1 - o.1+1)+sizesL L:=by unfold sizesL;simp
  rw [e0,e1,ih _ (fun u hu=>hv u (List.mem_cons_of_mem _ hu)) (by omega) (by omega),e]
  omega
theorem decodeN_scalar (n b0 b1 b2 b3:Nat):(decodeN n b0 b1 b2 b3).1<55296\/(57343<(decodeN n b0 b1 b2 b3).1/\(decodeN n b0 b1 b2 b3).1<=1114111):=by
 unfold decodeN
 repeat' split
 all_goals simp only
 all_goals omega
theorem mask_bit (k:Nat):∀ (L:List (Int × Int × Nat)) (m:Nat),(m.testBit k=true\/∃ o ∈ L,o.2.2=k)->(maskN L m).testBit k=true:=by
 intro L
 induction L with
 | nil=>intro m h;rcases h with h | ⟨o,ho,_⟩
        ·exact h
        ·simp at ho
 | cons o L ih =>
  intro m h
  show (maskN L (m ||| 2 ^ o.2.2)).testBit k=true
  apply ih
  rcases h with h | ⟨u,hu,e⟩
  ·left;rw [Nat.testBit_or,h];rfl
  ·rcases List.mem_cons.1 hu with rfl | hu
   ·left;rw [Nat.testBit_or,<- e,Nat.testBit_two_pow_self];simp
   ·exact Or.inr ⟨u,hu,e⟩
theorem poss_of {L:List (Int × Int × Nat)} {k:Nat} (hk:k<8) (h:(maskN L 128).testBit k=true\/(0<leftN L 1112064/\k=6)):k ∈ possOf L:=by
 unfold possOf
 rw [List.mem_filter,List.mem_range]
 refine ⟨hk,?_⟩
 unfold possMask
 rcases h with h | ⟨h1,rfl⟩
 ·split
  ·rw [Nat.testBit_or,h];rfl
  ·exact h
 ·rw [if_pos h1,Nat.testBit_or,Nat.testBit_two_pow_self];simp
theorem char_poss {L:List (Int × Int × Nat)} (hr:InRow L) (hv:∀ o ∈ L,SpanV o) (hk:∀ o ∈ L,o.2.2<8) (hl:L.length<=100000) {s:ByteArray} {k n:Nat} (h1:1<=s.size) (h:CharIs L s k n):k ∈ possOf L:=by
 rcases h with ⟨_,_,rfl,_⟩ | ⟨_,_,⟨o,ho,_,_,rfl⟩ | ⟨hn,rfl⟩⟩
 ·exact poss_of (by omega) (Or.inl (mask_bit 7 L 128 (Or.inl (by decide))))
 ·exact poss_of (hk o ho) (Or.inl (mask_bit _ L 128 (Or.inr ⟨o,ho,rfl⟩)))
 ·refine poss_of (by omega) (Or.inr ⟨?_,rfl⟩)
  have hc:(decodeGo s).1<55296\/(57343<(decodeGo s).1/\(decodeGo s).1<=1114111):=by rw [decodeGo_is h1];exact decodeN_scalar ..
  have hf:=sizes_few (c:=((decodeGo s).1:Int)) (by omega) L 0 hr hv hn (fun o ho=>(hv o ho).1) (by omega)
  rw [leftN_is L 1112064 hv (by omega) (by omega)]
  have e:belowN ((decodeGo s).1:Int) 1114112 - belowN ((decodeGo s).1:Int) 0=1112063:=by
   unfold belowN
   rw [if_neg (by omega),if_neg (by omega),if_pos (by omega),if_pos (by omega),if_neg (by omega)]
   omega
  omega
theorem rules_stream {w:World} {g:Nat} {T:ByteArray} {vE vJ vP vH vV:Value} {L:List (Int × Int × Nat)} (hI:RulesIn w g T vE vJ vP vH vV L) (h0:(rdT T).err=0) (hV:VarsOk w):∃ H V,FEnv w g H V L (possOf L)/\RulP (read2 T).2 L (possOf L) H V:=by
 obtain ⟨J,X,K,H,V0,MC,MJ,hO,hP,hH,hW⟩:=hI.out
 have hv:∀ o ∈ L,SpanV o:=fun o ho=>read_valid T h0 o (hI.perm.mem_iff.1 ho)
 have hpos:∀ (s:ByteArray) (k n:Nat),1<=s.size->CharIs L s k n->k ∈ possOf L:=fun s k n h1 h=>char_poss hI.row hv hI.spans.2 hI.spans.1 h1 h
 have hKl:=hO.few
 have hlen:=hO.vlen
 have hhl:=hO.hlen
 refine ⟨H,setTo V0.length (setF MC MJ) V0,⟨hV,⟨?_,⟨⟨vH,cell_of_block hI.blk 3 _ rfl,hH⟩,by omega,fun h hh=>?_⟩,_,hI.blk⟩,⟨vE,cell_of_block hI.blk 0 _ rfl,hI.tab⟩,hI.spans.1,hI.row,hI.spans.2,hpos,possOf_lt L,?_,?_,?_,?_⟩,⟨⟨J,X,K,V0,MC,MJ,hO,rfl⟩,hI.few,hI.ok,possOf_lt L,hI.row,hI.spans.2,hpos⟩⟩
 ·refine ⟨⟨vV,cell_of_block hI.blk 4 _ rfl,by rw [setTo_len];exact hW⟩,by rw [setTo_len];omega,setTo_eight fun v hv9=>?_⟩
  obtain ⟨i,hi⟩:=List.mem_iff_getElem?.1 hv9
  obtain ⟨x,_,h1,_⟩:=hO.views i v hi
  exact h1
 ·obtain ⟨i,hi⟩:=List.mem_iff_getElem?.1 hh
  obtain ⟨x,_,h1,_⟩:=hO.heads i h hi
  exact h1
 ·exact poss_of (by omega) (Or.inl (mask_bit 7 L 128 (Or.inl (by decide))))
 ·have:=(List.getElem?_eq_some_iff.1 hO.first).1
  exact ⟨H[0]'(by omega),List.getElem?_eq_getElem _⟩
 ·intro k hk v hvl
  rw [setTo_len] at hvl ⊢
  rw [nxV_set]
  obtain ⟨x,_,_,_,hy⟩:=hO.views v _ (List.getElem?_eq_getElem hvl)
  obtain ⟨q,hq1,hq2⟩:=hy k hk
  unfold nxV
  rw [List.getElem?_eq_getElem hvl,Option.bind_some,hq1]
  show q<V0.length
  rw [hlen]
  exact (List.getElem?_eq_some_iff.1 hq2).1
 ·intro k hk hd h1 hh1
  obtain ⟨x,hx,_,hy,_⟩:=hO.heads hd h1 hh1
  obtain ⟨m,hm1,hm2⟩:=hy k hk
  have hml:m<H.length:=by rw [hhl];exact (List.getElem?_eq_some_iff.1 hm2).1
  obtain ⟨y,hy1,_,_,hy3⟩:=hO.heads m _ (List.getElem?_eq_getElem hml)
  rw [hm2] at hy1
  cases hy1
  refine ⟨m,_,hm1,List.getElem?_eq_getElem hml,?_⟩
  rw [setTo_len,hlen]
  exact (List.getElem?_eq_some_iff.1 (hy3 rfl)).1
def StmC (full:Nat) (fp:Option Addr) (wf:Bool):Array Value:=#[.int .i64 full,.pointer fp,.bool wf]
structure SRest (w0:World) (S:Nat->Prop) (w:World) (p full f gR:Nat) (H:List Hd) (V:List Vw) (s:FS):Prop where
 blk:w.heap[p]?=some (.cells (StmC full (some ⟨f,0,none⟩) false) 132 (0,0))
 out:¬ S p
 fl:FRest w0 (fun k=>S k\/k=p) w f gR H V s
set_option maxRecDepth 100000 in
theorem fault_ok (w:World) (p full f:Nat) (h:w.heap[p]?=some (.cells (StmC full (some ⟨f,0,none⟩) false) 132 (0,0))) :
  Calls Tryz.prog 71 #[.pointer (some ⟨p,0,none⟩)] w fun r w'=>r=.returned (.int .i64 0)/\w'=w:=by
 have c1:w.cell? ⟨p,1,none⟩=some (.pointer (some ⟨f,0,none⟩)):=cell_of_block h 1 _ rfl
 have c2:w.cell? ⟨p,2,none⟩=some (.bool false):=cell_of_block h 2 _ rfl
 go_enter Tryz.func71,Tryz.ntmps71
 go_wp2_with fail
 go_ret
 exact ⟨rfl,rfl⟩
set_option maxRecDepth 100000 in
theorem fault_full (w:World) (p full:Nat) (h:w.heap[p]?=some (.cells (StmC full none true) 132 (0,0))) :
  Calls Tryz.prog 71 #[.pointer (some ⟨p,0,none⟩)] w fun r w'=>r=.returned (.int .i64 7)/\w'=w:=by
 have c2:w.cell? ⟨p,2,none⟩=some (.bool true):=cell_of_block h 2 _ rfl
 go_enter Tryz.func71,Tryz.ntmps71
 go_wp2_with fail
 go_ret
 exact ⟨rfl,rfl⟩
set_option maxRecDepth 100000 in
set_option maxHeartbeats 2000000 in
theorem open_any (w:World) (gR full:Nat) (H:List Hd) (V:List Vw) (L:List (Int × Int × Nat)) (ks:List Nat) (hE:FEnv w gR H V L ks) (hf1:1<=full) (hf2:full<=100000) :
  Calls Tryz.prog 33 #[.pointer (some ⟨gR,0,none⟩),.int .i64 full] w fun r w'=>∃ p f,r=.returned (.tuple #[.pointer (some ⟨p,0,none⟩),.int .i64 0])/\w.heap.size<=p/\SRest w (fun k=>k<w.heap.size) w' p full f gR H V FS.new/\Below w.heap.size w w':=by
 have MK:Hid (∀ W',Below w.heap.size w W'->W'.heap.size=w.heap.size->Calls Tryz.prog 66 #[.pointer (some ⟨gR,0,none⟩),.pointer (some ⟨gR,2,none⟩)] W' fun r w'=>∃ f,r=.returned (.pointer (some ⟨f,0,none⟩))/\Below w.heap.size w w'/\FRest w (fun k=>k<w.heap.size) w' f gR H V FS.new):=fun W' hb hz=>(fmake_any W' gR H V L ks (hE.below hb)).mono fun r w' h=>by
  obtain ⟨f,h1,_,h3,h4⟩:=h
  rw [hz] at h3 h4
  exact ⟨f,h1,hb.trans h4,h3.base hb⟩
 have FIN:Hid (∀ (f:Nat) (W1:World),Below w.heap.size w W1->FRest w (fun k=>k<w.heap.size) W1 f gR H V FS.new->SRest w (fun k=>k<w.heap.size) (W1.alloc (.cells #[.int .i64 full,.pointer (some ⟨f,0,none⟩),.bool false] 132)) W1.heap.size full f gR H V FS.new/\Below w.heap.size w (W1.alloc (.cells #[.int .i64 full,.pointer (some ⟨f,0,none⟩),.bool false] 132))/\w.heap.size<=W1.heap.size):=fun f W1 hb hF=>by
  have b2:=below_alloc W1 (.cells #[.int .i64 full,.pointer (some ⟨f,0,none⟩),.bool false] 132)
  have hz:=hb.size
  have hz2:(W1.alloc (.cells #[.int .i64 full,.pointer (some ⟨f,0,none⟩),.bool false] 132)).heap.size=W1.heap.size+1:=by simp
  refine ⟨⟨heap_alloc_new W1 _,by omega,hF.apart hE (p:=fun _=>False) (Chg.of_below b2) (fun _ _ h=>h.elim) (fun _ h=>h.elim) (fun k h=>?_) ⟨fun k h=>Or.inl h,fun k h=>?_⟩⟩,hb.trans (b2.mono hz),hz⟩
  ·rcases h with h | h
   ·exact Or.inl h
   ·exact Or.inr (by rw [h];exact Nat.le_refl _)
  ·rw [hz2]
   rcases h with h | h <;> omega
 have hd1:decide ((full:Int)<1)=false:=decide_eq_false (by omega)
 have hd2:decide ((100000:Int)<full)=false:=decide_eq_false (by omega)
 clear hE
 go_enter Tryz.func33,Tryz.ntmps33
 go_wp2_with fail
 go_region_with (go_at_call 66;refine (MK.out _ ((Below.refl _ _).drew) rfl).mono ?_;rintro e W1 ⟨f,rfl,hB1,hF1⟩;have P1:Hid (Below w.heap.size w W1/\FRest w (fun k=>k<w.heap.size) W1 f gR H V FS.new):=⟨hB1,hF1⟩;clear hB1 hF1)
 all_goals go_wp2_with fail
 all_goals go_ret2
 all_goals exact ⟨_,_,rfl,(FIN.out _ _ P1.out.1 P1.out.2).2.2,(FIN.out _ _ P1.out.1 P1.out.2).1,(FIN.out _ _ P1.out.1 P1.out.2).2.1⟩
theorem SRest.apart {w0 w w':World} {S S' q:Nat->Prop} {p full f gR:Nat} {H:List Hd} {V:List Vw} {L:List (Int × Int × Nat)} {ks:List Nat} {s:FS} (hE:FEnv w0 gR H V L ks) (h:SRest w0 S w p full f gR H V s) (hc:Chg q w w') (hq:∀ k,k<w.heap.size->q k->S k) (hq0:∀ k,q k->w0.heap.size<=k) (hS:∀ k,S' k->S k\/w.heap.size<=k) (hK:Kept S' w0 w'):SRest w0 S' w' p full f gR H V s:=by
 have hp:=heap_lt h.blk
 refine ⟨(hc.block p hp fun h9=>h.out (hq p hp h9)).trans h.blk,fun h9=>?_,h.fl.apart hE hc (fun k hk h9=>Or.inl (hq k hk h9)) hq0 (fun k h9=>?_) ⟨fun k hk=>Or.inl (hK.lo k hk),fun k h9=>?_⟩⟩
 ·rcases hS p h9 with h1 | h1
  ·exact h.out h1
  ·omega
 ·rcases h9 with h9 | h9
  ·rcases hS k h9 with h1 | h1
   ·exact Or.inl (Or.inl h1)
   ·exact Or.inr h1
  ·exact Or.inl (Or.inr h9)
 ·rcases h9 with h9 | h9
  ·exact hK.hi k h9
  ·rw [h9];exact Nat.lt_of_lt_of_le hp hc.size
theorem Kept.or {S:Nat->Prop} {w0 w:World} {p:Nat} (h:Kept (fun k=>S k\/k=p) w0 w) (hp:w0.heap.size<=p):Kept S w0 w:=⟨fun k hk=>by rcases h.lo k hk with h1 | h1;exact h1;omega,fun k hk=>h.hi k (Or.inl hk)⟩
theorem Sav.or {S:Nat->Prop} {w w':World} {p:Nat} (h:Sav (fun k=>S k\/k=p) w w'):Sav S w w':=h.mono fun _ _ h1 h2=>h1 (Or.inl h2)
set_option maxRecDepth 100000 in
set_option maxHeartbeats 4000000 in
theorem write_any (w0 w:World) (S:Nat->Prop) (p full f gR:Nat) (H:List Hd) (V:List Vw) (L:List (Int × Int × Nat)) (ks:List Nat) (s:FS) (bs:ByteArray) (ad:Addr) (cb:Nat) (hE:FEnv w0 gR H V L ks) (h:SRest w0 S w p full f gR H V s) (hto:s.told=[]) (hbs:∀ j u,(byCells bs)[j]?=some u->w.cell? (ad.add j)=some u) (hlen:s.txt.size+bs.size<=1500000) :
  Calls Tryz.prog 40 #[.pointer (some ⟨p,0,none⟩),.slice (some ad) bs.size cb] w fun r w'=>∃ v' s2,TakeR H V L { s with txt:=s.txt++bs } s2/\w'.ownsRow w.heap.size 9 1 v' s2.told.length (strCells s2.told)/\Sav S w w' /\
   (s2.txt.size<=full->r=.returned (.tuple #[v',.int .i64 0])/\SRest w0 S w' p full f gR H V { s2 with told:=[] })/\(full<s2.txt.size->r=.returned (.tuple #[v',.int .i64 7])/\w'.heap[p]?=some (.cells (StmC full none true) 132 (0,0))):=by
 have HB:Hid (w.heap[p]?=some (.cells (StmC full (some ⟨f,0,none⟩) false) 132 (0,0))):=h.blk
 have HP:Hid (¬ S p):=h.out
 have hfa:=fault_ok w p full f h.blk
 have c1:w.cell? ⟨p,1,none⟩=some (.pointer (some ⟨f,0,none⟩)):=cell_of_block h.blk 1 _ rfl
 have htk:=ftake_any w0 w (fun k=>S k\/k=p) f gR H V L ks s bs ad cb hE h.fl hto hbs hlen
 have HE:Hid (FEnv w0 gR H V L ks):=hE
 clear h hto hbs hE
 go_enter Tryz.func40,Tryz.ntmps40
 go_wp2_with fail
 refine hfa.mono ?_
 rintro r W0 ⟨rfl,rfl⟩
 clear hfa
 go_wp2_with fail
 refine htk.mono ?_
 rintro r W1 ⟨v',s2,rfl,hT,hR,hF,hS⟩
 obtain ⟨ao,cap,rfl⟩:=row_shape hR
 obtain ⟨⟨b2,m1,m2,vT,hP2,hq2⟩,hq3⟩:=hF
 obtain ⟨aoT,capT,rfl⟩:=hP2.ht.shape
 have T2:Hid (TakeR H V L { s with txt:=s.txt++bs } s2):=hT
 have R2:Hid (W1.ownsRow W0.heap.size 9 1 (.slice ao s2.told.length cap) s2.told.length (strCells s2.told)):=hR
 have F2:Hid (FRest w0 (fun k=>S k\/k=p) W1 f gR H V s2):=⟨⟨b2,m1,m2,_,hP2,hq2⟩,hq3⟩
 have S2:Hid (Sav (fun k=>S k\/k=p) W0 W1):=hS
 have hb1:W1.heap[p]?=some (.cells (StmC full (some ⟨f,0,none⟩) false) 132 (0,0)):=(hS.block p (heap_lt HB.out) (fun h9=>h9 (Or.inr rfl))).trans HB.out
 have B1:Hid (W1.heap[p]?=some (.cells (StmC full (some ⟨f,0,none⟩) false) 132 (0,0))):=hb1
 have d0:W1.cell? ⟨p,0,none⟩=some (.int .i64 full):=cell_of_block hb1 0 _ rfl
 have d1:W1.cell? ⟨p,1,none⟩=some (.pointer (some ⟨f,0,none⟩)):=cell_of_block hb1 1 _ rfl
 have d2:W1.cell? ⟨p,2,none⟩=some (.bool false):=cell_of_block hb1 2 _ rfl
 have fr:=free_of_block hb1
 have hfit:=hP2.fits.2
 have UN:Hid (∀ W',Below W1.heap.size W1 W'->Calls Tryz.prog 73 #[.pointer (some ⟨f,0,none⟩)] W' fun r w'=>r=.returned (.int .i64 s2.txt.size)/\w'=W'):=fun W' hb=>untold_any W' f gR b2 s2.txt.size s2.kn capT aoT ((hb.block _ (heap_lt hP2.hf)).trans hP2.hf)
 clear htk hT hR hP2 hq2 hq3 hS c1 hb1
 go_upto_region 5 with fail
 go_cut [28] from 19 to 27 (fun cv wx=>cv=.bool (decide (full<s2.txt.size))/\wx=W1.drew)
 case first =>
  go_region_with (go_at_call 73;refine (UN.out _ ((Below.refl _ _).drew)).mono ?_;rintro e W2 ⟨rfl,rfl⟩)
  all_goals go_wp2_with fail
  all_goals go_meet
  all_goals exact ⟨rfl,rfl⟩
 case rest =>
  obtain ⟨rfl,rfl⟩:=hcut
  have SS:Hid (Sav S W0 W1.drew):=S2.out.or.drew
  by_cases hlt:full<s2.txt.size
  ·have hdd:decide (full<s2.txt.size)=true:=decide_eq_true hlt
   have hfu:((W1.setCell ⟨p,1,none⟩ (.pointer none)).setCell ⟨p,2,none⟩ (.bool true)).drew.heap[p]?=some (.cells (StmC full none true) 132 (0,0)):=(block_setCell ((block_setCell B1.out 1 _).trans rfl) 2 _).trans rfl
   have FU:Hid (((W1.setCell ⟨p,1,none⟩ (.pointer none)).setCell ⟨p,2,none⟩ (.bool true)).drew.heap[p]?=some (.cells (StmC full none true) 132 (0,0))):=hfu
   have SF:Hid (Sav S W0 ((W1.setCell ⟨p,1,none⟩ (.pointer none)).setCell ⟨p,2,none⟩ (.bool true)).drew):=((S2.out.or.setCell (q:=⟨p,1,none⟩) (Or.inr HP.out) _).setCell (q:=⟨p,2,none⟩) (Or.inr HP.out) _).drew
   have RF:Hid (((W1.setCell ⟨p,1,none⟩ (.pointer none)).setCell ⟨p,2,none⟩ (.bool true)).drew.ownsRow W0.heap.size 9 1 (.slice ao s2.told.length cap) s2.told.length (strCells s2.told)):=row_kp R2.out (((Kp.refl _ _).setCell B1.out (by decide) _).setCell ((block_setCell (w:=W1) B1.out 1 _).trans rfl) (by decide) _)
   have hfa:=fault_full _ p full hfu
   clear hfu
   go_wp2_with fail
   refine hfa.mono ?_
   rintro r W4 ⟨rfl,rfl⟩
   go_wp2_with fail
   go_ret2
   exact ⟨_,s2,T2.out,RF.out,SF.out,fun h9=>absurd hlt (Nat.not_lt.2 h9),fun _=>⟨rfl,FU.out⟩⟩
  ·have hdd:decide (full<s2.txt.size)=false:=decide_eq_false hlt
   have hfa:=fault_ok W1.drew p full f B1.out
   have FD:Hid (SRest w0 S W1.drew p full f gR H V { s2 with told:=[] }):=⟨B1.out,HP.out,(F2.out.apart HE.out (p:=fun _=>False) (Chg.of_below (Below.refl _ _).drew) (fun _ _ h=>h.elim) (fun _ h=>h.elim) (fun k h=>Or.inl h) (F2.out.size.2.1.grow (Nat.le_refl _))).told⟩
   go_wp2_with fail
   refine hfa.mono ?_
   rintro r W4 ⟨rfl,rfl⟩
   go_wp2_with fail
   go_ret2
   exact ⟨_,s2,T2.out,R2.out,SS.out,fun _=>⟨rfl,FD.out⟩,fun h9=>absurd h9 hlt⟩
set_option maxRecDepth 100000 in
set_option maxHeartbeats 4000000 in
theorem close_any (w0 w:World) (S:Nat->Prop) (p full f gR:Nat) (H:List Hd) (V:List Vw) (L:List (Int × Int × Nat)) (ks:List Nat) (s:FS) (hE:FEnv w0 gR H V L ks) (h:SRest w0 S w p full f gR H V s) :
  Calls Tryz.prog 41 #[.pointer (some ⟨p,0,none⟩)] w fun r w'=>∃ v',r=.returned (.tuple #[v',.int .i64 0])/\w'.ownsRow w.heap.size 9 1 v' (endS H V s).told.length (strCells (endS H V s).told)/\Sav S w w'/\w'.heap[p]?=some (.cells (StmC full none false) 132 (0,0)):=by
 have HB:Hid (w.heap[p]?=some (.cells (StmC full (some ⟨f,0,none⟩) false) 132 (0,0))):=h.blk
 have HP:Hid (¬ S p):=h.out
 have hfa:=fault_ok w p full f h.blk
 have c1:w.cell? ⟨p,1,none⟩=some (.pointer (some ⟨f,0,none⟩)):=cell_of_block h.blk 1 _ rfl
 have hen:=fend_any w0 w (fun k=>S k\/k=p) f gR H V L ks s hE h.fl
 obtain ⟨told,htd⟩:∃ told,told=(endS H V s).told:=⟨_,rfl⟩
 rw [<- htd] at hen ⊢
 clear h hE htd
 go_enter Tryz.func41,Tryz.ntmps41
 go_wp2_with fail
 refine hfa.mono ?_
 rintro r W0 ⟨rfl,rfl⟩
 clear hfa
 go_wp2_with fail
 refine hen.mono ?_
 rintro r W1 ⟨⟨v',rfl,hR⟩,hS⟩
 obtain ⟨ao,cap,rfl⟩:=row_shape hR
 have hb1:W1.heap[p]?=some (.cells (StmC full (some ⟨f,0,none⟩) false) 132 (0,0)):=(hS.block p (heap_lt HB.out) (fun h9=>h9 (Or.inr rfl))).trans HB.out
 have d1:W1.cell? ⟨p,1,none⟩=some (.pointer (some ⟨f,0,none⟩)):=cell_of_block hb1 1 _ rfl
 have fr:=free_of_block hb1
 have FB:Hid ((W1.setCell ⟨p,1,none⟩ (.pointer none)).heap[p]?=some (.cells (StmC full none false) 132 (0,0))):=(block_setCell hb1 1 _).trans rfl
 have FS:Hid (Sav S W0 (W1.setCell ⟨p,1,none⟩ (.pointer none))):=hS.or.setCell (q:=⟨p,1,none⟩) (Or.inr HP.out) _
 have FR:Hid ((W1.setCell ⟨p,1,none⟩ (.pointer none)).ownsRow W0.heap.size 9 1 (.slice ao told.length cap) told.length (strCells told)):=row_kp hR ((Kp.refl _ _).setCell hb1 (by decide) _)
 clear hen hR hS hb1 c1
 go_wp2_with fail
 go_ret2
 exact ⟨_,rfl,FR.out,FS.out,FB.out⟩
theorem tellF_len:∀ (A:List AP) (bg:Nat) (t:ByteArray) (l:List ByteArray),(tellF A bg t l).2.2.2.length<=l.length+A.length:=by
 intro A
 induction A with
 | nil=>intro bg t l;exact Nat.le_refl _
 | cons a A ih =>
  intro bg t l
  obtain ⟨sz,s⟩:=a
  cases s with
  | inl v=>show l.length<=_;omega
  | inr c =>
   cases c with
   | true =>
    have:=ih 0 (t.extract (bg+sz) t.size) (l++[t.extract 0 (bg+sz)])
    show (tellF A 0 (t.extract (bg+sz) t.size) (l++[t.extract 0 (bg+sz)])).2.2.2.length<=_
    simp at this ⊢
    omega
   | false =>
    have:=ih (bg+sz) t l
    show (tellF A (bg+sz) t l).2.2.2.length<=_
    simp at this ⊢
    omega
theorem runC_len (H:List Hd) (V:List Vw):∀ C:List (Nat × Nat),(runC H V C).1.length=C.length:=by
 apply snoc_ind
 ·rfl
 ·intro C c ih
  rw [runC_snoc]
  show ((runC H V C).1.map (mvA V c.1)++[_]).length=_
  simp [ih]
theorem Rests.few {H:List Hd} {V:List Vw} {L:List (Int × Int × Nat)} (hL:∀ o ∈ L,o.2.2<8) {T:ByteArray} {C:List (Nat × Nat)} {l:List ByteArray} {s:FS} (h:Rests H V L T C l s):l.length<=T.size:=by
 have h1:=tellF_len (runC H V C).1 0 T []
 rw [h.fl.hist.tel,h.told,List.append_nil,runC_len] at h1
 have h2:=h.fl.known.2 ⟨#[]⟩
 have h3:=(h2.ok hL).few
 have h4:=h.fl.known.1
 simp at h1 h3
 omega
theorem Rests.few_end {H:List Hd} {V:List Vw} {L:List (Int × Int × Nat)} (hL:∀ o ∈ L,o.2.2<8) {T:ByteArray} {C:List (Nat × Nat)} {l:List ByteArray} {s:FS} (h:Rests H V L T C l s):l.length+(endS H V s).told.length<=T.size:=by
 obtain ⟨C2,hC2,e⟩:=h.fl.end h.shut
 rw [h.told,List.append_nil] at e
 have h1:=tellF_len ((runC H V C2).1.map (endA V)) 0 T []
 rw [<- e,List.length_map,runC_len,List.length_append] at h1
 have h3:=(hC2.ok hL).few
 simp at h1 h3
 omega
structure KF (w wx:World) (p f gR:Nat) (H:List Hd) (V:List Vw) (L:List (Int × Int × Nat)) (T:ByteArray) (ov:Value) (told:List ByteArray):Prop where
 ex:∃ S s C,Kept S w wx/\SRest w S wx p 100000 f gR H V s/\Rests H V L T C told s/\∀ k,ov.ownBlock=some k->S k
 row:wx.ownsRow w.heap.size 9 1 ov told.length (strCells told)
 bel:Below w.heap.size w wx
structure KFN (w wx:World) (p f gR:Nat) (H:List Hd) (V:List Vw) (L:List (Int × Int × Nat)) (T:ByteArray) (ov:Value) (told news:List ByteArray):Prop where
 ex:∃ S s C,Kept S w wx/\SRest w S wx p 100000 f gR H V s/\Rests H V L T C (told++news) s/\∀ k,ov.ownBlock=some k->S k
 row:wx.ownsRow w.heap.size 9 1 ov told.length (strCells told)
 bel:Below w.heap.size w wx
 few:told.length+news.length<=T.size
theorem KF.write {w wx wy:World} {p f gR:Nat} {H:List Hd} {V:List Vw} {L:List (Int × Int × Nat)} {ks:List Nat} {T x:ByteArray} {ov:Value} {told:List ByteArray} (hE:FEnv w gR H V L ks) (h:KF w wx p f gR H V L T ov told) (hT:T.size+x.size<=100000) (hb:Below wx.heap.size wx wy) {ad:Addr} {cb:Nat} (hx:∀ j u,(byCells x)[j]?=some u->wy.cell? (ad.add j)=some u) :
  Calls Tryz.prog 40 #[.pointer (some ⟨p,0,none⟩),.slice (some ad) x.size cb] wy fun r wz=>∃ ao cap news,r=.returned (.tuple #[.slice ao news.length cap,.int .i64 0])/\wz.ownsRow wy.heap.size 9 1 (.slice ao news.length cap) news.length (strCells news)/\KFN w wz p f gR H V L (T++x) ov told news:=by
 obtain ⟨S,s,C,hK,hS,hR,hO⟩:=h.ex
 have hz:=h.bel.size
 have hzb:=hb.size
 have hrow0:=h.row
 have hS':SRest w S wy p 100000 f gR H V s:=hS.apart hE (q:=fun _=>False) (Chg.of_below hb) (fun _ _ h=>h.elim) (fun _ h=>h.elim) (fun _ h=>Or.inl h) (hK.grow hzb)
 have hsz:=hR.size.2
 refine (write_any w wy S p 100000 f gR H V L ks s x ad cb hE hS' hR.told hx (by omega)).mono ?_
 rintro r wz ⟨v',s2,hT2,hrow,hsav,h1,_⟩
 obtain ⟨C2,hR2⟩:=hR.take hE.kinds x hT2
 have hsz2:=hR2.size.2
 have hle:s2.txt.size<=100000:=by
  have e:({ s2 with told:=[] }:FS).txt=s2.txt:=rfl
  rw [e,ByteArray.size_append] at hsz2
  omega
 obtain ⟨e3,hS2⟩:=h1 hle
 obtain ⟨ao,cap,rfl⟩:=row_shape hrow
 have hfew:=hR2.few hE.kinds
 rw [List.length_append] at hfew
 refine ⟨ao,cap,s2.told,e3,hrow,⟨S,_,C2,hK.grow (Nat.le_trans hzb hsav.size),hS2,hR2,hO⟩,?_,?_,hfew⟩
 ·refine row_same (row_same hrow0 fun k e=>hb.block k (hrow0.lt k e).2) fun k e=>hsav.block k ?_ fun h9=>h9 (hO k e)
  have:=(hrow0.lt k e).2
  omega
 ·exact (h.bel.trans (hb.mono hz)).trans (hsav.low (by omega) fun k hk=>Nat.le_of_not_lt fun h9=>hk (hK.lo k h9))
theorem KFN.none {w wx:World} {p f gR:Nat} {H:List Hd} {V:List Vw} {L:List (Int × Int × Nat)} {T:ByteArray} {ov:Value} {told:List ByteArray} (h:KFN w wx p f gR H V L T ov told []):KF w wx p f gR H V L T ov told:=by
 obtain ⟨S,s,C,h0,h1,h2,h3⟩:=h.ex
 rw [List.append_nil] at h2
 exact ⟨⟨S,s,C,h0,h1,h2,h3⟩,h.row,h.bel⟩
theorem KFN.app {w wx wy:World} {p f gR:Nat} {H:List Hd} {V:List Vw} {L:List (Int × Int × Nat)} {ks:List Nat} {T:ByteArray} {ov ov':Value} {told news:List ByteArray} (hE:FEnv w gR H V L ks) (h:KFN w wx p f gR H V L T ov told news) (hg:wx.grownBy wy ov.ownBlock) (hr:wy.ownsRow w.heap.size 9 1 ov' (told++news).length (strCells (told++news))) (hat:ov'.ownBlock=ov.ownBlock\/ov'.ownBlock=some wx.heap.size):KF w wy p f gR H V L T ov' (told++news):=by
 obtain ⟨S,s,C,hK,hS,hR,hO⟩:=h.ex
 have hz:=hg.size
 have hc:Chg (fun k=>ov.ownBlock=some k) wx wy:=(Chg.refl _ _).grown hg fun k e=>Or.inr e
 have hq0:∀ k,ov.ownBlock=some k->w.heap.size<=k:=fun k e=>(h.row.lt k e).1
 have hK':Kept (fun k=>S k\/(wx.heap.size<=k/\k<wy.heap.size)) w wy:=⟨fun k hk=>Or.inl (hK.lo k hk),fun k hk=>by
  rcases hk with hk | hk
  ·exact Nat.lt_of_lt_of_le (hK.hi k hk) hz
  ·exact hk.2⟩
 refine ⟨⟨_,s,C,hK',hS.apart hE hc (fun k _ e=>hO k e) hq0 (fun k h9=>?_) hK',hR,fun k e=>?_⟩,hr,h.bel.trans (hc.low h.bel.size hq0)⟩
 ·rcases h9 with h9 | h9
  ·exact Or.inl h9
  ·exact Or.inr h9.1
 ·rcases hat with h9 | h9
  ·exact Or.inl (hO k (h9.symm.trans e))
  ·refine Or.inr ⟨?_,(hr.lt k e).2⟩
   rw [h9] at e
   injection e with e
   omega
theorem KF.start {w wx:World} {p f gR:Nat} {H:List Hd} {V:List Vw} (L:List (Int × Int × Nat)) (h:SRest w (fun k=>k<w.heap.size) wx p 100000 f gR H V FS.new) (hb:Below w.heap.size w wx):KF w wx p f gR H V L ⟨#[]⟩ (.slice none 0 0) [] :=
 ⟨⟨_,_,[],⟨fun _ hk=>hk,fun k hk=>Nat.lt_of_lt_of_le hk hb.size⟩,h,Rests.new H V L,fun k e=>by cases e⟩,World.ownsRow_nil _ _ _ _,hb⟩
theorem KF.close {w wx:World} {p f gR:Nat} {H:List Hd} {V:List Vw} {L:List (Int × Int × Nat)} {ks:List Nat} {T:ByteArray} {ov:Value} {told:List ByteArray} (hE:FEnv w gR H V L ks) (h:KF w wx p f gR H V L T ov told) :
  Calls Tryz.prog 41 #[.pointer (some ⟨p,0,none⟩)] wx fun r wz=>∃ ao cap news C s,r=.returned (.tuple #[.slice ao news.length cap,.int .i64 0])/\wz.ownsRow wx.heap.size 9 1 (.slice ao news.length cap) news.length (strCells news)/\wz.ownsRow w.heap.size 9 1 ov told.length (strCells told)/\Below w.heap.size w wz/\Rests H V L T C told s/\news=(endS H V s).told/\told.length+news.length<=T.size:=by
 obtain ⟨S,s,C,hK,hS,hR,hO⟩:=h.ex
 have hrow0:=h.row
 refine (close_any w wx S p 100000 f gR H V L ks s hE hS).mono ?_
 rintro r wz ⟨v',rfl,hrow,hsav,_⟩
 obtain ⟨ao,cap,rfl⟩:=row_shape hrow
 exact ⟨ao,cap,_,C,s,rfl,hrow,row_same hrow0 fun k e=>hsav.block k (hrow0.lt k e).2 fun h9=>h9 (hO k e),h.bel.trans (hsav.low h.bel.size fun k hk=>Nat.le_of_not_lt fun h9=>hk (hK.lo k h9)),hR,rfl,hR.few_end hE.kinds⟩
def byte (s:ByteArray) (i:Nat):Nat:=(s.get! i).toNat
def segA (s:ByteArray) (c:Nat->Bool):Nat->Nat × List ByteArray
 | 0=>(0,[])
 | i+1=>if c i then (i+1,(segA s c i).2++[s.extract (segA s c i).1 (i+1)]) else segA s c i
def lineAt (s:ByteArray) (i:Nat):Bool:=byte s i == 10 || byte s i == 13 && (i+1 == s.size || byte s (i+1) != 10)
def linesP (s:ByteArray):List ByteArray:=if (segA s (lineAt s) s.size).1<s.size then (segA s (lineAt s) s.size).2++[s.extract (segA s (lineAt s) s.size).1 s.size] else (segA s (lineAt s) s.size).2
def isW (c:Nat):Bool:=decide (97<=c) && decide (c<=122) || decide (48<=c) && decide (c<=57)
def partAt (s:ByteArray) (i:Nat):Bool:=!(isW (byte s (i+1)) && isW (byte s i))
def runsTo (s:ByteArray):Nat->List ByteArray
 | 0=>[]
 | i+1=>(segA s (partAt s) i).2++[s.extract (segA s (partAt s) i).1 (i+1)]
def geL (g:List (List (Nat × Nat))) (l:List Nat):List Nat:=l.flatMap fun x=>(grow g x).filterMap fun e=>if e.1=0 then some e.2 else none
def normL (n:Nat) (l:List Nat):List Nat:=(List.range n).filter fun x=>l.contains x
def cloL (g:List (List (Nat × Nat))):Nat->List Nat->List Nat
 | 0,l=>l
 | f+1,l=>cloL g f (normL g.length (l++geL g l))
def seedsK (g:List (List (Nat × Nat))) (l:List Nat) (k:Nat):List Nat:=l.flatMap fun x=>(grow g x).filterMap fun e=>if e.1.testBit k then some e.2 else none
def nxL (g:List (List (Nat × Nat))) (first:Nat) (l:List Nat) (k:Nat):List Nat:=cloL g g.length (first :: seedsK g l k)
def fullB (g:List (List (Nat × Nat))) (from_ l:List Nat):Bool:=(geL g l).all (l.contains ·) && from_.all (l.contains ·)
def famL (g:List (List (Nat × Nat))) (first:Nat) (Ks:List Nat):Nat->List (List Nat)->List (List Nat)
 | 0,F=>F
 | n+1,F=>famL g first Ks n (F++(F.flatMap fun l=>Ks.map (nxL g first l)).filter fun l=>!F.contains l)
def famOk (g:List (List (Nat × Nat))) (first goal:Nat) (Ks:List Nat) (F:List (List Nat)) (p:Nat->Bool):Bool :=
 fullB g [first] (cloL g g.length [first]) && F.contains (cloL g g.length [first]) && F.all fun l=>Ks.all fun k=>fullB g (first :: seedsK g l k) (nxL g first l k) && F.contains (nxL g first l k) && ((nxL g first l k).contains goal == p k)
def plainB (Ks:List Nat) (L:RuleM) (pl pr:Nat->Bool):Bool :=
 famOk (graphOf true L.SL) L.fL 0 Ks (famL (graphOf true L.SL) L.fL Ks 6 [cloL (graphOf true L.SL) (graphOf true L.SL).length [L.fL]]) pl && famOk (graphOf false L.SR) 0 L.fR Ks (famL (graphOf false L.SR) 0 Ks 6 [cloL (graphOf false L.SR) (graphOf false L.SR).length [0]]) pr
def Ascii (s:ByteArray):Prop:=∀ i,i<s.size->byte s i<128
theorem get_extract (s:ByteArray) (p:Nat) (h:p<s.size):(s.extract p s.size).get! 0=s.get! p:=by
 rw [Utf8W.get!_of_lt s p h,Utf8W.get!_of_lt (s.extract p s.size) 0 (by rw [ByteArray.size_extract];omega)]
 simp [ByteArray.getElem_extract]
theorem decode_ascii {s:ByteArray} (h1:1<=s.size) (h:byte s 0<128):decodeGo s=(byte s 0,1):=by
 unfold decodeGo
 rw [if_neg (by omega),decode_at]
 have h':(s.get! 0).toNat<128:=h
 unfold decodeN
 rw [if_pos h']
 rfl
def kindB (l:List (Int × Int × Nat)) (c:Nat):Nat:=match l.find? fun o=>decide (o.1<=(c:Int)) && decide ((c:Int)<=o.2.1) with
 | some o=>o.2.2
 | none=>6
def kindsB (l:List (Int × Int × Nat)) (kf:Nat->Nat):Bool:=(List.range 128).all fun c=>(l.all fun o=>!(decide (o.1<=(c:Int)) && decide ((c:Int)<=o.2.1)) || o.2.2 == kf c) && (l.any (fun o=>decide (o.1<=(c:Int)) && decide ((c:Int)<=o.2.1)) || kf c == 6)
def cutB2 (f:Nat->Nat->Bool) (s:ByteArray) (i:Nat):Bool:=if i+1<s.size then f (byte s i) (byte s (i+1)) else true
end Go.Proofs.YtodagkkjfipbgaaGreatDoor
