import Derived.IntWalk
import Derived.Test.YtodagkkjfipbgaaGreatDoorT17toT18
namespace Go.Proofs.YtodagkkjfipbgaaGreatDoor
open Go.RowKit Go.Maps Go.Lib
def FRest (w0:World) (S:Nat->Prop) (w:World) (f gR:Nat) (H:List Hd) (V:List Vw) (s:FS):Prop:=(∃ b m1 m2 vT,FP w0 S w f gR b m1 m2 vT H V s.txt s.kn s.A s.hd s.bg/\w.ownsRow 0 5 1 vT s.txt.size (byCells s.txt)/\∀ k,vT.ownBlock=some k->¬ S k)/\sumA s.A+s.bg=s.kn/\PosA s.A
theorem rest_size (s:FS) (h:s.kn<=s.txt.size):s.rest.size=s.txt.size - s.kn:=by unfold FS.rest;rw [ByteArray.size_extract];omega
theorem fullS_pos {s:ByteArray} (h:fullS s=true):1<=s.size:=by
 rcases Nat.lt_or_ge s.size 1 with h1 | h1
 ·unfold fullS at h;rw [if_pos (by omega)] at h;cases h
 ·exact h1
theorem next_facts {w0:World} {gR:Nat} {H:List Hd} {V:List Vw} {L:List (Int × Int × Nat)} {ks:List Nat} (hE:FEnv w0 gR H V L ks) {s:ByteArray} {k n:Nat} (h:NextIs L s k n) (hn:0<n):fullS s=true/\CharIs L (s.extract 0 (min s.size 4)) k n/\k ∈ ks/\k<8/\n<=s.size:=by
 rcases h with ⟨_,_,rfl⟩ | ⟨h1,h2⟩
 ·omega
 ·have h3:=fullS_pos h1
  have hz:(s.extract 0 (min s.size 4)).size=min s.size 4:=by rw [ByteArray.size_extract];omega
  have hk:=hE.pos _ k n (by omega) h2
  have hb:=h2.bounds (by omega) hE.kinds
  exact ⟨h1,h2,hk,hE.lt8 k hk,by omega⟩
theorem next_stop {L:List (Int × Int × Nat)} {s:ByteArray} {k:Nat} (hL:∀ o ∈ L,o.2.2<8) (h:NextIs L s k 0):fullS s=false:=by
 rcases h with ⟨h1,_⟩ | ⟨h1,h2⟩
 ·exact h1
 ·have h3:=fullS_pos h1
  have hz:(s.extract 0 (min s.size 4)).size=min s.size 4:=by rw [ByteArray.size_extract];omega
  have hb:=h2.bounds (by omega) hL
  omega
set_option maxRecDepth 100000 in
set_option maxHeartbeats 8000000 in
theorem ftake_any (w0 w:World) (S:Nat->Prop) (f gR:Nat) (H:List Hd) (V:List Vw) (L:List (Int × Int × Nat)) (ks:List Nat) (s:FS) (bs:ByteArray) (ad:Addr) (cb:Nat) (hE:FEnv w0 gR H V L ks) (hF:FRest w0 S w f gR H V s) (hto:s.told=[]) (hbs:∀ j u,(byCells bs)[j]?=some u->w.cell? (ad.add j)=some u) (hlen:s.txt.size+bs.size<=1500000) :
  Calls Tryz.prog 72 #[.pointer (some ⟨f,0,none⟩),.slice (some ad) bs.size cb] w fun r w'=>∃ v' s2,r=.returned v'/\TakeR H V L { s with txt:=s.txt++bs } s2/\w'.ownsRow w.heap.size 9 1 v' s2.told.length (strCells s2.told)/\FRest w0 S w' f gR H V s2/\Sav S w w':=by
 obtain ⟨⟨b,m1,m2,vT,hP,hrow,hown0⟩,hsum,hpos⟩:=hF
 obtain ⟨i,hi,hz0,hz1,hz2⟩:=info_parts Tryz.infoU8
 obtain ⟨aoT,capT,rfl⟩:=row_shape hrow
 have HE:Hid (FEnv w0 gR H V L ks):=hE
 have HP:Hid (FP w0 S w f gR b m1 m2 (.slice aoT s.txt.size capT) H V s.txt s.kn s.A s.hd s.bg):=hP
 have HR:Hid (w.ownsRow 0 5 1 (.slice aoT s.txt.size capT) s.txt.size (byCells s.txt)):=hrow
 have HS:Hid (sumA s.A+s.bg=s.kn/\PosA s.A):=⟨hsum,hpos⟩
 have HOW:Hid (∀ k,(Value.slice aoT s.txt.size capT).ownBlock=some k->¬ S k):=hown0
 have HTO:Hid (s.told=[]):=hto
 have c2:w.cell? ⟨f,2,none⟩=some (.slice aoT s.txt.size capT):=cell_of_block hP.hf 2 _ rfl
 have NW:Hid (∀ j u,(byCells bs)[j]?=some u->w.cell? (ad.add j)=some u):=hbs
 have HL:Hid ((byCells bs).length=bs.size * 1):=by show _=_;rw [byCells_len,Nat.mul_one]
 have hm1:s.txt.size+bs.size<=maxLen:=by unfold maxLen;omega
 have hm2:(s.txt.size+bs.size) * 1<=140737488355328:=by omega
 have hbw:w0.heap.size<=w.heap.size:=hP.bel.size
 have HFL:Hid (¬ S f/\Kept S w0 w):=⟨hP.lo.1,hP.kept⟩
 clear hE hP hrow hown0 hsum hpos hto hbs
 go_enter Tryz.func72,Tryz.ntmps72
 go_upto_region 2 with (at_builtin;go_loud (refine wpList_append_own_at _ rfl (.tmp 12) (.tmp 13) 63 rfl 0 5 i (.int .u8 0) 1 1 Tryz.underlying63 hi hz0 hz1 hz2 rfl (by decide) (.slice aoT s.txt.size capT) s.txt.size (byCells s.txt) rfl HR.out ad bs.size cb (byCells bs) rfl HL.out NW.out (one_by bs) hm1 hm2 (Nat.zero_le _) ?_);intro v' W1 hown hgr hnl hat;obtain ⟨ao1,cap1,rfl⟩:=row_shape hown;have O1:Hid (W1.ownsRow 0 5 1 (.slice ao1 (s.txt.size+bs.size) cap1) (s.txt.size+bs.size) (byCells s.txt++byCells bs)):=hown;have G1:Hid (w.grownBy W1 (Value.slice aoT s.txt.size capT).ownBlock):=hgr;have OW1:Hid (∀ k,(Value.slice ao1 (s.txt.size+bs.size) cap1).ownBlock=some k->¬ S k):=(fun k e=>by rcases hat with h9 | h9;{ exact HOW.out k (h9.symm.trans e) };{ rw [h9] at e;injection e with e;rw [<- e];exact HFL.out.2.new (Nat.le_refl _) });clear hown hgr hnl hat;have hf1:=kept_grown HP.out.hf (Kp.refl _ _) HR.out G1.out (by decide);have d2:W1.cell? ⟨f,2,none⟩=some (.slice aoT s.txt.size capT):=cell_of_block hf1 2 _ rfl;have fr1:=free_of_block hf1)
 obtain ⟨s0,hs0⟩:∃ s0:FS,s0={ s with txt:=s.txt++bs }:=⟨_,rfl⟩
 have Hs0:Hid (s0={ s with txt:=s.txt++bs }):=hs0
 have z0:s0.txt.size=s.txt.size+bs.size:=by rw [hs0];exact ByteArray.size_append
 have f0:s0.kn=s.kn/\s0.A=s.A/\s0.hd=s.hd/\s0.bg=s.bg/\s0.told=[]:=by rw [hs0];exact ⟨rfl,rfl,rfl,rfl,HTO.out⟩
 have e0:byCells s0.txt=byCells s.txt++byCells bs:=by rw [hs0];exact byCells_app _ _
 have K1:∀ (k:Nat) (o:Obj),w.heap[k]?=some o->(∀ cs m,o ≠ .cells cs 5 m)->W1.heap[k]?=some o:=fun k o ho hno=>by
  rw [G1.out.block k (heap_lt ho) (fun e=>?_)]
  ·exact ho
  ·obtain ⟨_,r2⟩:=HR.out
   rcases r2 with ⟨r2,_⟩ | ⟨g9,c9,cur9,hv9,_,hh9,_⟩
   ·rw [r2] at e;cases e
   ·rw [hv9] at e
    have e9:g9=k:=Option.some.inj e.symm
    rw [e9,ho] at hh9
    exact hno _ _ (Option.some.inj hh9)
 obtain ⟨W2,hW2⟩:∃ W2,W2=W1.setCell ⟨f,2,none⟩ (.slice ao1 (s.txt.size+bs.size) cap1):=⟨_,rfl⟩
 have HW2:Hid (W2=W1.setCell ⟨f,2,none⟩ (.slice ao1 (s.txt.size+bs.size) cap1)):=hW2
 have hf2:W2.heap[f]?=some (.cells (FloC gR b (.slice ao1 (s.txt.size+bs.size) cap1) s.kn) 215 (0,0)):=by rw [hW2];exact (block_setCell hf1 2 _).trans rfl
 have k2:∀ (k:Nat) (o:Obj),w.heap[k]?=some o->(∀ cs m,o ≠ .cells cs 5 m)->k ≠ f->W2.heap[k]?=some o:=fun k o ho hno hk=>by rw [hW2,Below.heap_setCell _ _ _ _ hk];exact K1 k o ho hno
 have R2:Hid (W2.ownsRow 0 5 1 (.slice ao1 s0.txt.size cap1) s0.txt.size (byCells s0.txt)):=by
  rw [z0,e0,hW2]
  exact row_kp O1.out ((Kp.refl _ _).setCell hf1 (by decide) _)
 have g1:Sav S w W1:=(Chg.refl _ _).grown G1.out (fun k e=>Or.inr (HOW.out k e))
 have BW:Hid (Sav S w W2):=by rw [hW2];exact g1.setCell (q:=⟨f,2,none⟩) (Or.inr HFL.out.1) _
 have OW2:Hid (∀ k,(Value.slice ao1 s0.txt.size cap1).ownBlock=some k->¬ S k):=by rw [z0];exact OW1.out
 have P2:Hid (FP w0 S W2 f gR b m1 m2 (.slice ao1 s0.txt.size cap1) H V s0.txt s0.kn s0.A s0.hd s0.bg):=by
  obtain ⟨a1,a2,a3,a4,_⟩:=f0
  rw [a1,a2,a3,a4]
  refine HP.out.turn (by rw [z0];exact hf2) (TxtIn.of_row R2.out OW2.out) (fun k cs t ht hh=>k2 k _ hh (fun cs' m' e=>by injection e with _ e2 _;subst e2;rcases ht with h | h | h | h | h <;> cases h) (fun e=>by rw [e,HP.out.hf] at hh;injection hh with hh;injection hh with _ h9;subst h9;rcases ht with h | h | h | h | h <;> cases h)) (fun k es c hh=>k2 k _ hh (fun cs' m' e=>by cases e) (fun e=>by rw [e,HP.out.hf] at hh;cases hh)) BW.out ⟨by rw [z0];have:=HP.out.fits.1;omega,by rw [z0];exact hlen⟩
 have S0:Hid (sumA s0.A+s0.bg=s0.kn/\PosA s0.A):=by rw [f0.1,f0.2.1,f0.2.2.2.1];exact HS.out
 have hlen0:s0.txt.size<=1500000:=by rw [z0];exact hlen
 have hn0:=fnext_any w0 W2 S f gR b s0.kn (.slice ao1 s0.txt.size cap1) s0.txt H V L ks HE.out P2.out.bel P2.out.hf P2.out.ht P2.out.fits.1 hlen0
 have hz2:w.heap.size<=W2.heap.size:=by rw [hW2];simp;exact G1.out.size
 have TO0:Hid (s0.told=[]):=f0.2.2.2.2
 clear hs0 K1 hW2 hf2 k2 g1 d2 fr1 hf1 f0 e0 O1 G1
 rw [show s.txt.size+bs.size=s0.txt.size from z0.symm] at HW2 ⊢
 go_upto_region 3 with fail
 rw [<- HW2.out]
 go_wp2_with fail
 refine hn0.mono ?_
 rintro r W3 ⟨⟨k3,n3,rfl,hN3⟩,b3⟩
 have P3:Hid (FOk w0 S W3 f gR H V s0.txt s0.kn s0.A s0.hd s0.bg):=⟨b,m1,m2,_,P2.out.below b3⟩
 have N3:Hid (NextIs L s0.rest k3 n3):=hN3
 have B3:Hid (Sav S w W3):=BW.out.trans (Chg.of_below b3)
 have U3:Hid (KeepU W2 W3):=KeepU.below b3
 have V3:Hid (W3.cell? ⟨f,2,none⟩=some (.slice ao1 s0.txt.size cap1)):=(b3.cell (p:=⟨f,2,none⟩) (heap_lt P2.out.hf)).trans (cell_of_block P2.out.hf 2 _ rfl)
 have hz3:w.heap.size<=W3.heap.size:=Nat.le_trans hz2 b3.size
 clear hn0 hN3 b3
 go_wp2_with fail
 go_loopg [5,6,7] (s0.txt.size - s0.kn) (fun gh tv kv nv wx=>∃ (s1:FS) (k n:Nat) (ao:Option Addr) (cap:Nat),gh=s1.txt.size - s1.kn/\tv=.slice ao s1.told.length cap/\kv=.int .u8 k/\nv=.int .i64 n/\Hid (FOk w0 S wx f gR H V s1.txt s1.kn s1.A s1.hd s1.bg)/\Hid (sumA s1.A+s1.bg=s1.kn/\PosA s1.A)/\Hid (NextIs L s1.rest k n)/\Hid (∀ s2,TakeR H V L s1 s2->TakeR H V L s0 s2)/\Hid (wx.ownsRow w.heap.size 9 1 (.slice ao s1.told.length cap) s1.told.length (strCells s1.told))/\Hid (Sav S w wx)/\Hid (KeepU W2 wx)/\Hid (s1.told.length=0->wx.cell? ⟨f,2,none⟩=some (.slice ao1 s0.txt.size cap1)/\s1.txt=s0.txt)/\Hid (s1.told.length+s1.txt.size<=s0.txt.size)/\w.heap.size<=wx.heap.size)
 case atStart =>
  have e9:s0.told.length=0:=by rw [TO0.out];rfl
  refine ⟨s0,k3,n3,none,0,rfl,by rw [e9],rfl,rfl,P3,S0,N3,fun _ h=>h,?_,B3,U3,fun _=>⟨V3.out,rfl⟩,?_,hz3⟩
  ·rw [TO0.out];exact World.ownsRow_nil _ _ _ _
  ·show _<=_;rw [e9];omega
 case round =>
  obtain ⟨s1,k,n,ao,cap,rfl,rfl,rfl,rfl,hP1,hS1,hN1,hT1,hR1,hB1,hU1,hV1,hL1,hz1⟩:=hrel
  obtain ⟨w1,hw1⟩:∃ w1,w1=wr:=⟨wr,rfl⟩
  subst hw1
  clear P3 N3 B3 U3 V3 S0
  by_cases h0:n=0
  ·subst h0
   have hT2:Hid (TakeR H V L s0 s1):=hT1.out s1 (.stop (next_stop HE.out.kinds hN1.out))
   by_cases ht0:s1.told.length=0
   ·obtain ⟨hv1,ht1⟩:=hV1.out ht0
    have RR:Hid (FRest w0 S w1 f gR H V s1):=by
     obtain ⟨b5,m5,m6,vT5,hP5⟩:=hP1.out
     have hc5:w1.cell? ⟨f,2,none⟩=some vT5:=cell_of_block hP5.hf 2 _ rfl
     rw [hv1] at hc5
     cases hc5
     refine ⟨⟨b5,m5,m6,_,hP5,?_,OW2.out⟩,hS1.out⟩
     rw [ht1]
     exact hU1.out.row R2.out
    have hdl:decide ((0:Int)<(s1.told.length:Int))=false:=decide_eq_false (by omega)
    clear hv1 ht1
    go_wp2_with fail
    go_ret
    exact ⟨_,s1,rfl,by rw [<- Hs0.out];exact hT2.out,hR1.out,RR.out,hB1.out⟩
   ·have hdl:decide ((0:Int)<(s1.told.length:Int))=true:=decide_eq_true (by omega)
    obtain ⟨b5,m5,m6,vT5,hP5⟩:=hP1.out
    have hc5:w1.cell? ⟨f,2,none⟩=some vT5:=cell_of_block hP5.hf 2 _ rfl
    have hcl:=bclone_any w1 S w1.heap.size vT5 s1.txt hP5.ht hP5.fits.2 (Nat.le_refl _)
    obtain ⟨aoX,capX,rfl⟩:=hP5.ht.shape
    have P5:Hid (FP w0 S w1 f gR b5 m5 m6 (.slice aoX s1.txt.size capX) H V s1.txt s1.kn s1.A s1.hd s1.bg):=hP5
    clear hP5
    go_wp2_with fail
    refine hcl.mono ?_
    rintro r W6 ⟨⟨v6,rfl,hO6⟩,b6⟩
    obtain ⟨ao6,cap6,rfl⟩:=row_shape hO6
    have P6:=P5.out.below b6
    have hf6:=P6.hf
    have d2:W6.cell? ⟨f,2,none⟩=some (.slice aoX s1.txt.size capX):=cell_of_block hf6 2 _ rfl
    have fr6:=free_of_block hf6
    have RR:Hid (FRest w0 S (W6.setCell ⟨f,2,none⟩ (.slice ao6 s1.txt.size cap6)) f gR H V s1):=by
     have row6:(W6.setCell ⟨f,2,none⟩ (.slice ao6 s1.txt.size cap6)).ownsRow 0 5 1 (.slice ao6 s1.txt.size cap6) s1.txt.size (byCells s1.txt):=row_kp (row_base hO6 (Nat.zero_le _)) ((Kp.refl _ _).setCell hf6 (by decide) _)
     have own6:∀ k,(Value.slice ao6 s1.txt.size cap6).ownBlock=some k->¬ S k:=fun k e=>P5.out.kept.new (hO6.lt k e).1
     refine ⟨⟨b5,m5,m6,_,P6.turn ((block_setCell hf6 2 _).trans rfl) (TxtIn.of_row row6 own6) (fun k cs t ht hh=>?_) (fun k es c hh=>?_) ((Chg.refl _ _).setCell (q:=⟨f,2,none⟩) (Or.inr HFL.out.1) _) P6.fits,row6,own6⟩,hS1.out⟩
     ·rw [Below.heap_setCell _ _ _ _ (show k ≠ f from fun e=>by rw [e,hf6] at hh;injection hh with hh;injection hh with _ h9;subst h9;rcases ht with h | h | h | h | h <;> cases h)]
      exact hh
     ·rw [Below.heap_setCell _ _ _ _ (show k ≠ f from fun e=>by rw [e,hf6] at hh;cases hh)]
      exact hh
    have R6:Hid ((W6.setCell ⟨f,2,none⟩ (.slice ao6 s1.txt.size cap6)).ownsRow w.heap.size 9 1 (.slice ao s1.told.length cap) s1.told.length (strCells s1.told)):=row_kp (row_kp hR1.out (Kp.below b6)) ((Kp.refl _ _).setCell hf6 (by decide) _)
    have B6:Hid (Sav S w (W6.setCell ⟨f,2,none⟩ (.slice ao6 s1.txt.size cap6))):=(hB1.out.trans (Chg.of_below b6)).setCell (q:=⟨f,2,none⟩) (Or.inr HFL.out.1) _
    clear hcl hO6 b6 P6 hf6
    go_wp2_with fail
    go_ret
    exact ⟨_,s1,rfl,by rw [<- Hs0.out];exact hT2.out,R6.out,RR.out,B6.out⟩
  ·obtain ⟨q1,q2,q3,q4,q5⟩:=next_facts HE.out hN1.out (by omega)
   have hfit1:s1.kn<=s1.txt.size/\s1.txt.size<=1500000:=by obtain ⟨b5,m5,m6,vT5,hP5⟩:=hP1.out;exact hP5.fits
   rw [rest_size s1 hfit1.1] at q5
   have hkn:=know_any w0 w1 S f gR s1.kn k n s1.hd s1.bg s1.txt H V L ks s1.A HE.out hP1.out q3 q4 (by omega)
   have hd0:decide ((0:Int)<(n:Int))=true:=by simp;omega
   have T5:Hid (∀ s2,TakeR H V L (tellS (knowS H V k n s1)) s2->TakeR H V L s0 s2):=fun s2 h=>hT1.out s2 (.step q1 q2 h)
   have hll1:s1.told.length<=1500000:=by have:=hL1.out;omega
   clear hP1 q1 q2
   go_wp2_with fail
   refine hkn.mono ?_
   rintro r W5 ⟨rfl,hP5,hB5,hK5,hC5⟩
   obtain ⟨s5,hs5⟩:∃ s5:FS,s5=knowS H V k n s1:=⟨_,rfl⟩
   have e5:s5.txt=s1.txt/\s5.told=s1.told/\s5.kn=s1.kn+n/\s5.bg=s1.bg:=by rw [hs5];exact ⟨rfl,rfl,rfl,rfl⟩
   have S5:sumA s5.A+s5.bg=s5.kn/\PosA s5.A:=by
    rw [hs5]
    refine ⟨?_,?_⟩
    ·show sumA (s1.A.map (mvA V k)++[stA V n _])+s1.bg=s1.kn+n
     rw [sumA_snoc,sumA_move (mvA V k) (mvG_size _ _ _)]
     show sumA s1.A+n+s1.bg=_
     have:=hS1.out.1
     omega
    ·intro a ha
     rcases List.mem_append.1 ha with h | h
     ·obtain ⟨c,hc,rfl⟩:=List.mem_map.1 h
      have:=hS1.out.2 c hc
      rw [show (mvA V k c).1=c.1 from mvG_size _ _ _ c]
      exact this
     ·simp at h
      subst h
      show 1<=n
      omega
   have P5:FOk w0 S W5 f gR H V s5.txt s5.kn s5.A s5.hd s5.bg:=by rw [hs5];exact hP5
   have R5:W5.ownsRow w.heap.size 9 1 (.slice ao s5.told.length cap) s5.told.length (strCells s5.told):=by rw [e5.2.1];exact hK5.row (by decide) (by decide) (by decide) hR1.out
   have hsz5:s5.A.length<=1500000:=by have h1:=S5.2.len;have:=S5.1;rw [e5.2.2.1] at this;omega
   have hgr5:w.heap.size<=W5.heap.size:=Nat.le_trans hz1 (hB5.size)
   have htl:=tell_any w0 W5 S f gR s5.kn s5.hd s5.bg w.heap.size s5.txt H V s5.A s5.told _ P5 S5.1 R5 HFL.out.2.hi hgr5 (by rw [e5.2.1];exact hll1) hsz5
   rw [e5.2.1] at htl
   rw [<- hs5] at T5
   have B5:Hid (Sav S w W5):=hB1.out.trans hB5
   have U5:Hid (KeepU W2 W5):=hU1.out.trans hK5.u
   have C5:Hid (W5.cell? ⟨f,2,none⟩=w1.cell? ⟨f,2,none⟩):=hC5
   have SS5:Hid (sumA s5.A+s5.bg=s5.kn/\PosA s5.A):=S5
   have E5:Hid (s5.txt=s1.txt/\s5.told=s1.told/\s5.kn=s1.kn+n/\s5.bg=s1.bg):=e5
   clear hkn hP5 hB5 hK5 hC5 P5 R5 hs5 S5 e5 hB1 hU1 hR1 hS1
   go_wp2_with fail
   refine htl.mono ?_
   rw [<- E5.out.2.1]
   rintro r W6 ⟨⟨v6,rfl,⟨kn6,hP6,hk6⟩,hR6,hl6⟩,hB6,hU6,hV6⟩
   have hdf:=tellP_diff (s5.A.length+2) s5.A s5.bg s5.txt s5.told (by rw [SS5.out.1,E5.out.2.2.1,E5.out.1];omega)
   have hrm:=tellP_room (s5.A.length+2) s5.A s5.bg s5.txt s5.told (by rw [SS5.out.1,E5.out.2.2.1,E5.out.1];omega)
   have hps:=tellP_pos (s5.A.length+2) s5.A s5.bg s5.txt s5.told SS5.out.2
   obtain ⟨s6,hs6⟩:∃ s6:FS,s6=tellS s5:=⟨_,rfl⟩
   have g1:(tellP (s5.A.length+2) s5.A s5.bg s5.txt s5.told).1=s6.A:=by rw [hs6];rfl
   have g2:(tellP (s5.A.length+2) s5.A s5.bg s5.txt s5.told).2.1=s6.bg:=by rw [hs6];rfl
   have g3:(tellP (s5.A.length+2) s5.A s5.bg s5.txt s5.told).2.2.1=s6.txt:=by rw [hs6];rfl
   have g4:(tellP (s5.A.length+2) s5.A s5.bg s5.txt s5.told).2.2.2=s6.told:=by rw [hs6];rfl
   have g5:s6.kn=sumA s6.A+s6.bg:=by rw [hs6];rfl
   have g6:s6.hd=s5.hd:=by rw [hs6];rfl
   rw [g1,g2,g3] at hP6
   rw [g1,g2] at hk6
   rw [<- hk6,<- g5,<- g6] at hP6
   rw [g4] at hR6 hV6 hl6
   rw [g1,g2,g3,<- g5] at hdf
   rw [g3,g4] at hrm
   rw [g1] at hps
   rw [<- hs6] at T5
   clear hs6 g1 g2 g3 g4 htl
   obtain ⟨ao6,cap6,rfl⟩:=row_shape hR6
   obtain ⟨b7,m7,m8,vT7,hP7⟩:=hP6
   have hn7:=fnext_any w0 W6 S f gR b7 s6.kn vT7 s6.txt H V L ks HE.out hP7.bel hP7.hf hP7.ht hP7.fits.1 hP7.fits.2
   have P7:Hid (FP w0 S W6 f gR b7 m7 m8 vT7 H V s6.txt s6.kn s6.A s6.hd s6.bg):=hP7
   have R7:Hid (W6.ownsRow w.heap.size 9 1 (.slice ao6 s6.told.length cap6) s6.told.length (strCells s6.told)):=hR6
   have B7:Hid (Sav S w W6):=B5.out.trans hB6
   have U7:Hid (KeepU W2 W6):=U5.out.trans hU6
   have V7:Hid (s6.told.length=0->W6.cell? ⟨f,2,none⟩=some (.slice ao1 s0.txt.size cap1)/\s6.txt=s0.txt):=fun h=>by
    have h5:s5.told.length=0:=by have:=hrm.1;omega
    have h6:=hV6 (by omega)
    have h7:=hrm.2.2 (by omega)
    rw [E5.out.2.1] at h5
    obtain ⟨a1,a2⟩:=hV1.out h5
    exact ⟨h6.trans (C5.out.trans a1),h7.trans (E5.out.1.trans a2)⟩
   have L7:Hid (s6.told.length+s6.txt.size<=s0.txt.size):=by
    show _<=_
    have h1:=hrm.2.1
    rw [E5.out.1,E5.out.2.1] at h1
    exact Nat.le_trans h1 hL1.out
   have M7:s6.txt.size - s6.kn<s1.txt.size - s1.kn:=by
    have h1:=hdf.2
    have h2:=hdf.1
    rw [SS5.out.1,E5.out.1,E5.out.2.2.1] at h1
    omega
   have hz7:w.heap.size<=W6.heap.size:=Nat.le_trans hgr5 hB6.size
   have S7:Hid (sumA s6.A+s6.bg=s6.kn/\PosA s6.A):=⟨g5.symm,hps⟩
   clear hP7 hR6 hB6 hU6 hV6 hl6 hdf hrm hps g5 g6 hk6 hV1 hL1 B5 U5 C5 SS5 E5
   go_wp2_with fail
   refine hn7.mono ?_
   rintro r W8 ⟨⟨k8,n8,rfl,hN8⟩,b8⟩
   have P8:Hid (FOk w0 S W8 f gR H V s6.txt s6.kn s6.A s6.hd s6.bg):=⟨b7,m7,m8,vT7,P7.out.below b8⟩
   have N8:Hid (NextIs L s6.rest k8 n8):=hN8
   have R8:Hid (W8.ownsRow w.heap.size 9 1 (.slice ao6 s6.told.length cap6) s6.told.length (strCells s6.told)):=row_kp R7.out (Kp.below b8)
   have B8:Hid (Sav S w W8):=B7.out.trans (Chg.of_below b8)
   have U8:Hid (KeepU W2 W8):=U7.out.trans (KeepU.below b8)
   have V8:Hid (s6.told.length=0->W8.cell? ⟨f,2,none⟩=some (.slice ao1 s0.txt.size cap1)/\s6.txt=s0.txt):=fun h=>⟨(b8.cell (p:=⟨f,2,none⟩) (heap_lt P7.out.hf)).trans (V7.out h).1,(V7.out h).2⟩
   have hz8:w.heap.size<=W8.heap.size:=Nat.le_trans hz7 b8.size
   clear hn7 hN8 b8 P7 R7 B7 U7 V7
   go_wp2_with fail
   go_roundg (s6.txt.size - s6.kn)
   case measure=>exact M7
   case rel=>exact ⟨s6,k8,n8,ao6,cap6,rfl,rfl,rfl,rfl,P8,S7,N8,T5,R8,B8,U8,V8,L7,hz8⟩
def FS.new:FS:=⟨[],0,0,⟨#[]⟩,0,[]⟩
set_option maxRecDepth 100000 in
set_option maxHeartbeats 1000000 in
theorem fmake_any (w:World) (gR:Nat) (H:List Hd) (V:List Vw) (L:List (Int × Int × Nat)) (ks:List Nat) (hE:FEnv w gR H V L ks) :
  Calls Tryz.prog 66 #[.pointer (some ⟨gR,0,none⟩),.pointer (some ⟨gR,2,none⟩)] w fun r w'=>∃ f,r=.returned (.pointer (some ⟨f,0,none⟩))/\w.heap.size<=f/\FRest w (fun k=>k<w.heap.size) w' f gR H V FS.new/\Below w.heap.size w w':=by
 have hw:=watch_any w gR 2 H V hE.lk
 have H0:Hid (∃ h,H[0]?=some h):=hE.h0
 clear hE
 go_enter Tryz.func66,Tryz.ntmps66
 go_wp2_with fail
 refine hw.mono ?_
 rintro r W1 ⟨b,m1,m2,rfl,l1,l2,l3,hW,hB⟩
 have hz:=hB.size
 have b2:=below_alloc W1 (.cells #[.pointer (some ⟨gR,0,none⟩),.pointer (some ⟨b,0,none⟩),.slice none 0 0,.int .i64 0] 215)
 have FIN:Hid (FRest w (fun k=>k<w.heap.size) (W1.alloc (.cells #[.pointer (some ⟨gR,0,none⟩),.pointer (some ⟨b,0,none⟩),.slice none 0 0,.int .i64 0] 215)) W1.heap.size gR H V FS.new):=by
  refine ⟨⟨b,m1,m2,.slice none 0 0,⟨heap_alloc_new W1 _,Or.inl ⟨rfl,none,0,rfl⟩,⟨[],fun _=>[],hW.keepS (KeepS.below b2),⟨rfl,fun i x a hx=>by simp at hx⟩,fun x hx=>by simp at hx⟩,⟨Nat.not_lt.2 hz,Nat.not_lt.2 l1,Nat.not_lt.2 l2,Nat.not_lt.2 l3⟩,hB.trans (b2.mono hz),H0.out,⟨Nat.le_refl _,by decide⟩,⟨fun _ h=>h,fun k h=>Nat.lt_of_lt_of_le h (Nat.le_trans hz b2.size)⟩⟩,World.ownsRow_nil _ _ _ _,fun k e=>by cases e⟩,rfl,fun a ha=>by simp [FS.new] at ha⟩
 have BB:Hid (Below w.heap.size w (W1.alloc (.cells #[.pointer (some ⟨gR,0,none⟩),.pointer (some ⟨b,0,none⟩),.slice none 0 0,.int .i64 0] 215))):=hB.trans (b2.mono hz)
 clear hw hW hB b2
 go_wp2_with fail
 go_ret
 exact ⟨_,rfl,hz,FIN.out,BB.out⟩
theorem fwend (w0 w:World) (S:Nat->Prop) (f gR b m1 m2:Nat) (vT:Value) (H:List Hd) (V:List Vw) (txt:ByteArray) (kn:Nat) (A:List AP) (hd bg:Nat) (h:FP w0 S w f gR b m1 m2 vT H V txt kn A hd bg) :
  Calls Tryz.prog 123 #[.pointer (some ⟨b,0,none⟩)] w fun r w'=>r=.returned (.tuple #[])/\FP w0 S w' f gR b m1 m2 vT H V txt kn (A.map (endA V)) hd bg/\Sav S w w':=by
 obtain ⟨ns,g,hW,hA,hl⟩:=h.hw
 refine (wend_any w b gR 2 H V hd ns g bg m1 m2 hW).mono ?_
 rintro r w' ⟨rfl,⟨ns',hW',hA',hs'⟩,hc⟩
 obtain ⟨D,hD⟩:=hW.gd
 obtain ⟨e1,e2,hm⟩:=hD.blk
 have oth:∀ (k:Nat) (cs:Array Value) (t:TypeId) (m:Nat × Nat),t ≠ 330->w.heap[k]?=some (.cells cs t m)->w'.heap[k]?=some (.cells cs t m):=fun k cs t m ht hh=>by
  rw [hc.block k (heap_lt hh) ?_]
  ·exact hh
  ·rintro (⟨x,hx,e⟩ | e)
   ·obtain ⟨i,hi⟩:=List.mem_iff_getElem?.1 hx
    have h3:=hW.seq i x hi
    rw [e,hh] at h3
    injection h3 with h3
    injection h3 with _ h4
    exact ht h4
   ·rw [e,hm] at hh;cases hh
 have hB:Sav S w w':=hc.mono fun k _ hk=>by
  rcases hk with ⟨x,hx,rfl⟩ | rfl
  ·exact hl x hx
  ·exact h.lo.2.2.1
 exact ⟨rfl,⟨oth _ _ _ _ (by decide) h.hf,h.ht.keep fun k cs m hh=>oth k cs _ m (by decide) hh,⟨ns',_,hW',hA' A hA,fun x hx=>by obtain ⟨y,hy,e⟩:=hs' x hx;rw [<- e];exact hl y hy⟩,h.lo,h.bel.trans (h.kept.below hB h.bel.size),h.hdl,h.fits,h.kept.grow hB.size⟩,hB⟩
def endS (H:List Hd) (V:List Vw) (s:FS):FS :=
 let s1:=if s.kn<s.txt.size then knowS H V 7 (s.txt.size - s.kn) s else s
 tellS { s1 with A:=s1.A.map (endA V),told:=[] }
set_option maxRecDepth 100000 in
set_option maxHeartbeats 4000000 in
theorem fend_any (w0 w:World) (S:Nat->Prop) (f gR:Nat) (H:List Hd) (V:List Vw) (L:List (Int × Int × Nat)) (ks:List Nat) (s:FS) (hE:FEnv w0 gR H V L ks) (hF:FRest w0 S w f gR H V s) :
  Calls Tryz.prog 74 #[.pointer (some ⟨f,0,none⟩)] w fun r w'=>(∃ v',r=.returned v'/\w'.ownsRow w.heap.size 9 1 v' (endS H V s).told.length (strCells (endS H V s).told))/\Sav S w w':=by
 obtain ⟨⟨b,m1,m2,vT,hP,_⟩,hsum,hpos⟩:=hF
 obtain ⟨ao,cap,rfl⟩:=hP.ht.shape
 have c3:w.cell? ⟨f,3,none⟩=some (.int .i64 s.kn):=cell_of_block hP.hf 3 _ rfl
 have hbw:w0.heap.size<=w.heap.size:=hP.bel.size
 have hfi1:=hP.fits.1
 have hfi2:=hP.fits.2
 have UN:Hid (∀ W',Below w.heap.size w W'->Calls Tryz.prog 73 #[.pointer (some ⟨f,0,none⟩)] W' fun r w'=>r=.returned (.int .i64 s.txt.size)/\w'=W'):=fun W' hb=>untold_any W' f gR b s.txt.size s.kn cap ao ((hb.block _ (heap_lt hP.hf)).trans hP.hf)
 have HP:Hid (FP w0 S w f gR b m1 m2 (.slice ao s.txt.size cap) H V s.txt s.kn s.A s.hd s.bg):=hP
 have HS:Hid (sumA s.A+s.bg=s.kn/\PosA s.A):=⟨hsum,hpos⟩
 have HE:Hid (FEnv w0 gR H V L ks):=hE
 have HKP:Hid (Kept S w0 w):=hP.kept
 obtain ⟨T,hT⟩:∃ T,T=(endS H V s).told:=⟨_,rfl⟩
 have HT:Hid (T=(endS H V s).told):=hT
 rw [<- hT]
 clear hP hsum hpos hE hT
 go_enter Tryz.func74,Tryz.ntmps74
 go_upto_region 1 with fail
 go_cut [3] from 4 to 10 (fun cv wx=>cv=.int .i64 ((s.txt.size - s.kn:Nat):Int)/\wx=w.drew)
 case first =>
  have e1:Hid ((s.txt.size:Int) - (s.kn:Int)=((s.txt.size - s.kn:Nat):Int)):=by show _=_;omega
  go_region_with (go_at_call 73;refine (UN.out _ ((Below.refl _ _).drew)).mono ?_;rintro e W1 ⟨rfl,rfl⟩)
  all_goals go_wp2_with fail
  all_goals go_meet
  all_goals exact ⟨by rw [e1.out,IntWalk.i64_in _ (by omega)],rfl⟩
 case rest =>
  obtain ⟨rfl,rfl⟩:=hcut
  have P3:Hid (FP w0 S w.drew f gR b m1 m2 (.slice ao s.txt.size cap) H V s.txt s.kn s.A s.hd s.bg):=HP.out.below ((Below.refl _ _).drew)
  by_cases hlt:s.kn<s.txt.size
  ·have hdd:decide ((0:Int)<((s.txt.size - s.kn:Nat):Int))=true:=decide_eq_true (by omega)
   have hkn:=know_any w0 w.drew S f gR s.kn 7 (s.txt.size - s.kn) s.hd s.bg s.txt H V L ks s.A HE.out ⟨b,m1,m2,_,P3.out⟩ HE.out.bad (by decide) (by omega)
   go_wp2_with fail
   refine hkn.mono ?_
   rintro r W4 ⟨rfl,hP4,hB4,_,_⟩
   obtain ⟨s4,hs4⟩:∃ s4:FS,s4=knowS H V 7 (s.txt.size - s.kn) s:=⟨_,rfl⟩
   have hP4':FOk w0 S W4 f gR H V s4.txt s4.kn s4.A s4.hd s4.bg:=by rw [hs4];exact hP4
   have Hs4:Hid (s4=knowS H V 7 (s.txt.size - s.kn) s):=hs4
   have S4:Hid (sumA s4.A+s4.bg=s4.kn/\PosA s4.A):=by
    rw [hs4]
    refine ⟨?_,fun a ha=>?_⟩
    ·show sumA (s.A.map (mvA V 7)++[stA V (s.txt.size - s.kn) _])+s.bg=s.kn+(s.txt.size - s.kn)
     rw [sumA_snoc,sumA_move (mvA V 7) (mvG_size _ _ _)]
     show sumA s.A+(s.txt.size - s.kn)+s.bg=_
     have:=HS.out.1
     omega
    ·rcases List.mem_append.1 ha with h | h
     ·obtain ⟨c,hc,rfl⟩:=List.mem_map.1 h
      rw [show (mvA V 7 c).1=c.1 from mvG_size _ _ _ c]
      exact HS.out.2 c hc
     ·simp at h
      subst h
      show 1<=s.txt.size - s.kn
      omega
   obtain ⟨b4,m4,m5,vT4,hP4''⟩:=hP4'
   have P4:Hid (FP w0 S W4 f gR b4 m4 m5 vT4 H V s4.txt s4.kn s4.A s4.hd s4.bg):=hP4''
   have B4:Hid (Sav S w W4):=((Chg.refl _ _).drew).trans hB4
   have hz4:w.heap.size<=W4.heap.size:=hB4.size
   clear hkn hP4 hB4 hs4 hP4'' P3 UN c3
   have c1:W4.cell? ⟨f,1,none⟩=some (.pointer (some ⟨b4,0,none⟩)):=cell_of_block P4.out.hf 1 _ rfl
   have hen:=fwend w0 W4 S f gR b4 m4 m5 vT4 H V s4.txt s4.kn s4.A s4.hd s4.bg P4.out
   go_wp2_with fail
   refine hen.mono ?_
   rintro r W5 ⟨rfl,hP5,hB5⟩
   have B5:Hid (Sav S w W5):=B4.out.trans hB5
   have htl:=tell_any w0 W5 S f gR s4.kn s4.hd s4.bg w.heap.size s4.txt H V (s4.A.map (endA V)) [] (.slice none 0 0) ⟨b4,m4,m5,vT4,hP5⟩ (by rw [sumA_move (endA V) (mvG_size _ _ _)];exact S4.out.1) (World.ownsRow_nil _ _ _ _) HKP.out.hi (Nat.le_trans hz4 hB5.size) (by simp) (by rw [List.length_map];have h1:=S4.out.2.len;have h2:=S4.out.1;have h3:=P4.out.fits;omega)
   have ET:Hid (T=(tellP ((s4.A.map (endA V)).length+2) (s4.A.map (endA V)) s4.bg s4.txt []).2.2.2):=by
    show _=_
    rw [HT.out]
    unfold endS
    rw [if_pos hlt,<- Hs4.out]
    rfl
   clear hen c1 hP5 hB5
   go_wp2_with fail
   refine htl.mono ?_
   rintro r W6 ⟨⟨v6,rfl,_,hR6,_⟩,hB6,_⟩
   have R6:Hid (W6.ownsRow w.heap.size 9 1 v6 T.length (strCells T)):=by rw [ET.out];exact hR6
   have B6:Hid (Sav S w W6):=B5.out.trans hB6
   obtain ⟨ao6,cap6,rfl⟩:=row_shape R6.out
   clear htl hR6 hB6
   go_wp2_with fail
   go_ret
   exact ⟨⟨_,rfl,R6.out⟩,B6.out⟩
  ·have hdd:decide ((0:Int)<((s.txt.size - s.kn:Nat):Int))=false:=decide_eq_false (by omega)
   obtain ⟨b4,m4,m5,vT4,hq4⟩:∃ b4 m4 m5 vT4,FP w0 S w.drew f gR b4 m4 m5 vT4 H V s.txt s.kn s.A s.hd s.bg:=⟨b,m1,m2,_,P3.out⟩
   have P4:Hid (FP w0 S w.drew f gR b4 m4 m5 vT4 H V s.txt s.kn s.A s.hd s.bg):=hq4
   have S4:=HS
   have B4:Hid (Sav S w w.drew):=(Chg.refl _ _).drew
   have hz4:w.heap.size<=w.drew.heap.size:=Nat.le_refl _
   clear hq4 P3 UN c3
   have c1:w.drew.cell? ⟨f,1,none⟩=some (.pointer (some ⟨b4,0,none⟩)):=cell_of_block P4.out.hf 1 _ rfl
   have hen:=fwend w0 w.drew S f gR b4 m4 m5 vT4 H V s.txt s.kn s.A s.hd s.bg P4.out
   go_wp2_with fail
   refine hen.mono ?_
   rintro r W5 ⟨rfl,hP5,hB5⟩
   have B5:Hid (Sav S w W5):=B4.out.trans hB5
   have htl:=tell_any w0 W5 S f gR s.kn s.hd s.bg w.heap.size s.txt H V (s.A.map (endA V)) [] (.slice none 0 0) ⟨b4,m4,m5,vT4,hP5⟩ (by rw [sumA_move (endA V) (mvG_size _ _ _)];exact S4.out.1) (World.ownsRow_nil _ _ _ _) HKP.out.hi (Nat.le_trans hz4 hB5.size) (by simp) (by rw [List.length_map];have h1:=S4.out.2.len;have h2:=S4.out.1;have h3:=P4.out.fits;omega)
   have ET:Hid (T=(tellP ((s.A.map (endA V)).length+2) (s.A.map (endA V)) s.bg s.txt []).2.2.2):=by
    show _=_
    rw [HT.out]
    unfold endS
    rw [if_neg hlt]
    rfl
   clear hen c1 hP5 hB5
   go_wp2_with fail
   refine htl.mono ?_
   rintro r W6 ⟨⟨v6,rfl,_,hR6,_⟩,hB6,_⟩
   have R6:Hid (W6.ownsRow w.heap.size 9 1 v6 T.length (strCells T)):=by rw [ET.out];exact hR6
   have B6:Hid (Sav S w W6):=B5.out.trans hB6
   obtain ⟨ao6,cap6,rfl⟩:=row_shape R6.out
   clear htl hR6 hB6
   go_wp2_with fail
   go_ret
   exact ⟨⟨_,rfl,R6.out⟩,B6.out⟩
def tellF:List AP->Nat->ByteArray->List ByteArray->TS
 | [],bg,t,l=>([],bg,t,l)
 | (sz,.inr true) :: A,bg,t,l=>tellF A 0 (t.extract (bg+sz) t.size) (l++[t.extract 0 (bg+sz)])
 | (sz,.inr false) :: A,bg,t,l=>tellF A (bg+sz) t l
 | (sz,.inl v) :: A,bg,t,l=>((sz,.inl v) :: A,bg,t,l)
theorem PosA.tail {a:AP} {A:List AP} (h:PosA (a :: A)):PosA A:=fun x hx=>h x (List.mem_cons_of_mem _ hx)
theorem tellF_next:∀ (A:List AP) (bg:Nat) (t:ByteArray) (l:List ByteArray),PosA A->tellF A bg t l=if (nextT A bg).2.2=0 then ((nextT A bg).1,(nextT A bg).2.1,t,l) else tellF (nextT A bg).1 (nextT A bg).2.1 (t.extract (nextT A bg).2.2 t.size) (l++[t.extract 0 (nextT A bg).2.2]):=by
 intro A
 induction A with
 | nil=>intro bg t l _;rfl
 | cons a A ih =>
  intro bg t l h
  have h1:=h a List.mem_cons_self
  obtain ⟨sz,s⟩:=a
  cases s with
  | inl v=>rfl
  | inr c =>
   cases c with
   | true =>
    show _=if bg+sz=0 then _ else _
    rw [if_neg (by simp only at h1;omega)]
    rfl
   | false=>exact ih (bg+sz) t l h.tail
theorem tellP_eq:∀ (n:Nat) (A:List AP) (bg:Nat) (t:ByteArray) (l:List ByteArray),PosA A->A.length<n->tellP n A bg t l=tellF A bg t l:=by
 intro n
 induction n with
 | zero=>intro A bg t l _ h;omega
 | succ n ih =>
  intro A bg t l h hn
  rw [tellP,tellF_next A bg t l h]
  have hl:=nextT_len A bg
  split
  ·rfl
  ·rename_i h0
   exact ih _ _ _ _ (nextT_pos A bg h) (by have:=hl.2 (by omega);omega)
def Fixed (A:List AP):Prop:=∀ a ∈ A,∃ c,a.2=.inr c
theorem tellF_fixed:∀ (P:List AP),Fixed P->∀ (bg:Nat) (t:ByteArray) (l:List ByteArray),∃ bg' t' l',(∀ X,tellF (P++X) bg t l=tellF X bg' t' l')/\tellF P bg t l=([],bg',t',l'):=by
 intro P
 induction P with
 | nil=>intro _ bg t l;exact ⟨bg,t,l,fun _=>rfl,rfl⟩
 | cons a P ih =>
  intro h bg t l
  obtain ⟨c,hc⟩:=h a List.mem_cons_self
  have hP:Fixed P:=fun x hx=>h x (List.mem_cons_of_mem _ hx)
  obtain ⟨sz,s⟩:=a
  simp only at hc
  subst hc
  cases c with
  | true=>exact ih hP 0 (t.extract (bg+sz) t.size) (l++[t.extract 0 (bg+sz)])
  | false=>exact ih hP (bg+sz) t l
theorem split_fixed:∀ A:List AP,∃ P X,A=P++X/\Fixed P/\∀ a X',X=a :: X'->∃ v,a.2=.inl v:=by
 intro A
 induction A with
 | nil=>exact ⟨[],[],rfl,fun a ha=>by simp at ha,fun a X' h=>by cases h⟩
 | cons a A ih =>
  obtain ⟨P,X,rfl,h1,h2⟩:=ih
  obtain ⟨sz,s⟩:=a
  cases s with
  | inl v=>exact ⟨[],_,rfl,fun a ha=>by simp at ha,fun a X' h=>by cases h;exact ⟨v,rfl⟩⟩
  | inr c =>
   refine ⟨(sz,.inr c) :: P,X,rfl,fun a ha=>?_,h2⟩
   rcases List.mem_cons.1 ha with rfl | ha
   ·exact ⟨c,rfl⟩
   ·exact h1 a ha
theorem tellF_open {X:List AP} (h:∀ a X',X=a :: X'->∃ v,a.2=.inl v) (bg:Nat) (t:ByteArray) (l:List ByteArray):tellF X bg t l=(X,bg,t,l):=by
 cases X with
 | nil=>rfl
 | cons a X =>
  obtain ⟨v,hv⟩:=h a X rfl
  obtain ⟨sz,s⟩:=a
  simp only at hv
  subst hv
  rfl
theorem tellF_later (A:List AP) (f:AP->AP) (hf:∀ a c,a.2=.inr c->f a=a) (B:List AP) (bg:Nat) (t:ByteArray) (l:List ByteArray):tellF ((tellF A bg t l).1.map f++B) (tellF A bg t l).2.1 (tellF A bg t l).2.2.1 (tellF A bg t l).2.2.2=tellF (A.map f++B) bg t l:=by
 obtain ⟨P,X,rfl,hP,hX⟩:=split_fixed A
 obtain ⟨bg',t',l',h1,_⟩:=tellF_fixed P hP bg t l
 rw [h1 X,tellF_open hX]
 have hPf:P.map f=P:=by
  conv=>rhs;rw [<- List.map_id P]
  refine List.map_congr_left fun a ha=>?_
  obtain ⟨c,hc⟩:=hP a ha
  exact hf a c hc
 rw [List.map_append,hPf,List.append_assoc,h1 (X.map f++B)]
theorem mvA_fixed (V:List Vw) (k:Nat) (a:AP) (c:Bool) (h:a.2=.inr c):mvA V k a=a:=by
 obtain ⟨sz,s⟩:=a
 simp only at h
 subst h
 rfl
theorem tellF_acc:∀ (A:List AP) (bg:Nat) (t:ByteArray) (l0 l:List ByteArray),tellF A bg t (l0++l)=((tellF A bg t l).1,(tellF A bg t l).2.1,(tellF A bg t l).2.2.1,l0++(tellF A bg t l).2.2.2):=by
 intro A
 induction A with
 | nil=>intro bg t l0 l;rfl
 | cons a A ih =>
  intro bg t l0 l
  obtain ⟨sz,s⟩:=a
  cases s with
  | inl v=>rfl
  | inr c =>
   cases c with
   | true =>
    show tellF A 0 _ (l0++l++[_])=_
    rw [List.append_assoc,ih]
    rfl
   | false=>exact ih (bg+sz) t l0 l
theorem extract_left (t x:ByteArray) (a b:Nat) (hb:b<=t.size):(t++x).extract a b=t.extract a b:=by
 rw [ByteArray.extract_append]
 have e:x.extract (a - t.size) (b - t.size)=⟨#[]⟩:=by
  apply ba_ext
  rw [ByteArray.toList_eq,ByteArray.toList_eq]
  have:b - t.size=0:=by omega
  simp [this]
 rw [e]
 apply ba_ext
 rw [ByteArray.toList_eq,ByteArray.toList_eq]
 simp
theorem extract_over (t:ByteArray) (a b:Nat) (hb:t.size<=b):t.extract a b=t.extract a t.size:=by
 apply ba_ext
 rw [ByteArray.toList_eq,ByteArray.toList_eq,ByteArray.data_extract,ByteArray.data_extract]
 have e2:t.size=t.data.size:=rfl
 congr 1
 apply Array.ext
 ·simp only [Array.size_extract]
  omega
 ·intro i h1 h2
  simp
theorem extract_right (t x:ByteArray) (a:Nat) (ha:a<=t.size):(t++x).extract a (t++x).size=t.extract a t.size++x:=by
 rw [ByteArray.extract_append,ByteArray.size_append,extract_over t a _ (by omega),show a - t.size=0 from by omega,show t.size+x.size - t.size=x.size from by omega,extract_all]
theorem tellF_more:∀ (A:List AP) (bg:Nat) (t x:ByteArray) (l:List ByteArray),sumA A+bg<=t.size->tellF A bg (t++x) l=((tellF A bg t l).1,(tellF A bg t l).2.1,(tellF A bg t l).2.2.1++x,(tellF A bg t l).2.2.2):=by
 intro A
 induction A with
 | nil=>intro bg t x l _;rfl
 | cons a A ih =>
  intro bg t x l h
  obtain ⟨sz,s⟩:=a
  have e:sumA ((sz,s) :: A)=sz+sumA A:=by unfold sumA;simp
  rw [e] at h
  cases s with
  | inl v=>rfl
  | inr c =>
   cases c with
   | true =>
    show tellF A 0 ((t++x).extract (bg+sz) (t++x).size) (l++[(t++x).extract 0 (bg+sz)])=_
    rw [extract_right t x _ (by omega),extract_left t x 0 _ (by omega),ih 0 _ x _ (by rw [ByteArray.size_extract];omega)]
    rfl
   | false=>exact ih (bg+sz) t x l (by omega)
def stepC (H:List Hd) (V:List Vw) (r:List AP × Nat) (c:Nat × Nat):List AP × Nat:=(r.1.map (mvA V c.1)++[stA V c.2 (stH H (hdN H r.2 c.1))],hdN H r.2 c.1)
def runC (H:List Hd) (V:List Vw) (C:List (Nat × Nat)):List AP × Nat:=C.foldl (stepC H V) ([],0)
theorem runC_snoc (H:List Hd) (V:List Vw) (C:List (Nat × Nat)) (c:Nat × Nat):runC H V (C++[c])=stepC H V (runC H V C) c:=by unfold runC;rw [List.foldl_append];rfl
structure Hist (H:List Hd) (V:List Vw) (T:ByteArray) (C:List (Nat × Nat)) (l0:List ByteArray) (s:FS):Prop where
 hd:s.hd=(runC H V C).2
 tel:tellF (runC H V C).1 0 T []=(s.A,s.bg,s.txt,l0++s.told)
theorem sumA_run (H:List Hd) (V:List Vw):∀ C:List (Nat × Nat),sumA (runC H V C).1=(C.map fun c=>c.2).sum:=by
 apply snoc_ind
 ·rfl
 ·intro C c ih
  rw [runC_snoc]
  show sumA ((runC H V C).1.map (mvA V c.1)++[stA V c.2 _])=_
  rw [sumA_snoc,sumA_move (mvA V c.1) (mvG_size _ _ _),ih,List.map_append,List.sum_append]
  simp
  rfl
theorem Hist.new (H:List Hd) (V:List Vw):Hist H V ⟨#[]⟩ [] [] FS.new:=⟨rfl,rfl⟩
theorem Hist.more {H:List Hd} {V:List Vw} {T:ByteArray} {C:List (Nat × Nat)} {l0:List ByteArray} {s:FS} (h:Hist H V T C l0 s) (x:ByteArray) (hC:(C.map fun c=>c.2).sum<=T.size):Hist H V (T++x) C l0 { s with txt:=s.txt++x }:=by
 refine ⟨h.hd,?_⟩
 rw [tellF_more _ _ _ _ _ (by rw [sumA_run];omega),h.tel]
theorem Hist.step {H:List Hd} {V:List Vw} {T:ByteArray} {C:List (Nat × Nat)} {l0:List ByteArray} {s:FS} {k n:Nat} (h:Hist H V T C l0 s) (hp:PosA s.A) (hn:1<=n):Hist H V T (C++[(k,n)]) l0 (tellS (knowS H V k n s)):=by
 have hq:PosA (knowS H V k n s).A:=by
  intro a ha
  rcases List.mem_append.1 ha with h1 | h1
  ·obtain ⟨c,hc,rfl⟩:=List.mem_map.1 h1
   rw [show (mvA V k c).1=c.1 from mvG_size _ _ _ c]
   exact hp c hc
  ·simp at h1
   subst h1
   exact hn
 have ht:tellP ((knowS H V k n s).A.length+2) (knowS H V k n s).A (knowS H V k n s).bg (knowS H V k n s).txt (knowS H V k n s).told=tellF (knowS H V k n s).A s.bg s.txt s.told:=tellP_eq _ _ _ _ _ hq (by omega)
 refine ⟨?_,?_⟩
 ·show hdN H s.hd k=_
  rw [runC_snoc,h.hd]
  rfl
 ·have h1:=tellF_later (runC H V C).1 (mvA V k) (fun a c ha=>mvA_fixed V k a c ha) [stA V n (stH H (hdN H (runC H V C).2 k))] 0 T []
  rw [h.tel] at h1
  rw [runC_snoc]
  show tellF ((runC H V C).1.map (mvA V k)++[stA V n (stH H (hdN H (runC H V C).2 k))]) 0 T []=_
  rw [<- h1]
  simp only
  rw [tellF_acc,<- h.hd]
  unfold tellS
  rw [ht]
  rfl
end Go.Proofs.YtodagkkjfipbgaaGreatDoor
