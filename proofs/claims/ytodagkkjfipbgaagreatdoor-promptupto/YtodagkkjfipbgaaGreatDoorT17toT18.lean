import Derived.Test.YtodagkkjfipbgaaGreatDoorT13toT16
namespace Go.Proofs.YtodagkkjfipbgaaGreatDoor
open Go.RowKit Go.Maps Go.Lib
set_option maxRecDepth 100000 in
set_option maxHeartbeats 8000000 in
theorem tell_any (w0 w:World) (S:Nat->Prop) (f gR kn hd bg tb:Nat) (txt:ByteArray) (H:List Hd) (V:List Vw) (A:List AP) (l:List ByteArray) (v:Value) (hF:FOk w0 S w f gR H V txt kn A hd bg) (hsum:sumA A+bg=kn) (hrow:w.ownsRow tb 9 1 v l.length (strCells l)) (htb:∀ k,S k->k<tb) (htw:tb<=w.heap.size) (hll:l.length<=1500000) (hAl:A.length<=1500000) :
  Calls Tryz.prog 121 #[.pointer (some ⟨f,0,none⟩),v] w fun r w'=>(∃ v',r=.returned v'/\(∃ kn',FOk w0 S w' f gR H V (tellP (A.length+2) A bg txt l).2.2.1 kn' (tellP (A.length+2) A bg txt l).1 hd (tellP (A.length+2) A bg txt l).2.1/\sumA (tellP (A.length+2) A bg txt l).1+(tellP (A.length+2) A bg txt l).2.1=kn')/\w'.ownsRow tb 9 1 v' (tellP (A.length+2) A bg txt l).2.2.2.length (strCells (tellP (A.length+2) A bg txt l).2.2.2)/\(tellP (A.length+2) A bg txt l).2.2.2.length<=l.length+A.length)/\Sav S w w'/\KeepU w w'/\((tellP (A.length+2) A bg txt l).2.2.2.length=l.length->w'.cell? ⟨f,2,none⟩=w.cell? ⟨f,2,none⟩):=by
 obtain ⟨b,m1,m2,vT,hP⟩:=hF
 obtain ⟨ao,cap,rfl⟩:=row_shape hrow
 have hkb:kn<=1500000:=Nat.le_trans hP.fits.1 hP.fits.2
 have c1:w.cell? ⟨f,1,none⟩=some (.pointer (some ⟨b,0,none⟩)):=cell_of_block hP.hf 1 _ rfl
 have hnx:=fwnext w0 w S f gR b m1 m2 vT H V txt kn A hd bg hP (by omega)
 obtain ⟨G,hG⟩:∃ G:TS,G=tellP (A.length+2) A bg txt l:=⟨_,rfl⟩
 have HG:Hid (G=tellP (A.length+2) A bg txt l):=hG
 rw [<- hG]
 have HR:Hid (w.ownsRow tb 9 1 (.slice ao l.length cap) l.length (strCells l)):=hrow
 have C2:Hid (w.cell? ⟨f,2,none⟩=some vT):=cell_of_block hP.hf 2 _ rfl
 have HLO:Hid (¬ S f/\¬ S b):=⟨hP.lo.1,hP.lo.2.1⟩
 obtain ⟨la,hbb,_⟩:=(show ∃ la,w.heap[b]?=some (.cells la 271 (0,0))/\True from by obtain ⟨ns,g,hW,_⟩:=hP.hw;obtain ⟨la,h,_⟩:=hW.blk;exact ⟨_,h,trivial⟩)
 have HBB:Hid (w.heap[b]?=some (.cells la 271 (0,0))):=hbb
 have hbw:w0.heap.size<=w.heap.size:=hP.bel.size
 clear hG hP hrow hbb
 go_enter Tryz.func121,Tryz.ntmps121
 go_wp2_with fail
 refine hnx.mono ?_
 rintro r W1 ⟨rfl,hP1,hc1⟩
 have P1:Hid (FP w0 S W1 f gR b m1 m2 vT H V txt kn (nextT A bg).1 hd (nextT A bg).2.1):=hP1
 have U1:Hid (KeepU w W1):=fun j cs m hh=>by rw [hc1.block j (heap_lt hh) (fun e=>by rw [e,HBB.out] at hh;injection hh with hh;injection hh with _ h2;cases h2)];exact hh
 have V1:Hid (W1.cell? ⟨f,2,none⟩=w.cell? ⟨f,2,none⟩):=by show _=_;rw [cell_of_block P1.out.hf 2 vT rfl,C2.out]
 have B1:Hid (Sav S w W1):=hc1.mono fun k _ e=>by rw [e];exact HLO.out.2
 have R1:Hid (W1.ownsRow tb 9 1 (.slice ao l.length cap) l.length (strCells l)):=by
  obtain ⟨q1,q2⟩:=HR.out
  refine ⟨q1,?_⟩
  rcases q2 with q2 | ⟨g,c',cur,hv,hg,hh,rr⟩
  ·exact Or.inl q2
  ·refine Or.inr ⟨g,c',cur,hv,hg,?_,rr⟩
   rw [hc1.block g (heap_lt hh) (fun e=>by rw [e,HBB.out] at hh;injection hh with hh;injection hh with _ h2;cases h2)]
   exact hh
 have S1:=nextT_sum A bg
 have L1:=nextT_len A bg
 have E1:Hid (tellC (A.length+1) (nextT A bg).1 (nextT A bg).2.1 txt l (nextT A bg).2.2=G):=HG.out.symm
 have hW1:w.heap.size<=W1.heap.size:=hc1.size
 clear hnx hP1 hc1 c1 HBB HR
 generalize nextT A bg=N at *
 obtain ⟨A1,bg1,sz1⟩:=N
 simp only at *
 go_wp2_with fail
 go_loopg [1,5] (A1.length+(if sz1=0 then 0 else 1)) (fun gh tv sv wx=>∃ (A2:List AP) (bg2 sz n kn2:Nat) (t2:ByteArray) (l2:List ByteArray) (vT2:Value) (ao2:Option Addr) (cap2:Nat),gh=A2.length+(if sz=0 then 0 else 1)/\tv=.slice ao2 l2.length cap2/\sv=.int .i64 sz/\Hid (FP w0 S wx f gR b m1 m2 vT2 H V t2 kn2 A2 hd bg2)/\Hid (sumA A2+bg2+sz=kn2)/\Hid (tellC n A2 bg2 t2 l2 sz=G)/\Hid (0<sz->A2.length<n)/\Hid (wx.ownsRow tb 9 1 (.slice ao2 l2.length cap2) l2.length (strCells l2))/\Hid (l2.length+A2.length+(if sz=0 then 0 else 1)<=l.length+A.length)/\Hid (Sav S w wx)/\tb<=wx.heap.size/\Hid (KeepU w wx)/\Hid (l.length<=l2.length)/\Hid (l2.length=l.length->wx.cell? ⟨f,2,none⟩=w.cell? ⟨f,2,none⟩))
 case atStart =>
  refine ⟨A1,bg1,sz1,A.length+1,kn,txt,l,vT,ao,cap,rfl,rfl,rfl,P1,by show _=_;omega,E1,fun h=>by have:=L1.1;omega,R1,?_,B1,by omega,U1,Nat.le_refl _,fun _=>V1.out⟩
  show _<=_
  by_cases e:sz1=0
  ·rw [if_pos e];omega
  ·rw [if_neg e];have:=L1.2 (by omega);omega
 case round =>
  obtain ⟨A2,bg2,sz,n,kn2,t2,l2,vT2,ao2,cap2,rfl,rfl,rfl,hFP,hSm,hTc,hNn,hRw,hLn,hBw,htx,hKu,hLl,hVv⟩:=hrel
  obtain ⟨w1,hw1⟩:∃ w1,w1=wr:=⟨wr,rfl⟩
  subst hw1
  clear P1 E1 R1 B1 U1 V1
  by_cases h0:sz=0
  ·subst h0
   have e2:Hid (G=(A2,bg2,t2,l2)):=by show _=_;rw [<- hTc.out];unfold tellC;rw [if_pos rfl]
   go_wp2_with fail
   go_ret
   rw [e2.out]
   have hk2:sumA A2+bg2=kn2:=by have:=hSm.out;omega
   have hl3:l2.length<=l.length+A.length:=by have:=hLn.out;simp at this;omega
   have hFO:FOk w0 S w1 f gR H V t2 (sumA A2+bg2) A2 hd bg2:=⟨b,m1,m2,vT2,by rw [hk2];exact hFP.out⟩
   first
    | exact ⟨⟨_,rfl,hFO,hRw.out,hl3⟩,hBw.out,hKu.out,hVv.out⟩
    | exact ⟨⟨_,rfl,⟨_,hFO,rfl⟩,hRw.out,hl3⟩,hBw.out,hKu.out,hVv.out⟩
  ·have hszk:sz<=kn2:=by have:=hSm.out;omega
   have hfit:=hFP.out.fits
   have hT2:=hFP.out.ht
   rcases hT2 with ⟨hz,_⟩ | ⟨q,o,cap3,rfl,hqb,h3,hcp,hty⟩
   ·omega
   have k1:w1.cell? ⟨f,1,none⟩=some (.pointer (some ⟨b,0,none⟩)):=cell_of_block hFP.out.hf 1 _ rfl
   have k2:w1.cell? ⟨f,2,none⟩=some (.slice (some ⟨q,o,none⟩) t2.size cap3):=cell_of_block hFP.out.hf 2 _ rfl
   have hd0:decide ((0:Int)<(sz:Int))=true:=by simp;omega
   obtain ⟨n,rfl⟩:∃ n',n=n'+1:=⟨n - 1,by have:=hNn.out (by omega);omega⟩
   by_cases e:cap3=sz
   ·subst e
    obtain ⟨x,hx⟩:∃ x,x=t2.extract 0 cap3:=⟨_,rfl⟩
    have HX:Hid (x=t2.extract 0 cap3):=hx
    have hxs:x.size=cap3:=by rw [hx,ByteArray.size_extract];omega
    have kb:(convert 63 9 (.slice (some ⟨q,o,none⟩) cap3 cap3)).run Tryz.prog w1=.ok (.string x) w1:=by
     have:=run_convert_bytes_back (P:=Tryz.prog) w1 63 9 5 ⟨q,o,none⟩ cap3 x.data.toList Tryz.underlying63 Tryz.underlying5 Tryz.underlying9 fun jj hj=>by
      have hj':jj<cap3:=by rw [<- hxs];simpa using hj
      rw [show (⟨q,o,none⟩:Addr).add jj=⟨q,o+jj,none⟩ from by unfold Addr.add;split <;> simp_all]
      rw [h3 jj (by omega)]
      subst hx
      rw [extract_get t2 0 cap3 jj (by omega) (by omega),Nat.zero_add]
     rw [show x.data.toList.length=cap3 from by rw [<- hxs];simp] at this
     rw [this]
    have RA:Hid ((w1.alloc (.cells #[.string x] 9)).ownsRow tb 9 1 (.slice ao2 l2.length cap2) l2.length (strCells l2)):=row_kp hRw.out (Kp.below (below_alloc w1 _))
    have NW:Hid (∀ (j:Nat) (u:Value),[Value.string x][j]?=some u->(w1.alloc (.cells #[.string x] 9)).cell? ⟨w1.heap.size,j,none⟩=some u):=fun j u hu=>cell_of_block (heap_alloc_new w1 _) j u (by simpa using hu)
    have LA:tb<=(w1.alloc (.cells #[.string x] 9)).heap.size:=Nat.le_trans htx (below_alloc w1 _).size
    have PA:Hid (FP w0 S (w1.alloc (.cells #[.string x] 9)) f gR b m1 m2 (.slice (some ⟨q,o,none⟩) t2.size cap3) H V t2 kn2 A2 hd bg2):=hFP.out.below (below_alloc w1 _)
    have hl2:l2.length<=3000000:=by have:=hLn.out;omega
    clear hx hxs
    go_upto_region 5 with (at_builtin;refine wpList_push2 rfl (.tmp 18) (.tmp 26) 30 rfl tb 9 (.string ⟨#[]⟩) 1 16 Tryz.infoSg Tryz.undSg rfl (by decide) (.slice ao2 l2.length cap2) l2.length (strCells l2) rfl RA.out w1.heap.size 1 [.string x] rfl rfl NW.out (one_str x) (by omega) (by omega) LA ?_;intro v' W3 hown hgr hsn;obtain ⟨ao3,cap3',rfl⟩:=row_shape hown;have R3:Hid (W3.ownsRow tb 9 1 (.slice ao3 (l2.length+1) cap3') (l2.length+1) (strCells l2++[.string x])):=hown;have G3:Hid ((w1.alloc (.cells #[.string x] 9)).grownBy W3 (Value.slice ao2 l2.length cap2).ownBlock):=hgr;clear hown hgr hsn;have hf3:=kept_grown PA.out.hf (Kp.refl _ _) RA.out G3.out (by decide);have d2:W3.cell? ⟨f,2,none⟩=some (.slice (some ⟨q,o,none⟩) t2.size cap3):=cell_of_block hf3 2 _ rfl;have d3:W3.cell? ⟨f,3,none⟩=some (.int .i64 kn2):=cell_of_block hf3 3 _ rfl;have fr3:=free_of_block hf3)
    have KW:Hid (∀ (k:Nat) (o:Obj),(w1.alloc (.cells #[.string x] 9)).heap[k]?=some o->(∀ cs m,o ≠ .cells cs 9 m)->W3.heap[k]?=some o):=fun k o ho hno=>by
     rw [G3.out.block k (heap_lt ho) (fun e=>?_)]
     ·exact ho
     ·obtain ⟨_,r2⟩:=RA.out
      rcases r2 with ⟨r2,_⟩ | ⟨g9,c9,cur9,hv9,_,hh9,_⟩
      ·rw [r2] at e;cases e
      ·rw [hv9] at e
       have e9:g9=k:=Option.some.inj e.symm
       rw [e9,ho] at hh9
       exact hno _ _ (Option.some.inj hh9)
    obtain ⟨W4,hW4⟩:∃ W4,W4=(W3.setCell ⟨f,2,none⟩ (.slice (some ⟨q,o,none⟩) (0) (0))).setCell ⟨f,3,none⟩ (.int .i64 (kn2 - cap3:Nat)):=⟨_,rfl⟩
    have HW4:Hid (W4=(W3.setCell ⟨f,2,none⟩ (.slice (some ⟨q,o,none⟩) (0) (0))).setCell ⟨f,3,none⟩ (.int .i64 ((kn2:Int) - (cap3:Int)))):=by show _=_;rw [hW4,show ((kn2 - cap3:Nat):Int)=(kn2:Int) - (cap3:Int) from by omega]
    have o4:∀ j,j ≠ f->W4.heap[j]?=W3.heap[j]?:=fun j hj=>by rw [hW4,Below.heap_setCell _ _ _ _ hj,Below.heap_setCell _ _ _ _ hj]
    have hf4:W4.heap[f]?=some (.cells (FloC gR b (.slice (some ⟨q,o,none⟩) (0) (0)) (kn2 - cap3)) 215 (0,0)):=by rw [hW4];exact (block_setCell ((block_setCell hf3 2 _).trans rfl) 3 _).trans rfl
    have kk4:∀ (k:Nat) (o:Obj),(w1.alloc (.cells #[.string x] 9)).heap[k]?=some o->(∀ cs m,o ≠ .cells cs 9 m)->k ≠ f->W4.heap[k]?=some o:=fun k o ho hno hk=>by rw [o4 k hk];exact KW.out k o ho hno
    have nf:∀ (k:Nat) (cs:Array Value) (t:TypeId) (m:Nat × Nat),t ≠ 215->(w1.alloc (.cells #[.string x] 9)).heap[k]?=some (.cells cs t m)->k ≠ f:=fun k cs t m ht hh e=>by
     rw [e,PA.out.hf] at hh
     injection hh with hh
     injection hh with _ h9
     exact ht h9.symm
    have B4:Hid (Sav S w W4):=by
     have g1:Sav S w (w1.alloc (.cells #[.string x] 9)):=hBw.out.alloc _
     have g2:Sav S w W3:=g1.grown G3.out (fun k e=>Or.inr fun h9=>absurd (htb k h9) (Nat.not_lt.2 (RA.out.lt k e).1))
     rw [hW4]
     exact (g2.setCell (q:=⟨f,2,none⟩) (Or.inr HLO.out.1) _).setCell (q:=⟨f,3,none⟩) (Or.inr HLO.out.1) _
    have BW4:Sav S (w1.alloc (.cells #[.string x] 9)) W4:=by
     have g2:Sav S (w1.alloc (.cells #[.string x] 9)) W3:=(Chg.refl _ _).grown G3.out (fun k e=>Or.inr fun h9=>absurd (htb k h9) (Nat.not_lt.2 (RA.out.lt k e).1))
     rw [hW4]
     exact (g2.setCell (q:=⟨f,2,none⟩) (Or.inr HLO.out.1) _).setCell (q:=⟨f,3,none⟩) (Or.inr HLO.out.1) _
    have TD:TxtIn W4 S (.slice (some ⟨q,o,none⟩) (0) (0)) (t2.extract cap3 t2.size):=by
     have t0:=TxtIn.drop (sz:=cap3) h3 hqb hty hcp (by omega)
     rw [if_pos rfl,Nat.sub_self,show t2.size - cap3=0 from by omega] at t0
     refine t0.keep fun k cs m hh=>?_
     have hh':(w1.alloc (.cells #[.string x] 9)).heap[k]?=some (.cells cs 5 m):=((below_alloc w1 _).block k (heap_lt hh)).trans hh
     exact kk4 k _ hh' (fun cs' m' e=>by injection e with _ e2;cases e2) (nf k cs _ m (by decide) hh')
    have P4:Hid (FP w0 S W4 f gR b m1 m2 (.slice (some ⟨q,o,none⟩) (0) (0)) H V (t2.extract cap3 t2.size) (kn2 - cap3) A2 hd bg2):=by
     refine PA.out.turn hf4 TD (fun k cs t ht hh=>?_) (fun k es c hh=>?_) BW4 ?_
     ·exact kk4 k _ hh (fun cs' m' e=>by injection e with _ e2 _;subst e2;rcases ht with h | h | h | h | h <;> cases h) (nf k cs t _ (fun e=>by subst e;rcases ht with h | h | h | h | h <;> cases h) hh)
     ·exact kk4 k _ hh (fun cs' m' e=>by cases e) (fun e=>by rw [e,PA.out.hf] at hh;cases hh)
     ·rw [ByteArray.size_extract];omega
    have R4:Hid (W4.ownsRow tb 9 1 (.slice ao3 (l2.length+1) cap3') (l2.length+1) (strCells l2++[.string x])):=by
     rw [hW4]
     exact row_kp (row_kp R3.out ((Kp.refl _ _).setCell hf3 (by decide) _)) ((Kp.refl _ _).setCell ((block_setCell hf3 2 _).trans rfl) (by decide) _)
    have U4:Hid (KeepU w W4):=fun j cs m hh=>by
     have h9:=hKu.out j cs m hh
     have hh':(w1.alloc (.cells #[.string x] 9)).heap[j]?=some (.cells cs 5 m):=((below_alloc w1 _).block j (heap_lt h9)).trans h9
     exact kk4 j _ hh' (fun cs' m' e=>by injection e with _ e2;cases e2) (nf j cs _ m (by decide) hh')
    have k4:W4.cell? ⟨f,1,none⟩=some (.pointer (some ⟨b,0,none⟩)):=cell_of_block hf4 1 _ rfl
    have hnx4:=fwnext w0 W4 S f gR b m1 m2 _ H V (t2.extract cap3 t2.size) (kn2 - cap3) A2 hd bg2 P4.out (by have:=hSm.out;omega)
    have tb4:tb<=W4.heap.size:=by rw [hW4];simp;exact Nat.le_trans LA G3.out.size
    clear KW hf3 o4 hf4 kk4 nf BW4 TD hW4 h3 hty kb
    go_upto_region 3 with fail
    rw [<- HW4.out]
    clear d2 d3 fr3
    go_wp2_with fail
    refine hnx4.mono ?_
    rintro r W5 ⟨rfl,hP5,hc5⟩
    have P5:Hid (FP w0 S W5 f gR b m1 m2 (.slice (some ⟨q,o,none⟩) (0) (0)) H V (t2.extract cap3 t2.size) (kn2 - cap3) (nextT A2 bg2).1 hd (nextT A2 bg2).2.1):=hP5
    have B5:Hid (Sav S w W5):=B4.out.trans (hc5.mono fun k _ e=>by rw [e];exact HLO.out.2)
    have R5:Hid (W5.ownsRow tb 9 1 (.slice ao3 (l2.length+1) cap3') (l2.length+1) (strCells l2++[.string x])):=by
     obtain ⟨q1,q2⟩:=R4.out
     refine ⟨q1,?_⟩
     rcases q2 with q2 | ⟨g,c',cur,hv,hg,hh,rr⟩
     ·exact Or.inl q2
     ·refine Or.inr ⟨g,c',cur,hv,hg,?_,rr⟩
      obtain ⟨ns5,g5,hW5,_⟩:=P4.out.hw
      obtain ⟨la5,hb5,_⟩:=hW5.blk
      rw [hc5.block g (heap_lt hh) (fun e=>by rw [e,hb5] at hh;injection hh with hh;injection hh with _ h2;cases h2)]
      exact hh
    have U5:Hid (KeepU w W5):=fun j cs m hh=>by
     have h9:=U4.out j cs m hh
     obtain ⟨ns5,g5,hW5,_⟩:=P4.out.hw
     obtain ⟨la5,hb5,_⟩:=hW5.blk
     rw [hc5.block j (heap_lt h9) (fun e=>by rw [e,hb5] at h9;injection h9 with h9;injection h9 with _ h2;cases h2)]
     exact h9
    have tb5:tb<=W5.heap.size:=Nat.le_trans tb4 hc5.size
    have S5:=nextT_sum A2 bg2
    have L5:=nextT_len A2 bg2
    have hSm':=hSm.out
    have hNn':=hNn.out (by omega)
    have hLn':=hLn.out
    rw [if_neg (by omega)] at hLn'
    have E5:Hid (tellC n (nextT A2 bg2).1 (nextT A2 bg2).2.1 (t2.extract cap3 t2.size) (l2++[x]) (nextT A2 bg2).2.2=G):=by
     show _=_
     rw [<- hTc.out,HX.out]
     unfold tellC
     rw [if_neg (show ¬ cap3=0 by omega),tellP_succ]
     rfl
    clear hnx4 hP5 hc5 P4 R4 hSm hTc hNn hLn
    generalize nextT A2 bg2=N5 at *
    obtain ⟨A5,bg5,cap35⟩:=N5
    simp only at *
    go_wp2_with fail
    go_roundg (A5.length+(if cap35=0 then 0 else 1))
    case measure =>
     try rw [if_neg (show ¬ cap3=0 by omega)]
     by_cases e5:cap35=0
     ·rw [if_pos e5];omega
     ·rw [if_neg e5];have:=L5.2 (by omega);omega
    case rel =>
     refine ⟨A5,bg5,cap35,n,kn2 - cap3,t2.extract cap3 t2.size,l2++[x],_,ao3,cap3',rfl,by rw [List.length_append];rfl,rfl,P5,by show _=_;omega,E5,fun h=>by have:=L5.2 h;omega,?_,?_,B5,tb5,U5,by show _<=_;rw [List.length_append];have:=hLl.out;simp;omega,fun h9=>by rw [List.length_append] at h9;have:=hLl.out;simp at h9;omega⟩
     ·rw [List.length_append,strCells_snoc]
      exact R5
     ·show _<=_
      rw [List.length_append]
      by_cases e5:cap35=0
      ·rw [if_pos e5];have:=L5.1;simp;omega
      ·rw [if_neg e5];have:=L5.2 (by omega);simp;omega
   ·skip
    obtain ⟨x,hx⟩:∃ x,x=t2.extract 0 sz:=⟨_,rfl⟩
    have HX:Hid (x=t2.extract 0 sz):=hx
    have hxs:x.size=sz:=by rw [hx,ByteArray.size_extract];omega
    have kb:(convert 63 9 (.slice (some ⟨q,o,none⟩) sz cap3)).run Tryz.prog w1=.ok (.string x) w1:=by
     have:=run_convert_bytes_back (P:=Tryz.prog) w1 63 9 5 ⟨q,o,none⟩ cap3 x.data.toList Tryz.underlying63 Tryz.underlying5 Tryz.underlying9 fun jj hj=>by
      have hj':jj<sz:=by rw [<- hxs];simpa using hj
      rw [show (⟨q,o,none⟩:Addr).add jj=⟨q,o+jj,none⟩ from by unfold Addr.add;split <;> simp_all]
      rw [h3 jj (by omega)]
      subst hx
      rw [extract_get t2 0 sz jj (by omega) (by omega),Nat.zero_add]
     rw [show x.data.toList.length=sz from by rw [<- hxs];simp] at this
     rw [this]
    have RA:Hid ((w1.alloc (.cells #[.string x] 9)).ownsRow tb 9 1 (.slice ao2 l2.length cap2) l2.length (strCells l2)):=row_kp hRw.out (Kp.below (below_alloc w1 _))
    have NW:Hid (∀ (j:Nat) (u:Value),[Value.string x][j]?=some u->(w1.alloc (.cells #[.string x] 9)).cell? ⟨w1.heap.size,j,none⟩=some u):=fun j u hu=>cell_of_block (heap_alloc_new w1 _) j u (by simpa using hu)
    have LA:tb<=(w1.alloc (.cells #[.string x] 9)).heap.size:=Nat.le_trans htx (below_alloc w1 _).size
    have PA:Hid (FP w0 S (w1.alloc (.cells #[.string x] 9)) f gR b m1 m2 (.slice (some ⟨q,o,none⟩) t2.size cap3) H V t2 kn2 A2 hd bg2):=hFP.out.below (below_alloc w1 _)
    have hl2:l2.length<=3000000:=by have:=hLn.out;omega
    clear hx hxs
    go_upto_region 5 with (at_builtin;refine wpList_push2 rfl (.tmp 18) (.tmp 26) 30 rfl tb 9 (.string ⟨#[]⟩) 1 16 Tryz.infoSg Tryz.undSg rfl (by decide) (.slice ao2 l2.length cap2) l2.length (strCells l2) rfl RA.out w1.heap.size 1 [.string x] rfl rfl NW.out (one_str x) (by omega) (by omega) LA ?_;intro v' W3 hown hgr hsn;obtain ⟨ao3,cap3',rfl⟩:=row_shape hown;have R3:Hid (W3.ownsRow tb 9 1 (.slice ao3 (l2.length+1) cap3') (l2.length+1) (strCells l2++[.string x])):=hown;have G3:Hid ((w1.alloc (.cells #[.string x] 9)).grownBy W3 (Value.slice ao2 l2.length cap2).ownBlock):=hgr;clear hown hgr hsn;have hf3:=kept_grown PA.out.hf (Kp.refl _ _) RA.out G3.out (by decide);have d2:W3.cell? ⟨f,2,none⟩=some (.slice (some ⟨q,o,none⟩) t2.size cap3):=cell_of_block hf3 2 _ rfl;have d3:W3.cell? ⟨f,3,none⟩=some (.int .i64 kn2):=cell_of_block hf3 3 _ rfl;have fr3:=free_of_block hf3)
    have KW:Hid (∀ (k:Nat) (o:Obj),(w1.alloc (.cells #[.string x] 9)).heap[k]?=some o->(∀ cs m,o ≠ .cells cs 9 m)->W3.heap[k]?=some o):=fun k o ho hno=>by
     rw [G3.out.block k (heap_lt ho) (fun e=>?_)]
     ·exact ho
     ·obtain ⟨_,r2⟩:=RA.out
      rcases r2 with ⟨r2,_⟩ | ⟨g9,c9,cur9,hv9,_,hh9,_⟩
      ·rw [r2] at e;cases e
      ·rw [hv9] at e
       have e9:g9=k:=Option.some.inj e.symm
       rw [e9,ho] at hh9
       exact hno _ _ (Option.some.inj hh9)
    obtain ⟨W4,hW4⟩:∃ W4,W4=(W3.setCell ⟨f,2,none⟩ (.slice (some ⟨q,o+sz,none⟩) (t2.size - sz) (cap3 - sz))).setCell ⟨f,3,none⟩ (.int .i64 (kn2 - sz:Nat)):=⟨_,rfl⟩
    have HW4:Hid (W4=(W3.setCell ⟨f,2,none⟩ (.slice (some ⟨q,o+sz,none⟩) (t2.size - sz) (cap3 - sz))).setCell ⟨f,3,none⟩ (.int .i64 ((kn2:Int) - (sz:Int)))):=by show _=_;rw [hW4,show ((kn2 - sz:Nat):Int)=(kn2:Int) - (sz:Int) from by omega]
    have o4:∀ j,j ≠ f->W4.heap[j]?=W3.heap[j]?:=fun j hj=>by rw [hW4,Below.heap_setCell _ _ _ _ hj,Below.heap_setCell _ _ _ _ hj]
    have hf4:W4.heap[f]?=some (.cells (FloC gR b (.slice (some ⟨q,o+sz,none⟩) (t2.size - sz) (cap3 - sz)) (kn2 - sz)) 215 (0,0)):=by rw [hW4];exact (block_setCell ((block_setCell hf3 2 _).trans rfl) 3 _).trans rfl
    have kk4:∀ (k:Nat) (o:Obj),(w1.alloc (.cells #[.string x] 9)).heap[k]?=some o->(∀ cs m,o ≠ .cells cs 9 m)->k ≠ f->W4.heap[k]?=some o:=fun k o ho hno hk=>by rw [o4 k hk];exact KW.out k o ho hno
    have nf:∀ (k:Nat) (cs:Array Value) (t:TypeId) (m:Nat × Nat),t ≠ 215->(w1.alloc (.cells #[.string x] 9)).heap[k]?=some (.cells cs t m)->k ≠ f:=fun k cs t m ht hh e=>by
     rw [e,PA.out.hf] at hh
     injection hh with hh
     injection hh with _ h9
     exact ht h9.symm
    have B4:Hid (Sav S w W4):=by
     have g1:Sav S w (w1.alloc (.cells #[.string x] 9)):=hBw.out.alloc _
     have g2:Sav S w W3:=g1.grown G3.out (fun k e=>Or.inr fun h9=>absurd (htb k h9) (Nat.not_lt.2 (RA.out.lt k e).1))
     rw [hW4]
     exact (g2.setCell (q:=⟨f,2,none⟩) (Or.inr HLO.out.1) _).setCell (q:=⟨f,3,none⟩) (Or.inr HLO.out.1) _
    have BW4:Sav S (w1.alloc (.cells #[.string x] 9)) W4:=by
     have g2:Sav S (w1.alloc (.cells #[.string x] 9)) W3:=(Chg.refl _ _).grown G3.out (fun k e=>Or.inr fun h9=>absurd (htb k h9) (Nat.not_lt.2 (RA.out.lt k e).1))
     rw [hW4]
     exact (g2.setCell (q:=⟨f,2,none⟩) (Or.inr HLO.out.1) _).setCell (q:=⟨f,3,none⟩) (Or.inr HLO.out.1) _
    have TD:TxtIn W4 S (.slice (some ⟨q,o+sz,none⟩) (t2.size - sz) (cap3 - sz)) (t2.extract sz t2.size):=by
     have t0:=TxtIn.drop (sz:=sz) h3 hqb hty hcp (by omega)
     rw [if_neg e] at t0
     refine t0.keep fun k cs m hh=>?_
     have hh':(w1.alloc (.cells #[.string x] 9)).heap[k]?=some (.cells cs 5 m):=((below_alloc w1 _).block k (heap_lt hh)).trans hh
     exact kk4 k _ hh' (fun cs' m' e=>by injection e with _ e2;cases e2) (nf k cs _ m (by decide) hh')
    have P4:Hid (FP w0 S W4 f gR b m1 m2 (.slice (some ⟨q,o+sz,none⟩) (t2.size - sz) (cap3 - sz)) H V (t2.extract sz t2.size) (kn2 - sz) A2 hd bg2):=by
     refine PA.out.turn hf4 TD (fun k cs t ht hh=>?_) (fun k es c hh=>?_) BW4 ?_
     ·exact kk4 k _ hh (fun cs' m' e=>by injection e with _ e2 _;subst e2;rcases ht with h | h | h | h | h <;> cases h) (nf k cs t _ (fun e=>by subst e;rcases ht with h | h | h | h | h <;> cases h) hh)
     ·exact kk4 k _ hh (fun cs' m' e=>by cases e) (fun e=>by rw [e,PA.out.hf] at hh;cases hh)
     ·rw [ByteArray.size_extract];omega
    have R4:Hid (W4.ownsRow tb 9 1 (.slice ao3 (l2.length+1) cap3') (l2.length+1) (strCells l2++[.string x])):=by
     rw [hW4]
     exact row_kp (row_kp R3.out ((Kp.refl _ _).setCell hf3 (by decide) _)) ((Kp.refl _ _).setCell ((block_setCell hf3 2 _).trans rfl) (by decide) _)
    have U4:Hid (KeepU w W4):=fun j cs m hh=>by
     have h9:=hKu.out j cs m hh
     have hh':(w1.alloc (.cells #[.string x] 9)).heap[j]?=some (.cells cs 5 m):=((below_alloc w1 _).block j (heap_lt h9)).trans h9
     exact kk4 j _ hh' (fun cs' m' e=>by injection e with _ e2;cases e2) (nf j cs _ m (by decide) hh')
    have k4:W4.cell? ⟨f,1,none⟩=some (.pointer (some ⟨b,0,none⟩)):=cell_of_block hf4 1 _ rfl
    have hnx4:=fwnext w0 W4 S f gR b m1 m2 _ H V (t2.extract sz t2.size) (kn2 - sz) A2 hd bg2 P4.out (by have:=hSm.out;omega)
    have tb4:tb<=W4.heap.size:=by rw [hW4];simp;exact Nat.le_trans LA G3.out.size
    clear KW hf3 o4 hf4 kk4 nf BW4 TD hW4 h3 hty kb
    go_upto_region 3 with fail
    rw [<- HW4.out]
    clear d2 d3 fr3
    go_wp2_with fail
    refine hnx4.mono ?_
    rintro r W5 ⟨rfl,hP5,hc5⟩
    have P5:Hid (FP w0 S W5 f gR b m1 m2 (.slice (some ⟨q,o+sz,none⟩) (t2.size - sz) (cap3 - sz)) H V (t2.extract sz t2.size) (kn2 - sz) (nextT A2 bg2).1 hd (nextT A2 bg2).2.1):=hP5
    have B5:Hid (Sav S w W5):=B4.out.trans (hc5.mono fun k _ e=>by rw [e];exact HLO.out.2)
    have R5:Hid (W5.ownsRow tb 9 1 (.slice ao3 (l2.length+1) cap3') (l2.length+1) (strCells l2++[.string x])):=by
     obtain ⟨q1,q2⟩:=R4.out
     refine ⟨q1,?_⟩
     rcases q2 with q2 | ⟨g,c',cur,hv,hg,hh,rr⟩
     ·exact Or.inl q2
     ·refine Or.inr ⟨g,c',cur,hv,hg,?_,rr⟩
      obtain ⟨ns5,g5,hW5,_⟩:=P4.out.hw
      obtain ⟨la5,hb5,_⟩:=hW5.blk
      rw [hc5.block g (heap_lt hh) (fun e=>by rw [e,hb5] at hh;injection hh with hh;injection hh with _ h2;cases h2)]
      exact hh
    have U5:Hid (KeepU w W5):=fun j cs m hh=>by
     have h9:=U4.out j cs m hh
     obtain ⟨ns5,g5,hW5,_⟩:=P4.out.hw
     obtain ⟨la5,hb5,_⟩:=hW5.blk
     rw [hc5.block j (heap_lt h9) (fun e=>by rw [e,hb5] at h9;injection h9 with h9;injection h9 with _ h2;cases h2)]
     exact h9
    have tb5:tb<=W5.heap.size:=Nat.le_trans tb4 hc5.size
    have S5:=nextT_sum A2 bg2
    have L5:=nextT_len A2 bg2
    have hSm':=hSm.out
    have hNn':=hNn.out (by omega)
    have hLn':=hLn.out
    rw [if_neg (by omega)] at hLn'
    have E5:Hid (tellC n (nextT A2 bg2).1 (nextT A2 bg2).2.1 (t2.extract sz t2.size) (l2++[x]) (nextT A2 bg2).2.2=G):=by
     show _=_
     rw [<- hTc.out,HX.out]
     unfold tellC
     rw [if_neg (show ¬ sz=0 by omega),tellP_succ]
     rfl
    clear hnx4 hP5 hc5 P4 R4 hSm hTc hNn hLn
    generalize nextT A2 bg2=N5 at *
    obtain ⟨A5,bg5,sz5⟩:=N5
    simp only at *
    go_wp2_with fail
    go_roundg (A5.length+(if sz5=0 then 0 else 1))
    case measure =>
     try rw [if_neg (show ¬ sz=0 by omega)]
     by_cases e5:sz5=0
     ·rw [if_pos e5];omega
     ·rw [if_neg e5];have:=L5.2 (by omega);omega
    case rel =>
     refine ⟨A5,bg5,sz5,n,kn2 - sz,t2.extract sz t2.size,l2++[x],_,ao3,cap3',rfl,by rw [List.length_append];rfl,rfl,P5,by show _=_;omega,E5,fun h=>by have:=L5.2 h;omega,?_,?_,B5,tb5,U5,by show _<=_;rw [List.length_append];have:=hLl.out;simp;omega,fun h9=>by rw [List.length_append] at h9;have:=hLl.out;simp at h9;omega⟩
     ·rw [List.length_append,strCells_snoc]
      exact R5
     ·show _<=_
      rw [List.length_append]
      by_cases e5:sz5=0
      ·rw [if_pos e5];have:=L5.1;simp;omega
      ·rw [if_neg e5];have:=L5.2 (by omega);simp;omega
structure FS where
 A:List AP
 hd:Nat
 bg:Nat
 txt:ByteArray
 kn:Nat
 told:List ByteArray
def knowS (H:List Hd) (V:List Vw) (k n:Nat) (s:FS):FS:={ s with A:=s.A.map (mvA V k)++[stA V n (stH H (hdN H s.hd k))],hd:=hdN H s.hd k,kn:=s.kn+n }
def tellS (s:FS):FS:=⟨(tellP (s.A.length+2) s.A s.bg s.txt s.told).1,s.hd,(tellP (s.A.length+2) s.A s.bg s.txt s.told).2.1,(tellP (s.A.length+2) s.A s.bg s.txt s.told).2.2.1,sumA (tellP (s.A.length+2) s.A s.bg s.txt s.told).1+(tellP (s.A.length+2) s.A s.bg s.txt s.told).2.1,(tellP (s.A.length+2) s.A s.bg s.txt s.told).2.2.2⟩
def FS.rest (s:FS):ByteArray:=s.txt.extract s.kn s.txt.size
inductive TakeR (H:List Hd) (V:List Vw) (L:List (Int × Int × Nat)):FS->FS->Prop where
 | stop {s:FS} (h:fullS s.rest=false):TakeR H V L s s
 | step {s s2:FS} {k n:Nat} (h:fullS s.rest=true) (hc:CharIs L (s.rest.extract 0 (min s.rest.size 4)) k n) (hr:TakeR H V L (tellS (knowS H V k n s)) s2):TakeR H V L s s2
def PosA (A:List AP):Prop:=∀ a ∈ A,1<=a.1
theorem PosA.len {A:List AP} (h:PosA A):A.length<=sumA A:=by
 induction A with
 | nil=>exact Nat.le_refl _
 | cons a A ih =>
  have h1:=ih fun x hx=>h x (List.mem_cons_of_mem _ hx)
  have h2:=h a List.mem_cons_self
  unfold sumA at *
  simp
  omega
theorem nextT_pos:∀ (A:List AP) (bg:Nat),PosA A->PosA (nextT A bg).1:=by
 intro A
 induction A with
 | nil=>intro bg h;exact h
 | cons a A ih =>
  intro bg h
  have ht:PosA A:=fun x hx=>h x (List.mem_cons_of_mem _ hx)
  obtain ⟨sz,s⟩:=a
  cases s with
  | inl v=>exact h
  | inr c =>
   cases c with
   | true=>exact ht
   | false=>exact ih (bg+sz) ht
theorem tellP_pos:∀ (n:Nat) (A:List AP) (bg:Nat) (t:ByteArray) (l:List ByteArray),PosA A->PosA (tellP n A bg t l).1:=by
 intro n
 induction n with
 | zero=>intro A bg t l h;exact h
 | succ n ih =>
  intro A bg t l h
  rw [tellP]
  split
  ·exact nextT_pos A bg h
  ·exact ih _ _ _ _ (nextT_pos A bg h)
theorem tellP_diff:∀ (n:Nat) (A:List AP) (bg:Nat) (t:ByteArray) (l:List ByteArray),sumA A+bg<=t.size->sumA (tellP n A bg t l).1+(tellP n A bg t l).2.1<=(tellP n A bg t l).2.2.1.size/\(tellP n A bg t l).2.2.1.size+(sumA A+bg)=t.size+(sumA (tellP n A bg t l).1+(tellP n A bg t l).2.1):=by
 intro n
 induction n with
 | zero=>intro A bg t l h;exact ⟨h,rfl⟩
 | succ n ih =>
  intro A bg t l h
  have hs:=nextT_sum A bg
  rw [tellP]
  split
  ·show sumA (nextT A bg).1+(nextT A bg).2.1<=t.size/\t.size+(sumA A+bg)=t.size+(sumA (nextT A bg).1+(nextT A bg).2.1)
   omega
  ·have hz:(t.extract (nextT A bg).2.2 t.size).size=t.size - (nextT A bg).2.2:=by rw [ByteArray.size_extract];omega
   have:=ih (nextT A bg).1 (nextT A bg).2.1 (t.extract (nextT A bg).2.2 t.size) (l++[t.extract 0 (nextT A bg).2.2]) (by rw [hz];omega)
   rw [hz] at this
   refine ⟨this.1,?_⟩
   have h2:=this.2
   omega
theorem tellP_room:∀ (n:Nat) (A:List AP) (bg:Nat) (t:ByteArray) (l:List ByteArray),sumA A+bg<=t.size->l.length<=(tellP n A bg t l).2.2.2.length/\(tellP n A bg t l).2.2.2.length+(tellP n A bg t l).2.2.1.size<=l.length+t.size/\((tellP n A bg t l).2.2.2.length=l.length->(tellP n A bg t l).2.2.1=t):=by
 intro n
 induction n with
 | zero=>intro A bg t l _;exact ⟨Nat.le_refl _,Nat.le_refl _,fun _=>rfl⟩
 | succ n ih =>
  intro A bg t l h
  have hs:=nextT_sum A bg
  rw [tellP]
  split
  ·exact ⟨Nat.le_refl _,Nat.le_refl _,fun _=>rfl⟩
  ·have hz:(t.extract (nextT A bg).2.2 t.size).size=t.size - (nextT A bg).2.2:=by rw [ByteArray.size_extract];omega
   have:=ih (nextT A bg).1 (nextT A bg).2.1 (t.extract (nextT A bg).2.2 t.size) (l++[t.extract 0 (nextT A bg).2.2]) (by rw [hz];omega)
   rw [hz,List.length_append,List.length_singleton] at this
   refine ⟨by omega,by omega,fun e=>?_⟩
   omega
end Go.Proofs.YtodagkkjfipbgaaGreatDoor
