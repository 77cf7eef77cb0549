import Derived.Test.YtodagkkjfipbgaaGreatDoorA37toA38
namespace Go.Proofs.YtodagkkjfipbgaaGreatDoor
open Go.RowKit
theorem row_put1 {w:World} {base k cap g i:Nat} {e:TypeId} {us:List Value} (h:w.ownsRow base e 1 (.slice (some ⟨g,0,none⟩) k cap) k us) (u:Value):(w.setCell ⟨g,i,none⟩ u).ownsRow base e 1 (.slice (some ⟨g,0,none⟩) k cap) k (us.set i u):=by
 refine ⟨by rw [List.length_set];exact h.1,?_⟩
 rcases h.2 with ⟨hv,_⟩ | ⟨g',cap',cur,hv,hg,hh,h1,h2,h3,h4⟩
 ·cases hv
 ·cases hv
  refine Or.inr ⟨g,cap,_,rfl,hg,block_setCell hh i u,h1,h2,by simpa using h3,?_⟩
  rw [Array.toList_setIfInBounds,List.take_set,h4]
theorem grown_put {w:World} {g i:Nat} (u:Value):w.grownBy (w.setCell ⟨g,i,none⟩ u) (some g):=⟨rfl,rfl,rfl,by rw [setCell_size];exact Nat.le_refl _,fun k _ hk=>Below.heap_setCell _ _ _ _ (fun e=>hk (by rw [e]))⟩
theorem marks_set {i:Nat} (m:ByteArray) {cs:List Value} (hi:i<cs.length):(marks i m++cs.drop i).set i (.string m)=marks (i+1) m++cs.drop (i+1):=by
 rw [List.set_append_right _ _ (by rw [marks_len];exact Nat.le_refl _),marks_len,Nat.sub_self,List.drop_eq_getElem_cons hi,List.set_cons_zero,← marks_app i 1]
 rw [List.append_assoc];rfl
def SameLow (lim:Nat) (w w':World):Prop:=∀ (k:Nat) (cs:Array Value) (t:TypeId) (m:Nat × Nat),k<lim→(t=9∨t=30)→w.heap[k]?=some (.cells cs t m)→w'.heap[k]?=some (.cells cs t m)
theorem SameLow.trans {lim:Nat} {a b c:World} (h:SameLow lim a b) (k:SameLow lim b c):SameLow lim a c:=fun i cs t m hi ht hh=>k i cs t m hi ht (h i cs t m hi ht hh)
theorem SameLow.below {lim:Nat} {w w':World} (h:Below w.heap.size w w'):SameLow lim w w':=fun k cs t m _ _ hh=>by rw [h.block k (heap_lt hh)];exact hh
theorem SameLow.grown {lim:Nat} {w w':World} {r:Option Nat} (h:w.grownBy w' r) (hr:∀ k,r=some k→lim≤k):SameLow lim w w':=fun k cs t m hk _ hh=>by
 rw [h.block k (heap_lt hh) (fun e=>by have:=hr k e.symm;omega)];exact hh
theorem SameLow.other {lim g:Nat} {w w':World} {cs0:Array Value} {t0:TypeId} {m0:Nat × Nat} (h:w.grownBy w' (some g)) (hg:w.heap[g]?=some (.cells cs0 t0 m0)) (ht:¬ (t0=9∨t0=30)):SameLow lim w w':=fun k cs t m _ ht' hh=>by
 rw [h.block k (heap_lt hh) (fun e=>by
  cases e
  rw [hg] at hh
  cases hh
  exact ht ht')];exact hh
def MRowK (w:World) (lim:Nat) (m:ByteArray) (v:Value):Prop:=∃ k,k≤3000000∧w.ownsRow 0 9 1 v k (marks k m)∧∀ b,v.ownBlock=some b→b<lim
def FourM (w:World) (lim:Nat) (m:ByteArray) (u:Value):Prop:=∃ q v0 v1 v2 v3,u=.slice (some ⟨q,0,none⟩) 4 4∧q<lim∧w.heap[q]?=some (.cells #[v0,v1,v2,v3] 30 (0,0))∧MRowK w lim m v0∧MRowK w lim m v1∧MRowK w lim m v2∧MRowK w lim m v3
theorem MRowK.keep {w w':World} {lim:Nat} {m:ByteArray} {v:Value} (h:MRowK w lim m v) (hs:SameLow lim w w'):MRowK w' lim m v:=by
 obtain ⟨k,hk,ho,hb⟩:=h
 refine ⟨k,hk,⟨ho.1,?_⟩,hb⟩
 rcases ho.2 with hn | ⟨g,cap,cur,rfl,h1,h2,h3⟩
 ·exact Or.inl hn
 ·exact Or.inr ⟨g,cap,cur,rfl,h1,hs g _ _ _ (hb g rfl) (Or.inl rfl) h2,h3⟩
theorem FourM.keep {w w':World} {lim:Nat} {m:ByteArray} {u:Value} (h:FourM w lim m u) (hs:SameLow lim w w'):FourM w' lim m u:=by
 obtain ⟨q,v0,v1,v2,v3,h1,h2,h3,h4,h5,h6,h7⟩:=h
 exact ⟨q,v0,v1,v2,v3,h1,h2,hs q _ _ _ h2 (Or.inr rfl) h3,h4.keep hs,h5.keep hs,h6.keep hs,h7.keep hs⟩
theorem MRowK.up {w:World} {lim lim':Nat} {m:ByteArray} {v:Value} (h:MRowK w lim m v) (hl:lim≤lim'):MRowK w lim' m v:=by
 obtain ⟨k,hk,ho,hb⟩:=h
 exact ⟨k,hk,ho,fun b e=>Nat.lt_of_lt_of_le (hb b e) hl⟩
theorem FourM.up {w:World} {lim lim':Nat} {m:ByteArray} {u:Value} (h:FourM w lim m u) (hl:lim≤lim'):FourM w lim' m u:=by
 obtain ⟨q,v0,v1,v2,v3,h1,h2,h3,h4,h5,h6,h7⟩:=h
 exact ⟨q,v0,v1,v2,v3,h1,by omega,h3,h4.up hl,h5.up hl,h6.up hl,h7.up hl⟩
def BookIn (w:World) (base lim bb n:Nat):Prop:=base≤bb∧∃ vB us,w.heap[bb]?=some (.cells #[vB] 42 (0,0))∧w.ownsRow base 116 1 vB n us∧∀ (i:Nat) (u:Value),us[i]?=some u→FourM w lim (markB i) u
theorem BookIn.below {w w':World} {base lim bb n:Nat} (h:BookIn w base lim bb n) (hb:Below w.heap.size w w'):BookIn w' base lim bb n:=by
 obtain ⟨h0,vB,us,h1,h2,h3⟩:=h
 exact ⟨h0,vB,us,by rw [hb.block bb (heap_lt h1)];exact h1,row_kp h2 (Kp.below hb),fun i u hu=>(h3 i u hu).keep (SameLow.below hb)⟩
theorem BookIn.up {w:World} {base lim lim' bb n:Nat} (h:BookIn w base lim bb n) (hl:lim≤lim'):BookIn w base lim' bb n:=by
 obtain ⟨h0,vB,us,h1,h2,h3⟩:=h
 exact ⟨h0,vB,us,h1,h2,fun i u hu=>(h3 i u hu).up hl⟩
theorem SameLow.row {lim base n:Nat} {w w':World} {v:Value} {us:List Value} (h:w.ownsRow base 116 1 v n us) (hg:w.grownBy w' v.ownBlock):SameLow lim w w':=by
 rcases h.2 with ⟨rfl,_⟩ | ⟨g,cap,cur,rfl,_,hh,_⟩
 ·exact SameLow.grown hg (fun k e=>by cases e)
 ·exact SameLow.other hg hh (by decide)
theorem own_ne {w:World} {base n size bb:Nat} {v:Value} {us:List Value} {e t:TypeId} {cs:Array Value} {m:Nat × Nat} (h:w.ownsRow base e size v n us) (hb:w.heap[bb]?=some (.cells cs t m)) (ht:e ≠ t):some bb ≠ v.ownBlock:=by
 intro k
 rcases h.2 with ⟨rfl,_⟩ | ⟨g,cap,cur,rfl,_,hh,_⟩
 ·cases k
 ·cases k
  rw [hb] at hh
  cases hh
  exact ht rfl
theorem own_kept {w w':World} {base b n n' size size':Nat} {v l:Value} {us xs:List Value} {e e':TypeId} (h:w.ownsRow base e size v n us) (hl:w.ownsRow b e' size' l n' xs) (hg:w.grownBy w' l.ownBlock) (ht:e' ≠ e):w'.ownsRow base e size v n us:=by
 refine h.kept hg ?_
 rcases h.2 with ⟨rfl,_⟩ | ⟨g,cap,cur,rfl,_,hh,_⟩
 ·exact Or.inl rfl
 ·exact Or.inr (own_ne hl hh ht)
theorem keep_end {w w1 w2 w3 w4:World} {base N bb n k q:Nat} {l vB v' x1 x2 x3:Value} {cs us:List Value} {m:ByteArray} (hN:N≤w.heap.size) (hbN:base≤N) (hk:k≤2200000) (hv:w.ownsRow N 9 1 l k cs) (hbk:w.heap[bb]?=some (.cells #[vB] 42 (0,0))) (hrow:w.ownsRow base 116 1 vB n us) (hfour:∀ (i:Nat) (u:Value),us[i]?=some u→FourM w N (markB i) u) (hbb:base≤bb) (b1:Below w.heap.size w w1) (hg:w1.grownBy w2 l.ownBlock) (hg2:w2.grownBy w3 l.ownBlock) (hm:m=markB n)
  (hl3:w3.ownsRow 0 9 1 l k (marks k m)) (r1:w3.ownsRow 0 9 1 x1 (k+1) (marks (k+1) m)) (r2:w3.ownsRow 0 9 1 x2 (k+2) (marks (k+2) m)) (r3:w3.ownsRow 0 9 1 x3 (k+6) (marks (k+6) m)) (hq:w3.heap[q]?=some (.cells #[l,x1,x2,x3] 30 (0,0)))
  (h4:w3.grownBy w4 vB.ownBlock) (o4:w4.ownsRow base 116 1 v' (n+1) (us++[.slice (some ⟨q,0,none⟩) 4 4])):BookIn (w4.setCell ⟨bb,0,none⟩ v') base (w4.setCell ⟨bb,0,none⟩ v').heap.size bb (n+1)∧Below base w (w4.setCell ⟨bb,0,none⟩ v'):=by
 have hv1:=row_kp hv (Kp.below b1)
 have hrow1:=row_kp hrow (Kp.below b1)
 have hbk1:w1.heap[bb]?=some (.cells #[vB] 42 (0,0)):=by rw [b1.block bb (heap_lt hbk)];exact hbk
 have g13:=grown_trans hg hg2
 have hrow3:=own_kept hrow1 hv1 g13 (by decide)
 have hbk3:w3.heap[bb]?=some (.cells #[vB] 42 (0,0)):=by rw [g13.block bb (heap_lt hbk1) (own_ne hv1 hbk1 (by decide))];exact hbk1
 have hbk4:w4.heap[bb]?=some (.cells #[vB] 42 (0,0)):=by rw [h4.block bb (heap_lt hbk3) (own_ne hrow3 hbk3 (by decide))];exact hbk3
 have hlN:∀ j,l.ownBlock=some j→N≤j:=fun j e=>(hv.lt j e).1
 have sz:w3.heap.size≤(w4.setCell ⟨bb,0,none⟩ v').heap.size:=by rw [setCell_size];exact h4.size
 have s45:∀ lim,SameLow lim w4 (w4.setCell ⟨bb,0,none⟩ v'):=fun lim=>SameLow.other (grown_put v') hbk4 (by decide)
 have s35:∀ lim,SameLow lim w3 (w4.setCell ⟨bb,0,none⟩ v'):=fun lim=>(SameLow.row hrow3 h4).trans (s45 lim)
 have s05:SameLow N w (w4.setCell ⟨bb,0,none⟩ v'):=((SameLow.below b1).trans (SameLow.grown g13 hlN)).trans (s35 N)
 have mr:∀ {x:Value} {j:Nat},j≤3000000→w3.ownsRow 0 9 1 x j (marks j m)→MRowK w3 w3.heap.size m x:=fun hj h=>⟨_,hj,h,fun b e=>(h.lt b e).2⟩
 have hnew:FourM (w4.setCell ⟨bb,0,none⟩ v') (w4.setCell ⟨bb,0,none⟩ v').heap.size (markB n) (.slice (some ⟨q,0,none⟩) 4 4):=by
  rw [← hm]
  exact (FourM.keep ⟨q,l,x1,x2,x3,rfl,heap_lt hq,hq,mr (by omega) hl3,mr (by omega) r1,mr (by omega) r2,mr (by omega) r3⟩ (s35 _)).up sz
 have h13:w1.heap.size≤w3.heap.size:=g13.size
 have hb1:=b1.size
 have ul:us.length=n:=by have:=hrow.1;omega
 refine ⟨⟨hbb,v',us++[.slice (some ⟨q,0,none⟩) 4 4],(block_setCell hbk4 0 _).trans rfl,own_kept o4 (l:=.slice (some ⟨bb,0,none⟩) 1 1) (b:=0) (n':=1) (size':=1) (xs:=[vB]) ⟨rfl,Or.inr ⟨bb,1,#[vB],rfl,Nat.zero_le _,hbk4,Nat.le_refl _,by decide,rfl,rfl⟩⟩ (grown_put v') (by decide),fun i u hu=>?_⟩,?_⟩
 ·rcases snoc_at hu with ⟨h1,_⟩ | ⟨h1,rfl⟩
  ·exact ((hfour i u h1).keep s05).up (by omega)
  ·rw [h1,ul];exact hnew
 ·refine ⟨?_,?_,?_,by omega,fun j hj=>?_⟩
  ·show w4.os=_;rw [h4.os,g13.os,b1.os]
  ·show w4.tape=_;rw [h4.tape,g13.tape,b1.tape]
  ·show w4.output=_;rw [h4.output,g13.output,b1.output]
  ·rw [show (w4.setCell ⟨bb,0,none⟩ v').heap[j]?=w4.heap[j]? from Below.heap_setCell _ _ _ _ (show j ≠ bb by omega),h4.block j (by omega) (fun e=>by have:=(hrow.lt j e.symm).1;omega),g13.block j (by omega) (fun e=>by have:=hlN j e.symm;omega),b1.block j (by omega)]
theorem wp_nil {o:Oper} {a:Act} {w:World} {K:Act→World→Prop} {Q:Exit→Act→World→Prop} {x:Operand} {p:Addr} (hop:o.op=.nilCheck x) (hx:a.eval x=.pointer (some p)) (hK:K (a.put o.dst (.pointer (some p))) w):o.wp Tryz.prog a w K Q:=by
 unfold Oper.wp execOp
 simp only [hop,hx]
 go_simp
 exact hK
theorem wp_field0 {o:Oper} {a:Act} {w:World} {K:Act→World→Prop} {Q:Exit→Act→World→Prop} {x:Operand} {b:Nat} (hop:o.op=.fieldAddr 42 x 0) (hx:a.eval x=.pointer (some ⟨b,0,none⟩)) (hK:K (a.put o.dst (.pointer (some ⟨b,0,none⟩))) w):o.wp Tryz.prog a w K Q:=by
 unfold Oper.wp execOp
 simp only [hop,hx]
 go_simp
 exact hK
theorem wp_store40 {o:Oper} {a:Act} {w:World} {K:Act→World→Prop} {Q:Exit→Act→World→Prop} {x y:Operand} {b n c:Nat} {ao:Option Addr} {u:Value} (hop:o.op=.store 40 x y) (hd:o.dst=none) (hx:a.eval x=.pointer (some ⟨b,0,none⟩)) (hy:a.eval y=.slice ao n c) (hc:w.cell? ⟨b,0,none⟩=some u) (hf:w.frozen? ⟨b,0,none⟩=false) (hK:K a (w.setCell ⟨b,0,none⟩ (.slice ao n c))):o.wp Tryz.prog a w K Q:=by
 unfold Oper.wp execOp
 simp only [hop,hx,hy]
 go_simp
 exact hK
theorem Tryz.infoB3:(Tryz.prog.info? 116).map (fun i=>(i.zero,i.size,i.bytes))=some (some (.slice none 0 0),1,24):=by kernel_rfl
theorem Tryz.undB3:Tryz.prog.underlying 40=some (.slice 116):=by kernel_rfl
set_option maxRecDepth 100000 in
set_option maxHeartbeats 8000000 in
theorem keep_any (w:World) (base N bb n k:Nat) (v:Value) (cs:List Value) (hB:BookIn w base N bb n) (hv:w.ownsRow N 9 1 v k cs) (hN:N≤w.heap.size) (hbN:base≤N) (hk:k≤2200000) (hn:n≤2000000) :
  Calls Tryz.prog 22 #[.pointer (some ⟨bb,0,none⟩),v] w fun r w'=>r=.returned (.tuple #[])∧BookIn w' base w'.heap.size bb (n+1)∧Below base w w':=by
 obtain ⟨ao,cap,rfl⟩:=row_shape hv
 obtain ⟨hbb,vB,us,hblk,hrow,hfour⟩:=hB
 obtain ⟨aoB,capB,rfl⟩:=row_shape hrow
 have hc0:=cell_of_block hblk 0 _ rfl
 have HV:Hid (w.ownsRow N 9 1 (.slice ao k cap) k cs):=hv
 have HBK:Hid (w.heap[bb]?=some (.cells #[.slice aoB n capB] 42 (0,0))):=hblk
 have HR:Hid (w.ownsRow base 116 1 (.slice aoB n capB) n us∧(∀ (i:Nat) (u:Value),us[i]?=some u→FourM w N (markB i) u)∧base≤bb):=⟨hrow,hfour,hbb⟩
 clear hv hblk hrow hfour hbb
 have hmk:=markB_any n (by omega) w
 obtain ⟨m,hm⟩:∃ m,m=markB n:=⟨_,rfl⟩
 rw [← hm] at hmk
 have HM:Hid (m=markB n):=hm
 clear hm
 go_enter Tryz.func22,Tryz.ntmps22
 go_wp2_with fail
 refine hmk.mono ?_
 rintro r w1 ⟨rfl,b1⟩
 have B1:Hid (Below w.heap.size w w1):=b1
 clear b1 hmk hc0
 go_wp2_with fail
 go_loopg [5] k (fun gh iv wx=>∃ i:Nat,i≤k∧gh=k - i∧iv=.int .i64 i∧Hid (wx.ownsRow N 9 1 (.slice ao k cap) k (marks i m++cs.drop i))∧Hid (w1.grownBy wx (Value.slice ao k cap).ownBlock))
 case atStart=>exact ⟨0,Nat.zero_le _,rfl,rfl,row_kp HV.out (Kp.below B1.out),grown_refl _ _⟩
 case round =>
  obtain ⟨i,hi,rfl,rfl,hO,hG⟩:=hrel
  obtain ⟨w2,hw2⟩:∃ w2,w2=wr:=⟨wr,rfl⟩
  subst hw2
  by_cases hlt:i<k
  ·have hcl:Hid (cs.length=k):=by have:=HV.out.1;show _=_;omega
   obtain ⟨u,hu⟩:∃ u,(marks i m++cs.drop i)[i]?=some u:=⟨_,List.getElem?_eq_getElem (by rw [List.length_append,marks_len,List.length_drop,hcl.out];omega)⟩
   obtain ⟨q,hq,_,hc⟩:=row_at hO.out hu (by omega)
   subst hq
   have hfr:w2.frozen? ⟨q,i,none⟩=false:=by
    rcases hO.out.2 with ⟨e,_⟩ | ⟨g',cap',cur,e,_,hh,_⟩
    ·cases e
    ·cases e;exact free_of_block hh i
   have NX:Hid ((w2.setCell ⟨q,i,none⟩ (.string m)).ownsRow N 9 1 (.slice (some ⟨q,0,none⟩) k cap) k (marks (i+1) m++cs.drop (i+1))):=by
    have:=row_put1 (i:=i) hO.out (.string m)
    rw [marks_set m (by rw [hcl.out];exact hlt)] at this
    exact this
   have NG:Hid (w1.grownBy (w2.setCell ⟨q,i,none⟩ (.string m)) (some q)):=grown_trans hG.out (grown_put _)
   clear hu hO hG hcl
   go_wp2_with fail
   go_roundg (k - (i+1))
   case measure=>omega
   case rel=>exact ⟨i+1,by omega,rfl,by go_num,NX,NG⟩
  ·obtain rfl:i=k:=by omega
   have hcl:cs.length=i:=by have:=HV.out.1;omega
   have hO2:Hid (w2.ownsRow N 9 1 (.slice ao i cap) i (marks i m)):=by
    have:=hO.out
    rw [← hcl,List.drop_length,List.append_nil,hcl] at this
    exact this
   clear hO hcl
   go_wp2_with fail
   refine wp_region_any (by kernel_rfl) ?_
   change wpAny _ _ _ _ _ _ _ (World.drew _)
   have hne:some bb ≠ (Value.slice ao i cap).ownBlock:=own_ne HV.out HBK.out (by decide)
   have hb1:w1.heap[bb]?=some (.cells #[.slice aoB n capB] 42 (0,0)):=by rw [B1.out.block bb (heap_lt HBK.out)];exact HBK.out
   have hb2:w2.drew.heap[bb]?=some (.cells #[.slice aoB n capB] 42 (0,0)):=by
    show w2.heap[bb]?=_
    rw [hG.out.block bb (heap_lt hb1) hne];exact hb1
   refine keep_takes (bb:=bb) (l:=.slice ao i cap) (vB:=.slice aoB n capB) (n:=i) (m:=m) (by kernel_rfl) ?_ ⟨rfl,rfl,fun x hx=>?_⟩ fun a0 h0=>keep_reg (by kernel_rfl) hb2 (row_base hO2.out (Nat.zero_le _)) (by omega) h0 ?_
   ·intro c a a' w e h
    exact ⟨e ▸ h.1,h.2⟩
   ·simp only [List.mem_cons,List.not_mem_nil,or_false] at hx
    rcases hx with rfl | rfl | rfl <;> rfl
   ·intro f a w3 f4 f9 f14 f23 f24 f25 hI
    obtain ⟨q,q1,q2,q3⟩:=hI.p24 f24
    obtain ⟨r,r1,r2,r3⟩:=hI.p25 f25
    have hg2:w2.grownBy w3 (Value.slice ao i cap).ownBlock:=⟨hI.grown.os,hI.grown.tape,hI.grown.output,hI.grown.size,hI.grown.block⟩
    have hv1:=row_kp HV.out (Kp.below B1.out)
    have hr3:w3.ownsRow base 116 1 (.slice aoB n capB) n us:=own_kept (row_kp HR.out.1 (Kp.below B1.out)) hv1 (grown_trans hG.out hg2) (by decide)
    have hsz:base≤w3.heap.size:=by
     have:=B1.out.size
     have:=(grown_trans hG.out hg2).size
     omega
    refine wpAny_ready (rs:=[26]) (by kernel_rfl) (by simp) ?_
    refine AllReady.cons rfl (fun K hK=>?_) AllReady.nil
    refine step_push2 rfl (.tmp 26) (.tmp 47) 40 rfl base 116 (.slice none 0 0) 1 24 Tryz.infoB3 Tryz.undB3 rfl (by decide) (.slice aoB n capB) n us (hI.p4 f4) hr3 r 1 [.slice (some ⟨q,0,none⟩) 4 4] r2 rfl ?_ ?_ (by omega) (by decide) hsz ?_
    ·intro j u hu
     rw [q2] at r3
     rcases j with _ | j
     ·simp at hu;subst hu;exact cell_of_block r3 0 _ rfl
     ·simp at hu
    ·intro u hu;simp at hu;subst hu;rfl
    ·intro v' w4 o4 g4 _
     refine hK _ _ ?_
     clear hK K
     obtain ⟨ao4,c4,rfl⟩:=row_shape o4
     have hb3:w3.heap[bb]?=some (.cells #[.slice aoB n capB] 42 (0,0)):=by rw [hI.grown.block bb (heap_lt hb2) hne];exact hb2
     have hb4:w4.heap[bb]?=some (.cells #[.slice aoB n capB] 42 (0,0)):=by rw [g4.block bb (heap_lt hb3) (own_ne hr3 hb3 (by decide))];exact hb3
     have hts:48<a.tmps.size:=by rw [hI.ts];decide
     have e22:(a.put (some 48) (.slice ao4 (n+1) c4)).eval (.tmp 22)=.pointer (some ⟨bb,0,none⟩):=by rw [eval_put hts,if_neg (by decide)];exact hI.ptr 22 (by decide)
     have e48:(a.put (some 48) (.slice ao4 (n+1) c4)).eval (.tmp 48)=.slice ao4 (n+1) c4:=by rw [eval_put hts,if_pos rfl]
     have hs4:(a.put (some 48) (.slice ao4 (n+1) c4)).tmps.size=51:=by show (a.tmps.setIfInBounds 48 _).size=51;rw [Array.size_setIfInBounds];exact hI.ts
     have d4:(a.put (some 48) (.slice ao4 (n+1) c4)).defers=[]:=hI.df
     have KE:=keep_end hN hbN hk HV.out HBK.out HR.out.1 HR.out.2.1 HR.out.2.2 B1.out hG.out hg2 HM.out (hI.keep 0 _ _ (row_base hO2.out (Nat.zero_le _))) (hI.row (i:=9) (d:=31) (k:=i+1) (by simp [kRows]) f9) (hI.row (i:=14) (d:=36) (k:=i+2) (by simp [kRows]) f14) (hI.row (i:=23) (d:=45) (k:=i+6) (by simp [kRows]) f23) q3 g4 o4
     have hcw:=cell_of_block hb4 0 _ rfl
     have hfw:=free_of_block hb4 0
     clear hb1 hb2 hb3 hb4 g4 o4 hr3 hv1 hg2 hI
     show wpAny _ _ _ _ 3 _ (a.put (some 48) (.slice ao4 (n+1) c4)) w4
     generalize a.put (some 48) (.slice ao4 (n+1) c4)=A at *
     refine wpAny_ready (rs:=[27]) (by kernel_rfl) (by simp) (fun j hj=>?_)
     obtain rfl:j=27:=by simpa using hj
     refine wpOp_of (d:=some 49) (p:=.nilCheck (.tmp 22)) (by kernel_rfl) fun o e1 e2=>wp_nil e2 e22 ?_
     rw [e1]
     have f48:(A.put (some 49) (.pointer (some ⟨bb,0,none⟩))).eval (.tmp 48)=.slice ao4 (n+1) c4:=by rw [eval_put (by rw [hs4];decide),if_neg (by decide)];exact e48
     have f49:(A.put (some 49) (.pointer (some ⟨bb,0,none⟩))).eval (.tmp 49)=.pointer (some ⟨bb,0,none⟩):=by rw [eval_put (by rw [hs4];decide),if_pos rfl]
     have hs5:(A.put (some 49) (.pointer (some ⟨bb,0,none⟩))).tmps.size=51:=by show (A.tmps.setIfInBounds 49 _).size=51;rw [Array.size_setIfInBounds];exact hs4
     have d5:(A.put (some 49) (.pointer (some ⟨bb,0,none⟩))).defers=[]:=d4
     generalize A.put (some 49) (.pointer (some ⟨bb,0,none⟩))=A5 at *
     refine wpAny_ready (rs:=[28]) (by kernel_rfl) (by simp) (fun j hj=>?_)
     obtain rfl:j=28:=by simpa using hj
     refine wpOp_of (d:=some 50) (p:=.fieldAddr 42 (.tmp 49) 0) (by kernel_rfl) fun o e1 e2=>wp_field0 e2 f49 ?_
     rw [e1]
     have g48:(A5.put (some 50) (.pointer (some ⟨bb,0,none⟩))).eval (.tmp 48)=.slice ao4 (n+1) c4:=by rw [eval_put (by rw [hs5];decide),if_neg (by decide)];exact f48
     have g50:(A5.put (some 50) (.pointer (some ⟨bb,0,none⟩))).eval (.tmp 50)=.pointer (some ⟨bb,0,none⟩):=by rw [eval_put (by rw [hs5];decide),if_pos rfl]
     have d6:(A5.put (some 50) (.pointer (some ⟨bb,0,none⟩))).defers=[]:=d5
     generalize A5.put (some 50) (.pointer (some ⟨bb,0,none⟩))=A6 at *
     refine wpAny_ready (rs:=[29]) (by kernel_rfl) (by simp) (fun j hj=>?_)
     obtain rfl:j=29:=by simpa using hj
     refine wpOp_of (d:=none) (p:=.store 40 (.tmp 50) (.tmp 48)) (by kernel_rfl) fun o e1 e2=>wp_store40 e2 e1 g50 g48 hcw hfw ?_
     refine wpAny_done (by kernel_rfl) ?_ _
     exact ⟨d6,_,results_none rfl _ _ _,rfl,KE⟩
end Go.Proofs.YtodagkkjfipbgaaGreatDoor
