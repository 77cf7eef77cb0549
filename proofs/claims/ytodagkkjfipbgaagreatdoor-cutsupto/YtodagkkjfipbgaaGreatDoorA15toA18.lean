import Derived.Deep.RegionWith
import Derived.Test.YtodagkkjfipbgaaGreatDoorW8toA14
namespace Go.Proofs.YtodagkkjfipbgaaGreatDoor
open Go.RowKit
theorem emp_alts (t:Tr):t.emp=t.alts.any Tr.emp:=by
 induction t with
 | a p q ihp ihq=>simp only [Tr.emp,Tr.alts,List.any_cons,ihq]
 | z=>rfl
 | _=>simp [Tr.alts]
theorem any_take (l:List Tr) (j:Nat) (h:j<l.length):(l.take (j+1)).any Tr.emp=((l.take j).any Tr.emp || l[j].emp):=by
 rw [List.take_succ_eq_append_getElem h,List.any_append,List.any_cons,List.any_nil,Bool.or_false]
set_option maxHeartbeats 2000000 in
theorem isEmpty_any (d:Nat):∀ (w:World) (v:Value) (t:Tr),IsRe d w v t.rx→t.ok→t.hc →
  Calls Tryz.prog 115 #[v] w fun e w'=>e=.returned (.bool t.emp)∧Below w.heap.size w w':=by
 induction d with
 | zero=>intro w v t h;exact h.elim
 | succ d ih =>
  intro w v t h hok hhc
  obtain ⟨p,vL,e,he,rfl,c0,c1,c2,c3,hp,hr,hw,h1,h2⟩:=h.open
  obtain rfl:d=e:=by omega
  clear he h1 h2 hw c1 c3 h
  cases t with
  | z =>
   have c0':w.cell? ⟨p,0,none⟩=some (.int .u8 122):=c0
   clear c0 hr
   go_enter Tryz.func115,Tryz.ntmps115
   go_wp2
   go_ret
   exact ⟨rfl,Below.refl _ _⟩
  | e =>
   have c0':w.cell? ⟨p,0,none⟩=some (.int .u8 101):=c0
   clear c0 hr
   go_enter Tryz.func115,Tryz.ntmps115
   go_wp2
   go_ret
   exact ⟨rfl,Below.refl _ _⟩
  | c k =>
   have c0':w.cell? ⟨p,0,none⟩=some (.int .u8 99):=c0
   clear c0 hr
   go_enter Tryz.func115,Tryz.ntmps115
   go_wp2
   go_ret
   exact ⟨rfl,Below.refl _ _⟩
  | m x =>
   have c0':w.cell? ⟨p,0,none⟩=some (.int .u8 109):=c0
   clear c0 hr
   go_enter Tryz.func115,Tryz.ntmps115
   go_wp2
   go_ret
   exact ⟨rfl,Below.refl _ _⟩
  | s x y =>
   have c0':w.cell? ⟨p,0,none⟩=some (.int .u8 115):=c0
   have hr':ReRow (IsRe d w) 0 w vL [x.rx,y.rx]:=hr
   obtain ⟨ao,cap,hvl,hrow⟩:=hr'.form
   obtain ⟨g,u0,rfl,g0,r0⟩:=hrow 0 (by simp)
   obtain ⟨g',u1,hg',g1,r1⟩:=hrow 1 (by simp)
   simp at hg'
   subst hg'
   subst hvl
   simp only [List.length_cons,List.length_nil,Nat.zero_add,Nat.reduceAdd,List.getElem_cons_zero,List.getElem_cons_succ] at r0 r1 c2
   have R0:Hid (IsRe d w u0 x.rx):=r0
   have R1:Hid (IsRe d w u1 y.rx):=r1
   have IH:Hid (∀ (w:World) (v:Value) (t:Tr),IsRe d w v t.rx→t.ok→t.hc→Calls Tryz.prog 115 #[v] w fun e w'=>e=.returned (.bool t.emp)∧Below w.heap.size w w'):=ih
   have OK:Hid ((Tr.s x y).ok∧(Tr.s x y).hc):=⟨hok,hhc⟩
   clear c0 hr hr' r0 r1 hrow ih hok hhc
   go_enter Tryz.func115,Tryz.ntmps115
   go_wp2_with fail
   refine (IH.out _ _ x R0.out OK.out.1.1 OK.out.2.1).mono ?_
   rintro e1 w1 ⟨rfl,hb1⟩
   have hg:g<w.heap.size:=World.block_lt_of_cell? w ⟨g,0,none⟩ g0
   have d0:w1.cell? ⟨p,0,none⟩=some (.int .u8 115):=(hb1.cell (p:=⟨p,0,none⟩) hp).trans c0'
   have d2:w1.cell? ⟨p,2,none⟩=some (.slice (some ⟨g,0,none⟩) 2 cap):=(hb1.cell (p:=⟨p,2,none⟩) hp).trans c2
   have dg1:w1.cell? ⟨g,1,none⟩=some u1:=(hb1.cell (p:=⟨g,1,none⟩) hg).trans g1
   have R1':Hid (IsRe d w1 u1 y.rx):=R1.out.keep (KeepRe.of_below hb1)
   go_wp2_with fail
   refine (IH.out _ _ y R1'.out OK.out.1.2.1 OK.out.2.2).mono ?_
   rintro e2 w2 ⟨rfl,hb2⟩
   have hE:Hid ((Tr.s x y).emp=(x.emp && y.emp)):=rfl
   have HB:Hid (Below w.heap.size w w2):=hb1.trans (hb2.mono hb1.size)
   cases hx:x.emp <;> cases hy:y.emp <;> (go_wp2;go_ret;exact ⟨by rw [hE.out,hx,hy];rfl,HB.out⟩)
  | a x y =>
   have c0':w.cell? ⟨p,0,none⟩=some (.int .u8 97):=c0
   have hl:(Tr.a x y).rx.l=(Tr.a x y).alts.map Tr.rx:=Tr.rxl_alts (t:=.a x y) hok rfl
   rw [hl] at hr
   have hN:=hhc.len
   have hE:=emp_alts (.a x y)
   have HS:Hid (∀ u ∈ (Tr.a x y).alts,u.ok∧u.hc):=fun u hu=>⟨(hok.srt.2 u hu).1,hhc.alts u hu⟩
   obtain ⟨ao,cap,hvl,hrow⟩:=hr.form
   rw [List.length_map] at hvl
   subst hvl
   have HC:Hid (∀ i (hi:i<(Tr.a x y).alts.length),∃ g u,ao=some ⟨g,0,none⟩∧w.cell? ⟨g,i,none⟩=some u∧IsRe d w u ((Tr.a x y).alts[i]).rx):=by
    intro i hi
    obtain ⟨g,u,k1,k2,k3⟩:=hrow i (by rw [List.length_map];exact hi)
    exact ⟨g,u,k1,k2,by simpa using k3⟩
   rw [hE]
   clear c0 hr hrow hl hE hok hhc
   generalize (Tr.a x y).alts=L at *
   have IH:Hid (∀ (w:World) (v:Value) (t:Tr),IsRe d w v t.rx→t.ok→t.hc→Calls Tryz.prog 115 #[v] w fun e w'=>e=.returned (.bool t.emp)∧Below w.heap.size w w'):=ih
   clear ih
   go_enter Tryz.func115,Tryz.ntmps115
   go_wp2_with fail
   go_loopg [5] L.length (fun g i wr=>∃ j:Nat,j≤L.length∧g=L.length - j∧i=.int .i64 j∧(L.take j).any Tr.emp=false∧Below w.heap.size w wr)
   case atStart=>exact ⟨0,by omega,rfl,rfl,rfl,Below.refl _ _⟩
   case round =>
    obtain ⟨w1,hw1⟩:∃ w1,w1=wr:=⟨wr,rfl⟩
    subst hw1
    obtain ⟨j,hj,rfl,rfl,hnone,hb1⟩:=hrel
    have HNO:Hid ((L.take j).any Tr.emp=false):=hnone
    clear hnone
    have d2:w1.cell? ⟨p,2,none⟩=some (.slice ao L.length cap):=(hb1.cell (p:=⟨p,2,none⟩) hp).trans c2
    by_cases hjl:j<L.length
    ·obtain ⟨g,u,rfl,hcell,hIsu⟩:=HC.out j hjl
     have hg:g<w.heap.size:=World.block_lt_of_cell? w ⟨g,j,none⟩ hcell
     have dg:w1.cell? ⟨g,j,none⟩=some u:=(hb1.cell (p:=⟨g,j,none⟩) hg).trans hcell
     have HIu:Hid (IsRe d w1 u (L[j]).rx):=hIsu.keep (KeepRe.of_below hb1)
     clear hIsu
     go_wp2_with fail
     refine (IH.out _ _ L[j] HIu.out (HS.out _ (List.getElem_mem hjl)).1 (HS.out _ (List.getElem_mem hjl)).2).mono ?_
     rintro e2 w2 ⟨rfl,hb2⟩
     have HT:=any_take L j hjl
     have HT':Hid ((L.take (j+1)).any Tr.emp=((L.take j).any Tr.emp || L[j].emp)):=HT
     clear HT
     cases hLe:L[j].emp
     ·have HF:Hid (L[j].emp=false):=hLe
      clear hLe
      go_wp2
      go_roundg (L.length - (j+1))
      case measure=>omega
      case rel=>exact ⟨j+1,by omega,rfl,by go_num,by rw [HT'.out,HNO.out,HF.out];rfl,hb1.trans (hb2.mono hb1.size)⟩
     ·have HF:Hid (L[j].emp=true):=hLe
      clear hLe
      go_wp2
      go_ret
      refine ⟨?_,hb1.trans (hb2.mono hb1.size)⟩
      rw [show L.any Tr.emp=true from List.any_eq_true.2 ⟨L[j],List.getElem_mem hjl,HF.out⟩]
      rfl
    ·have hjl':j=L.length:=by omega
     go_wp2
     go_ret
     refine ⟨?_,hb1⟩
     have:=HNO.out
     rw [hjl',List.take_length] at this
     rw [this]
     rfl
namespace Tr
def behs (k:Nat) (L:List Tr):Tr:=L.foldl (fun t u=>either t (u.beh k)) .z
theorem behs_snoc (k:Nat) (L:List Tr) (j:Nat) (h:j<L.length):behs k (L.take (j+1))=either (behs k (L.take j)) (L[j].beh k):=by
 unfold behs;rw [List.take_succ_eq_append_getElem h,List.foldl_append];rfl
theorem behs_ok {k:Nat} {L:List Tr} (h:∀ u ∈ L,u.ok):(behs k L).ok∧∀ x,x ∈ (behs k L).alts↔∃ u ∈ L,x ∈ (u.beh k).alts:=by
 have key:∀ (L:List Tr) (t:Tr),t.ok→(∀ u ∈ L,u.ok)→(L.foldl (fun t u=>either t (u.beh k)) t).ok∧∀ x,x ∈ (L.foldl (fun t u=>either t (u.beh k)) t).alts↔x ∈ t.alts∨∃ u ∈ L,x ∈ (u.beh k).alts:=by
  intro L
  induction L with
  | nil=>intro t ht _;exact ⟨ht,by simp⟩
  | cons u L ih =>
   intro t ht hL
   have ho:=either_ok ht (beh_ok (hL u (List.mem_cons_self ..)) k)
   have h1:=ih _ ho.1 (fun v hv=>hL v (List.mem_cons_of_mem _ hv))
   refine ⟨h1.1,fun x=>?_⟩
   rw [List.foldl_cons,h1.2,ho.2]
   simp only [List.mem_cons,exists_eq_or_imp,or_assoc]
 have:=key L .z trivial h
 exact ⟨this.1,fun x=>by unfold behs;rw [this.2];simp [alts]⟩
theorem behs_all {t:Tr} (h:t.ok) (k:Nat):behs k t.alts=t.beh k:=by
 have h1:=behs_ok (k:=k) (L:=t.alts) (fun u hu=>(h.srt.2 u hu).1)
 refine ext h1.1 (beh_ok h k) fun u=>?_
 rw [h1.2,beh_alts h]
theorem behs_sub {t:Tr} (h:t.ok) (k j:Nat):∀ u ∈ (behs k (t.alts.take j)).alts,u ∈ (t.beh k).alts:=by
 intro u hu
 have h1:=behs_ok (k:=k) (L:=t.alts.take j) (fun u hu=>(h.srt.2 u (List.mem_of_mem_take hu)).1)
 obtain ⟨v,hv,hu⟩:=(h1.2 u).1 hu
 exact (beh_alts h k u).2 ⟨v,List.mem_of_mem_take hv,hu⟩
theorem fit_p {p q:Tr} (h:(Tr.s p q).fit):p.fit∧q.fit:=by
 have:=h.2.1;rw [wt_s] at this
 exact ⟨⟨h.1.1,by omega,h.2.2.1⟩,⟨h.1.2.1,by omega,h.2.2.2⟩⟩
theorem fit_alts {t u:Tr} (h:t.fit) (hu:u ∈ t.alts):u.fit:=by
 have h1:=h.1.srt.2 u hu
 exact fit_sub h1.1 h (fun v hv=>by rw [alts_one h1.2] at hv;simp at hv;subst hv;exact hu)
theorem row_room {x y:Tr} (hx:x.ok) (hy:y.fit) (y1:y.isZ=false) (y2:y.isE=false) (h:(row x y).wt≤6000000000000000002):x.rx.form.size+y.rx.form.size≤9000000000000000000:=by
 rw [rx_size,rx_size]
 have h2:=hy.2.1
 by_cases x1:x.isZ=true
 ·rw [isZ_eq x1,wt_z];omega
 ·by_cases x2:x.isE=true
  ·rw [isE_eq x2,wt_e];omega
  ·have:=wt_row_ge hx hy.1 (by simpa using x1) (by simpa using x2) y1 y2;omega
end Tr
theorem kind_tmod (n k:Nat):(((n:Int) / 2 ^ k).tmod 2 == 1)=n.testBit k:=by
 have e:((n:Int) / 2 ^ k)=((n / 2 ^ k:Nat):Int):=by
  rw [Int.natCast_ediv];simp
 rw [e,Nat.testBit_eq_decide_div_mod_eq]
 have e2:((n / 2 ^ k:Nat):Int).tmod 2=((n / 2 ^ k % 2:Nat):Int):=by
  rw [Int.tmod_eq_emod_of_nonneg (Int.natCast_nonneg _)];simp
 rw [e2]
 have:n / 2 ^ k % 2=0∨n / 2 ^ k % 2=1:=by omega
 rcases this with h | h <;> rw [h] <;> rfl
set_option maxHeartbeats 4000000 in
theorem behind_any (k:Nat) (hk:k<8) (d:Nat):∀ (w:World) (v:Value) (t:Tr),IsRe d w v t.rx→t.fit→(t.beh k).fit →
  Calls Tryz.prog 109 #[v,.int .i64 k] w fun e w'=>∃ v' d',e=.returned v'∧IsRe d' w' v' (t.beh k).rx∧Below w.heap.size w w':=by
 induction d with
 | zero=>intro w v t h;exact h.elim
 | succ d ih =>
  intro w v t h hft hfb
  have h0:=h
  obtain ⟨p,vL,e,he,rfl,c0,c1,c2,c3,hp,hr,hw,h1,h2⟩:=h.open
  obtain rfl:d=e:=by omega
  have HT:Hid (IsRe (d+1) w (.pointer (some ⟨p,0,none⟩)) t.rx):=h0
  have FT:Hid (t.fit∧(t.beh k).fit):=⟨hft,hfb⟩
  have IH:Hid (∀ (w:World) (v:Value) (t:Tr),IsRe d w v t.rx→t.fit→(t.beh k).fit→Calls Tryz.prog 109 #[v,.int .i64 k] w fun e w'=>∃ v' d',e=.returned v'∧IsRe d' w' v' (t.beh k).rx∧Below w.heap.size w w'):=ih
  clear he h1 h2 hw c3 h h0 hft hfb ih
  cases t with
  | z =>
   have c0':w.cell? ⟨p,0,none⟩=some (.int .u8 122):=c0
   clear c0 hr c1 c2
   go_enter Tryz.func109,Tryz.ntmps109
   go_wp2_with (go_at_call 159;refine (never_any _).mono ?_;rintro e w1 ⟨v1,rfl,hv1,hb1⟩)
   go_ret
   exact ⟨_,1,rfl,hv1,hb1⟩
  | e =>
   have c0':w.cell? ⟨p,0,none⟩=some (.int .u8 101):=c0
   clear c0 hr c1 c2
   go_enter Tryz.func109,Tryz.ntmps109
   go_wp2_with (go_at_call 159;refine (never_any _).mono ?_;rintro e w1 ⟨v1,rfl,hv1,hb1⟩)
   go_ret
   exact ⟨_,1,rfl,hv1,hb1⟩
  | c n =>
   have c0':w.cell? ⟨p,0,none⟩=some (.int .u8 99):=c0
   have c1':w.cell? ⟨p,1,none⟩=some (.int .i64 n):=c1
   clear c0 hr c1 c2
   have hkb:=kind_tmod n k
   cases hb:n.testBit k
   ·have hB:(Tr.c n).beh k=.z:=by show (if n.testBit k=true then Tr.e else .z)=_;rw [hb];rfl
    rw [hB]
    rw [hb] at hkb
    clear hB hb
    go_enter Tryz.func109,Tryz.ntmps109
    go_wp2_with (go_at_call 159;refine (never_any _).mono ?_;rintro e w1 ⟨v1,rfl,hv1,hb1⟩)
    go_ret
    exact ⟨_,1,rfl,hv1,hb1⟩
   ·have hB:(Tr.c n).beh k=.e:=by show (if n.testBit k=true then Tr.e else .z)=_;rw [hb];rfl
    rw [hB]
    rw [hb] at hkb
    clear hB hb
    go_enter Tryz.func109,Tryz.ntmps109
    go_wp2_with (go_at_call 96;refine (empty_any _).mono ?_;rintro e w1 ⟨v1,rfl,hv1,hb1⟩)
    go_ret
    exact ⟨_,1,rfl,hv1,hb1⟩
  | m x =>
   have c0':w.cell? ⟨p,0,none⟩=some (.int .u8 109):=c0
   have hr':ReRow (IsRe d w) 0 w vL [x.rx]:=hr
   obtain ⟨ao,cap,hvl,hrow⟩:=hr'.form
   obtain ⟨g,u0,rfl,g0,r0⟩:=hrow 0 (by simp)
   subst hvl
   simp only [List.length_cons,List.length_nil,Nat.zero_add,List.getElem_cons_zero] at r0 c2
   have R0:Hid (IsRe d w u0 x.rx):=r0
   have FX:Hid (x.fit∧(x.beh k).fit):=by
    obtain ⟨f1,f2⟩:=FT.out
    have h1:=f1.2.1;rw [Tr.wt_m] at h1
    exact ⟨⟨f1.1.1,by omega,f1.2.2⟩,Tr.fit_row_l (Tr.beh_ok f1.1.1 k) f1.1 rfl rfl f2⟩
   clear c0 hr hr' r0 hrow c1
   go_enter Tryz.func109,Tryz.ntmps109
   go_wp2_with fail
   refine (IH.out _ _ x R0.out FX.out.1 FX.out.2).mono ?_
   rintro e1 w1 ⟨v1,d1,rfl,hv1,hb1⟩
   have HV1:Hid (IsRe d1 w1 v1 (x.beh k).rx):=hv1
   clear hv1
   have HT1:Hid (IsRe (d+1) w1 (.pointer (some ⟨p,0,none⟩)) (Tr.m x).rx):=HT.out.keep (KeepRe.of_below hb1)
   go_wp2_with fail
   refine (row_any ((x.beh k).wt+1) _ (d1+(d+1)) v1 _ (x.beh k).rx (Tr.m x).rx (by rw [Tr.rx_size];omega) (HV1.out.mono (by omega)) (HT1.out.mono (by omega)) (Tr.row_room FX.out.2.1 FT.out.1 rfl rfl FT.out.2.2.1)).mono ?_
   rintro e2 w2 ⟨v2,d2,rfl,hv2,_,hb2⟩
   rw [Tr.rowX_rx _ _ _ (by omega)] at hv2
   have HV2:Hid (IsRe d2 w2 v2 (Tr.row (x.beh k) (.m x)).rx):=hv2
   clear hv2
   go_wp2_with fail
   go_ret
   exact ⟨_,d2,rfl,HV2.out,hb1.trans (hb2.mono hb1.size)⟩
  | s x y =>
   have c0':w.cell? ⟨p,0,none⟩=some (.int .u8 115):=c0
   have hr':ReRow (IsRe d w) 0 w vL [x.rx,y.rx]:=hr
   obtain ⟨ao,cap,hvl,hrow⟩:=hr'.form
   obtain ⟨g,u0,rfl,g0,r0⟩:=hrow 0 (by simp)
   obtain ⟨g',u1,hg',g1,r1⟩:=hrow 1 (by simp)
   simp at hg'
   subst hg'
   subst hvl
   simp only [List.length_cons,List.length_nil,Nat.zero_add,Nat.reduceAdd,List.getElem_cons_zero,List.getElem_cons_succ] at r0 r1 c2
   have R0:Hid (IsRe d w u0 x.rx):=r0
   have R1:Hid (IsRe d w u1 y.rx):=r1
   have hg:g<w.heap.size:=World.block_lt_of_cell? w ⟨g,0,none⟩ g0
   -- what fits
   have FX:Hid (x.fit∧y.fit∧(x.beh k).fit∧(Tr.row (x.beh k) y).fit∧y.isZ=false∧y.isE=false∧(x.emp=true→(y.beh k).fit)):=by
    obtain ⟨f1,f2⟩:=FT.out
    obtain ⟨fx,fy⟩:=Tr.fit_p f1
    have y1:=f1.1.2.2.2.2.2.1
    have y2:=f1.1.2.2.2.2.2.2
    have hb:(Tr.s x y).beh k=if x.emp=true then Tr.either (Tr.row (x.beh k) y) (y.beh k) else Tr.row (x.beh k) y:=rfl
    have ro:=(Tr.row_ok (Tr.beh_ok fx.1 k) fy.1).1
    have hrow:(Tr.row (x.beh k) y).fit:=by
     by_cases he:x.emp=true
     ·rw [hb,if_pos he] at f2
      exact Tr.fit_sub ro f2 (fun u hu=>((Tr.either_ok ro (Tr.beh_ok fy.1 k)).2 u).2 (Or.inl hu))
     ·rw [hb,if_neg he] at f2;exact f2
    refine ⟨fx,fy,Tr.fit_row_l (Tr.beh_ok fx.1 k) fy.1 y1 y2 hrow,hrow,y1,y2,fun he=>?_⟩
    rw [hb,if_pos he] at f2
    exact Tr.fit_sub (Tr.beh_ok fy.1 k) f2 (fun u hu=>((Tr.either_ok ro (Tr.beh_ok fy.1 k)).2 u).2 (Or.inr hu))
   clear c0 hr hr' r0 r1 hrow c1
   go_enter Tryz.func109,Tryz.ntmps109
   go_wp2_with fail
   refine (IH.out _ _ x R0.out FX.out.1 FX.out.2.2.1).mono ?_
   rintro e1 w1 ⟨v1,d1,rfl,hv1,hb1⟩
   have HV1:Hid (IsRe d1 w1 v1 (x.beh k).rx):=hv1
   clear hv1
   have p0:w1.cell? ⟨p,0,none⟩=some (.int .u8 115):=(hb1.cell (p:=⟨p,0,none⟩) hp).trans c0'
   have p2:w1.cell? ⟨p,2,none⟩=some (.slice (some ⟨g,0,none⟩) 2 cap):=(hb1.cell (p:=⟨p,2,none⟩) hp).trans c2
   have q1:w1.cell? ⟨g,1,none⟩=some u1:=(hb1.cell (p:=⟨g,1,none⟩) hg).trans g1
   have R1':Hid (IsRe d w1 u1 y.rx):=R1.out.keep (KeepRe.of_below hb1)
   go_wp2_with fail
   refine (row_any ((x.beh k).wt+1) _ (d1+d) v1 _ (x.beh k).rx y.rx (by rw [Tr.rx_size];omega) (HV1.out.mono (by omega)) (R1'.out.mono (by omega)) (Tr.row_room FX.out.2.2.1.1 FX.out.2.1 FX.out.2.2.2.2.1 FX.out.2.2.2.2.2.1 FX.out.2.2.2.1.2.1)).mono ?_
   rintro e2 w2 ⟨v2,d2,rfl,hv2,_,hb2⟩
   rw [Tr.rowX_rx _ _ _ (by omega)] at hv2
   have hb02:=hb1.trans (hb2.mono hb1.size)
   have HV2:Hid (IsRe d2 w2 v2 (Tr.row (x.beh k) y).rx):=hv2
   clear hv2 p0 p2 q1
   have p0:w2.cell? ⟨p,0,none⟩=some (.int .u8 115):=(hb02.cell (p:=⟨p,0,none⟩) hp).trans c0'
   have p2:w2.cell? ⟨p,2,none⟩=some (.slice (some ⟨g,0,none⟩) 2 cap):=(hb02.cell (p:=⟨p,2,none⟩) hp).trans c2
   have q0:w2.cell? ⟨g,0,none⟩=some u0:=(hb02.cell (p:=⟨g,0,none⟩) hg).trans g0
   have q1:w2.cell? ⟨g,1,none⟩=some u1:=(hb02.cell (p:=⟨g,1,none⟩) hg).trans g1
   go_wp2_with fail
   refine (isEmpty_any d _ _ x (R0.out.keep (KeepRe.of_below hb02)) FX.out.1.1 FX.out.1.2.2).mono ?_
   rintro e3 w3 ⟨rfl,hb3⟩
   have hb03:=hb02.trans (hb3.mono hb02.size)
   have HV3:Hid (IsRe d2 w3 v2 (Tr.row (x.beh k) y).rx):=HV2.out.keep (KeepRe.of_below hb3)
   clear p0 p2 q0 q1
   have p2:w3.cell? ⟨p,2,none⟩=some (.slice (some ⟨g,0,none⟩) 2 cap):=(hb03.cell (p:=⟨p,2,none⟩) hp).trans c2
   have q1:w3.cell? ⟨g,1,none⟩=some u1:=(hb03.cell (p:=⟨g,1,none⟩) hg).trans g1
   have HB:Hid ((Tr.s x y).beh k=if x.emp=true then Tr.either (Tr.row (x.beh k) y) (y.beh k) else Tr.row (x.beh k) y):=rfl
   cases hx:x.emp
   ·have HX:Hid (x.emp=false):=hx
    clear hx
    go_wp2_with fail
    go_ret
    exact ⟨_,d2,rfl,by rw [HB.out,if_neg (by rw [HX.out];simp)];exact HV3.out,hb03⟩
   ·have HX:Hid (x.emp=true):=hx
    clear hx
    go_wp2_with fail
    refine (IH.out _ _ y (R1.out.keep (KeepRe.of_below hb03)) FX.out.2.1 (FX.out.2.2.2.2.2.2 HX.out)).mono ?_
    rintro e4 w4 ⟨v4,d4,rfl,hv4,hb4⟩
    have HV4:Hid (IsRe d4 w4 v4 (y.beh k).rx):=hv4
    have HV5:Hid (IsRe d2 w4 v2 (Tr.row (x.beh k) y).rx):=HV3.out.keep (KeepRe.of_below hb4)
    have hfe:Hid ((Tr.either (Tr.row (x.beh k) y) (y.beh k)).fit):=by have:=FT.out.2;rw [HB.out,if_pos HX.out] at this;exact this
    have hro:=Tr.fit_either FX.out.2.2.2.1 (FX.out.2.2.2.2.2.2 HX.out) hfe.out
    have HRO:Hid ((Tr.row (x.beh k) y).rx.form.size≤9000000000000000000∧(y.beh k).rx.form.size≤9000000000000000000∧sizesX (gatherX (gatherX [] (Tr.row (x.beh k) y).rx) (y.beh k).rx)≤9000000000000000000∧(gatherX (gatherX [] (Tr.row (x.beh k) y).rx) (y.beh k).rx).length≤8000000000):=hro
    clear hv4 hro
    go_wp2_with fail
    refine (either_big _ (d2+d4) v2 v4 (Tr.row (x.beh k) y).rx (y.beh k).rx (HV5.out.mono (by omega)) (HV4.out.mono (by omega)) HRO.out.1 HRO.out.2.1 HRO.out.2.2.1 HRO.out.2.2.2).mono ?_
    rintro e5 w5 ⟨v5,d5,rfl,hv5,_,hb5⟩
    rw [Tr.eitherX_rx FX.out.2.2.2.1.1 (FX.out.2.2.2.2.2.2 HX.out).1] at hv5
    have HV6:Hid (IsRe d5 w5 v5 (Tr.either (Tr.row (x.beh k) y) (y.beh k)).rx):=hv5
    clear hv5
    have hb05:=(hb03.trans (hb4.mono hb03.size))
    have hb06:=hb05.trans (hb5.mono hb05.size)
    go_wp2_with fail
    go_ret
    exact ⟨_,d5,rfl,by rw [HB.out,if_pos HX.out];exact HV6.out,hb06⟩
  | a x y =>
   have c0':w.cell? ⟨p,0,none⟩=some (.int .u8 97):=c0
   have hl:(Tr.a x y).rx.l=(Tr.a x y).alts.map Tr.rx:=Tr.rxl_alts (t:=.a x y) FT.out.1.1 rfl
   rw [hl] at hr
   have hN:=FT.out.1.2.2.len
   obtain ⟨ao,cap,hvl,hrow⟩:=hr.form
   rw [List.length_map] at hvl
   subst hvl
   have HC:Hid (∀ i (hi:i<(Tr.a x y).alts.length),∃ g u,ao=some ⟨g,0,none⟩∧w.cell? ⟨g,i,none⟩=some u∧IsRe d w u ((Tr.a x y).alts[i]).rx):=by
    intro i hi
    obtain ⟨g,u,k1,k2,k3⟩:=hrow i (by rw [List.length_map];exact hi)
    exact ⟨g,u,k1,k2,by simpa using k3⟩
   have HE:Hid (Tr.behs k (Tr.a x y).alts=(Tr.a x y).beh k):=Tr.behs_all FT.out.1.1 k
   have HP:Hid (∀ j,(Tr.behs k ((Tr.a x y).alts.take j)).fit):=fun j=>Tr.fit_sub (Tr.behs_ok (fun u hu=>(FT.out.1.1.srt.2 u (List.mem_of_mem_take hu)).1)).1 FT.out.2 (Tr.behs_sub FT.out.1.1 k j)
   have HS:Hid (∀ u ∈ (Tr.a x y).alts,u.fit∧(u.beh k).fit):=fun u hu=>⟨Tr.fit_alts FT.out.1 hu,Tr.fit_sub (Tr.beh_ok (FT.out.1.1.srt.2 u hu).1 k) FT.out.2 (fun v hv=>(Tr.beh_alts FT.out.1.1 k v).2 ⟨u,hu,hv⟩)⟩
   rw [← HE.out]
   clear c0 hr hrow hl c1 HE
   clear FT HT
   generalize (Tr.a x y).alts=L at *
   go_enter Tryz.func109,Tryz.ntmps109
   go_wp2_with (go_at_call 159;refine (never_any _).mono ?_;rintro e w0 ⟨v0,rfl,hv0,hb0⟩)
   go_loopg [9,10] L.length (fun gg out i wr=>∃ j:Nat,j≤L.length∧gg=L.length - j∧i=.int .i64 j∧(∃ d',IsRe d' wr out (Tr.behs k (L.take j)).rx)∧Below w.heap.size w wr)
   case atStart=>exact ⟨0,by omega,rfl,rfl,⟨1,hv0⟩,hb0⟩
   case round =>
    obtain ⟨w1,hw1⟩:∃ w1,w1=wr:=⟨wr,rfl⟩
    subst hw1
    obtain ⟨j,hj,rfl,rfl,⟨d1,hout⟩,hb1⟩:=hrel
    have HO:Hid (IsRe d1 w1 u9 (Tr.behs k (L.take j)).rx):=hout
    clear hout
    have p2:w1.cell? ⟨p,2,none⟩=some (.slice ao L.length cap):=(hb1.cell (p:=⟨p,2,none⟩) hp).trans c2
    by_cases hjl:j<L.length
    ·obtain ⟨g,u,rfl,hcell,hIsu⟩:=HC.out j hjl
     have hg:g<w.heap.size:=World.block_lt_of_cell? w ⟨g,j,none⟩ hcell
     have dg:w1.cell? ⟨g,j,none⟩=some u:=(hb1.cell (p:=⟨g,j,none⟩) hg).trans hcell
     have HIu:Hid (IsRe d w1 u (L[j]).rx):=hIsu.keep (KeepRe.of_below hb1)
     clear hIsu
     have hfl:=HS.out _ (List.getElem_mem hjl)
     have HF:Hid ((L[j]).fit∧((L[j]).beh k).fit):=hfl
     have hsn:=Tr.behs_snoc k L j hjl
     have HSN:Hid (Tr.behs k (L.take (j+1))=Tr.either (Tr.behs k (L.take j)) ((L[j]).beh k)):=hsn
     have hfe:=HP.out (j+1)
     rw [hsn] at hfe
     have hro:=Tr.fit_either (HP.out j) hfl.2 hfe
     have HRO:Hid ((Tr.behs k (L.take j)).rx.form.size≤9000000000000000000∧((L[j]).beh k).rx.form.size≤9000000000000000000∧sizesX (gatherX (gatherX [] (Tr.behs k (L.take j)).rx) ((L[j]).beh k).rx)≤9000000000000000000∧(gatherX (gatherX [] (Tr.behs k (L.take j)).rx) ((L[j]).beh k).rx).length≤8000000000):=hro
     clear hfl hsn hfe hro
     go_wp2_with fail
     refine (IH.out _ _ L[j] HIu.out HF.out.1 HF.out.2).mono ?_
     rintro e2 w2 ⟨v2,d2,rfl,hv2,hb2⟩
     have HV2:Hid (IsRe d2 w2 v2 ((L[j]).beh k).rx):=hv2
     have HO2:Hid (IsRe d1 w2 u9 (Tr.behs k (L.take j)).rx):=HO.out.keep (KeepRe.of_below hb2)
     clear hv2
     go_wp2_with fail
     refine (either_big _ (d1+d2) u9 v2 (Tr.behs k (L.take j)).rx ((L[j]).beh k).rx (HO2.out.mono (by omega)) (HV2.out.mono (by omega)) HRO.out.1 HRO.out.2.1 HRO.out.2.2.1 HRO.out.2.2.2).mono ?_
     rintro e3 w3 ⟨v3,d3,rfl,hv3,_,hb3⟩
     rw [Tr.eitherX_rx (HP.out j).1 HF.out.2.1,← HSN.out] at hv3
     have HV3:Hid (IsRe d3 w3 v3 (Tr.behs k (L.take (j+1))).rx):=hv3
     clear hv3
     have hb02:=hb1.trans (hb2.mono hb1.size)
     have HB:Hid (Below w.heap.size w w3):=hb02.trans (hb3.mono hb02.size)
     go_wp2_with fail
     go_roundg (L.length - (j+1))
     case measure=>omega
     case rel=>exact ⟨j+1,by omega,rfl,by go_num,⟨d3,HV3.out⟩,HB.out⟩
    ·have hjl':j=L.length:=by omega
     go_wp2_with fail
     go_ret
     refine ⟨_,d1,rfl,?_,hb1⟩
     have:=HO.out
     rw [hjl',List.take_length] at this
     exact this
def IntsAt (w:World) (v:Value) (L:List Nat):Prop:=∃ ao cap,v=.slice ao L.length cap∧∀ i (hi:i<L.length),∃ g o,ao=some ⟨g,o,none⟩∧w.cell? ⟨g,o+i,none⟩=some (.int .i64 (L[i]:Nat))
theorem IntsAt.keep {w w':World} {v:Value} {L:List Nat} (h:IntsAt w v L) (hb:Below w.heap.size w w'):IntsAt w' v L:=by
 obtain ⟨ao,cap,hv,hc⟩:=h
 refine ⟨ao,cap,hv,fun i hi=>?_⟩
 obtain ⟨g,o,e,h1⟩:=hc i hi
 exact ⟨g,o,e,(hb.cell (p:=⟨g,o+i,none⟩) (World.block_lt_of_cell? w ⟨g,o+i,none⟩ h1)).trans h1⟩
def AllFit (t:Tr):Prop:=∀ v:List Nat,v.length≤1048576→(t.der v).fit
theorem AllFit.fit {t:Tr} (h:AllFit t):t.fit:=h [] (by simp)
theorem der_take (t:Tr) (L:List Nat) (j:Nat) (h:j<L.length):t.der (L.take (j+1))=(t.der (L.take j)).beh L[j]:=by
 rw [List.take_succ_eq_append_getElem h,Tr.der_snoc]
set_option maxHeartbeats 4000000 in
theorem refStarts_any (w:World) (d:Nat) (v vl:Value) (t:Tr) (L:List Nat) (h:IsRe d w v t.rx) (hl:IntsAt w vl L) (hf:AllFit t) (hk:∀ k ∈ L,k<8) (hn:L.length≤1048576) :
  Calls Tryz.prog 107 #[v,vl] w fun e w'=>∃ b:Bool,e=.returned (.bool b)∧(b=true↔∃ j,j≤L.length∧(t.der (L.take j)).emp=true)∧Below w.heap.size w w':=by
 obtain ⟨ao,cap,rfl,hc⟩:=hl
 have HC:Hid (∀ i (hi:i<L.length),∃ g o,ao=some ⟨g,o,none⟩∧w.cell? ⟨g,o+i,none⟩=some (.int .i64 (L[i]:Nat))):=hc
 have H0:Hid (IsRe d w v t.rx):=h
 have HF:Hid (AllFit t):=hf
 have HK:Hid (∀ k ∈ L,k<8):=hk
 clear hc h hf hk
 go_enter Tryz.func107,Tryz.ntmps107
 go_wp2_with fail
 go_loopg [0,5] (L.length+1) (fun gg a i wr=>∃ j:Nat,j≤L.length+1∧gg=L.length+1 - j∧i=.int .i64 j∧(j≤L.length→∃ d',IsRe d' wr a (t.der (L.take j)).rx)∧(∀ j',j'<j→(t.der (L.take j')).emp=false)∧Below w.heap.size w wr)
 case atStart=>exact ⟨0,by omega,rfl,rfl,fun _=>⟨d,H0.out⟩,by omega,Below.refl _ _⟩
 case round =>
  obtain ⟨w1,hw1⟩:∃ w1,w1=wr:=⟨wr,rfl⟩
  subst hw1
  obtain ⟨j,hj,rfl,rfl,hre,hno,hb1⟩:=hrel
  have HNO:Hid (∀ j',j'<j→(t.der (L.take j')).emp=false):=hno
  clear hno
  by_cases hjl:j≤L.length
  ·obtain ⟨d1,hre⟩:=hre hjl
   have HR:Hid (IsRe d1 w1 u0 (t.der (L.take j)).rx):=hre
   clear hre
   have hfj:=HF.out (L.take j) (by rw [List.length_take];omega)
   have HFJ:Hid ((t.der (L.take j)).fit):=hfj
   clear hfj
   go_wp2_with fail
   refine (isEmpty_any d1 _ _ _ HR.out HFJ.out.1 HFJ.out.2.2).mono ?_
   rintro e2 w2 ⟨rfl,hb2⟩
   have hb02:=hb1.trans (hb2.mono hb1.size)
   have HR2:Hid (IsRe d1 w2 u0 (t.der (L.take j)).rx):=HR.out.keep (KeepRe.of_below hb2)
   cases he:(t.der (L.take j)).emp
   ·have HE:Hid ((t.der (L.take j)).emp=false):=he
    clear he
    have HNO2:Hid (∀ j',j'<j+1→(t.der (L.take j')).emp=false):=by
     intro j' hj'
     by_cases e:j'=j
     ·rw [e];exact HE.out
     ·exact HNO.out j' (by omega)
    by_cases hjl2:j<L.length
    ·obtain ⟨g,o,rfl,hcell⟩:=HC.out j hjl2
     have hg:=World.block_lt_of_cell? w ⟨g,o+j,none⟩ hcell
     have dg:w2.cell? ⟨g,o+j,none⟩=some (.int .i64 (L[j]:Nat)):=(hb02.cell (p:=⟨g,o+j,none⟩) hg).trans hcell
     have hfj2:=HF.out (L.take (j+1)) (by rw [List.length_take];omega)
     rw [der_take t L j hjl2] at hfj2
     have HFJ2:Hid (((t.der (L.take j)).beh L[j]).fit):=hfj2
     clear hfj2
     have hk8:=HK.out L[j] (List.getElem_mem hjl2)
     generalize hkk:L[j]=kk at *
     have HKK:Hid (L[j]=kk):=hkk
     clear hkk
     go_wp2_with fail
     refine (behind_any kk hk8 d1 _ _ _ HR2.out HFJ.out HFJ2.out).mono ?_
     rintro e3 w3 ⟨v3,d3,rfl,hv3,hb3⟩
     have HV3:Hid (IsRe d3 w3 v3 (t.der (L.take (j+1))).rx):=by rw [der_take t L j hjl2,HKK.out];exact hv3
     clear hv3
     have HB:Hid (Below w.heap.size w w3):=hb02.trans (hb3.mono hb02.size)
     go_wp2_with fail
     go_roundg (L.length+1 - (j+1))
     case measure=>omega
     case rel=>exact ⟨j+1,by omega,rfl,by go_num,fun _=>⟨d3,HV3.out⟩,HNO2.out,HB.out⟩
    ·go_wp2_with fail
     go_roundg (L.length+1 - (j+1))
     case measure=>omega
     case rel=>exact ⟨j+1,by omega,rfl,by go_num,fun h=>by omega,HNO2.out,hb02⟩
   ·have HE:Hid ((t.der (L.take j)).emp=true):=he
    clear he
    go_wp2_with fail
    go_ret
    exact ⟨true,rfl,⟨fun _=>⟨j,hjl,HE.out⟩,fun _=>rfl⟩,hb02⟩
  ·go_wp2_with fail
   go_ret
   refine ⟨false,rfl,⟨fun h=>by simp at h,?_⟩,hb1⟩
   rintro ⟨j',h1,h2⟩
   rw [HNO.out j' (by omega)] at h2;exact h2
theorem drop_take_succ (L:List Nat) (f i:Nat) (h1:f≤i) (h2:i<L.length):(L.drop f).take (i+1 - f)=(L.drop f).take (i - f)++[L[i]]:=by
 have e:i+1 - f=(i - f)+1:=by omega
 rw [e,List.take_succ_eq_append_getElem (by rw [List.length_drop];omega)]
 have e2:f+(i - f)=i:=by omega
 simp only [List.getElem_drop,e2]
set_option maxHeartbeats 4000000 in
theorem refEnds_any (w:World) (d:Nat) (v vl:Value) (t:Tr) (L:List Nat) (h:IsRe d w v t.rx) (hl:IntsAt w vl L) (hf:AllFit t) (hk:∀ k ∈ L,k<8) (hn:L.length≤1048576) :
  Calls Tryz.prog 106 #[v,vl] w fun e w'=>∃ b:Bool,e=.returned (.bool b)∧(b=true↔∃ j,j≤L.length∧(t.der (L.drop j)).emp=true)∧Below w.heap.size w w':=by
 obtain ⟨ao,cap,rfl,hc⟩:=hl
 have HC:Hid (∀ i (hi:i<L.length),∃ g o,ao=some ⟨g,o,none⟩∧w.cell? ⟨g,o+i,none⟩=some (.int .i64 (L[i]:Nat))):=hc
 have H0:Hid (IsRe d w v t.rx):=h
 have HF:Hid (AllFit t):=hf
 have HK:Hid (∀ k ∈ L,k<8):=hk
 clear hc h hf hk
 go_enter Tryz.func106,Tryz.ntmps106
 go_wp2_with fail
 go_loopg [5] (L.length+1) (fun gg i wr=>∃ f:Nat,f≤L.length+1∧gg=L.length+1 - f∧i=.int .i64 f∧(∀ j',j'<f→(t.der (L.drop j')).emp=false)∧Below w.heap.size w wr)
 case atStart=>exact ⟨0,by omega,rfl,rfl,by omega,Below.refl _ _⟩
 case round =>
  obtain ⟨w1,hw1⟩:∃ w1,w1=wr:=⟨wr,rfl⟩
  subst hw1
  obtain ⟨f,hj,rfl,rfl,hno,hb1⟩:=hrel
  have HNO:Hid (∀ j',j'<f→(t.der (L.drop j')).emp=false):=hno
  clear hno
  by_cases hjl:f≤L.length
  ·have HR1:Hid (IsRe d w1 v t.rx):=H0.out.keep (KeepRe.of_below hb1)
   go_wp2_with fail
   go_loopg [6,7] (L.length - f) (fun gg x i wr=>∃ j:Nat,f≤j∧j≤L.length∧gg=L.length - j∧i=.int .i64 j∧(∃ d',IsRe d' wr x (t.der ((L.drop f).take (j - f))).rx)∧Below w.heap.size w wr)
   case atStart=>exact ⟨f,by omega,hjl,rfl,rfl,⟨d,by rw [Nat.sub_self];exact HR1.out⟩,hb1⟩
   case round =>
    obtain ⟨w2,hw2⟩:∃ w2,w2=wr:=⟨wr,rfl⟩
    subst hw2
    obtain ⟨j,hfj,hjl',rfl,rfl,⟨d1,hre⟩,hb2⟩:=hrel
    have HR:Hid (IsRe d1 w2 u6 (t.der ((L.drop f).take (j - f))).rx):=hre
    clear hre
    have hfit:=HF.out ((L.drop f).take (j - f)) (by rw [List.length_take,List.length_drop];omega)
    have HFJ:Hid ((t.der ((L.drop f).take (j - f))).fit):=hfit
    clear hfit
    by_cases hjl2:j<L.length
    ·obtain ⟨g,o,rfl,hcell⟩:=HC.out j hjl2
     have hg:=World.block_lt_of_cell? w ⟨g,o+j,none⟩ hcell
     have dg:w2.cell? ⟨g,o+j,none⟩=some (.int .i64 (L[j]:Nat)):=(hb2.cell (p:=⟨g,o+j,none⟩) hg).trans hcell
     have hsn:t.der ((L.drop f).take (j+1 - f))=(t.der ((L.drop f).take (j - f))).beh L[j]:=by rw [drop_take_succ L f j hfj hjl2,Tr.der_snoc]
     have hfj2:=HF.out ((L.drop f).take (j+1 - f)) (by rw [List.length_take,List.length_drop];omega)
     rw [hsn] at hfj2
     have HSN:Hid (t.der ((L.drop f).take (j+1 - f))=(t.der ((L.drop f).take (j - f))).beh L[j]):=hsn
     have HFJ2:Hid (((t.der ((L.drop f).take (j - f))).beh L[j]).fit):=hfj2
     clear hfj2 hsn
     have hk8:=HK.out L[j] (List.getElem_mem hjl2)
     generalize hkk:L[j]=kk at *
     clear hkk
     go_wp2_with fail
     refine (behind_any kk hk8 d1 _ _ _ HR.out HFJ.out HFJ2.out).mono ?_
     rintro e3 w3 ⟨v3,d3,rfl,hv3,hb3⟩
     have HV3:Hid (IsRe d3 w3 v3 (t.der ((L.drop f).take (j+1 - f))).rx):=by rw [HSN.out];exact hv3
     clear hv3
     have HB:Hid (Below w.heap.size w w3):=hb2.trans (hb3.mono hb2.size)
     go_wp2_with fail
     go_roundg (L.length - (j+1))
     case measure=>omega
     case rel=>exact ⟨j+1,by omega,by omega,rfl,by go_num,⟨d3,HV3.out⟩,HB.out⟩
    ·have hjL:j=L.length:=by omega
     have hall:(L.drop f).take (j - f)=L.drop f:=by rw [List.take_of_length_le];rw [List.length_drop];omega
     rw [hall] at HR HFJ
     clear hall
     go_wp2_with fail
     refine (isEmpty_any d1 _ _ _ HR.out HFJ.out.1 HFJ.out.2.2).mono ?_
     rintro e3 w3 ⟨rfl,hb3⟩
     have HB:Hid (Below w.heap.size w w3):=hb2.trans (hb3.mono hb2.size)
     cases he:(t.der (L.drop f)).emp
     ·have HNO2:Hid (∀ j',j'<f+1→(t.der (L.drop j')).emp=false):=by
       intro j' hj'
       by_cases e:j'=f
       ·rw [e];exact he
       ·exact HNO.out j' (by omega)
      clear he
      go_wp2_with fail
      go_roundg (L.length+1 - (f+1))
      case measure=>omega
      case rel=>exact ⟨f+1,by omega,rfl,by go_num,HNO2.out,HB.out⟩
     ·have HE:Hid ((t.der (L.drop f)).emp=true):=he
      clear he
      go_wp2_with fail
      go_ret
      exact ⟨true,rfl,⟨fun _=>⟨f,hjl,HE.out⟩,fun _=>rfl⟩,HB.out⟩
  ·go_wp2_with fail
   go_ret
   refine ⟨false,rfl,⟨fun h=>by simp at h,?_⟩,hb1⟩
   rintro ⟨j',h1,h2⟩
   rw [HNO.out j' (by omega)] at h2;exact h2
def LeftM (t:Tr) (row:List Nat) (i:Nat):Prop:=∃ j,j≤i∧(t.der ((row.take i).drop j)).emp=true
def RightM (t:Tr) (row:List Nat) (i:Nat):Prop:=∃ j,j≤row.length - i∧(t.der ((row.drop i).take j)).emp=true
def RefCut:List (Bool × Tr × Tr)→List Nat→Nat→Bool→Prop
 | [],_,_,b=>b=true
 | x :: l,row,i,b=>(LeftM x.2.1 row i∧RightM x.2.2 row i∧b=x.1)∨(¬ (LeftM x.2.1 row i∧RightM x.2.2 row i)∧RefCut l row i b)
theorem refCut_skip {L:List (Bool × Tr × Tr)} {row:List Nat} {i:Nat} {b:Bool}:∀ k,(∀ (k':Nat) (x:Bool × Tr × Tr),k'<k→L[k']?=some x→¬ (LeftM x.2.1 row i∧RightM x.2.2 row i))→RefCut (L.drop k) row i b→RefCut L row i b:=by
 intro k
 induction k generalizing L with
 | zero=>intro _ h;exact h
 | succ k ih =>
  intro hn h
  cases L with
  | nil=>simpa using h
  | cons x L=>exact Or.inr ⟨hn 0 x (by omega) rfl,ih (fun k' y hk hy=>hn (k'+1) y (by omega) (by simpa using hy)) (by simpa using h)⟩
def RefL (w:World) (b:Nat) (L:List (Bool × Tr × Tr)):Prop:=∃ ao cap,w.cell? ⟨b,6,none⟩=some (.slice ao L.length cap)∧∀ i (hi:i<L.length),∃ g vl vr,ao=some ⟨g,0,none⟩∧w.cell? ⟨g,i * 3,none⟩=some (.bool L[i].1)∧w.cell? ⟨g,i * 3+1,none⟩=some vl∧w.cell? ⟨g,i * 3+2,none⟩=some vr∧(∃ d,IsRe d w vl L[i].2.1.rx)∧∃ d,IsRe d w vr L[i].2.2.rx
theorem cell_below {w w':World} (hb:Below w.heap.size w w') {p:Addr} {v:Value} (h:w.cell? p=some v):w'.cell? p=some v:=(hb.cell (World.block_lt_of_cell? w p h)).trans h
theorem RefL.keep {w w':World} {b:Nat} {L:List (Bool × Tr × Tr)} (h:RefL w b L) (hb:Below w.heap.size w w'):RefL w' b L:=by
 obtain ⟨ao,cap,h1,h2⟩:=h
 refine ⟨ao,cap,cell_below hb h1,fun i hi=>?_⟩
 obtain ⟨g,vl,vr,e,k0,k1,k2,⟨d,k3⟩,d',k4⟩:=h2 i hi
 exact ⟨g,vl,vr,e,cell_below hb k0,cell_below hb k1,cell_below hb k2,⟨d,k3.keep (KeepRe.of_below hb)⟩,d',k4.keep (KeepRe.of_below hb)⟩
def RRow (w:World) (g cap:Nat) (row:List Nat):Prop:=row.length≤cap∧∀ i (hi:i<row.length),w.cell? ⟨g,i,none⟩=some (.int .i64 (row[i]:Nat))
theorem RRow.keep {w w':World} {g cap:Nat} {row:List Nat} (h:RRow w g cap row) (hb:Below w.heap.size w w'):RRow w' g cap row:=⟨h.1,fun i hi=>cell_below hb (h.2 i hi)⟩
theorem RRow.left {w:World} {g cap:Nat} {row:List Nat} (h:RRow w g cap row) {i:Nat} (hi:i≤row.length):IntsAt w (.slice (some ⟨g,0,none⟩) i cap) (row.take i):=by
 refine ⟨some ⟨g,0,none⟩,cap,by rw [List.length_take,Nat.min_eq_left hi],fun j hj=>⟨g,0,rfl,?_⟩⟩
 rw [List.length_take] at hj
 rw [Nat.zero_add,List.getElem_take];exact h.2 j (by omega)
theorem RRow.right {w:World} {g cap:Nat} {row:List Nat} (h:RRow w g cap row) {i:Nat}:IntsAt w (.slice (some ⟨g,i,none⟩) (row.length - i) (cap - i)) (row.drop i):=by
 refine ⟨some ⟨g,i,none⟩,cap - i,by rw [List.length_drop],fun j hj=>⟨g,i,rfl,?_⟩⟩
 rw [List.length_drop] at hj
 rw [List.getElem_drop];exact h.2 (i+j) (by omega)
def RefCutsPost (L:List (Bool × Tr × Tr)) (row:List Nat) (i:Nat) (w:World) (e:Ending) (w':World):Prop:=∃ c:Bool,e=.returned (.bool c)∧(if i=row.length then c=true else RefCut L row i c)∧Below w.heap.size w w'
set_option maxHeartbeats 4000000 in
theorem refCuts_any (w:World) (b g cap i:Nat) (L:List (Bool × Tr × Tr)) (row:List Nat) (hL:RefL w b L) (hr:RRow w g cap row) (hf:∀ x ∈ L,AllFit x.2.1∧AllFit x.2.2) (hk:∀ k ∈ row,k<8) (hn:row.length≤1048576) (hi:i≤row.length) (hl4:L.length≤4) :
  Calls Tryz.prog 56 #[.pointer (some ⟨b,0,none⟩),.slice (some ⟨g,0,none⟩) row.length cap,.int .i64 i] w (RefCutsPost L row i w):=by
 by_cases hend:i=row.length
 ·subst hend
  go_enter Tryz.func56,Tryz.ntmps56
  go_wp2_with fail
  go_ret
  exact ⟨true,rfl,by rw [if_pos rfl],Below.refl _ _⟩
 ·have hne0:Hid (¬ i=row.length):=hend
  clear hend
  have hne:((i:Int) == (row.length:Int))=false:=by rw [beq_eq_false_iff_ne];have:=hne0.out;omega
  have hilt:i<row.length:=by have:=hne0.out;omega
  have HL:Hid (RefL w b L):=hL
  have HR:Hid (RRow w g cap row):=hr
  have hcap:=hr.1
  have HF:Hid (∀ x ∈ L,AllFit x.2.1∧AllFit x.2.2):=hf
  have HK:Hid (∀ k ∈ row,k<8):=hk
  obtain ⟨ao,capL,c6,_⟩:=hL
  clear hr hf hk
  go_enter Tryz.func56,Tryz.ntmps56
  go_wp2_with fail
  go_loopg [7] L.length (fun gg kv wr=>∃ k:Nat,k≤L.length∧gg=L.length - k∧kv=.int .i64 k∧(∀ (k':Nat) (x:Bool × Tr × Tr),k'<k→L[k']?=some x→¬ (LeftM x.2.1 row i∧RightM x.2.2 row i))∧Below w.heap.size w wr)
  case atStart=>exact ⟨0,by omega,rfl,rfl,by omega,Below.refl _ _⟩
  case round =>
   obtain ⟨w1,hw1⟩:∃ w1,w1=wr:=⟨wr,rfl⟩
   subst hw1
   obtain ⟨k,hk,rfl,rfl,hno,hb1⟩:=hrel
   have HNO:Hid (∀ (k':Nat) (x:Bool × Tr × Tr),k'<k→L[k']?=some x→¬ (LeftM x.2.1 row i∧RightM x.2.2 row i)):=hno
   clear hno
   have e6:w1.cell? ⟨b,6,none⟩=some (.slice ao L.length capL):=cell_below hb1 c6
   by_cases hkl:k<L.length
   ·obtain ⟨ao',capL',c6',hcs⟩:=HL.out.keep hb1
    obtain ⟨rfl,rfl⟩:ao=ao'∧capL=capL':=by rw [e6] at c6';simp at c6';exact c6'
    obtain ⟨gL,vl,vr,rfl,k0,k1,k2,⟨dl,hIl⟩,dr,hIr⟩:=hcs k hkl
    clear hcs c6'
    have hfx:=HF.out L[k] (List.getElem_mem hkl)
    have KR:=HR.out.keep hb1
    have CE:Hid (∀ W',Below w1.heap.size w1 W'→Calls Tryz.prog 106 #[vl,.slice (some ⟨g,0,none⟩) i cap] W' fun e w'=>∃ c:Bool,e=.returned (.bool c)∧(c=true↔LeftM L[k].2.1 row i)∧Below W'.heap.size W' w'):=by
     intro W' hb
     refine (refEnds_any W' dl vl _ L[k].2.1 (row.take i) (hIl.keep (KeepRe.of_below hb)) ((KR.left hi).keep hb) hfx.1 (fun x hx=>HK.out x (List.mem_of_mem_take hx)) (by rw [List.length_take];omega)).mono ?_
     rintro e w' ⟨c,h1,h2,h3⟩
     refine ⟨c,h1,h2.trans ?_,h3⟩
     rw [List.length_take,Nat.min_eq_left hi];exact Iff.rfl
    have CS:Hid (∀ W',Below w1.heap.size w1 W'→Calls Tryz.prog 107 #[vr,.slice (some ⟨g,i,none⟩) (row.length - i) (cap - i)] W' fun e w'=>∃ c:Bool,e=.returned (.bool c)∧(c=true↔RightM L[k].2.2 row i)∧Below W'.heap.size W' w'):=by
     intro W' hb
     refine (refStarts_any W' dr vr _ L[k].2.2 (row.drop i) (hIr.keep (KeepRe.of_below hb)) (KR.right.keep hb) hfx.2 (fun x hx=>HK.out x (List.mem_of_mem_drop hx)) (by rw [List.length_drop];omega)).mono ?_
     rintro e w' ⟨c,h1,h2,h3⟩
     refine ⟨c,h1,h2.trans ?_,h3⟩
     rw [List.length_drop];exact Iff.rfl
    clear hfx KR hIl hIr
    go_upto_region 6 with fail
    go_cut [8] from 23 to 34 (fun xv wx=>∃ c:Bool,xv=.bool c∧(c=true↔LeftM L[k].2.1 row i)∧Below w1.heap.size w1 wx)
    case first =>
     go_region_with (go_at_call 106;refine (CE.out _ ((Below.refl _ _).drew)).mono ?_;rintro e W1 ⟨c,rfl,hc1,hbb⟩)
     all_goals go_wp2_with fail
     all_goals go_meet
     all_goals exact ⟨c,rfl,hc1,((Below.refl _ _).drew).trans hbb⟩
    case rest =>
     obtain ⟨c,rfl,hc1,hb2⟩:=hcut
     obtain ⟨w2,hw2⟩:∃ w2,w2=wc:=⟨wc,rfl⟩
     subst hw2
     have HC1:Hid (c=true↔LeftM L[k].2.1 row i):=hc1
     clear hc1
     have hb02:=hb1.trans (hb2.mono hb1.size)
     have hLk:Hid (L[k]?=some L[k]):=List.getElem?_eq_getElem hkl
     cases c
     ·have HNO2:Hid (∀ (k':Nat) (x:Bool × Tr × Tr),k'<k+1→L[k']?=some x→¬ (LeftM x.2.1 row i∧RightM x.2.2 row i)):=by
       intro k' x hk' hx
       by_cases e:k'=k
       ·subst e
        rw [hLk.out] at hx;cases hx
        intro h;have:=HC1.out.2 h.1;cases this
       ·exact HNO.out k' x (by omega) hx
      go_wp2_with fail
      go_roundg (L.length - (k+1))
      case measure=>omega
      case rel=>exact ⟨k+1,by omega,rfl,by go_num,HNO2.out,hb02⟩
     ·have f6:w2.cell? ⟨b,6,none⟩=some (.slice (some ⟨gL,0,none⟩) L.length capL):=cell_below hb2 e6
      have f2:w2.cell? ⟨gL,k * 3+2,none⟩=some vr:=cell_below hb2 k2
      have f0:w2.cell? ⟨gL,k * 3,none⟩=some (.bool L[k].1):=cell_below hb2 k0
      have hci:Hid (¬ cap=i):=by show ¬ cap=i;omega
      go_upto_region 8 with fail
      go_cut [9] from 37 to 48 (fun xv wx=>∃ c:Bool,xv=.bool c∧(c=true↔RightM L[k].2.2 row i)∧Below w2.heap.size w2 wx)
      case first =>
       go_region_with (go_at_call 107;rw [if_neg hci.out];refine (CS.out _ (by exact (hb2.drew))).mono ?_;rintro e W1 ⟨c,rfl,hc1,hbb⟩)
       all_goals go_wp2_with fail
       all_goals go_meet
       all_goals exact ⟨c,rfl,hc1,((Below.refl _ _).drew).trans hbb⟩
      case rest =>
       obtain ⟨c,rfl,hc2,hb3⟩:=hcut
       obtain ⟨w3,hw3⟩:∃ w3,w3=wc:=⟨wc,rfl⟩
       subst hw3
       have HC2:Hid (c=true↔RightM L[k].2.2 row i):=hc2
       clear hc2
       have hb03:=hb02.trans (hb3.mono hb02.size)
       cases c
       ·have HNO2:Hid (∀ (k':Nat) (x:Bool × Tr × Tr),k'<k+1→L[k']?=some x→¬ (LeftM x.2.1 row i∧RightM x.2.2 row i)):=by
         intro k' x hk' hx
         by_cases e:k'=k
         ·subst e
          rw [hLk.out] at hx;cases hx
          intro h;have:=HC2.out.2 h.2;cases this
         ·exact HNO.out k' x (by omega) hx
        go_wp2_with fail
        go_roundg (L.length - (k+1))
        case measure=>omega
        case rel=>exact ⟨k+1,by omega,rfl,by go_num,HNO2.out,hb03⟩
       ·have g6:w3.cell? ⟨b,6,none⟩=some (.slice (some ⟨gL,0,none⟩) L.length capL):=cell_below hb3 f6
        have g0:w3.cell? ⟨gL,k * 3,none⟩=some (.bool L[k].1):=cell_below hb3 f0
        have HQ:Hid (RefCut L row i L[k].1):=by
         refine refCut_skip k HNO.out ?_
         rw [List.drop_eq_getElem_cons hkl]
         exact Or.inl ⟨HC1.out.1 rfl,HC2.out.1 rfl,rfl⟩
        go_wp2_with fail
        go_ret
        exact ⟨_,rfl,by rw [if_neg hne0.out];exact HQ.out,hb03⟩
   ·go_wp2_with fail
    go_ret
    refine ⟨true,rfl,?_,hb1⟩
    rw [if_neg hne0.out]
    refine refCut_skip k HNO.out ?_
    rw [List.drop_of_length_le (by omega)]
    rfl
end Go.Proofs.YtodagkkjfipbgaaGreatDoor
