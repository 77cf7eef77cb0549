import Derived.Test.YtodagkkjfipbgaaGreatDoorQ4toQ7
namespace Go.Proofs.YtodagkkjfipbgaaGreatDoor
open Go.RowKit
structure PS where
 p:Nat
 f:Int
 pl:Int
 a:Int
 k:Int
namespace PS
def tk (T:ByteArray) (s:PS):List UInt8:=(tokp T s.p).toList
def failAt (T:ByteArray) (s:PS) (no at_:Int):PS:={ s with p:=T.size,f:=pf s.f no,pl:=pp s.f at_ s.pl }
def fail (T:ByteArray) (s:PS) (no:Int):PS:=s.failAt T no s.p
def step (T:ByteArray) (s:PS):PS:={ s with p:=nextp T s.p }
def take (T:ByteArray) (L:List ByteArray) (s:PS):PS:=if memL L (s.tk T)=true then s.step T else s
def need (T:ByteArray) (L:List ByteArray) (s:PS):PS:=if memL L (s.tk T)=true then s.step T else s.fail T 2
end PS
def takenOf (T:ByteArray) (L:List ByteArray) (p:Nat):ByteArray:=if memL L (tokp T p).toList=true then tokp T p else ⟨#[]⟩
theorem nextp_le (T:ByteArray) (p:Nat) (hp:p<=T.size):nextp T p<=T.size/\p<=nextp T p/\(p<T.size->p<nextp T p):=by
 have h1:=tokEnd_le T p
 have h2:=skip_le T (tokEnd T p)
 have h3:=h2.2 (h1.2.1 hp)
 unfold nextp
 refine ⟨h3,by omega,fun h=>?_⟩
 have:=h1.2.2 h;omega
structure RAt (w:World) (b:Nat) (T:ByteArray) (vN vE vL:Value) (s:PS):Prop where
 blk:PAt w b T s.p vN vE vL s.f s.pl
 le:s.p<=T.size
 short:T.size<=1000
theorem RAt.lt {w:World} {b:Nat} {T:ByteArray} {vN vE vL:Value} {s:PS} (h:RAt w b T vN vE vL s):b<w.heap.size:=heap_lt h.blk
theorem RAt.later {w w':World} {b:Nat} {T:ByteArray} {vN vE vL:Value} {s:PS} (h:RAt w b T vN vE vL s) (hb:Below w.heap.size w w'):RAt w' b T vN vE vL s :=
 ⟨by show w'.heap[b]?=_;rw [hb.block b h.lt];exact h.blk,h.le,h.short⟩
theorem bdrew {B:Nat} {a w:World} (h:Below B a w) (n:Nat):Below B a (w.drewN n):=⟨h.os,h.tape,h.output,h.size,h.block⟩
theorem Chg.of_alloc {p:Nat->Prop} (w:World) (o:Obj):Chg p w (w.alloc o):=(Chg.refl _ _).alloc o
theorem these_new (L:List ByteArray) (w:World) (hL:L.length<=100) (h1:1<=L.length):These (w.alloc (.cells (L.map .string).toArray 9)) (.slice (some ⟨w.heap.size,0,none⟩) L.length L.length) L:=by
 refine ⟨⟨by simp,Or.inr ⟨w.heap.size,L.length,(L.map .string).toArray,rfl,Nat.zero_le _,heap_alloc_new _ _,Nat.le_refl _,by simp only [maxLen];omega,by simp,by simp [List.take_of_length_le]⟩⟩,hL⟩
theorem is_new (b:Nat) (T:ByteArray) (vN vE vL:Value) (s:PS) (L:List ByteArray) (w:World) (h:RAt w b T vN vE vL s) (hL:L.length<=100) (h1:1<=L.length) :
  Calls Tryz.prog 76 #[.pointer (some ⟨b,0,none⟩),.slice (some ⟨w.heap.size,0,none⟩) L.length L.length] (w.alloc (.cells (L.map .string).toArray 9)) fun r w'=>r=.returned (.bool (memL L (s.tk T)))/\Below w.heap.size w w':=by
 have h2:=h.later (below_alloc w (.cells (L.map .string).toArray 9))
 refine (is_any b T s.p vN vE vL s.f s.pl _ L _ h2.blk h.le (these_new L w hL h1)).mono ?_
 rintro r w' ⟨rfl,n,rfl⟩
 exact ⟨rfl,bdrew (below_alloc w _) n⟩
theorem take_new (b:Nat) (T:ByteArray) (vN vE vL:Value) (s:PS) (L:List ByteArray) (w:World) (h:RAt w b T vN vE vL s) (hL:L.length<=100) (h1:1<=L.length) :
  Calls Tryz.prog 131 #[.pointer (some ⟨b,0,none⟩),.slice (some ⟨w.heap.size,0,none⟩) L.length L.length] (w.alloc (.cells (L.map .string).toArray 9)) fun r w'=>r=.returned (.string (takenOf T L s.p))/\RAt w' b T vN vE vL (s.take T L)/\Chg (fun k=>k=b) w w':=by
 have h2:=h.later (below_alloc w (.cells (L.map .string).toArray 9))
 have hc:Chg (fun k=>k=b) w (w.alloc (.cells (L.map .string).toArray 9)):=Chg.of_alloc _ _
 cases hm:memL L (s.tk T)
 ·refine (take_no b T s.p vN vE vL s.f s.pl _ L _ h2.blk h.le (these_new L w hL h1) hm).mono ?_
  rintro r w' ⟨rfl,n,rfl⟩
  refine ⟨?_,?_,hc.drewN n⟩
  ·unfold takenOf;rw [show memL L (tokp T s.p).toList=false from hm];rfl
  ·unfold PS.take;rw [hm];exact ⟨pat_drewN h2.blk n,h.le,h.short⟩
 ·refine (take_yes b T s.p vN vE vL s.f s.pl _ L _ h2.blk h.le h.short (these_new L w hL h1) hm).mono ?_
  rintro r w' ⟨rfl,hp,hc2⟩
  refine ⟨?_,?_,hc.trans hc2⟩
  ·unfold takenOf;rw [show memL L (tokp T s.p).toList=true from hm];rfl
  ·unfold PS.take;rw [hm];exact ⟨hp,(nextp_le T s.p h.le).1,h.short⟩
theorem need_new (b:Nat) (T:ByteArray) (vN vE vL:Value) (s:PS) (L:List ByteArray) (w:World) (h:RAt w b T vN vE vL s) (hL:L.length<=100) (h1:1<=L.length) (hne:∀ x ∈ L,x.toList ≠ []) :
  Calls Tryz.prog 128 #[.pointer (some ⟨b,0,none⟩),.slice (some ⟨w.heap.size,0,none⟩) L.length L.length] (w.alloc (.cells (L.map .string).toArray 9)) fun r w'=>r=.returned (.string (takenOf T L s.p))/\RAt w' b T vN vE vL (s.need T L)/\Chg (fun k=>k=b) w w':=by
 have h2:=h.later (below_alloc w (.cells (L.map .string).toArray 9))
 have hc:Chg (fun k=>k=b) w (w.alloc (.cells (L.map .string).toArray 9)):=Chg.of_alloc _ _
 cases hm:memL L (s.tk T)
 ·refine (need_no b T s.p vN vE vL s.f s.pl _ L _ h2.blk h.le (these_new L w hL h1) hm).mono ?_
  rintro r w' ⟨rfl,hp,hc2⟩
  refine ⟨?_,?_,hc.trans hc2⟩
  ·unfold takenOf;rw [show memL L (tokp T s.p).toList=false from hm];rfl
  ·unfold PS.need;rw [hm];exact ⟨hp,Nat.le_refl _,h.short⟩
 ·refine (need_yes b T s.p vN vE vL s.f s.pl _ L _ h2.blk h.le h.short (these_new L w hL h1) hm hne).mono ?_
  rintro r w' ⟨rfl,hp,hc2⟩
  refine ⟨?_,?_,hc.trans hc2⟩
  ·unfold takenOf;rw [show memL L (tokp T s.p).toList=true from hm];rfl
  ·unfold PS.need;rw [hm];exact ⟨hp,(nextp_le T s.p h.le).1,h.short⟩
theorem failAt_ps (b:Nat) (T:ByteArray) (vN vE vL:Value) (s:PS) (no at_:Int) (w:World) (h:RAt w b T vN vE vL s) :
  Calls Tryz.prog 134 #[.pointer (some ⟨b,0,none⟩),.int .i64 no,.int .i64 at_] w fun r w'=>r=.returned (.tuple #[])/\RAt w' b T vN vE vL (s.failAt T no at_)/\Chg (fun k=>k=b) w w':=by
 refine (failAt_any b T s.p (tokEnd T s.p) vN vE vL s.f s.pl no at_ w h.blk).mono ?_
 rintro r w' ⟨rfl,hp,hc⟩
 refine ⟨rfl,⟨?_,Nat.le_refl _,h.short⟩,hc⟩
 show PBlk _ _ _ _ _ _ _ _ _ _
 rw [show (s.failAt T no at_).p=T.size from rfl,tokEnd_size];exact hp
theorem fail_ps (b:Nat) (T:ByteArray) (vN vE vL:Value) (s:PS) (no:Int) (w:World) (h:RAt w b T vN vE vL s) :
  Calls Tryz.prog 80 #[.pointer (some ⟨b,0,none⟩),.int .i64 no] w fun r w'=>r=.returned (.tuple #[])/\RAt w' b T vN vE vL (s.fail T no)/\Chg (fun k=>k=b) w w':=by
 refine (fail_pr b T s.p (tokEnd T s.p) vN vE vL s.f s.pl no w h.blk).mono ?_
 rintro r w' ⟨rfl,hp,hc⟩
 refine ⟨rfl,⟨?_,Nat.le_refl _,h.short⟩,hc⟩
 show PBlk _ _ _ _ _ _ _ _ _ _
 rw [show (s.fail T no).p=T.size from rfl,tokEnd_size];exact hp
theorem step_ps (b:Nat) (T:ByteArray) (vN vE vL:Value) (s:PS) (w:World) (h:RAt w b T vN vE vL s) :
  Calls Tryz.prog 75 #[.pointer (some ⟨b,0,none⟩)] w fun r w'=>r=.returned (.tuple #[])/\RAt w' b T vN vE vL (s.step T)/\Chg (fun k=>k=b) w w':=by
 refine (step_any b T s.p (tokEnd T s.p) vN vE vL s.f s.pl w h.blk ((tokEnd_le T s.p).2.1 h.le) h.short).mono ?_
 rintro r w' ⟨rfl,hp,hc⟩
 exact ⟨rfl,⟨hp,(nextp_le T s.p h.le).1,h.short⟩,hc⟩
theorem now_ps (b:Nat) (T:ByteArray) (vN vE vL:Value) (s:PS) (w:World) (h:RAt w b T vN vE vL s) :
  Calls Tryz.prog 127 #[.pointer (some ⟨b,0,none⟩)] w fun r w'=>r=.returned (.string (tokp T s.p))/\∃ n,w'=w.drewN n :=
 now_any b T s.p (tokEnd T s.p) vN vE vL s.f s.pl w h.blk (tokEnd_le T s.p).1 ((tokEnd_le T s.p).2.1 h.le)
theorem RAt.drewN {w:World} {b:Nat} {T:ByteArray} {vN vE vL:Value} {s:PS} (h:RAt w b T vN vE vL s) (n:Nat):RAt (w.drewN n) b T vN vE vL s:=⟨h.blk,h.le,h.short⟩
theorem isWordBut_new (b:Nat) (T:ByteArray) (vN vE vL:Value) (s:PS) (L:List ByteArray) (w:World) (h:RAt w b T vN vE vL s) (hL:L.length<=100) (h1:1<=L.length) :
  Calls Tryz.prog 170 #[.pointer (some ⟨b,0,none⟩),.slice (some ⟨w.heap.size,0,none⟩) L.length L.length] (w.alloc (.cells (L.map .string).toArray 9)) fun r w'=>r=.returned (.bool (wordp T s.p && !memL L (s.tk T)))/\Below w.heap.size w w':=by
 have h2:=h.later (below_alloc w (.cells (L.map .string).toArray 9))
 refine (isWordBut_any b T s.p vN vE vL s.f s.pl _ L _ h2.blk h.le (these_new L w hL h1)).mono ?_
 rintro r w' ⟨rfl,n,rfl⟩
 exact ⟨rfl,bdrew (below_alloc w _) n⟩
def wClass:ByteArray:=⟨#[99,108,97,115,115]⟩
def wCut:ByteArray:=⟨#[99,117,116]⟩
def wJoin:ByteArray:=⟨#[106,111,105,110]⟩
def sgn (c:UInt8):ByteArray:=⟨#[c]⟩
def PS.isAtom (T:ByteArray) (s:PS):Bool:=memL [sgn 40] (s.tk T) || (wordp T s.p && !memL [wClass,wCut,wJoin] (s.tk T))
set_option maxHeartbeats 1000000 in
theorem isAtom_any (b:Nat) (T:ByteArray) (vN vE vL:Value) (s:PS) (w:World) (h:RAt w b T vN vE vL s) :
  Calls Tryz.prog 224 #[.pointer (some ⟨b,0,none⟩)] w fun r w'=>r=.returned (.bool (s.isAtom T))/\Below w.heap.size w w':=by
 have HH:Hid (RAt w b T vN vE vL s):=h
 clear h
 cases hm:memL [sgn 40] (s.tk T)
 ·have e:Hid (s.isAtom T=(wordp T s.p && !memL [wClass,wCut,wJoin] (s.tk T))):=by show _=_;unfold PS.isAtom;rw [hm];rfl
  rw [e.out]
  go_enter Tryz.func224,Tryz.ntmps224
  go_wp2_with fail
  refine (is_new b T vN vE vL s [sgn 40] w HH.out (by decide) (by decide)).mono ?_
  rintro r w1 ⟨rfl,hb⟩
  rw [hm]
  have H1:Hid (RAt w1 b T vN vE vL s):=HH.out.later hb
  go_wp2_with fail
  refine (isWordBut_new b T vN vE vL s [wClass,wCut,wJoin] w1 H1.out (by decide) (by decide)).mono ?_
  rintro r w2 ⟨rfl,hb2⟩
  go_wp2_with fail
  go_ret
  exact ⟨rfl,hb.trans (hb2.mono hb.size)⟩
 ·have e:Hid (s.isAtom T=true):=by show _=_;unfold PS.isAtom;rw [hm];rfl
  rw [e.out]
  go_enter Tryz.func224,Tryz.ntmps224
  go_wp2_with fail
  refine (is_new b T vN vE vL s [sgn 40] w HH.out (by decide) (by decide)).mono ?_
  rintro r w1 ⟨rfl,hb⟩
  rw [hm]
  go_wp2_with fail
  go_ret
  exact ⟨rfl,hb⟩
set_option maxHeartbeats 2000000 in
theorem only_any (g k:Nat) (w:World) (hk:k<=7) (h:w.cell? ⟨g,0,none⟩=some (.int .u8 k)) :
  Calls Tryz.prog 87 #[.slice (some ⟨g,0,none⟩) 1 1] w fun e w'=>e=.returned (.int .u8 (2 ^ k:Nat))/\w'=w:=by
 obtain ⟨r,hr⟩:∃ r:Int,r=((2 ^ k:Nat):Int):=⟨_,rfl⟩
 rw [<- hr]
 have HR:Hid (r=((2 ^ k:Nat):Int)):=hr
 clear hr
 have hc:k=0\/k=1\/k=2\/k=3\/k=4\/k=5\/k=6\/k=7:=by omega
 rcases hc with rfl | rfl | rfl | rfl | rfl | rfl | rfl | rfl
 all_goals
  clear hk
  go_enter Tryz.func87,Tryz.ntmps87
  go_wp2_with fail
  go_loopg [3,8] 1 (fun gg sv iv wx=>wx=w/\((gg=1/\iv=.int .i64 0/\sv=.int .u8 0)\/(gg=0/\iv=.int .i64 1/\∃ v,sv=.int .u8 v/\Hid (v=r))))
  case atStart=>exact ⟨rfl,Or.inl ⟨rfl,rfl,rfl⟩⟩
  case round =>
   obtain ⟨rfl,⟨rfl,rfl,rfl⟩ | ⟨rfl,rfl,v,rfl,hs⟩⟩:=hrel
   ·go_wp2_with fail
    go_roundg 0
    case measure=>omega
    case rel=>exact ⟨rfl,Or.inr ⟨rfl,rfl,_,rfl,by show _=r;rw [HR.out];decide⟩⟩
   ·go_wp2_with fail
    go_ret
    exact ⟨ret_int hs.out,rfl⟩
def wAny:ByteArray:=⟨#[97,110,121]⟩
def wOther:ByteArray:=⟨#[111,116,104,101,114]⟩
def wBad:ByteArray:=⟨#[98,97,100]⟩
def meaningP (names:List ByteArray) (l:List UInt8):Nat × Bool :=
 if l=[97,110,121] then (255,true) else if l=[111,116,104,101,114] then (64,true) else if l=[98,97,100] then (128,true)
 else (2 ^ (max (clsIx names l) 0).toNat,decide (0<=clsIx names l))
theorem clsIx_lt (names:List ByteArray) (l:List UInt8):-1<=clsIx names l/\clsIx names l<(names.length:Int)+1/\(0<names.length->clsIx names l<names.length):=by
 unfold clsIx
 cases hfi:names.findIdx? (fun y=>y.toList == l) with
 | none=>simp;omega
 | some i=>have:=(List.findIdx?_eq_some_iff_getElem.1 hfi).1;simp;omega
theorem meaningP_lt (names:List ByteArray) (l:List UInt8) (h:names.length<=7):(meaningP names l).1<256:=by
 unfold meaningP
 split
 ·decide
 ·split
  ·decide
  ·split
   ·decide
   ·have:=clsIx_lt names l
    have h1:(max (clsIx names l) 0).toNat<=7:=by omega
    calc 2 ^ (max (clsIx names l) 0).toNat<=2 ^ 7:=Nat.pow_le_pow_right (by decide) h1
     _<256:=by decide
set_option maxRecDepth 100000 in
set_option maxHeartbeats 2000000 in
theorem meaning_any (b:Nat) (T:ByteArray) (vN vE vL:Value) (s:PS) (names:List ByteArray) (x:ByteArray) (w:World) (h:RAt w b T vN vE vL s) (hN:w.ownsRow 0 9 1 vN names.length (names.map .string)) (hl:names.length<=7) :
  Calls Tryz.prog 253 #[.pointer (some ⟨b,0,none⟩),.string x] w fun r w'=>r=.returned (.tuple #[.int .u8 (meaningP names x.toList).1,.bool (meaningP names x.toList).2])/\Below w.heap.size w w':=by
 have HH:Hid (RAt w b T vN vE vL s):=h
 have HN:Hid (w.ownsRow 0 9 1 vN names.length (names.map .string)):=hN
 clear h hN
 by_cases h1:x.toList=[97,110,121]
 ·have k1:(x.toList == [97,110,121])=true:=by simpa using h1
  have e:Hid (meaningP names x.toList=(255,true)):=by show _=_;unfold meaningP;rw [if_pos h1]
  rw [e.out]
  clear h1
  go_enter Tryz.func253,Tryz.ntmps253
  go_wp2_with fail
  go_ret2
  exact ⟨rfl,Below.refl _ _⟩
 ·have k1:(x.toList == [97,110,121])=false:=by simpa using h1
  by_cases h2:x.toList=[111,116,104,101,114]
  ·have k2:(x.toList == [111,116,104,101,114])=true:=by simpa using h2
   have e:Hid (meaningP names x.toList=(64,true)):=by show _=_;unfold meaningP;rw [if_neg h1,if_pos h2]
   rw [e.out]
   clear h1 h2
   go_enter Tryz.func253,Tryz.ntmps253
   go_wp2_with fail
   refine (only_any w.heap.size 6 _ (by decide) (cell_of_block (heap_alloc_new _ _) 0 _ rfl)).mono ?_
   rintro r w1 ⟨rfl,rfl⟩
   go_wp2_with fail
   go_ret2
   exact ⟨rfl,below_alloc _ _⟩
  ·have k2:(x.toList == [111,116,104,101,114])=false:=by simpa using h2
   by_cases h3:x.toList=[98,97,100]
   ·have k3:(x.toList == [98,97,100])=true:=by simpa using h3
    have e:Hid (meaningP names x.toList=(128,true)):=by show _=_;unfold meaningP;rw [if_neg h1,if_neg h2,if_pos h3]
    rw [e.out]
    clear h1 h2 h3
    go_enter Tryz.func253,Tryz.ntmps253
    go_wp2_with fail
    refine (only_any w.heap.size 7 _ (by decide) (cell_of_block (heap_alloc_new _ _) 0 _ rfl)).mono ?_
    rintro r w1 ⟨rfl,rfl⟩
    go_wp2_with fail
    go_ret2
    exact ⟨rfl,below_alloc _ _⟩
   ·have k3:(x.toList == [98,97,100])=false:=by simpa using h3
    have e:Hid (meaningP names x.toList=(2 ^ (max (clsIx names x.toList) 0).toNat,decide (0<=clsIx names x.toList))):=by show _=_;unfold meaningP;rw [if_neg h1,if_neg h2,if_neg h3]
    rw [e.out]
    have hb:=clsIx_lt names x.toList
    obtain ⟨i,hi⟩:∃ i:Nat,i=(max (clsIx names x.toList) 0).toNat:=⟨_,rfl⟩
    have hi2:max (clsIx names x.toList) 0=(i:Int):=by omega
    have hi7:i<=7:=by omega
    obtain ⟨d,hd⟩:∃ d,d=decide (0<=clsIx names x.toList):=⟨_,rfl⟩
    have HK:=kindOf_any b 0 T s.p vN vE vL s.f s.pl names x w HH.out.blk HN.out (by omega)
    rw [hi2,<- hd] at HK
    rw [<- hi,<- hd]
    have HK2:Hid (Calls Tryz.prog 171 #[.pointer (some ⟨b,0,none⟩),.string x] w fun r w'=>r=.returned (.tuple #[.int .u8 i,.bool d])/\w'=w):=HK
    clear h1 h2 h3 hi hi2 hd HK hb
    go_enter Tryz.func253,Tryz.ntmps253
    go_wp2_with fail
    refine HK2.out.mono ?_
    rintro r w1 ⟨rfl,rfl⟩
    go_wp2_with fail
    refine (only_any _ i _ hi7 (cell_of_block (heap_alloc_new _ _) 0 _ rfl)).mono ?_
    rintro r w1 ⟨rfl,rfl⟩
    go_wp2_with fail
    go_ret2
    exact ⟨rfl,below_alloc _ _⟩
open Go.Maps
theorem bits_all:((List.range 256).all fun t=>(List.range 8).all fun k=>(bits BinOp.and IntKind.u8 (t:Nat) (2 ^ k) != 0) == t.testBit k)=true:=by kernel_rfl
theorem bits_has (t k:Nat) (ht:t<256) (hk:k<8):(bits BinOp.and IntKind.u8 (t:Nat) (2 ^ k) != 0)=t.testBit k:=by
 have h:=List.all_eq_true.1 (List.all_eq_true.1 bits_all t (List.mem_range.2 ht)) k (List.mem_range.2 hk)
 simpa using h
set_option maxRecDepth 100000 in
set_option maxHeartbeats 1000000 in
theorem hasK_any (w:World) (t k:Nat) (ht:t<256) (hk:k<8) :
  Calls Tryz.prog 89 #[.int .u8 t,.int .u8 k] w fun r w'=>r=.returned (.bool (t.testBit k))/\Below w.heap.size w w':=by
 go_enter Tryz.func89,Tryz.ntmps89
 go_wp2_with fail
 refine (only_any w.heap.size k _ (by omega) (cell_of_block (heap_alloc_new w _) 0 _ rfl)).mono ?_
 rintro r w1 ⟨rfl,rfl⟩
 go_wp2_with fail
 go_ret
 exact ⟨ret_bool (bits_has t k ht hk),below_alloc w _⟩
theorem stand_any (g:List (List (Nat × Nat))) (hg:GOk g) (v:Value) (w:World) (b:Nat) (S:Nat->Prop) (a:Nat) (hG:GIn w v g) (hS:SetAt w b g.length S) (ha:a<g.length) (hc:closedS g S) :
  Calls Tryz.prog 178 #[v,.map (some b),.int .i64 a] w fun r w'=>r=.returned (.tuple #[])/\SetAt w' b g.length (fun x=>S x\/reach g a x)/\Chg (fun k=>k=b) w w':=by
 obtain ⟨D,hD⟩:=hS
 refine (stand_fuel g hg v g.length w b D S a hG hD (by omega) ha).mono ?_
 rintro r w' ⟨rfl,⟨R,hR,hSt⟩,hC⟩
 exact ⟨rfl,hR.congr (hSt.eq hc),hC⟩
set_option maxRecDepth 100000 in
set_option maxHeartbeats 1000000 in
theorem from_any (g:List (List (Nat × Nat))) (hg:GOk g) (v:Value) (w:World) (a:Nat) (hG:GIn w v g) (ha:a<g.length) :
  Calls Tryz.prog 180 #[v,.int .i64 a] w fun r w'=>∃ b,r=.returned (.map (some b))/\w.heap.size<=b/\SetAt w' b g.length (reach g a)/\Below w.heap.size w w':=by
 have HG:Hid (GIn w v g):=hG
 obtain ⟨ao,cap,rfl,_⟩:=hG.form
 clear hG
 have hmm:=@run_makeMap Tryz.prog
 go_enter Tryz.func180,Tryz.ntmps180
 go_wp2_with fail
 refine (stand_any g hg _ _ w.heap.size (fun _=>False) a (HG.out.below (below_alloc _ _)) ⟨_,set_made w g.length⟩ ha (closed_none g)).mono ?_
 rintro r w1 ⟨rfl,hS,hC⟩
 have H1:Hid (SetAt w1 w.heap.size g.length (reach g a)):=hS.congr fun x=>by simp
 have B1:Hid (Below w.heap.size w w1):=(below_alloc w _).trans (hC.below (by simp) (fun k hk e=>by omega))
 clear hS hC
 go_wp2_with fail
 go_ret
 exact ⟨_,rfl,Nat.le_refl _,H1.out,B1.out⟩
def stepOut (g:List (List (Nat × Nat))) (F:Nat->Prop) (k:Nat) (left:Lit->Bool) (x:Nat):Prop:=∃ (a:Nat) (t y:Nat),F a/\left (.int .i64 (a:Int))=false/\(t,y) ∈ grow g a/\t.testBit k=true/\reach g y x
def stepIn (g:List (List (Nat × Nat))) (F:Nat->Prop) (k:Nat) (left:Lit->Bool) (a0 i:Nat) (x:Nat):Prop:=stepOut g F k left x\/∃ (j t y:Nat),j<i/\(grow g a0)[j]?=some (t,y)/\t.testBit k=true/\reach g y x
theorem stepOut_closed (g:List (List (Nat × Nat))) (F:Nat->Prop) (k:Nat) (left:Lit->Bool):closedS g (stepOut g F k left):=fun _ ⟨a,t,z,h1,h0,h2,h3,h4⟩ y hy=>⟨a,t,z,h1,h0,h2,h3,reach_closed g z _ h4 y hy⟩
theorem stepIn_closed (g:List (List (Nat × Nat))) (F:Nat->Prop) (k:Nat) (left:Lit->Bool) (a0 i:Nat):closedS g (stepIn g F k left a0 i):=by
 rintro x (h | ⟨j,t,z,h1,h2,h3,h4⟩) y hy
 ·exact Or.inl (stepOut_closed g F k left x h y hy)
 ·exact Or.inr ⟨j,t,z,h1,h2,h3,reach_closed g z _ h4 y hy⟩
theorem stepOut_end {g:List (List (Nat × Nat))} {F:Nat->Prop} {k:Nat} {left:Lit->Bool} (h:∀ kl,left kl=false) (x:Nat):stepOut g F k left x↔stepS g F k x :=
 ⟨fun ⟨a,t,y,h1,_,h2⟩=>⟨a,t,y,h1,h2⟩,fun ⟨a,t,y,h1,h2⟩=>⟨a,t,y,h1,h _,h2⟩⟩
theorem stepIn_zero {g:List (List (Nat × Nat))} {F:Nat->Prop} {k:Nat} {left:Lit->Bool} {a0:Nat} (x:Nat):stepOut g F k left x↔stepIn g F k left a0 0 x :=
 ⟨Or.inl,fun h=>h.elim id fun ⟨_,_,_,h,_⟩=>absurd h (Nat.not_lt_zero _)⟩
theorem stepIn_skip {g:List (List (Nat × Nat))} {F:Nat->Prop} {k:Nat} {left:Lit->Bool} {a0 i t y:Nat} (he:(grow g a0)[i]?=some (t,y)) (ht:t.testBit k=false) (x:Nat):stepIn g F k left a0 i x↔stepIn g F k left a0 (i+1) x:=by
 constructor
 ·rintro (h | ⟨j,t',z,h1,h2⟩)
  ·exact Or.inl h
  ·exact Or.inr ⟨j,t',z,by omega,h2⟩
 ·rintro (h | ⟨j,t',z,h1,h2,h3,h4⟩)
  ·exact Or.inl h
  ·by_cases e:j=i
   ·subst e;rw [he] at h2;simp at h2;obtain ⟨rfl,rfl⟩:=h2;rw [ht] at h3;cases h3
   ·exact Or.inr ⟨j,t',z,by omega,h2,h3,h4⟩
theorem stepIn_next {g:List (List (Nat × Nat))} {F:Nat->Prop} {k:Nat} {left:Lit->Bool} {a0 i t y:Nat} (he:(grow g a0)[i]?=some (t,y)) (ht:t.testBit k=true) (x:Nat):(stepIn g F k left a0 i x\/reach g y x)↔stepIn g F k left a0 (i+1) x:=by
 constructor
 ·rintro ((h | ⟨j,t',z,h1,h2⟩) | h)
  ·exact Or.inl h
  ·exact Or.inr ⟨j,t',z,by omega,h2⟩
  ·exact Or.inr ⟨i,t,y,by omega,he,ht,h⟩
 ·rintro (h | ⟨j,t',z,h1,h2,h3,h4⟩)
  ·exact Or.inl (Or.inl h)
  ·by_cases e:j=i
   ·subst e;rw [he] at h2;simp at h2;obtain ⟨rfl,rfl⟩:=h2;exact Or.inr h4
   ·exact Or.inl (Or.inr ⟨j,t',z,by omega,h2,h3,h4⟩)
theorem stepIn_end {g:List (List (Nat × Nat))} {F:Nat->Prop} {k:Nat} {left:Lit->Bool} {a0 i:Nat} (hF:F a0) (hi:(grow g a0).length<=i) (x:Nat):stepIn g F k left a0 i x↔stepOut g F k (fun z=>left z && !z.sameKey (.int .i64 (a0:Int))) x:=by
 constructor
 ·rintro (⟨a,t,y,h1,h2,h3⟩ | ⟨j,t,y,h1,h2,h3,h4⟩)
  ·exact ⟨a,t,y,h1,by simp [h2],h3⟩
  ·exact ⟨a0,t,y,hF,by simp [WideAt.sameKey_self (show WideAt.IsKeyLit (.int .i64 (a0:Int)) from trivial)],List.mem_of_getElem? h2,h3,h4⟩
 ·rintro ⟨a,t,y,h1,h2,h3,h4,h5⟩
  by_cases e:a=a0
  ·subst e
   obtain ⟨j,hj⟩:=List.mem_iff_getElem?.1 h3
   exact Or.inr ⟨j,t,y,Nat.lt_of_lt_of_le (List.getElem?_eq_some_iff.1 hj).1 hi,hj,h4,h5⟩
  ·refine Or.inl ⟨a,t,y,h1,?_,h3,h4,h5⟩
   have hne:(Lit.int .i64 (a:Int)).sameKey (.int .i64 (a0:Int))=false:=sameKey_ne (fun e'=>e (by injection e' with _ e';exact_mod_cast e'))
   have h2':(left (.int .i64 (a:Int)) && !(Lit.int .i64 (a:Int)).sameKey (.int .i64 (a0:Int)))=false:=h2
   rw [hne] at h2'
   simpa using h2'
theorem chg_grown {w w':World} {b:Nat} (h:Chg (fun k=>k=b) w w'):w.grownBy w' (some b):=⟨h.os,h.tape,h.output,h.size,fun k hk hne=>h.block k hk fun e=>hne (by rw [e])⟩
set_option maxRecDepth 100000 in
set_option maxHeartbeats 4000000 in
theorem gstep_any (g:List (List (Nat × Nat))) (hg:GOk g) (v:Value) (w:World) (b k:Nat) (F:Nat->Prop) (hG:GIn w v g) (hF:SetAt w b g.length F) (hk:k<8) :
  Calls Tryz.prog 177 #[v,.map (some b),.int .u8 k] w fun r w'=>∃ b',r=.returned (.map (some b'))/\w.heap.size<=b'/\SetAt w' b' g.length (stepS g F k)/\Below w.heap.size w w':=by
 have HG:Hid (GIn w v g):=hG
 obtain ⟨ao,cap,rfl,_⟩:=hG.form
 obtain ⟨D,hD⟩:=hF
 have HD:Hid (SetD w b g.length D F):=hD
 have hbl:=hD.blk
 have hglen:=hg.len
 clear hG hD
 have hmm:=@run_makeMap Tryz.prog
 have O0:Hid ((w.alloc (.map #[] 0)).ownsMap Tryz.prog 3 unitElem b (Maps.size D) D):=HD.out.own.alloc _
 go_enter Tryz.func177,Tryz.ntmps177
 go_wp2_with (at_range;refine wpList_range_own _ rfl _ 296 rfl 3 338 intKey Tryz.undSet unitElem b (Maps.size D) D rfl O0.out ?_;intro w0 hrg0 hg0 hs0)
 go_frame
 have e1:(w.alloc (.map #[] 0)).heap.size=w.heap.size+1:=by simp
 rw [e1] at hrg0 ⊢
 have B0:Hid (Below w.heap.size w w0):=(below_alloc w _).grown hg0 (by simp) (fun k e=>by cases e)
 have R0:Hid (w0.ranges Tryz.prog 3 unitElem b (w.heap.size+1) (Maps.size D) D (Maps.has D) (Maps.size D)):=hrg0
 have S0:Hid (SetAt w0 w.heap.size g.length (stepOut g F k (Maps.has D))):=by
  refine SetAt.congr (S:=fun _=>False) ⟨_,(set_made w g.length).kept (hg0.block _ (by simp) (by simp))⟩ fun x=>⟨False.elim,?_⟩
  rintro ⟨a,t,y,h1,h2,_⟩
  rw [(HD.out.mem a).2 h1] at h2;cases h2
 clear hrg0 hg0 hs0 e1 O0
 go_loopg [14] (Maps.size D) (fun gh _ wx=>∃ left,Hid (wx.ranges Tryz.prog 3 unitElem b (w.heap.size+1) (Maps.size D) D left gh)/\Hid (SetAt wx w.heap.size g.length (stepOut g F k left))/\Hid (Below w.heap.size w wx))
 case atStart=>exact ⟨_,R0,S0,B0⟩
 case round =>
  obtain ⟨left,hR,hS,hB⟩:=hrel
  obtain ⟨w1,hw1⟩:∃ w1,w1=wr:=⟨wr,rfl⟩
  subst hw1
  go_wp2_with (at_next;refine wpList_next_ranges _ rfl _ rfl 3 intKey unitElem (fun x:Int=>Value.int .i64 x) (fun _:Unit=>Value.agg #[]) (fun key kl h=>by obtain ⟨x,e,_⟩:=Maps.keyOf_int_inv Tryz.undI h;exact ⟨x,e⟩) (fun v y h=>⟨(),(unitElem_inv h).1⟩) b (w.heap.size+1) (Maps.size D) D left gk rfl hR.out ?_ ?_)
  ·intro _ hl0
   go_wp2_with fail
   go_ret
   exact ⟨w.heap.size,rfl,Nat.le_refl _,hS.out.congr (stepOut_end hl0),hB.out⟩
  ·intro x c kl y w2 cnt2 hkey hlx hv hat hrg2 hlt hg2 hs2 hen
   obtain ⟨x',ex,hkl,hwx⟩:=Maps.keyOf_int_inv Tryz.undI hkey
   subst hkl
   have hhas:=Maps.has_true_of_atKey hat
   obtain ⟨a,ha,ea⟩:=HD.out.key _ hhas
   injection ea with _ ea
   subst ea
   injection ex with _ ex
   subst ex
   have hFa:F a:=(HD.out.mem a).1 hhas
   have hbig:w.heap.size<w1.heap.size:=hS.out.blk
   have B2:Hid (Below w.heap.size w w2):=hB.out.grown hg2 (Nat.le_of_lt hbig) (fun k e=>by cases e;omega)
   have R2:Hid (w2.ranges Tryz.prog 3 unitElem b (w.heap.size+1) (Maps.size D) D (fun z=>left z && !z.sameKey (.int .i64 (a:Int))) cnt2):=hrg2
   have S2:Hid (SetAt w2 w.heap.size g.length (stepIn g F k left a 0)):=(hS.out.kept (hg2.block _ hbig (fun e=>by have:=Option.some.inj e;omega))).congr stepIn_zero
   obtain ⟨q,ao2,cap2,hq,hcq⟩:=gin_row (a:=a) HG.out ha
   subst hq
   have HQ:Hid (w.cell? ⟨q,a,none⟩=some (.slice ao2 g[a].length cap2)):=hcq
   have hcq2:=(KpA.below B2.out).cell hcq
   have hrl:=hg.row g[a] (List.getElem_mem ha)
   clear hcq hat hkey hlx hv hrg2 hg2 hs2 hhas hwx hR hS hB hbig
   go_wp2_with fail
   go_loopg [23] g[a].length (fun gh iv wx=>∃ i:Nat,i<=g[a].length/\gh=g[a].length - i/\iv=.int .i64 i/\Hid (wx.ranges Tryz.prog 3 unitElem b (w.heap.size+1) (Maps.size D) D (fun z=>left z && !z.sameKey (.int .i64 (a:Int))) cnt2)/\Hid (SetAt wx w.heap.size g.length (stepIn g F k left a i))/\Hid (Below w.heap.size w wx))
   case atStart=>exact ⟨0,Nat.zero_le _,rfl,rfl,R2,S2,B2⟩
   case round =>
    obtain ⟨i,hi,rfl,rfl,hR3,hS3,hB3⟩:=hrel
    obtain ⟨w3,hw3⟩:∃ w3,w3=wr:=⟨wr,rfl⟩
    subst hw3
    have G3:Hid (GIn w3 (.slice (some ⟨q,0,none⟩) g.length cap) g):=HG.out.kpa (KpA.below hB3.out)
    have hq3:=(KpA.below hB3.out).cell HQ.out
    by_cases hlt2:i<g[a].length
    ·obtain ⟨q2,hq2,c0,c1⟩:=gin_edge G3.out ha hq3 hlt2
     subst hq2
     have hto:=hg.to_ g[a] (List.getElem_mem ha) g[a][i] (List.getElem_mem hlt2)
     have hed:Hid ((grow g a)[i]?=some g[a][i]):=by show _=_;rw [grow_at ha];exact List.getElem?_eq_getElem hlt2
     generalize g[a][i]=ed at c0 c1 hto hed
     obtain ⟨t,y⟩:=ed
     simp only at c0 c1 hto
     clear hq3 hcq2
     go_wp2_with fail
     refine (hasK_any _ t k hto.2 hk).mono ?_
     rintro r w4 ⟨rfl,hb4⟩
     have hb34:Below w3.heap.size w3 w4:=(below_alloc w3 _).trans (hb4.mono (by simp))
     have hg34:w3.grownBy w4 none:=⟨hb34.os,hb34.tape,hb34.output,hb34.size,fun k hk _=>hb34.block k hk⟩
     have R4:Hid (w4.ranges Tryz.prog 3 unitElem b (w.heap.size+1) (Maps.size D) D (fun z=>left z && !z.sameKey (.int .i64 (a:Int))) cnt2):=hR3.out.kept hg34 (by simp) (by simp)
     have S4:Hid (SetAt w4 w.heap.size g.length (stepIn g F k left a i)):=hS3.out.below hb34
     have B4:Hid (Below w.heap.size w w4):=hB3.out.trans (hb34.mono hB3.out.size)
     have d1:w4.cell? ⟨w3.heap.size,1,none⟩=some (.int .i64 y):=(hb4.cell (p:=⟨w3.heap.size,1,none⟩) (by simp)).trans (cell_of_block (heap_alloc_new w3 _) 1 _ rfl)
     have G4:Hid (GIn w4 (.slice (some ⟨q,0,none⟩) g.length cap) g):=G3.out.below hb34
     clear hb4 hg34 hb34 hR3 hS3 hB3 G3 c0 c1
     cases hbit:t.testBit k
     ·go_wp2_with fail
      go_roundg (g[a].length - (i+1))
      case measure=>omega
      case rel=>exact ⟨i+1,by omega,rfl,by go_num,R4,S4.out.congr (stepIn_skip hed.out hbit),B4⟩
     ·go_wp2_with fail
      refine (stand_any g hg _ w4 w.heap.size _ y G4.out S4.out hto.1 (stepIn_closed g F k left a i)).mono ?_
      rintro r w5 ⟨rfl,hS5,hC5⟩
      have S5:Hid (SetAt w5 w.heap.size g.length (stepIn g F k left a (i+1))):=hS5.congr (stepIn_next hed.out hbit)
      have R5:Hid (w5.ranges Tryz.prog 3 unitElem b (w.heap.size+1) (Maps.size D) D (fun z=>left z && !z.sameKey (.int .i64 (a:Int))) cnt2):=R4.out.kept (chg_grown hC5) (fun e=>by have:=Option.some.inj e;omega) (fun e=>by have:=Option.some.inj e;omega)
      have B5:Hid (Below w.heap.size w w5):=B4.out.trans (hC5.below B4.out.size (fun k hk e=>by omega))
      clear hS5 hC5
      go_wp2_with fail
      go_roundg (g[a].length - (i+1))
      case measure=>omega
      case rel=>exact ⟨i+1,by omega,rfl,by go_num,R5,S5,B5⟩
    ·clear hq3 hcq2
     go_wp2_with fail
     go_roundg cnt2
     case measure=>exact hlt
     case rel=>exact ⟨_,hR3,hS3.out.congr (stepIn_end hFa (by rw [grow_at ha];omega)),hB3⟩
theorem neqU (w:World):(binOp .neq 338 (.agg #[]) (.agg #[])).run Tryz.prog w=.ok (.bool false) w:=by
 have e:(Tryz.prog.fieldsOf 338).toList=[]:=by kernel_rfl
 rw [run_neq_struct,run_equalIn_agg w 9999 338 #[] #[] (by kernel_rfl) (by kernel_rfl),e]
 rfl
theorem guardU (w:World) (a b:Operand):(eqGuard .neq 338 a b (.agg #[]) (.agg #[])).run Tryz.prog w=.ok () w:=run_eqGuard_agg w .neq 338 a b #[] #[] (by kernel_rfl)
def EqPost (S1 S2:Nat->Prop) (w:World) (r:Ending) (w':World):Prop:=∃ c,r=.returned (.bool c)/\(c=true↔∀ x,S1 x↔S2 x)/\Below w.heap.size w w'
set_option maxRecDepth 100000 in
set_option maxHeartbeats 4000000 in
theorem equal_any (w:World) (b1 b2 N:Nat) (S1 S2:Nat->Prop) (h1:SetAt w b1 N S1) (h2:SetAt w b2 N S2) (hN:N<=9000) :
  Calls Tryz.prog 230 #[.map (some b1),.map (some b2)] w (EqPost S1 S2 w):=by
 obtain ⟨D1,hD1⟩:=h1
 obtain ⟨D2,hD2⟩:=h2
 have H1:Hid (SetD w b1 N D1 S1):=hD1
 have H2:Hid (SetD w b2 N D2 S2):=hD2
 have l1:=fun ty=>hD1.own.len (t:=296) Tryz.undSet ty
 have l2:=fun ty=>hD2.own.len (t:=296) Tryz.undSet ty
 clear hD1 hD2
 by_cases hsz:Maps.size D1=Maps.size D2
 ·rw [<- hsz] at l2
  have HSZ:Hid (Maps.size D1=Maps.size D2):=hsz
  clear hsz
  go_enter Tryz.func230,Tryz.ntmps230
  go_wp2_with (at_range;refine wpList_range_own _ rfl _ 296 rfl 3 338 intKey Tryz.undSet unitElem b1 (Maps.size D1) D1 rfl H1.out.own ?_;intro w0 hrg0 hg0 hs0)
  go_frame
  have R0:Hid (w0.ranges Tryz.prog 3 unitElem b1 w.heap.size (Maps.size D1) D1 (Maps.has D1) (Maps.size D1)):=hrg0
  have B0:Hid (Below w.heap.size w w0):=(Below.refl _ _).grown hg0 (Nat.le_refl _) (fun k e=>by cases e)
  clear hrg0 hg0 hs0 l1 l2
  have hnq:=neqU
  have hgq:=guardU
  go_loopg [16] (Maps.size D1) (fun gh _ wx=>∃ left,Hid (wx.ranges Tryz.prog 3 unitElem b1 w.heap.size (Maps.size D1) D1 left gh)/\Hid (∀ x:Nat,S1 x->left (.int .i64 (x:Int))=false->S2 x)/\Hid (Below w.heap.size w wx))
  case atStart=>exact ⟨_,R0,(fun x h1 h2=>by rw [(H1.out.mem x).2 h1] at h2;cases h2),B0⟩
  case round =>
   obtain ⟨left,hR,hL,hB⟩:=hrel
   obtain ⟨w1,hw1⟩:∃ w1,w1=wr:=⟨wr,rfl⟩
   subst hw1
   go_wp2_with (at_next;refine wpList_next_ranges _ rfl _ rfl 3 intKey unitElem (fun x:Int=>Value.int .i64 x) (fun _:Unit=>Value.agg #[]) (fun key kl h=>by obtain ⟨x,e,_⟩:=Maps.keyOf_int_inv Tryz.undI h;exact ⟨x,e⟩) (fun v y h=>⟨(),(unitElem_inv h).1⟩) b1 w.heap.size (Maps.size D1) D1 left gk rfl hR.out ?_ ?_)
   ·intro _ hl0
    go_wp2_with fail
    go_ret
    exact ⟨true,rfl,⟨fun _=>H1.out.same H2.out HSZ.out fun x hx=>hL.out x hx (hl0 _),fun _=>rfl⟩,hB.out⟩
   ·intro x c kl y w2 cnt2 hkey hlx hv hat hrg2 hlt hg2 hs2 hen
    obtain ⟨x',ex,hkl,hwx⟩:=Maps.keyOf_int_inv Tryz.undI hkey
    subst hkl
    have hhas:=Maps.has_true_of_atKey hat
    obtain ⟨a,ha,ea⟩:=H1.out.key _ hhas
    injection ea with _ ea
    subst ea
    injection ex with _ ex
    subst ex
    have hSa:S1 a:=(H1.out.mem a).1 hhas
    have B2:Hid (Below w.heap.size w w2):=hB.out.grown hg2 hB.out.size (fun k e=>by cases e;exact Nat.le_refl _)
    have R2:Hid (w2.ranges Tryz.prog 3 unitElem b1 w.heap.size (Maps.size D1) D1 (fun z=>left z && !z.sameKey (.int .i64 (a:Int))) cnt2):=hrg2
    have O2:Hid ((w2.alloc (.cells #[] 338)).ownsMap Tryz.prog 3 unitElem b2 (Maps.size D2) D2):=(H2.out.kept (B2.out.block b2 H2.out.blk)).own.alloc _
    clear hat hkey hlx hv hrg2 hg2 hs2 hhas hwx hR hB
    cases hh:Maps.has D2 (.int .i64 (a:Int))
    ·go_wp2_with (at_lookup;refine wpList_lookup_own_unit _ rfl _ _ 296 rfl 3 338 intKey Tryz.undSet (zeroU _) b2 (Maps.size D2) D2 rfl O2.out _ _ rfl (keyOf_nat a (by omega)) ?_;rw [hh])
     go_ret
     refine ⟨false,rfl,⟨(by intro e;cases e),fun e=>?_⟩,((B2.out.alloc B2.out.size _).alloc (by have:=B2.out.size;simp;omega) _)⟩
     have:=(H2.out.mem a).2 ((e a).1 hSa)
     rw [hh] at this;cases this
    ·have hL2:Hid (∀ x:Nat,S1 x->(left (.int .i64 (x:Int)) && !(Lit.int .i64 (x:Int)).sameKey (.int .i64 (a:Int)))=false->S2 x):=by
      intro x hx he
      by_cases e:x=a
      ·subst e;exact (H2.out.mem x).1 hh
      ·rw [sameKey_ne (fun e'=>e (by injection e' with _ e';exact_mod_cast e'))] at he
       exact hL.out x hx (by simpa using he)
     go_wp2_with (at_lookup;refine wpList_lookup_own_unit _ rfl _ _ 296 rfl 3 338 intKey Tryz.undSet (zeroU _) b2 (Maps.size D2) D2 rfl O2.out _ _ rfl (keyOf_nat a (by omega)) ?_;rw [hh])
     go_roundg cnt2
     case measure=>exact hlt
     case rel=>exact ⟨_,(R2.out.alloc _).alloc _,hL2,((B2.out.alloc B2.out.size _).alloc (by have:=B2.out.size;simp;omega) _)⟩
 ·have hne:¬ ((Maps.size D1:Int)=(Maps.size D2:Int)):=fun e=>hsz (by exact_mod_cast e)
  go_enter Tryz.func230,Tryz.ntmps230
  go_wp2_with fail
  go_ret
  refine ⟨false,rfl,⟨(by intro e;cases e),fun e=>absurd ?_ hsz⟩,Below.refl _ _⟩
  exact Nat.le_antisymm (H1.out.size_mono H2.out fun x=>(e x).1) (H2.out.size_mono H1.out fun x=>(e x).2)
end Go.Proofs.YtodagkkjfipbgaaGreatDoor
