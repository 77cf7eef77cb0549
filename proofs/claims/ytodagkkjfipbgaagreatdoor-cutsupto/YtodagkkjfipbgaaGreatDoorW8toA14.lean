import Derived.Test.YtodagkkjfipbgaaGreatDoorA12toW7
namespace Go.Proofs.YtodagkkjfipbgaaGreatDoor
open Go.RowKit
theorem below_drewN {B:Nat} {a w:World} (h:Below B a w) (n:Nat):Below B a (w.drewN n):=⟨h.os,h.tape,h.output,h.size,h.block⟩
theorem ReRow.push {R:Value→Rx→Prop} {B:Nat} {w':World} {v' u:Value} {x:Rx} {O:List Rx} {us:List Value}
  (hlen:us.length=O.length) (hR:∀ (i:Nat) (u:Value) (x:Rx),us[i]?=some u→O[i]?=some x→R u x) (hu:R u x)
  (hown:w'.ownsRow B 178 1 v' (O.length+1) (us++[u])):ReRow R B w' v' (O++[x]):=by
 refine ⟨us++[u],by simp [hlen],by simpa using hown,?_⟩
 intro i u' x' h1 h2
 by_cases hi:i<O.length
 ·rw [List.getElem?_append_left (by omega)] at h1
  rw [List.getElem?_append_left hi] at h2
  exact hR i _ _ h1 h2
 ·have hi':i=O.length:=by
   have:=(List.getElem?_eq_some_iff.1 h2).1
   simp at this;omega
  subst hi'
  rw [List.getElem?_append_right (by omega)] at h1
  rw [List.getElem?_append_right (by omega)] at h2
  simp [hlen] at h1 h2
  subst h1;subst h2
  exact hu
theorem push2 {R:Value→Rx→Prop} {B:Nat} {w':World} {v' u u2:Value} {x x2:Rx} {O:List Rx} {us:List Value}
  (hlen:us.length=O.length) (hR:∀ (i:Nat) (u:Value) (x:Rx),us[i]?=some u→O[i]?=some x→R u x) (hu:R u x) (hu2:R u2 x2)
  (hown:w'.ownsRow B 178 1 v' (O.length+1+1) (us++[u]++[u2])):ReRow R B w' v' (O++[x]++[x2]):=by
 refine ReRow.push (us:=us++[u]) (by simp [hlen]) ?_ hu2 (by simpa using hown)
 intro i u' x' h1 h2
 by_cases hi:i<O.length
 ·rw [List.getElem?_append_left (by omega)] at h1
  rw [List.getElem?_append_left hi] at h2
  exact hR i _ _ h1 h2
 ·have hi':i=O.length:=by
   have:=(List.getElem?_eq_some_iff.1 h2).1
   simp at this;omega
  subst hi'
  rw [List.getElem?_append_right (by omega)] at h1
  rw [List.getElem?_append_right (by omega)] at h2
  simp [hlen] at h1 h2
  subst h1;subst h2
  exact hu
theorem below_push {B:Nat} {w W w':World} {v:Value} {e:TypeId} {size n:Nat} {us:List Value} (hg:W.grownBy w' v.ownBlock) (hb:Below B w W) (hB:B≤W.heap.size) (hown:W.ownsRow B e size v n us):Below B w w' :=
 hb.grown hg hB (fun k hk=>(hown.lt k hk).1)
theorem one_ptr (q:Option Addr):∀ u ∈ [Value.pointer q],u.oneCell'=true:=by
 intro u hu;simp at hu;subst hu;rfl
def amongAt (L:List Rx) (x:Rx) (k:Nat) (inn:Bool) (O:List Rx):Prop:=O++(if inn=true then L.drop k else amongX (L.drop k) x)=amongX L x
theorem amongAt_in {L:List Rx} {x:Rx} {k:Nat} {O:List Rx} (hk:k<L.length) (h:amongAt L x k true O):amongAt L x (k+1) true (O++[L[k]]):=by
 unfold amongAt at *
 rw [if_pos rfl,List.drop_eq_getElem_cons hk] at h
 rw [if_pos rfl,List.append_assoc];exact h
theorem amongAt_gt {L:List Rx} {x:Rx} {k:Nat} {O:List Rx} (hk:k<L.length) (h:amongAt L x k false O) (hle:leF x.form L[k].form=false):amongAt L x (k+1) false (O++[L[k]]):=by
 unfold amongAt at *
 rw [if_neg (by simp),List.drop_eq_getElem_cons hk,amongX,if_neg (by simp [hle])] at h
 rw [if_neg (by simp),List.append_assoc];exact h
theorem amongAt_eq {L:List Rx} {x:Rx} {k:Nat} {O:List Rx} (hk:k<L.length) (h:amongAt L x k false O) (hle:leF x.form L[k].form=true) (he:(x.form.toList == L[k].form.toList)=true):amongAt L x (k+1) true (O++[L[k]]):=by
 unfold amongAt at *
 rw [if_neg (by simp),List.drop_eq_getElem_cons hk,amongX,if_pos hle,if_pos he] at h
 rw [if_pos rfl,List.append_assoc];exact h
theorem amongAt_lt {L:List Rx} {x:Rx} {k:Nat} {O:List Rx} (hk:k<L.length) (h:amongAt L x k false O) (hle:leF x.form L[k].form=true) (he:(x.form.toList == L[k].form.toList)=false):amongAt L x (k+1) true (O++[x]++[L[k]]):=by
 unfold amongAt at *
 rw [if_neg (by simp),List.drop_eq_getElem_cons hk,amongX,if_pos hle,if_neg (by simp [he])] at h
 rw [if_pos rfl,List.append_assoc,List.append_assoc];exact h
theorem amongAt_len {L:List Rx} {x:Rx} {k:Nat} {inn:Bool} {O:List Rx} (h:amongAt L x k inn O):O.length≤L.length+1:=by
 have hl:∀ L:List Rx,(amongX L x).length≤L.length+1:=by
  intro L;induction L with
  | nil=>simp [amongX]
  | cons a r ih=>rw [amongX];split
                 ·split <;> simp
                 ·simp;omega
 have:=congrArg List.length h
 have:=hl L
 simp at *;omega
set_option maxHeartbeats 4000000 in
theorem among_any (w:World) (d:Nat) (vl a:Value) (L:List Rx) (x:Rx) (hl:ReRow (IsRe d w) 0 w vl L) (ha:IsRe d w a x) (hLl:L.length≤8000000000) :
  Calls Tryz.prog 110 #[vl,a] w fun e w'=>∃ v,e=.returned v∧ReRow (IsRe d w) w.heap.size w' v (amongX L x)∧Below w.heap.size w w':=by
 have ha0:=ha
 obtain ⟨ao,cap,rfl,hrow⟩:=hl.form
 obtain ⟨p,vL,e,rfl,rfl,c0,c1,c2,c3,hp,hr,hw,h1,h2⟩:=ha.open
 have HA:Hid (IsRe (e+1) w (.pointer (some ⟨p,0,none⟩)) x):=ha0
 have HR:Hid (∀ i (hi:i<L.length),∃ g u,ao=some ⟨g,0,none⟩∧w.cell? ⟨g,i,none⟩=some u∧IsRe (e+1) w u L[i]):=hrow
 clear ha0 ha hrow hl hr h1 h2 c0 c1 c2
 go_enter Tryz.func110,Tryz.ntmps110
 go_wp2
 go_loopg [5,6,7] L.length (fun g5 out inn i wr=>∃ (k:Nat) (ib:Bool) (O:List Rx),k≤L.length∧g5=L.length - k∧i=.int .i64 k∧inn=.bool ib∧Hid (amongAt L x k ib O)∧ReRow (IsRe (e+1) w) w.heap.size wr out O∧Below w.heap.size w wr)
 case atStart=>exact ⟨0,false,[],Nat.zero_le _,rfl,rfl,rfl,rfl,⟨[],rfl,World.ownsRow_nil _ _ _ _,by simp⟩,Below.refl _ _⟩
 case round =>
  obtain ⟨k,ib,O,hk,rfl,rfl,rfl,hat,⟨us,hul,hown,huR⟩,hbel⟩:=hrel
  have hOl:=amongAt_len hat.out
  have hsz:=hbel.size
  have HU:Hid (∀ (i:Nat) (u:Value) (x:Rx),us[i]?=some u→O[i]?=some x→IsRe (e+1) w u x):=huR
  clear huR
  have HUL:Hid (us.length=O.length):=hul
  clear hul
  have d3:wr.cell? ⟨p,3,none⟩=some (.string x.form):=(hbel.cell (p:=⟨p,3,none⟩) hp).trans c3
  by_cases hlt:k<L.length
  ·obtain ⟨g,u,rfl,hcell,hIs⟩:=HR.out k hlt
   obtain ⟨p',vL',e',he',rfl,q0,q1,q2,q3,hp',_,_,_,_⟩:=hIs.open
   have hg:g<w.heap.size:=World.block_lt_of_cell? w ⟨g,k,none⟩ hcell
   have dg:wr.cell? ⟨g,k,none⟩=some (.pointer (some ⟨p',0,none⟩)):=(hbel.cell (p:=⟨g,k,none⟩) hg).trans hcell
   have dq:wr.cell? ⟨p',3,none⟩=some (.string L[k].form):=(hbel.cell (p:=⟨p',3,none⟩) hp').trans q3
   have HI:Hid (IsRe (e+1) w (.pointer (some ⟨p',0,none⟩)) L[k]):=hIs
   clear hIs q0 q1 q2 q3 he'
   cases ib
   ·cases hle:leF x.form L[k].form
    ·have hle1:Op.bytesLess x.form.toList L[k].form.toList=false:=by unfold leF at hle;simp at hle;exact hle.1
     have hle2:(x.form.toList == L[k].form.toList)=false:=by unfold leF at hle;simp at hle;simp [hle.2]
     have HLE:Hid (leF x.form L[k].form=false):=hle
     clear hle
     go_wp2
     go_quiet (fail)
     go_wp2_with (at_builtin;refine wpList_push rfl (.tmp 46) (.tmp 51) 201 rfl w.heap.size 178 (.pointer none) 1 8 Tryz.infoRe Tryz.undRe rfl (by decide) u5 O.length us rfl (by exact hown.alloc _) wr.heap.size 1 [.pointer (some ⟨p',0,none⟩)] rfl rfl (heap_alloc_new _ _) (one_ptr _) (by omega) (by omega) (by simp;omega) ?_;intro v2 w2 hown2 hg2)
     have hb2:=below_push hg2 (by exact (below_drewN hbel _).alloc (by exact hsz) _) (by simp;omega) (by exact hown.alloc _)
     go_roundg (L.length - (k+1))
     case measure=>omega
     case rel=>exact ⟨k+1,false,O++[L[k]],by omega,rfl,by go_num,rfl,amongAt_gt hlt hat.out HLE.out,ReRow.push HUL.out HU.out HI.out hown2,hb2⟩
    ·cases he:(x.form.toList == L[k].form.toList)
     ·have hle1:Op.bytesLess x.form.toList L[k].form.toList=true:=by unfold leF at hle;rw [he] at hle;simpa using hle
      have HLE:Hid (leF x.form L[k].form=true):=hle
      clear hle
      go_wp2
      go_quiet (fail)
      go_wp2
      go_quiet (fail)
      go_wp2_with (first | (at_builtin;refine wpList_push rfl (.tmp 42) (.tmp 44) 201 rfl w.heap.size 178 (.pointer none) 1 8 Tryz.infoRe Tryz.undRe rfl (by decide) u5 O.length us rfl (by exact hown.alloc _) wr.heap.size 1 [.pointer (some ⟨p,0,none⟩)] rfl rfl (heap_alloc_new _ _) (one_ptr _) (by omega) (by omega) (by simp;omega) ?_;intro v2 w2 hown2 hg2;have hb2:=below_push hg2 (by exact (below_drewN hbel _).alloc (by exact hsz) _) (by simp;omega) (by exact hown.alloc _);have dg2:w2.cell? ⟨g,k,none⟩=some (.pointer (some ⟨p',0,none⟩)):=(hb2.cell (p:=⟨g,k,none⟩) hg).trans hcell;have hsz2:=hb2.size) | (at_builtin;refine wpList_push rfl (.tmp 46) (.tmp 51) 201 rfl w.heap.size 178 (.pointer none) 1 8 Tryz.infoRe Tryz.undRe rfl (by decide) v2 (O.length+1) (us++[.pointer (some ⟨p,0,none⟩)]) rfl (by exact hown2.alloc _) w2.heap.size 1 [.pointer (some ⟨p',0,none⟩)] rfl rfl (heap_alloc_new _ _) (one_ptr _) (by omega) (by omega) (by simp;omega) ?_;intro v3 w3 hown3 hg3))
      have hb3:=below_push hg3 (by exact hb2.alloc (by exact hsz2) _) (by simp;omega) (by exact hown2.alloc _)
      go_roundg (L.length - (k+1))
      case measure=>omega
      case rel=>exact ⟨k+1,true,O++[x]++[L[k]],by omega,rfl,by go_num,rfl,amongAt_lt hlt hat.out HLE.out he,push2 HUL.out HU.out HA.out HI.out hown3,hb3⟩
     ·have HLE:Hid (leF x.form L[k].form=true):=hle
      clear hle
      go_wp2
      go_quiet (fail)
      go_wp2
      go_quiet (fail)
      go_wp2_with (at_builtin;refine wpList_push rfl (.tmp 46) (.tmp 51) 201 rfl w.heap.size 178 (.pointer none) 1 8 Tryz.infoRe Tryz.undRe rfl (by decide) u5 O.length us rfl (by exact hown.alloc _) wr.heap.size 1 [.pointer (some ⟨p',0,none⟩)] rfl rfl (heap_alloc_new _ _) (one_ptr _) (by omega) (by omega) (by simp;omega) ?_;intro v2 w2 hown2 hg2)
      have hb2:=below_push hg2 (by exact (below_drewN hbel _).alloc (by exact hsz) _) (by simp;omega) (by exact hown.alloc _)
      go_roundg (L.length - (k+1))
      case measure=>omega
      case rel=>exact ⟨k+1,true,O++[L[k]],by omega,rfl,by go_num,rfl,amongAt_eq hlt hat.out HLE.out he,ReRow.push HUL.out HU.out HI.out hown2,hb2⟩
   ·go_wp2
    go_quiet (fail)
    go_wp2_with (at_builtin;refine wpList_push rfl (.tmp 46) (.tmp 51) 201 rfl w.heap.size 178 (.pointer none) 1 8 Tryz.infoRe Tryz.undRe rfl (by decide) u5 O.length us rfl (by exact hown.alloc _) wr.heap.size 1 [.pointer (some ⟨p',0,none⟩)] rfl rfl (heap_alloc_new _ _) (one_ptr _) (by omega) (by omega) (by simp;omega) ?_;intro v2 w2 hown2 hg2)
    have hb2:=below_push hg2 (by exact (below_drewN hbel _).alloc (by exact hsz) _) (by simp;omega) (by exact hown.alloc _)
    go_roundg (L.length - (k+1))
    case measure=>omega
    case rel=>exact ⟨k+1,true,O++[L[k]],by omega,rfl,by go_num,rfl,amongAt_in hlt hat.out,ReRow.push HUL.out HU.out HI.out hown2,hb2⟩
  ·have hkl:k=L.length:=by omega
   cases ib
   ·have hfin:O++[x]=amongX L x:=by
     have:=hat.out;unfold amongAt at this
     rw [if_neg (by simp),hkl,List.drop_length] at this;exact this
    have HF:Hid (O++[x]=amongX L x):=hfin
    clear hfin hkl
    go_wp2_with (at_builtin;refine wpList_push rfl (.tmp 55) (.tmp 57) 201 rfl w.heap.size 178 (.pointer none) 1 8 Tryz.infoRe Tryz.undRe rfl (by decide) u5 O.length us rfl (by exact hown.alloc _) wr.heap.size 1 [.pointer (some ⟨p,0,none⟩)] rfl rfl (heap_alloc_new _ _) (one_ptr _) (by omega) (by omega) (by simp;omega) ?_;intro v2 w2 hown2 hg2)
    have hb2:=below_push hg2 (by exact hbel.alloc (by exact hsz) _) (by simp;omega) (by exact hown.alloc _)
    go_ret
    exact ⟨_,rfl,by rw [← HF.out];exact ReRow.push HUL.out HU.out HA.out hown2,hb2⟩
   ·have hfin:O=amongX L x:=by
     have:=hat.out;unfold amongAt at this
     rw [if_pos rfl,hkl,List.drop_length,List.append_nil] at this;exact this
    have HF:Hid (O=amongX L x):=hfin
    clear hfin hkl
    go_wp2
    go_ret
    exact ⟨_,rfl,by rw [← HF.out];exact ⟨us,HUL.out,hown,HU.out⟩,hbel⟩
theorem sizesX_cons (a:Rx) (l:List Rx):sizesX (a :: l)=a.form.size+1+sizesX l:=by simp [sizesX]
theorem sizesX_snoc (a:Rx) (l:List Rx):sizesX (l++[a])=sizesX l+(a.form.size+1):=by simp [sizesX]
theorem amongX_sizes (l:List Rx) (a:Rx):sizesX (amongX l a)≤sizesX l+(a.form.size+1):=by
 induction l with
 | nil=>simp [amongX,sizesX]
 | cons x r ih=>rw [amongX];split
                ·split
                 ·omega
                 ·rw [sizesX_cons];omega
                ·rw [sizesX_cons,sizesX_cons];omega
theorem foldl_sizes (cs:List Rx):∀ l,sizesX (cs.foldl amongX l)≤sizesX l+sizesX cs:=by
 induction cs with
 | nil=>intro l;simp [sizesX]
 | cons c r ih=>intro l;rw [List.foldl_cons,sizesX_cons];have:=ih (amongX l c);have:=amongX_sizes l c;omega
theorem length_sizes (l:List Rx):l.length≤sizesX l:=by
 induction l with
 | nil=>simp
 | cons c r ih=>rw [sizesX_cons];simp;omega
theorem gatherX_sizes (l:List Rx) (x:Rx) (h:x.what=115∨x.what=97→sizesX x.l≤x.form.size):sizesX (gatherX l x)≤sizesX l+(x.form.size+1):=by
 unfold gatherX
 split
 ·have:=foldl_sizes x.l l;have:=h (Or.inr ‹_›);omega
 ·split
  ·omega
  ·exact amongX_sizes l x
theorem formsX_snoc (l:List Rx) (x:Rx):formsX (l++[x])=formsX l++⟨#[47]⟩++x.form:=by unfold formsX;rw [List.foldl_append];rfl
theorem formsX_size (l:List Rx):(formsX l).size=sizesX l:=by
 have key:∀ (n:Nat) (l:List Rx),l.length=n→(formsX l).size=sizesX l:=by
  intro n;induction n with
  | zero=>intro l h;rw [List.eq_nil_of_length_eq_zero h];rfl
  | succ n ih =>
   intro l h
   have hl:l ≠ []:=by intro e;subst e;simp at h
   obtain ⟨m,c,rfl⟩:∃ m c,l=m++[c]:=⟨l.dropLast,l.getLast hl,(List.dropLast_concat_getLast hl).symm⟩
   rw [formsX_snoc,sizesX_snoc,sizeApp,sizeApp,size1,ih m (by simpa using h)];omega
 exact key _ l rfl
theorem sizesX_take (l:List Rx) (k:Nat):sizesX (l.take k)≤sizesX l:=by
 induction l generalizing k with
 | nil=>simp
 | cons a r ih=>cases k with
  | zero=>simp [sizesX]
  | succ k=>rw [List.take_succ_cons,sizesX_cons,sizesX_cons];have:=ih k;omega
theorem foldl_take_succ (cs:List Rx) (l:List Rx) (k:Nat) (h:k<cs.length):(cs.take (k+1)).foldl amongX l=amongX ((cs.take k).foldl amongX l) cs[k]:=by
 rw [List.take_succ_eq_append_getElem h,List.foldl_append];rfl
theorem gatherX_a {l:List Rx} {x:Rx} (h:x.what=97):gatherX l x=x.l.foldl amongX l:=by unfold gatherX;rw [if_pos h]
theorem gatherX_z {l:List Rx} {x:Rx} (h:x.what=122):gatherX l x=l:=by unfold gatherX;rw [if_neg (by omega),if_pos h]
theorem gatherX_o {l:List Rx} {x:Rx} (h:x.what ≠ 97) (h':x.what ≠ 122):gatherX l x=amongX l x:=by unfold gatherX;rw [if_neg h,if_neg h']
def gAt (x y:Rx) (k:Nat):List Rx:=if k=0 then [] else if k=1 then gatherX [] x else gatherX (gatherX [] x) y
def pk (x y:Rx) (k:Nat):Rx:=if k=0 then x else y
theorem gAt_succ (x y:Rx) (k:Nat) (h:k<2):gAt x y (k+1)=gatherX (gAt x y k) (pk x y k):=by
 match k,h with
 | 0,_=>rfl
 | 1,_=>rfl
theorem amongX_len (l:List Rx) (a:Rx):l.length≤(amongX l a).length:=by
 induction l with
 | nil=>simp [amongX]
 | cons x l ih=>unfold amongX;split <;> (try split) <;> simp <;> omega
theorem amongX_ge (l:List Rx) (a:Rx):sizesX l≤sizesX (amongX l a):=by
 induction l with
 | nil=>simp [sizesX]
 | cons x l ih=>unfold amongX;split <;> (try split) <;> simp only [sizesX_cons] <;> omega
theorem foldl_mono (cs:List Rx):∀ l,l.length≤(cs.foldl amongX l).length∧sizesX l≤sizesX (cs.foldl amongX l):=by
 induction cs with
 | nil=>intro l;exact ⟨Nat.le_refl _,Nat.le_refl _⟩
 | cons c cs ih=>intro l;have h1:=ih (amongX l c);have h2:=amongX_len l c;have h3:=amongX_ge l c;exact ⟨by rw [List.foldl_cons];omega,by rw [List.foldl_cons];omega⟩
theorem take_mono (cs:List Rx) (l:List Rx) (k:Nat):((cs.take k).foldl amongX l).length≤(cs.foldl amongX l).length:=by
 have h:=foldl_mono (cs.drop k) ((cs.take k).foldl amongX l)
 rw [← List.foldl_append,List.take_append_drop] at h;exact h.1
theorem gatherX_mono (l:List Rx) (x:Rx):l.length≤(gatherX l x).length∧sizesX l≤sizesX (gatherX l x):=by
 unfold gatherX;split
 ·exact foldl_mono _ _
 ·split
  ·exact ⟨Nat.le_refl _,Nat.le_refl _⟩
  ·exact ⟨amongX_len _ _,amongX_ge _ _⟩
set_option maxHeartbeats 4000000 in
theorem either_big (w:World) (d:Nat) (a b:Value) (x y:Rx) (ha:IsRe d w a x) (hb:IsRe d w b y) (hx9:x.form.size≤9000000000000000000) (hy9:y.form.size≤9000000000000000000) (hs9:sizesX (gatherX (gatherX [] x) y)≤9000000000000000000) (hn9:(gatherX (gatherX [] x) y).length≤8000000000) :
  Calls Tryz.prog 158 #[a,b] w fun e w'=>∃ v d',e=.returned v∧IsRe d' w' v (eitherX x y)∧(eitherX x y).form.size≤x.form.size+y.form.size+4∧Below w.heap.size w w':=by
 have hax:=ha.open
 have hby:=hb.open
 have HS:Hid (∀ k,k<2→((pk x y k).what=115∨(pk x y k).what=97→sizesX (pk x y k).l≤(pk x y k).form.size)):=by
  obtain ⟨_,_,_,_,_,_,_,_,_,_,_,_,_,h2⟩:=hax
  obtain ⟨_,_,_,_,_,_,_,_,_,_,_,_,_,h2'⟩:=hby
  intro k hk
  match k,hk with
  | 0,_=>exact h2
  | 1,_=>exact h2'
 obtain ⟨pa,rfl⟩:∃ pa,a=.pointer (some ⟨pa,0,none⟩):=by obtain ⟨p,_,_,_,h,_⟩:=hax;exact ⟨p,h⟩
 obtain ⟨pb,rfl⟩:∃ pb,b=.pointer (some ⟨pb,0,none⟩):=by obtain ⟨p,_,_,_,h,_⟩:=hby;exact ⟨p,h⟩
 clear hax hby
 have HA:Hid (IsRe d w (.pointer (some ⟨pa,0,none⟩)) x):=ha
 have HB:Hid (IsRe d w (.pointer (some ⟨pb,0,none⟩)) y):=hb
 clear ha hb
 have HG:Hid (∀ k,k≤2→sizesX (gAt x y k)≤x.form.size+y.form.size+2):=by
  have s1:=gatherX_sizes [] x (HS.out 0 (by omega))
  have s2:=gatherX_sizes (gatherX [] x) y (HS.out 1 (by omega))
  have s0:sizesX []=0:=rfl
  intro k hk
  match k,hk with
  | 0,_=>show sizesX []≤_;omega
  | 1,_=>show sizesX (gatherX [] x)≤_;omega
  | 2,_=>show sizesX (gatherX (gatherX [] x) y)≤_;omega
 have HN:Hid (∀ k,k≤2→(gAt x y k).length≤8000000000∧sizesX (gAt x y k)≤9000000000000000000):=by
  have m1:=gatherX_mono (gatherX [] x) y
  intro k hk
  match k,hk with
  | 0,_=>exact ⟨by show ([]:List Rx).length≤_;simp,by show sizesX []≤_;simp [sizesX]⟩
  | 1,_=>exact ⟨by show (gatherX [] x).length≤_;omega,by show sizesX (gatherX [] x)≤_;omega⟩
  | 2,_=>exact ⟨hn9,hs9⟩
 clear hs9 hn9
 go_enter Tryz.func158,Tryz.ntmps158
 go_wp2
 go_loopg [5,7] 2 (fun g l i wr=>∃ k:Nat,k≤2∧g=2 - k∧i=.int .i64 k∧ReRow (IsRe d wr) 0 wr l (gAt x y k)∧Below w.heap.size w wr∧wr.heap[w.heap.size]?=some (.cells #[.pointer (some ⟨pa,0,none⟩),.pointer (some ⟨pb,0,none⟩)] 178 (0,0)))
 case atStart=>exact ⟨0,by omega,rfl,rfl,⟨[],rfl,World.ownsRow_nil _ _ _ _,by simp⟩,(Below.refl _ _).alloc (Nat.le_refl _) _,heap_alloc_new _ _⟩
 case round =>
  obtain ⟨w1,hw1⟩:∃ w1,w1=wr:=⟨wr,rfl⟩
  subst hw1
  obtain ⟨k,hk,rfl,rfl,hrow,hbel,hblk⟩:=hrel
  have hsz:=hbel.size
  by_cases hlt:k<2
  ·obtain ⟨u,hu,hIs⟩:∃ u,w1.cell? ⟨w.heap.size,k,none⟩=some u∧IsRe d w1 u (pk x y k):=by
    match k,hlt with
    | 0,_=>exact ⟨_,cell_of_block hblk 0 _ rfl,HA.out.keep (KeepRe.of_below hbel)⟩
    | 1,_=>exact ⟨_,cell_of_block hblk 1 _ rfl,HB.out.keep (KeepRe.of_below hbel)⟩
   have hgk:=HG.out k (by omega)
   have hgl:=(HN.out k (by omega)).1
   have hgl2:=(HN.out (k+1) (by omega)).1
   have hgs:=gAt_succ x y k hlt
   rw [hgs] at hgl2
   have HGS:Hid (gAt x y (k+1)=gatherX (gAt x y k) (pk x y k)):=hgs
   clear hgs
   have hsk:=HS.out k hlt
   have hpk:(pk x y k).form.size≤9000000000000000000:=by unfold pk;split <;> omega
   generalize pk x y k=z at *
   generalize gAt x y k=G at *
   have hIs0:=hIs
   obtain ⟨p,vL,e,rfl,rfl,c0,c1,c2,c3,hp,hr,hw,_,_⟩:=hIs.open
   have HI:Hid (IsRe (e+1) w1 (.pointer (some ⟨p,0,none⟩)) z):=hIs0
   clear hIs hIs0
   by_cases h97:z.what=97
   ·have k1:((z.what:Int) == 97)=true:=by simp;omega
    have hzs:=hsk (Or.inr h97)
    have hzl:=length_sizes z.l
    obtain ⟨ao,cap,rfl,hcs⟩:=hr.form
    have HC:Hid (∀ i (hi:i<z.l.length),∃ g u,ao=some ⟨g,0,none⟩∧w1.cell? ⟨g,i,none⟩=some u∧IsRe e w1 u z.l[i]):=hcs
    clear hcs hr hsk
    have HW:Hid (z.what=97):=h97
    clear h97
    have hkd:decide ((k:Int)<2)=true:=by simp;omega
    go_wp2
    go_loopg [5,9] z.l.length (fun g2 l i2 wi=>∃ j:Nat,j≤z.l.length∧g2=z.l.length - j∧i2=.int .i64 j∧ReRow (IsRe (e+1) wi) 0 wi l ((z.l.take j).foldl amongX G)∧Below w1.heap.size w1 wi)
    case atStart=>exact ⟨0,by omega,rfl,rfl,hrow,Below.refl _ _⟩
    case round =>
     obtain ⟨w3,hw3⟩:∃ w3,w3=wr:=⟨wr,rfl⟩
     subst hw3
     obtain ⟨j,hj,rfl,rfl,hrow3,hbel3⟩:=hrel
     have hsz3:=hbel3.size
     have d2:w3.cell? ⟨p,2,none⟩=some (.slice ao z.l.length cap):=(hbel3.cell (p:=⟨p,2,none⟩) hp).trans c2
     have hfs:True:=trivial
     have hfl:=take_mono z.l G j
     rw [← gatherX_a HW.out] at hfl
     by_cases hjl:j<z.l.length
     ·obtain ⟨g,u,rfl,hcell,hIsu⟩:=HC.out j hjl
      have hg:g<w1.heap.size:=World.block_lt_of_cell? w1 ⟨g,j,none⟩ hcell
      have dg:w3.cell? ⟨g,j,none⟩=some u:=(hbel3.cell (p:=⟨g,j,none⟩) hg).trans hcell
      have HIu:Hid (IsRe (e+1) w3 u z.l[j]):=(hIsu.mono (by omega)).keep (KeepRe.of_below hbel3)
      have HT:=foldl_take_succ z.l G j hjl
      have HT':Hid ((z.l.take (j+1)).foldl amongX G=amongX ((z.l.take j).foldl amongX G) z.l[j]):=HT
      clear hIsu HT
      have hfl3:((z.l.take j).foldl amongX G).length≤8000000000:=by omega
      clear hfl hfs hgl2
      generalize (z.l.take j).foldl amongX G=G3 at *
      go_wp2_with (go_at_call 110;refine (among_any _ (e+1) _ _ G3 z.l[j] hrow3 HIu.out (by omega)).mono ?_;rintro e2 w2 ⟨v2,rfl,hr2,hb2⟩)
      go_roundg (z.l.length - (j+1))
      case measure=>omega
      case rel=>exact ⟨j+1,by omega,rfl,by go_num,by rw [HT'.out];exact (hr2.mono (Nat.zero_le _) (fun u y hu=>hu.keep (KeepRe.of_below hb2))),hbel3.trans (hb2.mono hsz3)⟩
     ·have hjl':j=z.l.length:=by omega
      have hfin:(z.l.take j).foldl amongX G=gatherX G z:=by rw [gatherX_a HW.out,hjl',List.take_length]
      rw [hfin] at hrow3
      clear hfin hfs hfl
      go_wp2
      go_roundg (2 - (k+1))
      case measure=>omega
      case rel=>exact ⟨k+1,by omega,rfl,by go_num,by rw [HGS.out];exact hrow3,hbel.trans (hbel3.mono hsz),by rw [hbel3.block _ (Array.getElem?_eq_some_iff.1 hblk).1];exact hblk⟩
   ·have k1:((z.what:Int) == 97)=false:=by simp;omega
    by_cases h122:z.what=122
    ·have k2:((z.what:Int) == 122)=true:=by simp;omega
     go_wp2
     go_roundg (2 - (k+1))
     case measure=>omega
     case rel=>exact ⟨k+1,by omega,rfl,by go_num,by rw [HGS.out,gatherX_z h122];exact hrow,hbel,hblk⟩
    ·have k2:((z.what:Int) == 122)=false:=by simp;omega
     go_wp2_with (go_at_call 110;refine (among_any _ (e+1) _ _ _ z hrow HI.out (by omega)).mono ?_;rintro e2 w2 ⟨v2,rfl,hr2,hb2⟩)
     go_roundg (2 - (k+1))
     case measure=>omega
     case rel=>exact ⟨k+1,by omega,rfl,by go_num,by rw [HGS.out,gatherX_o h97 h122];exact (hr2.mono (Nat.zero_le _) (fun u y hu=>hu.keep (KeepRe.of_below hb2))),hbel.trans (hb2.mono hsz),by rw [hb2.block _ (Array.getElem?_eq_some_iff.1 hblk).1];exact hblk⟩
  ·have hk2:k=2:=by omega
   subst hk2
   have hgk:=HG.out 2 (by omega)
   have hgl:=(HN.out 2 (by omega))
   have hE:Hid (eitherX x y=match gAt x y 2 with | []=>neverX | [z]=>z | l=>⟨97,0,l,⟨#[123]⟩++formsX l++⟨#[125]⟩⟩):=rfl
   generalize gAt x y 2=G at *
   obtain ⟨ao,cap,rfl,hcs⟩:=hrow.form
   have HR:Hid (ReRow (IsRe d w1) 0 w1 (.slice ao G.length cap) G):=hrow
   clear hrow
   match G,hE,hcs,HR,hgk,hgl with
   | [],hE,_,HR,_,_ =>
    have hE':Hid (eitherX x y=neverX):=hE
    clear hE HR
    go_wp2_with (go_at_call 159;refine (never_any _).mono ?_;rintro e2 w2 ⟨v2,rfl,hv2,hb2⟩)
    go_ret
    exact ⟨_,1,rfl,by rw [hE'.out];exact hv2,by rw [hE'.out];show 1≤_;omega,hbel.trans (hb2.mono hsz)⟩
   | [z],hE,hcs,HR,hgk,_ =>
    have hE':Hid (eitherX x y=z):=hE
    obtain ⟨g,u,rfl,hcell,hIsu⟩:=hcs 0 (by simp)
    have HIu:Hid (IsRe d w1 u z):=hIsu
    have hzs:z.form.size+1≤x.form.size+y.form.size+2:=by simpa [sizesX] using hgk
    clear hE HR hcs hIsu hgk
    go_wp2
    go_ret
    exact ⟨_,d,rfl,by rw [hE'.out];exact HIu.out,by rw [hE'.out];omega,hbel⟩
   | z0 :: z1 :: r,hE,hcs,HR,hgk,hgl =>
    have hE':Hid (eitherX x y=⟨97,0,z0 :: z1 :: r,⟨#[123]⟩++formsX (z0 :: z1 :: r)++⟨#[125]⟩⟩):=hE
    have hn2:2≤(z0 :: z1 :: r).length:=by simp
    generalize z0 :: z1 :: r=G at *
    have n0:((G.length:Int) == 0)=false:=by rw [beq_eq_false_iff_ne];omega
    have n1:((G.length:Int) == 1)=false:=by rw [beq_eq_false_iff_ne];omega
    have HC:Hid (∀ i (hi:i<G.length),∃ g u,ao=some ⟨g,0,none⟩∧w1.cell? ⟨g,i,none⟩=some u∧IsRe d w1 u G[i]):=hcs
    clear hcs hE
    have hgs:=formsX_size G
    have HGZ:Hid ((formsX G).size=sizesX G):=hgs
    clear hgs
    go_wp2
    go_loop [10,11] (fun sv i=>∃ j:Nat,j≤G.length∧i=.int .i64 j∧sv=.string (formsX (G.take j))) (fun _ i=>G.length - (intOf i).toNat)
    case atStart=>exact ⟨0,by omega,rfl,rfl⟩
    case round =>
     obtain ⟨j,hj,rfl,rfl⟩:=hrel
     have hts:=sizesX_take G j
     have hfz:(formsX (G.take j)).size≤x.form.size+y.form.size+2:=by rw [formsX_size];omega
     have hfz9:(formsX (G.take j)).size≤9000000000000000000:=by rw [formsX_size];omega
     by_cases hjl:j<G.length
     ·obtain ⟨g,u,rfl,hcell,hIsu⟩:=HC.out j hjl
      obtain ⟨p,vL,e,_,rfl,q0,q1,q2,q3,_,_,_,_,_⟩:=hIsu.open
      have hcz:sizesX (G.take (j+1))≤sizesX G:=sizesX_take G (j+1)
      have hsn:G.take (j+1)=G.take j++[G[j]]:=List.take_succ_eq_append_getElem hjl
      rw [hsn,sizesX_snoc] at hcz
      have HSN:Hid (formsX (G.take (j+1))=formsX (G.take j)++⟨#[47]⟩++G[j].form):=by rw [hsn];exact formsX_snoc _ _
      have hadd1:=run_addB Tryz.prog (formsX (G.take j)) ⟨#[47]⟩ (by rw [size1];omega)
      have hadd2:=run_addB Tryz.prog (formsX (G.take j)++⟨#[47]⟩) G[j].form (by rw [sizeApp,size1,formsX_size];omega)
      clear hsn hIsu q0 q1 q2
      go_wp2
      go_round
      case rel=>exact ⟨j+1,by omega,by go_num,by rw [HSN.out]⟩
      case measure=>simp [intOf];omega
     ·have hjl':j=G.length:=by omega
      have hall:G.take j=G:=by rw [hjl',List.take_length]
      rw [hall] at hfz hfz9 ⊢
      have hadd1:=run_addB Tryz.prog ⟨#[123]⟩ (formsX G) (by rw [size1];omega)
      have hadd2:=run_addB Tryz.prog (⟨#[123]⟩++formsX G) ⟨#[125]⟩ (by rw [sizeApp,size1,size1];omega)
      clear hall hts
      go_wp2
      go_ret
      have hre:=mkRe' (d:=d) (q:=w1.heap.size) (W:=w1) (vL:=.slice ao G.length cap) (wI:=97) (kI:=0) (f:=⟨#[123]⟩++formsX G++⟨#[125]⟩) ⟨97,0,G,⟨#[123]⟩++formsX G++⟨#[125]⟩⟩ rfl (by rfl) rfl rfl HR.out (by show (97:Nat)<256;decide) (fun h=>by simp at h)
       (fun _=>by show sizesX G≤(⟨#[123]⟩++formsX G++⟨#[125]⟩:ByteArray).size;rw [sizeApp,sizeApp,size1,size1,HGZ.out];omega)
      refine ⟨.pointer (some ⟨w1.heap.size,0,none⟩),rfl,⟨d+1,by rw [hE'.out];exact hre⟩,?_,hbel.alloc (by omega) _⟩
      rw [hE'.out]
      show (⟨#[123]⟩++formsX G++⟨#[125]⟩:ByteArray).size≤_
      rw [sizeApp,sizeApp,size1,size1];omega
theorem either_any (w:World) (d:Nat) (a b:Value) (x y:Rx) (ha:IsRe d w a x) (hb:IsRe d w b y) (hs:x.form.size+y.form.size≤1000000000) :
  Calls Tryz.prog 158 #[a,b] w fun e w'=>∃ v d',e=.returned v∧IsRe d' w' v (eitherX x y)∧(eitherX x y).form.size≤x.form.size+y.form.size+4∧Below w.heap.size w w':=by
 obtain ⟨_,_,_,_,_,_,_,_,_,_,_,_,_,h2⟩:=ha.open
 obtain ⟨_,_,_,_,_,_,_,_,_,_,_,_,_,h2'⟩:=hb.open
 have s1:=gatherX_sizes [] x h2
 have s2:=gatherX_sizes (gatherX [] x) y h2'
 have s0:sizesX []=0:=rfl
 have s3:=length_sizes (gatherX (gatherX [] x) y)
 exact either_big w d a b x y ha hb (by omega) (by omega) (by omega) (by omega)
namespace Tr
def rxG:Tr→Rx × List Rx
 | .z=>(neverX,[neverX])
 | .e=>(emptyX,[emptyX])
 | .c k=>(charX k,[charX k])
 | .s p q=>(seqX p.rxG.1 q.rxG.1,[seqX p.rxG.1 q.rxG.1])
 | .a p q=>(⟨97,0,p.rxG.1 :: q.rxG.2,⟨#[123]⟩++formsX (p.rxG.1 :: q.rxG.2)++⟨#[125]⟩⟩,p.rxG.1 :: q.rxG.2)
 | .m p=>(⟨109,0,[p.rxG.1],⟨#[60]⟩++p.rxG.1.form++⟨#[62]⟩⟩,[⟨109,0,[p.rxG.1],⟨#[60]⟩++p.rxG.1.form++⟨#[62]⟩⟩])
def rx (t:Tr):Rx:=t.rxG.1
def rxl (t:Tr):List Rx:=t.rxG.2
theorem rxl_alts {t:Tr} (ho:t.ok) (hz:t.isZ=false):t.rxl=t.alts.map rx:=by
 induction t with
 | z=>simp [isZ] at hz
 | a p q ihp ihq =>
  show p.rx :: q.rxl=_
  rw [ihq ho.2.1 ho.2.2.2.1];rfl
 | _=>rfl
theorem litApp (a b:List UInt8):lit (a++b)=lit a++lit b:=by
 apply ByteArray.ext;simp [lit,ByteArray.data_append]
theorem lit_list (a:List UInt8):(lit a).toList=a:=by rw [ByteArray.toList_eq];simp [lit]
theorem lit_size (a:List UInt8):(lit a).size=a.length:=by simp [lit,ByteArray.size]
theorem itoaB_lit (n:Nat):itoaB n=lit (itoaL n):=by unfold itoaB itoaL;split <;> (try split) <;> rfl
theorem formsX_cons (x:Rx) (l:List Rx):formsX (x :: l)=⟨#[47]⟩++x.form++formsX l:=by
 have key:∀ (l:List Rx) (s t:ByteArray),l.foldl (fun s x=>s++⟨#[47]⟩++x.form) (s++t)=s++l.foldl (fun s x=>s++⟨#[47]⟩++x.form) t:=by
  intro l
  induction l with
  | nil=>intro s t;rfl
  | cons y l ih =>
   intro s t
   simp only [List.foldl_cons]
   have e:s++t++⟨#[47]⟩++y.form=s++(t++⟨#[47]⟩++y.form):=by apply ByteArray.ext;simp [ByteArray.data_append]
   rw [e,ih]
 have e:(⟨#[]⟩:ByteArray)++⟨#[47]⟩++x.form=(⟨#[47]⟩++x.form)++⟨#[]⟩:=by
  apply ByteArray.ext;simp [ByteArray.data_append]
 show List.foldl _ (⟨#[]⟩++⟨#[47]⟩++x.form) l=_
 rw [e,key];rfl
theorem lit1 (c:UInt8):(⟨#[c]⟩:ByteArray)=lit [c]:=rfl
theorem formsX_one (x:Rx):formsX [x]=⟨#[47]⟩++x.form:=by
 rw [formsX_cons];apply ByteArray.ext;simp [formsX,ByteArray.data_append]
theorem rx_form (t:Tr):t.rx.form=lit t.fm∧formsX t.rxl=lit (t.fmG true):=by
 induction t with
 | z=>exact ⟨rfl,by show formsX [neverX]=_;rw [formsX_one];rfl⟩
 | e=>exact ⟨rfl,by show formsX [emptyX]=_;rw [formsX_one];rfl⟩
 | c k =>
  have h:(Tr.c k).rx.form=lit (Tr.c k).fm:=by
   show ⟨#[91]⟩++itoaB k++⟨#[93]⟩=lit (91 :: (itoaL k++[93]))
   rw [itoaB_lit,lit1,lit1,← litApp,← litApp];simp
  exact ⟨h,by show formsX [(Tr.c k).rx]=_;rw [formsX_one,h,lit1,← litApp];rfl⟩
 | s p q ihp ihq =>
  have h:(Tr.s p q).rx.form=lit (Tr.s p q).fm:=by
   show ⟨#[40]⟩++p.rx.form++q.rx.form++⟨#[41]⟩=lit (40 :: (p.fm++(q.fm++[41])))
   rw [ihp.1,ihq.1,lit1,lit1,← litApp,← litApp,← litApp];simp
  exact ⟨h,by show formsX [(Tr.s p q).rx]=_;rw [formsX_one,h,lit1,← litApp];rfl⟩
 | m p ihp =>
  have h:(Tr.m p).rx.form=lit (Tr.m p).fm:=by
   show ⟨#[60]⟩++p.rx.form++⟨#[62]⟩=lit (60 :: (p.fm++[62]))
   rw [ihp.1,lit1,lit1,← litApp,← litApp];simp
  exact ⟨h,by show formsX [(Tr.m p).rx]=_;rw [formsX_one,h,lit1,← litApp];rfl⟩
 | a p q ihp ihq =>
  have hl:formsX (Tr.a p q).rxl=lit ((Tr.a p q).fmG true):=by
   show formsX (p.rx :: q.rxl)=lit (47 :: (p.fm++q.fmG true))
   rw [formsX_cons,ihp.1,ihq.2,lit1,← litApp,← litApp];rfl
  refine ⟨?_,hl⟩
  show ⟨#[123]⟩++formsX (Tr.a p q).rxl++⟨#[125]⟩=lit (123 :: 47 :: (p.fm++(q.fmG true++[125])))
  rw [hl,lit1,lit1,← litApp,← litApp]
  show lit ([123]++(47 :: (p.fm++q.fmG true))++[125])=_
  simp
theorem rx_size (t:Tr):t.rx.form.size=t.wt:=by rw [(rx_form t).1,lit_size];rfl
theorem rx_list (t:Tr):t.rx.form.toList=t.fm:=by rw [(rx_form t).1,lit_list]
theorem amongX_rx (l:List Tr) (x:Tr):amongX (l.map rx) x.rx=(among l x).map rx:=by
 induction l with
 | nil=>rfl
 | cons y l ih =>
  simp only [List.map_cons,amongX,among,leF,rx_list,ih]
  split
  ·split <;> rfl
  ·rfl
theorem foldl_rx (m:List Tr):∀ l:List Tr,(m.map rx).foldl amongX (l.map rx)=(m.foldl among l).map rx:=by
 induction m with
 | nil=>intro l;rfl
 | cons x m ih=>intro l;rw [List.map_cons,List.foldl_cons,amongX_rx,ih];rfl
theorem gatherX_rx (l:List Tr) {t:Tr} (ho:t.ok):gatherX (l.map rx) t.rx=(gather l t).map rx:=by
 cases t with
 | a p q =>
  show (Tr.a p q).rxl.foldl amongX (l.map rx)=_
  rw [rxl_alts ho rfl,foldl_rx];rfl
 | z=>rfl
 | e=>exact amongX_rx l _
 | c k=>exact amongX_rx l _
 | s p q=>exact amongX_rx l _
 | m p=>exact amongX_rx l _
theorem gather2_rx {x y:Tr} (hx:x.ok) (hy:y.ok):gatherX (gatherX [] x.rx) y.rx=(gather (gather [] x) y).map rx:=by
 have h1:gatherX ([].map rx) x.rx=(gather [] x).map rx:=gatherX_rx [] hx
 have h1':gatherX [] x.rx=(gather [] x).map rx:=h1
 rw [h1',gatherX_rx _ hy]
theorem mkA_rx {l:List Tr} (h:srt l):(mkA l).rx=match l.map rx with | []=>neverX | [x]=>x | l=>⟨97,0,l,⟨#[123]⟩++formsX l++⟨#[125]⟩⟩:=by
 match l,h with
 | [],_=>rfl
 | [x],_=>rfl
 | x :: y :: l,h =>
  have hm:=mkA_srt h.tail
  have e:(mkA (y :: l)).rxl=(y :: l).map rx:=by
   rw [rxl_alts hm.1 (by cases hz:(mkA (y :: l)).isZ with
    | false=>rfl
    | true=>rw [isZ_eq hz] at hm;simp [alts] at hm),hm.2]
  show (⟨97,0,x.rx :: (mkA (y :: l)).rxl,⟨#[123]⟩++formsX (x.rx :: (mkA (y :: l)).rxl)++⟨#[125]⟩⟩:Rx)=_
  rw [e];rfl
theorem gather_srt {x y:Tr} (hx:x.ok) (hy:y.ok):srt (gather (gather [] x) y):=by
 have h1:=foldl_among (l:=[]) ⟨List.Pairwise.nil,by simp⟩ hx.srt.2
 exact (foldl_among h1.1 hy.srt.2).1
theorem eitherX_rx {x y:Tr} (hx:x.ok) (hy:y.ok):eitherX x.rx y.rx=(either x y).rx:=by
 unfold eitherX either
 rw [gather2_rx hx hy,mkA_rx (gather_srt hx hy)]
 rfl
theorem rowX_rx (n:Nat):∀ (x y:Tr),x.wt<n→rowX n x.rx y.rx=(row x y).rx:=by
 induction n with
 | zero=>intro x y h;omega
 | succ n ih =>
  intro x y h
  have hz:y.rx.what=122↔y.isZ=true:=by cases y <;> simp [rx,rxG,isZ,neverX,emptyX,charX,seqX]
  have he:y.rx.what=101↔y.isE=true:=by cases y <;> simp [rx,rxG,isE,neverX,emptyX,charX,seqX]
  by_cases h1:y.isZ=true
  ·rw [rowX,if_pos (Or.inr (hz.2 h1)),isZ_eq h1,row_z];rfl
  have h1':¬ y.rx.what=122:=fun k=>h1 (hz.1 k)
  have oth:∀ {x:Tr},x.isZ=false→x.isE=false→x.isS=false→x.rx.what ≠ 122→x.rx.what ≠ 101→x.rx.what ≠ 115→rowX (n+1) x.rx y.rx=(row x y).rx:=by
   intro x x1 x2 x3 w1 w2 w3
   by_cases h2:y.isE=true
   ·rw [rowX,if_neg (by rintro (k | k);exact w1 k;exact h1' k),if_neg w2,if_pos (he.2 h2),isE_eq h2,row_e]
   ·rw [rowX,if_neg (by rintro (k | k);exact w1 k;exact h1' k),if_neg w2,if_neg (fun k=>h2 (he.1 k)),if_neg w3,row_o (by simpa using h1) (by simpa using h2) x1 x2 x3];rfl
  cases x with
  | z=>rw [rowX,if_pos (show Tr.z.rx.what=122∨y.rx.what=122 from Or.inl rfl)];rfl
  | e=>rw [rowX,if_neg (by rintro (k | k);cases k;exact h1' k),if_pos (show Tr.e.rx.what=101 from rfl)];rfl
  | s p q =>
   rw [wt_s] at h
   by_cases h2:y.isE=true
   ·rw [rowX,if_neg (by rintro (k | k);cases k;exact h1' k),if_neg (fun k=>by cases k),if_pos (he.2 h2),isE_eq h2,row_e]
   ·rw [rowX,if_neg (by rintro (k | k);cases k;exact h1' k),if_neg (fun k=>by cases k),if_neg (fun k=>h2 (he.1 k)),if_pos (show (Tr.s p q).rx.what=115 from rfl),row_s (by simpa using h1) (by simpa using h2)]
    show rowX n p.rx (rowX n q.rx y.rx)=_
    rw [ih q y (by omega),ih p _ (by omega)]
  | c k=>exact oth rfl rfl rfl (fun k=>by cases k) (fun k=>by cases k) (fun k=>by cases k)
  | a p q=>exact oth rfl rfl rfl (fun k=>by cases k) (fun k=>by cases k) (fun k=>by cases k)
  | m p=>exact oth rfl rfl rfl (fun k=>by cases k) (fun k=>by cases k) (fun k=>by cases k)
theorem manyX_rx (x:Tr):manyX x.rx=(many x).rx:=by cases x <;> rfl
theorem rowR_rx (x y:Tr):rowR x.rx y.rx=(row x y).rx:=rowX_rx _ x y (by rw [rx_size];omega)
theorem wt_sub {x y:Tr} (hx:x.ok) (hy:y.ok) (h:∀ u ∈ x.alts,u ∈ y.alts):x.wt≤y.wt:=by
 have hs:=sz_le hx.srt.nodup h
 have hl:=len_le hx.srt.nodup h
 cases x with
 | z=>exact wt_pos y
 | a p q =>
  have e:(Tr.a p q).wt=sz (Tr.a p q).alts+2:=by
   have:=len_true hx.2.1 hx.2.2.2.1
   have e:(Tr.a p q).wt=p.wt+(q.fmG true).length+3:=by simp [wt,fm,fmG];omega
   simp only [alts,sz_cons];omega
  cases y with
  | a p' q' =>
   have e':(Tr.a p' q').wt=sz (Tr.a p' q').alts+2:=by
    have:=len_true hy.2.1 hy.2.2.2.1
    have e:(Tr.a p' q').wt=p'.wt+(q'.fmG true).length+3:=by simp [wt,fm,fmG];omega
    simp only [alts,sz_cons];omega
   omega
  | z=>have:=h p (List.mem_cons_self ..);cases this
  | _ =>
   exfalso
   have hq:1≤q.alts.length:=by
    cases hq:q.alts with
    | nil=>rw [alts_nil] at hq;rw [hq] at hx;simp [ok,isZ] at hx
    | cons u l=>simp
   simp only [alts,List.length_cons,List.length_nil] at hl;omega
 | _ =>
  have hm:=h _ (by simp [alts];rfl)
  have:=(wt_alts hy).2
  have h2:∀ {l:List Tr} {u:Tr},u ∈ l→u.wt+1≤sz l:=by
   intro l u hu
   obtain ⟨a,b,rfl⟩:=List.append_of_mem hu
   rw [sz_app,sz_cons];omega
  have:=h2 hm
  omega
theorem hc_sub {x y:Tr} (hx:x.ok) (hy:y.hc) (h:∀ u ∈ x.alts,u ∈ y.alts):x.hc:=hc_in hx (fun u hu=>hy.alts u hu) hy.len h
theorem wt_row_ge {x y:Tr} (hx:x.ok) (hy:y.ok) (x1:x.isZ=false) (x2:x.isE=false) (y1:y.isZ=false) (y2:y.isE=false):x.wt+y.wt+2≤(row x y).wt:=by
 induction x generalizing y with
 | z=>simp [isZ] at x1
 | e=>simp [isE] at x2
 | s p q ihp ihq =>
  rw [row_s y1 y2,wt_s]
  have hb:=row_ok hx.2.1 hy
  have hb2:=hb.2 hx.2.2.2.2.2.1 y1
  have h1:=ihq hx.2.1 hy hx.2.2.2.2.2.1 hx.2.2.2.2.2.2 y1 y2
  have h2:=ihp hx.1 hb.1 hx.2.2.1 hx.2.2.2.1 hb2.1 (hb2.2 y2)
  omega
 | _=>rw [row_o y1 y2 rfl rfl rfl,wt_s];omega
theorem wt_row_l {x y:Tr} (hx:x.ok) (hy:y.ok) (y1:y.isZ=false) (y2:y.isE=false):x.wt≤(row x y).wt:=by
 by_cases x1:x.isZ=true
 ·rw [isZ_eq x1];exact wt_pos _
 ·by_cases x2:x.isE=true
  ·rw [isE_eq x2];exact wt_pos _
  ·have:=wt_row_ge hx hy (by simpa using x1) (by simpa using x2) y1 y2;omega
theorem hc_row_l {x y:Tr} (hx:x.ok) (hy:y.ok) (y1:y.isZ=false) (h:(row x y).hc):x.hc:=by
 have key:∀ {x y:Tr},x.ok→y.ok→x.isZ=false→y.isZ=false→(row x y).hc→x.hc∧y.hc:=by
  intro x
  induction x with
  | z=>intro y _ _ h;simp [isZ] at h
  | e=>intro y _ _ _ _ h;exact ⟨trivial,h⟩
  | s p q ihp ihq =>
   intro y hx hy _ y1 h
   by_cases y2:y.isE=true
   ·rw [isE_eq y2,row_e] at h;rw [isE_eq y2];exact ⟨h,trivial⟩
   ·rw [row_s y1 (by simpa using y2)] at h
    have hb:=row_ok hx.2.1 hy
    have hb2:=hb.2 hx.2.2.2.2.2.1 y1
    have h1:=ihp hx.1 hb.1 hx.2.2.1 hb2.1 h
    have h2:=ihq hx.2.1 hy hx.2.2.2.2.2.1 y1 h1.2
    exact ⟨⟨h1.1,h2.1⟩,h2.2⟩
  | _ =>
   intro y hx hy _ y1 h
   by_cases y2:y.isE=true
   ·rw [isE_eq y2,row_e] at h;rw [isE_eq y2];exact ⟨h,trivial⟩
   ·rw [row_o y1 (by simpa using y2) rfl rfl rfl] at h;exact h
 by_cases x1:x.isZ=true
 ·rw [isZ_eq x1];trivial
 ·exact (key hx hy (by simpa using x1) y1 h).1
def fit (t:Tr):Prop:=t.ok∧t.wt≤6000000000000000002∧t.hc
theorem fit_sub {x y:Tr} (hx:x.ok) (hy:y.fit) (h:∀ u ∈ x.alts,u ∈ y.alts):x.fit:=⟨hx,Nat.le_trans (wt_sub hx hy.1 h) hy.2.1,hc_sub hx hy.2.2 h⟩
theorem fit_row_l {x y:Tr} (hx:x.ok) (hy:y.ok) (y1:y.isZ=false) (y2:y.isE=false) (h:(row x y).fit):x.fit:=⟨hx,Nat.le_trans (wt_row_l hx hy y1 y2) h.2.1,hc_row_l hx hy y1 h.2.2⟩
theorem fit_either {x y:Tr} (hx:x.fit) (hy:y.fit) (h:(either x y).fit):x.rx.form.size≤9000000000000000000∧y.rx.form.size≤9000000000000000000∧sizesX (gatherX (gatherX [] x.rx) y.rx)≤9000000000000000000∧(gatherX (gatherX [] x.rx) y.rx).length≤8000000000:=by
 rw [gather2_rx hx.1 hy.1,rx_size,rx_size]
 have hm:=mkA_srt (gather_srt hx.1 hy.1)
 have e:(either x y).alts=gather (gather [] x) y:=hm.2
 have h1:=(wt_alts h.1).2
 have h2:=h.2.2.len
 rw [e] at h1 h2
 have h3:sizesX ((gather (gather [] x) y).map rx)=sz (gather (gather [] x) y):=by
  simp [sizesX,sz,rx_size,Function.comp_def]
 rw [h3,List.length_map]
 have:=hx.2.1;have:=hy.2.1;have:=h.2.1
 refine ⟨by omega,by omega,by omega,by omega⟩
end Tr
end Go.Proofs.YtodagkkjfipbgaaGreatDoor
