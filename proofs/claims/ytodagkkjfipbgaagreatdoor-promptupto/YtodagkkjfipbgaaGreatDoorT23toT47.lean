import Derived.Lib.ValidLaws
import Derived.Test.YtodagkkjfipbgaaGreatDoorT19toT22
namespace Go.Proofs.YtodagkkjfipbgaaGreatDoor
open Go.RowKit Go.Maps Go.Lib
theorem slow_more (n n' b0 b1 b2 b3 c1 c2 c3 sz lo hi:Nat) (hs:2<=sz/\sz<=4) (hnn:n<=n') (hf:sz<=n\/(1<n/\(b1<lo\/hi<b1))\/(2<n/\(b2<128\/191<b2))) (h1:1<n->b1=c1) (h2:2<n->b2=c2) (h3:3<n->b3=c3):slowN n b0 b1 b2 b3 sz lo hi=slowN n' b0 c1 c2 c3 sz lo hi:=by
 by_cases hsz:sz<=n
 ·obtain rfl:=h1 (by omega)
  by_cases e3:3<=sz
  ·obtain rfl:=h2 (by omega)
   by_cases e4:4<=sz
   ·obtain rfl:=h3 (by omega)
    unfold slowN
    repeat' split
    all_goals first | rfl | (exfalso;omega)
   ·unfold slowN
    repeat' split
    all_goals first | rfl | (exfalso;omega)
  ·unfold slowN
   repeat' split
   all_goals first | rfl | (exfalso;omega)
 ·rcases hf with hf | ⟨hf,hb⟩ | ⟨hf,hb⟩
  ·exact absurd hf hsz
  ·obtain rfl:=h1 hf
   unfold slowN
   repeat' split
   all_goals first | rfl | (exfalso;omega)
  ·obtain rfl:=h1 (by omega)
   obtain rfl:=h2 hf
   unfold slowN
   repeat' split
   all_goals first | rfl | (exfalso;omega)
theorem full_parts {n b0 b1 b2:Nat} (h:fullN n b0 b1 b2=true):firstT b0 % 8<=n\/(1<n/\(b1<accLo (firstT b0 / 16)\/accHi (firstT b0 / 16)<b1))\/(2<n/\(b2<128\/191<b2)):=by
 unfold fullN at h
 split at h
 ·exact Or.inl (by assumption)
 ·split at h
  ·exact Or.inr (Or.inl (by assumption))
  ·split at h
   ·exact Or.inr (Or.inr (by assumption))
   ·cases h
set_option maxRecDepth 100000 in
theorem decN_more (n n' b0 b1 b2 b3 c1 c2 c3:Nat) (h0:b0<256) (hn:1<=n) (hnn:n<=n') (hf:fullN n b0 b1 b2=true) (h1:1<n->b1=c1) (h2:2<n->b2=c2) (h3:3<n->b3=c3) (k1:b1<256) (k2:b2<256) (k3:b3<256) (l1:c1<256) (l2:c2<256) (l3:c3<256):decodeN n b0 b1 b2 b3=decodeN n' b0 c1 c2 c3:=by
 have hp:=full_parts hf
 have hn':1<=n':=by omega
 by_cases a1:b0<128
 ·unfold decodeN;rw [if_pos a1,if_pos a1]
 ·by_cases a2:b0<194\/245<=b0
  ·rw [decodeN_bad n b0 b1 b2 b3 (by omega),decodeN_bad n' b0 c1 c2 c3 (by omega)]
  ·by_cases a3:b0<224
   ·have e:firstT b0=2:=by unfold firstT;rw [if_neg (by omega),if_neg (by omega),if_pos a3]
    rw [e] at hp
    rw [<- slow_C2 n b0 b1 b2 b3 hn k1 k2 k3 ⟨by omega,a3⟩,<- slow_C2 n' b0 c1 c2 c3 hn' l1 l2 l3 ⟨by omega,a3⟩]
    exact slow_more _ _ _ _ _ _ _ _ _ 2 128 191 (by omega) hnn hp h1 h2 h3
   ·by_cases a4:b0=224
    ·have e:firstT b0=19:=by rw [a4];rfl
     rw [e] at hp
     rw [<- slow_E0 n b0 b1 b2 b3 hn k1 k2 k3 a4,<- slow_E0 n' b0 c1 c2 c3 hn' l1 l2 l3 a4]
     exact slow_more _ _ _ _ _ _ _ _ _ 3 160 191 (by omega) hnn hp h1 h2 h3
    ·by_cases a5:b0=237
     ·have e:firstT b0=35:=by rw [a5];rfl
      rw [e] at hp
      rw [<- slow_ED n b0 b1 b2 b3 hn k1 k2 k3 a5,<- slow_ED n' b0 c1 c2 c3 hn' l1 l2 l3 a5]
      exact slow_more _ _ _ _ _ _ _ _ _ 3 128 159 (by omega) hnn hp h1 h2 h3
     ·by_cases a6:b0<240
      ·have e:firstT b0=3:=by
        unfold firstT
        rw [if_neg (by omega),if_neg (by omega),if_neg (by omega),if_neg a4]
        by_cases q:b0<237
        ·rw [if_pos q]
        ·rw [if_neg q,if_neg a5,if_pos a6]
       rw [e] at hp
       rw [<- slow_E1 n b0 b1 b2 b3 hn k1 k2 k3 (by omega),<- slow_E1 n' b0 c1 c2 c3 hn' l1 l2 l3 (by omega)]
       exact slow_more _ _ _ _ _ _ _ _ _ 3 128 191 (by omega) hnn hp h1 h2 h3
      ·by_cases a7:b0=240
       ·have e:firstT b0=52:=by rw [a7];rfl
        rw [e] at hp
        rw [<- slow_F0 n b0 b1 b2 b3 hn k1 k2 k3 a7,<- slow_F0 n' b0 c1 c2 c3 hn' l1 l2 l3 a7]
        exact slow_more _ _ _ _ _ _ _ _ _ 4 144 191 (by omega) hnn hp h1 h2 h3
       ·by_cases a8:b0=244
        ·have e:firstT b0=68:=by rw [a8];rfl
         rw [e] at hp
         rw [<- slow_F4 n b0 b1 b2 b3 hn k1 k2 k3 a8,<- slow_F4 n' b0 c1 c2 c3 hn' l1 l2 l3 a8]
         exact slow_more _ _ _ _ _ _ _ _ _ 4 128 143 (by omega) hnn hp h1 h2 h3
        ·have e:firstT b0=4:=by
          unfold firstT
          rw [if_neg (by omega),if_neg (by omega),if_neg (by omega),if_neg a4,if_neg (by omega),if_neg a5,if_neg a6,if_neg a7,if_pos (by omega)]
         rw [e] at hp
         rw [<- slow_F1 n b0 b1 b2 b3 hn k1 k2 k3 (by omega),<- slow_F1 n' b0 c1 c2 c3 hn' l1 l2 l3 (by omega)]
         exact slow_more _ _ _ _ _ _ _ _ _ 4 128 191 (by omega) hnn hp h1 h2 h3
theorem fullN_more {n n' b0 b1 b2 c1 c2:Nat} (hnn:n<=n') (hf:fullN n b0 b1 b2=true) (h1:1<n->b1=c1) (h2:2<n->b2=c2):fullN n' b0 c1 c2=true:=by
 have hp:=full_parts hf
 unfold fullN
 split
 ·rfl
 ·split
  ·rfl
  ·split
   ·rfl
   ·rename_i x y z
    exfalso
    rcases hp with h | ⟨h,hb⟩ | ⟨h,hb⟩
    ·omega
    ·rw [h1 h] at hb;exact y ⟨by omega,hb⟩
    ·rw [h2 h] at hb;exact z ⟨by omega,hb⟩
theorem get_left (s x:ByteArray) (j:Nat) (h:j<s.size):(s++x).get! j=s.get! j:=by
 rw [Utf8W.get!_of_lt s j h,Utf8W.get!_of_lt (s++x) j (by rw [ByteArray.size_append];omega)]
 exact ByteArray.getElem_append_left h
theorem get_front (s:ByteArray) (m j:Nat) (hm:m<=s.size) (h:j<m):(s.extract 0 m).get! j=s.get! j:=by
 rw [Utf8W.get!_of_lt s j (by omega),Utf8W.get!_of_lt (s.extract 0 m) j (by rw [ByteArray.size_extract];omega)]
 simp [ByteArray.getElem_extract]
theorem decodeGo_is {s:ByteArray} (h:1<=s.size):decodeGo s=decodeN s.size (s.get! 0).toNat (s.get! 1).toNat (s.get! 2).toNat (s.get! 3).toNat:=by
 unfold decodeGo
 rw [if_neg (by omega),decode_at]
 rfl
theorem fullS_is {s:ByteArray} (h:1<=s.size):fullS s=fullN s.size (s.get! 0).toNat (s.get! 1).toNat (s.get! 2).toNat:=by
 unfold fullS
 rw [if_neg (by omega)]
def Begins (s s':ByteArray):Prop:=s.size<=s'.size/\∀ j,j<s.size->s'.get! j=s.get! j
theorem begins_full {s s':ByteArray} (h:Begins s s') (hf:fullS s=true):fullS s'=true:=by
 have h1:=fullS_pos hf
 rw [fullS_is h1] at hf
 rw [fullS_is (by have:=h.1;omega),h.2 0 (by omega)]
 exact fullN_more h.1 hf (fun q=>by rw [h.2 1 (by omega)]) (fun q=>by rw [h.2 2 (by omega)])
theorem begins_decode {s s':ByteArray} (h:Begins s s') (hf:fullS s=true):decodeGo s'=decodeGo s:=by
 have h1:=fullS_pos hf
 rw [fullS_is h1] at hf
 rw [decodeGo_is h1,decodeGo_is (by have:=h.1;omega),h.2 0 (by omega)]
 exact (decN_more _ _ _ _ _ _ _ _ _ (s.get! 0).toNat_lt h1 h.1 hf (fun q=>by rw [h.2 1 (by omega)]) (fun q=>by rw [h.2 2 (by omega)]) (fun q=>by rw [h.2 3 (by omega)]) (UInt8.toNat_lt _) (UInt8.toNat_lt _) (UInt8.toNat_lt _) (UInt8.toNat_lt _) (UInt8.toNat_lt _) (UInt8.toNat_lt _)).symm
theorem begins_extract {s s':ByteArray} (h:Begins s s') {j:Nat} (hj:j<=s.size):s'.extract 0 j=s.extract 0 j:=by
 have h0:=h.1
 apply ByteArray.ext_getElem
 ·rw [ByteArray.size_extract,ByteArray.size_extract];omega
 ·intro i h1 h2
  rw [ByteArray.size_extract] at h1 h2
  have:=h.2 i (by omega)
  rw [Utf8W.get!_of_lt s i (by omega),Utf8W.get!_of_lt s' i (by omega)] at this
  simp [ByteArray.getElem_extract,this]
theorem begins_front (s:ByteArray) (m:Nat) (hm:m<=s.size):Begins (s.extract 0 m) s:=⟨by rw [ByteArray.size_extract];omega,fun j hj=>by rw [ByteArray.size_extract] at hj;exact (get_front s m j hm (by omega)).symm⟩
theorem begins_app (s x:ByteArray):Begins s (s++x):=⟨by rw [ByteArray.size_append];omega,fun j hj=>get_left s x j hj⟩
theorem Begins.trans {a b c:ByteArray} (h:Begins a b) (k:Begins b c):Begins a c:=⟨Nat.le_trans h.1 k.1,fun j hj=>(k.2 j (Nat.lt_of_lt_of_le hj h.1)).trans (h.2 j hj)⟩
theorem char_more {L:List (Int × Int × Nat)} {s s':ByteArray} {k n:Nat} (h:Begins s s') (hf:fullS s=true) (hc:CharIs L s k n):CharIs L s' k n:=by
 have hd:=begins_decode h hf
 have h0:=h.1
 unfold CharIs at hc ⊢
 rw [hd]
 rcases hc with ⟨a1,a2,a3,hb⟩ | hc
 ·refine Or.inl ⟨a1,a2,a3,⟨hb.pos,hb.three,Nat.le_trans hb.fits h0,fun j h1 h2=>?_,?_⟩⟩
  ·rw [begins_extract h (Nat.le_trans h2 hb.fits)]
   exact hb.open_ j h1 h2
  ·have one:n=s.size->n=1:=fun e=>by
    rcases Nat.lt_or_ge n 2 with q | q
    ·have:=hb.pos;omega
    ·have:=hb.open_ n q (Nat.le_refl _)
     rw [e,extract_all,hf] at this
     cases this
   rcases Nat.lt_or_ge n s.size with q | q
   ·right
    rw [begins_extract h (by omega)]
    rcases hb.shut with e | e
    ·omega
    ·exact e
   ·have e:n=s.size:=Nat.le_antisymm hb.fits q
    have e1:=one e
    rcases Nat.lt_or_ge s.size s'.size with q2 | q2
    ·right
     refine begins_full (s:=s) ⟨?_,fun j hj=>?_⟩ hf
     ·rw [ByteArray.size_extract];omega
     ·rw [get_front s' (n+1) j (by omega) (by omega)]
      exact h.2 j hj
    ·left;omega
 ·exact Or.inr hc
theorem full_four_is {s:ByteArray} (hf:fullS s=true):fullS (s.extract 0 (min s.size 4))=true:=by
 have h1:=fullS_pos hf
 have hz:(s.extract 0 (min s.size 4)).size=min s.size 4:=by rw [ByteArray.size_extract];omega
 rw [fullS_is h1] at hf
 rw [fullS_is (by omega),hz,get_front s _ 0 (by omega) (by omega)]
 have hp:=full_parts hf
 have h4:=firstT_low (s.get! 0).toNat
 unfold fullN
 rcases hp with h | ⟨h,hb⟩ | ⟨h,hb⟩
 ·rw [if_pos (by omega)]
 ·rw [get_front s _ 1 (by omega) (by omega)]
  split
  ·rfl
  ·rw [if_pos ⟨by omega,hb⟩]
 ·rw [get_front s _ 2 (by omega) (by omega)]
  split
  ·rfl
  ·split
   ·rfl
   ·rw [if_pos ⟨by omega,hb⟩]
theorem next_char {L:List (Int × Int × Nat)} {s x:ByteArray} {k n:Nat} (h:fullS s=true) (hc:CharIs L (s.extract 0 (min s.size 4)) k n):CharIs L (s++x) k n :=
 char_more ((begins_front s _ (by omega)).trans (begins_app s x)) (full_four_is h) hc
theorem slow_open {n b0 b1 b2 b3 sz lo hi:Nat} (h:n<sz):slowN n b0 b1 b2 b3 sz lo hi=(65533,1):=by unfold slowN;rw [if_pos h]
theorem open_parts {n b0 b1 b2:Nat} (h:fullN n b0 b1 b2=false):n<firstT b0 % 8:=by
 rcases Nat.lt_or_ge n (firstT b0 % 8) with h1 | h1
 ·exact h1
 ·unfold fullN at h;rw [if_pos h1] at h;cases h
theorem decN_open (n b0 b1 b2 b3:Nat) (h0:b0<256) (hn:1<=n) (hf:fullN n b0 b1 b2=false) (k1:b1<256) (k2:b2<256) (k3:b3<256):decodeN n b0 b1 b2 b3=(65533,1):=by
 have hp:=open_parts hf
 by_cases a1:b0<128
 ·unfold firstT at hp;rw [if_pos a1] at hp;omega
 ·by_cases a2:b0<194\/245<=b0
  ·exact decodeN_bad n b0 b1 b2 b3 (by omega)
  ·by_cases a3:b0<224
   ·have e:firstT b0=2:=by unfold firstT;rw [if_neg (by omega),if_neg (by omega),if_pos a3]
    rw [e] at hp
    rw [<- slow_C2 n b0 b1 b2 b3 hn k1 k2 k3 ⟨by omega,a3⟩]
    exact slow_open hp
   ·by_cases a4:b0=224
    ·have e:firstT b0=19:=by rw [a4];rfl
     rw [e] at hp
     rw [<- slow_E0 n b0 b1 b2 b3 hn k1 k2 k3 a4]
     exact slow_open hp
    ·by_cases a5:b0=237
     ·have e:firstT b0=35:=by rw [a5];rfl
      rw [e] at hp
      rw [<- slow_ED n b0 b1 b2 b3 hn k1 k2 k3 a5]
      exact slow_open hp
     ·by_cases a6:b0<240
      ·have e:firstT b0=3:=by
        unfold firstT
        rw [if_neg (by omega),if_neg (by omega),if_neg (by omega),if_neg a4]
        by_cases q:b0<237
        ·rw [if_pos q]
        ·rw [if_neg q,if_neg a5,if_pos a6]
       rw [e] at hp
       rw [<- slow_E1 n b0 b1 b2 b3 hn k1 k2 k3 (by omega)]
       exact slow_open hp
      ·by_cases a7:b0=240
       ·have e:firstT b0=52:=by rw [a7];rfl
        rw [e] at hp
        rw [<- slow_F0 n b0 b1 b2 b3 hn k1 k2 k3 a7]
        exact slow_open hp
       ·by_cases a8:b0=244
        ·have e:firstT b0=68:=by rw [a8];rfl
         rw [e] at hp
         rw [<- slow_F4 n b0 b1 b2 b3 hn k1 k2 k3 a8]
         exact slow_open hp
        ·have e:firstT b0=4:=by
          unfold firstT
          rw [if_neg (by omega),if_neg (by omega),if_neg (by omega),if_neg a4,if_neg (by omega),if_neg a5,if_neg a6,if_neg a7,if_pos (by omega)]
         rw [e] at hp
         rw [<- slow_F1 n b0 b1 b2 b3 hn k1 k2 k3 (by omega)]
         exact slow_open hp
theorem open_char (L:List (Int × Int × Nat)) {s:ByteArray} (h1:1<=s.size) (hf:fullS s=false):CharIs L s 7 s.size:=by
 have hN:=hf
 rw [fullS_is h1] at hN
 have hd:decodeGo s=(65533,1):=by
  rw [decodeGo_is h1]
  exact decN_open _ _ _ _ _ (UInt8.toNat_lt _) h1 hN (UInt8.toNat_lt _) (UInt8.toNat_lt _) (UInt8.toNat_lt _)
 have hp:=open_parts hN
 have h4:=firstT_low (s.get! 0).toNat
 refine Or.inl ⟨by rw [hd],by rw [hd],rfl,⟨h1,by omega,Nat.le_refl _,fun j h2 h3=>?_,Or.inl rfl⟩⟩
 cases hj:fullS (s.extract 0 j) with
 | false=>rfl
 | true =>
  have:=begins_full (begins_front s j h3) hj
  rw [hf] at this
  cases this
def KnownC (L:List (Int × Int × Nat)) (T:ByteArray) (p:Nat) (C:List (Nat × Nat)):Prop:=p<=T.size/\∀ x,CharsTo L (T++x) p (C.map fun c=>c.1) (C.map fun c=>c.2)
theorem app_nil (T:ByteArray):T++⟨#[]⟩=T:=by
 apply ba_ext
 rw [ByteArray.toList_eq,ByteArray.toList_eq]
 simp
theorem app_assoc (a b c:ByteArray):a++b++c=a++(b++c):=ByteArray.append_assoc
theorem KnownC.nil (L:List (Int × Int × Nat)) (T:ByteArray):KnownC L T 0 []:=⟨Nat.zero_le _,fun _=>.nil⟩
theorem KnownC.more {L:List (Int × Int × Nat)} {T:ByteArray} {p:Nat} {C:List (Nat × Nat)} (h:KnownC L T p C) (y:ByteArray):KnownC L (T++y) p C:=⟨by rw [ByteArray.size_append];have:=h.1;omega,fun x=>by rw [app_assoc];exact h.2 _⟩
theorem KnownC.step {L:List (Int × Int × Nat)} {T:ByteArray} {p:Nat} {C:List (Nat × Nat)} {k n:Nat} (h:KnownC L T p C) (hf:fullS (T.extract p T.size)=true) (hc:CharIs L ((T.extract p T.size).extract 0 (min (T.extract p T.size).size 4)) k n) (hn:n<=(T.extract p T.size).size):KnownC L T (p+n) (C++[(k,n)]):=by
 have hz:(T.extract p T.size).size=T.size - p:=by rw [ByteArray.size_extract];omega
 have h1:=fullS_pos hf
 refine ⟨by omega,fun x=>?_⟩
 rw [List.map_append,List.map_append]
 refine CharsTo.snoc (h.2 x) (by rw [ByteArray.size_append];omega) ?_
 rw [extract_right T x p h.1]
 exact next_char hf hc
def sumC (C:List (Nat × Nat)):Nat:=(C.map fun c=>c.2).sum
theorem sumC_snoc (C:List (Nat × Nat)) (c:Nat × Nat):sumC (C++[c])=sumC C+c.2:=by unfold sumC;simp
theorem tellF_join:∀ (A:List AP) (bg:Nat) (t:ByteArray) (l:List ByteArray),sumA A+bg<=t.size->joinB (tellF A bg t l).2.2.2++(tellF A bg t l).2.2.1=joinB l++t/\(tellF A bg t l).2.2.1.size+(sumA A+bg)=t.size+(sumA (tellF A bg t l).1+(tellF A bg t l).2.1):=by
 intro A
 induction A with
 | nil=>intro bg t l _;exact ⟨rfl,rfl⟩
 | cons a A ih =>
  intro bg t l h
  obtain ⟨sz,s⟩:=a
  have e:sumA ((sz,s) :: A)=sz+sumA A:=by unfold sumA;simp
  rw [e] at h ⊢
  cases s with
  | inl v=>exact ⟨rfl,by show t.size+(sz+sumA A+bg)=t.size+(sumA ((sz,.inl v) :: A)+bg);rw [show sumA ((sz,(.inl v:Nat ⊕ Bool)) :: A)=sz+sumA A from by unfold sumA;simp]⟩
  | inr c =>
   cases c with
   | true =>
    have hz:(t.extract (bg+sz) t.size).size=t.size - (bg+sz):=by rw [ByteArray.size_extract];omega
    have h1:=ih 0 (t.extract (bg+sz) t.size) (l++[t.extract 0 (bg+sz)]) (by rw [hz];omega)
    refine ⟨?_,?_⟩
    ·show joinB (tellF A 0 (t.extract (bg+sz) t.size) (l++[t.extract 0 (bg+sz)])).2.2.2++(tellF A 0 (t.extract (bg+sz) t.size) (l++[t.extract 0 (bg+sz)])).2.2.1=_
     rw [h1.1,joinB_snoc,ByteArray.append_assoc,ext_app _ _ _ (by omega),extract_all]
    ·have h2:=h1.2
     rw [hz] at h2
     show (tellF A 0 (t.extract (bg+sz) t.size) (l++[t.extract 0 (bg+sz)])).2.2.1.size+_=_+(sumA (tellF A 0 (t.extract (bg+sz) t.size) (l++[t.extract 0 (bg+sz)])).1+(tellF A 0 (t.extract (bg+sz) t.size) (l++[t.extract 0 (bg+sz)])).2.1)
     omega
   | false =>
    have h1:=ih (bg+sz) t l (by omega)
    refine ⟨h1.1,?_⟩
    have h2:=h1.2
    show (tellF A (bg+sz) t l).2.2.1.size+_=_+(sumA (tellF A (bg+sz) t l).1+(tellF A (bg+sz) t l).2.1)
    omega
structure Flows (H:List Hd) (V:List Vw) (L:List (Int × Int × Nat)) (T:ByteArray) (C:List (Nat × Nat)) (l0:List ByteArray) (s:FS):Prop where
 hist:Hist H V T C l0 s
 known:KnownC L T (sumC C) C
 sum:sumA s.A+s.bg=s.kn
 pos:PosA s.A
theorem Flows.rest {H:List Hd} {V:List Vw} {L:List (Int × Int × Nat)} {T:ByteArray} {C:List (Nat × Nat)} {l0:List ByteArray} {s:FS} (h:Flows H V L T C l0 s):s.rest=T.extract (sumC C) T.size/\s.kn<=s.txt.size:=by
 have h0:sumA (runC H V C).1+0<=T.size:=by rw [sumA_run];exact h.known.1
 obtain ⟨h1,h2⟩:=tellF_join (runC H V C).1 0 T [] h0
 rw [h.hist.tel] at h1 h2
 simp only at h1 h2
 rw [sumA_run] at h2
 have hs:=h.sum
 have hk:=h.known.1
 have e0:joinB []++T=T:=by
  apply ba_ext
  rw [ByteArray.toList_eq,ByteArray.toList_eq]
  unfold joinB
  simp
 rw [e0] at h1
 have hz:(joinB (l0++s.told)).size+s.txt.size=T.size:=by rw [<- h1,ByteArray.size_append]
 have hc:sumC C=(C.map fun c=>c.2).sum:=rfl
 have hkn:s.kn<=s.txt.size:=by omega
 have hd:(joinB (l0++s.told)).size+s.kn=sumC C:=by omega
 refine ⟨?_,hkn⟩
 unfold FS.rest
 rw [<- hd]
 have ht:s.txt=T.extract (joinB (l0++s.told)).size T.size:=by
  rw [<- h1,ByteArray.extract_append,ByteArray.size_append]
  have e1:(joinB (l0++s.told)).extract (joinB (l0++s.told)).size ((joinB (l0++s.told)).size+s.txt.size)=⟨#[]⟩:=by
   apply ba_ext
   rw [ByteArray.toList_eq,ByteArray.toList_eq]
   exact List.eq_nil_of_length_eq_zero (by simp)
  rw [e1,show (joinB (l0++s.told)).size - (joinB (l0++s.told)).size=0 from by omega,show (joinB (l0++s.told)).size+s.txt.size - (joinB (l0++s.told)).size=s.txt.size from by omega,extract_all]
  apply ba_ext
  rw [ByteArray.toList_eq,ByteArray.toList_eq]
  simp
 have hz2:s.txt.size=T.size - (joinB (l0++s.told)).size:=by omega
 rw [hz2]
 conv=>lhs;rw [ht]
 exact ext_ext T _ _
theorem Flows.new (H:List Hd) (V:List Vw) (L:List (Int × Int × Nat)):Flows H V L ⟨#[]⟩ [] [] FS.new:=⟨Hist.new H V,KnownC.nil L _,rfl,fun a ha=>by simp [FS.new] at ha⟩
theorem Flows.more {H:List Hd} {V:List Vw} {L:List (Int × Int × Nat)} {T:ByteArray} {C:List (Nat × Nat)} {l0:List ByteArray} {s:FS} (h:Flows H V L T C l0 s) (x:ByteArray):Flows H V L (T++x) C l0 { s with txt:=s.txt++x }:=⟨h.hist.more x h.known.1,h.known.more x,h.sum,h.pos⟩
theorem knowS_pos {H:List Hd} {V:List Vw} {k n:Nat} {s:FS} (hp:PosA s.A) (hn:1<=n):PosA (knowS H V k n s).A:=by
 intro a ha
 rcases List.mem_append.1 ha with h1 | h1
 ·obtain ⟨c,hc,rfl⟩:=List.mem_map.1 h1
  rw [show (mvA V k c).1=c.1 from mvG_size _ _ _ c]
  exact hp c hc
 ·simp at h1
  subst h1
  exact hn
theorem Flows.step {H:List Hd} {V:List Vw} {L:List (Int × Int × Nat)} (hL:∀ o ∈ L,o.2.2<8) {T:ByteArray} {C:List (Nat × Nat)} {l0:List ByteArray} {s:FS} {k n:Nat} (h:Flows H V L T C l0 s) (hf:fullS s.rest=true) (hc:CharIs L (s.rest.extract 0 (min s.rest.size 4)) k n):Flows H V L T (C++[(k,n)]) l0 (tellS (knowS H V k n s)):=by
 have h1:=fullS_pos hf
 have hz:(s.rest.extract 0 (min s.rest.size 4)).size=min s.rest.size 4:=by rw [ByteArray.size_extract];omega
 have hb:=hc.bounds (by omega) hL
 refine ⟨h.hist.step h.pos hb.1,?_,rfl,tellP_pos _ _ _ _ _ (knowS_pos h.pos hb.1)⟩
 rw [sumC_snoc]
 have hr:=h.rest.1
 exact h.known.step (by rw [<- hr];exact hf) (by rw [<- hr];exact hc) (by rw [<- hr];omega)
theorem Flows.take {H:List Hd} {V:List Vw} {L:List (Int × Int × Nat)} (hL:∀ o ∈ L,o.2.2<8) {T:ByteArray} {l0:List ByteArray} {s s2:FS} (ht:TakeR H V L s s2):∀ C,Flows H V L T C l0 s->∃ C2,Flows H V L T C2 l0 s2/\fullS s2.rest=false:=by
 induction ht with
 | stop h=>intro C hF;exact ⟨C,hF,h⟩
 | step h hc _ ih=>intro C hF;exact ih _ (hF.step hL h hc)
theorem Flows.aside {H:List Hd} {V:List Vw} {L:List (Int × Int × Nat)} {T:ByteArray} {C:List (Nat × Nat)} {l0:List ByteArray} {s:FS} (h:Flows H V L T C l0 s):Flows H V L T C (l0++s.told) { s with told:=[] }:=⟨⟨h.hist.hd,by rw [h.hist.tel];simp⟩,h.known,h.sum,h.pos⟩
theorem endA_fixed (V:List Vw) (a:AP) (c:Bool) (h:a.2=.inr c):endA V a=a:=by
 obtain ⟨sz,s⟩:=a
 simp only at h
 subst h
 rfl
theorem endA_size (V:List Vw) (a:AP):(endA V a).1=a.1:=mvG_size _ _ _ a
theorem PosA.map {A:List AP} (h:PosA A) {f:AP->AP} (hf:∀ a,(f a).1=a.1):PosA (A.map f):=by
 intro a ha
 obtain ⟨c,hc,rfl⟩:=List.mem_map.1 ha
 rw [hf]
 exact h c hc
theorem Flows.end {H:List Hd} {V:List Vw} {L:List (Int × Int × Nat)} {T:ByteArray} {C:List (Nat × Nat)} {l0:List ByteArray} {s:FS} (h:Flows H V L T C l0 s) (hf:fullS s.rest=false):∃ C2,CharsTo L T T.size (C2.map fun c=>c.1) (C2.map fun c=>c.2)/\(l0++s.told)++(endS H V s).told=(tellF ((runC H V C2).1.map (endA V)) 0 T []).2.2.2:=by
 obtain ⟨hr,hkn⟩:=h.rest
 have hz:=rest_size s hkn
 have hk:=h.known.1
 have hz2:s.rest.size=T.size - sumC C:=by rw [hr,ByteArray.size_extract];omega
 by_cases hlt:s.kn<s.txt.size
 ·have hone:1<=s.txt.size - s.kn:=by omega
  refine ⟨C++[(7,s.txt.size - s.kn)],?_,?_⟩
  ·have h1:=h.known.2 ⟨#[]⟩
   rw [app_nil] at h1
   rw [List.map_append,List.map_append]
   have e:T.size=sumC C+(s.txt.size - s.kn):=by omega
   have hc:=open_char L (s:=s.rest) (by omega) hf
   rw [hz,hr] at hc
   have:=CharsTo.snoc h1 (by omega) hc
   rw [<- e] at this
   exact this
  ·have hp:PosA ((knowS H V 7 (s.txt.size - s.kn) s).A.map (endA V)):=(knowS_pos h.pos hone).map (endA_size V)
   have ht:(endS H V s).told=(tellF ((knowS H V 7 (s.txt.size - s.kn) s).A.map (endA V)) s.bg s.txt []).2.2.2:=by
    unfold endS
    rw [if_pos hlt]
    show (tellP (((knowS H V 7 (s.txt.size - s.kn) s).A.map (endA V)).length+2) ((knowS H V 7 (s.txt.size - s.kn) s).A.map (endA V)) s.bg s.txt []).2.2.2=_
    rw [tellP_eq _ _ _ _ _ hp (by omega)]
   have h1:=tellF_later (runC H V C).1 (endA V ∘ mvA V 7) (fun a c ha=>by show endA V (mvA V 7 a)=a;rw [mvA_fixed V 7 a c ha,endA_fixed V a c ha]) [endA V (stA V (s.txt.size - s.kn) (stH H (hdN H (runC H V C).2 7)))] 0 T []
   rw [h.hist.tel] at h1
   simp only at h1
   rw [runC_snoc]
   show _=(tellF (((runC H V C).1.map (mvA V 7)++[stA V (s.txt.size - s.kn) (stH H (hdN H (runC H V C).2 7))]).map (endA V)) 0 T []).2.2.2
   rw [List.map_append,List.map_map,List.map_cons,List.map_nil,<- h1,ht]
   have e2:(knowS H V 7 (s.txt.size - s.kn) s).A.map (endA V)=s.A.map (endA V ∘ mvA V 7)++[endA V (stA V (s.txt.size - s.kn) (stH H (hdN H (runC H V C).2 7)))]:=by
    show (s.A.map (mvA V 7)++[stA V (s.txt.size - s.kn) (stH H (hdN H s.hd 7))]).map (endA V)=_
    rw [List.map_append,List.map_map,h.hist.hd]
    rfl
   rw [e2]
   have h3:=tellF_acc (s.A.map (endA V ∘ mvA V 7)++[endA V (stA V (s.txt.size - s.kn) (stH H (hdN H (runC H V C).2 7)))]) s.bg s.txt (l0++s.told) []
   rw [List.append_nil] at h3
   rw [h3]
 ·refine ⟨C,?_,?_⟩
  ·have h1:=h.known.2 ⟨#[]⟩
   rw [app_nil] at h1
   rw [show sumC C=T.size from by omega] at h1
   exact h1
  ·have hp:PosA (s.A.map (endA V)):=h.pos.map (endA_size V)
   have ht:(endS H V s).told=(tellF (s.A.map (endA V)) s.bg s.txt []).2.2.2:=by
    unfold endS
    rw [if_neg hlt]
    show (tellP ((s.A.map (endA V)).length+2) (s.A.map (endA V)) s.bg s.txt []).2.2.2=_
    rw [tellP_eq _ _ _ _ _ hp (by omega)]
   have h1:=tellF_later (runC H V C).1 (endA V) (fun a c ha=>endA_fixed V a c ha) [] 0 T []
   rw [h.hist.tel] at h1
   simp only [List.append_nil] at h1
   rw [<- h1,ht]
   have h3:=tellF_acc (s.A.map (endA V)) s.bg s.txt (l0++s.told) []
   rw [List.append_nil] at h3
   rw [h3]
def fixL (X:List (Nat × Bool)):List AP:=X.map fun x=>(x.1,.inr x.2)
theorem tellF_seg (T:ByteArray):∀ (X:List (Nat × Bool)) (b e:Nat) (l:List ByteArray),b<=e->e+(X.map fun x=>x.1).sum<=T.size->(tellF (fixL X) (e - b) (T.extract b T.size) l).2.2.2=(X.foldl (segStep T) (b,e,l)).2.2:=by
 intro X
 induction X with
 | nil=>intro b e l _ _;rfl
 | cons x X ih =>
  intro b e l hbe h
  obtain ⟨n,c⟩:=x
  simp only [List.map_cons,List.sum_cons] at h
  cases c with
  | true =>
   show (tellF (fixL X) 0 ((T.extract b T.size).extract (e - b+n) (T.extract b T.size).size) (l++[(T.extract b T.size).extract 0 (e - b+n)])).2.2.2=(X.foldl (segStep T) (e+n,e+n,l++[T.extract b (e+n)])).2.2
   have hz:(T.extract b T.size).size=T.size - b:=by rw [ByteArray.size_extract];omega
   have e1:(T.extract b T.size).extract (e - b+n) (T.extract b T.size).size=T.extract (e+n) T.size:=by
    rw [hz,ext_ext,show b+(e - b+n)=e+n from by omega]
   have e2:(T.extract b T.size).extract 0 (e - b+n)=T.extract b (e+n):=by
    rw [ByteArray.extract_extract]
    congr 1
    omega
   rw [e1,e2]
   have:=ih (e+n) (e+n) (l++[T.extract b (e+n)]) (Nat.le_refl _) (by omega)
   rw [Nat.sub_self] at this
   exact this
  | false =>
   show (tellF (fixL X) (e - b+n) (T.extract b T.size) l).2.2.2=(X.foldl (segStep T) (b,e+n,l)).2.2
   rw [show e - b+n=e+n - b from by omega]
   exact ih b (e+n) l (by omega) (by omega)
def StaysV (V:List Vw) (ks:List Nat):Prop:=∀ v,stlV V v=true->∀ k ∈ ks,stlV V (nxV V k v)=true/\cutV V (nxV V k v)=cutV V v
def stepV (H:List Hd) (V:List Vw) (r:List Nat × Nat) (k:Nat):List Nat × Nat:=(r.1.map (nxV V k)++[stH H (hdN H r.2 k)],hdN H r.2 k)
def viewsK (H:List Hd) (V:List Vw) (K:List Nat):List Nat × Nat:=K.foldl (stepV H V) ([],0)
theorem viewsK_snoc (H:List Hd) (V:List Vw) (K:List Nat) (k:Nat):viewsK H V (K++[k])=stepV H V (viewsK H V K) k:=by unfold viewsK;rw [List.foldl_append];rfl
theorem viewsK_len (H:List Hd) (V:List Vw):∀ K:List Nat,(viewsK H V K).1.length=K.length:=by
 apply snoc_ind
 ·rfl
 ·intro K k ih
  rw [viewsK_snoc]
  show ((viewsK H V K).1.map (nxV V k)++[_]).length=_
  simp [ih]
theorem mv_st {V:List Vw} {ks:List Nat} (hV:StaysV V ks) {k:Nat} (hk:k ∈ ks) (n v:Nat):mvA V k (stA V n v)=stA V n (nxV V k v):=by
 unfold stA stG
 cases hs:stlV V v with
 | true =>
  obtain ⟨h1,h2⟩:=hV v hs k hk
  rw [h1,h2]
  rfl
 | false=>rfl
theorem end_st (V:List Vw) (n v:Nat):endA V (stA V n v)=(n,.inr (cutV V v)):=by
 unfold stA stG
 cases hs:stlV V v <;> rfl
theorem run_views (H:List Hd) {V:List Vw} {ks:List Nat} (hV:StaysV V ks):∀ C:List (Nat × Nat),(∀ c ∈ C,c.1 ∈ ks)->(runC H V C).2=(viewsK H V (C.map fun c=>c.1)).2/\(runC H V C).1=((C.map fun c=>c.2).zip (viewsK H V (C.map fun c=>c.1)).1).map fun x=>stA V x.1 x.2:=by
 apply snoc_ind
 ·intro _;exact ⟨rfl,rfl⟩
 ·intro C c ih hc
  obtain ⟨h1,h2⟩:=ih fun x hx=>hc x (List.mem_append_left _ hx)
  have hk:=hc c (by simp)
  rw [runC_snoc,List.map_append,List.map_append,List.map_cons,List.map_nil,List.map_cons,List.map_nil,viewsK_snoc]
  refine ⟨?_,?_⟩
  ·show hdN H (runC H V C).2 c.1=hdN H (viewsK H V (C.map fun c=>c.1)).2 c.1
   rw [h1]
  ·show (runC H V C).1.map (mvA V c.1)++[stA V c.2 (stH H (hdN H (runC H V C).2 c.1))]=(((C.map fun c=>c.2)++[c.2]).zip ((viewsK H V (C.map fun c=>c.1)).1.map (nxV V c.1)++[stH H (hdN H (viewsK H V (C.map fun c=>c.1)).2 c.1)])).map fun x=>stA V x.1 x.2
   rw [List.zip_append (by rw [List.length_map,List.length_map,viewsK_len,List.length_map]),List.map_append,h1,h2,List.map_map,List.zip_map_right,List.map_map]
   congr 1
   refine List.map_congr_left fun x _=>?_
   exact mv_st hV hk x.1 x.2
theorem end_segs (H:List Hd) {V:List Vw} {ks:List Nat} (hV:StaysV V ks) (T:ByteArray) (C:List (Nat × Nat)) (hC:∀ c ∈ C,c.1 ∈ ks) (hT:(C.map fun c=>c.2).sum<=T.size) :
  (tellF ((runC H V C).1.map (endA V)) 0 T []).2.2.2=(segSt T (C.map fun c=>c.2) (true :: (viewsK H V (C.map fun c=>c.1)).1.map (cutV V)) C.length).2.2:=by
 have e1:(runC H V C).1.map (endA V)=fixL ((C.map fun c=>c.2).zip ((viewsK H V (C.map fun c=>c.1)).1.map (cutV V))):=by
  rw [(run_views H hV C hC).2,List.map_map,List.zip_map_right]
  unfold fixL
  rw [List.map_map]
  refine List.map_congr_left fun x _=>?_
  exact end_st V x.1 x.2
 have hl:((C.map fun c=>c.2).zip ((viewsK H V (C.map fun c=>c.1)).1.map (cutV V))).length=C.length:=by rw [List.length_zip,List.length_map,List.length_map,viewsK_len,List.length_map];omega
 have e2:(((C.map fun c=>c.2).zip ((viewsK H V (C.map fun c=>c.1)).1.map (cutV V))).map fun x=>x.1)=C.map fun c=>c.2:=by
  apply List.map_fst_zip
  rw [List.length_map,List.length_map,viewsK_len,List.length_map]
  omega
 have h:=tellF_seg T ((C.map fun c=>c.2).zip ((viewsK H V (C.map fun c=>c.1)).1.map (cutV V))) 0 0 [] (Nat.le_refl _) (by rw [e2];omega)
 rw [Nat.sub_self,extract_all] at h
 rw [e1,h]
 unfold segSt
 rw [List.drop_one,List.tail_cons,List.take_of_length_le (by omega)]
end Go.Proofs.YtodagkkjfipbgaaGreatDoor
namespace Go.Proofs.YtodagkkjfipbgaaGreatDoor
open Go.RowKit
def within (V:List Vw) (ks:List Nat):Nat->Nat->Prop
 | 0,v=>stlV V v=true
 | n+1,v=>stlV V v=true\/∀ k ∈ ks,within V ks n (nxV V k v)
theorem within_succ {V:List Vw} {ks:List Nat}:∀ n v,within V ks n v->within V ks (n+1) v:=by
 intro n
 induction n with
 | zero=>intro v h;exact Or.inl h
 | succ n ih =>
  intro v h
  rcases h with h | h
  ·exact Or.inl h
  ·exact Or.inr fun k hk=>ih _ (h k hk)
theorem within_le {V:List Vw} {ks:List Nat} {n m v:Nat} (h:within V ks n v) (hnm:n<=m):within V ks m v:=by
 induction hnm with
 | refl=>exact h
 | step _ ih=>exact within_succ _ _ ih
def waitIs (V:List Vw) (ks:List Nat) (v n:Nat):Prop:=within V ks n v/\∀ m,m<n->¬ within V ks m v
theorem waitIs_settled {V:List Vw} (ks:List Nat) {v:Nat} (h:stlV V v=true):waitIs V ks v 0:=⟨h,fun m hm=>by omega⟩
theorem within_down {V:List Vw} {ks:List Nat} {n v k:Nat} (hu:stlV V v=false) (hk:k ∈ ks) (h:within V ks n v):1<=n/\within V ks (n - 1) (nxV V k v):=by
 cases n with
 | zero=>rw [show stlV V v=true from h] at hu;cases hu
 | succ n =>
  rcases h with h | h
  ·rw [h] at hu;cases hu
  ·exact ⟨by omega,h k hk⟩
def Lead (V:List Vw) (ks:List Nat) (a b:Nat):Prop:=∃ m,1<=m/\∀ n,within V ks n a->m<=n/\within V ks (n - m) b
theorem Lead.one {V:List Vw} {ks:List Nat} {v k:Nat} (hu:stlV V v=false) (hk:k ∈ ks):Lead V ks v (nxV V k v):=⟨1,Nat.le_refl _,fun _ h=>within_down hu hk h⟩
theorem Lead.trans {V:List Vw} {ks:List Nat} {a b c:Nat} (h:Lead V ks a b) (k:Lead V ks b c):Lead V ks a c:=by
 obtain ⟨m,h1,h2⟩:=h
 obtain ⟨p,k1,k2⟩:=k
 refine ⟨m+p,by omega,fun n hn=>?_⟩
 obtain ⟨h3,h4⟩:=h2 n hn
 obtain ⟨k3,k4⟩:=k2 _ h4
 exact ⟨by omega,by rw [show n - (m+p)=n - m - p from by omega];exact k4⟩
def endlessV (V:List Vw) (ks:List Nat) (v:Nat):Prop:=∀ n,¬ within V ks n v
theorem Lead.round {V:List Vw} {ks:List Nat} {a:Nat} (h:Lead V ks a a):endlessV V ks a:=by
 obtain ⟨m,h1,h2⟩:=h
 intro n
 induction n using Nat.strongRecOn with
 | _ n ih =>
  intro hn
  obtain ⟨h3,h4⟩:=h2 n hn
  exact ih (n - m) (by omega) h4
theorem endless_back {V:List Vw} {ks:List Nat} {v k:Nat} (hu:stlV V v=false) (hk:k ∈ ks) (h:endlessV V ks (nxV V k v)):endlessV V ks v:=fun _ hn=>h _ (within_down hu hk hn).2
def zerosT (t:List Int):Nat:=t.countP (· == 0)
structure ToldT (V:List Vw) (ks:List Nat) (t:List Int):Prop where
 len:t.length=V.length
 ok:∀ (v:Nat) (x:Int),t[v]?=some x->x=0\/(stlV V v=false/\(x=-1\/∃ n:Nat,x=n/\1<=n/\waitIs V ks v n))
def AskT (V:List Vw) (ks:List Nat) (t:List Int) (v:Nat):Prop:=∀ a:Nat,t[a]?=some (-1)->Lead V ks a v
def MoreT (t t':List Int):Prop:=t'.length=t.length/\zerosT t'<=zerosT t/\∀ a:Nat,t'[a]?=some (-1)↔t[a]?=some (-1)
theorem MoreT.refl (t:List Int):MoreT t t:=⟨rfl,Nat.le_refl _,fun _=>Iff.rfl⟩
theorem MoreT.trans {a b c:List Int} (h:MoreT a b) (k:MoreT b c):MoreT a c:=⟨k.1.trans h.1,Nat.le_trans k.2.1 h.2.1,fun x=>(k.2.2 x).trans (h.2.2 x)⟩
theorem zeros_set:∀ {t:List Int} {v:Nat} {x:Int},t[v]?=some 0->x ≠ 0->zerosT (t.set v x)+1=zerosT t:=by
 intro t
 induction t with
 | nil=>intro v x h;simp at h
 | cons a t ih =>
  intro v x h hx
  cases v with
  | zero =>
   simp at h
   subst h
   unfold zerosT
   rw [List.set_cons_zero,List.countP_cons_of_neg (by simpa using hx),List.countP_cons_of_pos (by simp)]
  | succ v =>
   have:=ih (v:=v) (x:=x) (by simpa using h) hx
   unfold zerosT at this ⊢
   rw [List.set_cons_succ,List.countP_cons,List.countP_cons]
   omega
theorem zeros_set2:∀ {t:List Int} {v:Nat} {x y:Int},t[v]?=some y->y ≠ 0->x ≠ 0->zerosT (t.set v x)=zerosT t:=by
 intro t
 induction t with
 | nil=>intro v x y h;simp at h
 | cons a t ih =>
  intro v x y h hy hx
  cases v with
  | zero =>
   simp at h
   subst h
   unfold zerosT
   rw [List.set_cons_zero,List.countP_cons_of_neg (by simpa using hx),List.countP_cons_of_neg (by simpa using hy)]
  | succ v =>
   have:=ih (v:=v) (x:=x) (by simpa using h) hy hx
   unfold zerosT at this ⊢
   rw [List.set_cons_succ,List.countP_cons,List.countP_cons,this]
theorem set_at {t:List Int} {v a:Nat} {x y:Int} (h:(t.set v x)[a]?=some y):(a=v/\y=x)\/(a ≠ v/\t[a]?=some y):=by
 rw [List.getElem?_set] at h
 by_cases e:v=a
 ·rw [if_pos e] at h
  split at h
  ·injection h with h;exact Or.inl ⟨e.symm,h.symm⟩
  ·cases h
 ·rw [if_neg e] at h
  exact Or.inr ⟨fun e'=>e e'.symm,h⟩
theorem ToldT.ask {V:List Vw} {ks:List Nat} {t:List Int} (h:ToldT V ks t) {v:Nat} (hu:stlV V v=false):ToldT V ks (t.set v (-1)):=⟨by rw [List.length_set];exact h.len,fun a x hx=>by
 rcases set_at hx with ⟨rfl,rfl⟩ | ⟨_,h1⟩
 ·exact Or.inr ⟨hu,Or.inl rfl⟩
 ·exact h.ok a x h1⟩
theorem ToldT.tell {V:List Vw} {ks:List Nat} {t:List Int} (h:ToldT V ks t) {v n:Nat} (hu:stlV V v=false) (hn:1<=n) (hw:waitIs V ks v n):ToldT V ks (t.set v n):=⟨by rw [List.length_set];exact h.len,fun a x hx=>by
 rcases set_at hx with ⟨rfl,rfl⟩ | ⟨_,h1⟩
 ·exact Or.inr ⟨hu,Or.inr ⟨n,rfl,hn,hw⟩⟩
 ·exact h.ok a x h1⟩
theorem AskT.ask {V:List Vw} {ks:List Nat} {t:List Int} {v k:Nat} (h:AskT V ks t v) (hu:stlV V v=false) (hk:k ∈ ks):AskT V ks (t.set v (-1)) (nxV V k v):=fun a ha=>by
 rcases set_at ha with ⟨rfl,_⟩ | ⟨_,h1⟩
 ·exact Lead.one hu hk
 ·exact (h a h1).trans (Lead.one hu hk)
theorem AskT.more {V:List Vw} {ks:List Nat} {t t':List Int} {v:Nat} (h:AskT V ks t v) (hm:MoreT t t'):AskT V ks t' v:=fun a ha=>h a ((hm.2.2 a).1 ha)
def MostT (V:List Vw) (ks:List Nat) (v j most:Nat):Prop:=(∀ i k,i<j->ks[i]?=some k->∃ n,waitIs V ks (nxV V k v) n/\n+1<=most)/\(most=0->j=0)/\(0<most->∃ i k,i<j/\ks[i]?=some k/\waitIs V ks (nxV V k v) (most - 1))
theorem MostT.zero (V:List Vw) (ks:List Nat) (v:Nat):MostT V ks v 0 0:=⟨fun i k hi=>by omega,fun _=>rfl,fun h=>by omega⟩
theorem MostT.step {V:List Vw} {ks:List Nat} {v j most k n:Nat} (h:MostT V ks v j most) (hk:ks[j]?=some k) (hn:waitIs V ks (nxV V k v) n):MostT V ks v (j+1) (max most (n+1)):=by
 refine ⟨fun i c hi hc=>?_,fun e=>by omega,fun _=>?_⟩
 ·rcases Nat.lt_or_ge i j with h1 | h1
  ·obtain ⟨m,h2,h3⟩:=h.1 i c h1 hc
   exact ⟨m,h2,by omega⟩
  ·rw [show i=j from by omega,hk] at hc
   cases hc
   exact ⟨n,hn,by omega⟩
 ·rcases Nat.lt_or_ge (n+1) most with h1 | h1
  ·obtain ⟨i,c,h2,h3,h4⟩:=h.2.2 (by omega)
   exact ⟨i,c,by omega,h3,by rw [show max most (n+1)=most from by omega];exact h4⟩
  ·exact ⟨j,k,by omega,hk,by rw [show max most (n+1) - 1=n from by omega];exact hn⟩
theorem MostT.all {V:List Vw} {ks:List Nat} {v most:Nat} (h:MostT V ks v ks.length most) (hu:stlV V v=false) (hne:ks ≠ []):1<=most/\waitIs V ks v most:=by
 have hpos:1<=most:=by
  rcases Nat.eq_zero_or_pos most with h1 | h1
  ·have:=h.2.1 h1
   exact absurd (List.eq_nil_of_length_eq_zero this) hne
  ·exact h1
 refine ⟨hpos,?_,fun m hm hw=>?_⟩
 ·obtain ⟨m,rfl⟩:∃ m,most=m+1:=⟨most - 1,by omega⟩
  refine Or.inr fun k hk=>?_
  obtain ⟨i,hi⟩:=List.mem_iff_getElem?.1 hk
  obtain ⟨n,h1,h2⟩:=h.1 i k (List.getElem?_eq_some_iff.1 hi).1 hi
  exact within_le h1.1 (by omega)
 ·obtain ⟨i,k,hi,hk,h1⟩:=h.2.2 (by omega)
  obtain ⟨h2,h3⟩:=within_down hu (List.mem_of_getElem? hk) hw
  exact h1.2 (m - 1) (by omega) h3
theorem waitIs_one {V:List Vw} {ks:List Nat} {v n m:Nat} (h:waitIs V ks v n) (k:waitIs V ks v m):n=m:=by
 rcases Nat.lt_trichotomy n m with h1 | h1 | h1
 ·exact absurd h.1 (k.2 n h1)
 ·exact h1
 ·exact absurd k.1 (h.2 m h1)
theorem waitIs_child {V:List Vw} {ks:List Nat} (hne:ks ≠ []) {v n:Nat} (h:waitIs V ks v (n+1)):∃ k ∈ ks,waitIs V ks (nxV V k v) n:=by
 have hu:¬ stlV V v=true:=fun h9=>h.2 0 (by omega) h9
 have hall:∀ k ∈ ks,within V ks n (nxV V k v):=by
  rcases h.1 with h1 | h1
  ·exact absurd h1 hu
  ·exact h1
 cases n with
 | zero =>
  obtain ⟨k,hk⟩:=List.exists_mem_of_ne_nil ks hne
  exact ⟨k,hk,hall k hk,fun m hm=>by omega⟩
 | succ n =>
  have h2:=h.2 (n+1) (by omega)
  have h3:∃ k,k ∈ ks/\¬ within V ks n (nxV V k v):=by
   refine Classical.byContradiction fun h9=>h2 (Or.inr fun k hk=>?_)
   exact Classical.byContradiction fun h8=>h9 ⟨k,hk,h8⟩
  obtain ⟨k,hk,h4⟩:=h3
  exact ⟨k,hk,hall k hk,fun m hm h5=>h4 (within_le h5 (by omega))⟩
theorem wait_few {V:List Vw} {ks:List Nat} (hne:ks ≠ []) (hnx:∀ k ∈ ks,∀ v,v<V.length->nxV V k v<V.length) {v n:Nat} (hv:v<V.length) (h:waitIs V ks v n):n<V.length:=by
 have ex:∀ d,∀ j,j+d=n->∃ u,u<V.length/\waitIs V ks u j:=by
  intro d
  induction d with
  | zero=>intro j hj;exact ⟨v,hv,by rw [show j=n from by omega];exact h⟩
  | succ d ih =>
   intro j hj
   obtain ⟨u,h1,h2⟩:=ih (j+1) (by omega)
   obtain ⟨k,hk,h3⟩:=waitIs_child hne h2
   exact ⟨_,hnx k hk u h1,h3⟩
 have all:∀ j,∃ u,j<=n->u<V.length/\waitIs V ks u j:=fun j=>by
  by_cases hj:j<=n
  ·obtain ⟨u,h1,h2⟩:=ex (n - j) j (by omega)
   exact ⟨u,fun _=>⟨h1,h2⟩⟩
  ·exact ⟨0,fun h9=>absurd h9 hj⟩
 have hf:∀ j,j<=n->(all j).choose<V.length/\waitIs V ks (all j).choose j:=fun j hj=>(all j).choose_spec hj
 have hnd:((List.range (n+1)).map fun j=>(all j).choose).Nodup:=by
  rw [List.nodup_iff_pairwise_ne,List.pairwise_map]
  refine List.Pairwise.imp_of_mem (R:=fun a b=>a ≠ b) (fun {a b} ha hb hab e=>hab ?_) List.nodup_range
  have h1:=(hf a (by have:=List.mem_range.1 ha;omega)).2
  have h2:=(hf b (by have:=List.mem_range.1 hb;omega)).2
  rw [e] at h1
  exact waitIs_one h1 h2
 have hsub:((List.range (n+1)).map fun j=>(all j).choose) ⊆ List.range V.length:=fun x hx=>by
  obtain ⟨j,hj,rfl⟩:=List.mem_map.1 hx
  exact List.mem_range.2 (hf j (by have:=List.mem_range.1 hj;omega)).1
 have:=List.Nodup.length_le_of_subset hnd hsub
 simp at this
 omega
end Go.Proofs.YtodagkkjfipbgaaGreatDoor
