import Derived.Laws.IdiomStrings
import Derived.Test.YtodagkkjfipbgaaGreatDoorP3toQ2
namespace Go.Proofs.YtodagkkjfipbgaaGreatDoor
open Go.RowKit
def Blk (w:World) (b:Nat) (T:ByteArray) (s:RS) (vN vS vL:Value):Prop :=
 w.heap[b]?=some (.cells (rcell T s.at_ s.err s.place vN vS vL s.atoms s.nest) 35 (0,0))
theorem take_snoc (s:ByteArray) (k:Nat) (h:k<s.size):s.toList.take (k+1)=s.toList.take k++[s[k]]:=by
 rw [ByteArray.toList_eq,List.take_succ_eq_append_getElem (by simpa using h)];rfl
theorem toList_length (s:ByteArray):s.toList.length=s.size:=by rw [ByteArray.toList_eq];rfl
theorem dig_bd (c:Nat) (d:Int) (h:RS.dig c=some d):0<=d/\d<=15:=by
 unfold RS.dig at h
 split at h
 ·simp at h;omega
 ·split at h
  ·simp at h;omega
  ·split at h
   ·simp at h;omega
   ·simp at h
theorem hexN_snoc (l:List UInt8) (c:UInt8):RS.hexN (l++[c])=match RS.dig c.toNat with | some d=>16 * RS.hexN l+d | none=>RS.hexN l:=by
 unfold RS.hexN;rw [List.foldl_append];rfl
theorem hexN_bd (k:Nat):∀ l:List UInt8,l.length<=k->0<=RS.hexN l/\RS.hexN l<16 ^ k:=by
 induction k with
 | zero=>intro l h
         have e:l=[]:=List.eq_nil_of_length_eq_zero (by omega)
         subst e;simp [RS.hexN]
 | succ k ih =>
  intro l h
  by_cases hl:l=[]
  ·subst hl;simp [RS.hexN];exact Int.pow_pos (by omega)
  ·obtain ⟨m,c,rfl⟩:∃ m c,l=m++[c]:=⟨l.dropLast,l.getLast hl,(List.dropLast_concat_getLast hl).symm⟩
   have:=ih m (by simp at h;omega)
   rw [hexN_snoc]
   cases hd:RS.dig c.toNat with
   | none=>simp only;rw [Int.pow_succ];omega
   | some d=>have:=dig_bd _ _ hd;simp only;rw [Int.pow_succ];omega
theorem hexOk_snoc (l:List UInt8) (c:UInt8):RS.hexOk (l++[c])=(RS.hexOk l && (RS.dig c.toNat).isSome):=by
 unfold RS.hexOk;simp
def hexAt (s:RS) (p:Int) (l:List UInt8):RS:=if RS.hexOk l=true then s else s.fail 2 p
def lowB (c:UInt8):Nat:=(bits BinOp.or IntKind.u8 c.toNat 32).toNat
theorem low_all:∀ c:Fin 256,bits BinOp.or IntKind.u8 (c.val:Int) 32=(c.val ||| 32:Nat):=by decide +kernel
theorem low_cases:∀ c:Fin 256,(65<=c.val/\c.val<=90/\c.val ||| 32=c.val+32)\/(97<=c.val/\c.val<=122/\c.val ||| 32=c.val)\/(¬ (65<=c.val/\c.val<=90)/\¬ (97<=c.val/\c.val<=122)/\(c.val ||| 32<97\/122<c.val ||| 32)):=by decide +kernel
set_option maxHeartbeats 1000000 in
theorem lower_any (c:UInt8) (w:World) :
  Calls Tryz.prog 234 #[.int .u8 c.toNat] w fun e w'=>e=.returned (.int .u8 (c.toNat ||| 32:Nat))/\w'=w:=by
 have h:=low_all ⟨c.toNat,c.toNat_lt⟩
 simp only at h
 go_enter Tryz.func234,Tryz.ntmps234
 go_wp2
 go_ret
 exact ⟨rfl,rfl⟩
theorem lower_up (c:UInt8) (w:World) (h1:65<=c.toNat) (h2:c.toNat<=90) :
  Calls Tryz.prog 234 #[.int .u8 c.toNat] w fun e w'=>e=.returned (.int .u8 ((c.toNat:Int)+32))/\w'=w:=by
 refine (lower_any c w).mono ?_
 rintro e w' ⟨rfl,rfl⟩
 refine ⟨ret_int ?_,rfl⟩
 have:=low_cases ⟨c.toNat,c.toNat_lt⟩
 simp only at this;omega
theorem lower_lo (c:UInt8) (w:World) (h1:97<=c.toNat) (h2:c.toNat<=122) :
  Calls Tryz.prog 234 #[.int .u8 c.toNat] w fun e w'=>e=.returned (.int .u8 (c.toNat:Int))/\w'=w:=by
 refine (lower_any c w).mono ?_
 rintro e w' ⟨rfl,rfl⟩
 refine ⟨ret_int ?_,rfl⟩
 have:=low_cases ⟨c.toNat,c.toNat_lt⟩
 simp only at this;omega
theorem lower_eq (c:UInt8) (w:World) (r:Nat) (hr:c.toNat ||| 32=r) :
  Calls Tryz.prog 234 #[.int .u8 c.toNat] w fun e w'=>e=.returned (.int .u8 (r:Int))/\w'=w:=by
 refine (lower_any c w).mono ?_
 rintro e w' ⟨rfl,rfl⟩
 exact ⟨by rw [hr],rfl⟩
theorem lower_us (w:World) :
  Calls Tryz.prog 234 #[.int .u8 95] w fun e w'=>e=.returned (.int .u8 127)/\w'=w:=by
 refine Calls.mono (lower_any 95 w) ?_
 rintro e w' ⟨rfl,rfl⟩
 exact ⟨rfl,rfl⟩
theorem low_no (c:UInt8) (h1:¬ (65<=c.toNat/\c.toNat<=90)) (h2:¬ (97<=c.toNat/\c.toNat<=122)):∃ r,c.toNat ||| 32=r/\(r<97\/122<r):=by
 have:=low_cases ⟨c.toNat,c.toNat_lt⟩
 simp only at this
 exact ⟨_,rfl,by omega⟩
theorem hexOk_not {l:List UInt8} {c:UInt8} (hc:c ∈ l) (hd:RS.dig c.toNat=none):RS.hexOk l=false:=by
 unfold RS.hexOk
 rw [List.all_eq_false]
 exact ⟨c,hc,by rw [hd];simp⟩
theorem mem_bytes (s:ByteArray) (k:Nat) (h:k<s.size):s[k] ∈ s.toList:=by
 rw [ByteArray.toList_eq]
 exact List.getElem_mem (l:=s.data.toList) (n:=k) (by simpa using h)
set_option maxRecDepth 100000 in
set_option maxHeartbeats 2000000 in
theorem parseIn_nil (s:ByteArray) (w:World) (hs:s.toList=[]) :
  Calls Tryz.prog 219 #[.string s,.int .i64 16,.int .i64 32] w fun e w'=>e=.returned (.tuple #[.int .u64 0,.iface 368 (.int .i64 2)])/\w'=w:=by
 go_enter Tryz.func219,Tryz.ntmps219
 go_wp2_with fail
 go_ret2
 exact ⟨rfl,rfl⟩
def PU (s:ByteArray) (e:Ending):Prop :=
 (e=.returned (.tuple #[.int .u64 (RS.hexN s.toList),.nilIface])/\RS.hexOk s.toList=true/\RS.hexN s.toList<=4294967295) \/
 (e=.returned (.tuple #[.int .u64 0,.iface 368 (.int .i64 2)])/\RS.hexOk s.toList=false) \/
 (e=.returned (.tuple #[.int .u64 4294967295,.iface 368 (.int .i64 1)])/\6<s.toList.length)
set_option maxRecDepth 100000 in
set_option maxHeartbeats 4000000 in
theorem parseIn_any (s:ByteArray) (w:World) (hs:s.toList.isEmpty=false) (hl:s.size<=1000) :
  Calls Tryz.prog 219 #[.string s,.int .i64 16,.int .i64 32] w fun e w'=>PU s e/\Below w.heap.size w w':=by
 have hcv:=fun w s=>run_bytes_of_string (P:=Tryz.prog) w 9 63 5 s (by kernel_rfl) (by kernel_rfl) (by kernel_rfl)
 go_enter Tryz.func219,Tryz.ntmps219
 go_upto_region 35 with fail
 go_cut [98,99,100,101] (fun _ sv lv iv wx=>∃ cap,sv=.slice (some ⟨w.heap.size,0,none⟩) s.size cap/\lv=.int .i64 s.size/\iv=.int .i64 0/\Hid (∀ i (hi:i<s.size),wx.cell? ⟨w.heap.size,i,none⟩=some (.int .u8 s[i].toNat))/\Below w.heap.size w wx)
 case first =>
  go_wp2_with fail
  go_meet
  refine ⟨_,rfl,rfl,rfl,?_,?_⟩
  ·intro i hi
   show (w.alloc _).cell? _=_
   rw [World.cell?_alloc_mark]
   exact bytesRow_at s _ i hi
  ·exact ((Below.refl _ _).alloc (Nat.le_refl _) _).drew
 case rest =>
  obtain ⟨cap,rfl,rfl,rfl,HC,hb⟩:=hcut
  clear hcv
  go_wp2_with fail
  go_loop [12,13,101] (fun u n i=>∃ k:Nat,k<=s.size/\i=.int .i64 k/\u=.bool false/\n=.int .u64 (RS.hexN (s.toList.take k))/\Hid (RS.hexOk (s.toList.take k)=true)/\0<=RS.hexN (s.toList.take k)/\RS.hexN (s.toList.take k)<=4294967295) (fun _ _ i=>s.size - (intOf i).toNat)
  case atStart=>exact ⟨0,by omega,rfl,rfl,rfl,rfl,by show (0:Int)<=0;omega,by show (0:Int)<=4294967295;omega⟩
  case round =>
   obtain ⟨k,hk,rfl,rfl,rfl,hok,hn0,hn1⟩:=hrel
   by_cases hlt:k<s.size
   ·have hcell:=HC.out k hlt
    have hc256:s[k].toNat<256:=s[k].toNat_lt
    have hcs:(48<=s[k].toNat/\s[k].toNat<=57)\/(65<=s[k].toNat/\s[k].toNat<=70)\/(97<=s[k].toNat/\s[k].toNat<=102)\/(71<=s[k].toNat/\s[k].toNat<=90)\/(103<=s[k].toNat/\s[k].toNat<=122)\/s[k].toNat=95\/s[k].toNat<48\/(58<=s[k].toNat/\s[k].toNat<=64)\/(91<=s[k].toNat/\s[k].toNat<=94)\/(96<=s[k].toNat/\s[k].toNat<=96)\/123<=s[k].toNat:=by omega
    rcases hcs with ⟨h1,h2⟩ | ⟨h1,h2⟩ | ⟨h1,h2⟩ | ⟨h1,h2⟩ | ⟨h1,h2⟩ | h1 | h1 | ⟨h1,h2⟩ | ⟨h1,h2⟩ | ⟨h1,h2⟩ | h1
    ·have hdg:RS.dig s[k].toNat=some ((s[k].toNat:Int) - 48):=by unfold RS.dig;rw [if_pos ⟨h1,h2⟩]
     have hsn:Hid (s.toList.take (k+1)=s.toList.take k++[s[k]]):=take_snoc s k hlt
     have hN:Hid (RS.hexN (s.toList.take (k+1))=16 * RS.hexN (s.toList.take k)+((s[k].toNat:Int) - 48)):=by show _=_;rw [hsn.out,hexN_snoc,hdg]
     have hO:Hid (RS.hexOk (s.toList.take (k+1))=true):=by show _=_;rw [hsn.out,hexOk_snoc,hok.out,hdg];rfl
     clear hdg
     by_cases hfit:16 * RS.hexN (s.toList.take k)+((s[k].toNat:Int) - 48)<=4294967295
     ·go_wp2_with fail
      go_round
      case rel=>exact ⟨k+1,by omega,by go_num,rfl,by rw [hN.out];congr 1;omega,hO,by rw [hN.out];omega,by rw [hN.out];omega⟩
      case measure=>simp [intOf];omega
     ·have hlong:Hid (6<s.toList.length):=by
       show 6<s.toList.length
       rw [toList_length]
       rcases Nat.lt_or_ge k 6 with hk6 | hk6
       ·exfalso
        have:=(hexN_bd 6 (s.toList.take (k+1)) (by rw [List.length_take];omega)).2
        rw [hN.out] at this
        have e:(16:Int) ^ 6=16777216:=by decide
        omega
       ·omega
      go_wp2_with fail
      go_ret2
      exact ⟨Or.inr (Or.inr ⟨rfl,hlong.out⟩),hb⟩
    ·have hdg:RS.dig s[k].toNat=some ((s[k].toNat:Int) - 65+10):=by unfold RS.dig;rw [if_neg (by omega),if_neg (by omega),if_pos ⟨h1,h2⟩]
     have hsn:Hid (s.toList.take (k+1)=s.toList.take k++[s[k]]):=take_snoc s k hlt
     have hN:Hid (RS.hexN (s.toList.take (k+1))=16 * RS.hexN (s.toList.take k)+((s[k].toNat:Int) - 65+10)):=by show _=_;rw [hsn.out,hexN_snoc,hdg]
     have hO:Hid (RS.hexOk (s.toList.take (k+1))=true):=by show _=_;rw [hsn.out,hexOk_snoc,hok.out,hdg];rfl
     clear hdg
     by_cases hfit:16 * RS.hexN (s.toList.take k)+((s[k].toNat:Int) - 65+10)<=4294967295
     ·go_wp2_with (go_at_call 234;refine (lower_up _ _ (by omega) (by omega)).mono ?_;rintro e w' ⟨rfl,rfl⟩)
      go_round
      case rel=>exact ⟨k+1,by omega,by go_num,rfl,by rw [hN.out];congr 1;omega,hO,by rw [hN.out];omega,by rw [hN.out];omega⟩
      case measure=>simp [intOf];omega
     ·have hlong:Hid (6<s.toList.length):=by
       show 6<s.toList.length
       rw [toList_length]
       rcases Nat.lt_or_ge k 6 with hk6 | hk6
       ·exfalso
        have:=(hexN_bd 6 (s.toList.take (k+1)) (by rw [List.length_take];omega)).2
        rw [hN.out] at this
        have e:(16:Int) ^ 6=16777216:=by decide
        omega
       ·omega
      go_wp2_with (go_at_call 234;refine (lower_up _ _ (by omega) (by omega)).mono ?_;rintro e w' ⟨rfl,rfl⟩)
      go_ret2
      exact ⟨Or.inr (Or.inr ⟨rfl,hlong.out⟩),hb⟩
    ·have hdg:RS.dig s[k].toNat=some ((s[k].toNat:Int) - 97+10):=by unfold RS.dig;rw [if_neg (by omega),if_pos ⟨h1,h2⟩]
     have hsn:Hid (s.toList.take (k+1)=s.toList.take k++[s[k]]):=take_snoc s k hlt
     have hN:Hid (RS.hexN (s.toList.take (k+1))=16 * RS.hexN (s.toList.take k)+((s[k].toNat:Int) - 97+10)):=by show _=_;rw [hsn.out,hexN_snoc,hdg]
     have hO:Hid (RS.hexOk (s.toList.take (k+1))=true):=by show _=_;rw [hsn.out,hexOk_snoc,hok.out,hdg];rfl
     clear hdg
     by_cases hfit:16 * RS.hexN (s.toList.take k)+((s[k].toNat:Int) - 97+10)<=4294967295
     ·go_wp2_with (go_at_call 234;refine (lower_lo _ _ (by omega) (by omega)).mono ?_;rintro e w' ⟨rfl,rfl⟩)
      go_round
      case rel=>exact ⟨k+1,by omega,by go_num,rfl,by rw [hN.out];congr 1;omega,hO,by rw [hN.out];omega,by rw [hN.out];omega⟩
      case measure=>simp [intOf];omega
     ·have hlong:Hid (6<s.toList.length):=by
       show 6<s.toList.length
       rw [toList_length]
       rcases Nat.lt_or_ge k 6 with hk6 | hk6
       ·exfalso
        have:=(hexN_bd 6 (s.toList.take (k+1)) (by rw [List.length_take];omega)).2
        rw [hN.out] at this
        have e:(16:Int) ^ 6=16777216:=by decide
        omega
       ·omega
      go_wp2_with (go_at_call 234;refine (lower_lo _ _ (by omega) (by omega)).mono ?_;rintro e w' ⟨rfl,rfl⟩)
      go_ret2
      exact ⟨Or.inr (Or.inr ⟨rfl,hlong.out⟩),hb⟩
    ·have hdg:RS.dig s[k].toNat=none:=by unfold RS.dig;rw [if_neg (by omega),if_neg (by omega),if_neg (by omega)]
     have hno:Hid (RS.hexOk s.toList=false):=hexOk_not (mem_bytes s k hlt) hdg
     clear hdg
     go_wp2_with (go_at_call 234;refine (lower_up _ _ (by omega) (by omega)).mono ?_;rintro e w' ⟨rfl,rfl⟩)
     go_ret2
     exact ⟨Or.inr (Or.inl ⟨rfl,hno.out⟩),hb⟩
    ·have hdg:RS.dig s[k].toNat=none:=by unfold RS.dig;rw [if_neg (by omega),if_neg (by omega),if_neg (by omega)]
     have hno:Hid (RS.hexOk s.toList=false):=hexOk_not (mem_bytes s k hlt) hdg
     clear hdg
     go_wp2_with (go_at_call 234;refine (lower_lo _ _ (by omega) (by omega)).mono ?_;rintro e w' ⟨rfl,rfl⟩)
     go_ret2
     exact ⟨Or.inr (Or.inl ⟨rfl,hno.out⟩),hb⟩
    ·have hdg:RS.dig s[k].toNat=none:=by unfold RS.dig;rw [if_neg (by omega),if_neg (by omega),if_neg (by omega)]
     have hno:Hid (RS.hexOk s.toList=false):=hexOk_not (mem_bytes s k hlt) hdg
     clear hdg
     rw [h1] at hcell
     clear h1 hc256
     go_wp2_with (go_at_call 234;refine (lower_us _).mono ?_;rintro e w' ⟨rfl,rfl⟩)
     go_ret2
     exact ⟨Or.inr (Or.inl ⟨rfl,hno.out⟩),hb⟩
    all_goals
     have hdg:RS.dig s[k].toNat=none:=by unfold RS.dig;rw [if_neg (by omega),if_neg (by omega),if_neg (by omega)]
     have hno:Hid (RS.hexOk s.toList=false):=hexOk_not (mem_bytes s k hlt) hdg
     clear hdg
     obtain ⟨r,hr,hr2⟩:=low_no s[k] (by omega) (by omega)
     have HR:Hid (s[k].toNat ||| 32=r):=hr
     clear hr
     rcases hr2 with hr2 | hr2
    all_goals
     go_wp2_with (go_at_call 234;refine (lower_eq _ _ r HR.out).mono ?_;rintro e w' ⟨rfl,rfl⟩)
     go_ret2
     exact ⟨Or.inr (Or.inl ⟨rfl,hno.out⟩),hb⟩
   ·have hall:s.toList.take k=s.toList:=by rw [List.take_of_length_le (by rw [toList_length];omega)]
    rw [hall] at hok hn0 hn1 ⊢
    clear hall
    go_wp2_with fail
    go_ret2
    exact ⟨Or.inl ⟨rfl,hok.out,hn1⟩,hb⟩
end Go.Proofs.YtodagkkjfipbgaaGreatDoor
