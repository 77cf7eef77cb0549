import Derived.Test.YtodagkkjfipbgaaGreatDoorW4toU
import Derived.Test.YtodagkkjfipbgaaGreatDoorShlone
import Derived.Test.YtodagkkjfipbgaaGreatDoorK4toK6
namespace Go.Proofs.YtodagkkjfipbgaaGreatDoor
open Go.RowKit
theorem cell_lt {w:World} {b o:Nat} {v:Value} (h:w.cell? ⟨b,o,none⟩=some v):b<w.heap.size:=by
 rcases Nat.lt_or_ge b w.heap.size with h1 | h1
 ·exact h1
 ·exfalso
  have:w.heap[b]?=none:=Array.getElem?_eq_none h1
  simp [World.cell?,this] at h
def ErrsOk (w:World):Prop:=(∃ te pe,w.cell? ⟨6,0,none⟩=some (.iface te pe))/\(∃ te pe,w.cell? ⟨7,0,none⟩=some (.iface te pe))/\w.cell? ⟨0,0,none⟩=some (.int .i32 55296)/\w.cell? ⟨0,1,none⟩=some (.int .i32 57343)
theorem ErrsOk.on {w w':World} (h:ErrsOk w) (hb:∀ b o v,(b=6\/b=7\/b=0)->w.cell? ⟨b,o,none⟩=some v->w'.cell? ⟨b,o,none⟩=some v):ErrsOk w':=by
 obtain ⟨⟨t,p,h1⟩,⟨t',p',h2⟩,h3,h4⟩:=h
 exact ⟨⟨t,p,hb _ _ _ (Or.inl rfl) h1⟩,⟨t',p',hb _ _ _ (Or.inr (Or.inl rfl)) h2⟩,hb _ _ _ (Or.inr (Or.inr rfl)) h3,hb _ _ _ (Or.inr (Or.inr rfl)) h4⟩
theorem ErrsOk.below {w w':World} (h:ErrsOk w) (hb:Below w.heap.size w w'):ErrsOk w':=h.on fun b o _ _ hc=>(hb.cell (p:=⟨b,o,none⟩) (cell_lt hc)).trans hc
theorem toErr_syn (fn s:ByteArray) (base bits:Int) (w:World) (hl:s.size<=1000) (hE:ErrsOk w) :
  Calls Tryz.prog 220 #[.string fn,.string s,.int .i64 base,.int .i64 bits,.iface 368 (.int .i64 2)] w fun e w'=>(∃ t a,e=.returned (.iface t a))/\Below w.heap.size w w':=by
 obtain ⟨⟨te,pe,h1⟩,_⟩:=hE
 refine (AnyPu.strconv_toError_syntax Tryz.laysPu17 fn s base bits _ w (by omega) h1 (Or.inr ⟨_,_,rfl⟩)).mono ?_
 rintro e w' ⟨N,rfl,_,_,hb⟩
 exact ⟨⟨_,_,rfl⟩,hb⟩
theorem toErr_range (fn s:ByteArray) (base bits:Int) (w:World) (hl:s.size<=1000) (hE:ErrsOk w) :
  Calls Tryz.prog 220 #[.string fn,.string s,.int .i64 base,.int .i64 bits,.iface 368 (.int .i64 1)] w fun e w'=>(∃ t a,e=.returned (.iface t a))/\Below w.heap.size w w':=by
 obtain ⟨_,⟨te,pe,h1⟩,_⟩:=hE
 refine (AnyPu.strconv_toError_range Tryz.laysPu17 fn s base bits _ w (by omega) h1 (Or.inr ⟨_,_,rfl⟩)).mono ?_
 rintro e w' ⟨N,rfl,_,_,hb⟩
 exact ⟨⟨_,_,rfl⟩,hb⟩
def PUO (s:ByteArray) (e:Ending):Prop :=
 (e=.returned (.tuple #[.int .u64 (RS.hexN s.toList),.nilIface])/\RS.hexOk s.toList=true/\s.toList ≠ []/\RS.hexN s.toList<=4294967295) \/
 (∃ x t a,e=.returned (.tuple #[.int .u64 x,.iface t a])/\(x=0\/x=4294967295)/\(RS.hexOk s.toList=false\/s.toList=[]\/6<s.toList.length))
theorem parseIn_all (s:ByteArray) (w:World) (hl:s.size<=1000) :
  Calls Tryz.prog 219 #[.string s,.int .i64 16,.int .i64 32] w fun e w'=>((e=.returned (.tuple #[.int .u64 (RS.hexN s.toList),.nilIface])/\RS.hexOk s.toList=true/\s.toList ≠ []/\RS.hexN s.toList<=4294967295) \/
   (∃ x n,e=.returned (.tuple #[.int .u64 x,.iface 368 (.int .i64 n)])/\(n=1\/n=2)/\(x=0\/x=4294967295)/\(RS.hexOk s.toList=false\/s.toList=[]\/6<s.toList.length)))/\Below w.heap.size w w':=by
 cases hs:s.toList with
 | nil =>
  refine (parseIn_nil s w hs).mono ?_
  rintro e w' ⟨rfl,rfl⟩
  exact ⟨Or.inr ⟨0,2,rfl,Or.inr rfl,Or.inl rfl,Or.inr (Or.inl rfl)⟩,Below.refl _ _⟩
 | cons c l =>
  rw [<- hs]
  refine (parseIn_any s w (by rw [hs];rfl) hl).mono ?_
  rintro e w' ⟨hp,hb⟩
  refine ⟨?_,hb⟩
  rcases hp with ⟨rfl,h1,h2⟩ | ⟨rfl,h1⟩ | ⟨rfl,h1⟩
  ·exact Or.inl ⟨rfl,h1,by rw [hs];simp,h2⟩
  ·exact Or.inr ⟨_,_,rfl,Or.inr rfl,Or.inl rfl,Or.inl h1⟩
  ·exact Or.inr ⟨_,_,rfl,Or.inl rfl,Or.inr rfl,Or.inr (Or.inr h1)⟩
set_option maxHeartbeats 1000000 in
theorem parse_any (s:ByteArray) (w:World) (hl:s.size<=1000) (hE:ErrsOk w) :
  Calls Tryz.prog 203 #[.string s,.int .i64 16,.int .i64 32] w fun e w'=>PUO s e/\Below w.heap.size w w':=by
 have HE:Hid (ErrsOk w):=hE
 clear hE
 go_enter Tryz.func203,Tryz.ntmps203
 go_wp2_with fail
 refine (parseIn_all s _ hl).mono ?_
 rintro e1 w1 ⟨hp,hb⟩
 rcases hp with ⟨rfl,h1,h2,h3⟩ | ⟨x,n,rfl,hn,hx,hbad⟩
 ·have H1:Hid (RS.hexOk s.toList=true/\s.toList ≠ []/\RS.hexN s.toList<=4294967295):=⟨h1,h2,h3⟩
  clear h1 h2 h3
  go_wp2_with fail
  go_ret2
  exact ⟨Or.inl ⟨rfl,H1.out⟩,hb⟩
 ·have H1:Hid ((x=0\/x=4294967295)/\(RS.hexOk s.toList=false\/s.toList=[]\/6<s.toList.length)):=⟨hx,hbad⟩
  have H2:Hid (ErrsOk w1):=HE.out.below hb
  clear hx hbad
  rcases hn with rfl | rfl
  ·go_wp2_with fail
   refine (toErr_range _ s 16 32 _ hl H2.out).mono ?_
   rintro e2 w2 ⟨⟨t,a,rfl⟩,hb2⟩
   go_wp2_with fail
   go_ret2
   exact ⟨Or.inr ⟨x,t,a,rfl,H1.out⟩,hb.trans (hb2.mono hb.size)⟩
  ·go_wp2_with fail
   refine (toErr_syn _ s 16 32 _ hl H2.out).mono ?_
   rintro e2 w2 ⟨⟨t,a,rfl⟩,hb2⟩
   go_wp2_with fail
   go_ret2
   exact ⟨Or.inr ⟨x,t,a,rfl,H1.out⟩,hb.trans (hb2.mono hb.size)⟩
def hexErr (l:List UInt8):Int:=if 6<l.length\/RS.hexOk l=false\/l=[] then 2 else if 1114111<RS.hexN l then 5 else 0
def PS.hex (T:ByteArray) (s:PS):PS:=if hexErr (s.tk T)=0 then s.step T else s.fail T (hexErr (s.tk T))
theorem step_end (T:ByteArray) (s:PS) (h:s.p=T.size):s.step T=s:=by
 have h1:=nextp_le T s.p (by omega)
 unfold PS.step
 have:nextp T s.p=s.p:=by omega
 rw [this]
theorem tok_short (T:ByteArray) (p:Nat) (h:T.size<=1000):(tokp T p).size<=1000:=by
 unfold tokp;rw [ByteArray.size_extract];omega
theorem fail_twice (T:ByteArray) (s:PS) (a b:Int) (ha:a ≠ 0):(s.fail T a).fail T b=s.fail T a:=by
 unfold PS.fail PS.failAt pf pp
 by_cases h:s.f=0
 ·simp [h,ha]
 ·simp [h]
theorem ErrsOk.chg {b:Nat} {w w':World} (h:ErrsOk w) (hc:Chg (fun k=>k=b) w w') (hg:6<b/\7<b):ErrsOk w' :=
 h.on fun k o v hk hv=>by
  have:k ≠ b:=by rcases hk with rfl | rfl | rfl <;> omega
  exact (World.cell?_of_block (a:=⟨k,o,none⟩) (w:=w) (hc.block k (cell_lt hv) this)).trans hv
set_option maxRecDepth 100000 in
set_option maxHeartbeats 2000000 in
theorem hex_ps (b:Nat) (T:ByteArray) (vN vE vL:Value) (s:PS) (w:World) (h:RAt w b T vN vE vL s) (hE:ErrsOk w) :
  Calls Tryz.prog 172 #[.pointer (some ⟨b,0,none⟩)] w fun r w'=>(∃ x:Int,r=.returned (.int .i32 x)/\(hexErr (s.tk T)=0->x=RS.hexN (s.tk T)))/\RAt w' b T vN vE vL (s.hex T)/\Chg (fun k=>k=b) w w':=by
 have HH:Hid (RAt w b T vN vE vL s):=h
 have HE:Hid (ErrsOk w):=hE
 have hT:=h.short
 clear h hE
 go_enter Tryz.func172,Tryz.ntmps172
 go_wp2_with fail
 refine (now_ps b T vN vE vL s w HH.out).mono ?_
 rintro r w1 ⟨rfl,n,hw1⟩
 have b1:Below w.heap.size w w1:=by rw [hw1];exact bdrew (Below.refl _ _) n
 clear hw1
 have H1:Hid (RAt w1 b T vN vE vL s):=HH.out.later b1
 go_wp2_with fail
 refine (parse_any (tokp T s.p) w1 (tok_short T s.p hT) (HE.out.below b1)).mono ?_
 rintro r w2 ⟨hp,b2⟩
 have H2:Hid (RAt w2 b T vN vE vL s):=H1.out.later b2
 have C2:Hid (Chg (fun k=>k=b) w w2):=(Chg.of_below b1).trans (Chg.of_below b2)
 clear b1 b2 H1
 obtain ⟨l,hl⟩:∃ l,l=s.tk T:=⟨_,rfl⟩
 have hlen:l.length=(tokp T s.p).size:=by rw [hl];unfold PS.tk;rw [ByteArray.toList_eq];simp
 have hPU:∃ (x:Int) (ev:Value),r=.returned (.tuple #[.int .u64 x,ev])/\0<=x/\x<=4294967295/\((ev=.nilIface/\RS.hexOk l=true/\l ≠ []/\x=RS.hexN l)\/((∃ t a,ev=.iface t a)/\(x=0\/x=4294967295)/\(RS.hexOk l=false\/l=[]\/6<l.length))):=by
  rw [hl]
  rcases hp with ⟨rfl,h1,h2,h3⟩ | ⟨x,t,a,rfl,hx,hbad⟩
  ·exact ⟨_,_,rfl,(hexN_bd (tokp T s.p).toList.length (tokp T s.p).toList (Nat.le_refl _)).1,h3,Or.inl ⟨rfl,h1,h2,rfl⟩⟩
  ·exact ⟨x,_,rfl,by omega,by omega,Or.inr ⟨⟨t,a,rfl⟩,hx,hbad⟩⟩
 clear hp
 obtain ⟨x,ev,rfl,hx0,hx1,hcase⟩:=hPU
 have HCase:Hid ((ev=.nilIface/\RS.hexOk l=true/\l ≠ []/\x=RS.hexN l)\/((∃ t a,ev=.iface t a)/\(x=0\/x=4294967295)/\(RS.hexOk l=false\/l=[]\/6<l.length))):=hcase
 have HLEN:Hid (l.length=(tokp T s.p).size):=hlen
 have HLL:Hid (l=s.tk T):=hl
 clear hcase hlen hl
 obtain ⟨bd,hbd⟩:∃ bd:Bool,bd=decide (6<l.length\/RS.hexOk l=false\/l=[]):=⟨_,rfl⟩
 have HBD:Hid (bd=decide (6<l.length\/RS.hexOk l=false\/l=[])):=hbd
 clear hbd
 go_upto_region 2 with fail
 go_cut [4,18] (fun _ cv wx=>cv=.bool bd/\Hid (RAt wx b T vN vE vL s)/\Hid (Chg (fun k=>k=b) w wx))
 case first =>
  rcases HCase.out with ⟨rfl,h1,h2,h3⟩ | ⟨⟨t,a,rfl⟩,hx,hbad⟩
  ·have hb1:Hid (bd=decide (6<(tokp T s.p).size)):=by show _=_;rw [HBD.out,HLEN.out];simp [h1,h2]
   clear h1 h2 h3
   go_wp2_with fail
   refine (now_ps b T vN vE vL s w2 H2.out).mono ?_
   rintro r w3 ⟨rfl,n,hw3⟩
   have b3:Below w2.heap.size w2 w3:=by rw [hw3];exact bdrew (Below.refl _ _) n
   clear hw3
   go_wp2_with fail
   go_meet
   refine ⟨?_,H2.out.later b3,C2.out.trans (Chg.of_below b3)⟩
   rw [hb1.out]
   congr 1
   rw [Bool.eq_iff_iff];simp;omega
  ·have hb1:Hid (bd=true):=by show _=_;rw [HBD.out];simp;rcases hbad with h | h | h <;> simp [h]
   clear hx hbad
   go_wp2_with fail
   go_meet
   exact ⟨by rw [hb1.out],H2,C2⟩
 case rest =>
  obtain ⟨rfl,h3,c3⟩:=hcut
  obtain ⟨w3,hw3⟩:∃ w3,w3=wc:=⟨wc,rfl⟩
  subst hw3
  clear H2 C2
  obtain ⟨s3,hs3⟩:∃ s3,s3=if bd=true then s.fail T 2 else s:=⟨_,rfl⟩
  have HS3:Hid (s3=if bd=true then s.fail T 2 else s):=hs3
  clear hs3
  go_upto_if 18 with fail
  go_cut [] (fun wx=>Hid (RAt wx b T vN vE vL s3)/\Hid (Chg (fun k=>k=b) w wx))
  case first =>
   cases bd
   ·have e:Hid (s3=s):=by show _=_;rw [HS3.out];rfl
    go_wp2_with fail
    go_meet
    exact ⟨by rw [e.out];exact h3,c3⟩
   ·have e:Hid (s3=s.fail T 2):=by show _=_;rw [HS3.out];rfl
    go_wp2_with fail
    refine (fail_ps b T vN vE vL s 2 w3 h3.out).mono ?_
    rintro r w4 ⟨rfl,h4,c4⟩
    have H4:Hid (RAt w4 b T vN vE vL (s.fail T 2)):=h4
    clear h4
    go_wp2_with fail
    go_meet
    exact ⟨by rw [e.out];exact H4,c3.out.trans c4⟩
  case rest =>
   obtain ⟨h4,c4⟩:=hcut
   obtain ⟨w4,hw4⟩:∃ w4,w4=wc:=⟨wc,rfl⟩
   subst hw4
   clear h3 c3
   obtain ⟨s4,hs4⟩:∃ s4,s4=if 1114111<x then s3.fail T 5 else s3:=⟨_,rfl⟩
   have HS4:Hid (s4=if 1114111<x then s3.fail T 5 else s3):=hs4
   clear hs4
   go_upto_if 22 with fail
   go_cut [] (fun wx=>Hid (RAt wx b T vN vE vL s4)/\Hid (Chg (fun k=>k=b) w wx))
   case first =>
    by_cases h5:1114111<x
    ·have e:Hid (s4=s3.fail T 5):=by show _=_;rw [HS4.out,if_pos h5]
     go_wp2_with fail
     refine (fail_ps b T vN vE vL s3 5 w4 h4.out).mono ?_
     rintro r w5 ⟨rfl,h6,c5⟩
     have H6:Hid (RAt w5 b T vN vE vL (s3.fail T 5)):=h6
     clear h6
     go_wp2_with fail
     go_meet
     exact ⟨by rw [e.out];exact H6,c4.out.trans c5⟩
    ·have e:Hid (s4=s3):=by show _=_;rw [HS4.out,if_neg h5]
     go_wp2_with fail
     go_meet
     exact ⟨by rw [e.out];exact h4,c4⟩
   case rest =>
    obtain ⟨h5,c5⟩:=hcut
    obtain ⟨w5,hw5⟩:∃ w5,w5=wc:=⟨wc,rfl⟩
    subst hw5
    clear h4 c4
    have HFin:Hid (s4.step T=s.hex T/\(hexErr (s.tk T)=0->x=RS.hexN (s.tk T)/\x<=1114111)):=by
     have hb:=HBD.out
     have h3:=HS3.out
     have h4:=HS4.out
     have he:=HCase.out
     rw [HLL.out] at hb he
     constructor
     ·unfold PS.hex hexErr
      by_cases hbad:6<(s.tk T).length\/RS.hexOk (s.tk T)=false\/s.tk T=[]
      ·have hbt:bd=true:=by rw [hb];exact decide_eq_true hbad
       rw [hbt] at h3
       simp only [if_true] at h3
       have h4':s4=s.fail T 2:=by
        rw [h4];split
        ·rw [h3];exact fail_twice T s 2 5 (by decide)
        ·exact h3
       rw [if_pos hbad,h4',if_neg (by decide)]
       exact step_end T _ rfl
      ·have hbf:bd=false:=by rw [hb];exact decide_eq_false hbad
       rw [hbf] at h3
       simp only [Bool.false_eq_true,if_false] at h3
       have hx2:x=RS.hexN (s.tk T):=by
        rcases he with ⟨_,_,_,h⟩ | ⟨_,_,h⟩
        ·exact h
        ·exfalso;apply hbad;rcases h with h | h | h <;> simp [h]
       rw [if_neg hbad,<- hx2,h4,h3]
       by_cases h5:1114111<x
       ·rw [if_pos h5,if_pos h5,if_neg (by decide)];exact step_end T _ rfl
       ·rw [if_neg h5,if_neg h5,if_pos rfl]
     ·intro h0
      unfold hexErr at h0
      by_cases hbad:6<(s.tk T).length\/RS.hexOk (s.tk T)=false\/s.tk T=[]
      ·rw [if_pos hbad] at h0;omega
      ·rw [if_neg hbad] at h0
       rcases he with ⟨_,_,_,h⟩ | ⟨_,_,h⟩
       ·refine ⟨h,?_⟩
        by_cases h5:1114111<RS.hexN (s.tk T)
        ·rw [if_pos h5] at h0;omega
        ·omega
       ·exfalso;apply hbad;rcases h with h | h | h <;> simp [h]
    obtain ⟨y,hy⟩:∃ y,IntKind.i32.wrap x=y:=⟨_,rfl⟩
    have HY:Hid (y=IntKind.i32.wrap x):=hy.symm
    go_wp2_with fail
    refine (step_ps b T vN vE vL s4 w5 h5.out).mono ?_
    rintro r w6 ⟨rfl,h6,c6⟩
    rw [HFin.out.1] at h6
    have H6:Hid (RAt w6 b T vN vE vL (s.hex T)):=h6
    clear h6
    go_wp2_with fail
    go_ret
    refine ⟨⟨y,rfl,fun h0=>?_⟩,H6.out,c5.out.trans c6⟩
    have:=HFin.out.2 h0
    rw [HY.out,IntWalk.i32_in _ ⟨by omega,by omega⟩]
    exact this.1
def six:List ByteArray:=[wClass,wCut,wJoin,wAny,wOther,wBad]
def PS.nameA (T:ByteArray) (s:PS):PS:=if (wordp T s.p && !memL six (s.tk T))=true then s else s.fail T 2
def PS.nameB (T:ByteArray) (names:List ByteArray) (l:List UInt8) (s:PS):PS:=if 0<=clsIx names l then s.fail T 4 else s
def PS.newName (T:ByteArray) (names:List ByteArray) (s:PS):PS:=((s.nameA T).nameB T names (s.tk T)).step T
theorem pset_nm {w:World} {b:Nat} {T:ByteArray} {a e:Int} {vN vE vL:Value} {fault place:Int} (h:PBlk w b T a e vN vE vL fault place) (x:Value):PBlk (w.setCell ⟨b,3,none⟩ x) b T a e x vE vL fault place:=(block_setCell h 3 _).trans rfl
set_option maxRecDepth 100000 in
set_option maxHeartbeats 2000000 in
theorem newName_any (base b:Nat) (T:ByteArray) (names:List ByteArray) (vN vE vL:Value) (s:PS) (w:World) (h:RAt w b T vN vE vL s) (hN:w.ownsRow base 9 1 vN names.length (names.map .string)) (hl:names.length<=100) (hbase:base<=w.heap.size) :
  Calls Tryz.prog 129 #[.pointer (some ⟨b,0,none⟩)] w fun r w'=>r=.returned (.int .u8 names.length)/\∃ vN',RAt w' b T vN' vE vL (s.newName T names)/\w'.ownsRow base 9 1 vN' (names.length+1) ((names++[tokp T s.p]).map .string)/\Chg (fun k=>k=b\/vN.ownBlock=some k) w w':=by
 have HH:Hid (RAt w b T vN vE vL s):=h
 have HN:Hid (w.ownsRow base 9 1 vN names.length (names.map .string)):=hN
 clear h hN
 go_enter Tryz.func129,Tryz.ntmps129
 go_wp2_with fail
 refine (now_ps b T vN vE vL s w HH.out).mono ?_
 rintro r w1 ⟨rfl,n,hw1⟩
 have b1:Below w.heap.size w w1:=by rw [hw1];exact bdrew (Below.refl _ _) n
 clear hw1
 have H1:Hid (RAt w1 b T vN vE vL s):=HH.out.later b1
 obtain ⟨x,hx⟩:∃ x,x=tokp T s.p:=⟨_,rfl⟩
 rw [<- hx]
 have HX:Hid (x=tokp T s.p):=hx
 clear hx
 go_wp2_with fail
 refine (isWordBut_new b T vN vE vL s six w1 H1.out (by decide) (by decide)).mono ?_
 rintro r w2 ⟨rfl,b2⟩
 have H2:Hid (RAt w2 b T vN vE vL s):=H1.out.later b2
 have C2:Hid (Chg (fun k=>k=b) w w2):=(Chg.of_below b1).trans (Chg.of_below b2)
 clear H1 b1 b2
 obtain ⟨bw,hbw⟩:∃ bw,bw=(wordp T s.p && !memL six (s.tk T)):=⟨_,rfl⟩
 rw [<- hbw]
 have HBW:Hid (bw=(wordp T s.p && !memL six (s.tk T))):=hbw
 clear hbw
 go_upto_if 11 with fail
 go_cut [] (fun wx=>Hid (RAt wx b T vN vE vL (s.nameA T))/\Hid (Chg (fun k=>k=b) w wx))
 case first =>
  cases hm:bw
  ·have e:Hid (s.nameA T=s.fail T 2):=by show _=_;unfold PS.nameA;rw [<- HBW.out,hm];rfl
   go_wp2_with fail
   refine (fail_ps b T vN vE vL s 2 w2 H2.out).mono ?_
   rintro r w3 ⟨rfl,h3,c3⟩
   have H3:Hid (RAt w3 b T vN vE vL (s.fail T 2)):=h3
   clear h3
   go_wp2_with fail
   go_meet
   exact ⟨by rw [e.out];exact H3,C2.out.trans c3⟩
  ·have e:Hid (s.nameA T=s):=by show _=_;unfold PS.nameA;rw [<- HBW.out,hm];rfl
   go_wp2_with fail
   go_meet
   exact ⟨by rw [e.out];exact H2,C2⟩
 case rest =>
  obtain ⟨h3,c3⟩:=hcut
  obtain ⟨w3,hw3⟩:∃ w3,w3=wc:=⟨wc,rfl⟩
  subst hw3
  clear H2 C2
  have N3:Hid (w3.ownsRow base 9 1 vN names.length (names.map .string)):=row_kp HN.out (Kp.chg1 HH.out.blk c3.out (by decide))
  go_wp2_with fail
  refine (kindOf_any b base T (s.nameA T).p vN vE vL (s.nameA T).f (s.nameA T).pl names x w3 h3.out.blk N3.out hl).mono ?_
  rintro r w4 ⟨rfl,hw4⟩
  subst hw4
  obtain ⟨kn,hkn⟩:∃ kn,kn=decide (0<=clsIx names x.toList):=⟨_,rfl⟩
  rw [<- hkn]
  obtain ⟨mx,hmx⟩:∃ mx,mx=max (clsIx names x.toList) 0:=⟨_,rfl⟩
  rw [<- hmx]
  have HKN:Hid (kn=decide (0<=clsIx names (s.tk T))):=by show _=_;rw [hkn,HX.out];rfl
  clear hkn hmx
  obtain ⟨s4,hs4⟩:∃ s4,s4=(s.nameA T).nameB T names (s.tk T):=⟨_,rfl⟩
  have HS4:Hid (s4=(s.nameA T).nameB T names (s.tk T)):=hs4
  clear hs4
  go_upto_if 20 with fail
  go_cut [4,5] (fun _ _ wx=>Hid (RAt wx b T vN vE vL s4)/\Hid (Chg (fun k=>k=b) w wx))
  case first =>
   cases hk:kn
   ·have e:Hid (s4=s.nameA T):=by show _=_;rw [HS4.out];unfold PS.nameB;rw [if_neg (by have:=HKN.out;rw [hk] at this;simpa using this.symm)]
    go_wp2_with fail
    go_meet
    exact ⟨by rw [e.out];exact h3,c3⟩
   ·have e:Hid (s4=(s.nameA T).fail T 4):=by show _=_;rw [HS4.out];unfold PS.nameB;rw [if_pos (by have:=HKN.out;rw [hk] at this;simpa using this.symm)]
    go_wp2_with fail
    refine (fail_ps b T vN vE vL (s.nameA T) 4 w4 h3.out).mono ?_
    rintro r w5 ⟨rfl,h5,c5⟩
    have H5:Hid (RAt w5 b T vN vE vL ((s.nameA T).fail T 4)):=h5
    clear h5
    go_wp2_with fail
    go_meet
    exact ⟨by rw [e.out];exact H5,c3.out.trans c5⟩
  case rest =>
   obtain ⟨h5,c5⟩:=hcut
   obtain ⟨w5,hw5⟩:∃ w5,w5=wc:=⟨wc,rfl⟩
   subst hw5
   have N5:Hid (w5.ownsRow base 9 1 vN names.length (names.map .string)):=row_kp HN.out (Kp.chg1 HH.out.blk c5.out (by decide))
   obtain ⟨ao,cap,rfl⟩:=row_shape HN.out
   have d3:=(pcells h5.out.blk).2.2.2.1
   clear h3 c3 N3
   go_upto_region 8 with (at_builtin;go_loud (refine wpList_push2 rfl (.tmp 27) (.tmp 29) 30 rfl base 9 (.string ⟨#[]⟩) 1 16 Tryz.infoStr Tryz.undStr rfl (by decide) (.slice ao names.length cap) names.length (names.map .string) rfl (by exact N5.out.alloc _) w5.heap.size 1 [.string x] rfl rfl (by exact cell_new1 w5 (.string x) _) (by intro u hu;simp at hu;subst hu;rfl) (by omega) (by omega) (Nat.le_trans hbase (Nat.le_trans c5.out.size (below_alloc w5 _).size)) ?_);intro v' w6 hown hg hsn;obtain ⟨ao',cap',rfl⟩:=row_shape hown;have hbl:=kept_grown h5.out.blk ((Kp.refl _ w5).alloc _) (N5.out.alloc _) hg (by decide);have e3:=(pcells hbl).2.2.2.1;have ef:=free_of_block hbl)
   have h6:RAt (w6.setCell ⟨b,3,none⟩ (.slice ao' (names.length+1) cap')) b T (.slice ao' (names.length+1) cap') vE vL s4:=⟨pset_nm hbl _,h5.out.le,h5.out.short⟩
   have N6:Hid ((w6.setCell ⟨b,3,none⟩ (.slice ao' (names.length+1) cap')).ownsRow base 9 1 (.slice ao' (names.length+1) cap') (names.length+1) (names.map .string++[.string x])):=row_kp hown ((Kp.refl _ _).setCell hbl (by decide) _)
   have C6:Hid (Chg (fun k=>k=b\/Value.ownBlock (.slice ao names.length cap)=some k) w (w6.setCell ⟨b,3,none⟩ (.slice ao' (names.length+1) cap'))):=by
    have c1:Chg (fun k=>k=b\/Value.ownBlock (.slice ao names.length cap)=some k) w (w5.alloc (.cells #[.string x] 9)):=(c5.out.mono fun _ _ e=>Or.inl e).alloc _
    exact (c1.grown hg fun k e=>Or.inr (Or.inr e)).setCell (q:=⟨b,3,none⟩) (Or.inr (Or.inl rfl)) _
   clear hown hg hsn hbl e3 ef d3
   go_wp2_with fail
   refine (step_ps b T (.slice ao' (names.length+1) cap') vE vL s4 _ h6).mono ?_
   rintro r w7 ⟨rfl,h7,c7⟩
   have H7:Hid (RAt w7 b T (.slice ao' (names.length+1) cap') vE vL (s4.step T)):=h7
   have i3:=(pcells h7.blk).2.2.2.1
   have N7:Hid (w7.ownsRow base 9 1 (.slice ao' (names.length+1) cap') (names.length+1) (names.map .string++[.string x])):=row_kp N6.out (Kp.chg1 h6.blk c7 (by decide))
   have C7:Hid (Chg (fun k=>k=b\/Value.ownBlock (.slice ao names.length cap)=some k) w w7):=C6.out.trans (c7.mono fun _ _ e=>Or.inl e)
   clear h7 h6 c7 N6 C6
   go_wp2_with fail
   go_ret
   refine ⟨ret_int (by omega),_,by rw [show s.newName T names=s4.step T from by unfold PS.newName;rw [HS4.out]];exact H7.out,?_,C7.out⟩
   rw [List.map_append,<- HX.out];exact N7.out
theorem pset_en4 {w:World} {b:Nat} {T:ByteArray} {a e:Int} {vN vE vL:Value} {fault place:Int} (h:PBlk w b T a e vN vE vL fault place) (x:Value):PBlk (w.setCell ⟨b,4,none⟩ x) b T a e vN x vL fault place:=(block_setCell h 4 _).trans rfl
structure AddOk (base:Nat) (TR:World->Value->List (Int × Int × Nat)->Prop):Prop where
 nil:∀ w,TR w (.slice none 0 0) []
 shape:∀ w v l,TR w v l->∃ ao n cap,v=.slice ao n cap
 keep:∀ w w' v l,TR w v l->Kp 173 w w'->TR w' v l
 type:∀ w v l k,TR w v l->v.ownBlock=some k->∃ cs,w.heap[k]?=some (.cells cs 173 (0,0))
 low:∀ w v l k,TR w v l->v.ownBlock=some k->base<=k
 add:∀ (b:Nat) (T:ByteArray) (vN vE vL:Value) (s:PS) (l:List (Int × Int × Nat)) (x y:Int) (k:Nat) (w:World),RAt w b T vN vE vL s->ErrsOk w->TR w vE l->l.length<=2000->k<256->base<=w.heap.size ->
  Calls Tryz.prog 173 #[.pointer (some ⟨b,4,none⟩),.agg #[.int .i32 x,.int .i32 y],.int .u8 k] w fun r w'=>r=.returned (.bool (!RS.badSpan x y (l.map fun o=>(o.1,o.2.1,(o.2.2:Int))))) /\
   ∃ vE',RAt w' b T vN vE' vL s/\TR w' vE' (if RS.badSpan x y (l.map fun o=>(o.1,o.2.1,(o.2.2:Int)))=true then l else l++[(x,y,k)])/\Chg (fun k=>k=b\/vE.ownBlock=some k) w w'
def PS.dash (T:ByteArray) (s:PS):Bool:=memL [sgn 45] ((s.hex T).tk T)
def PS.spanTo (T:ByteArray) (s:PS):PS:=if s.dash T=true then ((s.hex T).step T).hex T else s.hex T
def PS.spanAt (T:ByteArray) (s:PS):Int:=if s.dash T=true then ((s.hex T).step T).p else s.p
def PS.spanX (T:ByteArray) (s:PS):Int:=RS.hexN (s.tk T)
def PS.spanY (T:ByteArray) (s:PS):Int:=if s.dash T=true then RS.hexN (((s.hex T).step T).tk T) else RS.hexN (s.tk T)
def spI (l:List (Int × Int × Nat)):List (Int × Int × Int):=l.map fun o=>(o.1,o.2.1,(o.2.2:Int))
def PS.span (T:ByteArray) (l:List (Int × Int × Nat)) (s:PS):PS :=
 if (s.spanTo T).f ≠ 0 then s.spanTo T else if RS.badSpan (s.spanX T) (s.spanY T) (spI l)=true then (s.spanTo T).failAt T 5 (s.spanAt T) else s.spanTo T
def Fz (T:ByteArray) (s:PS):Prop:=s.f ≠ 0->s.p=T.size
theorem Fz.fail {T:ByteArray} (s:PS) (no at_:Int):Fz T (s.failAt T no at_):=fun _=>rfl
theorem Fz.step {T:ByteArray} {s:PS} (h:Fz T s) (_:s.p<=T.size):Fz T (s.step T):=fun e=>by
 have h1:s.p=T.size:=h e
 rw [step_end T s h1];exact h1
theorem Fz.hex {T:ByteArray} {s:PS} (h:Fz T s) (hp:s.p<=T.size):Fz T (s.hex T):=by
 unfold PS.hex
 split
 ·exact h.step hp
 ·exact Fz.fail s _ _
theorem hex_f {T:ByteArray} {s:PS} (h0:(s.hex T).f=0):s.f=0/\hexErr (s.tk T)=0:=by
 unfold PS.hex at h0
 by_cases e:hexErr (s.tk T)=0
 ·rw [if_pos e] at h0
  exact ⟨h0,e⟩
 ·rw [if_neg e] at h0
  exfalso
  unfold PS.fail PS.failAt pf at h0
  simp only at h0
  by_cases hf:s.f=0
  ·rw [if_pos hf] at h0;exact e h0
  ·rw [if_neg hf] at h0;exact hf h0
theorem failAt_same {T:ByteArray} {s:PS} (h:s.f ≠ 0) (hp:s.p=T.size) (no at_:Int):s.failAt T no at_=s:=by
 unfold PS.failAt pf pp
 rw [if_neg h,if_neg h,<- hp]
theorem hex_p {T:ByteArray} {s:PS} (hp:s.p<=T.size):s.p<=(s.hex T).p/\(s.hex T).p<=T.size/\(s.p<T.size->s.p<(s.hex T).p):=by
 unfold PS.hex
 split
 ·have:=nextp_le T s.p hp;exact ⟨this.2.1,this.1,this.2.2⟩
 ·exact ⟨hp,Nat.le_refl _,fun h=>h⟩
set_option maxRecDepth 100000 in
set_option maxHeartbeats 2000000 in
theorem span_any (TR:World->Value->List (Int × Int × Nat)->Prop) (base:Nat) (hTR:AddOk base TR) (b:Nat) (T:ByteArray) (vN vE vL:Value) (s:PS) (l:List (Int × Int × Nat)) (k:Nat) (w:World) (h:RAt w b T vN vE vL s) (hE:ErrsOk w) (hg:6<b/\7<b) (ht:TR w vE l) (hl:l.length<=2000) (hk:k<256) (hz:Fz T s) (hbase:base<=w.heap.size) :
  Calls Tryz.prog 130 #[.pointer (some ⟨b,0,none⟩),.int .u8 k] w fun r w'=>r=.returned (.tuple #[])/\∃ vE' l',RAt w' b T vN vE' vL (s.span T l)/\TR w' vE' l'/\l'.length<=l.length+1/\((s.span T l).f=0->l'=l++[(s.spanX T,s.spanY T,k)])/\Chg (fun k=>k=b\/vE.ownBlock=some k) w w':=by
 have HH:Hid (RAt w b T vN vE vL s):=h
 have HE:Hid (ErrsOk w):=hE
 have HT:Hid (TR w vE l):=ht
 have HZ:Hid (Fz T s):=hz
 have c1:=(pcells h.blk).2.1
 clear h hE ht hz
 go_enter Tryz.func130,Tryz.ntmps130
 go_wp2_with fail
 refine (hex_ps b T vN vE vL s w HH.out HE.out).mono ?_
 rintro r w1 ⟨⟨x,rfl,hx⟩,h1,c1'⟩
 have H1:Hid (RAt w1 b T vN vE vL (s.hex T)):=h1
 have HX:Hid (hexErr (s.tk T)=0->x=RS.hexN (s.tk T)):=hx
 have C1:Hid (Chg (fun k=>k=b) w w1):=c1'
 have E1:Hid (ErrsOk w1):=HE.out.chg c1' ⟨by omega,by omega⟩
 clear h1 hx c1' c1
 go_wp2_with fail
 refine (take_new b T vN vE vL (s.hex T) [sgn 45] w1 H1.out (by decide) (by decide)).mono ?_
 rintro r w2 ⟨rfl,h2,c2⟩
 have C2:Hid (Chg (fun k=>k=b) w w2):=C1.out.trans c2
 have E2:Hid (ErrsOk w2):=E1.out.chg c2 ⟨by omega,by omega⟩
 obtain ⟨st,hst⟩:∃ st,st=takenOf T [sgn 45] (s.hex T).p:=⟨_,rfl⟩
 rw [<- hst]
 obtain ⟨be,hbe⟩:∃ be,st.toList.isEmpty=be:=⟨_,rfl⟩
 obtain ⟨s2,hs2⟩:∃ s2,s2=(s.hex T).take T [sgn 45]:=⟨_,rfl⟩
 rw [<- hs2] at h2
 have H2:Hid (RAt w2 b T vN vE vL s2):=h2
 have HD:Hid ((s.dash T=true/\be=false/\s2=(s.hex T).step T)\/(s.dash T=false/\be=true/\s2=s.hex T)):=by
  show _\/_
  rw [<- hbe]
  cases hm:memL [sgn 45] ((s.hex T).tk T)
  ·right
   refine ⟨hm,?_,?_⟩
   ·rw [hst];unfold takenOf;rw [show memL _ (tokp T (s.hex T).p).toList=false from hm,if_neg (by simp),ByteArray.toList_eq];rfl
   ·rw [hs2];unfold PS.take;rw [hm];rfl
  ·left
   refine ⟨hm,?_,?_⟩
   ·rw [hst];unfold takenOf;rw [show memL _ (tokp T (s.hex T).p).toList=true from hm]
    simp only [if_true]
    rw [memL_sgn] at hm
    rw [decide_eq_true_eq] at hm
    rw [show (tokp T (s.hex T).p).toList=[45] from hm];rfl
   ·rw [hs2];unfold PS.take;rw [hm];rfl
 clear hst hs2 h2 c2 H1 E1 C1
 go_upto_if 17 with fail
 go_cut [4,6] (fun av yv wx=>∃ y:Int,av=.int .i64 (s.spanAt T)/\yv=.int .i32 y/\Hid (RAt wx b T vN vE vL (s.spanTo T))/\Hid (Chg (fun k=>k=b) w wx)/\Hid ((s.spanTo T).f=0->x=s.spanX T/\y=s.spanY T))
 case first =>
  rcases HD.out with ⟨hd,rfl,e2⟩ | ⟨hd,rfl,e2⟩
  ·have e3:Hid (s.spanTo T=s2.hex T):=by show _=_;unfold PS.spanTo;rw [hd,e2];rfl
   have e4:Hid (s.spanAt T=s2.p):=by show _=_;unfold PS.spanAt;rw [hd,e2];rfl
   have e5:Hid (s.spanY T=RS.hexN (s2.tk T)):=by show _=_;unfold PS.spanY;rw [hd,e2];rfl
   have E2':Hid (s2=(s.hex T).step T):=e2
   have d1:=(pcells H2.out.blk).2.1
   clear hd e2
   go_wp2_with fail
   refine (hex_ps b T vN vE vL s2 w2 H2.out E2.out).mono ?_
   rintro r w3 ⟨⟨y,rfl,hy⟩,h3,c3⟩
   have H3:Hid (RAt w3 b T vN vE vL (s2.hex T)):=h3
   have HY:Hid (hexErr (s2.tk T)=0->y=RS.hexN (s2.tk T)):=hy
   clear h3 hy
   go_wp2_with fail
   go_meet
   refine ⟨y,by rw [e4.out],rfl,by rw [e3.out];exact H3,C2.out.trans c3,?_⟩
   rw [e3.out,e5.out]
   intro h0
   have hle:=HH.out.le
   have z1:=HZ.out.hex hle
   have z2:Fz T s2:=by rw [E2'.out];exact z1.step (hex_p hle).2.1
   have q:=hex_f h0
   have q1:(s.hex T).f=0:=by have:=q.1;rw [E2'.out] at this;exact this
   exact ⟨HX.out (hex_f q1).2,HY.out q.2⟩
  ·have e3:Hid (s.spanTo T=s.hex T):=by show _=_;unfold PS.spanTo;rw [hd];rfl
   have e4:Hid (s.spanAt T=s.p):=by show _=_;unfold PS.spanAt;rw [hd];rfl
   have e5:Hid (s.spanY T=RS.hexN (s.tk T)):=by show _=_;unfold PS.spanY;rw [hd];rfl
   have E2':Hid (s2=s.hex T):=e2
   clear hd e2
   go_wp2_with fail
   go_meet
   refine ⟨x,by rw [e4.out],rfl,by rw [e3.out,<- E2'.out];exact H2,C2,?_⟩
   rw [e3.out,e5.out]
   intro h0
   have:=HX.out (hex_f h0).2
   exact ⟨this,this⟩
 case rest =>
  obtain ⟨y,rfl,rfl,h3,c3,hxy⟩:=hcut
  obtain ⟨w3,hw3⟩:∃ w3,w3=wc:=⟨wc,rfl⟩
  subst hw3
  have T3:Hid (TR w3 vE l):=hTR.keep _ _ _ _ HT.out (Kp.chg1 HH.out.blk c3.out (by decide))
  clear H2 C2 E2 HD
  obtain ⟨bs,hbs⟩:∃ bs,bs=RS.badSpan x y (spI l):=⟨_,rfl⟩
  have HBS:Hid (bs=RS.badSpan x y (spI l)):=hbs
  have HA:=hTR.add b T vN vE vL (s.spanTo T) l x y k w3 h3.out (HE.out.chg c3.out ⟨by omega,by omega⟩) T3.out hl hk (Nat.le_trans hbase c3.out.size)
  rw [show (l.map fun o=>(o.1,o.2.1,(o.2.2:Int)))=spI l from rfl,<- hbs] at HA
  have HA':Hid (Calls Tryz.prog 173 #[.pointer (some ⟨b,4,none⟩),.agg #[.int .i32 x,.int .i32 y],.int .u8 k] w3 fun r w'=>r=.returned (.bool (!bs))/\∃ vE',RAt w' b T vN vE' vL (s.spanTo T)/\TR w' vE' (if bs=true then l else l++[(x,y,k)])/\Chg (fun k=>k=b\/vE.ownBlock=some k) w3 w'):=HA
  clear HA hbs
  go_wp2_with fail
  refine HA'.out.mono ?_
  rintro r w4 ⟨rfl,vE',h4,t4,c4⟩
  have H4:Hid (RAt w4 b T vN vE' vL (s.spanTo T)):=h4
  have T4:Hid (TR w4 vE' (if bs=true then l else l++[(x,y,k)])):=t4
  have C4:Hid (Chg (fun k=>k=b\/vE.ownBlock=some k) w w4):=(c3.out.mono fun _ _ e=>Or.inl e).trans c4
  have hbE:Hid (∀ cs m,w4.heap[b]?=some (.cells cs 141 m)->True):=fun _ _ _=>trivial
  clear h4 t4 c4 HA'
  cases hb:bs
  ·have e:Hid (s.span T l=s.spanTo T):=by
    show _=_
    unfold PS.span
    split
    ·rfl
    ·rename_i h0
     have h0':(s.spanTo T).f=0:=by simpa using h0
     have:=hxy.out h0'
     rw [if_neg (by rw [<- this.1,<- this.2,<- HBS.out,hb];simp)]
   rw [hb] at T4
   go_wp2_with fail
   go_end0
   refine ⟨rfl,vE',_,by rw [e.out];exact H4.out,T4.out,by simp,fun h0=>?_,C4.out⟩
   rw [e.out] at h0
   have:=hxy.out h0
   simp [this.1,this.2]
  ·have e:Hid (s.span T l=(s.spanTo T).failAt T 5 (s.spanAt T)):=by
    show _=_
    unfold PS.span
    split
    ·rename_i h0
     have hle:=HH.out.le
     have z1:=HZ.out.hex hle
     have z2:Fz T (s.spanTo T):=by
      unfold PS.spanTo;split
      ·exact (z1.step (hex_p hle).2.1).hex (nextp_le T _ (hex_p hle).2.1).1
      ·exact z1
     exact (failAt_same h0 (z2 h0) _ _).symm
    ·rename_i h0
     have h0':(s.spanTo T).f=0:=by simpa using h0
     have:=hxy.out h0'
     rw [if_pos (by rw [<- this.1,<- this.2,<- HBS.out,hb])]
   rw [hb] at T4
   go_wp2_with fail
   refine (failAt_ps b T vN vE' vL (s.spanTo T) 5 (s.spanAt T) w4 H4.out).mono ?_
   rintro r w5 ⟨rfl,h5,c5⟩
   have H5:Hid (RAt w5 b T vN vE' vL ((s.spanTo T).failAt T 5 (s.spanAt T))):=h5
   clear h5
   go_wp2_with fail
   go_end0
   refine ⟨rfl,vE',l,by rw [e.out];exact H5.out,hTR.keep _ _ _ _ (by simpa using T4.out) (Kp.chg1 H4.out.blk c5 (by decide)),by omega,fun h0=>?_,C4.out.trans (c5.mono fun _ _ e=>Or.inl e)⟩
   exfalso
   rw [e.out] at h0
   unfold PS.failAt pf at h0
   simp only at h0
   split at h0
   ·omega
   ·rename_i hne;exact hne h0
theorem Tryz.infoEnt:(Tryz.prog.info? 173).map (fun i=>(i.zero,i.size,i.bytes))=some (some (.agg #[.int .i32 0,.int .i32 0,.int .u8 0]),3,12):=by kernel_rfl
theorem Tryz.undEnt:Tryz.prog.underlying 79=some (.slice 173):=by kernel_rfl
def entCells (l:List (Int × Int × Nat)):List Value:=l.flatMap fun o=>[.int .i32 o.1,.int .i32 o.2.1,.int .u8 o.2.2]
theorem entCells_at (l:List (Int × Int × Nat)) (i:Nat) (h:i<l.length) :
  (entCells l)[i * 3]?=some (.int .i32 l[i].1)/\(entCells l)[i * 3+1]?=some (.int .i32 l[i].2.1)/\(entCells l)[i * 3+2]?=some (.int .u8 l[i].2.2):=by
 induction l generalizing i with
 | nil=>simp at h
 | cons a r ih =>
  cases i with
  | zero=>simp [entCells]
  | succ i =>
   have:=ih i (by simpa using h)
   have e:∀ k,(entCells (a :: r))[(i+1) * 3+k]?=(entCells r)[i * 3+k]?:=by
    intro k;rw [show (i+1) * 3+k=(i * 3+k)+3 from by omega];rfl
   have e0:=e 0;have e1:=e 1;have e2:=e 2
   simp only [Nat.add_zero] at e0
   rw [e0,e1,e2];simpa using this
def TRe (base:Nat) (w:World) (v:Value) (l:List (Int × Int × Nat)):Prop:=w.ownsRow base 173 3 v l.length (entCells l)
theorem entRow_form {w:World} {base:Nat} {v:Value} {l:List (Int × Int × Nat)} (h:TRe base w v l) :
  ∃ ao cap,v=.slice ao l.length cap/\∀ i (hi:i<l.length),∃ g,ao=some ⟨g,0,none⟩/\g<w.heap.size/\w.cell? ⟨g,i * 3,none⟩=some (.int .i32 l[i].1)/\w.cell? ⟨g,i * 3+1,none⟩=some (.int .i32 l[i].2.1)/\w.cell? ⟨g,i * 3+2,none⟩=some (.int .u8 l[i].2.2):=by
 obtain ⟨h2,h3⟩:=h
 rcases h3 with ⟨hv,hn⟩ | ⟨g,cap,cur,hv,hg,hh,hcap,hmx,hsz,hcur⟩
 ·exact ⟨none,0,by rw [hv,hn],fun i hi=>by omega⟩
 ·refine ⟨some ⟨g,0,none⟩,cap,hv,fun i hi=>⟨g,rfl,heap_lt hh,?_⟩⟩
  have hc:=entCells_at l i hi
  rw [<- hcur,List.getElem?_take,List.getElem?_take,List.getElem?_take,if_pos (by omega),if_pos (by omega),if_pos (by omega)] at hc
  exact ⟨cell_of_block hh _ _ (by simpa using hc.1),cell_of_block hh _ _ (by simpa using hc.2.1),cell_of_block hh _ _ (by simpa using hc.2.2)⟩
def meet1 (a b c d:Int):Bool:=decide (a<=d) && decide (c<=b)
set_option maxHeartbeats 1000000 in
theorem meets_any (a b c d:Int) (w:World) :
  Calls Tryz.prog 204 #[.agg #[.int .i32 a,.int .i32 b],.agg #[.int .i32 c,.int .i32 d]] w fun r w'=>r=.returned (.bool (meet1 a b c d))/\Below w.heap.size w w':=by
 by_cases h:a<=d
 ·have e:Hid (meet1 a b c d=decide (c<=b)):=by show _=_;unfold meet1;simp [h]
  rw [e.out]
  go_enter Tryz.func204,Tryz.ntmps204
  go_wp2
  go_ret
  exact ⟨rfl,(below_alloc w _).trans ((below_alloc _ _).mono (by simp))⟩
 ·have e:Hid (meet1 a b c d=false):=by show _=_;unfold meet1;simp [h]
  rw [e.out]
  go_enter Tryz.func204,Tryz.ntmps204
  go_wp2
  go_ret
  exact ⟨rfl,(below_alloc w _).trans ((below_alloc _ _).mono (by simp))⟩
def cmp3 (a b:Int):Int:=if a<b then -1 else if b<a then 1 else 0
set_option maxHeartbeats 1000000 in
theorem cmpR_any (a b:Int) (w:World):Calls Tryz.prog 215 #[.int .i32 a,.int .i32 b] w fun r w'=>r=.returned (.int .i64 (cmp3 a b))/\w'=w:=by
 by_cases h1:a<b
 ·have e:Hid (cmp3 a b=-1):=by show _=_;unfold cmp3;rw [if_pos h1]
  rw [e.out]
  go_enter Tryz.func215,Tryz.ntmps215
  go_wp2
  go_ret
  exact ⟨rfl,rfl⟩
 ·by_cases h2:b<a
  ·have e:Hid (cmp3 a b=1):=by show _=_;unfold cmp3;rw [if_neg h1,if_pos h2]
   rw [e.out]
   go_enter Tryz.func215,Tryz.ntmps215
   go_wp2
   go_ret
   exact ⟨rfl,rfl⟩
  ·have e:Hid (cmp3 a b=0):=by show _=_;unfold cmp3;rw [if_neg h1,if_neg h2]
   rw [e.out]
   go_enter Tryz.func215,Tryz.ntmps215
   go_wp2
   go_ret
   exact ⟨rfl,rfl⟩
set_option maxHeartbeats 1000000 in
theorem endsC_any (a b:Int) (k:Nat) (c:Int) (w:World) :
  Calls Tryz.prog 214 #[.agg #[.int .i32 a,.int .i32 b,.int .u8 k],.int .i32 c] w fun r w'=>r=.returned (.int .i64 (cmp3 b c))/\Below w.heap.size w w':=by
 go_enter Tryz.func214,Tryz.ntmps214
 go_wp2_with fail
 refine (cmpR_any b c _).mono ?_
 rintro r w1 ⟨rfl,rfl⟩
 go_wp2_with fail
 go_ret
 exact ⟨rfl,below_alloc w _⟩
theorem results_tt {P:Program} {fn:Func} {p u:Tmp} (h:fn.results=#[.tmp p,.tmp u]) (tmps:Array Value) (w:World) :
  (results fn tmps).run P w=.ok (.tuple #[tmps.getD p undef,tmps.getD u undef]) w:=by
 simp [results,h]
def Parted (L:List (Int × Int × Nat)) (c:Int) (i j:Nat):Prop:=(∀ k o,k<i->L[k]?=some o->o.2.1<c)/\∀ k o,j<=k->L[k]?=some o->c<=o.2.1
def EndsUp (L:List (Int × Int × Nat)):Prop:=∀ (i j:Nat) (a b:Int × Int × Nat),i<j->L[i]?=some a->L[j]?=some b->a.2.1<b.2.1
theorem Parted.up {L:List (Int × Int × Nat)} {c:Int} {i j h:Nat} (hp:Parted L c i j) (hL:EndsUp L) (hh:h<L.length) (e:L[h].2.1<c):Parted L c (h+1) j :=
 ⟨fun k o hk ho=>by
  by_cases e1:k=h
  ·subst e1;rw [List.getElem?_eq_getElem hh] at ho;cases ho;exact e
  ·exact Int.lt_trans (hL k h o _ (by omega) ho (List.getElem?_eq_getElem hh)) e,hp.2⟩
theorem Parted.down {L:List (Int × Int × Nat)} {c:Int} {i j h:Nat} (hp:Parted L c i j) (hL:EndsUp L) (hh:h<L.length) (e:¬ L[h].2.1<c):Parted L c i h :=
 ⟨hp.1,fun k o hk ho=>by
  by_cases e1:k=h
  ·subst e1;rw [List.getElem?_eq_getElem hh] at ho;cases ho;omega
  ·have:=hL h k _ o (by omega) (List.getElem?_eq_getElem hh) ho;omega⟩
set_option maxRecDepth 100000 in
set_option maxHeartbeats 2000000 in
theorem bs_any (base:Nat) (v:Value) (L:List (Int × Int × Nat)) (c:Int) (w:World) (h:TRe base w v L) (hl:L.length<=2000) (hL:EndsUp L) :
  Calls Tryz.prog 213 #[v,.int .i32 c,.func (.func 214) #[] #[]] w fun r w' =>
   (∃ (i:Nat) (f:Bool),r=.returned (.tuple #[.int .i64 i,.bool f])/\i<=L.length/\Parted L c i i)/\Below w.heap.size w w':=by
 obtain ⟨ao,cap,rfl,hcs⟩:=entRow_form h
 have HC:Hid (∀ i (hi:i<L.length),∃ g,ao=some ⟨g,0,none⟩/\g<w.heap.size/\w.cell? ⟨g,i * 3,none⟩=some (.int .i32 L[i].1)/\w.cell? ⟨g,i * 3+1,none⟩=some (.int .i32 L[i].2.1)/\w.cell? ⟨g,i * 3+2,none⟩=some (.int .u8 L[i].2.2)):=hcs
 have hen:∀ (args:Array Value) (w:World),(callFunc 214 args).run Tryz.prog w=.ok (.enter 214 args) w:=enters_of Tryz.func214 (by kernel_rfl) rfl
 clear hcs h
 go_enter Tryz.func213,Tryz.ntmps213
 go_wp2_with fail
 go_loopg [9,10] L.length (fun g iv jv wx=>∃ i j:Nat,i<=j/\j<=L.length/\g=j - i/\iv=.int .i64 i/\jv=.int .i64 j/\Hid (Parted L c i j)/\Below w.heap.size w wx)
 case atStart=>exact ⟨0,L.length,Nat.zero_le _,Nat.le_refl _,rfl,rfl,rfl,⟨fun k o hk=>by omega,fun k o hk ho=>by rw [List.getElem?_eq_none (by omega)] at ho;cases ho⟩,Below.refl _ _⟩
 case round =>
  obtain ⟨i,j,hij,hj,rfl,rfl,rfl,hP,hb⟩:=hrel
  obtain ⟨w1,hw1⟩:∃ w1,w1=wr:=⟨wr,rfl⟩
  subst hw1
  by_cases hlt:i<j
  ·have hml:(i+j) / 2<L.length:=by omega
   obtain ⟨g,rfl,hg,c0,c1,c2⟩:=HC.out ((i+j) / 2) hml
   have d0:=(hb.cell (p:=⟨g,(i+j) / 2 * 3,none⟩) hg).trans c0
   have d1:=(hb.cell (p:=⟨g,(i+j) / 2 * 3+1,none⟩) hg).trans c1
   have d2:=(hb.cell (p:=⟨g,(i+j) / 2 * 3+2,none⟩) hg).trans c2
   clear c0 c1 c2
   go_wp2_with fail
   refine (endsC_any _ _ _ c w1).mono ?_
   rintro r w2 ⟨rfl,b2⟩
   have hb2:=hb.trans (b2.mono hb.size)
   by_cases hlast:L[(i+j) / 2].2.1<c
   ·have e:cmp3 L[(i+j) / 2].2.1 c=-1:=by unfold cmp3;rw [if_pos hlast]
    rw [e]
    have hP2:Hid (Parted L c ((i+j) / 2+1) j):=hP.out.up hL hml hlast
    clear hP hlast e
    go_wp2_with fail
    go_roundg (j - ((i+j) / 2+1))
    case measure=>omega
    case rel=>exact ⟨(i+j) / 2+1,j,by omega,hj,rfl,by go_num,rfl,hP2,hb2⟩
   ·have hP2:Hid (Parted L c i ((i+j) / 2)):=hP.out.down hL hml hlast
    have e:0<=cmp3 L[(i+j) / 2].2.1 c:=by unfold cmp3;rw [if_neg hlast];split <;> decide
    generalize cmp3 L[(i+j) / 2].2.1 c=z at e ⊢
    have e2:¬ z<0:=by omega
    clear hP hlast
    go_wp2_with fail
    go_roundg ((i+j) / 2 - i)
    case measure=>omega
    case rel=>exact ⟨i,(i+j) / 2,by omega,by omega,rfl,rfl,by go_num,hP2,hb2⟩
  ·obtain rfl:i=j:=by omega
   by_cases hil:i<L.length
   ·obtain ⟨g,rfl,hg,c0,c1,c2⟩:=HC.out i hil
    have d0:=(hb.cell (p:=⟨g,i * 3,none⟩) hg).trans c0
    have d1:=(hb.cell (p:=⟨g,i * 3+1,none⟩) hg).trans c1
    have d2:=(hb.cell (p:=⟨g,i * 3+2,none⟩) hg).trans c2
    clear c0 c1 c2
    go_wp2_with fail
    refine (endsC_any _ _ _ c w1).mono ?_
    rintro r w2 ⟨rfl,b2⟩
    have hb2:=hb.trans (b2.mono hb.size)
    go_wp2_with fail
    refine bodyPost_ret (results_tt rfl _ _) rfl ?_
    exact ⟨⟨i,_,rfl,hj,hP.out⟩,hb2⟩
   ·go_wp2_with fail
    refine bodyPost_ret (results_tt rfl _ _) rfl ?_
    exact ⟨⟨i,_,rfl,hj,hP.out⟩,hb⟩
end Go.Proofs.YtodagkkjfipbgaaGreatDoor
