import Derived.Shelf.Abstract
import Derived.Test.YtodagkkjfipbgaaGreatDoorJ1toJ2
namespace Go.Proofs.YtodagkkjfipbgaaGreatDoor
open Go.RowKit
def Makes (d:Nat) (x:Px) (base:Nat) (w:World) (f q:Nat):Prop :=
 ∀ (W:World) (m:Nat) (S:List St) (first:Int) (b:Nat),Below base w W->MIn W base m S first->S.length+wtx d x<=9000->tot S+wtx d x<=9000 ->
  Calls Tryz.prog f #[.pointer (some ⟨m,0,none⟩),.int .i64 b,.pointer (some ⟨q,0,none⟩)] W fun e w'=>e=.returned (.int .i64 (mk d x S b).2)/\MIn w' base m (mk d x S b).1 first/\Below base W w'
def Enters (f:Nat):Prop:=∀ (args:Array Value) (w:World),(callFunc f args).run Tryz.prog w=.ok (.enter f args) w
def PartOk (d:Nat):Prop:=∀ (x:Px) (v:Value) (base:Nat) (w:World),PIn d (fun k=>k<base) w v x->base<=w.heap.size->∃ f q,v=fnv f q/\Enters f/\Makes d x base w f q
theorem box_on {base q:Nat} {w W:World} {cs:Array Value} {t:TypeId} (hq:q<base) (hb:Below base w W) (h:w.heap[q]?=some (.cells cs t (0,0))):W.heap[q]?=some (.cells cs t (0,0)):=by rw [hb.block q hq];exact h
set_option maxHeartbeats 1000000 in
theorem one_call (d:Nat) (x:Px) (base:Nat) (w:World) (q:Nat) (hx:x.what=0) (hq:q<base) (h:w.heap[q]?=some (.cells #[.int .u8 x.k] 167 (0,0))):Makes (d+1) x base w 255 q:=by
 intro W m S first b hW hM h1 h2
 have e:mk (d+1) x S b=(S++[(x.k,[b])],S.length):=by rw [mk,if_pos hx]
 have e2:wtx (d+1) x=1:=by rw [wtx,if_pos hx]
 rw [e2] at h1
 rw [e]
 have c0:=cell_of_block (box_on hq hW h) 0 _ rfl
 have HM:Hid (MIn W base m S first):=hM
 clear hM e e2 h h2
 go_enter Tryz.func255,Tryz.ntmps255
 go_wp2_with fail
 refine (add_new base m S first x.k b W HM.out (by omega)).mono ?_
 rintro e1 w1 ⟨rfl,h3,h4⟩
 have H3:Hid (MIn w1 base m (S++[(x.k,[b])]) first):=h3
 clear h3
 go_wp2_with fail
 go_ret
 exact ⟨rfl,H3.out,h4⟩
def rowF (d:Nat) (l:List Px) (k:Nat) (S:List St) (b:Nat):List St × Nat:=(l.drop k).foldr (fun y r=>mk d y r.1 r.2) (S,b)
theorem rowF_step (d:Nat) (l:List Px) (k:Nat) (h:k<l.length) (S:List St) (b:Nat):rowF d l k S b=mk d l[k] (rowF d l (k+1) S b).1 (rowF d l (k+1) S b).2:=by
 unfold rowF;rw [List.drop_eq_getElem_cons h];rfl
theorem rowF_adds (d:Nat) (l:List Px) (S:List St) (b:Nat):∀ k,Adds ((l.drop k).map (wtx d)).sum S (rowF d l k S b).1:=by
 intro k
 unfold rowF
 induction l.drop k with
 | nil=>simp [Adds]
 | cons y l ih=>rw [List.foldr_cons,List.map_cons,List.sum_cons];exact ih.trans (mk_adds d y _ _) (by omega)
theorem sum_drop {f:Px->Nat} (l:List Px) (k:Nat) (h:k<l.length):((l.drop k).map f).sum=f l[k]+((l.drop (k+1)).map f).sum:=by
 rw [List.drop_eq_getElem_cons h,List.map_cons,List.sum_cons]
theorem sum_drop_le {f:Px->Nat} (l:List Px):∀ k,((l.drop k).map f).sum<=(l.map f).sum:=by
 induction l with
 | nil=>simp
 | cons a l ih=>intro k;cases k with
  | zero=>simp
  | succ k=>have:=ih k;rw [List.drop_succ_cons,List.map_cons,List.sum_cons];omega
theorem PtRow.form {R:Value->Px->Prop} {A:Nat->Prop} {w:World} {v:Value} {l:List Px} (h:PtRow R A w v l) :
  ∃ ao cap,v=.slice ao l.length cap/\∀ i (hi:i<l.length),∃ g u,ao=some ⟨g,0,none⟩/\A g/\w.cell? ⟨g,i,none⟩=some u/\R u l[i]:=by
 obtain ⟨us,h1,_,⟨h2,h3⟩,h4,h5⟩:=h
 rcases h3 with ⟨hv,hn⟩ | ⟨g,cap,cur,hv,hg,hh,hcap,hmx,hsz,hcur⟩
 ·exact ⟨none,0,by rw [hv,hn],fun i hi=>by omega⟩
 ·refine ⟨some ⟨g,0,none⟩,cap,hv,fun i hi=>?_⟩
  obtain ⟨u,hu⟩:∃ u,us[i]?=some u:=⟨us[i]'(by omega),List.getElem?_eq_getElem (by omega)⟩
  refine ⟨g,u,rfl,h4 g (by rw [hv];rfl),?_,h5 i _ _ hu (List.getElem?_eq_getElem hi)⟩
  refine cell_of_block hh i _ ?_
  have e1:(cur.toList.take (l.length * 1))[i]?=some u:=by rw [hcur];exact hu
  rw [List.getElem?_take,if_pos (by omega)] at e1
  simpa using e1
set_option maxRecDepth 100000 in
set_option maxHeartbeats 4000000 in
theorem row_call (d:Nat) (hd:PartOk d) (x:Px) (base:Nat) (w:World) (q:Nat) (vR:Value) (hx:x.what=1) (hq:q<base) (hbw:base<=w.heap.size) (h:w.heap[q]?=some (.cells #[vR] 337 (0,0)))
  (hr:PtRow (PIn d (fun k=>k<base) w) (fun k=>k<base) w vR x.l):Makes (d+1) x base w 206 q:=by
 intro W m S first b hW hM h1 h2
 have e:mk (d+1) x S b=rowF d x.l 0 S b:=by rw [mk,if_neg (by omega),if_pos hx];rfl
 have e2:wtx (d+1) x=(x.l.map (wtx d)).sum:=by rw [wtx,if_neg (by omega),if_pos hx]
 rw [e2] at h1 h2
 rw [e]
 obtain ⟨l,hl⟩:∃ l,l=x.l:=⟨_,rfl⟩
 rw [<- hl] at hr h1 h2 ⊢
 have hlen:=hr.len
 obtain ⟨ao,cap,rfl,hcs⟩:=hr.form
 have c0:=cell_of_block (box_on hq hW h) 0 _ rfl
 have HM:Hid (MIn W base m S first):=hM
 have HC:Hid (∀ i (hi:i<l.length),∃ g u,ao=some ⟨g,0,none⟩/\g<base/\w.cell? ⟨g,i,none⟩=some u/\PIn d (fun k=>k<base) w u l[i]):=hcs
 have HS:Hid (S.length+(l.map (wtx d)).sum<=9000/\tot S+(l.map (wtx d)).sum<=9000):=⟨h1,h2⟩
 clear hM hr hcs hl e e2 hx h h1 h2
 go_enter Tryz.func206,Tryz.ntmps206
 go_wp2_with fail
 go_loopg [1,6] l.length (fun g bv iv wx=>∃ k:Nat,k<=l.length/\g=k/\iv=.int .i64 ((k:Int) - 1)/\bv=.int .i64 (rowF d l k S b).2/\Hid (MIn wx base m (rowF d l k S b).1 first)/\Below base W wx)
 case atStart=>exact ⟨l.length,Nat.le_refl _,rfl,rfl,by unfold rowF;simp,by unfold rowF;simpa using HM,Below.refl _ _⟩
 case round =>
  obtain ⟨k,hk,hgk,rfl,rfl,hM1,hb1⟩:=hrel
  have hgk':k=gk:=hgk.symm
  subst hgk'
  clear hgk
  obtain ⟨w1,hw1⟩:∃ w1,w1=wr:=⟨wr,rfl⟩
  subst hw1
  have c1:=(hb1.cell (p:=⟨q,0,none⟩) hq).trans c0
  cases k with
  | zero =>
   go_wp2_with fail
   go_ret
   exact ⟨rfl,hM1.out,hb1⟩
  | succ k =>
   obtain ⟨g,u,rfl,hg,hu,hp⟩:=HC.out k (by omega)
   obtain ⟨f,q',rfl,hen,hmk⟩:=hd _ _ _ _ hp hbw
   have hu1:w1.cell? ⟨g,k,none⟩=some (fnv f q'):=(hb1.cell (p:=⟨g,k,none⟩) hg).trans ((hW.cell (p:=⟨g,k,none⟩) hg).trans hu)
   have hst:=rowF_step d l k (by omega) S b
   have had:=rowF_adds d l S b (k+1)
   have hsd:=sum_drop (f:=wtx d) l k (by omega)
   have hsl:=sum_drop_le (f:=wtx d) l k
   have hcall:=hmk w1 m (rowF d l (k+1) S b).1 first (rowF d l (k+1) S b).2 (hW.trans hb1) hM1.out (by have:=HS.out;have:=had.2.1;omega) (by have:=HS.out;have:=had.2.2;omega)
   rw [<- hst] at hcall
   have HK:Hid (Calls Tryz.prog f #[.pointer (some ⟨m,0,none⟩),.int .i64 (rowF d l (k+1) S b).2,.pointer (some ⟨q',0,none⟩)] w1 fun e w'=>e=.returned (.int .i64 (rowF d l k S b).2)/\MIn w' base m (rowF d l k S b).1 first/\Below base w1 w'):=hcall
   clear hcall hmk hst had hsd hsl hp hu
   unfold Enters at hen
   unfold fnv at hu1
   go_wp2_with fail
   refine HK.out.mono ?_
   rintro e1 w2 ⟨rfl,h3,h4⟩
   have H3:Hid (MIn w2 base m (rowF d l k S b).1 first):=h3
   clear h3
   go_wp2_with fail
   go_roundg k
   case measure=>omega
   case rel=>exact ⟨k,by omega,rfl,by go_num,rfl,H3,hb1.trans h4⟩
def eithF (d:Nat) (l:List Px) (k:Nat) (Z:List St) (f b:Nat):List St:=(l.take k).foldl (fun Z y=>leadS (mk d y Z b).1 f (mk d y Z b).2) Z
theorem eithF_step (d:Nat) (l:List Px) (k:Nat) (h:k<l.length) (Z:List St) (f b:Nat):eithF d l (k+1) Z f b=leadS (mk d l[k] (eithF d l k Z f b) b).1 f (mk d l[k] (eithF d l k Z f b) b).2:=by
 unfold eithF;rw [List.take_succ_eq_append_getElem h,List.foldl_append];rfl
theorem eithF_adds (d:Nat) (l:List Px) (f b:Nat):∀ (k:Nat) (Z:List St),Adds ((l.take k).map fun y=>1+wtx d y).sum Z (eithF d l k Z f b):=by
 intro k
 unfold eithF
 induction l.take k with
 | nil=>intro Z;simp [Adds]
 | cons y l ih =>
  intro Z
  rw [List.foldl_cons,List.map_cons,List.sum_cons]
  have h2:Adds 1 (mk d y Z b).1 (leadS (mk d y Z b).1 f (mk d y Z b).2):=⟨by rw [leadS_len];omega,by rw [leadS_len];omega,leadS_tot _ _ _⟩
  exact ((mk_adds d y Z b).trans h2 (Nat.le_refl _)).trans (ih _) (by omega)
theorem sum_take {f:Px->Nat} (l:List Px) (k:Nat) (h:k<l.length):((l.take (k+1)).map f).sum=((l.take k).map f).sum+f l[k]:=by
 rw [List.take_succ_eq_append_getElem h,List.map_append,List.sum_append];simp
theorem sum_take_le {f:Px->Nat} (l:List Px):∀ k,((l.take k).map f).sum<=(l.map f).sum:=by
 induction l with
 | nil=>simp
 | cons a l ih=>intro k;cases k with
  | zero=>simp
  | succ k=>have:=ih k;rw [List.take_succ_cons,List.map_cons,List.sum_cons,List.map_cons,List.sum_cons];omega
set_option maxRecDepth 100000 in
set_option maxHeartbeats 4000000 in
theorem either_call (d:Nat) (hd:PartOk d) (x:Px) (base:Nat) (w:World) (q:Nat) (vR:Value) (hx:x.what=2) (hq:q<base) (hbw:base<=w.heap.size) (h:w.heap[q]?=some (.cells #[vR] 337 (0,0)))
  (hr:PtRow (PIn d (fun k=>k<base) w) (fun k=>k<base) w vR x.l):Makes (d+1) x base w 225 q:=by
 intro W m S first b hW hM h1 h2
 have e:mk (d+1) x S b=(eithF d x.l x.l.length (S++[(0,[])]) S.length b,S.length):=by rw [mk,if_neg (by omega),if_neg (by omega),if_pos hx];unfold eithF;rw [List.take_length]
 have e2:wtx (d+1) x=1+(x.l.map fun y=>1+wtx d y).sum:=by rw [wtx,if_neg (by omega),if_neg (by omega),if_pos hx]
 rw [e2] at h1 h2
 rw [e]
 obtain ⟨l,hl⟩:∃ l,l=x.l:=⟨_,rfl⟩
 rw [<- hl] at hr h1 h2 ⊢
 obtain ⟨ao,cap,rfl,hcs⟩:=hr.form
 have hlen:l.length<=9000:=by
  have:∀ l:List Px,l.length<=(l.map fun y=>1+wtx d y).sum:=by
   intro l;induction l with
   | nil=>simp
   | cons a l ih=>rw [List.map_cons,List.sum_cons,List.length_cons];omega
  have:=this l;omega
 have c0:=cell_of_block (box_on hq hW h) 0 _ rfl
 have HM:Hid (MIn W base m S first):=hM
 have HC:Hid (∀ i (hi:i<l.length),∃ g u,ao=some ⟨g,0,none⟩/\g<base/\w.cell? ⟨g,i,none⟩=some u/\PIn d (fun k=>k<base) w u l[i]):=hcs
 have HS:Hid (S.length+(1+(l.map fun y=>1+wtx d y).sum)<=9000/\tot S+(1+(l.map fun y=>1+wtx d y).sum)<=9000):=⟨h1,h2⟩
 have hSl:S.length<=9000:=by omega
 have hz:(S++[((0:Nat),([]:List Nat))]).length=S.length+1/\tot (S++[(0,[])])=tot S:=by constructor <;> simp [tot]
 obtain ⟨Z,hZ⟩:∃ Z,Z=S++[((0:Nat),([]:List Nat))]:=⟨_,rfl⟩
 rw [<- hZ] at hz ⊢
 have HZ:Hid (Z.length=S.length+1/\tot Z=tot S):=hz
 have HE:Hid (Z=S++[((0:Nat),([]:List Nat))]):=hZ
 clear hM hr hcs hl e e2 hx h h1 h2 hz hZ
 go_enter Tryz.func225,Tryz.ntmps225
 go_wp2_with fail
 refine (add_nil base m S first 0 W HM.out hSl).mono ?_
 rintro e1 w0 ⟨rfl,h3,h4⟩
 rw [<- HE.out] at h3
 have H3:Hid (MIn w0 base m Z first):=h3
 clear h3
 have c1:=(h4.cell (p:=⟨q,0,none⟩) hq).trans c0
 go_wp2_with fail
 go_loopg [13] l.length (fun g iv wx=>∃ k:Nat,k<=l.length/\g=l.length - k/\iv=.int .i64 k/\Hid (MIn wx base m (eithF d l k Z S.length b) first)/\Below base W wx)
 case atStart=>exact ⟨0,Nat.zero_le _,rfl,rfl,by unfold eithF;simpa using H3,h4⟩
 case round =>
  obtain ⟨k,hk,rfl,rfl,hM1,hb1⟩:=hrel
  obtain ⟨w1,hw1⟩:∃ w1,w1=wr:=⟨wr,rfl⟩
  subst hw1
  by_cases hlt:k<l.length
  ·obtain ⟨g,u,rfl,hg,hu,hp⟩:=HC.out k hlt
   obtain ⟨f,q',rfl,hen,hmk⟩:=hd _ _ _ _ hp hbw
   have hu1:w1.cell? ⟨g,k,none⟩=some (fnv f q'):=(hb1.cell (p:=⟨g,k,none⟩) hg).trans ((hW.cell (p:=⟨g,k,none⟩) hg).trans hu)
   have hst:=eithF_step d l k hlt Z S.length b
   have had:=eithF_adds d l S.length b k Z
   have hsd:=sum_take (f:=fun y=>1+wtx d y) l k hlt
   have hsl:=sum_take_le (f:=fun y=>1+wtx d y) l (k+1)
   have hmk1:=mk_adds d l[k] (eithF d l k Z S.length b) b
   have hcall:=hmk w1 m (eithF d l k Z S.length b) first b (hW.trans hb1) hM1.out (by have:=HS.out;have:=HZ.out;have:=had.2.1;omega) (by have:=HS.out;have:=HZ.out;have:=had.2.2;omega)
   have HB:Hid (S.length<(mk d l[k] (eithF d l k Z S.length b) b).1.length/\(mk d l[k] (eithF d l k Z S.length b) b).1.length<=9000/\tot (mk d l[k] (eithF d l k Z S.length b) b).1<=9000):=by
    have:=HS.out;have:=HZ.out;have:=had.1;have:=had.2.1;have:=had.2.2;have:=hmk1.1;have:=hmk1.2.1;have:=hmk1.2.2
    refine ⟨by omega,by omega,by omega⟩
   have HST:Hid (eithF d l (k+1) Z S.length b=leadS (mk d l[k] (eithF d l k Z S.length b) b).1 S.length (mk d l[k] (eithF d l k Z S.length b) b).2):=hst
   obtain ⟨R,hR⟩:∃ R,R=mk d l[k] (eithF d l k Z S.length b) b:=⟨_,rfl⟩
   rw [<- hR] at hcall HB HST
   have HK:Hid (Calls Tryz.prog f #[.pointer (some ⟨m,0,none⟩),.int .i64 b,.pointer (some ⟨q',0,none⟩)] w1 fun e w'=>e=.returned (.int .i64 R.2)/\MIn w' base m R.1 first/\Below base w1 w'):=hcall
   clear hcall hmk hst had hsd hsl hp hu hmk1 hR
   unfold Enters at hen
   unfold fnv at hu1
   go_wp2_with fail
   refine HK.out.mono ?_
   rintro e1 w2 ⟨rfl,h5,h6⟩
   have H5:Hid (MIn w2 base m R.1 first):=h5
   clear h5
   go_wp2_with fail
   refine (lead_new base m R.1 first S.length R.2 w2 H5.out HB.out.1 HB.out.2.1 HB.out.2.2).mono ?_
   rintro e2 w3 ⟨rfl,h7,h8⟩
   rw [<- HST.out] at h7
   have H7:Hid (MIn w3 base m (eithF d l (k+1) Z S.length b) first):=h7
   clear h7
   go_wp2_with fail
   go_roundg (l.length - (k+1))
   case measure=>omega
   case rel=>exact ⟨k+1,by omega,rfl,by go_num,H7,(hb1.trans h6).trans h8⟩
  ·have hkk:Hid (k=l.length):=by show k=l.length;omega
   go_wp2_with fail
   go_ret
   exact ⟨rfl,by rw [<- hkk.out];exact hM1.out,hb1⟩
set_option maxRecDepth 100000 in
set_option maxHeartbeats 2000000 in
theorem loop_any (d:Nat) (y:Px) (base:Nat) (w:World) (f q:Nat) (hen:Enters f) (hmk:Makes d y base w f q) (W:World) (m:Nat) (S:List St) (first:Int) (b:Nat) (hW:Below base w W) (hM:MIn W base m S first) (h1:S.length+(2+wtx d y)<=9000) (h2:tot S+(2+wtx d y)<=9000) :
  Calls Tryz.prog 251 #[.pointer (some ⟨m,0,none⟩),fnv f q,.int .i64 b] W fun e w'=>e=.returned (.tuple #[.int .i64 S.length,.int .i64 (mk d y (S++[(0,[b])]) S.length).2]) /\
   MIn w' base m (leadS (mk d y (S++[(0,[b])]) S.length).1 S.length (mk d y (S++[(0,[b])]) S.length).2) first/\Below base W w':=by
 have HM:Hid (MIn W base m S first):=hM
 have hSl:S.length<=9000:=by omega
 have hz:(S++[((0:Nat),[b])]).length=S.length+1/\tot (S++[(0,[b])])=tot S+1:=by constructor <;> simp [tot]
 obtain ⟨Z,hZ⟩:∃ Z,Z=S++[((0:Nat),[b])]:=⟨_,rfl⟩
 rw [<- hZ] at hz ⊢
 have HE:Hid (Z=S++[((0:Nat),[b])]):=hZ
 have hadd:=mk_adds d y Z S.length
 have hcall:=fun W1 (hb:Below base W W1) (hm:MIn W1 base m Z first)=>hmk W1 m Z first S.length (hW.trans hb) hm (by omega) (by omega)
 obtain ⟨R,hR⟩:∃ R,R=mk d y Z S.length:=⟨_,rfl⟩
 rw [<- hR] at hadd ⊢
 have HB:Hid (S.length<R.1.length/\R.1.length<=9000/\tot R.1<=9000):=by
  obtain ⟨a1,a2,a3⟩:=hadd
  exact ⟨by omega,by omega,by omega⟩
 have HK:Hid (∀ W1,Below base W W1->MIn W1 base m Z first->Calls Tryz.prog f #[.pointer (some ⟨m,0,none⟩),.int .i64 S.length,.pointer (some ⟨q,0,none⟩)] W1 fun e w'=>e=.returned (.int .i64 R.2)/\MIn w' base m R.1 first/\Below base W1 w'):=by
  intro W1 hb hm
  have:=hcall W1 hb hm
  rw [<- hR] at this
  exact this
 clear hM h1 h2 hz hZ hcall hadd hR hmk
 unfold Enters at hen
 unfold fnv
 go_enter Tryz.func251,Tryz.ntmps251
 go_wp2_with fail
 refine (add_new base m S first 0 b W HM.out hSl).mono ?_
 rintro e1 w1 ⟨rfl,h3,h4⟩
 rw [<- HE.out] at h3
 have H3:Hid (MIn w1 base m Z first):=h3
 clear h3
 go_wp2_with fail
 refine (HK.out w1 h4 H3.out).mono ?_
 rintro e2 w2 ⟨rfl,h5,h6⟩
 have H5:Hid (MIn w2 base m R.1 first):=h5
 clear h5
 go_wp2_with fail
 refine (lead_new base m R.1 first S.length R.2 w2 H5.out HB.out.1 HB.out.2.1 HB.out.2.2).mono ?_
 rintro e3 w3 ⟨rfl,h7,h8⟩
 have H7:Hid (MIn w3 base m (leadS R.1 S.length R.2) first):=h7
 clear h7
 go_wp2_with fail
 go_ret2
 exact ⟨rfl,H7.out,(h4.trans h6).trans h8⟩
set_option maxHeartbeats 1000000 in
theorem star_call (d:Nat) (hd:PartOk d) (x y:Px) (base:Nat) (w:World) (q:Nat) (u:Value) (hx:x.what=3) (hl:x.l=[y]) (hq:q<base) (hbw:base<=w.heap.size) (h:w.heap[q]?=some (.cells #[u] 224 (0,0)))
  (hp:PIn d (fun k=>k<base) w u y):Makes (d+1) x base w 250 q:=by
 intro W m S first b hW hM h1 h2
 obtain ⟨f,q',rfl,hen,hmk⟩:=hd _ _ _ _ hp hbw
 have e:mk (d+1) x S b=(leadS (mk d y (S++[(0,[b])]) S.length).1 S.length (mk d y (S++[(0,[b])]) S.length).2,S.length):=by
  rw [mk,if_neg (by omega),if_neg (by omega),if_neg (by omega),hl];simp [hx]
 have e2:wtx (d+1) x=2+wtx d y:=by rw [wtx,if_neg (by omega),if_neg (by omega),if_neg (by omega),hl];simp
 rw [e2] at h1 h2
 rw [e]
 have hcall:=loop_any d y base w f q' hen hmk W m S first b hW hM h1 h2
 obtain ⟨R,hR⟩:∃ R,R=mk d y (S++[(0,[b])]) S.length:=⟨_,rfl⟩
 rw [<- hR] at hcall ⊢
 have HK:Hid (Calls Tryz.prog 251 #[.pointer (some ⟨m,0,none⟩),fnv f q',.int .i64 b] W fun e w'=>e=.returned (.tuple #[.int .i64 S.length,.int .i64 R.2])/\MIn w' base m (leadS R.1 S.length R.2) first/\Below base W w'):=hcall
 have c0:=cell_of_block (box_on hq hW h) 0 _ rfl
 clear hcall hmk hM h1 h2 e e2 hp h hR hx hl
 obtain ⟨v,hv⟩:∃ v,v=fnv f q':=⟨_,rfl⟩
 rw [<- hv] at HK c0
 clear hv
 go_enter Tryz.func250,Tryz.ntmps250
 go_wp2_with fail
 refine HK.out.mono ?_
 rintro e1 w1 ⟨rfl,h3,h4⟩
 have H3:Hid (MIn w1 base m (leadS R.1 S.length R.2) first):=h3
 clear h3
 go_wp2_with fail
 go_ret
 exact ⟨rfl,H3.out,h4⟩
set_option maxHeartbeats 1000000 in
theorem plus_call (d:Nat) (hd:PartOk d) (x y:Px) (base:Nat) (w:World) (q:Nat) (u:Value) (hx:x.what=4) (hl:x.l=[y]) (hq:q<base) (hbw:base<=w.heap.size) (h:w.heap[q]?=some (.cells #[u] 224 (0,0)))
  (hp:PIn d (fun k=>k<base) w u y):Makes (d+1) x base w 252 q:=by
 intro W m S first b hW hM h1 h2
 obtain ⟨f,q',rfl,hen,hmk⟩:=hd _ _ _ _ hp hbw
 have e:mk (d+1) x S b=(leadS (mk d y (S++[(0,[b])]) S.length).1 S.length (mk d y (S++[(0,[b])]) S.length).2,(mk d y (S++[(0,[b])]) S.length).2):=by
  rw [mk,if_neg (by omega),if_neg (by omega),if_neg (by omega),hl];simp [hx]
 have e2:wtx (d+1) x=2+wtx d y:=by rw [wtx,if_neg (by omega),if_neg (by omega),if_neg (by omega),hl];simp
 rw [e2] at h1 h2
 rw [e]
 have hcall:=loop_any d y base w f q' hen hmk W m S first b hW hM h1 h2
 obtain ⟨R,hR⟩:∃ R,R=mk d y (S++[(0,[b])]) S.length:=⟨_,rfl⟩
 rw [<- hR] at hcall ⊢
 have HK:Hid (Calls Tryz.prog 251 #[.pointer (some ⟨m,0,none⟩),fnv f q',.int .i64 b] W fun e w'=>e=.returned (.tuple #[.int .i64 S.length,.int .i64 R.2])/\MIn w' base m (leadS R.1 S.length R.2) first/\Below base W w'):=hcall
 have c0:=cell_of_block (box_on hq hW h) 0 _ rfl
 clear hcall hmk hM h1 h2 e e2 hp h hR hx hl
 obtain ⟨v,hv⟩:∃ v,v=fnv f q':=⟨_,rfl⟩
 rw [<- hv] at HK c0
 clear hv
 go_enter Tryz.func252,Tryz.ntmps252
 go_wp2_with fail
 refine HK.out.mono ?_
 rintro e1 w1 ⟨rfl,h3,h4⟩
 have H3:Hid (MIn w1 base m (leadS R.1 S.length R.2) first):=h3
 clear h3
 go_wp2_with fail
 go_ret
 exact ⟨rfl,H3.out,h4⟩
theorem part_ok:∀ d,PartOk d:=by
 intro d
 induction d with
 | zero=>intro x v base w h;exact h.elim
 | succ d ih =>
  intro x v base w h hb
  obtain ⟨q,hq,h⟩:=h
  rcases h with ⟨h1,h2,h3,_⟩ | ⟨h1,h2,vR,h3,h4⟩ | ⟨h1,h2,vR,h3,h4⟩ | ⟨h1,h2,u,y,h3,h4,h5⟩ | ⟨h1,h2,u,y,h3,h4,h5⟩
  ·exact ⟨_,q,h2,enters_of Tryz.func255 (by kernel_rfl) rfl,one_call d x base w q h1 hq h3⟩
  ·exact ⟨_,q,h2,enters_of Tryz.func206 (by kernel_rfl) rfl,row_call d ih x base w q vR h1 hq hb h3 h4⟩
  ·exact ⟨_,q,h2,enters_of Tryz.func225 (by kernel_rfl) rfl,either_call d ih x base w q vR h1 hq hb h3 h4⟩
  ·exact ⟨_,q,h2,enters_of Tryz.func250 (by kernel_rfl) rfl,star_call d ih x y base w q u h1 h3 hq hb h4 h5⟩
  ·exact ⟨_,q,h2,enters_of Tryz.func252 (by kernel_rfl) rfl,plus_call d ih x y base w q u h1 h3 hq hb h4 h5⟩
def startS:List St:=[(0,[])]
theorem setCell1 {w:World} {m:Nat} {a b v:Value} {t:TypeId} (h:w.heap[m]?=some (.cells #[a,b] t (0,0))):(w.setCell ⟨m,1,none⟩ v).heap[m]?=some (.cells #[a,v] t (0,0)):=(block_setCell h 1 _).trans rfl
theorem row_base {w:World} {base base':Nat} {e:TypeId} {size:Nat} {v:Value} {n:Nat} {us:List Value} (h:w.ownsRow base e size v n us) (hb:base'<=base):w.ownsRow base' e size v n us:=by
 refine ⟨h.1,?_⟩
 rcases h.2 with h2 | ⟨g,cap,cur,hv,hg,r⟩
 ·exact Or.inl h2
 ·exact Or.inr ⟨g,cap,cur,hv,Nat.le_trans hb hg,r⟩
set_option maxRecDepth 100000 in
set_option maxHeartbeats 2000000 in
theorem make_any (d:Nat) (x:Px) (v:Value) (w:World) (h:PIn d (fun k=>k<w.heap.size) w v x) (hw:wtx d x<=8000) :
  Calls Tryz.prog 133 #[v] w fun e w'=>∃ vS tv,e=.returned (.agg #[vS,.int .i64 (mk d x startS 0).2])/\MRow w' w.heap.size vS (mk d x startS 0).1 tv/\Below w.heap.size w w':=by
 have hp:=h.turn (A':=fun k=>k<w.heap.size+1) (KeepPt.refl _ _) (fun k _ h=>by omega)
 have hp1:PIn d (fun k=>k<w.heap.size+1) (w.alloc (.cells #[.slice none 0 0,.int .i64 0] 146)) v x:=hp.turn (KeepPt.below (below_alloc w _) fun k hk _=>hk) fun _ _ h=>h
 obtain ⟨f,q,rfl,hen,hmk⟩:=part_ok d x v (w.heap.size+1) _ hp1 (by simp)
 obtain ⟨W,hW⟩:∃ W,W=((w.alloc (.cells #[.slice none 0 0,.int .i64 0] 146)).alloc (.cells #[.int .u8 0,.slice none 0 0] 293)).alloc (.cells #[.slice (some ⟨w.heap.size+1,0,none⟩) 1 1,.int .i64 0] 146):=⟨_,rfl⟩
 have HB:Hid (Below (w.heap.size+1) (w.alloc (.cells #[.slice none 0 0,.int .i64 0] 146)) W):=by
  show Below _ _ _
  rw [hW]
  exact ((Below.refl _ _).alloc (by simp) _).alloc (by simp) _
 have hm0:W.heap[w.heap.size+2]?=some (.cells #[.slice (some ⟨w.heap.size+1,0,none⟩) 1 1,.int .i64 0] 146 (0,0)):=by rw [hW];exact (show (((w.alloc _).alloc _).heap.size)=w.heap.size+2 by simp) ▸ heap_alloc_new ((w.alloc _).alloc _) _
 have hr0:W.heap[w.heap.size+1]?=some (.cells #[.int .u8 0,.slice none 0 0] 293 (0,0)):=by
  rw [hW,Below.heap_alloc _ _ _ (by simp)]
  exact (show ((w.alloc _).heap.size)=w.heap.size+1 by simp) ▸ heap_alloc_new (w.alloc _) _
 have hM:MIn W (w.heap.size+1) (w.heap.size+2) startS 0:=by
  refine ⟨by omega,_,[.slice none 0 0],hm0,rfl,?_,?_,?_⟩
  ·exact ⟨rfl,Or.inr ⟨w.heap.size+1,1,_,rfl,Nat.le_refl _,hr0,Nat.le_refl _,by decide,rfl,rfl⟩⟩
  ·intro i v s hv hs
   cases i with
   | zero=>simp [startS] at hv hs;subst hv;subst hs;exact World.ownsRow_nil _ _ _ _
   | succ i=>simp at hv
  ·intro i j v u k hij hv hu
   have h1:=(List.getElem?_eq_some_iff.1 hv).1
   have h2:=(List.getElem?_eq_some_iff.1 hu).1
   simp at h1 h2;omega
 have hcall:=hmk W (w.heap.size+2) startS 0 0 HB.out hM (by simp [startS];omega) (by simp [startS,tot];omega)
 obtain ⟨R,hR⟩:∃ R,R=mk d x startS 0:=⟨_,rfl⟩
 rw [<- hR] at hcall ⊢
 have HK:Hid (Calls Tryz.prog f #[.pointer (some ⟨w.heap.size+2,0,none⟩),.int .i64 0,.pointer (some ⟨q,0,none⟩)] W fun e w'=>e=.returned (.int .i64 R.2)/\MIn w' (w.heap.size+1) (w.heap.size+2) R.1 0/\Below (w.heap.size+1) W w'):=hcall
 have HW:Hid (W=((w.alloc (.cells #[.slice none 0 0,.int .i64 0] 146)).alloc (.cells #[.int .u8 0,.slice none 0 0] 293)).alloc (.cells #[.slice (some ⟨w.heap.size+1,0,none⟩) 1 1,.int .i64 0] 146)):=hW
 have hq0:Hid (W.heap[w.heap.size]?=some (.cells #[.slice none 0 0,.int .i64 0] 146 (0,0))):=by
  show _=_
  rw [hW,Below.heap_alloc _ _ _ (by simp;omega),Below.heap_alloc _ _ _ (by simp)]
  exact heap_alloc_new w _
 clear hcall hmk h hp hp1 hM hm0 hr0 hR hW
 unfold Enters at hen
 unfold fnv
 go_enter Tryz.func133,Tryz.ntmps133
 go_wp2_with fail
 rw [<- HW.out]
 refine HK.out.mono ?_
 rintro e1 w1 ⟨rfl,h3,h4⟩
 obtain ⟨_,vS,tv,hm,hr⟩:=h3
 obtain ⟨ao,cap,rfl⟩:=row_shape hr.row
 have hq1:w1.heap[w.heap.size]?=some (.cells #[.slice none 0 0,.int .i64 0] 146 (0,0)):=by rw [h4.block _ (by omega)];exact hq0.out
 have c0:=cell_of_block hm 0 _ rfl
 have c1:=cell_of_block hm 1 _ rfl
 have cf:=free_of_block hm
 have d0:=cell_of_block hq1 0 _ rfl
 have d1:=cell_of_block hq1 1 _ rfl
 have df:=free_of_block hq1
 have HM:Hid (w1.heap[w.heap.size+2]?=some (.cells #[.slice ao R.1.length cap,.int .i64 0] 146 (0,0))):=hm
 have HQ:Hid (w1.heap[w.heap.size]?=some (.cells #[.slice none 0 0,.int .i64 0] 146 (0,0))):=hq1
 have HR:Hid (MRow w1 (w.heap.size+1) (.slice ao R.1.length cap) R.1 tv):=hr
 clear hm hq1 hr
 go_wp2_with fail
 obtain ⟨W2,hW2⟩:∃ W2,W2=w1.setCell ⟨w.heap.size+1+1,1,none⟩ (.int .i64 R.2):=⟨_,rfl⟩
 rw [<- hW2]
 have q2:W2.heap[w.heap.size]?=some (.cells #[.slice none 0 0,.int .i64 0] 146 (0,0)):=by
  rw [hW2,Below.heap_setCell _ _ _ _ (by simp;omega)];exact HQ.out
 have q3:=setCell0 (v:=.slice ao R.1.length cap) q2
 have q4:=setCell1 (v:=.int .i64 R.2) q3
 refine bodyPost_ret (results_cell_row rfl _ _ w.heap.size 146 _ (0,0) _ rfl q4 Tryz.underlying146 rfl (by kernel_rfl)) rfl ?_
 have kS:Kp 293 w1 ((W2.setCell ⟨w.heap.size,0,none⟩ (.slice ao R.1.length cap)).setCell ⟨w.heap.size,1,none⟩ (.int .i64 R.2)):=by
  have k1:Kp 293 w1 W2:=by rw [hW2];exact (Kp.refl _ _).setCell HM.out (by decide) _
  exact (k1.setCell q2 (by decide) _).setCell q3 (by decide) _
 have kI:Kp 3 w1 ((W2.setCell ⟨w.heap.size,0,none⟩ (.slice ao R.1.length cap)).setCell ⟨w.heap.size,1,none⟩ (.int .i64 R.2)):=by
  have k1:Kp 3 w1 W2:=by rw [hW2];exact (Kp.refl _ _).setCell HM.out (by decide) _
  exact (k1.setCell q2 (by decide) _).setCell q3 (by decide) _
 have hr:=HR.out
 refine ⟨_,tv,rfl,⟨hr.len,?_,fun i v s hv hs=>?_,hr.apart⟩,?_⟩
 ·exact row_base (row_kp hr.row kS) (by omega)
 ·exact row_base (row_kp (hr.to_ i v s hv hs) kI) (by omega)
 ·have b0:Below w.heap.size w (w.alloc (.cells #[.slice none 0 0,.int .i64 0] 146)):=below_alloc _ _
  have b1:Below w.heap.size w W2:=by
   rw [hW2]
   exact ((b0.trans (HB.out.mono (by omega))).trans (h4.mono (by omega))).setCell (by simp;omega) _
  exact (b1.setCell (Nat.le_refl _) _).setCell (Nat.le_refl _) _
theorem heap_of_cell {w:World} {b o:Nat} {v:Value} (h:w.cell? ⟨b,o,none⟩=some v):b<w.heap.size:=World.block_lt_of_cell? w _ h
def From (N:Nat):Nat->Prop:=fun k=>N<=k
theorem PIn.up {N d:Nat} {w w':World} {v:Value} {x:Px} (h:PIn d (From N) w v x) (hb:Below w.heap.size w w'):PIn d (From N) w' v x:=h.turn (KeepPt.below hb fun _ hk _=>hk) fun _ _ h=>h
theorem PtRow.up {N d:Nat} {w w':World} {v:Value} {l:List Px} (h:PtRow (PIn d (From N) w) (From N) w v l) (hb:Below w.heap.size w w'):PtRow (PIn d (From N) w') (From N) w' v l:=h.turn (KeepPt.below hb fun _ hk _=>hk) (fun _ _ h=>h) fun _ _ h=>h.up hb
theorem PIn.from {N M d:Nat} {w:World} {v:Value} {x:Px} (h:PIn d (From N) w v x) (hm:M<=N):PIn d (From M) w v x:=h.turn (KeepPt.refl _ _) fun _ _ h=>Nat.le_trans hm h
theorem PIn.fn {d:Nat} {A:Nat->Prop} {w:World} {v:Value} {x:Px} (h:PIn d A w v x):∃ f q,v=fnv f q:=by
 cases d with
 | zero=>exact h.elim
 | succ d =>
  obtain ⟨q,_,h⟩:=h
  rcases h with ⟨_,h,_⟩ | ⟨_,h,_⟩ | ⟨_,h,_⟩ | ⟨_,h,_⟩ | ⟨_,h,_⟩
  all_goals exact ⟨_,q,h⟩
set_option maxHeartbeats 1000000 in
theorem one_any (k:Nat) (hk:k<256) (w:World) :
  Calls Tryz.prog 254 #[.int .u8 k] w fun e w'=>∃ v,e=.returned v/\PIn 1 (From w.heap.size) w' v (oneP k)/\Below w.heap.size w w':=by
 go_enter Tryz.func254,Tryz.ntmps254
 go_wp2
 go_ret
 exact ⟨_,rfl,⟨w.heap.size,Nat.le_refl _,Or.inl ⟨rfl,rfl,heap_alloc_new _ _,hk⟩⟩,below_alloc _ _⟩
set_option maxHeartbeats 1000000 in
theorem rowp_any (N d:Nat) (l:List Px) (v:Value) (w:World) (h:PtRow (PIn d (From N) w) (From N) w v l) (hN:N<=w.heap.size) :
  Calls Tryz.prog 174 #[v] w fun e w'=>∃ u,e=.returned u/\PIn (d+1) (From N) w' u (rowP l)/\Below w.heap.size w w':=by
 obtain ⟨ao,cap,rfl,_⟩:=h.form
 have HH:Hid (PtRow (PIn d (From N) w) (From N) w (.slice ao l.length cap) l):=h
 clear h
 go_enter Tryz.func174,Tryz.ntmps174
 go_wp2
 go_ret
 exact ⟨_,rfl,⟨w.heap.size,hN,Or.inr (Or.inl ⟨rfl,rfl,_,heap_alloc_new _ _,HH.out.up (below_alloc _ _)⟩)⟩,below_alloc _ _⟩
theorem eitherP_one (x:Px):eitherP [x]=x:=rfl
theorem eitherP_ne (l:List Px) (h:l.length ≠ 1):eitherP l=⟨2,0,l⟩:=by
 unfold eitherP
 split
 ·simp at h
 ·rfl
set_option maxHeartbeats 1000000 in
theorem eitherp_any (N d:Nat) (l:List Px) (v:Value) (w:World) (h:PtRow (PIn d (From N) w) (From N) w v l) (hN:N<=w.heap.size) :
  Calls Tryz.prog 208 #[v] w fun e w'=>∃ u,e=.returned u/\PIn (d+1) (From N) w' u (eitherP l)/\Below w.heap.size w w':=by
 have hlen:=h.len
 obtain ⟨ao,cap,rfl,hcs⟩:=h.form
 have HH:Hid (PtRow (PIn d (From N) w) (From N) w (.slice ao l.length cap) l):=h
 clear h
 by_cases h1:l.length=1
 ·obtain ⟨x,rfl⟩:∃ x,l=[x]:=List.length_eq_one_iff.1 h1
  obtain ⟨g,u,rfl,hg,hu,hp⟩:=hcs 0 (by simp)
  rw [eitherP_one]
  have HP:Hid (PIn d (From N) w u x):=hp
  have hu':∀ o,(w.alloc o).cell? ⟨g,0,none⟩=some u:=fun o=>((below_alloc w o).cell (p:=⟨g,0,none⟩) (heap_of_cell hu)).trans hu
  clear hcs hp h1
  go_enter Tryz.func208,Tryz.ntmps208
  go_wp2
  go_ret
  exact ⟨u,rfl,(HP.out.up (below_alloc _ _)).deeper (by omega),below_alloc _ _⟩
 ·have h2:((l.length:Int) == 1)=false:=by rw [beq_eq_false_iff_ne];omega
  rw [eitherP_ne l h1]
  clear h1 hcs
  go_enter Tryz.func208,Tryz.ntmps208
  go_wp2
  go_ret
  exact ⟨_,rfl,⟨w.heap.size,hN,Or.inr (Or.inr (Or.inl ⟨rfl,rfl,_,heap_alloc_new _ _,HH.out.up (below_alloc _ _)⟩))⟩,below_alloc _ _⟩
set_option maxHeartbeats 1000000 in
theorem star_any (N d:Nat) (x:Px) (u:Value) (w:World) (h:PIn d (From N) w u x) (hN:N<=w.heap.size) :
  Calls Tryz.prog 242 #[u] w fun e w'=>∃ v,e=.returned v/\PIn (d+1) (From N) w' v (starP x)/\Below w.heap.size w w':=by
 obtain ⟨f,q,rfl⟩:=h.fn
 have HH:Hid (PIn d (From N) w (fnv f q) x):=h
 clear h
 unfold fnv
 go_enter Tryz.func242,Tryz.ntmps242
 go_wp2
 go_ret
 exact ⟨_,rfl,⟨w.heap.size,hN,Or.inr (Or.inr (Or.inr (Or.inl ⟨rfl,rfl,_,x,rfl,heap_alloc_new _ _,HH.out.up (below_alloc _ _)⟩)))⟩,below_alloc _ _⟩
set_option maxHeartbeats 1000000 in
theorem plus_any (N d:Nat) (x:Px) (u:Value) (w:World) (h:PIn d (From N) w u x) (hN:N<=w.heap.size) :
  Calls Tryz.prog 243 #[u] w fun e w'=>∃ v,e=.returned v/\PIn (d+1) (From N) w' v (plusP x)/\Below w.heap.size w w':=by
 obtain ⟨f,q,rfl⟩:=h.fn
 have HH:Hid (PIn d (From N) w (fnv f q) x):=h
 clear h
 unfold fnv
 go_enter Tryz.func243,Tryz.ntmps243
 go_wp2
 go_ret
 exact ⟨_,rfl,⟨w.heap.size,hN,Or.inr (Or.inr (Or.inr (Or.inr ⟨rfl,rfl,_,x,rfl,heap_alloc_new _ _,HH.out.up (below_alloc _ _)⟩)))⟩,below_alloc _ _⟩
theorem PtRow_nil (R:Value->Px->Prop) (A:Nat->Prop) (w:World):PtRow R A w (.slice none 0 0) []:=⟨[],rfl,by simp,World.ownsRow_nil _ _ _ _,fun k e=>by simp [Value.ownBlock] at e,fun i u x hu=>by simp at hu⟩
set_option maxHeartbeats 1000000 in
theorem maybe_any (N d:Nat) (x:Px) (u:Value) (w:World) (h:PIn (d+1) (From N) w u x) (hN:N<=w.heap.size) :
  Calls Tryz.prog 244 #[u] w fun e w'=>∃ v,e=.returned v/\PIn (d+2) (From N) w' v (maybeP x)/\Below w.heap.size w w':=by
 obtain ⟨f,q,rfl⟩:=h.fn
 have HH:Hid (PIn (d+1) (From N) w (fnv f q) x):=h
 clear h
 unfold fnv
 go_enter Tryz.func244,Tryz.ntmps244
 go_wp2_with fail
 refine (rowp_any N d [] (.slice none 0 0) w (PtRow_nil _ _ _) hN).mono ?_
 rintro e1 w1 ⟨r,rfl,hr,hb⟩
 obtain ⟨f',q',rfl⟩:=hr.fn
 have HR:Hid (PIn (d+1) (From N) w1 (fnv f' q') (rowP [])):=hr
 clear hr
 unfold fnv
 have hs:=hb.size
 go_wp2_with fail
 refine (eitherp_any N (d+1) [x,rowP []] _ _ ?_ (Nat.le_trans hN (Nat.le_trans hs (below_alloc w1 _).size))).mono ?_
 ·refine ⟨[fnv f q,fnv f' q'],rfl,by simp,⟨rfl,Or.inr ⟨w1.heap.size,2,#[fnv f q,fnv f' q'],rfl,Nat.zero_le _,heap_alloc_new _ _,Nat.le_refl _,by decide,rfl,rfl⟩⟩,fun k e=>?_,?_⟩
  ·simp [Value.ownBlock] at e;subst e;exact Nat.le_trans hN hs
  ·intro i y z hy hz
   cases i with
   | zero=>simp at hy hz;subst hy;subst hz;exact (HH.out.up hb).up (below_alloc _ _)
   | succ i=>cases i with
    | zero=>simp at hy hz;subst hy;subst hz;exact HR.out.up (below_alloc _ _)
    | succ i=>simp at hy
 ·rintro e2 w2 ⟨v,rfl,hv,hb2⟩
  have HV:Hid (PIn (d+2) (From N) w2 v (eitherP [x,rowP []])):=hv
  clear hv
  go_wp2_with fail
  go_ret
  refine ⟨v,rfl,HV.out,?_⟩
  exact (hb.trans ((below_alloc w1 _).mono hs)).trans (hb2.mono (Nat.le_trans hs (below_alloc w1 _).size))
end Go.Proofs.YtodagkkjfipbgaaGreatDoor
