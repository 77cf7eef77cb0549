import Derived.WalkKit
import Derived.WalkSpells
import Derived.WalkLawsBesides
import Derived.BigQuiet
import Derived.Deep.QuietTactic
import Derived.Deep.LoopGhost
import Derived.Test.YtodagkkjfipbgaaGreatDoorProg
import Derived.KernelRfl
import Derived.Deep.DeepCutAuto
import Derived.Deep.CutBlock
namespace Go.Proofs.YtodagkkjfipbgaaGreatDoor
open Go.RowKit
structure Chg (p:Nat->Prop) (w w':World):Prop where
 os:w'.os=w.os
 tape:w'.tape=w.tape
 output:w'.output=w.output
 size:w.heap.size<=w'.heap.size
 block:∀ k,k<w.heap.size->¬ p k->w'.heap[k]?=w.heap[k]?
theorem Chg.refl (p:Nat->Prop) (w:World):Chg p w w:=⟨rfl,rfl,rfl,Nat.le_refl _,fun _ _ _=>rfl⟩
theorem Chg.trans {p:Nat->Prop} {a b c:World} (h:Chg p a b) (k:Chg p b c):Chg p a c :=
 ⟨k.os.trans h.os,k.tape.trans h.tape,k.output.trans h.output,Nat.le_trans h.size k.size,
  fun i hi hp=>(k.block i (Nat.lt_of_lt_of_le hi h.size) hp).trans (h.block i hi hp)⟩
theorem Chg.mono {p q:Nat->Prop} {a b:World} (h:Chg p a b) (hpq:∀ k,k<a.heap.size->p k->q k):Chg q a b :=
 ⟨h.os,h.tape,h.output,h.size,fun i hi hq=>h.block i hi (fun hp=>hq (hpq i hi hp))⟩
theorem Chg.drew {p:Nat->Prop} {a w:World} (h:Chg p a w):Chg p a w.drew:=⟨h.os,h.tape,h.output,h.size,h.block⟩
theorem Chg.drewN {p:Nat->Prop} {a w:World} (h:Chg p a w) (n:Nat):Chg p a (w.drewN n):=⟨h.os,h.tape,h.output,h.size,h.block⟩
theorem Chg.alloc {p:Nat->Prop} {a w:World} (h:Chg p a w) (o:Obj):Chg p a (w.alloc o) :=
 h.trans ⟨rfl,rfl,rfl,by simp,fun k hk _=>Below.heap_alloc _ _ _ hk⟩
theorem Chg.setCell {p:Nat->Prop} {a w:World} (h:Chg p a w) {q:Addr} (hq:a.heap.size<=q.block\/p q.block) (u:Value):Chg p a (w.setCell q u) :=
 ⟨h.os,h.tape,h.output,by have:=h.size;simpa [World.setCell] using this,fun k hk hp=>by
  have hne:k ≠ q.block:=by
   intro e
   rcases hq with hq | hq
   ·omega
   ·exact hp (e ▸ hq)
  rw [Below.heap_setCell _ _ _ _ hne];exact h.block k hk hp⟩
theorem Chg.set1 {b o:Nat} {a w:World} (h:Chg (fun k=>k=b) a w) (u:Value):Chg (fun k=>k=b) a (w.setCell ⟨b,o,none⟩ u):=h.setCell (q:=⟨b,o,none⟩) (Or.inr rfl) u
theorem Chg.below {p:Nat->Prop} {a w:World} (h:Chg p a w) {B:Nat} (hB:B<=a.heap.size) (hp:∀ k,k<B->¬ p k):Below B a w :=
 ⟨h.os,h.tape,h.output,h.size,fun k hk=>h.block k (Nat.lt_of_lt_of_le hk hB) (hp k hk)⟩
theorem Chg.of_below {p:Nat->Prop} {a w:World} (h:Below a.heap.size a w):Chg p a w:=⟨h.os,h.tape,h.output,h.size,fun k hk _=>h.block k hk⟩
theorem Chg.grown {p:Nat->Prop} {a w w':World} {row:Option Nat} (h:Chg p a w) (hg:w.grownBy w' row) (hr:∀ k,row=some k->a.heap.size<=k\/p k):Chg p a w' :=
 ⟨hg.os.trans h.os,hg.tape.trans h.tape,hg.output.trans h.output,Nat.le_trans h.size hg.size,fun k hk hp=>by
  rw [hg.block k (Nat.lt_of_lt_of_le hk h.size) (fun e=>by
   rcases hr k e.symm with h1 | h1
   ·omega
   ·exact hp h1)];exact h.block k hk hp⟩
theorem cell_of_block {w:World} {b:Nat} {cs:Array Value} {t:TypeId} (h:w.heap[b]?=some (.cells cs t (0,0))) (o:Nat) (v:Value) (hv:cs[o]?=some v):w.cell? ⟨b,o,none⟩=some v:=by
 simp [World.cell?,h,hv]
theorem free_of_block {w:World} {b:Nat} {cs:Array Value} {t:TypeId} (h:w.heap[b]?=some (.cells cs t (0,0))) (o:Nat):w.frozen? ⟨b,o,none⟩=false:=by
 simp [World.frozen?,h]
theorem block_setCell {w:World} {b:Nat} {cs:Array Value} {t:TypeId} (h:w.heap[b]?=some (.cells cs t (0,0))) (o:Nat) (u:Value) :
  (w.setCell ⟨b,o,none⟩ u).heap[b]?=some (.cells (cs.setIfInBounds o u) t (0,0)):=by
 simp [World.setCell,Array.getElem?_modify,h]
theorem ret_bool {a b:Bool} (h:a=b):Ending.returned (.bool a)=.returned (.bool b):=by rw [h]
theorem ret_int {k:IntKind} {a b:Int} (h:a=b):Ending.returned (.int k a)=.returned (.int k b):=by rw [h]
def letterN (c:Nat):Bool:=decide (97<=c/\c<=122) || decide (65<=c/\c<=90) || decide (48<=c/\c<=57)
def blankN (c:Nat):Bool:=decide (c=32) || decide (c=10)
def at0 (T:ByteArray) (i:Nat):Nat:=if h:i<T.size then (T[i]'h).toNat else 0
def skipF (T:ByteArray):Nat->Nat->Nat
 | 0,i=>i
 | n+1,i=>if blankN (at0 T i)=true then skipF T n (i+1) else i
def skip (T:ByteArray) (i:Nat):Nat:=skipF T (T.size - i) i
def wordF (T:ByteArray):Nat->Nat->Nat
 | 0,i=>i
 | n+1,i=>if letterN (at0 T i)=true then wordF T n (i+1) else i
def wordEnd (T:ByteArray) (i:Nat):Nat:=wordF T (T.size - i) i
def tokEnd (T:ByteArray) (i:Nat):Nat:=if wordEnd T i=i/\i<T.size then i+1 else wordEnd T i
def tok (T:ByteArray) (i:Nat):ByteArray:=T.extract (skip T i) (tokEnd T (skip T i))
theorem skip_go {T:ByteArray} {i:Nat} (h:i<T.size) (hb:blankN (at0 T i)=true):skip T i=skip T (i+1):=by
 unfold skip;rw [show T.size - i=(T.size - (i+1))+1 from by omega,skipF,if_pos hb]
theorem skip_stop {T:ByteArray} {i:Nat} (h:T.size<=i\/blankN (at0 T i)=false):skip T i=i:=by
 unfold skip
 by_cases hi:i<T.size
 ·have hb:blankN (at0 T i)=false:=by
   rcases h with h | h
   ·omega
   ·exact h
  rw [show T.size - i=(T.size - (i+1))+1 from by omega,skipF,if_neg (by simp [hb])]
 ·rw [show T.size - i=0 from by omega,skipF]
theorem skipF_le (T:ByteArray) (n i:Nat):i<=skipF T n i/\skipF T n i<=i+n:=by
 induction n generalizing i with
 | zero=>simp [skipF]
 | succ n ih=>rw [skipF];split
              ·have:=ih (i+1);omega
              ·omega
theorem skip_le (T:ByteArray) (i:Nat):i<=skip T i/\(i<=T.size->skip T i<=T.size):=by
 have:=skipF_le T (T.size - i) i;unfold skip;omega
theorem word_go {T:ByteArray} {i:Nat} (h:i<T.size) (hb:letterN (at0 T i)=true):wordEnd T i=wordEnd T (i+1):=by
 unfold wordEnd;rw [show T.size - i=(T.size - (i+1))+1 from by omega,wordF,if_pos hb]
theorem word_stop {T:ByteArray} {i:Nat} (h:T.size<=i\/letterN (at0 T i)=false):wordEnd T i=i:=by
 unfold wordEnd
 by_cases hi:i<T.size
 ·have hb:letterN (at0 T i)=false:=by
   rcases h with h | h
   ·omega
   ·exact h
  rw [show T.size - i=(T.size - (i+1))+1 from by omega,wordF,if_neg (by simp [hb])]
 ·rw [show T.size - i=0 from by omega,wordF]
theorem wordF_le (T:ByteArray) (n i:Nat):i<=wordF T n i/\wordF T n i<=i+n:=by
 induction n generalizing i with
 | zero=>simp [wordF]
 | succ n ih=>rw [wordF];split
              ·have:=ih (i+1);omega
              ·omega
theorem word_le (T:ByteArray) (i:Nat):i<=wordEnd T i/\(i<=T.size->wordEnd T i<=T.size):=by
 have:=wordF_le T (T.size - i) i;unfold wordEnd;omega
theorem tokEnd_le (T:ByteArray) (i:Nat):i<=tokEnd T i/\(i<=T.size->tokEnd T i<=T.size)/\(i<T.size->i<tokEnd T i):=by
 have:=word_le T i;unfold tokEnd;split <;> omega
theorem Tryz.infoStr:(Tryz.prog.info? 9).map (fun i=>(i.zero,i.size,i.bytes))=some (some (.string ⟨#[]⟩),1,16):=by kernel_rfl
theorem Tryz.undStr:Tryz.prog.underlying 30=some (.slice 9):=by kernel_rfl
def rcell (T:ByteArray) (at_ err place:Int) (vN vS vL:Value) (atoms nest:Int):Array Value :=
 #[.string T,.int .i64 at_,.int .i64 err,.int .i64 place,vN,vS,vL,.int .i64 atoms,.int .i64 nest,.slice none 0 0,.slice none 0 0]
theorem at0_eq {T:ByteArray} {i:Nat} (h:i<T.size):at0 T i=(T[i]'h).toNat:=by simp [at0,h]
structure Rx where
 what:Nat
 kinds:Int
 l:List Rx
 form:ByteArray
def lit (l:List UInt8):ByteArray:=⟨l.toArray⟩
def neverX:Rx:=⟨122,0,[],lit [48]⟩
def emptyX:Rx:=⟨101,0,[],lit [49]⟩
def seqX (a b:Rx):Rx:=⟨115,0,[a,b],⟨#[40]⟩++a.form++b.form++⟨#[41]⟩⟩
def rowX:Nat->Rx->Rx->Rx
 | 0,_,_=>neverX
 | n+1,a,b =>
  if a.what=122\/b.what=122 then neverX
  else if a.what=101 then b
  else if b.what=101 then a
  else if a.what=115 then rowX n (a.l.getD 0 neverX) (rowX n (a.l.getD 1 neverX) b)
  else seqX a b
def leF (a b:ByteArray):Bool:=Op.bytesLess a.toList b.toList || a.toList == b.toList
def amongX:List Rx->Rx->List Rx
 | [],a=>[a]
 | x :: r,a=>if leF a.form x.form=true then (if (a.form.toList == x.form.toList)=true then x :: r else a :: x :: r) else x :: amongX r a
def gatherX (l:List Rx) (x:Rx):List Rx:=if x.what=97 then x.l.foldl amongX l else if x.what=122 then l else amongX l x
def formsX (l:List Rx):ByteArray:=l.foldl (fun s x=>s++⟨#[47]⟩++x.form) ⟨#[]⟩
def eitherX (a b:Rx):Rx :=
 let l:=gatherX (gatherX [] a) b
 match l with
 | []=>neverX
 | [x]=>x
 | l=>⟨97,0,l,⟨#[123]⟩++formsX l++⟨#[125]⟩⟩
def manyX (a:Rx):Rx :=
 if a.what=122\/a.what=101 then emptyX else if a.what=109 then a else ⟨109,0,[a],⟨#[60]⟩++a.form++⟨#[62]⟩⟩
def itoaB (n:Nat):ByteArray :=
 if n<10 then lit [UInt8.ofNat (48+n)] else if n<100 then lit [UInt8.ofNat (48+n / 10),UInt8.ofNat (48+n % 10)] else lit [UInt8.ofNat (48+n / 100),UInt8.ofNat (48+n / 10 % 10),UInt8.ofNat (48+n % 10)]
def charX (k:Nat):Rx:=⟨99,k,[],⟨#[91]⟩++itoaB k++⟨#[93]⟩⟩
def rowR (a b:Rx):Rx:=rowX (a.form.size+1) a b
def sizesX (l:List Rx):Nat:=(l.map fun x=>x.form.size+1).sum
def ReRow (R:Value->Rx->Prop) (base:Nat) (w:World) (v:Value) (l:List Rx):Prop :=
 ∃ us:List Value,us.length=l.length/\w.ownsRow base 178 1 v l.length us/\∀ (i:Nat) (u:Value) (x:Rx),us[i]?=some u->l[i]?=some x->R u x
def IsRe:Nat->World->Value->Rx->Prop
 | 0,_,_,_=>False
 | d+1,w,v,x=>∃ p vL,v=.pointer (some ⟨p,0,none⟩)/\w.heap[p]?=some (.cells #[.int .u8 x.what,.int .i64 x.kinds,vL,.string x.form] 204 (0,0)) /\
   ReRow (IsRe d w) 0 w vL x.l/\x.what<256/\(x.what=115->x.l.length=2)/\(x.what=115\/x.what=97->sizesX x.l<=x.form.size)
def KeepRe (w w':World):Prop:=∀ (k:Nat) (cs:Array Value) (t:TypeId) (m:Nat × Nat),(t=204\/t=178)->w.heap[k]?=some (.cells cs t m)->w'.heap[k]?=some (.cells cs t m)
theorem KeepRe.refl (w:World):KeepRe w w:=fun _ _ _ _ _ h=>h
theorem KeepRe.trans {a b c:World} (h:KeepRe a b) (k:KeepRe b c):KeepRe a c:=fun i cs t m ht hh=>k i cs t m ht (h i cs t m ht hh)
theorem KeepRe.drew (w:World):KeepRe w w.drew:=fun _ _ _ _ _ h=>h
theorem KeepRe.drewN (w:World) (n:Nat):KeepRe w (w.drewN n):=fun _ _ _ _ _ h=>h
theorem KeepRe.of_below {w w':World} (h:Below w.heap.size w w'):KeepRe w w':=fun k cs t m _ hh=>by
 rw [h.block k (Array.getElem?_eq_some_iff.1 hh).1];exact hh
theorem KeepRe.of_chg {p:Nat->Prop} {w w':World} (h:Chg p w w') (hp:∀ k cs t m,p k->w.heap[k]?=some (.cells cs t m)->t ≠ 204/\t ≠ 178):KeepRe w w':=fun k cs t m ht hh=>by
 rw [h.block k (Array.getElem?_eq_some_iff.1 hh).1 (fun hpk=>by have:=hp k cs t m hpk hh;rcases ht with rfl | rfl <;> simp at this)];exact hh
theorem ownsRow_keep {w w':World} {base:Nat} {v:Value} {n:Nat} {us:List Value} (h:w.ownsRow base 178 1 v n us) (hk:KeepRe w w'):w'.ownsRow base 178 1 v n us:=by
 obtain ⟨h1,h2⟩:=h
 refine ⟨h1,?_⟩
 rcases h2 with h2 | ⟨g,cap,cur,hv,hg,hh,r⟩
 ·exact Or.inl h2
 ·exact Or.inr ⟨g,cap,cur,hv,hg,hk _ _ _ _ (Or.inr rfl) hh,r⟩
theorem ownsRow_base {w:World} {base base':Nat} {e:TypeId} {size:Nat} {v:Value} {n:Nat} {us:List Value} (h:w.ownsRow base e size v n us) (hb:base'<=base):w.ownsRow base' e size v n us:=by
 obtain ⟨h1,h2⟩:=h
 refine ⟨h1,?_⟩
 rcases h2 with h2 | ⟨g,cap,cur,hv,hg,r⟩
 ·exact Or.inl h2
 ·exact Or.inr ⟨g,cap,cur,hv,Nat.le_trans hb hg,r⟩
theorem ReRow.keep {R R':Value->Rx->Prop} {base:Nat} {w w':World} {v:Value} {l:List Rx} (h:ReRow R base w v l) (hk:KeepRe w w') (hR:∀ u x,R u x->R' u x):ReRow R' base w' v l:=by
 obtain ⟨us,h1,h2,h3⟩:=h
 exact ⟨us,h1,ownsRow_keep h2 hk,fun i u x hu hx=>hR _ _ (h3 i u x hu hx)⟩
theorem ReRow.mono {R R':Value->Rx->Prop} {base base':Nat} {w:World} {v:Value} {l:List Rx} (h:ReRow R base w v l) (hb:base'<=base) (hR:∀ u x,R u x->R' u x):ReRow R' base' w v l:=by
 obtain ⟨us,h1,h2,h3⟩:=h
 exact ⟨us,h1,ownsRow_base h2 hb,fun i u x hu hx=>hR _ _ (h3 i u x hu hx)⟩
theorem IsRe.keep {d:Nat} {w w':World} (hk:KeepRe w w'):∀ {v x},IsRe d w v x->IsRe d w' v x:=by
 induction d with
 | zero=>intro v x h;exact h.elim
 | succ d ih =>
  intro v x h
  obtain ⟨p,vL,hv,hp,hr,h4,h5,h6⟩:=h
  exact ⟨p,vL,hv,hk _ _ _ _ (Or.inl rfl) hp,hr.keep hk (fun u x hu=>ih hu),h4,h5,h6⟩
theorem IsRe.mono {d e:Nat} {w:World} (hde:d<=e):∀ {v x},IsRe d w v x->IsRe e w v x:=by
 induction d generalizing e with
 | zero=>intro v x h;exact h.elim
 | succ d ih =>
  intro v x h
  obtain ⟨p,vL,hv,hp,hr,h4,h5,h6⟩:=h
  cases e with
  | zero=>omega
  | succ e=>exact ⟨p,vL,hv,hp,hr.mono (Nat.le_refl _) (fun u x hu=>ih (by omega) hu),h4,h5,h6⟩
theorem IsRe.open {d:Nat} {w:World} {v:Value} {x:Rx} (h:IsRe d w v x):∃ p vL e,d=e+1/\v=.pointer (some ⟨p,0,none⟩)/\w.cell? ⟨p,0,none⟩=some (.int .u8 x.what)/\w.cell? ⟨p,1,none⟩=some (.int .i64 x.kinds) /\
  w.cell? ⟨p,2,none⟩=some vL/\w.cell? ⟨p,3,none⟩=some (.string x.form)/\p<w.heap.size/\ReRow (IsRe e w) 0 w vL x.l/\x.what<256/\(x.what=115->x.l.length=2)/\(x.what=115\/x.what=97->sizesX x.l<=x.form.size):=by
 cases d with
 | zero=>exact h.elim
 | succ d =>
  obtain ⟨p,vL,hv,hp,hr,h4,h5,h6⟩:=h
  exact ⟨p,vL,d,rfl,hv,cell_of_block hp _ _ rfl,cell_of_block hp _ _ rfl,cell_of_block hp _ _ rfl,cell_of_block hp _ _ rfl,(Array.getElem?_eq_some_iff.1 hp).1,hr,h4,h5,h6⟩
theorem ReRow.form {R:Value->Rx->Prop} {base:Nat} {w:World} {v:Value} {l:List Rx} (h:ReRow R base w v l) :
  ∃ ao cap,v=.slice ao l.length cap/\∀ i (hi:i<l.length),∃ g u,ao=some ⟨g,0,none⟩/\w.cell? ⟨g,i,none⟩=some u/\R u l[i]:=by
 obtain ⟨us,h1,⟨h2,h3⟩,h4⟩:=h
 rcases h3 with ⟨hv,hn⟩ | ⟨g,cap,cur,hv,hg,hh,hcap,hmx,hsz,hcur⟩
 ·exact ⟨none,0,by rw [hv,hn],fun i hi=>by omega⟩
 ·refine ⟨some ⟨g,0,none⟩,cap,hv,fun i hi=>?_⟩
  obtain ⟨u,hu⟩:∃ u,us[i]?=some u:=⟨us[i]'(by omega),List.getElem?_eq_getElem (by omega)⟩
  refine ⟨g,u,rfl,?_,h4 i _ _ hu (List.getElem?_eq_getElem hi)⟩
  refine cell_of_block hh i _ ?_
  rw [<- hcur,List.getElem?_take,if_pos (by omega)] at hu
  simpa using hu
structure RS where
 at_:Nat
 err:Int
 place:Int
 names:List ByteArray
 spans:List (Int × Int × Int)
 L:List (Bool × Rx × Rx)
 atoms:Int
 nest:Int
def nameL (l:List UInt8):Bool :=
 if l=[]\/l=[99,108,97,115,115]\/l=[99,117,116]\/l=[106,111,105,110]\/l=[97,110,121]\/l=[111,116,104,101,114]\/l=[98,97,100] then false
 else letterN (l.headD 0).toNat
def clsIx (names:List ByteArray) (l:List UInt8):Int :=
 match names.findIdx? (fun x=>x.toList == l) with
 | some i=>i
 | none=>-1
namespace RS
def tk (T:ByteArray) (s:RS):List UInt8:=(tok T s.at_).toList
def pos (T:ByteArray) (s:RS):Nat:=skip T s.at_
def fail (s:RS) (e p:Int):RS:=if s.err=0 then { s with err:=e,place:=p } else s
def peek (T:ByteArray) (s:RS):RS:={ s with at_:=skip T s.at_ }
def take (T:ByteArray) (s:RS):RS:={ s with at_:=tokEnd T (skip T s.at_) }
def want (T:ByteArray) (s:RS) (l:List UInt8):RS:=if s.tk T=l then s.take T else (s.take T).fail 2 (s.pos T)
def dig (c:Nat):Option Int :=
 if 48<=c/\c<=57 then some ((c:Int) - 48) else if 97<=c/\c<=102 then some ((c:Int) - 97+10) else if 65<=c/\c<=70 then some ((c:Int) - 65+10) else none
def hexN (l:List UInt8):Int:=l.foldl (fun n c=>match dig c.toNat with | some d=>16 * n+d | none=>n) 0
def hexOk (l:List UInt8):Bool:=l.all fun c=>(dig c.toNat).isSome
def hexV (l:List UInt8):Int:=if 6<l.length then 0 else hexN l
def hex (T:ByteArray) (s:RS):RS :=
 let l:=s.tk T
 let s1:=s.take T
 if 6<l.length then s1.fail 2 (s.pos T)
 else
  let s2:=if hexOk l=true/\l ≠ [] then s1 else s1.fail 2 (s.pos T)
  if 1114111<hexN l then s2.fail 5 (s.pos T) else s2
def meets (a b:Int) (l:List (Int × Int × Int)):Bool:=l.any fun o=>decide (a<=o.2.1) && decide (o.1<=b)
def badSpan (a b:Int) (l:List (Int × Int × Int)):Bool:=decide (b<a) || (decide (a<=57343) && decide (55296<=b)) || meets a b l
def addSpan (s:RS) (a b p:Int):RS :=
 let s1:=if badSpan a b s.spans=true then s.fail 5 p else s
 { s1 with spans:=s1.spans++[(a,b,(s1.names.length:Int) - 1)] }
def span (T:ByteArray) (s:RS):RS :=
 let a:=hexV (s.tk T)
 let s1:=(s.hex T).peek T
 if s1.err=0/\s1.tk T=[45] then
  let s2:=s1.take T
  (s2.hex T).addSpan a (hexV (s2.tk T)) (s2.pos T)
 else s1.addSpan a a (s.pos T)
def spansL (T:ByteArray):Nat->RS->RS
 | 0,s=>s
 | g+1,s =>
  if s.err ≠ 0 then s
  else
   let s1:=s.span T
   if s1.err ≠ 0 then s1
   else
    let l:=s1.tk T
    let s2:=s1.take T
    if l=[59] then s2 else if l=[44] then spansL T g s2 else spansL T g (s2.fail 2 (s1.pos T))
def classes (T:ByteArray) (s:RS):RS :=
 let s1:=s.take T
 if s1.names.length=6 then s1.fail 6 (s.pos T)
 else
  let l:=s1.tk T
  let p:=s1.pos T
  let s2:=s1.take T
  let s3:=if nameL l=true then s2 else s2.fail 2 p
  let s4:=if 0<=clsIx s3.names l then s3.fail 4 p else s3
  let s5:={ s4 with names:=s4.names++[tok T s1.at_] }
  let s6:=if s5.err=0 then s5.want T [61] else s5
  spansL T (T.size+2) s6
def kindsOf (s:RS) (l:List UInt8):Nat :=
 if 0<=clsIx s.names l then 2 ^ (clsIx s.names l).toNat
 else if l=[97,110,121] then 2 ^ (s.names.length+2) - 1
 else if l=[111,116,104,101,114] then 2 ^ s.names.length
 else if l=[98,97,100] then 2 ^ (s.names.length+1)
 else 0
def leafErr (s:RS) (l:List UInt8) (p:Int):RS :=
 if 0<=clsIx s.names l\/l=[97,110,121]\/l=[111,116,104,101,114]\/l=[98,97,100] then s else if nameL l=true then s.fail 3 p else s.fail 2 p
def leafMany (s:RS) (p:Int):RS :=
 let s1:=if s.atoms=4 then s.fail 6 p else s
 { s1 with atoms:=s1.atoms+1 }
def atomLeaf (T:ByteArray) (s:RS):RS × Rx :=
 (((s.take T).leafErr (s.tk T) (s.pos T)).leafMany (s.pos T),charX ((s.take T).kindsOf (s.tk T)))
def closeB (T:ByteArray) (s:RS):RS :=
 let s2:={ s with nest:=s.nest - 1 }
 if s2.err=0 then s2.want T [41] else s2
def atom (T:ByteArray) (sub:RS->RS × Rx) (s:RS):RS × Rx :=
 if s.tk T=[40] then
  if s.nest=4 then ((s.take T).fail 6 (s.pos T),neverX)
  else ((sub { s.take T with nest:=s.nest+1 }).1.closeB T,(sub { s.take T with nest:=s.nest+1 }).2)
 else s.atomLeaf T
def suffix (T:ByteArray) (s:RS) (e:Rx):RS × Rx :=
 let l:=s.tk T
 if l=[42] then ((s.peek T).take T,manyX e) else if l=[43] then ((s.peek T).take T,rowR e (manyX e)) else if l=[63] then ((s.peek T).take T,eitherX e emptyX) else (s.peek T,e)
def part (T:ByteArray) (sub:RS->RS × Rx) (s:RS):RS × Rx :=
 if (s.atom T sub).1.err ≠ 0 then s.atom T sub else suffix T (s.atom T sub).1 (s.atom T sub).2
def moreL (l:List UInt8):Bool:=decide (l=[40]) || (decide (l ≠ []) && letterN (l.headD 0).toNat)
def rowL (T:ByteArray) (sub:RS->RS × Rx):Nat->RS->Rx->RS × Rx
 | 0,s,e=>(s,e)
 | g+1,s,e =>
  if s.err ≠ 0 then (s,e)
  else if moreL (s.tk T)=true then rowL T sub g ((s.peek T).part T sub).1 (rowR e ((s.peek T).part T sub).2) else (s.peek T,e)
def row (T:ByteArray) (sub:RS->RS × Rx) (s:RS):RS × Rx:=rowL T sub (T.size+2) (s.part T sub).1 (s.part T sub).2
def exprL (T:ByteArray) (sub:RS->RS × Rx):Nat->RS->Rx->RS × Rx
 | 0,s,e=>(s,e)
 | g+1,s,e =>
  if s.err ≠ 0 then (s,e)
  else if s.tk T=[47] then exprL T sub g (((s.peek T).take T).row T sub).1 (eitherX e (((s.peek T).take T).row T sub).2) else (s.peek T,e)
def exprS (T:ByteArray) (sub:RS->RS × Rx) (s:RS):RS × Rx:=exprL T sub (T.size+2) (s.row T sub).1 (s.row T sub).2
def expr (T:ByteArray):Nat->RS->RS × Rx
 | 0,s=>exprS T (fun s=>(s,neverX)) s
 | n+1,s=>exprS T (expr T n) s
def endB (T:ByteArray) (s:RS) (l:List UInt8):RS:=if s.err=0 then s.want T l else s
def side (T:ByteArray) (s:RS) (l:List UInt8):RS × Rx :=
 let s1:=({ s with atoms:=0 }:RS).peek T
 if s1.tk T=l then (s1.endB T l,emptyX) else ((s1.expr T 4).1.endB T l,(s1.expr T 4).2)
def rule (T:ByteArray) (s:RS):RS :=
 let s1:=s.take T
 if s1.L.length=4 then s1.fail 6 (s.pos T)
 else
  let s2:=s1.side T [124]
  let s3:=if s2.1.err=0 then s2.1.side T [59] else (s2.1,emptyX)
  { s3.1 with L:=s3.1.L++[(decide (s.tk T=[99,117,116]),s2.2,s3.2)] }
def readL (T:ByteArray):Nat->RS->RS
 | 0,s=>s
 | g+1,s =>
  if s.err ≠ 0 then s
  else
   let l:=s.tk T
   let s1:=s.peek T
   if l=[99,108,97,115,115]/\s1.L.length=0 then readL T g (s1.classes T)
   else if l=[99,117,116]\/l=[106,111,105,110] then readL T g (s1.rule T)
   else if l=[] then s1
   else readL T g (s1.fail 2 (s.pos T))
def start:RS:={ at_:=0,err:=0,place:=0,names:=[],spans:=[],L:=[],atoms:=0,nest:=0 }
def read (T:ByteArray):RS:=if 1000<T.size then start.fail 1 0 else readL T (T.size+2) start
end RS
theorem clsIx_none {names:List ByteArray} {l:List UInt8} (h:∀ j (hj:j<names.length),(names[j].toList == l)=false):clsIx names l=-1:=by
 unfold clsIx
 rw [List.findIdx?_eq_none_iff.2]
 intro x hx
 obtain ⟨j,hj,rfl⟩:=List.getElem_of_mem hx
 exact h j hj
theorem clsIx_some {names:List ByteArray} {l:List UInt8} {i:Nat} (hi:i<names.length) (hit:(names[i].toList == l)=true) (h:∀ j (_:j<i) (hj:j<names.length),(names[j].toList == l)=false):clsIx names l=i:=by
 unfold clsIx
 have:names.findIdx? (fun x=>x.toList == l)=some i:=by
  rw [List.findIdx?_eq_some_iff_getElem]
  exact ⟨hi,hit,fun j hj=>by simp [h j hj (by omega)]⟩
 rw [this]
set_option maxHeartbeats 400000 in
theorem isBlank_any (c:UInt8) (w:World) :
  Calls Tryz.prog 124 #[.int .u8 c.toNat] w fun e w'=>e=.returned (.bool (blankN c.toNat))/\w'=w:=by
 go_enter Tryz.func124,Tryz.ntmps124
 go_wp2
 all_goals (go_ret;refine ⟨ret_bool ?_,rfl⟩;rw [Bool.eq_iff_iff];simp [blankN];omega)
set_option maxHeartbeats 1000000 in
theorem isWordByte_any (c:UInt8) (w:World) :
  Calls Tryz.prog 125 #[.int .u8 c.toNat] w fun e w'=>e=.returned (.bool (letterN c.toNat))/\w'=w:=by
 have hc:c.toNat<256:=c.toNat_lt
 have hr:c.toNat<48\/(48<=c.toNat/\c.toNat<=57)\/(58<=c.toNat/\c.toNat<=64)\/(65<=c.toNat/\c.toNat<=90)\/(91<=c.toNat/\c.toNat<=96)\/(97<=c.toNat/\c.toNat<=122)\/123<=c.toNat:=by omega
 rcases hr with hr | ⟨hr,hr'⟩ | ⟨hr,hr'⟩ | ⟨hr,hr'⟩ | ⟨hr,hr'⟩ | ⟨hr,hr'⟩ | hr
 all_goals
  go_enter Tryz.func125,Tryz.ntmps125
  go_wp2
  go_ret
  refine ⟨ret_bool ?_,rfl⟩
  rw [Bool.eq_iff_iff];simp [letterN];omega
def pf (fault no:Int):Int:=if fault=0 then no else fault
def pp (fault at_ place:Int):Int:=if fault=0 then at_ else place
def pcell (T:ByteArray) (at_ en:Int) (vN vE vL:Value) (fault place:Int):Array Value :=
 #[.string T,.int .i64 at_,.int .i64 en,vN,vE,vL,.int .i64 fault,.int .i64 place]
def PBlk (w:World) (b:Nat) (T:ByteArray) (at_ en:Int) (vN vE vL:Value) (fault place:Int):Prop :=
 w.heap[b]?=some (.cells (pcell T at_ en vN vE vL fault place) 141 (0,0))
theorem pcells {w:World} {b:Nat} {T:ByteArray} {at_ en:Int} {vN vE vL:Value} {fault place:Int} (h:PBlk w b T at_ en vN vE vL fault place) :
  w.cell? ⟨b,0,none⟩=some (.string T)/\w.cell? ⟨b,1,none⟩=some (.int .i64 at_)/\w.cell? ⟨b,2,none⟩=some (.int .i64 en)/\w.cell? ⟨b,3,none⟩=some vN/\w.cell? ⟨b,4,none⟩=some vE/\w.cell? ⟨b,5,none⟩=some vL /\
  w.cell? ⟨b,6,none⟩=some (.int .i64 fault)/\w.cell? ⟨b,7,none⟩=some (.int .i64 place)/\(∀ o,w.frozen? ⟨b,o,none⟩=false) :=
 ⟨cell_of_block h _ _ rfl,cell_of_block h _ _ rfl,cell_of_block h _ _ rfl,cell_of_block h _ _ rfl,cell_of_block h _ _ rfl,cell_of_block h _ _ rfl,cell_of_block h _ _ rfl,cell_of_block h _ _ rfl,free_of_block h⟩
set_option maxHeartbeats 1000000 in
theorem now_any (b:Nat) (T:ByteArray) (a e:Nat) (vN vE vL:Value) (fault place:Int) (w:World) (h:PBlk w b T a e vN vE vL fault place) (h1:a<=e) (h2:e<=T.size) :
  Calls Tryz.prog 127 #[.pointer (some ⟨b,0,none⟩)] w fun r w'=>r=.returned (.string (T.extract a e))/\∃ n,w'=w.drewN n:=by
 obtain ⟨c0,c1,c2,c3,c4,c5,c6,c7,hf⟩:=pcells h
 go_enter Tryz.func127,Tryz.ntmps127
 go_wp2
 go_quiet (fail)
 go_wp2
 go_ret
 exact ⟨rfl,_,rfl⟩
set_option maxHeartbeats 1000000 in
theorem ended_any (b:Nat) (T:ByteArray) (a e:Nat) (vN vE vL:Value) (fault place:Int) (w:World) (h:PBlk w b T a e vN vE vL fault place) :
  Calls Tryz.prog 79 #[.pointer (some ⟨b,0,none⟩)] w fun r w'=>r=.returned (.bool (decide (a=T.size)))/\∃ n,w'=w.drewN n:=by
 obtain ⟨c0,c1,c2,c3,c4,c5,c6,c7,hf⟩:=pcells h
 go_enter Tryz.func79,Tryz.ntmps79
 go_wp2
 go_quiet (fail)
 go_wp2
 go_ret
 refine ⟨ret_bool ?_,_,rfl⟩
 rw [Bool.eq_iff_iff];simp;omega
theorem pset4 {w:World} {b:Nat} {T:ByteArray} {a e:Int} {vN vE vL:Value} {fault place:Int} (h:PBlk w b T a e vN vE vL fault place) (no at_:Int) (x:Int) :
  PBlk ((((w.setCell ⟨b,6,none⟩ (.int .i64 no)).setCell ⟨b,7,none⟩ (.int .i64 at_)).setCell ⟨b,1,none⟩ (.int .i64 x)).setCell ⟨b,2,none⟩ (.int .i64 x)) b T x x vN vE vL no at_ /\
  Chg (fun k=>k=b) w ((((w.setCell ⟨b,6,none⟩ (.int .i64 no)).setCell ⟨b,7,none⟩ (.int .i64 at_)).setCell ⟨b,1,none⟩ (.int .i64 x)).setCell ⟨b,2,none⟩ (.int .i64 x)) :=
 ⟨(block_setCell (block_setCell (block_setCell (block_setCell h 6 _) 7 _) 1 _) 2 _).trans rfl,((((Chg.refl _ _).set1 _).set1 _).set1 _).set1 _⟩
theorem pset2 {w:World} {b:Nat} {T:ByteArray} {a e:Int} {vN vE vL:Value} {fault place:Int} (h:PBlk w b T a e vN vE vL fault place) (x:Int) :
  PBlk ((w.setCell ⟨b,1,none⟩ (.int .i64 x)).setCell ⟨b,2,none⟩ (.int .i64 x)) b T x x vN vE vL fault place/\Chg (fun k=>k=b) w ((w.setCell ⟨b,1,none⟩ (.int .i64 x)).setCell ⟨b,2,none⟩ (.int .i64 x)) :=
 ⟨(block_setCell (block_setCell h 1 _) 2 _).trans rfl,((Chg.refl _ _).set1 _).set1 _⟩
set_option maxHeartbeats 1000000 in
theorem failAt_any (b:Nat) (T:ByteArray) (a e:Nat) (vN vE vL:Value) (fault place:Int) (no at_:Int) (w:World) (h:PBlk w b T a e vN vE vL fault place) :
  Calls Tryz.prog 134 #[.pointer (some ⟨b,0,none⟩),.int .i64 no,.int .i64 at_] w fun r w'=>r=.returned (.tuple #[])/\PBlk w' b T T.size T.size vN vE vL (pf fault no) (pp fault at_ place)/\Chg (fun k=>k=b) w w':=by
 obtain ⟨c0,c1,c2,c3,c4,c5,c6,c7,hf⟩:=pcells h
 have HH:Hid (PBlk w b T a e vN vE vL fault place):=h
 clear h
 by_cases h0:fault=0
 ·have k0:(fault == 0)=true:=by rw [beq_iff_eq];exact h0
  have e1:pf fault no=no:=by unfold pf;rw [if_pos h0]
  have e2:pp fault at_ place=at_:=by unfold pp;rw [if_pos h0]
  rw [e1,e2]
  clear h0 e1 e2
  go_enter Tryz.func134,Tryz.ntmps134
  go_wp2
  go_region
  all_goals (try go_wp2)
  all_goals go_end0
  all_goals exact ⟨rfl,(pset4 HH.out no at_ _).1,(pset4 HH.out no at_ _).2.drew⟩
 ·have k0:(fault == 0)=false:=by rw [beq_eq_false_iff_ne];exact h0
  have e1:pf fault no=fault:=by unfold pf;rw [if_neg h0]
  have e2:pp fault at_ place=place:=by unfold pp;rw [if_neg h0]
  rw [e1,e2]
  clear h0 e1 e2
  go_enter Tryz.func134,Tryz.ntmps134
  go_wp2
  go_region
  all_goals (try go_wp2)
  all_goals go_end0
  all_goals exact ⟨rfl,(pset2 HH.out _).1,(pset2 HH.out _).2.drew⟩
set_option maxHeartbeats 1000000 in
theorem fail_pr (b:Nat) (T:ByteArray) (a e:Nat) (vN vE vL:Value) (fault place:Int) (no:Int) (w:World) (h:PBlk w b T a e vN vE vL fault place) :
  Calls Tryz.prog 80 #[.pointer (some ⟨b,0,none⟩),.int .i64 no] w fun r w'=>r=.returned (.tuple #[])/\PBlk w' b T T.size T.size vN vE vL (pf fault no) (pp fault (a:Int) place)/\Chg (fun k=>k=b) w w':=by
 obtain ⟨c0,c1,c2,c3,c4,c5,c6,c7,hf⟩:=pcells h
 go_enter Tryz.func80,Tryz.ntmps80
 go_wp2_with fail
 refine (failAt_any b T a e vN vE vL fault place no a _ h).mono ?_
 rintro r w1 ⟨rfl,h1,c1'⟩
 have H1:Hid (PBlk w1 b T T.size T.size vN vE vL (pf fault no) (pp fault (a:Int) place)):=h1
 clear h1
 go_wp2_with fail
 go_end0
 exact ⟨rfl,H1.out,c1'⟩
set_option maxHeartbeats 1000000 in
theorem index_any (v:Value) (base:Nat) (names:List ByteArray) (s:ByteArray) (w:World) (hN:w.ownsRow base 9 1 v names.length (names.map .string)) (hl:names.length<=100) :
  Calls Tryz.prog 169 #[v,.string s] w fun e w'=>e=.returned (.int .i64 (clsIx names s.toList))/\w'=w:=by
 have hform:∃ ao cap,v=.slice ao names.length cap/\∀ i (hi:i<names.length),∃ g,ao=some ⟨g,0,none⟩/\w.cell? ⟨g,i,none⟩=some (.string names[i]):=by
  obtain ⟨h1,h2⟩:=hN
  rcases h2 with ⟨hv,hn⟩ | ⟨g,cap,cur,hv,hg,hh,hcap,hmx,hsz,hcur⟩
  ·exact ⟨none,0,by rw [hv,hn],fun i hi=>by omega⟩
  ·refine ⟨some ⟨g,0,none⟩,cap,hv,fun i hi=>⟨g,rfl,?_⟩⟩
   refine cell_of_block hh i _ ?_
   have e1:(cur.toList.take (names.length * 1))[i]?=some (.string names[i]):=by rw [hcur];simp [hi]
   rw [List.getElem?_take] at e1
   rw [if_pos (by omega)] at e1
   simpa using e1
 obtain ⟨ao,cap,hv,hcells⟩:=hform
 subst hv
 have HC:Hid (∀ i (hi:i<names.length),∃ g,ao=some ⟨g,0,none⟩/\w.cell? ⟨g,i,none⟩=some (.string names[i])):=hcells
 clear hcells hN
 go_enter Tryz.func169,Tryz.ntmps169
 go_wp2
 go_loop [8] (fun v=>∃ i:Nat,i<=names.length/\v=.int .i64 i/\Hid (∀ j (_:j<i) (hj:j<names.length),(s.toList == names[j].toList)=false)) (fun v=>names.length - (intOf v).toNat)
 case atStart=>exact ⟨0,Nat.zero_le _,rfl,fun j hj=>by omega⟩
 case round =>
  obtain ⟨i,hi,rfl,hnot⟩:=hrel
  by_cases hlt:i<names.length
  ·obtain ⟨g,rfl,hcell⟩:=HC.out i hlt
   cases he:(s.toList == names[i].toList)
   ·go_wp2
    go_round
    case rel=>exact ⟨i+1,by omega,by go_num,fun j hj hj2=>if e:j=i then by subst e;exact he else hnot.out j (by omega) hj2⟩
    case measure=>simp [intOf];omega
   ·go_wp2
    go_ret
    exact ⟨ret_int (clsIx_some hlt (by rw [BEq.comm];exact he) (fun j hj hj2=>by rw [BEq.comm];exact hnot.out j hj hj2)).symm,rfl⟩
  ·go_wp2
   go_ret
   exact ⟨ret_int (clsIx_none (fun j hj=>by rw [BEq.comm];exact hnot.out j (by omega) hj)).symm,rfl⟩
theorem pset_at {w:World} {b:Nat} {T:ByteArray} {a e:Int} {vN vE vL:Value} {fault place:Int} (h:PBlk w b T a e vN vE vL fault place) (x:Int):PBlk (w.setCell ⟨b,1,none⟩ (.int .i64 x)) b T x e vN vE vL fault place:=(block_setCell h 1 _).trans rfl
theorem pset_en {w:World} {b:Nat} {T:ByteArray} {a e:Int} {vN vE vL:Value} {fault place:Int} (h:PBlk w b T a e vN vE vL fault place) (x:Int):PBlk (w.setCell ⟨b,2,none⟩ (.int .i64 x)) b T a x vN vE vL fault place:=(block_setCell h 2 _).trans rfl
set_option maxRecDepth 100000 in
set_option maxHeartbeats 4000000 in
theorem step_any (b:Nat) (T:ByteArray) (a e:Nat) (vN vE vL:Value) (fault place:Int) (w:World) (h:PBlk w b T a e vN vE vL fault place) (he:e<=T.size) (hT:T.size<=1000) :
  Calls Tryz.prog 75 #[.pointer (some ⟨b,0,none⟩)] w fun r w'=>r=.returned (.tuple #[])/\PBlk w' b T (skip T e:Nat) (tokEnd T (skip T e):Nat) vN vE vL fault place/\Chg (fun k=>k=b) w w':=by
 obtain ⟨c0,c1,c2,c3,c4,c5,c6,c7,hf⟩:=pcells h
 have HH:Hid (PBlk w b T a e vN vE vL fault place):=h
 clear h
 go_enter Tryz.func75,Tryz.ntmps75
 go_upto_block 0 with fail
 go_cut [] (fun wx=>Chg (fun k=>k=b) w wx/\Hid (PBlk wx b T (skip T e:Nat) e vN vE vL fault place))
 case first =>
  go_wp2_with fail
  go_loopg [] (T.size - e) (fun g wx=>∃ k:Nat,e<=k/\k<=T.size/\g=T.size - k/\Hid (skip T k=skip T e)/\Chg (fun k=>k=b) w wx/\Hid (PBlk wx b T k e vN vE vL fault place))
  case atStart=>exact ⟨e,Nat.le_refl _,he,rfl,rfl,(Chg.refl _ _).set1 _,pset_at HH.out _⟩
  case round =>
   obtain ⟨k,hk1,hk2,rfl,hs,hc,hb⟩:=hrel
   obtain ⟨w1,hw1⟩:∃ w1,w1=wr:=⟨wr,rfl⟩
   subst hw1
   clear c0 c1 c2 c3 c4 c5 c6 c7 hf
   obtain ⟨c0,c1,c2,c3,c4,c5,c6,c7,hf⟩:=pcells hb.out
   by_cases hlt:k<T.size
   ·cases hbl:blankN (T[k].toNat)
    ·have hstop:Hid (skip T e=k):=by show _=_;rw [<- hs.out];exact skip_stop (Or.inr (by rw [at0_eq hlt];exact hbl))
     go_wp2_with fail
     go_quiet ((go_at_call 124;exact Calls.quiet_of_same (isBlank_any _ _)))
     go_wp2_with fail
     go_meet
     exact ⟨hc.drewN _,by rw [hstop.out];exact hb.out⟩
    ·have hgo:Hid (skip T (k+1)=skip T e):=by show _=_;rw [<- hs.out];exact (skip_go hlt (by rw [at0_eq hlt];exact hbl)).symm
     go_wp2_with fail
     go_quiet ((go_at_call 124;exact Calls.quiet_of_same (isBlank_any _ _)))
     go_wp2_with fail
     go_roundg (T.size - (k+1))
     case measure=>omega
     case rel=>exact ⟨k+1,by omega,by omega,rfl,hgo,(hc.drewN _).set1 _,by show PBlk _ _ _ _ _ _ _ _ _ _;exact pset_at hb.out _⟩
   ·have hd:decide ((k:Int)<(T.size:Int))=false:=by simp;omega
    have hstop:Hid (skip T e=k):=by show _=_;rw [<- hs.out];exact skip_stop (Or.inl (by omega))
    go_wp2_with fail
    go_quiet ((go_at_call 124;exact Calls.quiet_of_same (isBlank_any _ _)))
    go_wp2_with fail
    go_meet
    exact ⟨hc.drewN _,by rw [hstop.out];exact hb.out⟩
 case rest =>
  obtain ⟨hc1,hb1⟩:=hcut
  obtain ⟨w1,hw1⟩:∃ w1,w1=wc:=⟨wc,rfl⟩
  subst hw1
  clear c0 c1 c2 c3 c4 c5 c6 c7 hf
  obtain ⟨c0,c1,c2,c3,c4,c5,c6,c7,hf⟩:=pcells hb1.out
  have hsk:=(skip_le T e).2 he
  obtain ⟨p,hp⟩:∃ p,p=skip T e:=⟨_,rfl⟩
  rw [<- hp] at hb1 c1 hsk
  have HP:Hid (p=skip T e):=hp
  clear hp
  go_upto_block 2 with fail
  go_cut [] (fun wx=>Chg (fun k=>k=b) w wx/\Hid (PBlk wx b T p (wordEnd T p:Nat) vN vE vL fault place))
  case first =>
   go_wp2_with fail
   go_loopg [] (T.size - p) (fun g wx=>∃ k:Nat,p<=k/\k<=T.size/\g=T.size - k/\Hid (wordEnd T k=wordEnd T p)/\Chg (fun k=>k=b) w wx/\Hid (PBlk wx b T p k vN vE vL fault place))
   case atStart=>exact ⟨p,Nat.le_refl _,hsk,rfl,rfl,hc1.set1 _,pset_en hb1.out _⟩
   case round =>
    obtain ⟨k,hk1,hk2,rfl,hs,hc,hb⟩:=hrel
    obtain ⟨w2,hw2⟩:∃ w2,w2=wr:=⟨wr,rfl⟩
    subst hw2
    clear c0 c1 c2 c3 c4 c5 c6 c7 hf
    obtain ⟨c0,c1,c2,c3,c4,c5,c6,c7,hf⟩:=pcells hb.out
    by_cases hlt:k<T.size
    ·cases hbl:letterN (T[k].toNat)
     ·have hstop:Hid (wordEnd T p=k):=by show _=_;rw [<- hs.out];exact word_stop (Or.inr (by rw [at0_eq hlt];exact hbl))
      go_wp2_with fail
      go_quiet ((go_at_call 125;exact Calls.quiet_of_same (isWordByte_any _ _)))
      go_wp2_with fail
      go_meet
      exact ⟨hc.drewN _,by rw [hstop.out];exact hb.out⟩
     ·have hgo:Hid (wordEnd T (k+1)=wordEnd T p):=by show _=_;rw [<- hs.out];exact (word_go hlt (by rw [at0_eq hlt];exact hbl)).symm
      go_wp2_with fail
      go_quiet ((go_at_call 125;exact Calls.quiet_of_same (isWordByte_any _ _)))
      go_wp2_with fail
      go_roundg (T.size - (k+1))
      case measure=>omega
      case rel=>exact ⟨k+1,by omega,by omega,rfl,hgo,(hc.drewN _).set1 _,by show PBlk _ _ _ _ _ _ _ _ _ _;exact pset_en hb.out _⟩
    ·have hd:decide ((k:Int)<(T.size:Int))=false:=by simp;omega
     have hstop:Hid (wordEnd T p=k):=by show _=_;rw [<- hs.out];exact word_stop (Or.inl (by omega))
     go_wp2_with fail
     go_quiet ((go_at_call 125;exact Calls.quiet_of_same (isWordByte_any _ _)))
     go_wp2_with fail
     go_meet
     exact ⟨hc.drewN _,by rw [hstop.out];exact hb.out⟩
  case rest =>
   obtain ⟨hc2,hb2⟩:=hcut
   obtain ⟨w2,hw2⟩:∃ w2,w2=wc:=⟨wc,rfl⟩
   subst hw2
   clear c0 c1 c2 c3 c4 c5 c6 c7 hf hc1 hb1
   obtain ⟨c0,c1,c2,c3,c4,c5,c6,c7,hf⟩:=pcells hb2.out
   have hwl:=word_le T p
   have hw2':=hwl.2 hsk
   have hw1':=hwl.1
   obtain ⟨q,hq⟩:∃ q,q=wordEnd T p:=⟨_,rfl⟩
   rw [<- hq] at hb2 c2 hw1' hw2'
   have HQ:Hid (q=wordEnd T p):=hq
   clear hq hwl
   by_cases e1:q=p
   ·have k1:((q:Int) == (p:Int))=true:=by rw [beq_iff_eq];omega
    by_cases e2:q<T.size
    ·have hend:Hid (tokEnd T p=q+1):=by show _=_;unfold tokEnd;rw [if_pos ⟨by rw [<- HQ.out];exact e1,by omega⟩];omega
     clear e1
     go_wp2_with fail
     go_quiet (fail)
     go_wp2_with fail
     go_end0
     exact ⟨rfl,by rw [<- HP.out,hend.out];exact pset_en hb2.out _,(hc2.drewN _).set1 _⟩
    ·have hd:decide ((q:Int)<(T.size:Int))=false:=by simp;omega
     have hend:Hid (tokEnd T p=q):=by show _=_;unfold tokEnd;rw [if_neg (by omega)];exact HQ.out.symm
     clear e1
     go_wp2_with fail
     go_quiet (fail)
     go_wp2_with fail
     go_end0
     exact ⟨rfl,by rw [<- HP.out,hend.out];exact hb2.out,hc2.drewN _⟩
   ·have k1:((q:Int) == (p:Int))=false:=by rw [beq_eq_false_iff_ne];omega
    have hend:Hid (tokEnd T p=q):=by show _=_;unfold tokEnd;rw [if_neg (by rw [<- HQ.out];omega)];exact HQ.out.symm
    clear e1
    go_wp2_with fail
    go_quiet (fail)
    go_wp2_with fail
    go_end0
    exact ⟨rfl,by rw [<- HP.out,hend.out];exact hb2.out,hc2.drewN _⟩
end Go.Proofs.YtodagkkjfipbgaaGreatDoor
