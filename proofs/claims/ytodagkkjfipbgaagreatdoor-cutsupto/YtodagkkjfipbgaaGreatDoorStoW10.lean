import Derived.Test.YtodagkkjfipbgaaGreatDoorV7toW5
import Derived.Test.YtodagkkjfipbgaaGreatDoorW8toA14
namespace Go.Proofs.YtodagkkjfipbgaaGreatDoor
open Go.RowKit
def TabOK (w:World):Prop:=w.cell? ⟨1,2,none⟩=some (.int .u64 100)
def RS.Ok (T:ByteArray) (s:RS):Prop :=
 s.at_≤T.size∧s.names.length≤6∧s.spans.length≤s.at_+1∧s.L.length≤4∧0≤s.atoms∧s.atoms≤5∧0≤s.nest∧s.nest≤4∧(s.err=0→s.spans.length≤s.at_∧s.atoms≤4∧∀ x ∈ s.names,x.toList ≠ [])
def spanCells (l:List (Int × Int × Int)):List Value:=l.flatMap fun o=>[.int .i64 o.1,.int .i64 o.2.1,.int .i64 o.2.2]
def ruleCells (l:List (Bool × Value × Value)):List Value:=l.flatMap fun o=>[.bool o.1,o.2.1,o.2.2]
def AreRules (w:World) (vs:List (Bool × Value × Value)) (L:List (Bool × Rx × Rx)):Prop :=
 vs.length=L.length∧∀ (i:Nat) (v:Bool × Value × Value) (x:Bool × Rx × Rx),vs[i]?=some v→L[i]?=some x→v.1=x.1∧(∃ d,IsRe d w v.2.1 x.2.1)∧∃ d,IsRe d w v.2.2 x.2.2
def Rows3 (w:World) (base:Nat) (s:RS) (vN vS vL:Value):Prop :=
 w.ownsRow base 9 1 vN s.names.length (s.names.map .string)∧w.ownsRow base 197 3 vS s.spans.length (spanCells s.spans) ∧
 ∃ vs,w.ownsRow base 181 3 vL s.L.length (ruleCells vs)∧AreRules w vs s.L
def RSt (w:World) (base b:Nat) (T:ByteArray) (s:RS):Prop :=
 1<base∧base≤b∧T.size≤1000∧s.Ok T∧TabOK w∧∃ vN vS vL,Blk w b T s vN vS vL∧Rows3 w base s vN vS vL
def Kt (t:TypeId) (w w':World):Prop:=∀ (k:Nat) (cs:Array Value) (m:Nat × Nat),w.heap[k]?=some (.cells cs t m)→w'.heap[k]?=some (.cells cs t m)
theorem Kt.refl (t:TypeId) (w:World):Kt t w w:=fun _ _ _ h=>h
theorem Kt.trans {t:TypeId} {a b c:World} (h:Kt t a b) (k:Kt t b c):Kt t a c:=fun i cs m hh=>k i cs m (h i cs m hh)
theorem Kt.below {t:TypeId} {w w':World} (h:Below w.heap.size w w'):Kt t w w':=fun k cs m hh=>by rw [h.block k (Array.getElem?_eq_some_iff.1 hh).1];exact hh
def KL (w w':World):Prop:=∀ (k:Nat) (cs:Array Value),w.heap[k]?=some (.cells cs 35 (0,0))→∃ cs':Array Value,w'.heap[k]?=some (.cells cs' 35 (0,0))∧cs'[6]?=cs[6]?
theorem KL.refl (w:World):KL w w:=fun _ cs h=>⟨cs,h,rfl⟩
theorem KL.trans {a b c:World} (h:KL a b) (k:KL b c):KL a c:=fun i cs hh=>by
 obtain ⟨c1,h1,e1⟩:=h i cs hh
 obtain ⟨c2,h2,e2⟩:=k i c1 h1
 exact ⟨c2,h2,e2.trans e1⟩
theorem KL.of_kt {w w':World} (h:Kt 35 w w'):KL w w':=fun k cs hh=>⟨cs,h k cs _ hh,rfl⟩
structure RChg (base:Nat) (w w':World):Prop where
 b:Below base w w'
 k:KeepRe w w'
 r:Kt 181 w w'
 l:KL w w'
theorem RChg.refl (base:Nat) (w:World):RChg base w w:=⟨Below.refl _ _,KeepRe.refl _,Kt.refl _ _,KL.refl _⟩
theorem RChg.trans {base:Nat} {a b c:World} (h:RChg base a b) (k:RChg base b c):RChg base a c:=⟨h.1.trans k.1,h.2.trans k.2,h.3.trans k.3,h.4.trans k.4⟩
theorem RChg.of_below {base:Nat} {w w':World} (h:Below w.heap.size w w') (hb:base≤w.heap.size):RChg base w w':=⟨h.mono hb,KeepRe.of_below h,Kt.below h,KL.of_kt (Kt.below h)⟩
theorem TabOK.on {base:Nat} {w w':World} (h:TabOK w) (hb:Below base w w') (h2:1<base):TabOK w':=(hb.cell (p:=⟨1,2,none⟩) h2).trans h
theorem AreRules.keep {w w':World} {vs:List (Bool × Value × Value)} {L:List (Bool × Rx × Rx)} (h:AreRules w vs L) (hk:KeepRe w w'):AreRules w' vs L:=by
 refine ⟨h.1,fun i v x hv hx=>?_⟩
 obtain ⟨h1,⟨d,h2⟩,e,h3⟩:=h.2 i v x hv hx
 exact ⟨h1,⟨d,h2.keep hk⟩,e,h3.keep hk⟩
theorem ownsRow_chg {w w':World} {base:Nat} {e:TypeId} {size:Nat} {v:Value} {n:Nat} {us:List Value} (h:w.ownsRow base e size v n us)
  (hk:∀ (k:Nat) (cs:Array Value) (m:Nat × Nat),w.heap[k]?=some (.cells cs e m)→w'.heap[k]?=some (.cells cs e m)):w'.ownsRow base e size v n us:=by
 obtain ⟨h1,h2⟩:=h
 refine ⟨h1,?_⟩
 rcases h2 with h2 | ⟨g,cap,cur,hv,hg,hh,r⟩
 ·exact Or.inl h2
 ·exact Or.inr ⟨g,cap,cur,hv,hg,hk _ _ _ hh,r⟩
theorem kept_of_chg1 {w w':World} {b:Nat} {cs0:Array Value} {t0 t:TypeId} {m0:Nat × Nat} (hb:w.heap[b]?=some (.cells cs0 t0 m0)) (hc:Chg (fun k=>k=b) w w') (ht:t ≠ t0) :
  ∀ (k:Nat) (cs:Array Value) (m:Nat × Nat),w.heap[k]?=some (.cells cs t m)→w'.heap[k]?=some (.cells cs t m):=by
 intro k cs m hh
 rw [hc.block k (Array.getElem?_eq_some_iff.1 hh).1 (fun e=>by subst e;rw [hb] at hh;simp at hh;exact ht hh.2.1.symm)];exact hh
theorem keepRe_chg1 {w w':World} {b:Nat} {T:ByteArray} {s:RS} {vN vS vL:Value} (h:Blk w b T s vN vS vL) (hc:Chg (fun k=>k=b) w w'):KeepRe w w':=by
 intro k cs t m ht hh
 rcases ht with rfl | rfl
 ·exact kept_of_chg1 h hc (by decide) k cs m hh
 ·exact kept_of_chg1 h hc (by decide) k cs m hh
theorem rows_chg1 {w w':World} {base b:Nat} {T:ByteArray} {s s':RS} {vN vS vL:Value} (h:Blk w b T s vN vS vL) (hc:Chg (fun k=>k=b) w w') (hr:Rows3 w base s vN vS vL)
  (h1:s'.names=s.names) (h2:s'.spans=s.spans) (h3:s'.L=s.L):Rows3 w' base s' vN vS vL:=by
 obtain ⟨a,b',vs,c,d⟩:=hr
 unfold Rows3
 rw [h1,h2,h3]
 exact ⟨ownsRow_chg a (kept_of_chg1 h hc (by decide)),ownsRow_chg b' (kept_of_chg1 h hc (by decide)),vs,ownsRow_chg c (kept_of_chg1 h hc (by decide)),d.keep (keepRe_chg1 h hc)⟩
theorem rchg_chg1 {w w':World} {base b:Nat} {T:ByteArray} {s s':RS} {vN vS vL:Value} (h:Blk w b T s vN vS vL) (h':Blk w' b T s' vN vS vL) (hc:Chg (fun k=>k=b) w w') (hbb:base≤b):RChg base w w' :=
 ⟨hc.below (Nat.le_trans hbb (Nat.le_of_lt (Array.getElem?_eq_some_iff.1 h).1)) (fun k hk e=>by omega),keepRe_chg1 h hc,kept_of_chg1 h hc (by decide),fun k cs hh=>by
  by_cases e:k=b
  ·subst e
   refine ⟨_,h',?_⟩
   have h2:=h
   unfold Blk at h2
   rw [h2] at hh
   simp at hh
   rw [← hh];rfl
  ·exact ⟨cs,by rw [hc.block k (Array.getElem?_eq_some_iff.1 hh).1 e];exact hh,rfl⟩⟩
theorem RSt.step {w w':World} {base b:Nat} {T:ByteArray} {s s':RS} {vN vS vL:Value} (h:RSt w base b T s) (hb:Blk w b T s vN vS vL) (hr:Rows3 w base s vN vS vL) (hb':Blk w' b T s' vN vS vL) (hc:Chg (fun k=>k=b) w w')
  (h1:s'.names=s.names) (h2:s'.spans=s.spans) (h3:s'.L=s.L) (hok:s'.Ok T):RSt w' base b T s'∧RChg base w w':=by
 obtain ⟨g,hbb,hT,_,ht,_⟩:=h
 have hrc:=rchg_chg1 hb hb' hc hbb
 exact ⟨⟨g,hbb,hT,hok,ht.on hrc.1 g,vN,vS,vL,hb',rows_chg1 hb hc hr h1 h2 h3⟩,hrc⟩
theorem RSt.below {w w':World} {base b:Nat} {T:ByteArray} {s:RS} (h:RSt w base b T s) (hb:Below w.heap.size w w'):RSt w' base b T s∧RChg base w w':=by
 obtain ⟨g,hbb,hT,hok,ht,vN,vS,vL,hblk,a,b',vs,c,d⟩:=h
 have hbs:b<w.heap.size:=(Array.getElem?_eq_some_iff.1 hblk).1
 have hrc:RChg base w w':=RChg.of_below hb (by omega)
 have hk:∀ (t:TypeId) (k:Nat) (cs:Array Value) (m:Nat × Nat),w.heap[k]?=some (.cells cs t m)→w'.heap[k]?=some (.cells cs t m):=fun t k cs m hh=>by
  rw [hb.block k (Array.getElem?_eq_some_iff.1 hh).1];exact hh
 exact ⟨⟨g,hbb,hT,hok,ht.on hrc.1 g,vN,vS,vL,by unfold Blk;rw [hb.block b hbs];exact hblk,ownsRow_chg a (hk _),ownsRow_chg b' (hk _),vs,ownsRow_chg c (hk _),d.keep hrc.2⟩,hrc⟩
theorem fail_same (s:RS) (e p:Int):(s.fail e p).names=s.names∧(s.fail e p).spans=s.spans∧(s.fail e p).L=s.L∧(s.fail e p).at_=s.at_∧(s.fail e p).atoms=s.atoms∧(s.fail e p).nest=s.nest:=by
 unfold RS.fail;split <;> simp
theorem fail_err (s:RS) (e p:Int) (he:e ≠ 0):(s.fail e p).err ≠ 0:=by
 unfold RS.fail;split <;> simp_all
theorem RS.Ok.fail {T:ByteArray} {s:RS} (h:s.Ok T) (e p:Int) (he:e ≠ 0):(s.fail e p).Ok T:=by
 obtain ⟨f1,f2,f3,f4,f5,f6⟩:=fail_same s e p
 have:=fail_err s e p he
 unfold RS.Ok at *
 rw [f1,f2,f3,f4,f5,f6]
 exact ⟨h.1,h.2.1,h.2.2.1,h.2.2.2.1,h.2.2.2.2.1,h.2.2.2.2.2.1,h.2.2.2.2.2.2.1,h.2.2.2.2.2.2.2.1,fun e0=>absurd e0 this⟩
theorem RS.Ok.at_ {T:ByteArray} {s:RS} (h:s.Ok T) (n:Nat) (h1:s.at_≤n) (h2:n≤T.size):({ s with at_:=n }:RS).Ok T:=by
 unfold RS.Ok at *
 obtain ⟨a,b,c,d,e,f,g,i,j⟩:=h
 refine ⟨h2,b,by show s.spans.length≤n+1;omega,d,e,f,g,i,fun he=>?_⟩
 have:=j he
 exact ⟨by show s.spans.length≤n;omega,this.2⟩
theorem RS.Ok.take {T:ByteArray} {s:RS} (h:s.Ok T):(s.take T).Ok T:=h.at_ _ (take_at T s h.1).2.1 (take_at T s h.1).1
theorem RS.Ok.peek {T:ByteArray} {s:RS} (h:s.Ok T):(s.peek T).Ok T:=h.at_ _ (peek_at T s h.1).2 (peek_at T s h.1).1
theorem want_same (T:ByteArray) (s:RS) (l:List UInt8):(s.want T l).names=s.names∧(s.want T l).spans=s.spans∧(s.want T l).L=s.L∧(s.want T l).at_=(s.take T).at_∧(s.want T l).atoms=s.atoms∧(s.want T l).nest=s.nest:=by
 unfold RS.want
 split
 ·simp [RS.take]
 ·exact fail_same (s.take T) _ _
theorem RS.Ok.want {T:ByteArray} {s:RS} (h:s.Ok T) (l:List UInt8):(s.want T l).Ok T:=by
 unfold RS.want
 split
 ·exact h.take
 ·exact h.take.fail _ _ (by omega)
theorem hex_same (T:ByteArray) (s:RS):(s.hex T).names=s.names∧(s.hex T).spans=s.spans∧(s.hex T).L=s.L∧(s.hex T).at_=(s.take T).at_∧(s.hex T).atoms=s.atoms∧(s.hex T).nest=s.nest:=by
 unfold RS.hex
 simp only
 split
 ·exact fail_same (s.take T) _ _
 ·split <;> split <;> simp [fail_same,RS.take]
theorem RS.Ok.hex {T:ByteArray} {s:RS} (h:s.Ok T):(s.hex T).Ok T:=by
 unfold RS.hex
 simp only
 split
 ·exact h.take.fail _ _ (by omega)
 ·split
  ·split
   ·exact h.take.fail _ _ (by omega)
   ·exact (h.take.fail _ _ (by omega)).fail _ _ (by omega)
  ·split
   ·exact h.take
   ·exact h.take.fail _ _ (by omega)
theorem fail_rs (base b:Nat) (T:ByteArray) (s:RS) (e0 p0:Int) (w:World) (h:RSt w base b T s) (he:e0 ≠ 0) :
  Calls Tryz.prog 46 #[.pointer (some ⟨b,0,none⟩),.int .i64 e0,.int .i64 p0] w fun e w'=>e=.returned (.tuple #[])∧RSt w' base b T (s.fail e0 p0)∧RChg base w w':=by
 have h0:=h
 obtain ⟨g,hbb,hT,hok,ht,vN,vS,vL,hblk,hr⟩:=h
 refine (fail_st b T s vN vS vL e0 p0 w hblk).mono ?_
 rintro e w' ⟨rfl,hb',hc⟩
 have:=fail_same s e0 p0
 exact ⟨rfl,h0.step hblk hr hb' hc this.1 this.2.1 this.2.2.1 (hok.fail _ _ he)⟩
theorem peek_rs (base b:Nat) (T:ByteArray) (s:RS) (w:World) (h:RSt w base b T s) :
  Calls Tryz.prog 47 #[.pointer (some ⟨b,0,none⟩)] w fun e w'=>e=.returned (.tuple #[.string (tok T s.at_),.int .i64 (s.pos T:Nat)])∧RSt w' base b T (s.peek T)∧RChg base w w':=by
 have h0:=h
 obtain ⟨g,hbb,hT,hok,ht,vN,vS,vL,hblk,hr⟩:=h
 refine (peek_st b T s vN vS vL w hblk hT hok.1).mono ?_
 rintro e w' ⟨rfl,hb',hc⟩
 exact ⟨rfl,h0.step hblk hr hb' hc rfl rfl rfl hok.peek⟩
theorem take_rs (base b:Nat) (T:ByteArray) (s:RS) (w:World) (h:RSt w base b T s) :
  Calls Tryz.prog 91 #[.pointer (some ⟨b,0,none⟩)] w fun e w'=>e=.returned (.tuple #[.string (tok T s.at_),.int .i64 (s.pos T:Nat)])∧RSt w' base b T (s.take T)∧RChg base w w':=by
 have h0:=h
 obtain ⟨g,hbb,hT,hok,ht,vN,vS,vL,hblk,hr⟩:=h
 refine (take_st b T s vN vS vL w hblk hT hok.1).mono ?_
 rintro e w' ⟨rfl,hb',hc⟩
 exact ⟨rfl,h0.step hblk hr hb' hc rfl rfl rfl hok.take⟩
theorem want_rs (base b:Nat) (T:ByteArray) (s:RS) (x:ByteArray) (w:World) (h:RSt w base b T s) :
  Calls Tryz.prog 94 #[.pointer (some ⟨b,0,none⟩),.string x] w fun e w'=>e=.returned (.tuple #[])∧RSt w' base b T (s.want T x.toList)∧RChg base w w':=by
 have h0:=h
 obtain ⟨g,hbb,hT,hok,ht,vN,vS,vL,hblk,hr⟩:=h
 refine (want_st b T s vN vS vL x w hblk hT hok.1).mono ?_
 rintro e w' ⟨rfl,hb',hc⟩
 have:=want_same T s x.toList
 exact ⟨rfl,h0.step hblk hr hb' hc this.1 this.2.1 this.2.2.1 (hok.want _)⟩
theorem hex_rs (base b:Nat) (T:ByteArray) (s:RS) (w:World) (h:RSt w base b T s) :
  Calls Tryz.prog 147 #[.pointer (some ⟨b,0,none⟩)] w fun e w'=>e=.returned (.tuple #[.int .i64 (RS.hexV (s.tk T)),.int .i64 (s.pos T:Nat)])∧RSt w' base b T (s.hex T)∧RChg base w w':=by
 have h0:=h
 obtain ⟨g,hbb,hT,hok,ht,vN,vS,vL,hblk,hr⟩:=h
 refine (hex_st b T s vN vS vL w hblk hT hok.1).mono ?_
 rintro e w' ⟨rfl,hb',hc⟩
 have:=hex_same T s
 exact ⟨rfl,h0.step hblk hr hb' hc this.1 this.2.1 this.2.2.1 hok.hex⟩
theorem class_rs (base b:Nat) (T:ByteArray) (s:RS) (x:ByteArray) (w:World) (h:RSt w base b T s) :
  Calls Tryz.prog 93 #[.pointer (some ⟨b,0,none⟩),.string x] w fun e w'=>e=.returned (.int .i64 (clsIx s.names x.toList))∧w'=w:=by
 obtain ⟨g,hbb,hT,hok,ht,vN,vS,vL,hblk,hr⟩:=h
 exact class_any b base T s.at_ s.err s.place vN vS vL s.atoms s.nest s.names x w hblk hr.1 (by have:=hok.2.1;omega)
theorem RSt.cells {w:World} {base b:Nat} {T:ByteArray} {s:RS} (h:RSt w base b T s):∃ vN vS vL,Blk w b T s vN vS vL∧Rows3 w base s vN vS vL ∧
  w.cell? ⟨b,0,none⟩=some (.string T)∧w.cell? ⟨b,1,none⟩=some (.int .i64 s.at_)∧w.cell? ⟨b,2,none⟩=some (.int .i64 s.err)∧w.cell? ⟨b,3,none⟩=some (.int .i64 s.place) ∧
  w.cell? ⟨b,4,none⟩=some vN∧w.cell? ⟨b,5,none⟩=some vS∧w.cell? ⟨b,6,none⟩=some vL∧w.cell? ⟨b,7,none⟩=some (.int .i64 s.atoms)∧w.cell? ⟨b,8,none⟩=some (.int .i64 s.nest)∧(∀ o,w.frozen? ⟨b,o,none⟩=false):=by
 obtain ⟨g,hbb,hT,hok,ht,vN,vS,vL,hblk,hr⟩:=h
 exact ⟨vN,vS,vL,hblk,hr,rcells hblk⟩
theorem Kt.setCell {t:TypeId} {w:World} {b o:Nat} {cs0:Array Value} {t0:TypeId} {m0:Nat × Nat} (hb:w.heap[b]?=some (.cells cs0 t0 m0)) (ht:t ≠ t0) (u:Value):Kt t w (w.setCell ⟨b,o,none⟩ u):=fun k cs m hh=>by
 rw [Below.heap_setCell _ _ _ _ (fun e=>by simp at e;subst e;rw [hb] at hh;simp at hh;exact ht hh.2.1.symm)];exact hh
theorem Kt.grown {t e:TypeId} {base size n:Nat} {w w':World} {v:Value} {us:List Value} (hown:w.ownsRow base e size v n us) (hg:w.grownBy w' v.ownBlock) (ht:t ≠ e):Kt t w w':=fun k cs m hh=>by
 rw [hg.block k (Array.getElem?_eq_some_iff.1 hh).1 (fun e'=>by
  rcases hown.2 with ⟨hv,_⟩ | ⟨g,cap,cur,hv,_,hgg,_⟩
  ·rw [hv] at e';simp [Value.ownBlock] at e'
  ·rw [hv] at e';simp [Value.ownBlock] at e';subst e';rw [hgg] at hh;simp at hh;exact ht hh.2.1.symm)];exact hh
theorem keepRe_kt {w w':World} (h1:Kt 204 w w') (h2:Kt 178 w w'):KeepRe w w':=fun k cs t m ht hh=>by
 rcases ht with rfl | rfl
 ·exact h1 k cs m hh
 ·exact h2 k cs m hh
structure Pushed (e:TypeId) (o:Nat) (base b:Nat) (v v':Value) (w w1 w2 w3:World):Prop where
 first:Below w.heap.size w w1
 grown:w1.grownBy w2 v.ownBlock
 last:w3.heap=(w2.setCell ⟨b,o,none⟩ v').heap∧w3.os=w2.os∧w3.tape=w2.tape∧w3.output=w2.output
theorem Pushed.kt {e t:TypeId} {o base b size n:Nat} {v v':Value} {us:List Value} {w w1 w2 w3:World} {cs0:Array Value} (h:Pushed e o base b v v' w w1 w2 w3) (hown:w.ownsRow base e size v n us)
  (hb:w.heap[b]?=some (.cells cs0 35 (0,0))) (hte:t ≠ e) (ht0:t ≠ 35) (he0:e ≠ 35):Kt t w w3:=by
 have k1:∀ t',Kt t' w w1:=fun t'=>Kt.below h.first
 have own1:w1.ownsRow base e size v n us:=ownsRow_chg hown (k1 e)
 have k2:∀ t',t' ≠ e→Kt t' w1 w2:=fun t' ht'=>Kt.grown own1 h.grown ht'
 have hb2:=k2 _ (Ne.symm he0) _ _ _ (k1 _ _ _ _ hb)
 intro k cs m hh
 rw [h.last.1]
 exact Kt.setCell hb2 ht0 v' k cs m (k2 t hte k cs m (k1 t k cs m hh))
theorem Pushed.row {e:TypeId} {o base b size n:Nat} {v v':Value} {us us':List Value} {n':Nat} {w w1 w2 w3:World} {cs0:Array Value} (h:Pushed e o base b v v' w w1 w2 w3) (hown:w.ownsRow base e size v n us)
  (hb:w.heap[b]?=some (.cells cs0 35 (0,0))) (he0:e ≠ 35) (hnew:w2.ownsRow base e size v' n' us'):w3.ownsRow base e size v' n' us':=by
 have k1:∀ t',Kt t' w w1:=fun t'=>Kt.below h.first
 have own1:w1.ownsRow base e size v n us:=ownsRow_chg hown (k1 e)
 have hb2:=Kt.grown own1 h.grown (Ne.symm he0) _ _ _ (k1 _ _ _ _ hb)
 refine ownsRow_chg hnew ?_
 intro k cs m hh
 rw [h.last.1]
 exact Kt.setCell hb2 he0 v' k cs m hh
theorem Pushed.blk {e:TypeId} {o base b size n:Nat} {v v':Value} {us:List Value} {w w1 w2 w3:World} {cs0:Array Value} (h:Pushed e o base b v v' w w1 w2 w3) (hown:w.ownsRow base e size v n us)
  (hb:w.heap[b]?=some (.cells cs0 35 (0,0))) (he0:e ≠ 35):w3.heap[b]?=some (.cells (cs0.setIfInBounds o v') 35 (0,0)):=by
 have k1:∀ t',Kt t' w w1:=fun t'=>Kt.below h.first
 have own1:w1.ownsRow base e size v n us:=ownsRow_chg hown (k1 e)
 have hb2:=Kt.grown own1 h.grown (Ne.symm he0) _ _ _ (k1 _ _ _ _ hb)
 rw [h.last.1];exact block_setCell hb2 o v'
theorem Pushed.rchg {e:TypeId} {o base b size n:Nat} {v v':Value} {us:List Value} {w w1 w2 w3:World} {cs0:Array Value} (h:Pushed e o base b v v' w w1 w2 w3) (hown:w.ownsRow base e size v n us) (hbb:base≤b)
  (hb:w.heap[b]?=some (.cells cs0 35 (0,0))) (he0:e ≠ 35) (he1:204 ≠ e) (he2:178 ≠ e) (he3:181 ≠ e) (ho:o ≠ 6):RChg base w w3:=by
 have k1:∀ t',Kt t' w w1:=fun t'=>Kt.below h.first
 have own1:w1.ownsRow base e size v n us:=ownsRow_chg hown (k1 e)
 have hbs:b<w.heap.size:=(Array.getElem?_eq_some_iff.1 hb).1
 have hs1:=h.first.size
 have b1:Below base w w2:=(h.first.mono (by omega)).grown h.grown (by omega) (fun k hk=>(own1.lt k hk).1)
 have b2:Below base w (w2.setCell ⟨b,o,none⟩ v'):=b1.setCell hbb v'
 refine ⟨⟨h.last.2.1.trans b1.os,h.last.2.2.1.trans b1.tape,h.last.2.2.2.trans b1.output,by rw [h.last.1];exact b2.size,fun k hk=>by rw [h.last.1];exact b2.block k hk⟩,
  keepRe_kt (h.kt hown hb he1 (by decide) he0) (h.kt hown hb he2 (by decide) he0),h.kt hown hb he3 (by decide) he0,fun k cs hh=>?_⟩
 by_cases e':k=b
 ·subst e'
  refine ⟨_,h.blk hown hh he0,?_⟩
  rw [Array.getElem?_setIfInBounds_ne (by omega)]
 ·refine ⟨cs,?_,rfl⟩
  rw [h.last.1,Below.heap_setCell _ _ _ _ (by simpa using e')]
  exact Kt.grown own1 h.grown (Ne.symm he0) _ _ _ (k1 _ _ _ _ hh)
theorem ownsRow_shape {w:World} {base:Nat} {e:TypeId} {size:Nat} {v:Value} {n:Nat} {us:List Value} (h:w.ownsRow base e size v n us):∃ ao cap,v=.slice ao n cap:=by
 rcases h.2 with ⟨hv,hn⟩ | ⟨g,cap,cur,hv,_⟩
 ·exact ⟨none,0,by rw [hv,hn]⟩
 ·exact ⟨_,cap,hv⟩
theorem pushed_free {w W w':World} {b base size n:Nat} {e:TypeId} {cs0:Array Value} {v:Value} {us:List Value} (hg:W.grownBy w' v.ownBlock) (hb:w.heap[b]?=some (.cells cs0 35 (0,0))) (h1:Below w.heap.size w W) (hown:W.ownsRow base e size v n us) (he:35 ≠ e) :
  w'.heap[b]?=some (.cells cs0 35 (0,0)):=Kt.grown hown hg he _ _ _ (Kt.below h1 _ _ _ hb)
theorem step_push {P:Program} {w:World} {ops:Array Oper} {o:Oper} {a:Act} {K:Act→World→Prop} {Q:Exit→Act→World→Prop} {E:Prop} (hgd:o.guard=none) (s x:Operand) (t:TypeId)
  (ho:o.op=.call { callee:=.builtin .append,args:=#[s,x],argTypes:=#[t,t] })
  (base:Nat) (e:TypeId) (z:Value) (size bytes:Nat) (hinfo:(P.info? e).map (fun i=>(i.zero,i.size,i.bytes))=some (some z,size,bytes)) (ht:P.underlying t=some (.slice e))
  (hzs:z.cells.size=size) (hsz:0<size) (v:Value) (n:Nat) (xs:List Value) (hs:a.eval s=v) (hown:w.ownsRow base e size v n xs)
  (g c:Nat) (news:List Value) (hx:a.eval x=.slice (some ⟨g,0,none⟩) 1 c) (hl:news.length=size) (hblk:w.heap[g]?=some (.cells news.toArray e (0,0))) (h1:∀ u ∈ news,u.oneCell'=true)
  (hn:n≤9000000000) (hby:bytes≤1000) (hbase:base≤w.heap.size)
  (hK:∀ v' w',w'.ownsRow base e size v' (n+1) (xs++news)→w.grownBy w' v.ownBlock→K (a.put o.dst v') w') :
  if Region.wanted o (yielded ops a.tmps)=true then Oper.wp P o a w K Q else E:=by
 have hw:Region.wanted o (yielded ops a.tmps)=true:=by simp [Region.wanted,hgd]
 rw [if_pos hw]
 obtain ⟨i,hi,hz0,hz1,hz2⟩:=info_parts hinfo
 refine wp_append_own w s x t ho base e i z size bytes ht hi hz0 hz1 hz2 hzs hsz v n xs hs hown ⟨g,0,none⟩ 1 c news hx (by omega) ?_ h1 (by simp only [maxLen];omega) ?_ hbase (fun v' w' h2 h3 _=>hK v' w' h2 h3)
 ·intro j u hu
  have hadd:(⟨g,0,none⟩:Addr).add j=⟨g,j,none⟩:=by unfold Addr.add;split <;> simp_all
  rw [hadd]
  exact cell_of_block hblk j u (by simpa using hu)
 ·calc (n+1) * bytes≤9000000001 * 1000:=Nat.mul_le_mul (by omega) hby
   _≤_:=by omega
theorem spanCells_at (l:List (Int × Int × Int)) (i:Nat) (h:i<l.length) :
  (spanCells l)[3 * i]?=some (.int .i64 l[i].1)∧(spanCells l)[3 * i+1]?=some (.int .i64 l[i].2.1)∧(spanCells l)[3 * i+2]?=some (.int .i64 l[i].2.2):=by
 induction l generalizing i with
 | nil=>simp at h
 | cons a r ih =>
  cases i with
  | zero=>simp [spanCells]
  | succ i =>
   have:=ih i (by simpa using h)
   have e:∀ k,(spanCells (a :: r))[3 * (i+1)+k]?=(spanCells r)[3 * i+k]?:=by
    intro k;rw [show 3 * (i+1)+k=(3 * i+k)+3 from by omega];rfl
   have e0:=e 0;have e1:=e 1;have e2:=e 2
   simp only [Nat.add_zero] at e0
   rw [e0,e1,e2];simpa using this
theorem spanRow_form {w:World} {base:Nat} {v:Value} {l:List (Int × Int × Int)} (h:w.ownsRow base 197 3 v l.length (spanCells l)) :
  ∃ ao cap,v=.slice ao l.length cap∧∀ i (hi:i<l.length),∃ g,ao=some ⟨g,0,none⟩∧g<w.heap.size∧w.cell? ⟨g,i * 3,none⟩=some (.int .i64 l[i].1)∧w.cell? ⟨g,i * 3+1,none⟩=some (.int .i64 l[i].2.1)∧w.cell? ⟨g,i * 3+2,none⟩=some (.int .i64 l[i].2.2):=by
 obtain ⟨h2,h3⟩:=h
 rcases h3 with ⟨hv,hn⟩ | ⟨g,cap,cur,hv,hg,hh,hcap,hmx,hsz,hcur⟩
 ·exact ⟨none,0,by rw [hv,hn],fun i hi=>by omega⟩
 ·refine ⟨some ⟨g,0,none⟩,cap,hv,fun i hi=>⟨g,rfl,(Array.getElem?_eq_some_iff.1 hh).1,?_⟩⟩
  have hc:=spanCells_at l i hi
  rw [Nat.mul_comm 3 i] at hc
  rw [← hcur,List.getElem?_take,List.getElem?_take,List.getElem?_take,if_pos (by omega),if_pos (by omega),if_pos (by omega)] at hc
  exact ⟨cell_of_block hh _ _ (by simpa using hc.1),cell_of_block hh _ _ (by simpa using hc.2.1),cell_of_block hh _ _ (by simpa using hc.2.2)⟩
theorem hexV_bd (l:List UInt8):0≤RS.hexV l∧RS.hexV l<16777216:=by
 unfold RS.hexV;split
 ·omega
 ·exact hexN_bd 6 l (by omega)
theorem RSt.pushSpan {w w1 w2 w3:World} {base b:Nat} {T:ByteArray} {s:RS} {vN vS vL v':Value} {o:Int × Int × Int} (h:RSt w base b T s) (hblk:Blk w b T s vN vS vL) (hr:Rows3 w base s vN vS vL)
  (hp:Pushed 197 5 base b vS v' w w1 w2 w3) (hnew:w2.ownsRow base 197 3 v' (s.spans.length+1) (spanCells s.spans++[.int .i64 o.1,.int .i64 o.2.1,.int .i64 o.2.2]))
  (hok:({ s with spans:=s.spans++[o] }:RS).Ok T):RSt w3 base b T { s with spans:=s.spans++[o] }∧RChg base w w3:=by
 obtain ⟨g,hbb,hT,_,ht,_⟩:=h
 obtain ⟨a,c,vs,d,ar⟩:=hr
 have hrc:=hp.rchg c hbb hblk (by decide) (by decide) (by decide) (by decide) (by decide)
 refine ⟨⟨g,hbb,hT,hok,ht.on hrc.1 g,vN,v',vL,?_,?_,?_,vs,?_,ar.keep hrc.2⟩,hrc⟩
 ·exact (hp.blk c hblk (by decide)).trans rfl
 ·exact ownsRow_chg a (hp.kt c hblk (by decide) (by decide) (by decide))
 ·have:=hp.row c hblk (by decide) hnew
  have e:spanCells (s.spans++[o])=spanCells s.spans++[.int .i64 o.1,.int .i64 o.2.1,.int .i64 o.2.2]:=by simp [spanCells]
  show w3.ownsRow base _ 3 v' (s.spans++[o]).length (spanCells (s.spans++[o]))
  rw [e,List.length_append];exact this
 ·exact ownsRow_chg d (hp.kt c hblk (by decide) (by decide) (by decide))
theorem tk_nil (T:ByteArray) (s:RS) (h:T.size≤s.pos T):s.tk T=[]:=by
 unfold RS.tk tok;unfold RS.pos at h
 rw [ByteArray.toList_eq,ByteArray.data_extract,Array.toList_extract]
 simp only [List.extract_eq_take_drop]
 rw [List.drop_eq_nil_of_le (by simpa using h)];simp
theorem take_adv (T:ByteArray) (s:RS) (hat:s.at_≤T.size) (h:s.tk T ≠ []):s.at_<(s.take T).at_:=by
 have:=take_at T s hat
 by_cases hp:s.pos T<T.size
 ·exact this.2.2.1 hp
 ·exact absurd (tk_nil T s (by omega)) h
theorem hex_adv (T:ByteArray) (s:RS) (hat:s.at_≤T.size) (h:(s.hex T).err=0):s.at_<(s.hex T).at_:=by
 rw [(hex_same T s).2.2.2.1]
 refine take_adv T s hat (fun e=>?_)
 have:=(hex_none e).1
 rw [this] at h
 exact fail_err _ _ _ (by omega) h
theorem hex_err (T:ByteArray) (s:RS) (h:(s.hex T).err=0):s.err=0:=by
 have key:∀ (s:RS) (e p:Int),e ≠ 0→(s.fail e p).err=0→False:=fun s e p he h=>fail_err s e p he h
 unfold RS.hex at h
 simp only at h
 split at h
 ·exact (key _ _ _ (by omega) h).elim
 ·split at h
  ·exact (key _ _ _ (by omega) h).elim
  ·split at h
   ·exact h
   ·exact (key _ _ _ (by omega) h).elim
def SpanQ (s s2:RS):Prop:=s2.spans=s.spans∧s.at_≤s2.at_∧(s2.err=0→s.at_<s2.at_)
theorem SpanQ.fail {s s2:RS} (h:SpanQ s s2) (e p:Int) (he:e ≠ 0):SpanQ s (s2.fail e p):=by
 obtain ⟨a,b,c⟩:=h
 have f:=fail_same s2 e p
 exact ⟨by rw [f.2.1];exact a,by rw [f.2.2.2.1];exact b,fun e0=>absurd e0 (fail_err _ _ _ he)⟩
theorem addSpan_ok {T:ByteArray} {s s3:RS} {o:Int × Int × Int} (hok:s.Ok T) (herr:s.err=0) (h3:s3.Ok T) (hq:SpanQ s s3):({ s3 with spans:=s3.spans++[o] }:RS).Ok T:=by
 obtain ⟨a,b,c⟩:=hq
 have hs:=(hok.2.2.2.2.2.2.2.2 herr).1
 unfold RS.Ok at *
 obtain ⟨p1,p2,p3,p4,p5,p6,p7,p8,p9⟩:=h3
 refine ⟨p1,p2,?_,p4,p5,p6,p7,p8,fun e=>⟨?_,(p9 e).2⟩⟩
 ·show (s3.spans++[o]).length≤s3.at_+1
  rw [List.length_append,a];simp;omega
 ·show (s3.spans++[o]).length≤s3.at_
  have:=c e
  rw [List.length_append,a];simp;omega
theorem meets_snoc (a t:Int) (l:List (Int × Int × Int)) (o:Int × Int × Int):RS.meets a t (l++[o])=(RS.meets a t l || (decide (a≤o.2.1) && decide (o.1≤t))):=by
 unfold RS.meets;simp
def bad0 (a t:Int):Bool:=decide (t<a) || (decide (a≤57343) && decide (55296≤t))
theorem bad_all (a t:Int) (l:List (Int × Int × Int)):(bad0 a t || RS.meets a t l)=RS.badSpan a t l:=rfl
set_option maxRecDepth 100000 in
set_option maxHeartbeats 4000000 in
theorem span_rs (base b:Nat) (T:ByteArray) (s:RS) (w:World) (h:RSt w base b T s) (herr:s.err=0) :
  Calls Tryz.prog 95 #[.pointer (some ⟨b,0,none⟩)] w fun e w'=>e=.returned (.tuple #[])∧RSt w' base b T (s.span T)∧RChg base w w':=by
 have hx:=hexV_bd (s.tk T)
 obtain ⟨a,ha⟩:∃ a,a=RS.hexV (s.tk T):=⟨_,rfl⟩
 rw [← ha] at hx
 have HA:Hid (a=RS.hexV (s.tk T)):=ha
 clear ha
 obtain ⟨hx1,hx2⟩:=hx
 have HE:Hid (s.err=0):=herr
 clear herr
 go_enter Tryz.func95,Tryz.ntmps95
 go_wp2_with fail
 refine (hex_rs base b T s _ h).mono ?_
 rintro e1 w1 ⟨rfl,h1,r1⟩
 rw [← HA.out]
 go_wp2_with fail
 refine (peek_rs base b T (s.hex T) _ h1).mono ?_
 rintro e2 w2 ⟨rfl,h2,r2⟩
 obtain ⟨s1,hs1⟩:∃ s1,s1=(s.hex T).peek T:=⟨_,rfl⟩
 rw [← hs1] at h2
 have HS1:Hid (s1=(s.hex T).peek T):=hs1
 clear hs1
 obtain ⟨t1,ht1⟩:∃ t1,t1=tok T (s.hex T).at_:=⟨_,rfl⟩
 rw [← ht1]
 have HT1:Hid (s1.tk T=t1.toList):=by
  show s1.tk T=t1.toList
  rw [HS1.out,ht1];unfold RS.tk RS.peek tok;simp only;rw [skip_skip]
 clear ht1
 obtain ⟨vN,vS,vL,hblk,hrow,c0,c1,c2,c3,c4,c5,c6,c7,c8,hf⟩:=h2.cells
 go_upto_region 3 with fail
 go_cut [29] (fun cv wx=>cv=.bool (decide (s1.err=0∧s1.tk T=[45]))∧wx=w2)
 case first =>
  by_cases e0:s1.err=0
  ·have k1:(s1.err == 0)=true:=by simpa using e0
   by_cases e1:s1.tk T=[45]
   ·have k2:(t1.toList == [45])=true:=by rw [← HT1.out];simpa using e1
    have hd:Hid (decide (s1.err=0∧s1.tk T=[45])=true):=by show decide _=true;simp [e0,e1]
    clear e0 e1
    go_wp2
    go_meet
    exact ⟨by rw [hd.out],rfl⟩
   ·have k2:(t1.toList == [45])=false:=by rw [← HT1.out];simpa using e1
    have hd:Hid (decide (s1.err=0∧s1.tk T=[45])=false):=by show decide _=false;simp [e1]
    clear e0 e1
    go_wp2
    go_meet
    exact ⟨by rw [hd.out],rfl⟩
  ·have k1:(s1.err == 0)=false:=by simpa using e0
   have hd:Hid (decide (s1.err=0∧s1.tk T=[45])=false):=by show decide _=false;simp [e0]
   clear e0
   go_wp2
   go_meet
   exact ⟨by rw [hd.out],rfl⟩
 case rest =>
  obtain ⟨rfl,rfl⟩:=hcut
  go_upto_if 29 with fail
  go_cut [3,4] (fun pv tv wx=>∃ (p t:Int) (s2:RS),pv=.int .i64 p∧tv=.int .i64 t∧RSt wx base b T s2∧RChg base w wx∧Hid (s.span T=s2.addSpan a t p)∧Hid (SpanQ s s2)∧0≤t∧t<16777216)
  case first =>
   by_cases hd:s1.err=0∧s1.tk T=[45]
   ·have hB:decide (s1.err=0∧s1.tk T=[45])=true:=by simpa using hd
    rw [hB]
    have hy:=hexV_bd ((s1.take T).tk T)
    obtain ⟨hy1,hy2⟩:=hy
    have HSP:Hid (s.span T=((s1.take T).hex T).addSpan a (RS.hexV ((s1.take T).tk T)) ((s1.take T).pos T)):=by
     show s.span T=_
     unfold RS.span;simp only;rw [← HS1.out,if_pos hd,← HA.out]
    have HQ:Hid (SpanQ s ((s1.take T).hex T)):=by
     have q1:=hex_same T (s1.take T)
     have q2:=hex_same T s
     have hat:s.at_≤T.size:=h.2.2.2.1.1
     have a1:=take_at T s hat
     have e1:s1.at_=((s.hex T).peek T).at_:=by rw [HS1.out]
     have a2:=peek_at T (s.hex T) (by rw [q2.2.2.2.1];exact a1.1)
     have a3:=take_at T s1 (by rw [e1];exact a2.1)
     have a4:=take_at T (s1.take T) a3.1
     have e2:=q2.2.2.2.1
     refine ⟨by rw [q1.2.1];show s1.spans=_;rw [HS1.out];exact q2.2.1,?_,fun e=>?_⟩
     ·rw [q1.2.2.2.1];omega
     ·have:=hex_adv T s hat (by have:=hex_err T _ e;have h4:(s1.take T).err=(s.hex T).err:=by rw [HS1.out];rfl
                                rw [← h4];exact this)
      rw [q1.2.2.2.1];omega
    clear hd hB
    go_wp2_with fail
    refine (take_rs base b T s1 _ h2).mono ?_
    rintro e3 w3 ⟨rfl,h3,r3⟩
    go_wp2_with fail
    refine (hex_rs base b T (s1.take T) _ h3).mono ?_
    rintro e4 w4 ⟨rfl,h4,r4⟩
    go_wp2_with fail
    go_meet
    exact ⟨_,_,_,rfl,rfl,h4,((r1.trans r2).trans r3).trans r4,HSP,HQ,hy1,hy2⟩
   ·have hB:decide (s1.err=0∧s1.tk T=[45])=false:=by simpa using hd
    rw [hB]
    have HSP:Hid (s.span T=s1.addSpan a a (s.pos T)):=by
     show s.span T=_
     unfold RS.span;simp only;rw [← HS1.out,if_neg hd,← HA.out]
    have HQ:Hid (SpanQ s s1):=by
     have q2:=hex_same T s
     have hat:s.at_≤T.size:=h.2.2.2.1.1
     have a1:=take_at T s hat
     have e1:s1.at_=((s.hex T).peek T).at_:=by rw [HS1.out]
     have a2:=peek_at T (s.hex T) (by rw [q2.2.2.2.1];exact a1.1)
     have e2:=q2.2.2.2.1
     refine ⟨by rw [HS1.out];exact q2.2.1,by omega,fun e=>?_⟩
     have:=hex_adv T s hat (by have h4:s1.err=(s.hex T).err:=by rw [HS1.out];rfl
                               rw [← h4];exact e)
     omega
    clear hd hB
    go_wp2_with fail
    go_meet
    exact ⟨_,_,_,rfl,rfl,h2,r1.trans r2,HSP,HQ,hx1,hx2⟩
  case rest =>
   obtain ⟨w5,hw5⟩:∃ w5,w5=wc:=⟨wc,rfl⟩
   subst hw5
   obtain ⟨p,t,s2,rfl,rfl,h5,r5,HSP,HQ,hy1,hy2⟩:=hcut
   have hok0:Hid (s.Ok T):=h.2.2.2.1
   clear h h1 h2 hblk hrow c0 c1 c2 c3 c4 c5 c6 c7 c8 hf r1 r2
   obtain ⟨vN,vS,vL,hblk,hrow,c0,c1,c2,c3,c4,c5,c6,c7,c8,hf⟩:=h5.cells
   obtain ⟨ao,cap,rfl,hcs⟩:=spanRow_form hrow.2.1
   have HC:Hid (∀ i (hi:i<s2.spans.length),∃ g,ao=some ⟨g,0,none⟩∧g<w5.heap.size∧w5.cell? ⟨g,i * 3,none⟩=some (.int .i64 s2.spans[i].1)∧w5.cell? ⟨g,i * 3+1,none⟩=some (.int .i64 s2.spans[i].2.1)∧w5.cell? ⟨g,i * 3+2,none⟩=some (.int .i64 s2.spans[i].2.2)):=hcs
   clear hcs
   have hsl:s2.spans.length≤1001:=by have:=h5.2.2.2.1.2.2.1;have:=h5.2.2.2.1.1;have:=h5.2.2.1;omega
   go_upto_region 6 with fail
   go_cut [7] (fun cv wx=>cv=.bool (bad0 a t)∧wx=w5)
   case first =>
    by_cases e0:t<a
    ·have hb0:Hid (bad0 a t=true):=by show bad0 a t=true;unfold bad0;simp [e0]
     go_wp2
     go_meet
     exact ⟨by rw [hb0.out],rfl⟩
    ·by_cases e1:a≤57343
     ·by_cases e2:55296≤t
      ·have hb0:Hid (bad0 a t=true):=by show bad0 a t=true;unfold bad0;simp [e1,e2]
       go_wp2
       go_meet
       exact ⟨by rw [hb0.out],rfl⟩
      ·have hb0:Hid (bad0 a t=false):=by show bad0 a t=false;unfold bad0;simp [e2];omega
       go_wp2
       go_meet
       exact ⟨by rw [hb0.out],rfl⟩
     ·have hb0:Hid (bad0 a t=false):=by show bad0 a t=false;unfold bad0;simp [e1];omega
      go_wp2
      go_meet
      exact ⟨by rw [hb0.out],rfl⟩
   case rest =>
    obtain ⟨rfl,rfl⟩:=hcut
    go_wp2
    go_loopg [7,8] s2.spans.length (fun g bv i wx=>∃ k:Nat,k≤s2.spans.length∧g=s2.spans.length - k∧i=.int .i64 k∧bv=.bool (bad0 a t || RS.meets a t (s2.spans.take k))∧Below wc.heap.size wc wx)
    case atStart=>exact ⟨0,by omega,rfl,rfl,by simp [RS.meets],Below.refl _ _⟩
    case round =>
     obtain ⟨k,hk,rfl,rfl,rfl,hbel⟩:=hrel
     have hbs:b<wc.heap.size:=(Array.getElem?_eq_some_iff.1 hblk).1
     have d4:wr.cell? ⟨b,4,none⟩=some vN:=(hbel.cell (p:=⟨b,4,none⟩) hbs).trans c4
     have d5:wr.cell? ⟨b,5,none⟩=some (.slice ao s2.spans.length cap):=(hbel.cell (p:=⟨b,5,none⟩) hbs).trans c5
     by_cases hlt:k<s2.spans.length
     ·obtain ⟨g,rfl,hg,q0,q1,q2⟩:=HC.out k hlt
      have z0:wr.cell? ⟨g,k * 3,none⟩=some (.int .i64 s2.spans[k].1):=(hbel.cell (p:=⟨g,k * 3,none⟩) hg).trans q0
      have z1:wr.cell? ⟨g,k * 3+1,none⟩=some (.int .i64 s2.spans[k].2.1):=(hbel.cell (p:=⟨g,k * 3+1,none⟩) hg).trans q1
      have z2:wr.cell? ⟨g,k * 3+2,none⟩=some (.int .i64 s2.spans[k].2.2):=(hbel.cell (p:=⟨g,k * 3+2,none⟩) hg).trans q2
      have HM:Hid (RS.meets a t (s2.spans.take (k+1))=(RS.meets a t (s2.spans.take k) || (decide (a≤s2.spans[k].2.1) && decide (s2.spans[k].1≤t)))):=by
       show RS.meets _ _ _=_
       rw [List.take_succ_eq_append_getElem hlt,meets_snoc]
      cases hB:(bad0 a t || RS.meets a t (s2.spans.take k))
      ·have hBB:∀ X:Bool,(bad0 a t || (RS.meets a t (s2.spans.take k) || X))=X:=by
        intro X;rw [← Bool.or_assoc,hB,Bool.false_or]
       have HBB:Hid (∀ X:Bool,(bad0 a t || (RS.meets a t (s2.spans.take k) || X))=X):=hBB
       clear hBB
       by_cases e1:a≤s2.spans[k].2.1
       ·by_cases e2:s2.spans[k].1≤t
        ·have hX:Hid ((decide (a≤s2.spans[k].2.1) && decide (s2.spans[k].1≤t))=true):=by show _=true;simp [e1,e2]
         go_wp2
         go_roundg (s2.spans.length - (k+1))
         case measure=>omega
         case rel=>exact ⟨k+1,by omega,rfl,by go_num,by rw [HM.out,HBB.out,hX.out],hbel.alloc (hbel.size) _⟩
        ·have hX:Hid ((decide (a≤s2.spans[k].2.1) && decide (s2.spans[k].1≤t))=false):=by show _=false;simp [e2]
         go_wp2
         go_roundg (s2.spans.length - (k+1))
         case measure=>omega
         case rel=>exact ⟨k+1,by omega,rfl,by go_num,by rw [HM.out,HBB.out,hX.out],hbel.alloc (hbel.size) _⟩
       ·have hX:Hid ((decide (a≤s2.spans[k].2.1) && decide (s2.spans[k].1≤t))=false):=by show _=false;simp [e1]
        go_wp2
        go_roundg (s2.spans.length - (k+1))
        case measure=>omega
        case rel=>exact ⟨k+1,by omega,rfl,by go_num,by rw [HM.out,HBB.out,hX.out],hbel.alloc (hbel.size) _⟩
      ·have hBB:∀ X:Bool,(bad0 a t || (RS.meets a t (s2.spans.take k) || X))=true:=by
        intro X;rw [← Bool.or_assoc,hB,Bool.true_or]
       have HBB:Hid (∀ X:Bool,(bad0 a t || (RS.meets a t (s2.spans.take k) || X))=true):=hBB
       clear hBB
       go_wp2
       go_roundg (s2.spans.length - (k+1))
       case measure=>omega
       case rel=>exact ⟨k+1,by omega,rfl,by go_num,by rw [HM.out,HBB.out],hbel.alloc (hbel.size) _⟩
     ·have hkl:k=s2.spans.length:=by omega
      have hall:s2.spans.take k=s2.spans:=by rw [hkl,List.take_length]
      rw [hall,bad_all]
      clear hall hkl
      have h6:=(h5.below hbel).1
      have r6:=r5.trans (h5.below hbel).2
      go_upto_if 77 with fail
      clear hblk hrow c0 c1 c2 c3 c4 c5 c6 c7 c8 hf d4 d5
      go_cut [7,8] (fun _ _ wx=>∃ s3:RS,Hid (SpanQ s s3)∧Hid (s3=if RS.badSpan a t s2.spans=true then s2.fail 5 p else s2)∧RSt wx base b T s3∧RChg base w wx)
      case first =>
       cases hB:RS.badSpan a t s2.spans
       ·go_wp2_with fail
        go_meet
        exact ⟨s2,HQ,by show s2=ite _ _ _;rw [hB];rfl,h6,r6⟩
       ·go_wp2_with fail
        refine (fail_rs base b T s2 5 p _ h6 (by omega)).mono ?_
        rintro e7 w7 ⟨rfl,h7,r7⟩
        go_wp2_with fail
        go_meet
        exact ⟨s2.fail 5 p,HQ.out.fail _ _ (by omega),by show s2.fail 5 p=ite _ _ _;rw [hB];rfl,h7,r6.trans r7⟩
      case rest =>
       obtain ⟨w6,hw6⟩:∃ w6,w6=wc:=⟨wc,rfl⟩
       subst hw6
       obtain ⟨s3,HQ3,hs3,h7,r7⟩:=hcut
       clear h5 h6 r5 r6 hbel
       obtain ⟨vN,vS,vL,hblk,hrow,c0,c1,c2,c3,c4,c5,c6,c7,c8,hf⟩:=h7.cells
       obtain ⟨aoN,capN,rfl⟩:=ownsRow_shape hrow.1
       obtain ⟨aoS,capS,rfl⟩:=ownsRow_shape hrow.2.1
       have hnl:s3.names.length≤6:=h7.2.2.2.1.2.1
       have hsl3:s3.spans.length≤1001:=by have:=h7.2.2.2.1.2.2.1;have:=h7.2.2.2.1.1;have:=h7.2.2.1;omega
       have hbs:b<w6.heap.size:=(Array.getElem?_eq_some_iff.1 hblk).1
       have hbb:base≤b:=h7.2.1
       have HR:Hid (w6.ownsRow base 197 3 (.slice aoS s3.spans.length capS) s3.spans.length (spanCells s3.spans)):=hrow.2.1
       have hwrap:IntKind.i64.wrap ((s3.names.length:Int) - 1)=(s3.names.length:Int) - 1:=IntWalk.i64_in _ ⟨by omega,by omega⟩
       go_wp2
       go_region_law (refine step_push rfl (.tmp 85) (.tmp 95) 31 rfl base 197 (.agg #[.int .i64 0,.int .i64 0,.int .i64 0]) 3 24 Tryz.infoSpan Tryz.undSpan rfl (by decide) (.slice aoS s3.spans.length capS) s3.spans.length (spanCells s3.spans) rfl (by exact HR.out.alloc _) w6.heap.size 1 [.int .i64 a,.int .i64 t,.int .i64 ((s3.names.length:Int) - 1)] rfl rfl (by exact heap_alloc_new _ _) (by intro u hu;simp at hu;rcases hu with rfl | rfl | rfl <;> rfl) (by omega) (by omega) (by simp;omega) ?_;intro v' w' hown hg;obtain ⟨ao',cap',hv'⟩:=ownsRow_shape hown;subst hv';have hb':=pushed_free hg hblk (by exact (((Below.refl _ _).alloc (Nat.le_refl _) _)).drew) (by exact HR.out.alloc _) (by decide);have e5:=cell_of_block hb' 5 _ rfl;have ef:=free_of_block hb')
       all_goals go_wp2
       all_goals go_end0
       all_goals
        have hpu:Pushed 197 5 base b (.slice aoS s3.spans.length capS) (.slice ao' (s3.spans.length+1) cap') w6 _ w' (w'.setCell ⟨b,5,none⟩ (.slice ao' (s3.spans.length+1) cap')):=⟨((Below.refl _ _).alloc (Nat.le_refl _) _).drew,hg,rfl,rfl,rfl,rfl⟩
        have hfin:=h7.pushSpan (o:=(a,t,(s3.names.length:Int) - 1)) hblk hrow hpu hown (addSpan_ok hok0.out HE.out h7.2.2.2.1 HQ3.out)
        have heq:s.span T={ s3 with spans:=s3.spans++[(a,t,(s3.names.length:Int) - 1)] }:=by
         rw [HSP.out];unfold RS.addSpan;simp only;rw [← hs3.out]
        exact ⟨rfl,by rw [heq];exact hfin.1,r7.trans hfin.2⟩
end Go.Proofs.YtodagkkjfipbgaaGreatDoor
