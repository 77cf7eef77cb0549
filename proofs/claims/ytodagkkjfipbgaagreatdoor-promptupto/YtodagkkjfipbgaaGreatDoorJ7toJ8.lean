import Derived.Laws.MakeOwn
import Derived.Test.YtodagkkjfipbgaaGreatDoorJ1toJ2
namespace Go.Proofs.YtodagkkjfipbgaaGreatDoor
open Go.RowKit Go.Maps
def addE (g:List (List (Nat × Nat))) (a:Nat × Nat × Nat):List (List (Nat × Nat)):=g.modify a.1 (·++[a.2])
def stAdds (fw:Bool) (i:Nat) (s:St):List (Nat × Nat × Nat):=s.2.map fun u=>if fw=true then (i,s.1,u) else (u,s.1,i)
def allAdds (fw:Bool):List St->Nat->List (Nat × Nat × Nat)
 | [],_=>[]
 | s :: r,i=>stAdds fw i s++allAdds fw r (i+1)
def grF (n:Nat) (A:List (Nat × Nat × Nat)):List (List (Nat × Nat)):=A.foldl addE (List.replicate n [])
def graphOf (fw:Bool) (S:List St):List (List (Nat × Nat)):=grF S.length (allAdds fw S 0)
theorem addE_len (g:List (List (Nat × Nat))) (a:Nat × Nat × Nat):(addE g a).length=g.length:=by unfold addE;simp
theorem foldl_addE_len (A:List (Nat × Nat × Nat)):∀ g:List (List (Nat × Nat)),(A.foldl addE g).length=g.length:=by
 induction A with
 | nil=>intro g;rfl
 | cons a A ih=>intro g;rw [List.foldl_cons,ih,addE_len]
theorem grF_len (n:Nat) (A:List (Nat × Nat × Nat)):(grF n A).length=n:=by unfold grF;rw [foldl_addE_len];simp
theorem grF_snoc (n:Nat) (A:List (Nat × Nat × Nat)) (a:Nat × Nat × Nat):grF n (A++[a])=addE (grF n A) a:=by unfold grF;rw [List.foldl_append];rfl
theorem addE_at {g:List (List (Nat × Nat))} {a:Nat × Nat × Nat} {i:Nat} {l:List (Nat × Nat)} (h:(addE g a)[i]?=some l):(i ≠ a.1/\g[i]?=some l)\/(i=a.1/\∃ l0,g[i]?=some l0/\l=l0++[a.2]):=by
 unfold addE at h
 rw [List.getElem?_modify] at h
 by_cases e:a.1=i
 ·right
  subst e
  simp at h
  obtain ⟨l0,h1,rfl⟩:=h
  exact ⟨rfl,_,h1,rfl⟩
 ·left
  refine ⟨fun e'=>e e'.symm,?_⟩
  cases hS:g[i]? with
  | none=>rw [hS] at h;simp at h
  | some x=>rw [hS] at h;simp [e] at h;rw [h]
theorem grF_row (n:Nat):∀ (B A:List (Nat × Nat × Nat)),A.reverse=B->∀ l ∈ grF n A,l.length<=A.length:=by
 intro B
 induction B with
 | nil =>
  intro A e l hl
  have:A=[]:=by simpa using e
  subst this
  unfold grF at hl
  simp at hl
  rw [hl.2];simp
 | cons b B ih =>
  intro A e l hl
  have:A=B.reverse++[b]:=by rw [<- List.reverse_cons,<- e];simp
  subst this
  rw [grF_snoc] at hl
  obtain ⟨i,hi⟩:=List.mem_iff_getElem?.1 hl
  have h0:=ih B.reverse (by simp)
  rcases addE_at hi with ⟨_,h1⟩ | ⟨_,l0,h1,rfl⟩
  ·have:=h0 l (List.mem_of_getElem? h1);simp at this ⊢;omega
  ·have:=h0 l0 (List.mem_of_getElem? h1);simp at this ⊢;omega
theorem grF_mem (n:Nat) (x:Nat) (hx:x<n) (e:Nat × Nat):∀ (B A:List (Nat × Nat × Nat)),A.reverse=B->(e ∈ grow (grF n A) x↔(x,e) ∈ A):=by
 intro B
 induction B with
 | nil =>
  intro A h
  have:A=[]:=by simpa using h
  subst this
  unfold grow grF
  simp [hx]
 | cons b B ih =>
  intro A h
  have:A=B.reverse++[b]:=by rw [<- List.reverse_cons,<- h];simp
  subst this
  have h0:=ih B.reverse (by simp)
  rw [grF_snoc,List.mem_append,<- h0]
  have hl:x<(grF n B.reverse).length:=by rw [grF_len];exact hx
  have hl2:x<(addE (grF n B.reverse) b).length:=by rw [addE_len];exact hl
  have e1:grow (grF n B.reverse) x=(grF n B.reverse)[x]:=grow_at hl
  have e2:grow (addE (grF n B.reverse) b) x=(addE (grF n B.reverse) b)[x]:=grow_at hl2
  rw [e1,e2]
  rcases addE_at (List.getElem?_eq_getElem hl2) with ⟨h1,h2⟩ | ⟨h1,l0,h2,h3⟩
  ·rw [List.getElem?_eq_getElem hl] at h2
   simp at h2
   rw [<- h2]
   constructor
   ·exact Or.inl
   ·rintro (h | h)
    ·exact h
    ·simp at h;exact absurd (congrArg Prod.fst h) h1
  ·rw [List.getElem?_eq_getElem hl] at h2
   simp at h2
   rw [h3,<- h2,List.mem_append,List.mem_singleton,List.mem_singleton]
   constructor
   ·rintro (h | h)
    ·exact Or.inl h
    ·exact Or.inr (by rw [h1,h])
   ·rintro (h | h)
    ·exact Or.inl h
    ·exact Or.inr (by rw [<- h])
theorem mem_allAdds (fw:Bool) (x:Nat × Nat × Nat):∀ (S:List St) (i:Nat),x ∈ allAdds fw S i↔∃ (j:Nat) (s:St),S[j]?=some s/\x ∈ stAdds fw (i+j) s:=by
 intro S
 induction S with
 | nil=>intro i;simp [allAdds]
 | cons s S ih =>
  intro i
  rw [allAdds,List.mem_append,ih]
  constructor
  ·rintro (h | ⟨j,s',h1,h2⟩)
   ·exact ⟨0,s,rfl,by simpa using h⟩
   ·exact ⟨j+1,s',by simpa using h1,by rw [show i+(j+1)=i+1+j from by omega];exact h2⟩
  ·rintro ⟨j,s',h1,h2⟩
   cases j with
   | zero=>simp at h1;subst h1;exact Or.inl (by simpa using h2)
   | succ j=>exact Or.inr ⟨j,s',by simpa using h1,by rw [show i+1+j=i+(j+1) from by omega];exact h2⟩
theorem allAdds_len (fw:Bool):∀ (S:List St) (i:Nat),(allAdds fw S i).length=tot S:=by
 intro S
 induction S with
 | nil=>intro i;rfl
 | cons s S ih=>intro i;rw [allAdds,List.length_append,ih];simp [stAdds,tot]
theorem allAdds_append (fw:Bool):∀ (S R:List St) (i:Nat),allAdds fw (S++R) i=allAdds fw S i++allAdds fw R (i+S.length):=by
 intro S
 induction S with
 | nil=>intro R i;rfl
 | cons s S ih=>intro R i;rw [List.cons_append,allAdds,allAdds,ih,List.append_assoc,List.length_cons,show i+1+S.length=i+(S.length+1) from by omega]
def preAdds (fw:Bool) (S:List St) (i j:Nat):List (Nat × Nat × Nat):=allAdds fw (S.take i) 0++((S[i]?).map fun s=>(stAdds fw i s).take j).getD []
theorem preAdds_start (fw:Bool) (S:List St) (i:Nat) (h:i<S.length):preAdds fw S i 0=allAdds fw (S.take i) 0:=by unfold preAdds;rw [List.getElem?_eq_getElem h];simp
theorem preAdds_next (fw:Bool) (S:List St) (i j:Nat) (hi:i<S.length) (hj:j<(S[i]'hi).2.length) :
  preAdds fw S i (j+1)=preAdds fw S i j++[if fw=true then (i,(S[i]'hi).1,(S[i]'hi).2[j]'hj) else ((S[i]'hi).2[j]'hj,(S[i]'hi).1,i)]:=by
 unfold preAdds
 rw [List.getElem?_eq_getElem hi]
 simp only [Option.map_some,Option.getD_some]
 rw [List.append_assoc,List.take_add_one]
 congr 2
 unfold stAdds
 rw [List.getElem?_map,List.getElem?_eq_getElem hj]
 rfl
theorem preAdds_end (fw:Bool) (S:List St) (i:Nat) (hi:i<S.length):preAdds fw S i (S[i]'hi).2.length=allAdds fw (S.take (i+1)) 0:=by
 unfold preAdds
 rw [List.getElem?_eq_getElem hi,List.take_add_one,List.getElem?_eq_getElem hi]
 simp only [Option.map_some,Option.getD_some,Option.toList_some]
 have e:(stAdds fw i (S[i]'hi)).take (S[i]'hi).2.length=stAdds fw i (S[i]'hi):=List.take_of_length_le (by simp [stAdds])
 rw [allAdds_append,e]
 congr 1
 rw [List.length_take,Nat.min_eq_left (Nat.le_of_lt hi),Nat.zero_add]
 simp [allAdds]
theorem tot_take (S:List St):∀ i,tot (S.take i)<=tot S:=by
 intro i
 have:tot S=tot (S.take i)+tot (S.drop i):=by
  unfold tot
  rw [<- List.sum_append,<- List.map_append,List.take_append_drop]
 omega
theorem tot_at (S:List St) (i:Nat) (hi:i<S.length):tot (S.take i)+(S[i]'hi).2.length<=tot S:=by
 have h:=tot_take S (i+1)
 have e:tot (S.take (i+1))=tot (S.take i)+(S[i]'hi).2.length:=by
  unfold tot
  rw [List.take_add_one,List.getElem?_eq_getElem hi,List.map_append,List.sum_append]
  simp
 omega
theorem preAdds_len (fw:Bool) (S:List St) (i j:Nat) (hi:i<S.length):(preAdds fw S i j).length<=tot S:=by
 unfold preAdds
 rw [List.getElem?_eq_getElem hi]
 have h:=tot_at S i hi
 simp only [Option.map_some,Option.getD_some,List.length_append,allAdds_len,List.length_take]
 have:(stAdds fw i (S[i]'hi)).length=(S[i]'hi).2.length:=by simp [stAdds]
 omega
structure SOk (S:List St):Prop where
 len:S.length<=9000
 tot_:tot S<=9000
 kind:∀ s ∈ S,s.1<256
 to_:∀ s ∈ S,∀ t ∈ s.2,t<S.length
theorem graph_len (fw:Bool) (S:List St):(graphOf fw S).length=S.length:=grF_len _ _
theorem graph_mem (fw:Bool) (S:List St) (x:Nat) (e:Nat × Nat) (hx:x<S.length):e ∈ grow (graphOf fw S) x↔∃ (j:Nat) (s:St),S[j]?=some s/\e.1=s.1/\(if fw=true then x=j/\e.2 ∈ s.2 else e.2=j/\x ∈ s.2):=by
 unfold graphOf
 rw [grF_mem _ _ hx e _ _ rfl,mem_allAdds]
 constructor
 ·rintro ⟨j,s,h1,h2⟩
  unfold stAdds at h2
  rw [List.mem_map] at h2
  obtain ⟨t,h3,h4⟩:=h2
  refine ⟨j,s,h1,?_⟩
  cases fw
  ·simp at h4;obtain ⟨rfl,rfl⟩:=h4;exact ⟨rfl,by simp [h3]⟩
  ·simp at h4;obtain ⟨rfl,rfl⟩:=h4;exact ⟨rfl,by simp [h3]⟩
 ·rintro ⟨j,s,h1,h2,h3⟩
  refine ⟨j,s,h1,?_⟩
  unfold stAdds
  rw [List.mem_map]
  cases fw
  ·simp at h3;exact ⟨x,h3.2,by simp;rw [<- h3.1,<- h2]⟩
  ·simp at h3;exact ⟨e.2,h3.2,by simp;rw [<- h2];exact ⟨h3.1.symm,rfl⟩⟩
theorem graph_ok (fw:Bool) (S:List St) (h:SOk S):GOk (graphOf fw S):=by
 refine ⟨by rw [graph_len];exact h.len,fun l hl=>?_,?_⟩
 ·have:=grF_row S.length _ (allAdds fw S 0) rfl l hl
  rw [allAdds_len] at this
  have:=h.tot_;omega
 ·intro l hl e he
  obtain ⟨x,hx,rfl⟩:=List.mem_iff_getElem.1 hl
  rw [<- grow_at hx] at he
  rw [graph_len] at hx
  obtain ⟨j,s,h1,h2,h3⟩:=(graph_mem fw S x e hx).1 he
  have hs:=List.mem_of_getElem? h1
  have hj:=(List.getElem?_eq_some_iff.1 h1).1
  refine ⟨?_,by rw [h2];exact h.kind s hs⟩
  rw [graph_len]
  cases fw
  ·simp at h3;omega
  ·simp at h3;exact h.to_ s hs _ h3.2
theorem Tryz.infoRowE:(Tryz.prog.info? 301).map (fun i=>(i.zero,i.size,i.bytes))=some (some (.slice none 0 0),1,24):=by kernel_rfl
theorem Tryz.undGraph:Tryz.prog.underlying 229=some (.slice 301):=by kernel_rfl
theorem made_one (v:Value) (n:Nat):(madeCells #[v] n).toList=List.replicate n v:=by
 unfold madeCells
 simp [Nat.mod_one]
 apply List.ext_getElem
 ·simp
 ·intro i h1 h2;simp
theorem make_graph (W:World) (n:Nat) (hn:n<=9000):(Instr.makeSlice 229 (.int .i64 n) (.int .i64 n)).run Tryz.prog W=.ok (.slice (some ⟨W.heap.size,0,none⟩) n n) (W.alloc (.cells (madeCells #[.slice none 0 0] n) 301)):=by
 obtain ⟨i,hi,hz0,hz1,hz2⟩:=info_parts Tryz.infoRowE
 have h:=run_make (P:=Tryz.prog) W 229 301 i (.slice none 0 0) Tryz.undGraph hi hz0 .i64 .i64 n n (by omega) (by omega) (by rw [hz2];omega) (by omega)
 rw [hz1] at h
 simpa [Value.cells] using h
theorem grow_made (W:World) (n:Nat) (hn:n<=9000):GRow (W.alloc (.cells (madeCells #[.slice none 0 0] n) 301)) W.heap.size (.slice (some ⟨W.heap.size,0,none⟩) n n) (List.replicate n []) (List.replicate n (.slice none 0 0)):=by
 refine ⟨by simp,⟨by simp,Or.inr ⟨W.heap.size,n,_,by simp,Nat.le_refl _,heap_alloc_new W _,by simp,by unfold maxLen;omega,by simp [size_madeCells],?_⟩⟩,?_,?_⟩
 ·rw [made_one];simp
 ·intro i u l hu hl
  rw [List.getElem?_replicate] at hu hl
  split at hu
  ·rw [if_pos (by assumption)] at hl;cases hu;cases hl;exact World.ownsRow_nil _ _ _ _
  ·cases hu
 ·intro i j u v k _ hu _ hk
  rw [List.getElem?_replicate] at hu
  split at hu
  ·cases hu;simp [Value.ownBlock] at hk
  ·cases hu
theorem two_new (w:World) (t y:Nat):∀ (j:Nat) (u:Value),[Value.int .u8 t,.int .i64 y][j]?=some u->(w.alloc (.cells #[.int .u8 t,.int .i64 y] 303)).drew.cell? ⟨w.heap.size,j,none⟩=some u:=fun j u hu=>cell_of_block (heap_alloc_new w _) j u (by simpa using hu)
theorem GRow.add {w w2:World} {base gB cap i:Nat} {t y:Nat} {u v:Value} {g:List (List (Nat × Nat))} {rv:List Value} (h:GRow w base (.slice (some ⟨gB,0,none⟩) g.length cap) g rv) (hi:i<g.length) (hu:rv[i]?=some u)
  (hrow:w2.ownsRow base 301 1 (.slice (some ⟨gB,0,none⟩) g.length cap) g.length (rv.set i v))
  (hk:∀ (k:Nat),some k ≠ u.ownBlock->(∃ cs,w.heap[k]?=some (.cells cs 303 (0,0)))->w2.heap[k]?=w.heap[k]?)
  (hv:w2.ownsRow base 303 2 v (g[i].length+1) (edCells g[i]++[.int .u8 t,.int .i64 y])) (hn:v.ownBlock=u.ownBlock\/∃ k,v.ownBlock=some k/\w.heap.size<=k) :
  GRow w2 base (.slice (some ⟨gB,0,none⟩) g.length cap) (addE g (i,t,y)) (rv.set i v):=by
 have hl:=h.len
 have at_:∀ (j:Nat) (x:Value),(rv.set i v)[j]?=some x->(j ≠ i/\rv[j]?=some x)\/(j=i/\x=v):=by
  intro j x hx
  by_cases e:j=i
  ·right;subst e;rw [List.getElem?_set_self (by omega)] at hx;simp at hx;exact ⟨rfl,hx.symm⟩
  ·left;rw [List.getElem?_set_ne (fun e'=>e e'.symm)] at hx;exact ⟨e,hx⟩
 have apv:∀ (j:Nat) (x:Value) (k:Nat),j ≠ i->rv[j]?=some x->x.ownBlock=some k->v.ownBlock ≠ some k:=by
  intro j x k hj hx hk' e
  rcases hn with hn | ⟨k',hn,hge⟩
  ·exact h.apart j i x u k hj hx hu hk' (by rw [<- hn];exact e)
  ·have hjl:j<g.length:=by rw [<- hl];exact (List.getElem?_eq_some_iff.1 hx).1
   have:=((h.to_ j x _ hx (List.getElem?_eq_getElem hjl)).lt k hk').2
   rw [hn] at e;simp at e;omega
 refine ⟨by rw [List.length_set,addE_len];exact hl,by rw [addE_len];exact hrow,?_,?_⟩
 ·intro j x l hx hj
  rcases addE_at hj with ⟨h1,h2⟩ | ⟨h1,l0,h2,rfl⟩
  ·rcases at_ j x hx with ⟨h3,h4⟩ | ⟨h3,h4⟩
   ·have h0:=h.to_ j x l h4 h2
    refine row_on h0 fun k hk'=>hk k (fun e=>?_) (row_type h0 k hk')
    exact h.apart j i x u k h3 h4 hu hk' e.symm
   ·exact absurd h3 h1
  ·simp only at h1
   subst h1
   rcases at_ j x hx with ⟨h3,h4⟩ | ⟨h3,rfl⟩
   ·exact absurd rfl h3
   ·rw [List.getElem?_eq_getElem hi] at h2
    simp at h2
    subst h2
    rw [edCells_snoc,List.length_append];exact hv
 ·intro j j' x x' k hjj hx hx' hk'
  rcases at_ j x hx with ⟨h3,h4⟩ | ⟨h3,rfl⟩
  ·rcases at_ j' x' hx' with ⟨h5,h6⟩ | ⟨h5,rfl⟩
   ·exact h.apart j j' x x' k hjj h4 h6 hk'
   ·exact apv j x k h3 h4 hk'
  ·rcases at_ j' x' hx' with ⟨h5,h6⟩ | ⟨h5,rfl⟩
   ·intro e;exact apv j' x' k h5 h6 e hk'
   ·exact absurd (h3.trans h5.symm) hjj
theorem row1_form {w:World} {base:Nat} {e:TypeId} {v:Value} {n:Nat} {us:List Value} (h:w.ownsRow base e 1 v n us):∃ ao cap,v=.slice ao n cap/\∀ i (u:Value),us[i]?=some u->i<n->∃ g,ao=some ⟨g,0,none⟩/\g<w.heap.size/\w.cell? ⟨g,i,none⟩=some u:=by
 obtain ⟨h2,h3⟩:=h
 rcases h3 with ⟨hv,hn⟩ | ⟨g,cap,cur,hv,hg,hh,hcap,hmx,hsz,hcur⟩
 ·exact ⟨none,0,by rw [hv,hn],fun i u hu hi=>by omega⟩
 ·refine ⟨some ⟨g,0,none⟩,cap,hv,fun i u hu hi=>⟨g,rfl,heap_lt hh,cell_of_block hh i _ ?_⟩⟩
  have e1:(cur.toList.take (n * 1))[i]?=some u:=by rw [hcur];exact hu
  rw [List.getElem?_take,if_pos (by omega)] at e1
  simpa using e1
theorem row_base0 {w:World} {base:Nat} {e:TypeId} {size:Nat} {v:Value} {n:Nat} {us:List Value} (h:w.ownsRow base e size v n us) (_hb:0<=base):w.ownsRow 0 e size v n us:=by
 refine ⟨h.1,?_⟩
 rcases h.2 with h2 | ⟨g,cap,cur,hv,_,r⟩
 ·exact Or.inl h2
 ·exact Or.inr ⟨g,cap,cur,hv,Nat.zero_le _,r⟩
theorem intCells_at (l:List Nat) (j:Nat) (h:j<l.length):(intCells l)[j]?=some (.int .i64 (l[j]:Nat)):=by unfold intCells;rw [List.getElem?_map,List.getElem?_eq_getElem h];rfl
theorem GRow.cell {w:World} {base gB cap n i:Nat} {g:List (List (Nat × Nat))} {rv:List Value} (h:GRow w base (.slice (some ⟨gB,0,none⟩) n cap) g rv) (hn:g.length=n) (hi:i<n) :
  ∃ ao c,rv[i]?=some (.slice ao (g[i]'(by omega)).length c)/\w.cell? ⟨gB,i,none⟩=some (.slice ao (g[i]'(by omega)).length c)/\w.ownsRow base 303 2 (.slice ao (g[i]'(by omega)).length c) (g[i]'(by omega)).length (edCells (g[i]'(by omega)))/\∃ cur,w.heap[gB]?=some (.cells cur 301 (0,0)):=by
 have hl:=h.len
 obtain ⟨u,hu⟩:∃ u,rv[i]?=some u:=⟨rv[i]'(by omega),List.getElem?_eq_getElem (by omega)⟩
 have h0:=h.to_ i u _ hu (List.getElem?_eq_getElem (by omega))
 obtain ⟨ao,c,rfl⟩:=row_shape h0
 obtain ⟨ao',cap',e,hf⟩:=row1_form h.row
 injection e with e1 e2 e3
 obtain ⟨g',e4,_,hc⟩:=hf i _ hu (by omega)
 rw [e4] at e1
 cases e1
 obtain ⟨cur,hcur⟩:=row_type h.row gB rfl
 exact ⟨ao,c,hu,hc,h0,cur,hcur⟩
theorem add_fin {w w':World} {base gB n i t y:Nat} {l:List (Nat × Nat)} {ao ao':Option Addr} {c c':Nat} {g:List (List (Nat × Nat))} {rv:List Value} {o:Obj} (hg:GRow w base (.slice (some ⟨gB,0,none⟩) n n) g rv) (hn:g.length=n) (hi:i<n) (hl:g[i]?=some l) (hu:rv[i]?=some (.slice ao l.length c))
  (hrow:w.ownsRow base 303 2 (.slice ao l.length c) l.length (edCells l)) (hgr:(w.alloc o).drew.grownBy w' (Value.ownBlock (.slice ao l.length c)))
  (hown:w'.ownsRow base 303 2 (.slice ao' (l.length+1) c') (l.length+1) (edCells l++[.int .u8 t,.int .i64 y])) (hsn:SameOrNew (w.alloc o).drew (.slice ao l.length c) (.slice ao' (l.length+1) c')) {cur:Array Value} (hgB:w'.heap[gB]?=some (.cells cur 301 (0,0))) :
  GRow (w'.setCell ⟨gB,i,none⟩ (.slice ao' (l.length+1) c')) base (.slice (some ⟨gB,0,none⟩) n n) (addE g (i,t,y)) (rv.set i (.slice ao' (l.length+1) c')):=by
 subst hn
 have hgi:g[i]'hi=l:=by rw [List.getElem?_eq_getElem hi] at hl;simpa using hl
 have hrA:(w.alloc o).drew.ownsRow base 303 2 (.slice ao l.length c) l.length (edCells l):=row_kp hrow (Kp.alloc (Kp.refl _ w) o)
 refine hg.add hi hu ?_ ?_ ?_ ?_
 ·have hk:Kp 301 w w':=(Kp.alloc (Kp.refl _ w) o).grown (w:=(w.alloc o).drew) hrA hgr (by decide)
  exact row_set (row_kp hg.row hk) _ _
 ·rintro k hk ⟨cs,hcs⟩
  have h1:w'.heap[k]?=w.heap[k]?:=(hgr.block k (by have:=heap_lt hcs;show k<(w.alloc o).heap.size;simp;omega) hk).trans (Below.heap_alloc _ _ _ (heap_lt hcs))
  rw [Below.heap_setCell _ _ _ _ (type_ne (h1.trans hcs) hgB (by decide))];exact h1
 ·rw [hgi]
  exact row_kp hown ((Kp.refl _ _).setCell hgB (by decide) _)
 ·rcases hsn with h | h
  ·exact Or.inl h
  ·exact Or.inr ⟨_,h,by show w.heap.size<=(w.alloc o).heap.size;simp⟩
set_option maxRecDepth 100000 in
set_option maxHeartbeats 4000000 in
theorem forth_any (S:List St) (vS:Value) (tv:List Value) (first:Int) (w:World) (hM:MRow w 0 vS S tv) (hS:SOk S) :
  Calls Tryz.prog 136 #[.agg #[vS,.int .i64 first]] w fun r w'=>∃ v,r=.returned v/\GIn w' v (graphOf true S)/\Below w.heap.size w w':=by
 have HM:Hid (MRow w 0 vS S tv):=hM
 obtain ⟨ao,cap,rfl⟩:=row_shape hM.row
 have hlen:=hS.len
 have htot:=hS.tot_
 clear hM
 have hmk:=fun W=>make_graph W S.length hlen
 have G0:=grow_made (w.alloc (.cells #[.slice ao S.length cap,.int .i64 first] 146)) S.length hlen
 have e1:(w.alloc (.cells #[.slice ao S.length cap,.int .i64 first] 146)).heap.size=w.heap.size+1:=by simp
 rw [e1] at G0
 have HG0:Hid (GRow ((w.alloc (.cells #[.slice ao S.length cap,.int .i64 first] 146)).alloc (.cells (madeCells #[.slice none 0 0] S.length) 301)) (w.heap.size+1) (.slice (some ⟨w.heap.size+1,0,none⟩) S.length S.length) (grF S.length (allAdds true (S.take 0) 0)) (List.replicate S.length (.slice none 0 0))):=G0
 have B0:Hid (Below w.heap.size w ((w.alloc (.cells #[.slice ao S.length cap,.int .i64 first] 146)).alloc (.cells (madeCells #[.slice none 0 0] S.length) 301))):=(below_alloc w _).alloc (by simp) _
 clear G0
 go_enter Tryz.func136,Tryz.ntmps136
 go_wp2_with fail
 go_loopg [15] S.length (fun gh iv wx=>∃ i:Nat,i<=S.length/\gh=S.length - i/\iv=.int .i64 i/\∃ rv,Hid (GRow wx (w.heap.size+1) (.slice (some ⟨w.heap.size+1,0,none⟩) S.length S.length) (grF S.length (allAdds true (S.take i) 0)) rv)/\Hid (Below w.heap.size w wx))
 case atStart=>exact ⟨0,Nat.zero_le _,rfl,rfl,_,HG0,B0⟩
 case round =>
  obtain ⟨i,hi,rfl,rfl,rv,hG,hB⟩:=hrel
  obtain ⟨w1,hw1⟩:∃ w1,w1=wr:=⟨wr,rfl⟩
  subst hw1
  by_cases hlt:i<S.length
  ·obtain ⟨gS,capS,curS,eS,hhS,_,u,hu,c0,c1⟩:=HM.out.cells i hlt
   injection eS with eS1 eS2 eS3
   subst eS1
   subst eS3
   have hto:=HM.out.to_ i u _ hu (List.getElem?_eq_getElem hlt)
   obtain ⟨aou,capu,rfl,hfu⟩:=row1_form hto
   have HFU:Hid (∀ j (x:Value),(intCells S[i].2)[j]?=some x->j<S[i].2.length->∃ g,aou=some ⟨g,0,none⟩/\g<w.heap.size/\w.cell? ⟨g,j,none⟩=some x):=hfu
   have d0:=(hB.out.cell (p:=⟨gS,i * 2,none⟩) (heap_lt hhS)).trans c0
   have d1:=(hB.out.cell (p:=⟨gS,i * 2+1,none⟩) (heap_lt hhS)).trans c1
   have hs1:=hB.out.size
   have hti:=tot_at S i hlt
   have HG1:Hid (GRow (w1.alloc (.cells #[.int .u8 (S[i].1:Nat),.slice aou S[i].2.length capu] 293)) (w.heap.size+1) (.slice (some ⟨w.heap.size+1,0,none⟩) S.length S.length) (grF S.length (preAdds true S i 0)) rv):=by rw [preAdds_start true S i hlt];exact hG.out.kpa (KpA.below (below_alloc _ _))
   have HQ:Hid ((w1.alloc (.cells #[.int .u8 (S[i].1:Nat),.slice aou S[i].2.length capu] 293)).heap[w1.heap.size]?=some (.cells #[.int .u8 (S[i].1:Nat),.slice aou S[i].2.length capu] 293 (0,0))):=heap_alloc_new w1 _
   have HB1:Hid (Below w.heap.size w (w1.alloc (.cells #[.int .u8 (S[i].1:Nat),.slice aou S[i].2.length capu] 293))):=hB.out.alloc hs1 _
   clear c0 c1 hto hfu
   go_wp2_with fail
   go_loopg [23] S[i].2.length (fun gh jv wx=>∃ j:Nat,j<=S[i].2.length/\gh=S[i].2.length - j/\jv=.int .i64 j/\∃ rv,Hid (GRow wx (w.heap.size+1) (.slice (some ⟨w.heap.size+1,0,none⟩) S.length S.length) (grF S.length (preAdds true S i j)) rv)/\Hid (wx.heap[w1.heap.size]?=some (.cells #[.int .u8 (S[i].1:Nat),.slice aou S[i].2.length capu] 293 (0,0)))/\Hid (Below w.heap.size w wx))
   case atStart=>exact ⟨0,Nat.zero_le _,rfl,rfl,rv,HG1,HQ,HB1⟩
   case round =>
    obtain ⟨j,hj,rfl,rfl,rv2,hG2,hQ2,hB2⟩:=hrel
    obtain ⟨w2,hw2⟩:∃ w2,w2=wr:=⟨wr,rfl⟩
    subst hw2
    clear HG1 HQ HB1 d0 d1
    have hs2:=hB2.out.size
    by_cases hlt2:j<S[i].2.length
    ·obtain ⟨gu,rfl,hgu,cu⟩:=HFU.out j _ (intCells_at _ j hlt2) hlt2
     have du:=(hB2.out.cell (p:=⟨gu,j,none⟩) hgu).trans cu
     have q0:=cell_of_block hQ2.out 0 _ rfl
     have q1:=cell_of_block hQ2.out 1 _ rfl
     have hyl:S[i].2[j]<S.length:=hS.to_ S[i] (List.getElem_mem hlt) _ (List.getElem_mem hlt2)
     have HP:Hid (preAdds true S i (j+1)=preAdds true S i j++[(i,S[i].1,S[i].2[j])]):=by show _=_;have:=preAdds_next true S i j hlt hlt2;simpa using this
     obtain ⟨aor,cr,hrv,hcr,hrow,cur,hcur⟩:=hG2.out.cell (i:=i) (grF_len _ _) hlt
     have hll:(grF S.length (preAdds true S i j))[i]?=some ((grF S.length (preAdds true S i j))[i]'(by rw [grF_len];exact hlt)):=List.getElem?_eq_getElem _
     have hle:((grF S.length (preAdds true S i j))[i]'(by rw [grF_len];exact hlt)).length<=9000:=by
      have h1:=grF_row S.length _ (preAdds true S i j) rfl _ (List.getElem_mem (by rw [grF_len];exact hlt))
      have h2:=preAdds_len true S i j hlt
      omega
     generalize (grF S.length (preAdds true S i j))[i]'(by rw [grF_len];exact hlt)=l at hrv hcr hrow hll hle
     generalize hyv:S[i].2[j]=y at *
     generalize htv:S[i].1=tk at *
     have HRV:Hid (rv2[i]?=some (.slice aor l.length cr)):=hrv
     have HRW:Hid (w2.ownsRow (w.heap.size+1) 303 2 (.slice aor l.length cr) l.length (edCells l)):=hrow
     have HLL:Hid ((grF S.length (preAdds true S i j))[i]?=some l):=hll
     have HCU:Hid (w2.heap[w.heap.size+1]?=some (.cells cur 301 (0,0))):=hcur
     clear hrv hrow hll hcur cu
     have RA:Hid ((w2.alloc (.cells #[.int .u8 (tk:Nat),.int .i64 (y:Nat)] 303)).drew.ownsRow (w.heap.size+1) 303 2 (.slice aor l.length cr) l.length (edCells l)):=row_kp HRW.out (Kp.alloc (Kp.refl _ w2) _)
     have LA:w.heap.size+1<=(w2.alloc (.cells #[.int .u8 (tk:Nat),.int .i64 (y:Nat)] 303)).drew.heap.size:=by show _<=(w2.alloc _).heap.size;simp;omega
     have hcr':=fun o=>((below_alloc w2 o).cell (p:=⟨w.heap.size+1,i,none⟩) (heap_lt HCU.out)).trans hcr
     have q0':=fun o=>((below_alloc w2 o).cell (p:=⟨w1.heap.size,0,none⟩) (heap_lt hQ2.out)).trans q0
     go_wp2_with fail
     go_region_law
      (refine step_push2 rfl (.tmp 32) (.tmp 37) 301 rfl (w.heap.size+1) 303 (.agg #[.int .u8 0,.int .i64 0]) 2 16 Tryz.infoEd Tryz.undEd rfl (by decide) (.slice aor l.length cr) l.length (edCells l) (by simp [Act.eval]) RA.out w2.heap.size 1 [.int .u8 (tk:Nat),.int .i64 (y:Nat)] (by simp [Act.eval]) rfl (two_new w2 tk y) (two_cells _ _ rfl rfl) (by omega) (by omega) LA ?_
       intro v' w3 hown hgr hsn
       obtain ⟨ao3,c3,rfl⟩:=row_shape hown
       have HG3:Hid (w3.heap[w.heap.size+1]?=some (.cells cur 301 (0,0))):=((Kp.alloc (Kp.refl _ w2) _).grown (w:=(w2.alloc _).drew) RA.out hgr (by decide)) _ _ _ HCU.out
       have HF:Hid (GRow (w3.setCell ⟨w.heap.size+1,i,none⟩ (.slice ao3 (l.length+1) c3)) (w.heap.size+1) (.slice (some ⟨w.heap.size+1,0,none⟩) S.length S.length) (addE (grF S.length (preAdds true S i j)) (i,tk,y)) (rv2.set i (.slice ao3 (l.length+1) c3))):=add_fin hG2.out (grF_len _ _) hlt HLL.out HRV.out HRW.out hgr hown hsn HG3.out
       have HQ3:Hid (w3.heap[w1.heap.size]?=some (.cells #[.int .u8 (tk:Nat),.slice (some ⟨gu,0,none⟩) S[i].2.length capu] 293 (0,0))):=((Kp.alloc (Kp.refl _ w2) _).grown (w:=(w2.alloc _).drew) RA.out hgr (by decide)) _ _ _ hQ2.out
       have HB3:Hid (Below w.heap.size w w3):=Below.grown (w:=(w2.alloc _).drew) ((hB2.out.alloc hs2 _).drew) hgr (Nat.le_trans (Nat.le_succ _) LA) (fun k hk=>by have:=(RA.out.lt k hk).1;omega)
       have g3:=(World.cell?_of_block (a:=⟨w.heap.size+1,i,none⟩) (w:=w2) (HG3.out.trans HCU.out.symm)).trans hcr
       have f3:=free_of_block HG3.out
       clear hown hgr hsn)
     all_goals go_wp2_with fail
     all_goals go_roundg (S[i].2.length - (j+1))
     all_goals first
      | (case measure=>omega)
      | skip
     all_goals
      refine ⟨j+1,by omega,rfl,by go_num,rv2.set i (.slice ao3 (l.length+1) c3),?_,?_,?_⟩
      ·rw [HP.out,grF_snoc];exact HF
      ·show _=_;rw [Below.heap_setCell _ _ _ _ (type_ne HQ3.out HG3.out (by decide))];exact HQ3.out
      ·exact HB3.out.setCell (by show w.heap.size<=w.heap.size+1;omega) _
    ·obtain rfl:j=S[i].2.length:=by omega
     go_wp2_with fail
     go_roundg (S.length - (i+1))
     case measure=>omega
     case rel=>exact ⟨i+1,by omega,rfl,by go_num,rv2,by rw [<- preAdds_end true S i hlt];exact hG2,hB2⟩
  ·go_wp2_with fail
   go_ret
   refine ⟨_,rfl,⟨rv,?_⟩,hB.out⟩
   have e:S.take i=S:=List.take_of_length_le (by omega)
   have h:=hG.out
   rw [e] at h
   have e2:(graphOf true S).length=S.length:=graph_len true S
   exact ⟨h.len,row_base0 h.row (Nat.zero_le _),fun i u l hu hl=>row_base0 (h.to_ i u l hu hl) (Nat.zero_le _),h.apart⟩
set_option maxRecDepth 100000 in
set_option maxHeartbeats 4000000 in
theorem back_any (S:List St) (vS:Value) (tv:List Value) (first:Int) (w:World) (hM:MRow w 0 vS S tv) (hS:SOk S) :
  Calls Tryz.prog 137 #[.agg #[vS,.int .i64 first]] w fun r w'=>∃ v,r=.returned v/\GIn w' v (graphOf false S)/\Below w.heap.size w w':=by
 have HM:Hid (MRow w 0 vS S tv):=hM
 obtain ⟨ao,cap,rfl⟩:=row_shape hM.row
 have hlen:=hS.len
 have htot:=hS.tot_
 clear hM
 have hmk:=fun W=>make_graph W S.length hlen
 have G0:=grow_made (w.alloc (.cells #[.slice ao S.length cap,.int .i64 first] 146)) S.length hlen
 have e1:(w.alloc (.cells #[.slice ao S.length cap,.int .i64 first] 146)).heap.size=w.heap.size+1:=by simp
 rw [e1] at G0
 have HG0:Hid (GRow ((w.alloc (.cells #[.slice ao S.length cap,.int .i64 first] 146)).alloc (.cells (madeCells #[.slice none 0 0] S.length) 301)) (w.heap.size+1) (.slice (some ⟨w.heap.size+1,0,none⟩) S.length S.length) (grF S.length (allAdds false (S.take 0) 0)) (List.replicate S.length (.slice none 0 0))):=G0
 have B0:Hid (Below w.heap.size w ((w.alloc (.cells #[.slice ao S.length cap,.int .i64 first] 146)).alloc (.cells (madeCells #[.slice none 0 0] S.length) 301))):=(below_alloc w _).alloc (by simp) _
 clear G0
 go_enter Tryz.func137,Tryz.ntmps137
 go_wp2_with fail
 go_loopg [15] S.length (fun gh iv wx=>∃ i:Nat,i<=S.length/\gh=S.length - i/\iv=.int .i64 i/\∃ rv,Hid (GRow wx (w.heap.size+1) (.slice (some ⟨w.heap.size+1,0,none⟩) S.length S.length) (grF S.length (allAdds false (S.take i) 0)) rv)/\Hid (Below w.heap.size w wx))
 case atStart=>exact ⟨0,Nat.zero_le _,rfl,rfl,_,HG0,B0⟩
 case round =>
  obtain ⟨i,hi,rfl,rfl,rv,hG,hB⟩:=hrel
  obtain ⟨w1,hw1⟩:∃ w1,w1=wr:=⟨wr,rfl⟩
  subst hw1
  by_cases hlt:i<S.length
  ·obtain ⟨gS,capS,curS,eS,hhS,_,u,hu,c0,c1⟩:=HM.out.cells i hlt
   injection eS with eS1 eS2 eS3
   subst eS1
   subst eS3
   have hto:=HM.out.to_ i u _ hu (List.getElem?_eq_getElem hlt)
   obtain ⟨aou,capu,rfl,hfu⟩:=row1_form hto
   have HFU:Hid (∀ j (x:Value),(intCells S[i].2)[j]?=some x->j<S[i].2.length->∃ g,aou=some ⟨g,0,none⟩/\g<w.heap.size/\w.cell? ⟨g,j,none⟩=some x):=hfu
   have d0:=(hB.out.cell (p:=⟨gS,i * 2,none⟩) (heap_lt hhS)).trans c0
   have d1:=(hB.out.cell (p:=⟨gS,i * 2+1,none⟩) (heap_lt hhS)).trans c1
   have hs1:=hB.out.size
   have hti:=tot_at S i hlt
   have HG1:Hid (GRow (w1.alloc (.cells #[.int .u8 (S[i].1:Nat),.slice aou S[i].2.length capu] 293)) (w.heap.size+1) (.slice (some ⟨w.heap.size+1,0,none⟩) S.length S.length) (grF S.length (preAdds false S i 0)) rv):=by rw [preAdds_start false S i hlt];exact hG.out.kpa (KpA.below (below_alloc _ _))
   have HQ:Hid ((w1.alloc (.cells #[.int .u8 (S[i].1:Nat),.slice aou S[i].2.length capu] 293)).heap[w1.heap.size]?=some (.cells #[.int .u8 (S[i].1:Nat),.slice aou S[i].2.length capu] 293 (0,0))):=heap_alloc_new w1 _
   have HB1:Hid (Below w.heap.size w (w1.alloc (.cells #[.int .u8 (S[i].1:Nat),.slice aou S[i].2.length capu] 293))):=hB.out.alloc hs1 _
   clear c0 c1 hto hfu
   go_wp2_with fail
   go_loopg [23] S[i].2.length (fun gh jv wx=>∃ j:Nat,j<=S[i].2.length/\gh=S[i].2.length - j/\jv=.int .i64 j/\∃ rv,Hid (GRow wx (w.heap.size+1) (.slice (some ⟨w.heap.size+1,0,none⟩) S.length S.length) (grF S.length (preAdds false S i j)) rv)/\Hid (wx.heap[w1.heap.size]?=some (.cells #[.int .u8 (S[i].1:Nat),.slice aou S[i].2.length capu] 293 (0,0)))/\Hid (Below w.heap.size w wx))
   case atStart=>exact ⟨0,Nat.zero_le _,rfl,rfl,rv,HG1,HQ,HB1⟩
   case round =>
    obtain ⟨j,hj,rfl,rfl,rv2,hG2,hQ2,hB2⟩:=hrel
    obtain ⟨w2,hw2⟩:∃ w2,w2=wr:=⟨wr,rfl⟩
    subst hw2
    clear HG1 HQ HB1 d0 d1
    have hs2:=hB2.out.size
    by_cases hlt2:j<S[i].2.length
    ·obtain ⟨gu,rfl,hgu,cu⟩:=HFU.out j _ (intCells_at _ j hlt2) hlt2
     have du:=(hB2.out.cell (p:=⟨gu,j,none⟩) hgu).trans cu
     have q0:=cell_of_block hQ2.out 0 _ rfl
     have q1:=cell_of_block hQ2.out 1 _ rfl
     have hyl:S[i].2[j]<S.length:=hS.to_ S[i] (List.getElem_mem hlt) _ (List.getElem_mem hlt2)
     have HP:Hid (preAdds false S i (j+1)=preAdds false S i j++[(S[i].2[j],S[i].1,i)]):=by show _=_;have:=preAdds_next false S i j hlt hlt2;simpa using this
     obtain ⟨aor,cr,hrv,hcr,hrow,cur,hcur⟩:=hG2.out.cell (i:=S[i].2[j]) (grF_len _ _) hyl
     have hll:(grF S.length (preAdds false S i j))[S[i].2[j]]?=some ((grF S.length (preAdds false S i j))[S[i].2[j]]'(by rw [grF_len];exact hyl)):=List.getElem?_eq_getElem _
     have hle:((grF S.length (preAdds false S i j))[S[i].2[j]]'(by rw [grF_len];exact hyl)).length<=9000:=by
      have h1:=grF_row S.length _ (preAdds false S i j) rfl _ (List.getElem_mem (by rw [grF_len];exact hyl))
      have h2:=preAdds_len false S i j hlt
      omega
     generalize (grF S.length (preAdds false S i j))[S[i].2[j]]'(by rw [grF_len];exact hyl)=l at hrv hcr hrow hll hle
     generalize hyv:S[i].2[j]=y at *
     generalize htv:S[i].1=tk at *
     have HRV:Hid (rv2[y]?=some (.slice aor l.length cr)):=hrv
     have HRW:Hid (w2.ownsRow (w.heap.size+1) 303 2 (.slice aor l.length cr) l.length (edCells l)):=hrow
     have HLL:Hid ((grF S.length (preAdds false S i j))[y]?=some l):=hll
     have HCU:Hid (w2.heap[w.heap.size+1]?=some (.cells cur 301 (0,0))):=hcur
     clear hrv hrow hll hcur cu
     have RA:Hid ((w2.alloc (.cells #[.int .u8 (tk:Nat),.int .i64 (i:Nat)] 303)).drew.ownsRow (w.heap.size+1) 303 2 (.slice aor l.length cr) l.length (edCells l)):=row_kp HRW.out (Kp.alloc (Kp.refl _ w2) _)
     have LA:w.heap.size+1<=(w2.alloc (.cells #[.int .u8 (tk:Nat),.int .i64 (i:Nat)] 303)).drew.heap.size:=by show _<=(w2.alloc _).heap.size;simp;omega
     have hcr':=fun o=>((below_alloc w2 o).cell (p:=⟨w.heap.size+1,y,none⟩) (heap_lt HCU.out)).trans hcr
     have q0':=fun o=>((below_alloc w2 o).cell (p:=⟨w1.heap.size,0,none⟩) (heap_lt hQ2.out)).trans q0
     go_wp2_with fail
     go_region_law
      (refine step_push2 rfl (.tmp 32) (.tmp 37) 301 rfl (w.heap.size+1) 303 (.agg #[.int .u8 0,.int .i64 0]) 2 16 Tryz.infoEd Tryz.undEd rfl (by decide) (.slice aor l.length cr) l.length (edCells l) (by simp [Act.eval]) RA.out w2.heap.size 1 [.int .u8 (tk:Nat),.int .i64 (i:Nat)] (by simp [Act.eval]) rfl (two_new w2 tk i) (two_cells _ _ rfl rfl) (by omega) (by omega) LA ?_
       intro v' w3 hown hgr hsn
       obtain ⟨ao3,c3,rfl⟩:=row_shape hown
       have HG3:Hid (w3.heap[w.heap.size+1]?=some (.cells cur 301 (0,0))):=((Kp.alloc (Kp.refl _ w2) _).grown (w:=(w2.alloc _).drew) RA.out hgr (by decide)) _ _ _ HCU.out
       have HF:Hid (GRow (w3.setCell ⟨w.heap.size+1,y,none⟩ (.slice ao3 (l.length+1) c3)) (w.heap.size+1) (.slice (some ⟨w.heap.size+1,0,none⟩) S.length S.length) (addE (grF S.length (preAdds false S i j)) (y,tk,i)) (rv2.set y (.slice ao3 (l.length+1) c3))):=add_fin hG2.out (grF_len _ _) hyl HLL.out HRV.out HRW.out hgr hown hsn HG3.out
       have HQ3:Hid (w3.heap[w1.heap.size]?=some (.cells #[.int .u8 (tk:Nat),.slice (some ⟨gu,0,none⟩) S[i].2.length capu] 293 (0,0))):=((Kp.alloc (Kp.refl _ w2) _).grown (w:=(w2.alloc _).drew) RA.out hgr (by decide)) _ _ _ hQ2.out
       have HB3:Hid (Below w.heap.size w w3):=Below.grown (w:=(w2.alloc _).drew) ((hB2.out.alloc hs2 _).drew) hgr (Nat.le_trans (Nat.le_succ _) LA) (fun k hk=>by have:=(RA.out.lt k hk).1;omega)
       have g3:=(World.cell?_of_block (a:=⟨w.heap.size+1,y,none⟩) (w:=w2) (HG3.out.trans HCU.out.symm)).trans hcr
       have f3:=free_of_block HG3.out
       clear hown hgr hsn)
     all_goals go_wp2_with fail
     all_goals go_roundg (S[i].2.length - (j+1))
     all_goals first
      | (case measure=>omega)
      | skip
     all_goals
      refine ⟨j+1,by omega,rfl,by go_num,rv2.set y (.slice ao3 (l.length+1) c3),?_,?_,?_⟩
      ·rw [HP.out,grF_snoc];exact HF
      ·show _=_;rw [Below.heap_setCell _ _ _ _ (type_ne HQ3.out HG3.out (by decide))];exact HQ3.out
      ·exact HB3.out.setCell (by show w.heap.size<=w.heap.size+1;omega) _
    ·obtain rfl:j=S[i].2.length:=by omega
     go_wp2_with fail
     go_roundg (S.length - (i+1))
     case measure=>omega
     case rel=>exact ⟨i+1,by omega,rfl,by go_num,rv2,by rw [<- preAdds_end false S i hlt];exact hG2,hB2⟩
  ·go_wp2_with fail
   go_ret
   refine ⟨_,rfl,⟨rv,?_⟩,hB.out⟩
   have e:S.take i=S:=List.take_of_length_le (by omega)
   have h:=hG.out
   rw [e] at h
   have e2:(graphOf false S).length=S.length:=graph_len false S
   exact ⟨h.len,row_base0 h.row (Nat.zero_le _),fun i u l hu hl=>row_base0 (h.to_ i u l hu hl) (Nat.zero_le _),h.apart⟩
end Go.Proofs.YtodagkkjfipbgaaGreatDoor
