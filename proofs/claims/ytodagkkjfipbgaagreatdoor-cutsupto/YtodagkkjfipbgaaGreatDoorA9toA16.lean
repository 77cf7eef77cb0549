import Derived.Test.YtodagkkjfipbgaaGreatDoorG2toA8
set_option maxRecDepth 100000
set_option maxHeartbeats 8000000
namespace Go.Proofs.YtodagkkjfipbgaaGreatDoor
open Go Go.Proofs.Tryz
namespace Tr
theorem Bg{v:List Nat}{k:Nat}{w:List Nat}(h:v <:+ k::w):v=k::w\/v <:+ w:=List.suffix_cons_iff.1 h
def kF(f:Nat->Nat):Nat->Nat
 | 0=>0
 | n+1=>f (n+1)+kF f n
theorem OX{t:Tr}(A:t.ok)(f:Nat->Nat)(w:List Nat)(h:∀v,v≠[]->v <:+ w->(t.cE v).wt<=f v.length):∃X,(∀g∈X,g.ok/\g.cM=false)/\(GA t w X/\∀g∈X,∃v,v <:+ w/\g=t.cE v)/\X.length<=w.length/\sz X<=kF (fun i=>f i+1) w.length:=by
 induction w with
 | nil=>exact⟨[],by simp,⟨fun v h1 o=>absurd (List.suffix_nil.1 o) h1,by simp⟩,by simp,by simp[sz]⟩
 | cons k w C =>
  obtain⟨X,h1,⟨o,x⟩,E,F⟩:=C (fun v j d=>h v j (d.trans (List.suffix_cons ..)));have q:∀g∈X,∃v,v <:+ k::w/\g=t.cE v:=fun g hg=>by obtain⟨v,n,e⟩:=x g hg;exact⟨v,n.trans (List.suffix_cons ..),e⟩
  have B:=h (k::w) (by simp) (List.suffix_refl _)
  by_cases u:(t.cE (k::w)).cM=true
  ·refine⟨X,h1,⟨?_,q⟩,by simp;omega,?_⟩
   ·intro v j d;rcases Bg d with rfl|d
    ·exact ah (ee u)
    ·exact o v j d
   ·simp only[bT,kF];omega
  ·have y:∀g∈t.cE (k::w)::X,∃v,v <:+ k::w/\g=t.cE v:=by
    intro g hg;rcases aT.1 hg with rfl|hg
    ·exact⟨_,List.suffix_refl _,rfl⟩
    ·exact q g hg
   refine⟨t.cE (k::w)::X,?_,⟨?_,y⟩,by simp;omega,?_⟩
   ·intro g hg;rcases aT.1 hg with rfl|hg
    ·exact⟨ef A _,by simpa using u⟩
    ·exact h1 g hg
   ·intro v j d;rcases Bg d with rfl|d
    ·exact ac (aU ..)
    ·exact(o v j d).imp id (b6 _)
   ·simp only[bT,kF,cP];simp only[bT]at B;omega
theorem ye{t:Tr}{w:List Nat}{V d:List Tr}(h:GA t w V)(i:∀x∈V,x∈d):GA t w d:=fun v h1 g=>(h v h1 g).imp id (i _)
theorem tH{t:Tr}(d:t.ok){v:List Nat}(h:v≠[]):(either t .e).cE v=t.cE v:=by
 have g:=bg d (y:=.e) trivial;refine ext (ef g.1 v) (ef d v) fun u=>?_
 rw[fZ d (y:=.e) trivial,Gm h];simp[alts]
theorem gI{x y:Tr}(d:x.ok)(n:y.ok)(o:x.cM=false)(t:x.cX=false)(g:y.cM=false)(i:y.cX=false):(row x y).AY=true:=by
 cases h:x.AY with
 | false=>rw[hM g i o t h];rfl
 | true =>
  obtain⟨p,q,rfl⟩:=qz h;rw[lp g i];have hb:=bZ d.2.1 n;have j:=hb.2 d.2.2.2.2.2.1 g;rw[hM j.1 (j.2 i) d.2.2.1 d.2.2.2.1 d.2.2.2.2.1];rfl
theorem gL{x:Tr}(h:x.AY=true):x.one:=by obtain⟨p,q,rfl⟩:=qz h;exact BY
def Fc(t:Tr)(w:List Nat)(F:List Tr):Prop:=∀v,v≠[]->v <:+ w->∀u∈(t.cE v).alts,u∈F
def ni(t:Tr):Nat:=(t.alts.filter fun u=>!u.cX).length
theorem nO{x y:Tr}(h:x.ok)(i:y.ok):ni (either x y)<=ni x+ni y:=by
 have g:=bg h i;have:=z7 (l:=(either x y).alts.filter fun u=>!u.cX) (l':=(x.alts.filter fun u=>!u.cX)++(y.alts.filter fun u=>!u.cX)) (g.1.kz.nodup.filter _) (fun u hu=>by
  obtain⟨h1,d⟩:=eF.1 hu;rcases(g.2 u).1 h1 with k|k
  ·exact gi _ (eF.2 ⟨k,d⟩)
  ·exact h5 _ (eF.2 ⟨k,d⟩))
 rw[aF]at this;exact this
theorem lS{t:Tr}(h:t.one):ni t<=1:=by
 unfold ni;rw[c7 h];exact aE (nw ..) (by simp)
theorem pR{t:Tr}(h:t.ok):t.alts.length<=ni t+1:=by
 have:=z7 (l:=t.alts) (l':=(t.alts.filter fun u=>!u.cX)++[.e]) h.kz.nodup (fun u hu=>by
  by_cases d:u.cX=true
  ·rw[cp d];exact h5 _ (by simp)
  ·exact gi _ (eF.2 ⟨hu,by simpa using d⟩))
 rw[aF]at this;exact this
theorem FX{t:Tr}(d:t.ok)(g:t.cM=false)(i:t.cX=false)(s:Sg){k:Nat}(j:1<=k)(h:ni t<=k):ni (sg s t)<=k:=by
 have n:(many t).one:=by cases t<;>first|exact⟨rfl,rfl⟩|(simp[cM]at g;done)
 cases s with
 | no=>exact h
 | st=>exact aE (lS n) j
 | pl =>
  have h1:=pz d;have o:(many t).cX=false:=by cases t<;>first|rfl|(simp[cM]at g;done)|(simp[cX]at i;done)
  exact aE (lS (gL (gI d h1.1 g i h1.2 o))) j
 | op =>
  have:=nO d (y:=.e) trivial;have e:ni .e=0:=rfl;show ni (either t .e)<=k;omega
theorem qB{x y:Tr}(h:x.ok)(i:y.ok)(h1:x.hc)(g:y.hc){k:Nat}(j:ni (either x y)<=k)(n:k<=10):(either x y).hc:=by
 have d:=bg h i;refine Le (fun u hu=>?_) (by have:=pR d.1;omega);rcases(d.2 u).1 hu with k|k
 ·exact h1.alts u k
 ·exact g.alts u k
theorem Ga{t:Tr}(h:t.hc):(many t).hc:=by cases t<;>first|trivial|exact h
theorem Lc{t:Tr}(g:t.ok)(o:t.cM=false)(i:t.cX=false)(s:Sg){k:Nat}(j:1<=k)(n:k<=10)(h:ni t<=k)(d:t.hc):(sg s t).hc:=by
 cases s with
 | no=>exact d
 | st=>exact Ga d
 | pl=>exact k2 d (Ga d)
 | op=>exact qB g (y:=.e) trivial d trivial (FX g o i .op j h) n
theorem l3{t:Tr}(d:t.ok){w:List Nat}{V:List Tr}(h:jn t w V)(h1:∀g∈V,g.one):Fc t w V:=by
 intro v i j u hu;obtain⟨g,hg,hu⟩:=g9.1 (h.flat d i j u hu);rw[c7 (h1 g hg)]at hu;simp at hu;subst hu;exact hg
theorem Ap{t:Tr}(g:t.ok){w:List Nat}{F:List Tr}(h:Fc t w F):Fc (sg .op t) w F:=by
 intro v d i u hu;have e:(sg .op t).cE v=t.cE v:=tH g d;rw[e]at hu;exact h v d i u hu
theorem Lp{t d:Tr}(h:t.ok)(M:d.cM=false)(C:d.cX=false)(i:d.ok)(I:d.hc){w:List Nat}{V F:List Tr}(j:∀g∈V,g.ok/\g.cM=false/\g.hc)(v2:jn t w V)(P:Fc d w F):∃G:List Tr,Fc (row t d) w (G++F)/\(∀g∈G,g.ok/\g.one/\g.hc)/\sz G<=sz V+V.length*(d.wt+2)+(d.wt+1)/\((∃g∈V,g.cX=true)->G.length+1<=V.length+d.alts.length)/\((∀g∈V,g.cX=false)->G.length<=V.length):=by
 have W:=bZ h i;have a2:=(fH i).2;have U:=p7 (V.filter fun g=>!g.cX) d;have a0:sz (V.filter fun g=>!g.cX)<=sz V:=by
  clear U v2 j
  induction V with
  | nil=>simp[sz]
  | cons g V a4=>rw[List.filter_cons];split<;>simp only[cP]<;>omega
 have R:(V.filter fun g=>!g.cX).length<=V.length:=nw ..;have a1:(V.filter fun g=>!g.cX).length*(d.wt+2)<=V.length*(d.wt+2):=Nat.mul_le_mul_right _ R;have K:∀g∈(V.filter fun g=>!g.cX).map (fun g=>Tr.row g d),g.ok/\g.one/\g.hc:=by
  intro g hg;obtain⟨x,A,rfl⟩:=aN.1 hg;obtain⟨o,Z⟩:=eF.1 A;exact⟨(bZ (j x o).1 i).1,gL (gI (j x o).1 i (j x o).2.1 (by simpa using Z) M C),k2 (j x o).2.2 I⟩
 have J:∀g∈V,g.cX=false->∀u∈(Tr.row g d).alts,u∈(V.filter fun g=>!g.cX).map (fun g=>Tr.row g d):=by
  intro g hg n u hu;rw[c7 (gL (gI (j g hg).1 i (j g hg).2.1 n M C))]at hu;simp at hu;subst hu;exact aN.2 ⟨g,eF.2 ⟨hg,by simp[n]⟩,rfl⟩
 have H:∀G:List Tr,(∀g∈V,∀u∈(Tr.row g d).alts,u∈G)->Fc (row t d) w (G++F):=by
  intro G g1 v Y N u hu;obtain⟨g,hg,hu⟩:=(kb W.1 v u).1 hu;rcases FR h i v g hg with rfl|⟨B,S,rfl⟩|⟨O,m1,m2,X⟩
  ·simp[alts]at hu
  ·rcases v2 v Y N B S with rfl|T
   ·simp[Tr.row,alts]at hu
   ·exact gi _ (g1 B T u hu)
  ·exact h5 _ (P O m1 (m2.trans N) u ((kb i O u).2 ⟨g,X,hu⟩))
 by_cases q:∃g∈V,g.cX=true
 ·obtain⟨Q,E,y⟩:=q;refine⟨(V.filter fun g=>!g.cX).map (fun g=>Tr.row g d)++d.alts,H _ ?_,?_,?_,?_,?_⟩
  ·intro g hg u hu
   by_cases n:g.cX=true
   ·rw[cp n]at hu;exact h5 _ hu
   ·exact gi _ (J g hg (by simpa using n) u hu)
  ·intro g hg;rcases aR.1 hg with k|k
   ·exact K g k
   ·exact⟨(i.kz.2 g k).1,(i.kz.2 g k).2,I.alts g k⟩
  ·rw[gR];omega
  ·intro _;have:(V.filter fun g=>!g.cX).length+1<=V.length:=by
    obtain⟨a,b,rfl⟩:=List.append_of_mem E;rw[List.filter_append,List.filter_cons,ae (by simp[y])];have:=nw (fun g:Tr=>!g.cX) a;have:=nw (fun g:Tr=>!g.cX) b;simp only[aF,bT];omega
   rw[aF,b5];omega
  ·intro k;rw[k Q E]at y;cases y
 ·refine⟨(V.filter fun g=>!g.cX).map (fun g=>Tr.row g d),H _ ?_,K,by omega,fun k=>absurd k q,?_⟩
  ·intro g hg u hu;refine J g hg ?_ u hu;cases A:g.cX with
   | false=>rfl
   | true=>exact absurd ⟨g,hg,A⟩ q
  ·intro _;rw[b5];omega
theorem zW{t:Tr}(d:t.ok):(∃p,t=.m p)\/t=.e\/t=.z\/(many t=.m t/\(Tr.m t).ok):=by
 cases t with
 | z=>exact ac (ac (ah rfl))
 | e=>exact ac (ah rfl)
 | m p=>exact ah ⟨p,rfl⟩
 | _=>exact ac (ac (ac ⟨rfl,d,rfl,rfl,rfl⟩))
theorem KR{t:Tr}(o:t.ok)(s:Sg)(A:t.Dt=false\/s=.op){w:List Nat}{V:List Tr}(i:∀g∈V,g.ok/\g.cM=false/\g.hc)(E:t.hc)(h:jn t w V)(u:GA t w V):∃n,(∀g∈n,g.ok/\g.cM=false/\g.hc)/\jn (sg s t) w n/\(s=.st\/s=.pl->∀g∈n,g.one)/\n.length<=V.length/\sz n<=sz V+V.length*(t.wt+4):=by
 have q:(Tr.m t).ok->∀g∈V.map (fun g=>row g (.m t)),(g.ok/\g.cM=false/\g.hc)/\g.one:=by
  intro d g hg;obtain⟨x,j,rfl⟩:=aN.1 hg;have:=bZ (i x j).1 d;refine⟨⟨this.1,(this.2 (i x j).2.1 rfl).1,k2 (i x j).2.2 E⟩,?_⟩
  by_cases B:x.cX=true
  ·rw[cp B];exact⟨rfl,rfl⟩
  ·exact gL (gI (i x j).1 d (i x j).2.1 (by simpa using B) rfl rfl)
 cases s with
 | no=>exact⟨V,i,h,by simp,by omega,Nat.le_add_right ..⟩
 | op =>
  refine⟨V,i,?_,by simp,by omega,Nat.le_add_right ..⟩;refine h.either o (y:=.e) trivial ?_ ?_
  ·intro v h1 _ g hg;exact ah (pq v h1 g hg)
  ·intro v h1 C;rw[tH o h1];exact u v h1 C
 | st =>
  rcases zW o with⟨p,rfl⟩|rfl|rfl|⟨e,d⟩
  ·simp[Dt]at A
  ·exact⟨[],by simp,fun v h1 _ g hg=>ah (pq v h1 g hg),by simp,by simp,by simp[sz]⟩
  ·exact⟨[],by simp,fun v h1 _ g hg=>ah (pq v h1 g hg),by simp,by simp,by simp[sz]⟩
  ·refine⟨V.map fun g=>row g (.m t),fun g hg=>(q d g hg).1,?_,fun _ g hg=>(q d g hg).2,by simp,?_⟩
   ·show jn (many t) w _;rw[e];exact h.m d u
   ·have:=p7 V (.m t);rw[GG]at this;exact this
 | pl =>
  rcases zW o with⟨p,rfl⟩|rfl|rfl|⟨e,d⟩
  ·simp[Dt]at A
  ·exact⟨[],by simp,fun v h1 _ g hg=>ah (pq v h1 g hg),by simp,by simp,by simp[sz]⟩
  ·exact⟨[],by simp,fun v h1 _ g hg=>ah (FQ v g hg),by simp,by simp,by simp[sz]⟩
  ·refine⟨V.map fun g=>row g (.m t),fun g hg=>(q d g hg).1,?_,fun _ g hg=>(q d g hg).2,by simp,?_⟩
   ·show jn (row t (many t)) w _;rw[e];refine(h.row o d (h.m d u)).sub ?_;intro x j;rcases aR.1 j with k|k<;>exact k
   ·have:=p7 V (.m t);rw[GG]at this;exact this
theorem F3{p:Tr}(j:(Tr.m p).ok)(s:Sg)(t:s≠.op){w:List Nat}{V:List Tr}(d:∀g∈V,g.ok/\g.one/\g.hc)(q:p.hc)(h:jn (.m p) w V):∃i,(∀g∈i,g.ok/\g.one/\g.hc)/\jn (sg s (.m p)) w i/\i.length<=2*V.length/\sz i<=2*sz V+V.length*((Tr.m p).wt+4):=by
 have le:sz V<=2*sz V+V.length*((Tr.m p).wt+4):=aE (by omega) (Nat.le_add_right ..);cases s with
 | no=>exact⟨V,d,h,by omega,le⟩
 | st=>exact⟨V,d,h,by omega,le⟩
 | op=>exact absurd rfl t
 | pl =>
  refine⟨V.map (fun g=>row g (.m p))++V,?_,h.row j j h,by simp;omega,?_⟩
  ·intro g hg;rcases aR.1 hg with k|k
   ·obtain⟨x,n,rfl⟩:=aN.1 k;have:=bZ (d x n).1 j;refine⟨this.1,?_,k2 (d x n).2.2 q⟩
    by_cases o:x.cX=true
    ·rw[cp o];exact⟨rfl,rfl⟩
    ·exact gL (gI (d x n).1 j (d x n).2.1.2 (by simpa using o) rfl rfl)
   ·exact d g k
  ·have:=p7 V (.m p);rw[gR];have u:V.length*((Tr.m p).wt+2)<=V.length*((Tr.m p).wt+4):=mm _ (by omega);omega
theorem JG{t:Tr}(d:t.ok)(h:t.cM=false)(i:t.cX=false)(s:Sg):(sg s t).ok/\(sg s t).cM=false/\(sg s t).cX=false/\(sg s t).wt<=2*t.wt+5:=by
 have A:=vq t;cases s with
 | no=>exact⟨d,h,i,by show t.wt<=_;omega⟩
 | st =>
  have:=pz d;refine⟨this.1,this.2,?_,?_⟩
  ·cases t<;>first|rfl|(simp[cM]at h;done)|(simp[cX]at i;done)
  ·show (many t).wt<=_;cases t<;>simp only[many,GG,OV]<;>omega
 | pl =>
  have o:=pz d;have h1:=bZ d o.1;have n:=h1.2 h o.2;have v:(many t).cX=false:=by cases t<;>first|rfl|(simp[cM]at h;done)|(simp[cX]at i;done)
  refine⟨h1.1,n.1,n.2 v,?_⟩;have:=p3 t (many t);have B:(many t).wt<=t.wt+2:=by cases t<;>simp only[many,GG,OV]<;>omega
  show (row t (many t)).wt<=_;omega
 | op =>
  have g:=bg d (y:=.e) trivial;obtain⟨u,hu⟩:=tK h;refine⟨g.1,iF ((g.2 u).2 (ah hu)),?_,?_⟩
  ·cases j:(either t .e).cX with
   | false=>exact j
   | true =>
    have e:=cp j;have:∀u∈t.alts,u=.e:=by
     intro u hu;have:=(g.2 u).2 (ah hu);rw[e]at this;simpa[alts]using this
    have:=ru (x:=.e) trivial d ⟨rfl,rfl⟩ this h;rw[this]at i;simp[cX]at i
  ·have h1:=(fH g.1).1;have n:=(fH d).2;have q:=yd g.1.kz.nodup (l':=t.alts++[.e]) (fun x j=>by
    rcases(g.2 x).1 j with k|k
    ·exact gi _ k
    ·exact h5 _ (by simpa[alts]using k))
   rw[gR]at q;have w:sz [Tr.e]=2:=rfl;show (either t .e).wt<=_;omega
structure PK (b U:Nat->Nat->Nat) (W:Nat->Nat) (t:Tr) (k:Nat):Prop where
 ok:t.ok
 nz:t.cM=false
 ne:t.cX=false
 wt:t.wt<=W k
 ni:ni t<=k
 hc:t.hc
 all:∀w,w.length<=1048576->∃V F,(∀g∈V,g.ok/\g.cM=false/\g.hc)/\jn t w V/\V.length<=b k w.length/\sz V<=U k w.length/\Fc t w F/\(∀g∈F,g.ok/\g.one/\g.hc)/\F.length<=b k w.length
structure CK (b U:Nat->Nat->Nat) (W:Nat->Nat) (t:Tr) (k:Nat):Prop where
 ok:t.ok
 nz:t.cM=false
 ne:t.cX=false
 wt:t.wt<=W k
 ni:ni t<=k
 hc:t.hc
 fc:∀w,w.length<=1048576->∃F,Fc t w F/\(∀g∈F,g.ok/\g.one/\g.hc)/\F.length<=b k w.length
 rows:∃ts:List Tr,(∀x∈ts,x.ok)/\(∀v u,u∈(t.cE v).alts↔∃x∈ts,u∈(x.cE v).alts)/\∀w,w.length<=1048576->∃V,(∀g∈V,g.ok/\g.cM=false/\g.hc)/\(∀x∈ts,jn x w V)/\V.length<=b k w.length/\sz V<=U k w.length
structure OP (b U:Nat->Nat->Nat) (W:Nat->Nat):Prop where
 sb:∀i j n,1<=i->1<=j->i+j<=4->n<=1048576->b i n+b j n+j<=b (i+j) n
 sU:∀i j n,1<=i->1<=j->i+j<=4->n<=1048576->U i n+b i n*(W j+2)+U j n<=U (i+j) n
 sW:∀i j,1<=i->1<=j->i+j<=4->W i+W j+4<=W (i+j)
 sN:∀i n,1<=i->i<=4->n<=1048576->b i n<=10000000
theorem No{x y:Tr}(h:x.ok)(i:y.ok)(h1:x.cM=false)(d:y.cM=false)(g:y.cX=false):(row x y).cX=false:=((bZ h i).2 h1 d).2 g
theorem PK.row{b U:Nat->Nat->Nat}{W:Nat->Nat}(S:OP b U W){t n:Tr}{i j:Nat}(h:PK b U W t i)(d:PK b U W n j)(hi:1<=i)(v:1<=j)(y:i+j<=4):PK b U W (row t n) (i+j):=by
 have A:=bZ h.ok d.ok;refine⟨A.1,(A.2 h.nz d.nz).1,(A.2 h.nz d.nz).2 d.ne,?_,?_,k2 h.hc d.hc,?_⟩
 ·have:=p3 t n;have:=S.sW i j hi v y;have:=h.wt;have:=d.wt;omega
 ·exact aE (lS (gL (gI h.ok d.ok h.nz h.ne d.nz d.ne))) (by omega)
 ·intro w q;obtain⟨V,_,u,v2,v3,v4,_,_,_⟩:=h.all w q;obtain⟨C,F,u1,u2,u3,u4,u5,u6,u7⟩:=d.all w q;obtain⟨G,g1,g2,g3,g4,E⟩:=Lp h.ok d.nz d.ne d.ok d.hc u v2 u5;have M:=S.sb i j w.length hi v y q;refine⟨V.map (fun g=>Tr.row g n)++C,G++F,?_,v2.row h.ok d.ok u2,?_,?_,g1,?_,?_⟩
  ·intro g hg;rcases aR.1 hg with k|k
   ·obtain⟨x,o,rfl⟩:=aN.1 k;have:=bZ (u x o).1 d.ok;exact⟨this.1,(this.2 (u x o).2.1 d.nz).1,k2 (u x o).2.2 d.hc⟩
   ·exact u1 g k
  ·rw[aF,b5];omega
  ·have h1:=p7 V n;have H:=S.sU i j w.length hi v y q;have I:V.length*(n.wt+2)<=b i w.length*(W j+2):=h2 v3 (by have:=d.wt;omega);rw[gR];omega
  ·intro g hg;rcases aR.1 hg with k|k
   ·exact g2 g k
   ·exact u6 g k
  ·rw[aF];have J:=pR d.ok;have K:=d.ni
   by_cases B:∃g∈V,g.cX=true
   ·have:=g4 B;omega
   ·have:=E (fun g hg=>by cases o:g.cX with
     | false=>rfl
     | true=>exact absurd ⟨g,hg,o⟩ B)
    omega
theorem PK.ck{b U:Nat->Nat->Nat}{W:Nat->Nat}{t:Tr}{k:Nat}(h:PK b U W t k):CK b U W t k:=by
 refine⟨h.ok,h.nz,h.ne,h.wt,h.ni,h.hc,fun w d=>?_,[t],by simp;exact h.ok,by simp,fun w d=>?_⟩
 ·obtain⟨V,F,_,_,_,_,f1,f2,f3⟩:=h.all w d;exact⟨F,f1,f2,f3⟩
 ·obtain⟨V,F,g,v2,v3,v4,_⟩:=h.all w d;exact⟨V,g,by simp;exact v2,v3,v4⟩
theorem qH{x y:Tr}(g:x.ok)(h:y.ok):(either x y).wt<=x.wt+y.wt+4:=by
 have d:=bg g h;have h1:=(fH d.1).1;have j:=(fH g).2;have n:=(fH h).2;have i:=yd d.1.kz.nodup (l':=x.alts++y.alts) (fun u hu=>aR.2 ((d.2 u).1 hu));rw[gR]at i;omega
theorem qI{x y:Tr}(h:x.ok)(j:y.ok)(h1:x.cM=false)(d:x.cX=false):(either x y).cM=false/\(either x y).cX=false:=by
 have g:=bg h j;obtain⟨u,hu⟩:=tK h1;refine⟨iF ((g.2 u).2 (ah hu)),?_⟩;cases i:(either x y).cX with
 | false=>rfl
 | true =>
  have e:=cp i;have:∀u∈x.alts,u=.e:=by
   intro u hu;have:=(g.2 u).2 (ah hu);rw[e]at this;simpa[alts]using this
  have:=ru (x:=.e) trivial h ⟨rfl,rfl⟩ this h1;rw[this]at d;simp[cX]at d
theorem CK.either{b U:Nat->Nat->Nat}{W:Nat->Nat}(S:OP b U W){t C:Tr}{i j:Nat}(h:CK b U W t i)(d:CK b U W C j)(hi:1<=i)(q:1<=j)(A:i+j<=4):CK b U W (either t C) (i+j):=by
 have N:=bg h.ok d.ok;have E:=qI h.ok d.ok h.nz h.ne;have G:Tr.ni (Tr.either t C)<=i+j:=by have:=nO h.ok d.ok;have:=h.ni;have:=d.ni;omega
 obtain⟨ts,M,a2,a3⟩:=h.rows;obtain⟨O,b1,b2,b3⟩:=d.rows;refine⟨N.1,E.1,E.2,?_,G,qB h.ok d.ok h.hc d.hc G (by omega),?_,ts++O,?_,?_,?_⟩
 ·have:=qH h.ok d.ok;have:=S.sW i j hi q A;have:=h.wt;have:=d.wt;omega
 ·intro w o;obtain⟨F,f1,f2,f3⟩:=h.fc w o;obtain⟨J,g1,g2,g3⟩:=d.fc w o;refine⟨F++J,?_,?_,?_⟩
  ·intro v H I u hu;rcases(fZ h.ok d.ok v u).1 hu with k|k
   ·exact gi _ (f1 v H I u k)
   ·exact h5 _ (g1 v H I u k)
  ·intro g hg;rcases aR.1 hg with k|k
   ·exact f2 g k
   ·exact g2 g k
  ·have:=S.sb i j w.length hi q A o;rw[aF];omega
 ·intro x n;rcases aR.1 n with k|k
  ·exact M x k
  ·exact b1 x k
 ·intro v u;rw[fZ h.ok d.ok,a2,b2];constructor
  ·rintro(⟨x,n,hu⟩|⟨x,n,hu⟩)
   ·exact⟨x,gi _ n,hu⟩
   ·exact⟨x,h5 _ n,hu⟩
  ·rintro⟨x,n,hu⟩;rcases aR.1 n with k|k
   ·exact ah ⟨x,k,hu⟩
   ·exact ac ⟨x,k,hu⟩
 ·intro w o;obtain⟨V,P,v2,v3,v4⟩:=a3 w o;obtain⟨K,u1,u2,u3,u4⟩:=b3 w o;refine⟨V++K,?_,?_,?_,?_⟩
  ·intro g hg;rcases aR.1 hg with k|k
   ·exact P g k
   ·exact u1 g k
  ·intro x n;rcases aR.1 n with k|k
   ·exact(v2 x k).sub fun y B=>gi _ B
   ·exact(u2 x k).sub fun y B=>h5 _ B
  ·have:=S.sb i j w.length hi q A o;simp;omega
  ·have:=S.sU i j w.length hi q A o;rw[gR];have:0<=b i w.length*(W j+2):=aJ _;omega
theorem CK.IZ{b U:Nat->Nat->Nat}{W:Nat->Nat}{t:Tr}{k:Nat}(h:CK b U W t k)(w:List Nat)(n:w.length<=1048576)(j:w≠[]):(t.cE w).wt<=U k w.length+2:=by
 obtain⟨ts,i,a2,a3⟩:=h.rows;obtain⟨V,o,v2,v3,v4⟩:=a3 w n;have h1:=(fH (ef h.ok w)).1;have q:=yd (ef h.ok w).kz.nodup (l':=V.flatMap alts) (fun u hu=>by
  obtain⟨x,d,hu⟩:=(a2 w u).1 hu;exact(v2 x d).flat (i x d) j (List.suffix_refl _) u hu)
 have v:=Fs V (fun g hg=>(o g hg).1);omega
theorem CK.Lf{b U:Nat->Nat->Nat}{W:Nat->Nat}(S:OP b U W){t:Tr}{k:Nat}(h:CK b U W t k)(j:1<=k)(i:k<=4)(w:List Nat)(g:w.length<=1048576):(t.cE w).hc:=by
 by_cases d:w=[]
 ·subst d;exact h.hc
 ·obtain⟨F,f1,f2,f3⟩:=h.fc w g;exact Gb (ef h.ok w) (fun x n=>(f2 x n).2.2) (aE f3 (S.sN k w.length j i g)) (f1 w d (List.suffix_refl _))
theorem Fv{p:Tr}{ts:List Tr}(h:(Tr.m p).ok)(g:∀x∈ts,x.ok)(a2:∀v u,u∈((Tr.m p).cE v).alts↔∃x∈ts,u∈(x.cE v).alts):Tr.m p∈ts:=by
 obtain⟨x,d,hu⟩:=(a2 [] (.m p)).1 (by simp[cE,alts]);have:x=.m p:=ru h (g x d) ⟨rfl,rfl⟩ (fun u hu=>by have:=(a2 [] u).2 ⟨x,d,hu⟩;simpa[cE,alts]using this) (iF hu);rw[<- this];exact d
theorem QY{p:Tr}(h:(Tr.m p).ok){w:List Nat}{V:List Tr}(u:jn (.m p) w V):jn (.m p) w (V.filter fun g=>!g.Pv):=by
 intro v o y g hg;rcases u v o y g hg with e|x
 ·exact ah e
 ·rcases Kd h v o g hg with e|⟨q,d,m1,m2,i,e⟩
  ·exact ah e
  ·right;refine eF.2 ⟨x,?_⟩
   have t:d.ok:=by rcases i with rfl|i
                   ·exact ef h.1 q
                   ·exact qn h.1 q d i
   rw[e]
   by_cases n:d.cM=true
   ·rw[ee n];rfl
   ·by_cases j:d.cX=true
    ·rw[cp j];rfl
    ·have:=(gL (gI t h (by simpa using n) (by simpa using j) rfl rfl)).1;rw[this];rfl
theorem CK.sg{b U u H:Nat->Nat->Nat}{W P:Nat->Nat}(S:OP b U W){t:Tr}{k:Nat}(h:CK b U W t k)(J:1<=k)(a8:k<=4)(hb:∀n,n<=1048576->n+b k n<=u k n/\2*b k n<=u k n) (I:∀n,n<=1048576->kF (fun i=>U k i+3) n+U k n+(n+b k n)*(W k+4)<=H k n/\2*U k n+b k n*(W k+4)<=H k n) (b7:2*W k+5<=P k) (s:Sg):PK u H P (Tr.sg s t) k:=by
 have A:=JG h.ok h.nz h.ne s;refine⟨A.1,A.2.1,A.2.2.1,by have:=h.wt;omega,FX h.ok h.nz h.ne s J h.ni,Lc h.ok h.nz h.ne s J (by omega) h.ni h.hc,?_⟩;intro w o;obtain⟨ts,Q,a2,a3⟩:=h.rows;obtain⟨V,C,v2,v3,v4⟩:=a3 w o;obtain⟨F,f1,f2,f3⟩:=h.fc w o;have hb:=hb w.length o;have I:=I w.length o;have b9:=h.wt
 by_cases K:t.Dt=false\/s=.op
 ·obtain⟨X,Z,O,c1,c2⟩:=OX h.ok (fun i=>U k i+2) w (fun v b6 N=>h.IZ v (aE N.length_le o) b6);have a7:jn t w (X++V):=jn.of h.ok Q a2 (fun x M=>(v2 x M).sub fun y B=>h5 _ B) (ye O.1 fun y B=>gi _ B);have a6:∀g∈X++V,g.ok/\g.cM=false/\g.hc:=by
   intro g hg;rcases aR.1 hg with k|k
   ·obtain⟨v,N,e⟩:=O.2 g k;exact⟨(Z g k).1,(Z g k).2,by rw[e];exact h.Lf S J a8 v (aE N.length_le o)⟩
   ·exact C g k
  obtain⟨j,d,E,Y,w3,T⟩:=KR h.ok s K a6 h.hc a7 (ye O.1 fun y B=>gi _ B);have hlen:j.length<=u k w.length:=by rw[aF]at w3;omega
  have hF:∃q,Fc (Tr.sg s t) w q/\(∀g∈q,g.ok/\g.one/\g.hc)/\q.length<=u k w.length:=by
   by_cases G:s=.st\/s=.pl
   ·exact⟨j,l3 A.1 E (Y G),fun g hg=>⟨(d g hg).1,Y G g hg,(d g hg).2.2⟩,hlen⟩
   ·refine⟨F,?_,f2,by omega⟩;cases s with
    | no=>exact f1
    | op=>exact Ap h.ok f1
    | st=>exact absurd (ah rfl) G
    | pl=>exact absurd (ac rfl) G
  obtain⟨q,a0,a1,a4⟩:=hF;refine⟨j,q,d,E,hlen,?_,a0,a1,a4⟩;have h1:=I.1;rw[gR,aF]at T;have a5:(X.length+V.length)*(t.wt+4)<=(w.length+b k w.length)*(W k+4):=h2 (by omega) (by omega);have e:(fun i=>U k i+3)=(fun i=>U k i+2+1):=rfl;rw[e]at h1;omega
 ·have b5:t.Dt=true:=by
   cases M:t.Dt with
   | true=>rfl
   | false=>exact absurd (ah M) K
  obtain⟨p,rfl⟩:∃p,t=.m p:=by cases t<;>first|exact⟨_,rfl⟩|simp[Dt]at b5
  have R:=QY h.ok (v2 _ (Fv h.ok Q a2));have a9:(V.filter fun g=>!g.Pv).length<=V.length:=nw ..;have b8:sz (V.filter fun g=>!g.Pv)<=sz V:=by
   clear a9 R C v2 v3 v4
   induction V with
   | nil=>simp[sz]
   | cons g V c0=>rw[List.filter_cons];split<;>simp only[cP]<;>omega
  obtain⟨j,d,E,w3,T⟩:=F3 h.ok s (fun e=>K (ac e)) (V:=V.filter fun g=>!g.Pv) (fun g hg=>by
   obtain⟨g1,g2⟩:=eF.1 hg;exact⟨(C g g1).1,⟨by simpa using g2,(C g g1).2.1⟩,(C g g1).2.2⟩) h.hc R
  refine⟨j,j,fun g hg=>⟨(d g hg).1,(d g hg).2.1.2,(d g hg).2.2⟩,E,by omega,?_,l3 A.1 E (fun g hg=>(d g hg).2.1),d,by omega⟩;have a5:(V.filter fun g=>!g.Pv).length*((Tr.m p).wt+4)<=b k w.length*(W k+4):=h2 (by omega) (by omega);omega
end Tr
namespace Tr
inductive Rw (P:Nat->Tr->Prop):Nat->Tr->Prop where
 | one {k:Nat} {t:Tr}:P k t->Rw P k t
 | more {k k':Nat} {t t':Tr}:Rw P k t->P k' t'->Rw P (k+k') (row t t')
inductive Ct (P:Nat->Tr->Prop):Nat->Tr->Prop where
 | one {k:Nat} {t:Tr}:Rw P k t->Ct P k t
 | more {k k':Nat} {t t':Tr}:Ct P k t->Rw P k' t'->Ct P (k+k') (either t t')
def At(k:Nat)(t:Tr):Prop:=∃x:Nat×Sg,x.1<256/\k=1/\t=pt x
def Pa:Nat->Nat->Tr->Prop
 | 0,k,t=>At k t
 | h+1,k,t=>At k t\/∃d s,Ct (Pa h) k d/\t=sg s d
inductive RR (P:Nat->Tr->Prop):Nat->Tr->Prop where
 | one {k:Nat} {t:Tr}:P k t->RR P k t
 | more {k k':Nat} {t t':Tr}:P k t->RR P k' t'->RR P (k+k') (row t t')
theorem RR.ok{P:Nat->Tr->Prop}(d:∀k t,P k t->t.ok){k:Nat}{t:Tr}(h:RR P k t):t.ok:=by
 induction h with
 | one h=>exact d _ _ h
 | more h _ g=>exact(bZ (d _ _ h) g).1
theorem RR.snoc{P:Nat->Tr->Prop}(d:∀k t,P k t->t.ok){k:Nat}{t:Tr}(h:RR P k t){k':Nat}{i:Tr}(g:P k' i):RR P (k+k') (row t i):=by
 induction h with
 | one h=>exact RR.more h (RR.one g)
 | more h j n=>rw[nJ (d _ _ h) (j.ok d) (d _ _ g),Nat.add_assoc];exact RR.more h n
theorem Rw.rr{P:Nat->Tr->Prop}(g:∀k t,P k t->t.ok){k:Nat}{t:Tr}(h:Rw P k t):RR P k t:=by
 induction h with
 | one h=>exact RR.one h
 | more _ d i=>exact i.snoc g d
theorem Hb{r:List (Nat×Sg)}(h:ls r){x:Nat×Sg}(d:x.1<256):row (dF r) (pt x)=dF (r++[x]):=by
 induction r with
 | nil=>show pt x=row (pt x) .e;rw[dN]
 | cons y r g =>
  show row (row (pt y) (dF r)) (pt x)=row (pt y) (dF (r++[x]));rw[nJ (lq h.head).1 (dJ h.tail).1 (lq d).1,g h.tail]
theorem FF{k:Nat}{t:Tr}(h:Rw At k t):∃r,ls r/\r≠[]/\r.length=k/\t=dF r:=by
 induction h with
 | one h =>
  obtain⟨x,h1,g,n⟩:=h;exact⟨[x],by intro y d;simp at d;subst d;exact h1,by simp,by simp[g],by rw[n];show pt x=row (pt x) .e;rw[dN]⟩
 | more _ j o =>
  obtain⟨r,i,u,q,rfl⟩:=o;obtain⟨x,h1,g,rfl⟩:=j;refine⟨r++[x],?_,by simp,by simp[q,g],Hb i h1⟩;intro y d;rcases aR.1 d with k|k
  ·exact i y k
  ·simp at k;subst k;exact h1
theorem pn(rs:List (List (Nat×Sg))):(cd rs).length=(rs.map List.length).sum:=by
 induction rs with
 | nil=>rfl
 | cons r rs d =>
  have e:cd (r::rs)=eL r++cd rs:=by simp[cd]
  rw[e,aF,iD,d];simp
theorem LL{rs:List (List (Nat×Sg))}(h:ik rs){r:List (Nat×Sg)}(o:ls r)(q:r≠[]):either (iy rs) (dF r)=iy (rs++[r]):=by
 have j:ik (rs++[r]):=by
  intro y t;rcases aR.1 t with k|k
  ·exact h y k
  ·simp at k;subst k;exact⟨o,q⟩
 have n:=bg (gy h) (dJ o).1;refine ext n.1 (gy j) fun u=>?_
 have i:=lz h [] u;have g:=lz j [] u;rw[n.2];constructor
 ·rintro(k|k)
  ·obtain⟨x,d,hu⟩:=i.1 k;exact g.2 ⟨x,by rw[c9];exact gi _ d,hu⟩
  ·exact g.2 ⟨dF r,by simp,k⟩
 ·intro k;obtain⟨x,d,hu⟩:=g.1 k;rw[c9]at d;rcases aR.1 d with k|k
  ·exact ah (i.2 ⟨x,k,hu⟩)
  ·simp at k;subst k;exact ac hu
theorem kn{r:List (Nat×Sg)}(g:ls r):iy [r]=dF r:=by
 have d:=bg (dJ g).1 (y:=.z) trivial;refine ext d.1 (dJ g).1 fun u=>?_
 show u∈(either (dF r) .z).alts↔_;rw[d.2];simp[alts]
theorem N7{k:Nat}{t:Tr}(h:Ct At k t):∃rs,ik rs/\rs≠[]/\(cd rs).length=k/\t=iy rs:=by
 induction h with
 | one h =>
  obtain⟨r,d,i,j,rfl⟩:=FF h;exact⟨[r],by intro y g;simp at g;subst g;exact⟨d,i⟩,by simp,by rw[pn];simp[j],(kn d).symm⟩
 | more _ o q =>
  obtain⟨rs,n,u,c3,rfl⟩:=q;obtain⟨r,d,i,j,rfl⟩:=FF o;refine⟨rs++[r],?_,by simp,by rw[pn]at c3 ⊢;simp[c3,j],LL n d i⟩;intro y g;rcases aR.1 g with k|k
  ·exact n y k
  ·simp at k;subst k;exact⟨d,i⟩
theorem Az{rs:List (List (Nat×Sg))}(h:ik rs)(j:rs≠[]):(iy rs).wt+4<=18*(cd rs).length/\(iy rs).cX=false:=by
 have n:∀{r:List (Nat×Sg)},ls r->r≠[]->(dF r).cX=false:=by
  intro r d j;cases r with
  | nil=>exact absurd rfl j
  | cons x r =>
   by_cases t:r=[]
   ·subst t;show (row (pt x) .e).cX=false;rw[dN];exact(lq d.head).2.2.1
   ·have h1:=lq d.head;have g:=dJ d.tail;show (row (pt x) (dF r)).cX=false;cases q:(dF r).cX with
    | false=>exact No h1.1 g.1 h1.2.1 g.2.1 q
    | true =>
     rw[cp q,dN];exact h1.2.2.1
 rw[pn]
 induction rs with
 | nil=>exact absurd rfl j
 | cons r rs u =>
  have d:=dJ (h r (aU ..)).1;have i:=(h r (aU ..)).2;have h1:=d.2.2.2 i;have y:1<=r.length:=oU.2 i
  by_cases o:rs=[]
  ·subst o;rw[kn (h r (aU ..)).1];refine⟨?_,n (h r (aU ..)).1 i⟩;simp;omega
  ·have g:=u h.tail o;have w:=qH d.1 (gy h.tail);refine⟨?_,(qI d.1 (gy h.tail) d.2.1 (n (h r (aU ..)).1 i)).2⟩;show (either (dF r) (iy rs)).wt+4<=_;have v:=g.1;rw[bS,dC];omega
theorem PH{rs:List (List (Nat×Sg))}(h:ik rs){p:Tr}(e:iy rs=.m p):∃n,n<256/\p=.c n:=by
 have C:(Tr.m p).ok:=by rw[<- e];exact gy h
 have B:=Fv C (ts:=rs.map dF) (by intro x j;obtain⟨r,t,rfl⟩:=aN.1 j;exact(dJ (h r t).1).1) (by rw[<- e];exact lz h);obtain⟨r,t,o⟩:=aN.1 B;have g:=(h r t).1;cases r with
 | nil=>cases o
 | cons x r =>
  cases r with
  | nil =>
   have d:pt x=.m p:=by
    have:dF [x]=pt x:=dN _;rw[<- this];exact o
   obtain⟨n,s⟩:=x;cases s with
   | no=>cases d
   | st=>cases d;exact⟨n,g.head,rfl⟩
   | pl=>cases d
   | op =>
    have:pt (n,.op)=.a .e (.c n):=BX n g.head;rw[this]at d;cases d
  | cons y r =>
   exfalso;have h1:=lq g.head;have i:=dJ g.tail;have q:(dF (y::r)).cX=false:=by
    have:=Az (rs:=[y::r]) (by intro z w;simp at w;subst w;exact⟨g.tail,by simp⟩) (by simp);rw[kn g.tail]at this;exact this.2
   have u:(row (pt x) (dF (y::r))).AY=true:=by
    cases j:(pt x).AY with
    | false=>rw[hM i.2.1 q h1.2.1 h1.2.2.1 j];rfl
    | true =>
     obtain⟨a,b,A⟩:=qz j;rw[A]at h1 ⊢;rw[lp i.2.1 q];have hb:=bZ h1.1.2.1 i.1;have v:=hb.2 h1.1.2.2.2.2.2.1 i.2.1;rw[hM v.1 (v.2 q) h1.1.2.2.1 h1.1.2.2.2.1 h1.1.2.2.2.2.1];rfl
   have d:row (pt x) (dF (y::r))=.m p:=o;rw[d]at u;simp[AY]at u
end Tr
namespace Tr
def W1(k:Nat):Nat:=46*k-5
def M1(k:Nat):Nat:=if k=1 then 2 else if k=2 then 3 else if k=3 then 7 else 13
def f1(k:Nat):Nat:=if k=1 then 2 else if k=2 then 4 else if k=3 then 7 else 13
def U1(k:Nat):Nat:=if k=1 then 29 else if k=2 then 200 else if k=3 then 700 else 2005
structure P1 (t:Tr) (k:Nat):Prop where
 ok:t.ok
 nz:t.cM=false
 ne:t.cX=false
 wt:t.wt<=W1 k
 ni:ni t<=k
 hc:t.hc
 all:∀w,∃V F,(∀g∈V,g.ok/\g.cM=false/\g.hc)/\jn t w V/\V.length<=M1 k/\sz V<=U1 k/\(k=1->V.length=1\/∀g∈V,g.cX=false)/\Fc t w F/\(∀g∈F,g.ok/\g.one/\g.hc)/\F.length<=M1 k/\sz F<=U1 k
structure C1 (t:Tr) (k:Nat):Prop where
 ok:t.ok
 nz:t.cM=false
 ne:t.cX=false
 wt:t.wt<=W1 k
 ni:ni t<=k
 hc:t.hc
 all:∀w,∃F,Fc t w F/\(∀g∈F,g.ok/\g.one/\g.hc)/\F.length<=f1 k/\sz F<=U1 k
theorem Mo{i j:Nat}(hi:1<=i)(d:1<=j):W1 i+W1 j+4<=W1 (i+j):=by unfold W1;omega
theorem P1.c{t:Tr}{k:Nat}(h:P1 t k):C1 t k:=⟨h.ok,h.nz,h.ne,h.wt,h.ni,h.hc,fun w=>by
 obtain⟨V,F,_,_,_,_,_,d,f2,f3,f4⟩:=h.all w;exact⟨F,d,f2,aE f3 (by unfold M1 f1;(repeat' split)<;>omega),f4⟩⟩
theorem C1.either{t n:Tr}{i j:Nat}(h:C1 t i)(d:C1 n j)(hi:1<=i)(C:1<=j)(G:i+j<=4):C1 (either t n) (i+j):=by
 have E:=bg h.ok d.ok;have o:=qI h.ok d.ok h.nz h.ne;have q:Tr.ni (Tr.either t n)<=i+j:=by have:=nO h.ok d.ok;have:=h.ni;have:=d.ni;omega
 refine⟨E.1,o.1,o.2,?_,q,qB h.ok d.ok h.hc d.hc q (by omega),?_⟩
 ·have:=qH h.ok d.ok;have:=Mo hi C;have:=h.wt;have:=d.wt;omega
 ·intro w;obtain⟨F,B,a2,a3,a4⟩:=h.all w;obtain⟨A,b1,b2,b3,b4⟩:=d.all w;refine⟨F++A,?_,?_,?_,?_⟩
  ·intro v x y u hu;rcases(fZ h.ok d.ok v u).1 hu with k|k
   ·exact gi _ (B v x y u k)
   ·exact h5 _ (b1 v x y u k)
  ·intro g hg;rcases aR.1 hg with k|k
   ·exact a2 g k
   ·exact b2 g k
  ·have:f1 i+f1 j<=f1 (i+j):=by unfold f1;(repeat' split)<;>omega
   rw[aF];omega
  ·have:U1 i+U1 j<=U1 (i+j):=by unfold U1;(repeat' split)<;>omega
   rw[gR];omega
theorem C1.row{t n:Tr}{i j:Nat}(h:P1 t i)(d:C1 n j)(hi:1<=i)(I:1<=j)(T:i+j<=4):C1 (row t n) (i+j):=by
 have u:=bZ h.ok d.ok;refine⟨u.1,(u.2 h.nz d.nz).1,(u.2 h.nz d.nz).2 d.ne,?_,?_,k2 h.hc d.hc,?_⟩
 ·have:=p3 t n;have:=Mo hi I;have:=h.wt;have:=d.wt;omega
 ·exact aE (lS (gL (gI h.ok d.ok h.nz h.ne d.nz d.ne))) (by omega)
 ·intro w;obtain⟨V,_,A,v2,v3,v4,v5,_,_,_,_⟩:=h.all w;obtain⟨F,B,a2,a3,a4⟩:=d.all w;obtain⟨G,g1,g2,g3,g4,x⟩:=Lp h.ok d.nz d.ne d.ok d.hc A v2 B;have R:=pR d.ok;have S:=d.ni;have W:=d.wt;have U:V.length*(n.wt+2)<=M1 i*(W1 j+2):=h2 (by omega) (by omega);have Q:1<=M1 i:=by unfold M1;(repeat' split)<;>omega
  have P:sz G<=U1 i+M1 i*(W1 j+2)+(W1 j+1):=by omega
  have E:G.length+1<=M1 i+(j+1)/\(i=1->G.length<=max 2 (j+1)):=by
   by_cases q:∃g∈V,g.cX=true
   ·have N:=g4 q;refine⟨by omega,fun v=>?_⟩;rcases v5 v with k|k
    ·omega
    ·obtain⟨C,H,y⟩:=q;rw[k C H]at y;cases y
   ·have O:=x (fun g hg=>by cases J:g.cX with
     | false=>rfl
     | true=>exact absurd ⟨g,hg,J⟩ q)
    refine⟨by omega,fun v=>?_⟩;have:M1 i=2:=by rw[v];rfl
    omega
  obtain⟨K,M⟩:=E;clear g4 x v5 v4 v3 v2 A g3;refine⟨G++F,g1,?_,?_,?_⟩
  ·intro g hg;rcases aR.1 hg with k|k
   ·exact g2 g k
   ·exact a2 g k
  ·rw[aF];have h1:i=1\/i=2\/i=3:=by omega
   have o:j=1\/j=2\/j=3:=by omega
   rcases h1 with rfl|rfl|rfl<;>rcases o with rfl|rfl|rfl<;>simp[f1,M1]at*<;> omega
  ·rw[gR];have h1:i=1\/i=2\/i=3:=by omega
   have o:j=1\/j=2\/j=3:=by omega
   rcases h1 with rfl|rfl|rfl<;>rcases o with rfl|rfl|rfl<;>simp[U1,M1,W1]at*<;> omega
end Tr
namespace Tr
theorem zd{x:Nat×Sg}:(tl x).one:=by unfold tl;split<;>exact⟨rfl,rfl⟩
theorem zH{k:Nat}{t:Tr}(h:At k t):P1 t k:=by
 obtain⟨x,h1,rfl,rfl⟩:=h;have d:=lq h1;have i:=A7 h1;refine⟨d.1,d.2.1,d.2.2.1,by unfold W1;omega,?_,Ka h1,fun w=>⟨[tl x],[tl x],?_,qv h1 w,(show 1<=2 by omega),?_,fun _=>ah rfl,?_,?_,(show 1<=2 by omega),?_⟩⟩
 ·obtain⟨n,s⟩:=x;cases s with
  | no=>exact lS ⟨rfl,rfl⟩
  | st=>exact lS ⟨rfl,rfl⟩
  | pl=>exact lS ⟨rfl,rfl⟩
  | op =>
   have e:pt (n,.op)=.a .e (.c n):=BX n h1;rw[e];simp[ni,alts,cX]
 ·intro g hg;simp at hg;subst hg;exact⟨i.1,i.2.1,Fo x⟩
 ·rw[cP];simp[sz,U1];omega
 ·intro v j o u hu;have:=(qv h1 w).flat d.1 j o u hu;simpa[c7 zd]using this
 ·intro g hg;simp at hg;subst hg;exact⟨i.1,zd,Fo x⟩
 ·rw[cP];simp[sz,U1];omega
theorem FY{r:List (Nat×Sg)}(h:ls r):ni (dF r)<=1:=by
 cases r with
 | nil=>exact lS ⟨rfl,rfl⟩
 | cons x r =>
  cases r with
  | nil =>
   have e:dF [x]=pt x:=dN _;rw[e];exact(zH ⟨x,h.head,rfl,rfl⟩).ni
  | cons y r =>
   have h1:=lq h.head;have d:=dJ h.tail;have i:(dF (y::r)).cX=false:=by
    have:=Az (rs:=[y::r]) (by intro z g;simp at g;subst g;exact⟨h.tail,by simp⟩) (by simp);rw[kn h.tail]at this;exact this.2
   exact lS (gL (gI h1.1 d.1 h1.2.1 h1.2.2.1 d.2.1 i))
theorem Kq{rs:List (List (Nat×Sg))}(h:ik rs):ni (iy rs)<=(cd rs).length:=by
 induction rs with
 | nil=>simp[iy,ni,alts]
 | cons r rs g =>
  have h1:=nO (dJ (h r (aU ..)).1).1 (gy h.tail);have d:=g h.tail;have i:=FY (h r (aU ..)).1;have j:1<=r.length:=oU.2 (h r (aU ..)).2;rw[pn]at d ⊢;rw[bS,dC];show ni (either (dF r) (iy rs))<=_;omega
theorem IC(S:List ng)(f:ng->List Nat->Prop):dP (S.map fun p=>(f p,p.2))=dP S:=by simp[dP,List.flatMap_map]
theorem y0{r:List (Nat×Sg)}(h:ls r):(dP (eL r)).length+(if r=[]then 0 else 1)<=2*r.length:=by
 induction r with
 | nil=>simp[dP,eL]
 | cons x r q =>
  have e:dP (eL (x::r))=(row (tl x) (dF r)).alts++dP (eL r):=by
   simp only[eL];show (row (tl x) (dF r)).alts++dP ((eL r).map _)=_;rw[IC]
  have h1:=q h.tail;have d:=dJ h.tail;rw[e,aF,ae (by simp),bT]
  by_cases g:r=[]
  ·subst g;have:(row (tl x) (dF [])).alts=[tl x]:=by show (row (tl x) .e).alts=_;rw[dN,c7 zd]
   rw[this];simp[dP,eL]
  ·rw[ae g]at h1;have o:(dF r).cX=false:=by
    have:=Az (rs:=[r]) (by intro z n;simp at n;subst n;exact⟨h.tail,g⟩) (by simp);rw[kn h.tail]at this;exact this.2
   have:(row (tl x) (dF r)).alts.length<=2:=by
    by_cases i:(tl x).cX=true
    ·rw[cp i];have:=pR d.1;have:=FY h.tail;show (dF r).alts.length<=2;omega
    ·have j:=A7 h.head;rw[c7 (gL (gI j.1 d.1 j.2.1 (by simpa using i) d.2.1 o))];simp
   omega
theorem Db{rs:List (List (Nat×Sg))}(h:ik rs)(g:rs≠[]):(dP (cd rs)).length+1<=2*(cd rs).length:=by
 have key:∀{rs:List (List (Nat×Sg))},ik rs->(dP (cd rs)).length<=2*(cd rs).length:=by
  intro rs h
  induction rs with
  | nil=>simp[dP,cd]
  | cons r rs i =>
   have e:cd (r::rs)=eL r++cd rs:=by simp[cd]
   have h1:=y0 (h r (aU ..)).1;have d:=i h.tail;rw[e];show ((eL r++cd rs).flatMap _).length<=_;rw[List.flatMap_append,aF,aF,iD];show (dP (eL r)).length+(dP (cd rs)).length<=_;omega
 cases rs with
 | nil=>exact absurd rfl g
 | cons r rs =>
  have e:cd (r::rs)=eL r++cd rs:=by simp[cd]
  have h1:=y0 (h r (aU ..)).1;rw[ae (h r (aU ..)).2]at h1;have d:=key h.tail;rw[e];show ((eL r++cd rs).flatMap _).length+1<=_;rw[List.flatMap_append,aF,aF,iD];show (dP (eL r)).length+(dP (cd rs)).length+1<=_;omega
theorem Me{S:List ng}(h:∀p∈S,p.2.ok):sz (dP S)<=kE S:=by
 induction S with
 | nil=>simp[dP,sz,kE]
 | cons p S g =>
  have h1:=(fH (h p (aU ..))).2;have i:=g (fun q d=>h q (b6 _ d));show sz (p.2.alts++dP S)<=_;rw[gR,o1];omega
theorem PP{rs:List (List (Nat×Sg))}(h:ik rs)(j:(cd rs).length<=4):(iy rs).hc:=by
 refine Le (fun u hu=>?_) ?_
 ·obtain⟨x,g,hu⟩:=(lz h [] u).1 hu;obtain⟨r,d,rfl⟩:=aN.1 g;exact(FI (h r d).1).alts u hu
 ·have h1:=pR (gy h);have i:=Kq h;omega
theorem QS{k:Nat}{t:Tr}(hc:Ct At k t)(e2:k<=4)(a4:1<=k)(s:Sg):P1 (sg s t) k:=by
 obtain⟨d,i,I,rfl,rfl⟩:=N7 hc;generalize J:(cd d).length=k at *;have B:=Az i I;rw[J]at B;have K:=xc i I;have o:=gy i;have T:=JG o K B.2 s;have S:=Kq i;rw[J]at S;have a2:(iy d).hc:=PP i (by omega);have e1:29<=U1 k:=by unfold U1;(repeat' split)<;>omega
 have c8:2<=M1 k:=by unfold M1;(repeat' split)<;>omega
 refine⟨T.1,T.2.1,T.2.2.1,by unfold W1;omega,FX o K B.2 s a4 S,Lc o K B.2 s a4 (by omega) S a2,fun w=>?_⟩
 by_cases R:(iy d).Dt=true
 ·obtain⟨p,Z⟩:∃p,iy d=.m p:=by
   cases e:iy d with
   | m p=>exact⟨p,rfl⟩
   | _=>rw[e]at R;simp[Dt]at R
  obtain⟨n,a6,rfl⟩:=PH i Z;rw[Z];have F:jn (.m (.c n)) w [.m (.c n)]:=qv (x:=(n,.st)) a6 w;have h:=xV a6;have e4:(Tr.m (.c n)).wt<=7:=by
   have hi:(h9 n).length<=3:=by unfold h9;split<;>(try split)<;>simp
   simp[wt,fm,gM];omega
  have Y:∀g∈[Tr.m (.c n)],g.ok/\g.cM=false/\g.hc:=by intro g hg;simp at hg;subst hg;exact⟨h,rfl,trivial⟩
  have O:∀g∈[Tr.m (.c n)],g.ok/\g.one/\g.hc:=by intro g hg;simp at hg;subst hg;exact⟨h,⟨rfl,rfl⟩,trivial⟩
  have fk:=l3 h F (fun g hg=>(O g hg).2.1);have H:sz [Tr.m (.c n)]<=U1 k:=by rw[cP];simp[sz];omega
  have e5:∀g∈[Tr.m (.c n)],g.cX=false:=by intro g hg;simp at hg;subst hg;rfl
  cases s with
  | no=>exact⟨[.m (.c n)],[.m (.c n)],Y,F,by simp;omega,H,fun _=>ah rfl,fk,O,by simp;omega,H⟩
  | st=>exact⟨[.m (.c n)],[.m (.c n)],Y,F,by simp;omega,H,fun _=>ah rfl,fk,O,by simp;omega,H⟩
  | op =>
   refine⟨[.m (.c n)],[.m (.c n)],Y,?_,by simp;omega,H,fun _=>ah rfl,Ap h fk,O,by simp;omega,H⟩;refine F.either h (y:=.e) trivial (fun v h1 _ g hg=>ah (pq v h1 g hg)) ?_;intro v q G;rw[tH h q];exact Dy h h ⟨rfl,rfl⟩ (fun v q G u hu=>by simpa using fk v q G u hu) v q G
  | pl =>
   have W:=F.row h h F;have b7:([Tr.m (.c n)].map (fun g=>Tr.row g (.m (.c n)))++[.m (.c n)])=[.s (.m (.c n)) (.m (.c n)),.m (.c n)]:=rfl;rw[b7]at W;have a7:(Tr.s (.m (.c n)) (.m (.c n))).ok:=⟨h,h,rfl,rfl,rfl,rfl,rfl⟩;have b6:sz [Tr.s (.m (.c n)) (.m (.c n)),.m (.c n)]<=U1 k:=by rw[cP,cP,Du];simp[sz];omega
   have M:∀g∈[Tr.s (.m (.c n)) (.m (.c n)),.m (.c n)],g.ok/\g.one/\g.hc:=by
    intro g hg;simp at hg;rcases hg with rfl|rfl
    ·exact⟨a7,BY,trivial,trivial⟩
    ·exact⟨h,⟨rfl,rfl⟩,trivial⟩
   have b8:sg .pl (Tr.m (.c n))=row (.m (.c n)) (.m (.c n)):=rfl;rw[b8];refine⟨_,_,fun g hg=>⟨(M g hg).1,(M g hg).2.1.2,(M g hg).2.2⟩,W,by simp;omega,b6,fun _=>ac ?_,l3 a7 W (fun g hg=>(M g hg).2.1),M,by simp;omega,b6⟩;intro g hg;simp at hg;rcases hg with rfl|rfl<;>rfl
 ·have a5:(iy d).Dt=false:=by simpa using R
  have a1:=flat i I (by omega);rw[J]at a1;obtain⟨V,v0,v2,v3,v4,v5⟩:=a1.all w;have c0:(dP (cd d)).length<=10000000:=by have:=Db i I;omega
  have E:∀g∈V,g.ok/\g.cM=false/\g.hc:=fun g hg=>⟨(v0 g hg).1,(v0 g hg).2.1,Gb (v0 g hg).1 (Da i) c0 (v0 g hg).2.2⟩
  have c9:Mk k<=M1 k:=by unfold Mk M1;(repeat' split)<;>omega
  have c1:Uk k+Mk k*(18*k)<=U1 k:=by
   have:k=1\/k=2\/k=3\/k=4:=by omega
   rcases this with rfl|rfl|rfl|rfl<;>decide
  have e0:Uk k<=U1 k:=aE (Nat.le_add_right ..) c1;have c2:k=1->V.length<=1:=by intro e;rw[e]at v4;exact v4
  have N:∀{X:List Tr},X.length<=V.length->(k=1->X.length=1\/∀g∈X,g.cX=false):=by
   intro X Q e;have:=c2 e
   match X,Q with
   | [],_=>right;intro g hg;cases hg
   | [_],_=>left;rfl
   | _::_::_,Q=>simp at Q;omega
  -- the alternatives of the positions
  have hF:Fc (iy d) w (dP (cd d))/\(∀g∈dP (cd d),g.ok/\g.one/\g.hc)/\(dP (cd d)).length<=M1 k/\sz (dP (cd d))<=U1 k:=by
   refine⟨?_,fun g hg=>⟨(GD (fun p A=>(pm i p A).1) g hg).1,(GD (fun p A=>(pm i p A).1) g hg).2,Da i g hg⟩,?_,?_⟩
   ·intro v q G u hu;obtain⟨p,A,_,hu⟩:=(Gn i v q u).1 hu;exact g9.2 ⟨p,A,hu⟩
   ·have:=Db i I;rw[J]at this;have:2*k<=M1 k+1:=by
     have:k=1\/k=2\/k=3\/k=4:=by omega
     rcases this with rfl|rfl|rfl|rfl<;>decide
    omega
   ·have h1:=Me (fun p A=>(pm i p A).1);have a0:=pj i;rw[J]at a0;have c7:8*(k*k)<=U1 k:=by
     have:k=1\/k=2\/k=3\/k=4:=by omega
     rcases this with rfl|rfl|rfl|rfl<;>decide
    omega
  have e3:sz V+V.length*((iy d).wt+4)<=U1 k:=by
   have a0:V.length*((iy d).wt+4)<=Mk k*(18*k):=h2 v4 B.1;omega
  cases s with
  | no=>exact⟨V,_,E,v2,by omega,by omega,N (by omega),hF.1,hF.2.1,hF.2.2.1,hF.2.2.2⟩
  | op =>
   refine⟨V,_,E,?_,by omega,by omega,N (by omega),Ap o hF.1,hF.2.1,hF.2.2.1,hF.2.2.2⟩;refine v2.either o (y:=.e) trivial (fun v h1 _ g hg=>ah (pq v h1 g hg)) ?_;intro v q G;rw[tH o q];exact v3 v q G
  | _ =>
   rcases zW o with⟨p,e⟩|e|e|⟨e,h⟩
   ·rw[e]at a5;simp[Dt]at a5
   ·rw[e]at B;simp[cX]at B
   ·rw[e]at K;simp[cM]at K
   ·have j:∀g∈V.map (fun g=>row g (.m (iy d))),g.ok/\g.cM=false/\g.one/\g.hc:=by
     intro g hg;obtain⟨x,C,rfl⟩:=aN.1 hg;have h1:=bZ (E x C).1 h;refine⟨h1.1,(h1.2 (E x C).2.1 rfl).1,?_,k2 (E x C).2.2 a2⟩
     by_cases a8:x.cX=true
     ·rw[cp a8];exact⟨rfl,rfl⟩
     ·exact gL (gI (E x C).1 h (E x C).2.1 (by simpa using a8) rfl rfl)
    have P:sz (V.map fun g=>row g (.m (iy d)))<=U1 k:=by
     have:=p7 V (.m (iy d));rw[GG]at this;have b9:(iy d).wt+2+2=(iy d).wt+4:=rfl;rw[b9]at this;omega
    have U:=v2.m h v3
    first
    | (refine⟨_,V.map (fun g=>row g (.m (iy d))),fun g hg=>⟨(j g hg).1,(j g hg).2.1,(j g hg).2.2.2⟩,(show jn (many (iy d)) w _ by rw[e];exact U),by rw[b5];omega,P,N (by rw[b5];omega),(show Fc (many (iy d)) w _ by rw[e];exact l3 h U (fun g hg=>(j g hg).2.2.1)),fun g hg=>⟨(j g hg).1,(j g hg).2.2.1,(j g hg).2.2.2⟩,by rw[b5];omega,P⟩;done)
    | (have a9:jn (row (iy d) (.m (iy d))) w (V.map fun g=>row g (.m (iy d))):=(v2.row o h U).sub (fun x C=>by rcases aR.1 C with k|k<;>exact k)
       refine⟨_,V.map (fun g=>row g (.m (iy d))),fun g hg=>⟨(j g hg).1,(j g hg).2.1,(j g hg).2.2.2⟩,(show jn (row (iy d) (many (iy d))) w _ by rw[e];exact a9),by rw[b5];omega,P,N (by rw[b5];omega),(show Fc (row (iy d) (many (iy d))) w _ by rw[e];exact l3 (bZ o h).1 a9 (fun g hg=>(j g hg).2.2.1)),fun g hg=>⟨(j g hg).1,(j g hg).2.2.1,(j g hg).2.2.2⟩,by rw[b5];omega,P⟩)
end Tr
namespace Tr
theorem At.pos{k:Nat}{t:Tr}(h:At k t):1<=k:=by obtain⟨x,_,rfl,_⟩:=h;exact ar _
theorem Rw.pos{P:Nat->Tr->Prop}(d:∀k t,P k t->1<=k){k:Nat}{t:Tr}(h:Rw P k t):1<=k:=by
 induction h with
 | one h=>exact d _ _ h
 | more _ _ g=>omega
theorem Ct.pos{P:Nat->Tr->Prop}(d:∀k t,P k t->1<=k){k:Nat}{t:Tr}(h:Ct P k t):1<=k:=by
 induction h with
 | one h=>exact h.pos d
 | more _ _ g=>omega
theorem Pa.pos{h:Nat}:∀{k:Nat} {t:Tr},Pa h k t->1<=k:=by
 induction h with
 | zero=>intro k t h;exact At.pos h
 | succ h g =>
  intro k t d;rcases d with d|⟨i,s,hc,_⟩
  ·exact At.pos d
  ·exact hc.pos (fun k t d=>g d)
theorem Sf{k:Nat}{t:Tr}(h:Pa 1 k t)(d:k<=4):P1 t k:=by
 rcases h with h|⟨i,s,hc,rfl⟩
 ·exact zH h
 ·exact QS hc d (hc.pos fun k t g=>At.pos g) s
theorem QL{k:Nat}{t:Tr}(h:RR (fun k t=>Pa 1 k t/\P1 t k) k t)(g:k<=4):C1 t k/\1<=k:=by
 induction h with
 | one h=>exact⟨h.2.c,Pa.pos h.1⟩
 | more h _ i =>
  have h1:=Pa.pos h.1;have d:=i (by omega);exact⟨C1.row h.2 d.1 h1 d.2 g,by omega⟩
theorem QJ{P Q:Nat->Tr->Prop}{K:Nat}(g:∀k t,P k t->1<=k)(i:∀k t,P k t->k<=K->Q k t){k:Nat}{t:Tr}(h:Rw P k t)(j:k<=K):Rw Q k t:=by
 induction h with
 | one h=>exact Rw.one (i _ _ h j)
 | more h d n =>
  have:=g _ _ d;have:=h.pos g;exact Rw.more (n (by omega)) (i _ _ d (by omega))
theorem L0{k:Nat}{t:Tr}(h:Rw (Pa 1) k t)(d:k<=4):C1 t k:=by
 have h1:Rw (fun k t=>Pa 1 k t/\P1 t k) k t:=QJ (fun _ _ h=>Pa.pos h) (fun k t g d=>⟨g,Sf g d⟩) h d;exact(QL (h1.rr fun k t g=>g.2.ok) d).1
theorem Re{k:Nat}{t:Tr}(h:Ct (Pa 1) k t)(g:k<=4):C1 t k:=by
 induction h with
 | one h=>exact L0 h g
 | more h d j =>
  have h1:=h.pos fun _ _ h=>Pa.pos h
  have i:=d.pos fun _ _ h=>Pa.pos h
  exact(j (by omega)).either (L0 d (by omega)) h1 i g
def b2(k _n:Nat):Nat:=if k=1 then 4 else if k=2 then 16 else if k=3 then 128 else 8192
def U2(k _n:Nat):Nat:=if k=1 then 250 else if k=2 then 3104 else if k=3 then 62720 else 9736192
def W2(k:Nat):Nat:=92*k-5
theorem k4{k:Nat}(h1:1<=k)(d:k<=4):k=1\/k=2\/k=3\/k=4:=by omega
theorem Sb{k:Nat}{t:Tr}(h:C1 t k)(q:1<=k)(H:k<=4)(s:Sg):PK b2 U2 W2 (sg s t) k:=by
 have J:=JG h.ok h.nz h.ne s;have c4:=h.wt;refine⟨J.1,J.2.1,J.2.2.1,by unfold W2;unfold W1 at c4;omega,FX h.ok h.nz h.ne s q h.ni,Lc h.ok h.nz h.ne s q (by omega) h.ni h.hc,fun w _=>?_⟩;obtain⟨F,C,E,a3,a4⟩:=h.all w;have a2:∀x∈F,x.ok/\x.one:=fun x d=>⟨(E x d).1,(E x d).2.1⟩
 have c8:f1 k<=13:=by unfold f1;(repeat' split)<;>omega
 have c9:f1 k<=b2 k w.length:=by rcases k4 q H with rfl|rfl|rfl|rfl<;>simp[f1,b2]
 by_cases j:t.Dt=false\/s=.op
 ·have Z:2^F.length<=2^f1 k:=nv (by omega) a3
  let V:=((lj F).map Is).filter fun g=>!g.cM
  have Y:∀{g:Tr},g.ok->g.cM=false->(∀u∈g.alts,u∈F)->g∈V:=by
   intro g h1 N W;obtain⟨l,O,rfl⟩:=PX a2 h1 W;exact eF.2 ⟨aN.2 ⟨l,O,rfl⟩,by simp[N]⟩
  have a0:∀(l:List Tr),∀m∈lj l,∀x∈m,x∈l:=by
   intro l
   induction l with
   | nil=>intro m j x d;simp[lj]at j;subst j;cases d
   | cons y l T =>
    intro m j x d;rcases aR.1 j with k|k
    ·exact b6 _ (T m k x d)
    ·obtain⟨c5,c0,rfl⟩:=aN.1 k;rcases aT.1 d with rfl|d
     ·exact aU ..
     ·exact b6 _ (T c5 c0 x d)
  have b8:∀g∈V,g.ok/\g.cM=false/\g.hc:=by
   intro g hg;obtain⟨h1,N⟩:=eF.1 hg;obtain⟨l,O,rfl⟩:=aN.1 h1;have Q:=xh (fun x d=>a2 x (a0 F l O x d));exact⟨Q.1,by simpa using N,Gb Q.1 (F:=F) (fun x d=>(E x d).2.2) (by omega) (fun u hu=>a0 F l O u ((Q.2 u).1 hu))⟩
  have hlen:V.length<=2^f1 k:=by
   have:=nw (fun g:Tr=>!g.cM) ((lj F).map Is);rw[b5,vF]at this;exact aE this Z
  have e0:sz V*2<=2^f1 k*(U1 k+6):=by
   have h1:=Ek F a2;have N:sz V<=sz ((lj F).map Is):=by
    have key:∀X:List Tr,sz (X.filter fun g=>!g.cM)<=sz X:=by
     intro X
     induction X with
     | nil=>simp[sz]
     | cons g X T=>rw[List.filter_cons];split<;>simp only[cP]<;>omega
    exact key _
   have W:2^F.length*(sz F+6)<=2^f1 k*(U1 k+6):=h2 Z (by omega);omega
  have R:jn t w V:=by
   intro v A K g hg
   by_cases n:g.cM=true
   ·exact ah (ee n)
   ·exact ac (Y (qn h.ok v g hg) (by simpa using n) (fun u hu=>C v A K u ((kb h.ok v u).2 ⟨g,hg,hu⟩)))
  have c2:GA t w V:=by
   intro v A K
   by_cases n:(t.cE v).cM=true
   ·exact ah (ee n)
   ·exact ac (Y (ef h.ok v) (by simpa using n) (C v A K))
  obtain⟨o,i,M,a6,w3,U⟩:=KR h.ok s j b8 h.hc R c2;have b7:V.length*(t.wt+4)<=2^f1 k*(W1 k+4):=h2 hlen (by omega);have I:o.length<=b2 k w.length:=by
   refine aE w3 (aE hlen ?_);rcases k4 q H with rfl|rfl|rfl|rfl<;>simp[f1,b2]
  have hF:∃B,Fc (sg s t) w B/\(∀g∈B,g.ok/\g.one/\g.hc)/\B.length<=b2 k w.length:=by
   by_cases P:s=.st\/s=.pl
   ·exact⟨o,l3 J.1 M (a6 P),fun g hg=>⟨(i g hg).1,a6 P g hg,(i g hg).2.2⟩,I⟩
   ·refine⟨F,?_,E,by omega⟩;cases s with
    | no=>exact C
    | op=>exact Ap h.ok C
    | st=>exact absurd (ah rfl) P
    | pl=>exact absurd (ac rfl) P
  obtain⟨B,a7,a8,a9⟩:=hF;refine⟨o,B,i,M,I,?_,a7,a8,a9⟩
  ·refine aE U ?_;have:2^f1 k*(U1 k+6)+2*(2^f1 k*(W1 k+4))<=2*U2 k w.length:=by
    rcases k4 q H with rfl|rfl|rfl|rfl<;>simp[f1,U1,W1,U2]
   omega
 ·have c1:t.Dt=true:=by
   cases d:t.Dt with
   | true=>rfl
   | false=>exact absurd (ah d) j
  obtain⟨p,rfl⟩:∃p,t=.m p:=by cases t<;>first|exact⟨_,rfl⟩|simp[Dt]at c1
  have R:jn (.m p) w F:=by
   intro v A K g hg;rcases Kd h.ok v A g hg with e|⟨a5,G,m1,m2,S,rfl⟩
   ·exact ah e
   ·by_cases n:G.cM=true
    ·left;rw[ee n];rfl
    ·right
     have b9:G.ok:=by rcases S with rfl|S
                      ·exact ef h.ok.1 a5
                      ·exact qn h.ok.1 a5 G S
     have h1:(row G (.m p)).one:=by
      by_cases a1:G.cX=true
      ·rw[cp a1];exact⟨rfl,rfl⟩
      ·exact gL (gI b9 h.ok (by simpa using n) (by simpa using a1) rfl rfl)
     exact C v A K _ ((kb h.ok v _).2 ⟨_,hg,by rw[c7 h1];simp⟩)
  obtain⟨o,i,M,w3,U⟩:=F3 h.ok s (fun e=>j (ac e)) E h.hc R;have I:o.length<=b2 k w.length:=by
   refine aE w3 ?_;have:2*f1 k<=b2 k w.length:=by rcases k4 q H with rfl|rfl|rfl|rfl<;>simp[f1,b2]
   omega
  refine⟨o,o,fun g hg=>⟨(i g hg).1,(i g hg).2.1.2,(i g hg).2.2⟩,M,I,?_,l3 J.1 M (fun g hg=>(i g hg).2.1),i,I⟩
  ·refine aE U ?_;have b7:F.length*((Tr.m p).wt+4)<=f1 k*(W1 k+4):=h2 a3 (by omega);have:2*U1 k+f1 k*(W1 k+4)<=U2 k w.length:=by
    rcases k4 q H with rfl|rfl|rfl|rfl<;>simp[f1,U1,W1,U2]
   omega
theorem zE{b U:Nat->Nat->Nat}{W:Nat->Nat}(hb:∀n,1<=b 1 n)(j:∀n,8<=U 1 n)(q:14<=W 1){k:Nat}{t:Tr}(h:At k t):PK b U W t k:=by
 obtain⟨x,h1,rfl,rfl⟩:=h;have i:=lq h1;have o:=A7 h1;have d:∀g∈[tl x],g.ok/\g.one/\g.hc:=by intro g hg;simp at hg;subst hg;exact⟨o.1,zd,Fo x⟩
 refine⟨i.1,i.2.1,i.2.2.1,by omega,(zH ⟨x,h1,rfl,rfl⟩).ni,Ka h1,fun w _=>⟨[tl x],[tl x],?_,qv h1 w,?_,?_,l3 i.1 (qv h1 w) (fun g hg=>(d g hg).2.1),d,?_⟩⟩
 ·intro g hg;exact⟨(d g hg).1,(d g hg).2.1.2,(d g hg).2.2⟩
 ·have:=hb w.length;simpa using this
 ·have:=j w.length;rw[cP];simp[sz];omega
 ·have:=hb w.length;simpa using this
theorem LU{b U:Nat->Nat->Nat}{W:Nat->Nat}(S:OP b U W){P:Nat->Tr->Prop}(i:∀k t,P k t->1<=k)(o:∀k t,P k t->k<=4->PK b U W t k){k:Nat}{t:Tr}(h:Ct P k t)(g:k<=4):CK b U W t k:=by
 have q:∀{k:Nat} {t:Tr},Rw P k t->k<=4->PK b U W t k:=by
  intro k t h
  induction h with
  | one h=>exact o _ _ h
  | more h d n =>
   intro g;have h1:=h.pos i;have j:=i _ _ d;exact(n (by omega)).row S (o _ _ d (by omega)) h1 j g
 induction h with
 | one h=>exact(q h g).ck
 | more h d n =>
  have h1:=h.pos i;have j:=d.pos i;exact(n (by omega)).either S (q d (by omega)).ck h1 j g
theorem ij{i j:Nat}(hi:1<=i)(d:1<=j)(h:i+j<=4):(i=1/\j=1)\/(i=1/\j=2)\/(i=1/\j=3)\/(i=2/\j=1)\/(i=2/\j=2)\/(i=3/\j=1):=by omega
theorem QF:OP b2 U2 W2:=by
 constructor
 ·intro i j n hi d g _;rcases ij hi d g with⟨rfl,rfl⟩|⟨rfl,rfl⟩|⟨rfl,rfl⟩|⟨rfl,rfl⟩|⟨rfl,rfl⟩|⟨rfl,rfl⟩<;>simp[b2]
 ·intro i j n hi d g _;rcases ij hi d g with⟨rfl,rfl⟩|⟨rfl,rfl⟩|⟨rfl,rfl⟩|⟨rfl,rfl⟩|⟨rfl,rfl⟩|⟨rfl,rfl⟩<;>simp[b2,U2,W2]
 ·intro i j hi d g;unfold W2;omega
 ·intro i n h1 h _;rcases k4 h1 h with rfl|rfl|rfl|rfl<;>simp[b2]
theorem Se{k:Nat}{t:Tr}(h:Pa 2 k t)(d:k<=4):PK b2 U2 W2 t k:=by
 rcases h with h|⟨g,s,hc,rfl⟩
 ·exact zE (by intro n;simp[b2]) (by intro n;simp[U2]) (by simp[W2]) h
 ·exact Sb (Re hc d) (hc.pos fun _ _ h=>Pa.pos h) d s
def b3(k n:Nat):Nat:=k*n+2*b2 k 0
def a3(k:Nat):Nat:=if k=1 then 344 else if k=2 then 3290 else if k=3 then 62998 else 9736562
def c3(k:Nat):Nat:=if k=1 then 864 else if k=2 then 9136 else if k=3 then 160640 else 22478848
def U3(k n:Nat):Nat:=a3 k*n+c3 k
def W3(k:Nat):Nat:=184*k-5
theorem Be(c n:Nat):kF (fun _=>c) n=c*n:=by
 induction n with
 | zero=>rfl
 | succ n d=>simp only[kF,d,Nat.mul_succ];omega
theorem QE:OP b3 U3 W3:=by
 constructor
 ·intro i j n hi d g _;rcases ij hi d g with⟨rfl,rfl⟩|⟨rfl,rfl⟩|⟨rfl,rfl⟩|⟨rfl,rfl⟩|⟨rfl,rfl⟩|⟨rfl,rfl⟩<;>simp[b3,b2]<;>omega
 ·intro i j n hi d g _;rcases ij hi d g with⟨rfl,rfl⟩|⟨rfl,rfl⟩|⟨rfl,rfl⟩|⟨rfl,rfl⟩|⟨rfl,rfl⟩|⟨rfl,rfl⟩<;>simp[b3,b2,U3,a3,c3,W3]<;>omega
 ·intro i j hi d g;unfold W3;omega
 ·intro i n h1 h o;rcases k4 h1 h with rfl|rfl|rfl|rfl<;>simp[b3,b2]<;>omega
theorem RF{k:Nat}(g:1<=k)(d:k<=4)(n:Nat):(U2 k 0+3)*n+U2 k n+(n+b2 k n)*(W2 k+4)<=U3 k n/\2*U2 k n+b2 k n*(W2 k+4)<=U3 k n:=by
 rcases k4 g d with rfl|rfl|rfl|rfl
 ·simp only[U3,U2,a3,c3,W2,b2,de];omega
 ·simp only[U3,U2,a3,c3,W2,b2,de,show ¬(2=1) by omega,fi];omega
 ·simp only[U3,U2,a3,c3,W2,b2,de,show ¬(3=1) by omega,show ¬(3=2) by omega,fi];omega
 ·simp only[U3,U2,a3,c3,W2,b2,show ¬(4=1) by omega,show ¬(4=2) by omega,show ¬(4=3) by omega,fi];omega
theorem QV{k:Nat}(g:1<=k)(d:k<=4)(n:Nat):n+b2 k n<=b3 k n/\2*b2 k n<=b3 k n:=by
 rcases k4 g d with rfl|rfl|rfl|rfl
 ·simp only[b3,b2,de];omega
 ·simp only[b3,b2,de,show ¬(2=1) by omega,fi];omega
 ·simp only[b3,b2,de,show ¬(3=1) by omega,show ¬(3=2) by omega,fi];omega
 ·simp only[b3,b2,show ¬(4=1) by omega,show ¬(4=2) by omega,show ¬(4=3) by omega,fi];omega
theorem Sd{k:Nat}{t:Tr}(h:Pa 3 k t)(d:k<=4):PK b3 U3 W3 t k:=by
 rcases h with h|⟨o,s,hc,rfl⟩
 ·exact zE (by intro n;unfold b3 b2;simp only[de];omega) (by intro n;unfold U3 a3 c3;simp only[de];omega) (by simp[W3]) h
 ·have g:=hc.pos fun _ _ h=>Pa.pos h
  refine(LU QF (fun _ _ h=>Pa.pos h) (fun _ _=>Se) hc d).sg QF g d ?_ ?_ ?_ s
  ·intro n _;exact QV g d n
  ·intro n _;have j:kF (fun i=>U2 k i+3) n=(U2 k 0+3)*n:=Be (U2 k 0+3) n;rw[j];exact RF g d n
  ·unfold W2 W3;omega
def b4(k n:Nat):Nat:=2*k*n+4*b2 k 0
def U4(k _n:Nat):Nat:=if k=1 then 300000000000000 else if k=2 then 3000000000000000 else if k=3 then 100000000000000000 else 6000000000000000000
def W4(k:Nat):Nat:=368*k-5
theorem GY(a c n:Nat):2*kF (fun i=>a*i+c+3) n=a*(n*(n+1))+2*((c+3)*n):=by
 induction n with
 | zero=>simp[kF]
 | succ n d =>
  simp only[kF,k7,d];have g:(n+1)*(n+1+1)=n*(n+1)+2*(n+1):=by rw[Nat.add_mul n 1,k7 n];omega
  have h:a*(n*n+n*1 )=a*(n*n)+a*n:=by rw[Nat.mul_one,k7]
  simp only[k7,Nat.add_mul,Nat.mul_one,Nat.one_mul];omega
theorem QD:OP b4 U4 W4:=by
 constructor
 ·intro i j n hi d g _;rcases ij hi d g with⟨rfl,rfl⟩|⟨rfl,rfl⟩|⟨rfl,rfl⟩|⟨rfl,rfl⟩|⟨rfl,rfl⟩|⟨rfl,rfl⟩<;>simp[b4,b2]<;>omega
 ·intro i j n hi d g _;rcases ij hi d g with⟨rfl,rfl⟩|⟨rfl,rfl⟩|⟨rfl,rfl⟩|⟨rfl,rfl⟩|⟨rfl,rfl⟩|⟨rfl,rfl⟩<;>simp[b4,b2,U4,W4]<;>omega
 ·intro i j hi d g;unfold W4;omega
 ·intro i n h1 h o;rcases k4 h1 h with rfl|rfl|rfl|rfl<;>simp[b4,b2]<;>omega
theorem Sc{k:Nat}{t:Tr}(h:Pa 4 k t)(d:k<=4):PK b4 U4 W4 t k:=by
 rcases h with h|⟨v,s,hc,rfl⟩
 ·exact zE (by intro n;unfold b4 b2;simp only[de];omega) (by intro n;unfold U4;simp only[de];omega) (by simp[W4]) h
 ·have g:=hc.pos fun _ _ h=>Pa.pos h
  refine(LU QE (fun _ _ h=>Pa.pos h) (fun _ _=>Sd) hc d).sg QE g d ?_ ?_ ?_ s
  ·intro n _;rcases k4 g d with rfl|rfl|rfl|rfl<;>simp[b4,b3,b2]<;>omega
  ·intro n o;have e:=GY (a3 k) (c3 k) n;have j:kF (fun i=>U3 k i+3) n=kF (fun i=>a3 k*i+c3 k+3) n:=rfl;rw[j];have u:n*(n+1)<=1048576*1048577:=h2 o (by omega);generalize kF (fun i=>a3 k*i+c3 k+3) n=S at *;generalize q:n*(n+1)=Q at *;rcases k4 g d with rfl|rfl|rfl|rfl<;>simp[U4,U3,a3,c3,W3,b3,b2]at*<;> omega
  ·unfold W3 W4;omega
theorem EB{k:Nat}{t:Tr}(h:Ct (Pa 4) k t)(d:k<=4)(w:List Nat)(j:w.length<=1048576):(t.cE w).ok/\(t.cE w).wt<=6000000000000000002/\(t.cE w).hc:=by
 have hc:=LU QD (fun _ _ h=>Pa.pos h) (fun _ _=>Sc) h d;have g:=h.pos fun _ _ h=>Pa.pos h
 refine⟨ef hc.ok w,?_,hc.Lf QD g d w j⟩
 by_cases i:w=[]
 ·subst i;have:=hc.wt;show t.wt<=_;unfold W4 at this;omega
 ·have:=hc.IZ w j i;rcases k4 g d with rfl|rfl|rfl|rfl<;>simp[U4]at this<;>omega
end Tr
end Go.Proofs.YtodagkkjfipbgaaGreatDoor
namespace Go.Proofs.YtodagkkjfipbgaaGreatDoor
open Go.RowKit Go.Proofs.Tryz
theorem ih(w:World):Calls prog 159 #[] w fun e w'=>∃v,e=.returned v/\aS 1 w' v eB/\Below w.heap.size w w':=by
 go_enter func159,ntmps159;go_wp2;go_ret;refine⟨_,rfl,?_,(aB _ _).alloc (ar _) _⟩;refine⟨_,_,rfl,aw _ _,⟨[],rfl,cq _ _ _ _,by simp⟩,by decide,by decide,by decide⟩
theorem j1(w:World):Calls prog 96 #[] w fun e w'=>∃v,e=.returned v/\aS 1 w' v dp/\Below w.heap.size w w':=by
 go_enter func96,ntmps96;go_wp2;go_ret;refine⟨_,rfl,?_,(aB _ _).alloc (ar _) _⟩;refine⟨_,_,rfl,aw _ _,⟨[],rfl,cq _ _ _ _,by simp⟩,by decide,by decide,by decide⟩
theorem Ce(w:World)(d:Nat)(a:Value)(x:Rx)(i:aS d w a x)(F:x.form.size<=1000000000):Calls prog 232 #[a] w fun e w'=>∃v,e=.returned v/\aS (d+1) w' v (hO x)/\Below w.heap.size w w':=by
 have j:=i;obtain⟨p,vL,e,rfl,rfl,u,y,z,c3,D,E,G,h1,A⟩:=i.open;have B:=tw prog ⟨#[60]⟩ x.form (by rw[eJ];omega);have C:=tw prog (⟨#[60]⟩++x.form) ⟨#[62]⟩ (by rw[c1,eJ,eJ];omega)
 by_cases c:x.what=122\/x.what=101
 ·have b:hO x=dp:=by unfold hO;rw[ag c]
  rw[b];clear b;have n:((x.what:Int)==122)=true\/(((x.what:Int)==122)=false/\((x.what:Int)==101)=true):=by simp;omega
  rcases n with k|⟨k,s⟩
  all_goals
   go_enter func232,ntmps232;go_wp2_with (go_at_call 96;refine(j1 _).mono ?_;rintro e I ⟨H,rfl,r,m⟩);go_ret;exact⟨_,rfl,r.mono (by omega),m⟩
 ·have k:((x.what:Int)==122)=false:=by simp;omega
  have s:((x.what:Int)==101)=false:=by simp;omega
  by_cases g:x.what=109
  ·have b:hO x=x:=by unfold hO;rw[ae c,ag g]
   rw[b];clear b;have t:((x.what:Int)==109)=true:=by simp;omega
   clear c g;go_enter func232,ntmps232;go_wp2;go_ret;exact⟨_,rfl,j.mono (by omega),aB _ _⟩
  ·have b:hO x=⟨109,0,[x],⟨#[60]⟩++x.form++⟨#[62]⟩⟩:=by unfold hO;rw[ae c,ae g]
   rw[b];clear b;have t:((x.what:Int)==109)=false:=by simp;omega
   clear c g;have l:Hid (aS (e+1) w (.pointer (some ⟨p,0,none⟩)) x):=j;clear j i;go_enter func232,ntmps232;go_wp2;go_ret;refine⟨.pointer (some ⟨w.heap.size+1,0,none⟩),rfl,?_,((aB _ _).alloc (ar _) _).alloc (by simp) _⟩;have o:=RA l.out;exact F0 (d:=e+1) (q:=w.heap.size+1) (W:=w.alloc (.cells #[.pointer (some ⟨p,0,none⟩)] 178)) (vL:=.slice (some ⟨w.heap.size,0,none⟩) 1 1) (wI:=109) (kI:=0) (f:=⟨#[60]⟩++x.form++⟨#[62]⟩) ⟨109,0,[x],⟨#[60]⟩++x.form++⟨#[62]⟩⟩ (by simp) (by rfl) rfl rfl o (by show (109:Nat)<256;decide) (fun h=>by simp at h) (fun h=>by simp at h)
theorem j8(P:Program)(a b:ai)(h:a.size+b.size<=9223372036854775807)(W:World):(Op.stringOp .add a b).run P W=.ok (.string (a++b)) W:=run_string_add_sum (P:=P) W a b h
theorem JE(a b:Rx):a8 [a,b]=a.form.size+1+(b.form.size+1):=by simp[a8]
theorem ty(n:Nat):∀(w:World) (d:Nat) (a b:Value) (x y:Rx),x.form.size<n->aS d w a x->aS d w b y->x.form.size+y.form.size<=9000000000000000000 ->Calls prog 157 #[a,b] w fun e w'=>∃v d',e=.returned v/\aS d' w' v (fS n x y)/\(fS n x y).form.size<=x.form.size+y.form.size+2/\Below w.heap.size w w':=by
 induction n with
 | zero=>intro w d a b x y h;omega
 | succ n A =>
  intro w d a b x y e1 D hb e4;have K:=D;have L:=hb;obtain⟨p,vL,e,rfl,rfl,Z,b2,J,c3,O,u,e7,h1,C⟩:=D.open;obtain⟨R,g2,b8,e0,rfl,b1,b3,b4,b5,e2,e3,e8,c4,c5⟩:=hb.open;have H:Hid (aS (e+1) w (.pointer (some ⟨p,0,none⟩)) x):=K;have B:Hid (aS (e+1) w (.pointer (some ⟨R,0,none⟩)) y):=L;clear K D L hb
  by_cases i:x.what=122\/y.what=122
  ·have c:fS (n+1) x y=eB:=by unfold fS;rw[ag i]
   rw[c];have a1:((x.what:Int)==122)=true\/(((x.what:Int)==122)=false/\((y.what:Int)==122)=true):=by simp;omega
   rcases a1 with Q|⟨Q,a6⟩
   all_goals
    go_enter func157,ntmps157;go_wp2_with (go_at_call 159;refine(ih _).mono ?_;rintro e t ⟨S,rfl,z,k⟩);go_ret;exact⟨_,1,rfl,z,by show 1<=_;omega,k⟩
  ·have Q:((x.what:Int)==122)=false:=by simp;omega
   have a6:((y.what:Int)==122)=false:=by simp;omega
   by_cases m:x.what=101
   ·have c:fS (n+1) x y=y:=by unfold fS;rw[ae i,ag m]
    rw[c];have a7:((x.what:Int)==101)=true:=by simp;omega
    clear i m c;go_enter func157,ntmps157;go_wp2_with fail;go_ret;exact⟨_,_,rfl,B.out,by omega,aB _ _⟩
   ·have a7:((x.what:Int)==101)=false:=by simp;omega
    by_cases s:y.what=101
    ·have c:fS (n+1) x y=x:=by unfold fS;rw[ae i,ae m,ag s]
     rw[c];have k4:((y.what:Int)==101)=true:=by simp;omega
     clear i m c s;go_enter func157,ntmps157;go_wp2_with fail;go_ret;exact⟨_,_,rfl,H.out,by omega,aB _ _⟩
    ·have k4:((y.what:Int)==101)=false:=by simp;omega
     by_cases r:x.what=115
     ·have c:fS (n+1) x y=fS n (x.l.getD 0 eB) (fS n (x.l.getD 1 eB) y):=by rw[fS,ae i,ae m,ae s,ag r]
      rw[c];have a9:((x.what:Int)==115)=true:=by simp;omega
      have hlen:=h1 r;have P:=C (ah r);obtain⟨o,j,N⟩:∃o j,x.l=[o,j]:=by
       match e9:x.l,hlen with
       | [o,j],_=>exact⟨o,j,rfl⟩
      rw[N]at u P ⊢;rw[JE]at P;obtain⟨b0,au,a5,E⟩:=u.form;obtain⟨g,u0,rfl,g0,F⟩:=E 0 (by simp);obtain⟨c2,u1,M,g1,G⟩:=E 1 (by simp);simp at M;subst M;subst a5;simp only[bT,gd,k9,Nat.reduceAdd,List.getElem_cons_zero,List.getElem_cons_succ]at F G J;have V:Hid (aS e w u0 o):=F;have Y:Hid (aS e w u1 j):=G;have U:=A;have I:Hid (∀(w:World) (d:Nat) (a b:Value) (x y:Rx),x.form.size<n->aS d w a x->aS d w b y->x.form.size+y.form.size<=9000000000000000000->Calls prog 157 #[a,b] w fun e w'=>∃v d',e=.returned v/\aS d' w' v (fS n x y)/\(fS n x y).form.size<=x.form.size+y.form.size+2/\Below w.heap.size w w'):=A;clear i m c s F G E u A U r h1 C hlen N;go_enter func157,ntmps157;go_wp2_with fail;refine(I.out _ (e+1) _ _ j y (by omega) (Y.out.mono (by omega)) B.out (by omega)).mono ?_;rintro b9 t ⟨S,d1,rfl,z,e5,k⟩;have hg:g<w.heap.size:=jf w ⟨g,0,none⟩ g0;have d2:t.cell? ⟨p,2,none⟩=some (.slice (some ⟨g,0,none⟩) 2 au):=(k.cell (p:=⟨p,2,none⟩) O).trans J;have b7:t.cell? ⟨g,0,none⟩=some u0:=(k.cell (p:=⟨g,0,none⟩) hg).trans g0;have d0:t.cell? ⟨p,0,none⟩=some (.int .u8 x.what):=(k.cell (p:=⟨p,0,none⟩) O).trans Z;have X:Hid (aS e t u0 o):=V.out.aY (bf.aL k);have T:Hid (aS d1 t S (fS n j y)):=z;clear z;go_wp2_with fail;refine(I.out _ (e+d1) _ _ o (fS n j y) (by omega) (X.out.mono (by omega)) (T.out.mono (by omega)) (by omega)).mono ?_;rintro c0 g3 ⟨v2,b6,rfl,a4,e6,a0⟩;go_wp2_with fail;go_ret;exact⟨_,_,rfl,a4,by show (fS n o (fS n j y)).form.size<=_;omega,k.trans (a0.mono k.size)⟩
     ·have c:fS (n+1) x y=DV x y:=by rw[fS,ae i,ae m,ae s,ae r]
      rw[c];have a9:((x.what:Int)==115)=false:=by simp;omega
      have c7:=j8 prog ⟨#[40]⟩ x.form (by rw[eJ];omega);have c8:=j8 prog (⟨#[40]⟩++x.form) y.form (by rw[c1,eJ];omega);have c9:=j8 prog (⟨#[40]⟩++x.form++y.form) ⟨#[41]⟩ (by rw[c1,c1,eJ,eJ];omega);clear i m c s r h1 C A u;go_enter func157,ntmps157;go_wp2_with fail;go_region
      all_goals (try go_wp2)
      go_ret;have a2:=Ry H.out B.out;have a3:=F0 (d:=e+1) (q:=w.heap.size+1) (W:=w.alloc (.cells #[.pointer (some ⟨p,0,none⟩),.pointer (some ⟨R,0,none⟩)] 178)) (vL:=.slice (some ⟨w.heap.size,0,none⟩) 2 2) (wI:=115) (kI:=0) (f:=⟨#[40]⟩++x.form++y.form++⟨#[41]⟩) (DV x y) (by simp) (by rfl) rfl rfl a2 (by show (115:Nat)<256;decide) (fun _=>rfl)
       (fun _=>by show a8 [x,y]<=(⟨#[40]⟩++x.form++y.form++⟨#[41]⟩:ai).size;rw[JE,c1,c1,c1,eJ,eJ];omega)
      refine⟨.pointer (some ⟨w.heap.size+1,0,none⟩),e+2,rfl,a3.aY (bf.drew _),?_,?_⟩
      ·show (⟨#[40]⟩++x.form++y.form++⟨#[41]⟩:ai).size<=_;rw[c1,c1,c1,eJ,eJ];omega
      ·exact(((aB _ _).alloc (ar _) _).alloc (by simp) _).drew
theorem below_drewN{B:Nat}{a w:World}(h:Below B a w)(n:Nat):Below B a (w.drewN n):=⟨h.os,h.tape,h.output,h.size,h.block⟩
theorem dZ.push{R:Value->Rx->Prop}{B:Nat}{w':World}{g u:Value}{x:Rx}{O:List Rx}{us:List Value} (hlen:us.length=O.length) (h:∀(i:Nat) (u:Value) (x:Rx),us[i]?=some u->O[i]?=some x->R u x) (hu:R u x) (n:w'.ownsRow B 178 1 g (O.length+1) (us++[u])):dZ R B w' g (O++[x]):=by
 refine⟨us++[u],by simp[hlen],by simpa using n,?_⟩;intro i o q h1 d
 by_cases hi:i<O.length
 ·rw[dD (by omega)]at h1;rw[dD hi]at d;exact h i _ _ h1 d
 ·have j:i=O.length:=by
   have:=(a1.1 d).1;simp at this;omega
  subst j;rw[eH (by omega)]at h1;rw[eH (by omega)]at d;simp[hlen]at h1 d;subst h1;subst d;exact hu
theorem QQ{R:Value->Rx->Prop}{B:Nat}{w':World}{b u u2:Value}{x c:Rx}{O:List Rx}{us:List Value} (hlen:us.length=O.length) (d:∀(i:Nat) (u:Value) (x:Rx),us[i]?=some u->O[i]?=some x->R u x) (hu:R u x) (g:R u2 c) (f:w'.ownsRow B 178 1 b (O.length+1+1) (us++[u]++[u2])):dZ R B w' b (O++[x]++[c]):=by
 refine dZ.push (us:=us++[u]) (by simp[hlen]) ?_ g (by simpa using f);intro i h j h1 a
 by_cases hi:i<O.length
 ·rw[dD (by omega)]at h1;rw[dD hi]at a;exact d i _ _ h1 a
 ·have e:i=O.length:=by
   have:=(a1.1 a).1;simp at this;omega
  subst e;rw[eH (by omega)]at h1;rw[eH (by omega)]at a;simp[hlen]at h1 a;subst h1;subst a;exact hu
theorem ir{B:Nat}{w W w':World}{v:Value}{e:TypeId}{size n:Nat}{us:List Value}(hg:W.grownBy w' v.ownBlock)(hb:Below B w W)(a:B<=W.heap.size)(c:W.ownsRow B e size v n us):Below B w w' :=
 hb.grown hg a (fun k b=>(c.lt k b).1)
theorem nM(q:Option Addr):∀u∈[Value.pointer q],u.oneCell'=true:=by
 intro u hu;simp at hu;subst hu;rfl
def eO(L:List Rx)(x:Rx)(k:Nat)(a:Bool)(O:List Rx):Prop:=O++(if a=true then L.drop k else bp (L.drop k) x)=bp L x
theorem EY{L:List Rx}{x:Rx}{k:Nat}{O:List Rx}(a:k<L.length)(h:eO L x k true O):eO L x (k+1) true (O++[L[k]]):=by
 unfold eO at *;rw[ag rfl,lf a]at h;rw[ag rfl,eG];exact h
theorem EZ{L:List Rx}{x:Rx}{k:Nat}{O:List Rx}(a:k<L.length)(h:eO L x k false O)(b:IN x.form L[k].form=false):eO L x (k+1) false (O++[L[k]]):=by
 unfold eO at *;rw[ae (by simp),lf a,bp,ae (by simp[b])]at h;rw[ae (by simp),eG];exact h
theorem E0{L:List Rx}{x:Rx}{k:Nat}{O:List Rx}(b:k<L.length)(h:eO L x k false O)(c:IN x.form L[k].form=true)(a:(x.form.toList==L[k].form.toList)=true):eO L x (k+1) true (O++[L[k]]):=by
 unfold eO at *;rw[ae (by simp),lf b,bp,ag c,ag a]at h;rw[ag rfl,eG];exact h
theorem EX{L:List Rx}{x:Rx}{k:Nat}{O:List Rx}(b:k<L.length)(h:eO L x k false O)(c:IN x.form L[k].form=true)(a:(x.form.toList==L[k].form.toList)=false):eO L x (k+1) true (O++[x]++[L[k]]):=by
 unfold eO at *;rw[ae (by simp),lf b,bp,ag c,ae (by simp[a])]at h;rw[ag rfl,eG,eG];exact h
theorem C9{L:List Rx}{x:Rx}{k:Nat}{c:Bool}{O:List Rx}(h:eO L x k c O):O.length<=L.length+1:=by
 have b:∀L:List Rx,(bp L x).length<=L.length+1:=by
  intro L;induction L with
  | nil=>simp[bp]
  | cons a r d=>rw[bp];split
                ·split<;>simp
                ·simp;omega
 have:=ej List.length h;have:=b L;simp at *;omega
theorem yY(w:World)(d:Nat)(S a:Value)(L:List Rx)(x:Rx)(M:dZ (aS d w) 0 w S L)(G:aS d w a x)(b7:L.length<=8000000000):Calls prog 110 #[S,a] w fun e w'=>∃v,e=.returned v/\dZ (aS d w) w.heap.size w' v (bp L x)/\Below w.heap.size w w':=by
 have K:=G;obtain⟨U,au,rfl,N⟩:=M.form;obtain⟨p,c2,e,rfl,rfl,V,W,X,c3,a5,a7,c1,h1,Z⟩:=G.open;have J:Hid (aS (e+1) w (.pointer (some ⟨p,0,none⟩)) x):=K;have T:Hid (∀i (hi:i<L.length),∃g u,U=some ⟨g,0,none⟩/\w.cell? ⟨g,i,none⟩=some u/\aS (e+1) w u L[i]):=N;clear K G N M a7 h1 Z V W X;go_enter func110,ntmps110;go_wp2
 go_loopg [5,6,7] L.length (fun Y out a9 i wr=>∃(k:Nat) (B:Bool) (O:List Rx),k<=L.length/\Y=L.length-k/\i=.int .i64 k/\a9=.bool B/\Hid (eO L x k B O)/\dZ (aS (e+1) w) w.heap.size wr out O/\Below w.heap.size w wr)
 case atStart=>exact⟨0,false,[],aJ _,rfl,rfl,rfl,rfl,⟨[],rfl,cq _ _ _ _,by simp⟩,aB _ _⟩
 case round =>
  obtain⟨k,B,O,b9,rfl,rfl,rfl,o,⟨n,Q,f,P⟩,h⟩:=hrel;have b8:=C9 o.out;have A:=h.size;have q:Hid (∀(i:Nat) (u:Value) (x:Rx),n[i]?=some u->O[i]?=some x->aS (e+1) w u x):=P;clear P;have r:Hid (n.length=O.length):=Q;clear Q;have d3:wr.cell? ⟨p,3,none⟩=some (.string x.form):=(h.cell (p:=⟨p,3,none⟩) a5).trans c3
  by_cases z:k<L.length
  ·obtain⟨g,u,rfl,H,F⟩:=T.out k z;obtain⟨m,c4,b6,a1,rfl,b0,b1,b2,R,a6,_,_,_,_⟩:=F.open;have hg:g<w.heap.size:=jf w ⟨g,k,none⟩ H;have b3:wr.cell? ⟨g,k,none⟩=some (.pointer (some ⟨m,0,none⟩)):=(h.cell (p:=⟨g,k,none⟩) hg).trans H;have b5:wr.cell? ⟨m,3,none⟩=some (.string L[k].form):=(h.cell (p:=⟨m,3,none⟩) a6).trans R;have C:Hid (aS (e+1) w (.pointer (some ⟨m,0,none⟩)) L[k]):=F;clear F b0 b1 b2 R a1;cases B
   ·cases b:IN x.form L[k].form
    ·have a3:Op.bytesLess x.form.toList L[k].form.toList=false:=by unfold IN at b;simp at b;exact b.1
     have c0:(x.form.toList==L[k].form.toList)=false:=by unfold IN at b;simp at b;simp[b.2]
     have t:Hid (IN x.form L[k].form=false):=b;clear b;go_wp2;go_quiet (fail);go_wp2_with (at_builtin;refine fT rfl (.tmp 46) (.tmp 51) 201 rfl w.heap.size 178 (.pointer none) 1 8 Tryz.qA Tryz.ya rfl (by decide) u5 O.length n rfl (by exact f.alloc _) wr.heap.size 1 [.pointer (some ⟨m,0,none⟩)] rfl rfl (aw _ _) (nM _) (by omega) (by omega) (by simp;omega) ?_;intro v2 s j l);have c:=ir l (by exact(below_drewN h _).alloc (by exact A) _) (by simp;omega) (by exact f.alloc _);go_roundg (L.length-(k+1))
     case measure=>omega
     case rel=>exact⟨k+1,false,O++[L[k]],by omega,rfl,by go_num,rfl,EZ z o.out t.out,dZ.push r.out q.out C.out j,c⟩
    ·cases I:(x.form.toList==L[k].form.toList)
     ·have a3:Op.bytesLess x.form.toList L[k].form.toList=true:=by unfold IN at b;rw[I]at b;simpa using b
      have t:Hid (IN x.form L[k].form=true):=b;clear b;go_wp2;go_quiet (fail);go_wp2;go_quiet (fail);go_wp2_with (first|(at_builtin;refine fT rfl (.tmp 42) (.tmp 44) 201 rfl w.heap.size 178 (.pointer none) 1 8 Tryz.qA Tryz.ya rfl (by decide) u5 O.length n rfl (by exact f.alloc _) wr.heap.size 1 [.pointer (some ⟨p,0,none⟩)] rfl rfl (aw _ _) (nM _) (by omega) (by omega) (by simp;omega) ?_;intro v2 s j l;have c:=ir l (by exact(below_drewN h _).alloc (by exact A) _) (by simp;omega) (by exact f.alloc _);have b4:s.cell? ⟨g,k,none⟩=some (.pointer (some ⟨m,0,none⟩)):=(c.cell (p:=⟨g,k,none⟩) hg).trans H;have a8:=c.size)|(at_builtin;refine fT rfl (.tmp 46) (.tmp 51) 201 rfl w.heap.size 178 (.pointer none) 1 8 Tryz.qA Tryz.ya rfl (by decide) v2 (O.length+1) (n++[.pointer (some ⟨p,0,none⟩)]) rfl (by exact j.alloc _) s.heap.size 1 [.pointer (some ⟨m,0,none⟩)] rfl rfl (aw _ _) (nM _) (by omega) (by omega) (by simp;omega) ?_;intro v3 w3 a4 a2));have a0:=ir a2 (by exact c.alloc (by exact a8) _) (by simp;omega) (by exact j.alloc _);go_roundg (L.length-(k+1))
      case measure=>omega
      case rel=>exact⟨k+1,true,O++[x]++[L[k]],by omega,rfl,by go_num,rfl,EX z o.out t.out I,QQ r.out q.out J.out C.out a4,a0⟩
     ·have t:Hid (IN x.form L[k].form=true):=b;clear b;go_wp2;go_quiet (fail);go_wp2;go_quiet (fail);go_wp2_with (at_builtin;refine fT rfl (.tmp 46) (.tmp 51) 201 rfl w.heap.size 178 (.pointer none) 1 8 Tryz.qA Tryz.ya rfl (by decide) u5 O.length n rfl (by exact f.alloc _) wr.heap.size 1 [.pointer (some ⟨m,0,none⟩)] rfl rfl (aw _ _) (nM _) (by omega) (by omega) (by simp;omega) ?_;intro v2 s j l);have c:=ir l (by exact(below_drewN h _).alloc (by exact A) _) (by simp;omega) (by exact f.alloc _);go_roundg (L.length-(k+1))
      case measure=>omega
      case rel=>exact⟨k+1,true,O++[L[k]],by omega,rfl,by go_num,rfl,E0 z o.out t.out I,dZ.push r.out q.out C.out j,c⟩
   ·go_wp2;go_quiet (fail);go_wp2_with (at_builtin;refine fT rfl (.tmp 46) (.tmp 51) 201 rfl w.heap.size 178 (.pointer none) 1 8 Tryz.qA Tryz.ya rfl (by decide) u5 O.length n rfl (by exact f.alloc _) wr.heap.size 1 [.pointer (some ⟨m,0,none⟩)] rfl rfl (aw _ _) (nM _) (by omega) (by omega) (by simp;omega) ?_;intro v2 s j l);have c:=ir l (by exact(below_drewN h _).alloc (by exact A) _) (by simp;omega) (by exact f.alloc _);go_roundg (L.length-(k+1))
    case measure=>omega
    case rel=>exact⟨k+1,true,O++[L[k]],by omega,rfl,by go_num,rfl,EY z o.out,dZ.push r.out q.out C.out j,c⟩
  ·have D:k=L.length:=by omega
   cases B
   ·have y:O++[x]=bp L x:=by
     have:=o.out;unfold eO at this;rw[ae (by simp),D,List.drop_length]at this;exact this
    have E:Hid (O++[x]=bp L x):=y;clear y D;go_wp2_with (at_builtin;refine fT rfl (.tmp 55) (.tmp 57) 201 rfl w.heap.size 178 (.pointer none) 1 8 Tryz.qA Tryz.ya rfl (by decide) u5 O.length n rfl (by exact f.alloc _) wr.heap.size 1 [.pointer (some ⟨p,0,none⟩)] rfl rfl (aw _ _) (nM _) (by omega) (by omega) (by simp;omega) ?_;intro v2 s j l);have c:=ir l (by exact h.alloc (by exact A) _) (by simp;omega) (by exact f.alloc _);go_ret;exact⟨_,rfl,by rw[<- E.out];exact dZ.push r.out q.out J.out j,c⟩
   ·have y:O=bp L x:=by
     have:=o.out;unfold eO at this;rw[ag rfl,D,List.drop_length,mg]at this;exact this
    have E:Hid (O=bp L x):=y;clear y D;go_wp2;go_ret;exact⟨_,rfl,by rw[<- E.out];exact⟨n,r.out,f,q.out⟩,h⟩
theorem e6(a:Rx)(l:List Rx):a8 (a::l)=a.form.size+1+a8 l:=by simp[a8]
theorem ra(a:Rx)(l:List Rx):a8 (l++[a])=a8 l+(a.form.size+1):=by simp[a8]
theorem pP(l:List Rx)(a:Rx):a8 (bp l a)<=a8 l+(a.form.size+1):=by
 induction l with
 | nil=>simp[bp,a8]
 | cons x r b=>rw[bp];split
               ·split
                ·omega
                ·rw[e6];omega
               ·rw[e6,e6];omega
theorem CB(a:List Rx):∀l,a8 (a.foldl bp l)<=a8 l+a8 a:=by
 induction a with
 | nil=>intro l;simp[a8]
 | cons c r b=>intro l;rw[jb,e6];have:=b (bp l c);have:=pP l c;omega
theorem pA(l:List Rx):l.length<=a8 l:=by
 induction l with
 | nil=>simp
 | cons c r a=>rw[e6];simp;omega
theorem ix(l:List Rx)(x:Rx)(h:x.what=115\/x.what=97->a8 x.l<=x.form.size):a8 (bi l x)<=a8 l+(x.form.size+1):=by
 unfold bi;split
 ·have:=CB x.l l;have:=h (ac ‹_›);omega
 ·split
  ·omega
  ·exact pP l x
theorem rI(l:List Rx)(x:Rx):bU (l++[x])=bU l++⟨#[47]⟩++x.form:=by unfold bU;rw[e0];rfl
theorem kN(l:List Rx):(bU l).size=a8 l:=by
 have key:∀(n:Nat) (l:List Rx),l.length=n->(bU l).size=a8 l:=by
  intro n;induction n with
  | zero=>intro l h;rw[hj h];rfl
  | succ n b =>
   intro l h;have a:l≠[]:=by intro e;subst e;simp at h
   obtain⟨m,c,rfl⟩:∃m c,l=m++[c]:=⟨l.dropLast,l.getLast a,(List.dropLast_concat_getLast a).symm⟩;rw[rI,ra,c1,c1,eJ,b m (by simpa using h)];omega
 exact key _ l rfl
theorem q9(l:List Rx)(k:Nat):a8 (l.take k)<=a8 l:=by
 induction l generalizing k with
 | nil=>simp
 | cons a r b=>cases k with
  | zero=>simp[a8]
  | succ k=>rw[List.take_succ_cons,e6,e6];have:=b k;omega
theorem r5(a:List Rx)(l:List Rx)(k:Nat)(h:k<a.length):(a.take (k+1)).foldl bp l=bp ((a.take k).foldl bp l) a[k]:=by
 rw[jh h,e0];rfl
theorem yK{l:List Rx}{x:Rx}(h:x.what=97):bi l x=x.l.foldl bp l:=by unfold bi;rw[ag h]
theorem HY{l:List Rx}{x:Rx}(h:x.what=122):bi l x=l:=by unfold bi;rw[ae (by omega),ag h]
theorem HZ{l:List Rx}{x:Rx}(h:x.what≠97)(a:x.what≠122):bi l x=bp l x:=by unfold bi;rw[ae h,ae a]
def Lh(x y:Rx)(k:Nat):List Rx:=if k=0 then []else if k=1 then bi [] x else bi (bi [] x) y
def pk(x y:Rx)(k:Nat):Rx:=if k=0 then x else y
theorem Lg(x y:Rx)(k:Nat)(h:k<2):Lh x y (k+1)=bi (Lh x y k) (pk x y k):=by
 match k,h with
 | 0,_=>rfl
 | 1,_=>rfl
theorem xm(l:List Rx)(a:Rx):l.length<=(bp l a).length:=by
 induction l with
 | nil=>simp[bp]
 | cons x l b=>unfold bp;split<;>(try split)<;>simp<;>omega
theorem yZ(l:List Rx)(a:Rx):a8 l<=a8 (bp l a):=by
 induction l with
 | nil=>simp[a8]
 | cons x l b=>unfold bp;split<;>(try split)<;>simp only[e6]<;>omega
theorem wR(a:List Rx):∀l,l.length<=(a.foldl bp l).length/\a8 l<=a8 (a.foldl bp l):=by
 induction a with
 | nil=>intro l;exact⟨ar _,ar _⟩
 | cons c a b=>intro l;have h1:=b (bp l c);have d:=xm l c;have e:=yZ l c;exact⟨by rw[jb];omega,by rw[jb];omega⟩
theorem GX(a:List Rx)(l:List Rx)(k:Nat):((a.take k).foldl bp l).length<=(a.foldl bp l).length:=by
 have h:=wR (a.drop k) ((a.take k).foldl bp l);rw[<- e0,List.take_append_drop]at h;exact h.1
theorem Ak(l:List Rx)(x:Rx):l.length<=(bi l x).length/\a8 l<=a8 (bi l x):=by
 unfold bi;split
 ·exact wR _ _
 ·split
  ·exact⟨ar _,ar _⟩
  ·exact⟨xm _ _,yZ _ _⟩
theorem oH(w:World)(d:Nat)(a b:Value)(x y:Rx)(X:aS d w a x)(hb:aS d w b y)(i9:x.form.size<=9000000000000000000)(j0:y.form.size<=9000000000000000000)(c2:a8 (bi (bi [] x) y)<=9000000000000000000)(b9:(bi (bi [] x) y).length<=8000000000):Calls prog 158 #[a,b] w fun e w'=>∃v d',e=.returned v/\aS d' w' v (eb x y)/\(eb x y).form.size<=x.form.size+y.form.size+4/\Below w.heap.size w w':=by
 have Y:=X.open;have Z:=hb.open;have U:Hid (∀k,k<2->((pk x y k).what=115\/(pk x y k).what=97->a8 (pk x y k).l<=(pk x y k).form.size)):=by
  obtain⟨_,_,_,_,_,_,_,_,_,_,_,_,_,e5⟩:=Y;obtain⟨_,_,_,_,_,_,_,_,_,_,_,_,_,e6⟩:=Z;intro k I
  match k,I with
  | 0,_=>exact e5
  | 1,_=>exact e6
 obtain⟨N,rfl⟩:∃N,a=.pointer (some ⟨N,0,none⟩):=by obtain⟨p,_,_,_,h,_⟩:=Y;exact⟨p,h⟩
 obtain⟨O,rfl⟩:∃O,b=.pointer (some ⟨O,0,none⟩):=by obtain⟨p,_,_,_,h,_⟩:=Z;exact⟨p,h⟩
 clear Y Z;have c8:Hid (aS d w (.pointer (some ⟨N,0,none⟩)) x):=X;have c9:Hid (aS d w (.pointer (some ⟨O,0,none⟩)) y):=hb;clear X hb;have a9:Hid (∀k,k<=2->a8 (Lh x y k)<=x.form.size+y.form.size+2):=by
  have j6:=ix [] x (U.out 0 (by omega));have j7:=ix (bi [] x) y (U.out 1 (by omega));have j5:a8 []=0:=rfl;intro k I
  match k,I with
  | 0,_=>show a8 []<=_;omega
  | 1,_=>show a8 (bi [] x)<=_;omega
  | 2,_=>show a8 (bi (bi [] x) y)<=_;omega
 have T:Hid (∀k,k<=2->(Lh x y k).length<=8000000000/\a8 (Lh x y k)<=9000000000000000000):=by
  have m1:=Ak (bi [] x) y;intro k I
  match k,I with
  | 0,_=>exact⟨by show ([]:List Rx).length<=_;simp,by show a8 []<=_;simp[a8]⟩
  | 1,_=>exact⟨by show (bi [] x).length<=_;omega,by show a8 (bi [] x)<=_;omega⟩
  | 2,_=>exact⟨b9,c2⟩
 clear c2 b9;go_enter func158,ntmps158;go_wp2
 go_loopg [5,7] 2 (fun g l i wr=>∃k:Nat,k<=2/\g=2-k/\i=.int .i64 k/\dZ (aS d wr) 0 wr l (Lh x y k)/\Below w.heap.size w wr/\wr.heap[w.heap.size]?=some (.cells #[.pointer (some ⟨N,0,none⟩),.pointer (some ⟨O,0,none⟩)] 178 (0,0)))
 case atStart=>exact⟨0,by omega,rfl,rfl,⟨[],rfl,cq _ _ _ _,by simp⟩,(aB _ _).alloc (ar _) _,aw _ _⟩
 case round =>
  obtain⟨c,h0⟩:∃c,c=wr:=⟨wr,rfl⟩;subst h0;obtain⟨k,I,rfl,rfl,J,o,D⟩:=hrel;have a7:=o.size
  by_cases a3:k<2
  ·obtain⟨u,hu,V⟩:∃u,c.cell? ⟨w.heap.size,k,none⟩=some u/\aS d c u (pk x y k):=by
    match k,a3 with
    | 0,_=>exact⟨_,ab D 0 _ rfl,c8.out.aY (bf.aL o)⟩
    | 1,_=>exact⟨_,ab D 1 _ rfl,c9.out.aY (bf.aL o)⟩
   have F:=a9.out k (by omega);have a1:=(T.out k (by omega)).1;have b8:=(T.out (k+1) (by omega)).1;have H:=Lg x y k a3;rw[H]at b8;have R:Hid (Lh x y (k+1)=bi (Lh x y k) (pk x y k)):=H;clear H;have c4:=U.out k a3;have i6:(pk x y k).form.size<=9000000000000000000:=by unfold pk;split<;>omega
   generalize pk x y k=z at *;generalize Lh x y k=G at *;have b4:=V;obtain⟨p,vL,e,rfl,rfl,h9,i0,e4,c3,g5,c0,i7,_,_⟩:=V.open;have e1:Hid (aS (e+1) c (.pointer (some ⟨p,0,none⟩)) z):=b4;clear V b4
   by_cases L:z.what=97
   ·have h3:((z.what:Int)==97)=true:=by simp;omega
    have h2:=c4 (ac L);have j1:=pA z.l;obtain⟨E,au,rfl,n⟩:=c0.form;have Q:Hid (∀i (hi:i<z.l.length),∃g u,E=some ⟨g,0,none⟩/\c.cell? ⟨g,i,none⟩=some u/\aS e c u z.l[i]):=n;clear n c0 c4;have b1:Hid (z.what=97):=L;clear L;have i4:decide ((k:Int)<2)=true:=by simp;omega
    go_wp2
    go_loopg [5,9] z.l.length (fun g2 l i2 wi=>∃j:Nat,j<=z.l.length/\g2=z.l.length-j/\i2=.int .i64 j/\dZ (aS (e+1) wi) 0 wi l ((z.l.take j).foldl bp G)/\Below c.heap.size c wi)
    case atStart=>exact⟨0,by omega,rfl,rfl,J,aB _ _⟩
    case round =>
     obtain⟨w3,h1⟩:∃w3,w3=wr:=⟨wr,rfl⟩;subst h1;obtain⟨j,g3,rfl,rfl,a5,C⟩:=hrel;have g7:=C.size;have d2:w3.cell? ⟨p,2,none⟩=some (.slice E z.l.length au):=(C.cell (p:=⟨p,2,none⟩) g5).trans e4;have b7:True:=trivial;have a0:=GX z.l G j;rw[<- yK b1.out]at a0
     by_cases K:j<z.l.length
     ·obtain⟨g,u,rfl,M,t⟩:=Q.out j K;have hg:g<c.heap.size:=jf c ⟨g,j,none⟩ M;have i1:w3.cell? ⟨g,j,none⟩=some u:=(C.cell (p:=⟨g,j,none⟩) hg).trans M;have S:Hid (aS (e+1) w3 u z.l[j]):=(t.mono (by omega)).aY (bf.aL C);have b0:=r5 z.l G j K;have e3:Hid ((z.l.take (j+1)).foldl bp G=bp ((z.l.take j).foldl bp G) z.l[j]):=b0;clear t b0;have i3:((z.l.take j).foldl bp G).length<=8000000000:=by omega
      clear a0 b7 b8;generalize (z.l.take j).foldl bp G=c7 at *;go_wp2_with (go_at_call 110;refine(yY _ (e+1) _ _ c7 z.l[j] a5 S.out (by omega)).mono ?_;rintro b2 c5 ⟨v2,rfl,a4,A⟩);go_roundg (z.l.length-(j+1))
      case measure=>omega
      case rel=>exact⟨j+1,by omega,rfl,by go_num,by rw[e3.out];exact(a4.mono (aJ _) (fun u y hu=>hu.aY (bf.aL A))),C.trans (A.mono g7)⟩
     ·have a2:j=z.l.length:=by omega
      have b6:(z.l.take j).foldl bp G=bi G z:=by rw[yK b1.out,a2,mi]
      rw[b6]at a5;clear b6 b7 a0;go_wp2;go_roundg (2-(k+1))
      case measure=>omega
      case rel=>exact⟨k+1,by omega,rfl,by go_num,by rw[R.out];exact a5,o.trans (C.mono a7),by rw[C.block _ (dE.1 D).1];exact D⟩
   ·have h3:((z.what:Int)==97)=false:=by simp;omega
    by_cases b3:z.what=122
    ·have h4:((z.what:Int)==122)=true:=by simp;omega
     go_wp2;go_roundg (2-(k+1))
     case measure=>omega
     case rel=>exact⟨k+1,by omega,rfl,by go_num,by rw[R.out,HY b3];exact J,o,D⟩
    ·have h4:((z.what:Int)==122)=false:=by simp;omega
     go_wp2_with (go_at_call 110;refine(yY _ (e+1) _ _ _ z J e1.out (by omega)).mono ?_;rintro b2 c5 ⟨v2,rfl,a4,A⟩);go_roundg (2-(k+1))
     case measure=>omega
     case rel=>exact⟨k+1,by omega,rfl,by go_num,by rw[R.out,HZ L b3];exact(a4.mono (aJ _) (fun u y hu=>hu.aY (bf.aL A))),o.trans (A.mono a7),by rw[A.block _ (dE.1 D).1];exact D⟩
  ·have g4:k=2:=by omega
   subst g4;have F:=a9.out 2 (by omega);have a1:=(T.out 2 (by omega));have m:Hid (eb x y=match Lh x y 2 with|[]=>eB|[z]=>z|l=>⟨97,0,l,⟨#[123]⟩++bU l++⟨#[125]⟩⟩):=rfl;generalize Lh x y 2=G at *;obtain⟨E,au,rfl,n⟩:=J.form;have B:Hid (dZ (aS d c) 0 c (.slice E G.length au) G):=J;clear J
   match G,m,n,B,F,a1 with
   | [],m,_,B,_,_ =>
    have s:Hid (eb x y=eB):=m;clear m B;go_wp2_with (go_at_call 159;refine(ih _).mono ?_;rintro b2 c5 ⟨v2,rfl,g9,A⟩);go_ret;exact⟨_,1,rfl,by rw[s.out];exact g9,by rw[s.out];show 1<=_;omega,o.trans (A.mono a7)⟩
   | [z],m,n,B,F,_ =>
    have s:Hid (eb x y=z):=m;obtain⟨g,u,rfl,M,t⟩:=n 0 (by simp);have S:Hid (aS d c u z):=t;have h2:z.form.size+1<=x.form.size+y.form.size+2:=by simpa[a8]using F
    clear m B n t F;go_wp2;go_ret;exact⟨_,d,rfl,by rw[s.out];exact S.out,by rw[s.out];omega,o⟩
   | z0::P::r,m,n,B,F,a1 =>
    have s:Hid (eb x y=⟨97,0,z0::P::r,⟨#[123]⟩++bU (z0::P::r)++⟨#[125]⟩⟩):=m;have i5:2<=(z0::P::r).length:=by simp
    generalize z0::P::r=G at *;have j2:((G.length:Int)==0)=false:=by rw[aO];omega
    have j3:((G.length:Int)==1)=false:=by rw[aO];omega
    have Q:Hid (∀i (hi:i<G.length),∃g u,E=some ⟨g,0,none⟩/\c.cell? ⟨g,i,none⟩=some u/\aS d c u G[i]):=n;clear n m;have H:=kN G;have e0:Hid ((bU G).size=a8 G):=H;clear H;go_wp2
    go_loop [10,11] (fun h8 i=>∃j:Nat,j<=G.length/\i=.int .i64 j/\h8=.string (bU (G.take j))) (fun _ i=>G.length-(intOf i).toNat)
    case atStart=>exact⟨0,by omega,rfl,rfl⟩
    case round =>
     obtain⟨j,g3,rfl,rfl⟩:=hrel;have g8:=q9 G j;have g0:(bU (G.take j)).size<=x.form.size+y.form.size+2:=by rw[kN];omega
     have g1:(bU (G.take j)).size<=9000000000000000000:=by rw[kN];omega
     by_cases K:j<G.length
     ·obtain⟨g,u,rfl,M,t⟩:=Q.out j K;obtain⟨p,vL,e,_,rfl,h5,h6,h7,j4,_,_,_,_,_⟩:=t.open;have e9:a8 (G.take (j+1))<=a8 G:=q9 G (j+1);have a6:G.take (j+1)=G.take j++[G[j]]:=jh K;rw[a6,ra]at e9;have e2:Hid (bU (G.take (j+1))=bU (G.take j)++⟨#[47]⟩++G[j].form):=by rw[a6];exact rI _ _
      have e7:=j8 prog (bU (G.take j)) ⟨#[47]⟩ (by rw[eJ];omega);have e8:=j8 prog (bU (G.take j)++⟨#[47]⟩) G[j].form (by rw[c1,eJ,kN];omega);clear a6 t h5 h6 h7;go_wp2
      go_round
      case rel=>exact⟨j+1,by omega,by go_num,by rw[e2.out]⟩
      case measure=>simp[intOf];omega
     ·have a2:j=G.length:=by omega
      have b5:G.take j=G:=by rw[a2,mi]
      rw[b5]at g0 g1 ⊢;have e7:=j8 prog ⟨#[123]⟩ (bU G) (by rw[eJ];omega);have e8:=j8 prog (⟨#[123]⟩++bU G) ⟨#[125]⟩ (by rw[c1,eJ,eJ];omega);clear b5 g8;go_wp2;go_ret;have g6:=F0 (d:=d) (q:=c.heap.size) (W:=c) (vL:=.slice E G.length au) (wI:=97) (kI:=0) (f:=⟨#[123]⟩++bU G++⟨#[125]⟩) ⟨97,0,G,⟨#[123]⟩++bU G++⟨#[125]⟩⟩ rfl (by rfl) rfl rfl B.out (by show (97:Nat)<256;decide) (fun h=>by simp at h)
       (fun _=>by show a8 G<=(⟨#[123]⟩++bU G++⟨#[125]⟩:ai).size;rw[c1,c1,eJ,eJ,e0.out];omega)
      refine⟨.pointer (some ⟨c.heap.size,0,none⟩),rfl,⟨d+1,by rw[s.out];exact g6⟩,?_,o.alloc (by omega) _⟩;rw[s.out];show (⟨#[123]⟩++bU G++⟨#[125]⟩:ai).size<=_;rw[c1,c1,eJ,eJ];omega
theorem w6(w:World)(d:Nat)(a b:Value)(x y:Rx)(c:aS d w a x)(hb:aS d w b y)(h:x.form.size+y.form.size<=1000000000):Calls prog 158 #[a,b] w fun e w'=>∃v d',e=.returned v/\aS d' w' v (eb x y)/\(eb x y).form.size<=x.form.size+y.form.size+4/\Below w.heap.size w w':=by
 obtain⟨_,_,_,_,_,_,_,_,_,_,_,_,_,f⟩:=c.open;obtain⟨_,_,_,_,_,_,_,_,_,_,_,_,_,g⟩:=hb.open;have j:=ix [] x f;have k:=ix (bi [] x) y g;have i:a8 []=0:=rfl;have l:=pA (bi (bi [] x) y);exact oH w d a b x y c hb (by omega) (by omega) (by omega) (by omega)
namespace Tr
def AW:Tr->Rx×List Rx
 | .z=>(eB,[eB])
 | .e=>(dp,[dp])
 | .c k=>(na k,[na k])
 | .s p q=>(DV p.AW.1 q.AW.1,[DV p.AW.1 q.AW.1])
 | .a p q=>(⟨97,0,p.AW.1::q.AW.2,⟨#[123]⟩++bU (p.AW.1::q.AW.2)++⟨#[125]⟩⟩,p.AW.1::q.AW.2)
 | .m p=>(⟨109,0,[p.AW.1],⟨#[60]⟩++p.AW.1.form++⟨#[62]⟩⟩,[⟨109,0,[p.AW.1],⟨#[60]⟩++p.AW.1.form++⟨#[62]⟩⟩])
def rx(t:Tr):Rx:=t.AW.1
def MG(t:Tr):List Rx:=t.AW.2
theorem pb{t:Tr}(d:t.ok)(g:t.cM=false):t.MG=t.alts.map rx:=by
 induction t with
 | z=>simp[cM]at g
 | a p q i h =>
  show p.rx::q.MG=_;rw[h d.2.1 d.2.2.2.1];rfl
 | _=>rfl
theorem hP(a b:List UInt8):lit (a++b)=lit a++lit b:=by
 apply ByteArray.ext;simp[lit,ByteArray.data_append]
theorem KK(a:List UInt8):(lit a).toList=a:=by rw[bM];simp[lit]
theorem KJ(a:List UInt8):(lit a).size=a.length:=by simp[lit,ByteArray.size]
theorem HT(n:Nat):hv n=lit (h9 n):=by unfold hv h9;split<;>(try split)<;>rfl
theorem rJ(x:Rx)(l:List Rx):bU (x::l)=⟨#[47]⟩++x.form++bU l:=by
 have key:∀(l:List Rx) (s t:ai),l.foldl (fun s x=>s++⟨#[47]⟩++x.form) (s++t)=s++l.foldl (fun s x=>s++⟨#[47]⟩++x.form) t:=by
  intro l
  induction l with
  | nil=>intro s t;rfl
  | cons y l d =>
   intro s t;simp only[jb];have e:s++t++⟨#[47]⟩++y.form=s++(t++⟨#[47]⟩++y.form):=by apply ByteArray.ext;simp[ByteArray.data_append]
   rw[e,d]
 have e:(⟨#[]⟩:ai)++⟨#[47]⟩++x.form=(⟨#[47]⟩++x.form)++⟨#[]⟩:=by
  apply ByteArray.ext;simp[ByteArray.data_append]
 show List.foldl _ (⟨#[]⟩++⟨#[47]⟩++x.form) l=_;rw[e,key];rfl
theorem r2(c:UInt8):(⟨#[c]⟩:ai)=lit [c]:=rfl
theorem kk(x:Rx):bU [x]=⟨#[47]⟩++x.form:=by
 rw[rJ];apply ByteArray.ext;simp[bU,ByteArray.data_append]
theorem FE(t:Tr):t.rx.form=lit t.fm/\bU t.MG=lit (t.gM true):=by
 induction t with
 | z=>exact⟨rfl,by show bU [eB]=_;rw[kk];rfl⟩
 | e=>exact⟨rfl,by show bU [dp]=_;rw[kk];rfl⟩
 | c k =>
  have h:(Tr.c k).rx.form=lit (Tr.c k).fm:=by
   show ⟨#[91]⟩++hv k++⟨#[93]⟩=lit (91::(h9 k++[93]));rw[HT,r2,r2,<- hP,<- hP];simp
  exact⟨h,by show bU [(Tr.c k).rx]=_;rw[kk,h,r2,<- hP];rfl⟩
 | s p q d g =>
  have h:(Tr.s p q).rx.form=lit (Tr.s p q).fm:=by
   show ⟨#[40]⟩++p.rx.form++q.rx.form++⟨#[41]⟩=lit (40::(p.fm++(q.fm++[41])));rw[d.1,g.1,r2,r2,<- hP,<- hP,<- hP];simp
  exact⟨h,by show bU [(Tr.s p q).rx]=_;rw[kk,h,r2,<- hP];rfl⟩
 | m p d =>
  have h:(Tr.m p).rx.form=lit (Tr.m p).fm:=by
   show ⟨#[60]⟩++p.rx.form++⟨#[62]⟩=lit (60::(p.fm++[62]));rw[d.1,r2,r2,<- hP,<- hP];simp
  exact⟨h,by show bU [(Tr.m p).rx]=_;rw[kk,h,r2,<- hP];rfl⟩
 | a p q d g =>
  have i:bU (Tr.a p q).MG=lit ((Tr.a p q).gM true):=by
   show bU (p.rx::q.MG)=lit (47::(p.fm++q.gM true));rw[rJ,d.1,g.2,r2,<- hP,<- hP];rfl
  refine⟨?_,i⟩;show ⟨#[123]⟩++bU (Tr.a p q).MG++⟨#[125]⟩=lit (123::47::(p.fm++(q.gM true++[125])));rw[i,r2,r2,<- hP,<- hP];show lit ([123]++(47::(p.fm++q.gM true))++[125])=_;simp
theorem kG(t:Tr):t.rx.form.size=t.wt:=by rw[(FE t).1,KJ];rfl
theorem Nf(t:Tr):t.rx.form.toList=t.fm:=by rw[(FE t).1,KK]
theorem lC(l:List Tr)(x:Tr):bp (l.map rx) x.rx=(among l x).map rx:=by
 induction l with
 | nil=>rfl
 | cons y l d =>
  simp only[bS,bp,among,IN,Nf,d];split
  ·split<;>rfl
  ·rfl
theorem Lj(m:List Tr):∀l:List Tr,(m.map rx).foldl bp (l.map rx)=(m.foldl among l).map rx:=by
 induction m with
 | nil=>intro l;rfl
 | cons x m d=>intro l;rw[bS,jb,lC,d];rfl
theorem wP(l:List Tr){t:Tr}(d:t.ok):bi (l.map rx) t.rx=(gV l t).map rx:=by
 cases t with
 | a p q =>
  show (Tr.a p q).MG.foldl bp (l.map rx)=_;rw[pb d rfl,Lj];rfl
 | z=>rfl
 | e=>exact lC l _
 | c k=>exact lC l _
 | s p q=>exact lC l _
 | m p=>exact lC l _
theorem wQ{x y:Tr}(g:x.ok)(h:y.ok):bi (bi [] x.rx) y.rx=(gV (gV [] x) y).map rx:=by
 have h1:bi ([].map rx) x.rx=(gV [] x).map rx:=wP [] g;have d:bi [] x.rx=(gV [] x).map rx:=h1;rw[d,wP _ h]
theorem Pp{l:List Tr}(h:kz l):(Ef l).rx=match l.map rx with|[]=>eB|[x]=>x|l=>⟨97,0,l,⟨#[123]⟩++bU l++⟨#[125]⟩⟩:=by
 match l,h with
 | [],_=>rfl
 | [x],_=>rfl
 | x::y::l,h =>
  have d:=tD h.tail;have e:(Ef (y::l)).MG=(y::l).map rx:=by
   rw[pb d.1 (by cases g:(Ef (y::l)).cM with
    | false=>rfl
    | true=>rw[ee g]at d;simp[alts]at d),d.2]
  show (⟨97,0,x.rx::(Ef (y::l)).MG,⟨#[123]⟩++bU (x.rx::(Ef (y::l)).MG)++⟨#[125]⟩⟩:Rx)=_;rw[e];rfl
theorem wO{x y:Tr}(d:x.ok)(g:y.ok):kz (gV (gV [] x) y):=by
 have h1:=iK (l:=[]) ⟨List.Pairwise.nil,by simp⟩ d.kz.2;exact(iK h1.1 g.kz.2).1
theorem l4{x y:Tr}(d:x.ok)(g:y.ok):eb x.rx y.rx=(either x y).rx:=by
 unfold eb either;rw[wQ d g,Pp (wO d g)];rfl
theorem zt(n:Nat):∀(x y:Tr),x.wt<n->fS n x.rx y.rx=(row x y).rx:=by
 induction n with
 | zero=>intro x y h;omega
 | succ n t =>
  intro x y h;have o:y.rx.what=122↔y.cM=true:=by cases y<;>simp[rx,AW,cM,eB,dp,na,DV]
  have i:y.rx.what=101↔y.cX=true:=by cases y<;>simp[rx,AW,cX,eB,dp,na,DV]
  by_cases h1:y.cM=true
  ·rw[fS,ag (ac (o.2 h1)),ee h1,h8];rfl
  have g:¬y.rx.what=122:=fun k=>h1 (o.1 k)
  have j:∀{x:Tr},x.cM=false->x.cX=false->x.AY=false->x.rx.what≠122->x.rx.what≠101->x.rx.what≠115->fS (n+1) x.rx y.rx=(row x y).rx:=by
   intro x w A B u v w3
   by_cases d:y.cX=true
   ·rw[fS,ae (by rintro(k|k);exact u k;exact g k),ae v,ag (i.2 d),cp d,dN]
   ·rw[fS,ae (by rintro(k|k);exact u k;exact g k),ae v,ae (fun k=>d (i.1 k)),ae w3,hM (by simpa using h1) (by simpa using d) w A B];rfl
  cases x with
  | z=>rw[fS,ag (show Tr.z.rx.what=122\/y.rx.what=122 from ah rfl)];rfl
  | e=>rw[fS,ae (by rintro(k|k);cases k;exact g k),ag (show Tr.e.rx.what=101 from rfl)];rfl
  | s p q =>
   rw[Du]at h
   by_cases d:y.cX=true
   ·rw[fS,ae (by rintro(k|k);cases k;exact g k),ae (fun k=>by cases k),ag (i.2 d),cp d,dN]
   ·rw[fS,ae (by rintro(k|k);cases k;exact g k),ae (fun k=>by cases k),ae (fun k=>d (i.1 k)),ag (show (Tr.s p q).rx.what=115 from rfl),lp (by simpa using h1) (by simpa using d)];show fS n p.rx (fS n q.rx y.rx)=_;rw[t q y (by omega),t p _ (by omega)]
  | c k=>exact j rfl rfl rfl (fun k=>by cases k) (fun k=>by cases k) (fun k=>by cases k)
  | a p q=>exact j rfl rfl rfl (fun k=>by cases k) (fun k=>by cases k) (fun k=>by cases k)
  | m p=>exact j rfl rfl rfl (fun k=>by cases k) (fun k=>by cases k) (fun k=>by cases k)
theorem Cf(x:Tr):hO x.rx=(many x).rx:=by cases x<;>rfl
theorem FJ(x y:Tr):iT x.rx y.rx=(row x y).rx:=zt _ x y (by rw[kG];omega)
theorem OU{x y:Tr}(d:x.ok)(n:y.ok)(h:∀u∈x.alts,u∈y.alts):x.wt<=y.wt:=by
 have A:=yd d.kz.nodup h;have t:=z7 d.kz.nodup h;cases x with
 | z=>exact vq y
 | a p q =>
  have e:(Tr.a p q).wt=sz (Tr.a p q).alts+2:=by
   have:=wz d.2.1 d.2.2.2.1;have e:(Tr.a p q).wt=p.wt+(q.gM true).length+3:=by simp[wt,fm,gM];omega
   simp only[alts,cP];omega
  cases y with
  | a g i =>
   have w:(Tr.a g i).wt=sz (Tr.a g i).alts+2:=by
    have:=wz n.2.1 n.2.2.2.1;have e:(Tr.a g i).wt=g.wt+(i.gM true).length+3:=by simp[wt,fm,gM];omega
    simp only[alts,cP];omega
   omega
  | z=>have:=h p (aU ..);cases this
  | _ =>
   exfalso;have j:1<=q.alts.length:=by
    cases j:q.alts with
    | nil=>rw[pQ]at j;rw[j]at d;simp[ok,cM]at d
    | cons u l=>simp
   simp only[alts,bT,gd]at t;omega
 | _ =>
  have v:=h _ (by simp[alts];rfl);have:=(fH n).2;have o:∀{l:List Tr} {u:Tr},u∈l->u.wt+1<=sz l:=by
   intro l u hu;obtain⟨a,b,rfl⟩:=List.append_of_mem hu;rw[gR,cP];omega
  have:=o v;omega
theorem PE{x y:Tr}(g:x.ok)(d:y.hc)(h:∀u∈x.alts,u∈y.alts):x.hc:=Gb g (fun u hu=>d.alts u hu) d.len h
theorem x8{x y:Tr}(d:x.ok)(j:y.ok)(t:x.cM=false)(u:x.cX=false)(g:y.cM=false)(h:y.cX=false):x.wt+y.wt+2<=(row x y).wt:=by
 induction x generalizing y with
 | z=>simp[cM]at t
 | e=>simp[cX]at u
 | s p q n o =>
  rw[lp g h,Du];have hb:=bZ d.2.1 j;have i:=hb.2 d.2.2.2.2.2.1 g;have h1:=o d.2.1 j d.2.2.2.2.2.1 d.2.2.2.2.2.2 g h;have v:=n d.1 hb.1 d.2.2.1 d.2.2.2.1 i.1 (i.2 h);omega
 | _=>rw[hM g h rfl rfl rfl,Du];omega
theorem IY{x y:Tr}(h:x.ok)(i:y.ok)(j:y.cM=false)(n:y.cX=false):x.wt<=(row x y).wt:=by
 by_cases d:x.cM=true
 ·rw[ee d];exact vq _
 ·by_cases g:x.cX=true
  ·rw[cp g];exact vq _
  ·have:=x8 h i (by simpa using d) (by simpa using g) j n;omega
theorem Ld{x y:Tr}(d:x.ok)(j:y.ok)(g:y.cM=false)(h:(row x y).hc):x.hc:=by
 have key:∀{x y:Tr},x.ok->y.ok->x.cM=false->y.cM=false->(row x y).hc->x.hc/\y.hc:=by
  intro x
  induction x with
  | z=>intro y _ _ h;simp[cM]at h
  | e=>intro y _ _ _ _ h;exact⟨trivial,h⟩
  | s p q u v =>
   intro y d j _ g h
   by_cases i:y.cX=true
   ·rw[cp i,dN]at h;rw[cp i];exact⟨h,trivial⟩
   ·rw[lp g (by simpa using i)]at h;have hb:=bZ d.2.1 j;have t:=hb.2 d.2.2.2.2.2.1 g;have h1:=u d.1 hb.1 d.2.2.1 t.1 h;have n:=v d.2.1 j d.2.2.2.2.2.1 g h1.2;exact⟨⟨h1.1,n.1⟩,n.2⟩
  | _ =>
   intro y d j _ g h
   by_cases i:y.cX=true
   ·rw[cp i,dN]at h;rw[cp i];exact⟨h,trivial⟩
   ·rw[hM g (by simpa using i) rfl rfl rfl]at h;exact h
 by_cases o:x.cM=true
 ·rw[ee o];trivial
 ·exact(key d j (by simpa using o) g h).1
def fit(t:Tr):Prop:=t.ok/\t.wt<=6000000000000000002/\t.hc
theorem pG{x y:Tr}(d:x.ok)(g:y.fit)(h:∀u∈x.alts,u∈y.alts):x.fit:=⟨d,aE (OU d g.1 h) g.2.1,PE d g.2.2 h⟩
theorem yM{x y:Tr}(d:x.ok)(g:y.ok)(i:y.cM=false)(j:y.cX=false)(h:(row x y).fit):x.fit:=⟨d,aE (IY d g i j) h.2.1,Ld d g i h.2.2⟩
theorem wT{x y:Tr}(d:x.fit)(g:y.fit)(h:(either x y).fit):x.rx.form.size<=9000000000000000000/\y.rx.form.size<=9000000000000000000/\a8 (bi (bi [] x.rx) y.rx)<=9000000000000000000/\(bi (bi [] x.rx) y.rx).length<=8000000000:=by
 rw[wQ d.1 g.1,kG,kG];have n:=tD (wO d.1 g.1);have e:(either x y).alts=gV (gV [] x) y:=n.2;have h1:=(fH h.1).2;have i:=h.2.2.len;rw[e]at h1 i;have j:a8 ((gV (gV [] x) y).map rx)=sz (gV (gV [] x) y):=by
  simp[a8,sz,kG,Function.comp_def]
 rw[j,b5];have:=d.2.1;have:=g.2.1;have:=h.2.1;refine⟨by omega,by omega,by omega,by omega⟩
end Tr
theorem LC(t:Tr):t.hU=t.alts.any Tr.hU:=by
 induction t with
 | a p q c b=>simp only[Tr.hU,Tr.alts,List.any_cons,b]
 | z=>rfl
 | _=>simp[Tr.alts]
theorem Mc(l:List Tr)(j:Nat)(h:j<l.length):(l.take (j+1)).any Tr.hU=((l.take j).any Tr.hU||l[j].hU):=by
 rw[jh h,List.any_append,List.any_cons,List.any_nil,Bool.or_false]
theorem mY(d:Nat):∀(w:World) (v:Value) (t:Tr),aS d w v t.rx->t.ok->t.hc ->Calls prog 115 #[v] w fun e w'=>e=.returned (.bool t.hU)/\Below w.heap.size w w':=by
 induction d with
 | zero=>intro w v t h;exact h.elim
 | succ d J =>
  intro w v t h C A;obtain⟨p,c1,e,b1,rfl,f,a8,N,c3,O,o,b3,h1,b0⟩:=h.open;obtain rfl:d=e:=by omega
  clear b1 h1 b0 b3 a8 c3 h;cases t with
  | z =>
   have q:w.cell? ⟨p,0,none⟩=some (.int .u8 122):=f;clear f o;go_enter func115,ntmps115;go_wp2;go_ret;exact⟨rfl,aB _ _⟩
  | e =>
   have q:w.cell? ⟨p,0,none⟩=some (.int .u8 101):=f;clear f o;go_enter func115,ntmps115;go_wp2;go_ret;exact⟨rfl,aB _ _⟩
  | c k =>
   have q:w.cell? ⟨p,0,none⟩=some (.int .u8 99):=f;clear f o;go_enter func115,ntmps115;go_wp2;go_ret;exact⟨rfl,aB _ _⟩
  | m x =>
   have q:w.cell? ⟨p,0,none⟩=some (.int .u8 109):=f;clear f o;go_enter func115,ntmps115;go_wp2;go_ret;exact⟨rfl,aB _ _⟩
  | s x y =>
   have q:w.cell? ⟨p,0,none⟩=some (.int .u8 115):=f;have Z:dZ (aS d w) 0 w c1 [x.rx,y.rx]:=o;obtain⟨M,au,I,r⟩:=Z.form;obtain⟨g,u0,rfl,g0,P⟩:=r 0 (by simp);obtain⟨c7,u1,W,g1,Q⟩:=r 1 (by simp);simp at W;subst W;subst I;simp only[bT,gd,k9,Nat.reduceAdd,List.getElem_cons_zero,List.getElem_cons_succ]at P Q N;have a5:Hid (aS d w u0 x.rx):=P;have a6:Hid (aS d w u1 y.rx):=Q;have D:Hid (∀(w:World) (v:Value) (t:Tr),aS d w v t.rx->t.ok->t.hc->Calls prog 115 #[v] w fun e w'=>e=.returned (.bool t.hU)/\Below w.heap.size w w'):=J;have E:Hid ((Tr.s x y).ok/\(Tr.s x y).hc):=⟨C,A⟩;clear f o Z P Q r J C A;go_enter func115,ntmps115;go_wp2_with fail;refine(D.out _ _ x a5.out E.out.1.1 E.out.2.1).mono ?_;rintro c5 n ⟨rfl,b⟩;have hg:g<w.heap.size:=jf w ⟨g,0,none⟩ g0;have d0:n.cell? ⟨p,0,none⟩=some (.int .u8 115):=(b.cell (p:=⟨p,0,none⟩) O).trans q;have d2:n.cell? ⟨p,2,none⟩=some (.slice (some ⟨g,0,none⟩) 2 au):=(b.cell (p:=⟨p,2,none⟩) O).trans N;have c4:n.cell? ⟨g,1,none⟩=some u1:=(b.cell (p:=⟨g,1,none⟩) hg).trans g1;have a7:Hid (aS d n u1 y.rx):=a6.out.aY (bf.aL b);go_wp2_with fail;refine(D.out _ _ y a7.out E.out.1.2.1 E.out.2.2).mono ?_;rintro a9 a0 ⟨rfl,H⟩;have F:Hid ((Tr.s x y).hU=(x.hU&&y.hU)):=rfl;have a1:Hid (Below w.heap.size w a0):=b.trans (H.mono b.size);cases b6:x.hU<;>cases b7:y.hU<;>(go_wp2;go_ret;exact⟨by rw[F.out,b6,b7];rfl,a1.out⟩)
  | a x y =>
   have q:w.cell? ⟨p,0,none⟩=some (.int .u8 97):=f;have X:(Tr.a x y).rx.l=(Tr.a x y).alts.map Tr.rx:=Tr.pb (t:=.a x y) C rfl;rw[X]at o;have c8:=A.len;have F:=LC (.a x y);have S:Hid (∀u∈(Tr.a x y).alts,u.ok/\u.hc):=fun u hu=>⟨(C.kz.2 u hu).1,A.alts u hu⟩
   obtain⟨M,au,I,r⟩:=o.form;rw[b5]at I;subst I;have a2:Hid (∀i (hi:i<(Tr.a x y).alts.length),∃g u,M=some ⟨g,0,none⟩/\w.cell? ⟨g,i,none⟩=some u/\aS d w u ((Tr.a x y).alts[i]).rx):=by
    intro i hi;obtain⟨g,u,b8,b9,c0⟩:=r i (by rw[b5];exact hi);exact⟨g,u,b8,b9,by simpa using c0⟩
   rw[F];clear f o r X F C A;generalize (Tr.a x y).alts=L at *;have D:Hid (∀(w:World) (v:Value) (t:Tr),aS d w v t.rx->t.ok->t.hc->Calls prog 115 #[v] w fun e w'=>e=.returned (.bool t.hU)/\Below w.heap.size w w'):=J;clear J;go_enter func115,ntmps115;go_wp2_with fail
   go_loopg [5] L.length (fun g i wr=>∃j:Nat,j<=L.length/\g=L.length-j/\i=.int .i64 j/\(L.take j).any Tr.hU=false/\Below w.heap.size w wr)
   case atStart=>exact⟨0,by omega,rfl,rfl,rfl,aB _ _⟩
   case round =>
    obtain⟨n,b4⟩:∃n,n=wr:=⟨wr,rfl⟩;subst b4;obtain⟨j,c9,rfl,rfl,Y,b⟩:=hrel;have R:Hid ((L.take j).any Tr.hU=false):=Y;clear Y;have d2:n.cell? ⟨p,2,none⟩=some (.slice M L.length au):=(b.cell (p:=⟨p,2,none⟩) O).trans N
    by_cases B:j<L.length
    ·obtain⟨g,u,rfl,V,U⟩:=a2.out j B;have hg:g<w.heap.size:=jf w ⟨g,j,none⟩ V;have c2:n.cell? ⟨g,j,none⟩=some u:=(b.cell (p:=⟨g,j,none⟩) hg).trans V;have a3:Hid (aS d n u (L[j]).rx):=U.aY (bf.aL b);clear U;go_wp2_with fail;refine(D.out _ _ L[j] a3.out (S.out _ (bl B)).1 (S.out _ (bl B)).2).mono ?_;rintro a9 a0 ⟨rfl,H⟩;have T:=Mc L j B;have a4:Hid ((L.take (j+1)).any Tr.hU=((L.take j).any Tr.hU||L[j].hU)):=T;clear T;cases G:L[j].hU
     ·have K:Hid (L[j].hU=false):=G;clear G;go_wp2;go_roundg (L.length-(j+1))
      case measure=>omega
      case rel=>exact⟨j+1,by omega,rfl,by go_num,by rw[a4.out,R.out,K.out];rfl,b.trans (H.mono b.size)⟩
     ·have K:Hid (L[j].hU=true):=G;clear G;go_wp2;go_ret;refine⟨?_,b.trans (H.mono b.size)⟩;rw[show L.any Tr.hU=true from List.any_eq_true.2 ⟨L[j],bl B,K.out⟩];rfl
    ·have b2:j=L.length:=by omega
     go_wp2;go_ret;refine⟨?_,b⟩;have:=R.out;rw[b2,mi]at this;rw[this];rfl
namespace Tr
def r8(k:Nat)(L:List Tr):Tr:=L.foldl (fun t u=>either t (u.dt k)) .z
theorem Iy(k:Nat)(L:List Tr)(j:Nat)(h:j<L.length):r8 k (L.take (j+1))=either (r8 k (L.take j)) (L[j].dt k):=by
 unfold r8;rw[jh h,e0];rfl
theorem AF{k:Nat}{L:List Tr}(h:∀u∈L,u.ok):(r8 k L).ok/\∀x,x∈(r8 k L).alts↔∃u∈L,x∈(u.dt k).alts:=by
 have key:∀(L:List Tr) (t:Tr),t.ok->(∀u∈L,u.ok)->(L.foldl (fun t u=>either t (u.dt k)) t).ok/\∀x,x∈(L.foldl (fun t u=>either t (u.dt k)) t).alts↔x∈t.alts\/∃u∈L,x∈(u.dt k).alts:=by
  intro L
  induction L with
  | nil=>intro t d _;exact⟨d,by simp⟩
  | cons u L n =>
   intro t d g;have i:=bg d (cj (g u (aU ..)) k);have h1:=n _ i.1 (fun v j=>g v (b6 _ j));refine⟨h1.1,fun x=>?_⟩;rw[jb,h1.2,i.2];simp only[aT,exists_eq_or_imp,or_assoc]
 have:=key L .z trivial h;exact⟨this.1,fun x=>by unfold r8;rw[this.2];simp[alts]⟩
theorem L6{t:Tr}(h:t.ok)(k:Nat):r8 k t.alts=t.dt k:=by
 have h1:=AF (k:=k) (L:=t.alts) (fun u hu=>(h.kz.2 u hu).1);refine ext h1.1 (cj h k) fun u=>?_
 rw[h1.2,nb h]
theorem L5{t:Tr}(h:t.ok)(k j:Nat):∀u∈(r8 k (t.alts.take j)).alts,u∈(t.dt k).alts:=by
 intro u hu;have h1:=AF (k:=k) (L:=t.alts.take j) (fun u hu=>(h.kz.2 u (ld hu)).1);obtain⟨v,d,hu⟩:=(h1.2 u).1 hu;exact(nb h k u).2 ⟨v,ld d,hu⟩
theorem Rb{p q:Tr}(h:(Tr.s p q).fit):p.fit/\q.fit:=by
 have:=h.2.1;rw[Du]at this;exact⟨⟨h.1.1,by omega,h.2.2.1⟩,⟨h.1.2.1,by omega,h.2.2.2⟩⟩
theorem Lm{t u:Tr}(h:t.fit)(hu:u∈t.alts):u.fit:=by
 have h1:=h.1.kz.2 u hu;exact pG h1.1 h (fun v d=>by rw[c7 h1.2]at d;simp at d;subst d;exact hu)
theorem BJ{x y:Tr}(j:x.ok)(d:y.fit)(n:y.cM=false)(o:y.cX=false)(h:(row x y).wt<=6000000000000000002):x.rx.form.size+y.rx.form.size<=9000000000000000000:=by
 rw[kG,kG];have q:=d.2.1
 by_cases g:x.cM=true
 ·rw[ee g,MR];omega
 ·by_cases i:x.cX=true
  ·rw[cp i,OV];omega
  ·have:=x8 j d.1 (by simpa using g) (by simpa using i) n o;omega
end Tr
theorem HO(n k:Nat):(((n:Int)/2^k).tmod 2==1)=n.testBit k:=by
 have e:((n:Int)/2^k)=((n/2^k:Nat):Int):=by
  rw[Int.natCast_ediv];simp
 rw[e,Nat.testBit_eq_decide_div_mod_eq];have d:((n/2^k:Nat):Int).tmod 2=((n/2^k%2:Nat):Int):=by
  rw[Int.tmod_eq_emod_of_nonneg (Int.natCast_nonneg _)];simp
 rw[d];have:n/2^k%2=0\/n/2^k%2=1:=by omega
 rcases this with h|h<;>rw[h]<;>rfl
theorem xj(k:Nat)(l6:k<8)(d:Nat):∀(w:World) (v:Value) (t:Tr),aS d w v t.rx->t.fit->(t.dt k).fit ->Calls prog 109 #[v,.int .i64 k] w fun e w'=>∃h3 d',e=.returned h3/\aS d' w' h3 (t.dt k).rx/\Below w.heap.size w w':=by
 induction d with
 | zero=>intro w v t h;exact h.elim
 | succ d h2 =>
  intro w v t h g4 g3;have h0:=h;obtain⟨p,h4,e,V,rfl,E,O,K,c3,W,H,j9,h1,j2⟩:=h.open;obtain rfl:d=e:=by omega
  have e4:=az h0;have A:Hid (t.fit/\(t.dt k).fit):=⟨g4,g3⟩;have a7:=az h2;clear V h1 j2 j9 c3 h h0 g4 g3 h2;cases t with
  | z =>
   have N:w.cell? ⟨p,0,none⟩=some (.int .u8 122):=E;clear E H O K;go_enter func109,ntmps109;go_wp2_with (go_at_call 159;refine(ih _).mono ?_;rintro e B ⟨Q,rfl,C,o⟩);go_ret;exact⟨_,1,rfl,C,o⟩
  | e =>
   have N:w.cell? ⟨p,0,none⟩=some (.int .u8 101):=E;clear E H O K;go_enter func109,ntmps109;go_wp2_with (go_at_call 159;refine(ih _).mono ?_;rintro e B ⟨Q,rfl,C,o⟩);go_ret;exact⟨_,1,rfl,C,o⟩
  | c n =>
   have N:w.cell? ⟨p,0,none⟩=some (.int .u8 99):=E;have k7:w.cell? ⟨p,1,none⟩=some (.int .i64 n):=O;clear E H O K;have g6:=HO n k;cases hb:n.testBit k
   ·have a0:(Tr.c n).dt k=.z:=by show (if n.testBit k=true then Tr.e else .z)=_;rw[hb];rfl
    rw[a0];rw[hb]at g6;clear a0 hb;go_enter func109,ntmps109;go_wp2_with (go_at_call 159;refine(ih _).mono ?_;rintro e B ⟨Q,rfl,C,o⟩);go_ret;exact⟨_,1,rfl,C,o⟩
   ·have a0:(Tr.c n).dt k=.e:=by show (if n.testBit k=true then Tr.e else .z)=_;rw[hb];rfl
    rw[a0];rw[hb]at g6;clear a0 hb;go_enter func109,ntmps109;go_wp2_with (go_at_call 96;refine(j1 _).mono ?_;rintro e B ⟨Q,rfl,C,o⟩);go_ret;exact⟨_,1,rfl,C,o⟩
  | m x =>
   have N:w.cell? ⟨p,0,none⟩=some (.int .u8 109):=E;have a2:dZ (aS d w) 0 w h4 [x.rx]:=H;obtain⟨a9,au,X,F⟩:=a2.form;obtain⟨g,u0,rfl,g0,P⟩:=F 0 (by simp);subst X;simp only[bT,gd,k9,List.getElem_cons_zero]at P K;have a8:=az P;have q:Hid (x.fit/\(x.dt k).fit):=by
    obtain⟨f1,f2⟩:=A.out;have h1:=f1.2.1;rw[Tr.GG]at h1;exact⟨⟨f1.1.1,by omega,f1.2.2⟩,Tr.yM (Tr.cj f1.1.1 k) f1.1 rfl rfl f2⟩
   clear E H a2 P F O;go_enter func109,ntmps109;go_wp2_with fail;refine(a7.out _ _ x a8.out q.out.1 q.out.2).mono ?_;rintro i7 B ⟨Q,d1,rfl,C,o⟩;have c1:=az C;clear C;have i2:Hid (aS (d+1) B (.pointer (some ⟨p,0,none⟩)) (Tr.m x).rx):=e4.out.aY (bf.aL o);go_wp2_with fail;refine(ty ((x.dt k).wt+1) _ (d1+(d+1)) Q _ (x.dt k).rx (Tr.m x).rx (by rw[Tr.kG];omega) (c1.out.mono (by omega)) (i2.out.mono (by omega)) (Tr.BJ q.out.2.1 A.out.1 rfl rfl A.out.2.2.1)).mono ?_;rintro e6 R ⟨v2,d2,rfl,I,_,U⟩;rw[Tr.zt _ _ _ (by omega)]at I;have Z:=az I;clear I;go_wp2_with fail;go_ret;exact⟨_,d2,rfl,Z.out,o.trans (U.mono o.size)⟩
  | s x y =>
   have N:w.cell? ⟨p,0,none⟩=some (.int .u8 115):=E;have a2:dZ (aS d w) 0 w h4 [x.rx,y.rx]:=H;obtain⟨a9,au,X,F⟩:=a2.form;obtain⟨g,u0,rfl,g0,P⟩:=F 0 (by simp);obtain⟨l2,u1,g5,g1,e0⟩:=F 1 (by simp);simp at g5;subst g5;subst X;simp only[bT,gd,k9,Nat.reduceAdd,List.getElem_cons_zero,List.getElem_cons_succ]at P e0 K;have a8:=az P;have e5:=az e0;have hg:g<w.heap.size:=jf w ⟨g,0,none⟩ g0
   -- what fits
   have q:Hid (x.fit/\y.fit/\(x.dt k).fit/\(Tr.row (x.dt k) y).fit/\y.cM=false/\y.cX=false/\(x.hU=true->(y.dt k).fit)):=by
    obtain⟨f1,f2⟩:=A.out;obtain⟨fx,S⟩:=Tr.Rb f1;have h5:=f1.1.2.2.2.2.2.1;have h6:=f1.1.2.2.2.2.2.2;have hb:(Tr.s x y).dt k=if x.hU=true then Tr.either (Tr.row (x.dt k) y) (y.dt k)else Tr.row (x.dt k) y:=rfl
    have e1:=(Tr.bZ (Tr.cj fx.1 k) S.1).1;have F:(Tr.row (x.dt k) y).fit:=by
     by_cases V:x.hU=true
     ·rw[hb,ag V]at f2;exact Tr.pG e1 f2 (fun u hu=>((Tr.bg e1 (Tr.cj S.1 k)).2 u).2 (ah hu))
     ·rw[hb,ae V]at f2;exact f2
    refine⟨fx,S,Tr.yM (Tr.cj fx.1 k) S.1 h5 h6 F,F,h5,h6,fun V=>?_⟩;rw[hb,ag V]at f2;exact Tr.pG (Tr.cj S.1 k) f2 (fun u hu=>((Tr.bg e1 (Tr.cj S.1 k)).2 u).2 (ac hu))
   clear E H a2 P e0 F O;go_enter func109,ntmps109;go_wp2_with fail;refine(a7.out _ _ x a8.out q.out.1 q.out.2.2.1).mono ?_;rintro i7 B ⟨Q,d1,rfl,C,o⟩;have c1:=az C;clear C;have c9:B.cell? ⟨p,0,none⟩=some (.int .u8 115):=(o.cell (p:=⟨p,0,none⟩) W).trans N;have a5:B.cell? ⟨p,2,none⟩=some (.slice (some ⟨g,0,none⟩) 2 au):=(o.cell (p:=⟨p,2,none⟩) W).trans K;have b8:B.cell? ⟨g,1,none⟩=some u1:=(o.cell (p:=⟨g,1,none⟩) hg).trans g1;have i6:Hid (aS d B u1 y.rx):=e5.out.aY (bf.aL o);go_wp2_with fail;refine(ty ((x.dt k).wt+1) _ (d1+d) Q _ (x.dt k).rx y.rx (by rw[Tr.kG];omega) (c1.out.mono (by omega)) (i6.out.mono (by omega)) (Tr.BJ q.out.2.2.1.1 q.out.2.1 q.out.2.2.2.2.1 q.out.2.2.2.2.2.1 q.out.2.2.2.1.2.1)).mono ?_;rintro e6 R ⟨v2,d2,rfl,I,_,U⟩;rw[Tr.zt _ _ _ (by omega)]at I;have G:=o.trans (U.mono o.size);have Z:=az I;clear I c9 a5 b8;have c9:R.cell? ⟨p,0,none⟩=some (.int .u8 115):=(G.cell (p:=⟨p,0,none⟩) W).trans N;have a5:R.cell? ⟨p,2,none⟩=some (.slice (some ⟨g,0,none⟩) 2 au):=(G.cell (p:=⟨p,2,none⟩) W).trans K;have k5:R.cell? ⟨g,0,none⟩=some u0:=(G.cell (p:=⟨g,0,none⟩) hg).trans g0;have b8:R.cell? ⟨g,1,none⟩=some u1:=(G.cell (p:=⟨g,1,none⟩) hg).trans g1;go_wp2_with fail;refine(mY d _ _ x (a8.out.aY (bf.aL G)) q.out.1.1 q.out.1.2.2).mono ?_;rintro i9 w3 ⟨rfl,b6⟩;have T:=G.trans (b6.mono G.size);have a6:Hid (aS d2 w3 v2 (Tr.row (x.dt k) y).rx):=Z.out.aY (bf.aL b6);clear c9 a5 k5 b8;have a5:w3.cell? ⟨p,2,none⟩=some (.slice (some ⟨g,0,none⟩) 2 au):=(T.cell (p:=⟨p,2,none⟩) W).trans K;have b8:w3.cell? ⟨g,1,none⟩=some u1:=(T.cell (p:=⟨g,1,none⟩) hg).trans g1;have Y:Hid ((Tr.s x y).dt k=if x.hU=true then Tr.either (Tr.row (x.dt k) y) (y.dt k)else Tr.row (x.dt k) y):=rfl;cases b7:x.hU
   ·have M:=az b7;clear b7;go_wp2_with fail;go_ret;exact⟨_,d2,rfl,by rw[Y.out,ae (by rw[M.out];simp)];exact a6.out,T⟩
   ·have M:=az b7;clear b7;go_wp2_with fail;refine(a7.out _ _ y (e5.out.aY (bf.aL T)) q.out.2.1 (q.out.2.2.2.2.2.2 M.out)).mono ?_;rintro l0 k6 ⟨v4,d4,rfl,g9,e9⟩;have i3:=az g9;have i4:Hid (aS d2 k6 v2 (Tr.row (x.dt k) y).rx):=a6.out.aY (bf.aL e9);have a1:Hid ((Tr.either (Tr.row (x.dt k) y) (y.dt k)).fit):=by have:=A.out.2;rw[Y.out,ag M.out]at this;exact this
    have a4:=Tr.wT q.out.2.2.2.1 (q.out.2.2.2.2.2.2 M.out) a1.out;have J:=az a4;clear g9 a4;go_wp2_with fail;refine(oH _ (d2+d4) v2 v4 (Tr.row (x.dt k) y).rx (y.dt k).rx (i4.out.mono (by omega)) (i3.out.mono (by omega)) J.out.1 J.out.2.1 J.out.2.2.1 J.out.2.2.2).mono ?_;rintro l1 l8 ⟨v5,d5,rfl,c8,_,j5⟩;rw[Tr.l4 q.out.2.2.2.1.1 (q.out.2.2.2.2.2.2 M.out).1]at c8;have i5:=az c8;clear c8;have e8:=(T.trans (e9.mono T.size));have j4:=e8.trans (j5.mono e8.size);go_wp2_with fail;go_ret;exact⟨_,d5,rfl,by rw[Y.out,ag M.out];exact i5.out,j4⟩
  | a x y =>
   have N:w.cell? ⟨p,0,none⟩=some (.int .u8 97):=E;have g7:(Tr.a x y).rx.l=(Tr.a x y).alts.map Tr.rx:=Tr.pb (t:=.a x y) A.out.1.1 rfl;rw[g7]at H;have l3:=A.out.1.2.2.len;obtain⟨a9,au,X,F⟩:=H.form;rw[b5]at X;subst X;have h7:Hid (∀i (hi:i<(Tr.a x y).alts.length),∃g u,a9=some ⟨g,0,none⟩/\w.cell? ⟨g,i,none⟩=some u/\aS d w u ((Tr.a x y).alts[i]).rx):=by
    intro i hi;obtain⟨g,u,k1,k2,k3⟩:=F i (by rw[b5];exact hi);exact⟨g,u,k1,k2,by simpa using k3⟩
   have e2:=az (Tr.L6 A.out.1.1 k);have c0:Hid (∀j,(Tr.r8 k ((Tr.a x y).alts.take j)).fit):=fun j=>Tr.pG (Tr.AF (fun u hu=>(A.out.1.1.kz.2 u (ld hu)).1)).1 A.out.2 (Tr.L5 A.out.1.1 k j)
   have i0:Hid (∀u∈(Tr.a x y).alts,u.fit/\(u.dt k).fit):=fun u hu=>⟨Tr.Lm A.out.1 hu,Tr.pG (Tr.cj (A.out.1.1.kz.2 u hu).1 k) A.out.2 (fun v j7=>(Tr.nb A.out.1.1 k v).2 ⟨u,hu,j7⟩)⟩
   rw[<- e2.out];clear E H F g7 O e2;clear A e4;generalize (Tr.a x y).alts=L at *;go_enter func109,ntmps109;go_wp2_with (go_at_call 159;refine(ih _).mono ?_;rintro e l7 ⟨v0,rfl,j8,j3⟩)
   go_loopg [9,10] L.length (fun j0 out i wr=>∃j:Nat,j<=L.length/\j0=L.length-j/\i=.int .i64 j/\(∃d',aS d' wr out (Tr.r8 k (L.take j)).rx)/\Below w.heap.size w wr)
   case atStart=>exact⟨0,by omega,rfl,rfl,⟨1,j8⟩,j3⟩
   case round =>
    obtain⟨B,k0⟩:∃B,B=wr:=⟨wr,rfl⟩;subst k0;obtain⟨j,l5,rfl,rfl,⟨d1,g8⟩,o⟩:=hrel;have e3:=az g8;clear g8;have a5:B.cell? ⟨p,2,none⟩=some (.slice a9 L.length au):=(o.cell (p:=⟨p,2,none⟩) W).trans K
    by_cases c4:j<L.length
    ·obtain⟨g,u,rfl,g2,e7⟩:=h7.out j c4;have hg:g<w.heap.size:=jf w ⟨g,j,none⟩ g2;have k8:B.cell? ⟨g,j,none⟩=some u:=(o.cell (p:=⟨g,j,none⟩) hg).trans g2;have h8:Hid (aS d B u (L[j]).rx):=e7.aY (bf.aL o);clear e7;have c2:=i0.out _ (bl c4);have b9:=az c2;have c5:=Tr.Iy k L j c4;have i1:=az c5;have a1:=c0.out (j+1);rw[c5]at a1;have a4:=Tr.wT (c0.out j) c2.2 a1;have J:=az a4;clear c2 c5 a1 a4;go_wp2_with fail;refine(a7.out _ _ L[j] h8.out b9.out.1 b9.out.2).mono ?_;rintro e6 R ⟨v2,d2,rfl,I,U⟩;have Z:=az I;have h9:Hid (aS d1 R u9 (Tr.r8 k (L.take j)).rx):=e3.out.aY (bf.aL U);clear I;go_wp2_with fail;refine(oH _ (d1+d2) u9 v2 (Tr.r8 k (L.take j)).rx ((L[j]).dt k).rx (h9.out.mono (by omega)) (Z.out.mono (by omega)) J.out.1 J.out.2.1 J.out.2.2.1 J.out.2.2.2).mono ?_;rintro i9 w3 ⟨v3,d3,rfl,c7,_,b6⟩;rw[Tr.l4 (c0.out j).1 b9.out.2.1,<- i1.out]at c7;have a6:=az c7;clear c7;have G:=o.trans (U.mono o.size);have Y:=az (G.trans (b6.mono G.size));go_wp2_with fail;go_roundg (L.length-(j+1))
     case measure=>omega
     case rel=>exact⟨j+1,by omega,rfl,by go_num,⟨d3,a6.out⟩,Y.out⟩
    ·have j6:j=L.length:=by omega
     go_wp2_with fail;go_ret;refine⟨_,d1,rfl,?_,o⟩;have:=e3.out;rw[j6,mi]at this;exact this
end Go.Proofs.YtodagkkjfipbgaaGreatDoor
