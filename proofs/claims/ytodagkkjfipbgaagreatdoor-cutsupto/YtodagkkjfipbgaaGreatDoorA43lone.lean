import Derived.Test.YtodagkkjfipbgaaGreatDoorTie
import Derived.Test.YtodagkkjfipbgaaGreatDoorCards
import Derived.SevenTiedAt
import Derived.Carry
import Derived.Deep.DeepHandedRow
import Derived.Test.YtodagkkjfipbgaaGreatDoorY1toTb
set_option maxRecDepth 100000
set_option maxHeartbeats 8000000
namespace Go.Proofs.YtodagkkjfipbgaaGreatDoor
open Go.ChangeShapes Go.WideShapes Go.ChangeAt Go.RowKit Go.Proofs.Tryz
open Go.ChangeMaps (open_string shut_string)
theorem Rp:(prog.globals[1]?).map (·.type)=some 323:=by kernel_rfl
theorem HH{n:String}{r:List (String×DataW Unit)}{W:World}(h:laidMet prog ((n,Rows.laid_internal_strconv_uint64pow10)::r) W)(e:prog.globalNamed n=some 1):jl W:=by
 obtain⟨ps,⟨g0,t0,c,f0,y,z,s,t,u,p,_,v⟩,_,_⟩:=h;obtain rfl:=g8 (e.symm.trans s);obtain rfl:=g8 (Rp.symm.trans t);have g:prog.cellsOf 273=1:=by kernel_rfl
 obtain⟨b,m,_,o,hlen,w,q⟩:=DataW.trod_array Tryz.underlying323 p;have k:=q 2 (by omega);have a:some (DataW.lit (.int .u64 100))=(b.map (·.1))[2]?:=ej (fun l=>l[2]?) (DataW.agg.inj (Prod.mk.inj o).1);rw[cV]at a;have k:DataW.trod (fun _=>()) prog W 0 (fun _=>true) false m 273 ((c.toList.drop (2*1)).take 1)=b[2]?:=g▸k;cases f:b[2]? with
 | none=>rw[f]at a;simp at a
 | some x =>
  rw[f]at a k;obtain⟨n,a0,b0,_⟩:=DataW.trod_int Tryz.underlying273 k;have d:x.1=.lit (.int .u64 100):=by simpa using a.symm
  rw[b0]at d;have i:n=100:=by simpa using d
  subst i;show W.cell? ⟨1,2,none⟩=_;rw[World.var?_cell e u 2];obtain⟨l⟩:=c;have j:=ej (fun l=>l[0]?) a0;simpa using j
theorem zo{s:ai}{l:List ai}(h:s∈l):s.size<=(oi l).size:=by
 rw[wD]
 induction l with
 | nil=>simp at h
 | cons a l b =>
  rw[bS,dC];rcases aT.1 h with rfl|h
  ·omega
  ·have:=b h;omega
theorem xZ(H:Type)(k:TypeId×Value->H)(W:World)(base:Nat)(args:Array Value)(g m:List (DataW H))(before:List MemPlace) (u:∀(j:Nat) t v,Tryz.f4.params[j]?=some t->args[j]?=some v->Value.okWide prog W .any base t v) (B:DataW.Whole k prog Tryz.f4.params.toList Rows.cutsSpec.vars false W args.toList g m before) (N:(DataW.weightsEach prog (Tryz.f4.params.toList++Rows.cutsSpec.plain.varTypes prog) (g++m)).all (·<=reachBytes)=true) (L:Rows.uptoSmall H (g++m)=true) (z:laidMetH prog Rows.cutsUptoRow.laid W):Calls prog 4 args W fun e b=>∃v,e=.returned v/\Rows.cutsSpec.post k prog Tryz.f4 false true false false W args v b:=by
 have y:laidMet prog Rows.cutsUptoRow.laid W:=by rw[MakeChecks.laidMetH_plain _ _ _ (by kernel_rfl)]at z;exact z
 have n:=B;obtain⟨p,q,R4,I,rfl,_,_⟩:=B;have l:DataW.TrodAll k prog W 0 (fun _=>true) true Tryz.f4.params.toList args.toList g p:=R4;rw[Tryz.params4]at l u N;obtain⟨v0,P,d0,d1,Z,E,rfl,rfl,rfl,h0,h1⟩:=trodAll_two l;obtain⟨rfl,rfl⟩:=trodVars_none I;obtain⟨T,rfl,rfl,rfl,G⟩:=open_string Tryz.underlying9 (u 0 9 v0 rfl rfl) h0;obtain⟨a0,len,au,rfl⟩:=okWide_slice Tryz.underlying30 (u 1 30 P rfl rfl);have F:=h1;obtain⟨S,K⟩:=h1;clear R4;simp only[mg,np]at n;have M:∀x∈E,x.block<W.heap.size:=fun x f=>by simpa using n.lt x f
 have hb:=of_decide_eq_true L;simp only[mg,Rows.uptoBulkAll,Rows.uptoBulk]at hb;have R:T.data.toList.length=T.size:=Array.length_toList;have fin:∀b,Below W.heap.size W b->Rows.cutsSpec.post k prog Tryz.f4 false true false false W #[.string T,.slice a0 len au] (.bool true) b:=fun b c=>by
  refine⟨_,_,_,[],E,[],n,?_,?_,rfl,c.frame _,fun h=>by cases h⟩
  ·exact trodAll_mk1 (shut_bool Tryz.underlying4 true)
  ·exact trodAll_mk2 (shut_string Tryz.underlying9 G) (Below.trod Tryz.laidOutB (by kernel_rfl) (of_decide_eq_true (by kernel_rfl)) F c M)
 have D:hV W:=GN y;have C:jl W:=HH y.tail.tail (by kernel_rfl);rcases open_strings Tryz.underlying30 Tryz.underlying9 Tryz.LX K with⟨d,f⟩|⟨a,Y,Q,w,d,_,U,V,O,f,J,X⟩
 ·simp[Value.cells]at d;obtain⟨rfl,rfl,rfl⟩:=d;refine(Gp T (.slice none 0 0) [] W D C (ah ⟨rfl,rfl⟩) (by omega) (by decide) (fun s h=>by simp at h)).mono fun e b ⟨o,c⟩=>?_
  subst o;exact⟨_,rfl,fin b c⟩
 ·simp[Value.cells]at d;obtain⟨rfl,rfl,rfl⟩:=d;simp only[hZ]at f;obtain⟨rfl,_⟩:=f;simp only[de]at O;simp only[Rows.uptoBulk,Iv]at hb;have A:(w.take len).length=len:=by rw[cz];omega
  have l:E9 W (.slice (some a) len au) (w.take len):=ac ⟨a,au,by rw[A],fun i s r=>by
   have hi:i<len:=by rw[<- A];exact(a1.1 r).1
   rw[J i (by omega)];rw[bJ,ag hi]at r;rw[List.getD_eq_getElem?_getD,r];rfl⟩
  refine(Gp T _ (w.take len) W D C l (by omega) (by omega) (fun s h=>by have:=zo h;omega)).mono fun e b ⟨o,c⟩=>?_
  subst o;exact⟨_,rfl,fin b c⟩
theorem r7(os:Os)(o:os.Started)(H:Type)(a:TypeId×Value->H)(F:Stop.Interp):ReturnsInHanded {} Tryz.checked os 4 .any ((Rows.OpenSpec.upto Rows.cutsSpec).preRow a prog Tryz.f4 Rows.cutsUptoRow.domain false Rows.cutsUptoRow.laid) (((Rows.OpenSpec.upto Rows.cutsSpec).at F).post a prog Tryz.f4 false true false false):=by
 have m:∃(w:World) (tape:Tape) (i:Input),w.os=os/\(w.forCall tape i).Shaped prog/\i.vars=[]/\Input.okWide prog (w.forCall tape i) .any w.heap.size 4 i /\
   (Rows.OpenSpec.upto Rows.cutsSpec).preRow a prog Tryz.f4 Rows.cutsUptoRow.domain false Rows.cutsUptoRow.laid (w.forCall tape i).memory i.args/\({}:Assume).holds prog (lone (Frame.enter prog 4 i.args .normal) [] (w.forCall tape i)):=by
  have b:Input.okWideB prog ((World.laidAll prog os Rows.cutsUptoRow.laid).forCall (fun _ _=>0) ⟨#[],#[.string ⟨#[]⟩,.slice none 0 0],[]⟩) 4 ⟨#[],#[.string ⟨#[]⟩,.slice none 0 0],[]⟩=true:=by kernel_rfl
  refine⟨World.laidAll prog os Rows.cutsUptoRow.laid,fun _ _=>0,⟨#[],#[.string ⟨#[]⟩,.slice none 0 0],[]⟩,World.laidAll_os _ _ _,World.shaped_of_ZipB (by kernel_rfl) (by kernel_rfl),(Input.okWide_of_okWideB (base:=0) b).1,(Input.okWide_of_okWideB b).2,?_,?_⟩
  ·have n:DataW.whole a prog ((World.laidAll prog os Rows.cutsUptoRow.laid).forCall (fun _ _=>0) ⟨#[],#[.string ⟨#[]⟩,.slice none 0 0],[]⟩).memory Tryz.f4.params.toList Rows.cutsSpec.vars false #[Value.string ⟨#[]⟩,.slice none 0 0].toList 8=some ([.lit (.string []),.nil],[],[]):=by kernel_rfl
   exact OpenSpec.preRow_of_cond 8 n (by kernel_rfl) (fun k h=>by cases h;kernel_rfl) (by kernel_rfl) (by rw[MakeChecks.laidMetH_plain _ _ _ (by kernel_rfl)];exact laidMet_laidAll _ (by kernel_rfl) (by kernel_rfl))
  ·simp only[Assume.holds];exact⟨by simp,by simp,fun _=>Modest.zero,by simp,by simp⟩
 refine returnsInHanded_of_row (C:=Tryz.checked) (s:=Rows.OpenSpec.upto Rows.cutsSpec) RE o (by kernel_rfl) func4 m ?_;intro W base args c d before l f _ g j e _ _;exact xZ H a W base args c d before l f j (g _ rfl) e
end Go.Proofs.YtodagkkjfipbgaaGreatDoor
