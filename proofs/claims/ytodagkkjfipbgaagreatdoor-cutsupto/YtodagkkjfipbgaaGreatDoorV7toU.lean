import Derived.Shelf.Unicode.DecodeLastEight
import Derived.Laws.IdiomStrings
import Derived.Test.YtodagkkjfipbgaaGreatDoorSh2lone
import Derived.Test.YtodagkkjfipbgaaGreatDoorN12toV3
set_option maxRecDepth 100000
set_option maxHeartbeats 8000000
namespace Go.Proofs.YtodagkkjfipbgaaGreatDoor
open Go.RowKit Go.Maps Go.Lib Go.Proofs.Tryz
def mp(n b0 b1 b2:Nat):Bool :=
 if firstT b0%8<=n then true
 else if 1<n/\(b1<accLo (firstT b0/16)\/accHi (firstT b0/16)<b1)then true
 else if 2<n/\(b2<128\/191<b2)then true
 else false
def kj(s:ai):Bool:=if s.size=0 then false else mp s.size (s.get! 0).toNat (s.get! 1).toNat (s.get! 2).toNat
theorem l0{n b0 b1 b2 X a hi:Nat}(b:firstT b0=X)(d:accLo (X/16)=a)(c:accHi (X/16)=hi)(h:X%8<=n\/(1<n/\(b1<a\/hi<b1))\/(2<n/\(b2<128\/191<b2))):mp n b0 b1 b2=true:=by
 unfold mp;rw[b,d,c]
 repeat' split
 all_goals first|rfl|(exfalso;omega)
theorem l1{n b0 b1 b2 X a hi:Nat}(b:firstT b0=X)(d:accLo (X/16)=a)(c:accHi (X/16)=hi)(h:¬(X%8<=n\/(1<n/\(b1<a\/hi<b1))\/(2<n/\(b2<128\/191<b2)))):mp n b0 b1 b2=false:=by
 unfold mp;rw[b,d,c]
 repeat' split
 all_goals first|rfl|(exfalso;omega)
theorem Cz(s:ai)(w:World)(e:Utf8Tabs 2 3 w)(hlen:s.size<=4):Calls prog 189 #[.string s] w fun r w'=>r=.returned (.bool (kj s))/\Below w.heap.size w w':=by
 by_cases h0:s.size=0
 ·unfold kj;rw[ag h0];clear e;go_enter func189,ntmps189;go_wp2_with fail;go_ret;exact⟨rfl,aB _ _⟩
 ·unfold kj;rw[ae h0];have y:(0:Int)<(s.size:Int):=by omega
  obtain⟨j,t⟩:∃j,s.get! 0=j:=⟨_,rfl⟩;obtain⟨a,u⟩:∃a,s.get! 1=a:=⟨_,rfl⟩;obtain⟨b,v⟩:∃b,s.get! 2=b:=⟨_,rfl⟩;have x:s[0]'(by omega)=j:=by rw[<- t];exact(Utf8W.get!_of_lt s 0 (by omega)).symm
  have g:∀h:1<s.size,s[1]'h=a:=fun h=>by rw[<- u];exact(Utf8W.get!_of_lt s 1 h).symm
  have i:∀h:2<s.size,s[2]'h=b:=fun h=>by rw[<- v];exact(Utf8W.get!_of_lt s 2 h).symm
  rw[t,u,v];have z:=j.toNat_lt;have A:=a.toNat_lt;have B:=b.toNat_lt;have m:=e.1 j.toNat (by omega);rcases firstT_cases j.toNat with c|c|c|c|c|c|c|c|c
  ·rw[show mp s.size j.toNat a.toNat b.toNat=true from by unfold mp;rw[c,ag (by omega)]];rw[c]at m;clear e c g i;go_enter func189,ntmps189;go_wp2_with fail;go_ret;exact⟨rfl,aB _ _⟩
  ·rw[show mp s.size j.toNat a.toNat b.toNat=true from by unfold mp;rw[c,ag (by omega)]];rw[c]at m;clear e c g i;go_enter func189,ntmps189;go_wp2_with fail;go_ret;exact⟨rfl,aB _ _⟩
  ·rw[c]at m;have n:w.cell? ⟨3,0,none⟩=some (.int .u8 128):=(e.2 0 (by omega)).1;have o:w.cell? ⟨3,1,none⟩=some (.int .u8 191):=(e.2 0 (by omega)).2;have d:=@l0 s.size j.toNat a.toNat b.toNat 2 128 191 c rfl rfl;have f:=@l1 s.size j.toNat a.toNat b.toNat 2 128 191 c rfl rfl
   by_cases l:2<=s.size
   ·rw[d (by omega)];clear d f c e g i;go_enter func189,ntmps189;go_wp2_with fail;go_ret;exact⟨rfl,aB _ _⟩
   ·have hc:s.size=1:=by omega
    clear l
    skip<;>(
     try have p:=g (by omega)
     try have q:=i (by omega)
     try have g1:decide ((a.toNat:Int)<128)=true:=cG (by omega)
     try have g1:decide ((a.toNat:Int)<128)=false:=cH (by omega)
     try have g2:decide ((191:Int)<(a.toNat:Int))=true:=cG (by omega)
     try have g2:decide ((191:Int)<(a.toNat:Int))=false:=cH (by omega)
     try have g3:decide ((b.toNat:Int)<128)=true:=cG (by omega)
     try have g3:decide ((b.toNat:Int)<128)=false:=cH (by omega)
     try have g4:decide ((191:Int)<(b.toNat:Int))=true:=cG (by omega)
     try have g4:decide ((191:Int)<(b.toNat:Int))=false:=cH (by omega)
     first|rw[d (by omega)]|rw[f (by omega)]
     first|have k:s.size=1:=(by omega)|have k:s.size=2:=(by omega)|have k:s.size=3:=by omega
     clear d f c e g i;go_enter func189,ntmps189;go_wp2_with fail;go_quiet (fail);go_wp2_with fail;go_ret;exact⟨rfl,hy (af w _) _⟩)
  ·rw[c]at m;have n:w.cell? ⟨3,2,none⟩=some (.int .u8 160):=(e.2 1 (by omega)).1;have o:w.cell? ⟨3,3,none⟩=some (.int .u8 191):=(e.2 1 (by omega)).2;have d:=@l0 s.size j.toNat a.toNat b.toNat 19 160 191 c rfl rfl;have f:=@l1 s.size j.toNat a.toNat b.toNat 19 160 191 c rfl rfl
   by_cases l:3<=s.size
   ·rw[d (by omega)];clear d f c e g i;go_enter func189,ntmps189;go_wp2_with fail;go_ret;exact⟨rfl,aB _ _⟩
   ·have hc:s.size=1\/(s.size=2/\a.toNat<160)\/(s.size=2/\¬a.toNat<160/\191<a.toNat)\/(s.size=2/\¬a.toNat<160/\¬191<a.toNat):=by omega
    clear l;rcases hc with hc|hc|hc|hc<;>(
     try have p:=g (by omega)
     try have q:=i (by omega)
     try have g1:decide ((a.toNat:Int)<160)=true:=cG (by omega)
     try have g1:decide ((a.toNat:Int)<160)=false:=cH (by omega)
     try have g2:decide ((191:Int)<(a.toNat:Int))=true:=cG (by omega)
     try have g2:decide ((191:Int)<(a.toNat:Int))=false:=cH (by omega)
     try have g3:decide ((b.toNat:Int)<128)=true:=cG (by omega)
     try have g3:decide ((b.toNat:Int)<128)=false:=cH (by omega)
     try have g4:decide ((191:Int)<(b.toNat:Int))=true:=cG (by omega)
     try have g4:decide ((191:Int)<(b.toNat:Int))=false:=cH (by omega)
     first|rw[d (by omega)]|rw[f (by omega)]
     first|have k:s.size=1:=(by omega)|have k:s.size=2:=(by omega)|have k:s.size=3:=by omega
     clear d f c e g i;go_enter func189,ntmps189;go_wp2_with fail;go_quiet (fail);go_wp2_with fail;go_ret;exact⟨rfl,hy (af w _) _⟩)
  ·rw[c]at m;have n:w.cell? ⟨3,0,none⟩=some (.int .u8 128):=(e.2 0 (by omega)).1;have o:w.cell? ⟨3,1,none⟩=some (.int .u8 191):=(e.2 0 (by omega)).2;have d:=@l0 s.size j.toNat a.toNat b.toNat 3 128 191 c rfl rfl;have f:=@l1 s.size j.toNat a.toNat b.toNat 3 128 191 c rfl rfl
   by_cases l:3<=s.size
   ·rw[d (by omega)];clear d f c e g i;go_enter func189,ntmps189;go_wp2_with fail;go_ret;exact⟨rfl,aB _ _⟩
   ·have hc:s.size=1\/(s.size=2/\a.toNat<128)\/(s.size=2/\¬a.toNat<128/\191<a.toNat)\/(s.size=2/\¬a.toNat<128/\¬191<a.toNat):=by omega
    clear l;rcases hc with hc|hc|hc|hc<;>(
     try have p:=g (by omega)
     try have q:=i (by omega)
     try have g1:decide ((a.toNat:Int)<128)=true:=cG (by omega)
     try have g1:decide ((a.toNat:Int)<128)=false:=cH (by omega)
     try have g2:decide ((191:Int)<(a.toNat:Int))=true:=cG (by omega)
     try have g2:decide ((191:Int)<(a.toNat:Int))=false:=cH (by omega)
     try have g3:decide ((b.toNat:Int)<128)=true:=cG (by omega)
     try have g3:decide ((b.toNat:Int)<128)=false:=cH (by omega)
     try have g4:decide ((191:Int)<(b.toNat:Int))=true:=cG (by omega)
     try have g4:decide ((191:Int)<(b.toNat:Int))=false:=cH (by omega)
     first|rw[d (by omega)]|rw[f (by omega)]
     first|have k:s.size=1:=(by omega)|have k:s.size=2:=(by omega)|have k:s.size=3:=by omega
     clear d f c e g i;go_enter func189,ntmps189;go_wp2_with fail;go_quiet (fail);go_wp2_with fail;go_ret;exact⟨rfl,hy (af w _) _⟩)
  ·rw[c]at m;have n:w.cell? ⟨3,4,none⟩=some (.int .u8 128):=(e.2 2 (by omega)).1;have o:w.cell? ⟨3,5,none⟩=some (.int .u8 159):=(e.2 2 (by omega)).2;have d:=@l0 s.size j.toNat a.toNat b.toNat 35 128 159 c rfl rfl;have f:=@l1 s.size j.toNat a.toNat b.toNat 35 128 159 c rfl rfl
   by_cases l:3<=s.size
   ·rw[d (by omega)];clear d f c e g i;go_enter func189,ntmps189;go_wp2_with fail;go_ret;exact⟨rfl,aB _ _⟩
   ·have hc:s.size=1\/(s.size=2/\a.toNat<128)\/(s.size=2/\¬a.toNat<128/\159<a.toNat)\/(s.size=2/\¬a.toNat<128/\¬159<a.toNat):=by omega
    clear l;rcases hc with hc|hc|hc|hc<;>(
     try have p:=g (by omega)
     try have q:=i (by omega)
     try have g1:decide ((a.toNat:Int)<128)=true:=cG (by omega)
     try have g1:decide ((a.toNat:Int)<128)=false:=cH (by omega)
     try have g2:decide ((159:Int)<(a.toNat:Int))=true:=cG (by omega)
     try have g2:decide ((159:Int)<(a.toNat:Int))=false:=cH (by omega)
     try have g3:decide ((b.toNat:Int)<128)=true:=cG (by omega)
     try have g3:decide ((b.toNat:Int)<128)=false:=cH (by omega)
     try have g4:decide ((191:Int)<(b.toNat:Int))=true:=cG (by omega)
     try have g4:decide ((191:Int)<(b.toNat:Int))=false:=cH (by omega)
     first|rw[d (by omega)]|rw[f (by omega)]
     first|have k:s.size=1:=(by omega)|have k:s.size=2:=(by omega)|have k:s.size=3:=by omega
     clear d f c e g i;go_enter func189,ntmps189;go_wp2_with fail;go_quiet (fail);go_wp2_with fail;go_ret;exact⟨rfl,hy (af w _) _⟩)
  ·rw[c]at m;have n:w.cell? ⟨3,6,none⟩=some (.int .u8 144):=(e.2 3 (by omega)).1;have o:w.cell? ⟨3,7,none⟩=some (.int .u8 191):=(e.2 3 (by omega)).2;have d:=@l0 s.size j.toNat a.toNat b.toNat 52 144 191 c rfl rfl;have f:=@l1 s.size j.toNat a.toNat b.toNat 52 144 191 c rfl rfl
   by_cases l:4<=s.size
   ·rw[d (by omega)];clear d f c e g i;go_enter func189,ntmps189;go_wp2_with fail;go_ret;exact⟨rfl,aB _ _⟩
   ·have hc:s.size=1\/(s.size=2/\a.toNat<144)\/(s.size=2/\¬a.toNat<144/\191<a.toNat)\/(s.size=2/\¬a.toNat<144/\¬191<a.toNat)\/(s.size=3/\a.toNat<144)\/(s.size=3/\¬a.toNat<144/\191<a.toNat)\/(s.size=3/\¬a.toNat<144/\¬191<a.toNat/\b.toNat<128)\/(s.size=3/\¬a.toNat<144/\¬191<a.toNat/\¬b.toNat<128/\191<b.toNat)\/(s.size=3/\¬a.toNat<144/\¬191<a.toNat/\¬b.toNat<128/\¬191<b.toNat):=by omega
    clear l;rcases hc with hc|hc|hc|hc|hc|hc|hc|hc|hc<;>(
     try have p:=g (by omega)
     try have q:=i (by omega)
     try have g1:decide ((a.toNat:Int)<144)=true:=cG (by omega)
     try have g1:decide ((a.toNat:Int)<144)=false:=cH (by omega)
     try have g2:decide ((191:Int)<(a.toNat:Int))=true:=cG (by omega)
     try have g2:decide ((191:Int)<(a.toNat:Int))=false:=cH (by omega)
     try have g3:decide ((b.toNat:Int)<128)=true:=cG (by omega)
     try have g3:decide ((b.toNat:Int)<128)=false:=cH (by omega)
     try have g4:decide ((191:Int)<(b.toNat:Int))=true:=cG (by omega)
     try have g4:decide ((191:Int)<(b.toNat:Int))=false:=cH (by omega)
     first|rw[d (by omega)]|rw[f (by omega)]
     first|have k:s.size=1:=(by omega)|have k:s.size=2:=(by omega)|have k:s.size=3:=by omega
     clear d f c e g i;go_enter func189,ntmps189;go_wp2_with fail;go_quiet (fail);go_wp2_with fail;go_ret;exact⟨rfl,hy (af w _) _⟩)
  ·rw[c]at m;have n:w.cell? ⟨3,0,none⟩=some (.int .u8 128):=(e.2 0 (by omega)).1;have o:w.cell? ⟨3,1,none⟩=some (.int .u8 191):=(e.2 0 (by omega)).2;have d:=@l0 s.size j.toNat a.toNat b.toNat 4 128 191 c rfl rfl;have f:=@l1 s.size j.toNat a.toNat b.toNat 4 128 191 c rfl rfl
   by_cases l:4<=s.size
   ·rw[d (by omega)];clear d f c e g i;go_enter func189,ntmps189;go_wp2_with fail;go_ret;exact⟨rfl,aB _ _⟩
   ·have hc:s.size=1\/(s.size=2/\a.toNat<128)\/(s.size=2/\¬a.toNat<128/\191<a.toNat)\/(s.size=2/\¬a.toNat<128/\¬191<a.toNat)\/(s.size=3/\a.toNat<128)\/(s.size=3/\¬a.toNat<128/\191<a.toNat)\/(s.size=3/\¬a.toNat<128/\¬191<a.toNat/\b.toNat<128)\/(s.size=3/\¬a.toNat<128/\¬191<a.toNat/\¬b.toNat<128/\191<b.toNat)\/(s.size=3/\¬a.toNat<128/\¬191<a.toNat/\¬b.toNat<128/\¬191<b.toNat):=by omega
    clear l;rcases hc with hc|hc|hc|hc|hc|hc|hc|hc|hc<;>(
     try have p:=g (by omega)
     try have q:=i (by omega)
     try have g1:decide ((a.toNat:Int)<128)=true:=cG (by omega)
     try have g1:decide ((a.toNat:Int)<128)=false:=cH (by omega)
     try have g2:decide ((191:Int)<(a.toNat:Int))=true:=cG (by omega)
     try have g2:decide ((191:Int)<(a.toNat:Int))=false:=cH (by omega)
     try have g3:decide ((b.toNat:Int)<128)=true:=cG (by omega)
     try have g3:decide ((b.toNat:Int)<128)=false:=cH (by omega)
     try have g4:decide ((191:Int)<(b.toNat:Int))=true:=cG (by omega)
     try have g4:decide ((191:Int)<(b.toNat:Int))=false:=cH (by omega)
     first|rw[d (by omega)]|rw[f (by omega)]
     first|have k:s.size=1:=(by omega)|have k:s.size=2:=(by omega)|have k:s.size=3:=by omega
     clear d f c e g i;go_enter func189,ntmps189;go_wp2_with fail;go_quiet (fail);go_wp2_with fail;go_ret;exact⟨rfl,hy (af w _) _⟩)
  ·rw[c]at m;have n:w.cell? ⟨3,8,none⟩=some (.int .u8 128):=(e.2 4 (by omega)).1;have o:w.cell? ⟨3,9,none⟩=some (.int .u8 143):=(e.2 4 (by omega)).2;have d:=@l0 s.size j.toNat a.toNat b.toNat 68 128 143 c rfl rfl;have f:=@l1 s.size j.toNat a.toNat b.toNat 68 128 143 c rfl rfl
   by_cases l:4<=s.size
   ·rw[d (by omega)];clear d f c e g i;go_enter func189,ntmps189;go_wp2_with fail;go_ret;exact⟨rfl,aB _ _⟩
   ·have hc:s.size=1\/(s.size=2/\a.toNat<128)\/(s.size=2/\¬a.toNat<128/\143<a.toNat)\/(s.size=2/\¬a.toNat<128/\¬143<a.toNat)\/(s.size=3/\a.toNat<128)\/(s.size=3/\¬a.toNat<128/\143<a.toNat)\/(s.size=3/\¬a.toNat<128/\¬143<a.toNat/\b.toNat<128)\/(s.size=3/\¬a.toNat<128/\¬143<a.toNat/\¬b.toNat<128/\191<b.toNat)\/(s.size=3/\¬a.toNat<128/\¬143<a.toNat/\¬b.toNat<128/\¬191<b.toNat):=by omega
    clear l;rcases hc with hc|hc|hc|hc|hc|hc|hc|hc|hc<;>(
     try have p:=g (by omega)
     try have q:=i (by omega)
     try have g1:decide ((a.toNat:Int)<128)=true:=cG (by omega)
     try have g1:decide ((a.toNat:Int)<128)=false:=cH (by omega)
     try have g2:decide ((143:Int)<(a.toNat:Int))=true:=cG (by omega)
     try have g2:decide ((143:Int)<(a.toNat:Int))=false:=cH (by omega)
     try have g3:decide ((b.toNat:Int)<128)=true:=cG (by omega)
     try have g3:decide ((b.toNat:Int)<128)=false:=cH (by omega)
     try have g4:decide ((191:Int)<(b.toNat:Int))=true:=cG (by omega)
     try have g4:decide ((191:Int)<(b.toNat:Int))=false:=cH (by omega)
     first|rw[d (by omega)]|rw[f (by omega)]
     first|have k:s.size=1:=(by omega)|have k:s.size=2:=(by omega)|have k:s.size=3:=by omega
     clear d f c e g i;go_enter func189,ntmps189;go_wp2_with fail;go_quiet (fail);go_wp2_with fail;go_ret;exact⟨rfl,hy (af w _) _⟩)
-- END full_any
end Go.Proofs.YtodagkkjfipbgaaGreatDoor
namespace Go.Proofs.YtodagkkjfipbgaaGreatDoor
open Go.RowKit Go.Proofs.Tryz
def p1(w:World)(b:Nat)(T:ai)(s:RS)(a c vL:Value):Prop :=
 w.heap[b]?=some (.cells (jj T s.at_ s.err s.place a c vL s.atoms s.nest) 35 (0,0))
theorem fe(b:Nat)(T:ai)(s:RS)(a c vL:Value)(d f:Int)(w:World)(h:p1 w b T s a c vL):Calls prog 46 #[.pointer (some ⟨b,0,none⟩),.int .i64 d,.int .i64 f] w fun e w'=>e=.returned (.tuple #[])/\p1 w' b T (s.fail d f) a c vL/\bj (fun k=>k=b) w w':=by
 by_cases h0:s.err=0
 ·have hb:w.heap[b]?=some (.cells (jj T s.at_ 0 s.place a c vL s.atoms s.nest) 35 (0,0)):=by rw[<- h0];exact h
  refine(Lq b T _ _ a c vL _ _ d f w hb).mono ?_;rintro e w' ⟨rfl,g,hc⟩;refine⟨rfl,?_,hc⟩;unfold RS.fail;rw[ag h0];exact g
 ·refine(NV b T _ _ _ a c vL _ _ d f w h (by simpa using h0)).mono ?_;rintro e w' ⟨rfl,rfl⟩;refine⟨rfl,?_,bj.refl _ _⟩;unfold RS.fail;rw[ae h0];exact h
theorem Nw(b:Nat)(T:ai)(s:RS)(a c vL:Value)(w:World)(h:p1 w b T s a c vL)(d:T.size<=1000)(f:s.at_<=T.size):Calls prog 47 #[.pointer (some ⟨b,0,none⟩)] w fun e w'=>e=.returned (.tuple #[.string (tok T s.at_),.int .i64 (s.pos T:Nat)])/\p1 w' b T (s.aH T) a c vL/\bj (fun k=>k=b) w w' :=
 BQ b T s.at_ s.err s.place a c vL s.atoms s.nest w h d f
theorem tj(b:Nat)(T:ai)(s:RS)(a c vL:Value)(w:World)(h:p1 w b T s a c vL)(d:T.size<=1000)(f:s.at_<=T.size):Calls prog 91 #[.pointer (some ⟨b,0,none⟩)] w fun e w'=>e=.returned (.tuple #[.string (tok T s.at_),.int .i64 (s.pos T:Nat)])/\p1 w' b T (s.take T) a c vL/\bj (fun k=>k=b) w w' :=
 Jl b T s.at_ s.err s.place a c vL s.atoms s.nest w h d f
theorem c0(T:ai)(s:RS)(b:s.at_<=T.size):(s.take T).at_<=T.size/\s.at_<=(s.take T).at_/\(s.pos T<T.size->s.at_<(s.take T).at_)/\s.pos T<=T.size:=by
 have h1:=gH T s.at_;have a:=eQ T (skip T s.at_);simp only[RS.take,RS.pos];omega
theorem gJ(T:ai)(s:RS)(a:s.at_<=T.size):(s.aH T).at_<=T.size/\s.at_<=(s.aH T).at_:=by
 have h1:=gH T s.at_;simp only[RS.aH];omega
theorem MV(b:Nat)(T:ai)(s:RS)(a c vL:Value)(x:ai)(w:World)(h:p1 w b T s a c vL)(i:T.size<=1000)(j:s.at_<=T.size):Calls prog 94 #[.pointer (some ⟨b,0,none⟩),.string x] w fun e w'=>e=.returned (.tuple #[])/\p1 w' b T (s.want T x.toList) a c vL/\bj (fun k=>k=b) w w':=by
 by_cases d:s.tk T=x.toList
 ·have n:((tok T s.at_).toList==x.toList)=true:=by simpa[RS.tk]using d
  go_enter func94,ntmps94;go_wp2_with (go_at_call 91;refine(tj b T s a c vL _ h i j).mono ?_;rintro e o ⟨rfl,f,g⟩)
  go_end0
  exact⟨rfl,by unfold RS.want;rw[ag d];exact f,g⟩
 ·have n:((tok T s.at_).toList==x.toList)=false:=by simpa[RS.tk]using d
  go_enter func94,ntmps94;go_wp2_with (first|(go_at_call 91;refine(tj b T s a c vL _ h i j).mono ?_;rintro e o ⟨rfl,f,g⟩)|(go_at_call 46;refine(fe b T (s.take T) a c vL _ _ _ f).mono ?_;rintro e p ⟨rfl,l,m⟩))
  go_end0
  exact⟨rfl,by unfold RS.want;rw[ae d];exact l,g.trans m⟩
theorem nC(s:ai)(k:Nat)(h:k<s.size):s.toList.take (k+1)=s.toList.take k++[s[k]]:=by
 rw[bM,jh (by simpa using h)];rfl
theorem cZ(s:ai):s.toList.length=s.size:=by rw[bM];rfl
theorem PM(c:Nat)(d:Int)(h:RS.n7 c=some d):0<=d/\d<=15:=by
 unfold RS.n7 at h;split at h
 ·simp at h;omega
 ·split at h
  ·simp at h;omega
  ·split at h
   ·simp at h;omega
   ·simp at h
theorem j0(l:List UInt8)(c:UInt8):RS.cg (l++[c])=match RS.n7 c.toNat with|some d=>16*RS.cg l+d|none=>RS.cg l:=by
 unfold RS.cg;rw[e0];rfl
theorem nW(k:Nat):∀l:List UInt8,l.length<=k->0<=RS.cg l/\RS.cg l<16^k:=by
 induction k with
 | zero=>intro l h
         have e:l=[]:=hj (by omega);subst e;simp[RS.cg]
 | succ k b =>
  intro l h
  by_cases a:l=[]
  ·subst a;simp[RS.cg];exact Int.pow_pos (by omega)
  ·obtain⟨m,c,rfl⟩:∃m c,l=m++[c]:=⟨l.dropLast,l.getLast a,(List.dropLast_concat_getLast a).symm⟩;have:=b m (by simp at h;omega);rw[j0];cases hd:RS.n7 c.toNat with
   | none=>simp only;rw[Int.pow_succ];omega
   | some d=>have:=PM _ _ hd;simp only;rw[Int.pow_succ];omega
theorem kh(l:List UInt8)(c:UInt8):RS.cY (l++[c])=(RS.cY l&&(RS.n7 c.toNat).isSome):=by
 unfold RS.cY;simp
theorem qF(s:RS)(e p:Int)(a:e≠0):(s.fail e p).fail e p=s.fail e p:=by
 unfold RS.fail;by_cases h:s.err=0<;>simp[h,a]
def lw(s:RS)(p:Int)(l:List UInt8):RS:=if RS.cY l=true then s else s.fail 2 p
theorem wJ{s:RS}{p:Int}{l:List UInt8}{c:UInt8}{d:Int}(h:RS.n7 c.toNat=some d):lw s p (l++[c])=lw s p l/\RS.cg (l++[c])=16*RS.cg l+d:=by
 unfold lw;rw[kh,j0,h];simp
theorem La{s:RS}{p:Int}{l:List UInt8}{c:UInt8}(h:RS.n7 c.toNat=none):lw s p (l++[c])=(lw s p l).fail 2 p/\RS.cg (l++[c])=RS.cg l:=by
 unfold lw;rw[kh,j0,h];refine⟨?_,by simp⟩;cases RS.cY l<;>simp[qF]
theorem ki(s:RS)(p:Int)(l:List UInt8):(lw s p l).fail 2 p=s.fail 2 p:=by
 unfold lw;split
 ·rfl
 ·exact qF _ _ _ (by omega)
theorem pB{T:ai}{s:RS}(h:6<(s.tk T).length):s.hex T=(s.take T).fail 2 (s.pos T)/\RS.fX (s.tk T)=0:=by
 unfold RS.hex RS.fX;simp[h]
theorem HV{T:ai}{s:RS}(h:¬6<(s.tk T).length)(a:s.tk T≠[])(b:¬1114111<RS.cg (s.tk T)):s.hex T=lw (s.take T) (s.pos T) (s.tk T)/\RS.fX (s.tk T)=RS.cg (s.tk T):=by
 unfold RS.hex RS.fX lw;simp[h,a,b]
theorem NP{T:ai}{s:RS}(h:¬6<(s.tk T).length)(a:s.tk T≠[])(b:1114111<RS.cg (s.tk T)):s.hex T=(lw (s.take T) (s.pos T) (s.tk T)).fail 5 (s.pos T)/\RS.fX (s.tk T)=RS.cg (s.tk T):=by
 unfold RS.hex RS.fX lw;simp[h,a,b]
theorem Cr{T:ai}{s:RS}(a:s.tk T=[]):s.hex T=(s.take T).fail 2 (s.pos T)/\RS.fX (s.tk T)=0/\RS.cg (s.tk T)=0:=by
 unfold RS.hex RS.fX;simp[a,RS.cg]
theorem Ib(c:Nat):(48<=c/\c<=57/\RS.n7 c=some ((c:Int)-48))\/(97<=c/\c<=102/\RS.n7 c=some ((c:Int)-97+10))\/(65<=c/\c<=70/\RS.n7 c=some ((c:Int)-65+10)) \/(¬(48<=c/\c<=57)/\¬(97<=c/\c<=102)/\¬(65<=c/\c<=70)/\RS.n7 c=none):=by
 unfold RS.n7
 by_cases h1:48<=c/\c<=57
 ·left;simp[h1]
 ·by_cases a:97<=c/\c<=102
  ·right;left;rw[ae h1,ag a];simp[a]
  ·by_cases b:65<=c/\c<=70
   ·right;right;left;rw[ae h1,ae a,ag b];simp[b]
   ·right;right;right;rw[ae h1,ae a,ae b];exact⟨h1,a,b,rfl⟩
theorem PD(b:Nat)(T:ai)(s:RS)(j m vL:Value)(w:World)(h:p1 w b T s j m vL)(N:T.size<=1000)(I:s.at_<=T.size):Calls prog 147 #[.pointer (some ⟨b,0,none⟩)] w fun e w'=>e=.returned (.tuple #[.int .i64 (RS.fX (s.tk T)),.int .i64 (s.pos T:Nat)])/\p1 w' b T (s.hex T) j m vL/\bj (fun k=>k=b) w w':=by
 obtain⟨t,A⟩:∃t,t=tok T s.at_:=⟨_,rfl⟩;have a2:t.size<=1000:=by rw[A];have:=(vy T s.at_ I).2;omega
 have J:s.tk T=t.toList:=by rw[A];rfl
 have L:Hid (t=tok T s.at_):=A;have u:Hid (s.tk T=t.toList):=J;clear A J;go_enter func147,ntmps147;go_wp2_with (go_at_call 91;refine(tj b T s j m vL _ h N I).mono ?_;rintro e a5 ⟨rfl,O,S⟩;rw[<- L.out])
 go_loopg [6,7] 7 (fun g n i wr=>∃k:Nat,g=7-k/\k<=6/\k<=t.size/\i=.int .i64 k/\n=.int .i64 (RS.cg (t.toList.take k))/\p1 wr b T (lw (s.take T) (s.pos T) (t.toList.take k)) j m vL/\bj (fun k=>k=b) w wr)
 case atStart=>exact⟨0,rfl,by omega,by omega,rfl,rfl,O,S⟩
 case round =>
  obtain⟨k,rfl,Z,a0,rfl,rfl,f,o⟩:=hrel;have C:=nW 6 (t.toList.take k) (by rw[cz];omega);have Q:=C.1;have R:RS.cg (t.toList.take k)<16777216:=C.2;clear C
  by_cases V:k<t.size
  ·have v:Hid (t.toList.take (k+1)=t.toList.take k++[t[k]]):=nC t k V;have Y:t[k].toNat<256:=t[k].toNat_lt;rcases Ib t[k].toNat with⟨h1,z,hd⟩|⟨h1,z,hd⟩|⟨h1,z,hd⟩|⟨h1,z,M,hd⟩
   ·have x:Hid (RS.n7 t[k].toNat=some ((t[k].toNat:Int)-48)):=hd;clear hd
    by_cases D:5<k
    ·go_wp2_with (go_at_call 46;refine(fe b T _ j m vL _ _ _ f).mono ?_;rintro e r ⟨rfl,c,d⟩)
     go_ret2
     have a:=pB (T:=T) (s:=s) (by rw[u.out,cZ];omega);exact⟨ox a.2.symm,by rw[a.1,<- ki _ _ (t.toList.take k)];exact c,o.trans d⟩
    ·go_wp2_with (go_at_call 46;refine(fe b T _ j m vL _ _ _ f).mono ?_;rintro e r ⟨rfl,c,d⟩);go_roundg (7-(k+1))
     case measure=>omega
     case rel =>
      have q:=wJ (s:=s.take T) (p:=s.pos T) (l:=t.toList.take k) x.out;refine⟨k+1,rfl,by omega,by omega,by go_num,?_,by rw[v.out,q.1];exact f,o⟩;rw[v.out,q.2];congr 1;omega
   ·have x:Hid (RS.n7 t[k].toNat=some ((t[k].toNat:Int)-97+10)):=hd;clear hd
    by_cases D:5<k
    ·go_wp2_with (go_at_call 46;refine(fe b T _ j m vL _ _ _ f).mono ?_;rintro e r ⟨rfl,c,d⟩)
     go_ret2
     have a:=pB (T:=T) (s:=s) (by rw[u.out,cZ];omega);exact⟨ox a.2.symm,by rw[a.1,<- ki _ _ (t.toList.take k)];exact c,o.trans d⟩
    ·go_wp2_with (go_at_call 46;refine(fe b T _ j m vL _ _ _ f).mono ?_;rintro e r ⟨rfl,c,d⟩);go_roundg (7-(k+1))
     case measure=>omega
     case rel =>
      have q:=wJ (s:=s.take T) (p:=s.pos T) (l:=t.toList.take k) x.out;refine⟨k+1,rfl,by omega,by omega,by go_num,?_,by rw[v.out,q.1];exact f,o⟩;rw[v.out,q.2];congr 1;omega
   ·have x:Hid (RS.n7 t[k].toNat=some ((t[k].toNat:Int)-65+10)):=hd;clear hd
    by_cases D:5<k
    ·go_wp2_with (go_at_call 46;refine(fe b T _ j m vL _ _ _ f).mono ?_;rintro e r ⟨rfl,c,d⟩)
     go_ret2
     have a:=pB (T:=T) (s:=s) (by rw[u.out,cZ];omega);exact⟨ox a.2.symm,by rw[a.1,<- ki _ _ (t.toList.take k)];exact c,o.trans d⟩
    ·go_wp2_with (go_at_call 46;refine(fe b T _ j m vL _ _ _ f).mono ?_;rintro e r ⟨rfl,c,d⟩);go_roundg (7-(k+1))
     case measure=>omega
     case rel =>
      have q:=wJ (s:=s.take T) (p:=s.pos T) (l:=t.toList.take k) x.out;refine⟨k+1,rfl,by omega,by omega,by go_num,?_,by rw[v.out,q.1];exact f,o⟩;rw[v.out,q.2];congr 1;omega
   ·have x:Hid (RS.n7 t[k].toNat=none):=hd;clear hd;have y:t[k].toNat<48\/(58<=t[k].toNat/\t[k].toNat<=64)\/(71<=t[k].toNat/\t[k].toNat<=96)\/103<=t[k].toNat:=by omega
    clear h1 z M;rcases y with y|⟨y,W⟩|⟨y,W⟩|y
    all_goals
     by_cases D:5<k
     ·go_wp2_with (first|(go_at_call 46;refine(fe b T _ j m vL _ _ _ c).mono ?_;rintro e w3 ⟨rfl,P,U⟩)|(go_at_call 46;refine(fe b T _ j m vL _ _ _ f).mono ?_;rintro e r ⟨rfl,c,d⟩))
      go_ret2
      have a:=pB (T:=T) (s:=s) (by rw[u.out,cZ];omega);exact⟨ox a.2.symm,by rw[a.1,<- ki _ _ (t.toList.take k),<- qF _ _ _ (by omega)];exact P,(o.trans d).trans U⟩
     ·go_wp2_with (go_at_call 46;refine(fe b T _ j m vL _ _ _ f).mono ?_;rintro e r ⟨rfl,c,d⟩);go_roundg (7-(k+1))
      case measure=>omega
      case rel =>
       have q:=La (s:=s.take T) (p:=s.pos T) (l:=t.toList.take k) x.out;exact⟨k+1,rfl,by omega,by omega,by go_num,by rw[v.out,q.2],by rw[v.out,q.1];exact c,o.trans d⟩
  ·have a1:k=t.size:=by omega
   have H:t.toList.take k=s.tk T:=by rw[u.out,gj (by rw[cZ];omega)]
   rw[H]at f Q R ⊢;clear H;have hlen:Hid (¬6<(s.tk T).length):=by show ¬_;rw[u.out,cZ];omega
   by_cases E:t.toList=[]
   ·have a:=Cr (T:=T) (s:=s) (by rw[u.out];exact E);have G:=And.intro a.1 (And.intro a.2.1 a.2.2);have a4:RS.cg (s.tk T)<=0:=by rw[a.2.2];omega
    have B:Hid (s.hex T=(s.take T).fail 2 (s.pos T)/\RS.fX (s.tk T)=0/\RS.cg (s.tk T)=0):=G;clear a G;go_wp2_with (go_at_call 46;refine(fe b T _ j m vL _ _ _ f).mono ?_;rintro e r ⟨rfl,c,d⟩)
    go_ret2
    exact⟨ox (B.out.2.2.trans B.out.2.1.symm),by rw[B.out.1,<- ki _ _ (s.tk T)];exact c,o.trans d⟩
   ·have K:s.tk T≠[]:=by rw[u.out];exact E
    have F:Hid (s.tk T≠[]):=K;have X:t.toList.isEmpty=false:=by simpa using E
    clear K
    by_cases a3:1114111<RS.cg (s.tk T)
    ·go_wp2_with (go_at_call 46;refine(fe b T _ j m vL _ _ _ f).mono ?_;rintro e r ⟨rfl,c,d⟩)
     go_ret2
     have a:=NP hlen.out F.out (by assumption);exact⟨ox a.2.symm,by rw[a.1];exact c,o.trans d⟩
    ·go_wp2_with (go_at_call 46;refine(fe b T _ j m vL _ _ _ f).mono ?_;rintro e r ⟨rfl,c,d⟩)
     go_ret2
     have a:=HV hlen.out F.out (by omega);exact⟨ox a.2.symm,by rw[a.1];exact f,o⟩
def Sh(c:UInt8):Nat:=(bits BinOp.or IntKind.u8 c.toNat 32).toNat
theorem NE:∀c:Fin 256,bits BinOp.or IntKind.u8 (c.val:Int) 32=(c.val ||| 32:Nat):=by decide +kernel
theorem qt:∀c:Fin 256,(65<=c.val/\c.val<=90/\c.val ||| 32=c.val+32)\/(97<=c.val/\c.val<=122/\c.val ||| 32=c.val)\/(¬(65<=c.val/\c.val<=90)/\¬(97<=c.val/\c.val<=122)/\(c.val ||| 32<97\/122<c.val ||| 32)):=by decide +kernel
theorem nT(c:UInt8)(w:World):Calls prog 234 #[.int .u8 c.toNat] w fun e w'=>e=.returned (.int .u8 (c.toNat ||| 32:Nat))/\w'=w:=by
 have h:=NE ⟨c.toNat,c.toNat_lt⟩;simp only at h;go_enter func234,ntmps234;go_wp2;go_ret;exact⟨rfl,rfl⟩
theorem ww(c:UInt8)(w:World)(h1:65<=c.toNat)(a:c.toNat<=90):Calls prog 234 #[.int .u8 c.toNat] w fun e w'=>e=.returned (.int .u8 ((c.toNat:Int)+32))/\w'=w:=by
 refine(nT c w).mono ?_;rintro e w' ⟨rfl,rfl⟩;refine⟨kH ?_,rfl⟩;have:=qt ⟨c.toNat,c.toNat_lt⟩;simp only at this;omega
theorem wx(c:UInt8)(w:World)(h1:97<=c.toNat)(a:c.toNat<=122):Calls prog 234 #[.int .u8 c.toNat] w fun e w'=>e=.returned (.int .u8 (c.toNat:Int))/\w'=w:=by
 refine(nT c w).mono ?_;rintro e w' ⟨rfl,rfl⟩;refine⟨kH ?_,rfl⟩;have:=qt ⟨c.toNat,c.toNat_lt⟩;simp only at this;omega
theorem KH(c:UInt8)(w:World)(r:Nat)(a:c.toNat ||| 32=r):Calls prog 234 #[.int .u8 c.toNat] w fun e w'=>e=.returned (.int .u8 (r:Int))/\w'=w:=by
 refine(nT c w).mono ?_;rintro e w' ⟨rfl,rfl⟩;exact⟨by rw[a],rfl⟩
theorem KG(w:World):Calls prog 234 #[.int .u8 95] w fun e w'=>e=.returned (.int .u8 127)/\w'=w:=by
 refine Calls.mono (nT 95 w) ?_;rintro e w' ⟨rfl,rfl⟩;exact⟨rfl,rfl⟩
theorem Pr(c:UInt8)(h1:¬(65<=c.toNat/\c.toNat<=90))(a:¬(97<=c.toNat/\c.toNat<=122)):∃r,c.toNat ||| 32=r/\(r<97\/122<r):=by
 have:=qt ⟨c.toNat,c.toNat_lt⟩;simp only at this;exact⟨_,rfl,by omega⟩
theorem nV{l:List UInt8}{c:UInt8}(hc:c∈l)(hd:RS.n7 c.toNat=none):RS.cY l=false:=by
 unfold RS.cY;rw[List.all_eq_false];exact⟨c,hc,by rw[hd];simp⟩
theorem nS(s:ai)(k:Nat)(h:k<s.size):s[k]∈s.toList:=by
 rw[bM];exact bl (l:=s.data.toList) (n:=k) (by simpa using h)
theorem BT(s:ai)(w:World)(a:s.toList=[]):Calls prog 219 #[.string s,.int .i64 16,.int .i64 32] w fun e w'=>e=.returned (.tuple #[.int .u64 0,.iface 368 (.int .i64 2)])/\w'=w:=by
 go_enter func219,ntmps219;go_wp2_with fail
 go_ret2
 exact⟨rfl,rfl⟩
def PU(s:ai)(e:Ending):Prop :=
 (e=.returned (.tuple #[.int .u64 (RS.cg s.toList),.nilIface])/\RS.cY s.toList=true/\RS.cg s.toList<=4294967295) \/
 (e=.returned (.tuple #[.int .u64 0,.iface 368 (.int .i64 2)])/\RS.cY s.toList=false) \/
 (e=.returned (.tuple #[.int .u64 4294967295,.iface 368 (.int .i64 1)])/\6<s.toList.length)
theorem BU(s:ai)(w:World)(K:s.toList.isEmpty=false)(J:s.size<=1000):Calls prog 219 #[.string s,.int .i64 16,.int .i64 32] w fun e w'=>PU s e/\Below w.heap.size w w':=by
 have D:=fun w s=>run_bytes_of_string (P:=prog) w 9 63 5 s (by kernel_rfl) (by kernel_rfl) (by kernel_rfl)
 go_enter func219,ntmps219
 go_upto_region 35 with fail
 go_cut [98,99,100,101] (fun _ H G F x=>∃au,H=.slice (some ⟨w.heap.size,0,none⟩) s.size au/\G=.int .i64 s.size/\F=.int .i64 0/\Hid (∀i (hi:i<s.size),x.cell? ⟨w.heap.size,i,none⟩=some (.int .u8 s[i].toNat))/\Below w.heap.size w x)
 case first =>
  go_wp2_with fail;go_meet;refine⟨_,rfl,rfl,rfl,?_,?_⟩
  ·intro i hi;show (w.alloc _).cell? _=_;rw[World.cell?_alloc_mark];exact bytesRow_at s _ i hi
  ·exact((aB _ _).alloc (ar _) _).drew
 case rest =>
  obtain⟨au,rfl,rfl,rfl,y,hb⟩:=hcut;clear D;go_wp2_with fail
  go_loop [12,13,101] (fun u n i=>∃k:Nat,k<=s.size/\i=.int .i64 k/\u=.bool false/\n=.int .u64 (RS.cg (s.toList.take k))/\Hid (RS.cY (s.toList.take k)=true)/\0<=RS.cg (s.toList.take k)/\RS.cg (s.toList.take k)<=4294967295) (fun _ _ i=>s.size-(intOf i).toNat)
  case atStart=>exact⟨0,by omega,rfl,rfl,rfl,rfl,by show (0:Int)<=0;omega,by show (0:Int)<=4294967295;omega⟩
  case round =>
   obtain⟨k,I,rfl,rfl,rfl,m,E,t⟩:=hrel
   by_cases d:k<s.size
   ·have B:=y.out k d;have A:s[k].toNat<256:=s[k].toNat_lt;have C:(48<=s[k].toNat/\s[k].toNat<=57)\/(65<=s[k].toNat/\s[k].toNat<=70)\/(97<=s[k].toNat/\s[k].toNat<=102)\/(71<=s[k].toNat/\s[k].toNat<=90)\/(103<=s[k].toNat/\s[k].toNat<=122)\/s[k].toNat=95\/s[k].toNat<48\/(58<=s[k].toNat/\s[k].toNat<=64)\/(91<=s[k].toNat/\s[k].toNat<=94)\/(96<=s[k].toNat/\s[k].toNat<=96)\/123<=s[k].toNat:=by omega
    rcases C with⟨h1,c⟩|⟨h1,c⟩|⟨h1,c⟩|⟨h1,c⟩|⟨h1,c⟩|h1|h1|⟨h1,c⟩|⟨h1,c⟩|⟨h1,c⟩|h1
    ·have a:RS.n7 s[k].toNat=some ((s[k].toNat:Int)-48):=by unfold RS.n7;rw[ag ⟨h1,c⟩]
     have f:Hid (s.toList.take (k+1)=s.toList.take k++[s[k]]):=nC s k d;have b:Hid (RS.cg (s.toList.take (k+1))=16*RS.cg (s.toList.take k)+((s[k].toNat:Int)-48)):=by show _=_;rw[f.out,j0,a]
     have h:Hid (RS.cY (s.toList.take (k+1))=true):=by show _=_;rw[f.out,kh,m.out,a];rfl
     clear a
     by_cases q:16*RS.cg (s.toList.take k)+((s[k].toNat:Int)-48)<=4294967295
     ·go_wp2_with fail
      go_round
      case rel=>exact⟨k+1,by omega,by go_num,rfl,by rw[b.out];congr 1;omega,h,by rw[b.out];omega,by rw[b.out];omega⟩
      case measure=>simp[intOf];omega
     ·have l:Hid (6<s.toList.length):=by
       show 6<s.toList.length;rw[cZ];rcases cF k 6 with j|j
       ·exfalso;have:=(nW 6 (s.toList.take (k+1)) (by rw[cz];omega)).2;rw[b.out]at this;have e:(16:Int)^6=16777216:=by decide
        omega
       ·omega
      go_wp2_with fail
      go_ret2
      exact⟨ac (ac ⟨rfl,l.out⟩),hb⟩
    ·have a:RS.n7 s[k].toNat=some ((s[k].toNat:Int)-65+10):=by unfold RS.n7;rw[ae (by omega),ae (by omega),ag ⟨h1,c⟩]
     have f:Hid (s.toList.take (k+1)=s.toList.take k++[s[k]]):=nC s k d;have b:Hid (RS.cg (s.toList.take (k+1))=16*RS.cg (s.toList.take k)+((s[k].toNat:Int)-65+10)):=by show _=_;rw[f.out,j0,a]
     have h:Hid (RS.cY (s.toList.take (k+1))=true):=by show _=_;rw[f.out,kh,m.out,a];rfl
     clear a
     by_cases q:16*RS.cg (s.toList.take k)+((s[k].toNat:Int)-65+10)<=4294967295
     ·go_wp2_with (go_at_call 234;refine(ww _ _ (by omega) (by omega)).mono ?_;rintro e w' ⟨rfl,rfl⟩)
      go_round
      case rel=>exact⟨k+1,by omega,by go_num,rfl,by rw[b.out];congr 1;omega,h,by rw[b.out];omega,by rw[b.out];omega⟩
      case measure=>simp[intOf];omega
     ·have l:Hid (6<s.toList.length):=by
       show 6<s.toList.length;rw[cZ];rcases cF k 6 with j|j
       ·exfalso;have:=(nW 6 (s.toList.take (k+1)) (by rw[cz];omega)).2;rw[b.out]at this;have e:(16:Int)^6=16777216:=by decide
        omega
       ·omega
      go_wp2_with (go_at_call 234;refine(ww _ _ (by omega) (by omega)).mono ?_;rintro e w' ⟨rfl,rfl⟩)
      go_ret2
      exact⟨ac (ac ⟨rfl,l.out⟩),hb⟩
    ·have a:RS.n7 s[k].toNat=some ((s[k].toNat:Int)-97+10):=by unfold RS.n7;rw[ae (by omega),ag ⟨h1,c⟩]
     have f:Hid (s.toList.take (k+1)=s.toList.take k++[s[k]]):=nC s k d;have b:Hid (RS.cg (s.toList.take (k+1))=16*RS.cg (s.toList.take k)+((s[k].toNat:Int)-97+10)):=by show _=_;rw[f.out,j0,a]
     have h:Hid (RS.cY (s.toList.take (k+1))=true):=by show _=_;rw[f.out,kh,m.out,a];rfl
     clear a
     by_cases q:16*RS.cg (s.toList.take k)+((s[k].toNat:Int)-97+10)<=4294967295
     ·go_wp2_with (go_at_call 234;refine(wx _ _ (by omega) (by omega)).mono ?_;rintro e w' ⟨rfl,rfl⟩)
      go_round
      case rel=>exact⟨k+1,by omega,by go_num,rfl,by rw[b.out];congr 1;omega,h,by rw[b.out];omega,by rw[b.out];omega⟩
      case measure=>simp[intOf];omega
     ·have l:Hid (6<s.toList.length):=by
       show 6<s.toList.length;rw[cZ];rcases cF k 6 with j|j
       ·exfalso;have:=(nW 6 (s.toList.take (k+1)) (by rw[cz];omega)).2;rw[b.out]at this;have e:(16:Int)^6=16777216:=by decide
        omega
       ·omega
      go_wp2_with (go_at_call 234;refine(wx _ _ (by omega) (by omega)).mono ?_;rintro e w' ⟨rfl,rfl⟩)
      go_ret2
      exact⟨ac (ac ⟨rfl,l.out⟩),hb⟩
    ·have a:RS.n7 s[k].toNat=none:=by unfold RS.n7;rw[ae (by omega),ae (by omega),ae (by omega)]
     have g:Hid (RS.cY s.toList=false):=nV (nS s k d) a;clear a;go_wp2_with (go_at_call 234;refine(ww _ _ (by omega) (by omega)).mono ?_;rintro e w' ⟨rfl,rfl⟩)
     go_ret2
     exact⟨ac (ah ⟨rfl,g.out⟩),hb⟩
    ·have a:RS.n7 s[k].toNat=none:=by unfold RS.n7;rw[ae (by omega),ae (by omega),ae (by omega)]
     have g:Hid (RS.cY s.toList=false):=nV (nS s k d) a;clear a;go_wp2_with (go_at_call 234;refine(wx _ _ (by omega) (by omega)).mono ?_;rintro e w' ⟨rfl,rfl⟩)
     go_ret2
     exact⟨ac (ah ⟨rfl,g.out⟩),hb⟩
    ·have a:RS.n7 s[k].toNat=none:=by unfold RS.n7;rw[ae (by omega),ae (by omega),ae (by omega)]
     have g:Hid (RS.cY s.toList=false):=nV (nS s k d) a;clear a;rw[h1]at B;clear h1 A;go_wp2_with (go_at_call 234;refine(KG _).mono ?_;rintro e w' ⟨rfl,rfl⟩)
     go_ret2
     exact⟨ac (ah ⟨rfl,g.out⟩),hb⟩
    all_goals
     have a:RS.n7 s[k].toNat=none:=by unfold RS.n7;rw[ae (by omega),ae (by omega),ae (by omega)]
     have g:Hid (RS.cY s.toList=false):=nV (nS s k d) a;clear a;obtain⟨r,v,o⟩:=Pr s[k] (by omega) (by omega);have z:Hid (s[k].toNat ||| 32=r):=v;clear v;rcases o with o|o
    all_goals
     go_wp2_with (go_at_call 234;refine(KH _ _ r z.out).mono ?_;rintro e w' ⟨rfl,rfl⟩)
     go_ret2
     exact⟨ac (ah ⟨rfl,g.out⟩),hb⟩
   ·have p:s.toList.take k=s.toList:=by rw[gj (by rw[cZ];omega)]
    rw[p]at m E t ⊢;clear p;go_wp2_with fail
    go_ret2
    exact⟨ah ⟨rfl,m.out,t⟩,hb⟩
end Go.Proofs.YtodagkkjfipbgaaGreatDoor
