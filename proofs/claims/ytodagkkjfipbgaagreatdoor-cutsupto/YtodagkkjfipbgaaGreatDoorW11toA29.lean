import Derived.Test.YtodagkkjfipbgaaGreatDoorA17toW10
set_option maxRecDepth 100000
set_option maxHeartbeats 8000000
namespace Go.Proofs.YtodagkkjfipbgaaGreatDoor
open Go.RowKit Go.Proofs.Tryz
theorem iv(s:RS)(a b p:Int):(s.bR a b p).at_=s.at_/\((s.bR a b p).err=0->s.err=0)/\(s.bR a b p).aa=s.aa/\(s.bR a b p).L=s.L:=by
 unfold RS.bR;simp only;split
 ·have:=bu s 5 p;exact⟨this.2.2.2.1,fun h=>absurd h (cO _ _ _ (by omega)),this.1,this.2.2.1⟩
 ·exact⟨rfl,id,rfl,rfl⟩
theorem JB(T:ai)(s:RS)(a:s.at_<=T.size)(h:(s.span T).err=0):s.at_<(s.span T).at_:=by
 unfold RS.span at *;simp only at *;have f:=fW T s;have b:=c0 T s a;have c:=f.2.2.2.1;have a2:=gJ T (s.hex T) (by rw[c];exact b.1);split at h
 ·rename_i hd;have h1:=(iv _ _ _ _).2.1 h;have d:=F8 T _ h1;have e:=tF T s a d;have a3:=c0 T ((s.hex T).aH T) a2.1;have a4:=c0 T (((s.hex T).aH T).take T) a3.1;rw[ag hd,(iv _ _ _ _).1,(fW T _).2.2.2.1];omega
 ·rename_i hd;have h1:=(iv _ _ _ _).2.1 h;have e:=tF T s a h1;rw[ae hd,(iv _ _ _ _).1];omega
theorem fE.J9{w w1 B w3:World}{base b:Nat}{T:ai}{s:RS}{u v vL o:Value}{x:ai}(h:fE w base b T s)(i:p1 w b T s u v vL)(H:pX w base s u v vL) (j:hW 9 4 base b u o w w1 B w3) (F:B.ownsRow base 9 1 o (s.aa.length+1) (s.aa.map .string++[.string x])) (S:s.aa.length≠6) (J:s.err=0->x.toList≠[]):fE w3 base b T { s with aa:=s.aa++[x] }/\e5 base w w3:=by
 obtain⟨g,A,E,G,I,_⟩:=h;obtain⟨a,c,R,d,C⟩:=H;have q:=j.QN a A i (by decide) (by decide) (by decide) (by decide) (by decide);refine⟨⟨g,A,E,?_,I.on q.1 g,o,v,vL,?_,?_,?_,R,?_,C.aY q.2⟩,q⟩
 ·unfold RS.Ok at *;obtain⟨K,U,M,p4,N,O,P,Q,t⟩:=G;refine⟨K,by show (s.aa++[x]).length<=6;rw[aF];simp;omega,M,p4,N,O,P,Q,fun e=>⟨(t e).1,(t e).2.1,?_⟩⟩;intro y n;rcases aR.1 n with n|n
  ·exact(t e).2.2 y n
  ·rw[List.mem_singleton.1 n];exact J e
 ·exact(j.da a i (by decide)).trans rfl
 ·have:=j.row a i (by decide) F;show w3.ownsRow base _ 1 o (s.aa++[x]).length ((s.aa++[x]).map .string);rw[aF,c9];exact this
 ·exact bt c (j.kt a i (by decide) (by decide) (by decide))
 ·exact bt d (j.kt a i (by decide) (by decide) (by decide))
theorem DL{T:ai}{g:Nat}{s:RS}(h:s.err≠0):RS.aM T g s=s:=by
 cases g with
 | zero=>rfl
 | succ g=>rw[RS.aM,ag h]
theorem Bu{T:ai}{g:Nat}{s:RS}(h:s.err=0)(h1:(s.span T).err≠0):RS.aM T (g+1) s=s.span T:=by
 rw[RS.aM,ae (by simpa using h)];simp only;rw[ag h1]
theorem DM{T:ai}{g:Nat}{s:RS}(h:s.err=0)(h1:(s.span T).err=0)(a:(s.span T).tk T=[59]):RS.aM T (g+1) s=(s.span T).take T:=by
 rw[RS.aM,ae (by simpa using h)];simp only;rw[ae (by simpa using h1),ag a]
theorem Bv{T:ai}{g:Nat}{s:RS}(h:s.err=0)(h1:(s.span T).err=0)(a:(s.span T).tk T=[44]):RS.aM T (g+1) s=RS.aM T g ((s.span T).take T):=by
 rw[RS.aM,ae (by simpa using h)];simp only;rw[ae (by simpa using h1),ae (by rw[a];decide),ag a]
theorem DN{T:ai}{g:Nat}{s:RS}(h:s.err=0)(h1:(s.span T).err=0)(a:(s.span T).tk T≠[59])(b:(s.span T).tk T≠[44]):RS.aM T (g+1) s=RS.aM T g (((s.span T).take T).fail 2 ((s.span T).pos T)):=by
 rw[RS.aM,ae (by simpa using h)];simp only;rw[ae (by simpa using h1),ae a,ae b]
theorem EP(base b:Nat)(T:ai)(s:RS)(w:World)(h:fE w base b T s)(g7:s.err=0):Calls prog 48 #[.pointer (some ⟨b,0,none⟩)] w fun e w'=>e=.returned (.tuple #[])/\fE w' base b T (s.bE T)/\e5 base w w':=by
 have j8:Hid (s.err=0):=g7;clear g7;go_enter func48,ntmps48;go_wp2_with fail;refine(hI base b T s _ h).mono ?_;rintro q l6 ⟨rfl,h1,a6⟩;obtain⟨a,b7⟩:∃a,a=s.take T:=⟨_,rfl⟩;rw[<- b7]at h1;have e8:Hid (a=s.take T):=b7;clear b7;obtain⟨e0,b0,a9,r,p,B,C,D,c3,E,F,G,H,I,L⟩:=h1.cells;obtain⟨k1,k2,rfl⟩:=cw p.1;have l3:a.aa.length<=6:=h1.2.2.2.1.2.1
 by_cases n:a.aa.length=6
 ·have j4:((a.aa.length:Int)==6)=true:=by rw[bL];omega
  have y:Hid (s.bE T=a.fail 6 (s.pos T)):=by
   show s.bE T=_;unfold RS.bE;simp only;rw[<- e8.out,ag n]
  clear n;go_wp2_with fail;refine(gN base b T a 6 (s.pos T) _ h1 (by omega)).mono ?_;rintro g2 j7 ⟨rfl,J,R⟩;go_wp2_with fail;refine bodyPost_ret (results_none rfl _ _ _) rfl ?_;exact⟨rfl,by rw[y.out];exact J,a6.trans R⟩
 ·have j4:((a.aa.length:Int)==6)=false:=by rw[aO];omega
  have e4:Hid (a.aa.length≠6):=n;clear n;go_wp2_with fail;refine(hI base b T a _ h1).mono ?_;rintro g2 j7 ⟨rfl,J,R⟩;obtain⟨t1,c2⟩:∃t1,t1=tok T a.at_:=⟨_,rfl⟩;rw[<- c2];have e9:Hid (t1=tok T a.at_):=c2;clear c2;go_wp2_with fail;refine(B6 t1 _).mono ?_;rintro k6 w3 ⟨rfl,i5⟩;subst i5
  go_upto_if 28 with fail
  go_cut [3,4,5] (fun j5 c9 _ o=>j5=.int .i64 (a.pos T:Nat)/\c9=.string t1/\fE o base b T (if ew t1.toList=true then a.take T else (a.take T).fail 2 (a.pos T))/\e5 base w o)
  case first =>
   cases g4:ew t1.toList
   ·go_wp2_with fail;refine(gN base b T (a.take T) 2 (a.pos T) _ J (by omega)).mono ?_;rintro h9 e1 ⟨rfl,x,S⟩;go_wp2_with fail;go_meet;exact⟨rfl,rfl,by rw[ae (by simp[g4])];exact x,(a6.trans R).trans S⟩
   ·go_wp2_with fail;go_meet;exact⟨rfl,rfl,by rw[ag g4];exact J,a6.trans R⟩
  case rest =>
   obtain⟨rfl,rfl,x,S⟩:=hcut;obtain⟨e1,i6⟩:∃e1,e1=wc:=⟨wc,rfl⟩;subst i6;obtain⟨k,b8⟩:∃k,k=(if ew t1.toList=true then a.take T else (a.take T).fail 2 (a.pos T)):=⟨_,rfl⟩;rw[<- b8]at x;have b2:Hid (k=(if ew t1.toList=true then a.take T else (a.take T).fail 2 (a.pos T))):=b8;clear b8;have h5:Hid (k.aa=a.aa):=by
    show k.aa=a.aa;rw[b2.out];split
    ·rfl
    ·exact(bu _ _ _).1
   clear r p B C D c3 E F G H I L h1 J a6 R;go_wp2_with fail;refine(C2 base b T k t1 _ x).mono ?_;rintro k7 m0 ⟨rfl,i7⟩;subst i7;obtain⟨M,b5⟩:∃M,M=ba k.aa t1.toList:=⟨_,rfl⟩;rw[<- b5];have h4:Hid (M=ba k.aa t1.toList):=b5;clear b5
   go_upto_if 35 with fail
   go_cut [3,4] (fun _ c9 o=>c9=.string t1/\∃d:RS,Hid (d=if 0<=M then k.fail 4 (a.pos T)else k)/\fE o base b T d/\e5 base w o)
   case first =>
    by_cases hi:0<=M
    ·go_wp2_with fail;refine(gN base b T k 4 (a.pos T) _ x (by omega)).mono ?_;rintro k8 u ⟨rfl,n,U⟩;go_wp2_with fail;go_meet;exact⟨rfl,k.fail 4 (a.pos T),by show _=ite _ _ _;rw[ag hi],n,S.trans U⟩
    ·go_wp2_with fail;go_meet;exact⟨rfl,k,by show _=ite _ _ _;rw[ae (by omega)],x,S⟩
   case rest =>
    obtain⟨rfl,d,b3,n,U⟩:=hcut;obtain⟨u,i9⟩:∃u,u=wc:=⟨wc,rfl⟩;subst i9;clear x S;have h6:Hid (d.aa.length≠6):=by
     show d.aa.length≠6;have:d.aa=k.aa:=by
      rw[b3.out];split
      ·exact(bu _ _ _).1
      ·rfl
     rw[this,h5.out];exact e4.out
    obtain⟨e0,b0,a9,r,p,B,C,D,c3,E,F,G,H,I,L⟩:=n.cells;obtain⟨Z,a0,rfl⟩:=cw p.1;have l4:d.aa.length<=6:=n.2.2.2.1.2.1;have l2:b<u.heap.size:=(dE.1 r).1;have l1:base<=b:=n.2.1;have e7:Hid (u.ownsRow base 9 1 (.slice Z d.aa.length a0) d.aa.length (d.aa.map .string)):=p.1;have h7:Hid (pX u base d (.slice Z d.aa.length a0) b0 a9):=p;clear p
    go_upto_if 53 with(at_builtin;go_loud (refine fT rfl (.tmp 43) (.tmp 45) 30 rfl base 9 (.string ⟨#[]⟩) 1 16 Tryz.Ad Tryz.Jd rfl (by decide) (.slice Z d.aa.length a0) d.aa.length (d.aa.map .string) rfl (by exact e7.out.alloc _) u.heap.size 1 [.string t1] rfl rfl (by exact aw _ _) (tB _) (by omega) (by omega) (by simp;omega) ?_);intro l5 w' b6 hg;obtain⟨g0,g1,i4⟩:=cw b6;subst i4;have g6:=mO hg r (by exact((aB _ _).alloc (ar _) _)) (by exact e7.out.alloc _) (by decide);obtain⟨_,_,g2,_,h9,_,_,_,_,l0⟩:=lP g6)
    have g9:hW 9 4 base b (.slice Z d.aa.length a0) (.slice g0 (d.aa.length+1) g1) u _ w' (w'.setCell ⟨b,4,none⟩ (.slice g0 (d.aa.length+1) g1)):=⟨(aB _ _).alloc (ar _) _,hg,rfl,rfl,rfl,rfl⟩;have y:=n.J9 r h7.out g9 b6 h6.out (fun i=>by
     intro i3;have g3:k.err=0:=by
      have:=b3.out
      by_cases hi:0<=M
      ·rw[ag hi]at this;rw[this]at i;exact absurd i (cO _ _ _ (by omega))
      ·rw[ae hi]at this;rw[<- this];exact i
     have h0:=b2.out;rw[ae (by rw[i3];decide)]at h0;rw[h0]at g3;exact absurd g3 (cO _ _ _ (by omega)))
    obtain⟨a1,c8⟩:=y;obtain⟨l,a5⟩:∃l:RS,l={ d with aa:=d.aa++[t1] }:=⟨_,rfl⟩;rw[<- a5]at a1;have h8:Hid (l={ d with aa:=d.aa++[t1] }):=a5;have e3:Hid (l.err=d.err):=by rw[a5];rfl
    clear a5 g9 b6 hg g6 r B C D c3 E F G H I L
    go_cut [53] (fun _ o=>fE o base b T (if l.err=0 then l.want T [61]else l)/\e5 base w o)
    case first =>
     by_cases i:d.err=0
     ·have c5:(d.err==0)=true:=by rw[bL];exact i
      have Q:l.err=0:=by rw[e3.out];exact i
      have b1:Hid (l.err=0):=Q;clear i Q;go_wp2_with fail;refine(y8 base b T l ⟨#[61]⟩ _ a1).mono ?_;rintro k9 e2 ⟨rfl,K,a8⟩;go_wp2_with fail;go_meet;exact⟨by rw[ag b1.out];rw[show (⟨#[61]⟩:ai).toList=[61] from by rw[bM]]at K;exact K,(U.trans c8).trans a8⟩
     ·have c5:(d.err==0)=false:=by rw[aO];exact i
      have Q:¬l.err=0:=by rw[e3.out];exact i
      have b1:Hid (¬l.err=0):=Q;clear i Q;go_wp2_with fail;go_meet;exact⟨by rw[ae b1.out];exact a1,U.trans c8⟩
    case rest =>
     obtain⟨K,a8⟩:=hcut;obtain⟨e2,j0⟩:∃e2,e2=wc:=⟨wc,rfl⟩;subst j0;obtain⟨W,b9⟩:∃W:RS,W=(if l.err=0 then l.want T [61]else l):=⟨_,rfl⟩;rw[<- b9]at K;have y:Hid (s.bE T=RS.aM T (T.size+2) W):=by
      show s.bE T=_;unfold RS.bE;simp only;rw[<- e8.out,ae e4.out];have q:a.tk T=t1.toList:=by rw[e9.out];rfl
      rw[q,<- b2.out,<- h4.out,<- b3.out,<- e9.out,b9,h8.out]
     clear b9 a1 c8 U n;go_wp2_with fail
     go_loopg [3,4] (T.size+3) (fun g _ _ o=>∃(c:RS),fE o base b T c/\e5 base w o/\0<g/\Hid (RS.aM T (g-1) c=RS.aM T (T.size+2) W)/\Hid (c.err≠0\/T.size<c.at_+(g-1)))
     case atStart=>exact⟨W,K,a8,by omega,rfl,ac (by omega)⟩
     case round =>
      obtain⟨c,a4,V,hg,O,e6⟩:=hrel;have j9:Hid (0<gk):=hg;clear hg K a8;obtain⟨e0,b0,a9,r,p,B,C,D,c3,E,F,G,H,I,L⟩:=a4.cells
      by_cases i:c.err=0
      ·have c5:(c.err==0)=true:=by rw[bL];exact i
       have i1:c.at_<=T.size:=a4.2.2.2.1.1;have A:Hid (c.err=0):=i;have i2:0<gk-1:=by rcases e6.out with h|h;exact absurd i h;omega
       obtain⟨j,g8⟩:∃j,gk=j+2:=⟨gk-2,by omega⟩;have v:Hid (gk=j+2):=g8;clear g8 i2 i;have h3:Hid (T.size<c.at_+(j+1)):=by
        show T.size<c.at_+(j+1);have h1:=e6.out;have J:=v.out;rcases h1 with h1|h1
        ·exact absurd A.out h1
        ·omega
       go_wp2_with fail;refine(M7 base b T c _ a4 A.out).mono ?_;rintro k3 l7 ⟨rfl,P,a7⟩;have g5:=JB T c i1;have h2:Hid ((c.span T).err=0->c.at_<(c.span T).at_):=g5;obtain⟨f,c1⟩:∃f,f=c.span T:=⟨_,rfl⟩;rw[<- c1]at P;have m:Hid (f=c.span T):=c1;clear c1 g5 r p B C D c3 E F G H I L;obtain⟨e0,b0,a9,r,p,B,C,D,c3,E,F,G,H,I,L⟩:=P.cells
       by_cases q:f.err=0
       ·have j1:(f.err != 0)=false:=by simp[q]
        have X:Hid (f.err=0):=q;clear q;go_wp2_with fail;refine(hI base b T f _ P).mono ?_;rintro k4 l8 ⟨rfl,b4,c7⟩;obtain⟨t2,c4⟩:∃t2,t2=tok T f.at_:=⟨_,rfl⟩;rw[<- c4];have Y:Hid (f.tk T=t2.toList):=by rw[c4];rfl
        clear c4
        by_cases z:t2.toList=[59]
        ·have j2:(t2.toList==[59])=true:=by rw[bL];exact z
         have t:Hid (s.bE T=f.take T):=by
          show s.bE T=_;rw[y.out,<- O.out,v.out];show RS.aM T (j+1) c=_;rw[DM A.out (by rw[<- m.out];exact X.out) (by rw[<- m.out,Y.out];exact z),<- m.out]
         clear z;go_wp2_with fail;refine bodyPost_ret (results_none rfl _ _ _) rfl ?_;exact⟨rfl,by rw[t.out];exact b4,(V.trans a7).trans c7⟩
        ·have j2:(t2.toList==[59])=false:=by rw[aO];exact z
         by_cases N:t2.toList=[44]
         ·have j3:(t2.toList==[44])=true:=by rw[bL];exact N
          have t:Hid (RS.aM T (j+1) c=RS.aM T j (f.take T)):=by
           show RS.aM T (j+1) c=_;rw[Bv A.out (by rw[<- m.out];exact X.out) (by rw[<- m.out,Y.out];exact N),<- m.out]
          clear z N;go_wp2_with fail;go_roundg (j+1)
          case measure=>have:=v.out;omega
          case rel =>
           refine⟨f.take T,b4,(V.trans a7).trans c7,by omega,?_,?_⟩
           ·show RS.aM T j (f.take T)=_;rw[<- t.out,<- O.out,v.out];rfl
           ·refine ac ?_;show T.size<(f.take T).at_+j;have k0:=c0 T f P.2.2.2.1.1;have a2:=h2.out (by rw[<- m.out];exact X.out);rw[<- m.out]at a2;have a3:=h3.out;omega
         ·have j3:(t2.toList==[44])=false:=by rw[aO];exact N
          have t:Hid (RS.aM T (j+1) c=RS.aM T j ((f.take T).fail 2 (f.pos T))):=by
           show RS.aM T (j+1) c=_;rw[DN A.out (by rw[<- m.out];exact X.out) (by rw[<- m.out,Y.out];exact z) (by rw[<- m.out,Y.out];exact N),<- m.out]
          clear z N;go_wp2_with fail;refine(gN base b T (f.take T) 2 (f.pos T) _ b4 (by omega)).mono ?_;rintro k5 l9 ⟨rfl,i0,j6⟩;go_wp2_with fail;go_roundg (j+1)
          case measure=>have:=v.out;omega
          case rel =>
           refine⟨_,i0,((V.trans a7).trans c7).trans j6,by omega,?_,ah (cO _ _ _ (by omega))⟩;show RS.aM T j ((f.take T).fail 2 (f.pos T))=_;rw[<- t.out,<- O.out,v.out];rfl
       ·have j1:(f.err != 0)=true:=by simp[q]
        have t:Hid (s.bE T=f):=by
         show s.bE T=_;rw[y.out,<- O.out,v.out];show RS.aM T (j+1) c=_;rw[Bu A.out (by rw[<- m.out];exact q),<- m.out]
        clear q;go_wp2_with fail;refine bodyPost_ret (results_none rfl _ _ _) rfl ?_;exact⟨rfl,by rw[t.out];exact P,V.trans a7⟩
      ·have c5:(c.err==0)=false:=by rw[aO];exact i
       have t:Hid (s.bE T=c):=by
        show s.bE T=_;rw[y.out,<- O.out,DL i]
       clear i;go_wp2_with fail
       go_end0
       exact⟨rfl,by rw[t.out];exact a4,V⟩
def IK(n:Nat):Prop:=n∈[0,1,2,3,4,7,8,15,16,31,32,63,64]\/n∈[127,128,255]
def oO:Prop:=∀(n:Nat) (w:World),IK n->jl w->1<w.heap.size->Calls prog 39 #[.int .i64 n] w fun e w'=>e=.returned (.string (hv n))/\Below w.heap.size w w'
theorem wE(n:Nat):(hv n).size<=3/\1<=(hv n).size:=by
 unfold hv;split
 ·exact⟨by show 1<=3;omega,by show 1<=1;omega⟩
 ·split
  ·exact⟨by show 2<=3;omega,by show 1<=2;omega⟩
  ·exact⟨by show 3<=3;omega,by show 1<=3;omega⟩
theorem LW(k:oO)(n:Nat)(w:World)(c:IK n)(g:jl w)(m:1<w.heap.size):Calls prog 245 #[.int .i64 n] w fun e w'=>∃v,e=.returned v/\aS 1 w' v (na n)/\Below w.heap.size w w':=by
 have s:=(wE n).1;have p:=tw prog ⟨#[91]⟩ (hv n) (by rw[eJ];omega);have r:=tw prog (⟨#[91]⟩++hv n) ⟨#[93]⟩ (by rw[c1,eJ,eJ];omega);have i:Hid (IK n):=c;have j:Hid (jl w):=g;clear c g;go_enter func245,ntmps245;go_wp2_with fail;refine(k n _ i.out j.out m).mono ?_;rintro o a ⟨rfl,b⟩;go_wp2_with fail;go_ret;have l:=F0 (d:=0) (q:=a.heap.size) (W:=a) (vL:=.slice none 0 0) (wI:=99) (kI:=(n:Int)) (f:=⟨#[91]⟩++hv n++⟨#[93]⟩) (na n) rfl (by rfl) rfl rfl ⟨[],rfl,cq _ _ _ _,by simp⟩ (by show (99:Nat)<256;decide) (fun h=>by simp[na]at h) (fun h=>by simp[na]at h);exact⟨.pointer (some ⟨a.heap.size,0,none⟩),rfl,l,b.alloc (by exact b.size) _⟩
def qM(s:RS):Nat:=if s.err=0 then 0 else 1
def PQ(K:Nat)(s:RS)(r:RS×Rx):Prop :=
 r.1.aa=s.aa/\r.1.nest=s.nest/\s.at_<=r.1.at_/\(r.1.err=0->s.at_<r.1.at_)/\r.2.form.size+5<=K*(r.1.at_-s.at_+qM r.1)
def gz(T:ai)(fn:Nat)(P:RS->RS×Rx)(K:Nat)(a:Int):Prop :=
 ∀(base b:Nat) (s:RS) (w:World),fE w base b T s->s.err=0->s.nest=a ->
  Calls prog fn #[.pointer (some ⟨b,0,none⟩)] w fun e w'=>∃v d,e=.returned v/\fE w' base b T (P s).1/\aS d w' v (P s).2/\e5 base w w'/\PQ K s (P s)
theorem tJ{s:RS}(h:s.err≠0):qM s=1:=by unfold qM;rw[ae h]
theorem xi{s:RS}(h:s.err=0):qM s=0:=by unfold qM;rw[ag h]
theorem jq(s:RS)(l:List UInt8)(p:Int):(s.bd l p).aa=s.aa/\(s.bd l p).ay=s.ay/\(s.bd l p).L=s.L/\(s.bd l p).at_=s.at_/\(s.bd l p).atoms=s.atoms/\(s.bd l p).nest=s.nest:=by
 unfold RS.bd;split
 ·simp
 ·split<;>exact bu _ _ _
theorem Cj(s:RS)(l:List UInt8)(p:Int)(h:(s.bd l p).err=0)(a:∀x∈s.aa,x.toList≠[]):l≠[]:=by
 intro e;subst e;unfold RS.bd at h;rw[ae]at h
 ·split at h<;>exact absurd h (cO _ _ _ (by omega))
 ·rintro(h1|h1|h1|h1)
  ·unfold ba at h1;rw[List.findIdx?_eq_none_iff.2 (by intro x b;simpa using a x b)]at h1;simp at h1
  all_goals simp at h1
theorem RS.Ok.nest{T:ai}{s:RS}(h:s.Ok T)(n:Int)(h1:0<=n)(d:n<=4):({ s with nest:=n }:RS).Ok T:=by
 obtain⟨g,i,j,p4,o,q,u,v,t⟩:=h;exact⟨g,i,j,p4,o,q,h1,d,t⟩
theorem fE.FB{w:World}{base b:Nat}{T:ai}{s:RS}(h:fE w base b T s)(n:Int)(h1:0<=n)(i:n<=4):fE (w.setCell ⟨b,8,none⟩ (.int .i64 n)) base b T { s with nest:=n }/\e5 base w (w.setCell ⟨b,8,none⟩ (.int .i64 n)):=by
 have h0:=h;obtain⟨g,t,q,j,u,x,y,v,d,o⟩:=h;exact h0.step d o ((am d 8 _).trans rfl) ((bj.refl _ _).kV _) rfl rfl rfl (j.nest n h1 i)
theorem fE.BD{w:World}{base b:Nat}{T:ai}{s:RS}(h:fE w base b T s)(n:Int)(i:({ s with atoms:=n }:RS).Ok T):fE (w.setCell ⟨b,7,none⟩ (.int .i64 n)) base b T { s with atoms:=n }/\e5 base w (w.setCell ⟨b,7,none⟩ (.int .i64 n)):=by
 have h0:=h;obtain⟨g,q,o,_,t,v,x,u,d,j⟩:=h;exact h0.step d j ((am d 7 _).trans rfl) ((bj.refl _ _).kV _) rfl rfl rfl i
theorem pI(aa:List ai)(l:List UInt8):ba aa l<aa.length/\-1<=ba aa l:=by
 unfold ba;cases h:aa.findIdx? (fun x=>x.toList==l)with
 | none=>simp;omega
 | some i=>have:=(q2.1 h).1;simp;omega
theorem P4(T:ai)(sub:RS->RS×Rx)(K:Nat)(c:Int)(h5:10<=K)(h6:0<=c)(h7:c<=4)(c4:c≠4->gz T 148 sub K (c+1)) (base b:Nat) (s:RS) (w:World) (h:fE w base b T s) (b7:s.err=0) (b9:s.nest=c) (I:s.tk T=[40]):Calls prog 231 #[.pointer (some ⟨b,0,none⟩)] w fun e w'=>∃v d,e=.returned v/\fE w' base b T (s.atom T sub).1/\aS d w' v (s.atom T sub).2/\e5 base w w'/\PQ K s (s.atom T sub):=by
 have c8:Hid (s.err=0):=b7;have o:Hid (s.nest=c):=b9;have a1:Hid (s.tk T=[40]):=I;have e2:Hid (c≠4->gz T 148 sub K (c+1)):=c4;have b5:s.at_<=T.size:=h.2.2.2.1.1;have g0:=mE T s b5 (by rw[I];simp);have g2:=c0 T s b5;have g3:((tok T s.at_).toList==[40])=true:=by rw[bL];exact I
 clear b7 b9 I c4;obtain⟨i,R⟩:∃i,i=s.take T:=⟨_,rfl⟩;rw[<- R]at g0 g2;have k:Hid (i=s.take T):=R;clear R;obtain⟨t1,S⟩:∃t1,t1=tok T s.at_:=⟨_,rfl⟩;rw[<- S]at g3;have e3:Hid (t1=tok T s.at_):=S;clear S;go_enter func231,ntmps231;go_wp2_with fail;refine(hI base b T s _ h).mono ?_;rintro h2 h9 ⟨rfl,h1,X⟩;rw[<- k.out]at h1;rw[<- e3.out];have e6:Hid (i.nest=c):=by show i.nest=c;rw[k.out];exact o.out
 have c7:Hid (i.err=0):=by show i.err=0;rw[k.out];exact c8.out
 obtain⟨g9,h0,g8,b6,c2,a5,a6,a7,c3,a8,a9,b0,b1,D,b8⟩:=h1.cells;rw[e6.out]at D
 by_cases t:c=4
 ·have k4:(c==4)=true:=by rw[bL];exact t
  have z:Hid (s.atom T sub=(i.fail 6 (s.pos T),eB)):=by
   show s.atom T sub=_;unfold RS.atom;rw[ag a1.out,ag (by rw[o.out];exact t),<- k.out]
  clear t;go_wp2_with fail;refine(gN base b T i 6 (s.pos T) _ h1 (by omega)).mono ?_;rintro h3 i0 ⟨rfl,E,L⟩;go_wp2_with fail;refine(ih _).mono ?_;rintro e7 w3 ⟨v3,rfl,A,g1⟩;go_wp2_with fail;go_ret;obtain⟨y,M⟩:=E.below g1;have f:=bu i 6 (s.pos T);have b2:=cO i 6 (s.pos T) (by omega);refine⟨_,1,rfl,by rw[z.out];exact y,by rw[z.out];exact A,(X.trans L).trans M,?_⟩;rw[z.out];refine⟨by show (i.fail 6 (s.pos T)).aa=_;rw[f.1,k.out];rfl,by show (i.fail 6 (s.pos T)).nest=_;rw[f.2.2.2.2.2,k.out];rfl,by show s.at_<=(i.fail 6 (s.pos T)).at_;rw[f.2.2.2.1];omega,fun e=>absurd e b2,?_⟩;show 1+5<=K*((i.fail 6 (s.pos T)).at_-s.at_+qM (i.fail 6 (s.pos T)));rw[tJ b2]
  calc 1+5<=K*1:=by omega
   _<=_:=mm K (by omega)
 ·have k4:(c==4)=false:=by rw[aO];exact t
  have z:Hid (s.atom T sub=((sub { i with nest:=c+1 }).1.eg T,(sub { i with nest:=c+1 }).2)):=by
   show s.atom T sub=_;unfold RS.atom;rw[ag a1.out,ae (by rw[o.out];exact t),<- k.out,o.out]
  have b4:=e2.out t;have c9:Hid (gz T 148 sub K (c+1)):=b4;clear b4;have e8:=h1.FB (c+1) (by omega) (by omega);obtain⟨E,L⟩:=e8;obtain⟨j,G⟩:∃j:RS,j={ i with nest:=c+1 }:=⟨_,rfl⟩;rw[<- G]at E;have p:Hid (j={ i with nest:=c+1 }):=G;have Y:j.at_=i.at_:=by rw[G]
  have a0:Hid (j.at_=i.at_):=Y;clear G Y;go_wp2_with fail;refine(c9.out base b j _ E (by rw[p.out];exact c7.out) (by rw[p.out])).mono ?_;rintro e7 w3 ⟨v3,d3,rfl,y,A,M,x⟩;obtain⟨g,H⟩:∃g,g=(sub j).1:=⟨_,rfl⟩;obtain⟨l,J⟩:∃l,l=(sub j).2:=⟨_,rfl⟩;rw[<- H]at y;rw[<- J]at A;have a3:Hid (aS d3 w3 v3 l):=A;have e0:Hid (g=(sub j).1):=H;have e4:Hid (l=(sub j).2):=J;have P:Hid (PQ K j (g,l)):=by show PQ K j (g,l);rw[H,J];exact x
  clear H J A x b6 c2 a5 a6 a7 c3 a8 a9 b0 b1 D b8;obtain⟨g9,h0,g8,b6,c2,a5,a6,a7,c3,a8,a9,b0,b1,D,b8⟩:=y.cells;have Q:g.nest=c+1:=by have:=P.out.2.1;rw[p.out]at this;exact this
  rw[Q]at D;have e9:=y.FB c (by omega) (by omega);obtain⟨F,N⟩:=e9;obtain⟨a,u⟩:∃a:RS,a={ g with nest:=c }:=⟨_,rfl⟩;rw[<- u]at F;have e1:Hid (a={ g with nest:=g.nest-1 }):=by show a=_;rw[u,Q,show c+1-1=c from by omega]
  have O:Hid (a.err=g.err):=by rw[u];rfl
  have Z:Hid (a.at_=g.at_):=by rw[u];rfl
  have C:Hid (a.aa=g.aa/\a.nest=c):=by rw[u];exact⟨rfl,rfl⟩
  have c1:Hid (s.atom T sub=(if a.err=0 then a.want T [41]else a,l)):=by
   show s.atom T sub=_;rw[z.out,<- p.out,<- e0.out,<- e4.out];unfold RS.eg;simp only;rw[e1.out]
  clear u Q
  by_cases r:g.err=0
  ·have g4:(g.err==0)=true:=by rw[bL];exact r
   have n:Hid (g.err=0):=r;clear r;go_wp2_with fail;refine(y8 base b T a ⟨#[41]⟩ _ F).mono ?_;rintro h4 i1 ⟨rfl,b3,c5⟩;rw[show (⟨#[41]⟩:ai).toList=[41] from by rw[bM]]at b3;go_wp2_with fail;go_ret;have m:s.atom T sub=(a.want T [41],l):=by rw[c1.out,ag (by rw[O.out];exact n.out)]
   refine⟨_,d3,rfl,by rw[m];exact b3,by rw[m];exact a3.out.aY (N.trans c5).2,(((X.trans L).trans M).trans N).trans c5,?_⟩;rw[m];have q:=P.out;have B:=gl T a [41];have h8:=c0 T a F.2.2.2.1.1;have a2:=a0.out;have a4:=Z.out;obtain⟨U,g5,x,g7,W⟩:=q;have g6:j.at_<=g.at_:=x;have V:g.aa=j.aa:=U;refine⟨by show (a.want T [41]).aa=_;rw[B.1,C.out.1,V,p.out];show i.aa=_;rw[k.out];rfl,by show (a.want T [41]).nest=_;rw[B.2.2.2.2.2,C.out.2,o.out],by show s.at_<=(a.want T [41]).at_;rw[B.2.2.2.1];omega,fun _=>by show s.at_<(a.want T [41]).at_;rw[B.2.2.2.1];omega,?_⟩;refine aE W (mm K ?_);show g.at_-j.at_+qM g<=(a.want T [41]).at_-s.at_+qM (a.want T [41]);rw[xi n.out,B.2.2.2.1];omega
  ·have g4:(g.err==0)=false:=by rw[aO];exact r
   have n:Hid (g.err≠0):=r;clear r;go_wp2_with fail;go_ret;have m:s.atom T sub=(a,l):=by rw[c1.out,ae (by rw[O.out];exact n.out)]
   refine⟨_,d3,rfl,by rw[m];exact F,by rw[m];exact a3.out.aY N.2,((X.trans L).trans M).trans N,?_⟩;rw[m];have a2:=a0.out;have a4:=Z.out;obtain⟨U,g5,x,g7,W⟩:=P.out;have g6:j.at_<=g.at_:=x;have V:g.aa=j.aa:=U;refine⟨by show a.aa=_;rw[C.out.1,V,p.out];show i.aa=_;rw[k.out];rfl,by show a.nest=_;rw[C.out.2,o.out],by show s.at_<=a.at_;omega,fun _=>by show s.at_<a.at_;omega,?_⟩;refine aE W (mm K ?_);show g.at_-j.at_+qM g<=a.at_-s.at_+qM a;rw[tJ n.out,tJ (by rw[O.out];exact n.out)];omega
theorem HL{s:RS}{l:List UInt8}(h:0<=ba s.aa l):s.b8 l=2^(ba s.aa l).toNat:=by unfold RS.b8;rw[ag h]
theorem HN{s:RS}{l:List UInt8}(h:¬0<=ba s.aa l)(h1:l=[97,110,121]):s.b8 l=2^(s.aa.length+2)-1:=by unfold RS.b8;rw[ae h,ag h1]
theorem Cn{s:RS}{l:List UInt8}(h:¬0<=ba s.aa l)(h1:l=[111,116,104,101,114]):s.b8 l=2^s.aa.length:=by unfold RS.b8;rw[ae h,ae (by rw[h1];decide),ag h1]
theorem HM{s:RS}{l:List UInt8}(h:¬0<=ba s.aa l)(h1:l=[98,97,100]):s.b8 l=2^(s.aa.length+1):=by unfold RS.b8;rw[ae h,ae (by rw[h1];decide),ae (by rw[h1];decide),ag h1]
theorem Eo{s:RS}{l:List UInt8}(h:¬0<=ba s.aa l)(h1:l≠[97,110,121])(a:l≠[111,116,104,101,114])(b:l≠[98,97,100]):s.b8 l=0:=by unfold RS.b8;rw[ae h,ae h1,ae a,ae b]
theorem HJ(s:RS)(l:List UInt8)(a:s.aa.length<=6):IK (s.b8 l):=by
 have hb:=pI s.aa l;unfold RS.b8 IK;generalize s.aa.length=n at *;generalize ba s.aa l=k at *;split
 ·obtain⟨m,rfl⟩:∃m:Nat,k=m:=⟨k.toNat,by omega⟩;have:m=0\/m=1\/m=2\/m=3\/m=4\/m=5:=by omega
  rcases this with rfl|rfl|rfl|rfl|rfl|rfl<;>simp
 ·have:n=0\/n=1\/n=2\/n=3\/n=4\/n=5\/n=6:=by omega
  split
  ·rcases this with rfl|rfl|rfl|rfl|rfl|rfl|rfl<;>simp
  ·split
   ·rcases this with rfl|rfl|rfl|rfl|rfl|rfl|rfl<;>simp
   ·split
    ·rcases this with rfl|rfl|rfl|rfl|rfl|rfl|rfl<;>simp
    ·simp
theorem P3(c8:oO)(T:ai)(sub:RS->RS×Rx)(K:Nat)(l0:10<=K) (base b:Nat) (s:RS) (w:World) (h:fE w base b T s) (e3:s.err=0) (b4:s.tk T≠[40]):Calls prog 231 #[.pointer (some ⟨b,0,none⟩)] w fun e w'=>∃v d,e=.returned v/\fE w' base b T (s.atom T sub).1/\aS d w' v (s.atom T sub).2/\e5 base w w'/\PQ K s (s.atom T sub):=by
 have g1:Hid (s.err=0):=e3;have g2:Hid oO:=c8;have i0:Hid (s.atom T sub=s.gF T):=by show s.atom T sub=_;unfold RS.atom;rw[ae b4]
 have e0:s.at_<=T.size:=h.2.2.2.1.1;have i3:=c0 T s e0;obtain⟨t1,b3⟩:∃t1,t1=tok T s.at_:=⟨_,rfl⟩;have g7:Hid (t1=tok T s.at_):=b3;have a3:Hid (s.tk T=t1.toList):=by show s.tk T=_;rw[b3];rfl
 have l5:(t1.toList==[40])=false:=by rw[aO,<- a3.out];exact b4
 clear e3 b4 c8 b3;obtain⟨a,b1⟩:∃a,a=s.take T:=⟨_,rfl⟩;rw[<- b1]at i3;have z:Hid (a=s.take T):=b1;clear b1;go_enter func231,ntmps231;go_wp2_with fail;refine(hI base b T s _ h).mono ?_;rintro k6 m2 ⟨rfl,h1,C⟩;rw[<- z.out]at h1;rw[<- g7.out];have c2:Hid (a.err=0):=by show a.err=0;rw[z.out];exact g1.out
 obtain⟨e9,g0,e8,X,J,O,P,Q,c3,R,S,U,V,W,Y⟩:=h1.cells;obtain⟨k3,k5,rfl⟩:=cw J.1;have e4:a.aa.length<=6:=h1.2.2.2.1.2.1;go_wp2_with fail;refine(C2 base b T a t1 _ h1).mono ?_;rintro c7 m3 ⟨rfl,i5⟩;subst i5;go_wp2_with fail;refine(B6 t1 _).mono ?_;rintro k7 w3 ⟨rfl,i6⟩;subst i6;have e1:=pI a.aa t1.toList;obtain⟨j,a5⟩:∃j,j=ba a.aa t1.toList:=⟨_,rfl⟩;rw[<- a5]at e1 ⊢;obtain⟨e2,h8⟩:=e1;have F:Hid (j=ba a.aa t1.toList):=a5;clear a5;obtain⟨n,B⟩:∃n,n=a.aa.length:=⟨_,rfl⟩;rw[<- B]at e4 e2;rw[<- B];have N:Hid (n=a.aa.length):=B;clear B;obtain⟨a0,a8⟩:∃a0,a0=ew t1.toList:=⟨_,rfl⟩;rw[<- a8];have c5:Hid (a0=ew t1.toList):=a8;clear a8
 go_upto_block 0 with fail
 go_cut [4,9,2,3,5,6,7,8] (fun k0 j4 _ _ _ _ _ _ M=>k0=.int .i64 (s.pos T:Nat)/\j4=.int .i64 (a.b8 t1.toList:Nat)/\fE M base b T (a.bd t1.toList (s.pos T))/\e5 base w M)
 case first =>
  by_cases hi:0<=j
  ·have k:Hid (a.bd t1.toList (s.pos T)=a):=by show _=a;unfold RS.bd;rw[ag (ah (by rw[<- F.out];exact hi))]
   have m:Hid (a.b8 t1.toList=2^j.toNat):=by show _=_;rw[HL (by rw[<- F.out];exact hi),<- F.out]
   have y:j=0\/j=1\/j=2\/j=3\/j=4\/j=5:=by omega
   clear hi e2 h8;rcases y with g|g|g|g|g|g
   all_goals
    have g8:=F.out;subst g;clear g8;go_wp2_with fail;go_meet;exact⟨rfl,by rw[m.out];rfl,by rw[k.out];exact h1,C⟩
  ·have l3:j<0:=by omega
   have E:Hid (¬0<=ba a.aa t1.toList):=by show ¬_;rw[<- F.out];exact hi
   clear hi;have y:n=0\/n=1\/n=2\/n=3\/n=4\/n=5\/n=6:=by omega
   by_cases l:t1.toList=[97,110,121]
   ·have k:Hid (a.bd t1.toList (s.pos T)=a):=by show _=a;unfold RS.bd;rw[ag (ac (ah l))]
    have m:Hid (a.b8 t1.toList=2^(n+2)-1):=by show _=_;rw[HN E.out l,<- N.out]
    have j1:(t1.toList==[97,110,121])=true:=by rw[bL];exact l
    clear l;rcases y with g|g|g|g|g|g|g
    all_goals
     subst g;go_wp2_with fail;go_meet;exact⟨rfl,by rw[m.out];rfl,by rw[k.out];exact h1,C⟩
   ·have j1:(t1.toList==[97,110,121])=false:=by rw[aO];exact l
    by_cases p:t1.toList=[111,116,104,101,114]
    ·have k:Hid (a.bd t1.toList (s.pos T)=a):=by show _=a;unfold RS.bd;rw[ag (ac (ac (ah p)))]
     have m:Hid (a.b8 t1.toList=2^n):=by show _=_;rw[Cn E.out p,<- N.out]
     have j2:(t1.toList==[111,116,104,101,114])=true:=by rw[bL];exact p
     clear l p;rcases y with g|g|g|g|g|g|g
     all_goals
      subst g;go_wp2_with fail;go_meet;exact⟨rfl,by rw[m.out];rfl,by rw[k.out];exact h1,C⟩
    ·have j2:(t1.toList==[111,116,104,101,114])=false:=by rw[aO];exact p
     by_cases u:t1.toList=[98,97,100]
     ·have k:Hid (a.bd t1.toList (s.pos T)=a):=by show _=a;unfold RS.bd;rw[ag (ac (ac (ac u)))]
      have m:Hid (a.b8 t1.toList=2^(n+1)):=by show _=_;rw[HM E.out u,<- N.out]
      have j3:(t1.toList==[98,97,100])=true:=by rw[bL];exact u
      clear l p u;rcases y with g|g|g|g|g|g|g
      all_goals
       subst g;go_wp2_with fail;go_meet;exact⟨rfl,by rw[m.out];rfl,by rw[k.out];exact h1,C⟩
     ·have j3:(t1.toList==[98,97,100])=false:=by rw[aO];exact u
      have m:Hid (a.b8 t1.toList=0):=by show _=_;rw[Eo E.out l p u]
      have Z:¬(0<=ba a.aa t1.toList\/t1.toList=[97,110,121]\/t1.toList=[111,116,104,101,114]\/t1.toList=[98,97,100]):=by
       rintro(q|q|q|q)
       ·exact E.out q
       ·exact l q
       ·exact p q
       ·exact u q
      cases a0
      ·have k:Hid (a.bd t1.toList (s.pos T)=a.fail 2 (s.pos T)):=by show _=_;unfold RS.bd;rw[ae Z,ae (by rw[<- c5.out];decide)]
       clear l p u Z y;go_wp2_with fail;refine(gN base b T a 2 (s.pos T) _ h1 (by omega)).mono ?_;rintro h0 a1 ⟨rfl,r,D⟩;go_wp2_with fail;go_meet;exact⟨rfl,by rw[m.out];rfl,by rw[k.out];exact r,C.trans D⟩
      ·have k:Hid (a.bd t1.toList (s.pos T)=a.fail 3 (s.pos T)):=by show _=_;unfold RS.bd;rw[ae Z,ag c5.out.symm]
       clear l p u Z y;go_wp2_with fail;refine(gN base b T a 3 (s.pos T) _ h1 (by omega)).mono ?_;rintro h0 a1 ⟨rfl,r,D⟩;go_wp2_with fail;go_meet;exact⟨rfl,by rw[m.out];rfl,by rw[k.out];exact r,C.trans D⟩
 case rest =>
  obtain⟨rfl,rfl,r,D⟩:=hcut;obtain⟨a1,i7⟩:∃a1,a1=wc:=⟨wc,rfl⟩;subst i7;have a6:=HJ a t1.toList (by rw[<- N.out];exact e4);obtain⟨o,a7⟩:∃o,o=a.b8 t1.toList:=⟨_,rfl⟩;rw[<- a7]at a6 ⊢;have g3:Hid (IK o):=a6;have g4:Hid (o=a.b8 t1.toList):=a7;clear a6 a7 X J O P Q c3 R S U V W Y;obtain⟨i,b2⟩:∃i,i=a.bd t1.toList (s.pos T):=⟨_,rfl⟩;rw[<- b2]at r;have a4:Hid (i=a.bd t1.toList (s.pos T)):=b2;clear b2;obtain⟨e9,g0,e8,X,J,O,P,Q,c3,R,S,U,V,W,Y⟩:=r.cells;have A:=jq a t1.toList (s.pos T);rw[<- a4.out]at A;have a9:=h1.2.2.2.1;have h4:i.atoms<=4:=by rw[A.2.2.2.2.1];exact(a9.2.2.2.2.2.2.2.2 c2.out).2.1
  have h3:0<=i.atoms:=r.2.2.2.1.2.2.2.2.1;have g6:Hid (i.aa=a.aa/\i.at_=a.at_/\i.nest=a.nest):=⟨A.1,A.2.2.2.1,A.2.2.2.2.2⟩;have g5:Hid (∀x∈a.aa,x.toList≠[]):=(a9.2.2.2.2.2.2.2.2 c2.out).2.2;clear A a9;have i1:Hid (s.atom T sub=(i.dn (s.pos T),na o)):=by
   show s.atom T sub=_;rw[i0.out];unfold RS.gF;rw[<- z.out,a3.out,<- a4.out,<- g4.out]
  go_upto_if 95 with fail
  go_cut [95] (fun _ M=>∃c:RS,Hid (c=if i.atoms=4 then i.fail 6 (s.pos T)else i)/\fE M base b T c/\e5 base w M)
  case first =>
   by_cases t:i.atoms=4
   ·have k4:(i.atoms==4)=true:=by rw[bL];exact t
    have a2:Hid (i.atoms=4):=t;clear t;go_wp2_with fail;refine(gN base b T i 6 (s.pos T) _ r (by omega)).mono ?_;rintro k8 L ⟨rfl,H,b7⟩;go_wp2_with fail;go_meet;exact⟨_,by show _=ite _ _ _;rw[ag a2.out],H,D.trans b7⟩
   ·have k4:(i.atoms==4)=false:=by rw[aO];exact t
    have a2:Hid (¬i.atoms=4):=t;clear t;go_wp2_with fail;go_meet;exact⟨i,by show _=ite _ _ _;rw[ae a2.out],r,D⟩
  case rest =>
   obtain⟨c,G,H,b7⟩:=hcut;obtain⟨L,i9⟩:∃L,L=wc:=⟨wc,rfl⟩;subst i9;clear X J O P Q c3 R S U V W Y;obtain⟨e9,g0,e8,X,J,O,P,Q,c3,R,S,U,V,W,Y⟩:=H.cells;have f:=bu i 6 (s.pos T);have b9:c.atoms=i.atoms:=by rw[G.out];split;exact f.2.2.2.2.1;rfl
   have g9:Hid (c.aa=i.aa/\c.at_=i.at_/\c.nest=i.nest):=by
    rw[G.out];split
    ·exact⟨f.1,f.2.2.2.1,f.2.2.2.2.2⟩
    ·exact⟨rfl,rfl,rfl⟩
   have c4:Hid (c.err=0->i.err=0/\i.atoms<=3):=by
    intro e
    by_cases t:i.atoms=4
    ·rw[G.out,ag t]at e;exact absurd e (cO _ _ _ (by omega))
    ·rw[G.out,ae t]at e;exact⟨e,by omega⟩
   have h6:0<=c.atoms/\c.atoms<=4:=by rw[b9];exact⟨h3,h4⟩
   obtain⟨l1,l2⟩:=h6;have e6:({ c with atoms:=c.atoms+1 }:RS).Ok T:=by
    obtain⟨j5,j6,j7,p4,l6,l7,j8,j9,e7⟩:=H.2.2.2.1;refine⟨j5,j6,j7,p4,by show 0<=c.atoms+1;omega,by show c.atoms+1<=5;omega,j8,j9,fun e=>⟨(e7 e).1,?_,(e7 e).2.2⟩⟩;show c.atoms+1<=4;have:=(c4.out e).2;omega
   obtain⟨I,k1⟩:=H.BD (c.atoms+1) e6;have b0:Hid (s.atom T sub=({ c with atoms:=c.atoms+1 },na o)):=by
    show s.atom T sub=_;rw[i1.out];unfold RS.dn;simp only;rw[<- G.out]
   have i2:Hid (jl (L.setCell ⟨b,7,none⟩ (.int .i64 (c.atoms+1)))):=I.2.2.2.2.1;have j0:1<(L.setCell ⟨b,7,none⟩ (.int .i64 (c.atoms+1))).heap.size:=by
    have b5:=I.1;have b6:=I.2.1;obtain⟨_,_,_,_,_,m0,m1,l9,h5,_⟩:=I;have:=(dE.1 h5).1;omega
   clear f b9 e6;go_wp2_with fail;refine(LW g2.out o _ g3.out i2.out j0).mono ?_;rintro k9 m4 ⟨l8,rfl,i4,h7⟩;go_wp2_with fail;go_ret;obtain⟨h2,k2⟩:=I.below h7;refine⟨_,1,rfl,by rw[b0.out];exact h2,by rw[b0.out];exact i4,(b7.trans k1).trans k2,?_⟩;rw[b0.out];have b5:=g9.out;have b6:=g6.out;have c9:c.err=0->s.at_<a.at_:=by
    intro e;have c7:=(c4.out e).1;have B:=Cj a t1.toList (s.pos T) (by rw[<- a4.out];exact c7) g5.out;rw[z.out];exact mE T s e0 (by rw[a3.out];exact B)
   refine⟨by show c.aa=_;rw[b5.1,b6.1,z.out];rfl,by show c.nest=_;rw[b5.2.2,b6.2.2,z.out];rfl,by show s.at_<=c.at_;omega,fun e=>by show s.at_<c.at_;have:=c9 e;omega,?_⟩;show (⟨#[91]⟩++hv o++⟨#[93]⟩:ai).size+5<=K*(c.at_-s.at_+qM { c with atoms:=c.atoms+1 });have l4:=(wE o).1;rw[c1,c1,eJ,eJ];have h9:1<=c.at_-s.at_+qM { c with atoms:=c.atoms+1 }:=by
    by_cases e:c.err=0
    ·have:=c9 e;omega
    ·rw[tJ (s:={ c with atoms:=c.atoms+1 }) e];omega
   calc 1+(hv o).size+1+5<=K*1:=by omega
    _<=_:=mm K h9
theorem Ma(f:oO)(T:ai)(sub:RS->RS×Rx)(K:Nat)(a:Int)(c:10<=K)(g:0<=a)(i:a<=4)(k:a≠4->gz T 148 sub K (a+1)):gz T 231 (fun s=>s.atom T sub) K a:=by
 intro base b s w h d j
 by_cases e:s.tk T=[40]
 ·exact P4 T sub K a c g i k base b s w h d j e
 ·exact P3 f T sub K c base b s w h d e
theorem ze(T:ai)(s:RS):(s.aH T).tk T=s.tk T:=by
 unfold RS.tk RS.aH tok;simp only;rw[qc]
theorem wo(x:Rx):(hO x).form.size<=x.form.size+2:=by
 unfold hO;split
 ·show 1<=_;omega
 ·split
  ·omega
  ·show (⟨#[60]⟩++x.form++⟨#[62]⟩:ai).size<=_;rw[c1,c1,eJ,eJ];omega
theorem pi{K:Nat}{s:RS}{r:RS×Rx}{T:ai}(h:PQ K s r)(a:K<=10000)(d:r.1.at_<=T.size)(c:T.size<=1000):r.2.form.size<=20000000:=by
 have b:=h.2.2.2.2;have hb:qM r.1<=1:=by unfold qM;split<;>omega
 have:K*(r.1.at_-s.at_+qM r.1)<=10000*1001:=h2 a (by omega);omega
theorem Kf(T:ai)(sub:RS->RS×Rx)(K:Nat)(D:Int)(g2:10<=K)(g3:K<=1000)(a1:gz T 231 (fun s=>s.atom T sub) K D):gz T 212 (fun s=>s.part T sub) (3*K) D:=by
 intro base b s w h a5 a8;have b4:Hid (gz T 231 (fun s=>s.atom T sub) K D):=a1;have b2:Hid (s.err=0):=a5;have b3:Hid (s.nest=D):=a8;have c8:T.size<=1000:=h.2.2.1;clear a1 a5 a8;go_enter func212,ntmps212;go_wp2_with fail;refine(b4.out base b s _ h b2.out b3.out).mono ?_;rintro g0 b1 ⟨k,d1,rfl,h1,b0,x,p⟩;obtain⟨a,M⟩:∃a,a=(s.atom T sub).1:=⟨_,rfl⟩;obtain⟨c,P⟩:∃c,c=(s.atom T sub).2:=⟨_,rfl⟩;have J:s.atom T sub=(a,c):=by rw[M,P]
 have W:Hid (s.atom T sub=(a,c)):=J;have q:fE b1 base b T a:=by rw[M];exact h1
 have Y:Hid (aS d1 b1 k c):=by rw[P];exact b0
 have G:Hid (PQ K s (a,c)):=by show PQ K s (a,c);rw[<- J];exact p
 clear M P J h1 b0 p;have g5:c.form.size<=20000000:=pi (T:=T) G.out (by omega) q.2.2.2.1.1 c8;obtain⟨h0,h2,g9,e0,e2,b6,b7,b8,c3,b9,c1,c2,c4,c5,e1⟩:=q.cells
 by_cases n:a.err=0
 ·have e3:(a.err != 0)=false:=by simp[n]
  have F:Hid (a.err=0):=n;clear n;have g:Hid (s.part T sub=RS.suffix T a c):=by
   show s.part T sub=_;unfold RS.part;rw[W.out,ae (by simpa using F.out)]
  go_wp2_with fail;refine(nL base b T a _ q).mono ?_;rintro g1 e8 ⟨rfl,C,y⟩;obtain⟨t1,N⟩:∃t1,t1=tok T a.at_:=⟨_,rfl⟩;rw[<- N];have f:Hid (a.tk T=t1.toList):=by rw[N];rfl
  clear N e0 e2 b6 b7 b8 c3 b9 c1 c2 c4 c5 e1;have A:Hid (aS d1 e8 k c):=Y.out.aY y.2;have a7:∀(r:RS×Rx),r.1.aa=a.aa->r.1.nest=a.nest->a.at_<=r.1.at_->r.2.form.size+5<=3*(c.form.size+5)->PQ (3*K) s r:=by
   intro r b5 a2 a3 a4;obtain⟨p,Q,R,S,U⟩:=G.out;have g6:s.at_<=a.at_:=R;have g7:s.at_<a.at_:=S F.out;refine⟨b5.trans p,a2.trans Q,by omega,fun _=>by omega,?_⟩;refine aE a4 ?_;rw[Nat.mul_assoc];refine mm 3 (aE U (mm K ?_));show a.at_-s.at_+qM a<=_;rw[xi F.out];omega
  have z:Hid (∀(r:RS×Rx),r.1.aa=a.aa->r.1.nest=a.nest->a.at_<=r.1.at_->r.2.form.size+5<=3*(c.form.size+5)->PQ (3*K) s r):=a7;clear a7;have c9:a.at_<=T.size:=q.2.2.2.1.1;have e7:=gJ T a c9;have g8:=c0 T (a.aH T) e7.1
  by_cases e:t1.toList=[42]
  ·have e4:(t1.toList==[42])=true:=by rw[bL];exact e
   have d:Hid (s.part T sub=((a.aH T).take T,hO c)):=by show s.part T sub=_;rw[g.out];unfold RS.suffix;simp only;rw[ag (by rw[f.out];exact e)]
   clear e;go_wp2_with fail;refine(hI base b T (a.aH T) _ C).mono ?_;rintro Z w3 ⟨rfl,t,j⟩;go_wp2_with fail;refine(Ce _ d1 k c (A.out.aY j.2) (by omega)).mono ?_;rintro a0 E ⟨v4,rfl,l,v⟩;go_wp2_with fail;go_ret;obtain⟨u,m⟩:=t.below v;refine⟨_,_,rfl,by rw[d.out];exact u,by rw[d.out];exact l,((x.trans y).trans j).trans m,?_⟩;rw[d.out];have:=wo c;exact z.out _ rfl rfl (by show a.at_<=((a.aH T).take T).at_;omega) (by show (hO c).form.size+5<=_;omega)
  ·have e4:(t1.toList==[42])=false:=by rw[aO];exact e
   by_cases i:t1.toList=[43]
   ·have e5:(t1.toList==[43])=true:=by rw[bL];exact i
    have d:Hid (s.part T sub=((a.aH T).take T,iT c (hO c))):=by show s.part T sub=_;rw[g.out];unfold RS.suffix;simp only;rw[ae (by rw[f.out];exact e),ag (by rw[f.out];exact i)]
    clear e i;go_wp2_with fail;refine(hI base b T (a.aH T) _ C).mono ?_;rintro Z w3 ⟨rfl,t,j⟩;have B:Hid (aS d1 w3 k c):=A.out.aY j.2;go_wp2_with fail;refine(Ce _ d1 k c B.out (by omega)).mono ?_;rintro a0 E ⟨v4,rfl,l,v⟩;have H:Hid (aS (d1+1) E v4 (hO c)):=l;clear l;have g4:=wo c;obtain⟨u,m⟩:=t.below v;go_wp2_with fail;refine(ty (c.form.size+1) _ (d1+1) k v4 c (hO c) (by omega) ((B.out.aY m.2).mono (by omega)) H.out (by omega)).mono ?_;rintro c7 e9 ⟨v5,d5,rfl,O,a9,L⟩;go_wp2_with fail;go_ret;obtain⟨I,V⟩:=u.below L;refine⟨_,_,rfl,by rw[d.out];exact I,by rw[d.out];exact O,(((x.trans y).trans j).trans m).trans V,?_⟩;rw[d.out];exact z.out _ rfl rfl (by show a.at_<=((a.aH T).take T).at_;omega) (by show (fS (c.form.size+1) c (hO c)).form.size+5<=_;omega)
   ·have e5:(t1.toList==[43])=false:=by rw[aO];exact i
    by_cases o:t1.toList=[63]
    ·have e6:(t1.toList==[63])=true:=by rw[bL];exact o
     have d:Hid (s.part T sub=((a.aH T).take T,eb c dp)):=by show s.part T sub=_;rw[g.out];unfold RS.suffix;simp only;rw[ae (by rw[f.out];exact e),ae (by rw[f.out];exact i),ag (by rw[f.out];exact o)]
     clear e i o;go_wp2_with fail;refine(hI base b T (a.aH T) _ C).mono ?_;rintro Z w3 ⟨rfl,t,j⟩;have B:Hid (aS d1 w3 k c):=A.out.aY j.2;go_wp2_with fail;refine(j1 _).mono ?_;rintro a0 E ⟨v4,rfl,l,v⟩;have H:Hid (aS 1 E v4 dp):=l;clear l;have a6:dp.form.size=1:=rfl;obtain⟨u,m⟩:=t.below v;have X:Hid (dp.form.size=1):=a6;clear a6;go_wp2_with fail;refine(w6 _ (d1+1) k v4 c dp ((B.out.aY m.2).mono (by omega)) (H.out.mono (by omega)) (by rw[X.out];omega)).mono ?_;rintro c7 e9 ⟨v5,d5,rfl,O,a9,L⟩;go_wp2_with fail;go_ret;obtain⟨I,V⟩:=u.below L;refine⟨_,_,rfl,by rw[d.out];exact I,by rw[d.out];exact O,(((x.trans y).trans j).trans m).trans V,?_⟩;rw[d.out];rw[X.out]at a9;exact z.out _ rfl rfl (by show a.at_<=((a.aH T).take T).at_;omega) (by show (eb c dp).form.size+5<=_;omega)
    ·have e6:(t1.toList==[63])=false:=by rw[aO];exact o
     have d:Hid (s.part T sub=(a.aH T,c)):=by show s.part T sub=_;rw[g.out];unfold RS.suffix;simp only;rw[ae (by rw[f.out];exact e),ae (by rw[f.out];exact i),ae (by rw[f.out];exact o)]
     clear e i o;go_wp2_with fail;go_ret;refine⟨_,_,rfl,by rw[d.out];exact C,by rw[d.out];exact A.out,x.trans y,?_⟩;rw[d.out];exact z.out _ rfl rfl (by show a.at_<=(a.aH T).at_;omega) (by show c.form.size+5<=_;omega)
 ·have e3:(a.err != 0)=true:=by simp[n]
  have g:Hid (s.part T sub=(a,c)):=by
   show s.part T sub=_;unfold RS.part;rw[W.out,ag (by simpa using n)]
  clear n;go_wp2_with fail;go_ret;refine⟨_,_,rfl,by rw[g.out];exact q,by rw[g.out];exact Y.out,x,?_⟩;rw[g.out];obtain⟨p,Q,R,S,U⟩:=G.out;exact⟨p,Q,R,S,aE U (Nat.mul_le_mul_right _ (by omega))⟩
theorem pe{T:ai}{sub:RS->RS×Rx}{g:Nat}{s:RS}{e:Rx}(h:s.err≠0):RS.cS T sub g s e=(s,e):=by
 cases g with
 | zero=>rfl
 | succ g=>rw[RS.cS,ag h]
theorem qi{T:ai}{sub:RS->RS×Rx}{g:Nat}{s:RS}{e:Rx}(h:s.err=0)(a:RS.mT (s.tk T)=true):RS.cS T sub (g+1) s e=RS.cS T sub g ((s.aH T).part T sub).1 (iT e ((s.aH T).part T sub).2):=by
 rw[RS.cS,ae (by simpa using h),ag a]
theorem BK{T:ai}{sub:RS->RS×Rx}{g:Nat}{s:RS}{e:Rx}(h:s.err=0)(a:RS.mT (s.tk T)=false):RS.cS T sub (g+1) s e=(s.aH T,e):=by
 rw[RS.cS,ae (by simpa using h),ae (by simp[a])]
theorem qG{T:ai}{sub:RS->RS×Rx}{g:Nat}{s:RS}{e:Rx}(h:s.err≠0):RS.bo T sub g s e=(s,e):=by
 cases g with
 | zero=>rfl
 | succ g=>rw[RS.bo,ag h]
theorem w4{T:ai}{sub:RS->RS×Rx}{g:Nat}{s:RS}{e:Rx}(h:s.err=0)(a:s.tk T=[47]):RS.bo T sub (g+1) s e=RS.bo T sub g (((s.aH T).take T).row T sub).1 (eb e (((s.aH T).take T).row T sub).2):=by
 rw[RS.bo,ae (by simpa using h),ag a]
theorem yQ{T:ai}{sub:RS->RS×Rx}{g:Nat}{s:RS}{e:Rx}(h:s.err=0)(a:s.tk T≠[47]):RS.bo T sub (g+1) s e=(s.aH T,e):=by
 rw[RS.bo,ae (by simpa using h),ae a]
theorem FP{K:Nat}{s b s2 a:RS}{x y z:Rx}(p:PQ K s (b,x))(c:b.err=0)(o:s2.aa=b.aa/\s2.nest=b.nest/\b.at_<=s2.at_)(q:PQ K s2 (a,y))(w:z.form.size+5<=(x.form.size+5)+(y.form.size+5)):PQ K s (a,z):=by
 obtain⟨d,a2,a3,a4,a5⟩:=p;obtain⟨b1,b2,b3,b4,k⟩:=q;obtain⟨m,n,c3⟩:=o;have r:s.at_<=b.at_:=a3;have u:s2.at_<=a.at_:=b3;have t:s.at_<b.at_:=a4 c;have i:a.aa=s2.aa:=b1;have j:a.nest=s2.nest:=b2;have f:b.aa=s.aa:=d;have g:b.nest=s.nest:=a2;refine⟨?_,?_,by show s.at_<=a.at_;omega,fun _=>by show s.at_<a.at_;omega,?_⟩
 ·show a.aa=s.aa;rw[i,m,f]
 ·show a.nest=s.nest;rw[j,n,g]
 ·show z.form.size+5<=K*(a.at_-s.at_+qM a);have h:x.form.size+5<=K*(b.at_-s.at_+qM b):=a5;have v:y.form.size+5<=K*(a.at_-s2.at_+qM a):=k;rw[xi c]at h;have e:K*(b.at_-s.at_+0)+K*(a.at_-s2.at_+qM a)=K*((b.at_-s.at_+0)+(a.at_-s2.at_+qM a)):=(k7 K _ _).symm;have l:K*((b.at_-s.at_+0)+(a.at_-s2.at_+qM a))<=K*(a.at_-s.at_+qM a):=mm K (by omega);omega
theorem FO{K:Nat}{T:ai}{s a:RS}{x:Rx}(e:PQ K s (a,x))(d:a.err=0)(c:a.at_<=T.size):PQ K s (a.aH T,x):=by
 obtain⟨b,a2,a3,a4,a5⟩:=e;have p:=gJ T a c;have f:s.at_<=a.at_:=a3;have g:s.at_<a.at_:=a4 d;refine⟨b,a2,by show s.at_<=(a.aH T).at_;omega,fun _=>by show s.at_<(a.aH T).at_;omega,?_⟩;refine aE a5 (mm K ?_);show a.at_-s.at_+qM a<=(a.aH T).at_-s.at_+qM (a.aH T);have:qM (a.aH T)=qM a:=rfl;omega
theorem Oz(T:ai)(sub:RS->RS×Rx)(K:Nat)(n:Int)(V:K<=10000)(X:gz T 212 (fun s=>s.part T sub) K n):gz T 187 (fun s=>s.row T sub) K n:=by
 intro base b s w h Y a0;have M:Hid (gz T 212 (fun s=>s.part T sub) K n):=X;have a9:Hid (s.err=0):=Y;have L:Hid (s.nest=n):=a0;have W:T.size<=1000:=h.2.2.1;clear X Y a0;go_enter func187,ntmps187;go_wp2_with fail;refine(M.out base b s _ h a9.out L.out).mono ?_;rintro g4 h7 ⟨h3,d1,rfl,h1,a1,a6,a5⟩;have c5:Hid (s.row T sub=RS.cS T sub (T.size+2) (s.part T sub).1 (s.part T sub).2):=rfl;go_wp2_with fail
 go_loopg [3] (T.size+3) (fun g c2 F=>∃(a:RS) (c:Rx) (d:Nat),fE F base b T a/\e5 base w F/\0<g/\Hid (aS d F c2 c)/\Hid (RS.cS T sub (g-1) a c=s.row T sub)/\Hid (a.err≠0\/T.size<a.at_+(g-1))/\Hid (PQ K s (a,c)))
 case atStart=>exact⟨_,_,d1,h1,a6,by omega,a1,c5,ac (by omega),a5⟩
 case round =>
  obtain⟨a,c,d,r,D,hg,Q,I,G,p⟩:=hrel;have g2:Hid (0<gk):=hg;clear hg h1 a6 a5 a1;obtain⟨a8,e4⟩:∃a8,a8=wr:=⟨wr,rfl⟩;subst e4;obtain⟨h5,h6,h4,c8,e3,b3,b4,b5,c3,b6,b7,b8,b9,c0,c9⟩:=r.cells;have v:a.at_<=T.size:=r.2.2.2.1.1
  by_cases l:a.err=0
  ·have e7:(a.err==0)=true:=by rw[bL];exact l
   have o:Hid (a.err=0):=l;obtain⟨i,Z⟩:∃i,gk=i+2:=⟨gk-2,by rcases G.out with q|q;exact absurd l q;omega⟩;have H:Hid (gk=i+2):=Z;have b0:Hid (T.size<a.at_+(i+1)):=by
    show T.size<a.at_+(i+1);rcases G.out with q|q
    ·exact absurd l q
    ·omega
   clear Z l;have J:Hid (RS.cS T sub (i+1) a c=s.row T sub):=by show _=_;rw[<- I.out,H.out];rfl
   have h0:c.form.size<=20000000:=pi (T:=T) p.out V v W;go_wp2_with fail;refine(nL base b T a _ r).mono ?_;rintro g5 w3 ⟨rfl,u,E⟩;obtain⟨t1,z⟩:∃t1,t1=tok T a.at_:=⟨_,rfl⟩;rw[<- z];have P:Hid (a.tk T=t1.toList):=by rw[z];rfl
   clear z c8 e3 b3 b4 b5 c3 b6 b7 b8 b9 c0 c9;have R:Hid (aS d w3 u3 c):=Q.out.aY E.2;have g8:(a.aH T).at_<=T.size:=u.2.2.2.1.1;cases f:RS.mT t1.toList
   ·have x:(((t1.toList==[40])=false/\t1.toList.isEmpty=true)\/((t1.toList==[40])=false/\t1.toList.isEmpty=false/\∃j:0<t1.size,dL (t1[0].toNat)=false)):=by
     unfold RS.mT at f;simp only[Bool.or_eq_false_iff,jg]at f
     by_cases m:t1.toList=[]
     ·left;exact⟨by rw[aO];exact f.1,by simp[m]⟩
     ·have j:0<t1.size:=by
       rcases Nat.eq_zero_or_pos t1.size with e|e
       ·exfalso;apply m;rw[bM];exact hj (by simpa using e)
       ·exact e
      right;refine⟨by rw[aO];exact f.1,by simpa using m,j,?_⟩;have:=f.2;simp only[m,decide_not,decide_false,Bool.not_false,Bool.true_and]at this;rw[kL t1 j]at this;exact this
    have k:Hid (s.row T sub=(a.aH T,c)):=by show _=_;rw[<- J.out,BK o.out (by rw[P.out];exact f)]
    clear f;rcases x with⟨A,B⟩|⟨A,B,j,e6⟩
    all_goals
     go_wp2_with (go_at_call 90;refine(il _ _).mono ?_;rintro c1 g1 ⟨rfl,rfl⟩);go_ret;refine⟨_,d,rfl,by show fE _ _ _ _ (s.row T sub).1;rw[k.out];exact u,by show aS _ _ _ (s.row T sub).2;rw[k.out];exact R.out,D.trans E,?_⟩;show PQ K s (s.row T sub);rw[k.out];exact FO p.out o.out v
   ·have x:(((t1.toList==[40])=true/\t1.toList.isEmpty=false)\/((t1.toList==[40])=false/\t1.toList.isEmpty=false/\∃j:0<t1.size,dL (t1[0].toNat)=true)):=by
     unfold RS.mT at f
     by_cases t:t1.toList=[40]
     ·left;exact⟨by rw[bL];exact t,by simp[t]⟩
     ·simp only[t,decide_false,Bool.false_or,gA,e1]at f;have m:=f.1;have j:0<t1.size:=by
       rcases Nat.eq_zero_or_pos t1.size with e|e
       ·exfalso;apply m;rw[bM];exact hj (by simpa using e)
       ·exact e
      right;refine⟨by rw[aO];exact t,by simpa using m,j,?_⟩;have:=f.2;rw[kL t1 j]at this;exact this
    have k:Hid (RS.cS T sub i ((a.aH T).part T sub).1 (iT c ((a.aH T).part T sub).2)=s.row T sub):=by show _=_;rw[<- J.out,qi o.out (by rw[P.out];exact f)]
    have N:Hid ((a.aH T).err=0/\(a.aH T).nest=n):=⟨o.out,by have:=p.out.2.1;show a.nest=n;exact(show a.nest=s.nest from this).trans L.out⟩;clear f;rcases x with⟨A,B⟩|⟨A,B,j,e6⟩
    all_goals
     go_wp2_with (go_at_call 90;refine(il _ _).mono ?_;rintro c1 g1 ⟨rfl,rfl⟩);refine(M.out base b (a.aH T) _ u N.out.1 N.out.2).mono ?_;rintro g6 e9 ⟨v4,d4,rfl,U,a3,a7,C⟩;have b1:Hid (aS d4 e9 v4 ((a.aH T).part T sub).2):=a3;have O:Hid (PQ K (a.aH T) ((a.aH T).part T sub)):=C;have h2:((a.aH T).part T sub).2.form.size<=20000000:=pi (T:=T) C V U.2.2.2.1.1 W;clear a3 C;go_wp2_with fail;refine(ty (c.form.size+1) _ (d+d4) u3 v4 c ((a.aH T).part T sub).2 (by omega) ((R.out.aY a7.2).mono (by omega)) (b1.out.mono (by omega)) (by omega)).mono ?_;rintro g7 g0 ⟨v5,d5,rfl,a4,g9,c7⟩;obtain⟨c4,e8⟩:=U.below c7;have b2:Hid (aS d5 g0 v5 (iT c ((a.aH T).part T sub).2)):=a4;clear a4;go_wp2_with fail;go_roundg (i+1)
     case measure=>have:=H.out;omega
     case rel =>
      have e0:=gJ T a v;have e2:PQ K s (((a.aH T).part T sub).1,iT c ((a.aH T).part T sub).2):=FP (s2:=a.aH T) (y:=((a.aH T).part T sub).2) p.out o.out ⟨rfl,rfl,e0.2⟩ O.out (by show (fS (c.form.size+1) c ((a.aH T).part T sub).2).form.size+5<=_;omega);refine⟨_,_,d5,c4,((D.trans E).trans a7).trans e8,by omega,b2,k,?_,e2⟩
      by_cases S:((a.aH T).part T sub).1.err=0
      ·refine ac ?_;have g3:(a.aH T).at_<((a.aH T).part T sub).1.at_:=O.out.2.2.2.1 S;have a2:=b0.out;show T.size<((a.aH T).part T sub).1.at_+(i+1-1);omega
      ·exact ah S
  ·have e7:(a.err==0)=false:=by rw[aO];exact l
   have k:Hid (s.row T sub=(a,c)):=by show _=_;rw[<- I.out,pe l]
   clear l;go_wp2_with fail;go_ret;refine⟨_,d,rfl,by show fE _ _ _ _ (s.row T sub).1;rw[k.out];exact r,by show aS _ _ _ (s.row T sub).2;rw[k.out];exact Q.out,D,?_⟩;show PQ K s (s.row T sub);rw[k.out];exact p.out
theorem Lv(T:ai)(sub:RS->RS×Rx)(K:Nat)(k:Int)(N:K<=10000)(P:gz T 187 (fun s=>s.row T sub) K k):gz T 148 (fun s=>s.fK T sub) K k:=by
 intro base b s w h Q S;have E:Hid (gz T 187 (fun s=>s.row T sub) K k):=P;have a3:Hid (s.err=0):=Q;have D:Hid (s.nest=k):=S;have O:T.size<=1000:=h.2.2.1;clear P Q S;go_enter func148,ntmps148;go_wp2_with fail;refine(E.out base b s _ h a3.out D.out).mono ?_;rintro e7 h2 ⟨g7,d1,rfl,h1,U,Y,X⟩;have b8:Hid (s.fK T sub=RS.bo T sub (T.size+2) (s.row T sub).1 (s.row T sub).2):=rfl;go_wp2_with fail
 go_loopg [3] (T.size+3) (fun g b5 x=>∃(a:RS) (c:Rx) (d:Nat),fE x base b T a/\e5 base w x/\0<g/\Hid (aS d x b5 c)/\Hid (RS.bo T sub (g-1) a c=s.fK T sub)/\Hid (a.err≠0\/T.size<a.at_+(g-1))/\Hid (PQ K s (a,c)))
 case atStart=>exact⟨_,_,d1,h1,Y,by omega,U,b8,ac (by omega),X⟩
 case round =>
  obtain⟨a,c,d,n,u,hg,I,B,z,m⟩:=hrel;have e4:Hid (0<gk):=hg;clear hg h1 Y X U;obtain⟨a1,c8⟩:∃a1,a1=wr:=⟨wr,rfl⟩;subst c8;obtain⟨g9,h0,g8,c2,c7,a7,a8,a9,c3,b0,b1,b2,b3,b4,c4⟩:=n.cells;have p:a.at_<=T.size:=n.2.2.2.1.1
  by_cases i:a.err=0
  ·have e0:(a.err==0)=true:=by rw[bL];exact i
   have l:Hid (a.err=0):=i;obtain⟨e,R⟩:∃e,gk=e+2:=⟨gk-2,by rcases z.out with q|q;exact absurd i q;omega⟩;have A:Hid (gk=e+2):=R;have a4:Hid (T.size<a.at_+(e+1)):=by
    show T.size<a.at_+(e+1);rcases z.out with q|q
    ·exact absurd i q
    ·omega
   clear R i;have C:Hid (RS.bo T sub (e+1) a c=s.fK T sub):=by show _=_;rw[<- B.out,A.out];rfl
   have g5:c.form.size<=20000000:=pi (T:=T) m.out N p O;go_wp2_with fail;refine(nL base b T a _ n).mono ?_;rintro e8 w3 ⟨rfl,o,v⟩;obtain⟨t1,r⟩:∃t1,t1=tok T a.at_:=⟨_,rfl⟩;rw[<- r];have H:Hid (a.tk T=t1.toList):=by rw[r];rfl
   clear r c2 c7 a7 a8 a9 c3 b0 b1 b2 b3 b4 c4;have J:Hid (aS d w3 u3 c):=I.out.aY v.2;have b9:(a.aH T).at_<=T.size:=o.2.2.2.1.1
   by_cases j:t1.toList=[47]
   ·have c9:(t1.toList==[47])=true:=by rw[bL];exact j
    have f:Hid (RS.bo T sub e (((a.aH T).take T).row T sub).1 (eb c (((a.aH T).take T).row T sub).2)=s.fK T sub):=by show _=_;rw[<- C.out,w4 l.out (by rw[H.out];exact j)]
    have F:Hid (((a.aH T).take T).err=0/\((a.aH T).take T).nest=k):=⟨l.out,by have:=m.out.2.1;show a.nest=k;exact(show a.nest=s.nest from this).trans D.out⟩;clear j;go_wp2_with fail;refine(hI base b T (a.aH T) _ o).mono ?_;rintro g1 h3 ⟨rfl,b7,a0⟩;go_wp2_with fail;refine(E.out base b ((a.aH T).take T) _ b7 F.out.1 F.out.2).mono ?_;rintro e9 e2 ⟨v4,d4,rfl,M,V,Z,t⟩;have a5:Hid (aS d4 e2 v4 (((a.aH T).take T).row T sub).2):=V;have G:Hid (PQ K ((a.aH T).take T) (((a.aH T).take T).row T sub)):=t;have g6:(((a.aH T).take T).row T sub).2.form.size<=20000000:=pi (T:=T) t N M.2.2.2.1.1 O;clear V t;go_wp2_with fail;refine(w6 _ (d+d4) u3 v4 c (((a.aH T).take T).row T sub).2 (((J.out.aY a0.2).aY Z.2).mono (by omega)) (a5.out.mono (by omega)) (by omega)).mono ?_;rintro g0 e3 ⟨v5,d5,rfl,W,g3,c1⟩;obtain⟨b6,e1⟩:=M.below c1;have a6:Hid (aS d5 e3 v5 (eb c (((a.aH T).take T).row T sub).2)):=W;clear W;go_wp2_with fail;go_roundg (e+1)
    case measure=>have:=A.out;omega
    case rel =>
     have g2:=gJ T a p;have g4:=c0 T (a.aH T) b9;have c5:PQ K s ((((a.aH T).take T).row T sub).1,eb c (((a.aH T).take T).row T sub).2):=FP (s2:=(a.aH T).take T) (y:=(((a.aH T).take T).row T sub).2) m.out l.out ⟨rfl,rfl,by omega⟩ G.out (by omega);refine⟨_,_,d5,b6,(((u.trans v).trans a0).trans Z).trans e1,by omega,a6,f,?_,c5⟩
     by_cases L:(((a.aH T).take T).row T sub).1.err=0
     ·refine ac ?_;have e6:((a.aH T).take T).at_<(((a.aH T).take T).row T sub).1.at_:=G.out.2.2.2.1 L;have a2:=a4.out;show T.size<(((a.aH T).take T).row T sub).1.at_+(e+1-1);omega
     ·exact ah L
   ·have c9:(t1.toList==[47])=false:=by rw[aO];exact j
    have f:Hid (s.fK T sub=(a.aH T,c)):=by show _=_;rw[<- C.out,yQ l.out (by rw[H.out];exact j)]
    clear j;go_wp2_with fail;go_ret;refine⟨_,d,rfl,by show fE _ _ _ _ (s.fK T sub).1;rw[f.out];exact o,by show aS _ _ _ (s.fK T sub).2;rw[f.out];exact J.out,u.trans v,?_⟩;show PQ K s (s.fK T sub);rw[f.out];exact FO m.out l.out p
  ·have e0:(a.err==0)=false:=by rw[aO];exact i
   have f:Hid (s.fK T sub=(a,c)):=by show _=_;rw[<- B.out,qG i]
   clear i;go_wp2_with fail;go_ret;refine⟨_,d,rfl,by show fE _ _ _ _ (s.fK T sub).1;rw[f.out];exact n,by show aS _ _ _ (s.fK T sub).2;rw[f.out];exact I.out,u,?_⟩;show PQ K s (s.fK T sub);rw[f.out];exact m.out
theorem Lx(b:oO)(T:ai)(n:Nat):n<=4->gz T 148 (RS.expr T n) (10*3^(n+1)) (4-(n:Int)):=by
 induction n with
 | zero =>
  intro _;have h1:=Ma b T (fun s=>(s,eB)) 10 4 (by omega) (by omega) (by omega) (fun h=>absurd rfl h);exact Lv T _ 30 4 (by omega) (Oz T _ 30 4 (by omega) (Kf T _ 10 4 (by omega) (by omega) h1))
 | succ n f =>
  intro g;have hi:=f (by omega);have c:10<=10*3^(n+1)/\10*3^(n+1)<=810:=by
   have:n=0\/n=1\/n=2\/n=3:=by omega
   rcases this with rfl|rfl|rfl|rfl<;>decide
  have e:4-((n+1:Nat):Int)+1=4-(n:Int):=by omega
  have h1:=Ma b T (RS.expr T n) (10*3^(n+1)) (4-((n+1:Nat):Int)) c.1 (by omega) (by omega) (fun _=>by rw[e];exact hi);have a:=Kf T _ _ _ c.1 (by omega) h1;have d:3*(10*3^(n+1))=10*3^(n+1+1):=by rw[Nat.pow_succ 3 (n+1)];omega
  rw[d]at a;exact Lv T _ _ _ (by omega) (Oz T _ _ _ (by omega) a)
theorem I6(T:ai)(s:RS)(l:List UInt8):(s.want T l).L=s.L:=(gl T s l).2.2.1
theorem LQ(T:ai)(s:RS):(s.eg T).L=s.L:=by
 unfold RS.eg;simp only;split
 ·rw[I6]
 ·rfl
theorem EV(T:ai)(s:RS):(s.gF T).1.L=s.L:=by
 unfold RS.gF RS.dn;simp only;have h:=(jq (s.take T) (s.tk T) (s.pos T)).2.2.1;split
 ·show ((((s.take T).bd (s.tk T) (s.pos T)).fail 6 (s.pos T))).L=_;rw[(bu _ _ _).2.2.1,h];rfl
 ·exact h.trans rfl
theorem xk(T:ai)(sub:RS->RS×Rx)(a:∀s,(sub s).1.L=s.L)(s:RS):(s.atom T sub).1.L=s.L:=by
 unfold RS.atom;split
 ·split
  ·show ((s.take T).fail 6 (s.pos T)).L=_;rw[(bu _ _ _).2.2.1];rfl
  ·show ((sub _).1.eg T).L=_;rw[LQ,a];rfl
 ·exact EV T s
theorem Kh(T:ai)(sub:RS->RS×Rx)(a:∀s,(sub s).1.L=s.L)(s:RS):(s.part T sub).1.L=s.L:=by
 unfold RS.part;split
 ·exact xk T sub a s
 ·unfold RS.suffix;simp only;split
  ·exact xk T sub a s
  ·split
   ·exact xk T sub a s
   ·split
    ·exact xk T sub a s
    ·exact xk T sub a s
theorem Pe(T:ai)(sub:RS->RS×Rx)(a:∀s,(sub s).1.L=s.L)(g:Nat):∀s e,(RS.cS T sub g s e).1.L=s.L:=by
 induction g with
 | zero=>intro s e;rfl
 | succ g b =>
  intro s e;rw[RS.cS];split
  ·rfl
  ·split
   ·rw[b,Kh T sub a];rfl
   ·rfl
theorem OA(T:ai)(sub:RS->RS×Rx)(a:∀s,(sub s).1.L=s.L)(s:RS):(s.row T sub).1.L=s.L:=by
 unfold RS.row;rw[Pe T sub a,Kh T sub a]
theorem N1(T:ai)(sub:RS->RS×Rx)(a:∀s,(sub s).1.L=s.L)(g:Nat):∀s e,(RS.bo T sub g s e).1.L=s.L:=by
 induction g with
 | zero=>intro s e;rfl
 | succ g b =>
  intro s e;rw[RS.bo];split
  ·rfl
  ·split
   ·rw[b,OA T sub a];rfl
   ·rfl
theorem Gj(T:ai)(sub:RS->RS×Rx)(a:∀s,(sub s).1.L=s.L)(s:RS):(s.fK T sub).1.L=s.L:=by
 unfold RS.fK;rw[N1 T sub a,OA T sub a]
theorem PJ(T:ai)(n:Nat):∀s,(RS.expr T n s).1.L=s.L:=by
 induction n with
 | zero=>intro s;exact Gj T _ (fun _=>rfl) s
 | succ n a=>intro s;exact Gj T _ a s
theorem LB(T:ai)(s:RS)(l:List UInt8):(s.hC T l).L=s.L:=by
 unfold RS.hC;split
 ·exact I6 T s l
 ·rfl
theorem qe(T:ai)(s:RS)(l:List UInt8):(s.side T l).1.L=s.L:=by
 unfold RS.side;simp only;split
 ·rw[LB];rfl
 ·rw[LB,PJ];rfl
theorem N5(T:ai)(s:RS)(l:List UInt8)(a:s.at_<=T.size):s.at_<=(s.hC T l).at_/\(s.hC T l).nest=s.nest/\(s.hC T l).aa=s.aa:=by
 unfold RS.hC;split
 ·have w:=gl T s l;have t:=c0 T s a;exact⟨by rw[w.2.2.2.1];exact t.2.1,w.2.2.2.2.2,w.1⟩
 ·exact⟨ar _,rfl,rfl⟩
theorem FA(P:oO)(T:ai)(base b:Nat)(s:RS)(x:ai)(w:World)(h:fE w base b T s)(S:s.err=0)(V:s.nest=0):Calls prog 97 #[.pointer (some ⟨b,0,none⟩),.string x] w fun e w'=>∃v d,e=.returned v/\fE w' base b T (s.side T x.toList).1/\aS d w' v (s.side T x.toList).2/\e5 base w w'/\(s.side T x.toList).1.nest=0/\s.at_<=(s.side T x.toList).1.at_:=by
 have a5:Hid (gz T 148 (RS.expr T 4) 2430 0):=Lx P T 4 (by omega);have a4:Hid (s.err=0):=S;have q:Hid (s.nest=0):=V;clear P S V;obtain⟨c2,c4,c1,Q,X,F,G,H,c3,I,J,K,L,M,U⟩:=h.cells;have W:({ s with atoms:=0 }:RS).Ok T:=by
  obtain⟨b6,b7,b8,p4,e1,e2,b9,c0,Z⟩:=h.2.2.2.1;exact⟨b6,b7,b8,p4,by show (0:Int)<=0;omega,by show (0:Int)<=5;omega,b9,c0,fun e=>⟨(Z e).1,by show (0:Int)<=4;omega,(Z e).2.2⟩⟩
 obtain⟨h1,a1⟩:=h.BD 0 W;obtain⟨c,n⟩:∃c:RS,c={ s with atoms:=0 }:=⟨_,rfl⟩;rw[<- n]at h1;have C:Hid (c={ s with atoms:=0 }):=n;have g:Hid (c.at_=s.at_/\c.err=s.err/\c.nest=s.nest):=by rw[n];exact⟨rfl,rfl,rfl⟩
 clear n W;go_enter func97,ntmps97;go_wp2_with fail;refine(j1 _).mono ?_;rintro c7 c5 ⟨v2,rfl,Y,b2⟩;obtain⟨a8,a2⟩:=h1.below b2;have a6:Hid (aS 1 c5 v2 dp):=Y;clear Y Q X F G H c3 I J K L M U;go_wp2_with fail;refine(nL base b T c _ a8).mono ?_;rintro c8 w3 ⟨rfl,N,u⟩;obtain⟨t1,t⟩:∃t1,t1=tok T c.at_:=⟨_,rfl⟩;rw[<- t];have D:Hid ((c.aH T).tk T=t1.toList):=by rw[t];exact ze T c
 clear t;have b1:c.at_<=T.size:=h1.2.2.2.1.1;have e3:=gJ T c b1;obtain⟨B,O⟩:∃B,B=(t1.toList==x.toList):=⟨_,rfl⟩;have p:Hid (B=(t1.toList==x.toList)):=O;clear O
 go_upto_if 19 with fail
 rw[<- p.out]
 go_cut [5,6,7] (fun a7 _ _ z=>∃(a:RS) (A:Rx) (d:Nat),fE z base b T a/\e5 base w z/\Hid (aS d z a7 A)/\Hid (s.side T x.toList=(a.hC T x.toList,A))/\Hid (a.nest=0/\s.at_<=a.at_))
 case first =>
  cases B;rotate_left
  ·have k:t1.toList=x.toList:=by have:=p.out.symm;rw[bL]at this;exact this
   have r:Hid (s.side T x.toList=((c.aH T).hC T x.toList,dp)):=by show s.side T x.toList=_;unfold RS.side;simp only;rw[<- C.out,ag (by rw[D.out];exact k)]
   clear k;go_wp2_with fail;go_meet;exact⟨c.aH T,dp,1,N,(a1.trans a2).trans u,a6.out.aY u.2,r,g.out.2.2.trans q.out,by have:=g.out.1;omega⟩
  ·have k:¬t1.toList=x.toList:=by have:=p.out.symm;rw[aO]at this;exact this
   have r:Hid (s.side T x.toList=((RS.expr T 4 (c.aH T)).1.hC T x.toList,(RS.expr T 4 (c.aH T)).2)):=by show s.side T x.toList=_;unfold RS.side;simp only;rw[<- C.out,ae (by rw[D.out];exact k)]
   clear k;go_wp2_with fail;refine(a5.out base b (c.aH T) _ N (g.out.2.1.trans a4.out) (g.out.2.2.trans q.out)).mono ?_;rintro c9 y ⟨v4,d4,rfl,j,b3,o,a0⟩;go_wp2_with fail;go_meet;exact⟨_,_,d4,j,((a1.trans a2).trans u).trans o,b3,r,a0.2.1.trans (g.out.2.2.trans q.out),by have:=g.out.1;have:=a0.2.2.1;omega⟩
 case rest =>
  obtain⟨a,A,d,j,o,E,f,m⟩:=hcut;obtain⟨y,b4⟩:∃y,y=wc:=⟨wc,rfl⟩;subst b4;obtain⟨c2,c4,c1,Q,X,F,G,H,c3,I,J,K,L,M,U⟩:=j.cells;have b0:a.at_<=T.size:=j.2.2.2.1.1;have R:=N5 T a x.toList b0;have l:Hid (a.at_<=(a.hC T x.toList).at_/\(a.hC T x.toList).nest=a.nest/\(a.hC T x.toList).aa=a.aa):=R;clear R
  by_cases i:a.err=0
  ·have b5:(a.err==0)=true:=by rw[bL];exact i
   have hb:Hid (a.hC T x.toList=a.want T x.toList):=by show _=_;unfold RS.hC;rw[ag i]
   clear i;go_wp2_with fail;refine(y8 base b T a x _ j).mono ?_;rintro e0 e4 ⟨rfl,a9,a3⟩;go_wp2_with fail;go_ret;refine⟨_,d,rfl,by rw[f.out,hb.out];exact a9,by rw[f.out];exact E.out.aY a3.2,o.trans a3,by rw[f.out];exact l.out.2.1.trans m.out.1,by rw[f.out];exact aE m.out.2 l.out.1⟩
  ·have b5:(a.err==0)=false:=by rw[aO];exact i
   have hb:Hid (a.hC T x.toList=a):=by show _=_;unfold RS.hC;rw[ae i]
   clear i;go_wp2_with fail;go_ret;refine⟨_,d,rfl,by rw[f.out,hb.out];exact j,by rw[f.out];exact E.out,o,by rw[f.out];exact l.out.2.1.trans m.out.1,by rw[f.out];exact aE m.out.2 l.out.1⟩
theorem vZ(a:List (Bool×Value×Value))(v:Bool×Value×Value):du (a++[v])=du a++[.bool v.1,v.2.1,v.2.2]:=by simp[du]
theorem hY.snoc{w:World}{q:List (Bool×Value×Value)}{L:List (Bool×Rx×Rx)}(h:hY w q L)(c:Bool)(n o:Value)(t u:Rx){d e:Nat}(A:aS d w n t)(B:aS e w o u):hY w (q++[(c,n,o)]) (L++[(c,t,u)]):=by
 refine⟨by simp[h.1],fun i v x j g=>?_⟩
 by_cases hi:i<L.length
 ·rw[dD (by have:=h.1;omega)]at j;rw[dD hi]at g;exact h.2 i v x j g
 ·have y:i=L.length:=by
   have:=(a1.1 g).1;simp at this;omega
  subst y;rw[eH (by have:=h.1;omega)]at j;rw[eH (by omega)]at g;simp[h.1]at j g;subst j;subst g;exact⟨rfl,⟨d,A⟩,e,B⟩
theorem fE.J8{w w1 y w3:World}{base b:Nat}{T:ai}{s:RS}{C E vL o:Value}{c:Bool}{t u:Value}{v x:Rx}{d e:Nat}{q:List (Bool×Value×Value)}(h:fE w base b T s)(n:p1 w b T s C E vL) (I:w.ownsRow base 9 1 C s.aa.length (s.aa.map .string)) (hS:w.ownsRow base 197 3 E s.ay.length (cL s.ay)) (j:w.ownsRow base 181 3 vL s.L.length (du q)) (K:hY w q s.L) (i:hW 181 6 base b vL o w w1 y w3) (N:y.ownsRow base 181 3 o (s.L.length+1) (du q++[.bool c,t,u])) (M:aS d w t v) (P:aS e w u x) (Z:s.L.length<=3):fE w3 base b T { s with L:=s.L++[(c,v,x)] }/\Below base w w3:=by
 obtain⟨g,G,J,O,Q,_⟩:=h;have R:∀H,Kt H w w1:=fun H=>Kt.below i.first
 have S:w1.ownsRow base 181 3 vL s.L.length (du q):=bt j (R _);have Y:b<w.heap.size:=(dE.1 n).1;have a0:=i.first.size;have b1:Below base w y:=(i.first.mono (by omega)).grown i.grown (by omega) (fun k A=>(S.lt k A).1);have b2:Below base w (y.setCell ⟨b,6,none⟩ o):=b1.setCell G o;have F:Below base w w3:=⟨i.last.2.1.trans b1.os,i.last.2.2.1.trans b1.tape,i.last.2.2.2.trans b1.output,by rw[i.last.1];exact b2.size,fun k A=>by rw[i.last.1];exact b2.block k A⟩;have B:bf w w3:=qw (i.kt j n (by decide) (by decide) (by decide)) (i.kt j n (by decide) (by decide) (by decide));refine⟨⟨g,G,J,?_,Q.on F g,C,E,o,?_,?_,?_,q++[(c,t,u)],?_,?_⟩,F⟩
 ·obtain⟨U,V,W,p4,X⟩:=O;exact⟨U,V,W,by show (s.L++[(c,v,x)]).length<=4;rw[aF];simp;omega,X⟩
 ·exact(i.da j n (by decide)).trans rfl
 ·exact bt I (i.kt j n (by decide) (by decide) (by decide))
 ·exact bt hS (i.kt j n (by decide) (by decide) (by decide))
 ·have:=i.row j n (by decide) N;show w3.ownsRow base _ 3 o (s.L++[(c,v,x)]).length (du (q++[(c,t,u)]));rw[vZ,aF];exact this
 ·exact(K.aY B).snoc c t u v x (M.aY B) (P.aY B)
theorem Eu(n:Nat)(a:n∈[0,1,2,3,4,7,8,15,16,31,32,63,64])(w:World):Calls prog 39 #[.int .i64 n] w fun e w'=>e=.returned (.string (hv n))/\w'=w:=by
 simp only[aT,hh,g6]at a;rcases a with rfl|rfl|rfl|rfl|rfl|rfl|rfl|rfl|rfl|rfl|rfl|rfl|rfl
 all_goals
  go_enter func39,ntmps39;go_wp2;go_ret;exact⟨by rfl,rfl⟩
theorem NF(n:Nat)(a:n∈[127,128,255])(w:World):Calls prog 196 #[.int .u64 n] w fun e w'=>e=.returned (.int .i64 (if n=127 then 7 else 8))/\w'=w:=by
 simp only[aT,hh,g6]at a;rcases a with rfl|rfl|rfl
 all_goals
  go_enter func196,ntmps196;go_wp2;go_ret;exact⟨by simp[wrap64];decide +kernel,rfl⟩
theorem B2(n:Nat)(a:n∈[127,128,255])(w:World)(c:w.cell? ⟨1,2,none⟩=some (.int .u64 100)):Calls prog 162 #[.int .u64 n] w fun e w'=>e=.returned (.int .i64 3)/\w'=w:=by
 go_enter func162,ntmps162;go_wp2_with fail;refine(NF n a _).mono ?_;rintro b d ⟨rfl,rfl⟩;simp only[aT,hh,g6]at a;rcases a with rfl|rfl|rfl
 all_goals
  simp only[de,fi,Nat.reduceEqDiff];go_wp2;go_ret;exact⟨by first|rfl|(simp;done),rfl⟩
def IX:Array Value:=#[.int .u8 0,.int .u8 0,.int .u8 0,.int .u8 0,.int .u8 0,.int .u8 0,.int .u8 0,.int .u8 0,.int .u8 0,.int .u8 0,.int .u8 0,.int .u8 0,.int .u8 0,.int .u8 0,.int .u8 0,.int .u8 0,.int .u8 0,.int .u8 0,.int .u8 0,.int .u8 0,.int .u8 0,.int .u8 0,.int .u8 0,.int .u8 0]
def RN(n:Nat):Array Value:=((IX.setIfInBounds 1 (.int .u8 (48+n/100:Nat))).setIfInBounds 2 (.int .u8 (48+n/10%10:Nat))).setIfInBounds 3 (.int .u8 (48+n%10:Nat))
theorem L7(n:Nat)(a:n∈[127,128,255])(B:Nat)(w:World)(h:w.heap[B]?=some (.cells IX 272 (0,0))):Calls prog 163 #[.slice (some ⟨B,1,none⟩) 3 23,.int .u64 n] w fun e w'=>e=.returned (.tuple #[])/\w'.heap[B]?=some (.cells (RN n) 272 (0,0))/\bj (fun k=>k=B) w w':=by
 have b:w.cell? ⟨B,1,none⟩=some (.int .u8 0):=ab h 1 _ rfl;have c:w.cell? ⟨B,2,none⟩=some (.int .u8 0):=ab h 2 _ rfl;have c3:w.cell? ⟨B,3,none⟩=some (.int .u8 0):=ab h 3 _ rfl;have d:=aq h;simp only[aT,hh,g6]at a;rcases a with rfl|rfl|rfl
 all_goals
  go_enter func163,ntmps163;go_wp2;refine wp_loop_rounds 1 ?_;rw[rounds_succ];go_wp2;go_region
  all_goals (try go_wp2)
  go_end0
  exact⟨rfl,(am (am (am h 3 _) 2 _) 1 _).trans (by rfl),((((bj.refl _ _).kV _).kV _).kV _).drew⟩
theorem Li(n:Nat)(c:n∈[127,128,255])(w:World)(l:w.cell? ⟨1,2,none⟩=some (.int .u64 100))(f:1<w.heap.size):Calls prog 118 #[.int .i64 n,.int .i64 10] w fun e w'=>e=.returned (.string (hv n))/\Below w.heap.size w w':=by
 have hb:100<=n/\n<=255:=by simp at c;omega
 obtain⟨q,r⟩:=hb;have d:Hid (n∈[127,128,255]):=c;clear c;go_enter func118,ntmps118;go_wp2_with fail;refine(B2 n d.out _ ?_).mono ?_
 ·exact(Below.cell (((aB w.heap.size w).alloc (ar _) _)) (p:=⟨1,2,none⟩) f).trans l
 rintro m u ⟨rfl,rfl⟩;go_wp2_with fail;refine(L7 n d.out w.heap.size _ (aw _ _)).mono ?_;rintro o a ⟨rfl,b,h⟩;have d1:a.cell? ⟨w.heap.size,1,none⟩=some (.int .u8 (48+n/100:Nat)):=ab b 1 _ rfl;have d2:a.cell? ⟨w.heap.size,2,none⟩=some (.int .u8 (48+n/10%10:Nat)):=ab b 2 _ rfl;have d3:a.cell? ⟨w.heap.size,3,none⟩=some (.int .u8 (48+n%10:Nat)):=ab b 3 _ rfl;have s:(convert 63 9 (.slice (some ⟨w.heap.size,1,none⟩) 3 23)).run prog a=.ok (.string (hv n)) a:=by
  have hb:=run_convert_bytes_back (P:=prog) a 63 9 5 ⟨w.heap.size,1,none⟩ 23 [UInt8.ofNat (48+n/100),UInt8.ofNat (48+n/10%10),UInt8.ofNat (48+n%10)] (by kernel_rfl) (by kernel_rfl) (by kernel_rfl) (fun j i=>by
   have g:∀j,(⟨w.heap.size,1,none⟩:Addr).add j=⟨w.heap.size,1+j,none⟩:=by intro j;unfold Addr.add;split<;>simp_all
   rw[g]
   match j,i with
   | 0,_=>refine d1.trans ?_;simp;omega
   | 1,_=>refine d2.trans ?_;simp;omega
   | 2,_=>refine d3.trans ?_;simp;omega)
  have e:hv n=⟨[UInt8.ofNat (48+n/100),UInt8.ofNat (48+n/10%10),UInt8.ofNat (48+n%10)].toArray⟩:=by
   unfold hv;rw[ae (by omega),ae (by omega)];rfl
  rw[e];exact hb
 go_wp2_with fail;go_ret;exact⟨rfl,((aB _ _).alloc (ar _) _).trans (h.below (by simp) (fun k t e=>by omega))⟩
theorem NI(n:Nat)(a:n∈[127,128,255])(w:World)(b:w.cell? ⟨1,2,none⟩=some (.int .u64 100))(f:1<w.heap.size):Calls prog 70 #[.int .i64 n] w fun e w'=>e=.returned (.string (hv n))/\Below w.heap.size w w':=by
 have d:Hid (w.cell? ⟨1,2,none⟩=some (.int .u64 100)):=b;have c:Hid (n∈[127,128,255]):=a;have hb:n<=255:=by simp at a;omega
 clear b a;go_enter func70,ntmps70;go_wp2_with fail;refine(Li n c.out _ d.out f).mono ?_;rintro h i ⟨rfl,g⟩;go_wp2_with fail;go_ret;exact⟨rfl,g⟩
theorem Ev(n:Nat)(a:n∈[127,128,255])(w:World)(b:w.cell? ⟨1,2,none⟩=some (.int .u64 100))(f:1<w.heap.size):Calls prog 39 #[.int .i64 n] w fun e w'=>e=.returned (.string (hv n))/\Below w.heap.size w w':=by
 have d:Hid (w.cell? ⟨1,2,none⟩=some (.int .u64 100)):=b;have c:Hid (n∈[127,128,255]):=a;clear b a;go_enter func39,ntmps39;go_wp2_with fail;refine(NI n c.out _ d.out f).mono ?_;rintro h i ⟨rfl,g⟩;go_wp2_with fail;go_ret;exact⟨rfl,g⟩
theorem F5:oO:=by
 intro n w a c b;rcases a with a|a
 ·refine(Eu n a w).mono ?_;rintro e w' ⟨rfl,rfl⟩;exact⟨rfl,aB _ _⟩
 ·exact Ev n a w c b
def me(w:World)(b eK:Nat):Prop:=∃a:Array Value,w.heap[b]?=some (.cells a 35 (0,0))/\∀v k,a[6]?=some v->v.ownBlock=some k->k<eK
theorem me.kl{w w':World}{b eK:Nat}(h:me w b eK)(d:KL w w'):me w' b eK:=by
 obtain⟨g,n,j⟩:=h;obtain⟨i,o,e⟩:=d b g n;exact⟨i,o,fun v k q d=>j v k (by rw[<- e];exact q) d⟩
theorem fE.Pt{w:World}{base b:Nat}{T:ai}{s:RS}(h:fE w base b T s):me w b w.heap.size:=by
 obtain⟨g,y,u,A,B,C,E,q,i,t,hS,F,d,x⟩:=h;refine⟨_,i,fun v k n j=>?_⟩;have o:q=v:=g8 n;subst o;exact(d.lt k j).2
theorem me.at{w:World}{b eK:Nat}{T:ai}{s:RS}{n o vL:Value}(h:me w b eK)(hb:p1 w b T s n o vL):∀k,vL.ownBlock=some k->k<eK:=by
 obtain⟨q,d,i⟩:=h;have g:=hb;unfold p1 at g;rw[g]at d;simp at d;intro k j;exact i vL k (by rw[<- d];rfl) j
theorem fE.BC{w:World}{base b:Nat}{T:ai}{s:RS}{q eK:Nat}{n:Array Value}(h:fE w base b T s)(A:me w b eK)(B:w.heap[q]?=some (.cells n 181 (0,0)))(S:eK<=q)(K:base<=q)(o:Nat)(u:Value):fE (w.setCell ⟨q,o,none⟩ u) base b T s/\Below base w (w.setCell ⟨q,o,none⟩ u)/\bf w (w.setCell ⟨q,o,none⟩ u)/\me (w.setCell ⟨q,o,none⟩ u) b eK/\(w.setCell ⟨q,o,none⟩ u).heap[q]?=some (.cells (n.setIfInBounds o u) 181 (0,0)):=by
 obtain⟨g,J,H,O,j,C,E,d,i,G,hS,R,F,I⟩:=h;have hb:Below base w (w.setCell ⟨q,o,none⟩ u):=(aB _ _).setCell K u;have kt:∀t,t≠181->Kt t w (w.setCell ⟨q,o,none⟩ u):=fun t j=>Kt.setCell B j u
 have y:bf w (w.setCell ⟨q,o,none⟩ u):=qw (kt _ (by decide)) (kt _ (by decide));have N:d.ownBlock≠some q:=fun e=>by have:=A.at i q e;omega
 have x:p1 (w.setCell ⟨q,o,none⟩ u) b T s C E d:=kt _ (by decide) _ _ _ i;refine⟨⟨g,J,H,O,j.on hb g,C,E,d,x,bt G (kt _ (by decide)),bt hS (kt _ (by decide)),R,ownsRow_setCell_other F N u,I.aY y⟩,hb,y,⟨_,x,fun v k P M=>?_⟩,am B o u⟩;have Q:d=v:=g8 P;subst Q;exact A.at i k M
theorem aS.ptr{d:Nat}{w:World}{v:Value}{x:Rx}(h:aS d w v x):∃p,v=.pointer (some ⟨p,0,none⟩):=by
 obtain⟨p,_,_,_,g,_⟩:=h.open;exact⟨p,g⟩
theorem yj(T:ai)(s a:RS)(c:a=s.take T)(b:¬a.L.length=4):s.ep T={ (if (a.side T [124]).1.err=0 then (a.side T [124]).1.side T [59]else ((a.side T [124]).1,dp)).1 with L:=(if (a.side T [124]).1.err=0 then (a.side T [124]).1.side T [59]else ((a.side T [124]).1,dp)).1.L++[(decide (s.tk T=[99,117,116]),(a.side T [124]).2,(if (a.side T [124]).1.err=0 then (a.side T [124]).1.side T [59]else ((a.side T [124]).1,dp)).2)] }:=by
 unfold RS.ep;simp only;rw[<- c,ae b]
theorem Nj(T:ai)(base b:Nat)(s:RS)(w:World)(h:fE w base b T s)(h0:s.err=0)(h8:s.nest=0):Calls prog 49 #[.pointer (some ⟨b,0,none⟩)] w fun e w'=>e=.returned (.tuple #[])/\fE w' base b T (s.ep T)/\Below base w w'/\(s.ep T).nest=0/\(s.take T).at_<=(s.ep T).at_:=by
 have j4:=az h0;have k0:=az h8;clear h0 h8;obtain⟨a,b6⟩:∃a,a=s.take T:=⟨_,rfl⟩;have v:=az b6;have a4:Hid (a.err=0/\a.nest=0):=by rw[b6];exact⟨j4.out,k0.out⟩
 clear b6;obtain⟨t1,i1⟩:∃t1,t1=tok T s.at_:=⟨_,rfl⟩;have e1:=az i1;clear i1;go_enter func49,ntmps49;go_wp2_with fail;refine(hI base b T s _ h).mono ?_;rintro n4 i7 ⟨rfl,h1,c1⟩;rw[<- v.out]at h1;rw[<- e1.out];obtain⟨c5,c7,c4,m,p,H,I,J,c3,K,M,N,O,P,S⟩:=h1.cells;obtain⟨n2,n3,rfl⟩:∃l1 au,c4=.slice l1 a.L.length au:=by obtain⟨_,_,c8,l3,_⟩:=p;exact cw l3
 have o0:a.L.length<=4:=h1.2.2.2.1.2.2.2.1
 by_cases l:a.L.length=4
 ·have k4:((a.L.length:Int)==4)=true:=by rw[bL];omega
  have o:Hid (s.ep T=a.fail 6 (s.pos T)):=by show s.ep T=_;unfold RS.ep;simp only;rw[<- v.out,ag l]
  clear l;go_wp2_with fail;refine(gN base b T a 6 (s.pos T) _ h1 (by omega)).mono ?_;rintro l2 m6 ⟨rfl,Q,B⟩;go_wp2_with fail;refine bodyPost_ret (results_none rfl _ _ _) rfl ?_;have f:=bu a 6 (s.pos T);exact⟨rfl,by rw[o.out];exact Q,(c1.trans B).1,by rw[o.out,f.2.2.2.2.2];exact a4.out.2,by rw[o.out,f.2.2.2.1,v.out];exact ar _⟩
 ·have k4:((a.L.length:Int)==4)=false:=by rw[aO];omega
  have c9:=az l;clear l;have h2:=h1.Pt;have j7:=az h2;clear h2;go_wp2_with fail;refine(j1 _).mono ?_;rintro l2 m6 ⟨v2,rfl,i2,b2⟩;obtain⟨Q,B⟩:=h1.below b2;obtain⟨r,rfl⟩:=i2.ptr;go_wp2_with fail;refine(j1 _).mono ?_;rintro n5 w3 ⟨v3,rfl,b7,b3⟩;obtain⟨g2,c2⟩:=Q.below b3;obtain⟨j,rfl⟩:=b7.ptr;have e2:=az b7;clear i2 b7 m p H I J c3 K M N O P S;obtain⟨g,b4⟩:∃g,g=(t1.toList==[99,117,116]):=⟨_,rfl⟩;have j2:Hid (g=decide (s.tk T=[99,117,116])):=by
   show g=_;have e:s.tk T=t1.toList:=by rw[e1.out];rfl
   rw[b4,e,kv];simp
  have j3:=az b4;clear b4;go_wp2_with fail;rw[<- j3.out];obtain⟨q,V⟩:∃q,q=w3.heap.size:=⟨_,rfl⟩;rw[<- V];have n1:=az V;have g8:Below w3.heap.size w3 (w3.alloc (.cells #[.bool g,.pointer (some ⟨r,0,none⟩),.pointer (some ⟨j,0,none⟩)] 181)):=(aB _ _).alloc (ar _) _;obtain⟨l,a2⟩:=g2.below g8;have i0:(w3.alloc (.cells #[.bool g,.pointer (some ⟨r,0,none⟩),.pointer (some ⟨j,0,none⟩)] 181)).heap[q]?=some (.cells #[.bool g,.pointer (some ⟨r,0,none⟩),.pointer (some ⟨j,0,none⟩)] 181 (0,0)):=by rw[V];exact aw _ _
  have h3:me (w3.alloc (.cells #[.bool g,.pointer (some ⟨r,0,none⟩),.pointer (some ⟨j,0,none⟩)] 181)) b i7.heap.size:=((j7.out.kl B.4).kl c2.4).kl a2.4;have h6:i7.heap.size<=q:=by have i4:=b2.size;have o3:=b3.size;omega
  have g9:base<=q:=by
   have i4:=h1.2.1;obtain⟨_,_,_,_,_,m4,m5,m3,z,_⟩:=h1;have:=(dE.1 z).1;omega
  have k3:=az (e2.out.aY a2.2);have l0:=az ((((c1.trans B).trans c2).trans a2).1);generalize w3.alloc (.cells #[.bool g,.pointer (some ⟨r,0,none⟩),.pointer (some ⟨j,0,none⟩)] 181)=o6 at *;clear g8 c1 B c2 a2 Q g2 b2 b3 V e2;have k1:=az i0;have j8:=az h3;clear i0 h3;refine(FA F5 T base b a ⟨#[124]⟩ _ l a4.out.1 a4.out.2).mono ?_;rintro n6 i9 ⟨v5,d5,rfl,R,Z,C,U,b1⟩;rw[show (⟨#[124]⟩:ai).toList=[124] from by rw[bM]]at R Z U b1;obtain⟨k,rfl⟩:=Z.ptr;have W:=C.3 _ _ _ k1.out;have h4:=j8.out.kl C.4;have m1:=R.BC h4 W h6 g9 1 (.pointer (some ⟨k,0,none⟩));obtain⟨x,e6,b9,i3,i5⟩:=m1;have a8:=az (Z.aY b9);have k5:=az ((k3.out.aY C.2).aY b9);have e3:=az ((l0.out.trans C.1).trans e6);have e0:Hid ((i9.setCell ⟨q,1,none⟩ (.pointer (some ⟨k,0,none⟩))).heap[q]?=some (.cells #[.bool g,.pointer (some ⟨k,0,none⟩),.pointer (some ⟨j,0,none⟩)] 181 (0,0))):=i5.trans rfl;have j9:=az i3;have m7:i9.cell? ⟨q,1,none⟩=some (.pointer (some ⟨r,0,none⟩)):=ab W 1 _ rfl;have m8:=aq W;obtain⟨d,Y⟩:∃d,d=(a.side T [124]).1:=⟨_,rfl⟩;obtain⟨F,b8⟩:∃F,F=(a.side T [124]).2:=⟨_,rfl⟩;rw[<- Y]at x R U b1;rw[<- b8]at a8;have k2:Hid (a.side T [124]=(d,F)):=by show _=_;rw[Y,b8]
  have j6:Hid (d.L=a.L):=by show d.L=_;rw[Y];exact qe T a _
  clear Y b8 Z C W h4 e6 b9 i3 i5 g9;obtain⟨c5,c7,c4,m,p,H,I,J,c3,K,M,N,O,P,S⟩:=x.cells
  go_upto_if 31 with fail
  go_cut [2,3,4] (fun _ _ m9 E=>m9=.pointer (some ⟨q,0,none⟩)/\∃(c:RS) (a3:Rx) (A g0 g1:Nat),fE E base b T c/\Hid (Below base w E)/\Hid (E.heap[q]?=some (.cells #[.bool g,.pointer (some ⟨k,0,none⟩),.pointer (some ⟨A,0,none⟩)] 181 (0,0)))/\Hid (aS g0 E (.pointer (some ⟨k,0,none⟩)) F)/\Hid (aS g1 E (.pointer (some ⟨A,0,none⟩)) a3)/\Hid ((if d.err=0 then d.side T [59]else (d,dp))=(c,a3))/\Hid (c.nest=0/\d.at_<=c.at_/\c.L=d.L))
  case first =>
   by_cases n:d.err=0
   ·have l9:(d.err==0)=true:=by rw[bL];exact n
    have G:=az n;clear n;go_wp2_with fail;refine(FA F5 T base b d ⟨#[59]⟩ _ x G.out U).mono ?_;rintro n8 j0 ⟨o5,d7,rfl,g3,a0,D,h7,g7⟩;rw[show (⟨#[59]⟩:ai).toList=[59] from by rw[bM]]at g3 a0 h7 g7;obtain⟨a1,rfl⟩:=a0.ptr;have X:=D.3 _ _ _ e0.out;have h5:=j9.out.kl D.4;have l4:base<=q:=by
     have i4:=h1.2.1;obtain⟨_,_,_,_,_,m4,m5,m3,z,_⟩:=h1;have:=(dE.1 z).1;omega
    have m2:=g3.BC h5 X h6 l4 2 (.pointer (some ⟨a1,0,none⟩));obtain⟨y,e7,c0,m0,i6⟩:=m2;have p0:j0.cell? ⟨q,2,none⟩=some (.pointer (some ⟨j,0,none⟩)):=ab X 2 _ rfl;have p1:=aq X;have k6:=az (a0.aY c0);have k7:=az ((a8.out.aY D.2).aY c0);have a9:=az ((e3.out.trans D.1).trans e7);have t:Hid ((j0.setCell ⟨q,2,none⟩ (.pointer (some ⟨a1,0,none⟩))).heap[q]?=some (.cells #[.bool g,.pointer (some ⟨k,0,none⟩),.pointer (some ⟨a1,0,none⟩)] 181 (0,0))):=i6.trans rfl;clear a0 D X h5 e7 c0 m0 i6;go_wp2_with fail;go_meet;exact⟨rfl,_,_,a1,d5,d7,y,a9,t,k7,k6,by show _=_;rw[ag G.out],h7,g7,qe T d _⟩
   ·have l9:(d.err==0)=false:=by rw[aO];exact n
    have G:=az n;clear n;go_wp2_with fail;go_meet;exact⟨rfl,d,dp,j,d5,1,x,e3,e0,a8,k5,by show _=_;rw[ae G.out],U,ar _,rfl⟩
  case rest =>
   obtain⟨rfl,c,a3,A,g0,g1,y,a9,t,k8,k9,j5,a5⟩:=hcut;obtain⟨i,l8⟩:∃i,i=wc:=⟨wc,rfl⟩;subst l8;clear m p H I J c3 K M N O P S R x l m7 m8;obtain⟨c5,c7,c4,m,p,H,I,J,c3,K,M,N,O,P,S⟩:=y.cells;obtain⟨g5,g6,c8,b0,g4⟩:=p;obtain⟨e5,e9,rfl⟩:=cw b0;have l5:c.L.length<=3:=by rw[a5.out.2.2,j6.out];have:=c9.out;omega
   have o1:base<=b:=y.2.1;have o2:b<i.heap.size:=(dE.1 m).1;have o7:i.cell? ⟨q,0,none⟩=some (.bool g):=ab t.out 0 _ rfl;have o8:i.cell? ⟨q,1,none⟩=some (.pointer (some ⟨k,0,none⟩)):=ab t.out 1 _ rfl;have o9:i.cell? ⟨q,2,none⟩=some (.pointer (some ⟨A,0,none⟩)):=ab t.out 2 _ rfl;have a6:=az b0;have a7:Hid (i.ownsRow base 9 1 c5 c.aa.length (c.aa.map .string)/\i.ownsRow base 197 3 c7 c.ay.length (cL c.ay)/\hY i c8 c.L):=⟨g5,g6,g4⟩;clear g5 g6 b0 g4;go_wp2
   go_region_law (refine yf rfl (.tmp 39) (.tmp 41) 32 rfl base 181 (.agg #[.bool false,.pointer none,.pointer none]) 3 24 Tryz.K2 Tryz.MY rfl (by decide) (.slice e5 c.L.length e9) c.L.length (du c8) rfl (by exact a6.out.alloc _) i.heap.size 1 [.bool g,.pointer (some ⟨k,0,none⟩),.pointer (some ⟨A,0,none⟩)] rfl rfl (by exact aw _ _) (by intro u hu;simp at hu;rcases hu with rfl|rfl|rfl<;>rfl) (by omega) (by omega) (by simp;omega) ?_;intro o4 w' h9 hg;obtain⟨e4,e8,l7⟩:=cw h9;subst l7;have z:=mO hg m (by exact(((aB _ _).alloc (ar _) _)).drew) (by exact a6.out.alloc _) (by decide);obtain⟨_,_,_,_,_,_,n7,_,_,n9⟩:=lP z)
   all_goals go_wp2
   all_goals go_end0
   all_goals
    have l6:hW 181 6 base b (.slice e5 c.L.length e9) (.slice e4 (c.L.length+1) e8) i _ w' (w'.setCell ⟨b,6,none⟩ (.slice e4 (c.L.length+1) e8)):=⟨((aB _ _).alloc (ar _) _).drew,hg,rfl,rfl,rfl,rfl⟩;have o:=y.J8 m a7.out.1 a7.out.2.1 a6.out a7.out.2.2 l6 h9 k8.out k9.out l5;have b5:s.ep T={ c with L:=c.L++[(g,F,a3)] }:=by
     rw[yj T s a v.out c9.out,k2.out];simp only;rw[j5.out,<- j2.out]
    exact⟨rfl,by rw[b5];exact o.1,a9.out.trans o.2,by rw[b5];exact a5.out.1,by rw[b5,<- v.out];exact aE b1 a5.out.2.1⟩
theorem Cs(T:ai)(s:RS)(a:s.at_<=T.size):s.at_<=(s.hex T).at_/\(s.hex T).at_<=T.size/\(s.hex T).nest=s.nest:=by
 have h:=fW T s;have t:=c0 T s a;rw[h.2.2.2.1];exact⟨t.2.1,t.1,h.2.2.2.2.2⟩
theorem pT(s:RS)(a b p:Int):(s.bR a b p).nest=s.nest:=by
 unfold RS.bR;simp only;split
 ·exact(bu s 5 p).2.2.2.2.2
 ·rfl
theorem G7(T:ai)(s:RS)(c:s.at_<=T.size):s.at_<=(s.span T).at_/\(s.span T).at_<=T.size/\(s.span T).nest=s.nest:=by
 unfold RS.span;simp only;have h1:=Cs T s c;have b:=gJ T (s.hex T) h1.2.1;split
 ·have t1:=c0 T ((s.hex T).aH T) b.1;have a:=Cs T (((s.hex T).aH T).take T) t1.1;rw[(iv _ _ _ _).1,pT];exact⟨by omega,a.2.1,a.2.2.trans h1.2.2⟩
 ·rw[(iv _ _ _ _).1,pT];exact⟨by omega,b.1,h1.2.2⟩
theorem Bw(T:ai)(g:Nat):∀s:RS,s.at_<=T.size->s.at_<=(RS.aM T g s).at_/\(RS.aM T g s).nest=s.nest:=by
 induction g with
 | zero=>intro s _;exact⟨ar _,rfl⟩
 | succ g a =>
  intro s b;rw[RS.aM];split
  ·exact⟨ar _,rfl⟩
  ·simp only;have h1:=G7 T s b;have t1:=c0 T (s.span T) h1.2.1;split
   ·exact⟨h1.1,h1.2.2⟩
   ·split
    ·exact⟨by omega,h1.2.2⟩
    ·split
     ·have:=a ((s.span T).take T) t1.1;exact⟨by omega,this.2.trans h1.2.2⟩
     ·have f:=bu ((s.span T).take T) 2 ((s.span T).pos T);have:=a (((s.span T).take T).fail 2 ((s.span T).pos T)) (by rw[f.2.2.2.1];exact t1.1);rw[f.2.2.2.1,f.2.2.2.2.2]at this;exact⟨by omega,this.2.trans h1.2.2⟩
theorem AD(T:ai)(s:RS)(j:s.at_<=T.size):(s.take T).at_<=(s.bE T).at_/\(s.bE T).nest=s.nest:=by
 unfold RS.bE;simp only;have t1:=c0 T s j;split
 ·have f:=bu (s.take T) 6 (s.pos T);exact⟨by rw[f.2.2.2.1];exact ar _,f.2.2.2.2.2⟩
 ·have t2:=c0 T (s.take T) t1.1;have key:∀b:RS,b.at_=((s.take T).take T).at_/\b.nest=s.nest->∀p:Int,∀c:Prop,∀_:Decidable c,(if c then b.fail 4 p else b).at_=((s.take T).take T).at_/\(if c then b.fail 4 p else b).nest=s.nest:=by
   intro b e p c _;split
   ·have f:=bu b 4 p;exact⟨f.2.2.2.1.trans e.1,f.2.2.2.2.2.trans e.2⟩
   ·exact e
  have l:∀c:Prop,∀_:Decidable c,(if c then (s.take T).take T else ((s.take T).take T).fail 2 ((s.take T).pos T)).at_=((s.take T).take T).at_/\(if c then (s.take T).take T else ((s.take T).take T).fail 2 ((s.take T).pos T)).nest=s.nest:=by
   intro c _;split
   ·exact⟨rfl,rfl⟩
   ·have f:=bu ((s.take T).take T) 2 ((s.take T).pos T);exact⟨f.2.2.2.1,f.2.2.2.2.2⟩
  have k4:=key _ (l (ew ((s.take T).tk T)=true) inferInstance) ((s.take T).pos T) (0<=ba (if ew ((s.take T).tk T)=true then (s.take T).take T else ((s.take T).take T).fail 2 ((s.take T).pos T)).aa ((s.take T).tk T)) inferInstance;generalize (if 0<=ba (if ew ((s.take T).tk T)=true then (s.take T).take T else ((s.take T).take T).fail 2 ((s.take T).pos T)).aa ((s.take T).tk T)then (if ew ((s.take T).tk T)=true then (s.take T).take T else ((s.take T).take T).fail 2 ((s.take T).pos T)).fail 4 ((s.take T).pos T)else (if ew ((s.take T).tk T)=true then (s.take T).take T else ((s.take T).take T).fail 2 ((s.take T).pos T)))=i at *;have k:∀a:RS,a.at_=((s.take T).take T).at_/\a.nest=s.nest->((s.take T).take T).at_<=(if a.err=0 then a.want T [61]else a).at_/\(if a.err=0 then a.want T [61]else a).at_<=T.size/\(if a.err=0 then a.want T [61]else a).nest=s.nest:=by
   intro a d;split
   ·have w:=gl T a [61];have t:=c0 T a (by rw[d.1];exact t2.1);rw[w.2.2.2.1,w.2.2.2.2.2];exact⟨by omega,t.1,d.2⟩
   ·exact⟨by omega,by rw[d.1];exact t2.1,d.2⟩
  have g:=k { i with aa:=i.aa++[tok T (s.take T).at_] } k4;have h:=Bw T (T.size+2) _ g.2.1;exact⟨aE (aE t2.2.1 g.1) h.1,h.2.trans g.2.2⟩
theorem Hk{T:ai}{g:Nat}{s:RS}(h:s.err≠0):RS.cW T g s=s:=by
 cases g with
 | zero=>rfl
 | succ g=>rw[RS.cW,ag h]
theorem rm{T:ai}{g:Nat}{s:RS}(h:s.err=0)(h1:s.tk T=[99,108,97,115,115])(a:s.L.length=0):RS.cW T (g+1) s=RS.cW T g ((s.aH T).bE T):=by
 rw[RS.cW,ae (by simpa using h)];simp only;rw[ag ⟨h1,a⟩]
theorem v7{T:ai}{g:Nat}{s:RS}(h:s.err=0)(h1:s.tk T=[99,117,116]\/s.tk T=[106,111,105,110]):RS.cW T (g+1) s=RS.cW T g ((s.aH T).ep T):=by
 rw[RS.cW,ae (by simpa using h)];simp only;rw[ae (by rintro⟨e,_⟩;rw[e]at h1;rcases h1 with h1|h1<;>simp at h1),ag h1]
theorem ym{T:ai}{g:Nat}{s:RS}(h:s.err=0)(h1:s.tk T=[]):RS.cW T (g+1) s=s.aH T:=by
 rw[RS.cW,ae (by simpa using h)];simp only;rw[ae (by rintro⟨e,_⟩;rw[e]at h1;simp at h1),ae (by rw[h1];simp),ag h1]
theorem qk{T:ai}{g:Nat}{s:RS}(h:s.err=0)(h1:¬(s.tk T=[99,108,97,115,115]/\s.L.length=0))(a:¬(s.tk T=[99,117,116]\/s.tk T=[106,111,105,110]))(b:s.tk T≠[]):RS.cW T (g+1) s=RS.cW T g ((s.aH T).fail 2 (s.pos T)):=by
 rw[RS.cW,ae (by simpa using h)];simp only;rw[ae (show ¬(s.tk T=[99,108,97,115,115]/\(s.aH T).L.length=0) from h1),ae a,ae b]
theorem J3(T:ai)(w:World)(b:Nat)(b8:w.heap.size=b)(N:jl w)(a1:1<b)(g0:T.size<=140737488351232):Calls prog 16 #[.string T] w fun e w'=>e=.returned (.pointer (some ⟨b,0,none⟩))/\w'.cell? ⟨b,2,none⟩=some (.int .i64 (RS.read T).err)/\w'.cell? ⟨b,3,none⟩=some (.int .i64 (RS.read T).place) /\Below b w w'/\(T.size<=1000->fE w' b b T (RS.read T)):=by
 have p:p1 (w.alloc (.cells (jj T 0 0 0 (.slice none 0 0) (.slice none 0 0) (.slice none 0 0) 0 0) 35)) b T RS.start (.slice none 0 0) (.slice none 0 0) (.slice none 0 0):=by
  show _=_;rw[<- b8];exact aw _ _
 have D:Below b w (w.alloc (.cells (jj T 0 0 0 (.slice none 0 0) (.slice none 0 0) (.slice none 0 0) 0 0) 35)):=(aB _ _).alloc (by omega) _
 by_cases J:1000<T.size
 ·have E:Hid (RS.read T=RS.start.fail 1 0):=by show RS.read T=_;unfold RS.read;rw[ag J]
  have b0:Hid (p1 (w.alloc (.cells (jj T 0 0 0 (.slice none 0 0) (.slice none 0 0) (.slice none 0 0) 0 0) 35)) b T RS.start (.slice none 0 0) (.slice none 0 0) (.slice none 0 0)):=p;clear p N;go_enter func16,ntmps16;go_wp2_with fail;refine(fe b T RS.start (.slice none 0 0) (.slice none 0 0) (.slice none 0 0) 1 0 _ b0.out).mono ?_;rintro e8 g5 ⟨rfl,b7,b9⟩;go_wp2_with fail;go_ret;obtain⟨G,H,r,c3,_⟩:=lP b7;refine⟨rfl,by rw[E.out];exact r,by rw[E.out];exact c3,D.trans (b9.below (by simp;omega) (fun k g2 e=>by omega)),fun h=>by omega⟩
 ·have a5:fE (w.alloc (.cells (jj T 0 0 0 (.slice none 0 0) (.slice none 0 0) (.slice none 0 0) 0 0) 35)) b b T RS.start:=by
   refine⟨a1,by omega,by omega,⟨aJ _,by decide,by decide,by decide,by decide,by decide,by decide,by decide,fun _=>⟨by decide,by decide,fun x c4=>by simp[RS.start]at c4⟩⟩,N.on D a1,_,_,_,p,cq _ _ _ _,cq _ _ _ _,[],cq _ _ _ _,rfl,fun i v x c1=>by simp at c1⟩
  have E:Hid (RS.read T=RS.cW T (T.size+2) RS.start):=by show RS.read T=_;unfold RS.read;rw[ae J]
  have g3:T.size<=1000:=by omega
  have hd:decide (1000<(T.size:Int))=false:=by simp;omega
  clear p N J;go_enter func16,ntmps16;go_wp2_with fail
  go_loopg [4,5] (T.size+3) (fun g _ _ a9=>∃(a:RS),fE a9 b b T a/\Hid (Below b w a9)/\0<g/\Hid (RS.cW T (g-1) a=RS.read T)/\Hid (a.err≠0\/T.size<a.at_+(g-1))/\Hid (a.nest=0))
  case atStart=>exact⟨RS.start,a5,D,by omega,E.out.symm,ac (by show T.size<0+(T.size+3-1);omega),rfl⟩
  case round =>
   obtain⟨a,C,V,hg,U,R,B⟩:=hrel;have e4:Hid (0<gk):=hg;clear hg a5 D;obtain⟨w3,c2⟩:∃w3,w3=wr:=⟨wr,rfl⟩;subst c2;obtain⟨e1,e2,a8,p,M,G,H,r,c3,W,X,Y,Z,a0,a3⟩:=C.cells;have b6:a.at_<=T.size:=C.2.2.2.1.1
   by_cases m:a.err=0
   ·have c9:(a.err==0)=true:=by rw[bL];exact m
    have n:Hid (a.err=0):=m;obtain⟨c,a4⟩:∃c,gk=c+2:=⟨gk-2,by rcases R.out with q|q;exact absurd m q;omega⟩;have u:Hid (gk=c+2):=a4;have S:Hid (T.size<a.at_+(c+1)):=by
     show T.size<a.at_+(c+1);rcases R.out with q|q
     ·exact absurd m q
     ·omega
    clear a4 m;have y:Hid (RS.cW T (c+1) a=RS.read T):=by show _=_;rw[<- U.out,u.out];rfl
    go_wp2_with fail;refine(nL b b T a _ C).mono ?_;rintro e9 e3 ⟨rfl,s,e0⟩;obtain⟨t1,O⟩:∃t1,t1=tok T a.at_:=⟨_,rfl⟩;rw[<- O];have j:Hid (a.tk T=t1.toList):=by rw[O];rfl
    clear O p M G H r c3 W X Y Z a0 a3;obtain⟨e1,e2,a8,p,M,G,H,r,c3,W,X,Y,Z,a0,a3⟩:=s.cells;obtain⟨e6,e7,rfl⟩:∃b1 au,a8=.slice b1 (a.aH T).L.length au:=by obtain⟨_,_,g4,b4,_⟩:=M;exact cw b4
    have K:=gJ T a b6;have a2:(a.aH T).L=a.L:=rfl;have e5:Hid ((a.aH T).L=a.L):=a2;clear a2;have z:Hid (Below b w e3):=V.out.trans e0.1
    by_cases f:t1.toList=[99,108,97,115,115]
    ·have c5:(t1.toList==[99,108,97,115,115])=true:=by rw[bL];exact f
     have P:(t1.toList==[99,117,116])=false:=by rw[aO,f];decide
     have a6:(t1.toList==[106,111,105,110])=false:=by rw[aO,f];decide
     have a7:t1.toList.isEmpty=false:=by rw[f];rfl
     by_cases F:(a.aH T).L.length=0
     ·have c7:(((a.aH T).L.length:Int)==0)=true:=by rw[bL];omega
      have d:Hid (RS.cW T c ((a.aH T).bE T)=RS.read T):=by show _=_;rw[<- y.out,rm n.out (by rw[j.out];exact f) F]
      have b5:=mE T (a.aH T) K.1 (by rw[ze,j.out,f];simp);clear f F;go_wp2_with fail;refine(EP b b T (a.aH T) _ s n.out).mono ?_;rintro I Q ⟨rfl,o,A⟩;go_wp2_with fail;go_roundg (c+1)
      case measure=>have:=u.out;omega
      case rel =>
       have b3:=AD T (a.aH T) K.1;refine⟨_,o,z.out.trans A.1,by omega,d,ac ?_,b3.2.trans B.out⟩;show T.size<((a.aH T).bE T).at_+(c+1-1);have:=S.out;omega
     ·have c7:(((a.aH T).L.length:Int)==0)=false:=by rw[aO];omega
      have d:Hid (RS.cW T c ((a.aH T).fail 2 (a.pos T))=RS.read T):=by
       show _=_;rw[<- y.out,qk n.out (fun q=>F q.2) (by rw[j.out,f];decide) (by rw[j.out,f];decide)]
      clear f F;go_wp2_with fail;refine(gN b b T (a.aH T) 2 (a.pos T) _ s (by omega)).mono ?_;rintro I Q ⟨rfl,o,A⟩;go_wp2_with fail;go_roundg (c+1)
      case measure=>have:=u.out;omega
      case rel=>exact⟨_,o,z.out.trans A.1,by omega,d,ah (cO _ _ _ (by omega)),(bu _ _ _).2.2.2.2.2.trans B.out⟩
    ·have c5:(t1.toList==[99,108,97,115,115])=false:=by rw[aO];exact f
     by_cases l:t1.toList=[99,117,116]\/t1.toList=[106,111,105,110]
     ·have c8:((t1.toList==[99,117,116])=true)\/((t1.toList==[99,117,116])=false/\(t1.toList==[106,111,105,110])=true):=by
       rcases l with q|q
       ·left;rw[bL];exact q
       ·right;exact⟨by rw[aO,q];decide,by rw[bL];exact q⟩
      have d:Hid (RS.cW T c ((a.aH T).ep T)=RS.read T):=by show _=_;rw[<- y.out,v7 n.out (by rw[j.out];exact l)]
      have b5:=mE T (a.aH T) K.1 (by rw[ze,j.out];rcases l with q|q<;>rw[q]<;>simp);clear f l;rcases c8 with P|⟨P,a6⟩
      all_goals
       go_wp2_with fail;refine(Nj T b b (a.aH T) _ s n.out B.out).mono ?_;rintro I Q ⟨rfl,o,b2,c0,g1⟩;go_wp2_with fail;go_roundg (c+1)
       case measure=>have:=u.out;omega
       case rel =>
        refine⟨_,o,z.out.trans b2,by omega,d,ac ?_,c0⟩;show T.size<((a.aH T).ep T).at_+(c+1-1);have:=S.out;omega
     ·have P:(t1.toList==[99,117,116])=false:=by rw[aO];exact fun q=>l (ah q)
      have a6:(t1.toList==[106,111,105,110])=false:=by rw[aO];exact fun q=>l (ac q)
      by_cases t:t1.toList=[]
      ·have a7:t1.toList.isEmpty=true:=by rw[t];rfl
       have d:Hid (RS.read T=a.aH T):=by show _=_;rw[<- y.out,ym n.out (by rw[j.out];exact t)]
       clear f l t;go_wp2_with fail;go_ret;exact⟨rfl,by rw[d.out];exact r,by rw[d.out];exact c3,z.out,fun _=>by rw[d.out];exact s⟩
      ·have a7:t1.toList.isEmpty=false:=by simpa using t
       have d:Hid (RS.cW T c ((a.aH T).fail 2 (a.pos T))=RS.read T):=by
        show _=_;rw[<- y.out,qk n.out (fun q=>f (by rw[<- j.out];exact q.1)) (by rw[j.out];exact l) (by rw[j.out];exact t)]
       clear f l t;go_wp2_with fail;refine(gN b b T (a.aH T) 2 (a.pos T) _ s (by omega)).mono ?_;rintro I Q ⟨rfl,o,A⟩;go_wp2_with fail;go_roundg (c+1)
       case measure=>have:=u.out;omega
       case rel=>exact⟨_,o,z.out.trans A.1,by omega,d,ah (cO _ _ _ (by omega)),(bu _ _ _).2.2.2.2.2.trans B.out⟩
   ·have c9:(a.err==0)=false:=by rw[aO];exact m
    have d:Hid (RS.read T=a):=by show _=_;rw[<- U.out,Hk m]
    clear m;go_wp2_with fail;go_ret;exact⟨rfl,by rw[d.out];exact r,by rw[d.out];exact c3,V.out,fun _=>by rw[d.out];exact C⟩
def Gv(n:Nat)(Q:Nat->Tr->Prop)(s:RS)(r:RS×Rx):Prop :=
 s.nest=4-(n:Int)->s.aa.length<=6->0<=s.atoms->s.atoms<=4->s.err=0->r.1.err=0 ->
  ∃(t:Tr) (k:Nat),r.2=t.rx/\Q k t/\r.1.atoms=s.atoms+(k:Int)/\r.1.atoms<=4/\r.1.aa=s.aa/\r.1.nest=s.nest
def Qa(n k:Nat)(t:Tr):Prop:=(∃c,c<256/\k=1/\t=.c c)\/∃m,n=m+1/\Tr.Ct (Tr.Pa m) k t
theorem HK(s:RS)(l:List UInt8)(h:s.aa.length<=6):s.b8 l<256:=by
 have b:∀m,m<=8->2^m<=256:=fun m a=>aE (nv (by omega) a) (by decide)
 have hc:=pI s.aa l;unfold RS.b8;split
 ·have:2^(ba s.aa l).toNat<=2^5:=nv (by omega) (by omega);omega
 ·split
  ·have:=b (s.aa.length+2) (by omega);have:=Nat.one_le_two_pow (n:=s.aa.length+2);omega
  ·split
   ·have:2^s.aa.length<=2^6:=nv (by omega) h;omega
   ·split
    ·have:2^(s.aa.length+1)<=2^7:=nv (by omega) (by omega);omega
    ·omega
theorem Ih{T:ai}{s:RS}(h:(s.eg T).err=0):s.err=0:=by
 unfold RS.eg at h
 by_cases e:s.err=0
 ·exact e
 ·simp only[ae e]at h;exact h
theorem JO{P:Nat->Tr->Prop}(a:∀k t,P k t->t.ok){k:Nat}{t:Tr}(h:Tr.Rw P k t):t.ok:=by
 induction h with
 | one h=>exact a _ _ h
 | more _ b c=>exact(Tr.bZ c (a _ _ b)).1
theorem LJ{P:Nat->Tr->Prop}(a:∀k t,P k t->t.ok){k:Nat}{t:Tr}(h:Tr.Ct P k t):t.ok:=by
 induction h with
 | one h=>exact JO a h
 | more _ b c=>exact(Tr.bg c (JO a b)).1
theorem O8{t:Tr}(h:t.ok)(s:Tr.Sg):(Tr.sg s t).ok:=by
 cases s with
 | no=>exact h
 | st=>exact(Tr.pz h).1
 | pl=>exact(Tr.bZ h (Tr.pz h).1).1
 | op=>exact(Tr.bg h (y:=.e) trivial).1
theorem OG{h:Nat}:∀{k:Nat} {t:Tr},Tr.Pa h k t->t.ok:=by
 induction h with
 | zero=>rintro k t ⟨x,h1,_,rfl⟩;exact(Tr.lq h1).1
 | succ h b =>
  rintro k t (⟨x,h1,_,rfl⟩|⟨c,s,hc,rfl⟩)
  ·exact(Tr.lq h1).1
  ·exact O8 (LJ (fun _ _ a=>b a) hc) s
theorem LK{h k:Nat}{t:Tr}(hc:Tr.Ct (Tr.Pa h) k t):t.ok:=LJ (fun _ _ a=>OG a) hc
theorem FM{n k:Nat}{t:Tr}(h:Qa n k t)(sg:Tr.Sg):Tr.Pa n k (Tr.sg sg t):=by
 rcases h with⟨c,h1,a,rfl⟩|⟨m,rfl,a⟩
 ·have:Tr.At k (Tr.sg sg (.c c)):=⟨(c,sg),h1,a,rfl⟩;cases n with
  | zero=>exact this
  | succ n=>exact ah this
 ·exact ac ⟨t,sg,a,rfl⟩
def Sn(Q:Nat->Tr->Prop)(s:RS)(r:RS×Rx):Prop:=∃(t:Tr) (k:Nat),r.2=t.rx/\Q k t/\r.1.atoms=s.atoms+(k:Int)/\r.1.atoms<=4/\r.1.aa=s.aa/\r.1.nest=s.nest
def xy(t:Tr):Prop:=t=.e\/∃k,k<=4/\Tr.Ct (Tr.Pa 4) k t
theorem rP{t:Tr}(h:xy t):g5 t:=by
 rcases h with rfl|⟨k,b,hc⟩
 ·intro v _
  by_cases a:v=[]
  ·subst a;exact⟨trivial,by decide,trivial⟩
  ·rw[Tr.Gm a];exact⟨trivial,by decide,trivial⟩
 ·intro v a;exact Tr.EB hc b v a
open Go.Maps Go.Lib
inductive rT (row row':List Nat):List PR->List (Bool×Tr×Tr)->Prop where
 | nil:rT row row' [] []
 | cons {r:PR} {x:Bool×Tr×Tr} {J:List PR} {L:List (Bool×Tr×Tr)} (h:rT row row' J L) (hc:r.1=x.1) (hl:∀i,1<=i->i<row.length->(bG r.2.1 (eC r.2.1 row i)=true↔lF x.2.1 row' i)) (hr:∀i,1<=i->i<row.length->(bG r.2.2 (er r.2.2 row i)=true↔iw x.2.2 row' i)):rT row row' (r::J) (x::L)
theorem Ic{row a:List Nat}(hlen:row.length=a.length){J:List PR}{L:List (Bool×Tr×Tr)}(h:rT row a J L):∀(i:Nat) (c:Bool),1<=i->i<=a.length->rW L a i c->(dM J row)[i]?=some c:=by
 intro i c h1 q hc;unfold rW at hc
 by_cases d:i=a.length
 ·rw[ag d]at hc;rw[hc,d,<- hlen];exact oJ J row
 ·rw[ae d]at hc;have hi:i<row.length:=by omega
  induction h with
  | nil =>
   have e:c=true:=hc;rw[e];show (List.replicate (row.length+1) true)[i]?=some true;rw[fj,ag (by omega)]
  | @cons r x J L h hcut m n o =>
   have j:=m i h1 hi;have l:=n i h1 hi;have e:dM (r::J) row=iA row r (dM J row):=rfl;have hb:∃b,(dM J row)[i]?=some b:=⟨_,ax (by rw[oI];omega)⟩;obtain⟨b,hb⟩:=hb;rw[e];unfold iA bK;rw[mn,hb,cU];rcases hc with⟨f,g,p⟩|⟨f,g⟩
   ·rw[ag ⟨h1,hi,j.2 f,l.2 g⟩,p,hcut]
   ·rw[ae (fun k=>f ⟨j.1 k.2.2.1,l.1 k.2.2.2⟩)];rw[<- hb];exact o g
end Go.Proofs.YtodagkkjfipbgaaGreatDoor
