import Derived.Test.YtjnglocdoljgkaaGreatSw16
import Derived.Deep.DeepCutAuto
namespace Go.Proofs.YtjnglocdoljgkaaGreat
open Go.ChangeShapes Go.WideShapes Go.ChangeAt Go.RowKit
set_option linter.unusedVariables false
open Go.Value renaming slice → Z,int → Ac
open Option renaming some → K,none → M
open Go renaming World → Y,Calls → Ae,Value → J,TypeId → Af
open Go.RowKit renaming Hid → Aa,Below → Ad
open Go.IntKind renaming i64 → Ab
set_option maxHeartbeats 4000000
set_option maxRecDepth 100000
variable {n t:Int}{f:MF}{l:List Int}{j i:Nat}
structure Gm(xs:List Int)(c:Int):Prop where
 low:0<=c
 j4:c<(xs:Int)
 jy:bits .and Ab c (c+1)=0
 one:∀j:Nat,(j:Int)<=c->xs[j]?=xs[0]?
theorem In(G:Option Addr)(c1:Nat)(xs:List Int)(c:Int)(w:Y)(W:xs.length<=1048576)(S: ↑xs<=c1)(h:Rd w 1 (Z G xs c1) xs (xs.flatMap Ah)):
 Ae Tryz.prog 127 #[Z G xs c1,iZ c] w λe w'=>AC e (Gm xs c)/\Ad w w w':=by
 have l:=Ap h;clear h;generalize I:xs.length=n at W S l;have p:=Ap I;clear I;by_cases f:0<=c/\c<(n:Int)
 . have b :decide (0<=c/\c<(n:Int))=true:=decide_eq_true f
   obtain⟨c,rfl⟩:=kU f.1;have a8:c<n:=oM;clear f;by_cases t:bits .and Ab (c:Int) ((c:Int)+1)=0
   . have O:Aa (bits .and Ab (c:Int) ((c:Int)+1)=0):=t;obtain⟨y,B⟩:∃y,xs[0]?=K y:=⟨_,an (by rw[p.o];omega)⟩;rcases l.o.2 with⟨e0,_⟩|⟨g,o,cc,H,z⟩
     . omega
     simp only[jc,lO]at H;obtain⟨rfl,rfl⟩:=H;have j0:=Rd.elem Ao z 0 y B 0 _ rfl;simp only[Nat.zero_mul,kZ]at j0;have N:=Ap z;have F:=Ap B;clear z B;go_enter Tryz.func127,Tryz.ntmps127;go_wp2_with fail;refine(Bf (c:Int) (n:Int) _).mono ?_;rintro e u ⟨rfl,rfl⟩;rw[b];have k1:(c:Int)+1<=(c1:Int):=oM;have k2:(0:Int)<=(c:Int)+1:=oM;have k3:(0:Int)<(n:Int):=oM;have k4:((c:Int)+1).toNat=c+1:=oM;go_wp2;clear k1 k2 b t;go_loopw [24] (λi wr=>∃k:Nat,k<=c+1/\i=iZ k/\Aa (∀j,j<k->xs[j]?=K y)/\∃m,wr=u.drewN m) (λi _=>c+1-(intOf i).toNat)
     (case atStart=>exact⟨0,oM,rfl, λj L=>oM,0,rfl⟩);obtain⟨k,hk,rfl,C,m,rfl⟩:=hrel;by_cases ae:k<c+1
     . obtain⟨x,A⟩:∃x,xs[k]?=K x:=⟨_,an (by rw[p.o];omega)⟩;have i0:=Rd.elem Ao N.o k x A 0 _ rfl;rw[lr,kZ]at i0;have D:=Ap A;clear A;have ah:(k:Int)<(c:Int)+1:=oM;by_cases s:x=y
       . subst s;have Q:Aa (∀j,j<k+1->xs[j]?=K x):= λj L=>by
          by_cases e:j=k
          . rw[e];exact D.o
          exact C.o j oM
         go_wp2;go_roundw;(case rel=>exact⟨k+1,oM,by go_num,Q,_,rfl⟩);exact oI
       (have a:Aa (¬Gm xs c):= λe=>by have:=e.one k oM;rw[D.o,F.o]at this;exact s (kN this));(have aj:(x==y)=false:=by simpa using s);(have am:(x != y)=true:=by simpa using s);go_wp2;go_ret;exact⟨.no a.o,As _ _ _⟩
     have T:k=c+1:=oM;subst T;have R:Aa (Gm xs c):=⟨oM,by rw[p.o];omega,O.o, λj L=>by rw[F.o];exact C.o j oM⟩;go_wp2;go_ret;exact⟨.ik R.o,As _ _ _⟩
   (have a:Aa (¬Gm xs c):= λe=>t e.jy);(have ao:(bits .and Ab (c:Int) ((c:Int)+1)==0)=false:=by simpa using t);clear l;go_enter Tryz.func127,Tryz.ntmps127;go_wp2_with fail;refine(Bf (c:Int) (n:Int) _).mono ?_;rintro e u ⟨rfl,rfl⟩;rw[b];go_wp2;go_ret;exact⟨.no a.o,lQ _ _⟩
 have a:Aa (¬Gm xs c):= λe=>f ⟨e.low,by have:=e.j4;rw[p.o]at this;exact this⟩
 have b:decide (0<=c/\c<(n:Int))=false:=mj f
 clear l;go_enter Tryz.func127,Tryz.ntmps127;go_wp2_with fail;refine(Bf c (n:Int) _).mono ?_;rintro e u ⟨rfl,rfl⟩;rw[b];go_wp2;go_ret;exact⟨.no a.o,lQ _ _⟩
def S5(s:Ci)(k:GK)(vc:J)(left lv:Int):AB:=CH k.Gb 109 7 [.pointer (K ⟨s.S,0,M⟩),.pointer (K ⟨k.P,0,M⟩),Ac Ab (k.fi:Int),vc,Ac Ab left,Ac Ab lv,Ac Ab 0]
structure SM(w u:Y)(s:Ci)(k:GK)(p:Int)(v:VP)(vc:J)(g:Gn)(left lv:Int)(D:List AB):Prop where
 bl:Bs w u s p (Al v k.F g.aC k.G g.dr (BI vc g.ch::gb k.P v::S5 s k vc left lv::D))
section
variable {w u u':Y} {s:Ci} {k:GK} {p:Int} {v:VP} {vc:J} {g:Gn} {left lv:Int} {D:List AB}
theorem SM.bM(h:SM w u s k p v vc g left lv D)(a:Ad u u u'):SM w u' s k p v vc g left lv D:=⟨h.bl.bM a⟩
theorem SM.draw{p':Int}(h:SM w u s k p v vc g left lv D)(e:DE u' s.S s.a s.len s.cap p')(b:AM s.S u u'):SM w u' s k p' v vc g left lv D:=⟨h.bl.draw e b⟩
theorem SM.cells(h:SM w u s k p v vc g left lv D):u.cell? ⟨k.Gb,0,M⟩=K (.pointer (K ⟨s.S,0,M⟩))/\u.cell? ⟨k.Gb,1,M⟩=K (.pointer (K ⟨k.P,0,M⟩))/\u.cell? ⟨k.Gb,2,M⟩=K (Ac Ab (k.fi:Int))/\u.cell? ⟨k.Gb,3,M⟩=K vc/\u.cell? ⟨k.Gb,4,M⟩=K (Ac Ab left)/\u.cell? ⟨k.Gb,5,M⟩=K (Ac Ab lv):=
 have m:S5 s k vc left lv∈Al v k.F g.aC k.G g.dr (BI vc g.ch::gb k.P v::S5 s k vc left lv::D):=AQ sP
 ⟨h.bl.cell m 0 oM,h.bl.cell m 1 oM,h.bl.cell m 2 oM,h.bl.cell m 3 oM,h.bl.cell m 4 oM,h.bl.cell m 5 oM⟩
theorem SM.frozen(h:SM w u s k p v vc g left lv D)(i:Nat):u.frozen? ⟨k.Gb,i,M⟩=false:=h.bl.frozen (AQ (show S5 s k vc left lv∈_ from sP)) i
theorem SM.ia(h:SM w u s k p v vc g left lv D):u.cell? ⟨k.P,0,M⟩=K v.r/\u.cell? ⟨k.P,1,M⟩=K v.k/\u.cell? ⟨k.P,2,M⟩=K v.f/\u.cell? ⟨k.P,3,M⟩=K v.t:=
 have m:gb k.P v∈Al v k.F g.aC k.G g.dr (BI vc g.ch::gb k.P v::S5 s k vc left lv::D):=AQ sP
 ⟨h.bl.cell m 0 oM,h.bl.cell m 1 oM,h.bl.cell m 2 oM,h.bl.cell m 3 oM⟩
theorem SM.push(h:SM w u s k p v vc g left lv D)(xs:List MI)(V:J)(e:u'.ownsRow w 60 4 V (g.ch.length+ ↑xs) (g.ch.flatMap MI.cells++xs.flatMap MI.cells))(b:u.grownBy u' vc.ownBlock)(a:V.ownBlock=vc.ownBlock\/V.ownBlock=K u):SM w (u'.setCell ⟨k.Gb,3,M⟩ V) s k p v V ⟨g.ch++xs,g.aC,g.dr⟩ left lv D/\u'.cell? ⟨k.Gb,3,M⟩=K vc/\u'.frozen? ⟨k.Gb,3,M⟩=false:=by have h1:=h.bl.iH xs V e b a;exact⟨⟨h1.gZ (D:=[BI V (g.ch++xs),gb k.P v]) 3 oM V⟩,h1.cell (AQ (show S5 s k vc left lv∈_ from sP)) 3 oM,h1.frozen (AQ (show S5 s k vc left lv∈_ from sP)) 3⟩
theorem SM.ku(h:SM w u s k p v vc g left lv D)(x:Int):SM w (u.setCell ⟨k.Gb,4,M⟩ (Ac Ab x)) s k p v vc g x lv D:=⟨h.bl.gZ (D:=[BI vc g.ch,gb k.P v]) 4 oM (Ac Ab x)⟩
theorem SM.jX(h:SM w u s k p v vc g left lv D)(x:Int):SM w (u.setCell ⟨k.Gb,5,M⟩ (Ac Ab x)) s k p v vc g left x D:=⟨h.bl.gZ (D:=[BI vc g.ch,gb k.P v]) 5 oM (Ac Ab x)⟩
theorem SM.iO(h:SM w u s k p v vc g left lv D)(x:MC)(V:J)(e:u'.ownsRow w 105 2 V (g.aC.length+1) (g.aC.flatMap MC.cells++x.cells))(b:u.grownBy u' v.k.ownBlock)(a:V.ownBlock=v.k.ownBlock\/V.ownBlock=K u):SM w (u'.setCell ⟨k.P,1,M⟩ V) s k p {v with k:=V} vc ⟨g.ch,g.aC++[x],g.dr⟩ left lv D/\(u'.cell? ⟨k.P,1,M⟩=K v.k/\u'.frozen? ⟨k.P,1,M⟩=false)/\u'.cell? ⟨k.Gb,1,M⟩=K (.pointer (K ⟨k.P,0,M⟩))/\(u'.setCell ⟨k.P,1,M⟩ V).cell? ⟨k.Gb,1,M⟩=K (.pointer (K ⟨k.P,0,M⟩)):=by have h1:=h.bl.iO x V e b a;have h2:SM w (u'.setCell ⟨k.P,1,M⟩ V) s k p {v with k:=V} vc ⟨g.ch,g.aC++[x],g.dr⟩ left lv D:=⟨h1.gZ (D:=[BI vc g.ch]) 1 oM V⟩;exact⟨h2,⟨h1.cell (AQ (show gb k.P v∈_ from sP)) 1 oM,h1.frozen (AQ (show gb k.P v∈_ from sP)) 1⟩,h1.cell (AQ (show S5 s k vc left lv∈_ from sP)) 1 oM,h2.cells.2.1⟩
theorem SM.iP(h:SM w u s k p v vc g left lv D)(x:MT)(V:J)(e:u'.ownsRow w 121 4 V (g.dr.length+1) (g.dr.flatMap MT.cells++x.cells))(b:u.grownBy u' v.t.ownBlock)(a:V.ownBlock=v.t.ownBlock\/V.ownBlock=K u):SM w (u'.setCell ⟨k.P,3,M⟩ V) s k p {v with t:=V} vc ⟨g.ch,g.aC,g.dr++[x]⟩ left lv D/\(u'.cell? ⟨k.P,3,M⟩=K v.t/\u'.frozen? ⟨k.P,3,M⟩=false)/\(u'.cell? ⟨k.Gb,1,M⟩=K (.pointer (K ⟨k.P,0,M⟩))/\u'.cell? ⟨k.Gb,2,M⟩=K (Ac Ab (k.fi:Int)))/\(u'.setCell ⟨k.P,3,M⟩ V).cell? ⟨k.Gb,1,M⟩=K (.pointer (K ⟨k.P,0,M⟩))/\(u'.setCell ⟨k.P,3,M⟩ V).cell? ⟨k.Gb,2,M⟩=K (Ac Ab (k.fi:Int)):=by have h1:=h.bl.iP x V e b a;have h2:SM w (u'.setCell ⟨k.P,3,M⟩ V) s k p {v with t:=V} vc ⟨g.ch,g.aC,g.dr++[x]⟩ left lv D:=⟨h1.gZ (D:=[BI vc g.ch]) 3 oM V⟩;exact⟨h2,⟨h1.cell (AQ (show gb k.P v∈_ from sP)) 3 oM,h1.frozen (AQ (show gb k.P v∈_ from sP)) 3⟩,⟨h1.cell (AQ (show S5 s k vc left lv∈_ from sP)) 1 oM,h1.cell (AQ (show S5 s k vc left lv∈_ from sP)) 2 oM⟩,h2.cells.2.1,h2.cells.2.2.1⟩
end
theorem Dw(w:Y)(cs:List J)(t:Af):∀j u,cs[j]?=K u->(w.alloc (.cells cs.toArray t)).cell? ((⟨w,0,M⟩:Addr).add j)=K u:= λj u a=>by rw[Da,lY,(Ar.new w cs.toArray t).cell j];simpa using a
theorem JC(l:List MI):∀u∈l.flatMap MI.cells,u.oneCell'=true:= λu b=>by obtain⟨x,_,a⟩:=mN.1 b;simp only[MI.cells,lA,lW,mZ]at a;rcases a with rfl|rfl|rfl|rfl<;>rfl
structure GS(w u:Y)(s:Ci)(k:GK)(p left lv:Int)(nt:Nat)(D:List AB):Prop where
 ok:LF k
 ex:∃v vc g,SM w u s k p v vc g left lv D/\M9 k g left nt
def GSC(w u:Y)(s:Ci)(k:GK)(p left lv:Int)(nt:Nat)(D:List AB)(r:Nat):Prop:=LF k/\∃v vc g,SM w u s k p v vc g left lv D/\M9 k g left nt/\r<g.aC.length
def RN(w u:Y)(s:Ci)(k:GK)(p left lv:Int)(nt:Nat)(D:List AB)(x:MI):Prop:=LF k/\∃v vc g,SM w u s k p v vc ⟨g.ch++[x],g.aC,g.dr⟩ (left-1) lv D/\M9 k g left nt
def Xo(w u:Y)(s:Ci)(k:GK)(p left lv:Int)(nt:Nat)(D:List AB)(n:Nat):Prop:=LF k/\∃v vc g,SM w u s k p v vc g left lv D/\M9 k g left nt/\(n:Int)<k.L0-left/\∀x∈g.dr,x.func=k.fi->x.head<n
section
variable {w u u':Y} {s:Ci} {k:GK} {p p' left lv:Int} {nt:Nat} {D:List AB}
theorem GS.bM(h:GS w u s k p left lv nt D)(a:Ad u u u'):GS w u' s k p left lv nt D:=by obtain⟨v,vc,g,h1,h2⟩:=h.ex;exact⟨h.ok,v,vc,g,h1.bM a,h2⟩
theorem GS.draw(h:GS w u s k p left lv nt D)(e:DE u' s.S s.a s.len s.cap p')(b:AM s.S u u'):GS w u' s k p' left lv nt D:=by obtain⟨v,vc,g,h1,h2⟩:=h.ex;exact⟨h.ok,v,vc,g,h1.draw e b,h2⟩
theorem GS.src(h:GS w u s k p left lv nt D):DE u s.S s.a s.len s.cap p:=by obtain⟨v,vc,g,h1,h2⟩:=h.ex;exact h1.bl.gG.src
theorem GS.le(h:GS w u s k p left lv nt D):left<=k.L0/\k.L0<=300/\0<=p:=by obtain⟨v,vc,g,h1,h2⟩:=h.ex;have:=h2.len;have:=h.ok.l0;have:=h.src.low;omega
theorem GS.back{J:List Nat}(h:GS w u s {k with J:=J} p left lv nt D)(a:∀j∈k.J,j∈J):GS w u s k p left lv nt D:=by obtain⟨v,vc,g,h1,h2⟩:=h.ex;exact⟨⟨h.ok.f3,h.ok.fr,h.ok.ft,h.ok.fi,h.ok.gl,h.ok.fn,h.ok.l0⟩,v,vc,g,⟨h1.bl⟩,h2.back a⟩
theorem GS.cells(h:GS w u s k p left lv nt D):∃a c,u.cell? ⟨k.Gb,0,M⟩=K (.pointer (K ⟨s.S,0,M⟩))/\u.cell? ⟨k.Gb,1,M⟩=K (.pointer (K ⟨k.P,0,M⟩))/\u.cell? ⟨k.Gb,2,M⟩=K (Ac Ab (k.fi:Int))/\u.cell? ⟨k.Gb,3,M⟩=K (Z a (k.L0-left).toNat c)/\u.cell? ⟨k.Gb,4,M⟩=K (Ac Ab left)/\u.cell? ⟨k.Gb,5,M⟩=K (Ac Ab lv):=by
 obtain⟨v,vc,g,h1,h2⟩:=h.ex;obtain⟨⟨a,c,e⟩,_⟩:=h1.bl.ie;have b:=h1.cells;have f: ↑g.ch=(k.L0-left).toNat:=by have:=h2.len;omega
 rw[e,f]at b;exact⟨a,c,b⟩
theorem RN.bM{x:MI}(h:RN w u s k p left lv nt D x)(a:Ad u u u'):RN w u' s k p left lv nt D x:=by obtain⟨b,v,vc,g,h1,h2⟩:=h;exact⟨b,v,vc,g,h1.bM a,h2⟩
theorem QF(E:Aa (GS w u s k p left lv nt D))(i:p+1<=1000000000000:=by omega)(g:1<=n:=by omega)(h:n<=1000000:=by omega):Ae Tryz.prog 26 #[.pointer (K ⟨s.S,0,M⟩),Ac Ab n] u λe u'=>∃r:Int,e=.returned (Ac Ab r)/\(0<=r/\r<n)/\Aa (GS w u' s k (p+1) left lv nt D):=(AA E.o.src i g h).mono λe u' ⟨r,b,h1,a,j,f⟩=>⟨r,a,⟨b,h1⟩,E.o.draw j f⟩
theorem XM(E:Aa (GS w u s k p left lv nt D))(i:p+1<=1000000000000:=by omega)(g:1<=n:=by omega)(h:n<=1000000:=by omega):Ae Tryz.prog 24 #[.pointer (K ⟨s.S,0,M⟩),Ac Ab n] u λe u'=>∃b:Bool,e=.returned (.bool b)/\Aa (GS w u' s k (p+1) left lv nt D):=(DN E.o.src i g h).mono λe u' ⟨b,a,j,f⟩=>⟨b,a,E.o.draw j f⟩
theorem wdG(E:Aa (GS w u s k p left lv nt D))(h:p+4<=1000000000000:=by omega):Ae Tryz.prog 52 #[.pointer (K ⟨s.S,0,M⟩)] u λe u'=>∃x p':Int,e=.returned (Ac .u32 x)/\(0<=x/\x<4294967296)/\(p<=p'/\p'<=p+4)/\Aa (GS w u' s k p' left lv nt D):=(KT E.o.src h).mono λe u' ⟨x,p',b,h1,a,h2,f,i,g⟩=>⟨x,p',a,⟨b,h1⟩,⟨h2,f⟩,E.o.draw i g⟩
end
theorem Od(c:Nat)(w:Y):(binOp .eql 36 (Z M 0 c) (Z M 0 0)).run Tryz.prog w=.ok (.bool true) w:=kR
theorem Nh(ad:Addr)(m c:Nat)(w:Y):(binOp .eql 36 (Z (K ad) m c) (Z M 0 0)).run Tryz.prog w=.ok (.bool false) w:=kR
theorem JX(s:J)(m:Nat)(xs:List J)(w:Y)(S:m<=1048576)(h1:∀u∈xs,u.oneCell'=true)(h:Rd w 1 s m xs):
 Ae Tryz.prog 138 #[s] w λe f=>∃a c,e=.returned (Z a m c)/\f.ownsRow w 2 1 (Z a m c) m xs/\Ad w w f:=by
 obtain⟨R,H,N,O,Q⟩:=lU Bt;have i:Aa (Ad w w (w.alloc (.cells #[] 2))):=Ag _ _;have z:Aa ((w.alloc (.cells #[] 2)).ownsRow w 2 1 (Z w 0 0) 0 []):=⟨rfl,.inr ⟨w,0,#[],rfl,Nat.le_refl _,nJ _ _,Nat.le_refl _,mu _,rfl,sP⟩⟩;obtain⟨D,c1,rfl⟩:=h.fu;cases D with
 | none=>
   have L:m=0:=by
    rcases h.2 with⟨e0,_⟩|⟨g,o,c,k,_⟩
    . exact e0
    cases k
   subst L;have p:xs=[]:=lP (by have:=h.1;simpa using this);subst p;have C:Aa (w.ownsRow w 2 1 (Z M 0 0) 0 []):=lq _ _ _ _;(have F:∀w,_:= λw=>Od c1 w);clear h;go_enter Tryz.func138,Tryz.ntmps138;go_wp2;go_ret;exact⟨_,_,rfl,C.o,lQ _ _⟩
 | some ad=>
   have B:Aa (∀j u,xs[j]?=K u->(w.alloc (.cells #[] 2)).cell? (ad.add j)=K u):= λj u b=>by
    rcases h.2 with⟨e0,_⟩|⟨g,o,c,k,G⟩
    . have p:xs=[]:=lP (by have:=h.1;rw[e0]at this;simpa using this);rw[p]at b;simp at b
    simp only[jc,kK]at k;obtain⟨rfl,_,_⟩:=k;have:=G j u b;rw[Da,i.o.cell (jC this)];exact this
   have y:Aa (↑xs=m*1/\∀u∈xs,u.oneCell'=true):=⟨h.1,h1⟩
   (have F:∀w,_:= λw=>Nh ad m c1 w);clear h h1;go_enter Tryz.func138,Tryz.ntmps138;go_wp2_with (at_builtin;refine wpList_append_own _ rfl _ _ 36 rfl w 2 R (Ac Ab 0) 1 8 Tryz.underlying36 H N O Q rfl dC _ 0 [] rfl z.o ad m c1 xs rfl ?c1 ?c2 ?c3 ?c4 ?c5 ?c6 ?_);(case c1=>exact y.o.1);(case c2=>exact B.o);(case c3=>exact y.o.2);(case c4=>unfold maxLen;omega);(case c5=>omega);(case c6=>exact i.o.size);intro v' f l A I;(obtain⟨a2,c2,rfl⟩:∃a c,v'=Z a m c:=by have:=(Rd.gM l).fu;simpa using this);have t:Aa (f.ownsRow w 2 1 (Z a2 m c2) m xs/\Ad w w f):=⟨by simpa using l,i.o.grown A i.o.size (λj b=>(z.o.lt j b).1)⟩
   clear l A I;go_wp2;go_ret;exact⟨_,_,rfl,t.o.1,t.o.2⟩
theorem Tu(s t:Int)(w:Y):Ae Tryz.prog 140 #[Ac Ab s,Ac Ab t] w λe j=>AC e (t=0\/s=t)/\Ad w w j:=by
 by_cases b:t=0
 . (have i:(t==0)=true:=by simpa using b);have g:Aa (t=0):=b;clear b;go_enter Tryz.func140,Tryz.ntmps140;go_wp2;go_ret;exact⟨.ik (.inl g.o),lQ _ _⟩
 have i:(t==0)=false:=by simpa using b
 have g:Aa (¬t=0):=b;clear b;by_cases a:s=t
 . (have h:(s==t)=true:=by simpa using a);have f:Aa (s=t):=a;clear a;go_enter Tryz.func140,Tryz.ntmps140;go_wp2;go_ret;exact⟨.ik (.inr f.o),lQ _ _⟩
 have h:(s==t)=false:=by simpa using a
 have f:Aa (¬s=t):=a;clear a;go_enter Tryz.func140,Tryz.ntmps140;go_wp2;go_ret;exact⟨.no (λe=>e.elim g.o f.o),lQ _ _⟩
theorem Ts{a b:List Int}{k:Nat}{s t:Int}(h1:a[k]?=K s)(h2:b[k]?=K t)(h:¬(t=0\/s=t)):¬CP a b=true:= λe=>h ((Ht (Ml e)).1 e k s t h1 h2)
theorem KB(s L:J)(a ts:List Int)(w:Y)(hL:a.length<=1048576)(am:ts.length<=1048576)(h:Rd w 1 s a (a.flatMap Ah))(C:Rd w 1 L ts (ts.flatMap Ah)):
 Ae Tryz.prog 139 #[s,L,.func (.func 140) #[] #[]] w λe w'=>AC e (CP a ts=true)/\Ad w w w':=by
 have N:Aa (Rd w 1 s a (a.flatMap Ah)):=h;have A:Aa (Rd w 1 L ts (ts.flatMap Ah)):=C;obtain⟨a1,c1,rfl⟩:=h.fu;obtain⟨a2,c2,rfl⟩:=C.fu;clear h C;by_cases l:a.length= ↑ts
 . rw [<-l]at A⊢;clear am;generalize T:a.length=n at hL N A l;have g:Aa (↑a=n/\ ↑ts=n):=⟨T,l.symm⟩
   clear T l;go_enter Tryz.func139,Tryz.ntmps139;go_wp2;go_loopw [17] (λi wr=>∃k:Nat,k<=n/\i=Ac Ab k/\Aa (∀(j:Nat),j<k->∀v,a[j]?=K v->∀t,ts[j]?=K t->t=0\/v=t)/\Aa (Ad w w wr)) (λi _=>n-(intOf i).toNat)
   (case atStart=>exact⟨0,oM,rfl, λj hj=>oM,lQ _ _⟩);obtain⟨k,hk,rfl,Q,f⟩:=hrel;by_cases ah:k<n
   . obtain⟨x,G⟩:∃x,a[k]?=K x:=⟨_,an (by rw[g.o.1];exact ah)⟩;obtain⟨t,p⟩:∃x,ts[k]?=K x:=⟨_,an (by rw[g.o.2];exact ah)⟩;rcases N.o.2 with⟨e0,_⟩|⟨b,o,c,R,a8⟩
     . omega
     rcases A.o.2 with⟨e0,_⟩|⟨b',o',c',S,ae⟩
     . omega
     simp only[jc,lO]at R S;obtain⟨rfl,rfl⟩:=R;obtain⟨rfl,rfl⟩:=S;have H:=Rd.elem Ao a8 k _ G 0 _ rfl;have I:=Rd.elem Ao ae k _ p 0 _ rfl;rw[<-f.o.cell (jC H),lr,kZ]at H;rw[<-f.o.cell (jC I),lr,kZ]at I;have y:Aa (a[k]?=K x/\ts[k]?=K t):=⟨G,p⟩
     clear a8 ae G p;go_wp2_with fail;refine(Tu x t _).mono ?_;rintro e u ⟨⟨b0,rfl,z⟩,W⟩;have O:Aa (Ad w w u):=Ai f.o lR W;clear W f H I;cases b0
     . have B:Aa (¬CP a ts=true):=Ts y.o.1 y.o.2 (λe=>absurd (z.2 e) ms);clear z;go_wp2;go_ret;exact⟨.no B.o,O.o⟩
     have HC:Aa (t=0\/x=t):=z.1 rfl
     clear z;have aj:Aa (∀(j:Nat),j<k+1->∀v,a[j]?=K v->∀t,ts[j]?=K t->t=0\/v=t):= λj hj v F t' D=>by
      by_cases e:j=k
      . subst e;rw[y.o.1]at F;rw[y.o.2]at D;obtain rfl:=kN F;obtain rfl:=kN D;exact HC.o
      exact Q.o j oM v F t' D
     go_wp2;go_roundw;(case rel=>exact⟨k+1,oM,by go_num,aj,O⟩);exact oI
   have ao:n=k:=oM;subst ao;have HY:Aa (CP a ts=true):=(Ht (by rw[g.o.1,g.o.2])).2 (λi s t hs p=>Q.o i (by have:=(iV.1 hs).1;rw[g.o.1]at this;exact this) s hs t p);go_wp2;go_ret;exact⟨.ik HY.o,f.o⟩
 have B:Aa (¬CP a ts=true):= λe=>l (Ml e)
 have aq:¬(a:Int)=(ts:Int):=oM;go_enter Tryz.func139,Tryz.ntmps139;go_wp2;go_ret;exact⟨.no B.o,lQ _ _⟩
theorem Fp(h:DC t=true):¬t=0:=by unfold DC at h;simp at h;omega
theorem P5{xs:List Int}(h:xs.all DC=true){k:Nat}{x:Int}(a:xs[k]?=K x):DC x=true:=nC.1 h x (i8 a)
theorem Jb(a:Cd f)(n:Int):IL f n↔¬Ay f n=0:=by
 constructor
 . rintro⟨i,h1⟩;obtain⟨k,rfl⟩:=kU i;by_cases q:k< ↑f.d5
   . rw[J8 (an q)];exact Fp (P5 a.pt (an q))
   have b:k-↑f.d5<f.en.length:=oM
   have e:=J6 (f:=f) (an b);have g:((f.d5:Int)+((k-↑f.d5:Nat):Int))=(k:Int):=oM
   rw[g]at e;rw[e];exact Fp (P5 a.lt (an b))
 intro h;by_cases j:n<0
 . exact absurd (Hd j) h
 by_cases l:(f.d5:Int)+ ↑f.en<=n
 . exact absurd (J7 l) h
 exact⟨oM,oM⟩
theorem FC{p:MP}{a b:Nat}(f:p.a7.length=3)(e:p.a7[a]?=K l):BR p a b=l.getD b 0:=Jw (by have:=(iV.1 e).1;omega) e
theorem Kx{p:MP}(g:AP p.a7)(a b:Int):¬BR p a b=0↔∃l,0<=a/\p.a7[a.toNat]?=K l/\0<=b/\b<(l.length:Int):=by
 constructor
 . intro h;have r:¬(a<0\/2<a\/b<0):= λe=>h (Fi e)
   obtain⟨i,rfl⟩:=kU (show 0<=a from oM);obtain⟨j,rfl⟩:=kU (show 0<=b from oM);(have m:i<p.a7.length:=by have:=g.1;omega);rw[FC g.1 (an m)]at h;refine⟨p.a7[i],oM,by rw[kM];exact an m,oM,?_⟩;by_cases k:j<p.a7[i].length
   . omega
   exact absurd (by rw[lD,lB oM];rfl) h
 rintro⟨l,n,f,h1,h2⟩;obtain⟨i,rfl⟩:=kU n;obtain⟨j,rfl⟩:=kU h1;rw[kM]at f;rw[FC g.1 f];have k:j<l.length:=oM;have e:l.getD j 0=l[j]:=by rw[lD,an k];rfl
 rw[e];have q:=g.2 i (iV.1 f).1 l f;exact Fp (P5 q.2 (an k))
theorem Ii{p:MP}(h:AP p.a7)(op a b:Int)(m:op=4\/op=5\/op=6\/op=7):Df p op a b↔¬BR p a b=0/\((op=4\/op=6)\/¬a=0):=by
 rw[Kx h];constructor
 . rintro⟨l,h1,h2,e,f,g⟩;refine⟨⟨l,h1,h2,e,f⟩,?_⟩;by_cases q:a=0
   . left;by_cases i:op=5\/op=7
     . exact absurd ⟨i,q⟩ g
     omega
   exact .inr q
 rintro⟨⟨l,h1,h2,e,f⟩,g⟩;exact⟨l,h1,h2,e,f, λ⟨j,k⟩=>oM⟩
theorem QD{p:MP}(m:AP p.a7){a b:Nat}(g:p.a7[a]?=K l)(r:b< ↑l)(c:Int):Gm (l.drop b) c↔Et p a b c:=by
 have y:=m.2 a (iV.1 g).1 l g;have cell:∀j:Nat,BR p (a:Int) ((b:Int)+(j:Int))=l.getD (b+j) 0:= λj=>by have:=FC (b:=b+j) m.1 g;rw[Int.natCast_add]at this;exact this
 have n:BR p (a:Int) (b:Int)=l.getD b 0:=FC m.1 g;have i:∀j:Nat,(l.drop b)[j]?=l[b+j]?:= λj=>by rw[ny]
 constructor
 . intro h;have v:=h.j4;rw[mO]at v;have z:=h.low;have B:=y.1;refine⟨h.low,oM,h.jy,?_, λj f=> ?_⟩
   . rw[Kx m];exact⟨l,oM,by rw[kM];exact g,oM,oM⟩
   have:=h.one j f;rw[i,i]at this;rw[cell,n,lD,lD,this];rfl
 intro h;have u:∀j:Nat,(j:Int)<=c->b+j<l.length:= λj f=>by
  have e:=h.one j f;have t:=h.there;rw[<-e,cell]at t;by_cases q:b+j< ↑l
  . exact q
  exact absurd (by rw[lD,lB oM];rfl) t
 obtain⟨k,rfl⟩:=kU h.low;have A:=u k oM;refine⟨h.low,by rw[mO];omega,h.jy, λj f=> ?_⟩;have s:=u j f;have e:=h.one j f;rw[cell,n,lD,lD,an s,an r]at e;rw[i,i,kZ,an s,an r];simpa using e
theorem Gy(w u:Y)(s:Ci)(k:GK)(p:Int)(v:VP)(X:J)(g:Gn)(left lv:Int)(D:List AB)(op a b c:Int)(h:SM w u s k p v X g left lv D)(L:g.ch.length<=1000000)(ae:-1000000<=left/\left<=1000000):
 Ae Tryz.prog 48 #[.pointer (K ⟨k.Gb,0,M⟩),iZ op,iZ a,iZ b,iZ c] u λe W=>e=.returned (iZ (g.ch:Int))/\∃a8,SM w W s k p v a8 ⟨g.ch++[(⟨op,a,b,c⟩:MI)],g.aC,g.dr⟩ (left-1) lv D:=by
 obtain⟨R,I,O,P,Q⟩:=lU Rm;obtain⟨⟨z,c1,G⟩,_⟩:=h.bl.ie;subst G;have H:=Ap h;obtain⟨_,_,_,F,_,_⟩:=h.cells;clear h;generalize C:g.ch.length=n at H F L⊢;have y:=Ap C;clear C;have j:Aa (SM w (u.alloc (.cells #[iZ op,iZ a,iZ b,iZ c] 60)) s k p v (Z z n c1) g left lv D):=H.o.bM (Ag _ _);go_enter Tryz.func48,Tryz.ntmps48;go_upto_region 2 with(at_builtin;refine wpList_append_lies _ rfl _ _ 49 rfl w 60 R (.agg #[iZ 0,iZ 0,iZ 0,iZ 0]) 4 32 Tryz.underlying49 I O P Q rfl dC _ n (g.ch.flatMap MI.cells) rfl (by have:=j.o.bl.ie.2;rw[y.o]at this;exact this) u 1 1 [iZ op,iZ a,iZ b,iZ c] rfl rfl (Dw u _ _) (JC [(⟨op,a,b,c⟩:MI)]) oM (by simp[maxLen];omega) oM j.o.bl.size _ rfl ?_;intro i f q E B A N;have m:Aa (SM w (q.setCell ⟨k.Gb,3,M⟩ (sG i (n+1) f)) s k p v (sG i (n+1) f) ⟨g.ch++[(⟨op,a,b,c⟩:MI)],g.aC,g.dr⟩ left lv D/\q.cell? ⟨k.Gb,3,M⟩=K (Z z n c1)/\q.frozen? ⟨k.Gb,3,M⟩=false):=j.o.push [(⟨op,a,b,c⟩:MI)] (sG i (n+1) f) (by rw[y.o];exact E) B (D3 A);have S:=m.o.2.1;have T:=m.o.2.2;clear E B A N)
 refine An (λU=>Aa (SM w U s k p v (sG i (n+1) f) ⟨g.ch++[(⟨op,a,b,c⟩:MI)],g.aC,g.dr⟩ left lv D)) m.o.1 ?_;clear S T m j F;intro U l;obtain⟨_,_,_,_,V,_⟩:=l.o.cells;have z4:=l.o.frozen 4;have r:=Ap (l.o.ku (left-1));go_upto_region 3 with fail
 refine An (λU=>Aa (SM w U s k p v (sG i (n+1) f) ⟨g.ch++[(⟨op,a,b,c⟩:MI)],g.aC,g.dr⟩ (left-1) lv D)) r ?_;clear r l V z4;intro U2 t;obtain⟨_,_,_,q5,_,_⟩:=t.o.cells;go_wp2_with fail;go_ret;exact⟨sP,_,t.o⟩
section
variable {w u:Y} {s:Ci} {k:GK} {p left lv:Int} {nt:Nat} {D:List AB} {op a b c:Int}
theorem FO(E:Aa (GS w u s k p left lv nt D))(i:Ib k 0 (k.L0-left+1) ⟨op,a,b,c⟩)(m:-900000<=left:=by omega):
 Ae Tryz.prog 48 #[.pointer (K ⟨k.Gb,0,M⟩),iZ op,iZ a,iZ b,iZ c] u λe f=>∃n:Nat,e=.returned (iZ (n:Int))/\(n:Int)=k.L0-left/\Aa (GS w f s k p (left-1) lv nt D):=by
 obtain⟨v,j,g,h1,h2⟩:=E.o.ex;have:=h2.len;have:=E.o.le;refine(Gy w u s k p v j g left lv D op a b c h1 oM oM).mono ?_;rintro e f ⟨rfl,l,h⟩;exact⟨g.ch,rfl,oM,E.o.ok,v,l,_,h,h2.put (i.mono (mu _) (Int.le_refl _))⟩
theorem VA(E:Aa (GS w u s k p left lv nt D))(h:Ib k 0 (k.L0-left+1) ⟨op,a,b,c⟩)(l:AG op=9\/AG op=10)(m:-900000<=left:=by omega):
 Ae Tryz.prog 48 #[.pointer (K ⟨k.Gb,0,M⟩),iZ op,iZ a,iZ b,iZ c] u λe i=>∃n:Nat,e=.returned (iZ (n:Int))/\(n:Int)=k.L0-left/\Aa (Xo w i s {k with J:=n::k.J} p (left-1) lv nt D n):=by
 obtain⟨v,r,g,h1,h2⟩:=E.o.ex;have m:=h2.len;have f:=E.o.ok;have:=E.o.le;refine(Gy w u s k p v r g left lv D op a b c h1 oM oM).mono ?_;rintro e i ⟨rfl,t,j⟩;exact⟨g.ch,rfl,oM,⟨f.f3,f.fr,f.ft,f.fi,f.gl,f.fn,f.l0⟩,v,t,_,⟨j.bl⟩,(h2.put (h.mono (mu _) (Int.le_refl _))).jump l,oS, λx h e=>by
  rcases(h2.wt x h).2.2 with q|q
  . simp only[]at e;omega
  exact q.2.1⟩
theorem Xo.gs{n:Nat}(h:Xo w u s k p left lv nt D n):GS w u s k p left lv nt D:=by obtain⟨a,v,b,g,h1,h2,_⟩:=h;exact⟨a,v,b,g,h1,h2⟩
theorem X3{r:Nat}(E:Aa (GSC w u s k p left lv nt D r))(l:-900000<=left:=by omega):
 Ae Tryz.prog 48 #[.pointer (K ⟨k.Gb,0,M⟩),iZ 1,iZ (r:Int),iZ 0,iZ 0] u λe b=>∃n:Nat,e=.returned (iZ (n:Int))/\Aa (GS w b s k p (left-1) lv nt D):=by
 obtain⟨a,v,i,g,h1,h2,h⟩:=E.o;have:=h2.len;have:=a.l0;refine(Gy w u s k p v i g left lv D 1 r 0 0 h1 oM oM).mono ?_;rintro e b ⟨rfl,j,f⟩;exact⟨g.ch,rfl,a,v,j,_,f,h2.put (ok1 h h2.nc)⟩
theorem X4(E:Aa (GS w u s k p left lv nt D))(l:-900000<=left:=by omega):
 Ae Tryz.prog 48 #[.pointer (K ⟨k.Gb,0,M⟩),iZ op,iZ a,iZ b,iZ c] u λe f=>∃n:Nat,e=.returned (iZ (n:Int))/\Aa (RN w f s k p left lv nt D ⟨op,a,b,c⟩):=by
 obtain⟨v,i,g,h1,h2⟩:=E.o.ex;have:=h2.len;have:=E.o.le;refine(Gy w u s k p v i g left lv D op a b c h1 oM oM).mono ?_;rintro e f ⟨rfl,j,h⟩;exact⟨g.ch,rfl,E.o.ok,v,j,g,h,h2⟩
end
def MI.iL(x:MI)(i:Nat)(z:Int):MI:=match i with|0=>⟨z,x.a,x.b,x.c⟩|1=>⟨x.op,z,x.b,x.c⟩|2=>⟨x.op,x.a,z,x.c⟩|_=>⟨x.op,x.a,x.b,z⟩
theorem Jz{code:List MI}{x:MI}{z:Int}(a:code[j]?=K x)(e:i<4):(code.flatMap MI.cells).set (j*4+i) (.int Ab z)=(code.set j (x.iL i z)).flatMap MI.cells:=by
 induction code generalizing j with
 |nil=>cases a
 | cons y r b=>
   cases j with
   | zero=>
     simp only[jt,kK]at a;subst a;have:i=0\/i=1\/i=2\/i=3:=oM
     rcases this with rfl|rfl|rfl|rfl<;>rfl
   | succ j=>simp only[kI]at a;rw[lM,kX,kX,<-b a,show(j+1)*4+i=j*4+i+1+1+1+1 from oM];rfl
section
variable {w u u':Y} {s:Ci} {k:GK} {p left lv:Int} {nt:Nat} {D:List AB}
theorem GS.ix(h:GS w u s k p left lv nt D)(E:j∈k.J)(L:-900000<=left):∃a l d:Nat,(d:Int)=k.L0-left/\j<d/\u.cell? ⟨k.Gb,3,M⟩=K (sG a d l)/\(∃G:Int,u.cell? ⟨a,j*4+3,M⟩=K (iZ G))/\u.frozen? ⟨a,j*4+3,M⟩=false/\GS w (u.setCell ⟨a,j*4+3,M⟩ (iZ (d:Int))) s k p left lv nt D:=by
 obtain⟨v,H,g,h1,h2⟩:=h.ex;have F:=h2.len;have N:=h.ok.l0;obtain⟨x,f,z⟩:=h2.jm j E;have A:=(iV.1 f).1;have b:=h1.bl.ie.2;rcases Bz b with⟨e,I⟩|⟨a,l,e⟩
 . omega
 have r:=h1.cells.2.2.2.1;rw[e]at b r;have t:=lV b (j*4+3) oM;rw[Cr MI.cells 4 MI.gH g.ch j 3 x f oM]at t;refine⟨a,l,g.ch,oM,A,r,⟨_,t⟩,b.frozenAt _,h.ok,v,H,⟨g.ch.set j (x.iL 3 (g.ch:Int)),g.aC,g.dr⟩,⟨h1.bl.jJ (n:=0) e sP (j*4+3) _ (Jz f oM)⟩,⟨by simpa using F,h2.nc,h2.lc,h2.nt, λy m=> ?_,h2.wk,h2.bk,by simpa using h2.wt,h2.ri, λi C=> ?_⟩⟩
 . simp only[mU];rcases m7 m with q|q
   . exact h2.wc y q
   rw[q];exact(h2.wc x (i8 f)).ix z oM (Int.le_refl _) oM
 obtain⟨y,m,B⟩:=h2.jm i C;by_cases e:j=i
 . subst e;exact⟨x.iL 3 (g.ch:Int),by simp[A],z⟩
 exact⟨y,by simp only[];rw[mC e];exact m,B⟩
theorem RN.gs{x:MI}(h:RN w u s k p left lv nt D x)(b:Ib k 0 (k.L0-left+1) x):GS w u s k p (left-1) lv nt D:=by obtain⟨a,v,e,g,h1,h2⟩:=h;exact⟨a,v,e,_,h1,h2.put (b.mono (mu _) (Int.le_refl _))⟩
theorem RN.at{op t:Int}(h:RN w u s k p left lv nt D ⟨op,0,0,0⟩)(y:-900000<=left):∃a f n:Nat,(n:Int)=k.L0-left/\u.cell? ⟨k.Gb,3,M⟩=K (sG a (n+1) f)/\u.cell? ⟨a,n*4,M⟩=K (iZ op)/\u.cell? ⟨a,n*4+1,M⟩=K (iZ 0)/\u.frozen? ⟨a,n*4+1,M⟩=false/\(Ib k 0 (k.L0-left+1) ⟨op,t,0,0⟩->GS w (u.setCell ⟨a,n*4+1,M⟩ (iZ t)) s k p (left-1) lv nt D):=by
 obtain⟨l,v,r,g,h1,h2⟩:=h;have A:=h2.len;have z:=l.l0;have i:(g.ch++[(⟨op,0,0,0⟩:MI)])[g.ch.length]?=K ⟨op,0,0,0⟩:=sP;have b:=h1.bl.ie.2;rcases Bz b with⟨e,m⟩|⟨a,f,e⟩
 . simp at m
 have j:=h1.cells.2.2.2.1;rw[e]at b j;simp only[]at b;have c0:=lV b (g.ch.length*4+0) (by simp only[kJ,kQ];omega);have c1:=lV b (g.ch.length*4+1) (by simp only[kJ,kQ];omega);rw[Cr MI.cells 4 MI.gH _ _ 0 _ i oM]at c0;rw[Cr MI.cells 4 MI.gH _ _ 1 _ i oM]at c1;refine⟨a,f,g.ch,oM,by rw[j];simp,c0,c1,b.frozenAt _, λq=>⟨l,v,r,⟨g.ch++[⟨op,t,0,0⟩],g.aC,g.dr⟩,⟨h1.bl.jJ (n:=0) e sP (g.ch.length*4+1) _ ?_⟩,h2.put (q.mono (mu _) (Int.le_refl _))⟩⟩;rw[Jz i oM];simp[MI.iL]
theorem GS.lvl(h:GS w u s k p left lv nt D):u.cell? ⟨k.Gb,5,M⟩=K (iZ lv)/\u.frozen? ⟨k.Gb,5,M⟩=false/\∀x,GS w (u.setCell ⟨k.Gb,5,M⟩ (iZ x)) s k p left x nt D:=by obtain⟨v,a,g,h1,h2⟩:=h.ex;exact⟨h1.cells.2.2.2.2.2,h1.frozen 5, λx=>⟨h.ok,v,a,g,h1.jX x,h2⟩⟩
end
theorem A8.parts{p:MP}(h:A8 p 0):AP p.a7/\Bg p.aC/\Bn p.cC/\CQ p/\BD p:=by
 unfold A8 at h;rcases h with h|h|h|h|h|h
 . exact absurd h.1 dC
 . exact absurd h.1 dC
 . exact absurd h.1 dC
 . exact absurd h.1 dC
 . exact absurd h.1 dC
 exact h.2
theorem A8.jk{p:MP}(h:A8 p 0){x:MI}(a:p.cC[i]?=K f)(b:f.ch[j]?=K x):AK p f x:=h.parts.2.2.2.1 i (iV.1 a).1 f a j (iV.1 b).1 x b
theorem GP:AG 1=1/\AG 2=2/\AG 3=2/\AG 4=3/\AG 5=3/\AG 6=4/\AG 7=4/\AG 27=10/\AG 28=11:=by decide+kernel
theorem AK.const{p:MP}{x:MI}(h:AK p f x)(e:x.op=1):∃(q:Nat) (z:MC),x.a=q/\p.aC[q]?=K z:=by
 obtain⟨_,_,h⟩:=h;rw[e,GP.1]at h;unfold BQ BM at h;have h1:0<=x.a/\x.a<p.aC.length:=by rcases h with h|h|h|h|h|h|h|h|h|h<;>first|(exfalso;omega)|exact⟨h.2.1,h.2.2.1⟩
 obtain⟨q,b⟩:=kU h1.1;rw[b]at h1;exact⟨q,_,b,an oM⟩
theorem Qy{a:Int}(h:¬Ay f a=0):∃q:Nat,a=q/\(f.d5++f.en)[q]?=K (Ay f a):=by
 by_cases b:a<0
 . exact absurd (Hd b) h
 obtain⟨q,g⟩:=kU (by omega:0<=a);refine⟨q,g,?_⟩;subst g;unfold Ay at h⊢;rw[lE b]at h⊢;rw[lD]at h⊢;simp only[kM]at h⊢;cases e:(f.d5++f.en)[q]? with
 |none=>rw[e]at h;exact absurd rfl h
 |some z=>rfl
theorem AK.local{p:MP}{x:MI}(h:AK p f x)(e:x.op=2\/x.op=3\/x.op=27):∃q:Nat,x.a=q/\(f.d5++f.en)[q]?=K (Ay f x.a):=by
 apply Qy;obtain⟨_,_,h⟩:=h;have b:AG x.op=2\/AG x.op=10:=by
  rcases e with e|e|e<;>rw[e]
  . exact .inl GP.2.1
  . exact .inl GP.2.2.1
  exact .inr GP.2.2.2.2.2.2.2.1
 unfold BQ BM at h;rcases h with h|h|h|h|h|h|h|h|h|h<;>first|(exfalso;omega)|exact h.2.1
theorem RY{p:MP}{a b:Int}(k:p.a7.length=3)(h:¬BR p a b=0):∃(q z:Nat) (r:List Int),a=q/\b=z/\p.a7[q]?=K r/\r[z]?=K (BR p a b):=by
 by_cases g:a<0\/2<a\/b<0
 . exact absurd (Fi g) h
 obtain⟨q,i⟩:=kU (by omega:0<=a);obtain⟨z,j⟩:=kU (by omega:0<=b);subst i j;have f:p.a7[q]?=K (p.a7[q]'oM):=an oM
 refine⟨q,z,_,rfl,rfl,f,?_⟩;have e:=Jw (p:=p) (r:=q) (c:=z) oM f;rw[e]at h⊢;rw[lD]at h⊢;cases e2:(p.a7[q]'oM)[z]? with
 |none=>rw[e2]at h;exact absurd rfl h
 |some t=>rfl
theorem R4{p:MP}{x:MI}{q z:Nat}{r:List Int}(h1:x.a=q)(h2:x.b=z)(e:p.a7[q]?=K r)(f:r[z]?=K t):DJ p x=t:=by unfold DJ;rw[h1,h2];simp only[kM,e,f];rfl
theorem AK.cell{p:MP}{x:MI}(j:p.a7.length=3)(h:AK p f x)(e:x.op=4\/x.op=5\/x.op=6\/x.op=7):∃(q z:Nat) (r:List Int),x.a=q/\x.b=z/\p.a7[q]?=K r/\r[z]?=K (DJ p x):=by
 obtain⟨_,_,h⟩:=h;have l:AG x.op=3\/AG x.op=4:=by
  rcases e with e|e|e|e<;>rw[e]
  . exact .inl GP.2.2.2.1
  . exact .inl GP.2.2.2.2.1
  . exact .inr GP.2.2.2.2.2.1
  exact .inr GP.2.2.2.2.2.2.1
 unfold BQ BM at h;have k:¬BR p x.a x.b=0:=by rcases h with h|h|h|h|h|h|h|h|h|h<;>first|(exfalso;omega)|exact h.2.1|exact h.2.1.there
 obtain⟨q,z,r,h1,h2,g,i⟩:=RY j k;refine⟨q,z,r,h1,h2,g,?_⟩;rw[R4 h1 h2 g i];exact i
theorem AK.jy{p:MP}{x:MI}(h:AK p f x)(e:x.op=6\/x.op=7):Et p x.a x.b x.c:=by
 obtain⟨_,_,h⟩:=h;have g:AG x.op=4:=by
  rcases e with e|e<;>rw[e]
  . exact GP.2.2.2.2.2.1
  exact GP.2.2.2.2.2.2.1
 unfold BQ BM at h;rcases h with h|h|h|h|h|h|h|h|h|h<;>first|(exfalso;omega)|exact h.2.1
theorem AK.callee{p:MP}{x:MI}(h:AK p f x)(e:x.op=28):∃(q:Nat) (g:MF),x.a=q/\p.cC[q]?=K g:=by
 obtain⟨_,_,h⟩:=h;rw[e,GP.2.2.2.2.2.2.2.2]at h;unfold BQ BM at h;have h1:0<=x.a/\x.a<p.cC.length:=by rcases h with h|h|h|h|h|h|h|h|h|h<;>first|(exfalso;omega)|exact⟨h.2.1,h.2.2.1⟩
 obtain⟨q,b⟩:=kU h1.1;rw[b]at h1;exact⟨q,_,b,an oM⟩
theorem AK.target{p:MP}{x:MI}(h:AK p f x)(e:x.op=25\/x.op=26\/x.op=27):0<=x.c/\x.c<f.ch.length:=by
 obtain⟨_,_,h⟩:=h;have a:AG 25=9/\AG 26=9/\AG 27=10:=by decide+kernel
 have b:AG x.op=9\/AG x.op=10:=by
  rcases e with e|e|e<;>rw[e]
  . exact .inl a.1
  . exact .inl a.2.1
  exact .inr a.2.2
 unfold BQ BM at h;rcases h with h|h|h|h|h|h|h|h|h|h<;>first|(exfalso;omega)|exact h.2.2.2
end Go.Proofs.YtjnglocdoljgkaaGreat
