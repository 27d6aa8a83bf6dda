import Derived.Test.YtjpobijiblcgaaaGreatFw0
import Derived.Test.YtjpobijiblcgaaaGreatFw6
import Derived.Test.YtjpobijiblcgaaaGreatFw10
import Derived.Test.YtjpobijiblcgaaaGreatFw1
import Derived.Deep.AppendLies
import Derived.Test.YtjpobijiblcgaaaGreatFw5
namespace Go.Proofs.YtjpobijiblcgaaaGreat
open Go.ChangeShapes Go.WideShapes Go.ChangeAt Go.RowKit
set_option linter.unusedVariables false
set_option maxHeartbeats 8000000
set_option maxRecDepth 100000
theorem Gv:∀(a b:List Int),a.Pairwise (· < ·)->b.Pairwise (· < ·)->(∀z,z∈a↔z∈b)->a=b
 |[],[],_,_,_=>rfl
 |[],y::b,_,_,h=>by have:=(h y).2 (by simp);cases this
 |x::a,[],_,_,h=>by have:=(h x).1 (by simp);cases this
 | x :: a,y::b,ha,hb,h=>by
   obtain⟨a1,a2⟩:=bi.1 ha;obtain⟨b1,b2⟩:=bi.1 hb
   have e:x=y:=by
    rcases aX.1 ((h x).1 (by simp))with e|e
    . exact e
    . rcases aX.1 ((h y).2 (by simp))with e'|e'
      . exact e'.symm
      . have:=b1 x e
        have:=a1 y e';omega
   subst e;congr 1
   refine Gv a b a2 b2 fun z=>⟨fun hz=> ?_,fun hz=> ?_⟩
   . rcases aX.1 ((h z).1 (bR _ hz))with e|e
     . have:=a1 z hz
       omega
     . exact e
   . rcases aX.1 ((h z).2 (bR _ hz))with e|e
     . have:=b1 z hz
       omega
     . exact e
theorem PT(xs:List MI)(j:Nat)(hg:AD xs)(h:BD xs xs.length j=true):j<=xs.length:=by
 simp only[BD,Bool.or_eq_true,List.any_eq_true,c6,dI]at h;rcases h with h|⟨i,hi,h⟩
 . omega
 . cases hx:xs[i]? with
   |none=>rw[hx]at h;cases h
   | some x=>
     rw[hx]at h;simp only[Ef,Bool.or_eq_true,du,dI]at h;rcases h with⟨h1,h2⟩|⟨_,h2⟩
     . have:=hg.2.2 i x hx h1
       omega
     . omega
def DB(D:DataW Unit)(xs:List MI)(k:Nat):Prop:=∀z:Int,Go.Maps.has D (.int .i64 z)=(decide (0<=z)&&BD xs k z.toNat)
theorem Ff(D:DataW Unit)(hD:Go.Maps.IsMap D)(z y:Int)(u:DataW Unit):Go.Maps.has (D.put (.int .i64 z) u) (.int .i64 y)=(Go.Maps.has D (.int .i64 y)||decide (y=z)):=by
 by_cases h:y=z
 . subst h
   rw[Go.Maps.has_put_same hD (show WideAt.IsKeyLit (Lit.int .i64 y)from trivial)];simp
 . rw[Go.Maps.has_put_other (fun e=>h (by cases e;rfl))]
   simp[h]
theorem DB.start(xs:List MI)(u:DataW Unit):DB ((DataW.map []:DataW Unit).put (.int .i64 0) u) xs 0:=fun z=>by
 rw[Ff _ Go.Maps.isMap_empty,Hu];have e:Go.Maps.has (DataW.map []:DataW Unit) (.int .i64 z)=false:=rfl;rw[e];by_cases h:z=0
 . subst h
   rfl
 . by_cases h0:0<=z
   . have:¬z.toNat=0:=by omega
     simp[h,this]
   . simp[h,h0]
theorem DB.none{D:DataW Unit}{xs:List MI}{k:Nat}{x:MI}(h:DB D xs k)(hx:xs[k]?=some x)(hg:AG x=false)(hr:¬x.op=29):DB D xs (k+1):=fun z=>by
 rw[h z,Dw xs k _ x hx];simp[Ef,hg,hr]
theorem DB.ret{D:DataW Unit}{xs:List MI}{k:Nat}{x:MI}{u:DataW Unit}(h:DB D xs k)(hD:Go.Maps.IsMap D)(hx:xs[k]?=some x)(hg:AG x=false)(hr:x.op=29):DB (D.put (.int .i64 ((k:Int)+1)) u) xs (k+1):=fun z=>by
 rw[Ff D hD,h z,Dw xs k _ x hx];by_cases h0:0<=z
 . have e:decide (z=(k:Int)+1)=decide (z.toNat=k+1):=decide_eq_decide.2 ⟨fun _=>by omega,fun _=>by omega⟩
   rw[e];simp[Ef,hg,hr,h0]
 . have e:decide (z=(k:Int)+1)=false:=by simp;omega
   simp[e,h0]
theorem DB.goes{D:DataW Unit}{xs:List MI}{k:Nat}{x:MI}{u u':DataW Unit}(h:DB D xs k)(hD:Go.Maps.IsMap D)(hx:xs[k]?=some x)(hg:AG x=true)(hc:0<=x.c):DB ((D.put (.int .i64 x.c) u).put (.int .i64 ((k:Int)+1)) u') xs (k+1):=fun z=>by
 rw[Ff _ (hD.put _ _),Ff D hD,h z,Dw xs k _ x hx];by_cases h0:0<=z
 . have e:decide (z=(k:Int)+1)=decide (z.toNat=k+1):=decide_eq_decide.2 ⟨fun _=>by omega,fun _=>by omega⟩
   have e2:decide (z=x.c)=decide (x.c=(z.toNat:Int)):=decide_eq_decide.2 ⟨fun _=>by omega,fun _=>by omega⟩;rw[e,e2];simp[Ef,hg,h0,Bool.or_assoc]
 . have e:decide (z=(k:Int)+1)=false:=by simp;omega
   have e2:decide (z=x.c)=false:=by simp;omega
   simp[e,e2,h0]
theorem Iw{w w':World}(h:Below w.heap.size w w'):w.grownBy w' none:=⟨h.os,h.tape,h.output,h.size,fun k hk _=>h.block k hk⟩
theorem BC.keep{w w':World}{b cnt:Nat}{D:DataW Unit}(h:BC w b cnt D)(hb:Below w.heap.size w w'):BC w' b cnt D:=World.ownsMap.kept h (Iw hb) (by simp)
structure LX(w wr U:World)(x:MI)(cnt:Nat)(D:DataW Unit):Prop where
 set:BC U w.heap.size cnt D
 xb:An U wr.heap.size #[.int .i64 x.op,.int .i64 x.a,.int .i64 x.b,.int .i64 x.c] 43
 bel:Below w.heap.size w U
 lt:w.heap.size<wr.heap.size
theorem LX.keep{w wr U U':World}{x:MI}{cnt:Nat}{D:DataW Unit}(h:LX w wr U x cnt D)(hb:Below U.heap.size U U'):LX w wr U' x cnt D:=⟨h.set.keep hb,h.xb.keep hb,Af h.bel lR hb,h.lt⟩
theorem LX.grown{w wr U U':World}{x:MI}{cnt cnt':Nat}{D D':DataW Unit}(h:LX w wr U x cnt D)(hs:BC U' w.heap.size cnt' D')(hg:U.grownBy U' (some w.heap.size)):LX w wr U' x cnt' D':=by
 refine⟨hs,?_,h.bel.grown hg h.bel.size (fun j hj=>by cases hj;exact Nat.le_refl _),h.lt⟩;have:=h.xb;have hl:=h.lt;unfold An at*;rw[hg.block _ h.xb.lt (fun e=>by have:=bC e;omega)];exact this
theorem Ku{u:World}{X:Nat}{x0 x1 x2 x3:Value}{t:TypeId}(h:An u X #[x0,x1,x2,x3] t):u.cell? ⟨X,0,none⟩=some x0/\u.cell? ⟨X,1,none⟩=some x1/\u.cell? ⟨X,2,none⟩=some x2/\u.cell? ⟨X,3,none⟩=some x3:=
 ⟨h.cell 0,h.cell 1,h.cell 2,h.cell 3⟩
theorem DU{z:Int}(h0:0<=z)(h1:z<=1048576):BN z:=WalkArith.wf_i64 (by omega)
theorem Je(s:Value)(xs:List MI)(w:World)(hg:AD xs)(h:Rd w 4 s xs.length (xs.flatMap MI.cells)):
 Calls Tryz.prog 27 #[s] w fun e w'=>∃g cap,e=.returned (sG g (CA xs xs.length).length cap)/\w'.ownsRow w.heap.size 2 1 (sG g (CA xs xs.length).length cap) (CA xs xs.length).length (((CA xs xs.length).map Int.ofNat).flatMap Ab)/\Below w.heap.size w w':=by
 have H:Hid (Rd w 4 s xs.length (xs.flatMap MI.cells)):=h;have HG:Hid (AD xs):=hg;have hg1:=hg.1;have hg2:=hg.2.1;obtain⟨a1,c1,rfl⟩:=h.is_slice;clear h hg;generalize hLL:xs.length=n at H hg1 hg2;have HL:Hid (xs.length=n):=hLL;clear hLL;have hmm:= @run_makeMap Tryz.prog;have S0:BC (w.alloc (.map #[] 0)) w.heap.size 0 (.map []):=World.ownsMap_made _ _ _ _;have B0:Below w.heap.size w (w.alloc (.map #[] 0)):=Aa _ _;have z0:(w.alloc (.map #[] 0)).heap.size=w.heap.size+1:=by simp
 have hce:((w.alloc (.map #[] 0)).alloc (.cells #[iZ 0] 2)).cell? ⟨w.heap.size+1,0,none⟩=some (iZ 0):=by
  have:=(An.new (w.alloc (.map #[] 0)) #[iZ 0] 2).cell 0;rw[z0]at this;exact this
 have S1:Hid (BC ((w.alloc (.map #[] 0)).alloc (.cells #[iZ 0] 2)) w.heap.size 0 (.map [])/\Below w.heap.size w ((w.alloc (.map #[] 0)).alloc (.cells #[iZ 0] 2))):=⟨S0.keep (Aa _ _),Af B0 lR (Aa _ _)⟩
 have HCE:Hid _:=hce;clear S0 B0 z0 hce;go_enter Tryz.func27,Tryz.ntmps27;go_wp2_with fail
 refine(EW w.heap.size 0 (w.heap.size+1) 1 (.map []) 0 _ (DU (by omega) (by omega)) (by omega) HCE.o (by omega) S1.o.1).mono ?_;rintro e u1 ⟨rfl,s1,g1⟩;have HS:Hid (∃cnt D,cnt<=1/\BC u1 w.heap.size cnt D/\DB D xs 0/\Below w.heap.size w u1):=⟨_,_,Nat.le_refl _,s1,DB.start xs _,S1.o.2.grown g1 S1.o.2.size (fun j hj=>by cases hj;exact Nat.le_refl _)⟩
 clear s1 g1 S1 HCE;go_wp2
 go_loopw [12] (fun i wr=>∃k:Nat,k<=n/\i=iZ k/\Hid (∃cnt D,cnt<=2*k+1/\BC wr w.heap.size cnt D/\DB D xs k/\Below w.heap.size w wr)) (fun i _=>n-(intOf i).toNat)
 case atStart=>exact⟨0,by omega,rfl,HS⟩
 case round=>
  clear HS;obtain⟨k,hk,rfl,HS⟩:=hrel;obtain⟨cnt,D,hcn,hset,hhas,hbel⟩:=HS.o;have HB:=Ah (aH hhas (aH hbel (aH hset (eU hset))));clear hset hhas hbel HS;by_cases hlt:k<n
  . obtain⟨x,hx⟩:∃x,xs[k]?=some x:=⟨_,aA (by rw[HL.o];exact hlt)⟩
    have HX:Hid (xs[k]?=some x):=hx;rcases H.o.2 with⟨e0,_⟩|⟨g,o,c,e1,hc1⟩
    . omega
    simp only[aI,bU]at e1;obtain⟨rfl,rfl⟩:=e1;have x0:=Rd.elem MI.cells_length hc1 k _ hx 0 _ rfl;have x1:=Rd.elem MI.cells_length hc1 k _ hx 1 _ rfl;have x2:=Rd.elem MI.cells_length hc1 k _ hx 2 _ rfl;have x3:=Rd.elem MI.cells_length hc1 k _ hx 3 _ rfl;rw[<-HB.o.2.1.cell (aF x0),aw]at x0;rw[<-HB.o.2.1.cell (aF x1)]at x1;rw[<-HB.o.2.1.cell (aF x2)]at x2;rw[<-HB.o.2.1.cell (aF x3)]at x3;clear hc1 hx;have hkL:(k:Int)<(n:Int):=by omega
    have HLX:Hid (LX w wr (wr.alloc (.cells #[iZ x.op,iZ x.a,iZ x.b,iZ x.c] 43)) x cnt D):=⟨HB.o.2.2.1.keep (Aa _ _),An.new _ _ _,Af HB.o.2.1 lR (Aa _ _),d8 HB.o.2.2.1⟩;go_upto_region 6 with fail
    refine Al (fun u=>Hid (LX w wr u x cnt D)) HLX ?_;intro U1 HU1;clear HLX x0 x1 x2 x3;obtain⟨a0,a1',a2,a3⟩:=Ku HU1.o.xb;go_wp2_with fail
    refine(Ca x _).mono ?_;rintro e u2 ⟨rfl,b2⟩;have HU2:Hid (LX w wr u2 x cnt D):=HU1.o.keep b2;clear b2 a0 a1' a2 a3 HU1;cases hgo:AG x
    . obtain⟨a0,a1',a2,a3⟩:=Ku HU2.o.xb
      go_wp2_with fail
      refine(Ca x _).mono ?_;rintro e u3 ⟨rfl,b3⟩;have HU3:Hid (LX w wr u3 x cnt D):=HU2.o.keep b3;clear b3 a0 a1' a2 a3 HU2;rw[hgo];obtain⟨a0,a1',a2,a3⟩:=Ku HU3.o.xb;by_cases hr:x.op=29
      . rw[hr]at a0
        have HCE:Hid ((u3.alloc (.cells #[iZ ((k:Int)+1)] 2)).cell? ⟨u3.heap.size,0,none⟩=some (iZ ((k:Int)+1))/\LX w wr (u3.alloc (.cells #[iZ ((k:Int)+1)] 2)) x cnt D/\¬u3.heap.size=w.heap.size):=⟨(An.new u3 #[iZ ((k:Int)+1)] 2).cell 0,HU3.o.keep (Aa _ _),by have:=d8 HU3.o.set;omega⟩
        go_wp2_with fail
        refine(EW w.heap.size cnt u3.heap.size 1 D ((k:Int)+1) _ (DU (by omega) (by omega)) (by omega) HCE.o.1 HCE.o.2.2 HCE.o.2.1.set).mono ?_;rintro e u4 ⟨rfl,s4,g4⟩;have HN:Hid (∃cnt D,cnt<=2*(k+1)+1/\BC u4 w.heap.size cnt D/\DB D xs (k+1)/\Below w.heap.size w u4):=⟨_,_,by omega,s4,HB.o.1.ret HB.o.2.2.2 HX.o hgo hr,(HCE.o.2.1.grown s4 g4).bel⟩
        clear s4 g4 a0 a1' a2 a3;go_wp2
        go_roundw
        case rel=>exact⟨k+1,by omega,by go_num,HN⟩
        case measure=>simp[intOf];omega
      . have hr':(x.op==29)=false:=by simpa using hr
        have HN:Hid (∃cnt D,cnt<=2*(k+1)+1/\BC u3 w.heap.size cnt D/\DB D xs (k+1)/\Below w.heap.size w u3):=⟨_,_,by omega,HU3.o.set,HB.o.1.none HX.o hgo hr,HU3.o.bel⟩
        go_wp2
        go_roundw
        case rel=>exact⟨k+1,by omega,by go_num,HN⟩
        case measure=>simp[intOf];omega
    . obtain⟨hc0,hc1⟩:=HG.o.2.2 k x HX.o hgo
      rw[HL.o]at hc1;obtain⟨a0,a1',a2,a3⟩:=Ku HU2.o.xb;have HCE:=Ah (aH ((An.new u2 #[iZ x.c] 2).cell 0) (aH ((HU2.o.keep (Aa _ _)):LX w wr (u2.alloc (.cells #[iZ x.c] 2)) x cnt D) ((by have:=d8 HU2.o.set;omega):¬u2.heap.size=w.heap.size)));go_wp2_with fail;refine(EW w.heap.size cnt u2.heap.size 1 D x.c _ (DU (by omega) (by omega)) (by omega) HCE.o.1 HCE.o.2.2 HCE.o.2.1.set).mono ?_;rintro e u4 ⟨rfl,s4,g4⟩;have HU4:Hid (LX w wr u4 x (cnt+1) (D.put (.int .i64 x.c) (.agg []))):=HCE.o.2.1.grown s4 g4;clear s4 g4 a0 a1' a2 a3 HCE HU2;obtain⟨a0,a1',a2,a3⟩:=Ku HU4.o.xb;go_wp2_with fail;refine(Ca x _).mono ?_;rintro e u5 ⟨rfl,b5⟩;have HU5:Hid (LX w wr u5 x (cnt+1) (D.put (.int .i64 x.c) (.agg []))):=HU4.o.keep b5;clear b5 a0 a1' a2 a3 HU4;rw[hgo];obtain⟨a0,a1',a2,a3⟩:=Ku HU5.o.xb;have HCE:Hid ((u5.alloc (.cells #[.int .i64 ((k:Int)+1)] 2)).cell? ⟨u5.heap.size,0,none⟩=some (.int .i64 ((k:Int)+1))/\LX w wr (u5.alloc (.cells #[.int .i64 ((k:Int)+1)] 2)) x (cnt+1) (D.put (.int .i64 x.c) (.agg []))/\¬u5.heap.size=w.heap.size):=⟨(An.new u5 #[.int .i64 ((k:Int)+1)] 2).cell 0,HU5.o.keep (Aa _ _),by have:=d8 HU5.o.set;omega⟩
      go_wp2_with fail
      refine(EW w.heap.size (cnt+1) u5.heap.size 1 (D.put (.int .i64 x.c) (.agg [])) ((k:Int)+1) _ (DU (by omega) (by omega)) (by omega) HCE.o.1 HCE.o.2.2 HCE.o.2.1.set).mono ?_;rintro e u6 ⟨rfl,s6,g6⟩;have HN:Hid (∃cnt D,cnt<=2*(k+1)+1/\BC u6 w.heap.size cnt D/\DB D xs (k+1)/\Below w.heap.size w u6):=⟨_,_,by omega,s6,HB.o.1.goes HB.o.2.2.2 HX.o hgo hc0,(HCE.o.2.1.grown s6 g6).bel⟩
      clear s6 g6 a0 a1' a2 a3;go_wp2
      go_roundw
      case rel=>exact⟨k+1,by omega,by go_num,HN⟩
      case measure=>simp[intOf];omega
  . obtain rfl:k=n:=by omega
    go_wp2_with (at_delete;refine wpList_delete_own _ rfl _ _ 81 2 rfl 94 Jw Tryz.underlying81 _ w.heap.size cnt D rfl HB.o.2.2.1 _ _ rfl (eQ Tryz.underlying2 (DU (z:=(k:Int)) (by omega) (by omega))) ?_;intro w1 hown1 hturn1)
    have HD:=Ah (aH hown1 (HB.o.2.1.grown hturn1.grown HB.o.2.1.size (fun j hj=>by cases hj;exact Nat.le_refl _)));clear hown1 hturn1;go_wp2_with fail;refine(IR w.heap.size cnt _ _ (by omega) HD.o.1).mono ?_;rintro e u9 ⟨g9,cap9,zs,rfl,own9,hsrt,hmem,b9⟩
    have ez:zs=(CA xs k).map Int.ofNat:=by
     refine Gv _ _ hsrt (dX.2 ((C8 xs k).imp (fun h=>by simpa using h))) fun z=> ?_
     rw[hmem,bJ];constructor
     . rintro⟨h1,h2⟩
       by_cases e:z=(k:Int)
       . subst e
         rw[Go.Maps.has_del_same]at h2;cases h2
       . rw[Go.Maps.has_del_other (fun q=>e (by cases q;rfl)),HB.o.1 z]at h2
         simp only[du,dI]at h2;have:=h2.2;rw[<-HL.o]at this;have hle:=PT xs _ HG.o this;rw[HL.o]at hle;exact⟨z.toNat,(Co _ _ _).2 ⟨by omega,this⟩,by simp;omega⟩
     . rintro⟨j,hj,rfl⟩
       obtain⟨j1,j2⟩:=(Co _ _ _).1 hj;rw[HL.o]at j2;refine⟨DU (by simp) (by simp;omega),?_⟩;rw[Go.Maps.has_del_other (fun q=>by cases q;omega),HB.o.1];simp[j2]
    subst ez;rw[aj]at own9;have HE:=Ah (aH (AP own9 HD.o.2.size) (Af HD.o.2 lR b9));clear own9 hsrt hmem b9;rw[aj];go_wp2
    go_ret
    exact⟨g9,cap9,rfl,HE.o.1,HE.o.2⟩
def nv(l:List Nat):List Value:=l.map fun(k:Nat)=>Value.int .i64 (k:Int)
theorem NL(l:List Nat):(nv l).length=l.length:=by simp[nv]
theorem En(l m:List Nat):nv (l++m)=nv l++nv m:=by simp[nv]
theorem CS(l:List Nat):nv l=(ints l).flatMap Ab:=by
  induction l with
  |nil=>rfl
  | cons x r ih=>
    simp only[nv,ints,dF,aW]at ih⊢;rw[ih];rfl
theorem M6{l:List Nat}{k x:Nat}(h:l[k]?=some x):(nv l)[k]?=some (.int .i64 (x:Int)):=by simp[nv,h]
def Gk(w:World)(s:Value)(l:List Nat):Prop:=Rd w 1 s l.length (nv l)
def EM(w:World)(base:Nat)(s:Value)(l:List Nat):Prop:=w.ownsRow base 2 1 s l.length (nv l)
theorem EM.rd{w:World}{base:Nat}{s:Value}{l:List Nat}(h:EM w base s l):Gk w s l:=Rd.of_own h
theorem EM.keep{w w':World}{base:Nat}{s:Value}{l:List Nat}(h:EM w base s l)(hb:Below w.heap.size w w'):EM w' base s l:=Aj h hb lR
theorem Gk.keep{w w':World}{s:Value}{l:List Nat}(h:Gk w s l)(hb:Below w.heap.size w w'):Gk w' s l:=Rd.keep h hb lR
theorem Gk.at_{w:World}{a:Option Addr}{n c:Nat}{l:List Nat}(h:Gk w (.slice a n c) l){k x:Nat}(hk:l[k]?=some x):∃g o,a=some ⟨g,o,none⟩/\n=l.length/\w.cell? ⟨g,o+k,none⟩=some (.int .i64 (x:Int)):=by
  rcases h.2 with⟨e0,_⟩|⟨g,o,c',e1,hc⟩
  . have:=(aD.1 hk).1
    omega
  . simp only[aI]at e1
    obtain⟨rfl,rfl,rfl⟩:=e1;exact⟨g,o,rfl,rfl,hc k _ (M6 hk)⟩
theorem Gk.all{w:World}{a:Option Addr}{n c:Nat}{l:List Nat}(h:Gk w (.slice a n c) l)(hl:0<l.length):∃g o,a=some ⟨g,o,none⟩/\n=l.length/\∀k x:Nat,l[k]?=some x->w.cell? ⟨g,o+k,none⟩=some (.int .i64 (x:Int)):=by
  rcases h.2 with⟨e0,_⟩|⟨g,o,c',e1,hc⟩
  . omega
  . simp only[aI]at e1
    obtain⟨rfl,rfl,rfl⟩:=e1;exact⟨g,o,rfl,rfl,fun k x hk=>hc k _ (M6 hk)⟩
def bv(P:Nat->Bool)(n:Nat):List Value:=(List.range n).map fun i=>Value.bool (P i)
theorem FR(P:Nat->Bool)(n:Nat):(bv P n).length=n:=by simp[bv]
theorem Ip(P:Nat->Bool)(n i:Nat)(h:i<n):(bv P n)[i]?=some (.bool (P i)):=by simp[bv,h]
theorem Kz{P Q:Nat->Bool}{n:Nat}(h:∀i,i<n->P i=Q i):bv P n=bv Q n:=by
  unfold bv;apply eZ;intro i hi;rw[h i (c6.1 hi)]
theorem On{P Q:Nat->Bool}{n i:Nat}{b:Bool}(h:∀j,j<n->Q j=if j=i then b else P j):(bv P n).set i (.bool b)=bv Q n:=by
  apply cQ;intro j;by_cases hj:j<n
  . rw[Ip _ _ _ hj,h j hj]
    by_cases e:j=i
    . subst e
      rw[cY (by rw[FR];exact hj),cD rfl]
    . rw[cU (by omega),Ip _ _ _ hj,bu e]
  . rw[ae (by simp[FR];omega),ae (by rw[FR];omega)]
theorem Fb(n:Nat):List.replicate n (Value.bool false)=bv (fun _=>false) n:=by
  apply cQ;intro j;by_cases hj:j<n
  . rw[Ip _ _ _ hj]
    simp[hj]
  . rw[ae (by simp;omega),ae (by rw[FR];omega)]
def Eo(w:World)(base g n:Nat)(P:Nat->Bool):Prop:=w.ownsRow base 4 1 (.slice (some ⟨g,0,none⟩) n n) n (bv P n)
theorem Eo.keep{w w':World}{base g n:Nat}{P:Nat->Bool}(h:Eo w base g n P)(hb:Below w.heap.size w w'):Eo w' base g n P:=Aj h hb lR
theorem Eo.cell{w:World}{base g n:Nat}{P:Nat->Bool}(h:Eo w base g n P){i:Nat}(hi:i<n):w.cell? ⟨g,i,none⟩=some (.bool (P i)):=by
  have:=au h i (by omega);rw[Ip _ _ _ hi]at this;exact this
theorem Eo.frozen{w:World}{base g n:Nat}{P:Nat->Bool}(h:Eo w base g n P)(i:Nat):w.frozen? ⟨g,i,none⟩=false:=bz h i
theorem Eo.set{w:World}{base g n:Nat}{P Q:Nat->Bool}(h:Eo w base g n P)(i:Nat)(b:Bool)(hQ:∀j,j<n->Q j=if j=i then b else P j):Eo (w.setCell ⟨g,i,none⟩ (.bool b)) base g n Q:=by
  have:=(dA h i (.bool b)).1;rw[On hQ]at this;exact this
def Ft(w:World)(g o n:Nat)(E:Nat->List Nat):Prop:=∀b,b<n->∃a c,w.cell? ⟨g,o+b*3+2,none⟩=some (.slice a (E b).length c)/\Gk w (.slice a (E b).length c) (E b)
theorem Ft.keep{w w':World}{g o n:Nat}{E:Nat->List Nat}(h:Ft w g o n E)(hb:Below w.heap.size w w'):Ft w' g o n E:=fun b hb'=>by
  obtain⟨a,c,h1,h2⟩:=h b hb';exact⟨a,c,Ac hb h1,h2.keep hb⟩
theorem Ha.graph{w:World}{V:Value}{xs:List MI}(hg:AD xs)(h:Ha w V (Ap xs)):∃g o c,V=.slice (some ⟨g,o,none⟩) (Ap xs).length c/\Ft w g o (Ap xs).length (nx (Ap xs))/\∀b m,(Ap xs)[b]?=some m->w.cell? ⟨g,o+b*3,none⟩=some (.int .i64 m.first):=by
  obtain⟨ys,h1,h2,h3⟩:=h;have hp:=Ee hg;rcases h2.2 with⟨e0,_⟩|⟨g,o,c,e1,hc⟩
  . omega
  . have hyb:∀b m,(Ap xs)[b]?=some m->∃v,ys[b]?=some (m,v):=fun b m hm=>by
      rw[<-h1,a7]at hm;obtain⟨⟨m',v⟩,q1,q2⟩:=cS.1 hm;simp only[]at q2;subst q2;exact⟨v,q1⟩
    refine⟨g,o,c,e1,fun b hb=> ?_,fun b m hm=> ?_⟩
    . obtain⟨v,hv⟩:=hyb b _ (aA hb)
      have r:=h3 _ (aE hv);have e:=PX hg (aA hb)
      have r':Gk w v (nx (Ap xs) b):=by
        unfold Gk;rw[CS];unfold Ps at r;simp only[e]at r;rw[Az]at r;exact r
      obtain⟨a,cc,ev⟩:=Rd.is_slice r';subst ev;exact⟨a,cc,Rd.elem AQ hc b _ hv 2 _ rfl,r'⟩
    . obtain⟨v,hv⟩:=hyb b m hm
      have:=Rd.elem AQ hc b _ hv 0 _ rfl;rw[aw]at this;exact this
theorem Ky{L:List Nat}{n b:Nat}{m:MB}(hs:L.Pairwise (· < ·))(hl:∀x∈L,x<n)(h:(build L n)[b]?=some m):∃a e:Nat,m.first=(a:Int)/\m.last=(e:Int)/\a<=e/\e<n:=by
 unfold build at h;rw[dS]at h;cases h1:L[b]? with
 |none=>rw[h1]at h;simp at h
 | some a=>
   cases h2:(L.tail++[n])[b]? with
   |none=>rw[h1,h2]at h;simp at h
   | some q=>
     rw[h1,h2]at h;simp only[aJ]at h;subst h;have ha:=hl a (aE h1)
     have hq:a<q/\q<=n:=by
      by_cases hb:b<L.tail.length
      . rw[bW hb]at h2
        have hq:=eM (aE h2);refine⟨?_,dr (hl q hq)⟩;have h3:L[b+1]?=some q:=by rw[<-h2];cases L<;>simp
        obtain⟨i1,e1⟩:=aD.1 h1;obtain⟨i2,e2⟩:=aD.1 h3;rw[<-e1,<-e2];exact(dd.1 hs) b (b+1) i1 i2 (by omega)
      . rw[bV (by omega)]at h2
        have:=aE h2;simp only[aX,bB,cW]at this;subst this;exact⟨ha,Nat.le_refl _⟩
     exact⟨a,q-1,rfl,by simp only[];omega,by omega,by omega⟩
theorem Hx{xs:List MI}{b:Nat}{m:MB}(h:(Ap xs)[b]?=some m):∃a e:Nat,m.first=(a:Int)/\m.last=(e:Int)/\a<=e/\e<xs.length:=by
 unfold Ap at h;rw[a7]at h;obtain⟨m0,h1,rfl⟩:=cS.1 h;rw[Cb]at h1;obtain⟨a,e,q1,q2,q3,q4⟩:=Ky (C8 _ _) (fun x hx=>((Co _ _ _).1 hx).1) h1;exact⟨a,e,q1,q2,q3,q4⟩
structure QZ(xs:List MI)(r:F7):Prop where
 len:xs.length<=1024
 nb:r.blocks.length<=1024
 two:∀m∈r.blocks,m.next.length<=2
 nl:r.loops.length<=1024
 blk:∀(i:Nat) (m:MB),r.blocks[i]?=some m->∃a e:Nat,m.first=(a:Int)/\m.last=(e:Int)/\a<=e/\e<xs.length
 loop:∀l∈r.loops,(∃h:Nat,l.head=(h:Int)/\h<r.blocks.length)/\(∀z∈l.blocks,∃b:Nat,z=(b:Int)/\b<r.blocks.length)/\l.blocks.length<=1024/\l.back.length<=2048
theorem KM{α β:Type}(f:α->List β)(l:List α)(h:∀a∈l,(f a).length<=2):(l.flatMap f).length<=2*l.length:=by
 induction l with
 |nil=>simp
 | cons a l ih=>
   have h1:=h a (by simp);have h2:=ih fun b hb=>h b (by simp[hb])
   rw[aW,aG,bP];omega
theorem Nr{E:Nat->List Nat}{D:Nat->Nat->Bool}(h:∀b,(E b).length<=2)(n y:Nat):(Au E D n y).length<=2*n:=by
 have h1:=KM (fun p=>((E p).filter fun x=>decide (x=y)&&D y p).map fun _=>p) (List.range n) (fun p _=>by
  rw[aj];exact aY (cj _ _) (h p))
 rw[cM]at h1;exact h1
theorem Jb{α β:Type}(f:α->Option β)(l:List α):(l.filterMap f).length<=l.length:=fC f l
theorem Mu{E:Nat->List Nat}{D L:Nat->Nat->Bool}{n j:Nat}(hj:j<=n){l:ML}(h:l∈Bh E D L n j):(∃h:Nat,l.head=(h:Int)/\h<n)/\(∀z∈l.blocks,∃b:Nat,z=(b:Int)/\b<n)/\l.blocks.length<=n/\∃g,l.back=ints (Au E D n g):=by
 unfold Bh at h;obtain⟨g,hg,e⟩:=List.mem_filterMap.1 h;split at e
 . cases e
 . cases e
   refine⟨⟨g,rfl,by have:=c6.1 hg;omega⟩,?_,?_,g,rfl⟩
   . intro z hz
     obtain⟨b,hb,rfl⟩:=bJ.1 hz;exact⟨b,rfl,c6.1 (db.1 hb).1⟩
   . simp only[]
     rw[Az];exact aY (cj _ _) (by simp)
theorem Bm.inn{xs:List MI}{r:F7}(h:Bm xs r)(h0:r.code=0):QZ xs r:=by
 cases h with
 |none _=>cases h0
 |off _ _ _=>cases h0
 |lost _ _ _ _ _ _ _ _=>cases h0
 |two _ _ _ _ _ _ _ _=>cases h0
 | good g x1 o1 v1 s1 d1 b1 i1 l1=>
   refine⟨g.2.1,DG g,DT xs,?_,fun i m h=>Hx h,fun l hl=> ?_⟩
   . simp only[]
     unfold Bh;exact aY (Jb _ _) (by rw[cM];exact DG g)
   . obtain⟨a1,a2,a3,y,a4⟩:=Mu lR hl
     refine⟨a1,a2,aY a3 (DG g),?_⟩;rw[a4,Az];exact aY (Nr (FK _ (DT xs)) _ _) (by have:=DG g;omega)
def C7(ts:List MT)(fi h:Int):Option MT:=ts.find? fun c=>decide (c.func=fi)&&decide (c.head=h)
theorem KA{ts:List MT}{fi h:Int}(q:∀(j:Nat) (c:MT),ts[j]?=some c->¬(c.func=fi/\c.head=h)):C7 ts fi h=none:=by
 unfold C7;rw[List.find?_eq_none];intro c hc;obtain⟨j,hj⟩:=cH hc;have:=q j c hj;simpa using this
theorem KB{ts:List MT}{fi h:Int}{i:Nat}{c:MT}(hi:ts[i]?=some c)(hc:c.func=fi/\c.head=h)(q:∀(j:Nat) (c:MT),j<i->ts[j]?=some c->¬(c.func=fi/\c.head=h)):C7 ts fi h=some c:=by
 unfold C7;rw[List.find?_eq_some_iff_getElem];obtain⟨hlt,he⟩:=aD.1 hi;refine⟨by simp[hc],i,hlt,he,fun j hj=> ?_⟩;have:=q j _ hj (aA (by omega));by_cases h1:ts[j].func=fi
 . simp only[h1,bU]at this
   simp[this]
 . simp[h1]
def Gj(bs:List MB)(l:List Int)(a:Int):Prop:=∃z∈l,∃m,bs[z.toNat]?=some m/\m.first<=a/\a<=m.last
def LO(xs:List MI)(k a:Int):Prop:=∃x,xs[a.toNat]?=some x/\(x.op=3\/x.op=27)/\x.a=k
def Fy(xs:List MI)(m:MB):Int:=match xs[m.last.toNat]? with|some x=>if x.op=25 then m.last-1 else m.last|none=>m.last
def CF(ks:List MC)(xs:List MI)(m:MB)(c:MT):Prop:=m.first<=Fy xs m-1/\∃x y v,xs[(Fy xs m-1).toNat]?=some x/\xs[(Fy xs m).toNat]?=some y/\x.op=1/\y.op=3/\y.a=c.counter/\ks[x.a.toNat]?=some v/\v.type=3/\v.word=c.init
def Jj(ks:List MC)(xs:List MI)(bs:List MB)(l:ML)(c:MT):Prop:=∃(b:Nat) (m:MB),bs[b]?=some m/\l.head∈m.next/\¬((b:Int)∈l.blocks)/\¬CF ks xs m c
def Cf (p:MP)(fi:Int)(xs:List MI)(bs:List MB)(l:ML)(n:Int):Prop:=∃hb,bs[l.head.toNat]?=some hb/\
 ((C7 p.certs fi hb.first=none/\n=1)\/∃c g,C7 p.certs fi hb.first=some c/\xs[hb.first.toNat]?=some g/\
   ((¬ (g.op=27/\g.a=c.counter)/\n=2)\/((g.op=27/\g.a=c.counter)/\
     ((Gj bs l.blocks g.c/\n=3)\/(¬Gj bs l.blocks g.c/\
       (((∃a,Gj bs l.blocks a/\a≠hb.first/\LO xs c.counter a)/\n=4)\/((¬∃a,Gj bs l.blocks a/\a≠hb.first/\LO xs c.counter a)/\
         (((l.head=0\/Jj p.consts xs bs l c)/\n=5)\/(¬(l.head=0\/Jj p.consts xs bs l c)/\n=0)))))))))
structure Ep(E:Nat->List Nat)(ok:Nat->Prop)(f n:Nat)(L:List Nat):Prop where
 nodup:L.Nodup
 lt:∀x∈L,x<n
 reach:∀x∈L,CX E ok f x
 start:f∈L
theorem Ep.len{E:Nat->List Nat}{ok:Nat->Prop}{f n:Nat}{L:List Nat}(h:Ep E ok f n L):L.length<=n:=by
 have:=Ey L n h.lt h.nodup;omega
theorem Ep.add{E:Nat->List Nat}{ok:Nat->Prop}{f n:Nat}{L:List Nat}(h:Ep E ok f n L){b y:Nat}(hb:b∈L)(hy:y∈E b)(ho:ok y)(hn:y<n)(hL:y∉L):Ep E ok f n (L++[y]):=by
 refine⟨dn.2 ⟨h.nodup,by simp,fun a ha c hc e=> ?_⟩,fun x hx=> ?_,fun x hx=> ?_,aS.2 (.inl h.start)⟩
 . simp only[aX,bB,cW]at hc
   subst hc e;exact hL ha
 . rcases aS.1 hx with hx|hx
   . exact h.lt x hx
   . simp only[aX,bB,cW]at hx
     subst hx;exact hn
 . rcases aS.1 hx with hx|hx
   . exact h.reach x hx
   . simp only[aX,bB,cW]at hx
     subst hx;exact .step (h.reach b hb) hy ho
def CK(E:Nat->List Nat)(ok:Nat->Prop)(L:List Nat)(i:Nat):Prop:=∀j x,L[j]?=some x->j<i->∀y∈E x,ok y->y∈L
def Ec(E:Nat->List Nat)(ok:Nat->Prop)(L:List Nat)(b k:Nat):Prop:=∀y∈(E b).take k,ok y->y∈L
theorem CK.app{E:Nat->List Nat}{ok:Nat->Prop}{L:List Nat}{i:Nat}(h:CK E ok L i)(hi:i<=L.length)(y:Nat):CK E ok (L++[y]) i:=fun j x hj hl z hz ho=>by
 rw[bW (by omega)]at hj;exact aS.2 (.inl (h j x hj hl z hz ho))
theorem Ec.next{E:Nat->List Nat}{ok:Nat->Prop}{L L':List Nat}{b k y:Nat}(h:Ec E ok L b k)(hs:∀x∈L,x∈L')(hy:(E b)[k]?=some y)(hL:ok y->y∈L'):Ec E ok L' b (k+1):=fun z hz ho=>by
 obtain⟨hlt,rfl⟩:=aD.1 hy;rw[a6 hlt]at hz;rcases aS.1 hz with hz|hz
 . exact hs z (h z hz ho)
 . simp only[aX,bB,cW]at hz
   subst hz;exact hL ho
theorem CK.next{E:Nat->List Nat}{ok:Nat->Prop}{L:List Nat}{i b:Nat}(h:CK E ok L i)(hb:L[i]?=some b)(ht:Ec E ok L b (E b).length):CK E ok L (i+1):=fun j x hj hl y hy ho=>by
 by_cases e:j=i
 . subst e
   rw[hb]at hj;cases hj
   exact ht y (by rw[bZ lR];exact hy) ho
 . exact h j x hj (by omega) y hy ho
theorem Ep.iff{E:Nat->List Nat}{ok:Nat->Prop}{f n:Nat}{L:List Nat}(h:Ep E ok f n L)(hc:CK E ok L L.length)(x:Nat):x∈L↔CX E ok f x:=by
 refine⟨h.reach x,fun hr=> ?_⟩;induction hr with
 |here _=>exact h.start
 | step _ h2 h3 ih=>
   obtain⟨j,hj⟩:=cH ih;exact hc j _ hj (aD.1 hj).1 _ h2 h3
structure SN(w u:World)(n gs:Nat)(V:Value)(P:Nat->Bool)(L:List Nat):Prop where
 seen:Eo u w.heap.size gs n P
 list:EM u w.heap.size V L
 bel:Below w.heap.size w u
theorem SN.mark{w u:World}{n gs:Nat}{V:Value}{P Q:Nat->Bool}{L:List Nat}(h:SN w u n gs V P L)(i:Nat)(b:Bool)(hQ:∀j,j<n->Q j=if j=i then b else P j):SN w (u.setCell ⟨gs,i,none⟩ (.bool b)) n gs V Q L:=⟨h.seen.set i b hQ,Bz h.list h.seen (by decide) i _,h.bel.setCell (At h.seen).1 _⟩
theorem SN.al{w u:World}{n gs:Nat}{V:Value}{P:Nat->Bool}{L:List Nat}(h:SN w u n gs V P L)(o:Obj):(u.alloc o).ownsRow w.heap.size 2 1 V L.length (nv L)/\w.heap.size<=(u.alloc o).heap.size:=⟨h.list.keep (Aa _ _),aY h.bel.size (Aa _ _).size⟩
theorem SN.app{w u u':World}{n gs:Nat}{V V':Value}{P:Nat->Bool}{L:List Nat}{y:Nat}(h:SN w u n gs V P L)(hown:u'.ownsRow w.heap.size 2 1 V' (L.length+1) (nv L++[iZ (y:Int)]))(hg:(u.alloc (.cells #[iZ (y:Int)] 2)).grownBy u' V.ownBlock):SN w u' n gs V' P (L++[y]):=by
 have bA:=Aa u (.cells #[iZ (y:Int)] 2);have o1:=h.list.keep bA;refine⟨BP (h.seen.keep bA) hg o1 (by decide),?_,(Af h.bel lR bA).grown hg (aY h.bel.size bA.size) (fun i hi=>(h.list.lt i hi).1)⟩;unfold EM;rw[aG,aP,En];exact hown
theorem KF(L:List Nat)(y:Nat)(n:Nat):∀j,j<n->(L++[y]).contains j=if j=y then true else L.contains j:=fun j _=>by
 by_cases e:j=y
 . subst e;simp
 . simp[e]
theorem Mp (g o c n f:Nat)(z:Int)(E:Nat->List Nat)(w:World)(hn:n<=1048576)(hE:∀b,b<n->∀x∈E b,x<n)(hsz:∀b,(E b).length<=2)(hf:f<n)(h:Ft w g o n E):
 Calls Tryz.prog 39 #[sO g o n c,iZ (f:Int),iZ z] w fun e w'=>∃gs P,e=.returned (sG gs n n)/\Eo w' w.heap.size gs n P/\(∀x,x<n->(P x=true↔CX E (fun y=>(y:Int)≠z) f x))/\Below w.heap.size w w':=by
 obtain⟨j0,hj,hy0,hy1,hy2⟩:=bH C5;obtain⟨k0,hk,hx0,hx1,hx2⟩:=bH Bf;have H:Hid (Ft w g o n E/\(∀b,b<n->∀x∈E b,x<n)/\(∀b,(E b).length<=2)):=⟨h,hE,hsz⟩
 clear h hE hsz;go_enter Tryz.func39,Tryz.ntmps39;by_cases q:(f:Int)=z
 . subst q
   go_wp2_with (at_make;refine cR _ rfl _ _ 53 rfl w.heap.size 4 j0 (.bool false) 1 Tryz.underlying53 hj hy0 hy1 .i64 .i64 _ _ n rfl rfl rfl rfl (by rw[hy2];omega) (by unfold maxLen;omega) lR ?_;intro w3 hown hgrow;rw[CR,Fb]at hown)
   go_ret
   refine⟨_,_,rfl,hown,fun x hx=>⟨fun q=>by simp at q,fun q=>absurd rfl q.ok0⟩,(bY _ _).grown hgrow lR (fun k hk=>by cases hk)⟩
 . have q' : ((f:Int)==z)=false:=by simpa using q
   have hfz:(f:Int)<(n:Int):=by omega
   go_wp2_with (at_make;refine cR _ rfl _ _ 53 rfl w.heap.size 4 j0 (.bool false) 1 Tryz.underlying53 hj hy0 hy1 .i64 .i64 _ _ n rfl rfl rfl rfl (by rw[hy2];omega) (by unfold maxLen;omega) lR ?_;intro w3 hown hgrow;rw[CR,Fb]at hown;have z0:=bz hown f;have d0:w3.cell? ⟨w.heap.size,f,none⟩=some (.bool false):=Eo.cell hown (by omega))
   have HS:Hid (SN w ((w3.setCell ⟨w.heap.size,f,none⟩ (.bool true)).alloc (.cells #[iZ (f:Int)] 2)) n w.heap.size (sG w3.heap.size 1 1) (fun x=>[f].contains x) [f]):=by
    have hb3:Below w.heap.size w w3:=(bY _ _).grown hgrow lR (fun k hk=>by cases hk)
    have k1:Eo (w3.setCell ⟨w.heap.size,f,none⟩ (.bool true)) w.heap.size w.heap.size n (fun x=>[f].contains x):=Eo.set (P:=fun _=>false) hown f true fun j hj=>by
     by_cases e:j=f
     . subst e;simp
     . simp[e]
    have b1:Below w.heap.size w (w3.setCell ⟨w.heap.size,f,none⟩ (.bool true)):=hb3.setCell lR _;have hz4:(w3.setCell ⟨w.heap.size,f,none⟩ (.bool true)).heap.size=w3.heap.size:=bX ..;rw[<-hz4];generalize w3.setCell ⟨w.heap.size,f,none⟩ (.bool true)=W4 at k1 b1⊢;exact⟨k1.keep (Aa _ _),AP (ce W4 #[iZ (f:Int)] 1 lR (by unfold maxLen;omega) (by simp)) b1.size,Af b1 lR (Aa _ _)⟩
   clear hown hgrow z0 d0;have HB0:Hid (Ep E (fun y=>(y:Int)≠z) f n [f]):=⟨by simp,fun x hx=>by simp at hx;omega,fun x hx=>by simp at hx;subst hx;exact .here q,by simp⟩;go_loopw [8,9] (fun V i wr=>∃(L:List Nat) (k gl cl:Nat),V=sG gl L.length cl/\i=iZ k/\k<=L.length/\L.length<=n/\Hid (SN w wr n w.heap.size V (fun x=>L.contains x) L/\Ep E (fun y=>(y:Int)≠z) f n L/\CK E (fun y=>(y:Int)≠z) L k)) (fun _ i _=>n-(intOf i).toNat)
   case atStart=>exact⟨[f],0,_,_,rfl,rfl,by simp,HB0.o.len,HS.o,HB0.o,fun j x hj hl=>by omega⟩
   case round=>
    clear HS HB0;obtain⟨L,k,gl,cl,rfl,rfl,hkL,hLn,HL⟩:=hrel;by_cases hlt:k<L.length
    . have hltI:(k:Int)<(L.length:Int):=by omega
      obtain⟨b,hb⟩:∃b,L[k]?=some b:=⟨_,aA hlt⟩;have hbn:b<n:=HL.o.2.1.lt b (aE hb);have hbnI:(b:Int)<(n:Int):=by omega
      have HBB:=Ah hb;obtain⟨_,_,ee,_,l0⟩:=HL.o.1.list.rd.at_ hb;simp only[aJ,bf,cg]at ee;obtain⟨rfl,rfl⟩:=ee;rw[bG]at l0;obtain⟨a,ca,g0,g1⟩:=H.o.1 b hbn;have HR:=Ah g1;replace g0:=Ac HL.o.1.bel g0
      have hE2:=H.o.2.2 b;clear g1 hb;go_wp2
      go_loopw [8,11] (fun V i wr=>∃(L:List Nat) (m gl cl:Nat),V=sG gl L.length cl/\i=iZ m/\m<=(E b).length/\k<L.length/\L.length<=n/\Hid (SN w wr n w.heap.size V (fun x=>L.contains x) L/\Ep E (fun y=>(y:Int)≠z) f n L/\CK E (fun y=>(y:Int)≠z) L k/\L[k]?=some b/\Ec E (fun y=>(y:Int)≠z) L b m)) (fun _ i _=>2-(intOf i).toNat)
      case atStart=>exact⟨L,0,gl,cl,rfl,rfl,by omega,hlt,hLn,HL.o.1,HL.o.2.1,HL.o.2.2,HBB.o,fun y hy=>by simp at hy⟩
      case round=>
       clear l0 g0 HL HBB hlt hltI hkL hLn;obtain⟨L,m,gl,cl,rfl,rfl,hm,hkl,hLn,HL⟩:=hrel;by_cases hlt:m<(E b).length
       . have hltI:(m:Int)<((E b).length:Int):=by omega
         obtain⟨y,hy⟩:∃y,(E b)[m]?=some y:=⟨_,aA hlt⟩;have hyn:y<n:=H.o.2.1 b hbn y (aE hy);have hynI:(y:Int)<(n:Int):=by omega
         have HY:=Ah hy;obtain⟨ga,oa,rfl,_,y0⟩:=HR.o.at_ hy;have HY0:=Ah y0;replace y0:=Ac HL.o.1.bel y0
         have s0:=HL.o.1.seen.cell hyn;clear hy;by_cases qz:(y:Int)=z
         . subst qz
           have HN:=Ah (HL.o.2.2.2.2.next (fun x hx=>hx) HY.o (fun q=>absurd rfl q));go_wp2
           go_roundw
           case rel=>exact⟨L,m+1,gl,cl,rfl,by go_num,by omega,hkl,hLn,HL.o.1,HL.o.2.1,HL.o.2.2.1,HL.o.2.2.2.1,HN.o⟩
           case measure=>simp[intOf];omega
         . have qz':((y:Int)==z)=false:=by simpa using qz
           have qz2:((y:Int) != z)=true:=by simpa using qz
           cases hc:L.contains y
           . simp only[hc]at s0
             have z0:=HL.o.1.seen.frozen y;have hyL:y∉L:=by simpa using hc
             have HSM:=Ah (HL.o.1.mark y true (KF L y n));have HBN:=Ah (HL.o.2.1.add (aE HL.o.2.2.2.1) (aE HY.o) qz hyn hyL);have hLn2:=HBN.o.len;rw[aG,aP]at hLn2;have HN:Hid (Ec E (fun x=>(x:Int)≠z) (L++[y]) b (m+1)):=HL.o.2.2.2.2.next (fun x hx=>aS.2 (.inl hx)) HY.o (fun _=>by simp);go_upto_region 15 with fail
             refine Al (fun u=>Hid (SN w u n w.heap.size (sG gl L.length cl) (fun x=>(L++[y]).contains x) L)) HSM ?_;intro U HU;clear HSM s0 z0 y0;have y1:=Ac HU.o.bel HY0.o;go_wp2_with (at_builtin;refine wpList_append_lies _ rfl _ _ 26 rfl w.heap.size 2 k0 (iZ 0) 1 8 Tryz.underlying26 hk hx0 hx1 hx2 rfl (by decide) _ L.length (nv L) rfl (HU.o.al (.cells #[iZ (y:Int)] 2)).1 ⟨U.heap.size,0,none⟩ 1 1 [iZ (y:Int)] rfl rfl (Bg U (y:Int)) (fun u hu=>by simp at hu;subst hu;rfl) (by omega) (by simp[maxLen];omega) (by omega) (HU.o.al (.cells #[iZ (y:Int)] 2)).2 _ rfl ?_;intro g5 cap5 w5 hown hgrow hat hlt3;have HU5:Hid (SN w w5 n w.heap.size (sG g5 (L.length+1) cap5) (fun x=>(L++[y]).contains x) (L++[y])):=HU.o.app hown hgrow;clear hown hgrow hat hlt3);go_roundw
             case rel=>exact⟨L++[y],m+1,g5,cap5,by rw[aG,aP],by go_num,by omega,by rw[aG];omega,by rw[aG,aP];exact hLn2,HU5.o,HBN.o,HL.o.2.2.1.app (by omega) y,by rw[bW hkl];exact HL.o.2.2.2.1,HN.o⟩
             case measure=>simp[intOf];omega
           . simp only[hc]at s0
             have HN:=Ah (HL.o.2.2.2.2.next (fun x hx=>hx) HY.o (fun q=>by simpa using hc));go_wp2
             go_roundw
             case rel=>exact⟨L,m+1,gl,cl,rfl,by go_num,by omega,hkl,hLn,HL.o.1,HL.o.2.1,HL.o.2.2.1,HL.o.2.2.2.1,HN.o⟩
             case measure=>simp[intOf];omega
       . obtain rfl:m=(E b).length:=by omega
         have HN:=Ah (HL.o.2.2.1.next HL.o.2.2.2.1 HL.o.2.2.2.2);go_wp2
         go_roundw
         case rel=>exact⟨L,k+1,gl,cl,rfl,by go_num,by omega,hLn,HL.o.1,HL.o.2.1,HN.o⟩
         case measure=>simp[intOf];omega
    . obtain rfl:k=L.length:=by omega
      have HE:Hid (∀x,x<n->(L.contains x=true↔CX E (fun y=>(y:Int)≠z) f x)):=fun x hx=>by
       rw[<-HL.o.2.1.iff HL.o.2.2 x];simp
      go_wp2
      go_ret
      exact⟨_,_,rfl,HL.o.1.seen,HE.o,HL.o.1.bel⟩
structure GI(w:World)(G n gp cp gi ci:Nat)(pl:Nat->Nat)(I:Nat->Int):Prop where
 p:w.cell? ⟨G,3,none⟩=some (sG gp n cp)
 i:w.cell? ⟨G,4,none⟩=some (sG gi n ci)
 pc:∀x,x<n->w.cell? ⟨gp,x,none⟩=some (iZ (pl x:Int))
 ic:∀x,x<n->w.cell? ⟨gi,x,none⟩=some (iZ (I x))
theorem GI.keep{w w':World}{G n gp cp gi ci:Nat}{pl:Nat->Nat}{I:Nat->Int}(h:GI w G n gp cp gi ci pl I)(hb:Below w.heap.size w w'):GI w' G n gp cp gi ci pl I:=⟨Ac hb h.p,Ac hb h.i,fun x hx=>Ac hb (h.pc x hx),fun x hx=>Ac hb (h.ic x hx)⟩
theorem Lm(G n gp cp gi ci a b:Nat)(pl:Nat->Nat)(I:Nat->Int)(w:World)(hn:n<=1024)(ht:Kq n pl I)(hz:pl 0=0)(hinj:∀a b,a<n->b<n->pl a=pl b->a=b)(ha:a<n)(hb:b<n)(ka:Kn I a)(kb:Kn I b)(h:GI w G n gp cp gi ci pl I):
 Calls Tryz.prog 36 #[.pointer (some ⟨G,0,none⟩),iZ (a:Int),iZ (b:Int)] w fun e w'=>∃m:Nat,e=.returned (iZ (m:Int))/\m<n/\Kn I m/\Cl I a b m/\Below w.heap.size w w':=by
 have H:Hid (GI w G n gp cp gi ci pl I/\Kq n pl I/\pl 0=0/\(∀a b,a<n->b<n->pl a=pl b->a=b)):=⟨h,ht,hz,hinj⟩
 have K0:Hid (Kn I a/\Kn I b):=⟨ka,kb⟩
 clear h ht hz hinj ka kb;go_enter Tryz.func36,Tryz.ntmps36;go_wp2
 go_loopw [1,2] (fun v u wr=>∃x y:Nat,x<n/\y<n/\v=iZ (x:Int)/\u=iZ (y:Int)/\Hid (Kn I x/\Kn I y/\(∀m,Cl I x y m->Cl I a b m)/\Below w.heap.size w wr)) (fun v u _=>pl (intOf v).toNat+pl (intOf u).toNat)
 case atStart=>exact⟨a,b,ha,hb,rfl,rfl,K0.o.1,K0.o.2,fun m h=>h,bY _ _⟩
 case round=>
  obtain⟨x,y,hx,hy,rfl,rfl,HL⟩:=hrel;by_cases e:x=y
  . subst e
    go_wp2
    go_ret
    exact⟨x,rfl,hx,HL.o.1,HL.o.2.2.1 x (Cl.same I x),HL.o.2.2.2⟩
  . have eI:¬(x:Int)=(y:Int):=by omega
    have eB:((x:Int)==(y:Int))=false:=by simpa using eI
    have eN:((x:Int) != (y:Int))=true:=by simpa using eI
    have hg:=H.o.1.keep HL.o.2.2.2;have p0:=hg.p;have i0:=hg.i;have px:=hg.pc x hx;have py:=hg.pc y hy;have ix:=hg.ic x hx;have iy:=hg.ic y hy;clear hg;have hxI:(x:Int)<(n:Int):=by omega
    have hyI:(y:Int)<(n:Int):=by omega
    by_cases hp:pl y<pl x
    . have hpI:(pl y:Int)<(pl x:Int):=by omega
      have hx0:x≠0:=fun q=>by have:=H.o.2.2.1;rw[q]at hp;omega
      obtain⟨c,c1,c2,c3,c4⟩:=H.o.2.1.up x hx hx0 (HL.o.1.resolve_left hx0);rw[c1]at ix;have HN:Hid (Kn I c/\Kn I y/\(∀m,Cl I c y m->Cl I a b m)/\Below w.heap.size w wr/\pl c<pl x):=⟨c4,HL.o.2.1,fun m hm=>HL.o.2.2.1 m (Cl.left H.o.2.1 hy hp hx0 c1 hm),HL.o.2.2.2,c3⟩
      clear c1 c4;go_wp2
      go_quiet (fail)
      refine AE (fun u=>Hid (Below wr.heap.size wr u)) (Am _ _ _) ?_;intro U HU;replace p0:=Ac HU.o p0
      replace i0:=Ac HU.o i0
      replace ix:=Ac HU.o ix
      clear px py iy;go_wp2
      go_roundw
      case rel=>exact⟨c,y,c2,hy,rfl,rfl,HN.o.1,HN.o.2.1,HN.o.2.2.1,Af HN.o.2.2.2.1 lR HU.o⟩
      case measure=>simp[intOf];have:=HN.o.2.2.2.2;omega
    . have hpI:¬(pl y:Int)<(pl x:Int):=by omega
      have hp2:pl x<pl y:=by
       have:=H.o.2.2.2 x y hx hy;omega
      have hy0:y≠0:=fun q=>by have:=H.o.2.2.1;rw[q]at hp2;omega
      obtain⟨c,c1,c2,c3,c4⟩:=H.o.2.1.up y hy hy0 (HL.o.2.1.resolve_left hy0);rw[c1]at iy;have HN:Hid (Kn I x/\Kn I c/\(∀m,Cl I x c m->Cl I a b m)/\Below w.heap.size w wr/\pl c<pl y):=⟨HL.o.1,c4,fun m hm=>HL.o.2.2.1 m (Cl.symm (Cl.left H.o.2.1 hx hp2 hy0 c1 hm.symm)),HL.o.2.2.2,c3⟩
      clear c1 c4;go_wp2
      go_quiet (fail)
      refine AE (fun u=>Hid (Below wr.heap.size wr u)) (Am _ _ _) ?_;intro U HU;replace p0:=Ac HU.o p0
      replace i0:=Ac HU.o i0
      replace iy:=Ac HU.o iy
      clear px py ix;go_wp2
      go_roundw
      case rel=>exact⟨x,c,hx,c2,rfl,rfl,HN.o.1,HN.o.2.1,HN.o.2.2.1,Af HN.o.2.2.2.1 lR HU.o⟩
      case measure=>simp[intOf];have:=HN.o.2.2.2.2;omega
theorem AY.skip{n:Nat}{I:Nat->Int}{ps:List Nat}{z:Int}{p:Nat}(h:AY n I ps z)(hp:¬Kn I p):AY n I (ps++[p]) z:=by
 have hm:∀q,q∈ps++[p]->q∈ps\/q=p:=fun q hq=>by simpa using hq
 rcases h with⟨h1,h2⟩|⟨m,h1,h2,h3,⟨q,h4,h4'⟩,h5⟩
 . exact .inl ⟨h1,fun q hq=>(hm q hq).elim (h2 q) (fun e=>by rw[e];exact hp)⟩
 . refine .inr ⟨m,h1,h2,h3,⟨q,aS.2 (.inl h4),h4'⟩,fun d=> ?_⟩
   rw[h5 d];exact⟨fun k q hq hk=>(hm q hq).elim (fun r=>k q r hk) (fun e=>absurd (e▸hk) hp),fun k q hq hk=>k q (aS.2 (.inl hq)) hk⟩
theorem AY.first{n:Nat}{I:Nat->Int}{ps:List Nat}{p:Nat}(h:AY n I ps (-1))(hp:Kn I p)(hn:p<n):AY n I (ps++[p]) (p:Int):=by
 have hm:∀q,q∈ps++[p]->q∈ps\/q=p:=fun q hq=>by simpa using hq
 rcases h with⟨h1,h2⟩|⟨m,h1,_⟩
 . refine .inr ⟨p,rfl,hn,hp,⟨p,by simp,hp⟩,fun d=>⟨fun k q hq hk=>(hm q hq).elim (fun r=>absurd hk (h2 q r)) (fun e=>e▸k),fun k=>k p (by simp) hp⟩⟩
 . omega
theorem AY.meet{n:Nat}{I:Nat->Int}{ps:List Nat}{p m m':Nat}(h:AY n I ps (m:Int))(hp:Kn I p)(hm':m'<n)(hk':Kn I m')(hM:Cl I m p m'):AY n I (ps++[p]) (m':Int):=by
 have hm:∀q,q∈ps++[p]->q∈ps\/q=p:=fun q hq=>by simpa using hq
 rcases h with⟨h1,_⟩|⟨m0,h1,h2,h3,⟨q,h4,h4'⟩,h5⟩
 . omega
 . obtain rfl:m=m0:=by omega
   refine .inr ⟨m',rfl,hm',hk',⟨q,aS.2 (.inl h4),h4'⟩,fun d=> ?_⟩;rw[hM d,h5 d];exact⟨fun k q hq hk=>(hm q hq).elim (fun r=>k.1 q r hk) (fun e=>e▸k.2),fun k=>⟨fun q hq hk=>k q (aS.2 (.inl hq)) hk,k p (by simp) hp⟩⟩
theorem AY.some{n:Nat}{I:Nat->Int}{ps:List Nat}{z:Int}(h:AY n I ps z)(hz:z≠ -1):∃m:Nat,z=(m:Int)/\m<n/\Kn I m:=by
 rcases h with⟨h1,_⟩|⟨m,h1,h2,h3,_⟩
 . exact absurd h1 hz
 . exact⟨m,h1,h2,h3⟩
theorem JQ(G n gp cp gi ci:Nat)(pl:Nat->Nat)(I:Nat->Int)(s:Value)(ps:List Nat)(w:World)(hn:n<=1024)(ht:Kq n pl I)(hz:pl 0=0)(hinj:∀a b,a<n->b<n->pl a=pl b->a=b)(hps:∀p∈ps,p<n)(hpl:ps.length<=4096)(hs:Gk w s ps)(h:GI w G n gp cp gi ci pl I):
 Calls Tryz.prog 35 #[.pointer (some ⟨G,0,none⟩),s] w fun e w'=>∃z,e=.returned (iZ z)/\AY n I ps z/\Below w.heap.size w w':=by
 have H:Hid (GI w G n gp cp gi ci pl I/\Gk w s ps/\(∀p∈ps,p<n)):=⟨h,hs,hps⟩
 obtain⟨a1,c1,rfl⟩:=Rd.is_slice hs;have HT:Hid (∀(a b:Nat) (U:World),a<n->b<n->Kn I a->Kn I b->GI U G n gp cp gi ci pl I->Calls Tryz.prog 36 #[.pointer (some ⟨G,0,none⟩),iZ (a:Int),iZ (b:Int)] U fun e w'=>∃m:Nat,e=.returned (iZ (m:Int))/\m<n/\Kn I m/\Cl I a b m/\Below U.heap.size U w'):=fun a b U ha hb ka kb hU=>Lm G n gp cp gi ci a b pl I U hn ht hz hinj ha hb ka kb hU
 clear h hs hps ht hz hinj;go_enter Tryz.func35,Tryz.ntmps35;go_wp2
 go_loopw [5,11] (fun v i wr=>∃(k:Nat) (z:Int),k<=ps.length/\v=iZ z/\i=iZ k/\Hid (AY n I (ps.take k) z/\Below w.heap.size w wr)) (fun _ i _=>ps.length-(intOf i).toNat)
 case atStart=>exact⟨0,-1,by omega,rfl,rfl,.inl ⟨rfl,fun p hp=>by simp at hp⟩,bY _ _⟩
 case round=>
  obtain⟨k,z,hk,rfl,rfl,HL⟩:=hrel;by_cases hlt:k<ps.length
  . have hltI:(k:Int)<(ps.length:Int):=by omega
    obtain⟨p,hp⟩:∃p,ps[k]?=some p:=⟨_,aA hlt⟩;have hpn:p<n:=H.o.2.2 p (aE hp);have hpnI:(p:Int)<(n:Int):=by omega
    have HTK:Hid (ps.take (k+1)=ps.take k++[p]):=by
     obtain⟨hl,rfl⟩:=aD.1 hp;exact a6 hl
    obtain⟨ga,oa,rfl,_,y0⟩:=H.o.2.1.at_ hp;replace y0:=Ac HL.o.2 y0
    have hg:=H.o.1.keep HL.o.2;have i0:=hg.i;have ip:=hg.ic p hpn;clear hp hg;by_cases hkn:Kn I p
    . have HKB:Hid (Kn I p):=hkn
      go_upto_region 5 with fail
      go_cut [8]from 15 to 26 (fun c wx=>c=.bool true/\wx=wr)
      case first=>
       by_cases hp0:p=0
       . subst hp0
         go_wp2
         go_meet
         case rel=>exact⟨rfl,rfl⟩
       . have hp0B:((p:Int)==0)=false:=by simp;omega
         have hpi:=HKB.o.resolve_left hp0;have hpiB:(I p== -1)=false:=by simpa using hpi
         have hpiN:(I p != -1)=true:=by simpa using hpi
         go_wp2
         go_meet
         case rel=>exact⟨rfl,rfl⟩
      case rest=>
       obtain⟨rfl,hwc⟩:=hcut;rw[hwc];clear hwc y0 i0 ip;by_cases hz1:z=-1
       . subst hz1
         have HN:Hid (AY n I (ps.take (k+1)) (p:Int)):=by
          show AY _ _ _ _;rw[HTK.o];exact HL.o.1.first HKB.o hpn
         go_wp2
         go_roundw
         case rel=>exact⟨k+1,_,by omega,rfl,by go_num,HN.o,HL.o.2⟩
         case measure=>simp[intOf];omega
       . have hzB:(z== -1)=false:=by simpa using hz1
         obtain⟨m,rfl,hm,hkm⟩:=HL.o.1.some hz1;go_wp2_with fail
         refine(HT.o m p wr hm hpn hkm HKB.o (H.o.1.keep HL.o.2)).mono ?_;rintro e u1 ⟨m',rfl,h1,h2,h3,b1⟩
         have HN:Hid (AY n I (ps.take (k+1)) (m':Int)/\Below w.heap.size w u1):=by
          refine⟨?_,Af HL.o.2 lR b1⟩;rw[HTK.o];exact HL.o.1.meet HKB.o h1 h2 h3
         clear h2 h3 b1;go_wp2
         go_roundw
         case rel=>exact⟨k+1,_,by omega,rfl,by go_num,HN.o⟩
         case measure=>simp[intOf];omega
    . have hp0:¬p=0:=fun q=>hkn (.inl q)
      have hpi:I p=-1:=de fun q=>hkn (.inr q)
      have hp0B:((p:Int)==0)=false:=by simp;omega
      rw[hpi]at ip
      have HN:Hid (AY n I (ps.take (k+1)) z):=by
       show AY _ _ _ _;rw[HTK.o];exact HL.o.1.skip hkn
      go_wp2
      go_roundw
      case rel=>exact⟨k+1,z,by omega,by trivial,by go_num,HN.o,HL.o.2⟩
      case measure=>simp[intOf];omega
  . obtain rfl:k=ps.length:=by omega
    have HN:Hid (AY n I ps z):=by
     have:=HL.o.1;rw[bZ lR]at this;exact this
    go_wp2
    go_ret
    exact⟨z,rfl,HN.o,HL.o.2⟩
end Go.Proofs.YtjpobijiblcgaaaGreat
