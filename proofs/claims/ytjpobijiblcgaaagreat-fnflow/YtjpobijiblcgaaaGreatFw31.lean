import Derived.Test.YtjpobijiblcgaaaGreatFw0
import Derived.Test.YtjpobijiblcgaaaGreatFw28
import Derived.Test.YtjpobijiblcgaaaGreatFw5
import Derived.Test.YtjpobijiblcgaaaGreatFw4
import Derived.Test.YtjpobijiblcgaaaGreatFw27
import Derived.Test.YtjpobijiblcgaaaGreatFw26
import Derived.Deep.RegionHeld
import Derived.Test.YtjpobijiblcgaaaGreatFw7
import Derived.Test.YtjpobijiblcgaaaGreatFw6
namespace Go.Proofs.YtjpobijiblcgaaaGreat
open Go.ChangeShapes Go.WideShapes Go.ChangeAt Go.RowKit
set_option linter.unusedVariables false
set_option maxHeartbeats 4000000
set_option maxRecDepth 100000
theorem Bl{z:Int}(h0:-9223372036854775808<=z:=by omega)(h1:z<=9223372036854775807:=by omega):BN z:=by simp[BN,Lit.wf,IntKind.min,IntKind.max,IntKind.signed,IntKind.bits];omega
def Q7(s:Cv)(p m:Int)(k:Nat)(u:World)(e:Ending)(u':World):Prop:=∃(a:Option Addr) (c:Nat) (xs:List Int),e=.returned (.slice a xs.length c)/\u'.ownsRow u.heap.size 2 1 (.slice a xs.length c) xs.length (xs.flatMap Ab)/\xs.length<=k/\(∀z∈xs,BN z)/\Dr s p m u u'
theorem Em(u:World)(s:Cv)(p:Int)(hs:CU u s.S s.a s.len s.cap p)(hp:p+10<=1000000000000):
 Calls Tryz.prog 52 #[.pointer (some ⟨s.S,0,none⟩)] u (Q7 s p 10 15 u):=by
 obtain⟨i64,hi,hz0,hz1,hz2⟩:=bH Bf;have HU:Hid (s.S<u.heap.size):=hs.lt;have E0:Hid ((u.alloc (.cells #[] 2)).ownsRow u.heap.size 2 1 (.slice (some ⟨u.heap.size,0,none⟩) 0 0) 0 []/\CU (u.alloc (.cells #[] 2)) s.S s.a s.len s.cap p/\AC s.S u (u.alloc (.cells #[] 2))):=⟨⟨rfl,.inr ⟨u.heap.size,0,#[],rfl,Nat.le_refl _,dT _ _,Nat.le_refl _,dP _,rfl,by simp⟩⟩,hs.alloc _,.alloc _ _ _⟩
 have hp0:=hs.low;clear hs;go_enter Tryz.func52,Tryz.ntmps52;go_wp2_with fail
 refine(Ai E0.o.2.1).mono ?_;rintro e u1 ⟨r1,h1a,h1b,rfl,hs,hd⟩;have E1:Hid (∃(a:Option Addr) (c:Nat) (xs:List Int),(.slice (some ⟨u.heap.size,0,none⟩) 0 0)=Value.slice a xs.length c/\xs.length<=0/\u1.ownsRow u.heap.size 2 1 (.slice a xs.length c) xs.length (xs.flatMap Ab)/\(∀z∈xs,BN z)/\CU u1 s.S s.a s.len s.cap (p+1)/\AC s.S u u1):=⟨_,_,[],rfl,by simp,AW E0.o.1 hd.grow (fun b hb e=>by have:=(E0.o.1.lt b hb).1;have:=HU.o;simp only[aJ]at e;omega),(fun z hz=>by cases hz),hs,E0.o.2.2.trans hd⟩
 clear hs hd E0;go_wp2_with fail
 go_loopw [3,4,5,6] (fun V i _ _ wr=>∃(j:Nat) (a:Option Addr) (c:Nat) (xs:List Int) (p':Int),V=.slice a xs.length c/\i=.int .i64 (j:Int)/\j<=3/\xs.length<=5*(3-j)/\p<=p'/\p'<=p+1+2*(3-(j:Int))/\Hid (wr.ownsRow u.heap.size 2 1 (.slice a xs.length c) xs.length (xs.flatMap Ab)/\(∀z∈xs,BN z)/\CU wr s.S s.a s.len s.cap p'/\AC s.S u wr)) (fun _ i _ _ _=>(intOf i).toNat)
 case atStart=>
  obtain⟨a,c,xs,e1,e2,e3,e4,e5,e6⟩:=E1.o;exact⟨r1.toNat,a,c,xs,p+1,e1,by show _=_;congr 1;omega,by omega,by omega,by omega,by omega,e3,e4,e5,e6⟩
 case round=>
  clear E1;obtain⟨j,a,c,xs,p2,rfl,rfl,hj,hxl,g1,g2,E2⟩:=hrel;by_cases hj0:j=0
  case pos=>
   subst hj0;go_wp2_with fail
   go_ret
   exact⟨a,c,xs,rfl,E2.o.1,by omega,E2.o.2.1,p2,by omega,by omega,E2.o.2.2.1,E2.o.2.2.2⟩
  have hjI:(j:Int)>0:=by omega
  go_wp2_with fail
  refine(Ai E2.o.2.2.1).mono ?_;rintro e u3 ⟨r3,h3a,h3b,rfl,hs,hd⟩;have E3:=Ah (aH (AW E2.o.1 hd.grow (fun b hb e=>by have:=(E2.o.1.lt b hb).1;have:=HU.o;simp only[aJ]at e;omega)) (aH E2.o.2.1 (aH hs (E2.o.2.2.2.trans hd))));clear hs hd E2;go_wp2_with fail;refine(Ai E3.o.2.2.1).mono ?_;rintro e u4 ⟨r4,h4a,h4b,rfl,hs,hd⟩;have E4:=Ah (aH (AW E3.o.1 hd.grow (fun b hb e=>by have:=(E3.o.1.lt b hb).1;have:=HU.o;simp only[aJ]at e;omega)) (aH E3.o.2.1 (aH hs (E3.o.2.2.2.trans hd))));clear hs hd E3;obtain⟨t,ht⟩:∃t,1+r3=t:=⟨_,rfl⟩;have HT:Hid (BN t):=Bl (by omega) (by omega);have hxl0:=hxl;have HX0:Hid (xs.length<=5*(3-j)):=hxl;clear hxl hxl0;go_wp2_with fail;go_loopw [3,6] (fun V i wr=>∃(q:Nat) (a:Option Addr) (c:Nat) (zs:List Int),V=.slice a zs.length c/\i=.int .i64 (q:Int)/\q<=5/\zs.length<=xs.length+(5-q)/\Hid (wr.ownsRow u.heap.size 2 1 (.slice a zs.length c) zs.length (zs.flatMap Ab)/\(∀z∈zs,BN z)/\CU wr s.S s.a s.len s.cap (p2+1+1)/\AC s.S u wr)) (fun _ i _=>(intOf i).toNat)
  case atStart=>exact⟨(1+r4).toNat,a,c,xs,rfl,by show _=_;congr 1;omega,by omega,by omega,E4⟩
  case round=>
   clear E4;obtain⟨q,a,c,zs,rfl,rfl,hq,hzl,E5⟩:=hrel;by_cases hq0:q=0
   case pos=>
    subst hq0;obtain⟨j',rfl⟩:∃j',j=j'+1:=⟨j-1,by omega⟩;go_wp2_with fail
    go_roundw
    case rel=>exact⟨j',a,c,zs,p2+1+1,rfl,by go_num,by omega,by have:=HX0.o;omega,by omega,by omega,E5⟩
    case measure=>simp[intOf]
   have hqI:(q:Int)>0:=by omega
   have hzb:zs.length<=100:=by have:=HX0.o;omega
   have EA:Hid ((wr.alloc (.cells #[.int .i64 t] 2)).ownsRow u.heap.size 2 1 (.slice a zs.length c) zs.length (zs.flatMap Ab)/\(∀z∈zs,BN z)/\CU (wr.alloc (.cells #[.int .i64 t] 2)) s.S s.a s.len s.cap (p2+1+1)/\AC s.S u (wr.alloc (.cells #[.int .i64 t] 2))):=⟨Aj E5.o.1 (Aa _ _) lR,E5.o.2.1,E5.o.2.2.1.alloc _,E5.o.2.2.2.trans (.alloc _ _ _)⟩
   clear E5;generalize hm:zs.length=m at hzl hzb EA⊢;have HM:Hid (zs.length=m):=hm;clear hm;go_wp2_with (first|(at_builtin;refine wpList_append_lies _ rfl _ _ 26 rfl u.heap.size 2 i64 (.int .i64 0) 1 8 Tryz.underlying26 hi hz0 hz1 hz2 rfl (by decide) (.slice a m c) m (zs.flatMap Ab) rfl EA.o.1 ⟨wr.heap.size,0,none⟩ 1 1 [.int .i64 t] rfl rfl (Bn wr _ _) (CT _) (by omega) (by unfold maxLen;omega) (by omega) EA.o.2.2.2.size _ rfl ?_;intro g5 cap5 w5 hown5 hgrow5 hat5 hlt5;have E6:Hid (w5.ownsRow u.heap.size 2 1 (.slice (some ⟨g5,0,none⟩) (m+1) cap5) (m+1) ((zs++[t]).flatMap Ab)/\(∀z∈zs++[t],BN z)/\CU w5 s.S s.a s.len s.cap (p2+1+1)/\AC s.S u w5):=⟨by rw[<-GN];exact hown5,(fun z hz=>by rcases aS.1 hz with e|e;exact EA.o.2.1 z e;rw[am.1 e];exact HT.o),EA.o.2.2.1.keep (fun k hk=>hgrow5.block k (by have:=EA.o.2.2.1.lt;omega) (fun e=>by have:=(EA.o.1.lt k e.symm).1;have:=HU.o;omega)),EA.o.2.2.2.grown hgrow5 (fun k hk=>(EA.o.1.lt k hk).1)⟩;clear hown5 hgrow5 hat5 hlt5)|go_in)
   have hml:(zs++[t]).length=m+1:=by rw[aG,HM.o];rfl
   obtain⟨q',rfl⟩:∃q',q=q'+1:=⟨q-1,by omega⟩;clear EA;go_roundw
   case rel=>exact⟨q',some ⟨g5,0,none⟩,cap5,zs++[t],by rw[hml],by go_num,by omega,by omega,by rw[hml];exact E6.o⟩
   case measure=>simp[intOf]
section
variable {w u u':World} {s:Cv} {p:Int} {v:VP} {F:List (List Int×Value)} {G:List (MF×VF)} {cs:List MC} {ts:List MT} {D:List Av}
theorem Bs.fn(h:Bs w u s p (Ae v F cs G ts D)){q:Nat}{y:MF×VF}(hq:G[q]?=some y):∃gf cf ap cp al cl ac cc,v.f=.slice (some ⟨gf,0,none⟩) G.length cf/\y.2=⟨.slice ap y.1.params.length cp,.slice al y.1.locals.length cl,.slice ac y.1.code.length cc⟩/\(u.cell? ⟨gf,q*4,none⟩=some (.slice ap y.1.params.length cp)/\u.cell? ⟨gf,q*4+1,none⟩=some (.int .i64 y.1.result)/\u.cell? ⟨gf,q*4+2,none⟩=some (.slice al y.1.locals.length cl)/\u.cell? ⟨gf,q*4+3,none⟩=some (.slice ac y.1.code.length cc))/\u.ownsRow w.heap.size 2 1 (.slice ap y.1.params.length cp) y.1.params.length (y.1.params.flatMap Ab)/\u.ownsRow w.heap.size 2 1 (.slice al y.1.locals.length cl) y.1.locals.length (y.1.locals.flatMap Ab)/\u.ownsRow w.heap.size 43 4 (.slice ac y.1.code.length cc) y.1.code.length (y.1.code.flatMap MI.cells):=by
 have hlt:=(aD.1 hq).1
 have m:∀r∈BQ y,r∈Ae v F cs G ts D:=fun r hr=>by
  have:r∈A6 G:=cE.2 ⟨y,aE hq,hr⟩;simp[Ae,this]
 have o1:=h.sep.own _ (m (AH y.2.p y.1.params) (by simp[BQ]));have o2:=h.sep.own _ (m (AH y.2.l y.1.locals) (by simp[BQ]));have o3:=h.sep.own _ (m (AK y.2.c y.1.code) (by simp[BQ]));obtain⟨f,vp,vl,vc⟩:=y;obtain⟨ap,cp,e1⟩:∃a c,vp=.slice a f.params.length c:=BJ o1;obtain⟨al,cl,e2⟩:∃a c,vl=.slice a f.locals.length c:=BJ o2;obtain⟨ac,cc,e3⟩:∃a c,vc=.slice a f.code.length c:=BJ o3;subst e1 e2 e3;have o4:=h.prow.2.2.2.1;rcases Ba o4 with⟨e,h0⟩|⟨gf,cf,e⟩
 . omega
 rw[e]at o4;have c0:=au o4 (q*4) (by omega);have c1:=au o4 (q*4+1) (by omega);have c2:=au o4 (q*4+2) (by omega);have c3:=au o4 (q*4+3) (by omega);have hh:∀j,j<4->(G.flatMap AN)[q*4+j]?=(AN (f,⟨.slice ap f.params.length cp,.slice al f.locals.length cl,.slice ac f.code.length cc⟩))[j]?:=fun j hj=>CH AN 4 Ao G q j _ hq hj
 rw[show q*4=q*4+0 from rfl,hh 0 (by omega)]at c0;rw[hh 1 (by omega)]at c1;rw[hh 2 (by omega)]at c2;rw[hh 3 (by omega)]at c3;exact⟨gf,cf,ap,cp,al,cl,ac,cc,e,rfl,⟨c0,c1,c2,c3⟩,o1,o2,o3⟩
theorem Bs.reg(h:Bs w u s p (Ae v F cs G ts D)){q:Nat}{y:List Int×Value}(hq:F[q]?=some y):∃gr cr a c,v.r=.slice (some ⟨gr,0,none⟩) F.length cr/\y.2=.slice a y.1.length c/\u.cell? ⟨gr,q,none⟩=some (.slice a y.1.length c)/\u.ownsRow w.heap.size 2 1 (.slice a y.1.length c) y.1.length (y.1.flatMap Ab):=by
 have hlt:=(aD.1 hq).1
 have m:AH y.2 y.1∈Ae v F cs G ts D:=by
  have:AH y.2 y.1∈Bv F:=bJ.2 ⟨y,aE hq,rfl⟩;simp[Ae,this]
 have o1:=h.sep.own _ m;obtain⟨f,vp⟩:=y;obtain⟨ap,cp,e1⟩:∃a c,vp=.slice a f.length c:=BJ o1;subst e1;have o4:=h.prow.2.1;rcases Ba o4 with⟨e,h0⟩|⟨gf,cf,e⟩
 . omega
 rw[e]at o4;have c0:=au o4 q (by omega);have hh:=CH BL 1 BT F q 0 _ hq (by omega);rw[cZ,aw]at hh;rw[hh]at c0;exact⟨gf,cf,ap,cp,e,rfl,c0,o1⟩
end
section
variable {w u u':World} {s:Cv} {k:GK} {p left lv:Int} {sl:Nat} {D:List Av}
theorem GS.reg(h:GS w u s k p left lv sl D)(hk:CY k){q:Nat}(hq:q<3):∃(gr cr:Nat) (xs:List Int) (a:Option Addr) (c:Nat),u.cell? ⟨k.Gb,1,none⟩=some (.pointer (some ⟨k.P,0,none⟩))/\u.cell? ⟨k.P,0,none⟩=some (.slice (some ⟨gr,0,none⟩) 3 cr)/\u.cell? ⟨gr,q,none⟩=some (.slice a xs.length c)/\Pk s u (.slice a xs.length c) xs/\xs.length<=100:=by
 obtain⟨v,vc,g,h1,h2⟩:=h.ex;have hl:=hk.f3;obtain⟨y,hy⟩:∃y,k.F[q]?=some y:=⟨_,aA (by omega)⟩;obtain⟨gr,cr,a,c,e1,e2,h3,h4⟩:=h1.bl.reg hy;have hp:=h1.pcells.1;rw[e1,hl]at hp;exact⟨gr,cr,y.1,a,c,h1.cells.2.1,hp,h3,Pk.own h4 h1.bl.bel.lo,hk.fr y (aE hy)⟩
end
theorem Gd(w u:World)(s:Cv)(k:GK)(p left lv:Int)(sl:Nat)(D:List Av)(t:Int)(hk:CY k)(h:GS w u s k p left lv sl D)(hp:p+1<=1000000000000):
 Calls Tryz.prog 76 #[.pointer (some ⟨k.Gb,0,none⟩),.int .i64 t] u (MU s p k.G.length u):=by
 obtain⟨i64,hi,hz0,hz1,hz2⟩:=bH Bf;obtain⟨v,vc,g,h1,h2⟩:=h.ex;obtain⟨⟨a1,c1,a2,c2,a3,c3,a4,c4,ev⟩,_⟩:=h1.bl.prow;have hfi:=hk.fi;have hgl:=hk.gl;obtain⟨_,q1,q2,_,_,_⟩:=h1.cells;have q0:=h1.cells.1;obtain⟨_,_,p2,_⟩:=h1.pcells;rw[ev]at p2;simp only[]at p2;generalize hn:k.G.length=n at*
 have H:Hid (CU u s.S s.a s.len s.cap p/\∀j,j<n->∃gf r,a3=some ⟨gf,0,none⟩/\u.cell? ⟨gf,j*4+1,none⟩=some (.int .i64 r)):=⟨h1.bl.bel.src,fun j hj=>by
  obtain⟨y,hy⟩:∃y,k.G[j]?=some y:=⟨_,aA (by omega)⟩;obtain⟨gf,cf,ap,cp,al,cl,ac,cc,e1,e2,⟨f0,f1,f2,f3⟩,o1,o2,o3⟩:=h1.bl.fn hy;rw[ev]at e1;simp only[aI]at e1;exact⟨gf,_,e1.1,f1⟩⟩
 have HU:Hid (s.S<u.heap.size):=H.o.1.lt;have HC:Hid (∀W,Below u.heap.size u W->W.cell? ⟨k.Gb,0,none⟩=some (.pointer (some ⟨s.S,0,none⟩))/\W.cell? ⟨k.Gb,1,none⟩=some (.pointer (some ⟨k.P,0,none⟩))/\W.cell? ⟨k.Gb,2,none⟩=some (.int .i64 (k.fi:Int))/\W.cell? ⟨k.P,2,none⟩=some (.slice a3 n c3)):=fun W hW=>⟨Ac hW q0,Ac hW q1,Ac hW q2,Ac hW p2⟩
 clear h1 h2 h hk q0 q1 q2 p2 ev hn;go_enter Tryz.func76,Tryz.ntmps76;have E0:Hid ((u.alloc (.cells #[] 2)).ownsRow u.heap.size 2 1 (.slice (some ⟨u.heap.size,0,none⟩) 0 0) 0 []/\Below u.heap.size u (u.alloc (.cells #[] 2))):=⟨⟨rfl,.inr ⟨u.heap.size,0,#[],rfl,Nat.le_refl _,dT _ _,Nat.le_refl _,dP _,rfl,by simp⟩⟩,Aa _ _⟩
 obtain⟨_,_,d2,_⟩:=HC.o _ E0.o.2;go_wp2_with fail
 clear d2;go_loopw [5,6] (fun V i wr=>∃(j:Nat) (aV:Option Addr) (zs:List Int) (cV:Nat),j<=n/\V=.slice aV zs.length cV/\i=.int .i64 j/\zs.length<=j/\Hid (wr.ownsRow u.heap.size 2 1 (.slice aV zs.length cV) zs.length (zs.flatMap Ab)/\Below u.heap.size u wr/\∀z∈zs,0<=z/\z<n)) (fun _ i _=>n-(intOf i).toNat)
 case atStart=>exact⟨k.fi+1,_,[],_,by omega,rfl,by go_num,by simp,E0.o.1,E0.o.2,fun z hz=>by cases hz⟩
 case round=>
  clear E0;obtain⟨j,aV,zs,cV,hj,rfl,rfl,hzl,E1⟩:=hrel;obtain⟨d0,d1,d2,d3⟩:=HC.o _ E1.o.2.1;by_cases h1:j<n
  case pos=>
   have h1I:(j:Int)<(n:Int):=by omega
   obtain⟨gf,x,ea,kz'⟩:=H.o.2 j h1;subst ea;have kz:=Ac E1.o.2.1 kz';clear kz';cases hxt:(x==t)
   case false=>
    go_wp2_with fail
    go_roundw
    case rel=>exact⟨j+1,aV,zs,cV,by omega,rfl,by go_num,by omega,E1⟩
    case measure=>simp[intOf];omega
   case true=>
    have HZ:Hid (∀z∈zs,0<=z/\z<n):=E1.o.2.2
    have EA:Hid ((wr.alloc (.cells #[.int .i64 (j:Int)] 2)).ownsRow u.heap.size 2 1 (.slice aV zs.length cV) zs.length (zs.flatMap Ab)/\Below u.heap.size u (wr.alloc (.cells #[.int .i64 (j:Int)] 2))):=⟨Aj E1.o.1 (Aa _ _) lR,Af E1.o.2.1 lR (Aa _ _)⟩
    clear E1;generalize hm:zs.length=m at hzl EA⊢;have HM:Hid (zs.length=m):=hm;clear hm;go_wp2_with (first|(at_builtin;refine wpList_append_lies _ rfl _ _ 26 rfl u.heap.size 2 i64 (.int .i64 0) 1 8 Tryz.underlying26 hi hz0 hz1 hz2 rfl (by decide) (.slice aV m cV) m (zs.flatMap Ab) rfl EA.o.1 ⟨wr.heap.size,0,none⟩ 1 1 [.int .i64 (j:Int)] rfl rfl (Bn wr _ _) (CT _) (by omega) (by unfold maxLen;omega) (by omega) EA.o.2.size _ rfl ?_;intro g5 cap5 w5 hown5 hgrow5 hat5 hlt5;have E5:Hid (w5.ownsRow u.heap.size 2 1 (.slice (some ⟨g5,0,none⟩) (m+1) cap5) (m+1) ((zs++[(j:Int)]).flatMap Ab)/\Below u.heap.size u w5):=⟨by rw[<-GN];exact hown5,EA.o.2.grown hgrow5 EA.o.2.size (fun q hq=>(EA.o.1.lt q hq).1)⟩;clear hown5 hgrow5 hat5 hlt5)|go_in)
    clear EA kz d0 d1 d2 d3;have hml:(zs++[(j:Int)]).length=m+1:=by rw[aG,HM.o];rfl
    go_roundw
    case rel=>exact⟨j+1,some ⟨g5,0,none⟩,zs++[(j:Int)],cap5,by omega,by rw[hml],by go_num,by omega,by rw[hml];exact E5.o.1,E5.o.2,fun z hz=>by
     rcases aS.1 hz with e|e
     . exact HZ.o z e
     . rw[am.1 e]
       omega⟩
    case measure=>simp[intOf];omega
  case neg=>
   have h1I:¬(j:Int)<(n:Int):=by omega
   by_cases hm0:zs.length=0
   . have E2:Hid (Dr s p 1 u wr):=⟨p,by omega,by omega,H.o.1.below E1.o.2.1,.of_below E1.o.2.1⟩
     clear E1;generalize zs.length=m at hm0 hzl⊢;subst hm0;go_wp2_with fail
     go_ret
     exact⟨-1,rfl,by omega,by omega,E2.o⟩
   . have hm1:((zs.length:Int)==0)=false:=by rw[cT];omega
     have HS2:Hid (CU wr s.S s.a s.len s.cap p):=H.o.1.below E1.o.2.1;go_wp2_with fail
     refine(Ai HS2.o hp (n:=(zs.length:Int)) (by omega) (by omega)).mono ?_;rintro e u2 ⟨r,h0,h1',rfl,hs2,hd2⟩;obtain⟨rn,rfl⟩:=aq h0;have hrn:rn<zs.length:=by omega
     have hO:u2.ownsRow u.heap.size 2 1 (.slice aV zs.length cV) zs.length (zs.flatMap Ab):=AW E1.o.1 hd2.grow (fun b hb e=>by have:=(E1.o.1.lt b hb).1;have:=HU.o;simp only[aJ]at e;omega)
     obtain⟨gv,ev⟩:∃gv,aV=some ⟨gv,0,none⟩:=by
      rcases Ba hO with⟨e,h0⟩|⟨gv,c,e⟩
      . omega
      . simp only[aI]at e
        exact⟨gv,e.1⟩
     subst ev;have c0:=au hO rn (by omega);rw[Ed (aA hrn)]at c0;have hz:=E1.o.2.2 _ (bq hrn);have E2:Hid (Dr s p 1 u u2):=⟨p+1,by omega,by omega,hs2,(AC.of_below E1.o.2.1).trans hd2⟩;clear hs2 hd2 hO E1 HS2;generalize zs[rn]=z at c0 hz;go_wp2_with fail
     go_ret
     exact⟨z,rfl,by omega,by omega,E2.o⟩
theorem N3(xs:List Int)(m:Nat):(xs.flatMap Ab).take (m*1)=(xs.take m).flatMap Ab:=by
 induction xs generalizing m with
 |nil=>simp
 | cons x r ih=>
   cases m with
   |zero=>simp
   | succ m=>
     rw[List.take_succ_cons,aW,aW,<-ih m];rfl
def Pp(u:World)(e:Ending)(u':World):Prop:=∃(a:Option Addr) (c:Nat) (xs:List Int),e=.returned (.slice a xs.length c)/\u'.ownsRow u.heap.size 2 1 (.slice a xs.length c) xs.length (xs.flatMap Ab)/\xs.length<=1048576/\Below u.heap.size u u'
theorem Ge(w u:World)(s:Cv)(k:GK)(p left lv:Int)(sl:Nat)(D:List Av)(hk:CY k)(h:GS w u s k p left lv sl D):
 Calls Tryz.prog 90 #[.pointer (some ⟨k.Gb,0,none⟩)] u (Pp u):=by
 obtain⟨i64,hi,hz0,hz1,hz2⟩:=bH Bf;obtain⟨v,vc,g,h1,h2⟩:=h.ex;obtain⟨⟨f,vf⟩,hy⟩:∃y,k.G[k.fi]?=some y:=⟨_,aA hk.fi⟩;obtain⟨gf,cf,ap,cp,al,cl,ac,cc,e1,e2,⟨f0,f1,f2,f3⟩,o1,o2,o3⟩:=h1.bl.fn hy;simp only[]at e2 f0 f1 f2 f3 o1 o2 o3;obtain⟨_,q1,q2,_,_,_⟩:=h1.cells;obtain⟨_,_,p2,_⟩:=h1.pcells;rw[e1]at p2;have hfi:(k.fi:Int)<(k.G.length:Int):=by have:=hk.fi;omega
 have hlc:=hk.lc _ (aE hy);have hpr:=hk.pr _ (aE hy);simp only[]at hlc hpr;have HO:Hid (∀W,Below u.heap.size u W->(W.ownsRow w.heap.size 2 1 (.slice ap f.params.length cp) f.params.length (f.params.flatMap Ab)/\W.ownsRow w.heap.size 2 1 (.slice al f.locals.length cl) f.locals.length (f.locals.flatMap Ab))):=fun W hW=>⟨Aj o1 hW lR,Aj o2 hW lR⟩
 have HC:Hid (∀W,Below u.heap.size u W->W.cell? ⟨k.Gb,1,none⟩=some (.pointer (some ⟨k.P,0,none⟩))/\W.cell? ⟨k.Gb,2,none⟩=some (iZ (k.fi:Int))/\W.cell? ⟨k.P,2,none⟩=some (sG gf k.G.length cf)/\W.cell? ⟨gf,k.fi*4,none⟩=some (.slice ap f.params.length cp)/\W.cell? ⟨gf,k.fi*4+1,none⟩=some (iZ f.result)/\W.cell? ⟨gf,k.fi*4+2,none⟩=some (.slice al f.locals.length cl)/\W.cell? ⟨gf,k.fi*4+3,none⟩=some (.slice ac f.code.length cc)):=fun W hW=>⟨Ac hW q1,Ac hW q2,Ac hW p2,Ac hW f0,Ac hW f1,Ac hW f2,Ac hW f3⟩
 clear o1 o2 o3 f0 f1 f2 f3 q1 q2 p2 e1 e2 h1 h2 h hy hk;go_enter Tryz.func90,Tryz.ntmps90;go_upto_region 1 with fail
 refine wp_region_held_drew (S:=fun W=>W.cell? ⟨k.Gb,1,none⟩=some (.pointer (some ⟨k.P,0,none⟩))/\W.cell? ⟨k.Gb,2,none⟩=some (iZ (k.fi:Int))/\W.cell? ⟨k.P,2,none⟩=some (sG gf k.G.length cf)/\W.cell? ⟨gf,k.fi*4,none⟩=some (.slice ap f.params.length cp)/\W.cell? ⟨gf,k.fi*4+1,none⟩=some (iZ f.result)/\W.cell? ⟨gf,k.fi*4+2,none⟩=some (.slice al f.locals.length cl)/\W.cell? ⟨gf,k.fi*4+3,none⟩=some (.slice ac f.code.length cc)) (by kernel_rfl) (by exact HC.o _ (Ad _)) (fun hHeld=> ?_)
 have B0:Hid (Below u.heap.size u u.drew):=Ad _;generalize u.drew=UD at B0 hHeld⊢;refine Ak 0 ?_;refine Ak 1 ?_;refine Ak 2 ?_;refine Ak 3 ?_;refine Ak 4 ?_;refine Ak 5 ?_;refine Ak 6 ?_;refine Ak 7 ?_;refine Ak 8 ?_;refine Ak 9 ?_;refine Ak 10 ?_;refine Ak 11 ?_;refine Ak 12 ?_;refine rdH 13 ?_;intro KC hKC;go_simp;refine hKC.o _ _ (by exact HC.o _ (Af B0.o lR (Aa _ _))) (fun hHeld=> ?_);clear hKC KC;refine rdH 14 ?_;intro KC hKC;go_simp;refine hKC.o _ _ (by exact HC.o _ (Af B0.o lR (Aa _ _))) (fun hHeld=> ?_);clear hKC KC;refine wpAnyH_done (by kernel_rfl) ?_ _;clear hHeld;have E1:Hid (An (UD.alloc (.cells #[.slice ap f.params.length cp,iZ f.result,.slice al f.locals.length cl,.slice ac f.code.length cc] 68)) UD.heap.size #[.slice ap f.params.length cp,iZ f.result,.slice al f.locals.length cl,.slice ac f.code.length cc] 68/\Below u.heap.size u (UD.alloc (.cells #[.slice ap f.params.length cp,iZ f.result,.slice al f.locals.length cl,.slice ac f.code.length cc] 68))):=⟨An.new _ _ _,Af B0.o lR (Aa _ _)⟩
 generalize UD.heap.size=X at E1⊢;generalize UD.alloc (.cells #[.slice ap f.params.length cp,iZ f.result,.slice al f.locals.length cl,.slice ac f.code.length cc] 68)=U at E1⊢;clear B0 HC;go_upto_region 2 with fail
 have HX:Hid (∀W,Below U.heap.size U W->W.cell? ⟨X,0,none⟩=some (.slice ap f.params.length cp)/\W.cell? ⟨X,2,none⟩=some (.slice al f.locals.length cl)):=fun W hW=>⟨Ac hW (E1.o.1.cell 0),Ac hW (E1.o.1.cell 2)⟩
 have hsub:IntKind.i64.wrap ((f.locals.length:Int)-3)=((f.locals.length-3:Nat):Int):=by rw[bp _ ⟨by omega,by omega⟩];omega
 obtain⟨gl,eal,hcl⟩:∃gl,al=some ⟨gl,0,none⟩/\f.locals.length<=cl:=by
  have o2:=(HO.o _ E1.o.2).2;rcases o2.2 with⟨e,h0⟩|⟨g5,cap,cur,e,_,_,h5,_⟩
  . omega
  . simp only[aI]at e
    exact⟨g5,e.1,by rw[e.2.2];exact h5⟩
 subst eal;have hcl3:f.locals.length<=cl+3:=by omega
 refine wp_region_held_drew (S:=fun W=>W.cell? ⟨X,0,none⟩=some (.slice ap f.params.length cp)/\W.cell? ⟨X,2,none⟩=some (sG gl f.locals.length cl)) (by kernel_rfl) (by exact HX.o _ (Ad _)) (fun hHeld=> ?_)
 have B0:Hid (Below U.heap.size U U.drew):=Ad _;generalize U.drew=UD at B0 hHeld⊢;refine Ak 1 ?_;refine Ak 2 ?_;refine Ak 4 ?_;refine Ak 5 ?_;refine Ak 6 ?_;refine Ak 7 ?_;refine Ak 8 ?_;refine Ak 9 ?_;refine Ak 10 ?_;refine rdH 0 ?_;intro KC hKC;go_simp;refine hKC.o _ _ (by exact HX.o _ (Af B0.o lR (Aa _ _))) (fun hHeld=> ?_);clear hKC KC;refine rdH 3 ?_;intro KC hKC;have B1:Hid (Below u.heap.size u (UD.alloc (.cells #[] 2))):=Af (Af E1.o.2 lR B0.o) lR (Aa _ _);refine Br rfl (.tmp 17) (.tmp 19) UD.heap.size 26 2 i64 (iZ 0) 1 8 rfl Tryz.underlying26 hi hz0 hz1 hz2 rfl (by decide) (sG UD.heap.size 0 0) 0 [] (by simp[Act.eval]) (A5 UD _ _) (.slice ap f.params.length cp) f.params.length (f.params.flatMap Ab) (by simp[Act.eval]) (Rd.of_own (HO.o _ B1.o).1) (by rw[Ax Ab 1 Aq]) (DN _) (by unfold maxLen;omega) (by omega) (Aa _ _).size ?_;intro v1 u1 hown hgrow hat;have E2:Hid (u1.ownsRow UD.heap.size 2 1 v1 f.params.length (f.params.flatMap Ab)/\Below UD.heap.size UD u1):=⟨by simpa using hown,(Aa _ _).grown hgrow (Aa _ _).size (fun j hj=>by cases hj;exact Nat.le_refl _)⟩
 clear hown hgrow hat;refine hKC.o _ _ (by exact HX.o _ (Af B0.o lR E2.o.2)) (fun hHeld=> ?_);clear hKC KC;refine rdH 11 ?_;intro KC hKC;have B2:=Ah (Af (Af E1.o.2 lR B0.o) lR E2.o.2);have RL:Hid (Rd u1 1 (sG gl (f.locals.length-3) cl) (f.locals.length-3) ((f.locals.flatMap Ab).take ((f.locals.length-3)*1))):=Rd.front (Rd.of_own (HO.o _ B2.o).2) (by rw[Ax Ab 1 Aq]) (by omega) cl;refine Br rfl (.tmp 20) (.tmp 27) UD.heap.size 26 2 i64 (iZ 0) 1 8 rfl Tryz.underlying26 hi hz0 hz1 hz2 rfl (by decide) v1 f.params.length (f.params.flatMap Ab) (by rfl) E2.o.1 (sG gl (f.locals.length-3) cl) (f.locals.length-3) _ (by rfl) RL.o (by rw[bh,Ax Ab 1 Aq];omega) (fun x hx=>DN _ x (dQ hx)) (by unfold maxLen;omega) (by omega) E2.o.2.size ?_;intro v2 u2 hown hgrow hat;have E3:Hid (u2.ownsRow UD.heap.size 2 1 v2 (f.params.length+(f.locals.length-3)) ((f.params++f.locals.take (f.locals.length-3)).flatMap Ab)/\Below UD.heap.size UD u2):=⟨by rw[a8,<-N3];exact hown,E2.o.2.grown hgrow E2.o.2.size (fun j hj=>(E2.o.1.lt j hj).1)⟩
 clear hown hgrow hat E2 RL;refine hKC.o _ _ (by exact HX.o _ (Af B0.o lR E3.o.2)) (fun hHeld=> ?_);clear hKC KC;refine Ak 12 ?_;refine wpAnyH_done (by kernel_rfl) ?_ _;clear hHeld;obtain⟨a9,c9,rfl⟩:=BJ E3.o.1;go_wp2_with fail
 go_ret
 have hl9:(f.params++f.locals.take (f.locals.length-3)).length=f.params.length+(f.locals.length-3):=by rw[aG,bh];omega
 refine⟨a9,c9,f.params++f.locals.take (f.locals.length-3),by rw[hl9];rfl,?_,by omega,Af (Af E1.o.2 lR B0.o) lR E3.o.2⟩;rw[hl9];exact Dn E3.o.1 (aY E1.o.2.size B0.o.size)
theorem Eb.ownP{w:World}{base:Nat}{v:VP}{F:List (List Int×Value)}{cs:List MC}{G:List (MF×VF)}{ts:List MT}{B:List Av}(h:Eb w base (Ae v F cs G ts B)):Od w base v ⟨F.map Prod.fst,cs,G.map Prod.fst,ts⟩:=by
 have h1:=h.own (BR v.r F) (by simp[Ae]);have h3:=h.own (A4 v.f G) (by simp[Ae]);refine⟨⟨F,rfl,by simpa[BR,Av.own]using h1,fun x hx=>h.own (AH x.2 x.1) ?_⟩,h.own (CQ v.k cs) (by simp[Ae]),⟨G,rfl,by simpa[A4,Av.own]using h3,fun x hx=>⟨h.own (AH x.2.p x.1.params) ?_,h.own (AH x.2.l x.1.locals) ?_,h.own (AK x.2.c x.1.code) ?_⟩⟩,h.own (Cu v.t ts) (by simp[Ae])⟩
 . have:AH x.2 x.1∈Bv F:=bJ.2 ⟨x,hx,rfl⟩
   simp[Ae,this]
 all_goals
  have e:∀r∈BQ x,r∈A6 G:=fun r hr=>cE.2 ⟨x,hx,hr⟩
 . have:=e (AH x.2.p x.1.params) (by simp[BQ]);simp[Ae,this]
 . have:=e (AH x.2.l x.1.locals) (by simp[BQ]);simp[Ae,this]
 . have:=e (AK x.2.c x.1.code) (by simp[BQ]);simp[Ae,this]
abbrev vN:VP:=⟨sN,sN,sN,sN⟩
section
variable {w u u':World} {s:Cv} {p p':Int} {Ls:List Av} {v:VP} {F:List (List Int×Value)} {cs:List MC} {G:List (MF×VF)} {ts:List MT} {P:Nat} {D E:List Av}
theorem Bs.drawRow(h:Bs w u s p Ls)(hs:CU u' s.S s.a s.len s.cap p')(hd:AC s.S u u'){r:Av}(ho:r.own u' u.heap.size):Bs w u' s p' (Ls++[r]):=
 ⟨(h.draw hs hd).sep.snoc (N:=u.heap.size) (fun x hx g hg=>(h.sep.lt x hx g hg).2) ho h.size,(h.draw hs hd).bel⟩
theorem Bs.four(h:Bs w u s p Ls)(hm:gb P v∈Ls):(u.cell? ⟨P,0,none⟩=some v.r/\u.cell? ⟨P,1,none⟩=some v.k/\u.cell? ⟨P,2,none⟩=some v.f/\u.cell? ⟨P,3,none⟩=some v.t)/\(u.frozen? ⟨P,0,none⟩=false/\u.frozen? ⟨P,1,none⟩=false/\u.frozen? ⟨P,2,none⟩=false/\u.frozen? ⟨P,3,none⟩=false):=
 ⟨⟨h.cell hm 0 (by omega),h.cell hm 1 (by omega),h.cell hm 2 (by omega),h.cell hm 3 (by omega)⟩,h.frozen hm 0,h.frozen hm 1,h.frozen hm 2,h.frozen hm 3⟩
theorem Ro(x:World)(a b c:Value):(⟨26,1,sG x.heap.size 3 3,3,[a,b,c]⟩:Av).own (x.alloc (.cells #[a,b,c] 26)) x.heap.size:=ce (base:=x.heap.size) (e:=26) (size:=1) x #[a,b,c] 3 lR (by unfold maxLen;omega) rfl
theorem Bs.regions{v1 v2 v3:Value}{x1 x2 x3:List Int}(h:Bs w u s p (E++[AH v1 x1,AH v2 x2,AH v3 x3])):Bs w ((u.alloc (.cells #[v1,v2,v3] 26)).alloc (.cells #[sG u.heap.size 3 3,sN,sN,sN] 65)) s p
 (Ae ⟨sG u.heap.size 3 3,sN,sN,sN⟩ [(x1,v1),(x2,v2),(x3,v3)] [] [] [] (gb (u.heap.size+1) ⟨sG u.heap.size 3 3,sN,sN,sN⟩::E)):=by
 have h4:=h.row (Aa _ _) (Ro u v1 v2 v3);have h5:=h4.box 65 4 [sG u.heap.size 3 3,sN,sN,sN] rfl;have h6:=((h5.nil 102 2).nil 68 4).nil 118 4;simp only[dh,cJ,ah,bL]at h6;refine h6.perm ?_;refine(eH (l₁:=E)).trans ?_;simp only[Ae,Bv,BR,BL,CQ,A4,A6,Cu,List.map,aW,cA,ah,bL,bP,bt,dU];generalize AH v1 x1=A1;generalize AH v2 x2=A2;generalize AH v3 x3=A3;refine List.Perm.trans ?_ ((eH (l₁:=[A1,A2,A3]) (l₂:=[_])).append_right _);simp only[ah,bL];refine .cons _ (.cons _ (.cons _ (.cons _ ?_)));exact eH (l₁:=[_]) (l₂:=[_,_,_])|>.append_right E
theorem Bs.new_c{vk:Value}(hk:vk.ownBlock=none)(h:Bs w u s p (Ae {v with k:=vk} F [] G ts D))(V:Value)(ho:u'.ownsRow w.heap.size 102 2 V cs.length (cs.flatMap MC.cells))(hg:u.grownBy u' none)(hat:V.ownBlock=some u.heap.size):Bs w u' s p (Ae {v with k:=V} F cs G ts D):=by
 have h1:=Bs.app (A:=BR v.r F::Bv F) (C:=A4 v.f G::A6 G++(Cu v.t ts::D)) (r:=CQ vk []) h (CQ V cs) ho (by rw[show(CQ vk []).v.ownBlock=vk.ownBlock from rfl,hk];exact hg) (.inr hat);exact h1
end
def KK(B:Nat)(pv lv:Value)(res:Int):Av:=BG B 68 4 [pv,iZ res,lv,sN]
structure EJ(w u:World)(s:Cv)(p:Int)(L:List Av)(B:Nat)(pv lv:Value)(ps ls:List Int)(res:Int):Prop where
 bl:Bs w u s p (L++[AH pv ps,AH lv ls,KK B pv lv res])
section
variable {w u u':World} {s:Cv} {p p':Int} {L:List Av} {B:Nat} {pv lv:Value} {ps ls:List Int} {res:Int}
theorem EJ.keep(h:EJ w u s p L B pv lv ps ls res)(hb:Below u.heap.size u u'):EJ w u' s p L B pv lv ps ls res:=⟨h.bl.keep hb⟩
theorem EJ.draw(h:EJ w u s p L B pv lv ps ls res)(hs:CU u' s.S s.a s.len s.cap p')(hd:AC s.S u u'):EJ w u' s p' L B pv lv ps ls res:=⟨h.bl.draw hs hd⟩
theorem EJ.cells(h:EJ w u s p L B pv lv ps ls res):(u.cell? ⟨B,0,none⟩=some pv/\u.cell? ⟨B,1,none⟩=some (iZ res)/\u.cell? ⟨B,2,none⟩=some lv/\u.cell? ⟨B,3,none⟩=some sN)/\∀i,u.frozen? ⟨B,i,none⟩=false:=
 have m:KK B pv lv res∈L++[AH pv ps,AH lv ls,KK B pv lv res]:=by simp
 ⟨⟨h.bl.cell m 0 (by omega),h.bl.cell m 1 (by omega),h.bl.cell m 2 (by omega),h.bl.cell m 3 (by omega)⟩,fun i=>h.bl.frozen m i⟩
theorem EJ.rows(h:EJ w u s p L B pv lv ps ls res):u.ownsRow w.heap.size 2 1 pv ps.length (ps.flatMap Ab)/\u.ownsRow w.heap.size 2 1 lv ls.length (ls.flatMap Ab):=⟨h.bl.sep.own (AH pv ps) (by simp),h.bl.sep.own (AH lv ls) (by simp)⟩
theorem EJ.push_p(h:EJ w u s p L B pv lv ps ls res)(z:Int)(V:Value)(ho:u'.ownsRow w.heap.size 2 1 V (ps.length+1) (ps.flatMap Ab++[iZ z]))(hg:u.grownBy u' pv.ownBlock)(hat:V.ownBlock=pv.ownBlock\/V.ownBlock=some u.heap.size):EJ w (u'.setCell ⟨B,0,none⟩ V) s p L B V lv (ps++[z]) ls res/\u'.cell? ⟨B,0,none⟩=some pv/\u'.frozen? ⟨B,0,none⟩=false:=by
 have h1:=Bs.app (A:=L) (C:=[AH lv ls,KK B pv lv res]) (r:=AH pv ps) h.bl (AH V (ps++[z])) (by simpa[Av.own,AH,Ab]using ho) hg hat;have h2:Bs w u' s p ((L++[AH V (ps++[z]),AH lv ls])++KK B pv lv res::[]):=by simpa using h1
 have h3:=h2.set 0 (by omega) V;exact⟨⟨by simpa[KK]using h3⟩,h1.cell (show KK B pv lv res∈_ by simp) 0 (by omega),h1.frozen (show KK B pv lv res∈_ by simp) 0⟩
theorem EJ.push_l(h:EJ w u s p L B pv lv ps ls res)(z:Int)(V:Value)(ho:u'.ownsRow w.heap.size 2 1 V (ls.length+1) (ls.flatMap Ab++[iZ z]))(hg:u.grownBy u' lv.ownBlock)(hat:V.ownBlock=lv.ownBlock\/V.ownBlock=some u.heap.size):EJ w (u'.setCell ⟨B,2,none⟩ V) s p L B pv V ps (ls++[z]) res/\u'.cell? ⟨B,2,none⟩=some lv/\u'.frozen? ⟨B,2,none⟩=false:=by
 have h0:Bs w u s p ((L++[AH pv ps])++AH lv ls::[KK B pv lv res]):=by simpa using h.bl
 have h1:=Bs.app (A:=L++[AH pv ps]) (C:=[KK B pv lv res]) (r:=AH lv ls) h0 (AH V (ls++[z])) (by simpa[Av.own,AH,Ab]using ho) hg hat;have h2:Bs w u' s p ((L++[AH pv ps,AH V (ls++[z])])++KK B pv lv res::[]):=by simpa using h1
 have h3:=h2.set 2 (by omega) V;exact⟨⟨by simpa[KK]using h3⟩,h2.cell (show KK B pv lv res∈_ by simp) 2 (by omega),h2.frozen (show KK B pv lv res∈_ by simp) 2⟩
theorem EJ.set_r(h:EJ w u s p L B pv lv ps ls res)(z:Int):EJ w (u.setCell ⟨B,1,none⟩ (iZ z)) s p L B pv lv ps ls z:=by
 have h2:Bs w u s p ((L++[AH pv ps,AH lv ls])++KK B pv lv res::[]):=by simpa using h.bl
 have h3:=h2.set 1 (by omega) (iZ z);exact⟨by simpa[KK]using h3⟩
theorem EJ.new(h:Bs w u s p L):EJ w (u.alloc (.cells #[sN,iZ 0,sN,sN] 68)) s p L u.heap.size sN sN [] [] 0:=by
 have h1:=((h.nil 2 1).nil 2 1).box 68 4 [sN,iZ 0,sN,sN] rfl;exact⟨by simpa[AH,KK]using h1⟩
end
theorem EJ.done{w u u':World}{s:Cv}{p:Int}{v:VP}{F:List (List Int×Value)}{cs:List MC}{G:List (MF×VF)}{ts:List MT}{P B:Nat}{E:List Av}{pv lv:Value}{ps ls:List Int}{res:Int}(h:EJ w u s p (Ae v F cs G ts (gb P v::E)) B pv lv ps ls res)(V:Value)(ho:u'.ownsRow w.heap.size 68 4 V (G.length+1) (G.flatMap AN++AN (⟨ps,res,ls,[]⟩,⟨pv,lv,sN⟩)))(hg:u.grownBy u' v.f.ownBlock)(hat:V.ownBlock=v.f.ownBlock\/V.ownBlock=some u.heap.size):Bs w (u'.setCell ⟨P,2,none⟩ V) s p (Ae {v with f:=V} F cs (G++[(⟨ps,res,ls,[]⟩,⟨pv,lv,sN⟩)]) ts (gb P {v with f:=V}::E))/\u'.cell? ⟨P,2,none⟩=some v.f/\u'.frozen? ⟨P,2,none⟩=false:=by
 have h0:Bs w u s p (Ae v F cs G ts (gb P v::E)++[AH pv ps,AH lv ls]):=h.bl.sub (by
  refine List.Sublist.append_left ?_ _;exact .cons_cons _ (.cons_cons _ (List.nil_sublist _)))
 have h1:=h0.nil 43 4;have h2:Bs w u s p (Ae v F cs G ts (gb P v::E)++BQ ((⟨ps,res,ls,[]⟩:MF),(⟨pv,lv,sN⟩:VF))):=by simpa[BQ,AK]using h1
 have h3:=h2.push_f V ho hg hat;exact⟨h3.setp (D:=[]) 2 (by omega) V,h3.cell (As (show gb P v∈_ by simp)) 2 (by omega),h3.frozen (As (show gb P v∈_ by simp)) 2⟩
def MS(w:World)(s:Cv)(k:GK)(p left lv:Int)(D:List Av)(ka kp:Int)(e:Ending)(u':World):Prop:=e=.returned (.tuple #[])/\∃p' left',p<=p'/\p'<=p+ka/\left-kp<=left'/\left'<=left-1/\GS w u' s k p' left' lv 0 D
theorem Dz{z:Int}(h0:0<=z)(h1:z<4294967296):Pl z:=by simp[Pl,Lit.wf,IntKind.min,IntKind.max,IntKind.signed,IntKind.bits];omega
theorem CM(w u:World)(s:Cv)(k:GK)(p left lv:Int)(D:List Av)(t:Int)(hk:CY k)(h:GS w u s k p left lv 0 D)(hp:p+8<=1000000000000)(hl:-700000<=left)(ht:BN t):
 Calls Tryz.prog 75 #[.pointer (some ⟨k.Gb,0,none⟩),.int .i64 t] u (MS w s k p left lv D 8 1):=by
 have hp0:=h.src.low;have HK:Hid (CY k/\BN t):=⟨hk,ht⟩
 clear hk ht;obtain⟨_,_,q0,_⟩:=h.cells;have E0:=Ah h;clear h;go_enter Tryz.func75,Tryz.ntmps75;go_wp2_with fail
 refine(Ai E0.o.src).mono ?_;rintro e u1 ⟨r,h0,h1,rfl,hs,hd⟩;have E1:=Ah (E0.o.draw hs hd);clear hs hd E0 q0;go_wp2_with fail
 refine(Ai E1.o.src).mono ?_;rintro e u2 ⟨r2,h2,h3,rfl,hs,hd⟩;have E2:=Ah (E1.o.draw hs hd);clear hs hd E1;obtain⟨q,rfl⟩:=aq h0;have hq3:(q:Int)<3:=h1;cases e0:(r2==0)
 case true=>
  obtain⟨gr,cr,xs,a,c,d0,d1,d2,hrd,hxl⟩:=E2.o.reg HK.o.1 (show q<3 by omega);go_wp2_with fail
  refine(CN _ s (p+1+1) t _ xs E2.o.src (by omega) hrd.rd (by omega)).mono ?_;rintro e u4 ⟨r4,rfl,hr0,hr1,p4,hq1,hq2,hs,hd⟩;have E4:=Ah (E2.o.draw hs hd);clear hs hd;by_cases h40:r4>=0
  case pos=>
   go_wp2_with fail
   refine(Ar HK.o.1 E4.o (by omega) Ag Ag Ag Ag).mono ?_;rintro e u9 ⟨n9,rfl,_,hh⟩;have F9:=Ah hh;clear hh;go_wp2_with fail
   refine aT (v:=.tuple #[]) (by kernel_rfl) rfl ?_;exact⟨rfl,p4,left-1,by omega,by omega,by omega,by omega,F9.o⟩
  case neg=>
   go_wp2_with fail
   refine(D6 E4.o.src (by omega)).mono ?_;rintro e u5 ⟨x,p5,hx0,hx1,rfl,hq1,hq2,hs,hd⟩;have E5:=Ah (E4.o.draw hs hd);clear hs hd;cases ht1:(t==1)
   focus
    go_wp2_with fail
    refine(Ck HK.o.1 E5.o (by omega) (by omega) HK.o.2 (Dz hx0 hx1)).mono ?_;rintro e u6 ⟨rc,rfl,hrc,hh⟩;have E6:=Ah hh;clear hh;go_wp2_with fail
    refine(Ar HK.o.1 E6.o (by omega) Ag Ag Ag Ag).mono ?_;rintro e u9 ⟨n9,rfl,_,hh⟩;have F9:=Ah hh;clear hh;go_wp2_with fail
    refine bK (v:=.tuple #[]) (by kernel_rfl) rfl ?_;exact⟨rfl,p5,left-1,by omega,by omega,by omega,by omega,F9.o⟩
   focus
    go_wp2_with fail
    refine(Ck HK.o.1 E5.o (by omega) (by omega) HK.o.2 (Dz (C4 _ _ _).1 (C4 _ _ _).2)).mono ?_;rintro e u6 ⟨rc,rfl,hrc,hh⟩;have E6:=Ah hh;clear hh;go_wp2_with fail
    refine(Ar HK.o.1 E6.o (by omega) Ag Ag Ag Ag).mono ?_;rintro e u9 ⟨n9,rfl,_,hh⟩;have F9:=Ah hh;clear hh;go_wp2_with fail
    refine bK (v:=.tuple #[]) (by kernel_rfl) rfl ?_;exact⟨rfl,p5,left-1,by omega,by omega,by omega,by omega,F9.o⟩
 case false=>
  cases e1:(r2==1)
  case true=>
   obtain⟨gr,cr,xs,a,c,d0,d1,d2,hrd,hxl⟩:=E2.o.reg HK.o.1 (show q<3 by omega);go_wp2_with fail
   refine(CN _ s (p+1+1) t _ xs E2.o.src (by omega) hrd.rd (by omega)).mono ?_;rintro e u4 ⟨r4,rfl,hr0,hr1,p4,hq1,hq2,hs,hd⟩;have E4:=Ah (E2.o.draw hs hd);clear hs hd;by_cases h40:r4>=0
   case pos=>
    go_wp2_with fail
    refine(Ar HK.o.1 E4.o (by omega) Ag Ag Ag Ag).mono ?_;rintro e u9 ⟨n9,rfl,_,hh⟩;have F9:=Ah hh;clear hh;go_wp2_with fail
    refine aT (v:=.tuple #[]) (by kernel_rfl) rfl ?_;exact⟨rfl,p4,left-1,by omega,by omega,by omega,by omega,F9.o⟩
   case neg=>
    go_wp2_with fail
    refine(D6 E4.o.src (by omega)).mono ?_;rintro e u5 ⟨x,p5,hx0,hx1,rfl,hq1,hq2,hs,hd⟩;have E5:=Ah (E4.o.draw hs hd);clear hs hd;cases ht1:(t==1)
    focus
     go_wp2_with fail
     refine(Ck HK.o.1 E5.o (by omega) (by omega) HK.o.2 (Dz hx0 hx1)).mono ?_;rintro e u6 ⟨rc,rfl,hrc,hh⟩;have E6:=Ah hh;clear hh;go_wp2_with fail
     refine(Ar HK.o.1 E6.o (by omega) Ag Ag Ag Ag).mono ?_;rintro e u9 ⟨n9,rfl,_,hh⟩;have F9:=Ah hh;clear hh;go_wp2_with fail
     refine bK (v:=.tuple #[]) (by kernel_rfl) rfl ?_;exact⟨rfl,p5,left-1,by omega,by omega,by omega,by omega,F9.o⟩
    focus
     go_wp2_with fail
     refine(Ck HK.o.1 E5.o (by omega) (by omega) HK.o.2 (Dz (C4 _ _ _).1 (C4 _ _ _).2)).mono ?_;rintro e u6 ⟨rc,rfl,hrc,hh⟩;have E6:=Ah hh;clear hh;go_wp2_with fail
     refine(Ar HK.o.1 E6.o (by omega) Ag Ag Ag Ag).mono ?_;rintro e u9 ⟨n9,rfl,_,hh⟩;have F9:=Ah hh;clear hh;go_wp2_with fail
     refine bK (v:=.tuple #[]) (by kernel_rfl) rfl ?_;exact⟨rfl,p5,left-1,by omega,by omega,by omega,by omega,F9.o⟩
  case false=>
   cases e2:(r2==2)
   case true=>
    go_wp2_with fail
    refine(Ge w u2 s k _ left lv 0 D HK.o.1 E2.o).mono ?_;rintro e u3 ⟨a,c,xs,rfl,ho,hxl,hb⟩;have E3:=Ah (E2.o.keep hb);have HR:=Ah (Rd.of_own ho);clear ho hb;go_wp2_with fail
    refine(CN _ s (p+1+1) t _ xs E3.o.src (by omega) HR.o (by omega)).mono ?_;rintro e u4 ⟨r4,rfl,hr0,hr1,p4,hq1,hq2,hs,hd⟩;have E4:=Ah (E3.o.draw hs hd);clear hs hd;by_cases h40:r4>=0
    case pos=>
     go_wp2_with fail
     refine(Ar HK.o.1 E4.o (by omega) Ag Ag Ag Ag).mono ?_;rintro e u9 ⟨n9,rfl,_,hh⟩;have F9:=Ah hh;clear hh;go_wp2_with fail
     refine aT (v:=.tuple #[]) (by kernel_rfl) rfl ?_;exact⟨rfl,p4,left-1,by omega,by omega,by omega,by omega,F9.o⟩
    case neg=>
     go_wp2_with fail
     refine(D6 E4.o.src (by omega)).mono ?_;rintro e u5 ⟨x,p5,hx0,hx1,rfl,hq1,hq2,hs,hd⟩;have E5:=Ah (E4.o.draw hs hd);clear hs hd;cases ht1:(t==1)
     focus
      go_wp2_with fail
      refine(Ck HK.o.1 E5.o (by omega) (by omega) HK.o.2 (Dz hx0 hx1)).mono ?_;rintro e u6 ⟨rc,rfl,hrc,hh⟩;have E6:=Ah hh;clear hh;go_wp2_with fail
      refine(Ar HK.o.1 E6.o (by omega) Ag Ag Ag Ag).mono ?_;rintro e u9 ⟨n9,rfl,_,hh⟩;have F9:=Ah hh;clear hh;go_wp2_with fail
      refine bK (v:=.tuple #[]) (by kernel_rfl) rfl ?_;exact⟨rfl,p5,left-1,by omega,by omega,by omega,by omega,F9.o⟩
     focus
      go_wp2_with fail
      refine(Ck HK.o.1 E5.o (by omega) (by omega) HK.o.2 (Dz (C4 _ _ _).1 (C4 _ _ _).2)).mono ?_;rintro e u6 ⟨rc,rfl,hrc,hh⟩;have E6:=Ah hh;clear hh;go_wp2_with fail
      refine(Ar HK.o.1 E6.o (by omega) Ag Ag Ag Ag).mono ?_;rintro e u9 ⟨n9,rfl,_,hh⟩;have F9:=Ah hh;clear hh;go_wp2_with fail
      refine bK (v:=.tuple #[]) (by kernel_rfl) rfl ?_;exact⟨rfl,p5,left-1,by omega,by omega,by omega,by omega,F9.o⟩
   case false=>
    go_wp2_with fail
    refine(D6 E2.o.src (by omega)).mono ?_;rintro e u5 ⟨x,p5,hx0,hx1,rfl,hq1,hq2,hs,hd⟩;have E5:=Ah (E2.o.draw hs hd);clear hs hd;cases ht1:(t==1)
    focus
     go_wp2_with fail
     refine(Ck HK.o.1 E5.o (by omega) (by omega) HK.o.2 (Dz hx0 hx1)).mono ?_;rintro e u6 ⟨rc,rfl,hrc,hh⟩;have E6:=Ah hh;clear hh;go_wp2_with fail
     refine(Ar HK.o.1 E6.o (by omega) Ag Ag Ag Ag).mono ?_;rintro e u9 ⟨n9,rfl,_,hh⟩;have F9:=Ah hh;clear hh;go_wp2_with fail
     refine bK (v:=.tuple #[]) (by kernel_rfl) rfl ?_;exact⟨rfl,p5,left-1,by omega,by omega,by omega,by omega,F9.o⟩
    focus
     go_wp2_with fail
     refine(Ck HK.o.1 E5.o (by omega) (by omega) HK.o.2 (Dz (C4 _ _ _).1 (C4 _ _ _).2)).mono ?_;rintro e u6 ⟨rc,rfl,hrc,hh⟩;have E6:=Ah hh;clear hh;go_wp2_with fail
     refine(Ar HK.o.1 E6.o (by omega) Ag Ag Ag Ag).mono ?_;rintro e u9 ⟨n9,rfl,_,hh⟩;have F9:=Ah hh;clear hh;go_wp2_with fail
     refine bK (v:=.tuple #[]) (by kernel_rfl) rfl ?_;exact⟨rfl,p5,left-1,by omega,by omega,by omega,by omega,F9.o⟩
def QY(xs:List Int)(u:World)(e:Ending)(u':World):Prop:=∃(a:Option Addr) (c:Nat),e=.returned (.slice a xs.length c)/\u'.ownsRow u.heap.size 2 1 (.slice a xs.length c) xs.length (xs.flatMap Ab)/\Below u.heap.size u u'
theorem Ct(u:World)(V:Value)(xs:List Int)(hl:xs.length<=1048576)(h:Rd u 1 V xs.length (xs.flatMap Ab)):
 Calls Tryz.prog 83 #[V] u (QY xs u):=by
 obtain⟨i64,hi,hz0,hz1,hz2⟩:=bH Bf;have HR:Hid (Rd (u.alloc (.cells #[] 2)) 1 V xs.length (xs.flatMap Ab)):=h.keep (Aa _ _) lR;clear h;go_enter Tryz.func83,Tryz.ntmps83;go_wp2_with (at_builtin;refine LH rfl (.tmp 3) (.tmp 4) u.heap.size 26 2 i64 (.int .i64 0) 1 8 rfl Tryz.underlying26 hi hz0 hz1 hz2 rfl (by decide) (.slice (some ⟨u.heap.size,0,none⟩) 0 0) 0 [] rfl (A5 u _ _) V xs.length (xs.flatMap Ab) rfl HR.o (by rw[Ax Ab 1 Aq]) (DN _) (by unfold maxLen;omega) (by omega) (Aa _ _).size ?_;intro v1 u1 hown hgrow hat;have E2:Hid (u1.ownsRow u.heap.size 2 1 v1 xs.length (xs.flatMap Ab)/\Below u.heap.size u u1):=⟨by simpa using hown,(Aa _ _).grown hgrow (Aa _ _).size (fun j hj=>by cases hj;exact Nat.le_refl _)⟩;clear hown hgrow hat)
 go_ret
 obtain⟨a9,c9,rfl⟩:=BJ E2.o.1;exact⟨a9,c9,rfl,E2.o.1,E2.o.2⟩
structure N6(w:World)(v:VP)(x:MP)(F:List (List Int×Value))(G:List (MF×VF)):Prop where
 r:Rd w 1 v.r x.regions.length (F.flatMap BL)
 rr:∀y∈F,Rd w 1 y.2 y.1.length (y.1.flatMap Ab)
 k:Rd w 2 v.k x.consts.length (x.consts.flatMap MC.cells)
 f:Rd w 4 v.f x.funcs.length (G.flatMap AN)
 ff:∀y∈G,Hq w y.2 y.1
 t:Rd w 4 v.t x.certs.length (x.certs.flatMap MT.cells)
def Cw(b t:Nat)(w:World)(v:VP)(x:MP):Prop:=∃F G,F.map Prod.fst=x.regions/\G.map Prod.fst=x.funcs/\∀u2:World,(∀k,b<=k->k<t->u2.heap[k]?=w.heap[k]?)->N6 u2 v x F G
theorem DD{w u2:World}{base:Nat}{e:TypeId}{s:Value}{k n:Nat}{xs:List Value}(h:w.ownsRow base e k s n xs)(hs:∀k,base<=k->k<w.heap.size->u2.heap[k]?=w.heap[k]?):u2.ownsRow base e k s n xs:=by
 refine⟨h.1,?_⟩;rcases h.2 with h|⟨g,cap,cur,rfl,hb1,hgg,hr⟩
 . exact .inl h
 . refine .inr ⟨g,cap,cur,rfl,hb1,?_,hr⟩
   rw[hs g hb1 (an.1 hgg).1];exact hgg
theorem Od.tells{w:World}{base:Nat}{v:VP}{x:MP}(h:Od w base v x):Cw base w.heap.size w v x:=by
 obtain⟨⟨F,hF,h1,h2⟩,h3,⟨G,hG,h4,h5⟩,h6⟩:=h;exact⟨F,G,hF,hG,fun u2 hs=>⟨Rd.of_own (DD h1 hs),fun y hy=>Rd.of_own (DD (h2 y hy) hs),Rd.of_own (DD h3 hs),Rd.of_own (DD h4 hs),fun y hy=>⟨Rd.of_own (DD (h5 y hy).1 hs),Rd.of_own (DD (h5 y hy).2.1 hs),Rd.of_own (DD (h5 y hy).2.2 hs)⟩,Rd.of_own (DD h6 hs)⟩⟩
section
variable {b t:Nat} {w w':World} {v:VP} {x:MP}
theorem Cw.rd(h:Cw b t w v x):Fr w v x:=by
 obtain⟨F,G,h1,h2,h3⟩:=h;have q:=h3 w fun _ _ _=>rfl
 exact⟨⟨F,h1,q.r,q.rr⟩,q.k,⟨G,h2,q.f,q.ff⟩,q.t⟩
theorem Cw.wide{b' t':Nat}(h:Cw b t w v x)(hb:b'<=b)(ht:t<=t'):Cw b' t' w v x:=by
 obtain⟨F,G,h1,h2,h3⟩:=h;exact⟨F,G,h1,h2,fun u2 hs=>h3 u2 fun k h1 h2=>hs k (by omega) (by omega)⟩
theorem Cw.same(h:Cw b t w v x)(hs:∀k,b<=k->k<t->w'.heap[k]?=w.heap[k]?):Cw b t w' v x:=by
 obtain⟨F,G,h1,h2,h3⟩:=h;exact⟨F,G,h1,h2,fun u2 h2=>h3 u2 fun k h3 h4=>by rw[h2 k h3 h4,hs k h3 h4]⟩
theorem Cw.draw{g:Nat}(h:Cw b t w v x)(hd:AC g w w')(hg:g<b)(ht:t<=w.heap.size):Cw b t w' v x:=h.same fun k h1 h2=>hd.block k (by omega) (by omega)
theorem Cw.below(h:Cw b t w v x)(hb:Below w.heap.size w w')(ht:t<=w.heap.size):Cw b t w' v x:=h.same fun k h1 h2=>(hb.block k (by omega))
theorem Cw.set(h:Cw b t w v x)(a:Addr)(ha:a.block<b\/t<=a.block)(y:Value):Cw b t (w.setCell a y) v x:=h.same fun k h1 h2=>bO w a k y (by omega)
theorem Cw.code(h:Cw b t w v x)(hl:0<x.funcs.length):∃gk ok ck,v.f=.slice (some ⟨gk,ok,none⟩) x.funcs.length ck/\∃vc:Nat->Value,∀u2:World,(∀k,b<=k->k<t->u2.heap[k]?=w.heap[k]?)->∀j f,x.funcs[j]?=some f->u2.cell? ⟨gk,ok+j*4+3,none⟩=some (vc j)/\Rd u2 4 (vc j) f.code.length (f.code.flatMap MI.cells):=by
 obtain⟨F,G,h1,h2,h3⟩:=h
 obtain⟨gk,ok,ck,e⟩:∃gk ok ck,v.f=.slice (some ⟨gk,ok,none⟩) x.funcs.length ck:=by
  rcases(h3 w fun _ _ _=>rfl).f.2 with⟨e,_⟩|⟨gk,ok,ck,e,hc⟩
  . omega
  . exact⟨gk,ok,ck,e⟩
 refine⟨gk,ok,ck,e,fun j=>match G[j]? with|some y=>y.2.c|none=>.slice none 0 0,fun u2 hs j f hj=> ?_⟩;have q:=h3 u2 hs;rw[<-h2,a7]at hj;cases hG:G[j]? with
 |none=>rw[hG]at hj;cases hj
 | some y=>
   rw[hG]at hj;simp only[dZ,aJ]at hj;subst hj;show u2.cell? ⟨gk,ok+j*4+3,none⟩=some (match G[j]? with|some y=>y.2.c|none=>.slice none 0 0)/\Rd u2 4 (match G[j]? with|some y=>y.2.c|none=>.slice none 0 0) _ _
   rw[hG];refine⟨?_,(q.ff y (aE hG)).2.2⟩;have qf:=q.f;rw[e]at qf;rcases qf.2 with⟨e0,_⟩|⟨g,o,c,e1,hc⟩
   . omega
   . simp only[aI,aJ,bf,cg]at e1
     obtain⟨⟨rfl,rfl⟩,_⟩:=e1;exact Rd.elem Ao hc j y hG 3 _ rfl
end
end Go.Proofs.YtjpobijiblcgaaaGreat
