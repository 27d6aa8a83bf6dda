import Derived.Test.YtdipfjmlfbdkdaaGreatFc49
import Derived.Test.YtdipfjmlfbdkdaaGreatFc50
namespace Go.Proofs.YtdipfjmlfbdkdaaGreat
open Go.ChangeShapes Go.WideShapes Go.ChangeAt Go.RowKit
set_option linter.unusedVariables false
set_option maxHeartbeats 16000000
set_option maxRecDepth 100000
structure PB(w u:World)(v:Bz)(a e:Nat)(nx:Value):Prop where
 body:Ak u w.heap.size v.cells 85
 blk:Ak u (w.heap.size+1) #[.int .i64 (a:Int),.int .i64 (e:Int),nx] 58
 bel:Below w.heap.size w u
theorem PB.keep{w u u':World}{v:Bz}{a e:Nat}{nx:Value}(h:PB w u v a e nx)(hb:Below u.heap.size u u'):PB w u' v a e nx:=⟨h.body.keep hb,h.blk.keep hb,Ab h.bel lR hb⟩
def BcR(w:World)(xs:List MI)(costs:List Int)(m:MB)(e:Ending)(w':World):Prop:=(∃s b,e=.returned (.tuple #[.int .i64 s,.bool b])/\(b=true->¬B3 xs costs m/\s=BH xs costs m)/\(b=false->B3 xs costs m))/\Below w.heap.size w w'
theorem Jb(v:Bz)(nx:Value)(xs:List MI)(costs:List Int)(m:MB)(ca:Option Addr)(cc:Nat)(w:World)(hn:xs.length<=1024)(hc:Rd w 4 (.slice v.c.a v.c.n v.c.c) xs.length (xs.flatMap MI.cells))(hcap:xs.length<=v.c.c)(hcl:costs.length<=1048576)(hk:Rd w 1 (.slice ca costs.length cc) costs.length (costs.flatMap Ac))(hx28:∀x∈xs,x.op=28->0<=x.a)(hm:∃a e:Nat,m.first=(a:Int)/\m.last=(e:Int)/\a<=e/\e<xs.length):
 Calls Tryz.prog 58 #[.agg v.cells,.agg #[.int .i64 m.first,.int .i64 m.last,nx],.slice ca costs.length cc] w (BcR w xs costs m):=by
 obtain⟨a,e,m1,m2,hae,hen⟩:=hm;obtain⟨d,hde⟩:∃d,e=a+d:=⟨e-a,by omega⟩;have HDE:=AS hde;clear hde;have HM:Hid (m.first=(a:Int)/\m.last=(e:Int)):=⟨m1,m2⟩
 rw[m1,m2];clear m1 m2 hae;have HOPN:Hid (∀op,0<=KM op):=fun op=>MV op (CY op)
 have HK:=AS (aq hk hx28);clear hk hx28;rcases hc.2 with⟨q0,_⟩|⟨gc,oc,cc',q1,hcc⟩
 . omega
 simp only[aF]at q1
 have HC:Hid (∀(u:World),Below w.heap.size w u->∀(k:Nat) (x:MI),xs[k]?=some x->u.cell? ⟨gc,oc+k*4,none⟩=some (.int .i64 x.op)/\u.cell? ⟨gc,oc+k*4+1,none⟩=some (.int .i64 x.a)/\u.cell? ⟨gc,oc+k*4+2,none⟩=some (.int .i64 x.b)/\u.cell? ⟨gc,oc+k*4+3,none⟩=some (.int .i64 x.c)):=fun u hu k x hx=>by
  have i0:=Rd.elem MI.cells_length hcc k x hx 0 _ rfl;have i1:=Rd.elem MI.cells_length hcc k x hx 1 _ rfl;have i2:=Rd.elem MI.cells_length hcc k x hx 2 _ rfl;have i3:=Rd.elem MI.cells_length hcc k x hx 3 _ rfl;rw[<-hu.cell (aC i0),aS]at i0;rw[<-hu.cell (aC i1)]at i1;rw[<-hu.cell (aC i2)]at i2;rw[<-hu.cell (aC i3)]at i3;exact⟨i0,i1,i2,i3⟩
 have HQ:Hid (v.c.a=some ⟨gc,oc,none⟩/\v.c.n=xs.length):=⟨q1.1,q1.2.1⟩
 clear hcc hc q1 cc';generalize hcp:v.c.c=cap at hcap;have HCP:Hid (v.c.c=cap):=hcp;clear hcp;have E0:Hid (PB w ((w.alloc (.cells v.cells 85)).alloc (.cells #[.int .i64 (a:Int),.int .i64 (e:Int),nx] 58)) v a e nx):=⟨(Ak.new _ _ _).keep (Aa _ _),by have:=Ak.new (w.alloc (.cells v.cells 85)) #[.int .i64 (a:Int),.int .i64 (e:Int),nx] 58;rw[eS]at this;exact this,Ab (Aa _ _) lR (Aa _ _)⟩;generalize hxl:xs.length=n at hn hen hcap HQ;have HXL:Hid (xs.length=n):=hxl;clear hxl;go_enter Tryz.func58,Tryz.ntmps58;go_upto_region 1 with fail
 refine Al (fun u=>Hid (PB w u v a e nx)) E0 ?_;rintro U HE;clear E0;have p7:=HE.o.body.cell 7;simp only[Bz.cells]at p7;simp only[HQ.o.1,HQ.o.2,HCP.o]at p7;obtain⟨b0,b1,b2⟩:=BI HE.o.blk;have hae:a<=e:=by have:=HDE.o;omega
 have wr1:IntKind.i64.wrap ((e:Int)+1)=((e+1:Nat):Int):=by rw[dI _ ⟨by omega,by omega⟩];omega
 go_upto_region 3 with fail
 have hs1:e+1-a=d+1:=by have:=HDE.o;omega
 rw[hs1];generalize ho2:oc+a*4=o2;have hcp0:d+1<=cap-a:=by have:=HDE.o;omega
 generalize cap-a=cp at hcp0⊢;have HO:Hid (oc+a*4=o2):=ho2
 have HC2:Hid (∀(u:World),Below w.heap.size w u->∀(j:Nat) (x:MI),xs[a+j]?=some x->u.cell? ⟨gc,o2+j*4,none⟩=some (.int .i64 x.op)/\u.cell? ⟨gc,o2+j*4+1,none⟩=some (.int .i64 x.a)/\u.cell? ⟨gc,o2+j*4+2,none⟩=some (.int .i64 x.b)/\u.cell? ⟨gc,o2+j*4+3,none⟩=some (.int .i64 x.c)):=fun u hu j x hx=>by
  have e:o2+j*4=oc+(a+j)*4:=by rw[<-HO.o];omega
  rw[e];exact HC.o u hu (a+j) x hx
 clear ho2 HO HC hs1 p7 b0 b1 b2 wr1;generalize hLL:d+1=LL at hcp0⊢;have HLL:=AS hLL;clear hLL;have hLL2:LL<=1048576:=by have:=HLL.o;have:=HDE.o;omega
 go_loopw [6,7,8,10,22] (fun _ _ s _ i wr=>∃(j:Nat) (c0:Int),j<=LL/\s=.int .i64 c0/\i=.int .i64 j/\Hid (PB w wr v a e nx/\CW c0/\(∀t x,t<j->xs[a+t]?=some x->IZ costs x)/\c0=Dk xs costs a j)) (fun _ _ _ _ i _=>LL-(intOf i).toNat)
 case atStart=>exact⟨0,0,by omega,rfl,rfl,HE.o,⟨by omega,by omega⟩,fun t x ht=>absurd ht (Nat.not_lt_zero _),rfl⟩
 case round=>
 clear HE;obtain⟨j,c0,hj,rfl,rfl,HE⟩:=hrel;by_cases hlt:j<LL
 case neg=>
  obtain rfl:j=d+1:=by have:=HLL.o;omega
  have HBC:Hid (BH xs costs m=c0):=by
   show BH xs costs m=c0;unfold BH;rw[HM.o.1,HM.o.2,aG,aG,HE.o.2.2.2,show e+1-a=d+1 by have:=HDE.o;omega]
  have HNB:Hid (¬B3 xs costs m):=fun hB=>by
   rcases hB with⟨t,x,i1,i2,i3,i4⟩|hB
   . rw[HM.o.1]at i1
     rw[HM.o.2]at i2;exact i4 (HE.o.2.2.1 (t-a) x (by have:=HDE.o;omega) (by rw[show a+(t-a)=t by omega];exact i3))
   . rw[HBC.o]at hB
     have:=HE.o.2.1.2;omega
  go_wp2_with fail
  exact bC (v:=.tuple #[.int .i64 c0,.bool true]) (by simp[results,Tryz.results58,go_sem]) rfl ⟨⟨c0,true,rfl,fun _=>⟨HNB.o,HBC.o.symm⟩,fun h=>by cases h⟩,HE.o.1.bel⟩
 have hltI:(j:Int)<(LL:Int):=by omega
 obtain⟨x,hx⟩:∃x,xs[a+j]?=some x:=⟨_,aA (by rw[HXL.o];have:=HLL.o;have:=HDE.o;omega)⟩;obtain⟨i0,i1,i2,i3⟩:=HC2.o wr HE.o.1.bel j x hx;have HX:=AS hx;clear hx;go_upto_region 5 with fail
 have E5:Hid (PB w (wr.alloc (.cells #[.int .i64 x.op,.int .i64 x.a,.int .i64 x.b,.int .i64 x.c] 60)) v a e nx/\Ak (wr.alloc (.cells #[.int .i64 x.op,.int .i64 x.a,.int .i64 x.b,.int .i64 x.c] 60)) wr.heap.size #[.int .i64 x.op,.int .i64 x.a,.int .i64 x.b,.int .i64 x.c] 60):=⟨HE.o.1.keep (Aa _ _),Ak.new _ _ _⟩
 generalize wr.heap.size=X at E5⊢;refine Al (fun u=>Hid (PB w u v a e nx/\Ak u X #[.int .i64 x.op,.int .i64 x.a,.int .i64 x.b,.int .i64 x.c] 60)) E5 ?_
 rintro U5 E6;clear E5 i0 i1 i2 i3;obtain⟨d0,d1,d2,d3⟩:=Em E6.o.2;go_wp2_with fail
 refine(KP x.op U5).mono ?_;rintro e u3 ⟨rfl,bb⟩;obtain⟨si,ci,fo,einfo,hci⟩:=CY x.op;rw[einfo];have hfield:=GW si ci fo;have HOP:=AS (MW einfo);have E7:Hid (PB w u3 v a e nx/\Ak u3 X #[.int .i64 x.op,.int .i64 x.a,.int .i64 x.b,.int .i64 x.c] 60):=⟨E6.o.1.keep bb,E6.o.2.keep bb⟩
 clear bb E6 d0 d1 d2 d3 einfo;obtain⟨d0,d1,d2,d3⟩:=Em E7.o.2;obtain⟨hci1,hci2⟩:=hci;have hc1:=HE.o.2.1.1;have hc2:=HE.o.2.1.2;by_cases hop:x.op=28
 case neg=>
  have hop':(x.op==28)=false:=by simpa using hop
  go_wp2_with fail
  refine(Er (c0+ci) u3).mono ?_;rintro e u4 ⟨rfl,rfl⟩;by_cases hbig:c0+ci<=4294967295
  . rw [decide_eq_true (show 0<=c0+ci/\c0+ci<=4294967295 from⟨by omega,hbig⟩)]
    go_wp2_with fail
    go_roundw
    case rel=>
     refine⟨j+1,c0+ci,by omega,rfl,by go_num,E7.o.1,⟨by omega,hbig⟩,fun t y ht hy=> ?_,?_⟩
     . by_cases e:t=j
       . subst e
         rw[HX.o]at hy;cases hy
         exact fun q=>absurd q hop
       . exact HE.o.2.2.1 t y (by omega) hy
     . have h9:Dk xs costs a (j+1)=Dk xs costs a j+D8 costs x:=by simp only[Dk,HX.o]
       rw[h9,<-HE.o.2.2.2];unfold D8;rw[bF hop,HOP.o];omega
    case measure=>simp[intOf];omega
  . rw[bI (show¬(0<=c0+ci/\c0+ci<=4294967295)from fun h=>hbig h.2)]
    have HBB:Hid (B3 xs costs m):=B3.of_part HOPN.o HM.o.1 HM.o.2 (k:=j) (by have:=HLL.o;have:=HDE.o;omega) (d:=c0+ci) (.inr ⟨x,HX.o,by have:=HLL.o;have:=HDE.o;omega,by rw[<-HE.o.2.2.2,HOP.o];exact Int.le_refl _⟩) (by omega) (by omega);go_wp2_with fail;exact bC (v:=.tuple #[.int .i64 0,.bool false]) (by simp[results,Tryz.results58,go_sem]) rfl ⟨⟨0,false,rfl,(fun h=>by cases h),fun _=>HBB.o⟩,E7.o.1.bel⟩
 have hxa0:=HK.o.2 x (aE HX.o) hop;obtain⟨cq,hxa⟩:=aT hxa0;clear hxa0;have HXA:=AS (aq hop hxa);have HBC:Hid (¬IZ costs x->B3 xs costs m):=fun hq=>.inl ⟨a+j,x,by rw[HM.o.1];omega,by rw[HM.o.2];have:=HLL.o;have:=HDE.o;omega,HX.o,hq⟩
 rw[hxa]at d1;rw[hop]at d0;clear hop hxa;go_wp2_with fail
 refine(Ay (cq:Int) (costs.length:Int) u3).mono ?_;rintro e u4 ⟨rfl,rfl⟩;by_cases hcq:cq<costs.length
 case neg=>
  rw[bI (show¬(0<=(cq:Int)/\(cq:Int)<(costs.length:Int))from fun h=>hcq (by omega))]
  have HBB:Hid (B3 xs costs m):=HBC.o fun h=>by have:=(h HXA.o.1).1;rw[HXA.o.2,aG]at this;exact hcq this
  go_wp2_with fail
  exact bC (v:=.tuple #[.int .i64 0,.bool false]) (by simp[results,Tryz.results58,go_sem]) rfl ⟨⟨0,false,rfl,(fun h=>by cases h),fun _=>HBB.o⟩,E7.o.1.bel⟩
 rw[decide_eq_true (show 0<=(cq:Int)/\(cq:Int)<(costs.length:Int)from⟨by omega,by omega⟩)]
 obtain⟨z,hz⟩:∃z,costs[cq]?=some z:=⟨_,aA hcq⟩
 obtain⟨ga,oa,ea,kz⟩:∃ga oa,ca=some ⟨ga,oa,none⟩/\u4.cell? ⟨ga,oa+cq,none⟩=some (.int .i64 z):=by
  have:=Rd.keep HK.o.1 E7.o.1.bel lR;rcases this.2 with⟨e0,_⟩|⟨g1,o1,c1',e1,hc⟩
  . omega
  . simp only[aF,aw]at e1
    exact⟨g1,o1,e1.1,hc cq _ (Ew hz)⟩
 subst ea;have HCZ:Hid (cf costs x.a.toNat=z/\x.a.toNat<costs.length):=⟨by rw[HXA.o.2,aG];exact DI hz,by rw[HXA.o.2,aG];exact hcq⟩
 have hcqI:(cq:Int)<(costs.length:Int):=by omega
 clear hz;go_wp2_with fail
 refine(Er z u4).mono ?_;rintro e u5 ⟨rfl,rfl⟩;by_cases hzz:0<=z/\z<=4294967295
 case neg=>
  rw[bI hzz];have HBB:Hid (B3 xs costs m):=HBC.o fun h=>hzz (by have:=(h HXA.o.1).2;rw[HCZ.o.1]at this;exact this)
  go_wp2_with fail
  exact bC (v:=.tuple #[.int .i64 0,.bool false]) (by simp[results,Tryz.results58,go_sem]) rfl ⟨⟨0,false,rfl,(fun h=>by cases h),fun _=>HBB.o⟩,E7.o.1.bel⟩
 rw[decide_eq_true hzz];obtain⟨hz0,hz1⟩:=hzz
 have HS9:Hid (Dk xs costs a (j+1)=c0+ci+z):=by
  have h9:Dk xs costs a (j+1)=Dk xs costs a j+D8 costs x:=by simp only[Dk,HX.o]
  show Dk xs costs a (j+1)=c0+ci+z;rw[h9,<-HE.o.2.2.2];unfold D8;rw[a8 HXA.o.1,HOP.o,HCZ.o.1];omega
 go_wp2_with fail
 refine(Er (c0+ci+z) u5).mono ?_;rintro e u6 ⟨rfl,rfl⟩;by_cases hbig:c0+ci+z<=4294967295
 . rw [decide_eq_true (show 0<=c0+ci+z/\c0+ci+z<=4294967295 from⟨by omega,hbig⟩)]
   go_wp2_with fail
   go_roundw
   case rel=>
    refine⟨j+1,c0+ci+z,by omega,rfl,by go_num,E7.o.1,⟨by omega,hbig⟩,fun t y ht hy=> ?_,HS9.o.symm⟩;by_cases e:t=j
    . subst e
      rw[HX.o]at hy;cases hy
      exact fun _=>⟨HCZ.o.2,by rw[HCZ.o.1];exact hz0,by rw[HCZ.o.1];exact hz1⟩
    . exact HE.o.2.2.1 t y (by omega) hy
   case measure=>simp[intOf];omega
 . rw[bI (show¬(0<=c0+ci+z/\c0+ci+z<=4294967295)from fun h=>hbig h.2)]
   have HBB:Hid (B3 xs costs m):=B3.of_part HOPN.o HM.o.1 HM.o.2 (k:=j+1) (by have:=HLL.o;have:=HDE.o;omega) (d:=c0+ci+z) (.inl (by rw[HS9.o];exact Int.le_refl _)) (by omega) (by omega);go_wp2_with fail;exact bC (v:=.tuple #[.int .i64 0,.bool false]) (by simp[results,Tryz.results58,go_sem]) rfl ⟨⟨0,false,rfl,(fun h=>by cases h),fun _=>HBB.o⟩,E7.o.1.bel⟩
section
open Go.Shelf
attribute [local go_sem] Oper.semAt_some
def RH(Q:Exit->Act->World->Prop):Exit->Act->World->Prop
 |.panic _,_,_=>False
 |e,a,w=>Q e a w
theorem Qh{P:Program}{c:Code}{Q:Exit->Act->World->Prop}{a:Act}{w:World}(h:c.wp P (RH Q) a w):c.wp P Q a w:=fun b k cs=>by
 obtain⟨e,a',w',q,r⟩:=h b k cs;refine⟨e,a',w',?_,r⟩;cases e<;>first|exact q|exact q.elim
structure Nh(w:World)(v:Bz)(p:MP)(fi:Int)(F:List (MB×Value))(xs:List MI)(r:Dm)(costs:List Int)(ca:Option Addr)(cc:Nat)(O:List Nat)(D L:Nat->Nat->Bool):Prop where
 bd:Ow w v p fi F xs r
 gd:Gd r (nx r.blocks) r.blocks.length O D L
 wy:Q9 w v r.blocks.length (nx r.blocks) O.reverse (B8 O)
 hnx:∀b m,r.blocks[b]?=some m->m.next=ints (nx r.blocks b)
 n0:0<r.blocks.length
 cl:costs.length<=1048576
 ck:Rd w 1 (.slice ca costs.length cc) costs.length (costs.flatMap Ac)
 x28:∀x∈xs,x.op=28->0<=x.a
 iv:∀t∈p.certs,CW t.init
theorem Nh.keep{w u:World}{v:Bz}{p:MP}{fi:Int}{F:List (MB×Value)}{xs:List MI}{r:Dm}{costs:List Int}{ca:Option Addr}{cc:Nat}{O:List Nat}{D L:Nat->Nat->Bool}(h:Nh w v p fi F xs r costs ca cc O D L)(hb:Below w.heap.size w u):Nh u v p fi F xs r costs ca cc O D L:=
 {h with bd:=h.bd.keep hb,wy:=h.wy.keep hb,ck:=h.ck.keep hb lR}
theorem NT{xs:List MI}{costs:List Int}{m:MB}(h:¬B3 xs costs m){a e:Nat}(h1:m.first=(a:Int))(h2:m.last=(e:Int)):CW (BH xs costs m):=by
 have hop:∀op,0<=KM op:=fun op=>MV op (CY op)
 refine⟨?_,?_⟩
 . have:=GL hop (xs:=xs) (costs:=costs) (a:=m.first.toNat) (dq (m.last.toNat+1-m.first.toNat)) fun j x _ h4 h5=>cQ fun q=>h (.inl ⟨m.first.toNat+j,x,by omega,by omega,h5,q⟩)
   exact this
 . have:¬4294967295<BH xs costs m:=fun q=>h (.inr q)
   omega
theorem L8.put{w u:World}{v:Bz}{y:Int}{d:Nat}(h:L8 w u v y)(hd:u.heap[d]?=some (.deferred (some [])))(hw:w.heap.size<=d):L8 w (u.putObj d (.deferred none)) v y:=by
 have hg:=grownBy_putObj' u d (.deferred none);have hr:∀r,some d=some r->∃o:Obj,u.heap[r]?=some o/\o.isCells=false:=fun r e=>by cases e;exact⟨_,hd,rfl⟩
 exact⟨h.body.held hg hr,h.res.held hg hr,h.bel.grown hg h.bel.size (fun k e=>by cases e;exact hw)⟩
theorem BC.blk_chg{u u':World}{B CB:Nat}{v:Bz}{n gC cC gS cS:Nat}{I:List Nat}{C:List Int}(h:BC u B CB v n gC cC gS cS I C)(hc:Et (Cg gC gS) u u'){b:Nat}{cur:Array Value}{t:TypeId}(hb:Ak u b cur t)(hne:t≠2):Ak u' b cur t:=by
 obtain⟨_,c1,e1⟩:=Am h.co;obtain⟨_,c2,e2⟩:=Am h.st;refine(hc.block b (aQ.1 hb).1 ?_).trans hb;unfold Ak at hb;rintro(rfl|rfl)
 . rw[e1]at hb;cases hb;exact hne rfl
 . rw[e2]at hb;cases hb;exact hne rfl
theorem Au.cert{p:MP}{fi:Int}{xs:List MI}{bs:List MB}{l:ML}(h:Au p fi xs bs l 0):∃m t,bs[l.head.toNat]?=some m/\Bh p.certs fi m.first=some t:=by
 obtain⟨m,e,⟨_,q⟩|⟨t,g,q,_⟩⟩:=h
 . cases q
 . exact⟨m,t,e,q⟩
section
variable {w0:World} {v:Bz} {p:MP} {fi:Int} {F:List (MB×Value)} {xs:List MI} {r:Dm} {costs:List Int} {ca:Option Addr} {cc:Nat} {O:List Nat} {D L:Nat->Nat->Bool} {zs:List LV}
theorem Nh.lp(H:Nh w0 v p fi F xs r costs ca cc O D L)(hl:∀l∈r.loops,Au p fi xs r.blocks l 0)(z1:zs.length=r.loops.length)(z2:∀(k:Nat) (m:ML) (x:LV),r.loops[k]?=some m->zs[k]?=some x->RB w0 m x){x:LV}(hx:x∈zs):∃(l:ML) (h:Nat) (m:MB) (t:MT),l∈r.loops/\l.head=(h:Int)/\x=⟨(h:Int),x.xa,l.back.length,x.xc,x.ya,l.blocks.length,x.yc⟩/\Nl w0 (l,.slice x.xa l.back.length x.xc,.slice x.ya l.blocks.length x.yc)/\r.blocks[h]?=some m/\Bh p.certs fi m.first=some t/\CW t.init/\Fp p fi r.blocks h=t.init/\Au p fi xs r.blocks l 0/\∀z∈l.back,∃b:Nat,z=(b:Int)/\b<r.blocks.length:=by
 obtain⟨j,hj⟩:=bH hx;have hjl:j<r.loops.length:=by rw[<-z1];exact(aD.1 hj).1
 have hlj:=aA hjl;obtain⟨e1,e2,e3,hrd⟩:=z2 j _ x hlj hj;have hm:=aE hlj;generalize r.loops[j]=l at e1 e2 e3 hrd hm;clear hlj;obtain⟨⟨h,eh,hh⟩,_⟩:=H.bd.inn.loop l hm;obtain⟨m,t,q1,q2⟩:=(hl l hm).cert;rw[eh,aG]at q1;obtain⟨el,_⟩:=H.gd.at_ hm eh;refine⟨l,h,m,t,hm,eh,?_,?_,q1,q2,H.iv t (List.mem_of_find?_eq_some q2),?_,hl l hm,fun z hz=> ?_⟩
 . cases x
   simp only at e1 e2 e3;rw[e1,e2,e3,eh]
 . rw[e2,e3]at hrd
   exact hrd
 . unfold Fp
   simp only[q1,q2]
 . rw[el]at hz
   obtain⟨b,hb,rfl⟩:=au.1 hz;exact⟨b,rfl,H.gd.fl.in_lt hh ((H.gd.il _ _).1 (H.gd.bk b hb))⟩
theorem Nh.step(H:Nh w0 v p fi F xs r costs ca cc O D L){pre:List {x:LV//x∈zs}}{x:{x:LV//x∈zs}}{I I2:List Nat}{C C2:List Int}{l:ML}{h:Nat}{t:MT}{b:Bool}(hlp:∀sl:List ML,sl.Perm r.loops->sl.Pairwise Fs->I5 pre sl->Fk p fi costs xs r D L sl pre.length false I C)(hm:l∈r.loops)(eh:l.head=(h:Int))(ex:x.1.h=(h:Int))(hiv:Fp p fi r.blocks h=t.init)(hc:CW t.init)(h0:Au p fi xs r.blocks l 0)(hcl:C.length=r.blocks.length)(hG:PH (nx r.blocks) r.blocks.length r.blocks l I C h (B8 O) t.init b I2 C2):
 (b=true->∀sl:List ML,sl.Perm r.loops->sl.Pairwise Fs->I5 (pre++[x]) sl->Fk p fi costs xs r D L sl (pre++[x]).length false I2 C2)/\(b=false->∀sl:List ML,sl.Perm r.loops->sl.Pairwise Fs->I5 (pre++[x]) sl->QA p fi xs r costs D L sl (-1)):=by
 have key:∀sl:List ML,sl.Perm r.loops->sl.Pairwise Fs->I5 (pre++[x]) sl->(b=true->Fk p fi costs xs r D L sl (pre++[x]).length false I2 C2)/\(b=false->QA p fi xs r costs D L sl (-1)):=fun sl hp hs hpre=>by
  obtain⟨q1,l',hk,hh'⟩:=hpre.init;have hm':=hp.mem_iff.1 (aE hk);rw[ex]at hh';have e:l'=l:=(H.gd.at_ hm' hh').1.trans (H.gd.at_ hm eh).1.symm;subst e;rw[aH];exact(hlp sl hp hs q1).goI H.gd H.hnx hp hs hk hm eh h0 hiv hc.1 hcl hG
 exact⟨fun e sl h1 h2 h3=>(key sl h1 h2 h3).1 e,fun e sl h1 h2 h3=>(key sl h1 h2 h3).2 e⟩
theorem Nh.sorted(H:Nh w0 v p fi F xs r costs ca cc O D L)(z1:zs.length=r.loops.length)(z2:∀(k:Nat) (m:ML) (x:LV),r.loops[k]?=some m->zs[k]?=some x->RB w0 m x){ts:List LV}(hp:ts.Perm zs)(hs:I8 ts){pre:List {x:LV//x∈zs}}(hpre:pre.map Subtype.val<+:ts):∃sl:List ML,sl.Perm r.loops/\sl.Pairwise Fs/\I5 pre sl/\ts.length=sl.length:=by
 obtain⟨sl,q1,q2,q3,q4⟩:=Q3 hp hs z1 z2 (H.gd.rise.imp fun h=>by omega);refine⟨sl,q1,q2,fun k x hx=>q4 k x.1 ?_,q3⟩;obtain⟨u,hu⟩:=hpre;rw[<-hu,bG (by rw[a7];exact(aD.1 hx).1),bB,hx];rfl
end
theorem OS(v:Bz)(p:MP)(fi:Int)(F:List (MB×Value))(xs:List MI)(r:Dm)(costs:List Int)(ca:Option Addr)(cc:Nat)(O:List Nat)(D L:Nat->Nat->Bool)(w:World)(hB:Nh w v p fi F xs r costs ca cc O D L):
 Calls Tryz.prog 30 #[.agg v.cells,.slice ca costs.length cc] w fun e w'=>∃x,e=.returned (.int .i64 x)/\Ma p fi costs xs r x/\Below w.heap.size w w':=by
 obtain⟨k0,hk0,hx0,hx1,hx2⟩:=bQ BE;have H:=AS hB;clear hB;obtain⟨CN,hCN⟩:∃CN,costs.length=CN:=⟨_,rfl⟩;have HCN:=AS hCN;rw[hCN];clear hCN;have E0:=Bw w v.cells #[.int .i64 0] 85 2;refine(callsIn_wide (n:=5)).1 ?_;refine callsIn_of_wp_marks Tryz.func30 rfl trivial ?_ rfl;simp only[Tryz.ntmps30,List.size_toArray,dJ,dz,Nat.reduceAdd,Nat.reduceSub,Array.replicate_succ,Array.replicate_zero,List.push_toArray,List.append_toArray,dY,cA];refine wpIn_wide.2 (Qh ?_);go_upto_region 1 with fail
 refine Al (fun u=>Hid (L8 w u v 0)) ⟨E0.1,E0.2.1,E0.2.2⟩ ?_;rintro U HE;clear E0;obtain⟨p0,p1,p2,p3,p4,p5,p6,p7,p8,p9,p10,p11,p12,p13,p14⟩:=Cl HE.o.body;go_wp2_with fail
 clear p0 p1 p2 p3 p4 p5 p6 p7 p8 p9 p10 p11 p12 p13 p14;refine(Ig v p fi F xs r U (H.o.bd.keep HE.o.bel)).mono ?_;rintro e u1 ⟨⟨h,x,y,b,rfl,k1,k2⟩,bb⟩;have E1:Hid (L8 w u1 v 0):=HE.o.keep bb;clear HE bb;cases b
 case true=>
  have r0:=E1.o.res.frozen 0;have HV:Hid (Ma p fi costs xs r (-1)):=.inl ⟨.inl (k1 rfl),rfl⟩;go_upto_region 3 with fail
  refine Al (fun u=>Hid (L8 w u v 0)) (E1.o.keep (Aa _ _)) ?_;rintro U2 E2;have r0:=E2.o.res.cell 0;have r1:=E2.o.res.frozen 0;simp only[am,aM]at r0;have E3:=AS (E2.o.set (-1));go_wp2_with fail
  exact⟨_,by simp[results,Tryz.results30,go_sem,r0],_,rfl,HV.o,E3.o.bel⟩
 have HL0:=AS (k2 rfl);clear k1 k2;go_upto_region 4 with fail
 refine Al (fun u=>Hid (L8 w u v 0)) (E1.o.keep (Aa _ _)) ?_;rintro w0 HE;have H0:=AS (H.o.keep HE.o.bel);have HWK:Hid (∀u,Below w0.heap.size w0 u->L8 w u v 0):=fun u hu=>HE.o.keep hu
 obtain⟨p0,p1,p2,p3,p4,p5,p6,p7,p8,p9,p10,p11,p12,p13,p14⟩:=Cl HE.o.body;clear E1 H U;go_upto_region 5 with fail
 refine Al (fun u=>Hid (I4 u w0.heap.size w0.heap.size (w0.heap.size+1) v (.slice none 0 0) (.slice none 0 0) 0 0 []/\Below w0.heap.size w0 u)) (by
  have E0:=Bw w0 (FY v (.slice none 0 0) (.slice none 0 0)) #[.pointer (some ⟨w0.heap.size,0,none⟩)] 128 126;exact⟨⟨E0.1,bL _ _ _ _,bL _ _ _ _,fun g h=>(by cases h),Nat.le_refl _,E0.2.1⟩,E0.2.2⟩) ?_
 rintro U HC;clear p0 p1 p2 p3 p4 p5 p6 p7 p8 p9 p10 p11 p12 p13 p14;have p11:=(HWK.o U HC.o.2).body.cell 11;simp only[Bz.cells]at p11;obtain⟨ba,bc,eb⟩:=H0.o.bd.bs.rd.is_slice;simp only[aF]at eb;have HBN:Hid (v.b.n=F.length/\F.length=r.blocks.length):=⟨eb.2.1,H0.o.bd.fl⟩
 have hlen:F.length<=1024:=H0.o.bd.bs.len;clear eb ba bc;obtain⟨ba,hba⟩:∃ba,v.b.a=ba:=⟨_,rfl⟩;have HBA:=AS hba;clear hba;simp only[HBN.o.1,HBA.o]at p11;go_wp2_with fail
 clear p11;go_loopw [28] (fun i wr=>∃(k:Nat) (va:Option Addr) (vc:Nat) (sa:Option Addr) (sc:Nat),k<=F.length/\i=.int .i64 k/\Hid (I4 wr w0.heap.size w0.heap.size (w0.heap.size+1) v (.slice va k vc) (.slice sa k sc) k k ((r.blocks.take k).map (BH xs costs))/\Below w0.heap.size w0 wr/\∀m∈r.blocks.take k,¬B3 xs costs m)) (fun i _=>F.length-(intOf i).toNat)
 case atStart=>exact⟨0,none,0,none,0,by omega,rfl,HC.o.1,HC.o.2,fun m hm=>by simp at hm⟩
 case round=>
 clear HC;obtain⟨k,va,vc,sa,sc,hk1,rfl,HS⟩:=hrel;by_cases hlt:k<F.length
 case pos=>
  have hltI:(k:Int)<(F.length:Int):=by omega
  obtain⟨m,g,o,ma,me,nxv,hm,eg,en,i0,i1,i2,e1,e2,hme,hme2,hFk⟩:=(H0.o.bd.bs.keep HS.o.2.1).at hlt;obtain⟨na,nc,enx⟩:=(H0.o.bd.nx _ (aE hFk)).1.is_slice;simp only[]at enx;subst enx;have HM:Hid (r.blocks[k]?=some m/\m.first=(ma:Int)/\m.last=(me:Int)/\ma<=me/\me<xs.length):=⟨by rw[<-H0.o.bd.eb];exact hm,e1,e2,hme,hme2⟩
  obtain rfl:ba=some ⟨g,o,none⟩:=by rw[<-HBA.o];exact eg
  clear hm eg en e1 e2 hFk hme hme2;go_upto_region 8 with fail
  have HBK:Hid (Below wr.heap.size wr (wr.alloc (.cells #[.int .i64 (ma:Int),.int .i64 (me:Int),.slice na m.next.length nc] 58))):=Aa _ _;refine Al (fun u=>Hid (Ak u wr.heap.size #[.int .i64 (ma:Int),.int .i64 (me:Int),.slice na m.next.length nc] 58/\Below wr.heap.size wr u)) ⟨Ak.new _ _ _,HBK.o⟩ ?_
  rintro U8 E8;clear i0 i1 i2 HBK;have HS8:Hid (I4 U8 w0.heap.size w0.heap.size (w0.heap.size+1) v (.slice va k vc) (.slice sa k sc) k k ((r.blocks.take k).map (BH xs costs))/\Below w0.heap.size w0 U8):=⟨HS.o.1.keep E8.o.2,Ab HS.o.2.1 lR E8.o.2⟩
  have HNB:=AS HS.o.2.2;obtain⟨p0,p1,p2,p3,p4,p5,p6,p7,p8,p9,p10,p11,p12,p13,p14⟩:=Cl (HWK.o U8 HS8.o.2).body;obtain⟨b0,b1,b2⟩:=BI E8.o.1;clear HS E8;go_wp2_with fail
  clear p0 p1 p2 p3 p4 p5 p6 p7 p8 p9 p10 p11 p12 p13 p14 b0 b1 b2;have hcb:=Jb v (.slice na m.next.length nc) xs costs m ca cc U8 H0.o.bd.bs.top (H0.o.bd.cd.code.keep HS8.o.2 lR) H0.o.bd.cd.cap H0.o.cl (H0.o.ck.keep HS8.o.2 lR) H0.o.x28 ⟨ma,me,HM.o.2⟩;rw[HM.o.2.1,HM.o.2.2.1,HCN.o]at hcb;refine hcb.mono ?_;clear hcb;rintro e u9 ⟨⟨s,b,rfl,k1,k2⟩,bb⟩;have HS9:Hid (I4 u9 w0.heap.size w0.heap.size (w0.heap.size+1) v (.slice va k vc) (.slice sa k sc) k k ((r.blocks.take k).map (BH xs costs))/\Below w0.heap.size w0 u9):=⟨HS8.o.1.keep bb,Ab HS8.o.2 lR bb⟩
  clear HS8 bb;cases b
  case false=>
   have HV:Hid (Ma p fi costs xs r (-1)):=.inl ⟨.inr ⟨m,aE HM.o.1,k2 rfl⟩,rfl⟩;have E2:=AS (HWK.o u9 HS9.o.2);have r0:=E2.o.res.cell 0;have r1:=E2.o.res.frozen 0;simp only[am,aM]at r0;have E3:=AS (E2.o.set (-1));clear k1 k2;go_wp2_with fail
   exact⟨_,by simp[results,Tryz.results30,go_sem,r0],_,rfl,HV.o,E3.o.bel⟩
  have HOK:=AS (k1 rfl);clear k1 k2;go_upto_region 11 with fail
  refine CR 10 (S:=fun W=>W.cell? ⟨w0.heap.size+1,0,none⟩=some (.pointer (some ⟨w0.heap.size,0,none⟩))/\W.cell? ⟨w0.heap.size,15,none⟩=some (.slice va k vc)) (by kernel_rfl) ⟨(HS9.o.1.keep (Ae _)).cells.1,(HS9.o.1.keep (Ae _)).cells.2.1⟩ (fun hHeld=> ?_)
  have D0:Hid (I4 u9.drew w0.heap.size w0.heap.size (w0.heap.size+1) v (.slice va k vc) (.slice sa k sc) k k ((r.blocks.take k).map (BH xs costs))/\Below w0.heap.size w0 u9.drew):=⟨HS9.o.1.keep (Ae _),Ab HS9.o.2 lR (Ae _)⟩
  clear HS9;generalize u9.drew=UD at D0 hHeld⊢;refine EC 0 ?_ (hw:=by kernel_rfl);refine EC 1 ?_ (hw:=by kernel_rfl);refine EC 2 ?_ (hw:=by kernel_rfl);refine EC 3 ?_ (hw:=by kernel_rfl);refine EC 4 ?_ (hw:=by kernel_rfl);refine EC 5 ?_ (hw:=by kernel_rfl);go_simp;refine QZ 6 ?_;intro KC hKC;rw[a8 (by kernel_rfl)];go_simp;have D3:Hid (I4 (UD.alloc (.cells #[.int .i64 s] 2)) w0.heap.size w0.heap.size (w0.heap.size+1) v (.slice va k vc) (.slice sa k sc) k k ((r.blocks.take k).map (BH xs costs))/\Below w0.heap.size w0 (UD.alloc (.cells #[.int .i64 s] 2))):=⟨D0.o.1.keep (Aa _ _),Ab D0.o.2 lR (Aa _ _)⟩
  refine hKC.o _ _ (fun _=>⟨D3.o.1.cells.1,D3.o.1.cells.2.1⟩) (fun hH=> ?_);clear hKC KC D0;have hHeld:=hH (by decide);clear hH;refine QZ 7 ?_;intro KC hKC;have O3:=AS D3.o.1.co;have hs3:=D3.o.2.size;refine step_append_lies _ rfl (.tmp 46) (.tmp 48) 28 rfl w0.heap.size 2 k0 (.int .i64 0) 1 8 Tryz.underlying28 hk0 hx0 hx1 hx2 rfl (by decide) (.slice va k vc) k (((r.blocks.take k).map (BH xs costs)).flatMap Ac) (by simp[Act.eval]) O3.o ⟨UD.heap.size,0,none⟩ 1 1 [.int .i64 s] (by simp[Act.eval]) rfl (Go.cell_one_new _ _ _) (fun u hu=>by simp at hu;subst hu;rfl) (by omega) (by unfold maxLen;omega) (by omega) hs3 _ rfl ?_;intro gg cap u8 hown hgrow hat _;have D4:=AS (D3.o.1.pushC hown hgrow hat);have HB8:Hid (Below w0.heap.size w0 (u8.setCell ⟨w0.heap.size,15,none⟩ (.slice (some ⟨gg,0,none⟩) (k+1) cap))):=(D3.o.2.grown hgrow hs3 (fun i hi=>(O3.o.lt i hi).1)).setCell lR _;have y0:=D4.o.2.1;have y1:=D4.o.2.2.1;have y2:=D4.o.2.2.2;have D5:=AS D4.o.1;clear hown hgrow hat O3 D3 D4 hHeld;refine hKC.o _ _ (fun _=>⟨y0,y1⟩) (fun hH=> ?_);clear hKC KC;have hHeld:=hH (by decide);clear hH;refine EC 8 ?_ (hw:=by kernel_rfl);refine EC 9 ?_ (hw:=by kernel_rfl);go_simp;refine QZ 10 ?_;intro KC hKC
  rw[a8 (by kernel_rfl)];go_simp;refine hKC.o _ _ (fun h=>absurd h (by decide)) (fun hH=> ?_);clear hKC KC hH hHeld;refine Fa (by kernel_rfl) ?_ _;generalize u8.setCell ⟨w0.heap.size,15,none⟩ (.slice (some ⟨gg,0,none⟩) (k+1) cap)=W5 at D5 HB8⊢;clear y0 y1 y2;go_upto_region 12 with fail
  refine CR 10 (S:=fun W=>W.cell? ⟨w0.heap.size+1,0,none⟩=some (.pointer (some ⟨w0.heap.size,0,none⟩))/\W.cell? ⟨w0.heap.size,16,none⟩=some (.slice sa k sc)) (by kernel_rfl) ⟨(D5.o.keep (Ae _)).cells.1,(D5.o.keep (Ae _)).cells.2.2⟩ (fun hHeld=> ?_)
  have D0:Hid (I4 W5.drew w0.heap.size w0.heap.size (w0.heap.size+1) v (.slice (some ⟨gg,0,none⟩) (k+1) cap) (.slice sa k sc) (k+1) k ((r.blocks.take k).map (BH xs costs)++[s])/\Below w0.heap.size w0 W5.drew):=⟨D5.o.keep (Ae _),Ab HB8.o lR (Ae _)⟩
  clear D5 HB8;generalize W5.drew=UD at D0 hHeld⊢;refine EC 0 ?_ (hw:=by kernel_rfl);refine EC 1 ?_ (hw:=by kernel_rfl);refine EC 2 ?_ (hw:=by kernel_rfl);refine EC 3 ?_ (hw:=by kernel_rfl);refine EC 4 ?_ (hw:=by kernel_rfl);refine EC 5 ?_ (hw:=by kernel_rfl);go_simp;refine QZ 6 ?_;intro KC hKC;rw[a8 (by kernel_rfl)];go_simp;have D3:Hid (I4 (UD.alloc (.cells #[.int .i64 (k:Int)] 2)) w0.heap.size w0.heap.size (w0.heap.size+1) v (.slice (some ⟨gg,0,none⟩) (k+1) cap) (.slice sa k sc) (k+1) k ((r.blocks.take k).map (BH xs costs)++[s])/\Below w0.heap.size w0 (UD.alloc (.cells #[.int .i64 (k:Int)] 2))):=⟨D0.o.1.keep (Aa _ _),Ab D0.o.2 lR (Aa _ _)⟩
  refine hKC.o _ _ (fun _=>⟨D3.o.1.cells.1,D3.o.1.cells.2.2⟩) (fun hH=> ?_);clear hKC KC D0;have hHeld:=hH (by decide);clear hH;refine QZ 7 ?_;intro KC hKC;have O3:=AS D3.o.1.st;have hs3:=D3.o.2.size;refine step_append_lies _ rfl (.tmp 56) (.tmp 58) 28 rfl w0.heap.size 2 k0 (.int .i64 0) 1 8 Tryz.underlying28 hk0 hx0 hx1 hx2 rfl (by decide) (.slice sa k sc) k (nv (List.range k)) (by simp[Act.eval]) O3.o ⟨UD.heap.size,0,none⟩ 1 1 [.int .i64 (k:Int)] (by simp[Act.eval]) rfl (Go.cell_one_new _ _ _) (fun u hu=>by simp at hu;subst hu;rfl) (by omega) (by unfold maxLen;omega) (by omega) hs3 _ rfl ?_;intro gs cas u8 hown hgrow hat _;have D4:=AS (D3.o.1.pushS hown hgrow hat);have HB8:Hid (Below w0.heap.size w0 (u8.setCell ⟨w0.heap.size,16,none⟩ (.slice (some ⟨gs,0,none⟩) (k+1) cas))):=(D3.o.2.grown hgrow hs3 (fun i hi=>(O3.o.lt i hi).1)).setCell lR _;have y0:=D4.o.2.1;have y1:=D4.o.2.2.1;have y2:=D4.o.2.2.2;have D5:=AS D4.o.1;clear hown hgrow hat O3 D3 D4 hHeld;refine hKC.o _ _ (fun _=>⟨y0,y1⟩) (fun hH=> ?_);clear hKC KC;have hHeld:=hH (by decide);clear hH;refine EC 8 ?_ (hw:=by kernel_rfl);refine EC 9 ?_ (hw:=by kernel_rfl);go_simp;refine QZ 10 ?_;intro KC hKC;rw[a8 (by kernel_rfl)]
  go_simp;refine hKC.o _ _ (fun h=>absurd h (by decide)) (fun hH=> ?_);clear hKC KC hH hHeld;refine Fa (by kernel_rfl) ?_ _;generalize u8.setCell ⟨w0.heap.size,16,none⟩ (.slice (some ⟨gs,0,none⟩) (k+1) cas)=W6 at D5 HB8⊢;clear y0 y1 y2;go_wp2_with fail
  go_roundw
  case rel=>
   have hT:r.blocks.take (k+1)=r.blocks.take k++[m]:=by rw[List.take_add_one,HM.o.1];rfl
   refine⟨k+1,some ⟨gg,0,none⟩,cap,some ⟨gs,0,none⟩,cas,by omega,by go_num,?_,HB8.o,?_⟩
   . rw[hT,bx,List.map_singleton,<-HOK.o.2]
     exact D5.o
   . rw[hT]
     intro q hq;rcases aU.1 hq with q1|q1
     . exact HNB.o q q1
     . rw[dU]at q1
       rw[q1];exact HOK.o.1
  case measure=>simp[intOf];omega
 obtain rfl:k=F.length:=by omega
 have hs:=HS.o;rw[HBN.o.2,List.take_length]at hs
 have hcst:∀y∈r.blocks.map (BH xs costs),CW y:=fun y hy=>by
  obtain⟨m,hm,rfl⟩:=au.1 hy;obtain⟨i,hi⟩:=bH hm;obtain⟨a,e,h1,h2,_⟩:=H0.o.bd.inn.blk i m hi;exact NT (hs.2.2 m hm) h1 h2
 obtain⟨gC,cC,gS,cS,hco⟩:=hs.1.whole H0.o.n0 (by simp) hcst;obtain⟨zs,z1,z2,z3⟩:=Rx H0.o.bd.ls;have HI:Hid (PE w0 v p fi xs r costs D L gC cC gS cS zs [] wr):=⟨⟨_,_,hco,fun sl _ _ _=>Fk.start H0.o.gd (by simp) hcst ⟨(fun e=>by cases e),fun _ b m hb hm=>⟨hs.2.2 m (aE hm),DI (by rw[bB,hm];rfl)⟩⟩⟩,hs.1.tb,hs.2.1⟩;have HZ:=AS (aq z1 (aq z2 z3));have HNB:=AS hs.2.2;clear hs hco hcst z1 z2 z3 HS hlt hk1;have hzl:zs.length<=1024:=by rw[HZ.o.1];exact H0.o.bd.inn.nl
 have p14:=(HWK.o wr HI.o.bel).body.cell 14;simp only[Bz.cells]at p14;have eq:v.q.n=zs.length:=by rw[HZ.o.1];exact H0.o.bd.ln
 simp only[eq]at p14;clear eq;obtain⟨qa,hqa⟩:∃qa,v.q.a=qa:=⟨_,rfl⟩;have HQA:=AS hqa;simp only[hqa]at p14;clear hqa;go_wp2_with fail
 clear p14;refine(Jl qa zs.length v.q.c wr).mono ?_;rintro e u2 ⟨rfl,b1,b2,bb⟩;have HI2:Hid (PE w0 v p fi xs r costs D L gC cC gS cS zs [] u2):=HI.o.keep bb;have HB12:=AS (aq b1 b2);clear b1 b2 bb HI;go_wp2_with fail
 refine(wpIn_wide (n:=5)).1 ?_;have hn1:w.heap.size<=u2.heap.size:=(HWK.o u2 HI2.o.bel).bel.size;have hn2:w0.heap.size<=u2.heap.size:=HI2.o.bel.size;obtain⟨⟨I0,C0,hco0,_⟩,_,_⟩:=HI2.o;have hsz:=hco0.sz;clear hco0
 refine Qb gC gS rfl (enters_of Tryz.func97 (by kernel_rfl) rfl) (Hb 4 (by omega) wr.heap.size (wr.heap.size+1) v.q.c gC gS qa zs (by omega) u2 hsz.1 hsz.2 (by rw[HB12.o.1.cell];rfl) (by rw[HB12.o.2.cell];rfl) (fun hz=>by
  obtain⟨b,off,h1,h2,h3⟩:=(HZ.o.2.2.keep HI2.o.bel) hz;exact⟨b,off,by rw[<-HQA.o];exact h1,by omega,h3⟩))
  (PE w0 v p fi xs r costs D L gC cC gS cS zs) (Rz w v p fi xs r costs D L zs) (PE.own hn2) (Rz.own hn1) HI2.o ?assign ?body ?done ?stop
 case assign=>
  rintro l pre ⟨x,hx⟩ W K hi hK;simp only[LV.arr]at hK⊢;gi_wp2
  have q:=hK _ ((KeepsOthers.alloc W (.cells #[.int .i64 x.h,.slice x.xa x.xn x.xc,.slice x.ya x.yn x.yc] 68)).from _) (Gs.of (Aa _ _)) (hi.keep (Aa _ _)) W.heap.size (Ak.new W _ _);simp only[cu,bj,b7]at q;exact q
 case body=>
  rintro l pre ⟨x,hx⟩ Bx W bX hi;obtain⟨lm,h,m,t,hm,eh,ex,hrd,hmb,hct,hcs,hiv,hli,hbk⟩:=H0.o.lp HL0.o HZ.o.1 HZ.o.2.1 hx;obtain⟨⟨I,C,hco,hlp⟩,htb,hbel⟩:=hi;have HST:=AS (fun b I2 C2 hG=>H0.o.step (x:=⟨x,hx⟩) (I2:=I2) (C2:=C2) (b:=b) hlp hm eh (congrArg LV.h ex) hiv hcs hli hco.lc hG);have HCO:=AS (aq hco (aq htb hbel));have HCA:Hid (Calls Tryz.prog 60 #[.pointer (some ⟨w0.heap.size,0,none⟩),.agg #[.int .i64 (h:Int),.slice x.xa lm.back.length x.xc,.slice x.ya lm.blocks.length x.yc]] W fun e w'=>∃(b:Bool) (I':List Nat) (C':List Int),e=.returned (.bool b)/\BC w' w0.heap.size w0.heap.size v r.blocks.length gC cC gS cS I' C'/\Et (Cg gC gS) W w'/\Below w0.heap.size w0 w'/\PH (nx r.blocks) r.blocks.length r.blocks lm I C h (B8 O) t.init b I' C'):=Ik w0 w0.heap.size v gC cC gS cS I C p fi F xs r (nx r.blocks) O.reverse (B8 O) h m t x.xa x.xc x.ya x.yc lm W hbel H0.o.bd hco H0.o.wy hm eh hbk hrd hmb hct hcs
  have t0:W.cell? ⟨w0.heap.size+1,0,none⟩=some (.pointer (some ⟨w0.heap.size,0,none⟩)):=by rw[htb.cell];rfl
  clear hm eh hrd hmb hct hcs hiv hli hbk hco hlp htb hbel;have bX2:=bX;simp only[LV.arr]at bX2;rw[ex]at bX2;simp only[]at bX2;obtain⟨x0,x1,x2⟩:=BI bX2;clear bX bX2 ex;gi_wp2_with fail
  refine⟨trivial,(CallsIn.inRound l (callsIn_wide.2 HCA.o)).mono ?_⟩;rintro e W2 ⟨b,I2,C2,rfl,hco2,hchg,hbel2,hG⟩;have HS:=AS (HST.o b I2 C2 hG);have htb2:=AS (HCO.o.1.blk_chg hchg HCO.o.2.1 (by decide));have HK:=AS (aq (HCO.o.1.keeps (A:=u2.heap.size) hchg) hchg.kpc);have HC2:=AS (aq hco2 hbel2);clear hco2 hbel2 hG hchg HST HCA x0 x1 x2 t0;cases b
  case true=>
   gi_wp2
   exact⟨HK.o.1,HK.o.2,⟨I2,C2,HC2.o.1,HS.o.1 trivial⟩,htb2.o,HC2.o.2⟩
  case false=>
   have E2:=AS (HWK.o W2 HC2.o.2);have r0:=E2.o.res.cell 0;have r1:=E2.o.res.frozen 0;simp only[am,aM]at r0;have E3:=AS (E2.o.set (-1));gi_wp2
   exact⟨HK.o.1.trans ((KeepsOthers.setCell W2 ⟨w.heap.size+1,0,none⟩ (.int .i64 (-1))).from _),rfl,E3.o,HS.o.2 trivial⟩
 case done=>
  rintro Dd ys W hD ⟨hp,hsrt⟩ hi hK;obtain⟨sl,q1,q2,q3,q4⟩:=H0.o.sorted HZ.o.1 HZ.o.2.1 hp hsrt (List.prefix_refl _);obtain⟨⟨I,C,hco,hlp⟩,htb,hbel⟩:=hi;have hlp:=hlp sl q1 q2 q3;rw[a7]at q4;rw[q4]at hlp;have HG:=AS (aq hlp (aq q1 q2));have HCO:=AS (aq hco (aq htb hbel));have t0:W.cell? ⟨w0.heap.size+1,0,none⟩=some (.pointer (some ⟨w0.heap.size,0,none⟩)):=by rw[htb.cell];rfl
  have p12:=(HWK.o W hbel).body.cell 12;simp only[Bz.cells]at p12;obtain⟨oa,oc,eo⟩:=H0.o.bd.od.is_slice;simp only[aF]at eo;have hol:r.order.length<=1024:=by rw[H0.o.gd.ord];simpa[ints]using H0.o.wy.rl
  have hob:Hid (∀z∈r.order,∃b:Nat,z=(b:Int)/\b<r.blocks.length):=fun z hz=>by
   rw[H0.o.gd.ord]at hz;obtain⟨b,hb,rfl⟩:=au.1 hz;exact⟨b,rfl,(H0.o.gd.om b).1 (cW.1 hb)⟩
  have hord:Hid (Rd w0 1 (.slice v.o.a r.order.length v.o.c) r.order.length (r.order.flatMap Ac)):=by
   have:=H0.o.bd.od;rw[eo.2.1]at this;exact this
  simp only[eo.2.1]at p12;have HKD:=AS (aq hD hK);clear hp hsrt hco hlp htb hbel q1 q2 q3 q4 eo oa oc hK hD;go_wp2_with fail
  clear t0 p12;refine(Ex w0.heap.size w0.heap.size v r.blocks.length gC cC gS cS I C (nx r.blocks) O.reverse (B8 O) 0 ⟨none,0,0⟩ v.o.a v.o.c r.order W H0.o.bd.inn.nb HCO.o.1 (H0.o.wy.keep HCO.o.2.2) H0.o.n0 hol (hord.o.keep HCO.o.2.2 lR) hob.o).mono ?_;rintro e u3 ⟨gL,Lc,small,rfl,hL,hWR,bb⟩;have HD3:Hid (w.heap.size<=Dd/\u3.heap[Dd]?=some (.deferred (some []))):=⟨aY hn1 HKD.o.1,(bb.block Dd (aQ.1 HKD.o.2).1).trans HKD.o.2⟩
  have HC3:Hid (BC u3 w0.heap.size w0.heap.size v r.blocks.length gC cC gS cS I C/\Ak u3 (w0.heap.size+1) #[.pointer (some ⟨w0.heap.size,0,none⟩)] 126/\Below w0.heap.size w0 u3):=⟨HCO.o.1.keep bb,HCO.o.2.1.keep bb,Ab HCO.o.2.2 lR bb⟩
  have HW3:=AS (HWK.o u3 HC3.o.2.2);have HL3:=AS hL;have HWR:=AS hWR;clear hL hWR bb HCO HKD;cases small
  case false=>
   have HV:Hid (Ma p fi costs xs r (-1)):=HG.o.1.doneI H0.o.gd HG.o.2.1 HG.o.2.2 HWR.o (fun _=>rfl) (fun e=>by cases e);have r0:=HW3.o.res.cell 0;have r1:=HW3.o.res.frozen 0;simp only[am,aM]at r0;have E4:=AS (HW3.o.set (-1));have hK4:=(KeepsOthers.setCell u3 ⟨w.heap.size+1,0,none⟩ (.int .i64 (-1))).same _ _ HD3.o.2 rfl;go_wp2_with fail
   refine⟨by simp,.inl ⟨_,_,rfl,run_takeDeferred hK4,?_⟩⟩;have E5:=E4.o.put hK4 HD3.o.1;have r2:=E5.res.cell 0;simp only[am,aM]at r2;exact⟨_,by simp[results,Tryz.results30,go_sem,r2],_,rfl,HV.o,E5.bel⟩
  go_upto_region 21 with fail
  have KS:∀u y,L8 w u v y->Ak u (w0.heap.size+1) #[.pointer (some ⟨w0.heap.size,0,none⟩)] 126->u.cell? ⟨w0.heap.size+1,0,none⟩=some (.pointer (some ⟨w0.heap.size,0,none⟩))/\u.cell? ⟨w.heap.size,0,none⟩=some (.slice v.r.a v.r.n v.r.c)/\u.cell? ⟨w.heap.size,1,none⟩=some (.slice v.k.a v.k.n v.k.c)/\u.cell? ⟨w.heap.size,2,none⟩=some (.slice v.f.a v.f.n v.f.c)/\u.cell? ⟨w.heap.size,3,none⟩=some (.slice v.t.a v.t.n v.t.c)/\u.cell? ⟨w.heap.size,4,none⟩=some (.slice v.p.a v.p.n v.p.c)/\u.cell? ⟨w.heap.size,5,none⟩=some (.int .i64 v.rs)/\u.cell? ⟨w.heap.size,6,none⟩=some (.slice v.l.a v.l.n v.l.c)/\u.cell? ⟨w.heap.size,7,none⟩=some (.slice v.c.a v.c.n v.c.c)/\u.cell? ⟨w.heap.size,8,none⟩=some (.int .i64 v.nu)/\u.cell? ⟨w.heap.size,9,none⟩=some (.int .i64 v.co)/\u.cell? ⟨w.heap.size,10,none⟩=some (.int .i64 v.at_)/\u.cell? ⟨w.heap.size,11,none⟩=some (.slice v.b.a v.b.n v.b.c)/\u.cell? ⟨w.heap.size,12,none⟩=some (.slice v.o.a v.o.n v.o.c)/\u.cell? ⟨w.heap.size,13,none⟩=some (.slice v.i.a v.i.n v.i.c)/\u.cell? ⟨w.heap.size,14,none⟩=some (.slice v.q.a v.q.n v.q.c):=fun u y E B=>⟨by rw[B.cell];rfl,Cl E.body⟩
  have HC4:Hid (BC u3.drew w0.heap.size w0.heap.size v r.blocks.length gC cC gS cS I C/\Ak u3.drew (w0.heap.size+1) #[.pointer (some ⟨w0.heap.size,0,none⟩)] 126/\Below w0.heap.size w0 u3.drew/\u3.drew.heap[Dd]?=some (.deferred (some []))):=⟨HC3.o.1.keep (Ae _),HC3.o.2.1.keep (Ae _),Ab HC3.o.2.2 lR (Ae _),((Ae u3).block Dd (aQ.1 HD3.o.2).1).trans HD3.o.2⟩
  have HL4:Hid ((∀c,c<r.blocks.length->u3.drew.cell? ⟨gL,c,none⟩=some (.int .i64 (cf Lc c)))/\∀y∈Lc,CW y):=⟨fun c hc=>Ad (Ae u3) ((HL3.o trivial).1 c hc),(HL3.o trivial).2⟩
  refine wp_region_held_drew (S:=fun u=>u.cell? ⟨w0.heap.size+1,0,none⟩=some (.pointer (some ⟨w0.heap.size,0,none⟩))/\u.cell? ⟨w.heap.size,0,none⟩=some (.slice v.r.a v.r.n v.r.c)/\u.cell? ⟨w.heap.size,1,none⟩=some (.slice v.k.a v.k.n v.k.c)/\u.cell? ⟨w.heap.size,2,none⟩=some (.slice v.f.a v.f.n v.f.c)/\u.cell? ⟨w.heap.size,3,none⟩=some (.slice v.t.a v.t.n v.t.c)/\u.cell? ⟨w.heap.size,4,none⟩=some (.slice v.p.a v.p.n v.p.c)/\u.cell? ⟨w.heap.size,5,none⟩=some (.int .i64 v.rs)/\u.cell? ⟨w.heap.size,6,none⟩=some (.slice v.l.a v.l.n v.l.c)/\u.cell? ⟨w.heap.size,7,none⟩=some (.slice v.c.a v.c.n v.c.c)/\u.cell? ⟨w.heap.size,8,none⟩=some (.int .i64 v.nu)/\u.cell? ⟨w.heap.size,9,none⟩=some (.int .i64 v.co)/\u.cell? ⟨w.heap.size,10,none⟩=some (.int .i64 v.at_)/\u.cell? ⟨w.heap.size,11,none⟩=some (.slice v.b.a v.b.n v.b.c)/\u.cell? ⟨w.heap.size,12,none⟩=some (.slice v.o.a v.o.n v.o.c)/\u.cell? ⟨w.heap.size,13,none⟩=some (.slice v.i.a v.i.n v.i.c)/\u.cell? ⟨w.heap.size,14,none⟩=some (.slice v.q.a v.q.n v.q.c)) (by kernel_rfl) (KS _ _ (HWK.o _ HC4.o.2.2.1) HC4.o.2.1) (fun hHeld=> ?_)
  clear HC3 HW3 HL3;generalize u3.drew=U4 at HC4 HL4 hHeld⊢;refine AG 0 ?_ (hw:=by kernel_rfl);refine AG 1 ?_ (hw:=by kernel_rfl);refine AG 2 ?_ (hw:=by kernel_rfl);go_simp;refine Gq 3 ?_;intro KC hKC;rw[a8 (by kernel_rfl)];go_simp;refine(Jq v F xs U4 (H0.o.bd.bs.keep HC4.o.2.2.1) (fun z hz=>(H0.o.bd.nx z hz).1.is_slice.elim fun a q=>q.elim fun c e=>⟨a,_,c,e⟩) (H0.o.bd.cd.code.keep HC4.o.2.2.1 lR)).mono ?_;rintro e u5 ⟨ra,rc,ps,rfl,hrd,hps,hpl,bb⟩;have HC5:Hid (BC u5 w0.heap.size w0.heap.size v r.blocks.length gC cC gS cS I C/\Ak u5 (w0.heap.size+1) #[.pointer (some ⟨w0.heap.size,0,none⟩)] 126/\Below w0.heap.size w0 u5/\u5.heap[Dd]?=some (.deferred (some []))):=⟨HC4.o.1.keep bb,HC4.o.2.1.keep bb,Ab HC4.o.2.2.1 lR bb,(bb.block Dd (aQ.1 HC4.o.2.2.2).1).trans HC4.o.2.2.2⟩
  have HL5:Hid (∀c,c<r.blocks.length->u5.cell? ⟨gL,c,none⟩=some (.int .i64 (cf Lc c))):=fun c hc=>Ad bb (HL4.o.1 c hc)
  have HPS:=AS (aq hrd (aq hps hpl));clear hrd hps hpl bb HC4 HL4;go_simp;refine hKC.o _ _ (KS _ _ (HWK.o _ HC5.o.2.2.1) HC5.o.2.1) (fun hHeld=> ?_);clear hKC KC;refine Gq 4 ?_;intro KC hKC;rw[a8 (by kernel_rfl)];go_simp
  refine(EI w0.heap.size r.blocks.length gS cS gL r.blocks.length I Lc ra rc ps u5 (by have:=H0.o.bd.inn.nb;omega) HC5.o.1.cells.2.2.2 ⟨fun b hb=>HC5.o.1.sAt hb,HL5.o⟩ (by have:=HPS.o.2.2;omega) HPS.o.1 (fun z hz=>by
   obtain⟨b,h1,h2,_⟩:=(HPS.o.2.1 z).1 hz;exact⟨b,h1,by rw[<-HBN.o.2];exact h2⟩)).mono ?_
  rintro e u6 ⟨mx,rfl,rfl,hmx⟩
  have HV:Hid (Ma p fi costs xs r mx):=HG.o.1.doneI H0.o.gd HG.o.2.1 HG.o.2.2 HWR.o (fun e=>by cases e) (fun _=>hmx.iff fun b=>by
   rw[HPS.o.2.1,H0.o.bd.eb,HBN.o.2];constructor
   . rintro⟨h1,h2⟩
     exact⟨b,rfl,h1,h2⟩
   . rintro⟨b',h1,h2,h3⟩
     obtain rfl:b=b':=by omega
     exact⟨h2,h3⟩)
  clear hmx HPS;go_simp;refine hKC.o _ _ (KS _ _ (HWK.o _ HC5.o.2.2.1) HC5.o.2.1) (fun hHeld=> ?_);clear hKC KC;have E2:=AS (HWK.o u6 HC5.o.2.2.1);have r0:=E2.o.res.cell 0;have r1:=E2.o.res.frozen 0;simp only[am,aM]at r0;have E3:=AS (E2.o.set mx)
  have HT3:Hid (Ak (u6.setCell ⟨w.heap.size+1,0,none⟩ (.int .i64 mx)) (w0.heap.size+1) #[.pointer (some ⟨w0.heap.size,0,none⟩)] 126):=HC5.o.2.1.other (by
   have h1:=HC5.o.2.1;have h2:=E2.o.res;unfold Ak at h1 h2;intro e;simp only[]at e;rw[e,h2]at h1;cases h1) _
  have hK4:=(KeepsOthers.setCell u6 ⟨w.heap.size+1,0,none⟩ (.int .i64 mx)).same _ _ HC5.o.2.2.2 rfl;refine Gq 5 ?_;intro KC hKC;rw[a8 (by kernel_rfl)];go_simp;refine hKC.o _ _ (KS _ _ E3.o HT3.o) (fun hHeld=> ?_);clear hKC KC;refine wpAnyH_done (by kernel_rfl) ?_ _;clear r0 r1 hHeld;go_wp2_with fail
  refine⟨by simp,.inl ⟨_,_,rfl,run_takeDeferred hK4,?_⟩⟩;have E5:=E3.o.put hK4 HD3.o.1;have r2:=E5.res.cell 0;simp only[am,aM]at r2;exact⟨_,by simp[results,Tryz.results30,go_sem,r2],_,rfl,HV.o,E5.bel⟩
 case stop=>
  rintro Dd c pre W hD ⟨ts,hp,hsrt,hpre⟩ ⟨rfl,hfr,hbad⟩ hK;obtain⟨sl,q1,q2,q3,q4⟩:=H0.o.sorted HZ.o.1 HZ.o.2.1 hp hsrt hpre;have HV:Hid (Ma p fi costs xs r (-1)):=Ma.bad H0.o.gd q1 q2 HL0.o HNB.o (hbad sl q1 q2 q3);gi_wp2
  refine⟨by simp,.inl ⟨_,_,rfl,run_takeDeferred hK,?_⟩⟩;have E5:=hfr.put hK (aY hn1 hD);have r2:=E5.res.cell 0;simp only[am,aM]at r2;exact⟨_,by simp[results,Tryz.results30,go_sem,r2],_,rfl,HV.o,E5.bel⟩
end
end Go.Proofs.YtdipfjmlfbdkdaaGreat
