import Derived.Test.YtjcamlobelcepaaGreatDoorCt8
namespace Go.Proofs.YtjcamlobelcepaaGreatDoor
open Go.ChangeShapes Go.WideShapes Go.ChangeAt Go.RowKit
set_option linter.unusedVariables false
set_option maxHeartbeats 8000000
set_option maxRecDepth 100000
structure RH(w:World)(s s':Value)(fs gs:List (List Int))(n:Nat)(xs ys:List (List Int×Value)):Prop where
 one:Rd w 1 s n (xs.flatMap BE)
 two:Rd w 1 s' n (ys.flatMap BE)
 onem:xs.map Prod.fst=fs
 twom:ys.map Prod.fst=gs
 onee:∀x∈xs,Rd w 1 x.2 x.1.length (x.1.flatMap Ac)
 twoe:∀x∈ys,Rd w 1 x.2 x.1.length (x.1.flatMap Ac)
 ones:∀f∈fs,f.length<=1048576
 twos:∀f∈gs,f.length<=1048576
 onel:xs.length=n
 twol:ys.length=n
 olen:fs.length=n
 tlen:gs.length=n
structure RG(w:World)(s s':Value)(fs gs:List MF)(n:Nat)(xs ys:List (MF×VF)):Prop where
 one:Rd w 4 s n (xs.flatMap AW)
 two:Rd w 4 s' n (ys.flatMap AW)
 onem:xs.map Prod.fst=fs
 twom:ys.map Prod.fst=gs
 onee:∀x∈xs,EI w x.2 x.1
 twoe:∀x∈ys,EI w x.2 x.1
 ones:∀f∈fs,f.small
 twos:∀f∈gs,f.small
 onel:xs.length=n
 twol:ys.length=n
 olen:fs.length=n
 tlen:gs.length=n
theorem RH.mk'{w:World}{s s':Value}{fs gs:List (List Int)}(h:Lx w s fs)(h':Lx w s' gs)(hl:fs.length=gs.length)(hs:∀f∈fs,f.length<=1048576)(hs':∀f∈gs,f.length<=1048576):∃xs ys,RH w s s' fs gs fs.length xs ys:=by
 obtain⟨xs,h1,h2,h3⟩:=h;obtain⟨ys,k1,k2,k3⟩:=h';exact⟨xs,ys,h2,hl▸k2,h1,k1,h3,k3,hs,hs',by rw[<-h1];simp,by rw[hl,<-k1];simp,rfl,hl.symm⟩
theorem RG.mk'{w:World}{s s':Value}{fs gs:List MF}(h:Jd w s fs)(h':Jd w s' gs)(hl:fs.length=gs.length)(hs:∀f∈fs,f.small)(hs':∀f∈gs,f.small):∃xs ys,RG w s s' fs gs fs.length xs ys:=by
 obtain⟨xs,h1,h2,h3⟩:=h;obtain⟨ys,k1,k2,k3⟩:=h';exact⟨xs,ys,h2,hl▸k2,h1,k1,h3,k3,hs,hs',by rw[<-h1];simp,by rw[hl,<-k1];simp,rfl,hl.symm⟩
theorem G4 (v v' : VP)(p q:MP)(w:World)(hs:p.small)(hs':q.small)(h:Ej w v p)(h':Ej w v' q):
 Calls Tryz.prog 8 #[.agg #[v.r,v.k,v.f,v.t],.agg #[v'.r,v'.k,v'.f,v'.t]] w fun e w'=>Am e (p=q)/\Below w.heap.size w w':=by
 obtain⟨vr,vk,vf,vt⟩:=v;obtain⟨vr',vk',vf',vt'⟩:=v';obtain⟨r1,c1,er⟩:∃a c,vr=.slice a p.regions.length c:=by obtain⟨xs,h1,h2,h3⟩:=h.regions;exact h2.is_slice
 obtain⟨r2,c2,ek⟩:∃a c,vk=.slice a p.consts.length c:=h.consts.is_slice;obtain⟨r3,c3,ef⟩:∃a c,vf=.slice a p.funcs.length c:=by obtain⟨xs,h1,h2,h3⟩:=h.funcs;exact h2.is_slice
 obtain⟨r4,c4,et⟩:∃a c,vt=.slice a p.certs.length c:=h.certs.is_slice;obtain⟨s1,d1,er'⟩:∃a c,vr'=.slice a q.regions.length c:=by obtain⟨xs,h1,h2,h3⟩:=h'.regions;exact h2.is_slice
 obtain⟨s2,d2,ek'⟩:∃a c,vk'=.slice a q.consts.length c:=h'.consts.is_slice;obtain⟨s3,d3,ef'⟩:∃a c,vf'=.slice a q.funcs.length c:=by obtain⟨xs,h1,h2,h3⟩:=h'.funcs;exact h2.is_slice
 obtain⟨s4,d4,et'⟩:∃a c,vt'=.slice a q.certs.length c:=h'.certs.is_slice;subst er ek ef et er' ek' ef' et';have HS:Hid (p.small/\q.small/\Ej w ⟨.slice r1 p.regions.length c1,.slice r2 p.consts.length c2,.slice r3 p.funcs.length c3,.slice r4 p.certs.length c4⟩ p/\Ej w ⟨.slice s1 q.regions.length d1,.slice s2 q.consts.length d2,.slice s3 q.funcs.length d3,.slice s4 q.certs.length d4⟩ q):=⟨hs,hs',h,h'⟩
 clear hs hs' h h';by_cases hl:p.regions.length=q.regions.length/\p.consts.length=q.consts.length/\p.funcs.length=q.funcs.length/\p.certs.length=q.certs.length
 . obtain ⟨l1, l2, l3,l4⟩:=hl
   obtain⟨rx,ry,HR0⟩:=RH.mk' HS.o.2.2.1.regions HS.o.2.2.2.regions l1 HS.o.1.region HS.o.2.1.region;obtain⟨fx,fy,HF0⟩:=RG.mk' HS.o.2.2.1.funcs HS.o.2.2.2.funcs l3 HS.o.1.func HS.o.2.1.func;have HR:Hid (RH w (.slice r1 p.regions.length c1) (.slice s1 q.regions.length d1) p.regions q.regions p.regions.length rx ry):=HR0;have HF:Hid (RG w (.slice r3 p.funcs.length c3) (.slice s3 q.funcs.length d3) p.funcs q.funcs p.funcs.length fx fy):=HF0;clear HR0 HF0;have HK1:Hid (Rd w 2 (.slice r2 p.consts.length c2) p.consts.length (p.consts.flatMap MC.cells)):=HS.o.2.2.1.consts;have HK2:Hid (Rd w 2 (.slice s2 q.consts.length d2) q.consts.length (q.consts.flatMap MC.cells)):=HS.o.2.2.2.consts;have HT1:Hid (Rd w 4 (.slice r4 p.certs.length c4) p.certs.length (p.certs.flatMap MT.cells)):=HS.o.2.2.1.certs;have HT2:Hid (Rd w 4 (.slice s4 q.certs.length d4) q.certs.length (q.certs.flatMap MT.cells)):=HS.o.2.2.2.certs;have z1:=HS.o.1.regions;have z2:=HS.o.1.consts;have z3:=HS.o.1.funcs;have z4:=HS.o.1.certs;have l2':=l2.symm;have l4':=l4.symm;clear HS;rw[<-l1]at HR;rw[<-l2]at HK2;rw[<-l3]at HF;rw[<-l4]at HT2;rw[<-l1,<-l2,<-l3,<-l4];clear l1 l2 l3 l4;generalize p.regions.length=n1 at*
   generalize hN2:p.consts.length=n2 at*;generalize p.funcs.length=n3 at*;generalize hN4:p.certs.length=n4 at*;have hmC:Tryz.prog.eqGuardType Tryz.prog.depth 53=false:=by kernel_rfl
   have hmT:Tryz.prog.eqGuardType Tryz.prog.depth 62=false:=by kernel_rfl
   have HW:Hid (Lq w _ 28 _ _):=Lq.of w 28 #[.slice r1 n1 c1,.slice r2 n2 c2,.slice r3 n3 c3,.slice r4 n4 c4] #[.slice s1 n1 d1,.slice s2 n2 d2,.slice s3 n3 d3,.slice s4 n4 d4] rfl rfl;simp only[]at HW;have HKl:Hid (p.consts.length=n2/\q.consts.length=n2):=⟨hN2,l2'⟩
   have HTl:Hid (p.certs.length=n4/\q.certs.length=n4):=⟨hN4,l4'⟩
   clear hN2 hN4 l2' l4';go_enter Tryz.func8,Tryz.ntmps8;go_wp2
   go_loopw [5] (fun i wr=>∃k:Nat,k<=n1/\i=.int .i64 k/\Hid (∀j,j<k->p.regions[j]?=q.regions[j]?)/\Hid (Lq w wr 28 [.slice r1 n1 c1,.slice r2 n2 c2,.slice r3 n3 c3,.slice r4 n4 c4] [.slice s1 n1 d1,.slice s2 n2 d2,.slice s3 n3 d3,.slice s4 n4 d4])) (fun i _=>n1-(intOf i).toNat)
   case atStart=>exact⟨0,by omega,rfl,fun j hj=>by omega,HW⟩
   case round =>
    clear HW;obtain⟨k,hk,rfl,HT,HW⟩:=hrel;by_cases hlt:k<n1
    . obtain⟨⟨f,v⟩,hx⟩:∃x,rx[k]?=some x:=⟨_,aA (by rw[HR.o.onel];exact hlt)⟩
      obtain⟨⟨g,v'⟩,hy⟩:∃x,ry[k]?=some x:=⟨_,aA (by rw[HR.o.twol];exact hlt)⟩;have e1:=BG HR.o.onem hx;have e2:=BG HR.o.twom hy;have HX:Hid (Rd wr 1 v f.length (f.flatMap Ac)/\Rd wr 1 v' g.length (g.flatMap Ac)/\f.length<=1048576/\g.length<=1048576/\p.regions[k]?=some f/\q.regions[k]?=some g):=⟨(HR.o.onee _ (aF hx)).keep HW.o.bel lR,(HR.o.twoe _ (aF hy)).keep HW.o.bel lR,HR.o.ones _ (aF e1),HR.o.twos _ (aF e2),e1,e2⟩
      clear e1 e2;rcases HR.o.one.2 with⟨e0,_⟩|⟨b,o,c,e1,hc1⟩
      . omega
      . rcases HR.o.two.2 with⟨e0,_⟩|⟨b',o',c',e2,hc2⟩
        . omega
        simp only[aI,ao]at e1 e2;obtain⟨rfl,rfl⟩:=e1;obtain⟨rfl,rfl⟩:=e2;have i0:=Rd.elem AK hc1 k _ hx 0 _ rfl;rw[<-HW.o.bel.cell (aD i0),aT]at i0;have j0:=Rd.elem AK hc2 k _ hy 0 _ rfl;rw[<-HW.o.bel.cell (aD j0),aT]at j0;rw[bR]at i0 j0;clear hc1 hc2 hx hy;simp only[]at i0 j0;obtain⟨p0,_,_,_,_⟩:=DA HW.o.par;obtain⟨o0,_,_,_,_⟩:=DA HW.o.par';go_wp2_with fail
        go_region_with (go_at_call 25;refine(Dd v v' f g _ HX.o.2.2.1 HX.o.2.2.2.1 (by exact HX.o.1) (by exact HX.o.2.1)).mono ?_;rintro e u ⟨⟨b0,rfl,hb0⟩,hbu⟩)
        all_goals
         have HW2:Hid (Lq w u 28 _ _):=HW.o.keep (by obtain⟨m,rfl⟩:=hbu;exact CU (Aj _ _ _) lR);clear hbu HW p0 o0 i0 j0;cases b0
         . have HN:Hid (¬p=q):=fun e=>Db HX.o.2.2.2.2.1 HX.o.2.2.2.2.2 (fun e=>by simp[e]at hb0) (by rw[e])
           clear hb0;go_wp2
           go_ret
           exact⟨.no HN.o,HW2.o.bel⟩
         . obtain rfl:=hb0.1 rfl
           clear hb0;go_wp2
           go_roundw
           case rel=>exact⟨k+1,by omega,by go_num,Cf HX.o.2.2.2.2.1 HX.o.2.2.2.2.2 HT.o,HW2⟩
           case measure=>simp[intOf];omega
    . have hkn : n1=k:=by omega
      subst hkn;have HE1:Hid (p.regions=q.regions):=Cz HR.o.olen HR.o.tlen HT.o;clear HT hlt hk;clear HR;obtain⟨_,p1,_,_,_⟩:=DA HW.o.par;obtain⟨_,o1,_,_,_⟩:=DA HW.o.par';go_wp2
      clear p1 o1;go_loopw [6] (fun i wr=>∃k:Nat,k<=n2/\i=.int .i64 k/\Hid (∀j,j<k->p.consts[j]?=q.consts[j]?)/\Hid (Lq w wr 28 [.slice r1 n1 c1,.slice r2 n2 c2,.slice r3 n3 c3,.slice r4 n4 c4] [.slice s1 n1 d1,.slice s2 n2 d2,.slice s3 n3 d3,.slice s4 n4 d4])) (fun i _=>n2-(intOf i).toNat)
      case atStart=>exact⟨0,by omega,rfl,fun j hj=>by omega,HW⟩
      case round =>
       clear HW;obtain⟨k,hk,rfl,HT,HW⟩:=hrel;by_cases hlt:k<n2
       . obtain⟨x,hx⟩:∃x,p.consts[k]?=some x:=⟨_,aA (by rw[HKl.o.1];exact hlt)⟩
         obtain⟨y,hy⟩:∃x,q.consts[k]?=some x:=⟨_,aA (by rw[HKl.o.2];exact hlt)⟩;rcases HK1.o.2 with⟨e0,_⟩|⟨b,o,c,e1,hc1⟩
         . omega
         . rcases HK2.o.2 with⟨e0,_⟩|⟨b',o',c',e2,hc2⟩
           . omega
           simp only[aI,ao]at e1 e2;obtain⟨rfl,rfl⟩:=e1;obtain⟨rfl,rfl⟩:=e2;have i0:=Rd.elem MC.cells_length hc1 k _ hx 0 _ rfl;have i1:=Rd.elem MC.cells_length hc1 k _ hx 1 _ rfl;rw[<-HW.o.bel.cell (aD i0),aT]at i0;rw[<-HW.o.bel.cell (aD i1)]at i1;have j0:=Rd.elem MC.cells_length hc2 k _ hy 0 _ rfl;have j1:=Rd.elem MC.cells_length hc2 k _ hy 1 _ rfl;rw[<-HW.o.bel.cell (aD j0),aT]at j0;rw[<-HW.o.bel.cell (aD j1)]at j1;have HX:Hid (p.consts[k]?=some x/\q.consts[k]?=some y):=⟨hx,hy⟩
           clear hc1 hc2 hx hy;obtain⟨_,p1,_,_,_⟩:=DA HW.o.par;obtain⟨_,o1,_,_,_⟩:=DA HW.o.par';by_cases hxy:x=y
           . subst hxy
             have hq:∀w,(binOp .neq 53 (.agg #[.int .i64 x.type,.int .u32 x.word]) (.agg #[.int .i64 x.type,.int .u32 x.word])).run Tryz.prog w=.ok (.bool false) w:=MC.neq_same x;go_wp2
             go_quiet (fail)
             go_wp2
             go_roundw
             case rel=>exact⟨k+1,by omega,by go_num,Cf HX.o.1 HX.o.2 HT.o,HW.o.keep (Aj _ _ _)⟩
             case measure=>simp[intOf];omega
           . have hq:∀w,(binOp .neq 53 (.agg #[.int .i64 x.type,.int .u32 x.word]) (.agg #[.int .i64 y.type,.int .u32 y.word])).run Tryz.prog w=.ok (.bool true) w:=MC.neq_ne x y hxy
             have HN:Hid (¬p=q):=fun e=>Db HX.o.1 HX.o.2 hxy (by rw[e])
             go_wp2
             go_quiet (fail)
             go_wp2
             go_ret
             exact⟨.no HN.o,HW.o.bel.trans (Aj _ _ _)⟩
       . have hkn:n2=k:=by omega
         subst hkn;have HE2:Hid (p.consts=q.consts):=Cz HKl.o.1 HKl.o.2 HT.o;clear HT hlt hk;clear HK1 HK2 HKl hmC;obtain⟨_,_,p2,_,_⟩:=DA HW.o.par;obtain⟨_,_,o2,_,_⟩:=DA HW.o.par';go_wp2
         clear p2 o2;go_loopw [7] (fun i wr=>∃k:Nat,k<=n3/\i=.int .i64 k/\Hid (∀j,j<k->p.funcs[j]?=q.funcs[j]?)/\Hid (Lq w wr 28 [.slice r1 n1 c1,.slice r2 n2 c2,.slice r3 n3 c3,.slice r4 n4 c4] [.slice s1 n1 d1,.slice s2 n2 d2,.slice s3 n3 d3,.slice s4 n4 d4])) (fun i _=>n3-(intOf i).toNat)
         case atStart=>exact⟨0,by omega,rfl,fun j hj=>by omega,HW⟩
         case round=>
          clear HW;obtain⟨k,hk,rfl,HT,HW⟩:=hrel;by_cases hlt:k<n3
          . obtain⟨⟨f,v⟩,hx⟩:∃x,fx[k]?=some x:=⟨_,aA (by rw[HF.o.onel];exact hlt)⟩
            obtain⟨⟨g,v'⟩,hy⟩:∃x,fy[k]?=some x:=⟨_,aA (by rw[HF.o.twol];exact hlt)⟩;have e1:=BG HF.o.onem hx;have e2:=BG HF.o.twom hy;have HX:Hid (EI wr v f/\EI wr v' g/\f.small/\g.small/\p.funcs[k]?=some f/\q.funcs[k]?=some g):=⟨(HF.o.onee _ (aF hx)).keep HW.o.bel lR,(HF.o.twoe _ (aF hy)).keep HW.o.bel lR,HF.o.ones _ (aF e1),HF.o.twos _ (aF e2),e1,e2⟩
            clear e1 e2;rcases HF.o.one.2 with⟨e0,_⟩|⟨b,o,c,e1,hc1⟩
            . omega
            . rcases HF.o.two.2 with⟨e0,_⟩|⟨b',o',c',e2,hc2⟩
              . omega
              simp only[aI,ao]at e1 e2;obtain⟨rfl,rfl⟩:=e1;obtain⟨rfl,rfl⟩:=e2;have i0:=Rd.elem Ag hc1 k _ hx 0 _ rfl;have i1:=Rd.elem Ag hc1 k _ hx 1 _ rfl;have i2:=Rd.elem Ag hc1 k _ hx 2 _ rfl;have i3:=Rd.elem Ag hc1 k _ hx 3 _ rfl;rw[<-HW.o.bel.cell (aD i0),aT]at i0;rw[<-HW.o.bel.cell (aD i1)]at i1;rw[<-HW.o.bel.cell (aD i2)]at i2;rw[<-HW.o.bel.cell (aD i3)]at i3;have j0:=Rd.elem Ag hc2 k _ hy 0 _ rfl;have j1:=Rd.elem Ag hc2 k _ hy 1 _ rfl;have j2:=Rd.elem Ag hc2 k _ hy 2 _ rfl;have j3:=Rd.elem Ag hc2 k _ hy 3 _ rfl;rw[<-HW.o.bel.cell (aD j0),aT]at j0;rw[<-HW.o.bel.cell (aD j1)]at j1;rw[<-HW.o.bel.cell (aD j2)]at j2;rw[<-HW.o.bel.cell (aD j3)]at j3;clear hc1 hc2 hx hy;simp only[]at i0 i1 i2 i3 j0 j1 j2 j3;obtain⟨_,_,p2,_,_⟩:=DA HW.o.par;obtain⟨_,_,o2,_,_⟩:=DA HW.o.par';go_wp2_with fail
              go_region_with (go_at_call 26;refine(JN v v' f g _ HX.o.2.2.1 HX.o.2.2.2.1 (by exact HX.o.1) (by exact HX.o.2.1)).mono ?_;rintro e u ⟨⟨b0,rfl,hb0⟩,hbu⟩)
              all_goals
               have HW2:Hid (Lq w u 28 _ _):=HW.o.keep (CU hbu lR);clear hbu HW p2 o2 i0 i1 i2 i3 j0 j1 j2 j3;cases b0
               . have HN:Hid (¬p=q):=fun e=>Db HX.o.2.2.2.2.1 HX.o.2.2.2.2.2 (fun e=>by simp[e]at hb0) (by rw[e])
                 clear hb0;go_wp2
                 go_ret
                 exact⟨.no HN.o,HW2.o.bel⟩
               . obtain rfl:=hb0.1 rfl
                 clear hb0;go_wp2
                 go_roundw
                 case rel=>exact⟨k+1,by omega,by go_num,Cf HX.o.2.2.2.2.1 HX.o.2.2.2.2.2 HT.o,HW2⟩
                 case measure=>simp[intOf];omega
          . have hkn:n3=k:=by omega
            subst hkn;have HE3:Hid (p.funcs=q.funcs):=Cz HF.o.olen HF.o.tlen HT.o;clear HT hlt hk;clear HF;obtain⟨_,_,_,p3,_⟩:=DA HW.o.par;obtain⟨_,_,_,o3,_⟩:=DA HW.o.par';go_wp2
            clear p3 o3;go_loopw [8] (fun i wr=>∃k:Nat,k<=n4/\i=.int .i64 k/\Hid (∀j,j<k->p.certs[j]?=q.certs[j]?)/\Hid (Lq w wr 28 [.slice r1 n1 c1,.slice r2 n2 c2,.slice r3 n3 c3,.slice r4 n4 c4] [.slice s1 n1 d1,.slice s2 n2 d2,.slice s3 n3 d3,.slice s4 n4 d4])) (fun i _=>n4-(intOf i).toNat)
            case atStart=>exact⟨0,by omega,rfl,fun j hj=>by omega,HW⟩
            case round=>
             clear HW;obtain⟨k,hk,rfl,HT,HW⟩:=hrel;by_cases hlt:k<n4
             . obtain⟨x,hx⟩:∃x,p.certs[k]?=some x:=⟨_,aA (by rw[HTl.o.1];exact hlt)⟩
               obtain⟨y,hy⟩:∃x,q.certs[k]?=some x:=⟨_,aA (by rw[HTl.o.2];exact hlt)⟩;rcases HT1.o.2 with⟨e0,_⟩|⟨b,o,c,e1,hc1⟩
               . omega
               . rcases HT2.o.2 with⟨e0,_⟩|⟨b',o',c',e2,hc2⟩
                 . omega
                 simp only[aI,ao]at e1 e2;obtain⟨rfl,rfl⟩:=e1;obtain⟨rfl,rfl⟩:=e2;have i0:=Rd.elem MT.cells_length hc1 k _ hx 0 _ rfl;have i1:=Rd.elem MT.cells_length hc1 k _ hx 1 _ rfl;have i2:=Rd.elem MT.cells_length hc1 k _ hx 2 _ rfl;have i3:=Rd.elem MT.cells_length hc1 k _ hx 3 _ rfl;rw[<-HW.o.bel.cell (aD i0),aT]at i0;rw[<-HW.o.bel.cell (aD i1)]at i1;rw[<-HW.o.bel.cell (aD i2)]at i2;rw[<-HW.o.bel.cell (aD i3)]at i3;have j0:=Rd.elem MT.cells_length hc2 k _ hy 0 _ rfl;have j1:=Rd.elem MT.cells_length hc2 k _ hy 1 _ rfl;have j2:=Rd.elem MT.cells_length hc2 k _ hy 2 _ rfl;have j3:=Rd.elem MT.cells_length hc2 k _ hy 3 _ rfl;rw[<-HW.o.bel.cell (aD j0),aT]at j0;rw[<-HW.o.bel.cell (aD j1)]at j1;rw[<-HW.o.bel.cell (aD j2)]at j2;rw[<-HW.o.bel.cell (aD j3)]at j3;have HX:Hid (p.certs[k]?=some x/\q.certs[k]?=some y):=⟨hx,hy⟩
                 clear hc1 hc2 hx hy;obtain⟨_,_,_,p3,_⟩:=DA HW.o.par;obtain⟨_,_,_,o3,_⟩:=DA HW.o.par';by_cases hxy:x=y
                 . subst hxy
                   have hq:∀w,(binOp .neq 62 (.agg #[.int .i64 x.func,.int .i64 x.head,.int .i64 x.counter,.int .u32 x.init]) (.agg #[.int .i64 x.func,.int .i64 x.head,.int .i64 x.counter,.int .u32 x.init])).run Tryz.prog w=.ok (.bool false) w:=MT.neq_same x;go_wp2
                   go_quiet (fail)
                   go_wp2
                   go_roundw
                   case rel=>exact⟨k+1,by omega,by go_num,Cf HX.o.1 HX.o.2 HT.o,HW.o.keep (Aj _ _ _)⟩
                   case measure=>simp[intOf];omega
                 . have hq:∀w,(binOp .neq 62 (.agg #[.int .i64 x.func,.int .i64 x.head,.int .i64 x.counter,.int .u32 x.init]) (.agg #[.int .i64 y.func,.int .i64 y.head,.int .i64 y.counter,.int .u32 y.init])).run Tryz.prog w=.ok (.bool true) w:=MT.neq_ne x y hxy
                   have HN:Hid (¬p=q):=fun e=>Db HX.o.1 HX.o.2 hxy (by rw[e])
                   go_wp2
                   go_quiet (fail)
                   go_wp2
                   go_ret
                   exact⟨.no HN.o,HW.o.bel.trans (Aj _ _ _)⟩
             . have hkn:n4=k:=by omega
               subst hkn;have HE4:Hid (p.certs=q.certs):=Cz HTl.o.1 HTl.o.2 HT.o;clear HT hlt hk;have HY:Hid (p=q):=(MP.eq_iff p q).2 ⟨HE1.o,HE2.o,HE3.o,HE4.o⟩;obtain⟨_,_,_,p3,_⟩:=DA HW.o.par;go_wp2
               go_ret
               exact⟨.yes HY.o,HW.o.bel⟩
 . have HN:Hid (¬p=q):=fun e=>hl (by subst e;exact⟨rfl,rfl,rfl,rfl⟩)
   clear HS;have F0:=Lq.of w 28 #[.slice r1 p.regions.length c1,.slice r2 p.consts.length c2,.slice r3 p.funcs.length c3,.slice r4 p.certs.length c4] #[.slice s1 q.regions.length d1,.slice s2 q.consts.length d2,.slice s3 q.funcs.length d3,.slice s4 q.certs.length d4] rfl rfl;generalize p.regions.length=n1 at*;generalize p.consts.length=n2 at*;generalize p.funcs.length=n3 at*;generalize p.certs.length=n4 at*;generalize q.regions.length=m1 at*;generalize q.consts.length=m2 at*;generalize q.funcs.length=m3 at*;generalize q.certs.length=m4 at*;have HB:Hid _:=F0.bel;clear F0;by_cases h1:n1=m1
   . subst h1
     by_cases h2:n2=m2
     . subst h2
       by_cases h3:n3=m3
       . subst h3
         have hi:¬(n4:Int)=(m4:Int):=by omega
         clear hl;go_enter Tryz.func8,Tryz.ntmps8;go_wp2
         go_ret
         exact⟨.no HN.o,HB.o⟩
       . have hi:¬(n3:Int)=(m3:Int):=by omega
         clear hl h3;go_enter Tryz.func8,Tryz.ntmps8;go_wp2
         go_ret
         exact⟨.no HN.o,HB.o⟩
     . have hi:¬(n2:Int)=(m2:Int):=by omega
       clear hl h2;go_enter Tryz.func8,Tryz.ntmps8;go_wp2
       go_ret
       exact⟨.no HN.o,HB.o⟩
   . have hi:¬(n1:Int)=(m1:Int):=by omega
     clear hl h1;go_enter Tryz.func8,Tryz.ntmps8;go_wp2
     go_ret
     exact⟨.no HN.o,HB.o⟩
end Go.Proofs.YtjcamlobelcepaaGreatDoor
