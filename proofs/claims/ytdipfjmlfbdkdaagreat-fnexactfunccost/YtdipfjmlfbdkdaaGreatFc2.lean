import Derived.Test.YtdipfjmlfbdkdaaGreatFc1
import Derived.Deep.RegionWith
namespace Go.Proofs.YtdipfjmlfbdkdaaGreat
open Go.ChangeShapes Go.WideShapes Go.ChangeAt Go.RowKit
set_option linter.unusedVariables false
set_option maxHeartbeats 2000000
set_option maxRecDepth 100000
theorem Af(B:Nat)(w:World)(nq:Nat):Below B w (w.drewN nq):=⟨rfl,rfl,rfl,Nat.le_refl _,fun _ _=>rfl⟩
theorem A4{w u:World}(h:Below w.drew.heap.size w.drew u){B:Nat}(hB:B<=w.heap.size):Below B w u:=⟨h.os,h.tape,h.output,h.size,fun k hk=>h.block k (bY hk hB)⟩
theorem Ic(s s':Value)(ys:List Int)(w:World)(hn:ys.length<=140737488355328)(h:Rd w 1 s ys.length (ys.flatMap Ac))(h':Rd w 1 s' ys.length (ys.flatMap Ac)):
 Calls Tryz.prog 10 #[s,s'] w fun e w'=>e=.returned (.bool true)/\∃m,w'=w.drewN m:=by
 have H1:Hid (Rd w 1 s ys.length (ys.flatMap Ac)):=h;have H2:Hid (Rd w 1 s' ys.length (ys.flatMap Ac)):=h';obtain⟨a1,c1,rfl⟩:=h.is_slice;obtain⟨a2,c2,rfl⟩:=h'.is_slice;clear h h';generalize hLL:ys.length=n at hn H1 H2;have HL:Hid (ys.length=n):=hLL;clear hLL;go_enter Tryz.func10,Tryz.ntmps10;go_wp2
 go_loopw [5] (fun i wr=>∃k:Nat,k<=n/\i=.int .i64 k/\∃m,wr=w.drewN m) (fun i _=>n-(intOf i).toNat)
 case atStart=>exact⟨0,by omega,rfl,0,rfl⟩
 case round=>
  obtain⟨k,hk,rfl,m,rfl⟩:=hrel;by_cases hlt:k<n
  . obtain⟨x,hx⟩:∃x,ys[k]?=some x:=⟨_,aA (by rw[HL.o];exact hlt)⟩
    rcases H1.o.2 with⟨e0,_⟩|⟨g,o,c,e1,hc1⟩
    . omega
    . rcases H2.o.2 with⟨e0,_⟩|⟨g',o',c',e2,hc2⟩
      . omega
      . simp only[aF,aw]at e1 e2
        obtain⟨rfl,rfl⟩:=e1;obtain⟨rfl,rfl⟩:=e2;have i0:=Rd.elem Ap hc1 k x hx 0 _ rfl;have j0:=Rd.elem Ap hc2 k x hx 0 _ rfl;rw[bf,aS]at i0 j0;clear hc1 hc2 hx;go_wp2
        go_quiet (fail)
        go_wp2
        go_roundw
        case rel=>exact⟨k+1,by omega,by go_num,_,rfl⟩
        case measure=>simp[intOf];omega
  . go_wp2
    go_ret
    exact⟨rfl,_,rfl⟩
theorem CU(s s':Value)(ys:List Int)(w:World)(hn:ys.length<=140737488355328)(h:Rd w 1 s ys.length (ys.flatMap Ac))(h':Rd w 1 s' ys.length (ys.flatMap Ac)):
 Calls Tryz.prog 10 #[s,s'] w fun e w'=>e=.returned (.bool true)/\Below w.heap.size w w':=
 (Ic s s' ys w hn h h').mono fun e w' ⟨h1,m,h2⟩=>⟨h1,h2▸Af _ _ _⟩
theorem Kf(x:MI)(w:World):
 Calls Tryz.prog 136 #[.agg #[.int .i64 x.op,.int .i64 x.a,.int .i64 x.b,.int .i64 x.c],.agg #[.int .i64 x.op,.int .i64 x.a,.int .i64 x.b,.int .i64 x.c]] w fun e w'=>e=.returned (.bool true)/\Below w.heap.size w w':=by
 go_enter Tryz.func136,Tryz.ntmps136;go_wp2
 go_ret
 exact⟨rfl,(((aX _ _).alloc lR _).alloc (by simp) _)⟩
theorem Kd(x:MC)(w:World):
 Calls Tryz.prog 64 #[.agg #[.int .i64 x.type,.int .u32 x.word],.agg #[.int .i64 x.type,.int .u32 x.word]] w fun e w'=>e=.returned (.bool true)/\Below w.heap.size w w':=by
 go_enter Tryz.func64,Tryz.ntmps64;go_wp2
 go_ret
 exact⟨rfl,(((aX _ _).alloc lR _).alloc (by simp) _)⟩
theorem K5(x:MT)(w:World):
 Calls Tryz.prog 66 #[.agg #[.int .i64 x.func,.int .i64 x.head,.int .i64 x.counter,.int .u32 x.init],.agg #[.int .i64 x.func,.int .i64 x.head,.int .i64 x.counter,.int .u32 x.init]] w fun e w'=>e=.returned (.bool true)/\Below w.heap.size w w':=by
 go_enter Tryz.func66,Tryz.ntmps66;go_wp2
 go_ret
 exact⟨rfl,(((aX _ _).alloc lR _).alloc (by simp) _)⟩
theorem Jf(s s':Value)(ys:List MI)(w:World)(hn:ys.length<=1048576)(h:Rd w 4 s ys.length (ys.flatMap MI.cells))(h':Rd w 4 s' ys.length (ys.flatMap MI.cells)):
 Calls Tryz.prog 104 #[s,s'] w fun e w'=>e=.returned (.bool true)/\Below w.heap.size w w':=by
 have H1:Hid (Rd w 4 s ys.length (ys.flatMap MI.cells)):=h;have H2:Hid (Rd w 4 s' ys.length (ys.flatMap MI.cells)):=h';obtain⟨a1,c1,rfl⟩:=h.is_slice;obtain⟨a2,c2,rfl⟩:=h'.is_slice;clear h h';generalize hLL:ys.length=n at hn H1 H2;have HL:Hid (ys.length=n):=hLL;clear hLL;go_enter Tryz.func104,Tryz.ntmps104;go_wp2
 go_loopw [5] (fun i wr=>∃k:Nat,k<=n/\i=.int .i64 k/\Below w.heap.size w wr) (fun i _=>n-(intOf i).toNat)
 case atStart=>exact⟨0,by omega,rfl,aX _ _⟩
 case round=>
  obtain⟨k,hk,rfl,hbel⟩:=hrel;have HB:Hid (Below w.heap.size w wr):=hbel;clear hbel;by_cases hlt:k<n
  . obtain⟨x,hx⟩:∃x,ys[k]?=some x:=⟨_,aA (by rw[HL.o];exact hlt)⟩
    rcases H1.o.2 with⟨e0,_⟩|⟨g,o,c,e1,hc1⟩
    . omega
    . rcases H2.o.2 with⟨e0,_⟩|⟨g',o',c',e2,hc2⟩
      . omega
      . simp only[aF,aw]at e1 e2
        obtain⟨rfl,rfl⟩:=e1;obtain⟨rfl,rfl⟩:=e2;have i0:=Rd.elem MI.cells_length hc1 k x hx 0 _ rfl;have i1:=Rd.elem MI.cells_length hc1 k x hx 1 _ rfl;have i2:=Rd.elem MI.cells_length hc1 k x hx 2 _ rfl;have i3:=Rd.elem MI.cells_length hc1 k x hx 3 _ rfl;have j0:=Rd.elem MI.cells_length hc2 k x hx 0 _ rfl;have j1:=Rd.elem MI.cells_length hc2 k x hx 1 _ rfl;have j2:=Rd.elem MI.cells_length hc2 k x hx 2 _ rfl;have j3:=Rd.elem MI.cells_length hc2 k x hx 3 _ rfl;rw[<-HB.o.cell (aC i0),aS]at i0;rw[<-HB.o.cell (aC i1)]at i1;rw[<-HB.o.cell (aC i2)]at i2;rw[<-HB.o.cell (aC i3)]at i3;rw[<-HB.o.cell (aC j0),aS]at j0;rw[<-HB.o.cell (aC j1)]at j1;rw[<-HB.o.cell (aC j2)]at j2;rw[<-HB.o.cell (aC j3)]at j3;clear hc1 hc2 hx;go_wp2_with fail
        go_region_with (go_at_call 136;refine(Kf x _).mono ?_;rintro e u ⟨rfl,hbu⟩)
        all_goals
         have HB2:Hid (Below w.heap.size w u):=HB.o.trans (A4 hbu HB.o.size);clear hbu HB i0 i1 i2 i3 j0 j1 j2 j3;go_wp2
         go_roundw
         case rel=>exact⟨k+1,by omega,by go_num,HB2.o⟩
         case measure=>simp[intOf];omega
  . go_wp2
    go_ret
    exact⟨rfl,HB.o⟩
theorem Kc(s s':Value)(ys:List MT)(w:World)(hn:ys.length<=1048576)(h:Rd w 4 s ys.length (ys.flatMap MT.cells))(h':Rd w 4 s' ys.length (ys.flatMap MT.cells)):
 Calls Tryz.prog 34 #[s,s'] w fun e w'=>e=.returned (.bool true)/\Below w.heap.size w w':=by
 have H1:Hid (Rd w 4 s ys.length (ys.flatMap MT.cells)):=h;have H2:Hid (Rd w 4 s' ys.length (ys.flatMap MT.cells)):=h';obtain⟨a1,c1,rfl⟩:=h.is_slice;obtain⟨a2,c2,rfl⟩:=h'.is_slice;clear h h';generalize hLL:ys.length=n at hn H1 H2;have HL:Hid (ys.length=n):=hLL;clear hLL;go_enter Tryz.func34,Tryz.ntmps34;go_wp2
 go_loopw [5] (fun i wr=>∃k:Nat,k<=n/\i=.int .i64 k/\Below w.heap.size w wr) (fun i _=>n-(intOf i).toNat)
 case atStart=>exact⟨0,by omega,rfl,aX _ _⟩
 case round=>
  obtain⟨k,hk,rfl,hbel⟩:=hrel;have HB:Hid (Below w.heap.size w wr):=hbel;clear hbel;by_cases hlt:k<n
  . obtain⟨x,hx⟩:∃x,ys[k]?=some x:=⟨_,aA (by rw[HL.o];exact hlt)⟩
    rcases H1.o.2 with⟨e0,_⟩|⟨g,o,c,e1,hc1⟩
    . omega
    . rcases H2.o.2 with⟨e0,_⟩|⟨g',o',c',e2,hc2⟩
      . omega
      . simp only[aF,aw]at e1 e2
        obtain⟨rfl,rfl⟩:=e1;obtain⟨rfl,rfl⟩:=e2;have i0:=Rd.elem MT.cells_length hc1 k x hx 0 _ rfl;have i1:=Rd.elem MT.cells_length hc1 k x hx 1 _ rfl;have i2:=Rd.elem MT.cells_length hc1 k x hx 2 _ rfl;have i3:=Rd.elem MT.cells_length hc1 k x hx 3 _ rfl;have j0:=Rd.elem MT.cells_length hc2 k x hx 0 _ rfl;have j1:=Rd.elem MT.cells_length hc2 k x hx 1 _ rfl;have j2:=Rd.elem MT.cells_length hc2 k x hx 2 _ rfl;have j3:=Rd.elem MT.cells_length hc2 k x hx 3 _ rfl;rw[<-HB.o.cell (aC i0),aS]at i0;rw[<-HB.o.cell (aC i1)]at i1;rw[<-HB.o.cell (aC i2)]at i2;rw[<-HB.o.cell (aC i3)]at i3;rw[<-HB.o.cell (aC j0),aS]at j0;rw[<-HB.o.cell (aC j1)]at j1;rw[<-HB.o.cell (aC j2)]at j2;rw[<-HB.o.cell (aC j3)]at j3;clear hc1 hc2 hx;go_wp2_with fail
        go_region_with (go_at_call 66;refine(K5 x _).mono ?_;rintro e u ⟨rfl,hbu⟩)
        all_goals
         have HB2:Hid (Below w.heap.size w u):=HB.o.trans (A4 hbu HB.o.size);clear hbu HB i0 i1 i2 i3 j0 j1 j2 j3;go_wp2
         go_roundw
         case rel=>exact⟨k+1,by omega,by go_num,HB2.o⟩
         case measure=>simp[intOf];omega
  . go_wp2
    go_ret
    exact⟨rfl,HB.o⟩
theorem Je(s s':Value)(ys:List MC)(w:World)(hn:ys.length<=1048576)(h:Rd w 2 s ys.length (ys.flatMap MC.cells))(h':Rd w 2 s' ys.length (ys.flatMap MC.cells)):
 Calls Tryz.prog 32 #[s,s'] w fun e w'=>e=.returned (.bool true)/\Below w.heap.size w w':=by
 have H1:Hid (Rd w 2 s ys.length (ys.flatMap MC.cells)):=h;have H2:Hid (Rd w 2 s' ys.length (ys.flatMap MC.cells)):=h';obtain⟨a1,c1,rfl⟩:=h.is_slice;obtain⟨a2,c2,rfl⟩:=h'.is_slice;clear h h';generalize hLL:ys.length=n at hn H1 H2;have HL:Hid (ys.length=n):=hLL;clear hLL;go_enter Tryz.func32,Tryz.ntmps32;go_wp2
 go_loopw [5] (fun i wr=>∃k:Nat,k<=n/\i=.int .i64 k/\Below w.heap.size w wr) (fun i _=>n-(intOf i).toNat)
 case atStart=>exact⟨0,by omega,rfl,aX _ _⟩
 case round=>
  obtain⟨k,hk,rfl,hbel⟩:=hrel;have HB:Hid (Below w.heap.size w wr):=hbel;clear hbel;by_cases hlt:k<n
  . obtain⟨x,hx⟩:∃x,ys[k]?=some x:=⟨_,aA (by rw[HL.o];exact hlt)⟩
    rcases H1.o.2 with⟨e0,_⟩|⟨g,o,c,e1,hc1⟩
    . omega
    . rcases H2.o.2 with⟨e0,_⟩|⟨g',o',c',e2,hc2⟩
      . omega
      . simp only[aF,aw]at e1 e2
        obtain⟨rfl,rfl⟩:=e1;obtain⟨rfl,rfl⟩:=e2;have i0:=Rd.elem MC.cells_length hc1 k x hx 0 _ rfl;have i1:=Rd.elem MC.cells_length hc1 k x hx 1 _ rfl;have j0:=Rd.elem MC.cells_length hc2 k x hx 0 _ rfl;have j1:=Rd.elem MC.cells_length hc2 k x hx 1 _ rfl;rw[<-HB.o.cell (aC i0),aS]at i0;rw[<-HB.o.cell (aC i1)]at i1;rw[<-HB.o.cell (aC j0),aS]at j0;rw[<-HB.o.cell (aC j1)]at j1;clear hc1 hc2 hx;go_wp2_with fail
        go_region_with (go_at_call 64;refine(Kd x _).mono ?_;rintro e u ⟨rfl,hbu⟩)
        all_goals
         have HB2:Hid (Below w.heap.size w u):=HB.o.trans (A4 hbu HB.o.size);clear hbu HB i0 i1 j0 j1;go_wp2
         go_roundw
         case rel=>exact⟨k+1,by omega,by go_num,HB2.o⟩
         case measure=>simp[intOf];omega
  . go_wp2
    go_ret
    exact⟨rfl,HB.o⟩
structure QB(w u:World)(tp:TypeId)(p r:List Value):Prop where
 par:u.ownsRow w.heap.size tp 4 (.slice (some ⟨w.heap.size,0,none⟩) 1 1) 1 p
 par':u.ownsRow w.heap.size tp 4 (.slice (some ⟨w.heap.size+1,0,none⟩) 1 1) 1 r
 bel:Below w.heap.size w u
theorem QB.of(w:World)(tp:TypeId)(p r:Array Value)(hp:p.size=4)(hr:r.size=4):
 QB w ((w.alloc (.cells p tp)).alloc (.cells r tp)) tp p.toList r.toList:=by
 have b1:Below w.heap.size w (w.alloc (.cells p tp)):=(aX _ _).alloc lR _;have c2:Below (w.alloc (.cells p tp)).heap.size (w.alloc (.cells p tp)) ((w.alloc (.cells p tp)).alloc (.cells r tp)):=(aX _ _).alloc lR _;have r1:=cX (base:=w.heap.size) (e:=tp) (size:=4) w p 1 lR (by unfold maxLen;omega) (by omega);have r2:=cX (base:=w.heap.size) (e:=tp) (size:=4) (w.alloc (.cells p tp)) r 1 (by simp) (by unfold maxLen;omega) (by omega);refine⟨Ag r1 c2 lR,?_,b1.trans (c2.mono (by simp))⟩;simpa using r2
theorem QB.keep{w u u':World}{tp:TypeId}{p r:List Value}(h:QB w u tp p r)(hb:Below u.heap.size u u'):QB w u' tp p r:=
 ⟨Ag h.par hb lR,Ag h.par' hb lR,h.bel.trans (hb.mono h.bel.size)⟩
theorem K6(v v':VF)(f:MF)(w:World)(hs:f.small)(h:C9 w v f)(h':C9 w v' f):
 Calls Tryz.prog 65 #[.agg #[v.p,.int .i64 f.result,v.l,v.c],.agg #[v'.p,.int .i64 f.result,v'.l,v'.c]] w fun e w'=>e=.returned (.bool true)/\Below w.heap.size w w':=by
 have F0:=QB.of w 48 #[v.p,.int .i64 f.result,v.l,v.c] #[v'.p,.int .i64 f.result,v'.l,v'.c] rfl rfl;have H:Hid (C9 w v f/\C9 w v' f/\f.small):=⟨h,h',hs⟩
 clear h h' hs;go_enter Tryz.func65,Tryz.ntmps65;go_wp2_with fail
 refine(CU v.p v'.p f.params _ (aY H.o.2.2.1 (by omega)) (H.o.1.1.keep F0.bel lR) (H.o.2.1.1.keep F0.bel lR)).mono ?_;rintro e u1 ⟨rfl,b1⟩;have F1:=F0.keep b1;clear b1 F0;obtain⟨p0,p1,p2,p3,_⟩:=Cz F1.par;obtain⟨o0,o1,o2,o3,_⟩:=Cz F1.par';go_wp2_with fail
 refine(CU v.l v'.l f.locals _ (aY H.o.2.2.2.1 (by omega)) (H.o.1.2.1.keep F1.bel lR) (H.o.2.1.2.1.keep F1.bel lR)).mono ?_;rintro e u2 ⟨rfl,b2⟩;have F2:=F1.keep b2;clear b2 F1 p0 p1 p2 p3 o0 o1 o2 o3;obtain⟨p0,p1,p2,p3,_⟩:=Cz F2.par;obtain⟨o0,o1,o2,o3,_⟩:=Cz F2.par';go_wp2_with fail
 refine(Jf v.c v'.c f.code _ H.o.2.2.2.2 (H.o.1.2.2.keep F2.bel lR) (H.o.2.1.2.2.keep F2.bel lR)).mono ?_;rintro e u3 ⟨rfl,b3⟩;have F3:=F2.keep b3;clear b3 F2 p0 p1 p2 p3 o0 o1 o2 o3;go_wp2
 go_ret
 exact⟨rfl,F3.bel⟩
theorem Ke(s s':Value)(fs:List MF)(w:World)(hL:fs.length<=1048576)(hs:∀f∈fs,f.small)(h:Hq w s fs)(h':Hq w s' fs):
 Calls Tryz.prog 33 #[s,s'] w fun e w'=>e=.returned (.bool true)/\Below w.heap.size w w':=by
 obtain⟨xs,hxs,hrd,hel⟩:=h;obtain⟨xs',hxs',hrd',hel'⟩:=h';have hxl:xs.length=fs.length:=by rw[<-hxs];simp
 have hxl':xs'.length=fs.length:=by rw[<-hxs'];simp
 have H1:Hid (Rd w 4 s fs.length (xs.flatMap Bi)/\xs.map Prod.fst=fs/\(∀x∈xs,C9 w x.2 x.1)/\(∀f∈fs,f.small)/\xs.length=fs.length):=⟨hrd,hxs,hel,hs,hxl⟩
 have H2:Hid (Rd w 4 s' fs.length (xs'.flatMap Bi)/\xs'.map Prod.fst=fs/\(∀x∈xs',C9 w x.2 x.1)/\(∀f∈fs,f.small)/\xs'.length=fs.length):=⟨hrd',hxs',hel',hs,hxl'⟩
 obtain⟨a1,c1,rfl⟩:=hrd.is_slice;obtain⟨a2,c2,rfl⟩:=hrd'.is_slice;clear hrd hxs hel hs hxl hrd' hxs' hel' hxl';generalize hLL:fs.length=n at hL H1 H2;clear hLL;go_enter Tryz.func33,Tryz.ntmps33;go_wp2
 go_loopw [5] (fun i wr=>∃k:Nat,k<=n/\i=.int .i64 k/\Below w.heap.size w wr) (fun i _=>n-(intOf i).toNat)
 case atStart=>exact⟨0,by omega,rfl,aX _ _⟩
 case round=>
  obtain⟨k,hk,rfl,hbel⟩:=hrel;have HB:Hid (Below w.heap.size w wr):=hbel;clear hbel;by_cases hlt:k<n
  . obtain⟨⟨f,v⟩,hx⟩:∃x,xs[k]?=some x:=⟨_,aA (by rw[H1.o.2.2.2.2];exact hlt)⟩
    obtain⟨⟨f',v'⟩,hx'⟩:∃x,xs'[k]?=some x:=⟨_,aA (by rw[H2.o.2.2.2.2];exact hlt)⟩;have e1:=BM H1.o.2.1 hx;have e2:=BM H2.o.2.1 hx'
    have hff:f'=f:=by
     rw[e1]at e2;exact(ae e2).symm
    subst hff;have HX:Hid (C9 wr v f'/\C9 wr v' f'/\f'.small):=⟨(H1.o.2.2.1 _ (aE hx)).keep HB.o lR,(H2.o.2.2.1 _ (aE hx')).keep HB.o lR,H1.o.2.2.2.1 _ (aE e1)⟩
    clear e1 e2;rcases H1.o.1.2 with⟨e0,_⟩|⟨g,o,c,e1,hc1⟩
    . omega
    . rcases H2.o.1.2 with⟨e0,_⟩|⟨g',o',c',e2,hc2⟩
      . omega
      . simp only[aF,aw]at e1 e2
        obtain⟨rfl,rfl⟩:=e1;obtain⟨rfl,rfl⟩:=e2;have i0:=Rd.elem Ah hc1 k _ hx 0 _ rfl;have i1:=Rd.elem Ah hc1 k _ hx 1 _ rfl;have i2:=Rd.elem Ah hc1 k _ hx 2 _ rfl;have i3:=Rd.elem Ah hc1 k _ hx 3 _ rfl;have j0:=Rd.elem Ah hc2 k _ hx' 0 _ rfl;have j1:=Rd.elem Ah hc2 k _ hx' 1 _ rfl;have j2:=Rd.elem Ah hc2 k _ hx' 2 _ rfl;have j3:=Rd.elem Ah hc2 k _ hx' 3 _ rfl;rw[<-HB.o.cell (aC i0),aS]at i0;rw[<-HB.o.cell (aC i1)]at i1;rw[<-HB.o.cell (aC i2)]at i2;rw[<-HB.o.cell (aC i3)]at i3;rw[<-HB.o.cell (aC j0),aS]at j0;rw[<-HB.o.cell (aC j1)]at j1;rw[<-HB.o.cell (aC j2)]at j2;rw[<-HB.o.cell (aC j3)]at j3;clear hc1 hc2 hx hx';simp only[]at i0 i1 i2 i3 j0 j1 j2 j3;go_wp2_with fail
        go_region_with (go_at_call 65;refine(K6 v v' f' _ HX.o.2.2 (by exact HX.o.1) (by exact HX.o.2.1)).mono ?_;rintro e u ⟨rfl,hbu⟩)
        all_goals
         have HB2:Hid (Below w.heap.size w u):=HB.o.trans (A4 hbu HB.o.size);clear hbu HB i0 i1 i2 i3 j0 j1 j2 j3;go_wp2
         go_roundw
         case rel=>exact⟨k+1,by omega,by go_num,HB2.o⟩
         case measure=>simp[intOf];omega
  . go_wp2
    go_ret
    exact⟨rfl,HB.o⟩
theorem Ib(s s':Value)(fs:List (List Int))(w:World)(hL:fs.length<=1048576)(hs:∀f∈fs,f.length<=1048576)(h:OI w s fs)(h':OI w s' fs):
 Calls Tryz.prog 31 #[s,s'] w fun e w'=>e=.returned (.bool true)/\Below w.heap.size w w':=by
 obtain⟨xs,hxs,hrd,hel⟩:=h;obtain⟨xs',hxs',hrd',hel'⟩:=h';have hxl:xs.length=fs.length:=by rw[<-hxs];simp
 have hxl':xs'.length=fs.length:=by rw[<-hxs'];simp
 have H1:Hid (Rd w 1 s fs.length (xs.flatMap Bl)/\xs.map Prod.fst=fs/\(∀x∈xs,Rd w 1 x.2 x.1.length (x.1.flatMap Ac))/\(∀f∈fs,f.length<=1048576)/\xs.length=fs.length):=⟨hrd,hxs,hel,hs,hxl⟩
 have H2:Hid (Rd w 1 s' fs.length (xs'.flatMap Bl)/\xs'.map Prod.fst=fs/\(∀x∈xs',Rd w 1 x.2 x.1.length (x.1.flatMap Ac))/\(∀f∈fs,f.length<=1048576)/\xs'.length=fs.length):=⟨hrd',hxs',hel',hs,hxl'⟩
 obtain⟨a1,c1,rfl⟩:=hrd.is_slice;obtain⟨a2,c2,rfl⟩:=hrd'.is_slice;clear hrd hxs hel hs hxl hrd' hxs' hel' hxl';generalize hLL:fs.length=n at hL H1 H2;clear hLL;go_enter Tryz.func31,Tryz.ntmps31;go_wp2
 go_loopw [5] (fun i wr=>∃k:Nat,k<=n/\i=.int .i64 k/\Below w.heap.size w wr) (fun i _=>n-(intOf i).toNat)
 case atStart=>exact⟨0,by omega,rfl,aX _ _⟩
 case round=>
  obtain⟨k,hk,rfl,hbel⟩:=hrel;have HB:Hid (Below w.heap.size w wr):=hbel;clear hbel;by_cases hlt:k<n
  . obtain⟨⟨f,v⟩,hx⟩:∃x,xs[k]?=some x:=⟨_,aA (by rw[H1.o.2.2.2.2];exact hlt)⟩
    obtain⟨⟨f',v'⟩,hx'⟩:∃x,xs'[k]?=some x:=⟨_,aA (by rw[H2.o.2.2.2.2];exact hlt)⟩;have e1:=BM H1.o.2.1 hx;have e2:=BM H2.o.2.1 hx'
    have hff:f'=f:=by
     rw[e1]at e2;exact(ae e2).symm
    subst hff;have HX:Hid (Rd wr 1 v f'.length (f'.flatMap Ac)/\Rd wr 1 v' f'.length (f'.flatMap Ac)/\f'.length<=140737488355328):=⟨(H1.o.2.2.1 _ (aE hx)).keep HB.o lR,(H2.o.2.2.1 _ (aE hx')).keep HB.o lR,aY (H1.o.2.2.2.1 _ (aE e1)) (by omega)⟩
    clear e1 e2;rcases H1.o.1.2 with⟨e0,_⟩|⟨g,o,c,e1,hc1⟩
    . omega
    . rcases H2.o.1.2 with⟨e0,_⟩|⟨g',o',c',e2,hc2⟩
      . omega
      . simp only[aF,aw]at e1 e2
        obtain⟨rfl,rfl⟩:=e1;obtain⟨rfl,rfl⟩:=e2;have i0:=Rd.elem AW hc1 k _ hx 0 _ rfl;have j0:=Rd.elem AW hc2 k _ hx' 0 _ rfl;rw[<-HB.o.cell (aC i0)]at i0;rw[<-HB.o.cell (aC j0)]at j0;rw[bf,aS]at i0 j0;clear hc1 hc2 hx hx';simp only[]at i0 j0;go_wp2_with fail
        go_region_with (go_at_call 10;refine(CU v v' f' _ HX.o.2.2 (by exact HX.o.1) (by exact HX.o.2.1)).mono ?_;rintro e u ⟨rfl,hbu⟩)
        all_goals
         have HB2:Hid (Below w.heap.size w u):=HB.o.trans (A4 hbu HB.o.size);clear hbu HB i0 j0;go_wp2
         go_roundw
         case rel=>exact⟨k+1,by omega,by go_num,HB2.o⟩
         case measure=>simp[intOf];omega
  . go_wp2
    go_ret
    exact⟨rfl,HB.o⟩
theorem Ie(v v':VP)(p:MP)(w:World)(hs:p.small)(h:Dg w v p)(h':Dg w v' p):
 Calls Tryz.prog 9 #[.agg #[v.r,v.k,v.f,v.t],.agg #[v'.r,v'.k,v'.f,v'.t]] w fun e w'=>e=.returned (.bool true)/\Below w.heap.size w w':=by
 have F0:=QB.of w 35 #[v.r,v.k,v.f,v.t] #[v'.r,v'.k,v'.f,v'.t] rfl rfl;go_enter Tryz.func9,Tryz.ntmps9;go_wp2_with fail
 refine(Ib v.r v'.r p.regions _ hs.regions hs.region (h.regions.keep F0.bel lR) (h'.regions.keep F0.bel lR)).mono ?_;rintro e u1 ⟨rfl,b1⟩;have F1:=F0.keep b1;clear b1 F0;obtain⟨p0,p1,p2,p3,_⟩:=Cz F1.par;obtain⟨o0,o1,o2,o3,_⟩:=Cz F1.par';go_wp2_with fail
 refine(Je v.k v'.k p.consts _ hs.consts (h.consts.keep F1.bel lR) (h'.consts.keep F1.bel lR)).mono ?_;rintro e u2 ⟨rfl,b2⟩;have F2:=F1.keep b2;clear b2 F1 p0 p1 p2 p3 o0 o1 o2 o3;obtain⟨p0,p1,p2,p3,_⟩:=Cz F2.par;obtain⟨o0,o1,o2,o3,_⟩:=Cz F2.par';go_wp2_with fail
 refine(Ke v.f v'.f p.funcs _ hs.funcs hs.func (h.funcs.keep F2.bel lR) (h'.funcs.keep F2.bel lR)).mono ?_;rintro e u3 ⟨rfl,b3⟩;have F3:=F2.keep b3;clear b3 F2 p0 p1 p2 p3 o0 o1 o2 o3;obtain⟨p0,p1,p2,p3,_⟩:=Cz F3.par;obtain⟨o0,o1,o2,o3,_⟩:=Cz F3.par';go_wp2_with fail
 refine(Kc v.t v'.t p.certs _ hs.certs (h.certs.keep F3.bel lR) (h'.certs.keep F3.bel lR)).mono ?_;rintro e u4 ⟨rfl,b4⟩;have F4:=F3.keep b4;clear b4 F3 p0 p1 p2 p3 o0 o1 o2 o3;go_wp2
 go_ret
 exact⟨rfl,F4.bel⟩
end Go.Proofs.YtdipfjmlfbdkdaaGreat
