import Derived.Test.YtjcamlobelcepaaGreatDoorCt37
namespace Go.Proofs.YtjcamlobelcepaaGreatDoor
open Go.ChangeShapes Go.WideShapes Go.ChangeAt Go.RowKit
set_option linter.unusedVariables false
set_option maxHeartbeats 8000000
set_option maxRecDepth 100000
def Sp(n A P:Int):Prop:=∀ ⦃w u:World⦄ ⦃s:CR⦄ ⦃k:GK⦄ ⦃p left lv:Int⦄ ⦃nt:Nat⦄ ⦃D:List As⦄ ⦃t deep:Int⦄,Hid (GS w u s k p left lv nt D)->deep<=n-> -1000000<=deep->p+A+300<=1000000000000-> -600000+10*P<=left->1<=t/\t<=3->Calls Tryz.prog 36 #[.pointer (some ⟨k.Gb,0,none⟩),iZ t,iZ deep] u (Mg w s k p left lv nt D A P)
theorem Mc{n A P:Int}(H:Hid (Sp n A P)){w u:World}{s:CR}{k:GK}{p left lv:Int}{nt:Nat}{D:List As}{t deep:Int}(E:Hid (GS w u s k p left lv nt D))(ht:1<=t/\t<=3:=by omega)(h1:deep<=n:=by omega)(h2:-1000000<=deep:=by omega)(h3:p+A+300<=1000000000000:=by omega)(h4:-600000+10*P<=left:=by omega):Calls Tryz.prog 36 #[.pointer (some ⟨k.Gb,0,none⟩),iZ t,iZ deep] u (Mg w s k p left lv nt D A P):=H.o E h1 h2 h3 h4 ht
theorem St{n A P:Int}(H:Hid (Sp n A P)){w u:World}{s:CR}{k:GK}{p left lv:Int}{nt:Nat}{D:List As}{deep:Int}{f:Nat}(E:Hid (GS w u s k p left lv nt D))(hf:f<k.G.length)(hA:8<=A/\A<=100000:=by omega)(hP:1<=P/\P<=100:=by omega)(hd:deep<=n+1:=by omega)(hd2:-900000<=deep:=by omega)(hn:n<=1000:=by omega)(hp:p+3*A+300<=1000000000000:=by omega)(hl:-600000+10*(3*P+1)<=left:=by omega):
 Calls Tryz.prog 55 #[.pointer (some ⟨k.Gb,0,none⟩),iZ (f:Int),iZ deep] u (Mg w s k p left lv nt D (3*A) (3*P+1)):=by
 have hfI:(f:Int)<(k.G.length:Int):=by omega
 have hp0:=E.o.le;have hgl:=E.o.ok.gl;obtain⟨gf0,cf0,xs,a0,c0,hxs,_,_,_,_,hx8,hxt⟩:=E.o.fn hf;have HX:=Af (aG hxs hxt);have hwd:IntKind.i64.wrap (deep-1)=deep-1:=cQ _ ⟨by omega,by omega⟩;clear hxs hxt;go_enter Tryz.func55,Tryz.ntmps55;go_wp2_with fail
 go_loopw [6] (fun i wr=>∃(j:Nat) (p' left':Int),j<=xs.length/\i=iZ j/\(p<=p'/\p'<=p+j*A/\left-j*P<=left'/\left'<=left-j)/\Hid (GS w wr s k p' left' lv nt D)) (fun i _=>xs.length-(intOf i).toNat)
 case atStart=>exact⟨0,p,left,by omega,rfl,by omega,E⟩
 case round=>
  obtain⟨j,p1,left1,hj,rfl,g1,E⟩:=hrel;obtain⟨gf,cf,xs',a,c,hxs',d0,d1,d2,hrd,_,_⟩:=E.o.fn hf;rw[HX.o.1]at hxs';obtain rfl:xs=xs':=by simpa using hxs'
  clear hxs';have hjA:(j:Int)*A<=3*A:=dI (by omega) (by omega);have hjP:(j:Int)*P<=3*P:=dI (by omega) (by omega);by_cases hlt:j<xs.length
  case pos=>
   have hltI:(j:Int)<(xs.length:Int):=by omega
   have hjA1:((j:Int)+1)*A<=3*A:=dI (by omega) (by omega);have hjP1:((j:Int)+1)*P<=3*P:=dI (by omega) (by omega);have hA2:∀X:Int,((j:Int)+1)*X=j*X+X:=fun X=>by rw[Int.add_mul,Int.one_mul]
   rw[hA2]at hjA1 hjP1;obtain⟨x,hx⟩:∃x,xs[j]?=some x:=⟨_,aA hlt⟩;have hxw:=HX.o.2 x (aF hx);obtain⟨ga,oa,rfl,kz⟩:=Ow hrd hlt hx;clear hx hrd;have hcon:=Af (Mc H E hxw (deep:=deep-1) (by omega) (by omega) (by omega) (by omega));clear hxw;generalize hA3:(j:Int)*A=jA at*;generalize hP3:(j:Int)*P=jP at*;go_wp2_with fail
   refine hcon.o.mono ?_;rintro e u2 ⟨rfl,p2,left2,f1,E2⟩;go_wp2_with fail
   go_roundw
   case rel=>exact⟨j+1,p2,left2,by omega,by go_num,by rw[Int.natCast_add,Int.natCast_one,hA2,hA2,hA3,hP3];omega,E2⟩
   case measure=>simp[intOf];omega
  generalize (j:Int)*A=jA at*;generalize (j:Int)*P=jP at*;clear hrd;go_wp2_with fail
  refine(Fa E (UH hf hgl)).mono ?_;rintro e u ⟨n,rfl,_,E⟩;exact gE
theorem UF(r:Int)(h:0<=r/\r<5):∃v:Int,(#[iZ 17,iZ 18,iZ 13,iZ 14,iZ 15]:Array Value)[r.toNat]?=some (iZ v)/\(v=17\/v=18\/v=13\/v=14\/v=15):=by
 obtain rfl|rfl|rfl|rfl|rfl:r=0\/r=1\/r=2\/r=3\/r=4:=by omega
 all_goals exact⟨_,rfl,by omega⟩
theorem UC(r:Int)(h:0<=r/\r<3):∃v:Int,(#[iZ 1,iZ 2,iZ 3]:Array Value)[r.toNat]?=some (iZ v)/\1<=v/\v<=3:=by
 obtain rfl|rfl|rfl:r=0\/r=1\/r=2:=by omega
 all_goals exact⟨_,rfl,by omega⟩
theorem T7{w u:World}{s:CR}{k:GK}{p left lv:Int}{nt:Nat}{D:List As}(E:Hid (GS w u s k p left lv nt D))(xs:Array Value){n:Int}(hp:p+1<=1000000000000:=by omega)(hn:1<=n:=by omega)(hn':n<=1000000:=by omega):Calls Tryz.prog 34 #[.pointer (some ⟨s.S,0,none⟩),.int .i64 n] (u.alloc (.cells xs 2)) fun e u'=>∃r:Int,e=.returned (iZ r)/\(0<=r/\r<n)/\Hid (GS w u' s k (p+1) left lv nt D)/\u'.cell? ⟨u.heap.size,r.toNat,none⟩=xs[r.toNat]?:=
 have hlt:=E.o.src.lt
 (A5 (E.o.keep (Aa _ _)).src hp hn hn').mono fun e u' ⟨r,h0,h1,e1,hs,hd⟩=>⟨r,e1,⟨h0,h1⟩,(E.o.keep (Aa _ _)).draw hs hd,by rw[hd.cell (by simp) (by show u.heap.size≠s.S;omega),cu _ _ _ _ _ _ (dB _ _)]⟩
theorem opG{n A P:Int}(H:Hid (Sp n A P)){w u:World}{s:CR}{k:GK}{p left lv t deep:Int}{nt:Nat}{D:List As}(E:Hid (GS w u s k p left lv nt D))(ht:1<=t/\t<=3:=by omega)(hA:8<=A/\A<=100000:=by omega)(hP:1<=P/\P<=100:=by omega)(hd:deep<=n:=by omega)(hd2:-900000<=deep:=by omega)(hn:n<=1000:=by omega)(hp:p+2*A+310<=1000000000000:=by omega)(hl:-600000+10*(3*P+1)<=left:=by omega):
 Calls Tryz.prog 57 #[.pointer (some ⟨k.Gb,0,none⟩),iZ t,iZ deep] u (Mg w s k p left lv nt D (2*A+8) (2*P+1)):=by
 obtain⟨_,_,q0,_⟩:=E.o.cells;have hp0:=E.o.le;go_enter Tryz.func57,Tryz.ntmps57;obtain rfl|ht':t=1\/t=2\/t=3:=by omega
 case inl=>
  go_wp2_with fail
  refine(Ol E).mono ?_;rintro e u ⟨r,rfl,hr,E⟩;clear q0;rcases(show r=0\/r=1\/r=2\/r=3 by omega)with rfl|rfl|rfl|rfl
  focus
   go_wp2_with fail
   refine(Ol E).mono ?_;rintro e u ⟨r,rfl,hr,E⟩
   iterate 2
    go_wp2_with fail
    refine(Mc H E).mono ?_;rintro e u ⟨rfl,_,_,_,E⟩
   go_wp2_with fail
   refine(Fa E okE).mono ?_;rintro e u ⟨n,rfl,_,E⟩;exact gE
  focus
   go_wp2_with fail
   refine(Ol E).mono ?_;rintro e u ⟨r,rfl,hr,E⟩
   iterate 2
    go_wp2_with fail
    refine(Mc H E).mono ?_;rintro e u ⟨rfl,_,_,_,E⟩
   go_wp2_with fail
   refine(Fa E ok5).mono ?_;rintro e u ⟨n,rfl,_,E⟩;exact gE
  focus
   go_wp2_with fail
   refine(Mc H E).mono ?_;rintro e u ⟨rfl,_,_,_,E⟩;go_wp2_with fail
   refine(Fa E Uq).mono ?_;rintro e u ⟨n,rfl,_,E⟩;exact gE
  iterate 2
   go_wp2_with fail
   refine(Mc H E).mono ?_;rintro e u ⟨rfl,_,_,_,E⟩
  go_wp2_with fail
  refine(Ol E).mono ?_;rintro e u ⟨r,rfl,hr,E⟩;go_wp2_with fail
  refine(Fa E (okB hr)).mono ?_;rintro e u ⟨n,rfl,_,E⟩;exact gE
 rcases ht' with rfl|rfl
 iterate 2
  go_wp2_with fail
  refine(TT E).mono ?_;rintro e u ⟨b,rfl,E⟩;cases b
  rotate_left;go_wp2_with fail
  refine(Mc H E).mono ?_;rintro e u ⟨rfl,_,_,_,E⟩;go_wp2_with fail
  first
   | refine(TT E).mono ?_
     rintro e u ⟨b,rfl,E⟩;cases b
     rotate_left;go_wp2_with fail
     refine(Fa E Uq).mono ?_
   |refine(Fa E ok0).mono ?_
  rintro e u ⟨n,rfl,_,E⟩;exact gE
 iterate 2
  focus
   go_wp2_with fail
   refine(Mc H E).mono ?_;rintro e u ⟨rfl,_,_,_,E⟩;go_wp2_with fail
   refine(TT E).mono ?_;rintro e u ⟨b,rfl,E⟩;cases b
   case' false=>
    go_wp2_with fail
    refine(Mc H E).mono ?_;rintro e u ⟨rfl,_,_,_,E⟩
   case' true=>
    go_wp2_with fail
    refine(Fa E ok0).mono ?_;rintro e u ⟨n,rfl,_,E⟩
   all_goals
    go_wp2_with fail
    refine(Ol E).mono ?_;rintro e u ⟨r,rfl,hr,E⟩;go_wp2_with fail
    refine(Fa E (okA hr)).mono ?_;rintro e u ⟨n,rfl,_,E⟩;exact gE
 go_wp2_with fail
 refine(Mc H E).mono ?_;rintro e u ⟨rfl,p4,l4,_,E⟩;go_wp2_with fail
 refine(T7 E _).mono ?_;rintro e u5 ⟨r,rfl,hr,E,hcl⟩;obtain⟨vl,hvl,hv⟩:=UF r hr;rw[hvl]at hcl;go_wp2_with fail
 refine(Ud E).mono ?_;rintro e u6 ⟨n',rfl,E⟩;obtain⟨gc,cc,n6,hn6,c3,o0,o1,z1,hset⟩:=Pf.at (t:=3) E.o (by omega);have HSC:Hid (∀W,Below u6.heap.size u6 W->W.cell? ⟨k.Gb,3,none⟩=some (sG gc (n6+1) cc)):=fun W hW=>Ad hW c3
 obtain⟨d,hd9⟩:∃d:Nat,d=n6+1:=⟨_,rfl⟩;rw[<-hd9]at HSC;have hsub:IntKind.i64.wrap ((d:Int)-1)=(n6:Int):=by rw[cQ _ ⟨by omega,by omega⟩];omega
 have hltI:(n6:Int)<(d:Int):=by omega
 have hlt0:(0:Int)<=(n6:Int):=by omega
 have HS:=Af hset;clear hset c3 hd9 hn6 hcl;go_upto_region 28 with fail
 refine wp_region_held_drew (S:=fun W=>W.cell? ⟨k.Gb,3,none⟩=some (sG gc d cc)) (by kernel_rfl) (by exact HSC.o _ (Ae _)) (fun hHeld=> ?_);refine Ar 0 ?_;refine Ar 1 ?_;refine Ar 2 ?_;refine Ar 3 ?_;refine Ar 4 ?_;refine Ar 5 ?_;refine Ar 6 ?_;refine Ar 7 ?_;refine Ar 8 ?_;refine Ar 9 ?_;refine Ar 10 ?_;refine Ar 11 ?_;refine wpAnyH_done (by kernel_rfl) ?_ _;clear hHeld hsub hltI hlt0;go_simp;have o0':u6.drew.cell? ⟨gc,n6*4,none⟩=some (iZ vl):=o0;have o1':u6.drew.cell? ⟨gc,n6*4+1,none⟩=some (iZ 0):=o1;have z1':u6.drew.frozen? ⟨gc,n6*4+1,none⟩=false:=z1;clear o0 o1 z1 HSC;rcases hv with rfl|rfl|rfl|rfl|rfl
 iterate 2
  have E:=Af ((E.o.gs ok0).keep (Ae _));exact gE
 all_goals
  have E:=Af ((HS.o Uq).keep (Ae _));exact gE
end Go.Proofs.YtjcamlobelcepaaGreatDoor
