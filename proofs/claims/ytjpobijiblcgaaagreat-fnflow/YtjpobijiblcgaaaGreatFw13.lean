import Derived.Test.YtjpobijiblcgaaaGreatFw0
import Derived.Test.YtjpobijiblcgaaaGreatFw12
import Derived.Test.YtjpobijiblcgaaaGreatFw5
import Derived.Shelf.SlicesG.Reverse
import Derived.Shelf.Bits.Mul64
import Derived.Shelf.Lay
import Derived.Laws.CopyOwn
import Derived.Ground.NamesProg
import Derived.Deep.AppendLies
namespace Go.Proofs
open Go.Shelf
def Tryz.lReverse_ren:Go.Shelf.Ren:=⟨fun|35=>31|n=>n,fun|22=>26|23=>2|3=>3|4=>4|0=>0|n=>n,fun|n=>n⟩
theorem Tryz.lReverse:Go.Proofs.SlLaysN.n35 Tryz.prog Tryz.lReverse_ren:={
 mixed:=by kernel_rfl
 f35:=⟨Tryz.f31.name,by decide,Tryz.func31.trans (congrArg some (by kernel_rfl))⟩
 t0:=Tryz.underlying0
 a0:=Tryz.isAgg0
 z0:=Tryz.sizeOf0
 v0:=Tryz.zeroValue0
 t3:=Tryz.underlying3
 a3:=Tryz.isAgg3
 z3:=Tryz.sizeOf3
 v3:=Tryz.zeroValue3
 t4:=Tryz.underlying4
 a4:=Tryz.isAgg4
 z4:=Tryz.sizeOf4
 v4:=Tryz.zeroValue4
 t22:=Tryz.underlying26
 a22:=Tryz.isAgg26
 z22:=Tryz.sizeOf26
 v22:=Tryz.zeroValue26
 t23:=Tryz.underlying2
 a23:=Tryz.isAgg2
 z23:=Tryz.sizeOf2
 v23:=Tryz.zeroValue2}
def Tryz.lMul_ren:Go.Shelf.Ren:=⟨fun|212=>49|263=>62|264=>63|n=>n,fun|46=>91|51=>100|146=>123|53=>125|148=>126|n=>n,fun|n=>n⟩
theorem Tryz.lMul:Go.Proofs.Lays.n212 Tryz.prog Tryz.lMul_ren:={
 mixed:=by kernel_rfl
 f212:=Tryz.func49.trans (congrArg some (by kernel_rfl))
 f263:=Tryz.func62.trans (congrArg some (by kernel_rfl))
 f264:=Tryz.func63.trans (congrArg some (by kernel_rfl))
 t46:=Tryz.underlying91
 a46:=Tryz.isAgg91
 z46:=Tryz.sizeOf91
 v46:=Tryz.zeroValue91
 t51:=Tryz.underlying100
 a51:=Tryz.isAgg100
 z51:=Tryz.sizeOf100
 v51:=Tryz.zeroValue100
 t53:=Tryz.underlying125
 a53:=Tryz.isAgg125
 z53:=Tryz.sizeOf125
 v53:=Tryz.zeroValue125
 t146:=Tryz.underlying123
 a146:=Tryz.isAgg123
 z146:=Tryz.sizeOf123
 v146:=Tryz.zeroValue123
 t148:=Tryz.underlying126
 a148:=Tryz.isAgg126
 z148:=Tryz.sizeOf126
 v148:=Tryz.zeroValue126}
end Go.Proofs
namespace Go.Proofs.YtjpobijiblcgaaaGreat
open Go.ChangeShapes Go.WideShapes Go.ChangeAt Go.RowKit
set_option linter.unusedVariables false
set_option maxHeartbeats 4000000
set_option maxRecDepth 100000
theorem PW(x y:Nat)(hx:x<18446744073709551616)(hy:y<18446744073709551616)(w:World):
 Calls Tryz.prog 49 #[.int .u64 x,.int .u64 y] w fun e w'=>e=.returned (.tuple #[.int .u64 ((x*y / 18446744073709551616:Nat):Int),.int .u64 ((x*y % 18446744073709551616:Nat):Int)])/\w'=w:=by
 have h:=Any.bits_Mul Tryz.lMul x y hx hy w;exact h
theorem LA(g cap:Nat)(zs:List Int)(w:World)(hH:Go.Sort.Holds (Value.int .i64) w g 0 zs.toArray)(hsz:zs.length<=9223372036854775807):
 Calls Tryz.prog 31 #[.slice (some ⟨g,0,none⟩) zs.length cap] w fun e w'=>e=.returned (.tuple #[])/\∃n,w'=Go.Sort.putRow (Value.int .i64) (Go.Sort.ahead w n) g 0 zs.reverse.toArray:=by
 have h:=AnyG.slices_Reverse_int Tryz.lReverse g 0 cap zs w hH hsz;exact h
def DF(k n:Nat):List Value:=List.replicate k (.int .i64 (-1))++List.replicate (n-k) (.int .i64 0)
theorem Ly(k n:Nat)(h:k<=n):(DF k n).length=n:=by simp[DF];omega
theorem Lz(k c n:Nat)(h:k+c<=n):splice (DF k n) k (List.replicate c (.int .i64 (-1)))=DF (k+c) n:=by
 unfold splice DF;rw[List.take_left' (by simp),dO,List.drop_append,dq (by simp),bL,dO,List.drop_replicate,<-cJ,List.replicate_append_replicate];congr 2
 omega
theorem KG(W:World)(G k n dl dc sl sc c:Nat)(ad:Addr)(hg:An W G (DF k n).toArray 2)(hc:c=Nat.min sl dl)(hsrc:∀j,j<c->W.cell? (ad.add j)=some (.int .i64 (-1)))(hkc:k+c<=n):
 (Builtin.copy_ #[26,26] 3 #[.slice (some ⟨G,k,none⟩) dl dc,.slice (some ad) sl sc]).run Tryz.prog W=.ok (.int .i64 (c:Int)) (W.setRow G (DF (k+c) n).toArray):=by
 obtain⟨k0,hk,hx0,hx1,hx2⟩:=bH Bf
 have h:=run_copy_row (P:=Tryz.prog) W 26 26 3 2 G k dl dc ad sl sc (DF k n).toArray 2 (List.replicate c (.int .i64 (-1))) Tryz.underlying26 (by rw[hk];simp[hx1]) hg (by rw[dO];exact hc) (fun j v hj=>by
  obtain⟨h1,h2⟩:=aD.1 hj;rw[dO]at h1;rw[hsrc j h1,<-h2];simp) (by rw[dO,List.size_toArray,Ly k n (by omega)];exact hkc) (fun v hv=>by rw[(List.mem_replicate.1 hv).2];rfl)
 rw[h];have e:=Lz k c n hkc;unfold splice at e;simp only[dO]at e⊢;rw[cJ,e];rfl
theorem QP(k n i:Nat)(h:i<k)(hk:k<=n):(DF k n).toArray[i]?=some (.int .i64 (-1)):=by
 rw[aU];unfold DF;rw[bW (by simpa using h)];simp[h]
theorem OQ{W:World}{B G n:Nat}(h:W.ownsRow B 2 1 (.slice (some ⟨G,0,none⟩) n n) n (madeCells (Value.int .i64 0).cells (n*1)).toList):An W G (DF 0 n).toArray 2:=by
 rcases h.2 with⟨h',_⟩|⟨g',cap',cur,h',hb,hg,h3,h4,h5,h6⟩
 . cases h'
 . cases h'
   have e:cur=(DF 0 n).toArray:=by
    rw[GW n (fun _=>[]) []]at h6;rw[bZ (by simp[h5])]at h6;apply Array.toList_inj.1;rw[h6];simp[Cs,DF,List.flatten_replicate_singleton]
   rw[<-e];exact hg
theorem IV{W:World}{G:Nat}{cur new:Array Value}{t:TypeId}(h:An W G cur t):An (W.setRow G new) G new t:=setRow_heap W G _ _ t _ h
theorem MN(g n:Nat)(w:World)(h1:1<=n)(hn:n<=1024)(h:w.cell? ⟨g,0,none⟩=some (.int .i64 (-1))):
 Calls Tryz.prog 34 #[.slice (some ⟨g,0,none⟩) 1 1,.int .i64 (n:Int)] w fun e w'=>∃g',e=.returned (.slice (some ⟨g',0,none⟩) n n)/\w'.ownsRow w.heap.size 2 1 (.slice (some ⟨g',0,none⟩) n n) n (List.replicate n (.int .i64 (-1)))/\Below w.heap.size w w':=by
 obtain⟨k0,hk,hx0,hx1,hx2⟩:=bH Bf;have hnI:¬(n:Int)<0:=by omega
 have hn2:(n:Int)<=1024:=by omega
 have hm1:1*n / 18446744073709551616=0:=by omega
 have hm2:1*n % 18446744073709551616=n:=by omega
 have HM:Hid (∀U:World,Calls Tryz.prog 49 #[.int .u64 1,.int .u64 (n:Int)] U fun e w'=>e=.returned (.tuple #[.int .u64 0,.int .u64 (n:Int)])/\w'=U):=fun U=>by
  have:=PW 1 n (by omega) (by omega) U;rw[hm1,hm2]at this;exact this
 clear hm1 hm2;go_enter Tryz.func34,Tryz.ntmps34;go_wp2_with fail
 refine(HM.o w).mono ?_;rintro e u ⟨rfl,rfl⟩;have hgt:g<u.heap.size:=aF h;have HOC:Hid (u.cell? ⟨g,0,none⟩=some (.int .i64 (-1))):=h;clear h;go_upto_region 7 with(at_make;refine cR _ rfl _ _ 26 rfl u.heap.size 2 k0 (.int .i64 0) 1 Tryz.underlying26 hk hx0 hx1 .i64 .i64 _ _ n rfl rfl rfl rfl (by rw[hx2];omega) (by unfold maxLen;omega) lR ?_;intro w3 hown hgrow)
 have hb3:Below u.heap.size u w3:=(bY _ _).grown hgrow lR (fun k hk=>by cases hk);have k3:An w3 u.heap.size (DF 0 n).toArray 2:=OQ hown
 have hcp:=KG w3 u.heap.size 0 n n n 1 1 1 ⟨g,0,none⟩ k3 (by simp[Nat.min_def];omega) (fun j hj=>by
  obtain rfl:j=0:=by omega
  rw[Di];exact Ac hb3 HOC.o) (by omega)
 have HB4:Hid (An (w3.setRow u.heap.size (DF (0+1) n).toArray) u.heap.size (DF (0+1) n).toArray 2/\Below u.heap.size u (w3.setRow u.heap.size (DF (0+1) n).toArray)):=⟨IV k3,below_setRow hb3 lR _⟩
 clear hown hgrow hb3 k3;rw[bG]at hcp HB4;obtain⟨W4,hW4⟩:∃W,W=w3.setRow u.heap.size (DF 1 n).toArray:=⟨_,rfl⟩;rw[<-hW4]at hcp HB4;clear hW4;obtain⟨G,hG⟩:∃G,G=u.heap.size:=⟨_,rfl⟩;rw[<-hG]at hcp HB4⊢;have HGG:Hid (G=u.heap.size):=hG;clear hG;go_wp2
 go_loopw [8] (fun i wr=>∃k:Nat,1<=k/\k<=n/\i=.int .i64 (k:Int)/\Hid (An wr G (DF k n).toArray 2/\Below u.heap.size u wr)) (fun i _=>n-(intOf i).toNat)
 case atStart=>exact⟨1,by omega,h1,rfl,by rw[<-HGG.o];exact HB4⟩
 case round=>
  clear HB4 hcp;obtain⟨k,hk1,hkn,rfl,HL⟩:=hrel;by_cases hlt:k<n
  . have hltI:(k:Int)<(n:Int):=by omega
    have kD:=HL.o.1.keep (Ad wr);have bD:=Af HL.o.2 lR (Ad wr);obtain⟨c,hc⟩:∃c,c=Nat.min k (n-k):=⟨_,rfl⟩
    have hcl:1<=c/\c<=k/\k+c<=n:=by
     have e:c=min k (n-k):=hc;omega
    have hcp:=KG wr.drew G k n (n-k) (n-k) k n c ⟨G,0,none⟩ kD hc (fun j hj=>by
     rw[Di,bG,kD.cell j];exact QP k n j (by omega) (by omega)) (by omega)
    have HN:Hid (An (wr.drew.setRow G (DF (k+c) n).toArray) G (DF (k+c) n).toArray 2/\Below u.heap.size u (wr.drew.setRow G (DF (k+c) n).toArray)):=⟨IV kD,below_setRow bD (by rw[HGG.o];exact Nat.le_refl _) _⟩
    clear kD bD hc;go_wp2
    go_region
    refine AE (fun x=>Hid (An x G (DF (k+c) n).toArray 2/\Below u.heap.size u x)) HN ?_
    intro U HU;clear HN hcp;go_wp2
    go_roundw
    case rel=>exact⟨k+c,by omega,by omega,by go_num,HU⟩
    case measure=>simp[intOf];omega
  . obtain rfl:k=n:=by omega
    have HE:Hid (wr.ownsRow u.heap.size 2 1 (.slice (some ⟨G,0,none⟩) k k) k (List.replicate k (.int .i64 (-1)))):=by
     refine⟨by simp,.inr ⟨G,k,(DF k k).toArray,rfl,by rw[HGG.o];exact Nat.le_refl _,HL.o.1,Nat.le_refl _,by unfold maxLen;omega,by simp[DF],by simp[DF]⟩⟩
    go_wp2
    go_ret
    exact⟨G,rfl,HE.o,HL.o.2⟩
def Fv(xs:List MI):Prop:=∀(i:Nat) (x:MI),xs[i]?=some x->AG x=true->0<=x.c/\x.c<(xs.length:Int)
theorem Gc(a:Option Addr)(c:Nat)(z:Int)(w:World):Calls Tryz.prog 44 #[.slice a 0 c,iZ z] w fun e w'=>e=.returned (.bool false)/\w'=w:=by
  have h:=AnyG.slices_Contains_int_empty Tryz.lContains a c z w;exact h
theorem JR(g c:Nat)(y z:Int)(w:World)(hc:w.cell? ⟨g,0,none⟩=some (iZ y)):Calls Tryz.prog 44 #[sG g 1 c,iZ z] w fun e w'=>e=.returned (.bool (decide (z=y)))/\w'=w:=by
  have h:=AnyG.slices_Contains_int Tryz.lContains g 0 1 c [y] z w (by simp) (by omega) (fun j hj=>by
    have:j=0:=by simpa using hj
    subst this;simpa using hc)
  have e:([y].take 1).contains z=decide (z=y):=by
    by_cases q:z=y
    . simp[q]
    . simp[q]
  rw[e]at h;exact h
theorem MO(g c:Nat)(zs:List Int)(z:Int)(w:World)(hn:zs.length<=1048576)(hs:zs.Pairwise (· < ·))(h:Rd w 1 (sG g zs.length c) zs.length (zs.flatMap Ab))(hz:z∈zs):
    Calls Tryz.prog 29 #[sG g zs.length c,iZ z] w fun e w'=>(∃b,e=.returned (.tuple #[iZ (zs.idxOf z:Nat),.bool b]))/\∃q,w'=w.drewN q:=by
  have hcell:∀j,j<zs.length->w.cell? ⟨g,0+j,none⟩=some (iZ (zs.getD j 0)):=fun j hj=>by
    rcases h.2 with⟨e0,_⟩|⟨g',o',c',e1,hc⟩
    . omega
    . simp only[aI,aJ,bf,cg,bU]at e1
      obtain⟨⟨rfl,rfl⟩,rfl⟩:=e1;have:=hc j (iZ (zs.getD j 0)) (by rw[Db];simp[List.getD_eq_getElem?_getD,List.getElem?_eq_getElem hj]);exact this
  have hc:=AnyG.slices_BinarySearch_int Tryz.lSearch g 0 zs.length c zs z w lR (by omega) hcell (by rw[bZ lR];exact hs.imp (fun h=>by omega));rw[bZ lR]at hc
  have e:∀(l:List Int),l.Pairwise (· < ·)->z∈l->l.countP (fun x=>decide (x<z))=l.idxOf z:=by
    intro l;induction l with
    |nil=>intro _ h;cases h
    | cons y r ih=>
      intro hp hm;obtain⟨p1,p2⟩:=bi.1 hp;by_cases q:y=z
      . subst q
        rw[List.countP_cons_of_neg (by simp),List.idxOf_cons_self];exact List.countP_eq_zero.2 (fun a ha=>by have:=p1 a ha;simp;omega)
      . rcases aX.1 hm with e|e
        . exact absurd e.symm q
        . have:=p1 z e
          rw[List.countP_cons_of_pos (by simpa using this),ih p2 e,eu];rw[show(y==z)=false from by simpa using q];rfl
  refine hc.mono ?_;rintro e1 w' ⟨rfl,hq⟩;rw[e zs hs hz];exact⟨⟨_,rfl⟩,hq⟩
theorem MI.at4{w u:World}{xs:List MI}{g o n e:Nat}{x:MI}(hc:∀j v,(xs.flatMap MI.cells)[j]?=some v->w.cell? ⟨g,o+j,none⟩=some v)(hx:xs[e]?=some x)(hb:Below w.heap.size w u):u.cell? ⟨g,o+e*4,none⟩=some (iZ x.op)/\u.cell? ⟨g,o+e*4+1,none⟩=some (iZ x.a)/\u.cell? ⟨g,o+e*4+2,none⟩=some (iZ x.b)/\u.cell? ⟨g,o+e*4+3,none⟩=some (iZ x.c):=by
  have x0:=Rd.elem MI.cells_length hc e _ hx 0 _ rfl;have x1:=Rd.elem MI.cells_length hc e _ hx 1 _ rfl;have x2:=Rd.elem MI.cells_length hc e _ hx 2 _ rfl;have x3:=Rd.elem MI.cells_length hc e _ hx 3 _ rfl;rw[<-hb.cell (aF x0),aw]at x0;rw[<-hb.cell (aF x1)]at x1;rw[<-hb.cell (aF x2)]at x2;rw[<-hb.cell (aF x3)]at x3;exact⟨x0,x1,x2,x3⟩
theorem IK (s :Value)(xs:List MI)(w:World)(hn:xs.length<=1048576)(h:Rd w 4 s xs.length (xs.flatMap MI.cells)):
    Calls Tryz.prog 26 #[s] w fun e w'=>AM e (Fv xs)/\Below w.heap.size w w':=by
  have H:Hid (Rd w 4 s xs.length (xs.flatMap MI.cells)):=h;obtain⟨a1,c1,rfl⟩:=h.is_slice;clear h;generalize hLL:xs.length=n at hn H;have HL:Hid (xs.length=n):=hLL;clear hLL;go_enter Tryz.func26,Tryz.ntmps26;go_wp2
  go_loopw [7] (fun i wr=>∃k:Nat,k<=n/\i=iZ k/\Hid ((∀j,j<k->∀x,xs[j]?=some x->AG x=true->0<=x.c/\x.c<(n:Int))/\Below w.heap.size w wr)) (fun i _=>n-(intOf i).toNat)
  case atStart=>exact⟨0,by omega,rfl,⟨fun j hj=>by omega,bY _ _⟩⟩
  case round=>
    obtain⟨k,hk,rfl,HT⟩:=hrel;by_cases hlt:k<n
    . obtain ⟨x,hx⟩:∃x,xs[k]?=some x:=⟨_,aA (by rw[HL.o];exact hlt)⟩
      have HX:Hid (xs[k]?=some x):=hx;rcases H.o.2 with⟨e0,_⟩|⟨g,o,c,e1,hc1⟩
      . omega
      simp only[aI,bU]at e1;obtain⟨rfl,rfl⟩:=e1;obtain⟨x0,x1,x2,x3⟩:=MI.at4 (n:=0) hc1 hx HT.o.2;clear hc1 hx;have hkL:(k:Int)<(n:Int):=by omega
      go_upto_region 4 with fail
      refine Al (fun u=>Hid (An u wr.heap.size #[iZ x.op,iZ x.a,iZ x.b,iZ x.c] 43/\Below w.heap.size w u)) ⟨An.new _ _ _,Af HT.o.2 lR (Aa _ _)⟩ ?_
      intro U1 HU1;clear x0 x1 x2 x3;obtain⟨a0,a1',a2,a3⟩:=Ku HU1.o.1;go_wp2_with fail
      refine(Ca x _).mono ?_;rintro e u2 ⟨rfl,b2⟩;have HU2:Hid (An u2 wr.heap.size #[iZ x.op,iZ x.a,iZ x.b,iZ x.c] 43/\Below w.heap.size w u2):=⟨HU1.o.1.keep b2,Af HU1.o.2 lR b2⟩
      clear b2 a0 a1' a2 a3 HU1;obtain⟨a0,a1',a2,a3⟩:=Ku HU2.o.1;cases hgo:AG x
      . have HN:Hid ((∀j,j<k+1->∀x,xs[j]?=some x->AG x=true->0<=x.c/\x.c<(n:Int))/\Below w.heap.size w u2):=⟨fun j hj y hy hg=>by
          by_cases e:j=k
          . subst e
            rw[HX.o]at hy;cases hy
            rw[hgo]at hg;cases hg
          . exact HT.o.1 j (by omega) y hy hg,HU2.o.2⟩
        go_wp2
        go_roundw
        case rel=>exact⟨k+1,by omega,by go_num,HN⟩
        case measure=>simp[intOf];omega
      . go_wp2_with fail
        refine(Jt x.c n _ (by omega)).mono ?_;rintro e u3 ⟨rfl,hu⟩;have hu2:=hu.symm;clear hu;subst hu2;by_cases r:0<=x.c/\x.c<(n:Int)
        . rw [show decide (0<=x.c/\x.c<(n:Int))=true from by simpa using r]
          have HN:Hid ((∀j,j<k+1->∀x,xs[j]?=some x->AG x=true->0<=x.c/\x.c<(n:Int))/\Below w.heap.size w u2):=⟨fun j hj y hy hg=>by
            by_cases e:j=k
            . subst e
              rw[HX.o]at hy;cases hy
              exact r
            . exact HT.o.1 j (by omega) y hy hg,HU2.o.2⟩
          go_wp2
          go_roundw
          case rel=>exact⟨k+1,by omega,by go_num,HN⟩
          case measure=>simp[intOf];omega
        . rw[show decide (0<=x.c/\x.c<(n:Int))=false from by simpa using r]
          have HN:Hid (¬Fv xs):=fun e=>r (by have:=e k x HX.o hgo;rw[HL.o]at this;exact this)
          go_wp2
          go_ret
          exact⟨.no HN.o,HU2.o.2⟩
    . have HY:Hid (Fv xs):=fun i x hi hg=>by
        have hlt:=(aD.1 hi).1;rw[HL.o]at hlt⊢;exact HT.o.1 i (by omega) x hi hg
      go_wp2
      go_ret
      exact⟨.yes HY.o,HT.o.2⟩
structure NP(w U:World)(V:Value)(ns:List Int):Prop where
  bel:Below w.heap.size w U
  row:U.ownsRow w.heap.size 2 1 V ns.length (ns.flatMap Ab)
theorem NP.keep{w U U':World}{V:Value}{ns:List Int}(h:NP w U V ns)(hb:Below U.heap.size U U'):NP w U' V ns:=⟨Af h.bel lR hb,Aj h.row hb lR⟩
theorem NP.app{w U u':World}{V V':Value}{ns:List Int}{z:Int}{m:Nat}(h:NP w U V ns)(hown:u'.ownsRow w.heap.size 2 1 V' m (ns.flatMap Ab++[iZ z]))(hm:m=ns.length+1)(hg:(U.alloc (.cells #[iZ z] 2)).grownBy u' V.ownBlock):NP w u' V' (ns++[z]):=by
  have bA:=Aa U (.cells #[iZ z] 2);refine⟨(Af h.bel lR bA).grown hg (aY h.bel.size bA.size) (fun i hi=>(h.row.lt i hi).1),?_⟩;rw[aG,aP,<-hm,a8];exact hown
theorem MM(xs:List MI)(x:MI)(e:Nat)(h1:Eg x=true/\e+1<xs.length)(h2:¬AG x=true):AU xs x e=[]++[((e:Int)+1)]:=by
 unfold AU;rw[cD h1,bu (fun q=>h2 q.1)];rfl
theorem MJ(xs:List MI)(x:MI)(e:Nat)(h1:Eg x=true/\e+1<xs.length)(h2:AG x=true)(h:x.c=((e+1:Nat):Int)):AU xs x e=[]++[((e:Int)+1)]:=by
 unfold AU;rw[cD h1,bu (fun q=>q.2 ⟨h1.1,h1.2,h⟩)];rfl
theorem MK(xs:List MI)(x:MI)(e:Nat)(h1:Eg x=true/\e+1<xs.length)(h2:AG x=true)(h:¬x.c=((e+1:Nat):Int)):AU xs x e=[]++[((e:Int)+1)]++[x.c]:=by
 unfold AU;rw[cD h1,cD ⟨h2,fun q=>h q.2.2⟩];rfl
theorem IL(xs:List MI)(x:MI)(e:Nat)(h1:¬(Eg x=true/\e+1<xs.length))(h2:AG x=true):AU xs x e=[]++[x.c]:=by
 unfold AU;rw[bu h1,cD ⟨h2,fun q=>h1 ⟨q.1,q.2.1⟩⟩]
theorem IM(xs:List MI)(x:MI)(e:Nat)(h1:¬(Eg x=true/\e+1<xs.length))(h2:¬AG x=true):AU xs x e=[]:=by
 unfold AU;rw[bu h1,bu (fun q=>h2 q.1)];rfl
theorem IJ(s:Value)(xs:List MI)(x:MI)(e:Nat)(w:World)(hn:xs.length<=1024)(hp:Fv xs)(hx:xs[e]?=some x)(h:Rd w 4 s xs.length (xs.flatMap MI.cells)):
 Calls Tryz.prog 28 #[s,iZ (e:Int)] w fun e1 w'=>∃r,e1=.returned r/\w'.ownsRow w.heap.size 2 1 r (AU xs x e).length ((AU xs x e).flatMap Ab)/\Below w.heap.size w w':=by
 obtain⟨k0,hk,hx0,hx1,hx2⟩:=bH Bf;have hen:e<xs.length:=(aD.1 hx).1;have HX:Hid (xs[e]?=some x):=hx;have HG:Hid (Fv xs):=hp;rcases h.2 with⟨e0,_⟩|⟨g,o,c,rfl,hc1⟩
 . omega
 have HC:Hid (∀j v,(xs.flatMap MI.cells)[j]?=some v->w.cell? ⟨g,o+j,none⟩=some v):=hc1;clear h hc1 hp hx;generalize hLL:xs.length=n at hn hen;have HL:Hid (xs.length=n):=hLL;clear hLL;have hel:(e:Int)<(n:Int):=by omega
 have HU0:Hid (NP w w sN []):=⟨bY _ _,ba _ _ _ _⟩;obtain⟨x0,x1,x2,x3⟩:=MI.at4 (n:=0) HC.o HX.o (bY w.heap.size w);go_enter Tryz.func28,Tryz.ntmps28;go_wp2_with fail
 refine(Iv x _).mono ?_;rintro e1 u1 ⟨rfl,b1⟩;have HU1:Hid (NP w u1 sN []):=HU0.o.keep b1;clear b1 x0 x1 x2 x3 HU0;cases hon:Eg x
 . have h1:¬(Eg x=true/\e+1<xs.length):=fun q=>by rw[hon]at q;exact absurd q.1 dV
   obtain⟨x0,x1,x2,x3⟩:=MI.at4 (n:=0) HC.o HX.o HU1.o.bel;go_wp2_with fail
   refine(Ca x _).mono ?_;rintro e4 u4 ⟨rfl,b4⟩;have HU4:Hid (NP w u4 sN []):=HU1.o.keep b4;clear b4;clear x0 x1 x2 x3;cases hgo:AG x
   . go_wp2
     go_ret
     exact⟨_,rfl,by rw[IM xs x e h1 (by rw[hgo];exact dV)];exact HU4.o.row,HU4.o.bel⟩
   . obtain⟨hc0,hc1⟩:=HG.o e x HX.o hgo
     go_wp2_with fail
     refine(Gc none 0 x.c _).mono ?_;rintro e5 u5 ⟨rfl,hu⟩;have hu2:=hu.symm;clear hu;subst hu2;go_wp2_with (at_builtin;refine wpList_append_lies _ rfl _ _ 26 rfl w.heap.size 2 k0 (iZ 0) 1 8 Tryz.underlying26 hk hx0 hx1 hx2 rfl (by decide) _ ([]:List Int).length (([]:List Int).flatMap Ab) rfl (HU4.o.keep (Aa _ (.cells #[iZ (x.c)] 2))).row ⟨u4.heap.size,0,none⟩ 1 1 [iZ (x.c)] rfl rfl (Bg u4 (x.c)) (fun u hu=>by simp at hu;subst hu;rfl) (by omega) (by simp[maxLen]) (by simp) (HU4.o.keep (Aa _ (.cells #[iZ (x.c)] 2))).bel.size _ rfl ?_;intro g3 cap3 w3 hown hgrow hat hlt3;have HU5:Hid (NP w w3 (sG g3 (0+1) cap3) ([]++[x.c])):=HU4.o.app hown rfl hgrow;clear hown hgrow hat hlt3);go_wp2;go_ret;exact⟨_,rfl,by rw[IL xs x e h1 hgo];exact HU5.o.row,HU5.o.bel⟩
 . go_wp2_with fail
   refine(Jt ((e:Int)+1) n _ (by omega)).mono ?_;rintro e2 u2 ⟨rfl,hu⟩;have hu2:=hu.symm;clear hu;subst hu2;by_cases hb:e+1<n
   . have h1:Eg x=true/\e+1<xs.length:=⟨hon,by rw[HL.o];exact hb⟩
     rw[show decide (0<=(e:Int)+1/\(e:Int)+1<(n:Int))=true from by simp;omega]
     obtain⟨x0,x1,x2,x3⟩:=MI.at4 (n:=0) HC.o HX.o HU1.o.bel;go_wp2_with (at_builtin;refine wpList_append_lies _ rfl _ _ 26 rfl w.heap.size 2 k0 (iZ 0) 1 8 Tryz.underlying26 hk hx0 hx1 hx2 rfl (by decide) _ ([]:List Int).length (([]:List Int).flatMap Ab) rfl (HU1.o.keep (Aa _ (.cells #[iZ ((e:Int)+1)] 2))).row ⟨u1.heap.size,0,none⟩ 1 1 [iZ ((e:Int)+1)] rfl rfl (Bg u1 ((e:Int)+1)) (fun u hu=>by simp at hu;subst hu;rfl) (by omega) (by simp[maxLen]) (by simp) (HU1.o.keep (Aa _ (.cells #[iZ ((e:Int)+1)] 2))).bel.size _ rfl ?_;intro g3 cap3 w3 hown hgrow hat hlt3;have HU3:Hid (NP w w3 (sG g3 (0+1) cap3) ([]++[(e:Int)+1])):=HU1.o.app hown rfl hgrow;clear hown hgrow hat hlt3;obtain⟨x0,x1,x2,x3⟩:=MI.at4 (n:=0) HC.o HX.o HU3.o.bel);go_wp2_with fail;refine(Ca x _).mono ?_;rintro e4 u4 ⟨rfl,b4⟩;have HU4:Hid (NP w u4 (sG g3 (0+1) cap3) ([]++[((e:Int)+1)])):=HU3.o.keep b4;clear b4;clear x0 x1 x2 x3;cases hgo:AG x
     . go_wp2
       go_ret
       exact⟨_,rfl,by rw[MM xs x e h1 (by rw[hgo];exact dV)];exact HU4.o.row,HU4.o.bel⟩
     . obtain⟨hc0,hc1⟩:=HG.o e x HX.o hgo
       have f5:=HU4.o.row.cellAt 0 (by simp);simp only[bL,aW,Ab,ah,aM]at f5;go_wp2_with fail
       refine(JR g3 cap3 ((e:Int)+1) x.c _ f5).mono ?_;rintro e5 u5 ⟨rfl,hu⟩;have hu2:=hu.symm;clear hu;subst hu2;by_cases heq:x.c=(e:Int)+1
       . rw[show decide (x.c=(e:Int)+1)=true from by simpa using heq]
         go_wp2
         go_ret
         exact⟨_,rfl,by rw[MJ xs x e h1 hgo (by rw[heq];push_cast;rfl)];exact HU4.o.row,HU4.o.bel⟩
       . rw[show decide (x.c=(e:Int)+1)=false from by simpa using heq]
         go_wp2_with (at_builtin;refine wpList_append_lies _ rfl _ _ 26 rfl w.heap.size 2 k0 (iZ 0) 1 8 Tryz.underlying26 hk hx0 hx1 hx2 rfl (by decide) _ (([]++[((e:Int)+1)]):List Int).length ((([]++[((e:Int)+1)]):List Int).flatMap Ab) rfl (HU4.o.keep (Aa _ (.cells #[iZ (x.c)] 2))).row ⟨u4.heap.size,0,none⟩ 1 1 [iZ (x.c)] rfl rfl (Bg u4 (x.c)) (fun u hu=>by simp at hu;subst hu;rfl) (by omega) (by simp[maxLen]) (by simp) (HU4.o.keep (Aa _ (.cells #[iZ (x.c)] 2))).bel.size _ rfl ?_;intro g5 cap5 w5 hown hgrow hat hlt3;have HU5:Hid (NP w w5 (sG g5 ((([]++[((e:Int)+1)]):List Int).length+1) cap5) (([]++[((e:Int)+1)])++[x.c])):=HU4.o.app hown rfl hgrow;clear hown hgrow hat hlt3)
         go_wp2
         go_ret
         exact⟨_,rfl,by rw[MK xs x e h1 hgo (fun q=>heq (by rw[q];push_cast;rfl))];exact HU5.o.row,HU5.o.bel⟩
   . have h1:¬(Eg x=true/\e+1<xs.length):=fun q=>hb (by rw[<-HL.o];exact q.2)
     rw[show decide (0<=(e:Int)+1/\(e:Int)+1<(n:Int))=false from by simp;omega]
     obtain⟨x0,x1,x2,x3⟩:=MI.at4 (n:=0) HC.o HX.o HU1.o.bel;go_wp2_with fail
     refine(Ca x _).mono ?_;rintro e4 u4 ⟨rfl,b4⟩;have HU4:Hid (NP w u4 sN []):=HU1.o.keep b4;clear b4;clear x0 x1 x2 x3;cases hgo:AG x
     . go_wp2
       go_ret
       exact⟨_,rfl,by rw[IM xs x e h1 (by rw[hgo];exact dV)];exact HU4.o.row,HU4.o.bel⟩
     . obtain⟨hc0,hc1⟩:=HG.o e x HX.o hgo
       go_wp2_with fail
       refine(Gc none 0 x.c _).mono ?_;rintro e5 u5 ⟨rfl,hu⟩;have hu2:=hu.symm;clear hu;subst hu2;go_wp2_with (at_builtin;refine wpList_append_lies _ rfl _ _ 26 rfl w.heap.size 2 k0 (iZ 0) 1 8 Tryz.underlying26 hk hx0 hx1 hx2 rfl (by decide) _ ([]:List Int).length (([]:List Int).flatMap Ab) rfl (HU4.o.keep (Aa _ (.cells #[iZ (x.c)] 2))).row ⟨u4.heap.size,0,none⟩ 1 1 [iZ (x.c)] rfl rfl (Bg u4 (x.c)) (fun u hu=>by simp at hu;subst hu;rfl) (by omega) (by simp[maxLen]) (by simp) (HU4.o.keep (Aa _ (.cells #[iZ (x.c)] 2))).bel.size _ rfl ?_;intro g3 cap3 w3 hown hgrow hat hlt3;have HU5:Hid (NP w w3 (sG g3 (0+1) cap3) ([]++[x.c])):=HU4.o.app hown rfl hgrow;clear hown hgrow hat hlt3);go_wp2;go_ret;exact⟨_,rfl,by rw[IL xs x e h1 hgo];exact HU5.o.row,HU5.o.bel⟩
theorem FN{S S':List Nat}(n:Nat)(h:∀x∈S,x∈S'):AL S' n<=AL S n:=by
 unfold AL;rw[<-List.countP_eq_length_filter,<-List.countP_eq_length_filter];apply List.countP_mono_left;intro x _ hx;simp only[Bool.not_eq_true',List.contains_eq_mem,e9]at hx⊢;exact fun q=>hx (h x q)
theorem Vs.more{E:Nat->List Nat}{S O r S' O':List Nat}(h:Vs E S O r S' O'):∀x∈S,x∈S':=by
 obtain⟨N,t⟩:=h.told;exact fun x hx=>(t.seen x).2 (.inl hx)
theorem Mo(g o c n gs:Nat)(E:Nat->List Nat)(w:World)(hn:n<=1048576)(hE:∀b,b<n->∀x∈E b,x<n)(hsz:∀b,(E b).length<=2)(h:Ft w g o n E):
 ∀(m:Nat) (S O:List Nat) (b:Nat) (V:Value) (u:World),AL S n=m->b<n->b∉S->O.length+AL S n<=n->SN w u n gs V (fun x=>S.contains x) O->
 Calls Tryz.prog 18 #[sO g o n c,iZ (b:Int),sG gs n n,V] u fun e u'=>∃V' S' O',e=.returned V'/\Vs E (b::S) O (E b) S' O'/\SN w u' n gs V' (fun x=>S'.contains x) (O'++[b])/\(O'++[b]).length+AL S' n<=O.length+AL S n:=by
 obtain⟨k0,hk,hx0,hx1,hx2⟩:=bH Bf;have H:Hid (Ft w g o n E/\(∀b,b<n->∀x∈E b,x<n)/\(∀b,(E b).length<=2)):=⟨h,hE,hsz⟩
 clear h hE hsz;intro m;induction m using Nat.strongRecOn with
 | ind m ih=>
   intro S O b V u hm hb hbS hlen hsn
   have IH:Hid (∀m',m'<m->∀(S O:List Nat) (b:Nat) (V:Value) (u:World),AL S n=m'->b<n->b∉S->O.length+AL S n<=n->SN w u n gs V (fun x=>S.contains x) O->
    Calls Tryz.prog 18 #[sO g o n c,iZ (b:Int),sG gs n n,V] u fun e u'=>∃V' S' O',e=.returned V'/\Vs E (b::S) O (E b) S' O'/\SN w u' n gs V' (fun x=>S'.contains x) (O'++[b])/\(O'++[b]).length+AL S' n<=O.length+AL S n):=ih
   have hu1:=DH S n b hb hbS;have HU1:Hid (AL (b::S) n+1=AL S n/\AL S n=m/\O.length+AL S n<=n):=⟨hu1,hm,hlen⟩
   obtain⟨aV,cV,rfl⟩:=AJ hsn.list;have hbI:(b:Int)<(n:Int):=by omega
   have d0:=hsn.seen.cell hb;have z0:=hsn.seen.frozen b
   have HS0:Hid (SN w (u.setCell ⟨gs,b,none⟩ (.bool true)) n gs (.slice aV O.length cV) (fun x=>(b::S).contains x) O):=hsn.mark b true fun j hj=>by
    by_cases e:j=b
    . subst e;simp
    . simp[e]
   obtain⟨a,ca,g0,g1⟩:=H.o.1 b hb;have HG:Hid (w.cell? ⟨g,o+b*3+2,none⟩=some (.slice a (E b).length ca)/\Gk w (.slice a (E b).length ca) (E b)):=⟨g0,g1⟩
   have hE2:=H.o.2.2 b;clear ih hsn g0 g1 hu1 hm hlen;go_enter Tryz.func18,Tryz.ntmps18;go_wp2
   go_loopw [3,9] (fun V i wr=>∃(S' O':List Nat) (k:Nat) (aV:Option Addr) (cV:Nat),V=.slice aV O'.length cV/\i=iZ k/\k<=(E b).length/\O'.length+1<=n/\Hid (Vs E (b::S) O ((E b).take k) S' O'/\SN w wr n gs V (fun x=>S'.contains x) O'/\O'.length+AL S' n+1<=O.length+AL S n)) (fun _ i _=>2-(intOf i).toNat)
   case atStart=>exact⟨b::S,O,0,aV,cV,rfl,rfl,by omega,by have:=HU1.o;omega,by simpa using Vs.nil (b::S) O,HS0.o,by have:=HU1.o;omega⟩
   case round=>
    clear HS0 d0 z0;obtain⟨S',O',k,aV,cV,rfl,rfl,hkE,hO,HL⟩:=hrel;have g0:=Ac HL.o.2.1.bel HG.o.1;by_cases hlt:k<(E b).length
    . have hltI:(k:Int)<((E b).length:Int):=by omega
      obtain⟨y,hy⟩:∃y,(E b)[k]?=some y:=⟨_,aA hlt⟩;have hyn:y<n:=H.o.2.1 b hb y (aE hy);have hynI:(y:Int)<(n:Int):=by omega
      have HY:Hid ((E b)[k]?=some y):=hy;obtain⟨ga,oa,rfl,_,y0⟩:=HG.o.2.at_ hy;replace y0:=Ac HL.o.2.1.bel y0
      have s0:=HL.o.2.1.seen.cell hyn
      have HT:Hid ((E b).take (k+1)=(E b).take k++[y]):=by
       obtain⟨hl,rfl⟩:=aD.1 hy;exact a6 hl
      clear hy;cases hc:S'.contains y
      . simp only[hc]at s0
        have hyS:y∉S':=by simpa using hc
        have hmo:=HL.o.1.more;have hun:=FN n hmo;have HC:Hid (Calls Tryz.prog 18 #[sO g o n c,iZ (y:Int),sG gs n n,.slice aV O'.length cV] wr fun e u'=>∃V' S'' O'',e=.returned V'/\Vs E (y::S') O' (E y) S'' O''/\SN w u' n gs V' (fun x=>S''.contains x) (O''++[y])/\(O''++[y]).length+AL S'' n<=O'.length+AL S' n):=IH.o (AL S' n) (by have:=HU1.o;omega) S' O' y _ wr rfl hyn hyS (by have:=HL.o.2.2;have:=HU1.o;omega) HL.o.2.1
        clear hmo hun;go_wp2_with fail
        refine HC.o.mono ?_;rintro e u2 ⟨V2,S2,O2,rfl,hv2,hs2,hl2⟩;obtain⟨a2,c2,rfl⟩:=AJ hs2.list
        have HN:Hid (Vs E (b::S) O ((E b).take (k+1)) S2 (O2++[y])/\SN w u2 n gs (.slice a2 (O2++[y]).length c2) (fun x=>S2.contains x) (O2++[y])/\(O2++[y]).length+AL S2 n+1<=O.length+AL S n):=by
         refine⟨?_,hs2,by have:=HL.o.2.2;omega⟩;rw[HT.o];exact HL.o.1.app (.new hyS hv2 (.nil _ _))
        have hO2:(O2++[y]).length+1<=n:=by have:=HN.o.2.2;have:=HU1.o;omega
        clear hv2 hs2 hl2 s0 y0 g0;go_wp2
        go_roundw
        case rel=>exact⟨S2,O2++[y],k+1,a2,c2,by rw[aG,aP],by go_num,by omega,hO2,HN.o.1,by have:=HN.o.2.1;rw[aG,aP]at this;exact this,HN.o.2.2⟩
        case measure=>simp[intOf];omega
      . simp only[hc]at s0
        have HN:Hid (Vs E (b::S) O ((E b).take (k+1)) S' O'):=by
         show Vs E (b::S) O ((E b).take (k+1)) S' O';rw[HT.o];exact HL.o.1.app (.old (by simpa using hc) (.nil _ _))
        go_wp2
        go_roundw
        case rel=>exact⟨S',O',k+1,aV,cV,rfl,by go_num,by omega,hO,HN.o,HL.o.2.1,HL.o.2.2⟩
        case measure=>simp[intOf];omega
    . obtain rfl:k=(E b).length:=by omega
      have hO3:=HU1.o;have hO4:=HL.o.2.2;go_upto_region 7 with fail
      refine Al (fun u=>Hid (SN w u n gs (.slice aV O'.length cV) (fun x=>S'.contains x) O')) HL.o.2.1 ?_;intro U HU;clear g0;go_wp2_with (at_builtin;refine wpList_append_lies _ rfl _ _ 26 rfl w.heap.size 2 k0 (iZ 0) 1 8 Tryz.underlying26 hk hx0 hx1 hx2 rfl (by decide) _ O'.length (nv O') rfl (HU.o.al (.cells #[iZ (b:Int)] 2)).1 ⟨U.heap.size,0,none⟩ 1 1 [iZ (b:Int)] rfl rfl (Bg U (b:Int)) (fun u hu=>by simp at hu;subst hu;rfl) (by omega) (by simp[maxLen];omega) (by omega) (HU.o.al (.cells #[iZ (b:Int)] 2)).2 _ rfl ?_;intro g5 cap5 w5 hown hgrow hat hlt3;have HU5:Hid (SN w w5 n gs (sG g5 (O'.length+1) cap5) (fun x=>S'.contains x) (O'++[b])):=HU.o.app hown hgrow;clear hown hgrow hat hlt3);go_ret;refine⟨_,S',O',rfl,?_,HU5.o,by rw[aG,aP];omega⟩;have:=HL.o.1;rw[bZ lR]at this;exact this
theorem Lk (g o c n f t:Nat)(z:Int)(E:Nat->List Nat)(w:World)(hn:n<=1048576)(hE:∀b,b<n->∀x∈E b,x<n)(hsz:∀b,(E b).length<=2)(hf:f<n)(ht:t<n)(h:Ft w g o n E):
 Calls Tryz.prog 7 #[sO g o n c,iZ (f:Int),iZ (t:Int),iZ z] w fun e w'=>∃b:Bool,e=.returned (.bool b)/\(b=true↔CX E (fun y=>(y:Int)≠z) f t)/\Below w.heap.size w w':=by
 obtain⟨j0,hj,hy0,hy1,hy2⟩:=bH C5;obtain⟨k0,hk,hx0,hx1,hx2⟩:=bH Bf;have H:Hid (Ft w g o n E/\(∀b,b<n->∀x∈E b,x<n)/\(∀b,(E b).length<=2)):=⟨h,hE,hsz⟩
 clear h hE hsz;go_enter Tryz.func7,Tryz.ntmps7;by_cases q:(f:Int)=z
 . subst q
   go_wp2_with fail
   go_ret
   exact⟨false,rfl,⟨fun q=>by simp at q,fun q=>absurd rfl q.ok0⟩,bY _ _⟩
 . have q' : ((f:Int)==z)=false:=by simpa using q
   have hfz:(f:Int)<(n:Int):=by omega
   have htz:(t:Int)<(n:Int):=by omega
   go_wp2_with (at_make;refine cR _ rfl _ _ 53 rfl w.heap.size 4 j0 (.bool false) 1 Tryz.underlying53 hj hy0 hy1 .i64 .i64 _ _ n rfl rfl rfl rfl (by rw[hy2];omega) (by unfold maxLen;omega) lR ?_;intro w3 hown hgrow;rw[CR,Fb]at hown;have z0:=bz hown f;have d0:w3.cell? ⟨w.heap.size,f,none⟩=some (.bool false):=Eo.cell hown (by omega))
   have HS:Hid (SN w ((w3.setCell ⟨w.heap.size,f,none⟩ (.bool true)).alloc (.cells #[iZ (f:Int)] 2)) n w.heap.size (sG w3.heap.size 1 1) (fun x=>[f].contains x) [f]):=by
    have hb3:Below w.heap.size w w3:=(bY _ _).grown hgrow lR (fun k hk=>by cases hk)
    have k1:Eo (w3.setCell ⟨w.heap.size,f,none⟩ (.bool true)) w.heap.size w.heap.size n (fun x=>[f].contains x):=Eo.set (P:=fun _=>false) hown f true fun j hj=>by
     by_cases e:j=f
     . subst e;simp
     . simp[e]
    have b1:Below w.heap.size w (w3.setCell ⟨w.heap.size,f,none⟩ (.bool true)):=hb3.setCell lR _;have hz4:(w3.setCell ⟨w.heap.size,f,none⟩ (.bool true)).heap.size=w3.heap.size:=bX ..;rw[<-hz4];generalize w3.setCell ⟨w.heap.size,f,none⟩ (.bool true)=W4 at k1 b1⊢;exact⟨k1.keep (Aa _ _),AP (ce W4 #[iZ (f:Int)] 1 lR (by unfold maxLen;omega) (by simp)) b1.size,Af b1 lR (Aa _ _)⟩
   clear hown hgrow z0 d0;have HB0:Hid (Ep E (fun y=>(y:Int)≠z) f n [f]):=⟨by simp,fun x hx=>by simp at hx;omega,fun x hx=>by simp at hx;subst hx;exact .here q,by simp⟩;go_loopw [10,11] (fun V i wr=>∃(L:List Nat) (k gl cl:Nat),V=sG gl L.length cl/\i=iZ k/\k<=L.length/\L.length<=n/\Hid (SN w wr n w.heap.size V (fun x=>L.contains x) L/\Ep E (fun y=>(y:Int)≠z) f n L/\CK E (fun y=>(y:Int)≠z) L k)) (fun _ i _=>n-(intOf i).toNat)
   case atStart=>exact⟨[f],0,_,_,rfl,rfl,by simp,HB0.o.len,HS.o,HB0.o,fun j x hj hl=>by omega⟩
   case round=>
    clear HS HB0;obtain⟨L,k,gl,cl,rfl,rfl,hkL,hLn,HL⟩:=hrel;by_cases hlt:k<L.length
    . have hltI:(k:Int)<(L.length:Int):=by omega
      obtain⟨b,hb⟩:∃b,L[k]?=some b:=⟨_,aA hlt⟩;have hbn:b<n:=HL.o.2.1.lt b (aE hb);have hbnI:(b:Int)<(n:Int):=by omega
      have HBB:=Ah hb;obtain⟨_,_,ee,_,l0⟩:=HL.o.1.list.rd.at_ hb;simp only[aJ,bf,cg]at ee;obtain⟨rfl,rfl⟩:=ee;rw[bG]at l0;obtain⟨a,ca,g0,g1⟩:=H.o.1 b hbn;have HG0:=Ah g0;have HR:=Ah g1;replace g0:=Ac HL.o.1.bel g0
      have hE2:=H.o.2.2 b;clear g1 hb;go_wp2
      go_loopw [10,12] (fun V i wr=>∃(L:List Nat) (m gl cl:Nat),V=sG gl L.length cl/\i=iZ m/\m<=(E b).length/\k<L.length/\L.length<=n/\Hid (SN w wr n w.heap.size V (fun x=>L.contains x) L/\Ep E (fun y=>(y:Int)≠z) f n L/\CK E (fun y=>(y:Int)≠z) L k/\L[k]?=some b/\Ec E (fun y=>(y:Int)≠z) L b m)) (fun _ i _=>2-(intOf i).toNat)
      case atStart=>exact⟨L,0,gl,cl,rfl,rfl,by omega,hlt,hLn,HL.o.1,HL.o.2.1,HL.o.2.2,HBB.o,fun y hy=>by simp at hy⟩
      case round=>
       clear l0 g0 HL HBB hlt hltI hkL hLn;obtain⟨L,m,gl,cl,rfl,rfl,hm,hkl,hLn,HL⟩:=hrel;have hklI:(k:Int)<(L.length:Int):=by omega
       obtain⟨_,_,ee,_,l0⟩:=HL.o.1.list.rd.at_ HL.o.2.2.2.1;simp only[aJ,bf,cg]at ee;obtain⟨rfl,rfl⟩:=ee;rw[bG]at l0;have g0:=Ac HL.o.1.bel HG0.o;by_cases hlt:m<(E b).length
       . have hltI:(m:Int)<((E b).length:Int):=by omega
         obtain⟨y,hy⟩:∃y,(E b)[m]?=some y:=⟨_,aA hlt⟩;have hyn:y<n:=H.o.2.1 b hbn y (aE hy);have hynI:(y:Int)<(n:Int):=by omega
         have HY:=Ah hy;obtain⟨ga,oa,rfl,_,y0⟩:=HR.o.at_ hy;have HY0:=Ah y0;replace y0:=Ac HL.o.1.bel y0
         have s0:=HL.o.1.seen.cell hyn;clear hy;by_cases qz:(y:Int)=z
         . subst qz
           have HN:=Ah (HL.o.2.2.2.2.next (fun x hx=>hx) HY.o (fun q=>absurd rfl q));go_wp2
           go_roundw
           case rel=>exact⟨L,m+1,gl,cl,rfl,by go_num,by omega,hkl,hLn,HL.o.1,HL.o.2.1,HL.o.2.2.1,HL.o.2.2.2.1,HN.o⟩
           case measure=>simp[intOf];omega
         . have qz':((y:Int)==z)=false:=by simpa using qz
           have qz2:((y:Int) != z)=true:=by simpa using qz
           cases hc:L.contains y
           . simp only[hc]at s0
             have z0:=HL.o.1.seen.frozen y;have hyL:y∉L:=by simpa using hc
             have HSM:=Ah (HL.o.1.mark y true (KF L y n));have HBN:=Ah (HL.o.2.1.add (aE HL.o.2.2.2.1) (aE HY.o) qz hyn hyL);have hLn2:=HBN.o.len;rw[aG,aP]at hLn2;have HN:Hid (Ec E (fun x=>(x:Int)≠z) (L++[y]) b (m+1)):=HL.o.2.2.2.2.next (fun x hx=>aS.2 (.inl hx)) HY.o (fun _=>by simp);go_upto_region 15 with fail
             refine Al (fun u=>Hid (SN w u n w.heap.size (sG gl L.length cl) (fun x=>(L++[y]).contains x) L)) HSM ?_;intro U HU;clear HSM s0 z0 y0 l0 g0;have y1:=Ac HU.o.bel HY0.o;go_wp2_with (at_builtin;refine wpList_append_lies _ rfl _ _ 26 rfl w.heap.size 2 k0 (iZ 0) 1 8 Tryz.underlying26 hk hx0 hx1 hx2 rfl (by decide) _ L.length (nv L) rfl (HU.o.al (.cells #[iZ (y:Int)] 2)).1 ⟨U.heap.size,0,none⟩ 1 1 [iZ (y:Int)] rfl rfl (Bg U (y:Int)) (fun u hu=>by simp at hu;subst hu;rfl) (by omega) (by simp[maxLen];omega) (by omega) (HU.o.al (.cells #[iZ (y:Int)] 2)).2 _ rfl ?_;intro g5 cap5 w5 hown hgrow hat hlt3;have HU5:Hid (SN w w5 n w.heap.size (sG g5 (L.length+1) cap5) (fun x=>(L++[y]).contains x) (L++[y])):=HU.o.app hown hgrow;clear hown hgrow hat hlt3);go_roundw
             case rel=>exact⟨L++[y],m+1,g5,cap5,by rw[aG,aP],by go_num,by omega,by rw[aG];omega,by rw[aG,aP];exact hLn2,HU5.o,HBN.o,HL.o.2.2.1.app (by omega) y,by rw[bW hkl];exact HL.o.2.2.2.1,HN.o⟩
             case measure=>simp[intOf];omega
           . simp only[hc]at s0
             have HN:=Ah (HL.o.2.2.2.2.next (fun x hx=>hx) HY.o (fun q=>by simpa using hc));go_wp2
             go_roundw
             case rel=>exact⟨L,m+1,gl,cl,rfl,by go_num,by omega,hkl,hLn,HL.o.1,HL.o.2.1,HL.o.2.2.1,HL.o.2.2.2.1,HN.o⟩
             case measure=>simp[intOf];omega
       . obtain rfl:m=(E b).length:=by omega
         have HN:=Ah (HL.o.2.2.1.next HL.o.2.2.2.1 HL.o.2.2.2.2);go_wp2
         go_roundw
         case rel=>exact⟨L,k+1,gl,cl,rfl,by go_num,by omega,hLn,HL.o.1,HL.o.2.1,HN.o⟩
         case measure=>simp[intOf];omega
    . obtain rfl:k=L.length:=by omega
      have HE:Hid (∀x,x<n->(L.contains x=true↔CX E (fun y=>(y:Int)≠z) f x)):=fun x hx=>by
       rw[<-HL.o.2.1.iff HL.o.2.2 x];simp
      have s0:=HL.o.1.seen.cell ht;go_wp2
      go_ret
      exact⟨decide (t∈L),rfl,by have:=HE.o t ht;simpa using this,HL.o.1.bel⟩
end Go.Proofs.YtjpobijiblcgaaaGreat
