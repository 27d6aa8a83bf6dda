import Derived.Test.YtjcamlobelcepaaGreatDoorCt1
import Derived.WalkSpells
import Derived.Maps.AppendAt
import Derived.Deep.RegionWith
import Derived.Lib.SmallJoins
import Derived.Deep.Slices
namespace Go.Proofs.YtjcamlobelcepaaGreatDoor
open Go.ChangeShapes Go.WideShapes Go.ChangeAt Go.RowKit
set_option linter.unusedVariables false
theorem Kl{w:World}{a:Option Addr}{len cap:Nat}{zs:List Int}
 (h:(a=none/\len=0/\cap=0/\zs=[])\/∃x,a=some x/\len<=cap/\cap<=maxLen/\zs.length=cap/\(∀i,i<zs.length->w.cell? (x.add i)=some (.int .u8 (zs.getD i 0)))/\∀n∈zs,(Lit.int .u8 n).wf=true):
 FZ w w.heap.size a len:=by
 rcases h with⟨_,h,_⟩|⟨x,rfl,h1,h2,h3,h4,h5⟩
 . exact .inl h
 . by_cases h0:len=0
   . exact .inl h0
   . obtain⟨b,off,spot⟩:=x
     have hspot:spot=none:=by simpa[Addr.add]using World.cell?_spot (h4 0 (by omega))
     subst hspot;have hadd:∀i,(⟨b,off,none⟩:Addr).add i=⟨b,off+i,none⟩:=fun i=>by unfold Addr.add;split<;>simp_all
     refine .inr ⟨b,off,rfl,?_,fun i hi=> ?_⟩
     . have:=h4 0 (by omega)
       rw[hadd]at this;exact aD this
     . have hc:=h4 i (by omega)
       rw[hadd]at hc;refine⟨_,?_,?_,hc⟩
       all_goals
        have hw:=h5 (zs.getD i 0) (by
         rw[aU,aA (show i<zs.length by omega)];exact be _)
        have hb:0<=zs.getD i 0/\zs.getD i 0<=255:=by simpa[Lit.wf,IntKind.min,IntKind.max,IntKind.signed,IntKind.bits]using hw
        omega
def AW(x:MF×VF):List Value:=[x.2.p,iZ x.1.result,x.2.l,x.2.c]
theorem Ag(x:MF×VF):(AW x).length=4:=rfl
def BE(x:List Int×Value):List Value:=[x.2]
theorem AK(x:List Int×Value):(BE x).length=1:=rfl
def Jd(w:World)(s:Value)(fs:List MF):Prop:=∃xs:List (MF×VF),xs.map Prod.fst=fs/\Rd w 4 s fs.length (xs.flatMap AW)/\∀x∈xs,EI w x.2 x.1
def Do(w:World)(base:Nat)(s:Value)(fs:List MF):Prop:=∃xs:List (MF×VF),xs.map Prod.fst=fs/\w.ownsRow base 58 4 s fs.length (xs.flatMap AW)/\∀x∈xs,Ep w base x.2 x.1
def Lx(w:World)(s:Value)(rs:List (List Int)):Prop:=∃xs:List (List Int×Value),xs.map Prod.fst=rs/\Rd w 1 s rs.length (xs.flatMap BE)/\∀x∈xs,Rd w 1 x.2 x.1.length (x.1.flatMap Ac)
def Ft(w:World)(base:Nat)(s:Value)(rs:List (List Int)):Prop:=∃xs:List (List Int×Value),xs.map Prod.fst=rs/\w.ownsRow base 47 1 s rs.length (xs.flatMap BE)/\∀x∈xs,w.ownsRow base 2 1 x.2 x.1.length (x.1.flatMap Ac)
theorem Do.rd{w:World}{base:Nat}{s:Value}{fs:List MF}(h:Do w base s fs):Jd w s fs:=by
 obtain⟨xs,h1,h2,h3⟩:=h;exact⟨xs,h1,Rd.of_own h2,fun x hx=>(h3 x hx).rd⟩
theorem Ft.rd{w:World}{base:Nat}{s:Value}{rs:List (List Int)}(h:Ft w base s rs):Lx w s rs:=by
 obtain⟨xs,h1,h2,h3⟩:=h;exact⟨xs,h1,Rd.of_own h2,fun x hx=>Rd.of_own (h3 x hx)⟩
theorem Jd.keep{w w':World}{s:Value}{fs:List MF}(h:Jd w s fs){B:Nat}(hb:Below B w w')(hB:w.heap.size<=B):Jd w' s fs:=by
 obtain⟨xs,h1,h2,h3⟩:=h;exact⟨xs,h1,h2.keep hb hB,fun x hx=>(h3 x hx).keep hb hB⟩
theorem Lx.keep{w w':World}{s:Value}{rs:List (List Int)}(h:Lx w s rs){B:Nat}(hb:Below B w w')(hB:w.heap.size<=B):Lx w' s rs:=by
 obtain⟨xs,h1,h2,h3⟩:=h;exact⟨xs,h1,h2.keep hb hB,fun x hx=>(h3 x hx).keep hb hB⟩
theorem Do.keep{w w':World}{base:Nat}{s:Value}{fs:List MF}(h:Do w base s fs){B:Nat}(hb:Below B w w')(hB:w.heap.size<=B):Do w' base s fs:=by
 obtain⟨xs,h1,h2,h3⟩:=h;exact⟨xs,h1,Ah h2 hb hB,fun x hx=>(h3 x hx).keep hb hB⟩
theorem Ft.keep{w w':World}{base:Nat}{s:Value}{rs:List (List Int)}(h:Ft w base s rs){B:Nat}(hb:Below B w w')(hB:w.heap.size<=B):Ft w' base s rs:=by
 obtain⟨xs,h1,h2,h3⟩:=h;exact⟨xs,h1,Ah h2 hb hB,fun x hx=>Ah (h3 x hx) hb hB⟩
theorem Ep.base{w:World}{base base':Nat}{v:VF}{f:MF}(h:Ep w base v f)(hb:base'<=base):Ep w base' v f:=⟨Bv h.1 hb,Bv h.2.1 hb,Bv h.2.2 hb⟩
theorem Do.base{w:World}{base base':Nat}{s:Value}{fs:List MF}(h:Do w base s fs)(hb:base'<=base):Do w base' s fs:=by
 obtain⟨xs,h1,h2,h3⟩:=h;exact⟨xs,h1,Bv h2 hb,fun x hx=>(h3 x hx).base hb⟩
theorem Ft.base{w:World}{base base':Nat}{s:Value}{rs:List (List Int)}(h:Ft w base s rs)(hb:base'<=base):Ft w base' s rs:=by
 obtain⟨xs,h1,h2,h3⟩:=h;exact⟨xs,h1,Bv h2 hb,fun x hx=>Bv (h3 x hx) hb⟩
theorem Ep.below{w:World}{base:Nat}{v:VF}{f:MF}(h:Ep w base v f){a:Addr}(ha:a.block<base)(u:Value):Ep (w.setCell a u) base v f:=⟨bT h.1 ha u,bT h.2.1 ha u,bT h.2.2 ha u⟩
theorem Do.below{w:World}{base:Nat}{s:Value}{fs:List MF}(h:Do w base s fs){a:Addr}(ha:a.block<base)(u:Value):Do (w.setCell a u) base s fs:=by
 obtain⟨xs,h1,h2,h3⟩:=h;exact⟨xs,h1,bT h2 ha u,fun x hx=>(h3 x hx).below ha u⟩
theorem Ft.below{w:World}{base:Nat}{s:Value}{rs:List (List Int)}(h:Ft w base s rs){a:Addr}(ha:a.block<base)(u:Value):Ft (w.setCell a u) base s rs:=by
 obtain⟨xs,h1,h2,h3⟩:=h;exact⟨xs,h1,bT h2 ha u,fun x hx=>bT (h3 x hx) ha u⟩
theorem Sy:(Tryz.prog.info? 58).map (fun i=>(i.zero,i.size,i.bytes))=some (some (.agg #[sN,iZ 0,sN,sN]),4,80):=by kernel_rfl
theorem T1:(Tryz.prog.info? 47).map (fun i=>(i.zero,i.size,i.bytes))=some (some sN,1,24):=by kernel_rfl
theorem BG{α β:Type}{xs:List (α×β)}{fs:List α}(h:xs.map Prod.fst=fs){k:Nat}{x:α×β}(hx:xs[k]?=some x):fs[k]?=some x.1:=by
 rw[<-h,bQ,hx];rfl
theorem MU{α β:Type}{ys:List (α×β)}{fs:List α}{k:Nat}(h:ys.map Prod.fst=fs.take k){f:α}(hf:fs[k]?=some f)(b:β):(ys++[(f,b)]).map Prod.fst=fs.take (k+1):=by
 obtain⟨hlt,rfl⟩:=aE.1 hf;rw[dK,h,aj hlt];rfl
def La{α:Type}(f:α->List Value)(z:List Value)(ys:List α)(n:Nat):List Value:=ys.flatMap f++(List.replicate (n-ys.length) z).flatten
theorem EL{α:Type}(f:α->List Value)(z:List Value)(ys:List α)(k n:Nat)(hk:k<n)(hl:ys.length=k):La f z ys n=ys.flatMap f++(z++(List.replicate (n-(k+1)) z).flatten):=by
 unfold La;have e:n-ys.length=(n-(k+1))+1:=by omega
 rw[e,de,List.flatten_cons]
theorem JY{α:Type}(f:α->List Value)(z:List Value)(ys:List α)(k n:Nat)(y:α)(hl:ys.length=k):La f z (ys++[y]) n=ys.flatMap f++(f y++(List.replicate (n-(k+1)) z).flatten):=by
 unfold La;rw[a8,a6];simp[hl]
structure TD(w wr:World)(fs:List MF)(L k:Nat)(ys:List (MF×VF)):Prop where
 fst:ys.map Prod.fst=fs.take k
 len:ys.length=k
 row:wr.ownsRow w.heap.size 58 4 (sG w.heap.size L L) L (La AW [sN,iZ 0,sN,sN] ys L)
 els:∀y∈ys,Ep wr (w.heap.size+1) y.2 y.1
 bel:Below w.heap.size w wr
 siz:w.heap.size+1<=wr.heap.size
theorem TD.places{w wr:World}{fs:List MF}{L k:Nat}{ys:List (MF×VF)}(h:TD w wr fs L k ys)(hk:k<L){u:World}(hb:Below wr.heap.size wr u):
 u.cell? ⟨w.heap.size,k*4,none⟩=some sN/\u.cell? ⟨w.heap.size,k*4+1,none⟩=some (iZ 0)/\u.cell? ⟨w.heap.size,k*4+2,none⟩=some sN/\u.cell? ⟨w.heap.size,k*4+3,none⟩=some sN/\u.frozen? ⟨w.heap.size,k*4,none⟩=false/\u.frozen? ⟨w.heap.size,k*4+1,none⟩=false/\u.frozen? ⟨w.heap.size,k*4+2,none⟩=false/\u.frozen? ⟨w.heap.size,k*4+3,none⟩=false:=by
 have hown:=Ah h.row hb lR;rw[EL AW _ ys k L hk h.len]at hown;have hA:(ys.flatMap AW).length=k*4:=by rw[Aq AW 4 Ag,h.len]
 have d0:=hown.cellAt (k*4) (by omega);have d1:=hown.cellAt (k*4+1) (by omega);have d2:=hown.cellAt (k*4+2) (by omega);have d3:=hown.cellAt (k*4+3) (by omega);rw[bH (by omega),hA]at d0 d1 d2 d3;rw[eP]at d0;rw[df]at d1 d2 d3;exact⟨d0,d1,d2,d3,hown.frozenAt _,hown.frozenAt _,hown.frozenAt _,hown.frozenAt _⟩
theorem TD.next{w wr:World}{fs:List MF}{L k:Nat}{ys:List (MF×VF)}(h:TD w wr fs L k ys)(hk:k<L){u:World}(hb:Below wr.heap.size wr u){f:MF}(hf:fs[k]?=some f){v:VF}(ho:Ep u wr.heap.size v f):
 TD w ((((u.setCell ⟨w.heap.size,k*4,none⟩ v.p).setCell ⟨w.heap.size,k*4+1,none⟩ (iZ f.result)).setCell ⟨w.heap.size,k*4+2,none⟩ v.l).setCell ⟨w.heap.size,k*4+3,none⟩ v.c) fs L (k+1) (ys++[(f,v)]):=by
 have hown:=Ah h.row hb lR;rw[EL AW _ ys k L hk h.len]at hown;have hA:(ys.flatMap AW).length=k*4:=by rw[Aq AW 4 Ag,h.len]
 have s0:=(hown.stored (k*4) v.p).1;have s1:=(s0.stored (k*4+1) (iZ f.result)).1;have s2:=(s1.stored (k*4+2) v.l).1;have s3:=(s2.stored (k*4+3) v.c).1;rw[UK _ _ _ _ _ _ _ _ _ _ (k*4) hA]at s3;refine⟨MU h.fst hf v,by simp[h.len],?_,?_,?_,?_⟩
 . rw[JY AW _ ys k L (f,v) h.len]
   exact s3
 . intro y hy
   have hy':Ep u (w.heap.size+1) y.2 y.1:=by
    rcases ah.1 hy with hy|hy
    . exact(h.els y hy).keep hb lR
    . simp only[bO]at hy
      subst hy;exact ho.base h.siz
   exact(((hy'.below (by simp) _).below (by simp) _).below (by simp) _).below (by simp) _
 . exact((((h.bel.trans (hb.mono (by have:=h.siz;omega))).setCell lR _).setCell lR _).setCell lR _).setCell lR _
 . have:=hb.size
   have:=h.siz;simp;omega
structure TJ(w wr:World)(fs:List (List Int))(L k:Nat)(ys:List (List Int×Value)):Prop where
 fst:ys.map Prod.fst=fs.take k
 len:ys.length=k
 row:wr.ownsRow w.heap.size 47 1 (sG w.heap.size L L) L (La BE [sN] ys L)
 els:∀y∈ys,wr.ownsRow (w.heap.size+1) 2 1 y.2 y.1.length (y.1.flatMap Ac)
 bel:Below w.heap.size w wr
 siz:w.heap.size+1<=wr.heap.size
theorem TJ.places{w wr:World}{fs:List (List Int)}{L k:Nat}{ys:List (List Int×Value)}(h:TJ w wr fs L k ys)(hk:k<L){u:World}(hb:Below wr.heap.size wr u):
 u.cell? ⟨w.heap.size,k,none⟩=some sN/\u.frozen? ⟨w.heap.size,k,none⟩=false:=by
 have hown:=Ah h.row hb lR;rw[EL BE _ ys k L hk h.len]at hown;have hA:(ys.flatMap BE).length=k:=by rw[Aq BE 1 AK,h.len,bR]
 have d0:=hown.cellAt k (by omega);rw[bH (by omega),hA]at d0;rw[eP]at d0;exact⟨d0,hown.frozenAt _⟩
theorem TJ.next{w wr:World}{fs:List (List Int)}{L k:Nat}{ys:List (List Int×Value)}(h:TJ w wr fs L k ys)(hk:k<L){u:World}(hb:Below wr.heap.size wr u){f:List Int}(hf:fs[k]?=some f){v:Value}(ho:u.ownsRow wr.heap.size 2 1 v f.length (f.flatMap Ac)):
 TJ w (u.setCell ⟨w.heap.size,k,none⟩ v) fs L (k+1) (ys++[(f,v)]):=by
 have hown:=Ah h.row hb lR;rw[EL BE _ ys k L hk h.len]at hown;have hA:(ys.flatMap BE).length=k:=by rw[Aq BE 1 AK,h.len,bR]
 have s0:=(hown.stored k v).1;rw[Ue _ _ _ _ k hA]at s0;refine⟨MU h.fst hf v,by simp[h.len],?_,?_,?_,?_⟩
 . rw[JY BE _ ys k L (f,v) h.len]
   exact s0
 . intro y hy
   have hy':u.ownsRow (w.heap.size+1) 2 1 y.2 y.1.length (y.1.flatMap Ac):=by
    rcases ah.1 hy with hy|hy
    . exact Ah (h.els y hy) hb lR
    . simp only[bO]at hy
      subst hy;exact Bv ho h.siz
   exact bT hy' (by simp) _
 . exact(h.bel.trans (hb.mono (by have:=h.siz;omega))).setCell lR _
 . have:=hb.size
   have:=h.siz;simp;omega
structure MP where
 regions:List (List Int)
 consts:List MC
 funcs:List MF
 certs:List MT
structure VP where
 r:Value
 k:Value
 f:Value
 t:Value
def VP.val(v:VP):Value:=.agg #[v.r,v.k,v.f,v.t]
structure Ej(w:World)(v:VP)(p:MP):Prop where
 regions:Lx w v.r p.regions
 consts:Rd w 2 v.k p.consts.length (p.consts.flatMap MC.cells)
 funcs:Jd w v.f p.funcs
 certs:Rd w 4 v.t p.certs.length (p.certs.flatMap MT.cells)
structure Dc(w:World)(base:Nat)(v:VP)(p:MP):Prop where
 regions:Ft w base v.r p.regions
 consts:w.ownsRow base 53 2 v.k p.consts.length (p.consts.flatMap MC.cells)
 funcs:Do w base v.f p.funcs
 certs:w.ownsRow base 62 4 v.t p.certs.length (p.certs.flatMap MT.cells)
structure MP.small(p:MP):Prop where
 regions:p.regions.length<=1048576
 region:∀r∈p.regions,r.length<=1048576
 consts:p.consts.length<=1048576
 funcs:p.funcs.length<=1048576
 func:∀f∈p.funcs,f.small
 certs:p.certs.length<=1048576
theorem Dc.rd{w:World}{base:Nat}{v:VP}{p:MP}(h:Dc w base v p):Ej w v p:=⟨h.regions.rd,Rd.of_own h.consts,h.funcs.rd,Rd.of_own h.certs⟩
theorem Ej.keep{w w':World}{v:VP}{p:MP}(h:Ej w v p){B:Nat}(hb:Below B w w')(hB:w.heap.size<=B):Ej w' v p:=⟨h.regions.keep hb hB,h.consts.keep hb hB,h.funcs.keep hb hB,h.certs.keep hb hB⟩
theorem Dc.keep{w w':World}{base:Nat}{v:VP}{p:MP}(h:Dc w base v p){B:Nat}(hb:Below B w w')(hB:w.heap.size<=B):Dc w' base v p:=⟨h.regions.keep hb hB,Ah h.consts hb hB,h.funcs.keep hb hB,Ah h.certs hb hB⟩
theorem Dc.base{w:World}{base base':Nat}{v:VP}{p:MP}(h:Dc w base v p)(hb:base'<=base):Dc w base' v p:=⟨h.regions.base hb,Bv h.consts hb,h.funcs.base hb,Bv h.certs hb⟩
theorem Dc.below{w:World}{base:Nat}{v:VP}{p:MP}(h:Dc w base v p){a:Addr}(ha:a.block<base)(u:Value):Dc (w.setCell a u) base v p:=⟨h.regions.below ha u,bT h.consts ha u,h.funcs.below ha u,bT h.certs ha u⟩
theorem Aj(B:Nat)(w:World)(nq:Nat):Below B w (w.drewN nq):=⟨rfl,rfl,rfl,Nat.le_refl _,fun _ _=>rfl⟩
theorem CU{w u:World}(h:Below w.drew.heap.size w.drew u){B:Nat}(hB:B<=w.heap.size):Below B w u:=⟨h.os,h.tape,h.output,h.size,fun k hk=>h.block k (bZ hk hB)⟩
theorem Ej.sl{w:World}{v:VP}{p:MP}(h:Ej w v p):∃r1 r3 k1 k3 t1 t3 f1 f3,v=⟨.slice r1 p.regions.length r3,.slice k1 p.consts.length k3,.slice f1 p.funcs.length f3,.slice t1 p.certs.length t3⟩:=by
 obtain⟨r1,r3,er⟩:=(show∃a c,v.r=.slice a p.regions.length c from by obtain⟨_,_,h2,_⟩:=h.regions;exact h2.is_slice);obtain⟨k1,k3,ek⟩:=h.consts.is_slice;obtain⟨t1,t3,et⟩:=h.certs.is_slice;obtain⟨f1,f3,ef⟩:=(show∃a c,v.f=.slice a p.funcs.length c from by obtain⟨_,_,h2,_⟩:=h.funcs;exact h2.is_slice);obtain⟨vr,vk,vf,vt⟩:=v;simp only[]at er ek et ef;subst er ek et ef;exact⟨r1,r3,k1,k3,t1,t3,f1,f3,rfl⟩
theorem Gv{w:World}{g:VF}{f:MF}(h:EI w g f):∃g1 g3 g4 g6 g7 g9,g=⟨.slice g1 f.params.length g3,.slice g4 f.locals.length g6,.slice g7 f.code.length g9⟩:=by
 obtain⟨g1,g3,e1⟩:=h.1.is_slice;obtain⟨g4,g6,e2⟩:=h.2.1.is_slice;obtain⟨g7,g9,e3⟩:=h.2.2.is_slice;obtain⟨gp,gl,gc⟩:=g;simp only[]at e1 e2 e3;subst e1 e2 e3;exact⟨g1,g3,g4,g6,g7,g9,rfl⟩
structure Lq(w u:World)(tp:TypeId)(p r:List Value):Prop where
 par:u.ownsRow w.heap.size tp 4 (.slice (some ⟨w.heap.size,0,none⟩) 1 1) 1 p
 par':u.ownsRow w.heap.size tp 4 (.slice (some ⟨w.heap.size+1,0,none⟩) 1 1) 1 r
 bel:Below w.heap.size w u
theorem Lq.of(w:World)(tp:TypeId)(p r:Array Value)(hp:p.size=4)(hr:r.size=4):
 Lq w ((w.alloc (.cells p tp)).alloc (.cells r tp)) tp p.toList r.toList:=by
 have b1:Below w.heap.size w (w.alloc (.cells p tp)):=(aq _ _).alloc lR _;have c2:Below (w.alloc (.cells p tp)).heap.size (w.alloc (.cells p tp)) ((w.alloc (.cells p tp)).alloc (.cells r tp)):=(aq _ _).alloc lR _;have r1:=cF (base:=w.heap.size) (e:=tp) (size:=4) w p 1 lR (by unfold maxLen;omega) (by omega);have r2:=cF (base:=w.heap.size) (e:=tp) (size:=4) (w.alloc (.cells p tp)) r 1 (by simp) (by unfold maxLen;omega) (by omega);refine⟨Ah r1 c2 lR,?_,b1.trans (c2.mono (by simp))⟩;simpa using r2
theorem Lq.keep{w u u':World}{tp:TypeId}{p r:List Value}(h:Lq w u tp p r)(hb:Below u.heap.size u u'):Lq w u' tp p r:=
 ⟨Ah h.par hb lR,Ah h.par' hb lR,h.bel.trans (hb.mono h.bel.size)⟩
def MF.fits(f:MF):Prop:=f.params.length<=9223372036854775807/\f.locals.length<=9223372036854775807/\f.code.length<=9223372036854775807
structure MP.fits(p:MP):Prop where
 regions:p.regions.length<=9223372036854775807
 region:∀r∈p.regions,r.length<=9223372036854775807
 consts:p.consts.length<=9223372036854775807
 funcs:p.funcs.length<=9223372036854775807
 func:∀f∈p.funcs,f.fits
 certs:p.certs.length<=9223372036854775807
structure SH(w u:World)(tp:TypeId)(p:List Value):Prop where
 par:u.ownsRow w.heap.size tp 4 (.slice (some ⟨w.heap.size,0,none⟩) 1 1) 1 p
 bel:Below w.heap.size w u
theorem SH.of(w:World)(tp:TypeId)(p:Array Value)(hp:p.size=4):SH w (w.alloc (.cells p tp)) tp p.toList:=
 ⟨cF (base:=w.heap.size) (e:=tp) (size:=4) w p 1 lR (by unfold maxLen;omega) (by omega),(aq _ _).alloc lR _⟩
theorem SH.keep{w u u':World}{tp:TypeId}{p:List Value}(h:SH w u tp p)(hb:Below u.heap.size u u'):SH w u' tp p:=
 ⟨Ah h.par hb lR,h.bel.trans (hb.mono h.bel.size)⟩
section
variable {H:Type} {enc:TypeId×Value->H} {P:Program} {w:World} {spare:Nat->Bool} {held:Bool}
theorem Ds(b off:Nat)(i:Nat):(⟨b,off,none⟩:Addr).add i=⟨b,off+i,none⟩:=by unfold Addr.add;split<;>simp_all
end
instance:Inhabited MI:=⟨⟨0,0,0,0⟩⟩
instance:Inhabited MC:=⟨⟨0,0⟩⟩
instance:Inhabited MT:=⟨⟨0,0,0,0⟩⟩
instance:Inhabited MF:=⟨⟨[],0,[],[]⟩⟩
instance:Inhabited VF:=⟨⟨.bool true,.bool true,.bool true⟩⟩
def Ec(z:Int):Prop:=(Lit.int .i64 z).wf=true
def Pm(z:Int):Prop:=(Lit.int .u32 z).wf=true
def MI.wf(x:MI):Prop:=Ec x.op/\Ec x.a/\Ec x.b/\Ec x.c
def MC.wf(x:MC):Prop:=Ec x.type/\Pm x.word
def MT.wf(x:MT):Prop:=Ec x.func/\Ec x.head/\Ec x.counter/\Pm x.init
structure MF.wf(f:MF):Prop where
 params:∀z∈f.params,Ec z
 result:Ec f.result
 locals:∀z∈f.locals,Ec z
 code:∀x∈f.code,x.wf
structure MP.wf(p:MP):Prop where
 regions:∀r∈p.regions,∀z∈r,Ec z
 consts:∀x∈p.consts,x.wf
 funcs:∀f∈p.funcs,f.wf
 certs:∀x∈p.certs,x.wf
section
variable {H:Type} {enc:TypeId×Value->H} {w:World} {spare:Nat->Bool} {held:Bool} {fuel:Nat} {cs:List Value} {x:DataW H×List MemPlace}
theorem four{cs:List Value}(h:cs.length=4):∃a b c d,cs=[a,b,c,d]:=by
 match cs,h with
 |[a,b,c,d],_=>exact⟨a,b,c,d,rfl⟩
theorem two{cs:List Value}(h:cs.length=2):∃a b,cs=[a,b]:=by
 match cs,h with
 |[a,b],_=>exact⟨a,b,rfl⟩
end
theorem Ci{w:World}{base:Nat}{e:TypeId}{s:Value}{k n:Nat}{xs:List Value}(h:w.ownsRow base e k s n xs):(s=.slice none 0 0/\n=0)\/∃g c,s=.slice (some ⟨g,0,none⟩) n c:=by
 rcases h.2 with h|⟨g,cap,cur,rfl,hb,_⟩
 . exact .inl h
 . exact .inr ⟨g,cap,rfl⟩
theorem AZ{w:World}{base:Nat}{e:TypeId}{s:Value}{k n:Nat}{xs:List Value}(h:w.ownsRow base e k s n xs):∃a c,s=.slice a n c:=by
 rcases Ci h with⟨rfl,rfl⟩|⟨g,c,rfl⟩<;>exact⟨_,_,rfl⟩
end Go.Proofs.YtjcamlobelcepaaGreatDoor
