import Derived.Test.YtjpobijiblcgaaaGreatFw0
import Derived.OneCell
import Derived.Deep.RegionWith
namespace Go.Proofs.YtjpobijiblcgaaaGreat
open Go.ChangeShapes Go.WideShapes Go.ChangeAt Go.RowKit
set_option linter.unusedVariables false
set_option maxHeartbeats 2000000
set_option maxRecDepth 100000
def wordCells:Array Value:=#[.int .u32 0,.int .u32 1,.int .u32 2,.int .u32 4294967295,.int .u32 2147483648,.int .u32 2147483647,.int .u32 31,.int .u32 32]
theorem Kh(r:Int)(h0:0<=r)(h1:r<8):∃v:Int,0<=v/\v<4294967296/\wordCells[r.toNat]?=some (.int .u32 v):=by
 have h:r=0\/r=1\/r=2\/r=3\/r=4\/r=5\/r=6\/r=7:=by omega
 rcases h with rfl|rfl|rfl|rfl|rfl|rfl|rfl|rfl<;>exact⟨_,by omega,by omega,rfl⟩
theorem C4(op:BinOp)(x y:Int):0<=bits op .u32 x y/\bits op .u32 x y<4294967296:=by
 have:∀n:Nat,IntKind.u32.wrap (n:Int)=(n:Int) % 4294967296:=fun _=>rfl
 unfold bits;simp only[this];omega
theorem D6{w:World}{g:Nat}{a:Option Addr}{len cap:Nat}{p:Int}(h:CU w g a len cap p)(hp:p+4<=1000000000000):
 Calls Tryz.prog 59 #[.pointer (some ⟨g,0,none⟩)] w fun e w'=>∃x p':Int,0<=x/\x<4294967296/\e=.returned (.int .u32 x)/\p<=p'/\p'<=p+4/\CU w' g a len cap p'/\AC g w w':=by
 have hlow:=h.low;have H:Hid (CU w g a len cap p):=h;clear h;go_enter Tryz.func59,Tryz.ntmps59;go_wp2_with fail
 refine(Ai H.o).mono ?_;rintro e w1 ⟨r,h0,h1,rfl,hs,hd⟩;have HS:Hid (CU w1 g a len cap (p+1)/\AC g w w1):=⟨hs,hd⟩
 clear hs hd;cases e0:(r==0)
 . cases e1:(r==1)
   . go_wp2_with fail
     refine(Ai HS.o.1).mono ?_;rintro e w2 ⟨r2,h2,h3,rfl,hs2,hd2⟩;have HS2:Hid (CU w2 g a len cap (p+1+1)/\AC g w w2):=⟨hs2,HS.o.2.trans hd2⟩
     clear hs2 hd2;go_wp2
     go_ret
     exact⟨r2,p+1+1,by omega,by omega,rfl,by omega,by omega,HS2.o.1,HS2.o.2⟩
   . go_wp2_with fail
     refine(Ai HS.o.1).mono ?_;rintro e w2 ⟨r2,h2,h3,rfl,hs2,hd2⟩;have HS2:Hid (CU w2 g a len cap (p+1+1)/\AC g w w2):=⟨hs2,HS.o.2.trans hd2⟩
     clear hs2 hd2;go_wp2_with fail
     refine(Ai HS2.o.1).mono ?_;rintro e w3 ⟨r3,h4,h5,rfl,hs3,hd3⟩;have HS3:Hid (CU w3 g a len cap (p+1+1+1)/\AC g w w3):=⟨hs3,HS2.o.2.trans hd3⟩
     clear hs3 hd3;go_wp2_with fail
     refine(Ai HS3.o.1).mono ?_;rintro e w4 ⟨r4,h6,h7,rfl,hs4,hd4⟩;have HS4:Hid (CU w4 g a len cap (p+1+1+1+1)/\AC g w w4):=⟨hs4,HS3.o.2.trans hd4⟩
     clear hs4 hd4;go_wp2
     go_ret
     exact⟨_,p+1+1+1+1,(C4 _ _ _).1,(C4 _ _ _).2,rfl,by omega,by omega,HS4.o.1,HS4.o.2⟩
 . go_wp2_with fail
   refine(Ai (HS.o.1.alloc _)).mono ?_;rintro e w2 ⟨r2,h2,h3,rfl,hs2,hd2⟩;obtain⟨v,v0,v1,hv⟩:=Kh r2 h2 h3;have hg:g≠w1.heap.size:=by have:=HS.o.1.lt;omega
   have hcell:w2.cell? ⟨w1.heap.size,r2.toNat,none⟩=some (.int .u32 v):=by
    rw[hd2.cell (by simp) (by simpa using hg.symm),dY _ _ _ _ _ _ (dT _ _)];exact hv
   have HS2:Hid (CU w2 g a len cap (p+1+1)/\AC g w w2):=⟨hs2,(HS.o.2.trans (AC.alloc g w1 _)).trans hd2⟩
   clear hs2 hd2 hv;go_wp2
   go_ret
   exact⟨v,p+1+1,v0,v1,rfl,by omega,by omega,HS2.o.1,HS2.o.2⟩
structure MF where
 params:List Int
 result:Int
 locals:List Int
 code:List MI
structure VF where
 p:Value
 l:Value
 c:Value
def Hq(w:World)(v:VF)(f:MF):Prop:=Rd w 1 v.p f.params.length (f.params.flatMap Ab)/\Rd w 1 v.l f.locals.length (f.locals.flatMap Ab)/\Rd w 4 v.c f.code.length (f.code.flatMap MI.cells)
def Qs(w:World)(base:Nat)(v:VF)(f:MF):Prop:=w.ownsRow base 2 1 v.p f.params.length (f.params.flatMap Ab)/\w.ownsRow base 2 1 v.l f.locals.length (f.locals.flatMap Ab)/\w.ownsRow base 43 4 v.c f.code.length (f.code.flatMap MI.cells)
def MF.small(f:MF):Prop:=f.params.length<=1048576/\f.locals.length<=1048576/\f.code.length<=1048576
theorem Qs.rd{w:World}{base:Nat}{v:VF}{f:MF}(h:Qs w base v f):Hq w v f:=⟨Rd.of_own h.1,Rd.of_own h.2.1,Rd.of_own h.2.2⟩
theorem Hq.keep{w w':World}{v:VF}{f:MF}(h:Hq w v f){B:Nat}(hb:Below B w w')(hB:w.heap.size<=B):Hq w' v f:=⟨h.1.keep hb hB,h.2.1.keep hb hB,h.2.2.keep hb hB⟩
theorem Dn{w:World}{base base':Nat}{e:TypeId}{s:Value}{k n:Nat}{xs:List Value}(h:w.ownsRow base e k s n xs)(hb:base'<=base):w.ownsRow base' e k s n xs:=by
 refine⟨h.1,?_⟩;rcases h.2 with h|⟨g,cap,cur,e1,hb1,hg,hr⟩
 . exact .inl h
 . exact .inr ⟨g,cap,cur,e1,aY hb hb1,hg,hr⟩
def Dj(op:Int):Array Value:=if 0<=op/\op<=29 then(Cd op.toNat).toArray else #[.string ⟨#[]⟩,.int .i64 0,.int .i64 0]
theorem ND(k:Nat)(hk:k<30):Dj (k:Int)=(Cd k).toArray:=by
 unfold Dj;rw[cD (by omega)];rfl
theorem Md{op:Int}(h:op<0\/29<op):Dj op=#[.string ⟨#[]⟩,.int .i64 0,.int .i64 0]:=by
 unfold Dj;rw[bu (by omega)]
theorem JZ(k:Nat)(hk:k<30):∃(s:ByteArray) (c f:Int),(Cd k).toArray=#[.string s,.int .i64 c,.int .i64 f]:=by
 have h:k=0\/k=1\/k=2\/k=3\/k=4\/k=5\/k=6\/k=7\/k=8\/k=9\/k=10\/k=11\/k=12\/k=13\/k=14\/k=15\/k=16\/k=17\/k=18\/k=19\/k=20\/k=21\/k=22\/k=23\/k=24\/k=25\/k=26\/k=27\/k=28\/k=29:=by omega
 clear hk;rcases h with rfl|rfl|rfl|rfl|rfl|rfl|rfl|rfl|rfl|rfl|rfl|rfl|rfl|rfl|rfl|rfl|rfl|rfl|rfl|rfl|rfl|rfl|rfl|rfl|rfl|rfl|rfl|rfl|rfl|rfl<;>exact⟨_,_,_,rfl⟩
theorem KW(op:Int):∃(s:ByteArray) (c f:Int),Dj op=#[.string s,.int .i64 c,.int .i64 f]:=by
 by_cases h:0<=op/\op<=29
 . unfold Dj
   rw[cD h];exact JZ _ (by omega)
 . unfold Dj
   rw[bu h];exact⟨_,_,_,rfl⟩
theorem Cq(op:Int)(w:World):Calls Tryz.prog 105 #[.int .i64 op] w fun e w'=>e=.returned (.agg (Dj op))/\Below w.heap.size w w':=by
 by_cases h:op<0\/29<op
 . rw[Md h]
   exact Nq op w h
 . obtain⟨k,rfl⟩:=aq (show 0<=op by omega)
   rw[ND k (by omega)];exact Oe k (by omega) w
theorem Ja{w:World}{a:Option Addr}{len cap:Nat}{zs:List Int}
 (h:(a=none/\len=0/\cap=0/\zs=[])\/∃x,a=some x/\len<=cap/\cap<=maxLen/\zs.length=cap/\(∀i,i<zs.length->w.cell? (x.add i)=some (.int .u8 (zs.getD i 0)))/\∀n∈zs,(Lit.int .u8 n).wf=true):
 EO w w.heap.size a len:=by
 rcases h with⟨_,h,_⟩|⟨x,rfl,h1,h2,h3,h4,h5⟩
 . exact .inl h
 . by_cases h0:len=0
   . exact .inl h0
   . obtain⟨b,off,spot⟩:=x
     have hspot:spot=none:=by simpa[Addr.add]using World.cell?_spot (h4 0 (by omega))
     subst hspot;have hadd:∀i,(⟨b,off,none⟩:Addr).add i=⟨b,off+i,none⟩:=fun i=>by unfold Addr.add;split<;>simp_all
     refine .inr ⟨b,off,rfl,?_,fun i hi=> ?_⟩
     . have:=h4 0 (by omega)
       rw[hadd]at this;exact aF this
     . have hc:=h4 i (by omega)
       rw[hadd]at hc;refine⟨_,?_,?_,hc⟩
       all_goals
        have hw:=h5 (zs.getD i 0) (by
         rw[bQ,aA (show i<zs.length by omega)];exact bq _)
        have hb:0<=zs.getD i 0/\zs.getD i 0<=255:=by simpa[Lit.wf,IntKind.min,IntKind.max,IntKind.signed,IntKind.bits]using hw
        omega
def AN(x:MF×VF):List Value:=[x.2.p,iZ x.1.result,x.2.l,x.2.c]
theorem Ao(x:MF×VF):(AN x).length=4:=rfl
def BL(x:List Int×Value):List Value:=[x.2]
theorem BT(x:List Int×Value):(BL x).length=1:=rfl
def LT(w:World)(s:Value)(fs:List MF):Prop:=∃xs:List (MF×VF),xs.map Prod.fst=fs/\Rd w 4 s fs.length (xs.flatMap AN)/\∀x∈xs,Hq w x.2 x.1
def Oc(w:World)(base:Nat)(s:Value)(fs:List MF):Prop:=∃xs:List (MF×VF),xs.map Prod.fst=fs/\w.ownsRow base 68 4 s fs.length (xs.flatMap AN)/\∀x∈xs,Qs w base x.2 x.1
def Np(w:World)(s:Value)(rs:List (List Int)):Prop:=∃xs:List (List Int×Value),xs.map Prod.fst=rs/\Rd w 1 s rs.length (xs.flatMap BL)/\∀x∈xs,Rd w 1 x.2 x.1.length (x.1.flatMap Ab)
def Qt(w:World)(base:Nat)(s:Value)(rs:List (List Int)):Prop:=∃xs:List (List Int×Value),xs.map Prod.fst=rs/\w.ownsRow base 26 1 s rs.length (xs.flatMap BL)/\∀x∈xs,w.ownsRow base 2 1 x.2 x.1.length (x.1.flatMap Ab)
theorem Oc.rd{w:World}{base:Nat}{s:Value}{fs:List MF}(h:Oc w base s fs):LT w s fs:=by
 obtain⟨xs,h1,h2,h3⟩:=h;exact⟨xs,h1,Rd.of_own h2,fun x hx=>(h3 x hx).rd⟩
theorem Qt.rd{w:World}{base:Nat}{s:Value}{rs:List (List Int)}(h:Qt w base s rs):Np w s rs:=by
 obtain⟨xs,h1,h2,h3⟩:=h;exact⟨xs,h1,Rd.of_own h2,fun x hx=>Rd.of_own (h3 x hx)⟩
theorem LT.keep{w w':World}{s:Value}{fs:List MF}(h:LT w s fs){B:Nat}(hb:Below B w w')(hB:w.heap.size<=B):LT w' s fs:=by
 obtain⟨xs,h1,h2,h3⟩:=h;exact⟨xs,h1,h2.keep hb hB,fun x hx=>(h3 x hx).keep hb hB⟩
theorem Np.keep{w w':World}{s:Value}{rs:List (List Int)}(h:Np w s rs){B:Nat}(hb:Below B w w')(hB:w.heap.size<=B):Np w' s rs:=by
 obtain⟨xs,h1,h2,h3⟩:=h;exact⟨xs,h1,h2.keep hb hB,fun x hx=>(h3 x hx).keep hb hB⟩
theorem Qi:(Tryz.prog.info? 68).map (fun i=>(i.zero,i.size,i.bytes))=some (some (.agg #[sN,iZ 0,sN,sN]),4,80):=by kernel_rfl
theorem Rm:(Tryz.prog.info? 26).map (fun i=>(i.zero,i.size,i.bytes))=some (some sN,1,24):=by kernel_rfl
theorem D1{α β:Type}{xs:List (α×β)}{fs:List α}(h:xs.map Prod.fst=fs){k:Nat}{x:α×β}(hx:xs[k]?=some x):fs[k]?=some x.1:=by
 rw[<-h,a7,hx];rfl
structure MP where
 regions:List (List Int)
 consts:List MC
 funcs:List MF
 certs:List MT
structure VP where
 r:Value
 k:Value
 f:Value
 t:Value
structure Fr(w:World)(v:VP)(p:MP):Prop where
 regions:Np w v.r p.regions
 consts:Rd w 2 v.k p.consts.length (p.consts.flatMap MC.cells)
 funcs:LT w v.f p.funcs
 certs:Rd w 4 v.t p.certs.length (p.certs.flatMap MT.cells)
structure Od(w:World)(base:Nat)(v:VP)(p:MP):Prop where
 regions:Qt w base v.r p.regions
 consts:w.ownsRow base 102 2 v.k p.consts.length (p.consts.flatMap MC.cells)
 funcs:Oc w base v.f p.funcs
 certs:w.ownsRow base 118 4 v.t p.certs.length (p.certs.flatMap MT.cells)
structure MP.small(p:MP):Prop where
 regions:p.regions.length<=1048576
 region:∀r∈p.regions,r.length<=1048576
 consts:p.consts.length<=1048576
 funcs:p.funcs.length<=1048576
 func:∀f∈p.funcs,f.small
 certs:p.certs.length<=1048576
theorem Od.rd{w:World}{base:Nat}{v:VP}{p:MP}(h:Od w base v p):Fr w v p:=⟨h.regions.rd,Rd.of_own h.consts,h.funcs.rd,Rd.of_own h.certs⟩
theorem Fr.keep{w w':World}{v:VP}{p:MP}(h:Fr w v p){B:Nat}(hb:Below B w w')(hB:w.heap.size<=B):Fr w' v p:=⟨h.regions.keep hb hB,h.consts.keep hb hB,h.funcs.keep hb hB,h.certs.keep hb hB⟩
theorem Am(B:Nat)(w:World)(nq:Nat):Below B w (w.drewN nq):=⟨rfl,rfl,rfl,Nat.le_refl _,fun _ _=>rfl⟩
theorem Eu{w u:World}(h:Below w.drew.heap.size w.drew u){B:Nat}(hB:B<=w.heap.size):Below B w u:=⟨h.os,h.tape,h.output,h.size,fun k hk=>h.block k (bx hk hB)⟩
theorem Fr.sl{w:World}{v:VP}{p:MP}(h:Fr w v p):∃r1 r3 k1 k3 t1 t3 f1 f3,v=⟨.slice r1 p.regions.length r3,.slice k1 p.consts.length k3,.slice f1 p.funcs.length f3,.slice t1 p.certs.length t3⟩:=by
 obtain⟨r1,r3,er⟩:=(show∃a c,v.r=.slice a p.regions.length c from by obtain⟨_,_,h2,_⟩:=h.regions;exact h2.is_slice);obtain⟨k1,k3,ek⟩:=h.consts.is_slice;obtain⟨t1,t3,et⟩:=h.certs.is_slice;obtain⟨f1,f3,ef⟩:=(show∃a c,v.f=.slice a p.funcs.length c from by obtain⟨_,_,h2,_⟩:=h.funcs;exact h2.is_slice);obtain⟨vr,vk,vf,vt⟩:=v;simp only[]at er ek et ef;subst er ek et ef;exact⟨r1,r3,k1,k3,t1,t3,f1,f3,rfl⟩
theorem FM{w:World}{g:VF}{f:MF}(h:Hq w g f):∃g1 g3 g4 g6 g7 g9,g=⟨.slice g1 f.params.length g3,.slice g4 f.locals.length g6,.slice g7 f.code.length g9⟩:=by
 obtain⟨g1,g3,e1⟩:=h.1.is_slice;obtain⟨g4,g6,e2⟩:=h.2.1.is_slice;obtain⟨g7,g9,e3⟩:=h.2.2.is_slice;obtain⟨gp,gl,gc⟩:=g;simp only[]at e1 e2 e3;subst e1 e2 e3;exact⟨g1,g3,g4,g6,g7,g9,rfl⟩
structure Rv(w u:World)(tp:TypeId)(p:List Value):Prop where
 par:u.ownsRow w.heap.size tp 4 (.slice (some ⟨w.heap.size,0,none⟩) 1 1) 1 p
 bel:Below w.heap.size w u
theorem Rv.of(w:World)(tp:TypeId)(p:Array Value)(hp:p.size=4):Rv w (w.alloc (.cells p tp)) tp p.toList:=
 ⟨ce (base:=w.heap.size) (e:=tp) (size:=4) w p 1 lR (by unfold maxLen;omega) (by omega),(bY _ _).alloc lR _⟩
end Go.Proofs.YtjpobijiblcgaaaGreat
